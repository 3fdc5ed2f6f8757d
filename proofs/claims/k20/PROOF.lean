import PyProof.Rows.All
import Wide.All
import OpenK.AllK
import Wide.FinOn
import HandS.ForMost
import HandS.ForExc
import HandS.CallSlots
import HandS.Flow
import HandS.TupMul
import HandS.Wide
import HandS.Style
import HandS.Deep
import HandS.TupAny
import HandS.TupLe
import HandS.IsInst
import PyProof.ReprReads
import HandS.Zip
import HandS.ExcBuiltin
import KE.GoesMore
import KE.GoesEnum
import HandS.Ends
import HandS.RaiseMore
import HandS.WideMore
import HandS.WideBits
import HandS.SortInts
import PyProof.Rows.InDataRows
import PyProof.ReprRoads
import PyProof.Rows.NestShow
import KE.KRevSl
import HandS.List
import PySem.Challenge.RW_onesilent_k20_whole_chain_link_by_link
import PyProof.Rows.StrIntSpec
import HandS.EndTab
set_option Elab.async false
set_option linter.all false
set_option maxRecDepth 100000
set_option maxHeartbeats 4000000
/-! Am1: values as trees, a heap as a list, what a def does as a function of these; how that is held against the layer's readings. -/
namespace Am
open PySem PySem.Spec PyProof.Rows L2

/-- a value: tuples are trees, other objects places -/
inductive AV where
  | non | bl (b : Bool) | int (i : Int) | str (x : Str) | ty (n : String) | st (a : Addr) | tup (ts : List AV) | cst (ts : List AV) | loc (n : Nat)
  deriving Inhabited
/-- an object -/
inductive AO where
  | lst (xs : List AV)
  | dct (kvs : List (AV × AV))
  | ins (C : Addr) (fs : List (Str × AV))
  | gone
abbrev Hx := List AO
abbrev Ev := List (Option AV)

def keyA : Key → AV
  | .inl i => .int i
  | .inr x => .str x
def keyT (l : List Key) : AV := .tup (l.map keyA)
def wipeE (env : Ev) : List Nat → Ev
  | [] => env
  | v :: vs => (wipeE env vs).set v none
section
variable (K : PySem.W.Frag)
/-- a list that stands as it is (the script, a module's list) -/
def FxL (H : Hp) (a : Addr) (xs : List V) : Prop := (∃ o, H a = some (.frz o (.lst xs))) ∨
  ∃ (o : Obj) (its : Array Value) (n : Nat), K.lookup a = some o ∧ o.cls = .type "list" ∧ o.dict = none ∧ o.data = .seq its n ∧ its.size ≤ sizeLine ∧ Vals xs its.toList
mutual
inductive RV (as : List Addr) (H : Hp) : AV → V → Prop
  | non : RV as H .non .non
  | bl (b : Bool) : RV as H (.bl b) (.bl b)
  | int (i : Int) : RV as H (.int i) (.int i)
  | str (x : Str) : RV as H (.str x) (.str x)
  | ty (n : String) : RV as H (.ty n) (.ty n)
  | st (a : Addr) : RV as H (.st a) (.ref a)
  | tup {a : Addr} {ts : List AV} {xs : List V} : SqT K H a xs → RVs as H ts xs → RV as H (.tup ts) (.ref a)
  | cst {a : Addr} {ts : List AV} {xs : List V} : FxL K H a xs → RVs as H ts xs → RV as H (.cst ts) (.ref a)
  | loc {n : Nat} {a : Addr} : as[n]? = some a → RV as H (.loc n) (.ref a)
inductive RVs (as : List Addr) (H : Hp) : List AV → List V → Prop
  | nil : RVs as H [] []
  | cons {x : AV} {v : V} {xs : List AV} {vs : List V} : RV as H x v → RVs as H xs vs → RVs as H (x :: xs) (v :: vs)
end
inductive RFs (as : List Addr) (H : Hp) : List (Str × AV) → List (Str × V) → Prop
  | nil : RFs as H [] []
  | cons {f : Str} {x : AV} {v : V} {xs : List (Str × AV)} {vs : List (Str × V)} : RV K as H x v → RFs as H xs vs → RFs as H ((f, x) :: xs) ((f, v) :: vs)
/-- a dict's pairs -/
inductive RK {κ : Type} (f : κ → AV) (as : List Addr) (H : Hp) : List (AV × AV) → List (κ × V) → Prop
  | nil : RK f as H [] []
  | cons {k : κ} {x : AV} {v : V} {xs : List (AV × AV)} {vs : List (κ × V)} : RV K as H x v → RK f as H xs vs → RK f as H ((f k, x) :: xs) ((k, v) :: vs)
/-- an object stands at a -/
def RO (as : List Addr) (H : Hp) (a : Addr) : AO → Prop
  | .lst xs => ∃ vs, H a = some (.lst vs) ∧ RVs K as H xs vs
  | .dct kvs => (∃ ks, H a = some (.dK ks) ∧ RK K keyA as H kvs ks) ∨ ∃ ks, H a = some (.dT ks) ∧ RK K keyT as H kvs ks
  | .ins C fs => ∃ dx vs, H a = some (.ins C dx vs) ∧ RFs K as H fs vs
  | .gone => ∃ o, H a = some o
structure RA (as : List Addr) (H : Hp) (A : Hx) : Prop where
  len : as.length = A.length
  nd : as.Nodup
  ob : ∀ (n : Nat) (a : Addr) (o : AO), as[n]? = some a → A[n]? = some o → RO K as H a o
structure RE (as : List Addr) (H : Hp) (env : Ev) (σ : L2.St) : Prop where
  len : env.length = σ.length
  at_ : ∀ (i : Nat) (x : AV), env[i]? = some (some x) → ∃ v, σ[i]? = some (some v) ∧ RV K as H x v
/-- the tuples stay -/
def Kp (H H' : Hp) : Prop := (∀ a xs, SqT K H a xs → SqT K H' a xs) ∧ ∀ a xs, FxL K H a xs → FxL K H' a xs
end

section
variable {K : PySem.W.Frag} {as as' : List Addr} {H H' H'' : Hp}
theorem FxL.sq {a : Addr} {xs : List V} (h : FxL K H a xs) : SqL K H a xs := h.elim (fun q => .inl (.inr q)) .inr
theorem Kp.refl : Kp K H H := ⟨fun _ _ h => h, fun _ _ h => h⟩
theorem Kp.trans (a : Kp K H H') (b : Kp K H' H'') : Kp K H H'' := ⟨fun c xs h => b.1 c xs (a.1 c xs h), fun c xs h => b.2 c xs (a.2 c xs h)⟩
/-- later: more places, the tuples stay -/
structure Ex (K : PySem.W.Frag) (as : List Addr) (H : Hp) (as' : List Addr) (H' : Hp) : Prop where
  pre : ∃ l, as' = as ++ l
  kp : Kp K H H'
theorem Ex.refl : Ex K as H as H := ⟨⟨[], by simp⟩, Kp.refl⟩
theorem Ex.trans {as'' : List Addr} (a : Ex K as H as' H') (b : Ex K as' H' as'' H'') : Ex K as H as'' H'' := by
  obtain ⟨⟨l, rfl⟩, k⟩ := a
  obtain ⟨⟨m, rfl⟩, j⟩ := b
  exact ⟨⟨l ++ m, by simp⟩, k.trans j⟩
theorem Ex.get (a : Ex K as H as' H') {n : Nat} {p : Addr} (h : as[n]? = some p) : as'[n]? = some p := by
  obtain ⟨⟨l, rfl⟩, _⟩ := a
  have hn := (List.getElem?_eq_some_iff.mp h).1
  rw [List.getElem?_append_left hn]
  exact h
mutual
theorem RV.ex (e : Ex K as H as' H') : ∀ {x : AV} {v : V}, RV K as H x v → RV K as' H' x v
  | _, _, .non => .non
  | _, _, .bl b => .bl b
  | _, _, .int i => .int i
  | _, _, .str x => .str x
  | _, _, .ty n => .ty n
  | _, _, .st a => .st a
  | _, _, .tup h r => .tup (e.kp.1 _ _ h) (RVs.ex e r)
  | _, _, .cst h r => .cst (e.kp.2 _ _ h) (RVs.ex e r)
  | _, _, .loc h => .loc (e.get h)
theorem RVs.ex (e : Ex K as H as' H') : ∀ {xs : List AV} {vs : List V}, RVs K as H xs vs → RVs K as' H' xs vs
  | _, _, .nil => .nil
  | _, _, .cons h r => .cons (RV.ex e h) (RVs.ex e r)
end
theorem RFs.ex (e : Ex K as H as' H') : ∀ {xs : List (Str × AV)} {vs : List (Str × V)}, RFs K as H xs vs → RFs K as' H' xs vs
  | _, _, .nil => .nil
  | _, _, .cons h r => .cons (h.ex e) (RFs.ex e r)
theorem RK.ex {κ : Type} {f : κ → AV} (e : Ex K as H as' H') : ∀ {xs : List (AV × AV)} {vs : List (κ × V)}, RK K f as H xs vs → RK K f as' H' xs vs
  | _, _, .nil => .nil
  | _, _, .cons h r => .cons (h.ex e) (RK.ex e r)
theorem RE.ex {env : Ev} {σ : L2.St} (e : Ex K as H as' H') (r : RE K as H env σ) : RE K as' H' env σ :=
  ⟨r.len, fun i x h => let ⟨v, a, b⟩ := r.at_ i x h; ⟨v, a, b.ex e⟩⟩
theorem RE.set {env : Ev} {σ : L2.St} (r : RE K as H env σ) (i : Nat) {x : AV} {v : V} (h : RV K as H x v) : RE K as H (env.set i (some x)) (σ.set i (some v)) := by
  refine ⟨by simp [r.len], fun j y e => ?_⟩
  by_cases hj : i = j
  · subst hj
    rw [List.getElem?_set] at e
    simp only [if_true] at e
    split at e
    · rename_i hl
      cases e
      exact ⟨v, by rw [List.getElem?_set]; simp [← r.len, hl], h⟩
    · cases e
  · rw [List.getElem?_set_ne hj] at e ⊢
    exact r.at_ j y e
theorem RE.drop1 {env : Ev} {σ : L2.St} (r : RE K as H env σ) (i : Nat) : RE K as H (env.set i none) (σ.set i none) := by
  refine ⟨by simp [r.len], fun j y e => ?_⟩
  by_cases hj : i = j
  · subst hj
    rw [List.getElem?_set] at e
    simp only [if_true] at e
    split at e
    · cases e
    · cases e
  · rw [List.getElem?_set_ne hj] at e ⊢
    exact r.at_ j y e
theorem RE.wipe {env : Ev} {σ : L2.St} (r : RE K as H env σ) : ∀ vs : List Nat, RE K as H (wipeE env vs) (L2.wipe σ vs)
  | [] => r
  | v :: vs => (RE.wipe r vs).drop1 v
theorem RVs.length : ∀ {xs : List AV} {vs : List V}, RVs K as H xs vs → xs.length = vs.length
  | _, _, .nil => rfl
  | _, _, .cons _ r => congrArg (· + 1) (RVs.length r)
theorem RVs.isEmpty : ∀ {xs : List AV} {vs : List V}, RVs K as H xs vs → (!xs.isEmpty) = !vs.isEmpty
  | _, _, .nil => rfl
  | _, _, .cons _ r => rfl
theorem RVs.get : ∀ {xs : List AV} {vs : List V} {i : Nat} {x : AV}, RVs K as H xs vs → xs[i]? = some x → ∃ v, vs[i]? = some v ∧ RV K as H x v
  | _, _, i, x, .nil, e => by simp at e
  | _, _, 0, x, .cons h _, e => by
    simp at e
    subst e
    exact ⟨_, rfl, h⟩
  | _, _, i + 1, x, .cons _ r, e => RVs.get (i := i) r (by simpa using e)
theorem RVs.getV : ∀ {xs : List AV} {vs : List V} {i : Nat} {v : V}, RVs K as H xs vs → vs[i]? = some v → ∃ x, xs[i]? = some x ∧ RV K as H x v
  | _, _, i, x, .nil, e => by simp at e
  | _, _, 0, x, .cons h _, e => by
    simp at e
    subst e
    exact ⟨_, rfl, h⟩
  | _, _, i + 1, x, .cons _ r, e => RVs.getV (i := i) r (by simpa using e)
theorem RVs.app : ∀ {xs ys : List AV} {vs ws : List V}, RVs K as H xs vs → RVs K as H ys ws → RVs K as H (xs ++ ys) (vs ++ ws)
  | _, _, _, _, .nil, s => s
  | _, _, _, _, .cons h r, s => .cons h (RVs.app r s)
theorem RVs.take : ∀ {xs : List AV} {vs : List V} (n : Nat), RVs K as H xs vs → RVs K as H (xs.take n) (vs.take n)
  | _, _, 0, _ => by simpa using .nil
  | _, _, _ + 1, .nil => .nil
  | _, _, n + 1, .cons h r => .cons h (RVs.take n r)
theorem RVs.drop : ∀ {xs : List AV} {vs : List V} (n : Nat), RVs K as H xs vs → RVs K as H (xs.drop n) (vs.drop n)
  | _, _, 0, r => r
  | _, _, _ + 1, .nil => .nil
  | _, _, n + 1, .cons _ r => RVs.drop n r
theorem RVs.rev : ∀ {xs : List AV} {vs : List V}, RVs K as H xs vs → RVs K as H xs.reverse vs.reverse
  | _, _, .nil => .nil
  | _, _, .cons h r => by
    rw [List.reverse_cons, List.reverse_cons]
    exact (RVs.rev r).app (.cons h .nil)
theorem RVs.set : ∀ {xs : List AV} {vs : List V} (i : Nat) {x : AV} {v : V}, RVs K as H xs vs → RV K as H x v → RVs K as H (xs.set i x) (vs.set i v)
  | _, _, _, _, _, .nil, _ => .nil
  | _, _, 0, _, _, .cons _ r, h => .cons h r
  | _, _, i + 1, _, _, .cons h r, q => .cons h (RVs.set i r q)
end

/-! ### the heap grows, changes -/
section
variable {K : PySem.W.Frag} {as : List Addr} {H : Hp} {A : Hx} {p : Addr} {o : HO}
theorem kp_new (h : H p = none) : Kp K H (upd H p o) := by
  refine ⟨fun a xs q => ?_, fun a xs q => ?_⟩
  · rcases q with (q | ⟨u, q⟩) | q
    · exact .inl (.inl (by rw [upd_ne (ne_of_none q h)]; exact q))
    · exact .inl (.inr ⟨u, by rw [upd_ne (ne_of_none q h)]; exact q⟩)
    · exact .inr q
  · rcases q with ⟨u, q⟩ | q
    · exact .inl ⟨u, by rw [upd_ne (ne_of_none q h)]; exact q⟩
    · exact .inr q
/-- what stays -/
def isT : HO → Bool
  | .tup _ => true
  | .frz _ _ => true
  | _ => false
theorem kp_mut {u : HO} (h : H p = some u) (n : isT u = false) : Kp K H (upd H p o) := by
  refine ⟨fun a xs q => ?_, fun a xs q => ?_⟩
  · rcases q with (q | ⟨v, q⟩) | q
    · exact .inl (.inl (by rw [upd_ne (ne_of q h (fun z => by subst z; cases n))]; exact q))
    · exact .inl (.inr ⟨v, by rw [upd_ne (ne_of q h (fun z => by subst z; cases n))]; exact q⟩)
    · exact .inr q
  · rcases q with ⟨v, q⟩ | q
    · exact .inl ⟨v, by rw [upd_ne (ne_of q h (fun z => by subst z; cases n))]; exact q⟩
    · exact .inr q
theorem RO.some {a : Addr} : ∀ {u : AO}, RO K as H a u → ∃ o, H a = some o
  | .lst _, ⟨vs, h, _⟩ => ⟨_, h⟩
  | .dct _, .inl ⟨_, h, _⟩ => ⟨_, h⟩
  | .dct _, .inr ⟨_, h, _⟩ => ⟨_, h⟩
  | .ins _ _, ⟨_, _, h, _⟩ => ⟨_, h⟩
  | .gone, h => h
theorem RO.stay {as' : List Addr} {H' : Hp} {a : Addr} (e : Ex K as H as' H') (k : H' a = H a) : ∀ {u : AO}, RO K as H a u → RO K as' H' a u
  | .lst _, ⟨vs, h, r⟩ => ⟨vs, k.trans h, r.ex e⟩
  | .dct _, .inl ⟨ks, h, r⟩ => .inl ⟨ks, k.trans h, r.ex e⟩
  | .dct _, .inr ⟨ks, h, r⟩ => .inr ⟨ks, k.trans h, r.ex e⟩
  | .ins _ _, ⟨dx, vs, h, r⟩ => ⟨dx, vs, k.trans h, r.ex e⟩
  | .gone, ⟨o, h⟩ => ⟨o, k.trans h⟩
theorem RA.tracked (r : RA K as H A) {n : Nat} {a : Addr} (h : as[n]? = some a) : ∃ o, H a = some o := by
  have hn : n < A.length := by rw [← r.len]; exact (List.getElem?_eq_some_iff.mp h).1
  exact (r.ob n a A[n] h (by simp [hn])).some
theorem RA.mem (r : RA K as H A) {a : Addr} (h : a ∈ as) : ∃ o, H a = some o := by
  obtain ⟨n, hn⟩ := List.getElem?_of_mem h
  exact r.tracked hn
theorem RA.off (r : RA K as H A) (h : H p = none) : p ∉ as := fun m => by
  obtain ⟨o, e⟩ := r.mem m
  rw [h] at e
  cases e
/-- something new that is no place -/
theorem RA.new (r : RA K as H A) (h : H p = none) : RA K as (upd H p o) A :=
  ⟨r.len, r.nd, fun n a u e1 e2 => (r.ob n a u e1 e2).stay ⟨⟨[], by simp⟩, kp_new h⟩ (upd_ne fun z => by
    obtain ⟨v, q⟩ := r.tracked e1
    rw [z, h] at q
    cases q)⟩
theorem ex_new (h : H p = none) : Ex K as H as (upd H p o) := ⟨⟨[], by simp⟩, kp_new h⟩
theorem ex_push (h : H p = none) : Ex K as H (as ++ [p]) (upd H p o) := ⟨⟨[p], rfl⟩, kp_new h⟩
/-- a new place -/
theorem RA.push (r : RA K as H A) (h : H p = none) {u : AO} (q : RO K (as ++ [p]) (upd H p o) p u) : RA K (as ++ [p]) (upd H p o) (A ++ [u]) := by
  refine ⟨by simp [r.len], ?_, fun n a v e1 e2 => ?_⟩
  · rw [List.nodup_append]
    exact ⟨r.nd, by simp, fun x hx y hy z => by
      have : y = p := by simpa using hy
      subst this
      subst z
      exact r.off h hx⟩
  · by_cases hn : n < as.length
    · rw [List.getElem?_append_left hn] at e1
      rw [List.getElem?_append_left (by rw [← r.len]; exact hn)] at e2
      exact (r.ob n a v e1 e2).stay (ex_push h) (upd_ne fun z => by
        obtain ⟨v, q⟩ := r.tracked e1
        rw [z, h] at q
        cases q)
    · have h1 : n < (as ++ [p]).length := (List.getElem?_eq_some_iff.mp e1).1
      have h2 : n = as.length := by simp at h1; omega
      subst h2
      rw [List.getElem?_append_right (Nat.le_refl _)] at e1
      rw [r.len, List.getElem?_append_right (Nat.le_refl _)] at e2
      simp at e1 e2
      subst e1 e2
      exact q
/-- a place changes -/
theorem RA.set (r : RA K as H A) {n : Nat} (hp : as[n]? = some p) {v : HO} (h : H p = some v) (ht : isT v = false) {u : AO} (q : RO K as (upd H p o) p u) : RA K as (upd H p o) (A.set n u) := by
  refine ⟨by simp [r.len], r.nd, fun m a w e1 e2 => ?_⟩
  by_cases hm : m = n
  · subst hm
    rw [hp] at e1
    cases e1
    have hl : m < A.length := by rw [← r.len]; exact (List.getElem?_eq_some_iff.mp hp).1
    rw [List.getElem?_set_self hl] at e2
    cases e2
    exact q
  · rw [List.getElem?_set_ne (Ne.symm hm)] at e2
    refine (r.ob m a w e1 e2).stay ⟨⟨[], by simp⟩, kp_mut h ht⟩ (upd_ne fun z => hm ?_)
    subst z
    obtain ⟨l1, g1⟩ := List.getElem?_eq_some_iff.mp e1
    obtain ⟨l2, g2⟩ := List.getElem?_eq_some_iff.mp hp
    exact (List.getElem_inj r.nd).mp (g1.trans g2.symm)
theorem ex_mut {v : HO} (h : H p = some v) (ht : isT v = false) : Ex K as H as (upd H p o) := ⟨⟨[], by simp⟩, kp_mut h ht⟩
end
end Am

set_option Elab.async false
set_option linter.all false
set_option maxRecDepth 100000
set_option maxHeartbeats 4000000
/-! Am2: outcomes; the readings that they give; expressions. -/
namespace Am
open PySem PySem.Spec PyProof.Rows L2
/-- an exception: its class, its fields -/
structure AX where
  cls : Value
  fs : List (Str × AV)
inductive R (α : Type) where
  | ok (x : α) (A : Hx) | ex (e : AX) (A : Hx) | bad
def R.bind {α β : Type} (r : R α) (k : α → Hx → R β) : R β := match r with
  | .ok x A => k x A
  | .ex e A => .ex e A
  | .bad => .bad
@[simp] theorem R.bind_ok {α β : Type} {x : α} {A : Hx} {k : α → Hx → R β} : (R.ok x A).bind k = k x A := rfl
@[simp] theorem R.bind_ex {α β : Type} {e : AX} {A : Hx} {k : α → Hx → R β} : (R.ex e A).bind k = .ex e A := rfl
@[simp] theorem R.bind_bad {α β : Type} {k : α → Hx → R β} : (R.bad).bind k = .bad := rfl

section
variable (K : PySem.W.Frag)
def RX (as : List Addr) (H : Hp) (e : AX) (d : Option Addr) : Prop := match e.fs with
  | [] => d = none
  | fs => ∃ dx vs, d = some dx ∧ H dx = some (.xd vs) ∧ RFs K as H fs vs
/-- what is wanted holds of the outcome -/
def G {α β : Type} (W : WX) (as : List Addr) (H : Hp) (σ : L2.St) (Rel : List Addr → Hp → α → β → Prop) (r : R α) (Q : β → Hp → Prop) : Prop := match r with
  | .ok x A => ∀ as' H' v, Ex K as H as' H' → RA K as' H' A → Rel as' H' x v → Q v H'
  | .ex e A => ∀ as' H' d, Ex K as H as' H' → RA K as' H' A → RX K as' H' e d → W e.cls d σ H'
  | .bad => False
/-- a function's reading -/
def rd {α β : Type} (W : WX) (Rel : List Addr → Hp → α → β → Prop) (m : Ev → Hx → R α) : L2.St → Hp → (β → Hp → Prop) → Prop := fun σ H Q =>
  ∃ as env A, RA K as H A ∧ RE K as H env σ ∧ G K W as H σ Rel (m env A) Q
def rB : List Addr → Hp → Bool → Bool → Prop := fun _ _ a b => a = b
end
section
variable {K : PySem.W.Frag} {W : WX} {as as1 : List Addr} {H H1 : Hp} {σ : L2.St} {α β γ δ : Type} {Rel : List Addr → Hp → α → β → Prop} {Rel2 : List Addr → Hp → γ → δ → Prop}
theorem G.ex {r : R α} {Q : β → Hp → Prop} (e : Ex K as H as1 H1) (g : G K W as H σ Rel r Q) : G K W as1 H1 σ Rel r Q := by
  cases r with
  | ok x A => exact fun as' H' v e' => g as' H' v (e.trans e')
  | ex x A => exact fun as' H' v e' => g as' H' v (e.trans e')
  | bad => exact g
theorem G.bind {r : R α} {k : α → Hx → R γ} {Q : δ → Hp → Prop} {Q' : β → Hp → Prop} (g : G K W as H σ Rel2 (r.bind k) Q)
    (h : ∀ x A as1 H1 v, r = .ok x A → Ex K as H as1 H1 → RA K as1 H1 A → Rel as1 H1 x v → G K W as1 H1 σ Rel2 (k x A) Q → Q' v H1) : G K W as H σ Rel r Q' := by
  cases r with
  | ok x A => exact fun as' H' v e ra rv => h x A as' H' v rfl e ra rv (G.ex e g)
  | ex x A => exact g
  | bad => exact g
theorem G.imp {r : R α} {Q Q' : β → Hp → Prop} (g : G K W as H σ Rel r Q) (h : ∀ v H', Q v H' → Q' v H') : G K W as H σ Rel r Q' := by
  cases r with
  | ok x A => exact fun as' H' v e ra rv => h _ _ (g as' H' v e ra rv)
  | ex x A => exact g
  | bad => exact g
end

/-! ### the judgements -/
section
variable {X : Cx}
theorem pe_mono {e : Expr} {t t' : TE} (h : PE X e t) (w : ∀ σ H Q, t' σ H Q → t σ H Q) : PE X e t' := ⟨fun pins s σ H Q I q => h.run pins s σ H Q I (w σ H Q q)⟩
theorem pt_mono {e : Expr} {t t' : TT} (h : PT X e t) (w : ∀ σ H Q, t' σ H Q → t σ H Q) : PT X e t' := ⟨fun pins s σ H Q I q => h.run pins s σ H Q I (w σ H Q q)⟩
theorem pw_mono {e : Expr} {t t' : TT} (h : PW X e t) (w : ∀ σ H Q, t' σ H Q → t σ H Q) : PW X e t' := ⟨fun wh pins s σ H Q I q => h.run wh pins s σ H Q I (w σ H Q q)⟩
theorem pa_mono {e : List Expr} {t t' : TA} (h : PA X e t) (w : ∀ σ H Q, t' σ H Q → t σ H Q) : PA X e t' := ⟨fun pos pins s σ H Q I q => h.run pos pins s σ H Q I (w σ H Q q)⟩
theorem po_mono {e : Option Expr} {t t' : TO} (h : PO X e t) (w : ∀ σ H Q, t' σ H Q → t σ H Q) : PO X e t' := ⟨fun pins s σ H Q I q => h.run pins s σ H Q I (w σ H Q q)⟩
end
abbrev ME := Ev → Hx → R AV
abbrev MT := Ev → Hx → R Bool
abbrev MA := Ev → Hx → R (List AV)
abbrev MO := Ev → Hx → R (Option Int)
abbrev JE (X : Cx) (W : WX) (e : Expr) (m : ME) : Prop := PE X e (rd X.K W (RV X.K) m)
abbrev JT (X : Cx) (W : WX) (e : Expr) (m : MT) : Prop := PT X e (rd X.K W rB m)
abbrev JW (X : Cx) (W : WX) (e : Expr) (m : MT) : Prop := PW X e (rd X.K W rB m)
abbrev JA (X : Cx) (W : WX) (e : List Expr) (m : MA) : Prop := PA X e (rd X.K W (RVs X.K) m)
def rI? : List Addr → Hp → Option Int → Option Int → Prop := fun _ _ a b => a = b
abbrev JO (X : Cx) (W : WX) (e : Option Expr) (m : MO) : Prop := PO X e (rd X.K W rI? m)

/-! ### values, operators, calls by values -/
/-- an operation's reading -/
def r1 (K : PySem.W.Frag) (m : AV → Hx → R AV) : V → Hp → VK → Prop := fun v H Q => ∃ W σ as A x, RA K as H A ∧ RV K as H x v ∧ G K W as H σ (RV K) (m x A) Q
def r2 (K : PySem.W.Frag) (m : AV → AV → Hx → R AV) : R2 := fun v u H Q => ∃ W σ as A x y, RA K as H A ∧ RV K as H x v ∧ RV K as H y u ∧ G K W as H σ (RV K) (m x y A) Q
def rs (K : PySem.W.Frag) (m : List AV → Hx → R AV) : List V → Hp → VK → Prop := fun vs H Q => ∃ W σ as A xs, RA K as H A ∧ RVs K as H xs vs ∧ G K W as H σ (RV K) (m xs A) Q
def rm (K : PySem.W.Frag) (m : AV → List AV → Hx → R AV) : V → List V → Hp → VK → Prop := fun v vs H Q => ∃ W σ as A x xs, RA K as H A ∧ RV K as H x v ∧ RVs K as H xs vs ∧ G K W as H σ (RV K) (m x xs A) Q
abbrev OpA (X : Cx) (f : Value → Value → Sem Value) (m : AV → AV → Hx → R AV) : Prop := OpR X f (r2 X.K m)
abbrev UnA (X : Cx) (f : Value → Sem Value) (m : AV → Hx → R AV) : Prop := UnR X f (r1 X.K m)
abbrev CallA (X : Cx) (f : Value) (m : List AV → Hx → R AV) : Prop := CallR X f (rs X.K m)
abbrev MtA (X : Cx) (id : String) (m : AV → List AV → Hx → R AV) : Prop := MtR X id (rm X.K m)
abbrev IxA (X : Cx) (m : AV → AV → Hx → R AV) : Prop := IxR X (r2 X.K m)
def rsl (K : PySem.W.Frag) (m : AV → Option Int → Option Int → Hx → R AV) : V → Option Int → Option Int → Hp → VK → Prop := fun v lo hi H Q => ∃ W σ as A x, RA K as H A ∧ RV K as H x v ∧ G K W as H σ (RV K) (m x lo hi A) Q
abbrev SlA (X : Cx) (m : AV → Option Int → Option Int → Hx → R AV) : Prop := SlR X (rsl X.K m)

/-! ### expressions -/
def mC (x : AV) : ME := fun _ A => .ok x A
def mVar (i : Nat) : ME := fun env A => match env[i]? with
  | some (some x) => .ok x A
  | _ => .bad
def mOp (f : AV → AV → Hx → R AV) (a b : ME) : ME := fun env A => (a env A).bind fun x A1 => (b env A1).bind fun y A2 => f x y A2
def mUn (f : AV → Hx → R AV) (a : ME) : ME := fun env A => (a env A).bind f
def mNil : MA := fun _ A => .ok [] A
def mCons (a : ME) (r : MA) : MA := fun env A => (a env A).bind fun x A1 => (r env A1).bind fun xs A2 => .ok (x :: xs) A2
def mTup (a : MA) : ME := fun env A => (a env A).bind fun xs A1 => if xs.length ≤ sizeLine then .ok (.tup xs) A1 else .bad
def mLst (a : MA) : ME := fun env A => (a env A).bind fun xs A1 => if xs.length ≤ sizeLine then .ok (.loc A1.length) (A1 ++ [.lst xs]) else .bad
def truth (x : AV) (A : Hx) : R Bool := match x with
  | .non => .ok false A
  | .bl b => .ok b A
  | .int i => .ok (i != 0) A
  | .str s => if s.length ≤ sizeLine then .ok ((s.length : Int) != 0) A else .bad
  | .tup ts => .ok (!ts.isEmpty) A
  | .cst ts => .ok (!ts.isEmpty) A
  | .loc n => (match A[n]? with
    | some (.lst xs) => .ok (!xs.isEmpty) A
    | _ => .bad)
  | _ => .bad
def mTru (a : ME) : MT := fun env A => (a env A).bind truth
def mNotV (a : ME) : ME := fun env A => (a env A).bind fun x A1 => (truth x A1).bind fun b A2 => .ok (.bl (!b)) A2
def mAndV (a b : ME) : ME := fun env A => (a env A).bind fun x A1 => (truth x A1).bind fun c A2 => if c = true then b env A2 else .ok x A2
def mOrV (a b : ME) : ME := fun env A => (a env A).bind fun x A1 => (truth x A1).bind fun c A2 => if c = true then .ok x A2 else b env A2
def mAnd (a b : MT) : MT := fun env A => (a env A).bind fun c A1 => if c = true then b env A1 else .ok false A1
def mOr (a b : MT) : MT := fun env A => (a env A).bind fun c A1 => if c = true then .ok true A1 else b env A1
def mNot (a : MT) : MT := fun env A => (a env A).bind fun c A1 => .ok (!c) A1
def mIfE (t : MT) (a b : ME) : ME := fun env A => (t env A).bind fun c A1 => if c = true then a env A1 else b env A1
def isB (x : AV) (A : Hx) : R Bool := match x with
  | .bl b => .ok b A
  | _ => .bad
/-- a comparison as a test -/
def mB (a : ME) : MT := fun env A => (a env A).bind isB
def mChain (f g : AV → AV → Hx → R AV) (a b c : ME) : ME := fun env A => (a env A).bind fun x A1 => (b env A1).bind fun y A2 => (f x y A2).bind fun z A3 => (isB z A3).bind fun k A4 =>
  if k = true then (c env A4).bind fun w A5 => g y w A5 else .ok (.bl false) A4
def mNoPart : MO := fun _ A => .ok none A
def mPart (a : ME) : MO := fun env A => (a env A).bind fun x A1 => match x with
  | .int i => .ok (some i) A1
  | _ => .bad
def mSl (f : AV → Option Int → Option Int → Hx → R AV) (a : ME) (lo hi : MO) : ME := fun env A => (a env A).bind fun x A1 => (lo env A1).bind fun l A2 => (hi env A2).bind fun u A3 => f x l u A3
def mCB (f : List AV → Hx → R AV) (a : MA) : ME := fun env A => (a env A).bind f
def mBM (T : String) (ty : AV → Hx → Bool) (f : AV → List AV → Hx → R AV) (o : ME) (a : MA) : ME := fun env A => (o env A).bind fun x A1 => if ty x A1 = true then (a env A1).bind fun xs A2 => f x xs A2 else .bad

section
variable {X : Cx} {W : WX} {a b c : Expr} {ma mb mc : ME} {ta tb : MT} {pos : Pos} {es : List Expr} {ms : MA}
theorem je_of {v : V} {x : AV} (h : PE X a (tC v)) (r : ∀ as H, RV X.K as H x v) : JE X W a (mC x) :=
  pe_mono h fun σ H Q ⟨as, env, A, ra, re, g⟩ => g as H v Ex.refl ra (r as H)
theorem je_var {i : Nat} (h : PE X a (tVar i)) : JE X W a (mVar i) := by
  refine pe_mono h fun σ H Q ⟨as, env, A, ra, re, g⟩ => ?_
  unfold mVar at g
  split at g
  · rename_i x e
    obtain ⟨v, h1, h2⟩ := re.at_ i x e
    exact ⟨v, h1, g as H v Ex.refl ra h2⟩
  · exact g.elim
theorem je_op {op : Operator} {f : AV → AV → Hx → R AV} (ho : OpA X (binaryOp op) f) (ha : JE X W a ma) (hb : JE X W b mb) : JE X W (.BinOp a op b pos) (mOp f ma mb) := by
  refine pe_mono (pe_op ho ha hb) fun σ H Q ⟨as, env, A, ra, re, g⟩ => ?_
  refine ⟨as, env, A, ra, re, G.bind g fun x A1 as1 H1 v _ e1 ra1 rx g1 => ?_⟩
  refine ⟨as1, env, A1, ra1, re.ex e1, G.bind g1 fun y A2 as2 H2 u _ e2 ra2 ry g2 => ?_⟩
  exact ⟨W, σ, as2, A2, x, y, ra2, rx.ex e2, ry, g2⟩
theorem je_un {op : UnaryOp} {f : AV → Hx → R AV} (ho : UnA X (unaryOp op) f) (ha : JE X W a ma) : JE X W (.UnaryOp op a pos) (mUn f ma) := by
  refine pe_mono (pe_un ho ha) fun σ H Q ⟨as, env, A, ra, re, g⟩ => ?_
  exact ⟨as, env, A, ra, re, G.bind g fun x A1 as1 H1 v _ e1 ra1 rx g1 => ⟨W, σ, as1, A1, x, ra1, rx, g1⟩⟩
theorem ja_nil : JA X W [] mNil := pa_mono pa_nil fun σ H Q ⟨as, env, A, ra, re, g⟩ => g as H [] Ex.refl ra .nil
theorem ja_cons (ha : JE X W a ma) (hr : JA X W es ms) (hs : starEach (a :: es) X.env = (false, eval a X.env) :: starEach es X.env := by rfl) : JA X W (a :: es) (mCons ma ms) := by
  refine pa_mono (pa_cons ha hr hs) fun σ H Q ⟨as, env, A, ra, re, g⟩ => ?_
  refine ⟨as, env, A, ra, re, G.bind g fun x A1 as1 H1 v _ e1 ra1 rx g1 => ?_⟩
  refine ⟨as1, env, A1, ra1, re.ex e1, G.bind g1 fun xs A2 as2 H2 vs _ e2 ra2 rxs g2 => ?_⟩
  exact g2 as2 H2 (v :: vs) Ex.refl ra2 (.cons (rx.ex e2) rxs)
theorem je_tup {x1} (h : JA X W es ms) : JE X W (.Tuple es x1 pos) (mTup ms) := by
  refine pe_mono (pe_tup h) fun σ H Q ⟨as, env, A, ra, re, g⟩ => ?_
  refine ⟨as, env, A, ra, re, G.bind g fun xs A1 as1 H1 vs _ e1 ra1 rxs g1 => ?_⟩
  split at g1
  · rename_i hl
    refine ⟨by rw [← rxs.length]; exact hl, fun p hp => g1 as1 _ (.ref p) (ex_new hp) (ra1.new hp) (.tup (.inl (.inl upd_same)) (rxs.ex (ex_new hp)))⟩
  · exact g1.elim
theorem je_lst (h : JA X W es ms) : JE X W (.List es pos) (mLst ms) := by
  refine pe_mono (pe_lst h) fun σ H Q ⟨as, env, A, ra, re, g⟩ => ?_
  refine ⟨as, env, A, ra, re, G.bind g fun xs A1 as1 H1 vs _ e1 ra1 rxs g1 => ?_⟩
  split at g1
  · rename_i hl
    refine ⟨by rw [← rxs.length]; exact hl, fun p hp => g1 (as1 ++ [p]) _ (.ref p) (ex_push hp) (ra1.push hp ⟨vs, upd_same, rxs.ex (ex_push hp)⟩) (.loc ?_)⟩
    rw [← ra1.len, List.getElem?_append_right (Nat.le_refl _)]
    simp
  · exact g1.elim
theorem truth_ok {as : List Addr} {H : Hp} {σ : L2.St} {A : Hx} {x : AV} {v : V} {Q : Bool → Hp → Prop} (ra : RA X.K as H A) (rx : RV X.K as H x v) (g : G X.K W as H σ rB (truth x A) Q) : ∃ k, TruV X.K v H k ∧ Q k H := by
  have fin : ∀ {b : Bool}, G X.K W as H σ rB (.ok b A) Q → Q b H := fun {b} g => g as H b Ex.refl ra rfl
  cases rx with
  | non => exact ⟨false, rfl, fin g⟩
  | bl b => exact ⟨b, rfl, fin g⟩
  | int i => exact ⟨_, rfl, fin g⟩
  | str s =>
    unfold truth at g
    dsimp only at g
    split at g
    · rename_i hl
      exact ⟨_, ⟨hl, rfl⟩, fin g⟩
    · exact g.elim
  | ty n => exact g.elim
  | st a => exact g.elim
  | tup h r => exact ⟨_, .inr (.inl ⟨_, h, rfl⟩), by rw [← r.isEmpty]; exact fin g⟩
  | cst h r => exact ⟨_, .inl ⟨_, h.sq, rfl⟩, by rw [← r.isEmpty]; exact fin g⟩
  | loc h =>
    unfold truth at g
    dsimp only at g
    split at g
    · rename_i e
      obtain ⟨vs, hv, rv⟩ := ra.ob _ _ _ h e
      exact ⟨_, .inl ⟨vs, .inl (.inl hv), rfl⟩, by rw [← rv.isEmpty]; exact fin g⟩
    · exact g.elim
/-- the wish of a truth is any wish -/
theorem jt_truth (ha : JE X W a ma) (he : ∀ whole, isTrue a X.env whole = (do let v ← whole; standAt a.pos; holding [v] (truthy v)) := by intro _; rfl) : JT X W a (mTru ma) := by
  refine pt_mono (pt_truth ha he) fun σ H Q ⟨as, env, A, ra, re, g⟩ => ?_
  exact ⟨as, env, A, ra, re, G.bind g fun x A1 as1 H1 v _ e1 ra1 rx g1 => truth_ok ra1 rx g1⟩
theorem je_notV (ha : JE X W a ma) : JE X W (.UnaryOp .Not a pos) (mNotV ma) := by
  refine pe_mono (pe_notT ha) fun σ H Q ⟨as, env, A, ra, re, g⟩ => ?_
  refine ⟨as, env, A, ra, re, G.bind g fun x A1 as1 H1 v _ e1 ra1 rx g1 => ?_⟩
  exact truth_ok (Q := fun k H' => Q (.bl (!k)) H') ra1 rx (G.bind g1 fun b A2 as2 H2 k _ e2 ra2 rb g2 => by cases rb; exact g2 as2 H2 _ Ex.refl ra2 (.bl _))
theorem je_one {op} (h : JE X W a ma) : JE X W (.BoolOp op [a] pos) ma := pe_one h
theorem je_andV {rest : List Expr} (ha : JE X W a ma) (hb : JE X W (.BoolOp .And (b :: rest) pos) mb) : JE X W (.BoolOp .And (a :: b :: rest) pos) (mAndV ma mb) := by
  refine pe_mono (pe_andT ha hb) fun σ H Q ⟨as, env, A, ra, re, g⟩ => ?_
  refine ⟨as, env, A, ra, re, G.bind g fun x A1 as1 H1 v _ e1 ra1 rx g1 => ?_⟩
  refine truth_ok (Q := fun k H' => if k = true then rd X.K W (RV X.K) mb σ H' Q else Q v H') ra1 rx (G.bind g1 fun b A2 as2 H2 k _ e2 ra2 rb g2 => ?_)
  cases rb
  cases b with
  | true => exact ⟨as2, env, A2, ra2, (re.ex e1).ex e2, g2⟩
  | false => exact g2 as2 H2 v Ex.refl ra2 (rx.ex e2)
theorem je_orV {rest : List Expr} (ha : JE X W a ma) (hb : JE X W (.BoolOp .Or (b :: rest) pos) mb) : JE X W (.BoolOp .Or (a :: b :: rest) pos) (mOrV ma mb) := by
  refine pe_mono (pe_orT ha hb) fun σ H Q ⟨as, env, A, ra, re, g⟩ => ?_
  refine ⟨as, env, A, ra, re, G.bind g fun x A1 as1 H1 v _ e1 ra1 rx g1 => ?_⟩
  refine truth_ok (Q := fun k H' => if k = true then Q v H' else rd X.K W (RV X.K) mb σ H' Q) ra1 rx (G.bind g1 fun b A2 as2 H2 k _ e2 ra2 rb g2 => ?_)
  cases rb
  cases b with
  | true => exact g2 as2 H2 v Ex.refl ra2 (rx.ex e2)
  | false => exact ⟨as2, env, A2, ra2, (re.ex e1).ex e2, g2⟩
theorem jw_and1 (ha : JT X W a ta) : JW X W (.BoolOp .And [a] pos) ta := pw_and1 ha
theorem jw_or1 (ha : JT X W a ta) : JW X W (.BoolOp .Or [a] pos) ta := pw_or1 ha
theorem jw_and {rest : List Expr} (ha : JT X W a ta) (hb : JW X W (.BoolOp .And (b :: rest) pos) tb) : JW X W (.BoolOp .And (a :: b :: rest) pos) (mAnd ta tb) := by
  refine pw_mono (pw_and ha hb) fun σ H Q ⟨as, env, A, ra, re, g⟩ => ?_
  refine ⟨as, env, A, ra, re, G.bind g fun x A1 as1 H1 k _ e1 ra1 rb g1 => ?_⟩
  cases rb
  cases x with
  | true => exact ⟨as1, env, A1, ra1, re.ex e1, g1⟩
  | false => exact g1 as1 H1 _ Ex.refl ra1 rfl
theorem jw_or {rest : List Expr} (ha : JT X W a ta) (hb : JW X W (.BoolOp .Or (b :: rest) pos) tb) : JW X W (.BoolOp .Or (a :: b :: rest) pos) (mOr ta tb) := by
  refine pw_mono (pw_or ha hb) fun σ H Q ⟨as, env, A, ra, re, g⟩ => ?_
  refine ⟨as, env, A, ra, re, G.bind g fun x A1 as1 H1 k _ e1 ra1 rb g1 => ?_⟩
  cases rb
  cases x with
  | true => exact g1 as1 H1 _ Ex.refl ra1 rfl
  | false => exact ⟨as1, env, A1, ra1, re.ex e1, g1⟩
theorem jt_not (ha : JT X W a ta) : JT X W (.UnaryOp .Not a pos) (mNot ta) := by
  refine pt_mono (pt_not ha) fun σ H Q ⟨as, env, A, ra, re, g⟩ => ?_
  refine ⟨as, env, A, ra, re, G.bind g fun x A1 as1 H1 k _ e1 ra1 rb g1 => ?_⟩
  cases rb
  exact g1 as1 H1 _ Ex.refl ra1 rfl
theorem je_ifE (hc : JT X W c ta) (ha : JE X W a ma) (hb : JE X W b mb) : JE X W (.IfExp c a b pos) (mIfE ta ma mb) := by
  refine pe_mono (pe_ifExp hc ha hb) fun σ H Q ⟨as, env, A, ra, re, g⟩ => ?_
  refine ⟨as, env, A, ra, re, G.bind g fun x A1 as1 H1 k _ e1 ra1 rb g1 => ?_⟩
  cases rb
  cases x with
  | true => exact ⟨as1, env, A1, ra1, re.ex e1, g1⟩
  | false => exact ⟨as1, env, A1, ra1, re.ex e1, g1⟩
theorem je_cmp {op : CmpOp} {f : AV → AV → Hx → R AV} (ho : OpA X (compareOp op) f) (ha : JE X W a ma) (hb : JE X W b mb) (hm : behindInMarks op b = false) : JE X W (.Compare a [op] [b] pos) (mOp f ma mb) := by
  refine pe_mono (pe_cmpR ho ha hb hm) fun σ H Q ⟨as, env, A, ra, re, g⟩ => ?_
  refine ⟨as, env, A, ra, re, G.bind g fun x A1 as1 H1 v _ e1 ra1 rx g1 => ?_⟩
  refine ⟨as1, env, A1, ra1, re.ex e1, G.bind g1 fun y A2 as2 H2 u _ e2 ra2 ry g2 => ?_⟩
  exact ⟨W, σ, as2, A2, x, y, ra2, rx.ex e2, ry, g2⟩
theorem isB_ok {as : List Addr} {H : Hp} {σ : L2.St} {A : Hx} {x : AV} {v : V} {Q : Bool → Hp → Prop} {K : PySem.W.Frag} (ra : RA K as H A) (rx : RV K as H x v) (g : G K W as H σ rB (isB x A) Q) : ∃ k, v = .bl k ∧ Q k H := by
  cases rx with
  | bl b => exact ⟨b, rfl, g as H b Ex.refl ra rfl⟩
  | _ => exact g.elim
theorem jt_cmp {op : CmpOp} {f : AV → AV → Hx → R AV} (ho : OpA X (compareOp op) f) (ha : JE X W a ma) (hb : JE X W b mb) (hm : behindInMarks op b = false) : JT X W (.Compare a [op] [b] pos) (mB (mOp f ma mb)) := by
  refine pt_mono (pt_cmpR ho ha hb hm) fun σ H Q ⟨as, env, A, ra, re, g⟩ => ?_
  show tTest (tOp _ _ _) σ H Q
  have g' : G X.K W as H σ rB ((ma env A).bind fun x A1 => (mb env A1).bind fun y A2 => (f x y A2).bind isB) Q := by
    have e : mB (mOp f ma mb) env A = (ma env A).bind fun x A1 => (mb env A1).bind fun y A2 => (f x y A2).bind isB := by
      unfold mB mOp
      cases ma env A with
      | ok x A1 =>
        rw [R.bind_ok, R.bind_ok]
        cases mb env A1 <;> rfl
      | _ => rfl
    rw [e] at g
    exact g
  refine ⟨as, env, A, ra, re, G.bind g' fun x A1 as1 H1 v _ e1 ra1 rx g1 => ?_⟩
  refine ⟨as1, env, A1, ra1, re.ex e1, G.bind g1 fun y A2 as2 H2 u _ e2 ra2 ry g2 => ?_⟩
  refine ⟨W, σ, as2, A2, x, y, ra2, rx.ex e2, ry, G.bind g2 fun z A3 as3 H3 w _ e3 ra3 rz g3 => ?_⟩
  exact isB_ok ra3 rz g3
theorem je_chain {op op' : CmpOp} {f f' : AV → AV → Hx → R AV} (ho : OpA X (compareOp op) f) (ho' : OpA X (compareOp op') f') (ha : JE X W a ma) (hb : JE X W b mb) (hc : JE X W c mc)
    (hm : lastMarks [op, op'] [b, c] = false := by with_unfolding_all rfl) : JE X W (.Compare a [op, op'] [b, c] pos) (mChain f f' ma mb mc) := by
  refine pe_mono (pe_chain ho ho' ha hb hc hm) fun σ H Q ⟨as, env, A, ra, re, g⟩ => ?_
  refine ⟨as, env, A, ra, re, G.bind g fun x A1 as1 H1 v _ e1 ra1 rx g1 => ?_⟩
  refine ⟨as1, env, A1, ra1, re.ex e1, G.bind g1 fun y A2 as2 H2 u _ e2 ra2 ry g2 => ?_⟩
  refine ⟨W, σ, as2, A2, x, y, ra2, rx.ex e2, ry, G.bind g2 fun z A3 as3 H3 w _ e3 ra3 rz g3 => ?_⟩
  refine isB_ok (Q := fun k H3 => if k = true then rd X.K W (RV X.K) mc σ H3 fun w' H4 => r2 X.K f' u w' H4 Q else Q (.bl false) H3) ra3 rz (G.bind g3 fun k A4 as4 H4 k' _ e4 ra4 rb g4 => ?_)
  cases rb
  cases k with
  | true =>
    refine ⟨as4, env, A4, ra4, (((re.ex e1).ex e2).ex e3).ex e4, G.bind g4 fun q A5 as5 H5 p _ e5 ra5 rq g5 => ?_⟩
    exact ⟨W, σ, as5, A5, y, q, ra5, ((ry.ex e3).ex e4).ex e5, rq, g5⟩
  | false => exact g4 as4 H4 _ Ex.refl ra4 (.bl _)
theorem jt_val (h : JE X W a ma) (he : ∀ whole, isTrue a X.env whole = (do let v ← whole; standAt a.pos; holding [v] (truthy v)) := by intro _; rfl) : JT X W a (mTru ma) := jt_truth h he
theorem jt_chain {op op' : CmpOp} {f f' : AV → AV → Hx → R AV} (ho : OpA X (compareOp op) f) (ho' : OpA X (compareOp op') f') (ha : JE X W a ma) (hb : JE X W b mb) (hc : JE X W c mc)
    (hm : lastMarks [op, op'] [b, c] = false := by with_unfolding_all rfl) : JT X W (.Compare a [op, op'] [b, c] pos) (mB (mChain f f' ma mb mc)) := by
  refine pt_mono (pt_chain ho ho' ha hb hc hm) fun σ H Q ⟨as, env, A, ra, re, g⟩ => ?_
  have h2 : ∃ as env A, RA X.K as H A ∧ RE X.K as H env σ ∧ G X.K W as H σ (RV X.K) (mChain f f' ma mb mc env A) (fun v H' => ∃ k, v = .bl k ∧ Q k H') :=
    ⟨as, env, A, ra, re, G.bind g fun x A1 as1 H1 v _ e1 ra1 rx g1 => isB_ok ra1 rx g1⟩
  obtain ⟨as, env, A, ra, re, g⟩ := h2
  refine ⟨as, env, A, ra, re, G.bind g fun x A1 as1 H1 v _ e1 ra1 rx g1 => ?_⟩
  refine ⟨as1, env, A1, ra1, re.ex e1, G.bind g1 fun y A2 as2 H2 u _ e2 ra2 ry g2 => ?_⟩
  refine ⟨W, σ, as2, A2, x, y, ra2, rx.ex e2, ry, G.bind g2 fun z A3 as3 H3 w _ e3 ra3 rz g3 => ?_⟩
  refine isB_ok (Q := fun k H3 => if k = true then rd X.K W (RV X.K) mc σ H3 fun w' H4 => r2 X.K f' u w' H4 (fun v H' => ∃ k, v = .bl k ∧ Q k H') else (∃ k, V.bl false = .bl k ∧ Q k H3)) ra3 rz (G.bind g3 fun k A4 as4 H4 k' _ e4 ra4 rb g4 => ?_)
  cases rb
  cases k with
  | true =>
    refine ⟨as4, env, A4, ra4, (((re.ex e1).ex e2).ex e3).ex e4, G.bind g4 fun q A5 as5 H5 p _ e5 ra5 rq g5 => ?_⟩
    exact ⟨W, σ, as5, A5, y, q, ra5, ((ry.ex e3).ex e4).ex e5, rq, g5⟩
  | false => exact g4 as4 H4 _ Ex.refl ra4 (.bl _)
/-! ### subscripts, slices, calls -/
theorem je_ix {f : AV → AV → Hx → R AV} (hr : IxA X f) (ha : JE X W a ma) (hb : JE X W b mb) (hs : PlainIx b := by exact fun _ _ => rfl) : JE X W (.Subscript a b pos) (mOp f ma mb) := by
  refine pe_mono (pe_ix hr ha hb hs) fun σ H Q ⟨as, env, A, ra, re, g⟩ => ?_
  refine ⟨as, env, A, ra, re, G.bind g fun x A1 as1 H1 v _ e1 ra1 rx g1 => ?_⟩
  refine ⟨as1, env, A1, ra1, re.ex e1, G.bind g1 fun y A2 as2 H2 u _ e2 ra2 ry g2 => ?_⟩
  exact ⟨W, σ, as2, A2, x, y, ra2, rx.ex e2, ry, g2⟩
theorem jo_none : JO X W none mNoPart := po_mono po_none fun σ H Q ⟨as, env, A, ra, re, g⟩ => g as H none Ex.refl ra rfl
theorem jo_some (h : JE X W a ma) : JO X W (some a) (mPart ma) := by
  refine po_mono (po_some h) fun σ H Q ⟨as, env, A, ra, re, g⟩ => ?_
  refine ⟨as, env, A, ra, re, G.bind g fun x A1 as1 H1 v _ e1 ra1 rx g1 => ?_⟩
  cases rx with
  | int i => exact ⟨i, rfl, g1 as1 H1 _ Ex.refl ra1 rfl⟩
  | _ => exact g1.elim
theorem je_slice {f : AV → Option Int → Option Int → Hx → R AV} {lo hi : Option Expr} {ml mh : MO} {p2 : Pos} (hr : SlA X f) (ha : JE X W a ma) (hl : JO X W lo ml) (hh : JO X W hi mh) : JE X W (.Subscript a (.Slice lo hi none p2) pos) (mSl f ma ml mh) := by
  refine pe_mono (pe_slice hr ha hl hh) fun σ H Q ⟨as, env, A, ra, re, g⟩ => ?_
  refine ⟨as, env, A, ra, re, G.bind g fun x A1 as1 H1 v _ e1 ra1 rx g1 => ?_⟩
  refine ⟨as1, env, A1, ra1, re.ex e1, G.bind g1 fun y A2 as2 H2 u _ e2 ra2 ry g2 => ?_⟩
  cases ry
  refine ⟨as2, env, A2, ra2, (re.ex e1).ex e2, G.bind g2 fun z A3 as3 H3 w _ e3 ra3 rz g3 => ?_⟩
  cases rz
  exact ⟨W, σ, as3, A3, x, ra3, (rx.ex e2).ex e3, g3⟩
theorem rs_of {f : List AV → Hx → R AV} {σ : L2.St} {H : Hp} {Q : VK} {K : PySem.W.Frag} (h : rd K W (RV K) (mCB f ms) σ H Q) : tCB (rs K f) (rd K W (RVs K) ms) σ H Q := by
  obtain ⟨as, env, A, ra, re, g⟩ := h
  exact ⟨as, env, A, ra, re, G.bind g fun x A1 as1 H1 v _ e1 ra1 rx g1 => ⟨W, σ, as1, A1, x, ra1, rx, g1⟩⟩
theorem je_callB {f : List AV → Hx → R AV} {id : String} {x : Str} {p : Pos} (hc : CallA X (.builtin id) f) (hg : Gl X x) (hm : X.mg x = none) (hv : bootBuiltins x = some (.builtin id)) (ha : JA X W (a :: es) ms) (hn : x ≠ "__name__" := by decide) (hdb : (x == ("__debug__" : Str)) = false := by decide)
    (he : starEach (a :: es) X.env = (false, eval a X.env) :: starEach es X.env := by rfl) (hpl : (backTo pos (starEach es X.env)).any (·.1) = false := by rfl) : JE X W (.Call (.Name x p) (a :: es) [] pos) (mCB f ms) :=
  pe_mono (pe_callB hc hg hm hv ha hn hdb he hpl) fun σ H Q h => rs_of h
theorem je_bm {f : AV → List AV → Hx → R AV} {ty : AV → Hx → Bool} {T id : String} {name : Str} {apos cpos : Pos} {o e : Expr} {mo : ME} (pa : PlainAttrs T) (slot : Slot T name id) (hty : typeOf (.builtin id) = pure (.type "method_descriptor")) (hm : MtA X id f) (ho : JE X W o mo) (ha : JA X W (e :: es) ms)
    (ht : ∀ as H A x v, RA X.K as H A → RV X.K as H x v → ty x A = true → tyV X.K T v H)
    (hbase : attributeBase o name X.env (eval o X.env) = eval o X.env := by rfl)
    (hfew : ((backTo cpos (starEach (e :: es) X.env)).all (fun x => !x.1) && (backToKw cpos (keywordEach [] X.env)).all (fun x => x.1.isSome)
      && decide ((e :: es).length + ([] : List Keyword).length + (if ([] : List Keyword).isEmpty then 0 else 1) < 30)) = true := by rfl)
    (hline : (apos.endLine == cpos.line) = true := by rfl) (hs : starEach (e :: es) X.env = (false, eval e X.env) :: starEach es X.env := by rfl) (hplain : (backTo cpos (starEach es X.env)).any (·.1) = false := by rfl) :
    JE X W (.Call (.Attribute o name apos) (e :: es) [] cpos) (mBM T ty f mo ms) := by
  refine pe_mono (pe_bm pa slot hty hm ho ha hbase hfew hline hs hplain) fun σ H Q ⟨as, env, A, ra, re, g⟩ => ?_
  refine ⟨as, env, A, ra, re, G.bind g fun x A1 as1 H1 v _ e1 ra1 rx g1 => ?_⟩
  split at g1
  · rename_i t
    refine ⟨ht _ _ _ _ _ ra1 rx t, as1, env, A1, ra1, re.ex e1, G.bind g1 fun xs A2 as2 H2 vs _ e2 ra2 rxs g2 => ?_⟩
    exact ⟨W, σ, as2, A2, x, xs, ra2, rx.ex e2, rxs, g2⟩
  · exact g1.elim
theorem je_bm0 {f : AV → List AV → Hx → R AV} {ty : AV → Hx → Bool} {T id : String} {name : Str} {apos cpos : Pos} {o : Expr} {mo : ME} (pa : PlainAttrs T) (slot : Slot T name id) (hty : typeOf (.builtin id) = pure (.type "method_descriptor")) (hm : MtA X id f) (ho : JE X W o mo)
    (ht : ∀ as H A x v, RA X.K as H A → RV X.K as H x v → ty x A = true → tyV X.K T v H)
    (hbase : attributeBase o name X.env (eval o X.env) = eval o X.env := by rfl) (hline : (apos.endLine == cpos.line) = true := by rfl) :
    JE X W (.Call (.Attribute o name apos) [] [] cpos) (mBM T ty f mo mNil) := by
  refine pe_mono (pe_bm0 pa slot hty hm ho hbase hline) fun σ H Q ⟨as, env, A, ra, re, g⟩ => ?_
  refine ⟨as, env, A, ra, re, G.bind g fun x A1 as1 H1 v _ e1 ra1 rx g1 => ?_⟩
  split at g1
  · rename_i t
    exact ⟨ht _ _ _ _ _ ra1 rx t, W, σ, as1, A1, x, [], ra1, rx, .nil, g1⟩
  · exact g1.elim
end
end Am

set_option Elab.async false
set_option linter.all false
set_option maxRecDepth 100000
set_option maxHeartbeats 4000000
/-! Tm: a tuple, no times and once. -/
namespace Kb
open PySem PySem.Spec PyProof.Rows L2
theorem mul_same (l : Addr) (items : Array Value) (n : Nat) (dd : Option Addr) (sl : Array (Option Value)) (x : Int) (u : Tok) (c0 : (decide (x < -(2 ^ 63)) || decide (x ≥ 2 ^ 63)) = false) (c1 : (items.isEmpty || x == 1) = true) :
    Meets (Builtin.«tuple.__mul__» ⟨[.ref l, .int x u], []⟩) (fun _ R s => s.heap.get? l = some { cls := .type "tuple", dict := dd, data := .seq items n, slots := sl } ∧ R (.ok (.ret (Value.ref l))) s) :=
  .of_wp fun prog w A R s h => by
    obtain ⟨hp, g, d, tk, os⟩ := s
    obtain ⟨hl, h⟩ := h
    have f1 := AutoSeq1.idx_int
    wp_walk using wpAny_loadPart' hl
    repeat (first
      | (refine wpAny_ite_false (decide_eq_false (by rw [c0]; exact Bool.false_ne_true)) ?_; wp_walk using wpAny_loadPart' hl)
      | (refine wpAny_ite_true (decide_eq_true c1) ?_; wp_walk using wpAny_loadPart' hl))
    exact ⟨_, rfl, h⟩
theorem mul_none (l : Addr) (items : Array Value) (n : Nat) (dd : Option Addr) (sl : Array (Option Value)) (x : Int) (u : Tok) (c0 : (decide (x < -(2 ^ 63)) || decide (x ≥ 2 ^ 63)) = false) (c1 : (items.isEmpty || x == 1) = false) (c2 : (decide (x ≤ 0) || items.isEmpty) = true) :
    Meets (Builtin.«tuple.__mul__» ⟨[.ref l, .int x u], []⟩) (fun _ R s => s.heap.get? l = some { cls := .type "tuple", dict := dd, data := .seq items n, slots := sl } ∧
      R (.ok (.ret (Value.ref s.heap.objs.size))) { s with heap := s.heap.push { cls := Value.type "tuple", data := Data.seq #[] }, toks := s.toks }) :=
  .of_wp fun prog w A R s h => by
    obtain ⟨hp, g, d, tk, os⟩ := s
    obtain ⟨hl, h⟩ := h
    have f1 := AutoSeq1.idx_int
    wp_walk using wpAny_loadPart' hl
    repeat (first
      | (refine wpAny_ite_false (decide_eq_false (by rw [c0]; exact Bool.false_ne_true)) ?_; wp_walk using wpAny_loadPart' hl)
      | (refine wpAny_ite_false (decide_eq_false (by rw [c1]; exact Bool.false_ne_true)) ?_; wp_walk using wpAny_loadPart' hl)
      | (refine wpAny_ite_true (decide_eq_true c2) ?_; wp_walk using wpAny_loadPart' hl))
    exact ⟨_, rfl, h⟩
def rRepS (K : PySem.W.Frag) : R2 := fun x y H Q => ∃ l k xs, x = .ref l ∧ y = .int k ∧ SqT K H l xs ∧ (k = 1 ∨ xs = []) ∧ -(2 ^ 63) ≤ k ∧ k < 2 ^ 63 ∧ Q (.ref l) H
def rRep0 (K : PySem.W.Frag) : R2 := fun x y H Q => ∃ l k xs, x = .ref l ∧ y = .int k ∧ SqT K H l xs ∧ xs ≠ [] ∧ k ≤ 0 ∧ -(2 ^ 63) ≤ k ∧ ∀ p, H p = none → Q (.ref p) (upd H p (.tup []))
section
variable {X : Cx}
theorem op_repS : OpR X (binaryOp .Mult) (rRepS X.K) := by
  intro pins s σ H x y v u Q I rx ry h
  obtain ⟨l, k, xs, rfl, rfl, hT, ho1, h1, h2, q⟩ := h
  cases rx
  obtain ⟨t, rfl⟩ := ry
  obtain ⟨its, r, ⟨⟨cls, dd, data, sl⟩, ho, hc, n, hd⟩, hs⟩ := I.tuple hT
  simp only at hc hd
  subst hc hd
  have hle : its.length = xs.length := r.length.symm
  have c0 : (decide (k < -(2 ^ 63)) || decide (k ≥ 2 ^ 63)) = false := by
    rw [decide_eq_false (by omega), decide_eq_false (by omega)] <;> rfl
  have c1 : (its.toArray.isEmpty || k == 1) = true := by
    rcases ho1 with rfl | rfl
    · simp
    · rw [List.eq_nil_of_length_eq_zero (l := its) hle]
      rfl
  exact wpAny_binaryOp_repeat_ref (T := "tuple") (U := "int") (by decide) ⟨_, ho, rfl⟩ (fun s' => typeIs_int s' k t) noFill_tuple_mul F.fills_int_mul F.slot_int_rmul repeat_tuple F.slot_int_index.lookup
    (call_meets F.slot_int_rmul (typeIs_int s k t) F.entry_int_rmul (F.args_int_rmul_2 _ _) (int_rmul_tuple k t l its.toArray n dd sl)
      ⟨ho, rfl, ⟨_, ho, rfl⟩, call_meets F.slot_tuple_mul ⟨_, ho, rfl⟩ F.entry_tuple_mul (F.args_tuple_mul_2 _ _) (mul_same l its.toArray n dd sl k t c0 c1) ⟨ho, .ref l, H, I, rfl, q⟩⟩)
theorem op_rep0 : OpR X (binaryOp .Mult) (rRep0 X.K) := by
  intro pins s σ H x y v u Q I rx ry h
  obtain ⟨l, k, xs, rfl, rfl, hT, hne, h1, h2, q⟩ := h
  cases rx
  obtain ⟨t, rfl⟩ := ry
  obtain ⟨its, r, ⟨⟨cls, dd, data, sl⟩, ho, hc, n, hd⟩, hs⟩ := I.tuple hT
  simp only at hc hd
  subst hc hd
  have hle : its.length = xs.length := r.length.symm
  have hn : its ≠ [] := fun e => hne (by
    rw [e] at hle
    exact List.eq_nil_of_length_eq_zero hle.symm)
  have hi : its.toArray.isEmpty = false := by
    cases its with
    | nil => exact absurd rfl hn
    | cons a b => rfl
  have c0 : (decide (k < -(2 ^ 63)) || decide (k ≥ 2 ^ 63)) = false := by
    rw [decide_eq_false (by omega), decide_eq_false (by omega)] <;> rfl
  have c1 : (its.toArray.isEmpty || k == 1) = false := by
    rw [hi, Bool.false_or]
    exact beq_eq_false_iff_ne.mpr (by omega)
  have c2 : (decide (k ≤ 0) || its.toArray.isEmpty) = true := by
    rw [hi, Bool.or_false]
    exact decide_eq_true h1
  refine wpAny_binaryOp_repeat_ref (T := "tuple") (U := "int") (by decide) ⟨_, ho, rfl⟩ (fun s' => typeIs_int s' k t) noFill_tuple_mul F.fills_int_mul F.slot_int_rmul repeat_tuple F.slot_int_index.lookup
    (call_meets F.slot_int_rmul (typeIs_int s k t) F.entry_int_rmul (F.args_int_rmul_2 _ _) (int_rmul_tuple k t l its.toArray n dd sl)
      ⟨ho, rfl, ⟨_, ho, rfl⟩, call_meets F.slot_tuple_mul ⟨_, ho, rfl⟩ F.entry_tuple_mul (F.args_tuple_mul_2 _ _) (mul_none l its.toArray n dd sl k t c0 c1 c2) ⟨ho, ?_⟩⟩)
  refine ⟨.ref s.heap.objs.size, _, I.laid (t' := s.toks) (o := .tup []) (fun b ob q => Heap.get?_push_of_some _ q) (Nat.le_refl _) ?_, rfl, q _ (I.hok.fresh (Nat.le_refl _))⟩
  exact ⟨by simp, _, .nil, IsTup.new _ _⟩
end
end Kb

set_option Elab.async false
set_option linter.all false
set_option maxRecDepth 100000
set_option maxHeartbeats 4000000
/-! Am3: operators on values. -/
namespace Am
open PySem PySem.Spec PyProof.Rows L2
/-! ### data -/
def allD (f : AV → Option PyData) : List AV → Option (List PyData)
  | [] => some []
  | x :: r => (f x).bind fun d => (allD f r).map (d :: ·)
def toD (A : Hx) : Nat → AV → Option PyData
  | _, .non => some .none
  | _, .bl b => some (.bool b)
  | _, .int i => some (.int i)
  | _, .str x => some (.str x)
  | k + 1, .tup ts => (allD (toD A k) ts).map .tuple
  | k + 1, .cst ts => (allD (toD A k) ts).map .list
  | k + 1, .loc n => (match A[n]? with
    | some (.lst xs) => (allD (toD A k) xs).map .list
    | _ => none)
  | _, _ => none
section
variable {K : PySem.W.Frag} {as : List Addr} {H : Hp} {A : Hx}
theorem allD_dp {f : AV → Option PyData} (hf : ∀ x d v, f x = some d → RV K as H x v → Dp K H v d) : ∀ {xs : List AV} {ds : List PyData} {vs : List V}, allD f xs = some ds → RVs K as H xs vs → DpAll K H vs ds
  | _, _, _, e, .nil => by
    simp [allD] at e
    subst e
    exact .nil
  | _, _, _, e, .cons h r => by
    simp only [allD] at e
    obtain ⟨d, e1, e2⟩ := Option.bind_eq_some_iff.mp e
    obtain ⟨ds, e3, rfl⟩ := Option.map_eq_some_iff.mp e2
    exact .cons (hf _ _ _ e1 h) (allD_dp hf e3 r)
theorem toD_dp (ra : RA K as H A) : ∀ (k : Nat) (x : AV) (d : PyData) (v : V), toD A k x = some d → RV K as H x v → Dp K H v d
  | k, .non, _, _, e, .non => by simp [toD] at e; subst e; exact .non
  | k, .bl b, _, _, e, .bl _ => by simp [toD] at e; subst e; exact .bl b
  | k, .int i, _, _, e, .int _ => by simp [toD] at e; subst e; exact .int i
  | k, .str x, _, _, e, .str _ => by simp [toD] at e; subst e; exact .str x
  | 0, .ty n, _, _, e, .ty _ => by simp [toD] at e
  | k + 1, .ty n, _, _, e, .ty _ => by simp [toD] at e
  | 0, .st a, _, _, e, .st _ => by simp [toD] at e
  | k + 1, .st a, _, _, e, .st _ => by simp [toD] at e
  | 0, .tup ts, _, _, e, .tup _ _ => by simp [toD] at e
  | k + 1, .tup ts, _, _, e, .tup h r => by
    simp only [toD] at e
    obtain ⟨ds, e1, rfl⟩ := Option.map_eq_some_iff.mp e
    exact .tup h (allD_dp (fun x d v => toD_dp ra k x d v) e1 r)
  | 0, .cst ts, _, _, e, .cst _ _ => by simp [toD] at e
  | k + 1, .cst ts, _, _, e, .cst h r => by
    simp only [toD] at e
    obtain ⟨ds, e1, rfl⟩ := Option.map_eq_some_iff.mp e
    exact .lst h.sq (allD_dp (fun x d v => toD_dp ra k x d v) e1 r)
  | 0, .loc n, _, _, e, .loc _ => by simp [toD] at e
  | k + 1, .loc n, _, _, e, .loc h => by
    simp only [toD] at e
    split at e
    · rename_i q
      obtain ⟨ds, e1, rfl⟩ := Option.map_eq_some_iff.mp e
      obtain ⟨vs, hv, rv⟩ := ra.ob _ _ _ h q
      exact .lst (.inl (.inl hv)) (allD_dp (fun x d v => toD_dp ra k x d v) e1 rv)
    · cases e
end
/-- equal as Python has it -/
def eqD (A : Hx) (x y : AV) : R Bool := match toD A 60 x, toD A 60 y with
  | some d, some e => if SeqAt.shaped d = true ∧ SeqAt.shaped e = true then .ok (PyData.eqv d e) A else .bad
  | _, _ => .bad
def oEq (x y : AV) (A : Hx) : R AV := (eqD A x y).bind fun b A => .ok (.bl b) A
def oNe (x y : AV) (A : Hx) : R AV := (eqD A x y).bind fun b A => .ok (.bl (!b)) A
def listOf (A : Hx) (x : AV) : Option (List AV) := match x with
  | .cst ts => some ts
  | .loc n => (match A[n]? with
    | some (.lst xs) => some xs
    | _ => none)
  | _ => none
def mutOf (A : Hx) (x : AV) : Option (Nat × List AV) := match x with
  | .loc n => (match A[n]? with
    | some (.lst xs) => some (n, xs)
    | _ => none)
  | _ => none
section
variable {K : PySem.W.Frag} {as : List Addr} {H : Hp} {A : Hx} {x : AV} {v : V} {xs : List AV}
theorem listOf_ok (ra : RA K as H A) (rx : RV K as H x v) (e : listOf A x = some xs) : ∃ p vs, v = .ref p ∧ SqL K H p vs ∧ RVs K as H xs vs := by
  cases rx with
  | loc h =>
    unfold listOf at e
    dsimp only at e
    split at e
    · rename_i q
      cases e
      obtain ⟨vs, hv, rv⟩ := ra.ob _ _ _ h q
      exact ⟨_, vs, rfl, .inl (.inl hv), rv⟩
    · cases e
  | cst h r =>
    cases e
    exact ⟨_, _, rfl, h.sq, r⟩
  | _ => cases e
theorem mutOf_ok {n : Nat} (ra : RA K as H A) (rx : RV K as H x v) (e : mutOf A x = some (n, xs)) : ∃ p vs, v = .ref p ∧ as[n]? = some p ∧ A[n]? = some (.lst xs) ∧ H p = some (.lst vs) ∧ RVs K as H xs vs := by
  cases rx with
  | loc h =>
    unfold mutOf at e
    dsimp only at e
    split at e
    · rename_i q
      cases e
      obtain ⟨vs, hv, rv⟩ := ra.ob _ _ _ h q
      exact ⟨_, vs, rfl, h, q, hv, rv⟩
    · cases e
  | _ => cases e
/-- a list changes -/
theorem RA.lset {n : Nat} {p : Addr} {vs ws : List V} {ys : List AV} (ra : RA K as H A) (h : as[n]? = some p) (hv : H p = some (.lst vs)) (r : RVs K as H ys ws) : RA K as (upd H p (.lst ws)) (A.set n (.lst ys)) :=
  ra.set h hv rfl ⟨ws, upd_same, r.ex (ex_mut hv rfl)⟩
end
/-- x in xs -/
def anyD (A : Hx) (d : PyData) (xs : List AV) : R Bool := match allD (toD A 59) xs with
  | some ds => if SeqAt.shaped d = true ∧ SeqAt.shaped (.list ds) = true ∧ SeqAt.shaped (.tuple ds) = true then .ok (ds.any fun z => PyData.eqv z d) A else .bad
  | none => .bad
def inD (A : Hx) (x y : AV) : R Bool := match toD A 60 x with
  | some d => (match y with
    | .tup ts => anyD A d ts
    | y => (match listOf A y with
      | some xs => anyD A d xs
      | none => .bad))
  | none => .bad
def oIn (x y : AV) (A : Hx) : R AV := (inD A x y).bind fun b A => .ok (.bl b) A
def oNotIn (x y : AV) (A : Hx) : R AV := (inD A x y).bind fun b A => .ok (.bl (!b)) A

def small (i : Int) : Prop := -(2 ^ 64) < i ∧ i < 2 ^ 64
instance (i : Int) : Decidable (small i) := by unfold small; infer_instance
def wide (i : Int) : Prop := i.natAbs.log2 < 4000
instance (i : Int) : Decidable (wide i) := by unfold wide; infer_instance
def oAdd (x y : AV) (A : Hx) : R AV := match x, y with
  | .int i, .int j => .ok (.int (i + j)) A
  | .str i, .str j => if i.length + j.length ≤ sizeLine then .ok (.str (i ++ j)) A else .bad
  | .tup xs, .tup ys => if xs.length + ys.length ≤ sizeLine then .ok (.tup (xs ++ ys)) A else .bad
  | .loc n, .loc m => (match A[n]?, A[m]? with
    | some (.lst xs), some (.lst ys) => if xs.length + ys.length ≤ sizeLine then .ok (.loc A.length) (A ++ [.lst (xs ++ ys)]) else .bad
    | _, _ => .bad)
  | _, _ => .bad
def oSub (x y : AV) (A : Hx) : R AV := match x, y with
  | .int i, .int j => .ok (.int (i - j)) A
  | _, _ => .bad
def oMul (x y : AV) (A : Hx) : R AV := match x, y with
  | .int i, .int j => if small i ∨ small j ∨ (wide i ∧ wide j) then .ok (.int (i * j)) A else .bad
  | .tup xs, .int k => if -1000 ≤ k ∧ k ≤ 1000 ∧ xs.length ≤ 1000 then .ok (.tup (List.replicate k.toNat xs).flatten) A else .bad
  | .loc n, .int k => (match A[n]? with
    | some (.lst xs) => if 0 ≤ k ∧ k ≤ 1000000 ∧ xs.length * k.toNat ≤ sizeLine then .ok (.loc A.length) (A ++ [.lst (List.replicate k.toNat xs).flatten]) else .bad
    | _ => .bad)
  | _, _ => .bad
def oFdiv (x y : AV) (A : Hx) : R AV := match x, y with
  | .int i, .int j => if 0 < j ∧ wide j then .ok (.int (i / j)) A else .bad
  | _, _ => .bad
def oMod (x y : AV) (A : Hx) : R AV := match x, y with
  | .int i, .int j => if 0 < j then .ok (.int (i % j)) A else .bad
  | _, _ => .bad
def oPow (x y : AV) (A : Hx) : R AV := match x, y with
  | .int i, .int j => if 0 ≤ j ∧ j ≤ 1000 ∧ small i then .ok (.int (i ^ j.toNat)) A else .bad
  | _, _ => .bad
def oLt (x y : AV) (A : Hx) : R AV := match x, y with
  | .int i, .int j => .ok (.bl (decide (i < j))) A
  | _, _ => .bad
def oLe (x y : AV) (A : Hx) : R AV := match x, y with
  | .int i, .int j => .ok (.bl (decide (i ≤ j))) A
  | _, _ => .bad
def oGt (x y : AV) (A : Hx) : R AV := match x, y with
  | .int i, .int j => .ok (.bl (decide (j < i))) A
  | _, _ => .bad
def oGe (x y : AV) (A : Hx) : R AV := match x, y with
  | .int i, .int j => .ok (.bl (decide (j ≤ i))) A
  | _, _ => .bad
def isNon : AV → Bool
  | .non => true
  | _ => false
def oIs (x y : AV) (A : Hx) : R AV := match x, y with
  | .bl a, .bl b => .ok (.bl (a == b)) A
  | x, .non => .ok (.bl (isNon x)) A
  | _, _ => .bad
def oIsNot (x y : AV) (A : Hx) : R AV := match x, y with
  | .bl a, .bl b => .ok (.bl (a != b)) A
  | x, .non => .ok (.bl (!isNon x)) A
  | _, _ => .bad
def oNeg (x : AV) (A : Hx) : R AV := match x with
  | .int i => .ok (.int (-i)) A
  | _ => .bad
def oIx (x y : AV) (A : Hx) : R AV := match y with
  | .int i => (match x with
    | .tup ts => (match atI ts i with
      | some z => .ok z A
      | none => .bad)
    | x => (match listOf A x with
      | some xs => (match atI xs i with
        | some z => .ok z A
        | none => .bad)
      | none => .bad))
  | _ => .bad
def cutA (xs : List AV) (lo hi : Option Int) : List AV := (xs.drop (HT.sIx xs.length 0 lo)).take (HT.sIx xs.length xs.length hi - HT.sIx xs.length 0 lo)
def oSl (x : AV) (lo hi : Option Int) (A : Hx) : R AV := match x with
  | .tup ts => .ok (.tup (cutA ts lo hi)) A
  | x => (match listOf A x with
    | some xs => .ok (.loc A.length) (A ++ [.lst (cutA xs lo hi)])
    | none => .bad)

section
variable {X : Cx} {W : WX}
theorem fin1 {K : PySem.W.Frag} {as : List Addr} {H : Hp} {σ : L2.St} {A : Hx} {x : AV} {v : V} {Q : VK} (ra : RA K as H A) (g : G K W as H σ (RV K) (.ok x A) Q) (r : RV K as H x v) : Q v H := g as H v Ex.refl ra r
theorem atI_of {xs : List AV} {vs : List V} {i : Int} {z : AV} {K : PySem.W.Frag} {as : List Addr} {H : Hp} (r : RVs K as H xs vs) (e : atI xs i = some z) : ∃ w, atI vs i = some w ∧ RV K as H z w := by
  unfold atI at e ⊢
  obtain ⟨j, e1, e2⟩ := Option.bind_eq_some_iff.mp e
  obtain ⟨w, e3, r1⟩ := r.get e2
  exact ⟨w, by rw [← r.length, e1]; exact e3, r1⟩
theorem eqD_ok {as : List Addr} {H : Hp} {σ : L2.St} {A : Hx} {x y : AV} {v u : V} {K : PySem.W.Frag} {Q : Bool → Hp → Prop} (ra : RA K as H A) (rx : RV K as H x v) (ry : RV K as H y u) (g : G K W as H σ rB (eqD A x y) Q) :
    ∃ d e, Dp K H v d ∧ Dp K H u e ∧ SeqAt.shaped d = true ∧ SeqAt.shaped e = true ∧ Q (PyData.eqv d e) H := by
  unfold eqD at g
  split at g
  · rename_i d e hd he
    split at g
    · rename_i hs
      exact ⟨d, e, toD_dp ra _ _ _ _ hd rx, toD_dp ra _ _ _ _ he ry, hs.1, hs.2, g as H _ Ex.refl ra rfl⟩
    · exact g.elim
  · exact g.elim
theorem oa_eq (hu : X.A.units + 64 < cLine) : OpA X (compareOp .Eq) oEq := by
  rintro pins s σ H v u w1 w2 Q I rv ru ⟨W, σ', as, A, x, y, ra, rx, ry, g⟩
  refine op_eqD hu pins s σ H v u w1 w2 Q I rv ru (eqD_ok (Q := fun b H => Q (.bl b) H) ra rx ry (G.bind (Rel := rB) g fun b A' as1 H1 v1 e0 e1 ra1 rb g1 => ?_))
  cases rb
  exact fin1 ra1 g1 (.bl _)
theorem oa_ne (hu : X.A.units + 64 < cLine) : OpA X (compareOp .NotEq) oNe := by
  rintro pins s σ H v u w1 w2 Q I rv ru ⟨W, σ', as, A, x, y, ra, rx, ry, g⟩
  refine op_neD hu pins s σ H v u w1 w2 Q I rv ru (eqD_ok (Q := fun b H => Q (.bl (!b)) H) ra rx ry (G.bind (Rel := rB) g fun b A' as1 H1 v1 e0 e1 ra1 rb g1 => ?_))
  cases rb
  exact fin1 ra1 g1 (.bl _)
theorem oa_add : OpA X (binaryOp .Add) oAdd := by
  rintro pins s σ H v u w1 w2 Q I rv ru ⟨W, σ', as, A, x, y, ra, rx, ry, g⟩
  unfold oAdd at g
  split at g
  · cases rx; cases ry
    exact op_add pins s σ H _ _ w1 w2 Q I rv ru ⟨_, _, rfl, rfl, fin1 ra g (.int _)⟩
  · cases rx; cases ry
    split at g
    · rename_i hl
      exact op_add_str pins s σ H _ _ w1 w2 Q I rv ru ⟨_, _, rfl, rfl, hl, fin1 ra g (.str _)⟩
    · exact g.elim
  · cases rx with
    | tup h1 r1 =>
    cases ry with
    | tup h2 r2 =>
    split at g
    · rename_i hl
      refine op_catA pins s σ H _ _ w1 w2 Q I rv ru ⟨_, _, _, _, rfl, rfl, h1, h2, by rw [← r1.length, ← r2.length]; exact hl, fun e => ?_, fun _ e => ?_, fun _ _ p hp => ?_⟩
      · subst e
        cases r1
        exact fin1 ra g (.tup h2 r2)
      · subst e
        cases r2
        exact fin1 ra g (.tup h1 (by simpa using r1))
      · exact g as _ (.ref p) (ex_new hp) (ra.new hp) (.tup (.inl (.inl upd_same)) ((r1.app r2).ex (ex_new hp)))
    · exact g.elim
  · split at g
    · rename_i e1 e2
      cases rx with
      | loc h1 =>
      cases ry with
      | loc h2 =>
      obtain ⟨vs, hv, r1⟩ := ra.ob _ _ _ h1 e1
      obtain ⟨ws, hw, r2⟩ := ra.ob _ _ _ h2 e2
      split at g
      · rename_i hl
        refine op_cat pins s σ H _ _ w1 w2 Q I rv ru ⟨_, _, vs, ws, rfl, rfl, hv, hw, by rw [← r1.length, ← r2.length]; exact hl, fun p hp => ?_⟩
        refine g (as ++ [p]) _ (.ref p) (ex_push hp) (ra.push hp ⟨_, upd_same, (r1.app r2).ex (ex_push hp)⟩) (.loc ?_)
        rw [← ra.len, List.getElem?_append_right (Nat.le_refl _)]
        simp
      · exact g.elim
    · exact g.elim
  · exact g.elim
theorem oa_sub : OpA X (binaryOp .Sub) oSub := by
  rintro pins s σ H v u w1 w2 Q I rv ru ⟨W, σ', as, A, x, y, ra, rx, ry, g⟩
  unfold oSub at g
  split at g
  · cases rx; cases ry
    exact op_sub pins s σ H _ _ w1 w2 Q I rv ru ⟨_, _, rfl, rfl, fin1 ra g (.int _)⟩
  · exact g.elim
theorem oa_mul : OpA X (binaryOp .Mult) oMul := by
  rintro pins s σ H v u w1 w2 Q I rv ru ⟨W, σ', as, A, x, y, ra, rx, ry, g⟩
  unfold oMul at g
  split at g
  · cases rx; cases ry
    split at g
    · rename_i h
      rcases h with h | h | h
      · exact op_mul pins s σ H _ _ w1 w2 Q I rv ru ⟨_, _, rfl, rfl, .inl h, fin1 ra g (.int _)⟩
      · exact op_mul pins s σ H _ _ w1 w2 Q I rv ru ⟨_, _, rfl, rfl, .inr h, fin1 ra g (.int _)⟩
      · exact op_mulW pins s σ H _ _ w1 w2 Q I rv ru ⟨_, _, rfl, rfl, by have h1 := h.1; have h2 := h.2; unfold wide at h1 h2; unfold CMulW; omega, fin1 ra g (.int _)⟩
    · exact g.elim
  · cases rx with
    | tup h1 r1 =>
    cases ry
    split at g
    · rename_i h
      obtain ⟨a2, a3, a4⟩ := h
      rename_i xs k q0 vs
      by_cases c1 : k = 1 ∨ xs = []
      · refine Kb.op_repS pins s σ H _ _ w1 w2 Q I rv ru ⟨_, _, _, rfl, rfl, h1, c1.imp id (fun e => by subst e; cases r1; rfl), by omega, by omega, ?_⟩
        have e : (List.replicate k.toNat xs).flatten = xs := by
          rcases c1 with rfl | rfl
          · simp
          · simp
        rw [e] at g
        exact fin1 ra g (.tup h1 r1)
      · have hne : vs ≠ [] := fun e => c1 (.inr (by subst e; cases r1; rfl))
        by_cases c2 : k ≤ 0
        · refine Kb.op_rep0 pins s σ H _ _ w1 w2 Q I rv ru ⟨_, _, _, rfl, rfl, h1, hne, c2, by omega, fun p hp => ?_⟩
          have e : (List.replicate k.toNat xs).flatten = [] := by
            rw [Int.toNat_of_nonpos c2]
            rfl
          rw [e] at g
          exact g as _ (.ref p) (ex_new hp) (ra.new hp) (.tup (.inl (.inl upd_same)) .nil)
        · refine op_repT pins s σ H _ _ w1 w2 Q I rv ru ⟨_, _, _, rfl, rfl, h1, hne, by omega, a3, by rw [← r1.length]; exact a4, fun p hp => ?_⟩
          refine g as _ (.ref p) (ex_new hp) (ra.new hp) (.tup (.inl (.inl upd_same)) (RVs.ex (ex_new hp) ?_))
          clear g a2 a3 c1 c2
          generalize k.toNat = n
          induction n with
          | zero => exact .nil
          | succ n ih => rw [List.replicate_succ, List.replicate_succ, List.flatten_cons, List.flatten_cons]; exact r1.app ih
    · exact g.elim
  · split at g
    · rename_i e1
      cases rx with
      | loc h1 =>
      cases ry
      obtain ⟨vs, hv, r1⟩ := ra.ob _ _ _ h1 e1
      split at g
      · rename_i h
        obtain ⟨a1, a2, a3⟩ := h
        refine op_rep pins s σ H _ _ w1 w2 Q I rv ru ⟨_, _, vs, rfl, rfl, hv, by omega, by omega, by rw [← r1.length]; exact a3, fun p hp => ?_⟩
        refine g (as ++ [p]) _ (.ref p) (ex_push hp) (ra.push hp ⟨_, upd_same, RVs.ex (ex_push hp) ?_⟩) (.loc ?_)
        · clear g a1 a2 a3
          generalize Int.toNat _ = n
          induction n with
          | zero => exact .nil
          | succ n ih => rw [List.replicate_succ, List.replicate_succ, List.flatten_cons, List.flatten_cons]; exact r1.app ih
        · rw [← ra.len, List.getElem?_append_right (Nat.le_refl _)]
          simp
      · exact g.elim
    · exact g.elim
  · exact g.elim
theorem oa_fdiv : OpA X (binaryOp .FloorDiv) oFdiv := by
  rintro pins s σ H v u w1 w2 Q I rv ru ⟨W, σ', as, A, x, y, ra, rx, ry, g⟩
  unfold oFdiv at g
  split at g
  · cases rx; cases ry
    split at g
    · rename_i h
      exact op_fdivW pins s σ H _ _ w1 w2 Q I rv ru ⟨_, _, rfl, rfl, ⟨h.1, by have h2 := h.2; unfold wide at h2; omega⟩, fin1 ra g (.int _)⟩
    · exact g.elim
  · exact g.elim
theorem oa_mod : OpA X (binaryOp .Mod) oMod := by
  rintro pins s σ H v u w1 w2 Q I rv ru ⟨W, σ', as, A, x, y, ra, rx, ry, g⟩
  unfold oMod at g
  split at g
  · cases rx; cases ry
    split at g
    · rename_i h
      exact op_mod pins s σ H _ _ w1 w2 Q I rv ru ⟨_, _, rfl, rfl, h, fin1 ra g (.int _)⟩
    · exact g.elim
  · exact g.elim
theorem oa_pow : OpA X (binaryOp .Pow) oPow := by
  rintro pins s σ H v u w1 w2 Q I rv ru ⟨W, σ', as, A, x, y, ra, rx, ry, g⟩
  unfold oPow at g
  split at g
  · cases rx; cases ry
    split at g
    · rename_i h
      exact op_pow pins s σ H _ _ w1 w2 Q I rv ru ⟨_, _, rfl, rfl, ⟨h.1, by omega, by have h2 := h.2.2; unfold small at h2; omega⟩, fin1 ra g (.int _)⟩
    · exact g.elim
  · exact g.elim
theorem oa_lt : OpA X (compareOp .Lt) oLt := by
  rintro pins s σ H v u w1 w2 Q I rv ru ⟨W, σ', as, A, x, y, ra, rx, ry, g⟩
  unfold oLt at g
  split at g
  · cases rx; cases ry
    exact op_lt pins s σ H _ _ w1 w2 Q I rv ru ⟨_, _, rfl, rfl, fin1 ra g (.bl _)⟩
  · exact g.elim
theorem oa_le : OpA X (compareOp .LtE) oLe := by
  rintro pins s σ H v u w1 w2 Q I rv ru ⟨W, σ', as, A, x, y, ra, rx, ry, g⟩
  unfold oLe at g
  split at g
  · cases rx; cases ry
    exact op_le pins s σ H _ _ w1 w2 Q I rv ru ⟨_, _, rfl, rfl, fin1 ra g (.bl _)⟩
  · exact g.elim
theorem oa_gt : OpA X (compareOp .Gt) oGt := by
  rintro pins s σ H v u w1 w2 Q I rv ru ⟨W, σ', as, A, x, y, ra, rx, ry, g⟩
  unfold oGt at g
  split at g
  · cases rx; cases ry
    exact op_gt pins s σ H _ _ w1 w2 Q I rv ru ⟨_, _, rfl, rfl, fin1 ra g (.bl _)⟩
  · exact g.elim
theorem oa_ge : OpA X (compareOp .GtE) oGe := by
  rintro pins s σ H v u w1 w2 Q I rv ru ⟨W, σ', as, A, x, y, ra, rx, ry, g⟩
  unfold oGe at g
  split at g
  · cases rx; cases ry
    exact op_ge pins s σ H _ _ w1 w2 Q I rv ru ⟨_, _, rfl, rfl, fin1 ra g (.bl _)⟩
  · exact g.elim
theorem isNon_ok {K : PySem.W.Frag} {as : List Addr} {H : Hp} {x : AV} {v : V} (r : RV K as H x v) : isNon x = decide (v = .non) := by
  cases r <;> simp [isNon]
theorem oa_is : OpA X (compareOp .Is) oIs := by
  rintro pins s σ H v u w1 w2 Q I rv ru ⟨W, σ', as, A, x, y, ra, rx, ry, g⟩
  unfold oIs at g
  split at g
  · cases rx; cases ry
    exact op_isBl pins s σ H _ _ w1 w2 Q I rv ru ⟨_, _, rfl, rfl, fin1 ra g (by rw [Bool.beq_eq_decide_eq]; exact .bl _)⟩
  · cases ry
    exact op_isN pins s σ H _ _ w1 w2 Q I rv ru ⟨rfl, fin1 ra g (by rw [isNon_ok rx]; exact .bl _)⟩
  · exact g.elim
theorem oa_isNot : OpA X (compareOp .IsNot) oIsNot := by
  rintro pins s σ H v u w1 w2 Q I rv ru ⟨W, σ', as, A, x, y, ra, rx, ry, g⟩
  unfold oIsNot at g
  split at g
  · cases rx; cases ry
    exact op_notBl pins s σ H _ _ w1 w2 Q I rv ru ⟨_, _, rfl, rfl, fin1 ra g (by rw [bne, Bool.beq_eq_decide_eq]; exact .bl _)⟩
  · cases ry
    exact op_notN pins s σ H _ _ w1 w2 Q I rv ru ⟨rfl, fin1 ra g (by rw [isNon_ok rx]; exact .bl _)⟩
  · exact g.elim
theorem ua_neg : UnA X (unaryOp .USub) oNeg := by
  rintro pins s σ H v w1 Q I rv ⟨W, σ', as, A, x, ra, rx, g⟩
  unfold oNeg at g
  split at g
  · cases rx
    exact un_neg pins s σ H _ w1 Q I rv ⟨_, rfl, fin1 ra g (.int _)⟩
  · exact g.elim
theorem ixa : IxA X oIx := by
  rintro e1 e2 pins s σ H v u w1 w2 Q I rv ru ⟨W, σ', as, A, x, y, ra, rx, ry, g⟩ hs
  unfold oIx at g
  split at g
  · cases ry
    split at g
    · cases rx with
      | tup h1 r1 =>
      split at g
      · rename_i e
        obtain ⟨w, ew, rw'⟩ := atI_of r1 e
        exact ix_tup _ _ pins s σ H _ _ w1 w2 Q I rv ru ⟨_, _, _, w, rfl, rfl, h1, ew, fin1 ra g rw'⟩ hs
      · exact g.elim
    · split at g
      · rename_i e
        obtain ⟨p, vs, rfl, hl, r1⟩ := listOf_ok ra rx e
        split at g
        · rename_i e
          obtain ⟨w, ew, rw'⟩ := atI_of r1 e
          exact ix_list _ _ pins s σ H _ _ w1 w2 Q I rv ru ⟨_, _, _, w, rfl, rfl, hl, ew, fin1 ra g rw'⟩ hs
        · exact g.elim
      · exact g.elim
  · exact g.elim
theorem cutA_ok {K : PySem.W.Frag} {as : List Addr} {H : Hp} {xs : List AV} {vs : List V} (r : RVs K as H xs vs) (lo hi : Option Int) : RVs K as H (cutA xs lo hi) (cutV vs lo hi) := by
  unfold cutA cutV
  rw [← r.length]
  exact (r.drop _).take _
theorem cutV_all {vs : List V} {lo hi : Option Int} (e : HT.sIx vs.length 0 lo = 0 ∧ HT.sIx vs.length vs.length hi = vs.length) : cutV vs lo hi = vs := by
  unfold cutV
  rw [e.1, e.2, Nat.sub_zero, List.drop_zero, List.take_length]
theorem sla : SlA X oSl := by
  rintro pins s σ H v u vl vu lo hi sl Q I rv hs pl pu ⟨W, σ', as, A, x, ra, rx, g⟩
  unfold oSl at g
  split at g
  · cases rx with
    | tup h1 r1 =>
    refine sl_tupA pins s σ H _ u vl vu lo hi sl Q I rv hs pl pu ⟨_, _, rfl, h1, fun e => ?_, fun _ p hp => ?_⟩
    · refine fin1 ra g (.tup h1 ?_)
      have e2 := r1.length
      have hc := cutA_ok r1 lo hi
      have q : cutV _ lo hi = _ := cutV_all e
      rw [q] at hc
      exact hc
    · exact g as _ (.ref p) (ex_new hp) (ra.new hp) (.tup (.inl (.inl upd_same)) ((cutA_ok r1 lo hi).ex (ex_new hp)))
  · split at g
    · rename_i e
      obtain ⟨p, vs, rfl, hl, r1⟩ := listOf_ok ra rx e
      refine sl_list pins s σ H _ u vl vu lo hi sl Q I rv hs pl pu ⟨_, _, rfl, hl, fun p hp => ?_⟩
      refine g (as ++ [p]) _ (.ref p) (ex_push hp) (ra.push hp ⟨_, upd_same, (cutA_ok r1 lo hi).ex (ex_push hp)⟩) (.loc ?_)
      rw [← ra.len, List.getElem?_append_right (Nat.le_refl _)]
      simp
    · exact g.elim
end
end Am

set_option Elab.async false
set_option linter.all false
set_option maxRecDepth 100000
set_option maxHeartbeats 4000000
/-! Am4: statements, loops, comprehensions, calls of defs. -/
namespace Am
open PySem PySem.Spec PyProof.Rows L2
inductive RS where
  | nx (env : Ev) (A : Hx) | rt (x : AV) (A : Hx) | bk (env : Ev) (A : Hx) | ct (env : Ev) (A : Hx) | ex (e : AX) (env : Ev) (A : Hx) | bad
abbrev MS := Ev → Hx → RS
section
variable (K : PySem.W.Frag)
def GS (W : WX) (as : List Addr) (H : Hp) (r : RS) (D : Ends) : Prop := match r with
  | .nx env A => ∀ as' H' σ', Ex K as H as' H' → RA K as' H' A → RE K as' H' env σ' → D.nx σ' H'
  | .rt x A => ∀ as' H' v, Ex K as H as' H' → RA K as' H' A → RV K as' H' x v → D.rt v H'
  | .bk env A => ∀ as' H' σ', Ex K as H as' H' → RA K as' H' A → RE K as' H' env σ' → D.bk σ' H'
  | .ct env A => ∀ as' H' σ', Ex K as H as' H' → RA K as' H' A → RE K as' H' env σ' → D.ct σ' H'
  | .ex e env A => ∀ as' H' σ' d, Ex K as H as' H' → RA K as' H' A → RE K as' H' env σ' → RX K as' H' e d → W e.cls d σ' H'
  | .bad => False
def rdS (W : WX) (m : MS) : TS := fun D σ H => ∃ as env A, RA K as H A ∧ RE K as H env σ ∧ GS K W as H (m env A) D
end
abbrev JS (X : Cx) (W : WX) (st : Stmt) (m : MS) : Prop := PS X st (rdS X.K W m)
abbrev JSs (X : Cx) (W : WX) (st : List Stmt) (m : MS) : Prop := PSs X st (rdS X.K W m)
section
variable {X : Cx}
theorem ps_mono {e : Stmt} {t t' : TS} (h : PS X e t) (w : ∀ D σ H, t' D σ H → t D σ H) : PS X e t' := ⟨fun pins s σ H D I q => h.run pins s σ H D I (w D σ H q)⟩
theorem pss_mono {e : List Stmt} {t t' : TS} (h : PSs X e t) (w : ∀ D σ H, t' D σ H → t D σ H) : PSs X e t' := ⟨fun pins s σ H D I q => h.run pins s σ H D I (w D σ H q)⟩
end
/-- what an expression's outcome is to a statement -/
def R.st {α : Type} (r : R α) (env : Ev) (k : α → Hx → RS) : RS := match r with
  | .ok x A => k x A
  | .ex e A => .ex e env A
  | .bad => .bad
@[simp] theorem R.st_ok {α : Type} {x : α} {A : Hx} {env : Ev} {k : α → Hx → RS} : (R.ok x A).st env k = k x A := rfl
@[simp] theorem R.st_ex {α : Type} {e : AX} {A : Hx} {env : Ev} {k : α → Hx → RS} : (R.ex e A : R α).st env k = .ex e env A := rfl
@[simp] theorem R.st_bad {α : Type} {env : Ev} {k : α → Hx → RS} : (R.bad : R α).st env k = .bad := rfl
section
variable {K : PySem.W.Frag} {W : WX} {as as1 : List Addr} {H H1 : Hp} {σ : L2.St} {α β : Type} {Rel : List Addr → Hp → α → β → Prop}
theorem GS.ex {r : RS} {D : Ends} (e : Ex K as H as1 H1) (g : GS K W as H r D) : GS K W as1 H1 r D := by
  cases r with
  | nx env A => exact fun as' H' v e' => g as' H' v (e.trans e')
  | rt x A => exact fun as' H' v e' => g as' H' v (e.trans e')
  | bk env A => exact fun as' H' v e' => g as' H' v (e.trans e')
  | ct env A => exact fun as' H' v e' => g as' H' v (e.trans e')
  | ex x env A => exact fun as' H' v d e' => g as' H' v d (e.trans e')
  | bad => exact g
theorem GS.st {r : R α} {env : Ev} {k : α → Hx → RS} {D : Ends} {Q : β → Hp → Prop} (re : RE K as H env σ) (g : GS K W as H (r.st env k) D)
    (h : ∀ x A as1 H1 v, r = .ok x A → Ex K as H as1 H1 → RA K as1 H1 A → Rel as1 H1 x v → GS K W as1 H1 (k x A) D → Q v H1) : G K W as H σ Rel r Q := by
  cases r with
  | ok x A => exact fun as' H' v e ra rv => h x A as' H' v rfl e ra rv (GS.ex e g)
  | ex x A => exact fun as' H' d e ra rx => g as' H' σ d e ra (re.ex e) rx
  | bad => exact g
end
/-! ### targets -/
abbrev MG := AV → Ev → Option Ev
abbrev MGs := List AV → Ev → Option Ev
def Chg (ns : List Nat) (σ σ' : L2.St) : Prop := σ'.length = σ.length ∧ ∀ i, i ∉ ns → σ'[i]? = σ[i]?
def gRd (K : PySem.W.Frag) (m : MG) (ns : List Nat) : TG := fun v σ H Q => ∃ as x env env', RV K as H x v ∧ RE K as H env σ ∧ m x env = some env' ∧ ∀ σ', RE K as H env' σ' → Chg ns σ σ' → Q σ' H
def gsRd (K : PySem.W.Frag) (m : MGs) (ns : List Nat) : TGs := fun vs σ H Q => ∃ as xs env env', RVs K as H xs vs ∧ RE K as H env σ ∧ m xs env = some env' ∧ ∀ σ', RE K as H env' σ' → Chg ns σ σ' → Q σ' H
abbrev JG (X : Cx) (tg : Expr) (m : MG) (ns : List Nat) : Prop := PG X tg (gRd X.K m ns)
abbrev JGs (X : Cx) (tg : List Expr) (m : MGs) (ns : List Nat) : Prop := PGs X tg (gsRd X.K m ns)
def gNm (i : Nat) : MG := fun x env => some (env.set i (some x))
def gNl : MGs := fun xs env => match xs with
  | [] => some env
  | _ => none
def gCs (m : MG) (r : MGs) : MGs := fun xs env => match xs with
  | x :: xs => (m x env).bind fun e => r xs e
  | [] => none
def gTp (m : MGs) : MG := fun x env => match x with
  | .tup ts => m ts env
  | _ => none
section
variable {X : Cx} {pos : Pos}
theorem pg_mono {e : Expr} {t t' : TG} (h : PG X e t) (w : ∀ v σ H Q, t' v σ H Q → t v σ H Q) : PG X e t' := ⟨fun pins s σ H v u Q I r q => h.run pins s σ H v u Q I r (w v σ H Q q)⟩
theorem pgs_mono {e : List Expr} {t t' : TGs} (h : PGs X e t) (w : ∀ v σ H Q, t' v σ H Q → t v σ H Q) : PGs X e t' := ⟨fun pins s σ H v u Q I r q => h.run pins s σ H v u Q I r (w v σ H Q q)⟩
theorem jg_name {i : Nat} {x : Str} (hN : X.N.Nodup) (hi : X.N[i]? = some x) (hx : Loc X.env.scope x) (hf : X.fn x = true ∨ X.env.scope.names.lookup x = some .local := by first | exact .inl rfl | exact .inr rfl | assumption) : JG X (.Name x pos) (gNm i) [i] := by
  refine pg_mono (pg_name hN hi hx hf) fun v σ H Q ⟨as, y, env, env', rv, re, e, q⟩ => ?_
  cases e
  refine q _ (re.set i rv) ⟨by simp, fun j hj => List.getElem?_set_ne ?_⟩
  intro z
  exact hj (by simp [z])
theorem jgs_nil : JGs X [] gNl [] := by
  refine pgs_mono pgs_nil fun vs σ H Q ⟨as, y, env, env', rv, re, e, q⟩ => ?_
  cases rv with
  | nil => cases e; exact ⟨rfl, q _ re ⟨rfl, fun _ _ => rfl⟩⟩
  | cons _ _ => cases e
theorem jgs_cons {e : Expr} {es : List Expr} {m : MG} {ms : MGs} {ns ks : List Nat} (h1 : JG X e m ns) (h2 : JGs X es ms ks)
    (hs : (assignEach (e :: es) X.env).map (·.2) = assign e X.env :: (assignEach es X.env).map (·.2) := by rfl) : JGs X (e :: es) (gCs m ms) (ns ++ ks) := by
  refine pgs_mono (pgs_cons h1 h2 hs) fun vs σ H Q ⟨as, y, env, env', rv, re, e, q⟩ => ?_
  cases rv with
  | nil => cases e
  | cons r rs =>
    obtain ⟨e1, h3, h4⟩ := Option.bind_eq_some_iff.mp e
    refine ⟨_, _, rfl, as, _, env, e1, r, re, h3, fun σ1 re1 c1 => ⟨as, _, e1, env', rs, re1, h4, fun σ2 re2 c2 => q σ2 re2 ⟨c2.1.trans c1.1, fun i hi => ?_⟩⟩⟩
    rw [List.mem_append, not_or] at hi
    exact (c2.2 i hi.2).trans (c1.2 i hi.1)
theorem jg_tup {es : List Expr} {k : Nat} {m : MGs} {ns : List Nat} {n : Nat} (hc : X.calm = true) (h : JGs X es m ns) (hm : ∀ xs env env', m xs env = some env' → xs.length = n)
    (hn : (assignEach es X.env).length = n := by rfl) (hst : (assignEach es X.env).findIdx? (·.1) = none := by rfl) : JG X (.Tuple es k pos) (gTp m) ns := by
  refine pg_mono (pg_tup hc h hn hst) fun v σ H Q ⟨as, y, env, env', rv, re, e, q⟩ => ?_
  cases rv with
  | tup h1 r1 => exact ⟨_, _, rfl, h1, by rw [← r1.length]; exact hm _ _ _ e, as, _, env, env', r1, re, e, q⟩
  | _ => cases e
end
theorem gNl_len {xs : List AV} {env env' : Ev} (h : gNl xs env = some env') : xs.length = 0 := by
  cases xs with
  | nil => rfl
  | cons _ _ => cases h
theorem gCs_len {m : MG} {ms : MGs} {n : Nat} (hm : ∀ xs env env', ms xs env = some env' → xs.length = n) {xs : List AV} {env env' : Ev} (h : gCs m ms xs env = some env') : xs.length = n + 1 := by
  cases xs with
  | nil => cases h
  | cons _ _ =>
    obtain ⟨e1, h3, h4⟩ := Option.bind_eq_some_iff.mp h
    rw [List.length_cons, hm _ _ _ h4]
/-! ### statements -/
def mPass : MS := fun env A => .nx env A
def mSeq (a b : MS) : MS := fun env A => match a env A with
  | .nx e A1 => b e A1
  | r => r
def mDrop (a : ME) : MS := fun env A => (a env A).st env fun _ A1 => .nx env A1
def mRet (a : ME) : MS := fun env A => (a env A).st env fun x A1 => .rt x A1
def mRetN : MS := fun env A => .rt .non A
def mIf (t : MT) (a b : MS) : MS := fun env A => (t env A).st env fun c A1 => if c = true then a env A1 else b env A1
def mSet (i : Nat) (a : ME) : MS := fun env A => (a env A).st env fun x A1 => .nx (env.set i (some x)) A1
def mAsg (g : MG) (a : ME) : MS := fun env A => (a env A).st env fun x A1 => match g x env with
  | some e => .nx e A1
  | none => .bad
def mPar (i j : Nat) (a : MA) : MS := fun env A => (a env A).st env fun xs A1 => match xs with
  | [x, y] => .nx ((env.set i (some x)).set j (some y)) A1
  | _ => .bad
/-- o[i] = v of a list -/
def setIx (o i v : AV) (A : Hx) : Option Hx := match i with
  | .int k => (match mutOf A o with
    | some (n, xs) => (ixN xs.length k).map fun j => A.set n (.lst (xs.set j v))
    | none => none)
  | _ => none
def mPut (v o i : ME) : MS := fun env A => (v env A).st env fun x A1 => (o env A1).st env fun y A2 => (i env A2).st env fun z A3 => match setIx y z x A3 with
  | some A4 => .nx env A4
  | none => .bad
def mBad : MS := fun _ _ => .bad
section
variable {X : Cx} {W : WX} {a b c : Expr} {ma mb mc : ME} {mt : MT} {pos : Pos} {st : Stmt} {rest : List Stmt} {m u : MS}
theorem js_pass : JS X W (.Pass pos) mPass := ps_mono ps_pass fun D σ H ⟨as, env, A, ra, re, g⟩ => g as H σ Ex.refl ra re
theorem js_bad : JS X W st mBad := ps_mono ps_never fun D σ H ⟨as, env, A, ra, re, g⟩ => g.elim
theorem js_doc {x j pos'} : JS X W (.Expr (.Constant (.str x) j pos) pos') mPass := ps_mono ps_doc fun D σ H ⟨as, env, A, ra, re, g⟩ => g as H σ Ex.refl ra re
theorem jss_nil : JSs X W [] mPass := pss_mono pss_nil fun D σ H ⟨as, env, A, ra, re, g⟩ => g as H σ Ex.refl ra re
theorem jss_one (h : JS X W st m) : JSs X W [st] m := pss_one h
theorem jss_cons (h : JS X W st m) (hr : JSs X W rest u) : JSs X W (st :: rest) (mSeq m u) := by
  refine pss_mono (pss_cons h hr) fun D σ H ⟨as, env, A, ra, re, g⟩ => ?_
  refine ⟨as, env, A, ra, re, ?_⟩
  unfold mSeq at g
  cases e : m env A with
  | nx env1 A1 =>
    rw [e] at g
    exact fun as1 H1 σ1 e1 ra1 re1 => ⟨as1, env1, A1, ra1, re1, g.ex e1⟩
  | _ => rw [e] at g; exact g
theorem js_drop (h : JE X W a ma) (hs : swapsWith a none pos.line X.env = pure false := by rfl) : JS X W (.Expr a pos) (mDrop ma) := by
  refine ps_mono (ps_expr h hs) fun D σ H ⟨as, env, A, ra, re, g⟩ => ?_
  exact ⟨as, env, A, ra, re, GS.st re g fun x A1 as1 H1 v _ e1 ra1 rv g1 => g1 as1 H1 σ Ex.refl ra1 (re.ex e1)⟩
theorem js_ret (h : JE X W a ma) : JS X W (.Return (some a) pos) (mRet ma) := by
  refine ps_mono (ps_ret h) fun D σ H ⟨as, env, A, ra, re, g⟩ => ?_
  exact ⟨as, env, A, ra, re, GS.st re g fun x A1 as1 H1 v _ e1 ra1 rv g1 => g1 as1 H1 v Ex.refl ra1 rv⟩
theorem js_retN : JS X W (.Return none pos) mRetN := ps_mono ps_retN fun D σ H ⟨as, env, A, ra, re, g⟩ => g as H .non Ex.refl ra .non
theorem js_if {p q : List Stmt} (hc : JT X W a mt) (ha : JSs X W p m) (hb : JSs X W q u) : JS X W (.If a p q pos) (mIf mt m u) := by
  refine ps_mono (ps_if hc ha hb) fun D σ H ⟨as, env, A, ra, re, g⟩ => ?_
  refine ⟨as, env, A, ra, re, GS.st re g fun x A1 as1 H1 k _ e1 ra1 rb g1 => ?_⟩
  cases rb
  cases x with
  | true => exact ⟨as1, env, A1, ra1, re.ex e1, g1⟩
  | false => exact ⟨as1, env, A1, ra1, re.ex e1, g1⟩
theorem js_set {i : Nat} {x : Str} {pos' : Pos} (hN : X.N.Nodup) (hi : X.N[i]? = some x) (hx : Loc X.env.scope x) (he : JE X W a ma) (hs : swapsWith a (some (.Name x pos')) pos.line X.env = pure false := by rfl) (hf : X.fn x = true ∨ X.env.scope.names.lookup x = some .local := by first | exact .inl rfl | exact .inr rfl | assumption) :
    JS X W (.Assign [.Name x pos'] a pos) (mSet i ma) := by
  refine ps_mono (ps_set hN hi hx he hs hf) fun D σ H ⟨as, env, A, ra, re, g⟩ => ?_
  exact ⟨as, env, A, ra, re, GS.st re g fun x A1 as1 H1 v _ e1 ra1 rv g1 => g1 as1 H1 _ Ex.refl ra1 ((re.ex e1).set i rv)⟩
theorem js_asg {tg : Expr} {g : MG} {ns : List Nat} (he : JE X W a ma) (hg : JG X tg g ns) (hs : swapsWithSole [tg] a pos.line X.env = pure false := by rfl) (hw : swappedStores [tg] a X.env = pure none := by rfl)
    (h1 : (assignEach [tg] X.env).map (·.2) = [assign tg X.env] := by rfl) : JS X W (.Assign [tg] a pos) (mAsg g ma) := by
  refine ps_mono (ps_asg he hg hs hw h1) fun D σ H ⟨as, env, A, ra, re, gg⟩ => ?_
  refine ⟨as, env, A, ra, re, GS.st re gg fun x A1 as1 H1 v _ e1 ra1 rv g1 => ?_⟩
  split at g1
  · rename_i env' e
    exact ⟨as1, x, env, env', rv, re.ex e1, e, fun σ' re' _ => g1 as1 H1 σ' Ex.refl ra1 re'⟩
  · exact g1.elim
theorem js_par {i j : Nat} {x y : Str} {ms : MA} {px py pt : Pos} {kt k2 pt2} (hc : X.calm = true) (hN : X.N.Nodup) (hi : X.N[i]? = some x) (hj : X.N[j]? = some y) (hij : i ≠ j)
    (hx : X.env.scope.names.lookup x = some .local) (hy : X.env.scope.names.lookup y = some .local) (ha : JA X W [a, b] ms)
    (hw : swappedStores [.Tuple [.Name x px, .Name y py] kt pt] (.Tuple [a, b] k2 pt2) X.env = pure (some [x, y]))
    (hs : swapsWithSole [.Tuple [.Name x px, .Name y py] kt pt] (.Tuple [a, b] k2 pt2) pos.line X.env = pure false := by rfl) :
    JS X W (.Assign [.Tuple [.Name x px, .Name y py] kt pt] (.Tuple [a, b] k2 pt2) pos) (mPar i j ms) := by
  refine ps_mono (ps_par hc hN hi hj hij hx hy ha hw hs) fun D σ H ⟨as, env, A, ra, re, g⟩ => ?_
  refine ⟨as, env, A, ra, re, GS.st re g fun xs A1 as1 H1 vs _ e1 ra1 rv g1 => ?_⟩
  split at g1
  · cases rv with
    | cons r1 rr =>
      cases rr with
      | cons r2 rr =>
        cases rr
        exact ⟨_, _, rfl, g1 as1 H1 _ Ex.refl ra1 (((re.ex e1).set i r1).set j r2)⟩
  · exact g1.elim
theorem js_put {o i : Expr} {mo mi : ME} {tpos : Pos} (he : JE X W a ma) (ho : JE X W o mo) (hi : JE X W i mi)
    (hs : swapsWithSole [.Subscript o i tpos] a pos.line X.env = pure false := by rfl) (hw : swappedStores [.Subscript o i tpos] a X.env = pure none := by rfl)
    (h1 : (assignEach [.Subscript o i tpos] X.env).map (·.2) = [assign (.Subscript o i tpos) X.env] := by rfl)
    (ha : ∀ v, assign (.Subscript o i tpos) X.env v = (do
      let ov ← holding [v] (eval o X.env)
      let iv ← holding [v, ov] (eval i X.env)
      standAt tpos
      holding [v, ov, iv] (setItem ov iv v)
      release [v, ov, iv] []) := by intro _; rfl) : JS X W (.Assign [.Subscript o i tpos] a pos) (mPut ma mo mi) := by
  refine ps_mono (ps_asg he (pg_sub ho hi set_list ha) hs hw h1) fun D σ H ⟨as, env, A, ra, re, g⟩ => ?_
  refine ⟨as, env, A, ra, re, GS.st re g fun x A1 as1 H1 v _ e1 ra1 rv g1 => ?_⟩
  refine ⟨as1, env, A1, ra1, re.ex e1, GS.st (re.ex e1) g1 fun y A2 as2 H2 u _ e2 ra2 ru g2 => ?_⟩
  refine ⟨as2, env, A2, ra2, (re.ex e1).ex e2, GS.st ((re.ex e1).ex e2) g2 fun z A3 as3 H3 w _ e3 ra3 rw' g3 => ?_⟩
  unfold setIx at g3
  split at g3
  · rename_i A4 e
    split at e
    · cases rw'
      split at e
      · rename_i n xs em
        obtain ⟨j, ej, rfl⟩ := Option.map_eq_some_iff.mp e
        obtain ⟨p, vs, rfl, hp, hA, hH, rl⟩ := mutOf_ok ra3 (ru.ex e3) em
        refine ⟨p, vs, _, j, rfl, rfl, hH, by rw [← rl.length]; exact ej, ?_⟩
        have ee : Ex X.K as3 H3 as3 (upd H3 p (.lst (vs.set j v))) := ex_mut hH rfl
        exact g3 as3 _ σ ee (ra3.lset hp hH (rl.set j ((rv.ex e2).ex e3))) ((((re.ex e1).ex e2).ex e3).ex ee)
      · cases e
    · cases e
  · exact g3.elim
end
end Am

set_option Elab.async false
set_option linter.all false
set_option maxRecDepth 100000
set_option maxHeartbeats 4000000
namespace PySem
open Sem (wp)
open AutoSeq1 (wpAny_loadPart')
/-! enumerate of a tuple: how it is made -/
theorem kbEnumNew (tp : Addr) (its : Array Value) (nn : Nat) (dc : Option Addr) (slx : Array (Option Value)) :
    Meets (Builtin.«enumerate.__new__» ⟨[.type "enumerate", .ref tp], []⟩) (fun _ R s => s.heap.get? tp = some { cls := .type "tuple", dict := dc, data := .seq its nn, slots := slx } ∧
      R (.ok (.ret (.ref (s.heap.push { cls := .type "tuple_iterator", data := .fields #[.ref tp, .int 0 0] }).objs.size)))
        { s with heap := (s.heap.push { cls := .type "tuple_iterator", data := .fields #[.ref tp, .int 0 0] }).push { cls := .type "enumerate", data := .fields #[.none, .bool false, .ref s.heap.objs.size, rawInt 0, .none, .none] } }) :=
  .of_wp fun prog w A R s hyp => by
    obtain ⟨hp0, g0, d0, tk0, os0⟩ := s; obtain ⟨hget, hend⟩ := hyp
    have hsub0 := sub_enumerate
    have hTup : Heap.IsTuple (Shared.heap ⟨hp0, g0, d0, tk0, os0⟩) tp its := ⟨_, hget, rfl, nn, rfl⟩
    wp_walk using wpAny_loadPart' hget
    refine wpAny_stack_any fun stk => wpAny_pure ?_
    split
    · rename_i cc _ _ _ _ _
      cases (cc == Value.type "enumerate")
      · wp_walk using wpAny_loadPart' hget, wpAny_pyIter_tuple hTup
        exact ⟨_, rfl, hend⟩
      · wp_walk using wpAny_loadPart' hget, wpAny_pyIter_tuple hTup
        exact ⟨_, rfl, hend⟩
    · wp_walk using wpAny_loadPart' hget, wpAny_pyIter_tuple hTup
      exact ⟨_, rfl, hend⟩
end PySem
namespace PySem
section
variable {prog : Program} {w : World} {A : Around} {E : Value → Shared → Prop} {s : Shared}
theorem kbEnumCall {tp : Addr} {its : Array Value} {Q : Value → Shared → Prop} (hT : s.heap.IsTuple tp its)
    (fin : ∀ h1, IsEnum h1 (s.heap.objs.size + 1) s.heap.objs.size 0 .none → h1.IsTupleIter s.heap.objs.size tp 0 → h1.objs.size = s.heap.objs.size + 2 → (∀ q u, s.heap.get? q = some u → h1.get? q = some u) → Q (.ref (s.heap.objs.size + 1)) { s with heap := h1 }) :
    wpAny (model prog w) A (call (.type "enumerate") [.ref tp]) Q E s := by
  obtain ⟨⟨cc, dc, dd, slx⟩, hget, hcc, nn, hdd⟩ := hT
  obtain rfl : cc = .type "tuple" := hcc
  obtain rfl : dd = .seq its nn := hdd
  refine callType_new F.called_enumerate (by decide) (F.typeCall_enumerate_1 _) (F.newCall_enumerate_1 _) (fun ob => F.args_object_init_2 ob _) F.entry_enumerate_new (kbEnumNew tp its nn dc slx) ⟨hget, ?_⟩
  have size1 : (s.heap.push { cls := .type "tuple_iterator", data := .fields #[.ref tp, .int 0 0] }).objs.size = s.heap.objs.size + 1 := Heap.size_push ..
  show _ ∧ _
  rw [size1]
  have isE : IsEnum ((s.heap.push { cls := .type "tuple_iterator", data := .fields #[.ref tp, .int 0 0] }).push { cls := .type "enumerate", data := .fields #[.none, .bool false, .ref s.heap.objs.size, rawInt 0, .none, .none] }) (s.heap.objs.size + 1) s.heap.objs.size 0 .none := by
    have z := Heap.get?_push_size (s.heap.push { cls := .type "tuple_iterator", data := .fields #[.ref tp, .int 0 0] }) (o := { cls := .type "enumerate", data := .fields #[.none, .bool false, .ref s.heap.objs.size, rawInt 0, .none, .none] }) rfl
    rw [size1] at z
    exact z
  exact ⟨⟨_, isE, rfl⟩, fin _ isE ⟨_, Heap.get?_push_of_some _ (Heap.get?_push_size _ rfl), rfl, rfl⟩ (by rw [Heap.size_push, size1]) fun q u x => Heap.get?_push_of_some _ (Heap.get?_push_of_some _ x)⟩
theorem kbEnumEnd {e it tp : Addr} {i : Nat} {its : Array Value} {old : Value} {Q : Option Value → Shared → Prop} (hh : A.handled = none) (isE : IsEnum s.heap e it i old) (isI : s.heap.IsTupleIter it tp i) (isT : s.heap.IsTuple tp its) (over : its[i]? = none)
    (fin : ∀ h1, Heap.ExtBut it s.heap h1 → Q none { s with heap := h1 }) : wpAny (model prog w) A (pyNext (.ref e)) Q E s := by
  have ty : s.TypeIs (.ref e) "enumerate" := ⟨_, isE, rfl⟩
  unfold pyNext
  refine wpAny_bind (wpAny_attempt (wpAny_callSpecial?_slot (name := Str.ofString "__next__") ty F.slot_enumerate_next (wpAny_call_entry F.slot_enumerate_next ty F.entry_enumerate_next ?_ (F.args_enumerate_next_1 _))))
  show wpAny _ _ (field (.ref e) 2 >>= _) _ _ _
  refine wpAny_bind (wpAny_field isE rfl (x := .ref it) rfl ?_)
  refine wpAny_bind (wpAny_nextOf_tuple_end (A := A.in1) hh isI isT over fun h1 x eb ⟨o, ho, hc⟩ => ?_)
  refine wpAny_bind (wpAny_isInstance (T := "StopIteration") (b := true) ⟨o, ho, hc⟩ isSubtype_stop ?_)
  exact wpAny_pure (fin _ eb)
end
end PySem
namespace Kb
open PySem PySem.Spec PyProof.Rows L2 RZ
/-- the tuple at a, each item in a new pair with its number -/
def ItEn (K : PySem.W.Frag) (a : Addr) : It :=
  ⟨fun i H => ∃ (xs : List V) (x : V), SqT K H a xs ∧ xs[i]? = some x, fun i H v H' => ∃ T x, v = .ref T ∧ H T = none ∧ H' = upd H T (.tup [.int (i : Nat), x]) ∧ ∀ xs, SqT K H a xs → xs[i]? = some x, fun i H => ∃ xs : List V, SqT K H a xs ∧ xs.length ≤ i⟩
theorem turnEn {P : Program} {w : World} {K : PySem.W.Frag} {elts : List Expr} {kk : Nat} {tpos : Pos} (a e it : Addr) :
    Turn P w K (.Tuple elts kk tpos) (ItEn K a) [e, it] e (fun i h => (∃ old, IsEnum h e it ((i : Nat) : Int) old) ∧ h.IsTupleIter it a i ∧ e ≠ it ∧ e ≠ a ∧ it ≠ a) where
  mem := by simp
  obj := fun i h st b hb => by
    obtain ⟨⟨old, he⟩, ⟨o, ho, hc, hd⟩, _⟩ := st
    have cases2 : b = e ∨ b = it := by simpa using hb
    rcases cases2 with rfl | rfl
    · exact ⟨_, he, fun v q => nomatch q⟩
    · exact ⟨o, ho, fun v q => by rw [hd] at q; cases q⟩
  keep := fun i h h' st k => by
    obtain ⟨⟨old, he⟩, hi, hne⟩ := st
    exact ⟨⟨old, k e (by simp) _ he⟩, hi.at fun o q => k it (by simp) o q, hne⟩
  item := by
    intro X hP hw hK hc i pins s σ H E I hf st hg
    subst hP hw hK
    obtain ⟨⟨old, he⟩, hit, hne, hea, hia⟩ := st
    obtain ⟨xs, x, hq, hx⟩ := hg
    obtain ⟨its, rv, p, hz⟩ := I.tuple hq
    obtain ⟨u, hu, ru⟩ := rv.get hx
    have hlt : i < its.toArray.size := by
      have h1 := (List.getElem?_eq_some_iff.mp hu).1
      simpa using h1
    have hel : e < s.heap.objs.size := Heap.lt_size he
    have hil : it < s.heap.objs.size := by obtain ⟨_, q, _⟩ := hit; exact Heap.lt_size q
    refine wpAny_pyNext_enum_itemD (Draws.tuple (A := X.A.in1) (show X.A.in1.handled = none from I.ok.hd hc) it a hia.symm its.toArray) he ⟨hit, p⟩ hlt hne (by simp [hne, hea]) fun v h1 tk hv ho hit1 hT hsz hk => ?_
    have ev : v = u := by
      have z : its.toArray[i]? = some v := hv
      rw [List.getElem?_toArray, hu] at z
      exact (Option.some.inj z).symm
    subst ev
    refine ⟨_, rfl, wpAny_letOwnedTupleGo_enum (s := { s with heap := h1, toks := tk + 1 }) ho fun h2 he2 sb => ?_⟩
    have hT2 : h2.get? s.heap.objs.size = some { cls := .type "tuple", data := .seq #[.int i tk, v] } := (sb.2 _ (Nat.ne_of_gt hel)).trans hT
    have new : ObjOk X.prog X.w (upd H s.heap.objs.size (.tup [.int (i : Nat), x])) h2 s.heap.objs.size (.tup [.int (i : Nat), x]) :=
      ⟨by show 2 ≤ sizeLine; decide, [.int i tk, v], .cons ⟨_, rfl⟩ (.cons ru .nil), ⟨_, hT2, rfl, _, rfl⟩⟩
    have J : Inv X pins σ (upd H s.heap.objs.size (.tup [.int (i : Nat), x])) { s with heap := h2, toks := tk + 1 } :=
      I.turnedNew (ch := [e, it]) (fun b ob hb q => (sb.2 b (fun z => hb (by simp [z]))).trans (hk b ob (fun z => hb (by simp [z])) (fun z => hb (by simp [z])) q)) hf (Nat.le_refl _) new
    refine ⟨.ref s.heap.objs.size, _, J, rfl, ⟨_, x, rfl, I.hok.fresh (Nat.le_refl _), rfl, fun ys hy => by rw [I.tuple_inj hy hq]; exact hx⟩, ⟨⟨v, ?_⟩, hit1.1.at fun o q => (sb.2 it (Ne.symm hne)).trans q, hne, hea, hia⟩, fun b hb => ?_⟩
    · have step : ((i + 1 : Nat) : Int) = (i : Int) + 1 := by omega
      rw [step]; exact he2
    · have small : b < s.heap.objs.size := by
        have cases2 : b = e ∨ b = it := by simpa using hb
        rcases cases2 with rfl | rfl
        · exact hel
        · exact hil
      rw [upd_ne (Nat.ne_of_lt small)]
      exact (hf b hb).1
  done := by
    intro X hP hw hK hc i pins s σ H E I hf st hg
    subst hP hw hK
    obtain ⟨⟨old, he⟩, hit, hne, hea, hia⟩ := st
    obtain ⟨xs, hq, hx⟩ := hg
    obtain ⟨its, rv, p, hz⟩ := I.tuple hq
    obtain ⟨f0, f1, f2, f3, f4, f5⟩ := hf it (by simp)
    have hl := rv.length
    have hT : s.TypeIs (.ref e) "enumerate" := ⟨_, he, rfl⟩
    refine kbEnumEnd (I.ok.hd hc) he hit p (by simp; omega) fun h1 eb => ⟨rfl, I.turned (t' := s.toks) (fun b o hb q => eb b o hb q) f0 f1 f3 f4 f5⟩
  self := fun A i s Q E st h => let ⟨⟨_, he⟩, _⟩ := st; wpAny_pyIter_enum he h
def iEn (K : PySem.W.Frag) (ta : TA) : TI := fun σ H R => ta σ H fun vs H1 => ∃ a xs, vs = [.ref a] ∧ SqT K H1 a xs ∧ R (ItEn K a) H1
theorem pi_en {X : Cx} {e : Expr} {ta : TA} {p pos tpos : Pos} {elts : List Expr} {kk : Nat} (hg : Gl X "enumerate") (hm : X.mg "enumerate" = none) (ha : PA X [e] ta) (hs : starEach [e] X.env = [(false, eval e X.env)] := by rfl) :
    PI X (.Tuple elts kk tpos) (.Call (.Name "enumerate" p) [e] [] pos) (iEn X.K ta) := by
  refine ⟨fun pins s σ H R I h => ?_⟩
  refine Call_ (ld_blt I hg hm boot_enumerate (PyProof.Rows.callWith_type1 (thn (ha.run pos pins s σ H _ I h) fun us s1 ⟨vs, H1, I1, r1, q1⟩ => ?_) hs rfl))
  obtain ⟨a, xs, ex, hq, q⟩ := q1
  subst ex
  cases r1 with
  | cons r rr =>
    cases rr
    cases r
    obtain ⟨its, rv, pt, hz⟩ := I1.tuple hq
    have hal : a < s1.heap.objs.size := by obtain ⟨_, z, _⟩ := pt; exact Heap.lt_size z
    refine kbEnumCall pt fun h1 he hit hsz hk => wpAny_pyIter_enum he ?_
    have J : Inv X pins σ H1 { s1 with heap := h1 } := I1.kept (t' := s1.toks) hk
    refine ⟨s1.heap.objs.size + 1, [s1.heap.objs.size + 1, s1.heap.objs.size], _, _, H1, rfl, J, turnEn a (s1.heap.objs.size + 1) s1.heap.objs.size, ⟨⟨.none, he⟩, hit, Nat.succ_ne_self _, Nat.ne_of_gt (Nat.lt_succ_of_lt hal), Nat.ne_of_gt hal⟩, fun b hb => ?_, q⟩
    have cases2 : b = s1.heap.objs.size + 1 ∨ b = s1.heap.objs.size := by simpa using hb
    have big : s1.heap.objs.size ≤ b := by
      rcases cases2 with rfl | rfl
      · exact Nat.le_add_right _ _
      · exact Nat.le_refl _
    exact I1.fpOk big (I1.hok.fresh big)
end Kb


set_option Elab.async false
set_option linter.all false
set_option maxRecDepth 100000
set_option maxHeartbeats 4000000
/-! Am5: what loops walk; for, while; comprehensions. -/
namespace Am
open PySem PySem.Spec PyProof.Rows L2
theorem PI.or {X : Cx} {tg it : Expr} {w w' : TI} (h : PI X tg it w) (h' : PI X tg it w') : PI X tg it (fun σ H R => w σ H R ∨ w' σ H R) :=
  ⟨fun pins s σ H R I q => q.elim (h.run pins s σ H R I) (h'.run pins s σ H R I)⟩
theorem pi_mono {X : Cx} {tg it : Expr} {t t' : TI} (h : PI X tg it t) (w : ∀ σ H R, t' σ H R → t σ H R) : PI X tg it t' := ⟨fun pins s σ H R I q => h.run pins s σ H R I (w σ H R q)⟩
abbrev Gd := List (Nat × List AV)
def okG (gd : Gd) (A : Hx) : Prop := ∀ p, p ∈ gd → listOf A (.loc p.1) = some p.2
@[simp] theorem okG_nil (A : Hx) : okG [] A ↔ True := ⟨fun _ => trivial, fun _ _ h => nomatch h⟩
@[simp] theorem okG_cons (p : Nat × List AV) (gd : Gd) (A : Hx) : okG (p :: gd) A ↔ listOf A (.loc p.1) = some p.2 ∧ okG gd A :=
  ⟨fun h => ⟨h p List.mem_cons_self, fun q hq => h q (List.mem_cons_of_mem _ hq)⟩, fun h q hq => (List.mem_cons.mp hq).elim (fun e => e ▸ h.1) (h.2 q)⟩
def RI (K : PySem.W.Frag) : List Addr → Hp → List AV × Gd → It → Prop := fun as H p J => ∀ i as' H' A, Ex K as H as' H' → RA K as' H' A → okG p.2 A →
  (∀ x, p.1[i]? = some x → J.go i H' ∧ ∀ v H2, J.yld i H' v H2 → Ex K as' H' as' H2 ∧ RA K as' H2 A ∧ RV K as' H2 x v) ∧ (p.1.length ≤ i → J.stop i H')
abbrev MI := Ev → Hx → R (List AV × Gd)
abbrev JI (X : Cx) (W : WX) (tg it : Expr) (m : MI) : Prop := PI X tg it (rd X.K W (RI X.K) m)
def seqOf (A : Hx) (x : AV) : Option (List AV × Gd) := match x with
  | .tup ts => some (ts, [])
  | .cst ts => some (ts, [])
  | .loc n => (listOf A (.loc n)).map fun xs => (xs, [(n, xs)])
  | _ => none
def miSeq (a : ME) : MI := fun env A => (a env A).bind fun x A1 => match seqOf A1 x with
  | some p => .ok p A1
  | none => .bad
def enumA : Nat → List AV → List AV
  | _, [] => []
  | k, x :: r => .tup [.int k, x] :: enumA (k + 1) r
def rangeA (lo hi : Int) : List AV := (List.range (hi - lo).toNat).map fun (k : Nat) => .int (lo + k)
def miEnum (a : MA) : MI := fun env A => (a env A).bind fun xs A1 => match xs with
  | [x] => (match seqOf A1 x with
    | some p => .ok (enumA 0 p.1, p.2) A1
    | none => .bad)
  | _ => .bad
def miZip (a : MA) : MI := fun env A => (a env A).bind fun xs A1 => match xs with
  | [.tup xs, .tup ys] => .ok (List.zipWith (fun x y => .tup [x, y]) xs ys, []) A1
  | [.loc n, .loc m] => (match listOf A1 (.loc n), listOf A1 (.loc m) with
    | some xs, some ys => .ok (List.zipWith (fun x y => .tup [x, y]) xs ys, [(n, xs), (m, ys)]) A1
    | _, _ => .bad)
  | _ => .bad
def inR (i : Int) : Prop := -(2 ^ 62) ≤ i ∧ i < 2 ^ 62
instance (i : Int) : Decidable (inR i) := by unfold inR; infer_instance
def miRange1 (a : MA) : MI := fun env A => (a env A).bind fun xs A1 => match xs with
  | [.int j] => if inR j then .ok (rangeA 0 j, []) A1 else .bad
  | _ => .bad
def miRange2 (a : MA) : MI := fun env A => (a env A).bind fun xs A1 => match xs with
  | [.int i, .int j] => if inR i ∧ inR j then .ok (rangeA i j, []) A1 else .bad
  | _ => .bad
theorem enumA_get : ∀ {k : Nat} {xs : List AV} {i : Nat} {x : AV}, (enumA k xs)[i]? = some x → ∃ y, xs[i]? = some y ∧ x = .tup [.int ((k + i : Nat)), y]
  | k, [], i, x, h => by simp [enumA] at h
  | k, y :: r, 0, x, h => by
    simp [enumA] at h
    exact ⟨y, rfl, by rw [← h]; simp⟩
  | k, y :: r, i + 1, x, h => by
    simp only [enumA, List.getElem?_cons_succ] at h
    obtain ⟨z, h1, h2⟩ := enumA_get h
    refine ⟨z, h1, ?_⟩
    rw [h2, show k + 1 + i = k + (i + 1) by omega]
theorem enumA_length : ∀ (k : Nat) (xs : List AV), (enumA k xs).length = xs.length
  | _, [] => rfl
  | k, _ :: r => by simp [enumA, enumA_length (k + 1) r]
section
variable {K : PySem.W.Frag} {as : List Addr} {H : Hp} {A : Hx}
theorem listOf_loc {n : Nat} {p : Addr} {xs : List AV} (ra : RA K as H A) (h : as[n]? = some p) (e : listOf A (.loc n) = some xs) : ∃ vs, SqL K H p vs ∧ RVs K as H xs vs := by
  obtain ⟨q, vs, e1, h1, h2⟩ := listOf_ok ra (.loc h) e
  cases e1
  exact ⟨vs, h1, h2⟩
theorem ri_tup {a : Addr} {ts : List AV} {vs : List V} (h : SqT K H a vs) (r : RVs K as H ts vs) : RI K as H (ts, []) (Itt K a) := by
  intro i as' H' A' e ra _
  have h' := e.kp.1 _ _ h
  have r' := r.ex e
  refine ⟨fun x hx => ?_, fun hl => ⟨vs, h', by rw [← r'.length]; exact hl⟩⟩
  obtain ⟨v, hv, rv⟩ := r'.get hx
  refine ⟨⟨vs, v, h', hv⟩, fun w H2 y => ?_⟩
  obtain ⟨rfl, y⟩ := y
  have := y vs h'
  rw [hv] at this
  cases this
  exact ⟨Ex.refl, ra, rv⟩
theorem ri_lst {a : Addr} {n : Nat} {xs : List AV} (h : as[n]? = some a) : RI K as H (xs, [(n, xs)]) (Itl K a) := by
  intro i as' H' A' e ra ok
  obtain ⟨vs, h', r'⟩ := listOf_loc ra (e.get h) (ok _ List.mem_cons_self)
  refine ⟨fun x hx => ?_, fun hl => ⟨vs, h', by rw [← r'.length]; exact hl⟩⟩
  obtain ⟨v, hv, rv⟩ := r'.get hx
  refine ⟨⟨vs, v, h', hv⟩, fun w H2 y => ?_⟩
  obtain ⟨rfl, y⟩ := y
  have := y vs h'
  rw [hv] at this
  cases this
  exact ⟨Ex.refl, ra, rv⟩
theorem ri_cst {a : Addr} {ts : List AV} {vs : List V} (h : FxL K H a vs) (r : RVs K as H ts vs) : RI K as H (ts, []) (Itl K a) := by
  intro i as' H' A' e ra _
  have h' := (e.kp.2 _ _ h).sq
  have r' := r.ex e
  refine ⟨fun x hx => ?_, fun hl => ⟨vs, h', by rw [← r'.length]; exact hl⟩⟩
  obtain ⟨v, hv, rv⟩ := r'.get hx
  refine ⟨⟨vs, v, h', hv⟩, fun w H2 y => ?_⟩
  obtain ⟨rfl, y⟩ := y
  have := y vs h'
  rw [hv] at this
  cases this
  exact ⟨Ex.refl, ra, rv⟩
theorem ri_enC {a : Addr} {xs : List AV} {vs : List V} (h : FxL K H a vs) (r : RVs K as H xs vs) : RI K as H (enumA 0 xs, []) (Ite K a) := by
  intro i as' H' A' e ra ok
  have h' := (e.kp.2 _ _ h).sq
  have r' := r.ex e
  refine ⟨fun x hx => ?_, fun hl => ⟨vs, h', by rw [← r'.length]; rw [enumA_length] at hl; exact hl⟩⟩
  obtain ⟨y, hy, rfl⟩ := enumA_get hx
  obtain ⟨v, hv, rv⟩ := r'.get hy
  refine ⟨⟨vs, v, h', hv⟩, fun w H2 yl => ?_⟩
  obtain ⟨T, z, rfl, hT, rfl, yl⟩ := yl
  have := yl vs h'
  rw [hv] at this
  cases this
  exact ⟨ex_new hT, ra.new hT, .tup (.inl (.inl upd_same)) (.cons (by rw [Nat.zero_add]; exact .int _) (.cons (rv.ex (ex_new hT)) .nil))⟩
theorem rv_pair {p : Addr} {x y : AV} {v w : V} (hp : H p = none) (rx : RV K as H x v) (ry : RV K as H y w) : RV K as (upd H p (.tup [v, w])) (.tup [x, y]) (.ref p) :=
  .tup (.inl (.inl upd_same)) (.cons (rx.ex (ex_new hp)) (.cons (ry.ex (ex_new hp)) .nil))
theorem ri_enT {a : Addr} {ts : List AV} {vs : List V} (h : SqT K H a vs) (r : RVs K as H ts vs) : RI K as H (enumA 0 ts, []) (Kb.ItEn K a) := by
  intro i as' H' A' e ra _
  have h' := e.kp.1 _ _ h
  have r' := r.ex e
  refine ⟨fun x hx => ?_, fun hl => ⟨vs, h', by rw [← r'.length]; rw [enumA_length] at hl; exact hl⟩⟩
  obtain ⟨y, hy, rfl⟩ := enumA_get hx
  obtain ⟨v, hv, rv⟩ := r'.get hy
  refine ⟨⟨vs, v, h', hv⟩, fun w H2 yl => ?_⟩
  obtain ⟨T, z, rfl, hT, rfl, yl⟩ := yl
  have := yl vs h'
  rw [hv] at this
  cases this
  exact ⟨ex_new hT, ra.new hT, rv_pair hT (by rw [Nat.zero_add]; exact .int _) rv⟩
theorem ri_enL {a : Addr} {n : Nat} {xs : List AV} (h : as[n]? = some a) : RI K as H (enumA 0 xs, [(n, xs)]) (Ite K a) := by
  intro i as' H' A' e ra ok
  obtain ⟨vs, h', r'⟩ := listOf_loc ra (e.get h) (ok _ List.mem_cons_self)
  refine ⟨fun x hx => ?_, fun hl => ⟨vs, h', by rw [← r'.length]; rw [enumA_length] at hl; exact hl⟩⟩
  obtain ⟨y, hy, rfl⟩ := enumA_get hx
  obtain ⟨v, hv, rv⟩ := r'.get hy
  refine ⟨⟨vs, v, h', hv⟩, fun w H2 yl => ?_⟩
  obtain ⟨T, z, rfl, hT, rfl, yl⟩ := yl
  have := yl vs h'
  rw [hv] at this
  cases this
  exact ⟨ex_new hT, ra.new hT, rv_pair hT (by rw [Nat.zero_add]; exact .int _) rv⟩
theorem zip_get {xs ys : List AV} {i : Nat} {x : AV} (h : (List.zipWith (fun x y => AV.tup [x, y]) xs ys)[i]? = some x) : ∃ a b, xs[i]? = some a ∧ ys[i]? = some b ∧ x = .tup [a, b] := by
  rw [List.getElem?_zipWith] at h
  split at h
  · rename_i a b e1 e2
    exact ⟨a, b, e1, e2, by cases h; rfl⟩
  · cases h
theorem ri_zipT {a b : Addr} {xs ys : List AV} {vs ws : List V} (h : SqT K H a vs) (r : RVs K as H xs vs) (h2 : SqT K H b ws) (r2 : RVs K as H ys ws) : RI K as H (List.zipWith (fun x y => .tup [x, y]) xs ys, []) (RZ.ItzT K a b) := by
  intro i as' H' A' e ra _
  have h' := e.kp.1 _ _ h
  have r' := r.ex e
  have h2' := e.kp.1 _ _ h2
  have r2' := r2.ex e
  refine ⟨fun x hx => ?_, fun hl => ⟨vs, ws, h', h2', by have q1 : xs.length = vs.length := r'.length; have q2 : ys.length = ws.length := r2'.length; rw [List.length_zipWith] at hl; omega⟩⟩
  obtain ⟨y, z, hy, hz, rfl⟩ := zip_get hx
  obtain ⟨v, hv, rv⟩ := r'.get hy
  obtain ⟨w, hw, rw'⟩ := r2'.get hz
  refine ⟨⟨vs, ws, v, w, h', h2', hv, hw⟩, fun u H2 yl => ?_⟩
  obtain ⟨T, x1, y1, rfl, hT, rfl, y1', y2'⟩ := yl
  have q1 := y1' vs h'
  have q2 := y2' ws h2'
  rw [hv] at q1
  rw [hw] at q2
  cases q1
  cases q2
  exact ⟨ex_new hT, ra.new hT, rv_pair hT rv rw'⟩
theorem ri_zipL {a b : Addr} {n m : Nat} {xs ys : List AV} (h : as[n]? = some a) (h2 : as[m]? = some b) : RI K as H (List.zipWith (fun x y => .tup [x, y]) xs ys, [(n, xs), (m, ys)]) (Itz K a b) := by
  intro i as' H' A' e ra ok
  obtain ⟨vs, h', r'⟩ := listOf_loc ra (e.get h) (ok _ List.mem_cons_self)
  obtain ⟨ws, h2', r2'⟩ := listOf_loc ra (e.get h2) (ok _ (List.mem_cons_of_mem _ List.mem_cons_self))
  refine ⟨fun x hx => ?_, fun hl => ⟨vs, ws, h', h2', by have q1 : xs.length = vs.length := r'.length; have q2 : ys.length = ws.length := r2'.length; rw [List.length_zipWith] at hl; omega⟩⟩
  obtain ⟨y, z, hy, hz, rfl⟩ := zip_get hx
  obtain ⟨v, hv, rv⟩ := r'.get hy
  obtain ⟨w, hw, rw'⟩ := r2'.get hz
  refine ⟨⟨vs, ws, v, w, h', h2', hv, hw⟩, fun u H2 yl => ?_⟩
  obtain ⟨T, x1, y1, rfl, hT, rfl, y1', y2'⟩ := yl
  have q1 := y1' vs h'
  have q2 := y2' ws h2'
  rw [hv] at q1
  rw [hw] at q2
  cases q1
  cases q2
  exact ⟨ex_new hT, ra.new hT, rv_pair hT rv rw'⟩
theorem ri_range {lo hi : Int} : RI K as H (rangeA lo hi, []) (Itr lo (hi - lo).toNat) := by
  intro i as' H' A' e ra _
  refine ⟨fun x hx => ?_, fun hl => by
    unfold rangeA at hl
    rw [List.length_map, List.length_range] at hl
    exact hl⟩
  unfold rangeA at hx
  rw [List.getElem?_map] at hx
  obtain ⟨k, hk, rfl⟩ := Option.map_eq_some_iff.mp hx
  obtain ⟨h1, h2⟩ := List.getElem?_eq_some_iff.mp hk
  rw [List.length_range] at h1
  rw [List.getElem_range] at h2
  subst h2
  refine ⟨h1, fun v H2 y => ?_⟩
  obtain ⟨rfl, rfl⟩ := y
  exact ⟨Ex.refl, ra, .int _⟩
end
section
variable {X : Cx} {W : WX} {tg e e2 : Expr} {me : ME} {ms : MA} {p pos tpos : Pos} {elts : List Expr} {kk : Nat}
theorem ji_seq (h : JE X W e me) : JI X W tg e (miSeq me) := by
  refine pi_mono (PI.or (pi_list h) (pi_tup h)) fun σ H R ⟨as, env, A, ra, re, g⟩ => ?_
  cases em : me env A with
  | ok x A1 =>
    cases x with
    | tup ts =>
      refine .inr ⟨as, env, A, ra, re, G.bind g fun y A2 as1 H1 v e0 e1 ra1 rv g1 => ?_⟩
      rw [em] at e0
      cases e0
      cases rv with
      | tup h1 r1 => exact ⟨_, rfl, ⟨_, h1⟩, g1 as1 H1 _ Ex.refl ra1 (ri_tup h1 r1)⟩
    | cst ts =>
      refine .inl ⟨as, env, A, ra, re, G.bind g fun y A2 as1 H1 v e0 e1 ra1 rv g1 => ?_⟩
      rw [em] at e0
      cases e0
      cases rv with
      | cst h1 r1 => exact ⟨_, rfl, ⟨_, h1.sq⟩, g1 as1 H1 _ Ex.refl ra1 (ri_cst h1 r1)⟩
    | loc n =>
      refine .inl ⟨as, env, A, ra, re, G.bind g fun y A2 as1 H1 v e0 e1 ra1 rv g1 => ?_⟩
      rw [em] at e0
      cases e0
      unfold seqOf at g1
      dsimp only at g1
      cases rv with
      | loc h1 =>
      cases el : listOf A1 (.loc n) with
      | none => rw [el] at g1; exact g1.elim
      | some xs =>
        rw [el] at g1
        obtain ⟨vs, hs, rs⟩ := listOf_loc ra1 h1 el
        exact ⟨_, rfl, ⟨vs, hs⟩, g1 as1 H1 _ Ex.refl ra1 (ri_lst h1)⟩
    | _ => unfold miSeq at g; rw [em] at g; exact g.elim
  | ex x A1 =>
    refine .inl ⟨as, env, A, ra, re, ?_⟩
    unfold miSeq at g
    rw [em] at g ⊢
    exact g
  | bad => unfold miSeq at g; rw [em] at g; exact g.elim
theorem ji_enum (hg : Gl X "enumerate") (hm : X.mg "enumerate" = none) (ha : JA X W [e] ms) (hs : starEach [e] X.env = [(false, eval e X.env)] := by rfl) :
    JI X W (.Tuple elts kk tpos) (.Call (.Name "enumerate" p) [e] [] pos) (miEnum ms) := by
  refine pi_mono (PI.or (pi_enum hg hm ha hs) (Kb.pi_en hg hm ha hs)) fun σ H R ⟨as, env, A, ra, re, g⟩ => ?_
  cases em : ms env A with
  | ok xs A1 =>
    match xs, em with
    | [], em => unfold miEnum at g; rw [em] at g; exact g.elim
    | _ :: _ :: _, em => unfold miEnum at g; rw [em] at g; exact g.elim
    | [x], em =>
    cases x with
    | tup ts =>
      refine .inr ⟨as, env, A, ra, re, G.bind g fun y A2 as1 H1 v e0 e1 ra1 rv g1 => ?_⟩
      rw [em] at e0
      cases e0
      cases rv with
      | cons rv rr =>
      cases rr
      cases rv with
      | tup h1 r1 => exact ⟨_, _, rfl, h1, g1 as1 H1 _ Ex.refl ra1 (ri_enT h1 r1)⟩
    | cst ts =>
      refine .inl ⟨as, env, A, ra, re, G.bind g fun y A2 as1 H1 v e0 e1 ra1 rv g1 => ?_⟩
      rw [em] at e0
      cases e0
      cases rv with
      | cons rv rr =>
      cases rr
      cases rv with
      | cst h1 r1 => exact ⟨_, _, rfl, h1.sq, g1 as1 H1 _ Ex.refl ra1 (ri_enC h1 r1)⟩
    | loc n =>
      refine .inl ⟨as, env, A, ra, re, G.bind g fun y A2 as1 H1 v e0 e1 ra1 rv g1 => ?_⟩
      rw [em] at e0
      cases e0
      cases rv with
      | cons rv rr =>
      cases rr
      cases rv with
      | loc h1 =>
      dsimp only [seqOf] at g1
      cases el : listOf A1 (.loc n) with
      | none => rw [el] at g1; exact g1.elim
      | some xs =>
        rw [el] at g1
        obtain ⟨vs, hs, rs⟩ := listOf_loc ra1 h1 el
        exact ⟨_, _, rfl, hs, g1 as1 H1 _ Ex.refl ra1 (ri_enL h1)⟩
    | _ => unfold miEnum at g; rw [em] at g; exact g.elim
  | ex x A1 =>
    refine .inl ⟨as, env, A, ra, re, ?_⟩
    unfold miEnum at g
    rw [em] at g ⊢
    exact g
  | bad => unfold miEnum at g; rw [em] at g; exact g.elim
theorem ji_zip (hg : Gl X "zip") (hm : X.mg "zip" = none) (ha : JA X W [e, e2] ms)
    (hs : starEach [e, e2] X.env = (false, eval e X.env) :: starEach [e2] X.env := by rfl) (hpl : (backTo pos (starEach [e2] X.env)).any (·.1) = false := by rfl) :
    JI X W (.Tuple elts kk tpos) (.Call (.Name "zip" p) [e, e2] [] pos) (miZip ms) := by
  refine pi_mono (RZ.pi_zipA hg hm ha hs hpl) fun σ H R ⟨as, env, A, ra, re, g⟩ => ?_
  refine ⟨as, env, A, ra, re, G.bind g fun y A2 as1 H1 v e0 e1 ra1 rv g1 => ?_⟩
  split at g1
  · cases rv with
    | cons r1 rr =>
    cases rr with
    | cons r2 rr =>
    cases rr
    cases r1 with
    | tup h1 r1 =>
    cases r2 with
    | tup h2 r2 => exact ⟨_, _, _, _, rfl, .inr ⟨h1, h2, g1 as1 H1 _ Ex.refl ra1 (ri_zipT h1 r1 h2 r2)⟩⟩
  · split at g1
    · rename_i el1 el2
      cases rv with
      | cons r1 rr =>
      cases rr with
      | cons r2 rr =>
      cases rr
      cases r1 with
      | loc h1 =>
      cases r2 with
      | loc h2 =>
      obtain ⟨vs, hs, rs⟩ := listOf_loc ra1 h1 el1
      obtain ⟨ws, hs2, rs2⟩ := listOf_loc ra1 h2 el2
      exact ⟨_, _, _, _, rfl, .inl ⟨hs, hs2, g1 as1 H1 _ Ex.refl ra1 (ri_zipL h1 h2)⟩⟩
    · exact g1.elim
  · exact g1.elim
theorem ji_range1 (hg : Gl X "range") (hm : X.mg "range" = none) (ha : JA X W [e] ms) (hs : starEach [e] X.env = [(false, eval e X.env)] := by rfl) : JI X W tg (.Call (.Name "range" p) [e] [] pos) (miRange1 ms) := by
  refine pi_mono (pi_range1 hg hm ha hs) fun σ H R ⟨as, env, A, ra, re, g⟩ => ?_
  refine ⟨as, env, A, ra, re, G.bind g fun y A2 as1 H1 v e0 e1 ra1 rv g1 => ?_⟩
  split at g1
  · cases rv with
    | cons r1 rr =>
    cases rr
    cases r1
    split at g1
    · rename_i h
      have q := g1 as1 H1 _ Ex.refl ra1 ri_range
      rw [Int.sub_zero] at q
      exact ⟨_, rfl, h.1, h.2, q⟩
    · exact g1.elim
  · exact g1.elim
theorem ji_range2 (hg : Gl X "range") (hm : X.mg "range" = none) (ha : JA X W [e, e2] ms) (hs : starEach [e, e2] X.env = [(false, eval e X.env), (false, eval e2 X.env)] := by rfl) (hs2 : starEach [e2] X.env = [(false, eval e2 X.env)] := by rfl) :
    JI X W tg (.Call (.Name "range" p) [e, e2] [] pos) (miRange2 ms) := by
  refine pi_mono (pi_range2 hg hm ha hs hs2) fun σ H R ⟨as, env, A, ra, re, g⟩ => ?_
  refine ⟨as, env, A, ra, re, G.bind g fun y A2 as1 H1 v e0 e1 ra1 rv g1 => ?_⟩
  split at g1
  · cases rv with
    | cons r1 rr =>
    cases rr with
    | cons r2 rr =>
    cases rr
    cases r1
    cases r2
    split at g1
    · rename_i h
      exact ⟨_, _, rfl, ⟨h.1.1, h.1.2, h.2.1, h.2.2⟩, g1 as1 H1 _ Ex.refl ra1 ri_range⟩
    · exact g1.elim
  · exact g1.elim
end
/-! ### for, while -/
open Classical in
noncomputable def forV (gd : Gd) (g : MG) (b : MS) : List AV → MS
  | [], env, A => if okG gd A then .nx env A else .bad
  | x :: r, env, A => if okG gd A then (match g x env with
    | none => .bad
    | some e => (match b e A with
      | .nx e A => forV gd g b r e A
      | .ct e A => forV gd g b r e A
      | .bk e A => .nx e A
      | o => o)) else .bad
noncomputable def mFor (i : MI) (g : MG) (b : MS) : MS := fun env A => (i env A).st env fun p A1 => forV p.2 g b p.1 env A1
def whileV (c : MT) (b : MS) : Nat → MS
  | 0, _, _ => .bad
  | n + 1, env, A => (c env A).st env fun k A1 => if k = true then (match b env A1 with
      | .nx e A => whileV c b n e A
      | .ct e A => whileV c b n e A
      | .bk e A => .nx e A
      | o => o) else .nx env A1
def mWhile (n : Nat) (c : MT) (b : MS) : MS := whileV c b n
section
variable {X : Cx} {W : WX} {tg it c : Expr} {mi : MI} {g : MG} {ns : List Nat} {body : List Stmt} {mb : MS} {pos : Pos} {mt : MT}
theorem js_for (hp : PassesOwn (model X.prog X.w) X.A X.env X.xe) (hc : X.calm = true) (hi : JI X W tg it mi) (hg : JG X tg g ns) (hb : JSs X W body mb)
    (hs : ∀ x, foldedSetIterable it X.env x = pure x := by intro _; rfl) : JS X W (.For tg it body [] pos) (mFor mi g mb) := by
  refine ps_mono (ps_for hp hc hi hg hb hs) fun D σ H ⟨as, env, A, ra, re, gg⟩ => ?_
  refine ⟨as, env, A, ra, re, GS.st re gg fun p A1 as1 H1 J _ e1 ra1 rj g1 => ?_⟩
  refine ⟨fun i m σ H => m = p.1.length - i ∧ ∃ as2 env A2, Ex X.K as1 H1 as2 H ∧ RA X.K as2 H A2 ∧ RE X.K as2 H env σ ∧ GS X.K W as2 H (forV p.2 g mb (p.1.drop i) env A2) D, ⟨_, rfl, as1, env, A1, Ex.refl, ra1, re.ex e1, g1⟩, ?_⟩
  rintro i m σ2 H2 ⟨rfl, as2, env2, A2, e2, ra2, re2, g2⟩
  cases hd : p.1.drop i with
  | nil =>
    rw [hd] at g2
    unfold forV at g2
    split at g2
    · rename_i ok
      refine .inl ⟨(rj i as2 H2 A2 e2 ra2 ok).2 (List.drop_eq_nil_iff.mp hd), g2 as2 H2 σ2 Ex.refl ra2 re2⟩
    · exact g2.elim
  | cons x r =>
    rw [hd] at g2
    unfold forV at g2
    split at g2
    · rename_i ok
      have hx : p.1[i]? = some x := by
        have := List.getElem?_drop (xs := p.1) (i := i) (j := 0)
        rw [hd] at this
        simpa using this.symm
      have hil : i < p.1.length := (List.getElem?_eq_some_iff.mp hx).1
      have hr : p.1.drop (i + 1) = r := by
        rw [← List.tail_drop, hd]
        rfl
      obtain ⟨go, yl⟩ := (rj i as2 H2 A2 e2 ra2 ok).1 x hx
      refine .inr ⟨go, fun σ' H' => ∃ as3 env3 A3, Ex X.K as1 H1 as3 H' ∧ RA X.K as3 H' A3 ∧ RE X.K as3 H' env3 σ' ∧ GS X.K W as3 H' (forV p.2 g mb (p.1.drop (i + 1)) env3 A3) D, fun σ' H' q => ⟨_, ?_, rfl, q⟩, fun v H3 y => ?_⟩
      · omega
      · obtain ⟨e3, ra3, rx⟩ := yl v H3 y
        split at g2
        · exact g2.elim
        · rename_i env' eg
          refine ⟨as2, x, env2, env', rx, re2.ex e3, eg, fun σ' re' _ => ?_⟩
          refine ⟨as2, env', A2, ra3, re', ?_⟩
          have e13 := e2.trans e3
          have g3 := GS.ex e3 g2
          rw [hr]
          cases eb : mb env' A2 with
          | nx env4 A4 =>
            rw [eb] at g3
            exact fun as' H' σ' e4 ra4 re4 => ⟨as', env4, A4, e13.trans e4, ra4, re4, GS.ex e4 g3⟩
          | ct env4 A4 =>
            rw [eb] at g3
            exact fun as' H' σ' e4 ra4 re4 => ⟨as', env4, A4, e13.trans e4, ra4, re4, GS.ex e4 g3⟩
          | bk env4 A4 =>
            rw [eb] at g3
            exact g3
          | rt x A4 =>
            rw [eb] at g3
            exact g3
          | ex x env4 A4 =>
            rw [eb] at g3
            exact g3
          | bad =>
            rw [eb] at g3
            exact g3
    · exact g2.elim
theorem js_while (n : Nat) (hp : PassesOwn (model X.prog X.w) X.A X.env X.xe) (hc : JT X W c mt) (hb : JSs X W body mb) : JS X W (.While c body [] pos) (mWhile n mt mb) := by
  refine ps_mono (ps_while hp hc hb) fun D σ H ⟨as, env, A, ra, re, gg⟩ => ?_
  refine ⟨fun m σ H => ∃ as env A, RA X.K as H A ∧ RE X.K as H env σ ∧ GS X.K W as H (whileV mt mb m env A) D, ⟨n, as, env, A, ra, re, gg⟩, ?_⟩
  rintro m σ1 H1 ⟨as1, env1, A1, ra1, re1, g1⟩
  cases m with
  | zero => exact g1.elim
  | succ m =>
    unfold whileV at g1
    refine ⟨as1, env1, A1, ra1, re1, GS.st re1 g1 fun k A2 as2 H2 b _ e2 ra2 rb g2 => ?_⟩
    cases rb
    cases k with
    | false => exact g2 as2 H2 σ1 Ex.refl ra2 (re1.ex e2)
    | true =>
      rw [if_pos rfl] at g2 ⊢
      refine ⟨fun σ' H' => ∃ as3 env3 A3, RA X.K as3 H' A3 ∧ RE X.K as3 H' env3 σ' ∧ GS X.K W as3 H' (whileV mt mb m env3 A3) D, fun σ' H' q => ⟨m, Nat.lt_succ_self _, q⟩, as2, env1, A2, ra2, re1.ex e2, ?_⟩
      cases eb : mb env1 A2 with
      | nx env4 A4 =>
        rw [eb] at g2
        exact fun as' H' σ' e4 ra4 re4 => ⟨as', env4, A4, ra4, re4, GS.ex e4 g2⟩
      | ct env4 A4 =>
        rw [eb] at g2
        exact fun as' H' σ' e4 ra4 re4 => ⟨as', env4, A4, ra4, re4, GS.ex e4 g2⟩
      | bk env4 A4 => rw [eb] at g2; exact g2
      | rt x A4 => rw [eb] at g2; exact g2
      | ex x env4 A4 => rw [eb] at g2; exact g2
      | bad => rw [eb] at g2; exact g2
end
end Am

set_option Elab.async false
set_option linter.all false
set_option maxRecDepth 100000
set_option maxHeartbeats 4000000
/-! Am6: comprehensions; calls of defs. -/
namespace Am
open PySem PySem.Spec PyProof.Rows L2
abbrev WF : WX := fun _ _ _ _ => False
def R.noex {α : Type} (r : R α) : R α := match r with
  | .ok x A => .ok x A
  | _ => .bad
@[simp] theorem R.noex_ok {α : Type} {x : α} {A : Hx} : (R.ok x A).noex = .ok x A := rfl
@[simp] theorem R.noex_bad {α : Type} : (R.bad : R α).noex = .bad := rfl
@[simp] theorem R.noex_ex {α : Type} {e : AX} {A : Hx} : (R.ex e A : R α).noex = .bad := rfl
section
variable {K : PySem.W.Frag} {W W' : WX} {as as1 : List Addr} {H H1 : Hp} {σ σ' : L2.St} {α β γ δ : Type} {Rel : List Addr → Hp → α → β → Prop} {Rel2 : List Addr → Hp → γ → δ → Prop}
theorem G.nbind {r : R α} {k : α → Hx → R γ} {Q : δ → Hp → Prop} {Q' : β → Hp → Prop} (g : G K W as H σ Rel2 (r.noex.bind k) Q)
    (h : ∀ x A as1 H1 v, r = .ok x A → Ex K as H as1 H1 → RA K as1 H1 A → Rel as1 H1 x v → G K W as1 H1 σ Rel2 (k x A) Q → Q' v H1) : G K W' as H σ' Rel r Q' := by
  cases r with
  | ok x A => exact fun as' H' v e ra rv => h x A as' H' v rfl e ra rv (G.ex e g)
  | ex x A => exact g.elim
  | bad => exact g.elim
theorem G.wish {r : R α} {Q : β → Hp → Prop} (g : G K W as H σ Rel r Q) : G K (fun c d _ H => W c d σ H) as H σ' Rel r Q := by
  cases r with
  | ok x A => exact g
  | ex x A => exact g
  | bad => exact g
end
open Classical in
noncomputable def compV (gd : Gd) (n : Nat) (g : MG) (mt : MT) (me : ME) (env : Ev) (vs : List Nat) : List AV → Hx → R AV
  | [], A => if okG gd A then .ok (.loc n) A else .bad
  | x :: r, A => if okG gd A then (match g x (wipeE env vs) with
    | none => .bad
    | some e => (mt e A).noex.bind fun b A1 => if b = true then (me e A1).noex.bind fun y A2 => (match mutOf A2 (.loc n) with
        | some (_, acc) => if acc.length < sizeLine then compV gd n g mt me env vs r (A2.set n (.lst (acc ++ [y]))) else .bad
        | none => .bad) else compV gd n g mt me env vs r A1) else .bad
noncomputable def mLc (mi : MI) (g : MG) (mt : MT) (me : ME) (vs : List Nat) : ME := fun env A => (mi env A).bind fun p A1 => compV p.2 A1.length g mt me env vs p.1 (A1 ++ [.lst []])
def mYes : MT := fun _ A => .ok true A
theorem wipe_chg {σ σ' : L2.St} {ns : List Nat} (c : Chg ns σ σ') : ∀ {vs : List Nat}, (∀ i, i ∈ ns → i ∈ vs) → L2.wipe σ' vs = L2.wipe σ vs := by
  intro vs h
  have key : ∀ (τ : L2.St) (i : Nat), (L2.wipe τ vs)[i]? = if i ∈ vs ∧ i < τ.length then some none else τ[i]? := by
    intro τ i
    clear h c
    induction vs with
    | nil => simp [L2.wipe]
    | cons v vs ih =>
      unfold L2.wipe
      rw [List.getElem?_set, ih, L2.wipe_length]
      by_cases hv : v = i
      · subst hv
        by_cases hl : v < τ.length
        · simp [hl]
        · have hn : τ[v]? = none := List.getElem?_eq_none_iff.mpr (by omega)
          simp [hl]
      · have hv' : ¬ i = v := fun z => hv z.symm
        simp [hv, hv']
  apply List.ext_getElem?
  intro i
  rw [key, key, c.1]
  by_cases hi : i ∈ vs ∧ i < σ.length
  · rw [if_pos hi, if_pos hi]
  · rw [if_neg hi, if_neg hi]
    by_cases hv : i ∈ vs
    · have hl : ¬ i < σ.length := fun z => hi ⟨hv, z⟩
      rw [List.getElem?_eq_none_iff.mpr (by rw [c.1]; omega), List.getElem?_eq_none_iff.mpr (by omega)]
    · exact c.2 i fun z => hv (h i z)
theorem wipe_wipe (σ : L2.St) (vs : List Nat) : L2.wipe (L2.wipe σ vs) vs = L2.wipe σ vs :=
  wipe_chg (σ := σ) (σ' := L2.wipe σ vs) (ns := vs) ⟨L2.wipe_length _ _, fun i hi => by
    induction vs with
    | nil => rfl
    | cons v vs ih =>
      rw [List.mem_cons, not_or] at hi
      unfold L2.wipe
      rw [List.getElem?_set_ne (fun z => hi.1 z.symm), ih hi.2]⟩ fun _ h => h
section
variable {X : Cx} {W : WX} {mi : MI} {g : MG} {ns : List Nat} {mt : MT} {me : ME}
/-- the turns of a comprehension -/
theorem lc_ok {vs : List Nat} {σ : L2.St} {H : Hp} {Q : VK} {wi : TI} (hwi : ∀ σ H R, rd X.K W (RI X.K) mi σ H R → wi σ H R) (hns : ∀ i, i ∈ ns → i ∈ vs) (h : rd X.K W (RV X.K) (mLc mi g mt me vs) σ H Q) :
    L2.tLc wi (gRd X.K g ns) (rd X.K WF rB mt) (rd X.K WF (RV X.K) me) vs σ H Q := by
  obtain ⟨as, env, A, ra, re, gg⟩ := h
  refine hwi _ _ _ ⟨as, env, A, ra, re, G.bind gg fun p A1 as1 H1 J _ e1 ra1 rj g1 => ?_⟩
  intro D hD
  have eD : Ex X.K as1 H1 (as1 ++ [D]) (upd H1 D (.lst [])) := ex_push hD
  have raD : RA X.K (as1 ++ [D]) (upd H1 D (.lst [])) (A1 ++ [.lst []]) := ra1.push hD ⟨[], upd_same, .nil⟩
  have atD : (as1 ++ [D])[A1.length]? = some D := by
    rw [← ra1.len, List.getElem?_append_right (Nat.le_refl _)]
    simp
  refine ⟨fun i m H => m = p.1.length - i ∧ ∃ as2 A2, Ex X.K (as1 ++ [D]) (upd H1 D (.lst [])) as2 H ∧ RA X.K as2 H A2 ∧ G X.K W as2 H σ (RV X.K) (compV p.2 A1.length g mt me env vs (p.1.drop i) A2) Q, ⟨_, rfl, as1 ++ [D], A1 ++ [.lst []], Ex.refl, raD, by rw [List.drop_zero]; exact G.ex eD g1⟩, ?_⟩
  rintro i m H2 ⟨rfl, as2, A2, e2, ra2, g2⟩
  have at2 := e2.get atD
  cases hd : p.1.drop i with
  | nil =>
    rw [hd] at g2
    unfold compV at g2
    split at g2
    · rename_i ok
      exact .inl ⟨(rj i as2 H2 A2 (eD.trans e2) ra2 ok).2 (List.drop_eq_nil_iff.mp hd), g2 as2 H2 _ Ex.refl ra2 (.loc at2)⟩
    · exact g2.elim
  | cons x r =>
    rw [hd] at g2
    unfold compV at g2
    split at g2
    · rename_i ok
      have hx : p.1[i]? = some x := by
        have := List.getElem?_drop (xs := p.1) (i := i) (j := 0)
        rw [hd] at this
        simpa using this.symm
      have hil : i < p.1.length := (List.getElem?_eq_some_iff.mp hx).1
      have hr : p.1.drop (i + 1) = r := by
        rw [← List.tail_drop, hd]
        rfl
      obtain ⟨go, yl⟩ := (rj i as2 H2 A2 (eD.trans e2) ra2 ok).1 x hx
      refine .inr ⟨go, fun H' => ∃ as3 A3, Ex X.K (as1 ++ [D]) (upd H1 D (.lst [])) as3 H' ∧ RA X.K as3 H' A3 ∧ G X.K W as3 H' σ (RV X.K) (compV p.2 A1.length g mt me env vs (p.1.drop (i + 1)) A3) Q, fun H' q => ⟨_, by omega, rfl, q⟩, fun v H3 y => ?_⟩
      obtain ⟨e3, ra3, rx⟩ := yl v H3 y
      have re3 := (((re.ex e1).ex eD).ex e2).ex e3
      split at g2
      · exact g2.elim
      · rename_i env' eg
        refine ⟨as2, x, wipeE env vs, env', rx, re3.wipe vs, eg, fun σ' re' ch => ⟨?_, ?_⟩⟩
        · exact (wipe_chg ch hns).trans (wipe_wipe σ vs)
        · refine ⟨as2, env', A2, ra3, re', G.nbind (G.ex e3 g2) fun b A4 as4 H4 _ _ e4 ra4 rb g4 => ?_⟩
          cases rb
          cases b with
          | false =>
            rw [if_neg Bool.false_ne_true] at g4 ⊢
            exact ⟨as4, A4, (e2.trans e3).trans e4, ra4, by rw [hr]; exact g4⟩
          | true =>
            rw [if_pos rfl] at g4 ⊢
            refine ⟨as4, env', A4, ra4, re'.ex e4, G.nbind g4 fun z A5 as5 H5 u _ e5 ra5 rz g5 => ?_⟩
            split at g5
            · rename_i k acc em
              have at5 := e5.get (e4.get (e3.get at2))
              obtain ⟨q, ws, eq1, hp, hA, hH, rl⟩ := mutOf_ok ra5 (.loc at5) em
              cases eq1
              have hk : k = A1.length := by
                unfold mutOf at em
                dsimp only at em
                split at em
                · cases em; rfl
                · cases em
              subst hk
              split at g5
              · rename_i hl
                refine ⟨ws, hH, by rw [← rl.length]; exact hl, as5, _, (((e2.trans e3).trans e4).trans e5).trans (ex_mut hH rfl), ra5.lset hp hH (rl.app (.cons rz .nil)), ?_⟩
                rw [hr]
                exact G.ex (ex_mut hH rfl) g5
              · exact g5.elim
            · exact g5.elim
    · exact g2.elim
theorem je_lc {elt tg iter : Expr} {ifs : List Expr} {scope : Scope} {own : List (Str × Nat)} {pos : Pos} (hc : X.calm = true) (hN : X.N.Nodup) (hi : JI X W tg iter mi) (ok : BlkOk X.N X.env.scope scope own)
    (hg : ∀ (s : Shared) (H : Hp) (C : Addr) (cl : List (Str × Addr)) (fp : List Addr), JG (X.blk s H scope (compEnvC scope cl C X.env) fp) tg g ns)
    (ht : ∀ (s : Shared) (H : Hp) (C : Addr) (cl : List (Str × Addr)) (fp : List Addr), PTs (X.blk s H scope (compEnvC scope cl C X.env) fp) ifs (rd X.K WF rB mt))
    (he : ∀ (s : Shared) (H : Hp) (C : Addr) (cl : List (Str × Addr)) (fp : List Addr), JE (X.blk s H scope (compEnvC scope cl C X.env) fp) WF elt me)
    (hns : ∀ i, i ∈ ns → i ∈ own.map (·.2) := by decide) (hs : ∀ x, foldedSetIterable iter X.env x = pure x := by intro _; rfl) : JE X W (.ListComp elt [⟨tg, iter, ifs, 0⟩] scope pos) (mLc mi g mt me (own.map (·.2))) :=
  pe_mono (pe_lc hc hN hi ok hg ht he hs) fun σ H Q h => lc_ok (fun _ _ _ q => q) hns h
theorem jts_nil {K : PySem.W.Frag} : PTs X [] (rd K WF rB mYes) := ⟨fun pins s σ H Q I ⟨as, env, A, ra, re, g⟩ => pts_nil.run pins s σ H Q I (g as H true Ex.refl ra rfl)⟩
theorem jts_one {c : Expr} (h : JT X WF c mt) : PTs X [c] (rd X.K WF rB mt) := pts_one h
theorem js_setLc {i : Nat} {y : Str} {py : Pos} {elt tg iter : Expr} {ifs : List Expr} {scope : Scope} {own : List (Str × Nat)} {pos spos : Pos} (hc : X.calm = true) (hN : X.N.Nodup) (hy : X.N[i]? = some y) (hyl : X.env.scope.names.lookup y = some .local)
    (hsw : swapsWith (.ListComp elt [⟨tg, iter, ifs, 0⟩] scope pos) (some (.Name y py)) spos.line X.env = pure true) (hi : JI X W tg iter mi) (ok : BlkOk X.N X.env.scope scope own)
    (hg : ∀ (s : Shared) (H : Hp) (C : Addr) (cl : List (Str × Addr)) (fp : List Addr), JG (X.blk s H scope (compEnvC scope cl C X.env) fp) tg g ns)
    (ht : ∀ (s : Shared) (H : Hp) (C : Addr) (cl : List (Str × Addr)) (fp : List Addr), PTs (X.blk s H scope (compEnvC scope cl C X.env) fp) ifs (rd X.K WF rB mt))
    (he : ∀ (s : Shared) (H : Hp) (C : Addr) (cl : List (Str × Addr)) (fp : List Addr), JE (X.blk s H scope (compEnvC scope cl C X.env) fp) WF elt me)
    (hns : ∀ i, i ∈ ns → i ∈ own.map (·.2) := by decide) (hs : ∀ x, foldedSetIterable iter X.env x = pure x := by intro _; rfl) : JS X W (.Assign [.Name y py] (.ListComp elt [⟨tg, iter, ifs, 0⟩] scope pos) spos) (mSet i (mLc mi g mt me (own.map (·.2)))) := by
  refine ps_mono (ps_setLc (wi := rd X.K W (RI X.K) mi) (g := gRd X.K g ns) (tt := rd X.K WF rB mt) (te := rd X.K WF (RV X.K) me) hc hN hy hyl hsw hi ok hg ht he hs) fun D σ H ⟨as, env, A, ra, re, gg⟩ => ?_
  refine lc_ok (fun _ _ _ q => q) hns ⟨as, env, A, ra, re, GS.st re gg fun x A1 as1 H1 v _ e1 ra1 rv g1 => ?_⟩
  exact g1 as1 H1 _ Ex.refl ra1 ((re.ex e1).set i rv)
end
/-! ### what a def leaves -/
mutual
def below (n : Nat) : AV → Bool
  | .loc k => decide (k < n)
  | .tup ts => belows n ts
  | .cst ts => belows n ts
  | _ => true
def belows (n : Nat) : List AV → Bool
  | [] => true
  | x :: r => below n x && belows n r
end
def belowO (n : Nat) : AO → Bool
  | .lst xs => belows n xs
  | .dct kvs => belows n (kvs.map (·.2))
  | .ins _ fs => belows n (fs.map (·.2))
  | .gone => true
def cutOk (A A' : Hx) : Prop := A.length ≤ A'.length ∧ ∀ (i : Nat) (o : AO), i < A.length → A'[i]? = some o → A[i]? = some o ∨ belowO A.length o = true
open Classical in
noncomputable def cut (A : Hx) (r : R AV) : R AV := match r with
  | .ok x A' => if cutOk A A' then (if below A.length x = true then .ok x (A'.take A.length) else (match x with
      | .loc k => (match A'[k]? with
        | some o => if belowO A.length o = true then .ok (.loc A.length) (A'.take A.length ++ [o]) else .ok x A'
        | none => .ok x A')
      | x => .ok x A')) else .ok x A'
  | .ex e A' => if cutOk A A' ∧ belows A.length (e.fs.map (·.2)) = true then .ex e (A'.take A.length) else .ex e A'
  | .bad => .bad
section
variable {K : PySem.W.Frag} {as : List Addr} {H : Hp} {A : Hx} {n : Nat}
mutual
theorem RV.bel : ∀ {x : AV} {v : V}, RV K as H x v → below as.length x = true
  | _, _, .non => by simp [Am.below]
  | _, _, .bl b => by simp [Am.below]
  | _, _, .int i => by simp [Am.below]
  | _, _, .str x => by simp [Am.below]
  | _, _, .ty x => by simp [Am.below]
  | _, _, .st x => by simp [Am.below]
  | _, _, .tup _ r => by
    simp only [Am.below]
    exact RVs.bel r
  | _, _, .cst _ r => by
    simp only [Am.below]
    exact RVs.bel r
  | _, _, .loc h => by
    simp only [Am.below]
    exact decide_eq_true (List.getElem?_eq_some_iff.mp h).1
theorem RVs.bel : ∀ {x : List AV} {v : List V}, RVs K as H x v → belows as.length x = true
  | _, _, .nil => by simp [Am.belows]
  | _, _, .cons h r => by
    simp only [Am.belows, RV.bel h, RVs.bel r, Bool.and_true]
end
theorem RFs.bel : ∀ {x : List (Str × AV)} {v : List (Str × V)}, RFs K as H x v → belows as.length (x.map (·.2)) = true
  | _, _, .nil => by simp [belows]
  | _, _, .cons h r => by
    simp only [List.map_cons, belows, RV.bel h, RFs.bel r, Bool.and_true]
theorem RK.bel {κ : Type} {f : κ → AV} : ∀ {x : List (AV × AV)} {v : List (κ × V)}, RK K f as H x v → belows as.length (x.map (·.2)) = true
  | _, _, .nil => by simp [belows]
  | _, _, .cons h r => by
    simp only [List.map_cons, belows, RV.bel h, RK.bel r, Bool.and_true]
theorem RO.bel {a : Addr} : ∀ {o : AO}, RO K as H a o → belowO as.length o = true
  | .lst _, ⟨_, _, r⟩ => RVs.bel r
  | .dct _, .inl ⟨_, _, r⟩ => RK.bel r
  | .dct _, .inr ⟨_, _, r⟩ => RK.bel r
  | .ins _ _, ⟨_, _, _, r⟩ => RFs.bel r
  | .gone, _ => rfl
mutual
/-- fewer places -/
theorem RV.fewer : ∀ {x : AV} {v : V}, RV K as H x v → Am.below n x = true → RV K (as.take n) H x v
  | _, _, .non, _ => .non
  | _, _, .bl b, _ => .bl b
  | _, _, .int i, _ => .int i
  | _, _, .str x, _ => .str x
  | _, _, .ty x, _ => .ty x
  | _, _, .st x, _ => .st x
  | _, _, .tup h r, b => by
    simp only [Am.below] at b
    exact .tup h (RVs.fewer r b)
  | _, _, .cst h r, b => by
    simp only [Am.below] at b
    exact .cst h (RVs.fewer r b)
  | _, _, .loc h, b => by
    simp only [Am.below, decide_eq_true_eq] at b
    exact .loc (by rw [List.getElem?_take_of_lt b]; exact h)
theorem RVs.fewer : ∀ {x : List AV} {v : List V}, RVs K as H x v → Am.belows n x = true → RVs K (as.take n) H x v
  | _, _, .nil, _ => .nil
  | _, _, .cons h r, b => by
    simp only [Am.belows, Bool.and_eq_true] at b
    exact .cons (RV.fewer h b.1) (RVs.fewer r b.2)
end
theorem RFs.fewer : ∀ {x : List (Str × AV)} {v : List (Str × V)}, RFs K as H x v → belows n (x.map (·.2)) = true → RFs K (as.take n) H x v
  | _, _, .nil, _ => .nil
  | _, _, .cons h r, b => by
    simp only [List.map_cons, belows, Bool.and_eq_true] at b
    exact .cons (h.fewer b.1) (RFs.fewer r b.2)
theorem RK.fewer {κ : Type} {f : κ → AV} : ∀ {x : List (AV × AV)} {v : List (κ × V)}, RK K f as H x v → belows n (x.map (·.2)) = true → RK K f (as.take n) H x v
  | _, _, .nil, _ => .nil
  | _, _, .cons h r, b => by
    simp only [List.map_cons, belows, Bool.and_eq_true] at b
    exact .cons (h.fewer b.1) (RK.fewer r b.2)
theorem RO.fewer {a : Addr} : ∀ {o : AO}, RO K as H a o → belowO n o = true → RO K (as.take n) H a o
  | .lst _, ⟨v, h, r⟩, b => ⟨v, h, r.fewer b⟩
  | .dct _, .inl ⟨v, h, r⟩, b => .inl ⟨v, h, r.fewer b⟩
  | .dct _, .inr ⟨v, h, r⟩, b => .inr ⟨v, h, r.fewer b⟩
  | .ins _ _, ⟨d, v, h, r⟩, b => ⟨d, v, h, r.fewer b⟩
  | .gone, h, _ => h
/-- behind a def: what it laid is forgotten -/
theorem RA.cutA {as' : List Addr} {H' : Hp} {A' : Hx} (ra : RA K as H A) (e : Ex K as H as' H') (ra' : RA K as' H' A') (ok : cutOk A A') : as'.take A.length = as ∧ RA K as H' (A'.take A.length) := by
  obtain ⟨l, rfl⟩ := e.pre
  have ht : (as ++ l).take A.length = as := by
    rw [← ra.len, List.take_left']
    rfl
  refine ⟨ht, by rw [List.length_take, ra.len]; exact (Nat.min_eq_left ok.1).symm, ra.nd, fun n a o e1 e2 => ?_⟩
  have hn : n < A.length := by rw [← ra.len]; exact (List.getElem?_eq_some_iff.mp e1).1
  rw [List.getElem?_take_of_lt hn] at e2
  have r1 := ra'.ob n a o (e.get e1) e2
  have b : belowO A.length o = true := by
    rcases ok.2 n o hn e2 with h | h
    · rw [← ra.len]
      exact (ra.ob n a o e1 h).bel
    · exact h
  have r2 := r1.fewer b
  rw [ht] at r2
  exact r2
end
section
variable {K : PySem.W.Frag} {W : WX} {as : List Addr} {H : Hp} {A : Hx} {σ : L2.St}
theorem G.cut {r : R AV} {Q : VK} (ra : RA K as H A) (g : G K W as H σ (RV K) (cut A r) Q) : G K W as H σ (RV K) r Q := by
  cases r with
  | bad => exact g
  | ok x A' =>
    intro as' H' v e ra' rv
    unfold Am.cut at g
    dsimp only at g
    split at g
    · rename_i ok
      obtain ⟨ht, rc⟩ := ra.cutA e ra' ok
      have e0 : Ex K as H as H' := ⟨⟨[], by simp⟩, e.kp⟩
      split at g
      · rename_i b
        have r2 := rv.fewer b
        rw [ht] at r2
        exact g as H' v e0 rc r2
      · split at g
        · rename_i k nb
          split at g
          · rename_i o eo
            split at g
            · rename_i b
              cases rv with
              | loc hk =>
              rename_i p
              have hp : p ∉ as := by
                intro m
                obtain ⟨j, hj⟩ := List.getElem?_of_mem m
                have hj' := e.get hj
                have : j = k := by
                  obtain ⟨l1, g1⟩ := List.getElem?_eq_some_iff.mp hj'
                  obtain ⟨l2, g2⟩ := List.getElem?_eq_some_iff.mp hk
                  exact (List.getElem_inj ra'.nd).mp (g1.trans g2.symm)
                subst this
                have hl := (List.getElem?_eq_some_iff.mp hj).1
                rw [ra.len] at hl
                simp [Am.below, hl] at nb
              have ro := (ra'.ob k p o hk eo).fewer b
              rw [ht] at ro
              have e1 : Ex K as H (as ++ [p]) H' := ⟨⟨[p], rfl⟩, e.kp⟩
              have e2 : Ex K as H' (as ++ [p]) H' := ⟨⟨[p], rfl⟩, Kp.refl⟩
              refine g (as ++ [p]) H' (.ref p) e1 ⟨by rw [List.length_append, List.length_append, rc.len] <;> rfl, ?_, fun n a u e3 e4 => ?_⟩ (.loc ?_)
              · rw [List.nodup_append]
                exact ⟨ra.nd, by simp, fun x hx y hy z => by
                  have : y = p := by simpa using hy
                  subst this
                  subst z
                  exact hp hx⟩
              · by_cases hn : n < as.length
                · rw [List.getElem?_append_left hn] at e3
                  rw [List.getElem?_append_left (by rw [← rc.len]; exact hn)] at e4
                  exact (rc.ob n a u e3 e4).stay e2 rfl
                · have h1 : n < (as ++ [p]).length := (List.getElem?_eq_some_iff.mp e3).1
                  have h2 : n = as.length := by simp at h1; omega
                  subst h2
                  rw [List.getElem?_append_right (Nat.le_refl _)] at e3
                  rw [rc.len, List.getElem?_append_right (Nat.le_refl _)] at e4
                  simp at e3 e4
                  subst e3 e4
                  exact ro.stay e2 rfl
              · rw [← ra.len, List.getElem?_append_right (Nat.le_refl _)]
                simp
            · exact g as' H' v e ra' rv
          · exact g as' H' v e ra' rv
        · exact g as' H' v e ra' rv
    · exact g as' H' v e ra' rv
  | ex x A' =>
    intro as' H' d e ra' rx
    unfold Am.cut at g
    dsimp only at g
    split at g
    · rename_i ok
      obtain ⟨ht, rc⟩ := ra.cutA e ra' ok.1
      have e0 : Ex K as H as H' := ⟨⟨[], by simp⟩, e.kp⟩
      refine g as H' d e0 rc ?_
      unfold RX at rx ⊢
      split at rx
      · exact rx
      · obtain ⟨dx, vs, h1, h2, h3⟩ := rx
        have h4 := h3.fewer ok.2
        rw [ht] at h4
        exact ⟨dx, vs, h1, h2, h4⟩
    · exact g as' H' d e ra' rx
/-- a wrapped expression -/
noncomputable def mCut (a : ME) : ME := fun env A => cut A (a env A)
theorem je_cut {X : Cx} {a : Expr} {ma : ME} (h : JE X W a ma) : JE X W a (mCut ma) := pe_mono h fun σ H Q ⟨as, env, A, ra, re, g⟩ => ⟨as, env, A, ra, re, G.cut ra g⟩
end
/-! ### defs -/
def outR (r : RS) : R AV := match r with
  | .nx _ A => .ok .non A
  | .rt x A => .ok x A
  | .ex e _ A => .ex e A
  | _ => .bad
noncomputable def fdef (n l : Nat) (mb : MS) : List AV → Hx → R AV := fun xs A => if xs.length = n then cut A (outR (mb (xs.map some ++ List.replicate l none) A)) else .bad
def spA (K : PySem.W.Frag) (n : Nat) (m : List AV → Hx → R AV) : Sp := fun vs H Q E => vs.length = n ∧ ∃ as σ A xs, RA K as H A ∧ RVs K as H xs vs ∧ G K (fun c d _ H => E c d H) as H σ (RV K) (m xs A) Q
/-- room, and no repr under way -/
structure Rm (k : Nat) (A : Around) : Prop where
  r : Room k A
  g : A.guards = some []
theorem Rm.mono {j k : Nat} {A : Around} (r : Rm k A) (h : j ≤ k) : Rm j A := ⟨r.r.mono h, r.g⟩
theorem Rm.deeper {k : Nat} {A : Around} (r : Rm (k + 1) A) (env : Env) : Rm k (A.deeper env) := ⟨r.r.deeper env, r.g⟩
/-- what the def at f keeps, where no repr is under way -/
structure FnG (P : Program) (w : World) (K : PySem.W.Frag) (mg : Str → Option Value) (base : Heap) (T : CXT) (k : Nat) (f : Addr) (fd : FuncData) (ps : List Str) (sp : Sp) : Prop where
  len : ∀ {vs : List V} {H : Hp} {Q : VK} {E : XK}, sp vs H Q E → vs.length = ps.length
  run : ∀ {A : Around} {l : List Env} {s : Shared} {H : Hp} {g : Args} {us : List Value} {vs : List V} {Q : VK} {E : XK}, Rm k A → Env0 P w K mg base A l s H → BindsTo s fd g (ps.zip us) → Vals vs us → sp vs H Q E →
    codeAny (model P w) A (.call (.ref f) g) (CR T l P w H s Q E) s
structure OkA (P : Program) (w : World) (K : PySem.W.Frag) (mg : Str → Option Value) (base : Heap) (k : Nat) (f : Addr) (ps : List Str) (m : List AV → Hx → R AV) : Prop where
  ex : ∃ fd, FnG P w K mg base (L2.CX P w) k f fd ps (spA K ps.length m) ∧ Binds K fd ps []
  kp : PySem.W.keepIn K (.ref f) = true
  len : ∀ xs A, xs.length ≠ ps.length → m xs A = .bad
theorem re_start {K : PySem.W.Frag} {as : List Addr} {H : Hp} {N : List Str} {xs : List AV} {vs : List V} (r : RVs K as H xs vs) {l : Nat} (hl : N.length - xs.length = l) : RE K as H (xs.map some ++ List.replicate l none) (L2.start N vs) := by
  have e := r.length
  refine ⟨by unfold L2.start; simp [e, ← hl], fun i x h => ?_⟩
  by_cases hi : i < xs.length
  · rw [List.getElem?_append_left (by simpa using hi), List.getElem?_map] at h
    obtain ⟨y, hy, q⟩ := Option.map_eq_some_iff.mp h
    cases q
    obtain ⟨v, hv, rv⟩ := r.get hy
    refine ⟨v, ?_, rv⟩
    unfold L2.start
    rw [List.getElem?_append_left (by simp; omega), List.getElem?_map, hv]
    rfl
  · rw [List.getElem?_append_right (by simp; omega), List.getElem?_replicate] at h
    split at h
    · cases h
    · cases h
section
variable {P : Program} {w : World} {K : PySem.W.Frag} {mg : Str → Option Value} {base : Heap}
/-- a def of the text keeps its promise if its body does -/
theorem fnG_of {T : CXT} {x qual : Str} {st : Stmt} {f : Addr} {fd : FuncData} {N ps : List Str} {k : Nat} {sp : Sp} (F : Fun K x qual st f fd) (S : FnScope N ps (defScope st)) (hl : ∀ {vs : List V} {H : Hp} {Q : VK} {E : XK}, sp vs H Q E → vs.length = ps.length)
    (hbody : ∀ (cdv : Value) (A : Around) (l : List Env) (s : Shared) (H : Hp) (vs : List V) (Q : VK) (E : XK), Rm k (A.deeper (envOfC qual (defScope st) s.heap.objs.size f cdv)) → sp vs H Q E →
      ∃ t, PSs (cxOf T P w K mg base N qual (defScope st) f cdv A l s H E) (defBody st) t ∧ t { nx := fun _ H1 => Q .non H1, rt := Q } (L2.start N vs) H) : FnG P w K mg base T (k + 1) f fd ps sp := by
  obtain ⟨oc, od, kV, doc, pm, an, cdv, ct, osl, rfl, look, code⟩ := F.ex
  refine ⟨hl, fun {A l s H g us vs Q E} room e0 bnd rv told => ?_⟩
  have kin : K.In s.heap := e0.mod.kin.keeps fun b o q => (e0.bs b o q).1
  have nolim : s.heap.NoLimit := e0.mod.nolimit.keeps fun b o q => (e0.bs b o q).1
  refine codeAny_call_function room.r.depth (kin _ _ look) rfl S.co S.gen rfl (PySem.W.codeRec_of kin code) (bnd _ _ _ _ ?_)
  refine wpAny_newFunctionEnv_cells S.kind (fun y hy => ?_) fun env same s1 inside => ?_
  · rcases S.par y.1 (List.of_mem_zip hy).1 with q | q
    · exact .inl q
    · exact .inr ⟨q, PySem.W.cellsFrom_some _ _ _ (.inl q)⟩
  · subst same
    refine ⟨nolim.keeps inside.toInCall.keep, codeAny_func ?_⟩
    obtain ⟨t, body, begin⟩ := hbody cdv A l s H vs Q E (room.deeper _) told
    refine wpAny_mono (body.run [] s1 _ H _ (inv_start S room.r.hd e0 (hl told) rv inside) begin) (fun fl s2 end2 => ?_) fun _ _ q => q
    cases fl with
    | ret u =>
      obtain ⟨v, σ2, H2, J, r2, q2⟩ := end2
      exact ⟨v, H2, J.os, J.bare, J.base, J.hok, r2, q2⟩
    | next =>
      obtain ⟨σ2, H2, J, q2⟩ := end2
      exact ⟨.non, H2, J.os, J.bare, J.base, J.hok, rfl, q2⟩
    | brk =>
      obtain ⟨_, _, _, q2⟩ := end2
      exact q2.elim
    | cont =>
      obtain ⟨_, _, _, q2⟩ := end2
      exact q2.elim
theorem ok_defF {fd : FuncData} {x qual : Str} {st : Stmt} {f : Addr} {N ps : List Str} {k n l : Nat} {mb : MS} (F : Fun K x qual st f fd) (S : FnScope N ps (defScope st)) (hn : ps.length = n) (hl : N.length - n = l)
    (hb : ∀ (kV doc pm : Value) (an : Option Addr) (cdv ct : Value) (us : List Value), us.length = ps.length → bindArgs (PySem.W.fnOf x qual (defArgs st) (defBody st) (defScope st) .none kV doc pm an cdv ct) ⟨us, []⟩ = pure (ps.zip us))
    (hbody : ∀ (cdv : Value) (A : Around) (outer : List Env) (s : Shared) (H : Hp) (E : XK), Rm k (A.deeper (envOfC qual (defScope st) s.heap.objs.size f cdv)) →
      JSs (cxOf (L2.CX P w) P w K mg base N qual (defScope st) f cdv A outer s H E) (fun c d _ H => E c d H) (defBody st) mb) : FnG P w K mg base (L2.CX P w) (k + 1) f fd ps (spA K ps.length (fdef n l mb)) ∧ Binds K fd ps [] ∧ ∀ xs A, xs.length ≠ ps.length → fdef n l mb xs A = .bad := by
  refine ⟨fnG_of F S (fun h => h.1) (fun cdv A outer s H vs Q E hr h => ?_), F.binds hb, fun xs A h => ?_⟩
  · obtain ⟨hv, as, σ, A', xs, ra, rx, g⟩ := h
    refine ⟨_, hbody cdv A outer s H E hr, as, _, A', ra, re_start (N := N) (l := l) rx (by rw [rx.length, hv, hn]; exact hl), ?_⟩
    unfold fdef at g
    split at g
    · have g2 := G.cut ra g
      show GS K _ as H _ _
      cases em : mb (xs.map some ++ List.replicate l none) A' with
      | nx env B =>
        rw [em] at g2
        exact fun as' H' σ' e ra' re' => g2 as' H' .non e ra' .non
      | rt y B =>
        rw [em] at g2
        exact g2
      | ex y env B =>
        rw [em] at g2
        exact fun as' H' σ' d e ra' re' rx' => g2 as' H' d e ra' rx'
      | bk env B => rw [em] at g2; exact g2.elim
      | ct env B => rw [em] at g2; exact g2.elim
      | bad => rw [em] at g2; exact g2.elim
    · exact g.elim
  · unfold fdef
    rw [if_neg (by rw [← hn]; exact h)]
theorem ok_def {x qual : Str} {st : Stmt} {f : Addr} {N ps : List Str} {k n l : Nat} {mb : MS} (F : ∃ fd, Fun K x qual st f fd) (S : FnScope N ps (defScope st)) (hn : ps.length = n) (hl : N.length - n = l)
    (hb : ∀ (kV doc pm : Value) (an : Option Addr) (cdv ct : Value) (us : List Value), us.length = ps.length → bindArgs (PySem.W.fnOf x qual (defArgs st) (defBody st) (defScope st) .none kV doc pm an cdv ct) ⟨us, []⟩ = pure (ps.zip us))
    (hbody : ∀ (cdv : Value) (A : Around) (outer : List Env) (s : Shared) (H : Hp) (E : XK), Rm k (A.deeper (envOfC qual (defScope st) s.heap.objs.size f cdv)) →
      JSs (cxOf (L2.CX P w) P w K mg base N qual (defScope st) f cdv A outer s H E) (fun c d _ H => E c d H) (defBody st) mb) : OkA P w K mg base (k + 1) f ps (fdef n l mb) := by
  obtain ⟨fd, F⟩ := F
  obtain ⟨h1, h2, h3⟩ := ok_defF (mb := mb) F S hn hl hb hbody
  exact ⟨⟨fd, h1, h2⟩, F.kp, h3⟩
end
/-- a call in a body -/
theorem run_fnG {X : Cx} {T : CXT} {k : Nat} {f : Addr} {fd : FuncData} {ps : List Str} {sp : Sp} {pins : List (Addr × Obj)} {σ : L2.St} {H : Hp} {s : Shared} {Q : VK} {E : XK} {us : List Value} {vs : List V} (F : FnG X.prog X.w X.K X.mg X.base T k f fd ps sp) (room : Rm k X.A) (bnd : Binds X.K fd ps [])
    (ps_ : PassesAt T X σ E) (I : Inv X pins σ H s) (rv : Vals vs us) (told : sp vs H Q E) : wpAny (model X.prog X.w) X.A (call (.ref f) us) (EP X pins σ Q) X.xe s := by
  have hl : (us ++ []).length = ps.length := by
    rw [List.append_nil, ← rv.length]
    exact F.len told
  have b := bnd s us I.kIn hl
  rw [List.append_nil] at b
  refine wpAny_call (codeAny_mono (F.run room I.env0 b rv told) fun r s2 q => ?_)
  cases r with
  | error e => exact ps_ pins H s e s2 I q
  | ok fl =>
    cases fl with
    | ret u => exact I.after q
    | _ => exact q.elim
section
variable {X : Cx} {W : WX} {k : Nat} {f : Addr} {ps : List Str} {m : List AV → Hx → R AV} {x : Str} {p pos : Pos} {e : Expr} {es : List Expr} {ms : MA}
theorem je_call (F : OkA X.prog X.w X.K X.mg X.base k f ps m) (hr : Rm k X.A) (hg : Gl X x) (hm : X.mg x = some (.ref f)) (tk : Takes X W)
    (ha : JA X W (e :: es) ms) (hdb : (x == ("__debug__" : Str)) = false := by decide) (he : starEach (e :: es) X.env = (false, eval e X.env) :: starEach es X.env := by rfl) (hpl : (backTo pos (starEach es X.env)).any (·.1) = false := by rfl) :
    JE X W (.Call (.Name x p) (e :: es) [] pos) (mCB m ms) := by
  obtain ⟨⟨fd, F1, F2⟩, kp, hl⟩ := F
  refine ⟨fun pins s σ H Q I ⟨as, env, A, ra, re, g⟩ => ?_⟩
  refine wpAny_Call_Name_kw (ld_glob I hg hm ?_ hdb)
  refine PySem.W.callWith_K (h₀ := X.base) I.ok.mod.kin kp (thn (ha.run pos pins s σ H (fun vs H1 => spA X.K ps.length m vs H1 Q (WE W σ)) I ⟨as, env, A, ra, re, G.bind g fun y A1 as1 H1 v e0 e1 ra1 rx g1 => ?_⟩) fun us s1 ⟨vs, H1, I1, r, q⟩ => ⟨I1.kIn, run_fnG F1 hr F2 (passAt tk σ) I1 r q⟩) he hpl
  refine ⟨?_, as1, σ, A1, y, ra1, rx, G.wish g1⟩
  rw [← rx.length]
  by_cases hh : y.length = ps.length
  · exact hh
  · rw [hl y A1 hh] at g1
    exact g1.elim
theorem je_call0 (F : OkA X.prog X.w X.K X.mg X.base k f [] m) (hr : Rm k X.A) (hg : Gl X x) (hm : X.mg x = some (.ref f)) (tk : Takes X W)
    (hdb : (x == ("__debug__" : Str)) = false := by decide) : JE X W (.Call (.Name x p) [] [] pos) (mCB m mNil) := by
  obtain ⟨⟨fd, F1, F2⟩, kp, hl⟩ := F
  refine ⟨fun pins s σ H Q I ⟨as, env, A, ra, re, g⟩ => ?_⟩
  refine wpAny_Call_Name_kw (ld_glob I hg hm ?_ hdb)
  exact PySem.W.callWith_K0 I.kIn kp (run_fnG (us := []) F1 hr F2 (passAt tk σ) I .nil ⟨rfl, as, σ, A, [], ra, .nil, G.wish g⟩)
/-- a body that calls nothing that raises, from a weaker context -/
theorem takesF : Takes X WF := takes0
end
/-! ### the law's own call -/
/-- the heap in which the script alone is known, if it is no object of the module -/
def onlyS (K : PySem.W.Frag) (a : Addr) (ob : Obj) (ns : List Int) : Hp := fun b => if b = a ∧ K.lookup a = none then some (.frz ob (.lst (ns.map V.int))) else none
theorem lawG {P : Program} {w : World} {K : PySem.W.Frag} {mg mb : Str → Option Value} {k : Nat} {fa a : Addr} {fd : FuncData} {x : Str} {m : List AV → Hx → R AV} {s : Shared} {vs : List Value} {ns : List Int}
    (kin : K.In s.heap) (hmg : s.heap.Ns mainGlobals mg) (hmb : s.heap.Ns builtinsNs mb) (boot : ∀ y : Str, y ≠ "__name__" → mb y = bootBuiltins y) (nolim : s.heap.NoLimit) (nogen : s.gens = #[])
    (at_ : s.heap.get? a = some { cls := .type "list", data := .seq vs.toArray }) (isI : IntsAre vs ns) (few : ns.length ≤ sizeLine) (room : Rm k callerA)
    (F : ∀ base : Heap, K.In base → base.Ns mainGlobals mg → FnG P w K mg base (L2.CX P w) k fa fd [x] (spA K 1 m)) (bnd : ∀ (s : Shared) (u : Value), BindsTo s fd ⟨[u], []⟩ [(x, u)])
    (goal : ∃ A, m [.cst (ns.map AV.int)] [] = .ok (.bl true) A) :
    codeAny (model P w) callerA (.call (.ref fa) ⟨[.ref a], []⟩) (fun r s' => r = .ok (.ret (.bool true)) ∧ OldK s.heap s'.heap ∧ s'.os = s.os ∧ AllBare s'.gens) s := by
  have rv : Vals (ns.map V.int) vs := vals_ints isI
  have lv := isI.length
  generalize eob : ({ cls := .type "list", data := .seq vs.toArray } : Obj) = ob at at_
  have H_ne : ∀ b u, onlyS K a ob ns b = some u → b = a ∧ K.lookup a = none ∧ u = .frz ob (.lst (ns.map V.int)) := fun b u q => by
    unfold onlyS at q
    split at q
    · rename_i c
      cases q
      exact ⟨c.1, c.2, rfl⟩
    · cases q
  have hok : HOk P w (onlyS K a ob ns) s.heap := fun b u q => by
    obtain ⟨rfl, _, rfl⟩ := H_ne b u q
    refine ⟨at_, by rw [List.length_map]; exact few, vs, 0, rv, ?_⟩
    rw [at_, ← eob]
  have keepB : ∀ {b : Addr} {o : Obj}, s.heap.get? b = some o → onlyS K a ob ns b = none → (hidT s.heap (onlyS K a ob ns)).get? b = some o := fun e n => hidT_get e n
  have dictB : ∀ {b : Addr} {o : Obj} {es : Array DictEntry} {ep : Nat}, s.heap.get? b = some o → o.data = .dict es ep → onlyS K a ob ns b = none := fun {b o es ep} e d => by
    cases q : onlyS K a ob ns b with
    | none => rfl
    | some u =>
      obtain ⟨rfl, _, _⟩ := H_ne b u q
      rw [at_] at e
      cases e
      rw [← eob] at d
      cases d
  have nsB : ∀ {b : Addr} {f : Str → Option Value}, s.heap.Ns b f → (hidT s.heap (onlyS K a ob ns)).Ns b f := fun {b f} ⟨o, es, ep, e, d, r⟩ => ⟨o, es, ep, keepB e (dictB e d), d, r⟩
  have kinB : K.In (hidT s.heap (onlyS K a ob ns)) := fun b o e => keepB (kin b o e) (by
    cases q : onlyS K a ob ns b with
    | none => rfl
    | some u =>
      obtain ⟨rfl, z, _⟩ := H_ne b u q
      rw [z] at e
      cases e)
  obtain ⟨ml, nl1, nl2⟩ := id nolim
  have mod : Mod K mg (hidT s.heap (onlyS K a ob ns)) := ⟨kinB, nsB hmg, ⟨mb, nsB hmb, boot⟩, ⟨ml, nsB nl1, nl2⟩⟩
  have e0 : Env0 P w K mg (hidT s.heap (onlyS K a ob ns)) callerA [] s (onlyS K a ob ns) := ⟨rfl, mod, fun b o e => of_hidT e, Nat.le_of_eq (hidT_size _ _), trivial, fun b hb => (List.not_mem_nil hb).elim, hok, .of_eq nogen⟩
  have fx : FxL K (onlyS K a ob ns) a (ns.map V.int) := by
    cases q : K.lookup a with
    | none => exact .inl ⟨ob, by unfold onlyS; rw [if_pos ⟨rfl, q⟩]⟩
    | some o =>
      have e := kin a o q
      rw [at_] at e
      cases e
      refine .inr ⟨_, vs.toArray, 0, q, ?_, ?_, ?_, by rw [List.size_toArray, lv]; exact few, by simpa using rv⟩ <;> rw [← eob]
  have rx : RVs K [] (onlyS K a ob ns) (ns.map AV.int) (ns.map V.int) := by
    clear goal rv few lv isI fx e0 mod kinB nsB dictB keepB hok H_ne
    generalize onlyS K a ob ns = H
    induction ns with
    | nil => exact .nil
    | cons n r ih => exact .cons (.int n) ih
  obtain ⟨A', eg⟩ := goal
  have told : spA K 1 m [.ref a] (onlyS K a ob ns) (fun v H' => v = .bl true ∧ ∀ b u, onlyS K a ob ns b = some u → True) (fun _ _ _ => False) :=
    ⟨rfl, [], [], [], [.cst (ns.map AV.int)], ⟨rfl, .nil, fun n b o e _ => by simp at e⟩, .cons (.cst fx rx) .nil, by
      rw [eg]
      intro as' H' v _ _ r
      cases r
      exact ⟨rfl, fun _ _ _ => trivial⟩⟩
  refine codeAny_mono ((F _ kinB (nsB hmg)).run room e0 (us := [.ref a]) (vs := [.ref a]) (bnd s (.ref a)) (.cons rfl .nil) told) fun r s' q => ?_
  cases r with
  | error e =>
    obtain ⟨_, _, _, _, _, _, _, _, _, _, _, _, z⟩ := q
    exact z.elim
  | ok fl =>
    cases fl with
    | next => exact q.elim
    | brk => exact q.elim
    | cont => exact q.elim
    | ret u =>
      obtain ⟨v, H', os, bare, un, hok', r', rfl, _⟩ := q
      cases r'
      refine ⟨rfl, OldK.of_keep fun b o e => ?_, os, bare⟩
      cases q : onlyS K a ob ns b with
      | none => exact un.keep b o e q List.not_mem_nil List.not_mem_nil
      | some u =>
        obtain ⟨rfl, _, rfl⟩ := H_ne b u q
        have e2 := (hok' b _ (un.frzs b _ _ q)).1
        rw [at_] at e
        cases e
        exact e2
/-- the goal that the head leaves -/
theorem walkG {l : PySem.W.OpenLaw} {n k : Nat} {q : Program} {loose : List Str} {XP : (Str → Option Value) → Heap → Prop} {YP : World → Heap → Prop} {d : DefRec} {K : Params → PySem.W.Frag} {x : Str} {m : World → (Str → Option Value) → List AV → Hx → R AV}
    (h1 : l.most = some n) (h2 : n ≤ sizeLine) (h3 : d.params.defaults = []) (room : Rm k callerA) (hY : ∀ (w : World) (h : Heap), YP w h → (K w.params).In h)
    (F : ∀ (w : World) (mg : Str → Option Value) (fa : Addr) (h : Heap), (K w.params).In h → h.Ns mainGlobals mg → mg d.name = some (.ref fa) → ∃ fd : FuncData, (∀ (s : Shared) (u : Value), BindsTo s fd ⟨[u], []⟩ [(x, u)]) ∧
      ∀ base : Heap, (K w.params).In base → base.Ns mainGlobals mg → FnG l.prog w (K w.params) mg base (L2.CX l.prog w) k fa fd [x] (spA (K w.params) 1 (m w mg)))
    (goal : ∀ (w : World) (mg : Str → Option Value) (ns : List Int), ns.length ≤ n → ∃ A, m w mg [.cst (ns.map AV.int)] [] = .ok (.bl true) A) : PySem.W.WalkO q loose XP YP l.row.toRowW d [] (fun f vs => PySem.call f vs) := by
  refine Att.attach_call h1 h3 fun w s0 s mg mb fa o pm cd doc a vs ns G Y _ _ _ hmg at_ isI few gens => ?_
  obtain ⟨fd, bnd, hF⟩ := F w mg fa _ (hY w _ Y) G.T.g hmg
  exact lawG (hY w _ Y) G.T.g G.T.b G.T.builtins G.T.nolimit gens at_ isI (Nat.le_trans few h2) room hF bnd (goal w mg ns few)
end Am

set_option Elab.async false
set_option linter.all false
set_option maxRecDepth 100000
set_option maxHeartbeats 4000000
/-! Am7: what is built in. -/
namespace Am
open PySem PySem.Spec PyProof.Rows L2
section
variable {X : Cx} {W : WX} {K : PySem.W.Frag} {as : List Addr} {H : Hp} {A : Hx}
theorem loc_new {p : Addr} (ra : RA K as H A) : (as ++ [p])[A.length]? = some p := by
  rw [← ra.len, List.getElem?_append_right (Nat.le_refl _)]
  simp
/-- a new list -/
theorem new_lst {σ : L2.St} {Q : VK} {xs : List AV} {vs : List V} {p : Addr} (ra : RA K as H A) (r : RVs K as H xs vs) (hp : H p = none) (g : G K W as H σ (RV K) (.ok (.loc A.length) (A ++ [.lst xs])) Q) : Q (.ref p) (upd H p (.lst vs)) :=
  g (as ++ [p]) _ (.ref p) (ex_push hp) (ra.push hp ⟨vs, upd_same, r.ex (ex_push hp)⟩) (.loc (loc_new ra))
/-- a new tuple -/
theorem new_tup {σ : L2.St} {Q : VK} {xs : List AV} {vs : List V} {p : Addr} (ra : RA K as H A) (r : RVs K as H xs vs) (hp : H p = none) (g : G K W as H σ (RV K) (.ok (.tup xs) A) Q) : Q (.ref p) (upd H p (.tup vs)) :=
  g as _ (.ref p) (ex_new hp) (ra.new hp) (.tup (.inl (.inl upd_same)) (r.ex (ex_new hp)))

/-! ### len -/
def oLen (xs : List AV) (A : Hx) : R AV := match xs with
  | [.str s] => if s.length ≤ sizeLine then .ok (.int s.length) A else .bad
  | [.tup ts] => .ok (.int ts.length) A
  | [x] => (match listOf A x with
    | some ys => .ok (.int ys.length) A
    | none => .bad)
  | _ => .bad
theorem ca_len : CallA X (.builtin "len") oLen := by
  rintro pins s σ H vs us Q I r ⟨W, σ', as, A, xs, ra, rx, g⟩
  unfold oLen at g
  split at g
  · cases rx with
    | cons r1 rr =>
    cases rr
    cases r1
    split at g
    · rename_i h
      exact call_len_str pins s σ H _ us Q I r ⟨_, rfl, h, fin1 ra g (.int _)⟩
    · exact g.elim
  · cases rx with
    | cons r1 rr =>
    cases rr
    cases r1 with
    | tup h1 r1 => exact call_len_seq pins s σ H _ us Q I r ⟨_, _, rfl, .inr h1, fin1 ra g (by rw [r1.length]; exact .int _)⟩
  · cases rx with
    | cons r1 rr =>
    cases rr
    split at g
    · rename_i e
      obtain ⟨p, ws, rfl, hl, rl⟩ := listOf_ok ra r1 e
      exact call_len_seq pins s σ H _ us Q I r ⟨_, _, rfl, .inl hl, fin1 ra g (by rw [rl.length]; exact .int _)⟩
    · exact g.elim
  · exact g.elim

/-! ### isinstance -/
def tyN (A : Hx) (x : AV) : Option String := match x with
  | .non => some "NoneType"
  | .bl _ => some "bool"
  | .int _ => some "int"
  | .str _ => some "str"
  | .tup _ => some "tuple"
  | .cst _ => some "list"
  | .loc n => (match A[n]? with
    | some (.lst _) => some "list"
    | some (.dct _) => some "dict"
    | _ => none)
  | _ => none
/-- one built-in class is (beneath) another -/
def subN (a b : String) : Bool := a == b || (a == "bool" && b == "int")
def knownN (b : String) : Bool := ["int", "bool", "str", "tuple", "list", "dict"].contains b
def oIsi (xs : List AV) (A : Hx) : R AV := match xs with
  | [x, .ty b] => (match tyN A x with
    | some a => if knownN b = true then .ok (.bl (subN a b)) A else .bad
    | none => .bad)
  | _ => .bad
theorem kitB_all : ∀ a, a ∈ ["NoneType", "bool", "int", "str", "tuple", "list", "dict"] → ∀ b, b ∈ ["int", "bool", "str", "tuple", "list", "dict"] → kitB a b = some (subN a b) := by
  decide +kernel
theorem tyN_ok {x : AV} {v : V} {a : String} (ra : RA K as H A) (rx : RV K as H x v) (e : tyN A x = some a) : TyX K H v (.type a) ∧ a ∈ ["NoneType", "bool", "int", "str", "tuple", "list", "dict"] := by
  cases rx with
  | non => cases e; exact ⟨.base .non, by decide⟩
  | bl b => cases e; exact ⟨.base (.bl b), by decide⟩
  | int b => cases e; exact ⟨.base (.int b), by decide⟩
  | str b => cases e; exact ⟨.base (.str b), by decide⟩
  | ty b => cases e
  | st b => cases e
  | tup h r =>
    cases e
    refine ⟨?_, by decide⟩
    rcases h with (h | ⟨o, h⟩) | ⟨o, its, n, h, c, _⟩
    · exact .base (.tup h)
    · exact .fTuple h
    · exact .kTuple h c
  | cst h r =>
    cases e
    refine ⟨?_, by decide⟩
    rcases h with ⟨o, h⟩ | ⟨o, its, n, h, c, _⟩
    · exact .base (.frz h)
    · exact .kList h c
  | loc h =>
    unfold tyN at e
    dsimp only at e
    split at e
    · rename_i q
      cases e
      obtain ⟨vs, hv, rv⟩ := ra.ob _ _ _ h q
      exact ⟨.base (.lst hv), by decide⟩
    · rename_i q
      cases e
      rcases ra.ob _ _ _ h q with ⟨vs, hv, rv⟩ | ⟨vs, hv, rv⟩
      · exact ⟨.base (.dK hv), by decide⟩
      · exact ⟨.base (.dT hv), by decide⟩
    · cases e
theorem ca_isi : CallA X (.builtin "isinstance") oIsi := by
  rintro pins s σ H vs us Q I r ⟨W, σ', as, A, xs, ra, rx, g⟩
  unfold oIsi at g
  split at g
  · cases rx with
    | cons r1 rr =>
    cases rr with
    | cons r2 rr =>
    cases rr
    cases r2
    split at g
    · rename_i e
      split at g
      · rename_i kb
        obtain ⟨ty, ma⟩ := tyN_ok ra r1 e
        exact call_isi pins s σ H _ us Q I r ⟨_, _, _, _, _, rfl, .ty _, ty, kit_ty (kitB_all _ ma _ (by simpa [knownN] using kb)), fin1 ra g (.bl _)⟩
      · exact g.elim
    · exact g.elim
  · exact g.elim

/-! ### all, any, sum, max, min -/
def blsOf : List AV → Option (List Bool)
  | [] => some []
  | .bl b :: r => (blsOf r).map (b :: ·)
  | _ => none
def intsOf : List AV → Option (List Int)
  | [] => some []
  | .int b :: r => (intsOf r).map (b :: ·)
  | _ => none
theorem blsOf_ok : ∀ {xs : List AV} {vs : List V} {bs : List Bool}, RVs K as H xs vs → blsOf xs = some bs → vs = bs.map V.bl
  | _, _, _, .nil, e => by cases e; rfl
  | _, _, _, .cons h r, e => by
    cases h with
    | bl b =>
      simp only [blsOf] at e
      obtain ⟨l, e1, rfl⟩ := Option.map_eq_some_iff.mp e
      rw [blsOf_ok r e1]
      rfl
    | _ => cases e
theorem intsOf_ok : ∀ {xs : List AV} {vs : List V} {bs : List Int}, RVs K as H xs vs → intsOf xs = some bs → vs = bs.map V.int
  | _, _, _, .nil, e => by cases e; rfl
  | _, _, _, .cons h r, e => by
    cases h with
    | int b =>
      simp only [intsOf] at e
      obtain ⟨l, e1, rfl⟩ := Option.map_eq_some_iff.mp e
      rw [intsOf_ok r e1]
      rfl
    | _ => cases e
@[simp] theorem blsOf_map (bs : List Bool) : blsOf (bs.map AV.bl) = some bs := by
  induction bs with
  | nil => rfl
  | cons b r ih => simp [blsOf, ih]
@[simp] theorem intsOf_map (bs : List Int) : intsOf (bs.map AV.int) = some bs := by
  induction bs with
  | nil => rfl
  | cons b r ih => simp [intsOf, ih]
def oAll (xs : List AV) (A : Hx) : R AV := match xs with
  | [x] => (match (listOf A x).bind blsOf with
    | some bs => .ok (.bl (bs.all id)) A
    | none => .bad)
  | _ => .bad
def oAny (xs : List AV) (A : Hx) : R AV := match xs with
  | [x] => (match (listOf A x).bind blsOf with
    | some bs => .ok (.bl (bs.any id)) A
    | none => .bad)
  | _ => .bad
def oSum (xs : List AV) (A : Hx) : R AV := match xs with
  | [x] => (match (listOf A x).bind intsOf with
    | some bs => .ok (.int bs.sum) A
    | none => .bad)
  | _ => .bad
def maxI : List Int → Int
  | [] => 0
  | [x] => x
  | x :: r => max x (maxI r)
def minI : List Int → Int
  | [] => 0
  | [x] => x
  | x :: r => min x (minI r)
theorem maxI_mem : ∀ {ns : List Int}, ns ≠ [] → maxI ns ∈ ns ∧ ∀ y, y ∈ ns → y ≤ maxI ns
  | [], h => absurd rfl h
  | [x], _ => ⟨by simp [maxI], by simp [maxI]⟩
  | x :: y :: r, _ => by
    obtain ⟨h1, h2⟩ := maxI_mem (ns := y :: r) (by simp)
    have e : maxI (x :: y :: r) = max x (maxI (y :: r)) := rfl
    rw [e]
    refine ⟨?_, fun z hz => ?_⟩
    · by_cases h : x ≤ maxI (y :: r)
      · rw [Int.max_eq_right h]
        exact List.mem_cons_of_mem _ h1
      · rw [Int.max_eq_left (by omega)]
        exact List.mem_cons_self
    · rcases List.mem_cons.mp hz with rfl | hz
      · omega
      · have := h2 z hz
        omega
theorem minI_mem : ∀ {ns : List Int}, ns ≠ [] → minI ns ∈ ns ∧ ∀ y, y ∈ ns → minI ns ≤ y
  | [], h => absurd rfl h
  | [x], _ => ⟨by simp [minI], by simp [minI]⟩
  | x :: y :: r, _ => by
    obtain ⟨h1, h2⟩ := minI_mem (ns := y :: r) (by simp)
    have e : minI (x :: y :: r) = min x (minI (y :: r)) := rfl
    rw [e]
    refine ⟨?_, fun z hz => ?_⟩
    · by_cases h : x ≤ minI (y :: r)
      · rw [Int.min_eq_left h]
        exact List.mem_cons_self
      · rw [Int.min_eq_right (by omega)]
        exact List.mem_cons_of_mem _ h1
    · rcases List.mem_cons.mp hz with rfl | hz
      · omega
      · have := h2 z hz
        omega
def oMax (xs : List AV) (A : Hx) : R AV := match xs with
  | [.int i, .int j] => .ok (.int (if j > i then j else i)) A
  | [x] => (match (listOf A x).bind intsOf with
    | some bs => if bs ≠ [] then .ok (.int (maxI bs)) A else .bad
    | none => .bad)
  | _ => .bad
def oMin (xs : List AV) (A : Hx) : R AV := match xs with
  | [.int i, .int j] => .ok (.int (if j < i then j else i)) A
  | [x] => (match (listOf A x).bind intsOf with
    | some bs => if bs ≠ [] then .ok (.int (minI bs)) A else .bad
    | none => .bad)
  | _ => .bad
theorem bind_lst {α : Type} {x : AV} {f : List AV → Option α} {y : α} (e : (listOf A x).bind f = some y) : ∃ xs, listOf A x = some xs ∧ f xs = some y := Option.bind_eq_some_iff.mp e
theorem ca_all (hc : X.calm = true) : CallA X (.builtin "all") oAll := by
  rintro pins s σ H vs us Q I r ⟨W, σ', as, A, xs, ra, rx, g⟩
  unfold oAll at g
  split at g
  · cases rx with
    | cons r1 rr =>
    cases rr
    split at g
    · rename_i e
      obtain ⟨ys, e1, e2⟩ := bind_lst e
      obtain ⟨p, ws, rfl, hl, rl⟩ := listOf_ok ra r1 e1
      rw [blsOf_ok rl e2] at hl
      exact cr_all hc pins s σ H _ us Q I r ⟨_, _, rfl, hl, fin1 ra g (.bl _)⟩
    · exact g.elim
  · exact g.elim
theorem ca_any (hc : X.calm = true) : CallA X (.builtin "any") oAny := by
  rintro pins s σ H vs us Q I r ⟨W, σ', as, A, xs, ra, rx, g⟩
  unfold oAny at g
  split at g
  · cases rx with
    | cons r1 rr =>
    cases rr
    split at g
    · rename_i e
      obtain ⟨ys, e1, e2⟩ := bind_lst e
      obtain ⟨p, ws, rfl, hl, rl⟩ := listOf_ok ra r1 e1
      rw [blsOf_ok rl e2] at hl
      exact cr_any hc pins s σ H _ us Q I r ⟨_, _, rfl, hl, fin1 ra g (.bl _)⟩
    · exact g.elim
  · exact g.elim
theorem ca_sum (hc : X.calm = true) : CallA X (.builtin "sum") oSum := by
  rintro pins s σ H vs us Q I r ⟨W, σ', as, A, xs, ra, rx, g⟩
  unfold oSum at g
  split at g
  · cases rx with
    | cons r1 rr =>
    cases rr
    split at g
    · rename_i e
      obtain ⟨ys, e1, e2⟩ := bind_lst e
      obtain ⟨p, ws, rfl, hl, rl⟩ := listOf_ok ra r1 e1
      rw [intsOf_ok rl e2] at hl
      exact cr_sum hc pins s σ H _ us Q I r ⟨_, _, rfl, hl, fin1 ra g (.int _)⟩
    · exact g.elim
  · exact g.elim
theorem ca_max (hc : X.calm = true) : CallA X (.builtin "max") oMax := by
  rintro pins s σ H vs us Q I r ⟨W, σ', as, A, xs, ra, rx, g⟩
  unfold oMax at g
  split at g
  · cases rx with
    | cons r1 rr =>
    cases rr with
    | cons r2 rr =>
    cases rr
    cases r1
    cases r2
    exact call_max2 hc pins s σ H _ us Q I r ⟨_, _, rfl, fin1 ra g (.int _)⟩
  · cases rx with
    | cons r1 rr =>
    cases rr
    split at g
    · rename_i e
      split at g
      · rename_i hne
        obtain ⟨ys, e1, e2⟩ := bind_lst e
        obtain ⟨p, ws, rfl, hl, rl⟩ := listOf_ok ra r1 e1
        rw [intsOf_ok rl e2] at hl
        refine cr_max hc pins s σ H _ us Q I r ⟨_, _, rfl, hl, List.length_pos_iff.mpr hne, fun m h1 h2 => ?_⟩
        obtain ⟨h3, h4⟩ := maxI_mem hne
        have : m = maxI _ := Int.le_antisymm (h4 m h1) (h2 _ h3)
        rw [this]
        exact fin1 ra g (.int _)
      · exact g.elim
    · exact g.elim
  · exact g.elim
theorem ca_min (hc : X.calm = true) : CallA X (.builtin "min") oMin := by
  rintro pins s σ H vs us Q I r ⟨W, σ', as, A, xs, ra, rx, g⟩
  unfold oMin at g
  split at g
  · cases rx with
    | cons r1 rr =>
    cases rr with
    | cons r2 rr =>
    cases rr
    cases r1
    cases r2
    exact call_min2 hc pins s σ H _ us Q I r ⟨_, _, rfl, fin1 ra g (.int _)⟩
  · cases rx with
    | cons r1 rr =>
    cases rr
    split at g
    · rename_i e
      split at g
      · rename_i hne
        obtain ⟨ys, e1, e2⟩ := bind_lst e
        obtain ⟨p, ws, rfl, hl, rl⟩ := listOf_ok ra r1 e1
        rw [intsOf_ok rl e2] at hl
        refine cr_min hc pins s σ H _ us Q I r ⟨_, _, rfl, hl, List.length_pos_iff.mpr hne, fun m h1 h2 => ?_⟩
        obtain ⟨h3, h4⟩ := minI_mem hne
        have : m = minI _ := Int.le_antisymm (h2 _ h3) (h4 m h1)
        rw [this]
        exact fin1 ra g (.int _)
      · exact g.elim
    · exact g.elim
  · exact g.elim

/-! ### tuple(x), list(x), int(x), abs(x), divmod, repr -/
def oTuple (xs : List AV) (A : Hx) : R AV := match xs with
  | [.tup ts] => .ok (.tup ts) A
  | [x] => (match listOf A x with
    | some ys => .ok (.tup ys) A
    | none => .bad)
  | _ => .bad
theorem ca_tuple : CallA X (.type "tuple") oTuple := by
  rintro pins s σ H vs us Q I r ⟨W, σ', as, A, xs, ra, rx, g⟩
  unfold oTuple at g
  split at g
  · cases rx with
    | cons r1 rr =>
    cases rr
    cases r1 with
    | tup h1 r1 => exact call_tuple_of pins s σ H _ us Q I r ⟨_, _, rfl, .inr ⟨h1, fin1 ra g (.tup h1 r1)⟩⟩
  · cases rx with
    | cons r1 rr =>
    cases rr
    split at g
    · rename_i e
      obtain ⟨p, ws, rfl, hl, rl⟩ := listOf_ok ra r1 e
      exact call_tuple_of pins s σ H _ us Q I r ⟨_, _, rfl, .inl ⟨hl, fun l hn => new_tup ra rl hn g⟩⟩
    · exact g.elim
  · exact g.elim
def oList (xs : List AV) (A : Hx) : R AV := match xs with
  | [.tup ts] => .ok (.loc A.length) (A ++ [.lst ts])
  | [x] => (match listOf A x with
    | some ys => .ok (.loc A.length) (A ++ [.lst ys])
    | none => .bad)
  | _ => .bad
theorem ca_list : CallA X (.type "list") oList := by
  rintro pins s σ H vs us Q I r ⟨W, σ', as, A, xs, ra, rx, g⟩
  unfold oList at g
  split at g
  · cases rx with
    | cons r1 rr =>
    cases rr
    cases r1 with
    | tup h1 r1 => exact call_list_of pins s σ H _ us Q I r ⟨_, _, rfl, .inr h1, fun l hn => new_lst ra r1 hn g⟩
  · cases rx with
    | cons r1 rr =>
    cases rr
    split at g
    · rename_i e
      obtain ⟨p, ws, rfl, hl, rl⟩ := listOf_ok ra r1 e
      exact call_list_of pins s σ H _ us Q I r ⟨_, _, rfl, .inl hl, fun l hn => new_lst ra rl hn g⟩
    · exact g.elim
  · exact g.elim
def oInt (xs : List AV) (A : Hx) : R AV := match xs with
  | [.int i] => .ok (.int i) A
  | [.bl b] => .ok (.int (if b then 1 else 0)) A
  | _ => .bad
theorem ca_int : CallA X (.type "int") oInt := by
  rintro pins s σ H vs us Q I r ⟨W, σ', as, A, xs, ra, rx, g⟩
  unfold oInt at g
  split at g
  · cases rx with
    | cons r1 rr =>
    cases rr
    cases r1
    exact call_int1 pins s σ H _ us Q I r (.inl ⟨_, rfl, fin1 ra g (.int _)⟩)
  · cases rx with
    | cons r1 rr =>
    cases rr
    cases r1
    exact call_int1 pins s σ H _ us Q I r (.inr ⟨_, rfl, fin1 ra g (.int _)⟩)
  · exact g.elim
def oAbs (xs : List AV) (A : Hx) : R AV := match xs with
  | [.int i] => .ok (.int (if i < 0 then -i else i)) A
  | _ => .bad
theorem ca_abs : CallA X (.builtin "abs") oAbs := by
  rintro pins s σ H vs us Q I r ⟨W, σ', as, A, xs, ra, rx, g⟩
  unfold oAbs at g
  split at g
  · cases rx with
    | cons r1 rr =>
    cases rr
    cases r1
    exact call_abs pins s σ H _ us Q I r ⟨_, rfl, fin1 ra g (.int _)⟩
  · exact g.elim
def oDivmod (xs : List AV) (A : Hx) : R AV := match xs with
  | [.int i, .int j] => if 0 < j ∧ j < 1073741824 then .ok (.tup [.int (i / j), .int (i % j)]) A else .bad
  | _ => .bad
theorem ca_divmod : CallA X (.builtin "divmod") oDivmod := by
  rintro pins s σ H vs us Q I r ⟨W, σ', as, A, xs, ra, rx, g⟩
  unfold oDivmod at g
  split at g
  · cases rx with
    | cons r1 rr =>
    cases rr with
    | cons r2 rr =>
    cases rr
    cases r1
    cases r2
    split at g
    · rename_i h
      exact call_divmod pins s σ H _ us Q I r ⟨_, _, rfl, h, fun p hp => new_tup ra (.cons (.int _) (.cons (.int _) .nil)) hp g⟩
    · exact g.elim
  · exact g.elim
def shownA (A : Hx) (x : AV) : Option Str := match toD A 60 x with
  | some d => if d.showable = true ∧ d.hasDict = false ∧ d.shown.length ≤ sizeLine ∧ d.depth ≤ 60 then some d.shown else none
  | none => none
def oRepr (xs : List AV) (A : Hx) : R AV := match xs with
  | [x] => (match shownA A x with
    | some t => .ok (.str t) A
    | none => .bad)
  | _ => .bad
theorem ca_repr (hg : X.A.guards = some []) (hu : X.A.units + 64 < cLine) : CallA X (.builtin "repr") oRepr := by
  rintro pins s σ H vs us Q I r ⟨W, σ', as, A, xs, ra, rx, g⟩
  unfold oRepr at g
  split at g
  · cases rx with
    | cons r1 rr =>
    cases rr
    split at g
    · rename_i e
      unfold shownA at e
      split at e
      · rename_i d ed
        split at e
        · rename_i hs
          cases e
          obtain ⟨u, rfl, ru⟩ := vals1 r
          obtain ⟨bs, rd⟩ := Dp.reads I d _ u (toD_dp ra _ _ _ _ ed r1) ru
          obtain ⟨h1, h2, h3, h4⟩ := hs
          have q := fin1 ra g (.str _)
          have fin : ∀ h' tk t, (∀ b o, s.heap.get? b = some o → h'.get? b = some o) → EP X pins σ Q (.str d.shown t) { s with heap := h', toks := tk } := fun h' tk t k =>
            ⟨.str d.shown, H, I.kept k, ⟨t, rfl⟩, q⟩
          cases rd with
          | none => exact PySem.P.repr_of_none (by simpa [PyData.shown] using fin s.heap _ _ fun _ _ e => e)
          | bool b => exact PySem.P.repr_of_bool (by simpa [PyData.shown] using fin s.heap _ _ fun _ _ e => e)
          | int i t => exact PySem.P.repr_of_int (by simpa [PyData.showable] using h1) (by simpa [PyData.shown] using fin s.heap _ _ fun _ _ e => e)
          | str x t => exact PySem.P.repr_of_str (by simpa [PyData.shown] using fin s.heap _ _ fun _ _ e => e) (by simpa [PyData.shown] using h3)
          | list a1 a2 a3 a4 => exact repr_of_reads' (.list a1 a2 a3 a4) h1 (PyData.noDict_hsm h2) hg (by omega) (fun _ _ e => e) (fun h' t tk k => fin h' tk t k) h3
          | tuple a1 a2 a3 a4 => exact repr_of_reads' (.tuple a1 a2 a3 a4) h1 (PyData.noDict_hsm h2) hg (by omega) (fun _ _ e => e) (fun h' t tk k => fin h' tk t k) h3
          | dict a1 a2 a3 a4 a5 => simp [PyData.hasDict] at h2
        · cases e
      · cases e
    · exact g.elim
  · exact g.elim
/-! ### in -/
theorem anyD_ok {σ : L2.St} {d : PyData} {xs : List AV} {vs : List V} {Q : Bool → Hp → Prop} (ra : RA K as H A) (r : RVs K as H xs vs) (g : G K W as H σ rB (anyD A d xs) Q) :
    ∃ ds, DpAll K H vs ds ∧ SeqAt.shaped d = true ∧ SeqAt.shaped (.list ds) = true ∧ SeqAt.shaped (.tuple ds) = true ∧ Q (ds.any fun z => PyData.eqv z d) H := by
  unfold anyD at g
  split at g
  · rename_i ds e
    split at g
    · rename_i h
      exact ⟨ds, allD_dp (fun x d v => toD_dp ra 59 x d v) e r, h.1, h.2.1, h.2.2, g as H _ Ex.refl ra rfl⟩
    · exact g.elim
  · exact g.elim
/-- a tuple or a list, and a thing -/
theorem inD_ok {σ : L2.St} {x y : AV} {v u : V} {Q : Bool → Hp → Prop} (ra : RA K as H A) (rx : RV K as H x v) (ry : RV K as H y u) (g : G K W as H σ rB (inD A x y) Q) :
    ∃ d ds, Dp K H v d ∧ (Dp K H u (.list ds) ∨ Dp K H u (.tuple ds)) ∧ SeqAt.shaped d = true ∧ SeqAt.shaped (.list ds) = true ∧ SeqAt.shaped (.tuple ds) = true ∧ Q (ds.any fun z => PyData.eqv z d) H := by
  unfold inD at g
  split at g
  · rename_i d ed
    split at g
    · cases ry with
      | tup h1 r1 =>
        obtain ⟨ds, a1, a2, a3, a4, a5⟩ := anyD_ok ra r1 g
        exact ⟨d, ds, toD_dp ra _ _ _ _ ed rx, .inr (.tup h1 a1), a2, a3, a4, a5⟩
    · split at g
      · rename_i e
        obtain ⟨p, ws, rfl, hl, rl⟩ := listOf_ok ra ry e
        obtain ⟨ds, a1, a2, a3, a4, a5⟩ := anyD_ok ra rl g
        exact ⟨d, ds, toD_dp ra _ _ _ _ ed rx, .inl (.lst hl a1), a2, a3, a4, a5⟩
      · exact g.elim
  · exact g.elim
theorem oa_in (hu : X.A.units + 65 < cLine) : OpA X (compareOp .In) oIn := by
  rintro pins s σ H v u w1 w2 Q I rv ru ⟨W, σ', as, A, x, y, ra, rx, ry, g⟩
  obtain ⟨d, ds, a1, a2, a3, a4, a5, q⟩ := inD_ok (Q := fun b H => Q (.bl b) H) ra rx ry (G.bind (Rel := rB) g fun b A' as1 H1 v1 e0 e1 ra1 rb g1 => by cases rb; exact fin1 ra1 g1 (.bl _))
  obtain ⟨as1, r1⟩ := Dp.reads I d v w1 a1 rv
  rcases a2 with a2 | a2
  · obtain ⟨bs, r2⟩ := Dp.reads I (.list ds) u w2 a2 ru
    exact SeqAt.in_list_reads r2 r1 (SeqAt.canLay_of_shaped a4) (SeqAt.canLay_of_shaped a3) (room_in_shaped a3 hu) ⟨.bl _, H, I, rfl, q⟩
  · obtain ⟨bs, r2⟩ := Dp.reads I (.tuple ds) u w2 a2 ru
    exact SeqAt.in_tuple_reads r2 r1 (SeqAt.canLay_of_shaped a5) (SeqAt.canLay_of_shaped a3) (room_in_shaped a3 hu) ⟨.bl _, H, I, rfl, q⟩
theorem oa_notIn (hu : X.A.units + 65 < cLine) : OpA X (compareOp .NotIn) oNotIn := by
  rintro pins s σ H v u w1 w2 Q I rv ru ⟨W, σ', as, A, x, y, ra, rx, ry, g⟩
  obtain ⟨d, ds, a1, a2, a3, a4, a5, q⟩ := inD_ok (Q := fun b H => Q (.bl (!b)) H) ra rx ry (G.bind (Rel := rB) g fun b A' as1 H1 v1 e0 e1 ra1 rb g1 => by cases rb; exact fin1 ra1 g1 (.bl _))
  obtain ⟨as1, r1⟩ := Dp.reads I d v w1 a1 rv
  rcases a2 with a2 | a2
  · obtain ⟨bs, r2⟩ := Dp.reads I (.list ds) u w2 a2 ru
    exact SeqAt.notIn_list_reads r2 r1 (SeqAt.canLay_of_shaped a4) (SeqAt.canLay_of_shaped a3) (room_in_shaped a3 hu) ⟨.bl _, H, I, rfl, q⟩
  · obtain ⟨bs, r2⟩ := Dp.reads I (.tuple ds) u w2 a2 ru
    exact SeqAt.notIn_tuple_reads r2 r1 (SeqAt.canLay_of_shaped a5) (SeqAt.canLay_of_shaped a3) (room_in_shaped a3 hu) ⟨.bl _, H, I, rfl, q⟩
/-! ### append, extend -/
def oAppend (x : AV) (xs : List AV) (A : Hx) : R AV := match xs with
  | [y] => (match mutOf A x with
    | some (n, zs) => if zs.length < sizeLine then .ok .non (A.set n (.lst (zs ++ [y]))) else .bad
    | none => .bad)
  | _ => .bad
theorem ma_append : MtA X "list.append" oAppend := by
  rintro pins s σ H v vs u us Q I rv rvs ⟨W, σ', as, A, x, xs, ra, rx, rxs, g⟩
  unfold oAppend at g
  split at g
  · cases rxs with
    | cons r1 rr =>
    cases rr
    split at g
    · rename_i e
      split at g
      · rename_i hl
        obtain ⟨p, ws, rfl, hp, hA, hH, rl⟩ := mutOf_ok ra rx e
        refine mt_append pins s σ H _ _ u us Q I rv rvs ⟨_, _, _, rfl, rfl, hH, by rw [← rl.length]; exact hl, ?_⟩
        exact g as _ .non (ex_mut hH rfl) (ra.lset hp hH (rl.app (.cons r1 .nil))) .non
      · exact g.elim
    · exact g.elim
  · exact g.elim
def oExtend (x : AV) (xs : List AV) (A : Hx) : R AV := match xs with
  | [y] => (match mutOf A x, mutOf A y with
    | some (n, zs), some (m, ys) => if zs.length + ys.length ≤ sizeLine then .ok .non (A.set n (.lst (zs ++ ys))) else .bad
    | _, _ => .bad)
  | _ => .bad
theorem ma_extend : MtA X "list.extend" oExtend := by
  rintro pins s σ H v vs u us Q I rv rvs ⟨W, σ', as, A, x, xs, ra, rx, rxs, g⟩
  unfold oExtend at g
  split at g
  · cases rxs with
    | cons r1 rr =>
    cases rr
    split at g
    · rename_i e e2
      split at g
      · rename_i hl
        obtain ⟨p, ws, rfl, hp, hA, hH, rl⟩ := mutOf_ok ra rx e
        obtain ⟨p2, ws2, rfl, hp2, hA2, hH2, rl2⟩ := mutOf_ok ra r1 e2
        refine mt_extend pins s σ H _ _ u us Q I rv rvs ⟨_, _, _, _, rfl, rfl, hH, hH2, by rw [← rl.length, ← rl2.length]; exact hl, ?_⟩
        exact g as _ .non (ex_mut hH rfl) (ra.lset hp hH (rl.app rl2)) .non
      · exact g.elim
    · exact g.elim
  · exact g.elim
def tyL (x : AV) (A : Hx) : Bool := (listOf A x).isSome
theorem tyL_ok : ∀ as H A x v, RA X.K as H A → RV X.K as H x v → tyL x A = true → tyV X.K "list" v H := by
  intro as H A x v ra rx h
  obtain ⟨ys, e⟩ := Option.isSome_iff_exists.mp h
  obtain ⟨p, ws, rfl, hl, rl⟩ := listOf_ok ra rx e
  exact .inl ⟨rfl, _, hl⟩
/-! ### {} -/
def mDnew : ME := fun _ A => .ok (.loc A.length) (A ++ [.dct []])
theorem je_dnew {pos : Pos} : JE X W (.Dict [] [] pos) mDnew := pe_mono pe_dnewK fun σ H Q ⟨as, env, A, ra, re, g⟩ p hp =>
  g (as ++ [p]) _ (.ref p) (ex_push hp) (ra.push hp (.inl ⟨[], upd_same, .nil⟩)) (.loc (loc_new ra))
theorem je_callTy {f : List AV → Hx → R AV} {T : String} {x : Str} {p pos : Pos} {a : Expr} {es : List Expr} {ms : MA} (hc : CallA X (.type T) f) (hg : Gl X x) (hm : X.mg x = none) (hv : bootBuiltins x = some (.type T)) (ha : JA X W (a :: es) ms) (hn : x ≠ "__name__" := by decide) (hdb : (x == ("__debug__" : Str)) = false := by decide)
    (he : starEach (a :: es) X.env = (false, eval a X.env) :: starEach es X.env := by rfl) (hpl : (backTo pos (starEach es X.env)).any (·.1) = false := by rfl) : JE X W (.Call (.Name x p) (a :: es) [] pos) (mCB f ms) :=
  pe_mono (pe_callTy hc hg hm hv ha hn hdb he hpl) fun σ H Q h => rs_of h
end
end Am

set_option Elab.async false
set_option linter.all false
set_option maxRecDepth 100000
set_option maxHeartbeats 4000000
namespace HT
open PySem PySem.Spec PyProof.Rows
section
variable {prog : Program} {w : World} {A : Around} {E : Value → Shared → Prop} {s : Shared}
theorem kbAdjust (n : Nat) : Builtin.Slice.sliceAdjust none none (-1) (n : Int) = ((n : Int) - 1, -1) := by
  unfold Builtin.Slice.sliceAdjust
  simp
theorem kbPlaces (n : Nat) : Builtin.Slice.slicePlaces ((n : Int) - 1) (-1) (-1) = n := by
  unfold Builtin.Slice.slicePlaces
  have h1 : ¬ ((-1 : Int) > 0) := by decide
  simp only [h1, if_false]
  by_cases h : (n : Int) - 1 > -1
  · rw [if_pos h, show (-(-1 : Int)) = 1 by decide, Int.ediv_one]
    omega
  · rw [if_neg h]
    have : n = 0 := by omega
    subst this
    rfl
theorem kbApplied {sl : Addr} {n : Nat} {t : Tok} {Q : Int × Int × Nat → Shared → Prop} (hs : s.heap.IsSliceOf sl .none .none (.int (-1) t)) (h : Q ((n : Int) - 1, -1, n) s) : wpAny (model prog w) A (Builtin.Slice.sliceApplied (.ref sl) (pure (n : Int))) Q E s := by
  obtain ⟨os, hos, hcs, hds⟩ := id hs
  unfold Builtin.Slice.sliceApplied Builtin.Slice.sliceFields
  refine wpAny_bind (wpAny_bind (wpAny_field hos hds (x := .none) rfl (wpAny_bind (wpAny_field hos hds (x := .none) rfl (wpAny_bind (wpAny_field hos hds (x := .int (-1) t) rfl (wpAny_pure ?_)))))))
  refine wpAny_bind (slicePart_ (IsPart.int (-1) t) ?_)
  show wpAny _ _ (if ((-1 : Int) == 0) = true then _ else _) _ _ s
  rw [if_neg (by decide)]
  refine wpAny_bind (slicePart_ IsPart.none (wpAny_bind (slicePart_ IsPart.none (wpAny_bind (wpAny_pure ?_)))))
  show wpAny _ _ (match Builtin.Slice.sliceAdjust none none (-1) (n : Int) with | (lo, hi) => pure (lo, (-1 : Int), Builtin.Slice.slicePlaces lo hi (-1))) _ _ s
  rw [kbAdjust n]
  show wpAny _ _ (pure ((n : Int) - 1, (-1 : Int), Builtin.Slice.slicePlaces ((n : Int) - 1) (-1) (-1))) _ _ s
  rw [kbPlaces]
  exact wpAny_pure h
theorem kbFmc {α β : Type} {f g : α → Option β} : ∀ {l : List α}, (∀ x, x ∈ l → f x = g x) → l.filterMap f = l.filterMap g
  | [], _ => rfl
  | x :: r, h => by
    rw [List.filterMap_cons, List.filterMap_cons, h x List.mem_cons_self, kbFmc fun y hy => h y (List.mem_cons_of_mem _ hy)]
theorem kbPick (xs : Array Value) : ((List.range xs.size).filterMap fun (k : Nat) => xs[(((xs.size : Int) - 1) + (k : Int) * (-1)).toNat]?).toArray = xs.toList.reverse.toArray := by
  have e : (List.range xs.size).filterMap (fun (k : Nat) => xs[(((xs.size : Int) - 1) + (k : Int) * (-1)).toNat]?) = ((List.range xs.size).map fun k => xs.size - 1 - k).filterMap (xs[·]?) := by
    rw [List.filterMap_map]
    refine kbFmc fun k hk => ?_
    have hk' := List.mem_range.mp hk
    have z : (((xs.size : Int) - 1) + (k : Int) * (-1)).toNat = xs.size - 1 - k := by omega
    show xs[_]? = xs[_]?
    rw [z]
  rw [e, PySem.W.krv_range, List.filterMap_reverse, PySem.W.krv_all]
theorem kbRevTup {t sl : Addr} {items : Array Value} {tk : Tok} {Q : Value → Shared → Prop} (ht : IsTup s.heap t items) (hs : s.heap.IsSliceOf sl .none .none (.int (-1) tk))
    (h : Q (.ref s.heap.objs.size) { s with heap := s.heap.push { cls := .type "tuple", data := .seq items.toList.reverse.toArray } }) (hsz : items.size ≤ sizeLine) : wpAny (model prog w) A (getItem (.ref t) (.ref sl)) Q E s := by
  have hfit : sizeOk (.seq items.toList.reverse.toArray) := by
    show items.toList.reverse.toArray.size ≤ sizeLine
    rw [List.size_toArray, List.length_reverse, Array.length_toList]
    exact hsz
  obtain ⟨os, hos, hcs, hds⟩ := id hs
  have hTs : s.TypeIs (.ref sl) "slice" := ⟨os, hos, hcs⟩
  unfold getItem
  try with_reducible refine wpAny_holding ?_
  first | refine wpAny_bind (wpAny_pure ?_) | skip
  refine wpAny_bind (wpAny_sequenceKey ht.typeIs (by decide) ?_)
  refine wpAny_bind (wpAny_callSpecial?_slot (name := Str.ofString "__getitem__") ht.typeIs PyProof.Rows.slot_tuple_getitem (wpAny_call_entry PyProof.Rows.slot_tuple_getitem ht.typeIs entry_tuple_getitem ?_ (args_tuple_getitem _ _)))
  show wpAny _ _ (Builtin.Tuple.tupleItemsOf (.ref t) >>= _) _ _ s
  refine wpAny_bind (tupleItemsOf_ ht (wpAny_bind (wpAny_typeOf hTs ?_)))
  rw [if_pos (by decide)]
  refine wpAny_bind (kbApplied hs ?_)
  have no : ¬ ((((items.size : Int) - 1) == 0 && (-1 : Int) == 1 && items.size == items.size) = true) := by
    intro q
    rw [Bool.and_eq_true, Bool.and_eq_true] at q
    exact absurd q.1.2 (by decide)
  show wpAny _ _ (if (((items.size : Int) - 1) == 0 && (-1 : Int) == 1 && items.size == items.size) = true then _ else _) _ _ s
  rw [if_neg no, kbPick]
  first
    | exact wpAny_bind (m := Builtin.Tuple.tupleExact _) (wpAny_newObj_type (wpAny_pure ⟨_, rfl, wpAny_pure h⟩) hfit)
    | exact wpAny_bind (m := Builtin.Tuple.tupleExact _) (wpAny_newObj_type (wpAny_bind (wpAny_pure (wpAny_pure ⟨_, rfl, wpAny_pure h⟩))) hfit)
    | exact wpAny_bind (wpAny_bind (m := Builtin.Tuple.tupleExact _) (wpAny_newObj_type (wpAny_pure (wpAny_pure ⟨_, rfl, wpAny_pure h⟩)) hfit))
    | exact wpAny_bind (wpAny_bind (m := Builtin.Tuple.tupleExact _) (wpAny_newObj_type (wpAny_pure ⟨_, rfl, wpAny_pure h⟩) hfit))
end
end HT
namespace Kb
open PySem PySem.Spec PyProof.Rows L2 RZ
/-- t[::-1] of a tuple -/
def tRevT (K : PySem.W.Frag) (te : TE) : TE := fun σ H Q => te σ H fun x H1 => ∃ a xs, x = .ref a ∧ SqT K H1 a xs ∧ ∀ q, H1 q = none → Q (.ref q) (upd H1 q (.tup xs.reverse))
theorem pe_revT {X : Cx} {e : Expr} {te : TE} {k : Nat} {p1 p2 p3 pos : Pos} (he : PE X e te) : PE X (.Subscript e (.Slice none none (some (.UnaryOp .USub (.Constant (.int 1) k p1) p2)) p3) pos) (tRevT X.K te) := by
  refine ⟨fun pins s σ H Q I h => ?_⟩
  refine Subscript_ (thn (he.run pins s σ H _ I h) fun v s1 ⟨x, H1, I1, r1, q1⟩ => ?_)
  obtain ⟨a, xs, ex, hx, q⟩ := q1
  subst ex
  cases r1
  have part : PO X (some (.UnaryOp .USub (.Constant (.int 1) k p1) p2)) (tPart (tUn (rU fun i => .int (-i)) (tC (.int 1)))) := po_some (pe_un un_neg pe_int)
  refine wpAny_Slice (thn (po_none.run pins s1 σ H1 (fun o H2 => o = none ∧ H2 = H1) I1 ⟨rfl, rfl⟩) fun vl s2 ⟨l, H2, I2, pl, el, e2⟩ => ?_)
  subst el e2
  refine thn (po_none.run pins s2 σ H2 (fun o H3 => o = none ∧ H3 = H2) I2 ⟨rfl, rfl⟩) fun vu s3 ⟨u, H3, I3, pu, eu, e3⟩ => ?_
  subst eu e3
  refine thn (part.run pins s3 σ H3 (fun o H4 => o = some (-1) ∧ H4 = H3) I3 ⟨1, rfl, -1, rfl, rfl, rfl⟩) fun vs s4 ⟨o, H4, I4, ps, eo, e4⟩ => ?_
  subst eo e4
  have I5 : Inv X pins σ H4 { s4 with heap := s4.heap.push { cls := .type "slice", data := .fields #[vl, vu, vs] } } := I4.kept (t' := s4.toks) fun b ob q => Heap.get?_push_of_some _ q
  obtain ⟨its, r, ht, hz⟩ := I5.tuple hx
  have hlen := r.length
  cases pl
  cases pu
  cases ps
  show wpAny (model X.prog X.w) X.A (subscriptTail e (.Slice none none (some (.UnaryOp .USub (.Constant (.int 1) k p1) p2)) p3) (.ref a) (.ref s4.heap.objs.size)) (EP X pins σ Q) X.xe _
  refine tail_any (ops := [.ref a, .ref s4.heap.objs.size]) ht.typeIs PyProof.Rows.slot_tuple_getitem.lookup ?_ (by with_unfolding_all rfl)
  refine HT.kbRevTup ht (Heap.IsSliceOf.new _ _ _ _) ?_ (by rw [List.size_toArray]; omega)
  refine ⟨.ref _, _, I5.laid (t' := s4.toks) (o := .tup xs.reverse) (fun b ob q => Heap.get?_push_of_some _ q) (Nat.le_refl _) ?_, rfl, q _ (I5.hok.fresh (Nat.le_refl _))⟩
  exact ⟨by rw [List.length_reverse]; exact hz, _, r.reverse, ⟨_, Heap.get?_push_size _ rfl, rfl, 0, rfl⟩⟩
end Kb

set_option Elab.async false
set_option linter.all false
set_option maxRecDepth 100000
set_option maxHeartbeats 4000000
/-! Am8: reversed slices; small words. -/
namespace Am
open PySem PySem.Spec PyProof.Rows L2
theorem Rm.u64 {k : Nat} {A : Around} (r : Rm k A) : A.units + 64 < cLine := r.r.units
theorem Rm.u65 {k : Nat} {A : Around} (r : Rm k A) : A.units + 65 < cLine := by
  have := r.r.un
  omega
def mRev (a : ME) : ME := fun env A => (a env A).bind fun x A1 => match x with
  | .tup ts => .ok (.tup ts.reverse) A1
  | x => (match listOf A1 x with
    | some xs => .ok (.loc A1.length) (A1 ++ [.lst xs.reverse])
    | none => .bad)
section
variable {X : Cx} {W : WX}
theorem PE.or {e : Expr} {t t' : TE} (h : PE X e t) (h' : PE X e t') : PE X e (fun σ H Q => t σ H Q ∨ t' σ H Q) := ⟨fun pins s σ H Q I q => q.elim (h.run pins s σ H Q I) (h'.run pins s σ H Q I)⟩
theorem je_rev {e : Expr} {me : ME} {k : Nat} {p1 p2 p3 pos : Pos} (he : JE X W e me) : JE X W (.Subscript e (.Slice none none (some (.UnaryOp .USub (.Constant (.int 1) k p1) p2)) p3) pos) (mRev me) := by
  refine pe_mono (PE.or (pe_revL he) (Kb.pe_revT he)) fun σ H Q ⟨as, env, A, ra, re, g⟩ => ?_
  cases em : me env A with
  | ok x A1 =>
    unfold mRev at g
    by_cases ht : ∃ ts, x = .tup ts
    · obtain ⟨ts, rfl⟩ := ht
      refine .inr ⟨as, env, A, ra, re, G.bind g fun y A2 as1 H1 v e0 e1 ra1 rv g1 => ?_⟩
      rw [em] at e0
      cases e0
      cases rv with
      | tup h1 r1 => exact ⟨_, _, rfl, h1, fun p hp => new_tup ra1 r1.rev hp g1⟩
    · refine .inl ⟨as, env, A, ra, re, G.bind g fun y A2 as1 H1 v e0 e1 ra1 rv g1 => ?_⟩
      rw [em] at e0
      cases e0
      split at g1
      · exact absurd ⟨_, rfl⟩ ht
      · split at g1
        · rename_i el
          obtain ⟨p, ws, rfl, hl, rl⟩ := listOf_ok ra1 rv el
          exact ⟨_, _, rfl, hl, fun p hp => new_lst ra1 rl.rev hp g1⟩
        · exact g1.elim
  | ex x A1 =>
    refine .inl ⟨as, env, A, ra, re, ?_⟩
    unfold mRev at g
    rw [em] at g ⊢
    exact g
  | bad => unfold mRev at g; rw [em] at g; exact g.elim
end
end Am

set_option Elab.async false
set_option linter.all false
set_option maxRecDepth 100000
set_option maxHeartbeats 4000000
/-! Am9: more methods. -/
namespace Am
open PySem PySem.Spec PyProof.Rows L2
section
variable {X : Cx} {W : WX}
def posI (i : Int) : List Int → Option Nat
  | [] => none
  | j :: r => if j = i then some 0 else (posI i r).map (· + 1)
theorem posI_ok {i : Int} : ∀ {js : List Int} {k : Nat}, posI i js = some k → js[k]? = some i ∧ ∀ m z, m < k → js[m]? = some z → z ≠ i
  | j :: r, k, e => by
    unfold posI at e
    split at e
    · rename_i h
      cases e
      exact ⟨by simp [h], fun m z hm => absurd hm (Nat.not_lt_zero m)⟩
    · rename_i h
      obtain ⟨k', e', rfl⟩ := Option.map_eq_some_iff.mp e
      obtain ⟨h1, h2⟩ := posI_ok e'
      refine ⟨by simpa using h1, fun m z hm hz => ?_⟩
      cases m with
      | zero =>
        simp at hz
        subst hz
        exact h
      | succ m => exact h2 m z (by omega) (by simpa using hz)
def oIndex (x : AV) (xs : List AV) (A : Hx) : R AV := match xs with
  | [.int i] => (match (listOf A x).bind intsOf with
    | some js => (match posI i js with
      | some k => .ok (.int k) A
      | none => .bad)
    | none => .bad)
  | _ => .bad
theorem ma_index : MtA X "list.index" oIndex := by
  rintro pins s σ H v vs u us Q I rv rvs ⟨W, σ', as, A, x, xs, ra, rx, rxs, g⟩
  unfold oIndex at g
  split at g
  · rename_i i
    cases rxs with
    | cons r1 rr =>
    cases rr
    cases r1
    split at g
    · rename_i e
      obtain ⟨ys, e1, e2⟩ := bind_lst e
      obtain ⟨p, ws, rfl, hl, rl⟩ := listOf_ok ra rx e1
      rw [intsOf_ok rl e2] at hl
      split at g
      · rename_i k ek
        obtain ⟨h1, h2⟩ := posI_ok ek
        refine mt_index pins s σ H _ _ u us Q I rv rvs ⟨_, _, _, k, .int i, rfl, rfl, hl, rfl, ?_, ?_, ?_, ?_, fin1 ra g (.int _)⟩
        · rw [List.all_map]
          exact List.all_eq_true.mpr fun _ _ => rfl
        · rw [List.getElem?_map, h1]
          rfl
        · simp [eqV]
        · intro m z' hm hz
          rw [List.getElem?_map] at hz
          obtain ⟨q, hq, rfl⟩ := Option.map_eq_some_iff.mp hz
          have := h2 m q hm hq
          simp [eqV, this]
      · exact g.elim
    · exact g.elim
  · exact g.elim
end
end Am

set_option Elab.async false
set_option linter.all false
set_option maxRecDepth 100000
set_option maxHeartbeats 4000000
/-! Am10: a name that grows in its place (x += y, of integers). -/
namespace Am
open PySem PySem.Spec PyProof.Rows L2
section
variable {X : Cx} {W : WX} {pos : Pos}
def aAdd (x y : AV) (A : Hx) : R AV := match x, y with
  | .int i, .int j => .ok (.int (i + j)) A
  | _, _ => .bad
theorem oi_add : OpA X (inplaceOp .Add) aAdd := by
  rintro pins s σ H v u w1 w2 Q I rv ru ⟨W, σ', as, A, x, y, ra, rx, ry, g⟩
  unfold aAdd at g
  split at g
  · cases rx; cases ry
    exact iop_add pins s σ H _ _ w1 w2 Q I rv ru ⟨_, _, rfl, rfl, fin1 ra g (.int _)⟩
  · exact g.elim
theorem oi_sub : OpA X (inplaceOp .Sub) oSub := by
  rintro pins s σ H v u w1 w2 Q I rv ru ⟨W, σ', as, A, x, y, ra, rx, ry, g⟩
  unfold oSub at g
  split at g
  · cases rx; cases ry
    exact iop_sub pins s σ H _ _ w1 w2 Q I rv ru ⟨_, _, rfl, rfl, fin1 ra g (.int _)⟩
  · exact g.elim
def mAug (i : Nat) (f : AV → AV → Hx → R AV) (a : ME) : MS := fun env A => match env[i]? with
  | some (some x) => (a env A).st env fun y A1 => (f x y A1).st env fun z A2 => .nx (env.set i (some z)) A2
  | _ => .bad
theorem js_aug {i : Nat} {x : Str} {a : Expr} {ma : ME} {op : Operator} {f : AV → AV → Hx → R AV} {pos' : Pos} (hN : X.N.Nodup) (hi : X.N[i]? = some x) (hx : Loc X.env.scope x) (ho : OpA X (inplaceOp op) f) (he : JE X W a ma) (hf : X.fn x = true ∨ X.env.scope.names.lookup x = some .local := by first | exact .inl rfl | exact .inr rfl | assumption) :
    JS X W (.AugAssign (.Name x pos') op a pos) (mAug i f ma) := by
  refine ps_mono (ps_aug (ti := r2 X.K f) hN hi hx he ho hf) fun D σ H ⟨as, env, A, ra, re, g⟩ => ?_
  unfold mAug at g
  split at g
  · rename_i x e
    obtain ⟨v, h1, h2⟩ := re.at_ i x e
    refine ⟨v, h1, as, env, A, ra, re, GS.st re g fun y A1 as1 H1 u _ e1 ra1 ry g1 => ?_⟩
    exact ⟨W, σ, as1, A1, x, y, ra1, h2.ex e1, ry, GS.st (re.ex e1) g1 fun z A2 as2 H2 w _ e2 ra2 rz g2 => g2 as2 H2 _ Ex.refl ra2 (((re.ex e1).ex e2).set i rz)⟩
  · exact g.elim
end
end Am

set_option Elab.async false
set_option linter.all false
set_option maxRecDepth 100000
set_option maxHeartbeats 4000000
namespace L20
open PySem PySem.Spec PyProof.Rows L2 Am
def top (i : Nat) : Stmt := PySem.Challenge.pw_onesilent_k20_whole_chain_link_by_link.main.body.getD i (.Pass ⟨0, 0, 0, 0⟩)
abbrev s_is_integer : Stmt := top 7
abbrev N_is_integer : List Str := ["thing"]
theorem sc_is_integer : FnScope N_is_integer ["thing"] (defScope s_is_integer) := ⟨rfl, rfl, rfl, by decide +kernel, rfl, by decide +kernel, by decide +kernel⟩
abbrev s_is_number : Stmt := top 8
abbrev N_is_number : List Str := ["thing", "least", "most"]
theorem sc_is_number : FnScope N_is_number ["thing", "least", "most"] (defScope s_is_number) := ⟨rfl, rfl, rfl, by decide +kernel, rfl, by decide +kernel, by decide +kernel⟩
abbrev s_is_turn : Stmt := top 9
abbrev N_is_turn : List Str := ["thing", "many", "me", "missed"]
theorem sc_is_turn : FnScope N_is_turn ["thing", "many"] (defScope s_is_turn) := ⟨rfl, rfl, rfl, by decide +kernel, rfl, by decide +kernel, by decide +kernel⟩
abbrev s_is_other : Stmt := top 10
abbrev N_is_other : List Str := ["thing", "me", "many"]
theorem sc_is_other : FnScope N_is_other ["thing", "me", "many"] (defScope s_is_other) := ⟨rfl, rfl, rfl, by decide +kernel, rfl, by decide +kernel, by decide +kernel⟩
abbrev s_power : Stmt := top 11
abbrev N_power : List Str := ["base", "times", "worth", "_"]
theorem sc_power : FnScope N_power ["base", "times"] (defScope s_power) := ⟨rfl, rfl, rfl, by decide +kernel, rfl, by decide +kernel, by decide +kernel⟩
abbrev s_figures_of : Stmt := top 12
abbrev N_figures_of : List Str := ["number", "base", "many", "figures", "_", "figure"]
theorem sc_figures_of : FnScope N_figures_of ["number", "base", "many"] (defScope s_figures_of) := ⟨rfl, rfl, rfl, by decide +kernel, rfl, by decide +kernel, by decide +kernel⟩
abbrev s_check_number : Stmt := top 14
abbrev N_check_number : List Str := ["thing", "least", "most"]
theorem sc_check_number : FnScope N_check_number ["thing", "least", "most"] (defScope s_check_number) := ⟨rfl, rfl, rfl, by decide +kernel, rfl, by decide +kernel, by decide +kernel⟩
abbrev s_check_machine : Stmt := top 15
abbrev N_check_machine : List Str := ["thing", "many"]
theorem sc_check_machine : FnScope N_check_machine ["thing", "many"] (defScope s_check_machine) := ⟨rfl, rfl, rfl, by decide +kernel, rfl, by decide +kernel, by decide +kernel⟩
abbrev s_is_pattern_of : Stmt := top 16
abbrev N_is_pattern_of : List Str := ["thing", "many", "least", "most", "turn"]
theorem sc_is_pattern_of : FnScope N_is_pattern_of ["thing", "many", "least", "most"] (defScope s_is_pattern_of) := ⟨rfl, rfl, rfl, by decide +kernel, rfl, by decide +kernel, by decide +kernel⟩
abbrev s_check_pattern : Stmt := top 17
abbrev N_check_pattern : List Str := ["thing", "many", "least", "most"]
theorem sc_check_pattern : FnScope N_check_pattern ["thing", "many", "least", "most"] (defScope s_check_pattern) := ⟨rfl, rfl, rfl, by decide +kernel, rfl, by decide +kernel, by decide +kernel⟩
abbrev s_shut_out : Stmt := top 19
abbrev N_shut_out : List Str := ["many", "rounds", "i", "me"]
theorem sc_shut_out : FnScope N_shut_out ["many", "rounds", "i"] (defScope s_shut_out) := ⟨rfl, rfl, rfl, by decide +kernel, rfl, by decide +kernel, by decide +kernel⟩
abbrev s_check_size : Stmt := top 20
abbrev N_check_size : List Str := ["many", "rounds"]
theorem sc_check_size : FnScope N_check_size ["many", "rounds"] (defScope s_check_size) := ⟨rfl, rfl, rfl, by decide +kernel, rfl, by decide +kernel, by decide +kernel⟩
abbrev s_chain_at : Stmt := top 22
abbrev N_chain_at : List Str := ["many", "first", "last", "number", "rounds", "turns", "at", "figure"]
theorem sc_chain_at : FnScope N_chain_at ["many", "first", "last", "number"] (defScope s_chain_at) := ⟨rfl, rfl, rfl, by decide +kernel, rfl, by decide +kernel, by decide +kernel⟩
abbrev s_mover : Stmt := top 23
abbrev N_mover : List Str := ["many", "rounds", "number", "figures", "at"]
theorem sc_mover : FnScope N_mover ["many", "rounds", "number"] (defScope s_mover) := ⟨rfl, rfl, rfl, by decide +kernel, rfl, by decide +kernel, by decide +kernel⟩
abbrev s_law_pot : Stmt := top 25
abbrev N_law_pot : List Str := ["script", "cells", "cell"]
theorem sc_law_pot : FnScope N_law_pot ["script"] (defScope s_law_pot) := ⟨rfl, rfl, rfl, by decide +kernel, rfl, by decide +kernel, by decide +kernel⟩
abbrev s_law_draw : Stmt := top 26
abbrev N_law_draw : List Str := ["pot", "many", "cell", "digit", "number"]
theorem sc_law_draw : FnScope N_law_draw ["pot", "many"] (defScope s_law_draw) := ⟨rfl, rfl, rfl, by decide +kernel, rfl, by decide +kernel, by decide +kernel⟩
abbrev s_law_any : Stmt := top 27
abbrev N_law_any : List Str := ["pot", "things"]
theorem sc_law_any : FnScope N_law_any ["pot", "things"] (defScope s_law_any) := ⟨rfl, rfl, rfl, by decide +kernel, rfl, by decide +kernel, by decide +kernel⟩
abbrev s_law_entry : Stmt := top 28
abbrev N_law_entry : List Str := ["pot", "many", "p", "seldom", "q"]
theorem sc_law_entry : FnScope N_law_entry ["pot", "many", "p", "seldom"] (defScope s_law_entry) := ⟨rfl, rfl, rfl, by decide +kernel, rfl, by decide +kernel, by decide +kernel⟩
abbrev s_law_pattern : Stmt := top 29
abbrev N_law_pattern : List Str := ["pot", "many", "rounds", "found", "seldom", "r", "i", "p"]
theorem sc_law_pattern : FnScope N_law_pattern ["pot", "many", "rounds"] (defScope s_law_pattern) := ⟨rfl, rfl, rfl, by decide +kernel, rfl, by decide +kernel, by decide +kernel⟩
abbrev s_law_figures : Stmt := top 30
abbrev N_law_figures : List Str := ["base", "rounds", "number", "found", "r"]
theorem sc_law_figures : FnScope N_law_figures ["base", "rounds", "number"] (defScope s_law_figures) := ⟨rfl, rfl, rfl, by decide +kernel, rfl, by decide +kernel, by decide +kernel⟩
abbrev s_law_drawn : Stmt := top 31
abbrev N_law_drawn : List Str := ["pot", "base", "rounds", "figures", "r", "behind", "k", "figure", "number"]
theorem sc_law_drawn : FnScope N_law_drawn ["pot", "base", "rounds"] (defScope s_law_drawn) := ⟨rfl, rfl, rfl, by decide +kernel, rfl, by decide +kernel, by decide +kernel⟩
abbrev s_law : Stmt := top 32
abbrev N_law : List Str := ["script", "pot", "turn", "many", "rounds", "first", "last", "number", "figures", "at", "r", "told", "one", "other", "p", "row"]
theorem sc_law : FnScope N_law ["script"] (defScope s_law) := ⟨rfl, rfl, rfl, by decide +kernel, rfl, by decide +kernel, by decide +kernel⟩
structure Ad where
  f_is_integer : Addr
  f_is_number : Addr
  f_is_turn : Addr
  f_is_other : Addr
  f_power : Addr
  f_figures_of : Addr
  f_check_number : Addr
  f_check_machine : Addr
  f_is_pattern_of : Addr
  f_check_pattern : Addr
  f_shut_out : Addr
  f_check_size : Addr
  f_chain_at : Addr
  f_mover : Addr
  f_law_pot : Addr
  f_law_draw : Addr
  f_law_any : Addr
  f_law_entry : Addr
  f_law_pattern : Addr
  f_law_figures : Addr
  f_law_drawn : Addr
  f_law : Addr
  C_SilentError : Addr
  C_NoMachine : Addr
  C_NoNumber : Addr
  C_NoPattern : Addr
structure Txt (K : PySem.W.Frag) (mg : Str → Option Value) (a : Ad) : Prop where
  g_is_integer : mg "is_integer" = some (.ref a.f_is_integer)
  fn_is_integer : ∃ fd, Fun K "is_integer" "is_integer" s_is_integer a.f_is_integer fd
  g_is_number : mg "is_number" = some (.ref a.f_is_number)
  fn_is_number : ∃ fd, Fun K "is_number" "is_number" s_is_number a.f_is_number fd
  g_is_turn : mg "is_turn" = some (.ref a.f_is_turn)
  fn_is_turn : ∃ fd, Fun K "is_turn" "is_turn" s_is_turn a.f_is_turn fd
  g_is_other : mg "_is_other" = some (.ref a.f_is_other)
  fn_is_other : ∃ fd, Fun K "_is_other" "_is_other" s_is_other a.f_is_other fd
  g_power : mg "power" = some (.ref a.f_power)
  fn_power : ∃ fd, Fun K "power" "power" s_power a.f_power fd
  g_figures_of : mg "figures_of" = some (.ref a.f_figures_of)
  fn_figures_of : ∃ fd, Fun K "figures_of" "figures_of" s_figures_of a.f_figures_of fd
  g_check_number : mg "check_number" = some (.ref a.f_check_number)
  fn_check_number : ∃ fd, Fun K "check_number" "check_number" s_check_number a.f_check_number fd
  g_check_machine : mg "check_machine" = some (.ref a.f_check_machine)
  fn_check_machine : ∃ fd, Fun K "check_machine" "check_machine" s_check_machine a.f_check_machine fd
  g_is_pattern_of : mg "is_pattern_of" = some (.ref a.f_is_pattern_of)
  fn_is_pattern_of : ∃ fd, Fun K "is_pattern_of" "is_pattern_of" s_is_pattern_of a.f_is_pattern_of fd
  g_check_pattern : mg "check_pattern" = some (.ref a.f_check_pattern)
  fn_check_pattern : ∃ fd, Fun K "check_pattern" "check_pattern" s_check_pattern a.f_check_pattern fd
  g_shut_out : mg "shut_out" = some (.ref a.f_shut_out)
  fn_shut_out : ∃ fd, Fun K "shut_out" "shut_out" s_shut_out a.f_shut_out fd
  g_check_size : mg "_check_size" = some (.ref a.f_check_size)
  fn_check_size : ∃ fd, Fun K "_check_size" "_check_size" s_check_size a.f_check_size fd
  g_chain_at : mg "chain_at" = some (.ref a.f_chain_at)
  fn_chain_at : ∃ fd, Fun K "chain_at" "chain_at" s_chain_at a.f_chain_at fd
  g_mover : mg "mover" = some (.ref a.f_mover)
  fn_mover : ∃ fd, Fun K "mover" "mover" s_mover a.f_mover fd
  g_law_pot : mg "_law_pot" = some (.ref a.f_law_pot)
  fn_law_pot : ∃ fd, Fun K "_law_pot" "_law_pot" s_law_pot a.f_law_pot fd
  g_law_draw : mg "_law_draw" = some (.ref a.f_law_draw)
  fn_law_draw : ∃ fd, Fun K "_law_draw" "_law_draw" s_law_draw a.f_law_draw fd
  g_law_any : mg "_law_any" = some (.ref a.f_law_any)
  fn_law_any : ∃ fd, Fun K "_law_any" "_law_any" s_law_any a.f_law_any fd
  g_law_entry : mg "_law_entry" = some (.ref a.f_law_entry)
  fn_law_entry : ∃ fd, Fun K "_law_entry" "_law_entry" s_law_entry a.f_law_entry fd
  g_law_pattern : mg "_law_pattern" = some (.ref a.f_law_pattern)
  fn_law_pattern : ∃ fd, Fun K "_law_pattern" "_law_pattern" s_law_pattern a.f_law_pattern fd
  g_law_figures : mg "_law_figures" = some (.ref a.f_law_figures)
  fn_law_figures : ∃ fd, Fun K "_law_figures" "_law_figures" s_law_figures a.f_law_figures fd
  g_law_drawn : mg "_law_drawn" = some (.ref a.f_law_drawn)
  fn_law_drawn : ∃ fd, Fun K "_law_drawn" "_law_drawn" s_law_drawn a.f_law_drawn fd
  g_law : mg "law" = some (.ref a.f_law)
  fn_law : ∃ fd, Fun K "law" "law" s_law a.f_law fd
  b_isinstance : mg "isinstance" = none
  b_bool : mg "bool" = none
  b_int : mg "int" = none
  b_len : mg "len" = none
  b_tuple : mg "tuple" = none
  b_all : mg "all" = none
  b_enumerate : mg "enumerate" = none
  b_range : mg "range" = none
  b_divmod : mg "divmod" = none
  b_abs : mg "abs" = none
  b_any : mg "any" = none
  b_min : mg "min" = none
  b_max : mg "max" = none
  b_repr : mg "repr" = none
  c_MOST_ROUNDS : ∃ t, mg "MOST_ROUNDS" = some (.int 30 t)
/-! ### what the defs do -/
noncomputable def b_is_integer : MS :=
  (mRet (mAndV (mCB oIsi (mCons (mVar 0) (mCons (mC (.ty "int")) mNil))) (mNotV (mCB oIsi (mCons (mVar 0) (mCons (mC (.ty "bool")) mNil))))))
noncomputable def m_is_integer : List AV → Hx → R AV := fdef 1 0 b_is_integer
noncomputable def b_is_number : MS :=
  (mRet (mAndV (mCB m_is_integer (mCons (mVar 0) mNil)) (mChain oLe oLe (mVar 1) (mVar 0) (mVar 2))))
noncomputable def m_is_number : List AV → Hx → R AV := fdef 3 0 b_is_number
noncomputable def b_is_other : MS :=
  (mRet (mAndV (mCB m_is_number (mCons (mVar 0) (mCons (mC (.int 0)) (mCons (mOp oSub (mVar 2) (mC (.int 1))) mNil)))) (mOp oNe (mVar 0) (mVar 1))))
noncomputable def m_is_other : List AV → Hx → R AV := fdef 3 0 b_is_other
noncomputable def b_is_turn : MS :=
  (mSeq (mIf (mOr (mNot (mTru (mCB oIsi (mCons (mVar 0) (mCons (mC (.ty "tuple")) mNil))))) (mB (mOp oNe (mCB oLen (mCons (mVar 0) mNil)) (mVar 1))))
    (mRet (mC (.bl false)))
    mPass)
  (mRet (mCut (mCB oAll (mCons (mLc (miEnum (mCons (mVar 0) mNil)) (gTp (gCs (gNm 2) (gCs (gNm 3) gNl))) mYes (mOrV (mOp oIs (mVar 3) (mC .non)) (mCB m_is_other (mCons (mVar 3) (mCons (mVar 2) (mCons (mVar 1) mNil))))) [2, 3]) mNil)))))
noncomputable def m_is_turn : List AV → Hx → R AV := fdef 2 2 b_is_turn
noncomputable def b_power : MS :=
  (mSeq (mSet 2 (mC (.int 1)))
  (mSeq (mFor (miRange1 (mCons (mVar 1) mNil)) (gNm 3)
    (mSet 2 (mOp oMul (mVar 2) (mVar 0))))
  (mRet (mVar 2))))
noncomputable def m_power : List AV → Hx → R AV := fdef 2 2 b_power
noncomputable def b_figures_of : MS :=
  (mSeq (mSet 3 (mLst mNil))
  (mSeq (mFor (miRange1 (mCons (mVar 2) mNil)) (gNm 4)
    (mSeq (mAsg (gTp (gCs (gNm 0) (gCs (gNm 5) gNl))) (mCB oDivmod (mCons (mVar 0) (mCons (mVar 1) mNil))))
    (mDrop (mBM "list" tyL oAppend (mVar 3) (mCons (mVar 5) mNil)))))
  (mRet (mRev (mVar 3)))))
noncomputable def m_figures_of : List AV → Hx → R AV := fdef 3 3 b_figures_of
noncomputable def b_check_number : MS :=
  (mIf (mNot (mTru (mCB m_is_number (mCons (mVar 0) (mCons (mVar 1) (mCons (mVar 2) mNil))))))
    mBad
    mPass)
noncomputable def m_check_number : List AV → Hx → R AV := fdef 3 0 b_check_number
noncomputable def b_check_machine : MS :=
  (mIf (mNot (mTru (mCB m_is_number (mCons (mVar 0) (mCons (mC (.int 0)) (mCons (mOp oSub (mVar 1) (mC (.int 1))) mNil))))))
    mBad
    mPass)
noncomputable def m_check_machine : List AV → Hx → R AV := fdef 2 0 b_check_machine
noncomputable def b_is_pattern_of : MS :=
  (mSeq (mIf (mOr (mNot (mTru (mCB oIsi (mCons (mVar 0) (mCons (mC (.ty "tuple")) mNil))))) (mNot (mB (mChain oLe oLe (mVar 2) (mCB oLen (mCons (mVar 0) mNil)) (mVar 3)))))
    (mRet (mC (.bl false)))
    mPass)
  (mRet (mCut (mCB oAll (mCons (mLc (miSeq (mVar 0)) (gNm 4) mYes (mCB m_is_turn (mCons (mVar 4) (mCons (mVar 1) mNil))) [4]) mNil)))))
noncomputable def m_is_pattern_of : List AV → Hx → R AV := fdef 4 1 b_is_pattern_of
noncomputable def b_check_pattern : MS :=
  (mIf (mNot (mTru (mCB m_is_pattern_of (mCons (mVar 0) (mCons (mVar 1) (mCons (mVar 2) (mCons (mVar 3) mNil)))))))
    mBad
    mPass)
noncomputable def m_check_pattern : List AV → Hx → R AV := fdef 4 0 b_check_pattern
noncomputable def b_check_size : MS :=
  (mSeq (mDrop (mCB m_check_number (mCons (mVar 0) (mCons (mC (.int 3)) (mCons (mC (.int 5)) mNil)))))
  (mDrop (mCB m_check_number (mCons (mVar 1) (mCons (mC (.int 0)) (mCons (mC (.int 30)) mNil))))))
noncomputable def m_check_size : List AV → Hx → R AV := fdef 2 0 b_check_size
noncomputable def b_shut_out : MS :=
  (mSeq (mDrop (mCB m_check_size (mCons (mVar 0) (mCons (mVar 1) mNil))))
  (mSeq (mDrop (mCB m_check_machine (mCons (mVar 2) (mCons (mVar 0) mNil))))
  (mRet (mOp oMul (mTup (mCons (mCut (mCB oTuple (mCons (mLc (miRange1 (mCons (mVar 0) mNil)) (gNm 3) mYes (mIfE (mB (mOp oEq (mVar 3) (mVar 2))) (mC .non) (mVar 2)) [3]) mNil))) mNil)) (mVar 1)))))
noncomputable def m_shut_out : List AV → Hx → R AV := fdef 3 1 b_shut_out
noncomputable def b_chain_at : MS :=
  (mSeq (mDrop (mCB m_check_number (mCons (mVar 0) (mCons (mC (.int 3)) (mCons (mC (.int 5)) mNil)))))
  (mSeq (mDrop (mCB m_check_pattern (mCons (mVar 1) (mCons (mVar 0) (mCons (mC (.int 0)) (mCons (mC (.int 30)) mNil))))))
  (mSeq (mSet 4 (mCB oLen (mCons (mVar 1) mNil)))
  (mSeq (mDrop (mCB m_check_pattern (mCons (mVar 2) (mCons (mVar 0) (mCons (mVar 4) (mCons (mVar 4) mNil))))))
  (mSeq (mDrop (mCB m_check_number (mCons (mVar 3) (mCons (mC (.int 0)) (mCons (mOp oSub (mCB m_power (mCons (mOp oAdd (mVar 0) (mC (.int 1))) (mCons (mVar 4) mNil))) (mC (.int 1))) mNil)))))
  (mSeq (mSet 5 (mLst mNil))
  (mSeq (mFor (miEnum (mCons (mCB m_figures_of (mCons (mVar 3) (mCons (mOp oAdd (mVar 0) (mC (.int 1))) (mCons (mVar 4) mNil)))) mNil)) (gTp (gCs (gNm 6) (gCs (gNm 7) gNl)))
    (mSeq (mDrop (mBM "list" tyL oAppend (mVar 5) (mCons (mOp oAdd (mSl oSl (mOp oIx (mVar 2) (mVar 6)) mNoPart (mPart (mVar 7))) (mSl oSl (mOp oIx (mVar 1) (mVar 6)) (mPart (mVar 7)) mNoPart)) mNil)))
    (mSeq (mIf (mB (mOp oGt (mVar 7) (mC (.int 0))))
      (mSet 1 (mCB m_shut_out (mCons (mVar 0) (mCons (mVar 4) (mCons (mOp oSub (mVar 7) (mC (.int 1))) mNil)))))
      mPass)
    (mIf (mB (mOp oLt (mVar 7) (mVar 0)))
      (mSet 2 (mCB m_shut_out (mCons (mVar 0) (mCons (mVar 4) (mCons (mVar 7) mNil)))))
      mPass))))
  (mRet (mCB oTuple (mCons (mVar 5) mNil))))))))))
noncomputable def m_chain_at : List AV → Hx → R AV := fdef 4 4 b_chain_at
noncomputable def b_mover : MS :=
  (mSeq (mDrop (mCB m_check_number (mCons (mVar 0) (mCons (mC (.int 3)) (mCons (mC (.int 5)) mNil)))))
  (mSeq (mDrop (mCB m_check_number (mCons (mVar 1) (mCons (mC (.int 0)) (mCons (mC (.int 30)) mNil)))))
  (mSeq (mDrop (mCB m_check_number (mCons (mVar 2) (mCons (mC (.int 1)) (mCons (mOp oSub (mCB m_power (mCons (mOp oAdd (mVar 0) (mC (.int 1))) (mCons (mVar 1) mNil))) (mC (.int 1))) mNil)))))
  (mSeq (mSet 3 (mCB m_figures_of (mCons (mVar 2) (mCons (mOp oAdd (mVar 0) (mC (.int 1))) (mCons (mVar 1) mNil)))))
  (mSeq (mSet 4 (mOp oSub (mVar 1) (mC (.int 1))))
  (mSeq (mWhile 1000000 (mB (mOp oEq (mOp oIx (mVar 3) (mVar 4)) (mC (.int 0))))
    (mAug 4 oSub (mC (.int 1))))
  (mRet (mTup (mCons (mVar 4) (mCons (mOp oSub (mOp oIx (mVar 3) (mVar 4)) (mC (.int 1))) mNil))))))))))
noncomputable def m_mover : List AV → Hx → R AV := fdef 3 2 b_mover
noncomputable def b_law_pot : MS :=
  (mSeq (mSet 1 (mLc (miSeq (mSl oSl (mVar 0) mNoPart (mPart (mC (.int 63))))) (gNm 2) mYes (mCB oAbs (mCons (mCB oInt (mCons (mVar 2) mNil)) mNil)) [2]))
  (mRet (mLst (mCons (mVar 1) (mCons (mC (.int 0)) (mCons (mC (.int 0)) (mCons (mOp oAdd (mC (.int 1)) (mCB oLen (mCons (mVar 1) mNil))) (mCons (mC (.int 0)) mNil))))))))
noncomputable def m_law_pot : List AV → Hx → R AV := fdef 1 2 b_law_pot
noncomputable def b_law_draw : MS :=
  (mSeq (mIf (mAnd (mB (mOp oEq (mOp oIx (mVar 0) (mC (.int 2))) (mC (.int 0)))) (mB (mOp oLt (mOp oIx (mVar 0) (mC (.int 1))) (mCB oLen (mCons (mOp oIx (mVar 0) (mC (.int 0))) mNil)))))
    (mSeq (mSet 2 (mOp oIx (mOp oIx (mVar 0) (mC (.int 0))) (mOp oIx (mVar 0) (mC (.int 1)))))
    (mSeq (mPut (mOp oAdd (mOp oIx (mVar 0) (mC (.int 1))) (mC (.int 1))) (mVar 0) (mC (.int 1)))
    (mSeq (mPut (mOp oMod (mCB oInt (mCons (mOp oAdd (mOp oAdd (mOp oMul (mOp oIx (mVar 0) (mC (.int 3))) (mC (.int 69621))) (mVar 2)) (mC (.int 11))) mNil)) (mC (.int 2147483629))) (mVar 0) (mC (.int 3)))
    (mIf (mB (mOp oGe (mVar 2) (mOp oPow (mC (.int 10)) (mC (.int 18)))))
      (mPut (mVar 2) (mVar 0) (mC (.int 2)))
      mPass))))
    mPass)
  (mSeq (mIf (mB (mOp oGt (mOp oIx (mVar 0) (mC (.int 2))) (mC (.int 0))))
    (mSeq (mSet 3 (mOp oMod (mCB oInt (mCons (mOp oIx (mVar 0) (mC (.int 2))) mNil)) (mVar 1)))
    (mSeq (mPut (mOp oFdiv (mOp oIx (mVar 0) (mC (.int 2))) (mVar 1)) (mVar 0) (mC (.int 2)))
    (mRet (mVar 3))))
    mPass)
  (mSeq (mPut (mOp oAdd (mOp oIx (mVar 0) (mC (.int 4))) (mC (.int 1))) (mVar 0) (mC (.int 4)))
  (mSeq (mSet 4 (mOp oMod (mCB oInt (mCons (mOp oMul (mCB oInt (mCons (mOp oAdd (mOp oIx (mVar 0) (mC (.int 3))) (mOp oMul (mC (.int 7919)) (mOp oIx (mVar 0) (mC (.int 4))))) mNil)) (mC (.int 48271))) mNil)) (mC (.int 2147483647))))
  (mSeq (mSet 4 (mOp oMod (mCB oInt (mCons (mOp oMul (mVar 4) (mOp oAdd (mOp oFdiv (mVar 4) (mC (.int 1009))) (mC (.int 69621)))) mNil)) (mC (.int 2147483647))))
  (mSeq (mSet 4 (mOp oMod (mCB oInt (mCons (mOp oMul (mVar 4) (mOp oAdd (mOp oFdiv (mVar 4) (mC (.int 2003))) (mC (.int 40692)))) mNil)) (mC (.int 2147483399))))
  (mRet (mOp oMod (mCB oInt (mCons (mOp oFdiv (mVar 4) (mC (.int 16))) mNil)) (mVar 1)))))))))
noncomputable def m_law_draw : List AV → Hx → R AV := fdef 2 3 b_law_draw
noncomputable def b_law_any : MS :=
  (mRet (mOp oIx (mVar 1) (mCB m_law_draw (mCons (mVar 0) (mCons (mCB oLen (mCons (mVar 1) mNil)) mNil)))))
noncomputable def m_law_any : List AV → Hx → R AV := fdef 2 0 b_law_any
noncomputable def b_law_entry : MS :=
  (mSeq (mIf (mB (mOp oGt (mCB m_law_draw (mCons (mVar 0) (mCons (mVar 3) mNil))) (mC (.int 0))))
    (mRet (mC .non))
    mPass)
  (mRet (mCut (mCB m_law_any (mCons (mVar 0) (mCons (mLc (miRange1 (mCons (mVar 1) mNil)) (gNm 4) (mB (mOp oNe (mVar 4) (mVar 2))) (mVar 4) [4]) mNil))))))
noncomputable def m_law_entry : List AV → Hx → R AV := fdef 4 1 b_law_entry
noncomputable def b_law_pattern : MS :=
  (mSeq (mAsg (gTp (gCs (gNm 3) (gCs (gNm 4) gNl))) (mTup (mCons (mLst mNil) (mCons (mCut (mCB m_law_any (mCons (mVar 0) (mCons (mLst (mCons (mC (.int 1)) (mCons (mC (.int 2)) (mCons (mC (.int 2)) (mCons (mC (.int 5)) mNil))))) mNil)))) mNil))))
  (mSeq (mFor (miRange1 (mCons (mVar 2) mNil)) (gNm 5)
    (mIf (mB (mOp oEq (mCB m_law_draw (mCons (mVar 0) (mCons (mC (.int 4)) mNil))) (mC (.int 0))))
      (mSeq (mSet 6 (mCB m_law_draw (mCons (mVar 0) (mCons (mVar 1) mNil))))
      (mDrop (mBM "list" tyL oAppend (mVar 3) (mCons (mCut (mCB oTuple (mCons (mLc (miRange1 (mCons (mVar 1) mNil)) (gNm 7) mYes (mIfE (mB (mOp oEq (mVar 7) (mVar 6))) (mC .non) (mVar 6)) [7]) mNil))) mNil))))
      (mDrop (mBM "list" tyL oAppend (mVar 3) (mCons (mCut (mCB oTuple (mCons (mLc (miRange1 (mCons (mVar 1) mNil)) (gNm 7) mYes (mCB m_law_entry (mCons (mVar 0) (mCons (mVar 1) (mCons (mVar 7) (mCons (mVar 4) mNil))))) [7]) mNil))) mNil)))))
  (mRet (mCB oTuple (mCons (mVar 3) mNil)))))
noncomputable def m_law_pattern : List AV → Hx → R AV := fdef 3 5 b_law_pattern
noncomputable def b_law_figures : MS :=
  (mSeq (mSet 3 (mLst mNil))
  (mSeq (mFor (miRange1 (mCons (mVar 1) mNil)) (gNm 4)
    (mSeq (mSet 3 (mOp oAdd (mLst (mCons (mOp oMod (mCB oInt (mCons (mVar 2) mNil)) (mVar 0)) mNil)) (mVar 3)))
    (mSet 2 (mOp oFdiv (mVar 2) (mVar 0)))))
  (mRet (mVar 3))))
noncomputable def m_law_figures : List AV → Hx → R AV := fdef 3 2 b_law_figures
noncomputable def b_law_drawn : MS :=
  (mSeq (mSet 3 (mLc (miRange1 (mCons (mVar 2) mNil)) (gNm 4) mYes (mCB m_law_draw (mCons (mVar 0) (mCons (mVar 1) mNil))) [4]))
  (mSeq (mSet 5 (mIfE (mB (mOp oEq (mCB m_law_draw (mCons (mVar 0) (mCons (mC (.int 2)) mNil))) (mC (.int 0)))) (mCB m_law_draw (mCons (mVar 0) (mCons (mVar 2) mNil))) (mC (.int 0))))
  (mSeq (mSet 3 (mOp oAdd (mSl oSl (mVar 3) mNoPart (mPart (mOp oSub (mVar 2) (mVar 5)))) (mLc (miRange1 (mCons (mVar 5) mNil)) (gNm 6) mYes (mC (.int 0)) [6])))
  (mSeq (mIf (mNot (mTru (mCut (mCB oAny (mCons (mLc (miSeq (mVar 3)) (gNm 7) mYes (mOp oGt (mVar 7) (mC (.int 0))) [7]) mNil)))))
    (mPut (mOp oAdd (mC (.int 1)) (mCB m_law_draw (mCons (mVar 0) (mCons (mOp oSub (mVar 1) (mC (.int 1))) mNil)))) (mVar 3) (mCB m_law_draw (mCons (mVar 0) (mCons (mVar 2) mNil))))
    mPass)
  (mSeq (mSet 8 (mC (.int 0)))
  (mSeq (mFor (miSeq (mVar 3)) (gNm 7)
    (mSet 8 (mOp oAdd (mOp oMul (mVar 8) (mVar 1)) (mVar 7))))
  (mRet (mVar 8))))))))
noncomputable def m_law_drawn : List AV → Hx → R AV := fdef 3 6 b_law_drawn
noncomputable def b_law : MS :=
  (mSeq (mSet 1 (mCB m_law_pot (mCons (mVar 0) mNil)))
  (mSeq (mFor (miRange1 (mCons (mC (.int 8)) mNil)) (gNm 2)
    (mSeq (mPar 3 4 (mCons (mOp oAdd (mC (.int 3)) (mCB m_law_draw (mCons (mVar 1) (mCons (mC (.int 3)) mNil)))) (mCons (mCut (mCB m_law_any (mCons (mVar 1) (mCons (mLst (mCons (mC (.int 1)) (mCons (mC (.int 2)) (mCons (mC (.int 3)) (mCons (mC (.int 4)) (mCons (mC (.int 9)) (mCons (mC (.int 30)) mNil))))))) mNil)))) mNil)))
    (mSeq (mPar 5 6 (mCons (mCB m_law_pattern (mCons (mVar 1) (mCons (mVar 3) (mCons (mVar 4) mNil)))) (mCons (mCB m_law_pattern (mCons (mVar 1) (mCons (mVar 3) (mCons (mVar 4) mNil)))) mNil)))
    (mSeq (mSet 7 (mCB m_law_drawn (mCons (mVar 1) (mCons (mOp oAdd (mVar 3) (mC (.int 1))) (mCons (mVar 4) mNil)))))
    (mSeq (mIf (mB (mOp oEq (mVar 2) (mC (.int 7))))
      (mSet 7 (mOp oAdd (mC (.int 1)) (mCB m_law_draw (mCons (mVar 1) (mCons (mIfE (mB (mOp oGt (mVar 4) (mC (.int 1)))) (mCB oMin (mCons (mC (.int 20)) (mCons (mOp oSub (mOp oPow (mOp oAdd (mVar 3) (mC (.int 1))) (mC (.int 2))) (mC (.int 1))) mNil))) (mVar 3)) mNil)))))
      mPass)
    (mSeq (mSet 8 (mCB m_law_figures (mCons (mOp oAdd (mVar 3) (mC (.int 1))) (mCons (mVar 4) (mCons (mVar 7) mNil)))))
    (mSeq (mSet 9 (mCut (mCB oMax (mCons (mLc (miRange1 (mCons (mVar 4) mNil)) (gNm 10) (mB (mOp oGt (mOp oIx (mVar 8) (mVar 10)) (mC (.int 0)))) (mVar 10) [10]) mNil))))
    (mSeq (mSet 11 (mCB m_mover (mCons (mVar 3) (mCons (mVar 4) (mCons (mVar 7) mNil)))))
    (mSeq (mIf (mB (mOp oNe (mCB oRepr (mCons (mVar 11) mNil)) (mCB oRepr (mCons (mTup (mCons (mVar 9) (mCons (mOp oSub (mOp oIx (mVar 8) (mVar 9)) (mC (.int 1))) mNil))) mNil))))
      (mRet (mC (.bl false)))
      mPass)
    (mSeq (mPar 12 13 (mCons (mCB m_chain_at (mCons (mVar 3) (mCons (mVar 5) (mCons (mVar 6) (mCons (mOp oSub (mVar 7) (mC (.int 1))) mNil))))) (mCons (mCB m_chain_at (mCons (mVar 3) (mCons (mVar 5) (mCons (mVar 6) (mCons (mVar 7) mNil))))) mNil)))
    (mSeq (mFor (miRange1 (mCons (mVar 4) mNil)) (gNm 10)
      (mFor (miRange1 (mCons (mVar 3) mNil)) (gNm 14)
        (mIf (mAnd (mB (mOp oNe (mOp oIx (mOp oIx (mVar 12) (mVar 10)) (mVar 14)) (mOp oIx (mOp oIx (mVar 13) (mVar 10)) (mVar 14)))) (mB (mOp oNe (mTup (mCons (mVar 10) (mCons (mVar 14) mNil))) (mVar 11))))
          (mRet (mC (.bl false)))
          mPass)))
    (mSeq (mFor (miRange2 (mCons (mOp oAdd (mVar 9) (mC (.int 1))) (mCons (mVar 4) mNil))) (gNm 10)
      (mSeq (mSet 15 (mCut (mCB oTuple (mCons (mLc (miRange1 (mCons (mVar 3) mNil)) (gNm 14) mYes (mIfE (mB (mOp oEq (mVar 14) (mOp oIx (mVar 11) (mC (.int 1))))) (mC .non) (mOp oIx (mVar 11) (mC (.int 1)))) [14]) mNil))))
      (mIf (mOr (mB (mOp oNe (mOp oIx (mVar 12) (mVar 10)) (mVar 15))) (mB (mOp oNe (mOp oIx (mVar 13) (mVar 10)) (mVar 15))))
        (mRet (mC (.bl false)))
        mPass)))
    (mIf (mOr (mAnd (mB (mOp oNe (mOp oIx (mOp oIx (mVar 12) (mVar 9)) (mOp oIx (mVar 11) (mC (.int 1)))) (mOp oIx (mOp oIx (mVar 5) (mVar 9)) (mOp oIx (mVar 11) (mC (.int 1)))))) (mB (mOp oEq (mVar 9) (mC (.int 0))))) (mAnd (mB (mOp oNe (mOp oIx (mOp oIx (mVar 13) (mVar 9)) (mOp oIx (mVar 11) (mC (.int 1)))) (mOp oIx (mOp oIx (mVar 6) (mVar 9)) (mOp oIx (mVar 11) (mC (.int 1)))))) (mB (mOp oEq (mVar 9) (mC (.int 0))))))
      (mRet (mC (.bl false)))
      mPass)))))))))))))
  (mRet (mC (.bl true)))))
noncomputable def m_law : List AV → Hx → R AV := fdef 1 15 b_law
end L20

set_option Elab.async false
set_option linter.all false
set_option maxRecDepth 100000
set_option maxHeartbeats 4000000
namespace L20
open PySem PySem.Spec PyProof.Rows L2 Am
section
variable {P : Program} {w : World} {K : PySem.W.Frag} {mg : Str → Option Value} {base : Heap} {a : Ad}
theorem ok_is_integer (T : Txt K mg a) : OkA P w K mg base 1 a.f_is_integer ["thing"] m_is_integer := by
  exact ok_def T.fn_is_integer sc_is_integer rfl rfl (fun _ _ _ _ _ _ us hl => match us, hl with | [_], _ => rfl) (fun cdv A outer s H E hr =>
    (jss_one (js_ret (je_andV (je_callB ca_isi (by rfl) T.b_isinstance (by decide +kernel) (ja_cons (je_var (pv 0)) (ja_cons (je_of (x := .ty "int") (pe_bltn (v := .ty "int") (u := .type "int") (by rfl) T.b_int (by decide +kernel) rfl) fun _ _ => .ty _) ja_nil))) (je_one (je_notV (je_callB ca_isi (by rfl) T.b_isinstance (by decide +kernel) (ja_cons (je_var (pv 0)) (ja_cons (je_of (x := .ty "bool") (pe_bltn (v := .ty "bool") (u := .type "bool") (by rfl) T.b_bool (by decide +kernel) rfl) fun _ _ => .ty _) ja_nil)))))))))
theorem ok_is_number (T : Txt K mg a) : OkA P w K mg base 2 a.f_is_number ["thing", "least", "most"] m_is_number := by
  exact ok_def T.fn_is_number sc_is_number rfl rfl (fun _ _ _ _ _ _ us hl => match us, hl with | [_, _, _], _ => rfl) (fun cdv A outer s H E hr =>
    (jss_one (js_ret (je_andV (je_call (ok_is_integer T) (hr.mono (by decide)) rfl T.g_is_integer (takes_of rfl rfl rfl rfl) (ja_cons (je_var (pv 0)) ja_nil)) (je_one (je_chain oa_le oa_le (je_var (pv 1)) (je_var (pv 0)) (je_var (pv 2))))))))
theorem ok_is_other (T : Txt K mg a) : OkA P w K mg base 3 a.f_is_other ["thing", "me", "many"] m_is_other := by
  exact ok_def T.fn_is_other sc_is_other rfl rfl (fun _ _ _ _ _ _ us hl => match us, hl with | [_, _, _], _ => rfl) (fun cdv A outer s H E hr =>
    (jss_one (js_ret (je_andV (je_call (ok_is_number T) (hr.mono (by decide)) rfl T.g_is_number (takes_of rfl rfl rfl rfl) (ja_cons (je_var (pv 0)) (ja_cons (je_of (x := .int 0) pe_int fun _ _ => .int _) (ja_cons (je_op oa_sub (je_var (pv 2)) (je_of (x := .int 1) pe_int fun _ _ => .int _)) ja_nil)))) (je_one (je_cmp (oa_ne hr.u64) (je_var (pv 0)) (je_var (pv 1)) (nomark _)))))))
theorem ok_is_turn (T : Txt K mg a) : OkA P w K mg base 4 a.f_is_turn ["thing", "many"] m_is_turn := by
  exact ok_def T.fn_is_turn sc_is_turn rfl rfl (fun _ _ _ _ _ _ us hl => match us, hl with | [_, _], _ => rfl) (fun cdv A outer s H E hr =>
    (jss_cons (js_if (PW.pt (jw_or (jt_not (jt_val (je_callB ca_isi (by rfl) T.b_isinstance (by decide +kernel) (ja_cons (je_var (pv 0)) (ja_cons (je_of (x := .ty "tuple") (pe_bltn (v := .ty "tuple") (u := .type "tuple") (by rfl) T.b_tuple (by decide +kernel) rfl) fun _ _ => .ty _) ja_nil))))) (jw_or1 (jt_cmp (oa_ne hr.u64) (je_callB ca_len (by rfl) T.b_len (by decide +kernel) (ja_cons (je_var (pv 0)) ja_nil)) (je_var (pv 1)) (nomark _)))))
    (jss_one (js_ret (je_of (x := .bl false) pe_bl fun _ _ => .bl _)))
    jss_nil)
  (jss_one (js_ret (je_cut (je_callB (ca_all rfl) (by rfl) T.b_all (by decide +kernel) (ja_cons (je_lc (own := [("me", 2), ("missed", 3)]) rfl sc_is_turn.nd (ji_enum (by rfl) T.b_enumerate (ja_cons (je_var (pv 0)) ja_nil)) (blkOk_by (own := [("me", 2), ("missed", 3)]) (N := N_is_turn) (sc := defScope s_is_turn) (by decide +kernel)) (fun _ _ _ _ _ => (jg_tup (n := 2) rfl (jgs_cons (jg_name (i := 2) sc_is_turn.nd rfl (Or.inl rfl)) (jgs_cons (jg_name (i := 3) sc_is_turn.nd rfl (Or.inl rfl)) jgs_nil)) (fun _ _ _ h => gCs_len (fun _ _ _ h => gCs_len (fun _ _ _ h => gNl_len h) h) h))) (fun _ _ _ _ _ => jts_nil) (fun _ _ _ _ _ => (je_orV (je_cmp oa_is (je_var (pv 3)) (je_of (x := .non) pe_non fun _ _ => .non) (nomark _)) (je_one (je_call (ok_is_other T) (hr.mono (by decide)) rfl T.g_is_other takesF (ja_cons (je_var (pv 3)) (ja_cons (je_var (pv 2)) (ja_cons (je_var (pv 1)) ja_nil)))))))) ja_nil)))))))
theorem ok_power (T : Txt K mg a) : OkA P w K mg base 1 a.f_power ["base", "times"] m_power := by
  exact ok_def T.fn_power sc_power rfl rfl (fun _ _ _ _ _ _ us hl => match us, hl with | [_, _], _ => rfl) (fun cdv A outer s H E hr =>
    (jss_cons (js_set (i := 2) sc_power.nd rfl (by first | exact Or.inl rfl | exact Or.inr rfl) (je_of (x := .int 1) pe_int fun _ _ => .int _))
  (jss_cons (js_for (passes_of rfl) rfl (ji_range1 (by rfl) T.b_range (ja_cons (je_var (pv 1)) ja_nil)) (jg_name (i := 3) sc_power.nd rfl (by first | exact Or.inl rfl | exact Or.inr rfl))
    (jss_one (js_set (i := 2) sc_power.nd rfl (by first | exact Or.inl rfl | exact Or.inr rfl) (je_op oa_mul (je_var (pv 2)) (je_var (pv 0))))))
  (jss_one (js_ret (je_var (pv 2)))))))
theorem ok_figures_of (T : Txt K mg a) : OkA P w K mg base 1 a.f_figures_of ["number", "base", "many"] m_figures_of := by
  exact ok_def T.fn_figures_of sc_figures_of rfl rfl (fun _ _ _ _ _ _ us hl => match us, hl with | [_, _, _], _ => rfl) (fun cdv A outer s H E hr =>
    (jss_cons (js_set (i := 3) sc_figures_of.nd rfl (by first | exact Or.inl rfl | exact Or.inr rfl) (je_lst ja_nil))
  (jss_cons (js_for (passes_of rfl) rfl (ji_range1 (by rfl) T.b_range (ja_cons (je_var (pv 2)) ja_nil)) (jg_name (i := 4) sc_figures_of.nd rfl (by first | exact Or.inl rfl | exact Or.inr rfl))
    (jss_cons (js_asg (je_callB ca_divmod (by rfl) T.b_divmod (by decide +kernel) (ja_cons (je_var (pv 0)) (ja_cons (je_var (pv 1)) ja_nil))) (jg_tup (n := 2) rfl (jgs_cons (jg_name (i := 0) sc_figures_of.nd rfl (by first | exact Or.inl rfl | exact Or.inr rfl)) (jgs_cons (jg_name (i := 5) sc_figures_of.nd rfl (by first | exact Or.inl rfl | exact Or.inr rfl)) jgs_nil)) (fun _ _ _ h => gCs_len (fun _ _ _ h => gCs_len (fun _ _ _ h => gNl_len h) h) h)))
    (jss_one (js_drop (je_bm PySem.F.plainAttrs_list PySem.F.slot_list_append PySem.F.type_list_append ma_append (je_var (pv 3)) (ja_cons (je_var (pv 5)) ja_nil) tyL_ok)))))
  (jss_one (js_ret (je_rev (je_var (pv 3))))))))
theorem ok_check_number (T : Txt K mg a) : OkA P w K mg base 3 a.f_check_number ["thing", "least", "most"] m_check_number := by
  exact ok_def T.fn_check_number sc_check_number rfl rfl (fun _ _ _ _ _ _ us hl => match us, hl with | [_, _, _], _ => rfl) (fun cdv A outer s H E hr =>
    (jss_one (js_if (jt_not (jt_val (je_call (ok_is_number T) (hr.mono (by decide)) rfl T.g_is_number (takes_of rfl rfl rfl rfl) (ja_cons (je_var (pv 0)) (ja_cons (je_var (pv 1)) (ja_cons (je_var (pv 2)) ja_nil))))))
    (jss_one js_bad)
    jss_nil)))
theorem ok_check_machine (T : Txt K mg a) : OkA P w K mg base 3 a.f_check_machine ["thing", "many"] m_check_machine := by
  exact ok_def T.fn_check_machine sc_check_machine rfl rfl (fun _ _ _ _ _ _ us hl => match us, hl with | [_, _], _ => rfl) (fun cdv A outer s H E hr =>
    (jss_one (js_if (jt_not (jt_val (je_call (ok_is_number T) (hr.mono (by decide)) rfl T.g_is_number (takes_of rfl rfl rfl rfl) (ja_cons (je_var (pv 0)) (ja_cons (je_of (x := .int 0) pe_int fun _ _ => .int _) (ja_cons (je_op oa_sub (je_var (pv 1)) (je_of (x := .int 1) pe_int fun _ _ => .int _)) ja_nil))))))
    (jss_one js_bad)
    jss_nil)))
theorem ok_is_pattern_of (T : Txt K mg a) : OkA P w K mg base 5 a.f_is_pattern_of ["thing", "many", "least", "most"] m_is_pattern_of := by
  exact ok_def T.fn_is_pattern_of sc_is_pattern_of rfl rfl (fun _ _ _ _ _ _ us hl => match us, hl with | [_, _, _, _], _ => rfl) (fun cdv A outer s H E hr =>
    (jss_cons (js_if (PW.pt (jw_or (jt_not (jt_val (je_callB ca_isi (by rfl) T.b_isinstance (by decide +kernel) (ja_cons (je_var (pv 0)) (ja_cons (je_of (x := .ty "tuple") (pe_bltn (v := .ty "tuple") (u := .type "tuple") (by rfl) T.b_tuple (by decide +kernel) rfl) fun _ _ => .ty _) ja_nil))))) (jw_or1 (jt_not (jt_chain oa_le oa_le (je_var (pv 2)) (je_callB ca_len (by rfl) T.b_len (by decide +kernel) (ja_cons (je_var (pv 0)) ja_nil)) (je_var (pv 3)))))))
    (jss_one (js_ret (je_of (x := .bl false) pe_bl fun _ _ => .bl _)))
    jss_nil)
  (jss_one (js_ret (je_cut (je_callB (ca_all rfl) (by rfl) T.b_all (by decide +kernel) (ja_cons (je_lc (own := [("turn", 4)]) rfl sc_is_pattern_of.nd (ji_seq (je_var (pv 0))) (blkOk_by (own := [("turn", 4)]) (N := N_is_pattern_of) (sc := defScope s_is_pattern_of) (by decide +kernel)) (fun _ _ _ _ _ => (jg_name (i := 4) sc_is_pattern_of.nd rfl (Or.inl rfl))) (fun _ _ _ _ _ => jts_nil) (fun _ _ _ _ _ => (je_call (ok_is_turn T) (hr.mono (by decide)) rfl T.g_is_turn takesF (ja_cons (je_var (pv 4)) (ja_cons (je_var (pv 1)) ja_nil))))) ja_nil)))))))
theorem ok_check_pattern (T : Txt K mg a) : OkA P w K mg base 6 a.f_check_pattern ["thing", "many", "least", "most"] m_check_pattern := by
  exact ok_def T.fn_check_pattern sc_check_pattern rfl rfl (fun _ _ _ _ _ _ us hl => match us, hl with | [_, _, _, _], _ => rfl) (fun cdv A outer s H E hr =>
    (jss_one (js_if (jt_not (jt_val (je_call (ok_is_pattern_of T) (hr.mono (by decide)) rfl T.g_is_pattern_of (takes_of rfl rfl rfl rfl) (ja_cons (je_var (pv 0)) (ja_cons (je_var (pv 1)) (ja_cons (je_var (pv 2)) (ja_cons (je_var (pv 3)) ja_nil)))))))
    (jss_one js_bad)
    jss_nil)))
theorem ok_check_size (T : Txt K mg a) : OkA P w K mg base 4 a.f_check_size ["many", "rounds"] m_check_size := by
  obtain ⟨_, cn_MOST_ROUNDS⟩ := T.c_MOST_ROUNDS
  exact ok_def T.fn_check_size sc_check_size rfl rfl (fun _ _ _ _ _ _ us hl => match us, hl with | [_, _], _ => rfl) (fun cdv A outer s H E hr =>
    (jss_cons (js_drop (je_call (ok_check_number T) (hr.mono (by decide)) rfl T.g_check_number (takes_of rfl rfl rfl rfl) (ja_cons (je_var (pv 0)) (ja_cons (je_of (x := .int 3) pe_int fun _ _ => .int _) (ja_cons (je_of (x := .int 5) pe_int fun _ _ => .int _) ja_nil)))))
  (jss_one (js_drop (je_call (ok_check_number T) (hr.mono (by decide)) rfl T.g_check_number (takes_of rfl rfl rfl rfl) (ja_cons (je_var (pv 1)) (ja_cons (je_of (x := .int 0) pe_int fun _ _ => .int _) (ja_cons (je_of (x := .int 30) (pe_glob (v := .int 30) rfl cn_MOST_ROUNDS ⟨_, rfl⟩) fun _ _ => .int _) ja_nil))))))))
theorem ok_shut_out (T : Txt K mg a) : OkA P w K mg base 5 a.f_shut_out ["many", "rounds", "i"] m_shut_out := by
  exact ok_def T.fn_shut_out sc_shut_out rfl rfl (fun _ _ _ _ _ _ us hl => match us, hl with | [_, _, _], _ => rfl) (fun cdv A outer s H E hr =>
    (jss_cons (js_drop (je_call (ok_check_size T) (hr.mono (by decide)) rfl T.g_check_size (takes_of rfl rfl rfl rfl) (ja_cons (je_var (pv 0)) (ja_cons (je_var (pv 1)) ja_nil))))
  (jss_cons (js_drop (je_call (ok_check_machine T) (hr.mono (by decide)) rfl T.g_check_machine (takes_of rfl rfl rfl rfl) (ja_cons (je_var (pv 2)) (ja_cons (je_var (pv 0)) ja_nil))))
  (jss_one (js_ret (je_op oa_mul (je_tup (ja_cons (je_cut (je_callTy ca_tuple (by rfl) T.b_tuple (by decide +kernel) (ja_cons (je_lc (own := [("me", 3)]) rfl sc_shut_out.nd (ji_range1 (by rfl) T.b_range (ja_cons (je_var (pv 0)) ja_nil)) (blkOk_by (own := [("me", 3)]) (N := N_shut_out) (sc := defScope s_shut_out) (by decide +kernel)) (fun _ _ _ _ _ => (jg_name (i := 3) sc_shut_out.nd rfl (Or.inl rfl))) (fun _ _ _ _ _ => jts_nil) (fun _ _ _ _ _ => (je_ifE (jt_cmp (oa_eq hr.u64) (je_var (pv 3)) (je_var (pv 2)) (nomark _)) (je_of (x := .non) pe_non fun _ _ => .non) (je_var (pv 2))))) ja_nil))) ja_nil)) (je_var (pv 1))))))))
theorem ok_chain_at (T : Txt K mg a) : OkA P w K mg base 7 a.f_chain_at ["many", "first", "last", "number"] m_chain_at := by
  obtain ⟨_, cn_MOST_ROUNDS⟩ := T.c_MOST_ROUNDS
  exact ok_def T.fn_chain_at sc_chain_at rfl rfl (fun _ _ _ _ _ _ us hl => match us, hl with | [_, _, _, _], _ => rfl) (fun cdv A outer s H E hr =>
    (jss_cons (js_drop (je_call (ok_check_number T) (hr.mono (by decide)) rfl T.g_check_number (takes_of rfl rfl rfl rfl) (ja_cons (je_var (pv 0)) (ja_cons (je_of (x := .int 3) pe_int fun _ _ => .int _) (ja_cons (je_of (x := .int 5) pe_int fun _ _ => .int _) ja_nil)))))
  (jss_cons (js_drop (je_call (ok_check_pattern T) (hr.mono (by decide)) rfl T.g_check_pattern (takes_of rfl rfl rfl rfl) (ja_cons (je_var (pv 1)) (ja_cons (je_var (pv 0)) (ja_cons (je_of (x := .int 0) pe_int fun _ _ => .int _) (ja_cons (je_of (x := .int 30) (pe_glob (v := .int 30) rfl cn_MOST_ROUNDS ⟨_, rfl⟩) fun _ _ => .int _) ja_nil))))))
  (jss_cons (js_set (i := 4) sc_chain_at.nd rfl (by first | exact Or.inl rfl | exact Or.inr rfl) (je_callB ca_len (by rfl) T.b_len (by decide +kernel) (ja_cons (je_var (pv 1)) ja_nil)))
  (jss_cons (js_drop (je_call (ok_check_pattern T) (hr.mono (by decide)) rfl T.g_check_pattern (takes_of rfl rfl rfl rfl) (ja_cons (je_var (pv 2)) (ja_cons (je_var (pv 0)) (ja_cons (je_var (pv 4)) (ja_cons (je_var (pv 4)) ja_nil))))))
  (jss_cons (js_drop (je_call (ok_check_number T) (hr.mono (by decide)) rfl T.g_check_number (takes_of rfl rfl rfl rfl) (ja_cons (je_var (pv 3)) (ja_cons (je_of (x := .int 0) pe_int fun _ _ => .int _) (ja_cons (je_op oa_sub (je_call (ok_power T) (hr.mono (by decide)) rfl T.g_power (takes_of rfl rfl rfl rfl) (ja_cons (je_op oa_add (je_var (pv 0)) (je_of (x := .int 1) pe_int fun _ _ => .int _)) (ja_cons (je_var (pv 4)) ja_nil))) (je_of (x := .int 1) pe_int fun _ _ => .int _)) ja_nil)))))
  (jss_cons (js_set (i := 5) sc_chain_at.nd rfl (by first | exact Or.inl rfl | exact Or.inr rfl) (je_lst ja_nil))
  (jss_cons (js_for (passes_of rfl) rfl (ji_enum (by rfl) T.b_enumerate (ja_cons (je_call (ok_figures_of T) (hr.mono (by decide)) rfl T.g_figures_of (takes_of rfl rfl rfl rfl) (ja_cons (je_var (pv 3)) (ja_cons (je_op oa_add (je_var (pv 0)) (je_of (x := .int 1) pe_int fun _ _ => .int _)) (ja_cons (je_var (pv 4)) ja_nil)))) ja_nil)) (jg_tup (n := 2) rfl (jgs_cons (jg_name (i := 6) sc_chain_at.nd rfl (by first | exact Or.inl rfl | exact Or.inr rfl)) (jgs_cons (jg_name (i := 7) sc_chain_at.nd rfl (by first | exact Or.inl rfl | exact Or.inr rfl)) jgs_nil)) (fun _ _ _ h => gCs_len (fun _ _ _ h => gCs_len (fun _ _ _ h => gNl_len h) h) h))
    (jss_cons (js_drop (je_bm PySem.F.plainAttrs_list PySem.F.slot_list_append PySem.F.type_list_append ma_append (je_var (pv 5)) (ja_cons (je_op oa_add (je_slice sla (je_ix ixa (je_var (pv 2)) (je_var (pv 6))) jo_none (jo_some (je_var (pv 7)))) (je_slice sla (je_ix ixa (je_var (pv 1)) (je_var (pv 6))) (jo_some (je_var (pv 7))) jo_none)) ja_nil) tyL_ok))
    (jss_cons (js_if (jt_cmp oa_gt (je_var (pv 7)) (je_of (x := .int 0) pe_int fun _ _ => .int _) (nomark _))
      (jss_one (js_set (i := 1) sc_chain_at.nd rfl (by first | exact Or.inl rfl | exact Or.inr rfl) (je_call (ok_shut_out T) (hr.mono (by decide)) rfl T.g_shut_out (takes_of rfl rfl rfl rfl) (ja_cons (je_var (pv 0)) (ja_cons (je_var (pv 4)) (ja_cons (je_op oa_sub (je_var (pv 7)) (je_of (x := .int 1) pe_int fun _ _ => .int _)) ja_nil))))))
      jss_nil)
    (jss_one (js_if (jt_cmp oa_lt (je_var (pv 7)) (je_var (pv 0)) (nomark _))
      (jss_one (js_set (i := 2) sc_chain_at.nd rfl (by first | exact Or.inl rfl | exact Or.inr rfl) (je_call (ok_shut_out T) (hr.mono (by decide)) rfl T.g_shut_out (takes_of rfl rfl rfl rfl) (ja_cons (je_var (pv 0)) (ja_cons (je_var (pv 4)) (ja_cons (je_var (pv 7)) ja_nil))))))
      jss_nil)))))
  (jss_one (js_ret (je_callTy ca_tuple (by rfl) T.b_tuple (by decide +kernel) (ja_cons (je_var (pv 5)) ja_nil))))))))))))
theorem ok_mover (T : Txt K mg a) : OkA P w K mg base 4 a.f_mover ["many", "rounds", "number"] m_mover := by
  obtain ⟨_, cn_MOST_ROUNDS⟩ := T.c_MOST_ROUNDS
  exact ok_def T.fn_mover sc_mover rfl rfl (fun _ _ _ _ _ _ us hl => match us, hl with | [_, _, _], _ => rfl) (fun cdv A outer s H E hr =>
    (jss_cons (js_drop (je_call (ok_check_number T) (hr.mono (by decide)) rfl T.g_check_number (takes_of rfl rfl rfl rfl) (ja_cons (je_var (pv 0)) (ja_cons (je_of (x := .int 3) pe_int fun _ _ => .int _) (ja_cons (je_of (x := .int 5) pe_int fun _ _ => .int _) ja_nil)))))
  (jss_cons (js_drop (je_call (ok_check_number T) (hr.mono (by decide)) rfl T.g_check_number (takes_of rfl rfl rfl rfl) (ja_cons (je_var (pv 1)) (ja_cons (je_of (x := .int 0) pe_int fun _ _ => .int _) (ja_cons (je_of (x := .int 30) (pe_glob (v := .int 30) rfl cn_MOST_ROUNDS ⟨_, rfl⟩) fun _ _ => .int _) ja_nil)))))
  (jss_cons (js_drop (je_call (ok_check_number T) (hr.mono (by decide)) rfl T.g_check_number (takes_of rfl rfl rfl rfl) (ja_cons (je_var (pv 2)) (ja_cons (je_of (x := .int 1) pe_int fun _ _ => .int _) (ja_cons (je_op oa_sub (je_call (ok_power T) (hr.mono (by decide)) rfl T.g_power (takes_of rfl rfl rfl rfl) (ja_cons (je_op oa_add (je_var (pv 0)) (je_of (x := .int 1) pe_int fun _ _ => .int _)) (ja_cons (je_var (pv 1)) ja_nil))) (je_of (x := .int 1) pe_int fun _ _ => .int _)) ja_nil)))))
  (jss_cons (js_set (i := 3) sc_mover.nd rfl (by first | exact Or.inl rfl | exact Or.inr rfl) (je_call (ok_figures_of T) (hr.mono (by decide)) rfl T.g_figures_of (takes_of rfl rfl rfl rfl) (ja_cons (je_var (pv 2)) (ja_cons (je_op oa_add (je_var (pv 0)) (je_of (x := .int 1) pe_int fun _ _ => .int _)) (ja_cons (je_var (pv 1)) ja_nil)))))
  (jss_cons (js_set (i := 4) sc_mover.nd rfl (by first | exact Or.inl rfl | exact Or.inr rfl) (je_op oa_sub (je_var (pv 1)) (je_of (x := .int 1) pe_int fun _ _ => .int _)))
  (jss_cons (js_while 1000000 (passes_of rfl) (jt_cmp (oa_eq hr.u64) (je_ix ixa (je_var (pv 3)) (je_var (pv 4))) (je_of (x := .int 0) pe_int fun _ _ => .int _) (nomark _))
    (jss_one (js_aug (i := 4) sc_mover.nd rfl (by first | exact Or.inl rfl | exact Or.inr rfl) oi_sub (je_of (x := .int 1) pe_int fun _ _ => .int _))))
  (jss_one (js_ret (je_tup (ja_cons (je_var (pv 4)) (ja_cons (je_op oa_sub (je_ix ixa (je_var (pv 3)) (je_var (pv 4))) (je_of (x := .int 1) pe_int fun _ _ => .int _)) ja_nil))))))))))))
theorem ok_law_pot (T : Txt K mg a) : OkA P w K mg base 1 a.f_law_pot ["script"] m_law_pot := by
  exact ok_def T.fn_law_pot sc_law_pot rfl rfl (fun _ _ _ _ _ _ us hl => match us, hl with | [_], _ => rfl) (fun cdv A outer s H E hr =>
    (jss_cons (js_setLc (i := 1) (own := [("cell", 2)]) rfl sc_law_pot.nd rfl rfl (sw_true rfl rfl rfl (by decide +kernel)) (ji_seq (je_slice sla (je_var (pv 0)) jo_none (jo_some (je_of (x := .int 63) pe_int fun _ _ => .int _)))) (blkOk_by (own := [("cell", 2)]) (N := N_law_pot) (sc := defScope s_law_pot) (by decide +kernel)) (fun _ _ _ _ _ => (jg_name (i := 2) sc_law_pot.nd rfl (Or.inl rfl))) (fun _ _ _ _ _ => jts_nil) (fun _ _ _ _ _ => (je_callB ca_abs (by rfl) T.b_abs (by decide +kernel) (ja_cons (je_callTy ca_int (by rfl) T.b_int (by decide +kernel) (ja_cons (je_var (pv 2)) ja_nil)) ja_nil))))
  (jss_one (js_ret (je_lst (ja_cons (je_var (pv 1)) (ja_cons (je_of (x := .int 0) pe_int fun _ _ => .int _) (ja_cons (je_of (x := .int 0) pe_int fun _ _ => .int _) (ja_cons (je_op oa_add (je_of (x := .int 1) pe_int fun _ _ => .int _) (je_callB ca_len (by rfl) T.b_len (by decide +kernel) (ja_cons (je_var (pv 1)) ja_nil))) (ja_cons (je_of (x := .int 0) pe_int fun _ _ => .int _) ja_nil))))))))))
theorem ok_law_draw (T : Txt K mg a) : OkA P w K mg base 1 a.f_law_draw ["pot", "many"] m_law_draw := by
  exact ok_def T.fn_law_draw sc_law_draw rfl rfl (fun _ _ _ _ _ _ us hl => match us, hl with | [_, _], _ => rfl) (fun cdv A outer s H E hr =>
    (jss_cons (js_if (PW.pt (jw_and (jt_cmp (oa_eq hr.u64) (je_ix ixa (je_var (pv 0)) (je_of (x := .int 2) pe_int fun _ _ => .int _)) (je_of (x := .int 0) pe_int fun _ _ => .int _) (nomark _)) (jw_and1 (jt_cmp oa_lt (je_ix ixa (je_var (pv 0)) (je_of (x := .int 1) pe_int fun _ _ => .int _)) (je_callB ca_len (by rfl) T.b_len (by decide +kernel) (ja_cons (je_ix ixa (je_var (pv 0)) (je_of (x := .int 0) pe_int fun _ _ => .int _)) ja_nil)) (nomark _)))))
    (jss_cons (js_set (i := 2) sc_law_draw.nd rfl (by first | exact Or.inl rfl | exact Or.inr rfl) (je_ix ixa (je_ix ixa (je_var (pv 0)) (je_of (x := .int 0) pe_int fun _ _ => .int _)) (je_ix ixa (je_var (pv 0)) (je_of (x := .int 1) pe_int fun _ _ => .int _))))
    (jss_cons (js_put (je_op oa_add (je_ix ixa (je_var (pv 0)) (je_of (x := .int 1) pe_int fun _ _ => .int _)) (je_of (x := .int 1) pe_int fun _ _ => .int _)) (je_var (pv 0)) (je_of (x := .int 1) pe_int fun _ _ => .int _))
    (jss_cons (js_put (je_op oa_mod (je_callTy ca_int (by rfl) T.b_int (by decide +kernel) (ja_cons (je_op oa_add (je_op oa_add (je_op oa_mul (je_ix ixa (je_var (pv 0)) (je_of (x := .int 3) pe_int fun _ _ => .int _)) (je_of (x := .int 69621) pe_int fun _ _ => .int _)) (je_var (pv 2))) (je_of (x := .int 11) pe_int fun _ _ => .int _)) ja_nil)) (je_of (x := .int 2147483629) pe_int fun _ _ => .int _)) (je_var (pv 0)) (je_of (x := .int 3) pe_int fun _ _ => .int _))
    (jss_one (js_if (jt_cmp oa_ge (je_var (pv 2)) (je_op oa_pow (je_of (x := .int 10) pe_int fun _ _ => .int _) (je_of (x := .int 18) pe_int fun _ _ => .int _)) (nomark _))
      (jss_one (js_put (je_var (pv 2)) (je_var (pv 0)) (je_of (x := .int 2) pe_int fun _ _ => .int _)))
      jss_nil)))))
    jss_nil)
  (jss_cons (js_if (jt_cmp oa_gt (je_ix ixa (je_var (pv 0)) (je_of (x := .int 2) pe_int fun _ _ => .int _)) (je_of (x := .int 0) pe_int fun _ _ => .int _) (nomark _))
    (jss_cons (js_set (i := 3) sc_law_draw.nd rfl (by first | exact Or.inl rfl | exact Or.inr rfl) (je_op oa_mod (je_callTy ca_int (by rfl) T.b_int (by decide +kernel) (ja_cons (je_ix ixa (je_var (pv 0)) (je_of (x := .int 2) pe_int fun _ _ => .int _)) ja_nil)) (je_var (pv 1))))
    (jss_cons (js_put (je_op oa_fdiv (je_ix ixa (je_var (pv 0)) (je_of (x := .int 2) pe_int fun _ _ => .int _)) (je_var (pv 1))) (je_var (pv 0)) (je_of (x := .int 2) pe_int fun _ _ => .int _))
    (jss_one (js_ret (je_var (pv 3))))))
    jss_nil)
  (jss_cons (js_put (je_op oa_add (je_ix ixa (je_var (pv 0)) (je_of (x := .int 4) pe_int fun _ _ => .int _)) (je_of (x := .int 1) pe_int fun _ _ => .int _)) (je_var (pv 0)) (je_of (x := .int 4) pe_int fun _ _ => .int _))
  (jss_cons (js_set (i := 4) sc_law_draw.nd rfl (by first | exact Or.inl rfl | exact Or.inr rfl) (je_op oa_mod (je_callTy ca_int (by rfl) T.b_int (by decide +kernel) (ja_cons (je_op oa_mul (je_callTy ca_int (by rfl) T.b_int (by decide +kernel) (ja_cons (je_op oa_add (je_ix ixa (je_var (pv 0)) (je_of (x := .int 3) pe_int fun _ _ => .int _)) (je_op oa_mul (je_of (x := .int 7919) pe_int fun _ _ => .int _) (je_ix ixa (je_var (pv 0)) (je_of (x := .int 4) pe_int fun _ _ => .int _)))) ja_nil)) (je_of (x := .int 48271) pe_int fun _ _ => .int _)) ja_nil)) (je_of (x := .int 2147483647) pe_int fun _ _ => .int _)))
  (jss_cons (js_set (i := 4) sc_law_draw.nd rfl (by first | exact Or.inl rfl | exact Or.inr rfl) (je_op oa_mod (je_callTy ca_int (by rfl) T.b_int (by decide +kernel) (ja_cons (je_op oa_mul (je_var (pv 4)) (je_op oa_add (je_op oa_fdiv (je_var (pv 4)) (je_of (x := .int 1009) pe_int fun _ _ => .int _)) (je_of (x := .int 69621) pe_int fun _ _ => .int _))) ja_nil)) (je_of (x := .int 2147483647) pe_int fun _ _ => .int _)))
  (jss_cons (js_set (i := 4) sc_law_draw.nd rfl (by first | exact Or.inl rfl | exact Or.inr rfl) (je_op oa_mod (je_callTy ca_int (by rfl) T.b_int (by decide +kernel) (ja_cons (je_op oa_mul (je_var (pv 4)) (je_op oa_add (je_op oa_fdiv (je_var (pv 4)) (je_of (x := .int 2003) pe_int fun _ _ => .int _)) (je_of (x := .int 40692) pe_int fun _ _ => .int _))) ja_nil)) (je_of (x := .int 2147483399) pe_int fun _ _ => .int _)))
  (jss_one (js_ret (je_op oa_mod (je_callTy ca_int (by rfl) T.b_int (by decide +kernel) (ja_cons (je_op oa_fdiv (je_var (pv 4)) (je_of (x := .int 16) pe_int fun _ _ => .int _)) ja_nil)) (je_var (pv 1))))))))))))
theorem ok_law_any (T : Txt K mg a) : OkA P w K mg base 2 a.f_law_any ["pot", "things"] m_law_any := by
  exact ok_def T.fn_law_any sc_law_any rfl rfl (fun _ _ _ _ _ _ us hl => match us, hl with | [_, _], _ => rfl) (fun cdv A outer s H E hr =>
    (jss_one (js_ret (je_ix ixa (je_var (pv 1)) (je_call (ok_law_draw T) (hr.mono (by decide)) rfl T.g_law_draw (takes_of rfl rfl rfl rfl) (ja_cons (je_var (pv 0)) (ja_cons (je_callB ca_len (by rfl) T.b_len (by decide +kernel) (ja_cons (je_var (pv 1)) ja_nil)) ja_nil)))))))
theorem ok_law_entry (T : Txt K mg a) : OkA P w K mg base 3 a.f_law_entry ["pot", "many", "p", "seldom"] m_law_entry := by
  exact ok_def T.fn_law_entry sc_law_entry rfl rfl (fun _ _ _ _ _ _ us hl => match us, hl with | [_, _, _, _], _ => rfl) (fun cdv A outer s H E hr =>
    (jss_cons (js_if (jt_cmp oa_gt (je_call (ok_law_draw T) (hr.mono (by decide)) rfl T.g_law_draw (takes_of rfl rfl rfl rfl) (ja_cons (je_var (pv 0)) (ja_cons (je_var (pv 3)) ja_nil))) (je_of (x := .int 0) pe_int fun _ _ => .int _) (nomark _))
    (jss_one (js_ret (je_of (x := .non) pe_non fun _ _ => .non)))
    jss_nil)
  (jss_one (js_ret (je_cut (je_call (ok_law_any T) (hr.mono (by decide)) rfl T.g_law_any (takes_of rfl rfl rfl rfl) (ja_cons (je_var (pv 0)) (ja_cons (je_lc (own := [("q", 4)]) rfl sc_law_entry.nd (ji_range1 (by rfl) T.b_range (ja_cons (je_var (pv 1)) ja_nil)) (blkOk_by (own := [("q", 4)]) (N := N_law_entry) (sc := defScope s_law_entry) (by decide +kernel)) (fun _ _ _ _ _ => (jg_name (i := 4) sc_law_entry.nd rfl (Or.inl rfl))) (fun _ _ _ _ _ => (jts_one (jt_cmp (oa_ne hr.u64) (je_var (pv 4)) (je_var (pv 2)) (nomark _)))) (fun _ _ _ _ _ => (je_var (pv 4)))) ja_nil))))))))
theorem ok_law_pattern (T : Txt K mg a) : OkA P w K mg base 4 a.f_law_pattern ["pot", "many", "rounds"] m_law_pattern := by
  exact ok_def T.fn_law_pattern sc_law_pattern rfl rfl (fun _ _ _ _ _ _ us hl => match us, hl with | [_, _, _], _ => rfl) (fun cdv A outer s H E hr =>
    (jss_cons (js_asg (je_tup (ja_cons (je_lst ja_nil) (ja_cons (je_cut (je_call (ok_law_any T) (hr.mono (by decide)) rfl T.g_law_any (takes_of rfl rfl rfl rfl) (ja_cons (je_var (pv 0)) (ja_cons (je_lst (ja_cons (je_of (x := .int 1) pe_int fun _ _ => .int _) (ja_cons (je_of (x := .int 2) pe_int fun _ _ => .int _) (ja_cons (je_of (x := .int 2) pe_int fun _ _ => .int _) (ja_cons (je_of (x := .int 5) pe_int fun _ _ => .int _) ja_nil))))) ja_nil)))) ja_nil))) (jg_tup (n := 2) rfl (jgs_cons (jg_name (i := 3) sc_law_pattern.nd rfl (by first | exact Or.inl rfl | exact Or.inr rfl)) (jgs_cons (jg_name (i := 4) sc_law_pattern.nd rfl (by first | exact Or.inl rfl | exact Or.inr rfl)) jgs_nil)) (fun _ _ _ h => gCs_len (fun _ _ _ h => gCs_len (fun _ _ _ h => gNl_len h) h) h)))
  (jss_cons (js_for (passes_of rfl) rfl (ji_range1 (by rfl) T.b_range (ja_cons (je_var (pv 2)) ja_nil)) (jg_name (i := 5) sc_law_pattern.nd rfl (by first | exact Or.inl rfl | exact Or.inr rfl))
    (jss_one (js_if (jt_cmp (oa_eq hr.u64) (je_call (ok_law_draw T) (hr.mono (by decide)) rfl T.g_law_draw (takes_of rfl rfl rfl rfl) (ja_cons (je_var (pv 0)) (ja_cons (je_of (x := .int 4) pe_int fun _ _ => .int _) ja_nil))) (je_of (x := .int 0) pe_int fun _ _ => .int _) (nomark _))
      (jss_cons (js_set (i := 6) sc_law_pattern.nd rfl (by first | exact Or.inl rfl | exact Or.inr rfl) (je_call (ok_law_draw T) (hr.mono (by decide)) rfl T.g_law_draw (takes_of rfl rfl rfl rfl) (ja_cons (je_var (pv 0)) (ja_cons (je_var (pv 1)) ja_nil))))
      (jss_one (js_drop (je_bm PySem.F.plainAttrs_list PySem.F.slot_list_append PySem.F.type_list_append ma_append (je_var (pv 3)) (ja_cons (je_cut (je_callTy ca_tuple (by rfl) T.b_tuple (by decide +kernel) (ja_cons (je_lc (own := [("p", 7)]) rfl sc_law_pattern.nd (ji_range1 (by rfl) T.b_range (ja_cons (je_var (pv 1)) ja_nil)) (blkOk_by (own := [("p", 7)]) (N := N_law_pattern) (sc := defScope s_law_pattern) (by decide +kernel)) (fun _ _ _ _ _ => (jg_name (i := 7) sc_law_pattern.nd rfl (Or.inl rfl))) (fun _ _ _ _ _ => jts_nil) (fun _ _ _ _ _ => (je_ifE (jt_cmp (oa_eq hr.u64) (je_var (pv 7)) (je_var (pv 6)) (nomark _)) (je_of (x := .non) pe_non fun _ _ => .non) (je_var (pv 6))))) ja_nil))) ja_nil) tyL_ok))))
      (jss_one (js_drop (je_bm PySem.F.plainAttrs_list PySem.F.slot_list_append PySem.F.type_list_append ma_append (je_var (pv 3)) (ja_cons (je_cut (je_callTy ca_tuple (by rfl) T.b_tuple (by decide +kernel) (ja_cons (je_lc (own := [("p", 7)]) rfl sc_law_pattern.nd (ji_range1 (by rfl) T.b_range (ja_cons (je_var (pv 1)) ja_nil)) (blkOk_by (own := [("p", 7)]) (N := N_law_pattern) (sc := defScope s_law_pattern) (by decide +kernel)) (fun _ _ _ _ _ => (jg_name (i := 7) sc_law_pattern.nd rfl (Or.inl rfl))) (fun _ _ _ _ _ => jts_nil) (fun _ _ _ _ _ => (je_call (ok_law_entry T) (hr.mono (by decide)) rfl T.g_law_entry takesF (ja_cons (je_var (pv 0)) (ja_cons (je_var (pv 1)) (ja_cons (je_var (pv 7)) (ja_cons (je_var (pv 4)) ja_nil))))))) ja_nil))) ja_nil) tyL_ok))))))
  (jss_one (js_ret (je_callTy ca_tuple (by rfl) T.b_tuple (by decide +kernel) (ja_cons (je_var (pv 3)) ja_nil)))))))
theorem ok_law_figures (T : Txt K mg a) : OkA P w K mg base 1 a.f_law_figures ["base", "rounds", "number"] m_law_figures := by
  exact ok_def T.fn_law_figures sc_law_figures rfl rfl (fun _ _ _ _ _ _ us hl => match us, hl with | [_, _, _], _ => rfl) (fun cdv A outer s H E hr =>
    (jss_cons (js_set (i := 3) sc_law_figures.nd rfl (by first | exact Or.inl rfl | exact Or.inr rfl) (je_lst ja_nil))
  (jss_cons (js_for (passes_of rfl) rfl (ji_range1 (by rfl) T.b_range (ja_cons (je_var (pv 1)) ja_nil)) (jg_name (i := 4) sc_law_figures.nd rfl (by first | exact Or.inl rfl | exact Or.inr rfl))
    (jss_cons (js_set (i := 3) sc_law_figures.nd rfl (by first | exact Or.inl rfl | exact Or.inr rfl) (je_op oa_add (je_lst (ja_cons (je_op oa_mod (je_callTy ca_int (by rfl) T.b_int (by decide +kernel) (ja_cons (je_var (pv 2)) ja_nil)) (je_var (pv 0))) ja_nil)) (je_var (pv 3))))
    (jss_one (js_set (i := 2) sc_law_figures.nd rfl (by first | exact Or.inl rfl | exact Or.inr rfl) (je_op oa_fdiv (je_var (pv 2)) (je_var (pv 0)))))))
  (jss_one (js_ret (je_var (pv 3)))))))
theorem ok_law_drawn (T : Txt K mg a) : OkA P w K mg base 2 a.f_law_drawn ["pot", "base", "rounds"] m_law_drawn := by
  exact ok_def T.fn_law_drawn sc_law_drawn rfl rfl (fun _ _ _ _ _ _ us hl => match us, hl with | [_, _, _], _ => rfl) (fun cdv A outer s H E hr =>
    (jss_cons (js_setLc (i := 3) (own := [("r", 4)]) rfl sc_law_drawn.nd rfl rfl (sw_true rfl rfl rfl (by decide +kernel)) (ji_range1 (by rfl) T.b_range (ja_cons (je_var (pv 2)) ja_nil)) (blkOk_by (own := [("r", 4)]) (N := N_law_drawn) (sc := defScope s_law_drawn) (by decide +kernel)) (fun _ _ _ _ _ => (jg_name (i := 4) sc_law_drawn.nd rfl (Or.inl rfl))) (fun _ _ _ _ _ => jts_nil) (fun _ _ _ _ _ => (je_call (ok_law_draw T) (hr.mono (by decide)) rfl T.g_law_draw takesF (ja_cons (je_var (pv 0)) (ja_cons (je_var (pv 1)) ja_nil)))))
  (jss_cons (js_set (i := 5) sc_law_drawn.nd rfl (by first | exact Or.inl rfl | exact Or.inr rfl) (je_ifE (jt_cmp (oa_eq hr.u64) (je_call (ok_law_draw T) (hr.mono (by decide)) rfl T.g_law_draw (takes_of rfl rfl rfl rfl) (ja_cons (je_var (pv 0)) (ja_cons (je_of (x := .int 2) pe_int fun _ _ => .int _) ja_nil))) (je_of (x := .int 0) pe_int fun _ _ => .int _) (nomark _)) (je_call (ok_law_draw T) (hr.mono (by decide)) rfl T.g_law_draw (takes_of rfl rfl rfl rfl) (ja_cons (je_var (pv 0)) (ja_cons (je_var (pv 2)) ja_nil))) (je_of (x := .int 0) pe_int fun _ _ => .int _)))
  (jss_cons (js_set (i := 3) sc_law_drawn.nd rfl (by first | exact Or.inl rfl | exact Or.inr rfl) (je_op oa_add (je_slice sla (je_var (pv 3)) jo_none (jo_some (je_op oa_sub (je_var (pv 2)) (je_var (pv 5))))) (je_lc (own := [("k", 6)]) rfl sc_law_drawn.nd (ji_range1 (by rfl) T.b_range (ja_cons (je_var (pv 5)) ja_nil)) (blkOk_by (own := [("k", 6)]) (N := N_law_drawn) (sc := defScope s_law_drawn) (by decide +kernel)) (fun _ _ _ _ _ => (jg_name (i := 6) sc_law_drawn.nd rfl (Or.inl rfl))) (fun _ _ _ _ _ => jts_nil) (fun _ _ _ _ _ => (je_of (x := .int 0) pe_int fun _ _ => .int _)))))
  (jss_cons (js_if (jt_not (jt_val (je_cut (je_callB (ca_any rfl) (by rfl) T.b_any (by decide +kernel) (ja_cons (je_lc (own := [("figure", 7)]) rfl sc_law_drawn.nd (ji_seq (je_var (pv 3))) (blkOk_by (own := [("figure", 7)]) (N := N_law_drawn) (sc := defScope s_law_drawn) (by decide +kernel)) (fun _ _ _ _ _ => (jg_name (i := 7) sc_law_drawn.nd rfl (Or.inl rfl))) (fun _ _ _ _ _ => jts_nil) (fun _ _ _ _ _ => (je_cmp oa_gt (je_var (pv 7)) (je_of (x := .int 0) pe_int fun _ _ => .int _) (nomark _)))) ja_nil)))))
    (jss_one (js_put (je_op oa_add (je_of (x := .int 1) pe_int fun _ _ => .int _) (je_call (ok_law_draw T) (hr.mono (by decide)) rfl T.g_law_draw (takes_of rfl rfl rfl rfl) (ja_cons (je_var (pv 0)) (ja_cons (je_op oa_sub (je_var (pv 1)) (je_of (x := .int 1) pe_int fun _ _ => .int _)) ja_nil)))) (je_var (pv 3)) (je_call (ok_law_draw T) (hr.mono (by decide)) rfl T.g_law_draw (takes_of rfl rfl rfl rfl) (ja_cons (je_var (pv 0)) (ja_cons (je_var (pv 2)) ja_nil)))))
    jss_nil)
  (jss_cons (js_set (i := 8) sc_law_drawn.nd rfl (by first | exact Or.inl rfl | exact Or.inr rfl) (je_of (x := .int 0) pe_int fun _ _ => .int _))
  (jss_cons (js_for (passes_of rfl) rfl (ji_seq (je_var (pv 3))) (jg_name (i := 7) sc_law_drawn.nd rfl (by first | exact Or.inl rfl | exact Or.inr rfl))
    (jss_one (js_set (i := 8) sc_law_drawn.nd rfl (by first | exact Or.inl rfl | exact Or.inr rfl) (je_op oa_add (je_op oa_mul (je_var (pv 8)) (je_var (pv 1))) (je_var (pv 7))))))
  (jss_one (js_ret (je_var (pv 8)))))))))))
theorem ok_law (T : Txt K mg a) : OkA P w K mg base 8 a.f_law ["script"] m_law := by
  exact ok_def T.fn_law sc_law rfl rfl (fun _ _ _ _ _ _ us hl => match us, hl with | [_], _ => rfl) (fun cdv A outer s H E hr =>
    (jss_cons (js_set (i := 1) sc_law.nd rfl (by first | exact Or.inl rfl | exact Or.inr rfl) (je_call (ok_law_pot T) (hr.mono (by decide)) rfl T.g_law_pot (takes_of rfl rfl rfl rfl) (ja_cons (je_var (pv 0)) ja_nil)))
  (jss_cons (js_for (passes_of rfl) rfl (ji_range1 (by rfl) T.b_range (ja_cons (je_of (x := .int 8) pe_int fun _ _ => .int _) ja_nil)) (jg_name (i := 2) sc_law.nd rfl (by first | exact Or.inl rfl | exact Or.inr rfl))
    (jss_cons (js_par (i := 3) (j := 4) rfl sc_law.nd rfl rfl (by decide) rfl rfl (ja_cons (je_op oa_add (je_of (x := .int 3) pe_int fun _ _ => .int _) (je_call (ok_law_draw T) (hr.mono (by decide)) rfl T.g_law_draw (takes_of rfl rfl rfl rfl) (ja_cons (je_var (pv 1)) (ja_cons (je_of (x := .int 3) pe_int fun _ _ => .int _) ja_nil)))) (ja_cons (je_cut (je_call (ok_law_any T) (hr.mono (by decide)) rfl T.g_law_any (takes_of rfl rfl rfl rfl) (ja_cons (je_var (pv 1)) (ja_cons (je_lst (ja_cons (je_of (x := .int 1) pe_int fun _ _ => .int _) (ja_cons (je_of (x := .int 2) pe_int fun _ _ => .int _) (ja_cons (je_of (x := .int 3) pe_int fun _ _ => .int _) (ja_cons (je_of (x := .int 4) pe_int fun _ _ => .int _) (ja_cons (je_of (x := .int 9) pe_int fun _ _ => .int _) (ja_cons (je_of (x := .int 30) pe_int fun _ _ => .int _) ja_nil))))))) ja_nil)))) ja_nil)) (by rfl))
    (jss_cons (js_par (i := 5) (j := 6) rfl sc_law.nd rfl rfl (by decide) rfl rfl (ja_cons (je_call (ok_law_pattern T) (hr.mono (by decide)) rfl T.g_law_pattern (takes_of rfl rfl rfl rfl) (ja_cons (je_var (pv 1)) (ja_cons (je_var (pv 3)) (ja_cons (je_var (pv 4)) ja_nil)))) (ja_cons (je_call (ok_law_pattern T) (hr.mono (by decide)) rfl T.g_law_pattern (takes_of rfl rfl rfl rfl) (ja_cons (je_var (pv 1)) (ja_cons (je_var (pv 3)) (ja_cons (je_var (pv 4)) ja_nil)))) ja_nil)) (by rfl))
    (jss_cons (js_set (i := 7) sc_law.nd rfl (by first | exact Or.inl rfl | exact Or.inr rfl) (je_call (ok_law_drawn T) (hr.mono (by decide)) rfl T.g_law_drawn (takes_of rfl rfl rfl rfl) (ja_cons (je_var (pv 1)) (ja_cons (je_op oa_add (je_var (pv 3)) (je_of (x := .int 1) pe_int fun _ _ => .int _)) (ja_cons (je_var (pv 4)) ja_nil)))))
    (jss_cons (js_if (jt_cmp (oa_eq hr.u64) (je_var (pv 2)) (je_of (x := .int 7) pe_int fun _ _ => .int _) (nomark _))
      (jss_one (js_set (i := 7) sc_law.nd rfl (by first | exact Or.inl rfl | exact Or.inr rfl) (je_op oa_add (je_of (x := .int 1) pe_int fun _ _ => .int _) (je_call (ok_law_draw T) (hr.mono (by decide)) rfl T.g_law_draw (takes_of rfl rfl rfl rfl) (ja_cons (je_var (pv 1)) (ja_cons (je_ifE (jt_cmp oa_gt (je_var (pv 4)) (je_of (x := .int 1) pe_int fun _ _ => .int _) (nomark _)) (je_callB (ca_min rfl) (by rfl) T.b_min (by decide +kernel) (ja_cons (je_of (x := .int 20) pe_int fun _ _ => .int _) (ja_cons (je_op oa_sub (je_op oa_pow (je_op oa_add (je_var (pv 3)) (je_of (x := .int 1) pe_int fun _ _ => .int _)) (je_of (x := .int 2) pe_int fun _ _ => .int _)) (je_of (x := .int 1) pe_int fun _ _ => .int _)) ja_nil))) (je_var (pv 3))) ja_nil))))))
      jss_nil)
    (jss_cons (js_set (i := 8) sc_law.nd rfl (by first | exact Or.inl rfl | exact Or.inr rfl) (je_call (ok_law_figures T) (hr.mono (by decide)) rfl T.g_law_figures (takes_of rfl rfl rfl rfl) (ja_cons (je_op oa_add (je_var (pv 3)) (je_of (x := .int 1) pe_int fun _ _ => .int _)) (ja_cons (je_var (pv 4)) (ja_cons (je_var (pv 7)) ja_nil)))))
    (jss_cons (js_set (i := 9) sc_law.nd rfl (by first | exact Or.inl rfl | exact Or.inr rfl) (je_cut (je_callB (ca_max rfl) (by rfl) T.b_max (by decide +kernel) (ja_cons (je_lc (own := [("r", 10)]) rfl sc_law.nd (ji_range1 (by rfl) T.b_range (ja_cons (je_var (pv 4)) ja_nil)) (blkOk_by (own := [("r", 10)]) (N := N_law) (sc := defScope s_law) (by decide +kernel)) (fun _ _ _ _ _ => (jg_name (i := 10) sc_law.nd rfl (Or.inl rfl))) (fun _ _ _ _ _ => (jts_one (jt_cmp oa_gt (je_ix ixa (je_var (pv 8)) (je_var (pv 10))) (je_of (x := .int 0) pe_int fun _ _ => .int _) (nomark _)))) (fun _ _ _ _ _ => (je_var (pv 10)))) ja_nil))))
    (jss_cons (js_set (i := 11) sc_law.nd rfl (by first | exact Or.inl rfl | exact Or.inr rfl) (je_call (ok_mover T) (hr.mono (by decide)) rfl T.g_mover (takes_of rfl rfl rfl rfl) (ja_cons (je_var (pv 3)) (ja_cons (je_var (pv 4)) (ja_cons (je_var (pv 7)) ja_nil)))))
    (jss_cons (js_if (jt_cmp (oa_ne hr.u64) (je_callB (ca_repr hr.g hr.u64) (by rfl) T.b_repr (by decide +kernel) (ja_cons (je_var (pv 11)) ja_nil)) (je_callB (ca_repr hr.g hr.u64) (by rfl) T.b_repr (by decide +kernel) (ja_cons (je_tup (ja_cons (je_var (pv 9)) (ja_cons (je_op oa_sub (je_ix ixa (je_var (pv 8)) (je_var (pv 9))) (je_of (x := .int 1) pe_int fun _ _ => .int _)) ja_nil))) ja_nil)) (nomark _))
      (jss_one (js_ret (je_of (x := .bl false) pe_bl fun _ _ => .bl _)))
      jss_nil)
    (jss_cons (js_par (i := 12) (j := 13) rfl sc_law.nd rfl rfl (by decide) rfl rfl (ja_cons (je_call (ok_chain_at T) (hr.mono (by decide)) rfl T.g_chain_at (takes_of rfl rfl rfl rfl) (ja_cons (je_var (pv 3)) (ja_cons (je_var (pv 5)) (ja_cons (je_var (pv 6)) (ja_cons (je_op oa_sub (je_var (pv 7)) (je_of (x := .int 1) pe_int fun _ _ => .int _)) ja_nil))))) (ja_cons (je_call (ok_chain_at T) (hr.mono (by decide)) rfl T.g_chain_at (takes_of rfl rfl rfl rfl) (ja_cons (je_var (pv 3)) (ja_cons (je_var (pv 5)) (ja_cons (je_var (pv 6)) (ja_cons (je_var (pv 7)) ja_nil))))) ja_nil)) (by rfl))
    (jss_cons (js_for (passes_of rfl) rfl (ji_range1 (by rfl) T.b_range (ja_cons (je_var (pv 4)) ja_nil)) (jg_name (i := 10) sc_law.nd rfl (by first | exact Or.inl rfl | exact Or.inr rfl))
      (jss_one (js_for (passes_of rfl) rfl (ji_range1 (by rfl) T.b_range (ja_cons (je_var (pv 3)) ja_nil)) (jg_name (i := 14) sc_law.nd rfl (by first | exact Or.inl rfl | exact Or.inr rfl))
        (jss_one (js_if (PW.pt (jw_and (jt_cmp (oa_ne hr.u64) (je_ix ixa (je_ix ixa (je_var (pv 12)) (je_var (pv 10))) (je_var (pv 14))) (je_ix ixa (je_ix ixa (je_var (pv 13)) (je_var (pv 10))) (je_var (pv 14))) (nomark _)) (jw_and1 (jt_cmp (oa_ne hr.u64) (je_tup (ja_cons (je_var (pv 10)) (ja_cons (je_var (pv 14)) ja_nil))) (je_var (pv 11)) (nomark _)))))
          (jss_one (js_ret (je_of (x := .bl false) pe_bl fun _ _ => .bl _)))
          jss_nil)))))
    (jss_cons (js_for (passes_of rfl) rfl (ji_range2 (by rfl) T.b_range (ja_cons (je_op oa_add (je_var (pv 9)) (je_of (x := .int 1) pe_int fun _ _ => .int _)) (ja_cons (je_var (pv 4)) ja_nil))) (jg_name (i := 10) sc_law.nd rfl (by first | exact Or.inl rfl | exact Or.inr rfl))
      (jss_cons (js_set (i := 15) sc_law.nd rfl (by first | exact Or.inl rfl | exact Or.inr rfl) (je_cut (je_callTy ca_tuple (by rfl) T.b_tuple (by decide +kernel) (ja_cons (je_lc (own := [("p", 14)]) rfl sc_law.nd (ji_range1 (by rfl) T.b_range (ja_cons (je_var (pv 3)) ja_nil)) (blkOk_by (own := [("p", 14)]) (N := N_law) (sc := defScope s_law) (by decide +kernel)) (fun _ _ _ _ _ => (jg_name (i := 14) sc_law.nd rfl (Or.inl rfl))) (fun _ _ _ _ _ => jts_nil) (fun _ _ _ _ _ => (je_ifE (jt_cmp (oa_eq hr.u64) (je_var (pv 14)) (je_ix ixa (je_var (pv 11)) (je_of (x := .int 1) pe_int fun _ _ => .int _)) (nomark _)) (je_of (x := .non) pe_non fun _ _ => .non) (je_ix ixa (je_var (pv 11)) (je_of (x := .int 1) pe_int fun _ _ => .int _))))) ja_nil))))
      (jss_one (js_if (PW.pt (jw_or (jt_cmp (oa_ne hr.u64) (je_ix ixa (je_var (pv 12)) (je_var (pv 10))) (je_var (pv 15)) (nomark _)) (jw_or1 (jt_cmp (oa_ne hr.u64) (je_ix ixa (je_var (pv 13)) (je_var (pv 10))) (je_var (pv 15)) (nomark _)))))
        (jss_one (js_ret (je_of (x := .bl false) pe_bl fun _ _ => .bl _)))
        jss_nil))))
    (jss_one (js_if (PW.pt (jw_or (PW.pt (jw_and (jt_cmp (oa_ne hr.u64) (je_ix ixa (je_ix ixa (je_var (pv 12)) (je_var (pv 9))) (je_ix ixa (je_var (pv 11)) (je_of (x := .int 1) pe_int fun _ _ => .int _))) (je_ix ixa (je_ix ixa (je_var (pv 5)) (je_var (pv 9))) (je_ix ixa (je_var (pv 11)) (je_of (x := .int 1) pe_int fun _ _ => .int _))) (nomark _)) (jw_and1 (jt_cmp (oa_eq hr.u64) (je_var (pv 9)) (je_of (x := .int 0) pe_int fun _ _ => .int _) (nomark _))))) (jw_or1 (PW.pt (jw_and (jt_cmp (oa_ne hr.u64) (je_ix ixa (je_ix ixa (je_var (pv 13)) (je_var (pv 9))) (je_ix ixa (je_var (pv 11)) (je_of (x := .int 1) pe_int fun _ _ => .int _))) (je_ix ixa (je_ix ixa (je_var (pv 6)) (je_var (pv 9))) (je_ix ixa (je_var (pv 11)) (je_of (x := .int 1) pe_int fun _ _ => .int _))) (nomark _)) (jw_and1 (jt_cmp (oa_eq hr.u64) (je_var (pv 9)) (je_of (x := .int 0) pe_int fun _ _ => .int _) (nomark _))))))))
      (jss_one (js_ret (je_of (x := .bl false) pe_bl fun _ _ => .bl _)))
      jss_nil))))))))))))))
  (jss_one (js_ret (je_of (x := .bl true) pe_bl fun _ _ => .bl _))))))
theorem okfn_law (T : Txt K mg a) {fd : FuncData} (F : Fun K "law" "law" s_law a.f_law fd) : FnG P w K mg base (L2.CX P w) 8 a.f_law fd ["script"] (spA K 1 m_law) := by
  exact (ok_defF F sc_law rfl rfl (fun _ _ _ _ _ _ us hl => match us, hl with | [_], _ => rfl) (fun cdv A outer s H E hr =>
    (jss_cons (js_set (i := 1) sc_law.nd rfl (by first | exact Or.inl rfl | exact Or.inr rfl) (je_call (ok_law_pot T) (hr.mono (by decide)) rfl T.g_law_pot (takes_of rfl rfl rfl rfl) (ja_cons (je_var (pv 0)) ja_nil)))
  (jss_cons (js_for (passes_of rfl) rfl (ji_range1 (by rfl) T.b_range (ja_cons (je_of (x := .int 8) pe_int fun _ _ => .int _) ja_nil)) (jg_name (i := 2) sc_law.nd rfl (by first | exact Or.inl rfl | exact Or.inr rfl))
    (jss_cons (js_par (i := 3) (j := 4) rfl sc_law.nd rfl rfl (by decide) rfl rfl (ja_cons (je_op oa_add (je_of (x := .int 3) pe_int fun _ _ => .int _) (je_call (ok_law_draw T) (hr.mono (by decide)) rfl T.g_law_draw (takes_of rfl rfl rfl rfl) (ja_cons (je_var (pv 1)) (ja_cons (je_of (x := .int 3) pe_int fun _ _ => .int _) ja_nil)))) (ja_cons (je_cut (je_call (ok_law_any T) (hr.mono (by decide)) rfl T.g_law_any (takes_of rfl rfl rfl rfl) (ja_cons (je_var (pv 1)) (ja_cons (je_lst (ja_cons (je_of (x := .int 1) pe_int fun _ _ => .int _) (ja_cons (je_of (x := .int 2) pe_int fun _ _ => .int _) (ja_cons (je_of (x := .int 3) pe_int fun _ _ => .int _) (ja_cons (je_of (x := .int 4) pe_int fun _ _ => .int _) (ja_cons (je_of (x := .int 9) pe_int fun _ _ => .int _) (ja_cons (je_of (x := .int 30) pe_int fun _ _ => .int _) ja_nil))))))) ja_nil)))) ja_nil)) (by rfl))
    (jss_cons (js_par (i := 5) (j := 6) rfl sc_law.nd rfl rfl (by decide) rfl rfl (ja_cons (je_call (ok_law_pattern T) (hr.mono (by decide)) rfl T.g_law_pattern (takes_of rfl rfl rfl rfl) (ja_cons (je_var (pv 1)) (ja_cons (je_var (pv 3)) (ja_cons (je_var (pv 4)) ja_nil)))) (ja_cons (je_call (ok_law_pattern T) (hr.mono (by decide)) rfl T.g_law_pattern (takes_of rfl rfl rfl rfl) (ja_cons (je_var (pv 1)) (ja_cons (je_var (pv 3)) (ja_cons (je_var (pv 4)) ja_nil)))) ja_nil)) (by rfl))
    (jss_cons (js_set (i := 7) sc_law.nd rfl (by first | exact Or.inl rfl | exact Or.inr rfl) (je_call (ok_law_drawn T) (hr.mono (by decide)) rfl T.g_law_drawn (takes_of rfl rfl rfl rfl) (ja_cons (je_var (pv 1)) (ja_cons (je_op oa_add (je_var (pv 3)) (je_of (x := .int 1) pe_int fun _ _ => .int _)) (ja_cons (je_var (pv 4)) ja_nil)))))
    (jss_cons (js_if (jt_cmp (oa_eq hr.u64) (je_var (pv 2)) (je_of (x := .int 7) pe_int fun _ _ => .int _) (nomark _))
      (jss_one (js_set (i := 7) sc_law.nd rfl (by first | exact Or.inl rfl | exact Or.inr rfl) (je_op oa_add (je_of (x := .int 1) pe_int fun _ _ => .int _) (je_call (ok_law_draw T) (hr.mono (by decide)) rfl T.g_law_draw (takes_of rfl rfl rfl rfl) (ja_cons (je_var (pv 1)) (ja_cons (je_ifE (jt_cmp oa_gt (je_var (pv 4)) (je_of (x := .int 1) pe_int fun _ _ => .int _) (nomark _)) (je_callB (ca_min rfl) (by rfl) T.b_min (by decide +kernel) (ja_cons (je_of (x := .int 20) pe_int fun _ _ => .int _) (ja_cons (je_op oa_sub (je_op oa_pow (je_op oa_add (je_var (pv 3)) (je_of (x := .int 1) pe_int fun _ _ => .int _)) (je_of (x := .int 2) pe_int fun _ _ => .int _)) (je_of (x := .int 1) pe_int fun _ _ => .int _)) ja_nil))) (je_var (pv 3))) ja_nil))))))
      jss_nil)
    (jss_cons (js_set (i := 8) sc_law.nd rfl (by first | exact Or.inl rfl | exact Or.inr rfl) (je_call (ok_law_figures T) (hr.mono (by decide)) rfl T.g_law_figures (takes_of rfl rfl rfl rfl) (ja_cons (je_op oa_add (je_var (pv 3)) (je_of (x := .int 1) pe_int fun _ _ => .int _)) (ja_cons (je_var (pv 4)) (ja_cons (je_var (pv 7)) ja_nil)))))
    (jss_cons (js_set (i := 9) sc_law.nd rfl (by first | exact Or.inl rfl | exact Or.inr rfl) (je_cut (je_callB (ca_max rfl) (by rfl) T.b_max (by decide +kernel) (ja_cons (je_lc (own := [("r", 10)]) rfl sc_law.nd (ji_range1 (by rfl) T.b_range (ja_cons (je_var (pv 4)) ja_nil)) (blkOk_by (own := [("r", 10)]) (N := N_law) (sc := defScope s_law) (by decide +kernel)) (fun _ _ _ _ _ => (jg_name (i := 10) sc_law.nd rfl (Or.inl rfl))) (fun _ _ _ _ _ => (jts_one (jt_cmp oa_gt (je_ix ixa (je_var (pv 8)) (je_var (pv 10))) (je_of (x := .int 0) pe_int fun _ _ => .int _) (nomark _)))) (fun _ _ _ _ _ => (je_var (pv 10)))) ja_nil))))
    (jss_cons (js_set (i := 11) sc_law.nd rfl (by first | exact Or.inl rfl | exact Or.inr rfl) (je_call (ok_mover T) (hr.mono (by decide)) rfl T.g_mover (takes_of rfl rfl rfl rfl) (ja_cons (je_var (pv 3)) (ja_cons (je_var (pv 4)) (ja_cons (je_var (pv 7)) ja_nil)))))
    (jss_cons (js_if (jt_cmp (oa_ne hr.u64) (je_callB (ca_repr hr.g hr.u64) (by rfl) T.b_repr (by decide +kernel) (ja_cons (je_var (pv 11)) ja_nil)) (je_callB (ca_repr hr.g hr.u64) (by rfl) T.b_repr (by decide +kernel) (ja_cons (je_tup (ja_cons (je_var (pv 9)) (ja_cons (je_op oa_sub (je_ix ixa (je_var (pv 8)) (je_var (pv 9))) (je_of (x := .int 1) pe_int fun _ _ => .int _)) ja_nil))) ja_nil)) (nomark _))
      (jss_one (js_ret (je_of (x := .bl false) pe_bl fun _ _ => .bl _)))
      jss_nil)
    (jss_cons (js_par (i := 12) (j := 13) rfl sc_law.nd rfl rfl (by decide) rfl rfl (ja_cons (je_call (ok_chain_at T) (hr.mono (by decide)) rfl T.g_chain_at (takes_of rfl rfl rfl rfl) (ja_cons (je_var (pv 3)) (ja_cons (je_var (pv 5)) (ja_cons (je_var (pv 6)) (ja_cons (je_op oa_sub (je_var (pv 7)) (je_of (x := .int 1) pe_int fun _ _ => .int _)) ja_nil))))) (ja_cons (je_call (ok_chain_at T) (hr.mono (by decide)) rfl T.g_chain_at (takes_of rfl rfl rfl rfl) (ja_cons (je_var (pv 3)) (ja_cons (je_var (pv 5)) (ja_cons (je_var (pv 6)) (ja_cons (je_var (pv 7)) ja_nil))))) ja_nil)) (by rfl))
    (jss_cons (js_for (passes_of rfl) rfl (ji_range1 (by rfl) T.b_range (ja_cons (je_var (pv 4)) ja_nil)) (jg_name (i := 10) sc_law.nd rfl (by first | exact Or.inl rfl | exact Or.inr rfl))
      (jss_one (js_for (passes_of rfl) rfl (ji_range1 (by rfl) T.b_range (ja_cons (je_var (pv 3)) ja_nil)) (jg_name (i := 14) sc_law.nd rfl (by first | exact Or.inl rfl | exact Or.inr rfl))
        (jss_one (js_if (PW.pt (jw_and (jt_cmp (oa_ne hr.u64) (je_ix ixa (je_ix ixa (je_var (pv 12)) (je_var (pv 10))) (je_var (pv 14))) (je_ix ixa (je_ix ixa (je_var (pv 13)) (je_var (pv 10))) (je_var (pv 14))) (nomark _)) (jw_and1 (jt_cmp (oa_ne hr.u64) (je_tup (ja_cons (je_var (pv 10)) (ja_cons (je_var (pv 14)) ja_nil))) (je_var (pv 11)) (nomark _)))))
          (jss_one (js_ret (je_of (x := .bl false) pe_bl fun _ _ => .bl _)))
          jss_nil)))))
    (jss_cons (js_for (passes_of rfl) rfl (ji_range2 (by rfl) T.b_range (ja_cons (je_op oa_add (je_var (pv 9)) (je_of (x := .int 1) pe_int fun _ _ => .int _)) (ja_cons (je_var (pv 4)) ja_nil))) (jg_name (i := 10) sc_law.nd rfl (by first | exact Or.inl rfl | exact Or.inr rfl))
      (jss_cons (js_set (i := 15) sc_law.nd rfl (by first | exact Or.inl rfl | exact Or.inr rfl) (je_cut (je_callTy ca_tuple (by rfl) T.b_tuple (by decide +kernel) (ja_cons (je_lc (own := [("p", 14)]) rfl sc_law.nd (ji_range1 (by rfl) T.b_range (ja_cons (je_var (pv 3)) ja_nil)) (blkOk_by (own := [("p", 14)]) (N := N_law) (sc := defScope s_law) (by decide +kernel)) (fun _ _ _ _ _ => (jg_name (i := 14) sc_law.nd rfl (Or.inl rfl))) (fun _ _ _ _ _ => jts_nil) (fun _ _ _ _ _ => (je_ifE (jt_cmp (oa_eq hr.u64) (je_var (pv 14)) (je_ix ixa (je_var (pv 11)) (je_of (x := .int 1) pe_int fun _ _ => .int _)) (nomark _)) (je_of (x := .non) pe_non fun _ _ => .non) (je_ix ixa (je_var (pv 11)) (je_of (x := .int 1) pe_int fun _ _ => .int _))))) ja_nil))))
      (jss_one (js_if (PW.pt (jw_or (jt_cmp (oa_ne hr.u64) (je_ix ixa (je_var (pv 12)) (je_var (pv 10))) (je_var (pv 15)) (nomark _)) (jw_or1 (jt_cmp (oa_ne hr.u64) (je_ix ixa (je_var (pv 13)) (je_var (pv 10))) (je_var (pv 15)) (nomark _)))))
        (jss_one (js_ret (je_of (x := .bl false) pe_bl fun _ _ => .bl _)))
        jss_nil))))
    (jss_one (js_if (PW.pt (jw_or (PW.pt (jw_and (jt_cmp (oa_ne hr.u64) (je_ix ixa (je_ix ixa (je_var (pv 12)) (je_var (pv 9))) (je_ix ixa (je_var (pv 11)) (je_of (x := .int 1) pe_int fun _ _ => .int _))) (je_ix ixa (je_ix ixa (je_var (pv 5)) (je_var (pv 9))) (je_ix ixa (je_var (pv 11)) (je_of (x := .int 1) pe_int fun _ _ => .int _))) (nomark _)) (jw_and1 (jt_cmp (oa_eq hr.u64) (je_var (pv 9)) (je_of (x := .int 0) pe_int fun _ _ => .int _) (nomark _))))) (jw_or1 (PW.pt (jw_and (jt_cmp (oa_ne hr.u64) (je_ix ixa (je_ix ixa (je_var (pv 13)) (je_var (pv 9))) (je_ix ixa (je_var (pv 11)) (je_of (x := .int 1) pe_int fun _ _ => .int _))) (je_ix ixa (je_ix ixa (je_var (pv 6)) (je_var (pv 9))) (je_ix ixa (je_var (pv 11)) (je_of (x := .int 1) pe_int fun _ _ => .int _))) (nomark _)) (jw_and1 (jt_cmp (oa_eq hr.u64) (je_var (pv 9)) (je_of (x := .int 0) pe_int fun _ _ => .int _) (nomark _))))))))
      (jss_one (js_ret (je_of (x := .bl false) pe_bl fun _ _ => .bl _)))
      jss_nil))))))))))))))
  (jss_one (js_ret (je_of (x := .bl true) pe_bl fun _ _ => .bl _))))))).1
end
end L20

set_option Elab.async false
set_option linter.all false
set_option maxRecDepth 100000
set_option maxHeartbeats 1000000
/-! AmS: words for reckoning with what defs do. -/
namespace Am
open PySem PySem.Spec PyProof.Rows L2
/-! ### reckoning step by step: what stands behind is looked at when it is come to -/
section
variable {α β : Type}
theorem R.bind_c {r r' : R α} {k : α → Hx → R β} (h : r = r') : r.bind k = r'.bind k := by rw [h]
theorem R.st_c {r r' : R α} {env : Ev} {k : α → Hx → RS} (h : r = r') : r.st env k = r'.st env k := by rw [h]
theorem R.noex_c {r r' : R α} (h : r = r') : r.noex = r'.noex := by rw [h]
def RS.seq (r : RS) (k : MS) : RS := match r with
  | .nx e A => k e A
  | r => r
theorem RS.seq_c {r r' : RS} {k : MS} (h : r = r') : r.seq k = r'.seq k := by rw [h]
@[simp] theorem RS.seq_nx {e : Ev} {A : Hx} {k : MS} : (RS.nx e A).seq k = k e A := rfl
@[simp] theorem RS.seq_rt {e : AV} {A : Hx} {k : MS} : (RS.rt e A).seq k = .rt e A := rfl
@[simp] theorem RS.seq_bk {e : Ev} {A : Hx} {k : MS} : (RS.bk e A).seq k = .bk e A := rfl
@[simp] theorem RS.seq_ct {e : Ev} {A : Hx} {k : MS} : (RS.ct e A).seq k = .ct e A := rfl
@[simp] theorem RS.seq_ex {x : AX} {e : Ev} {A : Hx} {k : MS} : (RS.ex x e A).seq k = .ex x e A := rfl
@[simp] theorem RS.seq_bad {k : MS} : RS.bad.seq k = .bad := rfl
/-- which way -/
def pick (c : Bool) (x y : α) : α := if c = true then x else y
theorem pick_c {c c' : Bool} {x y : α} (h : c = c') : pick c x y = pick c' x y := by rw [h]
@[simp] theorem pick_t {x y : α} : pick true x y = x := rfl
@[simp] theorem pick_f {x y : α} : pick false x y = y := rfl
theorem pick_pos {p : Prop} [Decidable p] {x y : α} (h : p) : pick (decide p) x y = x := by rw [decide_eq_true h]; rfl
theorem pick_neg {p : Prop} [Decidable p] {x y : α} (h : ¬ p) : pick (decide p) x y = y := by rw [decide_eq_false h]; rfl
/-- an optional outcome -/
def optR (o : Option α) (k : α → R β) : R β := match o with
  | some x => k x
  | none => .bad
theorem optR_c {o o' : Option α} {k : α → R β} (h : o = o') : optR o k = optR o' k := by rw [h]
@[simp] theorem optR_some {x : α} {k : α → R β} : optR (some x) k = k x := rfl
@[simp] theorem optR_none {k : α → R β} : optR none k = .bad := rfl
def optS (o : Option α) (k : α → RS) : RS := match o with
  | some x => k x
  | none => .bad
theorem optS_c {o o' : Option α} {k : α → RS} (h : o = o') : optS o k = optS o' k := by rw [h]
@[simp] theorem optS_some {x : α} {k : α → RS} : optS (some x) k = k x := rfl
@[simp] theorem optS_none {k : α → RS} : optS none k = .bad := rfl
end
section
variable {env : Ev} {A : Hx} {a b c : ME} {t u : MT} {x y z : MS} {ma : MA} {f g : AV → AV → Hx → R AV} {i j : Nat}
@[simp] theorem mC_eq {v : AV} : mC v env A = .ok v A := rfl
theorem mVar_eq : mVar i env A = optR (env[i]?.join) fun v => .ok v A := by
  unfold mVar
  cases env[i]? with
  | none => rfl
  | some o => cases o <;> rfl
@[simp] theorem mOp_eq : mOp f a b env A = (a env A).bind fun x A1 => (b env A1).bind fun y A2 => f x y A2 := rfl
@[simp] theorem mUn_eq {f : AV → Hx → R AV} : mUn f a env A = (a env A).bind f := rfl
@[simp] theorem mNil_eq : mNil env A = .ok [] A := rfl
@[simp] theorem mCons_eq : mCons a ma env A = (a env A).bind fun x A1 => (ma env A1).bind fun xs A2 => .ok (x :: xs) A2 := rfl
@[simp] theorem mTup_eq : mTup ma env A = (ma env A).bind fun xs A1 => if xs.length ≤ sizeLine then .ok (.tup xs) A1 else .bad := rfl
@[simp] theorem mLst_eq : mLst ma env A = (ma env A).bind fun xs A1 => if xs.length ≤ sizeLine then .ok (.loc A1.length) (A1 ++ [.lst xs]) else .bad := rfl
@[simp] theorem mTru_eq : mTru a env A = (a env A).bind truth := rfl
@[simp] theorem mNotV_eq : mNotV a env A = (a env A).bind fun x A1 => (truth x A1).bind fun b A2 => .ok (.bl (!b)) A2 := rfl
@[simp] theorem mAndV_eq : mAndV a b env A = (a env A).bind fun x A1 => (truth x A1).bind fun c A2 => pick c (b env A2) (.ok x A2) := rfl
@[simp] theorem mOrV_eq : mOrV a b env A = (a env A).bind fun x A1 => (truth x A1).bind fun c A2 => pick c (.ok x A2) (b env A2) := rfl
@[simp] theorem mAnd_eq : mAnd t u env A = (t env A).bind fun c A1 => pick c (u env A1) (.ok false A1) := rfl
@[simp] theorem mOr_eq : mOr t u env A = (t env A).bind fun c A1 => pick c (.ok true A1) (u env A1) := rfl
@[simp] theorem mNot_eq : mNot t env A = (t env A).bind fun c A1 => .ok (!c) A1 := rfl
@[simp] theorem mIfE_eq : mIfE t a b env A = (t env A).bind fun c A1 => pick c (a env A1) (b env A1) := rfl
@[simp] theorem mB_eq : mB a env A = (a env A).bind isB := rfl
@[simp] theorem isB_bl {b : Bool} : isB (.bl b) A = .ok b A := rfl
@[simp] theorem mChain_eq : mChain f g a b c env A = (a env A).bind fun x A1 => (b env A1).bind fun y A2 => (f x y A2).bind fun z A3 => (isB z A3).bind fun k A4 => pick k ((c env A4).bind fun w A5 => g y w A5) (.ok (.bl false) A4) := rfl
@[simp] theorem mNoPart_eq : mNoPart env A = .ok none A := rfl
def toI? (x : AV) (A : Hx) : R (Option Int) := match x with
  | .int i => .ok (some i) A
  | _ => .bad
@[simp] theorem toI?_int {i : Int} : toI? (.int i) A = .ok (some i) A := rfl
@[simp] theorem mPart_eq : mPart a env A = (a env A).bind toI? := rfl
@[simp] theorem mSl_eq {f : AV → Option Int → Option Int → Hx → R AV} {lo hi : MO} : mSl f a lo hi env A = (a env A).bind fun x A1 => (lo env A1).bind fun l A2 => (hi env A2).bind fun u A3 => f x l u A3 := rfl
@[simp] theorem mCB_eq {f : List AV → Hx → R AV} : mCB f ma env A = (ma env A).bind f := rfl
@[simp] theorem mBM_eq {T : String} {ty : AV → Hx → Bool} {f : AV → List AV → Hx → R AV} : mBM T ty f a ma env A = (a env A).bind fun x A1 => pick (ty x A1) ((ma env A1).bind fun xs A2 => f x xs A2) .bad := rfl
@[simp] theorem mCut_eq : mCut a env A = cut A (a env A) := rfl
theorem cut_c {r r' : R AV} (h : r = r') : cut A r = cut A r' := by rw [h]
@[simp] theorem mPass_eq : mPass env A = .nx env A := rfl
@[simp] theorem mBad_eq : mBad env A = .bad := rfl
@[simp] theorem mSeq_eq : mSeq x y env A = (x env A).seq y := by
  unfold mSeq RS.seq
  cases x env A <;> rfl
@[simp] theorem mDrop_eq : mDrop a env A = (a env A).st env fun _ A1 => .nx env A1 := rfl
@[simp] theorem mRet_eq : mRet a env A = (a env A).st env fun x A1 => .rt x A1 := rfl
@[simp] theorem mRetN_eq : mRetN env A = .rt .non A := rfl
@[simp] theorem mIf_eq : mIf t x y env A = (t env A).st env fun c A1 => pick c (x env A1) (y env A1) := rfl
@[simp] theorem mSet_eq : mSet i a env A = (a env A).st env fun x A1 => .nx (env.set i (some x)) A1 := rfl
@[simp] theorem mAsg_eq {g : MG} : mAsg g a env A = (a env A).st env fun x A1 => optS (g x env) fun e => .nx e A1 := by
  unfold mAsg
  congr 1
  funext x A1
  cases g x env <;> rfl
def parR (i j : Nat) (env : Ev) (xs : List AV) (A : Hx) : RS := match xs with
  | [x, y] => .nx ((env.set i (some x)).set j (some y)) A
  | _ => .bad
@[simp] theorem parR_eq {v w : AV} : parR i j env [v, w] A = .nx ((env.set i (some v)).set j (some w)) A := rfl
@[simp] theorem mPar_eq : mPar i j ma env A = (ma env A).st env (parR i j env) := rfl
@[simp] theorem mPut_eq : mPut a b c env A = (a env A).st env fun x A1 => (b env A1).st env fun y A2 => (c env A2).st env fun z A3 => optS (setIx y z x A3) fun A4 => .nx env A4 := by
  unfold mPut
  congr 1
  funext x A1
  congr 1
  funext y A2
  congr 1
  funext z A3
  cases setIx y z x A3 <;> rfl
@[simp] theorem gNm_eq {v : AV} : gNm i v env = some (env.set i (some v)) := rfl
@[simp] theorem gNl_eq : gNl [] env = some env := rfl
@[simp] theorem gCs_eq {g : MG} {r : MGs} {v : AV} {vs : List AV} : gCs g r (v :: vs) env = (g v env).bind fun e => r vs e := rfl
@[simp] theorem gTp_eq {g : MGs} {vs : List AV} : gTp g (.tup vs) env = g vs env := rfl
@[simp] theorem outR_nx : outR (.nx env A) = .ok .non A := rfl
@[simp] theorem outR_rt {v : AV} : outR (.rt v A) = .ok v A := rfl
@[simp] theorem outR_ex {e : AX} : outR (.ex e env A) = .ex e A := rfl
@[simp] theorem outR_bad : outR .bad = .bad := rfl
theorem outR_c {r r' : RS} (h : r = r') : outR r = outR r' := by rw [h]
theorem fdef_eq {n l : Nat} {xs : List AV} (h : xs.length = n) : fdef n l x xs A = cut A (outR (x (xs.map some ++ List.replicate l none) A)) := by
  unfold fdef
  rw [if_pos h]
end
theorem fdef_ret {n l : Nat} {mb : MS} {xs : List AV} {A A' B : Hx} {v w : AV} (h : xs.length = n) (e : mb (xs.map some ++ List.replicate l none) A = .rt v A') (c : cut A (.ok v A') = .ok w B) : fdef n l mb xs A = .ok w B := by
  unfold fdef
  rw [if_pos h, e]
  exact c
theorem fdef_nxt {n l : Nat} {mb : MS} {xs : List AV} {A A' B : Hx} {env : Ev} (h : xs.length = n) (e : mb (xs.map some ++ List.replicate l none) A = .nx env A') (c : cut A (.ok .non A') = .ok .non B) : fdef n l mb xs A = .ok .non B := by
  unfold fdef
  rw [if_pos h, e]
  exact c
theorem seq_of {a b : MS} {env e : Ev} {A A1 : Hx} (h : a env A = .nx e A1) : mSeq a b env A = b e A1 := by rw [mSeq_eq, h]; rfl
theorem cutOk_refl (A : Hx) : cutOk A A := ⟨Nat.le_refl _, fun i o _ e => .inl e⟩
theorem cut_at {A A' B : Hx} {x : AV} (hx : below A.length x = true) (hl : A.length ≤ A'.length) (ht : A'.take A.length = B) (h : ∀ (i : Nat) (o : AO), i < A.length → B[i]? = some o → A[i]? = some o ∨ belowO A.length o = true) : cut A (.ok x A') = .ok x B := by
  have ok : cutOk A A' := ⟨hl, fun i o hi e => h i o hi (by rw [← ht, List.getElem?_take_of_lt hi]; exact e)⟩
  unfold cut
  dsimp only
  rw [if_pos ok, if_pos hx, ht]
theorem cut_pure {A : Hx} {x : AV} (h : below A.length x = true) : cut A (.ok x A) = .ok x A :=
  cut_at h (Nat.le_refl _) (List.take_length) fun i o _ e => .inl e
theorem cut_junk {A J : Hx} {x : AV} (h : below A.length x = true) : cut A (.ok x (A ++ J)) = .ok x A :=
  cut_at h (by simp) (by simp) fun i o _ e => .inl e
/-- a new object is what is handed back -/
theorem cut_new {A A' : Hx} {k : Nat} {o : AO} (hl : A.length ≤ A'.length) (ht : A'.take A.length = A) (hk : A.length ≤ k) (e : A'[k]? = some o) (b : belowO A.length o = true) : cut A (.ok (.loc k) A') = .ok (.loc A.length) (A ++ [o]) := by
  have ok : cutOk A A' := ⟨hl, fun i o hi e => .inl (by rw [← ht, List.getElem?_take_of_lt hi]; exact e)⟩
  unfold cut
  dsimp only
  rw [if_pos ok]
  have nb : ¬ below A.length (.loc k) = true := by simp [below]; omega
  rw [if_neg nb, e]
  dsimp only
  rw [if_pos b, ht]
@[simp] theorem below_non (n : Nat) : below n .non = true := by simp [below]
@[simp] theorem below_bl (n : Nat) (b : Bool) : below n (.bl b) = true := by simp [below]
@[simp] theorem below_int (n : Nat) (b : Int) : below n (.int b) = true := by simp [below]
@[simp] theorem below_str (n : Nat) (b : Str) : below n (.str b) = true := by simp [below]
@[simp] theorem below_tup (n : Nat) (b : List AV) : below n (.tup b) = belows n b := by simp [below]
@[simp] theorem below_loc (n k : Nat) : below n (.loc k) = decide (k < n) := by simp [below]
@[simp] theorem belows_nil (n : Nat) : belows n [] = true := by simp [belows]
@[simp] theorem belows_cons (n : Nat) (x : AV) (r : List AV) : belows n (x :: r) = (below n x && belows n r) := by simp [belows]
@[simp] theorem belows_append (n : Nat) : ∀ (r s : List AV), belows n (r ++ s) = (belows n r && belows n s)
  | [], s => by simp
  | x :: r, s => by simp [belows_append n r s, Bool.and_assoc]
@[simp] theorem belows_int (n : Nat) (r : List Int) : belows n (r.map AV.int) = true := by
  induction r with
  | nil => simp
  | cons x r ih => simp [ih]
@[simp] theorem belowO_lst (n : Nat) (r : List AV) : belowO n (.lst r) = belows n r := rfl
theorem ixN_nat {n j : Nat} (h : j < n) : ixN n (j : Int) = some j := by
  unfold ixN
  have h2 : (j : Int) < (n : Int) := by omega
  simp [h]
theorem atI_natA {α : Type} {xs : List α} {j : Nat} {x : α} (h : xs[j]? = some x) : atI xs (j : Int) = some x := by
  unfold atI
  rw [ixN_nat (List.getElem?_eq_some_iff.mp h).1]
  exact h
/-! ### data -/
section
variable {A : Hx} {k : Nat}
@[simp] theorem toD_non : toD A k .non = some .none := by cases k <;> simp [toD]
@[simp] theorem toD_bl (b : Bool) : toD A k (.bl b) = some (.bool b) := by cases k <;> simp [toD]
@[simp] theorem toD_int (b : Int) : toD A k (.int b) = some (.int b) := by cases k <;> simp [toD]
@[simp] theorem toD_str (b : Str) : toD A k (.str b) = some (.str b) := by cases k <;> simp [toD]
@[simp] theorem allD_nil (f : AV → Option PyData) : allD f [] = some [] := rfl
@[simp] theorem allD_cons (f : AV → Option PyData) (x : AV) (r : List AV) : allD f (x :: r) = (f x).bind fun d => (allD f r).map (d :: ·) := rfl
theorem allD_map {α : Type} {f : α → AV} {g : α → PyData} {t : AV → Option PyData} (h : ∀ x, t (f x) = some (g x)) : ∀ xs : List α, allD t (xs.map f) = some (xs.map g)
  | [] => rfl
  | x :: r => by simp [h x, allD_map h r]
theorem toD_tup {ts : List AV} {ds : List PyData} (h : allD (toD A k) ts = some ds) : toD A (k + 1) (.tup ts) = some (.tuple ds) := by simp [toD, h]
theorem depthAll_le {n : Nat} : ∀ {ds : List PyData}, (∀ d, d ∈ ds → d.depth ≤ n) → PyData.depthAll ds ≤ n
  | [], _ => by simp [PyData.depthAll]
  | d :: r, h => by
    simp only [PyData.depthAll]
    exact Nat.max_le.mpr ⟨h d List.mem_cons_self, depthAll_le fun e he => h e (List.mem_cons_of_mem _ he)⟩
theorem canLayAll_of : ∀ {ds : List PyData}, (∀ d, d ∈ ds → d.canLay0 = true) → PyData.canLayAll0 ds = true
  | [], _ => by simp [PyData.canLayAll0]
  | d :: r, h => by
    simp only [PyData.canLayAll0, h d List.mem_cons_self, canLayAll_of fun e he => h e (List.mem_cons_of_mem _ he), Bool.and_self]
/-- data of a depth at most n -/
structure Shp (n : Nat) (d : PyData) : Prop where
  lay : d.canLay0 = true
  dep : d.depth ≤ n
theorem Shp.shaped {n : Nat} {d : PyData} (h : Shp n d) (hn : n ≤ 64 := by decide) : SeqAt.shaped d = true := by
  unfold SeqAt.shaped
  rw [h.lay, decide_eq_true (Nat.le_trans h.dep hn)]
  rfl
theorem Shp.mono {n m : Nat} {d : PyData} (h : Shp n d) (hn : n ≤ m) : Shp m d := ⟨h.lay, Nat.le_trans h.dep hn⟩
theorem shp_non (n : Nat) : Shp n .none := ⟨by simp [PyData.canLay0], by simp [PyData.depth]⟩
theorem shp_bool (n : Nat) (b : Bool) : Shp n (.bool b) := ⟨by simp [PyData.canLay0], by simp [PyData.depth]⟩
theorem shp_int (n : Nat) (b : Int) : Shp n (.int b) := ⟨by simp [PyData.canLay0], by simp [PyData.depth]⟩
theorem shp_tup {n : Nat} {ds : List PyData} (h : ∀ d, d ∈ ds → Shp n d) : Shp (n + 1) (.tuple ds) :=
  ⟨by simp only [PyData.canLay0]; exact canLayAll_of fun d hd => (h d hd).lay, by simp only [PyData.depth]; have := depthAll_le fun d hd => (h d hd).dep; omega⟩
theorem shp_lst {n : Nat} {ds : List PyData} (h : ∀ d, d ∈ ds → Shp n d) : Shp (n + 1) (.list ds) :=
  ⟨by simp only [PyData.canLay0]; exact canLayAll_of fun d hd => (h d hd).lay, by simp only [PyData.depth]; have := depthAll_le fun d hd => (h d hd).dep; omega⟩
theorem shp_map {α : Type} {n : Nat} {g : α → PyData} (h : ∀ x, Shp n (g x)) (xs : List α) : Shp (n + 1) (.tuple (xs.map g)) := shp_tup fun d hd => by
  obtain ⟨x, _, rfl⟩ := List.mem_map.mp hd
  exact h x
theorem eqD_of {x y : AV} {d e : PyData} {n : Nat} (hx : toD A 60 x = some d) (hy : toD A 60 y = some e) (sd : Shp n d) (se : Shp n e) (hn : n ≤ 64 := by decide) : eqD A x y = .ok (PyData.eqv d e) A := by
  unfold eqD
  rw [hx, hy]
  dsimp only
  rw [if_pos ⟨sd.shaped hn, se.shaped hn⟩]
theorem eqv_int (i j : Int) : PyData.eqv (.int i) (.int j) = decide (i = j) := by
  by_cases h : i = j <;> simp [PyData.eqv, h]
theorem eqvAll_map {α : Type} [DecidableEq α] {g : α → PyData} (h : ∀ x y, PyData.eqv (g x) (g y) = decide (x = y)) : ∀ xs ys : List α, PyData.eqvAll (xs.map g) (ys.map g) = decide (xs = ys)
  | [], [] => by simp [PyData.eqvAll]
  | [], y :: r => by simp [PyData.eqvAll]
  | x :: r, [] => by simp [PyData.eqvAll]
  | x :: r, y :: s => by
    rw [List.map_cons, List.map_cons, PyData.eqvAll, h, eqvAll_map h r s]
    by_cases h1 : x = y <;> by_cases h2 : r = s <;> simp [h1, h2]
theorem eqv_map {α : Type} [DecidableEq α] {g : α → PyData} (h : ∀ x y, PyData.eqv (g x) (g y) = decide (x = y)) (xs ys : List α) : PyData.eqv (.tuple (xs.map g)) (.tuple (ys.map g)) = decide (xs = ys) := by
  rw [PyData.eqv]
  exact eqvAll_map h xs ys
@[simp] theorem oEq_int (i j : Int) : oEq (.int i) (.int j) A = .ok (.bl (decide (i = j))) A := by
  unfold oEq
  rw [eqD_of (n := 1) (toD_int _) (toD_int _) (shp_int _ _) (shp_int _ _), eqv_int]
  rfl
@[simp] theorem oNe_int (i j : Int) : oNe (.int i) (.int j) A = .ok (.bl (!decide (i = j))) A := by
  unfold oNe
  rw [eqD_of (n := 1) (toD_int _) (toD_int _) (shp_int _ _) (shp_int _ _), eqv_int]
  rfl
end
theorem small_of {i : Int} (h0 : 0 ≤ i) (h : i < 18446744073709551616) : small i := ⟨by omega, by omega⟩
theorem wide_of {i : Int} {k : Nat} (h : i.natAbs < 2 ^ k) (hk : k ≤ 4000) (h0 : 0 < k) : wide i := by
  unfold wide
  exact Nat.lt_of_lt_of_le (PySem.Flt.log2_lt_of h0 h) hk
theorem wide_small {i : Int} (h : small i) : wide i := by
  refine wide_of (k := 65) ?_ (by decide) (by decide)
  obtain ⟨h1, h2⟩ := h
  have : i.natAbs < 36893488147419103232 := by omega
  exact this
@[simp] theorem oAdd_int {A : Hx} (i j : Int) : oAdd (.int i) (.int j) A = .ok (.int (i + j)) A := rfl
@[simp] theorem oSub_int {A : Hx} (i j : Int) : oSub (.int i) (.int j) A = .ok (.int (i - j)) A := rfl
@[simp] theorem oLt_int {A : Hx} (i j : Int) : oLt (.int i) (.int j) A = .ok (.bl (decide (i < j))) A := rfl
@[simp] theorem oLe_int {A : Hx} (i j : Int) : oLe (.int i) (.int j) A = .ok (.bl (decide (i ≤ j))) A := rfl
@[simp] theorem oGt_int {A : Hx} (i j : Int) : oGt (.int i) (.int j) A = .ok (.bl (decide (j < i))) A := rfl
@[simp] theorem oGe_int {A : Hx} (i j : Int) : oGe (.int i) (.int j) A = .ok (.bl (decide (j ≤ i))) A := rfl
@[simp] theorem oInt_int {A : Hx} (i : Int) : oInt [.int i] A = .ok (.int i) A := rfl
theorem oMul_l {A : Hx} {i j : Int} (h : small i) : oMul (.int i) (.int j) A = .ok (.int (i * j)) A := if_pos (.inl h)
theorem oMul_r {A : Hx} {i j : Int} (h : small j) : oMul (.int i) (.int j) A = .ok (.int (i * j)) A := if_pos (.inr (.inl h))
theorem oFdiv_w {A : Hx} {i j : Int} (h : 0 < j) (hw : wide j) : oFdiv (.int i) (.int j) A = .ok (.int (i / j)) A := if_pos ⟨h, hw⟩
theorem oMod_p {A : Hx} {i j : Int} (h : 0 < j) : oMod (.int i) (.int j) A = .ok (.int (i % j)) A := if_pos h
theorem small_lit {i : Int} (h : decide (-(2 ^ 64) < i ∧ i < 2 ^ 64) = true) : small i := of_decide_eq_true h
/-- an item of a list that stands at n -/
theorem oIx_loc {A : Hx} {n : Nat} {xs : List AV} {i : Int} {v : AV} (h : A[n]? = some (.lst xs)) (e : atI xs i = some v) : oIx (.loc n) (.int i) A = .ok v A := by
  simp [oIx, listOf, h, e]
theorem oIx_tup {A : Hx} {xs : List AV} {i : Int} {v : AV} (e : atI xs i = some v) : oIx (.tup xs) (.int i) A = .ok v A := by
  simp [oIx, e]
theorem oLen_loc {A : Hx} {n : Nat} {xs : List AV} (h : A[n]? = some (.lst xs)) : oLen [.loc n] A = .ok (.int xs.length) A := by
  simp [oLen, listOf, h]
@[simp] theorem oLen_tup {A : Hx} {xs : List AV} : oLen [.tup xs] A = .ok (.int xs.length) A := rfl
theorem setIx_loc {A : Hx} {n j : Nat} {xs : List AV} {i : Int} {v : AV} (h : A[n]? = some (.lst xs)) (e : ixN xs.length i = some j) : setIx (.loc n) (.int i) v A = some (A.set n (.lst (xs.set j v))) := by
  simp [setIx, mutOf, h, e]
/-! ### the drawing pot: cells at 1, pot at 2 -/
structure PotO (ns : List Int) (o : AO) : Prop where
  ex : ∃ i d x n : Int, o = .lst [.loc 1, .int i, .int d, .int x, .int n] ∧ 0 ≤ i
end Am

set_option Elab.async false
set_option linter.all false
set_option maxRecDepth 100000
set_option maxHeartbeats 1000000
/-! AmP: words for reckoning, on: comprehensions, loops, the pot. -/
namespace Am
open PySem PySem.Spec PyProof.Rows L2
theorem small_iff {i : Int} : small i ↔ (-18446744073709551616 < i ∧ i < 18446744073709551616) := by
  simp [small]
theorem inR_iff {i : Int} : inR i ↔ (-4611686018427387904 ≤ i ∧ i < 4611686018427387904) := by
  simp [inR]
theorem oFdiv_s {A : Hx} {i j : Int} (h : 0 < j) (hw : small j) : oFdiv (.int i) (.int j) A = .ok (.int (i / j)) A := oFdiv_w h (wide_small hw)
theorem pow18 {A : Hx} : oPow (.int 10) (.int 18) A = .ok (.int 1000000000000000000) A := rfl
section
variable {A : Hx}
@[simp] theorem cut_bl {b : Bool} : cut A (.ok (.bl b) A) = .ok (.bl b) A := cut_pure (by simp)
@[simp] theorem cut_int {b : Int} : cut A (.ok (.int b) A) = .ok (.int b) A := cut_pure (by simp)
@[simp] theorem cut_non : cut A (.ok .non A) = .ok .non A := cut_pure (by simp)
@[simp] theorem cut_str {b : Str} : cut A (.ok (.str b) A) = .ok (.str b) A := cut_pure (by simp)
@[simp] theorem truth_bl {b : Bool} : truth (.bl b) A = .ok b A := by cases b <;> rfl
@[simp] theorem oIs_non {x : AV} : oIs x .non A = .ok (.bl (isNon x)) A := by cases x <;> rfl
@[simp] theorem oIsNot_non {x : AV} : oIsNot x .non A = .ok (.bl (!isNon x)) A := by cases x <;> rfl
@[simp] theorem oIs_bl {a b : Bool} : oIs (.bl a) (.bl b) A = .ok (.bl (a == b)) A := rfl
@[simp] theorem oIsNot_bl {a b : Bool} : oIsNot (.bl a) (.bl b) A = .ok (.bl (a != b)) A := rfl
@[simp] theorem oNeg_int {i : Int} : oNeg (.int i) A = .ok (.int (-i)) A := rfl
theorem snoc_get (x : AO) : (A ++ [x])[A.length]? = some x := by simp
theorem snoc_set (x y : AO) : (A ++ [x]).set A.length y = A ++ [y] := by simp
theorem snoc_mut (xs : List AV) : mutOf (A ++ [.lst xs]) (.loc A.length) = some (A.length, xs) := by simp [mutOf]
theorem snoc_list (xs : List AV) : listOf (A ++ [.lst xs]) (.loc A.length) = some xs := by simp [listOf]
end
section
variable {gd : Gd} {n : Nat} {g : MG} {mt : MT} {me : ME} {env : Ev} {vs : List Nat}
/-- a comprehension that only reads -/
theorem comp_pure {c : AV → Bool} {f : AV → AV} {A : Hx} (hn : n = A.length) (hgd : ∀ acc, okG gd (A ++ [.lst acc])) : ∀ (xs acc : List AV),
    (∀ x, x ∈ xs → ∃ e, g x (wipeE env vs) = some e ∧ ∀ acc, mt e (A ++ [.lst acc]) = .ok (c x) (A ++ [.lst acc]) ∧ (c x = true → me e (A ++ [.lst acc]) = .ok (f x) (A ++ [.lst acc]))) → acc.length + xs.length ≤ sizeLine →
    compV gd n g mt me env vs xs (A ++ [.lst acc]) = .ok (.loc n) (A ++ [.lst (acc ++ (xs.filter c).map f)])
  | [], acc, _, _ => by
    unfold compV
    rw [if_pos (hgd acc)]
    simp
  | x :: r, acc, h, hl => by
    obtain ⟨e, e1, e2⟩ := h x List.mem_cons_self
    unfold compV
    rw [if_pos (hgd acc), e1]
    dsimp only
    rw [(e2 acc).1, R.noex_ok, R.bind_ok]
    have hr := fun y hy => h y (List.mem_cons_of_mem x hy)
    simp only [List.length_cons] at hl
    cases hc : c x with
    | false =>
      rw [if_neg (by simp), comp_pure hn hgd r acc hr (by omega)]
      simp [hc]
    | true =>
      rw [if_pos rfl, (e2 acc).2 hc, R.noex_ok, R.bind_ok, hn, snoc_mut]
      dsimp only
      rw [if_pos (by omega), snoc_set, ← hn, comp_pure hn hgd r (acc ++ [f x]) hr (by simp; omega)]
      simp [hc]
theorem lc_pure {mi : MI} {c : AV → Bool} {f : AV → AV} {A : Hx} {xs : List AV} (hi : mi env A = .ok (xs, gd) A) (hgd : ∀ acc, okG gd (A ++ [.lst acc]))
    (h : ∀ x, x ∈ xs → ∃ e, g x (wipeE env vs) = some e ∧ ∀ acc, mt e (A ++ [.lst acc]) = .ok (c x) (A ++ [.lst acc]) ∧ (c x = true → me e (A ++ [.lst acc]) = .ok (f x) (A ++ [.lst acc]))) (hl : xs.length ≤ sizeLine) :
    mLc mi g mt me vs env A = .ok (.loc A.length) (A ++ [.lst ((xs.filter c).map f)]) := by
  unfold mLc
  rw [hi, R.bind_ok, comp_pure rfl hgd xs [] h (by simpa using hl), List.nil_append]
/-- two rows, item by item -/
inductive All2 (P : AV → AV → Prop) : List AV → List AV → Prop where
  | nil : All2 P [] []
  | cons {x y : AV} {xs ys : List AV} (h : P x y) (r : All2 P xs ys) : All2 P (x :: xs) (y :: ys)
theorem All2.length {P : AV → AV → Prop} : ∀ {xs ys : List AV}, All2 P xs ys → ys.length = xs.length
  | _, _, .nil => rfl
  | _, _, .cons _ r => by simp [r.length]
/-- a comprehension that changes what stands outside, by an invariant -/
theorem comp_st {I : Hx → Prop} {P : AV → AV → Prop} (hl : ∀ A, I A → A.length = n) (hgd : ∀ A acc, I A → okG gd (A ++ [.lst acc])) : ∀ (xs acc : List AV) (A : Hx),
    (∀ x, x ∈ xs → ∃ e, g x (wipeE env vs) = some e ∧ ∀ A acc, I A → mt e (A ++ [.lst acc]) = .ok true (A ++ [.lst acc]) ∧ ∃ y A', me e (A ++ [.lst acc]) = .ok y (A' ++ [.lst acc]) ∧ I A' ∧ P x y) → acc.length + xs.length ≤ sizeLine → I A →
    ∃ A' ys, compV gd n g mt me env vs xs (A ++ [.lst acc]) = .ok (.loc n) (A' ++ [.lst (acc ++ ys)]) ∧ I A' ∧ All2 P xs ys
  | [], acc, A, _, _, hI => by
    refine ⟨A, [], ?_, hI, .nil⟩
    unfold compV
    rw [if_pos (hgd A acc hI)]
    simp
  | x :: r, acc, A, h, hs, hI => by
    obtain ⟨e, e1, e2⟩ := h x List.mem_cons_self
    obtain ⟨e3, y, A1, e4, hI1, hp⟩ := e2 A acc hI
    simp only [List.length_cons] at hs
    obtain ⟨A2, ys, e5, hI2, hp2⟩ := comp_st hl hgd r (acc ++ [y]) A1 (fun z hz => h z (List.mem_cons_of_mem x hz)) (by simp; omega) hI1
    refine ⟨A2, y :: ys, ?_, hI2, .cons hp hp2⟩
    unfold compV
    rw [if_pos (hgd A acc hI), e1]
    dsimp only
    rw [e3, R.noex_ok, R.bind_ok, if_pos rfl, e4, R.noex_ok, R.bind_ok]
    have hn := hl A1 hI1
    have hm : mutOf (A1 ++ [.lst acc]) (.loc n) = some (n, acc) := hn ▸ snoc_mut acc
    rw [hm]
    dsimp only
    have hset : (A1 ++ [AO.lst acc]).set n (.lst (acc ++ [y])) = A1 ++ [.lst (acc ++ [y])] := hn ▸ snoc_set _ _
    rw [if_pos (by omega), hset, e5]
    simp
theorem lc_st {mi : MI} {I : Hx → Prop} {P : AV → AV → Prop} {A : Hx} {xs : List AV} (hi : mi env A = .ok (xs, gd) A) (hl : ∀ A', I A' → A'.length = A.length) (hgd : ∀ A acc, I A → okG gd (A ++ [.lst acc]))
    (h : ∀ x, x ∈ xs → ∃ e, g x (wipeE env vs) = some e ∧ ∀ A acc, I A → mt e (A ++ [.lst acc]) = .ok true (A ++ [.lst acc]) ∧ ∃ y A', me e (A ++ [.lst acc]) = .ok y (A' ++ [.lst acc]) ∧ I A' ∧ P x y) (hs : xs.length ≤ sizeLine) (hI : I A) :
    ∃ A' ys, mLc mi g mt me vs env A = .ok (.loc A.length) (A' ++ [.lst ys]) ∧ I A' ∧ All2 P xs ys := by
  obtain ⟨A', ys, e, h1, h2⟩ := comp_st (mt := mt) (me := me) (acc := []) hl hgd xs A h (by simpa using hs) hI
  refine ⟨A', ys, ?_, h1, h2⟩
  unfold mLc
  rw [hi, R.bind_ok, e, List.nil_append]
variable {b : MS}
/-- a loop by an invariant -/
theorem for_inv {I : Ev → Hx → Prop} (hgd : ∀ env A, I env A → okG gd A) : ∀ (xs : List AV) (env : Ev) (A : Hx), (∀ x, x ∈ xs → ∀ env A, I env A → ∃ e, g x env = some e ∧ ∃ e' A', b e A = .nx e' A' ∧ I e' A') → I env A →
    ∃ env' A', forV gd g b xs env A = .nx env' A' ∧ I env' A'
  | [], env, A, _, hI => by
    refine ⟨env, A, ?_, hI⟩
    unfold forV
    rw [if_pos (hgd env A hI)]
  | x :: r, env, A, h, hI => by
    obtain ⟨e, e1, e2, A2, e3, hI2⟩ := h x List.mem_cons_self env A hI
    obtain ⟨e4, A4, e5, hI4⟩ := for_inv hgd r e2 A2 (fun z hz => h z (List.mem_cons_of_mem x hz)) hI2
    refine ⟨e4, A4, ?_, hI4⟩
    unfold forV
    rw [if_pos (hgd env A hI), e1]
    dsimp only
    rw [e3]
    exact e5
/-- a loop by an invariant that goes on with what is done -/
theorem for_step {I : List AV → Ev → Hx → Prop} (hgd : ∀ r env A, I r env A → okG gd A) (h : ∀ x r env A, I (x :: r) env A → ∃ e, g x env = some e ∧ ∃ e' A', b e A = .nx e' A' ∧ I r e' A') : ∀ (xs : List AV) (env : Ev) (A : Hx), I xs env A →
    ∃ env' A', forV gd g b xs env A = .nx env' A' ∧ I [] env' A'
  | [], env, A, hI => by
    refine ⟨env, A, ?_, hI⟩
    unfold forV
    rw [if_pos (hgd _ env A hI)]
  | x :: r, env, A, hI => by
    obtain ⟨e, e1, e2, A2, e3, hI2⟩ := h x r env A hI
    obtain ⟨e4, A4, e5, hI4⟩ := for_step hgd h r e2 A2 hI2
    refine ⟨e4, A4, ?_, hI4⟩
    unfold forV
    rw [if_pos (hgd _ env A hI), e1]
    dsimp only
    rw [e3]
    exact e5
end
section
variable {env : Ev} {A : Hx}
theorem range1 {a : ME} {j : Int} (h : a env A = .ok (.int j) A) (hj : inR j) : miRange1 (mCons a mNil) env A = .ok (rangeA 0 j, []) A := by
  simp [miRange1, h, hj]
theorem range2 {a c : ME} {i j : Int} (h : a env A = .ok (.int i) A) (h' : c env A = .ok (.int j) A) (hi : inR i) (hj : inR j) : miRange2 (mCons a (mCons c mNil)) env A = .ok (rangeA i j, []) A := by
  simp [miRange2, h, h', hi, hj]
theorem mem_range {i j : Int} {x : AV} (h : x ∈ rangeA i j) : ∃ k : Int, x = .int k ∧ i ≤ k ∧ k < j := by
  unfold rangeA at h
  obtain ⟨k, hk, rfl⟩ := List.mem_map.mp h
  have := List.mem_range.mp hk
  exact ⟨_, rfl, by omega, by omega⟩
@[simp] theorem range_len {i j : Int} : (rangeA i j).length = (j - i).toNat := by simp [rangeA]
theorem range_get {i j : Int} {k : Nat} (h : (k : Int) < j - i) : (rangeA i j)[k]? = some (.int (i + k)) := by
  unfold rangeA
  rw [List.getElem?_map, List.getElem?_range (by omega)]
  rfl
/-- all over a comprehension -/
theorem all_of {L : ME} {bs : List Bool} (h : L env A = .ok (.loc A.length) (A ++ [.lst (bs.map .bl)])) : mCut (mCB oAll (mCons L mNil)) env A = .ok (.bl (bs.all id)) A := by
  rw [mCut_eq, mCB_eq, mCons_eq, h, R.bind_ok, mNil_eq, R.bind_ok, R.bind_ok]
  have : oAll [.loc A.length] (A ++ [.lst (bs.map .bl)]) = .ok (.bl (bs.all id)) (A ++ [.lst (bs.map .bl)]) := by
    unfold oAll
    dsimp only
    rw [snoc_list, Option.bind_some, blsOf_map]
  rw [this]
  exact cut_junk (by simp)
/-- a tuple of a comprehension -/
theorem tuple_of {L : ME} {xs : List AV} (h : L env A = .ok (.loc A.length) (A ++ [.lst xs])) (hb : belows A.length xs = true) : mCut (mCB oTuple (mCons L mNil)) env A = .ok (.tup xs) A := by
  rw [mCut_eq, mCB_eq, mCons_eq, h, R.bind_ok, mNil_eq, R.bind_ok, R.bind_ok]
  have : oTuple [.loc A.length] (A ++ [.lst xs]) = .ok (.tup xs) (A ++ [.lst xs]) := by
    unfold oTuple
    dsimp only
    rw [snoc_list]
  rw [this]
  exact cut_junk (by simpa using hb)
end
theorem belows_mem {n : Nat} : ∀ {xs : List AV}, belows n xs = true → ∀ {x}, x ∈ xs → below n x = true
  | y :: r, h, x, hx => by
    rw [belows_cons, Bool.and_eq_true] at h
    rcases List.mem_cons.mp hx with rfl | hx
    · exact h.1
    · exact belows_mem h.2 hx
theorem belows_of {n : Nat} : ∀ {xs : List AV}, (∀ x, x ∈ xs → below n x = true) → belows n xs = true
  | [], _ => by simp
  | y :: r, h => by
    rw [belows_cons, h y List.mem_cons_self, belows_of fun x hx => h x (List.mem_cons_of_mem y hx)]
    rfl
theorem atI_mem {α : Type} {xs : List α} {i : Int} (h0 : 0 ≤ i) (h : i < xs.length) : ∃ x, x ∈ xs ∧ atI xs i = some x ∧ xs[i.toNat]? = some x := by
  have hz : i.toNat < xs.length := by omega
  refine ⟨xs[i.toNat], List.getElem_mem hz, ?_, List.getElem?_eq_getElem hz⟩
  have e : ((i.toNat : Nat) : Int) = i := by omega
  have := atI_natA (List.getElem?_eq_getElem hz)
  rwa [e] at this
/-! ### the pot -/
theorem PotO.bel {ns : List Int} {P : AO} (h : PotO ns P) {n : Nat} (hn : 1 < n) : belowO n P = true := by
  obtain ⟨i, d, x, k, rfl, _⟩ := h.ex
  simp [hn]
theorem cut_pot {ns : List Int} {s c P P' : AO} {B J : Hx} {x : AV} (h : PotO ns P') (hb : below (B.length + 3) x = true) : cut (s :: c :: P :: B) (.ok x (s :: c :: P' :: (B ++ J))) = .ok x (s :: c :: P' :: B) := by
  refine cut_at hb (by simp) (by simp) ?_
  intro j o hj e
  match j, e with
  | 0, e => exact .inl e
  | 1, e => exact .inl e
  | 2, e => cases e; exact .inr (by simpa using h.bel (by omega))
  | j + 3, e => exact .inl e
theorem cut_pot0 {ns : List Int} {s c P P' : AO} {B : Hx} {x : AV} (h : PotO ns P') (hb : below (B.length + 3) x = true) : cut (s :: c :: P :: B) (.ok x (s :: c :: P' :: B)) = .ok x (s :: c :: P' :: B) := by
  have := cut_pot (s := s) (c := c) (P := P) (B := B) (J := []) h hb
  rwa [List.append_nil] at this
/-! ### equal texts and tuples -/
theorem eqvAll_refl : ∀ {ds : List PyData}, (∀ d, d ∈ ds → PyData.eqv d d = true) → PyData.eqvAll ds ds = true
  | [], _ => by simp [PyData.eqvAll]
  | d :: r, h => by
    rw [PyData.eqvAll, h d List.mem_cons_self, eqvAll_refl fun e he => h e (List.mem_cons_of_mem d he)]
    rfl
theorem eqv_tup_refl {ds : List PyData} (h : ∀ d, d ∈ ds → PyData.eqv d d = true) : PyData.eqv (.tuple ds) (.tuple ds) = true := by
  rw [PyData.eqv]
  exact eqvAll_refl h
/-- equal to itself -/
theorem oNe_self {A : Hx} {x : AV} {d : PyData} {n : Nat} (hx : toD A 60 x = some d) (sd : Shp n d) (hr : PyData.eqv d d = true) (hn : n ≤ 64 := by decide) : oNe x x A = .ok (.bl false) A := by
  unfold oNe
  rw [eqD_of hx hx sd sd hn, hr]
  rfl
end Am

set_option Elab.async false
set_option linter.all false
set_option maxRecDepth 100000
set_option maxHeartbeats 2000000
namespace L20
open PySem PySem.Spec PyProof.Rows L2 Am
local macro_rules | `(tactic| walk_at "am") => `(tactic| simp [mVar_eq, oIx, oLen, Am.listOf, mutOf, setIx, atI, ixN, pow18, oMul_l, oMul_r, oMod_p, oFdiv_s, small_iff, *])
theorem draw_ok (s : AO) (ns : List Int) (P : AO) (B : Hx) (m : Int) (hP : PotO ns P) (hm : 0 < m) (hm2 : m < 2 ^ 60) :
    ∃ r P', m_law_draw [.loc 2, .int m] (s :: .lst (ns.map .int) :: P :: B) = .ok (.int r) (s :: .lst (ns.map .int) :: P' :: B) ∧ 0 ≤ r ∧ r < m ∧ PotO ns P' := by
  obtain ⟨i, d, x, n, rfl, hi⟩ := hP.ex
  have sm : m < 18446744073709551616 := by omega
  have sm' : -18446744073709551616 < m := by omega
  have cutG : ∀ (r : Int) (P' : AO), belowO (B.length + 3) P' = true → cut (s :: .lst (ns.map .int) :: AO.lst [AV.loc 1, AV.int i, AV.int d, AV.int x, AV.int n] :: B) (.ok (.int r) (s :: .lst (ns.map .int) :: P' :: B)) = .ok (.int r) (s :: .lst (ns.map .int) :: P' :: B) := by
    intro r P' hb
    refine cut_at (by simp) (by simp) (by simp) ?_
    intro j o hj e
    match j, e with
    | 0, e => exact .inl e
    | 1, e => exact .inl e
    | 2, e => cases e; exact .inr (by simpa using hb)
    | j + 3, e => exact .inl e
  have h1 : ∃ (v : Option AV) (i1 d1 x1 : Int), 0 ≤ i1 ∧ (mIf (mAnd (mB (mOp oEq (mOp oIx (mVar 0) (mC (.int 2))) (mC (.int 0)))) (mB (mOp oLt (mOp oIx (mVar 0) (mC (.int 1))) (mCB oLen (mCons (mOp oIx (mVar 0) (mC (.int 0))) mNil)))))
    (mSeq (mSet 2 (mOp oIx (mOp oIx (mVar 0) (mC (.int 0))) (mOp oIx (mVar 0) (mC (.int 1)))))
    (mSeq (mPut (mOp oAdd (mOp oIx (mVar 0) (mC (.int 1))) (mC (.int 1))) (mVar 0) (mC (.int 1)))
    (mSeq (mPut (mOp oMod (mCB oInt (mCons (mOp oAdd (mOp oAdd (mOp oMul (mOp oIx (mVar 0) (mC (.int 3))) (mC (.int 69621))) (mVar 2)) (mC (.int 11))) mNil)) (mC (.int 2147483629))) (mVar 0) (mC (.int 3)))
    (mIf (mB (mOp oGe (mVar 2) (mOp oPow (mC (.int 10)) (mC (.int 18)))))
      (mPut (mVar 2) (mVar 0) (mC (.int 2)))
      mPass))))
    mPass) [some (.loc 2), some (.int m), none, none, none] (s :: .lst (ns.map .int) :: AO.lst [AV.loc 1, AV.int i, AV.int d, AV.int x, AV.int n] :: B) = .nx [some (.loc 2), some (.int m), v, none, none] (s :: .lst (ns.map .int) :: AO.lst [AV.loc 1, AV.int i1, AV.int d1, AV.int x1, AV.int n] :: B) := by
    by_cases hd : d = 0
    · by_cases hl : i < (ns.length : Int)
      · have hz : i.toNat < ns.length := by omega
        by_cases hg : (1000000000000000000 : Int) ≤ ns[i.toNat]
        · refine ⟨some (.int ns[i.toNat]), i + 1, ns[i.toNat], (x * 69621 + ns[i.toNat] + 11) % 2147483629, by omega, ?_⟩
          walk_at "am"
        · refine ⟨some (.int ns[i.toNat]), i + 1, d, (x * 69621 + ns[i.toNat] + 11) % 2147483629, by omega, ?_⟩
          walk_at "am"
      · refine ⟨none, i, d, x, hi, ?_⟩
        walk_at "am"
    · refine ⟨none, i, d, x, hi, ?_⟩
      walk_at "am"
  obtain ⟨v, i1, d1, x1, hi1, e1⟩ := h1
  unfold m_law_draw
  by_cases hd : 0 < d1
  · refine ⟨d1 % m, .lst [.loc 1, .int i1, .int (d1 / m), .int x1, .int n], ?_, Int.emod_nonneg _ (by omega), Int.emod_lt_of_pos _ hm, ⟨i1, _, x1, n, rfl, hi1⟩⟩
    refine fdef_ret rfl (v := .int (d1 % m)) ?_ (cutG _ _ (by simp))
    show b_law_draw [some (.loc 2), some (.int m), none, none, none] _ = _
    unfold b_law_draw
    rw [seq_of (e := _) (A1 := _) e1]
    walk_at "am"
  · have e2 : ∀ q : Int, -18446744073709551616 < q % 2147483647 := fun q => by omega
    have e3 : ∀ q : Int, q % 2147483647 < 18446744073709551616 := fun q => by omega
    let xa : Int := (x1 + 7919 * (n + 1)) * 48271 % 2147483647
    let xb : Int := xa * (xa / 1009 + 69621) % 2147483647
    let xc : Int := xb * (xb / 2003 + 40692) % 2147483399
    refine ⟨xc / 16 % m, .lst [.loc 1, .int i1, .int d1, .int x1, .int (n + 1)], ?_, Int.emod_nonneg _ (by omega), Int.emod_lt_of_pos _ hm, ⟨i1, _, x1, _, rfl, hi1⟩⟩
    refine fdef_ret rfl (v := .int (xc / 16 % m)) ?_ (cutG _ _ (by simp))
    show b_law_draw [some (.loc 2), some (.int m), none, none, none] _ = _
    unfold b_law_draw
    rw [seq_of (e := _) (A1 := _) e1]
    walk_at "am"
    rfl
/-! ### what the program tells -/
def isI : AV → Bool
  | .int _ => true
  | _ => false
def numB (lo hi : Int) : AV → Bool
  | .int i => decide (lo ≤ i) && decide (i ≤ hi)
  | _ => false
def othB (n p : Int) : AV → Bool
  | .int i => decide (0 ≤ i) && decide (i ≤ n - 1) && decide (i ≠ p)
  | _ => false
def entB (n p : Int) (x : AV) : Bool := isNon x || othB n p x
def rowB (n : Int) : Int → List AV → Bool
  | _, [] => true
  | p, x :: r => entB n p x && rowB n (p + 1) r
def turnB (n : Int) : AV → Bool
  | .tup ts => decide ((ts.length : Int) = n) && rowB n 0 ts
  | _ => false
def patB (n r : Int) : AV → Bool
  | .tup ts => decide (r ≤ ts.length) && decide ((ts.length : Int) ≤ r) && ts.all (turnB n)
  | _ => false
/-- what can be asked for its class -/
def Kn (A : Hx) (x : AV) : Prop := ∃ a, tyN A x = some a
theorem isi_ok {A : Hx} {x : AV} (h : Kn A x) (b : String) (hb : knownN b = true) : ∃ a, tyN A x = some a ∧ oIsi [x, .ty b] A = .ok (.bl (subN a b)) A := by
  obtain ⟨a, e⟩ := h
  exact ⟨a, e, by simp [oIsi, e, hb]⟩
theorem integer_ok {A : Hx} {x : AV} (h : Kn A x) : m_is_integer [x] A = .ok (.bl (isI x)) A := by
  obtain ⟨a, e⟩ := h
  unfold m_is_integer b_is_integer
  refine Eq.trans (fdef_eq rfl) ?_
  simp [mVar_eq, oIsi, e, knownN]
  cases x with
  | loc k =>
    unfold tyN at e
    dsimp only at e
    split at e <;> cases e <;> simp [subN, isI]
  | _ => cases e <;> simp [subN, isI]
theorem number_ok {A : Hx} {x : AV} {lo hi : Int} (h : Kn A x) : m_is_number [x, .int lo, .int hi] A = .ok (.bl (numB lo hi x)) A := by
  unfold m_is_number b_is_number
  refine Eq.trans (fdef_eq rfl) ?_
  simp [mVar_eq, integer_ok h]
  cases x with
  | int i =>
    simp [isI, numB]
    by_cases h1 : lo ≤ i <;> simp [h1]
  | _ => simp [isI, numB]
theorem other_ok {A : Hx} {x : AV} {n p : Int} (h : Kn A x) : m_is_other [x, .int p, .int n] A = .ok (.bl (othB n p x)) A := by
  unfold m_is_other b_is_other
  refine Eq.trans (fdef_eq rfl) ?_
  simp [mVar_eq, number_ok h]
  cases x with
  | int i =>
    by_cases h1 : (decide (0 ≤ i) && decide (i ≤ n - 1)) = true
    · simp only [numB, othB, h1]
      simp
    · simp only [numB, othB, Bool.not_eq_true _ ▸ h1]
      simp
  | _ => simp [numB, othB]
def entsB (n : Int) : Nat → List AV → List Bool
  | _, [] => []
  | k, x :: r => entB n k x :: entsB n (k + 1) r
theorem ents_all (n : Int) : ∀ (k : Nat) (ts : List AV), (entsB n k ts).all id = rowB n k ts
  | _, [] => rfl
  | k, x :: r => by
    show (entB n k x && (entsB n (k + 1) r).all id) = (entB n k x && rowB n ((k : Int) + 1) r)
    rw [ents_all n (k + 1) r]
    rfl
theorem filter_yes (xs : List AV) : (xs.filter fun _ => true) = xs := List.filter_eq_self.mpr (by simp)
def entF (n : Int) : AV → AV
  | .tup [.int p, y] => .bl (entB n p y)
  | _ => .non
theorem ents_map (n : Int) : ∀ (k : Nat) (ts : List AV), ((enumA k ts).filter fun _ => true).map (entF n) = (entsB n k ts).map .bl
  | _, [] => rfl
  | k, x :: r => by
    have := ents_map n (k + 1) r
    rw [filter_yes] at this ⊢
    simp [enumA, entsB, entF, this]
theorem mem_enum : ∀ {k : Nat} {ts : List AV} {x : AV}, x ∈ enumA k ts → ∃ (j : Nat) (y : AV), x = .tup [.int j, y] ∧ y ∈ ts
  | k, t :: r, x, h => by
    rcases List.mem_cons.mp h with rfl | h
    · exact ⟨k, t, rfl, List.mem_cons_self⟩
    · obtain ⟨j, y, e, hy⟩ := mem_enum h
      exact ⟨j, y, e, List.mem_cons_of_mem t hy⟩
@[simp] theorem enum_len : ∀ (k : Nat) (ts : List AV), (enumA k ts).length = ts.length
  | _, [] => rfl
  | k, _ :: r => by simp [enumA, enum_len (k + 1) r]
/-- a row that can be gone through -/
structure KnT (A : Hx) (x : AV) : Prop where
  kn : Kn A x
  its : ∀ ts, x = .tup ts → ts.length ≤ 1000 ∧ ∀ y, y ∈ ts → Kn A y
structure KnP (A : Hx) (x : AV) : Prop where
  kn : Kn A x
  its : ∀ ts, x = .tup ts → ts.length ≤ 1000 ∧ ∀ y, y ∈ ts → KnT A y
def isT : AV → Bool
  | .tup _ => true
  | _ => false
theorem isi_tup {A : Hx} {x : AV} (h : Kn A x) : oIsi [x, .ty "tuple"] A = .ok (.bl (isT x)) A := by
  obtain ⟨a, e⟩ := h
  simp [oIsi, e, knownN]
  cases x with
  | loc k =>
    unfold tyN at e
    dsimp only at e
    split at e <;> cases e <;> simp [subN, isT]
  | _ => cases e <;> simp [subN, isT]
theorem isT_ex {x : AV} (h : isT x = true) : ∃ ts, x = .tup ts := by
  cases x <;> first | exact ⟨_, rfl⟩ | cases h
theorem tyN_snoc {A : Hx} {x : AV} {o : AO} (h : Kn A x) : Kn (A ++ [o]) x := by
  obtain ⟨a, e⟩ := h
  cases x with
  | loc k =>
    refine ⟨a, ?_⟩
    unfold tyN at e ⊢
    dsimp only at e ⊢
    by_cases hk : k < A.length
    · rw [List.getElem?_append_left hk]
      exact e
    · rw [List.getElem?_eq_none (by omega)] at e
      cases e
  | _ => exact ⟨a, e⟩
theorem turn_ok {A : Hx} {x : AV} {n : Int} (h : KnT A x) : m_is_turn [x, .int n] A = .ok (.bl (turnB n x)) A := by
  unfold m_is_turn b_is_turn
  refine Eq.trans (fdef_eq rfl) ?_
  by_cases ht : isT x = true
  · obtain ⟨ts, rfl⟩ := isT_ex ht
    obtain ⟨hl, hy⟩ := h.its ts rfl
    by_cases hn : (ts.length : Int) = n
    · have hc : mCut (mCB oAll (mCons (mLc (miEnum (mCons (mVar 0) mNil)) (gTp (gCs (gNm 2) (gCs (gNm 3) gNl))) mYes (mOrV (mOp oIs (mVar 3) (mC .non)) (mCB m_is_other (mCons (mVar 3) (mCons (mVar 2) (mCons (mVar 1) mNil))))) [2, 3]) mNil)) [some (.tup ts), some (.int n), none, none] A = .ok (.bl ((entsB n 0 ts).all id)) A := by
        refine all_of ?_
        rw [← ents_map]
        refine lc_pure (gd := []) (xs := enumA 0 ts) ?_ (by simp) ?_ (by rw [enum_len, sizeLine_eq]; omega)
        · simp [miEnum, mVar_eq, seqOf]
        · intro x hx
          obtain ⟨j, y, rfl, hm⟩ := mem_enum hx
          refine ⟨[some (.tup ts), some (.int n), some (.int j), some y], by simp [wipeE], fun acc => ⟨rfl, fun _ => ?_⟩⟩
          simp [mVar_eq, other_ok (tyN_snoc (hy y hm))]
          cases hb : isNon y <;> simp [entF, entB, hb]
      simp [mVar_eq, isi_tup h.kn, ht, hn, ↓hc, ents_all, turnB]
    · simp [mVar_eq, isi_tup h.kn, ht, hn, turnB]
  · have ht' : isT x = false := by simpa using ht
    simp [mVar_eq, isi_tup h.kn, ht']
    cases x <;> first | rfl | cases ht'
theorem KnT.snoc {A : Hx} {x : AV} {o : AO} (h : KnT A x) : KnT (A ++ [o]) x := ⟨tyN_snoc h.kn, fun ts e => ⟨(h.its ts e).1, fun y hy => tyN_snoc ((h.its ts e).2 y hy)⟩⟩
theorem pattern_of_ok {A : Hx} {x : AV} {n r : Int} (h : KnP A x) : m_is_pattern_of [x, .int n, .int r, .int r] A = .ok (.bl (patB n r x)) A := by
  unfold m_is_pattern_of b_is_pattern_of
  refine Eq.trans (fdef_eq rfl) ?_
  by_cases ht : isT x = true
  · obtain ⟨ts, rfl⟩ := isT_ex ht
    obtain ⟨hl, hy⟩ := h.its ts rfl
    have hc : mCut (mCB oAll (mCons (mLc (miSeq (mVar 0)) (gNm 4) mYes (mCB m_is_turn (mCons (mVar 4) (mCons (mVar 1) mNil))) [4]) mNil)) [some (.tup ts), some (.int n), some (.int r), some (.int r), none] A = .ok (.bl ((ts.map (turnB n)).all id)) A := by
      refine all_of ?_
      have e : (ts.map (turnB n)).map AV.bl = (ts.filter fun _ => true).map fun y => AV.bl (turnB n y) := by
        rw [filter_yes, List.map_map]
        rfl
      rw [e]
      refine lc_pure (gd := []) (xs := ts) ?_ (by simp) ?_ (by rw [sizeLine_eq]; omega)
      · simp [miSeq, mVar_eq, seqOf]
      · intro y hm
        refine ⟨[some (.tup ts), some (.int n), some (.int r), some (.int r), some y], by simp [wipeE], fun acc => ⟨rfl, fun _ => ?_⟩⟩
        simp [mVar_eq, turn_ok (hy y hm).snoc]
    have e2 : (ts.map (turnB n)).all id = ts.all (turnB n) := by simp
    rw [e2] at hc
    by_cases h1 : r ≤ (ts.length : Int)
    · by_cases h2 : (ts.length : Int) ≤ r
      · simp [mVar_eq, isi_tup h.kn, ht, h1, h2, ↓hc, patB]
      · simp [mVar_eq, isi_tup h.kn, ht, h1, h2, patB]
    · simp [mVar_eq, isi_tup h.kn, ht, h1, patB]
  · have ht' : isT x = false := by simpa using ht
    simp [mVar_eq, isi_tup h.kn, ht']
    cases x <;> first | rfl | cases ht'
theorem kn_int {A : Hx} {i : Int} : Kn A (.int i) := ⟨_, rfl⟩
theorem check_ok {A : Hx} {i lo hi : Int} (h1 : lo ≤ i) (h2 : i ≤ hi) : m_check_number [.int i, .int lo, .int hi] A = .ok .non A := by
  unfold m_check_number b_check_number
  refine Eq.trans (fdef_eq rfl) ?_
  simp [mVar_eq, number_ok kn_int, numB, h1, h2]
theorem machine_ok {A : Hx} {i n : Int} (h1 : 0 ≤ i) (h2 : i ≤ n - 1) : m_check_machine [.int i, .int n] A = .ok .non A := by
  unfold m_check_machine b_check_machine
  refine Eq.trans (fdef_eq rfl) ?_
  simp [mVar_eq, number_ok kn_int, numB, h1, h2]
/-- machines and rounds as asked for -/
structure Sz (n r : Int) : Prop where
  n1 : 3 ≤ n
  n2 : n ≤ 5
  r1 : 0 ≤ r
  r2 : r ≤ 30
theorem size_ok {A : Hx} {n r : Int} (z : Sz n r) : m_check_size [.int n, .int r] A = .ok .non A := by
  unfold m_check_size b_check_size
  refine Eq.trans (fdef_eq rfl) ?_
  simp [mVar_eq, check_ok z.n1 z.n2, check_ok z.r1 z.r2]
theorem power_ok {A : Hx} {n : Int} {k : Nat} (hn : -1000 ≤ n ∧ n ≤ 1000) (hk : k ≤ 1000000) : m_power [.int n, .int k] A = .ok (.int (n ^ k)) A := by
  unfold m_power
  have h := for_step (gd := []) (g := gNm 3) (b := mSet 2 (mOp oMul (mVar 2) (mVar 0))) (I := fun r env A' => A' = A ∧ ∃ v, env = [some (.int n), some (.int k), some (.int (n ^ (k - r.length))), v] ∧ r.length ≤ k) (by simp)
    (by
      rintro x r env A' ⟨rfl, v, rfl, hl⟩
      refine ⟨_, rfl, _, _, ?_, rfl, some x, rfl, by simp at hl; omega⟩
      simp only [List.length_cons] at hl
      have e : k - r.length = (k - (r.length + 1)) + 1 := by omega
      simp [mVar_eq, oMul_r (i := _) (small_iff.mpr (show -18446744073709551616 < n ∧ n < 18446744073709551616 by omega)), e, Int.pow_succ]) (rangeA 0 k) [some (.int n), some (.int k), some (.int 1), none] A ⟨rfl, none, by simp, by simp⟩
  obtain ⟨env', A', e1, rfl, v, rfl, -⟩ := h
  simp only [List.length_nil, Nat.sub_zero] at e1
  have e2 : mFor (miRange1 (mCons (mVar 1) mNil)) (gNm 3) (mSet 2 (mOp oMul (mVar 2) (mVar 0))) [some (.int n), some (.int k), some (.int 1), none] A' = .nx [some (.int n), some (.int k), some (.int (n ^ k)), v] A' := by
    unfold mFor
    rw [range1 (j := k) rfl (by rw [inR_iff]; omega)]
    exact e1
  refine fdef_ret rfl (v := .int (n ^ k)) (A' := A') ?_ cut_int
  show b_power [some (.int n), some (.int k), none, none] A' = _
  unfold b_power
  rw [seq_of (a := mSet 2 (mC (.int 1))) (e := [some (.int n), some (.int k), some (.int 1), none]) (A1 := A') rfl, seq_of e2]
  simp [mVar_eq]
theorem one_le : (1 : Nat) ≤ sizeLine := by rw [sizeLine_eq]; decide
theorem rep_one (k : Nat) (x : AV) : (List.replicate k [x]).flatten = List.replicate k x := by
  induction k with
  | zero => rfl
  | succ k ih => rw [List.replicate_succ, List.flatten_cons, ih]; rfl
theorem belows_rep {n k : Nat} {x : AV} (h : below n x = true) : belows n (List.replicate k x) = true := belows_of fun y hy => by
  rw [List.eq_of_mem_replicate hy]
  exact h
theorem oMul_tup1 {A : Hx} {x : AV} {k : Int} (h0 : 0 ≤ k) (h1 : k ≤ 30) : oMul (.tup [x]) (.int k) A = .ok (.tup (List.replicate k.toNat x)) A := by
  unfold oMul
  dsimp only
  rw [if_pos ⟨by omega, by omega, by simp⟩, rep_one]
def plainV (n r : Int) : AV := .tup (List.replicate r.toNat (.tup (List.replicate n.toNat .non)))
def shutF (i : Int) : AV → AV
  | .int q => if q = i then .non else .int i
  | _ => .non
def shutRow (n i : Int) : List AV := (rangeA 0 n).map (shutF i)
theorem shut_bel {n i : Int} {k : Nat} : belows k (shutRow n i) = true := belows_of fun x hx => by
  obtain ⟨y, hy, rfl⟩ := List.mem_map.mp hx
  obtain ⟨q, rfl, -, -⟩ := mem_range hy
  unfold shutF
  dsimp only
  split <;> simp
def shutV (n r i : Int) : AV := .tup (List.replicate r.toNat (.tup (shutRow n i)))
theorem shutV_bel {n r i : Int} {k : Nat} : below k (shutV n r i) = true := by
  unfold shutV
  rw [below_tup]
  exact belows_rep (by rw [below_tup]; exact shut_bel)
theorem shut_ok {A : Hx} {n r i : Int} (z : Sz n r) (i0 : 0 ≤ i) (i1 : i < n) : m_shut_out [.int n, .int r, .int i] A = .ok (shutV n r i) A := by
  have := z.n1
  have := z.n2
  unfold m_shut_out b_shut_out
  refine Eq.trans (fdef_eq rfl) ?_
  have hc : mCut (mCB oTuple (mCons (mLc (miRange1 (mCons (mVar 0) mNil)) (gNm 3) mYes (mIfE (mB (mOp oEq (mVar 3) (mVar 2))) (mC .non) (mVar 2)) [3]) mNil)) [some (.int n), some (.int r), some (.int i), none] A = .ok (.tup (shutRow n i)) A := by
    refine tuple_of ?_ shut_bel
    unfold shutRow
    conv => rhs; rw [← filter_yes (rangeA 0 n)]
    refine lc_pure (gd := []) (range1 rfl (by rw [inR_iff]; omega)) (by simp) ?_ (by rw [range_len, sizeLine_eq]; omega)
    intro x hx
    obtain ⟨q, rfl, -, -⟩ := mem_range hx
    refine ⟨[some (.int n), some (.int r), some (.int i), some (.int q)], by simp [wipeE], fun acc => ⟨rfl, fun _ => ?_⟩⟩
    by_cases hq : q = i <;> simp [mVar_eq, shutF, hq]
  simp [mVar_eq, size_ok z, machine_ok i0 (show i ≤ n - 1 by omega), ↓hc, one_le, oMul_tup1 z.r1 z.r2]
  exact cut_pure shutV_bel
abbrev Ht (s : AO) (ns : List Int) (P : AO) (B : Hx) : Hx := s :: .lst (ns.map .int) :: P :: B
mutual
theorem below_mono {n m : Nat} (h : n ≤ m) : ∀ (x : AV), below n x = true → below m x = true
  | .loc k, e => by
    simp only [below, decide_eq_true_eq] at e ⊢
    omega
  | .tup ts, e => by
    simp only [below] at e ⊢
    exact belows_mono h ts e
  | .cst ts, e => by
    simp only [below] at e ⊢
    exact belows_mono h ts e
  | .non, _ => by simp [below]
  | .bl _, _ => by simp [below]
  | .int _, _ => by simp [below]
  | .str _, _ => by simp [below]
  | .ty _, _ => by simp [below]
  | .st _, _ => by simp [below]
theorem belows_mono {n m : Nat} (h : n ≤ m) : ∀ (xs : List AV), belows n xs = true → belows m xs = true
  | [], _ => by simp [belows]
  | x :: r, e => by
    simp only [belows, Bool.and_eq_true] at e ⊢
    exact ⟨below_mono h x e.1, belows_mono h r e.2⟩
end
section
variable {s : AO} {ns : List Int} {P : AO} {B : Hx}
theorem any_raw {j : Nat} {xs : List AV} (hP : PotO ns P) (hB : B[j]? = some (.lst xs)) (hne : xs ≠ []) (hl : xs.length ≤ 1000) (hb : belows (B.length + 3) xs = true) :
    ∃ x P', x ∈ xs ∧ m_law_any [.loc 2, .loc (j + 3)] (Ht s ns P B) = .ok x (Ht s ns P' B) ∧ PotO ns P' := by
  have hpos := List.length_pos_iff.mpr hne
  obtain ⟨i, P', e, i0, i1, hP'⟩ := draw_ok s ns P B (xs.length : Int) hP (by omega) (by omega)
  obtain ⟨x, hx, e1, -⟩ := atI_mem i0 i1
  refine ⟨x, P', hx, ?_, hP'⟩
  unfold m_law_any b_law_any
  refine Eq.trans (fdef_eq rfl) ?_
  have e2 : oLen [.loc (j + 3)] (Ht s ns P B) = .ok (.int xs.length) (Ht s ns P B) := oLen_loc hB
  have e3 : oIx (.loc (j + 3)) (.int i) (Ht s ns P' B) = .ok x (Ht s ns P' B) := oIx_loc hB e1
  show cut _ (outR (mRet _ [some (.loc 2), some (.loc (j + 3))] _)) = _
  simp only [mRet_eq, mCB_eq, mCons_eq, mOp_eq, mVar_eq, mNil_eq, List.getElem?_cons_zero, List.getElem?_cons_succ, Option.join_some, optR_some, R.bind_ok, e2, e, e3, R.st_ok, outR_rt]
  exact cut_pot0 hP' (belows_mem hb hx)
theorem snoc3 (x : AO) : Ht s ns P B ++ [x] = Ht s ns P (B ++ [x]) := rfl
theorem len3 : (Ht s ns P B).length = B.length + 3 := rfl
theorem get_end {J : Hx} {x : AO} : (B ++ J ++ [x])[B.length + J.length]? = some x := by
  rw [← List.length_append]
  simp
theorem belows_up {n m : Nat} (h : n ≤ m) {x : AV} (hx : below n x = true) : below m x = true := below_mono h x hx
/-- a draw out of a list that was just made, with what its items needed -/
theorem any_new {a : ME} {L : ME} {env : Ev} {J : Hx} {xs : List AV} (hP : PotO ns P) (ha : ∀ A, a env A = .ok (.loc 2) A) (hL : L env (Ht s ns P B) = .ok (.loc (B.length + J.length + 3)) (Ht s ns P (B ++ J ++ [.lst xs]))) (hne : xs ≠ []) (hl : xs.length ≤ 1000) (hb : belows (B.length + J.length + 4) xs = true) :
    ∃ x P', x ∈ xs ∧ mCB m_law_any (mCons a (mCons L mNil)) env (Ht s ns P B) = .ok x (Ht s ns P' (B ++ J ++ [.lst xs])) ∧ PotO ns P' := by
  obtain ⟨x, P', hx, e, hP'⟩ := any_raw (s := s) (B := B ++ J ++ [.lst xs]) (j := B.length + J.length) hP get_end hne hl (by
    have e : (B ++ J ++ [AO.lst xs]).length + 3 = B.length + J.length + 4 := by simp; omega
    rw [e]
    exact hb)
  refine ⟨x, P', hx, ?_, hP'⟩
  simp only [mCB_eq, mCons_eq, mNil_eq, ha, hL, R.bind_ok]
  exact e
/-- .. when nothing is needed -/
theorem any_ints {a : ME} {L : ME} {env : Ev} {xs : List AV} (hP : PotO ns P) (ha : ∀ A, a env A = .ok (.loc 2) A) (hL : L env (Ht s ns P B) = .ok (.loc (B.length + 3)) (Ht s ns P (B ++ [.lst xs]))) (hne : xs ≠ []) (hl : xs.length ≤ 1000) (hb : belows (B.length + 3) xs = true) :
    ∃ x P', x ∈ xs ∧ mCut (mCB m_law_any (mCons a (mCons L mNil))) env (Ht s ns P B) = .ok x (Ht s ns P' B) ∧ PotO ns P' := by
  obtain ⟨x, P', hx, e, hP'⟩ := any_new (s := s) (a := a) (L := L) (env := env) (B := B) (J := []) (xs := xs) hP ha (by simpa using hL) hne hl (by simpa using belows_of fun y hy => belows_up (by omega) (belows_mem hb hy))
  refine ⟨x, P', hx, ?_, hP'⟩
  rw [mCut_eq, e, List.append_assoc]
  exact cut_pot hP' (belows_mem hb hx)
theorem lst_ints {env : Ev} {ma : MA} {xs : List AV} {A : Hx} (h : ma env A = .ok xs A) (hl : xs.length ≤ 1000) : mLst ma env A = .ok (.loc A.length) (A ++ [.lst xs]) := by
  rw [mLst_eq, h, R.bind_ok, if_pos (by rw [sizeLine_eq]; omega)]
/-- an entry that is drawn -/
theorem entry_ok {n p d : Int} (hP : PotO ns P) (n1 : 3 ≤ n) (n2 : n ≤ 5) (hd : 0 < d) (hd2 : d < 1000) :
    ∃ x P', m_law_entry [.loc 2, .int n, .int p, .int d] (Ht s ns P B) = .ok x (Ht s ns P' B) ∧ PotO ns P' ∧ entB n p x = true ∧ (x = .non ∨ ∃ i, x = .int i) := by
  obtain ⟨i, P1, e, i0, i1, hP1⟩ := draw_ok s ns P B d hP hd (by omega)
  by_cases hi : 0 < i
  · refine ⟨.non, P1, ?_, hP1, by simp [entB, isNon], .inl rfl⟩
    unfold m_law_entry b_law_entry
    refine Eq.trans (fdef_eq rfl) ?_
    simp only [List.map, List.replicate, List.append_eq, List.cons_append, List.nil_append]
    simp [mVar_eq, e, hi]
    exact cut_pot0 hP1 (by simp)
  · have hL : mLc (miRange1 (mCons (mVar 1) mNil)) (gNm 4) (mB (mOp oNe (mVar 4) (mVar 2))) (mVar 4) [4] [some (.loc 2), some (.int n), some (.int p), some (.int d), none] (Ht s ns P1 B) = .ok (.loc (B.length + 3)) (Ht s ns P1 (B ++ [.lst (((rangeA 0 n).filter (fun x => match x with | .int q => !decide (q = p) | _ => true)).map id)])) := by
      refine lc_pure (gd := []) (c := fun x => match x with | .int q => !decide (q = p) | _ => true) (f := id) (range1 rfl (by rw [inR_iff]; omega)) (by simp) ?_ (by rw [range_len, sizeLine_eq]; omega)
      intro x hx
      obtain ⟨q, rfl, -, -⟩ := mem_range hx
      exact ⟨[some (.loc 2), some (.int n), some (.int p), some (.int d), some (.int q)], by simp [wipeE], fun acc => ⟨by simp [mVar_eq], fun _ => by simp [mVar_eq]⟩⟩
    have hmem : ∀ x, x ∈ ((rangeA 0 n).filter (fun x => match x with | .int q => !decide (q = p) | _ => true)).map id → ∃ q : Int, x = .int q ∧ 0 ≤ q ∧ q < n ∧ q ≠ p := by
      intro x hx
      rw [List.map_id] at hx
      obtain ⟨h1, h2⟩ := List.mem_filter.mp hx
      obtain ⟨q, rfl, h3, h4⟩ := mem_range h1
      exact ⟨q, rfl, h3, h4, by simpa using h2⟩
    have hin : ∀ q : Int, 0 ≤ q → q < n → q ≠ p → AV.int q ∈ ((rangeA 0 n).filter (fun x => match x with | .int q => !decide (q = p) | _ => true)).map id := by
      intro q h1 h2 h3
      rw [List.map_id]
      refine List.mem_filter.mpr ⟨?_, by simpa using h3⟩
      unfold rangeA
      exact List.mem_map.mpr ⟨q.toNat, List.mem_range.mpr (by omega), by simp; omega⟩
    obtain ⟨x, P2, hx, e2, hP2⟩ := any_ints (s := s) (a := mVar 0) hP1 (fun A => rfl) hL (by
      intro h0
      by_cases h : p = 0
      · have := hin 1 (by omega) (by omega) (by omega)
        rw [h0] at this
        cases this
      · have := hin 0 (by omega) (by omega) (by omega)
        rw [h0] at this
        cases this) (by
      rw [List.length_map]
      refine Nat.le_trans (List.length_filter_le _ _) ?_
      rw [range_len]
      omega) (belows_of fun x hx => by
        obtain ⟨q, rfl, -⟩ := hmem x hx
        simp)
    obtain ⟨q, rfl, q0, q1, q2⟩ := hmem x hx
    refine ⟨.int q, P2, ?_, hP2, ?_, .inr ⟨q, rfl⟩⟩
    · unfold m_law_entry b_law_entry
      refine Eq.trans (fdef_eq rfl) ?_
      simp only [List.map, List.replicate, List.append_eq, List.cons_append, List.nil_append]
      simp [mVar_eq, e, hi, ↓e2]
      exact cut_pot0 hP2 (by simp)
    · simp [entB, isNon, othB, q0, q2]
      omega
end
theorem range_nil {a b : Int} (h : b ≤ a) : rangeA a b = [] := by
  unfold rangeA
  rw [Int.toNat_of_nonpos (by omega)]
  rfl
theorem range_cons {a b : Int} (h : a < b) : rangeA a b = .int a :: rangeA (a + 1) b := by
  unfold rangeA
  have e : (b - a).toNat = (b - (a + 1)).toNat + 1 := by omega
  rw [e, List.range_succ_eq_map, List.map_cons, List.map_map]
  congr 1
  · simp
  · apply List.map_congr_left
    intro k _
    simp only [Function.comp_apply]
    congr 1
    omega
theorem ent_shape {n p : Int} {x : AV} (h : entB n p x = true) : x = .non ∨ ∃ i, x = .int i := by
  cases x with
  | non => exact .inl rfl
  | int i => exact .inr ⟨i, rfl⟩
  | _ => simp [entB, isNon, othB] at h
theorem row_shape {n : Int} : ∀ {p : Int} {ts : List AV}, rowB n p ts = true → ∀ y, y ∈ ts → y = .non ∨ ∃ i, y = .int i
  | p, x :: r, h, y, hy => by
    simp only [rowB, Bool.and_eq_true] at h
    rcases List.mem_cons.mp hy with rfl | hy
    · exact ent_shape h.1
    · exact row_shape h.2 y hy
theorem turn_shape {n : Int} {x : AV} (h : turnB n x = true) : ∃ ts, x = .tup ts ∧ (ts.length : Int) = n ∧ rowB n 0 ts = true ∧ ∀ y, y ∈ ts → y = .non ∨ ∃ i, y = .int i := by
  cases x with
  | tup ts =>
    simp only [turnB, Bool.and_eq_true, decide_eq_true_eq] at h
    exact ⟨ts, rfl, h.1, h.2, row_shape h.2⟩
  | _ => simp [turnB] at h
theorem ent_bel {y : AV} (h : y = .non ∨ ∃ i, y = .int i) {k : Nat} : below k y = true := by
  rcases h with rfl | ⟨i, rfl⟩ <;> simp
theorem ent_kn {y : AV} (h : y = .non ∨ ∃ i, y = .int i) {A : Hx} : Kn A y := by
  rcases h with rfl | ⟨i, rfl⟩ <;> exact ⟨_, rfl⟩
theorem turn_bel {n : Int} {x : AV} (h : turnB n x = true) {k : Nat} : below k x = true := by
  obtain ⟨ts, rfl, -, -, h⟩ := turn_shape h
  rw [below_tup]
  exact belows_of fun y hy => ent_bel (h y hy)
theorem rows_bel {n : Int} {xs : List AV} (h : xs.all (turnB n) = true) {k : Nat} : belows k xs = true := belows_of fun y hy => turn_bel (List.all_eq_true.mp h y hy)
theorem turn_kn {n : Int} {x : AV} (h : turnB n x = true) (hn : n ≤ 5) {A : Hx} : KnT A x := by
  obtain ⟨ts, rfl, hl, -, h⟩ := turn_shape h
  exact ⟨⟨_, rfl⟩, fun us e => by cases e; exact ⟨by omega, fun y hy => ent_kn (h y hy)⟩⟩
theorem shut_row {n i : Int} (i0 : 0 ≤ i) (i1 : i < n) : ∀ (k : Nat) (a : Int), (k : Int) = n - a → rowB n a ((rangeA a n).map (shutF i)) = true
  | 0, a, h => by
    rw [range_nil (by omega)]
    rfl
  | k + 1, a, h => by
    rw [range_cons (by omega), List.map_cons]
    simp only [rowB, Bool.and_eq_true]
    refine ⟨?_, shut_row i0 i1 k (a + 1) (by omega)⟩
    by_cases ha : a = i
    · simp [shutF, ha, entB, isNon]
    · have ha' : ¬ i = a := fun e => ha e.symm
      simp [shutF, ha, entB, isNon, othB, i0, ha']
      omega
theorem shut_turn {n i : Int} (i0 : 0 ≤ i) (i1 : i < n) : turnB n (.tup (shutRow n i)) = true := by
  simp only [turnB, Bool.and_eq_true, decide_eq_true_eq]
  refine ⟨by simp [shutRow]; omega, shut_row i0 i1 n.toNat 0 (by omega)⟩
theorem drawn_row {n : Int} {P : AV → AV → Prop} (hP : ∀ p y, P (.int p) y → entB n p y = true) : ∀ (k : Nat) (a : Int) (ys : List AV), (k : Int) = n - a → All2 P (rangeA a n) ys → rowB n a ys = true
  | 0, a, ys, h, r => by
    rw [range_nil (by omega)] at r
    cases r
    rfl
  | k + 1, a, ys, h, r => by
    rw [range_cons (by omega)] at r
    cases r with
    | cons h1 r1 =>
      simp only [rowB, Bool.and_eq_true]
      exact ⟨hP _ _ h1, drawn_row hP k (a + 1) _ (by omega) r1⟩
section
variable {s : AO} {ns : List Int} {P : AO} {B : Hx}
noncomputable def b_one : MS := (mIf (mB (mOp oEq (mCB m_law_draw (mCons (mVar 0) (mCons (mC (.int 4)) mNil))) (mC (.int 0))))
      (mSeq (mSet 6 (mCB m_law_draw (mCons (mVar 0) (mCons (mVar 1) mNil))))
      (mDrop (mBM "list" tyL oAppend (mVar 3) (mCons (mCut (mCB oTuple (mCons (mLc (miRange1 (mCons (mVar 1) mNil)) (gNm 7) mYes (mIfE (mB (mOp oEq (mVar 7) (mVar 6))) (mC .non) (mVar 6)) [7]) mNil))) mNil))))
      (mDrop (mBM "list" tyL oAppend (mVar 3) (mCons (mCut (mCB oTuple (mCons (mLc (miRange1 (mCons (mVar 1) mNil)) (gNm 7) mYes (mCB m_law_entry (mCons (mVar 0) (mCons (mVar 1) (mCons (mVar 7) (mCons (mVar 4) mNil))))) [7]) mNil))) mNil))))
theorem append_end {rows : List AV} {y : AV} (hl : rows.length ≤ 1000) : oAppend (.loc (B.length + 3)) [y] (Ht s ns P (B ++ [.lst rows])) = .ok .non (Ht s ns P (B ++ [.lst (rows ++ [y])])) := by
  have e : (Ht s ns P (B ++ [.lst rows]))[B.length + 3]? = some (.lst rows) := by
    show (B ++ [.lst rows])[B.length]? = _
    simp
  unfold oAppend mutOf
  dsimp only
  rw [e]
  dsimp only
  rw [if_pos (by rw [sizeLine_eq]; omega)]
  congr 1
  show s :: _ :: P :: (B ++ [AO.lst rows]).set B.length _ = _
  rw [snoc_set]
theorem tyL_end {rows : List AV} : tyL (.loc (B.length + 3)) (Ht s ns P (B ++ [.lst rows])) = true := by
  have e : (Ht s ns P (B ++ [.lst rows]))[B.length + 3]? = some (.lst rows) := by
    show (B ++ [.lst rows])[B.length]? = _
    simp
  unfold tyL Am.listOf
  dsimp only
  rw [e]
  rfl
theorem one_ok {n d : Int} {r : AV} {rows : List AV} {v5 v6 v7 : Option AV} (hP : PotO ns P) (n1 : 3 ≤ n) (n2 : n ≤ 5) (hd : 0 < d) (hd2 : d < 1000) (hl : rows.length ≤ 1000) :
    ∃ P' v6' v7' row, b_one [some (.loc 2), some (.int n), some r, some (.loc (B.length + 3)), some (.int d), v5, v6, v7] (Ht s ns P (B ++ [.lst rows])) = .nx [some (.loc 2), some (.int n), some r, some (.loc (B.length + 3)), some (.int d), v5, v6', v7'] (Ht s ns P' (B ++ [.lst (rows ++ [row])])) ∧ PotO ns P' ∧ turnB n row = true := by
  unfold b_one
  obtain ⟨i, P1, e1, i0, i1, hP1⟩ := draw_ok s ns P (B ++ [.lst rows]) 4 hP (by omega) (by omega)
  by_cases hi : i = 0
  · obtain ⟨j, P2, e2, j0, j1, hP2⟩ := draw_ok s ns P1 (B ++ [.lst rows]) n hP1 (by omega) (by omega)
    have hc : mCut (mCB oTuple (mCons (mLc (miRange1 (mCons (mVar 1) mNil)) (gNm 7) mYes (mIfE (mB (mOp oEq (mVar 7) (mVar 6))) (mC .non) (mVar 6)) [7]) mNil)) [some (.loc 2), some (.int n), some r, some (.loc (B.length + 3)), some (.int d), v5, some (.int j), v7] (Ht s ns P2 (B ++ [.lst rows])) = .ok (.tup (shutRow n j)) (Ht s ns P2 (B ++ [.lst rows])) := by
      refine tuple_of ?_ shut_bel
      unfold shutRow
      conv => rhs; rw [← filter_yes (rangeA 0 n)]
      refine lc_pure (gd := []) (range1 rfl (by rw [inR_iff]; omega)) (by simp) ?_ (by rw [range_len, sizeLine_eq]; omega)
      intro x hx
      obtain ⟨q, rfl, -, -⟩ := mem_range hx
      refine ⟨[some (.loc 2), some (.int n), some r, some (.loc (B.length + 3)), some (.int d), v5, some (.int j), some (.int q)], by simp [wipeE], fun acc => ⟨rfl, fun _ => ?_⟩⟩
      by_cases hq : q = j <;> simp [mVar_eq, shutF, hq]
    refine ⟨P2, some (.int j), v7, .tup (shutRow n j), ?_, hP2, shut_turn j0 j1⟩
    simp only [mIf_eq, mB_eq, mOp_eq, mCB_eq, mCons_eq, mNil_eq, mVar_eq, mC_eq, List.getElem?_cons_zero, List.getElem?_cons_succ, Option.join_some, optR_some, R.bind_ok, e1, hi, oEq_int, isB_bl, R.st_ok, decide_true, pick_t, mSeq_eq, mSet_eq, e2, RS.seq_nx, List.set_cons_succ, List.set_cons_zero, mDrop_eq, mBM_eq, tyL_end, ↓hc, append_end hl]
  · have hL := lc_st (env := [some (.loc 2), some (.int n), some r, some (.loc (B.length + 3)), some (.int d), v5, v6, v7]) (mi := miRange1 (mCons (mVar 1) mNil)) (g := gNm 7) (mt := mYes) (me := mCB m_law_entry (mCons (mVar 0) (mCons (mVar 1) (mCons (mVar 7) (mCons (mVar 4) mNil))))) (vs := [7]) (gd := []) (xs := rangeA 0 n) (A := Ht s ns P1 (B ++ [.lst rows]))
      (I := fun A' => ∃ P', A' = Ht s ns P' (B ++ [.lst rows]) ∧ PotO ns P') (P := fun x y => ∃ p, x = .int p ∧ entB n p y = true)
      (range1 rfl (by rw [inR_iff]; omega)) (by rintro A' ⟨P', rfl, -⟩; rfl) (by simp) (by
        intro x hx
        obtain ⟨q, rfl, -, -⟩ := mem_range hx
        refine ⟨[some (.loc 2), some (.int n), some r, some (.loc (B.length + 3)), some (.int d), v5, v6, some (.int q)], by simp [wipeE], ?_⟩
        rintro A' acc ⟨P', rfl, hP'⟩
        refine ⟨rfl, ?_⟩
        obtain ⟨y, P2, e2, hP2, hy, -⟩ := entry_ok (s := s) (B := B ++ [.lst rows] ++ [.lst acc]) (p := q) hP' n1 n2 hd hd2
        refine ⟨y, _, ?_, ⟨P2, rfl, hP2⟩, q, rfl, hy⟩
        simp only [mCB_eq, mCons_eq, mNil_eq, mVar_eq, List.getElem?_cons_zero, List.getElem?_cons_succ, Option.join_some, optR_some, R.bind_ok]
        exact e2) (by rw [range_len, sizeLine_eq]; omega) ⟨P1, rfl, hP1⟩
    obtain ⟨A', ys, e2, ⟨P2, rfl, hP2⟩, ha⟩ := hL
    have hrow : rowB n 0 ys = true := drawn_row (P := fun x y => ∃ p, x = .int p ∧ entB n p y = true) (fun p y h => by
      obtain ⟨q, e, h⟩ := h
      cases e
      exact h) n.toNat 0 ys (by omega) ha
    have hlen := ha.length
    have hturn : turnB n (.tup ys) = true := by
      simp only [turnB, Bool.and_eq_true, decide_eq_true_eq]
      refine ⟨?_, hrow⟩
      rw [hlen, range_len]
      omega
    have hc : mCut (mCB oTuple (mCons (mLc (miRange1 (mCons (mVar 1) mNil)) (gNm 7) mYes (mCB m_law_entry (mCons (mVar 0) (mCons (mVar 1) (mCons (mVar 7) (mCons (mVar 4) mNil))))) [7]) mNil)) [some (.loc 2), some (.int n), some r, some (.loc (B.length + 3)), some (.int d), v5, v6, v7] (Ht s ns P1 (B ++ [.lst rows])) = .ok (.tup ys) (Ht s ns P2 (B ++ [.lst rows])) := by
      rw [mCut_eq, mCB_eq, mCons_eq, e2, R.bind_ok, mNil_eq, R.bind_ok, R.bind_ok]
      have e3 : oTuple [.loc (Ht s ns P1 (B ++ [.lst rows])).length] (Ht s ns P2 (B ++ [.lst rows]) ++ [.lst ys]) = .ok (.tup ys) (Ht s ns P2 (B ++ [.lst rows]) ++ [.lst ys]) := by
        have : Am.listOf (Ht s ns P2 (B ++ [.lst rows]) ++ [.lst ys]) (.loc (Ht s ns P1 (B ++ [.lst rows])).length) = some ys := snoc_list (A := Ht s ns P2 (B ++ [.lst rows])) ys
        unfold oTuple
        dsimp only
        rw [this]
      rw [e3]
      exact cut_pot hP2 (turn_bel hturn)
    refine ⟨P2, v6, v7, .tup ys, ?_, hP2, hturn⟩
    simp only [mIf_eq, mB_eq, mOp_eq, mCB_eq, mCons_eq, mNil_eq, mVar_eq, mC_eq, List.getElem?_cons_zero, List.getElem?_cons_succ, Option.join_some, optR_some, R.bind_ok, e1, oEq_int, isB_bl, R.st_ok, decide_eq_false hi, pick_f, mDrop_eq, mBM_eq, tyL_end, pick_t, ↓hc, append_end hl]
theorem found_ok {n r : Int} (hP : PotO ns P) (z : Sz n r) :
    ∃ P' rows, m_law_pattern [.loc 2, .int n, .int r] (Ht s ns P B) = .ok (.tup rows) (Ht s ns P' B) ∧ PotO ns P' ∧ (rows.length : Int) = r ∧ rows.all (turnB n) = true := by
  have z1 := z.n1
  have z2 := z.n2
  have z3 := z.r1
  have z4 := z.r2
  obtain ⟨d, P1, hd, e1, hP1⟩ := any_ints (s := s) (B := B ++ [.lst []]) (a := mVar 0) (L := mLst (mCons (mC (.int 1)) (mCons (mC (.int 2)) (mCons (mC (.int 2)) (mCons (mC (.int 5)) mNil))))) (env := [some (.loc 2), some (.int n), some (.int r), none, none, none, none, none]) (xs := [.int 1, .int 2, .int 2, .int 5]) hP (fun A => rfl) (lst_ints rfl (by simp)) (by simp) (by simp) (by simp)
  have hd' : ∃ k : Int, d = .int k ∧ 0 < k ∧ k < 1000 := by
    simp only [List.mem_cons, List.not_mem_nil, or_false] at hd
    rcases hd with rfl | rfl | rfl | rfl <;> exact ⟨_, rfl, by decide, by decide⟩
  obtain ⟨k, rfl, k0, k1⟩ := hd'
  obtain ⟨env', A', e2, hI⟩ := for_step (gd := []) (g := gNm 5) (b := b_one) (I := fun rest env A' => ∃ P' rows v5 v6 v7, env = [some (.loc 2), some (.int n), some (.int r), some (.loc (B.length + 3)), some (.int k), v5, v6, v7] ∧ A' = Ht s ns P' (B ++ [.lst rows]) ∧ PotO ns P' ∧ rows.length + rest.length = r.toNat ∧ rows.all (turnB n) = true) (by simp)
    (by
      rintro x rest env A' ⟨P', rows, v5, v6, v7, rfl, rfl, hP', hl, hrows⟩
      simp only [List.length_cons] at hl
      obtain ⟨P2, w6, w7, row, e3, hP2, hrow⟩ := one_ok (s := s) (B := B) (rows := rows) (r := .int r) (v5 := some x) (v6 := v6) (v7 := v7) hP' z1 z2 k0 k1 (by omega)
      exact ⟨_, rfl, _, _, e3, P2, rows ++ [row], some x, w6, w7, rfl, rfl, hP2, by simp; omega, by simp [hrows, hrow]⟩)
    (rangeA 0 r) [some (.loc 2), some (.int n), some (.int r), some (.loc (B.length + 3)), some (.int k), none, none, none] (Ht s ns P1 (B ++ [.lst []])) ⟨P1, [], none, none, none, rfl, rfl, hP1, by simp, by simp⟩
  obtain ⟨P2, rows, v5, v6, v7, rfl, rfl, hP2, hl, hrows⟩ := hI
  simp only [List.length_nil, Nat.add_zero] at hl
  refine ⟨P2, rows, ?_, hP2, by omega, hrows⟩
  unfold m_law_pattern
  have e3 : mFor (miRange1 (mCons (mVar 2) mNil)) (gNm 5) b_one [some (.loc 2), some (.int n), some (.int r), some (.loc (B.length + 3)), some (.int k), none, none, none] (Ht s ns P1 (B ++ [.lst []])) = .nx [some (.loc 2), some (.int n), some (.int r), some (.loc (B.length + 3)), some (.int k), v5, v6, v7] (Ht s ns P2 (B ++ [.lst rows])) := by
    unfold mFor
    rw [range1 (j := r) rfl (by rw [inR_iff]; omega)]
    exact e2
  refine fdef_ret rfl (v := .tup rows) (A' := Ht s ns P2 (B ++ [.lst rows])) ?_ (cut_pot hP2 (by rw [below_tup]; exact rows_bel hrows))
  show b_law_pattern [some (.loc 2), some (.int n), some (.int r), none, none, none, none, none] _ = _
  unfold b_law_pattern
  unfold b_one at e3
  rw [seq_of (e := [some (.loc 2), some (.int n), some (.int r), some (.loc (B.length + 3)), some (.int k), none, none, none]) (A1 := Ht s ns P1 (B ++ [.lst []])) ?_, seq_of e3]
  · have e4 : Am.listOf (Ht s ns P2 (B ++ [.lst rows])) (.loc (B.length + 3)) = some rows := snoc_list (A := Ht s ns P2 B) rows
    simp only [mRet_eq, mCB_eq, mCons_eq, mNil_eq, mVar_eq, List.getElem?_cons_zero, List.getElem?_cons_succ, Option.join_some, optR_some, R.bind_ok]
    unfold oTuple
    dsimp only
    rw [e4]
    rfl
  · have e5 : mLst mNil [some (.loc 2), some (.int n), some (.int r), none, none, none, none, none] (Ht s ns P B) = .ok (.loc (B.length + 3)) (Ht s ns P (B ++ [.lst []])) := lst_ints rfl (by simp)
    rw [mAsg_eq, mTup_eq, mCons_eq, e5, R.bind_ok, mCons_eq, e1]
    simp only [R.bind_ok, mNil_eq]
    rw [if_pos (by rw [sizeLine_eq]; simp)]
    rfl
end
theorem cutA_take {xs : List AV} {i : Int} (h0 : 0 ≤ i) (h1 : i ≤ xs.length) : cutA xs none (some i) = xs.take i.toNat := by
  unfold cutA HT.sIx
  simp
  rw [if_neg (by omega)]
  omega
theorem cutA_drop {xs : List AV} {i : Int} (h0 : 0 ≤ i) (h1 : i ≤ xs.length) : cutA xs (some i) none = xs.drop i.toNat := by
  unfold cutA HT.sIx
  simp
  rw [if_neg (by omega), List.take_of_length_le (by simp), Nat.min_eq_left (by omega)]
/-! ### the pot at first -/
theorem cutA_take' {xs : List AV} {i : Int} (h0 : 0 ≤ i) : cutA xs none (some i) = xs.take i.toNat := by
  by_cases h : i ≤ xs.length
  · exact cutA_take h0 h
  · unfold cutA HT.sIx
    simp
    rw [if_neg (by omega)]
    omega
def cellsOf (ns : List Int) : List Int := (ns.take 63).map fun i => (i.natAbs : Int)
theorem pot_ok (ns : List Int) : ∃ s P, m_law_pot [.cst (ns.map .int)] [] = .ok (.loc 2) (Ht s (cellsOf ns) P []) ∧ PotO (cellsOf ns) P := by
  refine ⟨.lst ((ns.take 63).map .int), .lst [.loc 1, .int 0, .int 0, .int (1 + (cellsOf ns).length), .int 0], ?_, ⟨0, 0, _, 0, rfl, by decide⟩⟩
  unfold m_law_pot
  have hx : ((ns.map AV.int).take 63) = (ns.take 63).map AV.int := by rw [List.map_take]
  have hi : miSeq (mSl oSl (mVar 0) mNoPart (mPart (mC (.int 63)))) [some (.cst (ns.map .int)), none, none] [] = .ok ((ns.take 63).map .int, [(0, (ns.take 63).map .int)]) [.lst ((ns.take 63).map .int)] := by
    have e1 : oSl (.cst (ns.map .int)) none (some 63) [] = .ok (.loc 0) [.lst ((ns.take 63).map .int)] := by
      simp only [oSl, Am.listOf, cutA_take' (show (0:Int) ≤ 63 by decide)]
      rw [show ((63 : Int).toNat) = 63 from rfl, hx]
      rfl
    simp only [miSeq, mSl_eq, mVar_eq, List.getElem?_cons_zero, Option.join_some, optR_some, R.bind_ok, mNoPart_eq, mPart_eq, mC_eq, toI?_int, e1]
    rfl
  have hc : mLc (miSeq (mSl oSl (mVar 0) mNoPart (mPart (mC (.int 63))))) (gNm 2) mYes (mCB oAbs (mCons (mCB oInt (mCons (mVar 2) mNil)) mNil)) [2] [some (.cst (ns.map .int)), none, none] [] = .ok (.loc 1) [.lst ((ns.take 63).map .int), .lst ((cellsOf ns).map .int)] := by
    unfold mLc
    rw [hi, R.bind_ok]
    refine (comp_pure (A := [.lst ((ns.take 63).map .int)]) (c := fun _ => true) (f := fun x => match x with | .int i => .int i.natAbs | _ => .non) rfl (by simp [Am.listOf]) ((ns.take 63).map .int) [] ?_ (by rw [sizeLine_eq]; simp <;> omega)).trans ?_
    · intro x hx
      obtain ⟨i, -, rfl⟩ := List.mem_map.mp hx
      refine ⟨[some (.cst (ns.map .int)), none, some (.int i)], by simp [wipeE], fun acc => ⟨rfl, fun _ => ?_⟩⟩
      simp [mVar_eq, oAbs]
      split <;> omega
    · rw [filter_yes, List.map_map, List.nil_append, cellsOf, List.map_map]
      rfl
  refine fdef_ret rfl (v := .loc 2) (A' := Ht (.lst ((ns.take 63).map .int)) (cellsOf ns) (.lst [.loc 1, .int 0, .int 0, .int (1 + (cellsOf ns).length), .int 0]) []) ?_ ?_
  · show b_law_pot [some (.cst (ns.map .int)), none, none] [] = _
    unfold b_law_pot
    refine Eq.trans (seq_of (e := [some (.cst (ns.map .int)), some (.loc 1), none]) (A1 := [.lst ((ns.take 63).map .int), .lst ((cellsOf ns).map .int)]) ?_) ?_
    · rw [mSet_eq, hc]
      rfl
    · have e2 : oLen [.loc 1] [.lst ((ns.take 63).map .int), .lst ((cellsOf ns).map .int)] = .ok (.int (cellsOf ns).length) [.lst ((ns.take 63).map .int), .lst ((cellsOf ns).map .int)] := by
        rw [oLen_loc (xs := (cellsOf ns).map .int) rfl, List.length_map]
      have l5 : (5 : Nat) ≤ sizeLine := by rw [sizeLine_eq]; simp
      simp only [mRet_eq, mLst_eq, mCons_eq, mNil_eq, mVar_eq, mC_eq, mOp_eq, mCB_eq, List.getElem?_cons_zero, List.getElem?_cons_succ, Option.join_some, optR_some, R.bind_ok, e2, oAdd_int, List.length_cons, List.length_nil, Nat.zero_add, Nat.reduceAdd, if_pos l5, R.st_ok]
      rfl
  · unfold cut
    dsimp only
    rw [if_pos ⟨by simp, fun i o hi => by simp at hi⟩, if_neg (by simp)]
    simp
/-! ### shown and equal -/
theorem shp_str {n : Nat} {b : Str} (h : PyData.strOk b = true) : Shp n (.str b) := ⟨by simp [PyData.canLay0, h], by simp [PyData.depth]⟩
theorem repr_bl (f : Bool) : ∃ t, PyData.strOk t = true ∧ ∀ A, oRepr [.bl f] A = .ok (.str t) A := by
  refine ⟨(PyData.bool f).shown, by cases f <;> decide +kernel, fun A => ?_⟩
  unfold oRepr shownA
  dsimp only
  rw [toD_bl]
  dsimp only
  rw [if_pos]
  refine ⟨by cases f <;> decide +kernel, by cases f <;> decide +kernel, ?_, by cases f <;> decide +kernel⟩
  rw [sizeLine_eq]
  cases f <;> decide +kernel
theorem str_same {A : Hx} {t : Str} (h : PyData.strOk t = true) : oNe (.str t) (.str t) A = .ok (.bl false) A := oNe_self (n := 1) (toD_str _) (shp_str h) (by simp [PyData.eqv])
def entD : AV → PyData
  | .int i => .int i
  | _ => .none
theorem row_toD {A : Hx} {k : Nat} : ∀ {ts : List AV}, (∀ y, y ∈ ts → y = .non ∨ ∃ i, y = .int i) → allD (toD A k) ts = some (ts.map entD)
  | [], _ => rfl
  | y :: r, h => by
    rw [allD_cons, row_toD (ts := r) fun z hz => h z (List.mem_cons_of_mem y hz)]
    rcases h y List.mem_cons_self with rfl | ⟨i, rfl⟩ <;> simp [entD]
theorem rep_allD {t : AV → Option PyData} {x : AV} {d : PyData} (h : t x = some d) : ∀ k : Nat, allD t (List.replicate k x) = some (List.replicate k d)
  | 0 => rfl
  | k + 1 => by
    rw [List.replicate_succ, List.replicate_succ, allD_cons, h, rep_allD h k]
    rfl
theorem ent_shp (y : AV) : Shp 0 (entD y) := by
  cases y <;> first | exact shp_int _ _ | exact shp_non _
theorem ent_eqv (y : AV) : PyData.eqv (entD y) (entD y) = true := by
  cases y <;> simp [entD, PyData.eqv]
theorem rep_same {A : Hx} {k : Nat} {ts : List AV} (h : ∀ y, y ∈ ts → y = .non ∨ ∃ i, y = .int i) : oNe (.tup (List.replicate k (.tup ts))) (.tup (List.replicate k (.tup ts))) A = .ok (.bl false) A := by
  have e1 : toD A 59 (.tup ts) = some (.tuple (ts.map entD)) := toD_tup (row_toD h)
  have e2 : toD A 60 (.tup (List.replicate k (.tup ts))) = some (.tuple (List.replicate k (.tuple (ts.map entD)))) := toD_tup (rep_allD e1 k)
  have s1 : Shp 1 (.tuple (ts.map entD)) := shp_tup fun d hd => by
    obtain ⟨y, _, rfl⟩ := List.mem_map.mp hd
    exact ent_shp y
  have q1 : PyData.eqv (.tuple (ts.map entD)) (.tuple (ts.map entD)) = true := eqv_tup_refl fun d hd => by
    obtain ⟨y, _, rfl⟩ := List.mem_map.mp hd
    exact ent_eqv y
  refine oNe_self (n := 2) e2 (shp_tup fun d hd => ?_) (eqv_tup_refl fun d hd => ?_)
  · rw [List.eq_of_mem_replicate hd]
    exact s1
  · rw [List.eq_of_mem_replicate hd]
    exact q1
theorem range_const {n : Int} {x : AV} : (rangeA 0 n).map (fun _ => x) = List.replicate n.toNat x := by
  rw [List.map_const']
  simp
end L20

set_option Elab.async false
set_option linter.all false
set_option maxRecDepth 100000
set_option maxHeartbeats 2000000
namespace L20
open PySem PySem.Spec PyProof.Rows L2 Am
/-! ### figures and numbers -/
def num (n : Int) (a : Int) (fs : List Int) : Int := fs.foldl (fun x f => x * n + f) a
theorem num_app (n a : Int) (fs gs : List Int) : num n a (fs ++ gs) = num n (num n a fs) gs := by simp [num]
/-- figures, each from 0 below b -/
def Fig (b : Int) (fs : List Int) : Prop := ∀ f, f ∈ fs → 0 ≤ f ∧ f < b
theorem num_pow (n : Int) : ∀ (fs : List Int) (a : Int), num n a fs = a * n ^ fs.length + num n 0 fs
  | [], a => by simp [num]
  | f :: r, a => by
    show num n (a * n + f) r = a * n ^ (r.length + 1) + num n (0 * n + f) r
    rw [num_pow n r (a * n + f), num_pow n r (0 * n + f), Int.pow_succ, Int.add_mul, Int.zero_mul, Int.zero_add, Int.mul_assoc, Int.mul_comm n (n ^ r.length)]
    omega
theorem num_bound {n : Int} (hn : 0 < n) : ∀ {fs : List Int}, Fig n fs → 0 ≤ num n 0 fs ∧ num n 0 fs < n ^ fs.length
  | [], _ => by simp [num]
  | f :: r, h => by
    have h1 := h f List.mem_cons_self
    obtain ⟨h2, h3⟩ := num_bound hn (fs := r) fun g hg => h g (List.mem_cons_of_mem f hg)
    have e : num n 0 (f :: r) = f * n ^ r.length + num n 0 r := by
      show num n (0 * n + f) r = _
      rw [num_pow n r (0 * n + f), Int.zero_mul, Int.zero_add]
    have hp : 0 < n ^ r.length := Int.pow_pos hn
    have h4 : 0 ≤ f * n ^ r.length := Int.mul_nonneg h1.1 (by omega)
    have h5 : f * n ^ r.length ≤ (n - 1) * n ^ r.length := Int.mul_le_mul_of_nonneg_right (by omega) (by omega)
    have h6 : n ^ (f :: r).length = n * n ^ r.length := by
      rw [List.length_cons, Int.pow_succ, Int.mul_comm]
    have h7 : (n - 1) * n ^ r.length = n * n ^ r.length - n ^ r.length := by rw [Int.sub_mul, Int.one_mul]
    rw [e, h6]
    omega
def lsd (b : Int) : Nat → Int → List Int
  | 0, _ => []
  | k + 1, x => x % b :: lsd b k (x / b)
theorem lsd_len (b : Int) : ∀ (k : Nat) (x : Int), (lsd b k x).length = k
  | 0, _ => rfl
  | k + 1, x => by simp [lsd, lsd_len b k]
theorem lsd_fig {b : Int} (hb : 0 < b) : ∀ (k : Nat) (x : Int), Fig b (lsd b k x)
  | 0, _, f, h => by simp [lsd] at h
  | k + 1, x, f, h => by
    rcases List.mem_cons.mp h with rfl | h
    · exact ⟨Int.emod_nonneg _ (by omega), Int.emod_lt_of_pos _ hb⟩
    · exact lsd_fig hb k _ f h
/-- the figures of a number are these -/
theorem digs_num {b : Int} (hb : 0 < b) : ∀ (ds : List Int), Fig b ds.reverse → (lsd b ds.length (num b 0 ds.reverse)) = ds
  | [], _ => rfl
  | d :: r, h => by
    rw [List.reverse_cons, num_app, List.length_cons]
    have hd := h d (by simp)
    have hr : Fig b r.reverse := fun f hf => h f (by rw [List.reverse_cons]; exact List.mem_append_left _ hf)
    have e : num b (num b 0 r.reverse) [d] = num b 0 r.reverse * b + d := rfl
    rw [e, lsd]
    have e1 : (num b 0 r.reverse * b + d) % b = d := by
      rw [Int.add_comm, Int.add_mul_emod_self_right]
      exact Int.emod_eq_of_lt hd.1 hd.2
    have e2 : (num b 0 r.reverse * b + d) / b = num b 0 r.reverse := by
      rw [Int.add_comm, Int.add_mul_ediv_right _ _ (by omega), Int.ediv_eq_zero_of_lt hd.1 hd.2, Int.zero_add]
    rw [e1, e2, digs_num hb r hr]
theorem digs_eq {b : Int} (hb : 0 < b) {fs : List Int} (h : Fig b fs) : (lsd b fs.length (num b 0 fs)).reverse = fs := by
  have := digs_num hb fs.reverse (by rw [List.reverse_reverse]; exact h)
  rw [List.length_reverse, List.reverse_reverse] at this
  rw [this, List.reverse_reverse]
/-- rows of figures, as one list, are a number by rows -/
theorem num_rows (n : Int) (m : Nat) : ∀ (fr : List (List Int)) (a : Int), (∀ row, row ∈ fr → row.length = m) → num n a fr.flatten = num (n ^ m) a (fr.map (num n 0))
  | [], a, _ => rfl
  | row :: r, a, h => by
    rw [List.flatten_cons, num_app, List.map_cons]
    have hm := h row List.mem_cons_self
    have e : num (n ^ m) a (num n 0 row :: r.map (num n 0)) = num (n ^ m) (a * n ^ m + num n 0 row) (r.map (num n 0)) := rfl
    rw [e, num_rows n m r _ fun x hx => h x (List.mem_cons_of_mem row hx), num_pow n row a, hm]
theorem chunk (m : Nat) : ∀ (k : Nat) (fs : List Int), fs.length = m * k → ∃ fr : List (List Int), fr.flatten = fs ∧ fr.length = k ∧ ∀ row, row ∈ fr → row.length = m
  | 0, fs, h => ⟨[], by simp at h; simp [h], rfl, fun _ h => nomatch h⟩
  | k + 1, fs, h => by
    rw [Nat.mul_succ] at h
    obtain ⟨fr, e, hl, hr⟩ := chunk m k (fs.drop m) (by simp; omega)
    refine ⟨fs.take m :: fr, by rw [List.flatten_cons, e, List.take_append_drop], by simp [hl], fun row hrow => ?_⟩
    rcases List.mem_cons.mp hrow with rfl | h1
    · simp
      omega
    · exact hr row h1
/-! ### entries -/
def missA (me : Int) (f : Int) : AV := if f = 0 then .non else .int (if f ≤ me then f - 1 else f)
def rowA : Int → List Int → List AV
  | _, [] => []
  | k, f :: r => missA k f :: rowA (k + 1) r
def figE (me : Int) : AV → Int
  | .int q => if q < me then q + 1 else q
  | _ => 0
def figR : Int → List AV → List Int
  | _, [] => []
  | k, x :: r => figE k x :: figR (k + 1) r
theorem rowA_len : ∀ (k : Int) (fs : List Int), (rowA k fs).length = fs.length
  | _, [] => rfl
  | k, f :: r => by simp [rowA, rowA_len (k + 1) r]
theorem figR_len : ∀ (k : Int) (ts : List AV), (figR k ts).length = ts.length
  | _, [] => rfl
  | k, f :: r => by simp [figR, figR_len (k + 1) r]
theorem row_back {n : Int} : ∀ (k : Int) (ts : List AV), 0 ≤ k → rowB n k ts = true → rowA k (figR k ts) = ts
  | _, [], _, _ => rfl
  | k, x :: r, hk, h => by
    simp only [rowB, Bool.and_eq_true] at h
    rw [figR, rowA, row_back (k + 1) r (by omega) h.2]
    congr 1
    have h1 := h.1
    rcases ent_shape h1 with rfl | ⟨q, rfl⟩
    · rfl
    · simp [entB, isNon, othB] at h1
      by_cases hq : q < k
      · rw [show figE k (.int q) = q + 1 from if_pos hq]
        unfold missA
        rw [if_neg (by omega), if_pos (by omega)]
        congr 1
        omega
      · rw [show figE k (.int q) = q from if_neg hq]
        unfold missA
        rw [if_neg (by omega), if_neg (by omega)]
theorem fig_back {n : Int} : ∀ (k : Int) (ts : List AV), 0 ≤ k → k + ts.length ≤ n → rowB n k ts = true → Fig n (figR k ts)
  | _, [], _, _, _, f, h => nomatch h
  | k, x :: r, hk, hn, h, f, hf => by
    simp only [rowB, Bool.and_eq_true] at h
    simp only [List.length_cons] at hn
    rcases List.mem_cons.mp hf with rfl | hf
    · rcases ent_shape h.1 with rfl | ⟨q, rfl⟩
      · simp [figE]
        omega
      · have h1 := h.1
        simp [entB, isNon, othB] at h1
        unfold figE
        dsimp only
        split <;> omega
    · exact fig_back (k + 1) r (by omega) (by omega) h.2 f hf
theorem row_fig {n : Int} : ∀ (k : Int) (fs : List Int), 0 ≤ k → Fig n fs → figR k (rowA k fs) = fs
  | _, [], _, _ => rfl
  | k, f :: r, hk, h => by
    have hf := h f List.mem_cons_self
    rw [rowA, figR, row_fig (k + 1) r (by omega) fun g hg => h g (List.mem_cons_of_mem f hg)]
    congr 1
    unfold missA
    by_cases h0 : f = 0
    · rw [if_pos h0, h0]
      rfl
    · rw [if_neg h0]
      unfold figE
      dsimp only
      by_cases h1 : f ≤ k
      · rw [if_pos h1, if_pos (by omega)]
        omega
      · rw [if_neg h1, if_neg (by omega)]
theorem row_ok {n : Int} : ∀ (k : Int) (fs : List Int), 0 ≤ k → k + fs.length ≤ n → Fig n fs → rowB n k (rowA k fs) = true
  | _, [], _, _, _ => rfl
  | k, f :: r, hk, hn, h => by
    have hf := h f List.mem_cons_self
    simp only [List.length_cons] at hn
    rw [rowA, rowB, row_ok (k + 1) r (by omega) (by omega) fun g hg => h g (List.mem_cons_of_mem f hg)]
    rw [Bool.and_true]
    unfold missA
    by_cases h0 : f = 0
    · rw [if_pos h0]
      rfl
    · rw [if_neg h0]
      by_cases h1 : f ≤ k
      · rw [if_pos h1]
        simp [entB, isNon, othB]
        omega
      · rw [if_neg h1]
        simp [entB, isNon, othB]
        omega
section
variable {A : Hx}
theorem app_snoc {xs : List AV} {y : AV} (hl : xs.length ≤ 1000) : oAppend (.loc A.length) [y] (A ++ [.lst xs]) = .ok .non (A ++ [.lst (xs ++ [y])]) := by
  unfold oAppend
  dsimp only
  rw [snoc_mut]
  dsimp only
  rw [if_pos (by rw [sizeLine_eq]; omega), snoc_set]
theorem ty_snoc {xs : List AV} : tyL (.loc A.length) (A ++ [.lst xs]) = true := by
  unfold tyL
  rw [snoc_list]
  rfl
theorem tuple_ofJ {L : ME} {env : Ev} {J : Hx} {k : Nat} {xs : List AV} (h : L env A = .ok (.loc k) (A ++ J)) (hk : Am.listOf (A ++ J) (.loc k) = some xs) (hb : belows A.length xs = true) : mCut (mCB oTuple (mCons L mNil)) env A = .ok (.tup xs) A := by
  rw [mCut_eq, mCB_eq, mCons_eq, h, R.bind_ok, mNil_eq, R.bind_ok, R.bind_ok]
  have : oTuple [.loc k] (A ++ J) = .ok (.tup xs) (A ++ J) := by
    unfold oTuple
    dsimp only
    rw [hk]
  rw [this]
  exact cut_junk (by simpa using hb)
theorem figures_ok {x b k : Int} (hb : 0 < b) (hb2 : b < 1000000) (h0 : 0 ≤ k) (h1 : k ≤ 100) : m_figures_of [.int x, .int b, .int k] A = .ok (.loc A.length) (A ++ [.lst ((lsd b k.toNat x).reverse.map .int)]) := by
  obtain ⟨env', A', e1, y, acc, v4, v5, rfl, rfl, hacc, hal⟩ := for_step (gd := []) (g := gNm 4) (b := mSeq (mAsg (gTp (gCs (gNm 0) (gCs (gNm 5) gNl))) (mCB oDivmod (mCons (mVar 0) (mCons (mVar 1) mNil))))
    (mDrop (mBM "list" tyL oAppend (mVar 3) (mCons (mVar 5) mNil)))) (I := fun rest env A' => ∃ y acc v4 v5, env = [some (.int y), some (.int b), some (.int k), some (.loc A.length), v4, v5] ∧ A' = A ++ [.lst acc] ∧ acc ++ (lsd b rest.length y).map .int = (lsd b k.toNat x).map .int ∧ acc.length + rest.length ≤ 100) (by simp)
    (by
      rintro z rest env A' ⟨y, acc, v4, v5, rfl, rfl, hacc, hl⟩
      simp only [List.length_cons] at hl hacc
      refine ⟨_, rfl, _, _, ?_, y / b, acc ++ [.int (y % b)], some z, some (.int (y % b)), rfl, rfl, ?_, by simp; omega⟩
      · refine Eq.trans (seq_of (e := [some (.int (y / b)), some (.int b), some (.int k), some (.loc A.length), some z, some (.int (y % b))]) (A1 := A ++ [.lst acc]) ?_) ?_
        · have hd : oDivmod [.int y, .int b] (A ++ [.lst acc]) = .ok (.tup [.int (y / b), .int (y % b)]) (A ++ [.lst acc]) := if_pos ⟨hb, by omega⟩
          simp only [mAsg_eq, mCB_eq, mCons_eq, mNil_eq, mVar_eq, List.set_cons_succ, List.set_cons_zero, List.getElem?_cons_zero, List.getElem?_cons_succ, Option.join_some, optR_some, R.bind_ok, hd, R.st_ok, gTp_eq, gCs_eq, gNm_eq, gNl_eq, Option.bind_some, optS_some]
        · simp only [mDrop_eq, mBM_eq, mCons_eq, mNil_eq, mVar_eq, List.getElem?_cons_zero, List.getElem?_cons_succ, Option.join_some, optR_some, R.bind_ok, ty_snoc, pick_t, app_snoc (show acc.length ≤ 1000 by omega), R.st_ok]
      · rw [← hacc, lsd, List.map_cons, List.append_assoc]
        rfl) (rangeA 0 k) [some (.int x), some (.int b), some (.int k), some (.loc A.length), none, none] (A ++ [.lst []]) ⟨x, [], none, none, rfl, rfl, by simp, by simp; omega⟩
  simp only [List.length_nil, lsd, List.map_nil, List.append_nil] at hacc
  have e2 : mFor (miRange1 (mCons (mVar 2) mNil)) (gNm 4) (mSeq (mAsg (gTp (gCs (gNm 0) (gCs (gNm 5) gNl))) (mCB oDivmod (mCons (mVar 0) (mCons (mVar 1) mNil))))
    (mDrop (mBM "list" tyL oAppend (mVar 3) (mCons (mVar 5) mNil)))) [some (.int x), some (.int b), some (.int k), some (.loc A.length), none, none] (A ++ [.lst []]) = .nx [some (.int y), some (.int b), some (.int k), some (.loc A.length), v4, v5] (A ++ [.lst acc]) := by
    unfold mFor
    rw [range1 (j := k) rfl (by rw [inR_iff]; omega)]
    exact e1
  unfold m_figures_of
  refine fdef_ret rfl (v := .loc (A.length + 1)) (A' := A ++ [.lst acc] ++ [.lst acc.reverse]) ?_ ?_
  · show b_figures_of [some (.int x), some (.int b), some (.int k), none, none, none] A = _
    unfold b_figures_of
    refine Eq.trans (seq_of (e := [some (.int x), some (.int b), some (.int k), some (.loc A.length), none, none]) (A1 := A ++ [.lst []]) ?_) ?_
    · rw [mSet_eq, lst_ints (xs := []) rfl (by simp), R.st_ok]
      rfl
    · rw [seq_of e2]
      have e3 : mRev (mVar 3) [some (.int y), some (.int b), some (.int k), some (.loc A.length), v4, v5] (A ++ [.lst acc]) = .ok (.loc (A.length + 1)) (A ++ [.lst acc] ++ [.lst acc.reverse]) := by
        simp only [mRev, mVar_eq, List.getElem?_cons_zero, List.getElem?_cons_succ, Option.join_some, optR_some, R.bind_ok, snoc_list]
        simp
      rw [mRet_eq, e3]
      rfl
  · rw [hacc, List.map_reverse]
    refine cut_new (k := A.length + 1) (by simp) (by simp) (by omega) (by simp) ?_
    rw [belowO_lst, ← List.map_reverse]
    exact belows_int _ _
end
section
variable {A : Hx}
theorem mid_getA {x : AO} {T : Hx} : (A ++ x :: T)[A.length]? = some x := by simp
theorem mid_mutA {zs : List AV} {T : Hx} : mutOf (A ++ .lst zs :: T) (.loc A.length) = some (A.length, zs) := by
  unfold mutOf
  dsimp only
  rw [mid_getA]
theorem mid_putA {x y : AO} {T : Hx} : (A ++ x :: T).set A.length y = A ++ y :: T := by simp
theorem mid_tyA {zs : List AV} {T : Hx} : tyL (.loc A.length) (A ++ .lst zs :: T) = true := by
  unfold tyL Am.listOf
  dsimp only
  rw [mid_getA]
  rfl
theorem mid_appA {zs : List AV} {y : AV} {T : Hx} (hl : zs.length ≤ 1000) : oAppend (.loc A.length) [y] (A ++ .lst zs :: T) = .ok .non (A ++ .lst (zs ++ [y]) :: T) := by
  unfold oAppend
  dsimp only
  rw [mid_mutA]
  dsimp only
  rw [if_pos (by rw [sizeLine_eq]; omega), mid_putA]
end
theorem num_last {n : Int} : ∀ k : Nat, num n 0 (List.replicate k (n - 1)) = n ^ k - 1
  | 0 => by simp [num]
  | k + 1 => by
    have e : List.replicate (k + 1) (n - 1) = List.replicate k (n - 1) ++ [n - 1] := List.replicate_succ'
    rw [e, num_app, num_last k]
    show (n ^ k - 1) * n + (n - 1) = _
    rw [Int.sub_mul, Int.pow_succ]
    omega
abbrev Rws (n : Int) (rows : List AV) : Prop := rows.all (turnB n) = true
theorem check_pattern_ok {A : Hx} {n lo hi : Int} {rows : List AV} (hn : n ≤ 5) (hl : rows.length ≤ 30) (hr : Rws n rows) (h1 : lo ≤ rows.length) (h2 : (rows.length : Int) ≤ hi) : m_check_pattern [.tup rows, .int n, .int lo, .int hi] A = .ok .non A := by
  have h1 : m_is_pattern_of [.tup rows, .int n, .int lo, .int hi] A = .ok (.bl true) A := by
    unfold m_is_pattern_of b_is_pattern_of
    refine Eq.trans (fdef_eq rfl) ?_
    have hc : mCut (mCB oAll (mCons (mLc (miSeq (mVar 0)) (gNm 4) mYes (mCB m_is_turn (mCons (mVar 4) (mCons (mVar 1) mNil))) [4]) mNil)) [some (.tup rows), some (.int n), some (.int lo), some (.int hi), none] A = .ok (.bl ((rows.map (turnB n)).all id)) A := by
      refine all_of ?_
      have e : (rows.map (turnB n)).map AV.bl = (rows.filter fun _ => true).map fun y => AV.bl (turnB n y) := by
        rw [filter_yes, List.map_map]
        rfl
      rw [e]
      refine lc_pure (gd := []) (xs := rows) ?_ (by simp) ?_ (by rw [sizeLine_eq]; omega)
      · simp [miSeq, mVar_eq, seqOf]
      · intro y hm
        refine ⟨[some (.tup rows), some (.int n), some (.int lo), some (.int hi), some y], by simp [wipeE], fun acc => ⟨rfl, fun _ => ?_⟩⟩
        simp [mVar_eq, turn_ok (turn_kn (List.all_eq_true.mp hr y hm) hn)]
    have e2 : (rows.map (turnB n)).all id = rows.all (turnB n) := by simp
    rw [e2, hr] at hc
    simp [mVar_eq, isi_tup (x := .tup rows) ⟨_, rfl⟩, isT, h1, h2, ↓hc]
  unfold m_check_pattern b_check_pattern
  refine Eq.trans (fdef_eq rfl) ?_
  simp [mVar_eq, h1]
end L20

set_option Elab.async false
set_option linter.all false
set_option maxRecDepth 100000
set_option maxHeartbeats 1000000
namespace L20
open PySem PySem.Spec PyProof.Rows L2 Am
/-! ### the chain -/
def itsOf : AV → List AV
  | .tup ts => ts
  | _ => []
def mix (l f : AV) (d : Int) : AV := .tup ((itsOf l).take d.toNat ++ (itsOf f).drop d.toNat)
def shut (n : Int) (m : Nat) (i : Int) : List AV := List.replicate m (.tup (shutRow n i))
def nextFst (n : Int) (m : Nat) (fst : List AV) (d : Int) : List AV := if 0 < d then shut n m (d - 1) else fst
def nextLst (n : Int) (m : Nat) (lst : List AV) (d : Int) : List AV := if d < n then shut n m d else lst
def chainR (n : Int) (m : Nat) : List AV → List AV → Nat → List Int → List AV
  | _, _, _, [] => []
  | fst, lst, k, d :: r => mix (lst.getD k .non) (fst.getD k .non) d :: chainR n m (nextFst n m fst d) (nextLst n m lst d) (k + 1) r
def stFst (n : Int) (m : Nat) : List AV → List Int → List AV
  | fst, [] => fst
  | fst, d :: r => stFst n m (nextFst n m fst d) r
def stLst (n : Int) (m : Nat) : List AV → List Int → List AV
  | lst, [] => lst
  | lst, d :: r => stLst n m (nextLst n m lst d) r
theorem chain_app (n : Int) (m : Nat) : ∀ (ds es : List Int) (fst lst : List AV) (k : Nat), chainR n m fst lst k (ds ++ es) = chainR n m fst lst k ds ++ chainR n m (stFst n m fst ds) (stLst n m lst ds) (k + ds.length) es
  | [], es, fst, lst, k => rfl
  | d :: r, es, fst, lst, k => by
    have e : k + 1 + r.length = k + (d :: r).length := by simp; omega
    rw [List.cons_append, chainR, chainR, chain_app n m r es, e]
    rfl
theorem chain_len (n : Int) (m : Nat) : ∀ (ds : List Int) (fst lst : List AV) (k : Nat), (chainR n m fst lst k ds).length = ds.length
  | [], _, _, _ => rfl
  | d :: r, fst, lst, k => by rw [chainR, List.length_cons, chain_len n m r, List.length_cons]
/-- a pattern of m rounds -/
structure Pt (n : Int) (m : Nat) (rows : List AV) : Prop where
  len : rows.length = m
  ok : Rws n rows
theorem shut_pt {n i : Int} {m : Nat} (i0 : 0 ≤ i) (i1 : i < n) : Pt n m (shut n m i) := ⟨by simp [shut], by
  rw [Rws, List.all_eq_true]
  intro x hx
  rw [List.eq_of_mem_replicate hx]
  exact shut_turn i0 i1⟩
theorem nextFst_pt {n d : Int} {m : Nat} {fst : List AV} (h : Pt n m fst) (d1 : d ≤ n) : Pt n m (nextFst n m fst d) := by
  unfold nextFst
  split
  · exact shut_pt (by omega) (by omega)
  · exact h
theorem nextLst_pt {n d : Int} {m : Nat} {lst : List AV} (h : Pt n m lst) (d0 : 0 ≤ d) : Pt n m (nextLst n m lst d) := by
  unfold nextLst
  split
  · exact shut_pt d0 (by assumption)
  · exact h
theorem st_pt {n : Int} {m : Nat} : ∀ {ds : List Int} {fst lst : List AV}, Pt n m fst → Pt n m lst → Fig (n + 1) ds → Pt n m (stFst n m fst ds) ∧ Pt n m (stLst n m lst ds)
  | [], _, _, h1, h2, _ => ⟨h1, h2⟩
  | d :: r, fst, lst, h1, h2, h => by
    have hd := h d List.mem_cons_self
    exact st_pt (ds := r) (nextFst_pt h1 (by omega)) (nextLst_pt h2 hd.1) fun f hf => h f (List.mem_cons_of_mem d hf)
theorem pt_get {n : Int} {m k : Nat} {rows : List AV} (h : Pt n m rows) (hk : k < m) : ∃ ts, rows.getD k .non = .tup ts ∧ rows[k]? = some (.tup ts) ∧ (ts.length : Int) = n ∧ ∀ y, y ∈ ts → y = .non ∨ ∃ i, y = .int i := by
  have hl : k < rows.length := by rw [h.len]; exact hk
  obtain ⟨ts, e, h1, -, h2⟩ := turn_shape (List.all_eq_true.mp h.ok _ (List.getElem_mem hl))
  exact ⟨ts, by rw [List.getD_eq_getElem?_getD, List.getElem?_eq_getElem hl, e]; rfl, by rw [List.getElem?_eq_getElem hl, e], h1, h2⟩
theorem shut_get {n i : Int} {m k : Nat} (hk : k < m) : (shut n m i).getD k .non = .tup (shutRow n i) := by
  unfold shut
  rw [List.getD_eq_getElem?_getD, List.getElem?_replicate, if_pos hk]
  rfl
theorem zeros_row {n i : Int} {m : Nat} (hn : 0 < n) : ∀ (j k : Nat) (lst : List AV), k + j ≤ m → chainR n m (shut n m i) lst k (List.replicate j 0) = List.replicate j (.tup (shutRow n i))
  | 0, _, _, _ => rfl
  | j + 1, k, lst, h => by
    rw [List.replicate_succ, chainR, List.replicate_succ, shut_get (by omega)]
    have e : nextFst n m (shut n m i) 0 = shut n m i := if_neg (by omega)
    rw [e, zeros_row hn j (k + 1) _ (by omega)]
    congr 1
theorem full_row {n i : Int} {m : Nat} (hn : 0 < n) : ∀ (j k : Nat) (fst : List AV), Pt n m fst → k + j ≤ m → chainR n m fst (shut n m i) k (List.replicate j n) = List.replicate j (.tup (shutRow n i))
  | 0, _, _, _, _ => rfl
  | j + 1, k, fst, hp, h => by
    rw [List.replicate_succ, chainR, List.replicate_succ, shut_get (by omega)]
    have e : nextLst n m (shut n m i) n = shut n m i := if_neg (by omega)
    rw [e, full_row hn j (k + 1) _ (nextFst_pt hp (Int.le_refl n)) (by omega)]
    congr 1
    obtain ⟨ts, h1, -, h2, -⟩ := pt_get hp (show k < m by omega)
    rw [h1]
    unfold mix itsOf
    dsimp only
    have hl : (shutRow n i).length = n.toNat := by simp [shutRow]
    rw [List.take_of_length_le (by omega), List.drop_eq_nil_of_le (by omega), List.append_nil]
/-- the last figure that isn't 0 -/
theorem split_last {b : Int} : ∀ {ds : List Int}, Fig b ds → (∃ f, f ∈ ds ∧ 0 < f) → ∃ pre d j, ds = pre ++ d :: List.replicate j 0 ∧ 0 < d
  | f :: r, h, hx => by
    by_cases hr : ∃ g, g ∈ r ∧ 0 < g
    · obtain ⟨pre, d, j, e, hd⟩ := split_last (fun g hg => h g (List.mem_cons_of_mem f hg)) hr
      exact ⟨f :: pre, d, j, by rw [e]; rfl, hd⟩
    · refine ⟨[], f, r.length, ?_, ?_⟩
      · have : r = List.replicate r.length 0 := List.eq_replicate_iff.mpr ⟨rfl, fun g hg => by
          have h0 := h g (List.mem_cons_of_mem f hg)
          by_cases hg0 : 0 < g
          · exact absurd ⟨g, hg, hg0⟩ hr
          · omega⟩
        rw [← this]
        rfl
      · obtain ⟨g, hg, hg0⟩ := hx
        rcases List.mem_cons.mp hg with rfl | hg
        · exact hg0
        · exact absurd ⟨g, hg, hg0⟩ hr
theorem num_zeros {b : Int} (a : Int) (j : Nat) : num b a (List.replicate j 0) = a * b ^ j := by
  rw [num_pow]
  have : num b 0 (List.replicate j 0) = 0 := by
    induction j with
    | zero => rfl
    | succ j ih => rw [List.replicate_succ]; simpa [num] using ih
  rw [this, List.length_replicate, Int.add_zero]
/-- the figures of the number ahead -/
theorem num_ahead {n : Int} {pre : List Int} {d : Int} {j : Nat} : num (n + 1) 0 (pre ++ (d - 1) :: List.replicate j n) = num (n + 1) 0 (pre ++ d :: List.replicate j 0) - 1 := by
  rw [num_app, num_app]
  generalize num (n + 1) 0 pre = a
  show num (n + 1) (a * (n + 1) + (d - 1)) (List.replicate j n) = num (n + 1) (a * (n + 1) + d) (List.replicate j 0) - 1
  have h1 : num (n + 1) 0 (List.replicate j n) = (n + 1) ^ j - 1 := by
    have := num_last (n := n + 1) j
    rwa [Int.add_sub_cancel] at this
  rw [num_pow, h1, num_zeros, List.length_replicate]
  have e : a * (n + 1) + d = (a * (n + 1) + (d - 1)) + 1 := by omega
  rw [e, Int.add_mul _ 1, Int.one_mul]
  omega
/-- what a chain tells for a number and for the one ahead -/
theorem chain_two {n d : Int} {m j : Nat} {pre : List Int} {fst lst : List AV} (hn : 0 < n) (d0 : 0 < d) (d1 : d ≤ n) (hf : Pt n m fst) (hl : Pt n m lst) (hp : Fig (n + 1) pre) (hm : pre.length + (j + 1) = m) :
    ∃ (top : List AV) (f l : List AV), top.length = pre.length ∧ (f.length : Int) = n ∧ (l.length : Int) = n ∧ (∀ y, y ∈ f → y = .non ∨ ∃ i, y = .int i) ∧ (∀ y, y ∈ l → y = .non ∨ ∃ i, y = .int i) ∧ (pre = [] → fst[0]? = some (.tup f) ∧ lst[0]? = some (.tup l)) ∧ top = chainR n m fst lst 0 pre ∧
      chainR n m fst lst 0 (pre ++ d :: List.replicate j 0) = top ++ .tup (l.take d.toNat ++ f.drop d.toNat) :: List.replicate j (.tup (shutRow n (d - 1))) ∧
      chainR n m fst lst 0 (pre ++ (d - 1) :: List.replicate j n) = top ++ .tup (l.take (d - 1).toNat ++ f.drop (d - 1).toNat) :: List.replicate j (.tup (shutRow n (d - 1))) := by
  obtain ⟨p1, p2⟩ := st_pt hf hl hp
  obtain ⟨f, f1, f2, f3, f4⟩ := pt_get p1 (show pre.length < m by omega)
  obtain ⟨l, l1, l2, l3, l4⟩ := pt_get p2 (show pre.length < m by omega)
  refine ⟨chainR n m fst lst 0 pre, f, l, chain_len n m pre _ _ _, f3, l3, f4, l4, ?_, rfl, ?_, ?_⟩
  · rintro rfl
    exact ⟨f2, l2⟩
  · rw [chain_app, Nat.zero_add, chainR, f1, l1]
    have e : nextFst n m (stFst n m fst pre) d = shut n m (d - 1) := if_pos d0
    rw [e, zeros_row hn j _ _ (by omega)]
    rfl
  · rw [chain_app, Nat.zero_add, chainR, f1, l1]
    have e : nextLst n m (stLst n m lst pre) (d - 1) = shut n m (d - 1) := if_pos (by omega)
    rw [e, full_row hn j _ _ (nextFst_pt p1 (by omega)) (by omega)]
    rfl
end L20

set_option Elab.async false
set_option linter.all false
set_option maxRecDepth 100000
set_option maxHeartbeats 1000000
namespace L20
open PySem PySem.Spec PyProof.Rows L2 Am
noncomputable def b_link : MS := (mSeq (mDrop (mBM "list" tyL oAppend (mVar 5) (mCons (mOp oAdd (mSl oSl (mOp oIx (mVar 2) (mVar 6)) mNoPart (mPart (mVar 7))) (mSl oSl (mOp oIx (mVar 1) (mVar 6)) (mPart (mVar 7)) mNoPart)) mNil)))
    (mSeq (mIf (mB (mOp oGt (mVar 7) (mC (.int 0))))
      (mSet 1 (mCB m_shut_out (mCons (mVar 0) (mCons (mVar 4) (mCons (mOp oSub (mVar 7) (mC (.int 1))) mNil)))))
      mPass)
    (mIf (mB (mOp oLt (mVar 7) (mVar 0)))
      (mSet 2 (mCB m_shut_out (mCons (mVar 0) (mCons (mVar 4) (mCons (mVar 7) mNil)))))
      mPass)))
section
variable {A : Hx}
theorem link_ok {n d r : Int} {m k : Nat} {x : Option AV} {fst lst turns : List AV} {T : Hx} (z : Sz n r) (hm : (m : Int) = r) (h1 : Pt n m fst) (h2 : Pt n m lst) (d0 : 0 ≤ d) (d1 : d ≤ n) (hk : k < m) (ht : turns.length ≤ 1000) :
    b_link [some (.int n), some (.tup fst), some (.tup lst), x, some (.int r), some (.loc A.length), some (.int (k : Int)), some (.int d)] (A ++ .lst turns :: T) =
      .nx [some (.int n), some (.tup (nextFst n m fst d)), some (.tup (nextLst n m lst d)), x, some (.int r), some (.loc A.length), some (.int (k : Int)), some (.int d)] (A ++ .lst (turns ++ [mix (lst.getD k .non) (fst.getD k .non) d]) :: T) := by
  have z1 := z.n1
  have z2 := z.n2
  obtain ⟨f, f1, f2, f3, f4⟩ := pt_get h1 hk
  obtain ⟨l, l1, l2, l3, l4⟩ := pt_get h2 hk
  have i1 : ∀ B, oIx (.tup lst) (.int (k : Int)) B = .ok (.tup l) B := fun B => oIx_tup (atI_natA l2)
  have i2 : ∀ B, oIx (.tup fst) (.int (k : Int)) B = .ok (.tup f) B := fun B => oIx_tup (atI_natA f2)
  have s1 : ∀ B, oSl (.tup l) none (some d) B = .ok (.tup (l.take d.toNat)) B := fun B => by
    simp only [oSl, cutA_take d0 (by omega : d ≤ l.length)]
  have s2 : ∀ B, oSl (.tup f) (some d) none B = .ok (.tup (f.drop d.toNat)) B := fun B => by
    simp only [oSl, cutA_drop d0 (by omega : d ≤ f.length)]
  have a1 : ∀ B, oAdd (.tup (l.take d.toNat)) (.tup (f.drop d.toNat)) B = .ok (mix (lst.getD k .non) (fst.getD k .non) d) B := fun B => by
    rw [f1, l1]
    unfold oAdd
    dsimp only
    rw [if_pos (by rw [sizeLine_eq]; simp; omega)]
    rfl
  have hrm : r.toNat = m := by omega
  have hsv : ∀ i, shutV n r i = .tup (shut n m i) := fun i => by
    unfold shutV shut
    rw [hrm]
  unfold b_link
  refine Eq.trans (seq_of (e := [some (.int n), some (.tup fst), some (.tup lst), x, some (.int r), some (.loc A.length), some (.int (k : Int)), some (.int d)]) (A1 := A ++ .lst (turns ++ [mix (lst.getD k .non) (fst.getD k .non) d]) :: T) ?_) ?_
  · simp only [mDrop_eq, mBM_eq, mCons_eq, mNil_eq, mOp_eq, mSl_eq, mNoPart_eq, mPart_eq, toI?_int, mVar_eq, List.getElem?_cons_zero, List.getElem?_cons_succ, Option.join_some, optR_some, Am.R.bind_ok, i1, i2, s1, s2, a1, mid_tyA, pick_t, mid_appA ht, Am.R.st_ok]
  refine Eq.trans (seq_of (e := [some (.int n), some (.tup (nextFst n m fst d)), some (.tup lst), x, some (.int r), some (.loc A.length), some (.int (k : Int)), some (.int d)]) (A1 := A ++ .lst (turns ++ [mix (lst.getD k .non) (fst.getD k .non) d]) :: T) ?_) ?_
  · unfold nextFst
    by_cases hd : 0 < d
    · have hs := fun B => shut_ok (A := B) z (show 0 ≤ d - 1 by omega) (show d - 1 < n by omega)
      rw [if_pos hd]
      simp only [mIf_eq, mB_eq, mOp_eq, mC_eq, mVar_eq, List.getElem?_cons_zero, List.getElem?_cons_succ, Option.join_some, optR_some, Am.R.bind_ok, oGt_int, decide_eq_true hd, isB_bl, Am.R.st_ok, pick_t, mSet_eq, mCB_eq, mCons_eq, mNil_eq, oSub_int, hs, hsv]
      rfl
    · rw [if_neg hd]
      simp only [mIf_eq, mB_eq, mOp_eq, mC_eq, mVar_eq, List.getElem?_cons_zero, List.getElem?_cons_succ, Option.join_some, optR_some, Am.R.bind_ok, oGt_int, decide_eq_false hd, isB_bl, Am.R.st_ok, pick_f, mPass_eq]
  · unfold nextLst
    by_cases hd : d < n
    · have hs := fun B => shut_ok (A := B) z d0 hd
      rw [if_pos hd]
      simp only [mIf_eq, mB_eq, mOp_eq, mC_eq, mVar_eq, List.getElem?_cons_zero, List.getElem?_cons_succ, Option.join_some, optR_some, Am.R.bind_ok, oLt_int, decide_eq_true hd, isB_bl, Am.R.st_ok, pick_t, mSet_eq, mCB_eq, mCons_eq, mNil_eq, hs, hsv]
      rfl
    · rw [if_neg hd]
      simp only [mIf_eq, mB_eq, mOp_eq, mC_eq, mVar_eq, List.getElem?_cons_zero, List.getElem?_cons_succ, Option.join_some, optR_some, Am.R.bind_ok, oLt_int, decide_eq_false hd, isB_bl, Am.R.st_ok, pick_f, mPass_eq]
theorem chain_bel {n : Int} {m : Nat} {j : Nat} : ∀ {ds : List Int} {fst lst : List AV} {k : Nat}, Pt n m fst → Pt n m lst → Fig (n + 1) ds → k + ds.length ≤ m → belows j (chainR n m fst lst k ds) = true
  | [], _, _, _, _, _, _, _ => by simp [chainR]
  | d :: r, fst, lst, k, h1, h2, h, hk => by
    have hd := h d List.mem_cons_self
    simp only [List.length_cons] at hk
    rw [chainR, belows_cons, chain_bel (nextFst_pt h1 (by omega)) (nextLst_pt h2 hd.1) (fun f hf => h f (List.mem_cons_of_mem d hf)) (by omega), Bool.and_true]
    obtain ⟨f, f1, f2, f3, f4⟩ := pt_get h1 (show k < m by omega)
    obtain ⟨l, l1, l2, l3, l4⟩ := pt_get h2 (show k < m by omega)
    rw [f1, l1]
    show below j (.tup (l.take d.toNat ++ f.drop d.toNat)) = true
    rw [below_tup, belows_append]
    rw [belows_of fun y hy => ent_bel (l4 y (List.mem_of_mem_take hy)), belows_of fun y hy => ent_bel (f4 y (List.mem_of_mem_drop hy))]
    rfl
theorem chain_at_ok {n x r : Int} {m : Nat} {fst lst : List AV} (z : Sz n r) (hm : (m : Int) = r) (h1 : Pt n m fst) (h2 : Pt n m lst) (x0 : 0 ≤ x) (x1 : x < (n + 1) ^ m) :
    m_chain_at [.int n, .tup fst, .tup lst, .int x] A = .ok (.tup (chainR n m fst lst 0 (lsd (n + 1) m x).reverse)) A := by
  have z1 := z.n1
  have z2 := z.n2
  have z4 := z.r2
  have hl1 := h1.len
  have hl2 := h2.len
  obtain ⟨W, hW⟩ : ∃ W : Int, (n + 1) ^ m = W := ⟨_, rfl⟩
  rw [hW] at x1
  generalize hds : (lsd (n + 1) m x).reverse = ds
  have hdl : ds.length = m := by rw [← hds]; simp [lsd_len]
  have hdf : Fig (n + 1) ds := fun f hf => by
    rw [← hds] at hf
    exact lsd_fig (by omega) _ _ f (List.mem_reverse.mp hf)
  have hgd : ∀ turns : List AV, Am.listOf (A ++ .lst turns :: [.lst (ds.map .int)]) (.loc (A.length + 1)) = some (ds.map .int) := fun turns => by simp [Am.listOf]
  obtain ⟨env', A', e1, k, ds', fst', lst', turns, w6, w7, rfl, rfl, hrest, hturns, -⟩ := for_step (gd := [(A.length + 1, ds.map .int)]) (g := gTp (gCs (gNm 6) (gCs (gNm 7) gNl))) (b := b_link) (I := fun rest env A' => ∃ (k : Nat) (ds' : List Int) (fst' lst' turns : List AV) (w6 w7 : Option AV), env = [some (.int n), some (.tup fst'), some (.tup lst'), some (.int x), some (.int r), some (.loc A.length), w6, w7] ∧ A' = A ++ .lst turns :: [.lst (ds.map .int)] ∧ rest = enumA k (ds'.map .int) ∧ turns ++ chainR n m fst' lst' k ds' = chainR n m fst lst 0 ds ∧ Pt n m fst' ∧ Pt n m lst' ∧ Fig (n + 1) ds' ∧ k + ds'.length = m) (by
      rintro r env A' ⟨k, ds', fst', lst', turns, w6, w7, rfl, rfl, -⟩
      simp [hgd])
    (by
      rintro t rest env A' ⟨k, ds', fst', lst', turns, w6, w7, rfl, rfl, hrest, hturns, p1, p2, hf, hk⟩
      cases ds' with
      | nil => cases hrest
      | cons d dr =>
        rw [List.map_cons, enumA] at hrest
        obtain ⟨rfl, rfl⟩ := List.cons.inj hrest
        simp only [List.length_cons] at hk
        have hd := hf d List.mem_cons_self
        have hlen : turns.length ≤ 1000 := by
          have := congrArg List.length hturns
          simp [chain_len] at this
          omega
        refine ⟨[some (.int n), some (.tup fst'), some (.tup lst'), some (.int x), some (.int r), some (.loc A.length), some (.int (k : Int)), some (.int d)], rfl, _, _, link_ok (A := A) (T := [.lst (ds.map .int)]) z hm p1 p2 hd.1 (by omega) (by omega) hlen, k + 1, dr, _, _, _, _, _, rfl, rfl, rfl, ?_, nextFst_pt p1 (by omega), nextLst_pt p2 hd.1, fun f hfm => hf f (List.mem_cons_of_mem d hfm), by omega⟩
        rw [← hturns, chainR, List.append_assoc]
        rfl) (enumA 0 (ds.map .int)) [some (.int n), some (.tup fst), some (.tup lst), some (.int x), some (.int r), some (.loc A.length), none, none] (A ++ .lst [] :: [.lst (ds.map .int)]) ⟨0, ds, fst, lst, [], none, none, rfl, rfl, rfl, rfl, h1, h2, hdf, by omega⟩
  have hd0 : ds' = [] := by
    cases ds' with
    | nil => rfl
    | cons a b => cases hrest
  subst hd0
  have hturns' : turns = chainR n m fst lst 0 ds := by simpa [chainR] using hturns
  subst hturns'
  unfold m_chain_at
  refine fdef_ret rfl (v := .tup (chainR n m fst lst 0 ds)) (A' := A ++ .lst (chainR n m fst lst 0 ds) :: [.lst (ds.map .int)]) ?_ (cut_junk (by rw [below_tup]; exact chain_bel h1 h2 hdf (by omega)))
  show b_chain_at [some (.int n), some (.tup fst), some (.tup lst), some (.int x), none, none, none, none] A = _
  unfold b_chain_at
  have hp : ∀ B, m_power [.int (n + 1), .int r] B = .ok (.int W) B := fun B => by
    rw [← hW, ← hm]
    exact power_ok (by omega) (by omega)
  refine Eq.trans (seq_of (e := [some (.int n), some (.tup fst), some (.tup lst), some (.int x), none, none, none, none]) (A1 := A) ?_) ?_
  · simp only [mDrop_eq, mCB_eq, mCons_eq, mNil_eq, mC_eq, mVar_eq, List.getElem?_cons_zero, List.getElem?_cons_succ, Option.join_some, optR_some, Am.R.bind_ok, check_ok z1 z2, Am.R.st_ok]
  refine Eq.trans (seq_of (e := [some (.int n), some (.tup fst), some (.tup lst), some (.int x), none, none, none, none]) (A1 := A) ?_) ?_
  · have := check_pattern_ok (A := A) (lo := 0) (hi := 30) z2 (by omega) h1.ok (by omega) (by omega)
    simp only [mDrop_eq, mCB_eq, mCons_eq, mNil_eq, mC_eq, mVar_eq, List.getElem?_cons_zero, List.getElem?_cons_succ, Option.join_some, optR_some, Am.R.bind_ok, this, Am.R.st_ok]
  refine Eq.trans (seq_of (e := [some (.int n), some (.tup fst), some (.tup lst), some (.int x), some (.int r), none, none, none]) (A1 := A) ?_) ?_
  · simp only [mSet_eq, mCB_eq, mCons_eq, mNil_eq, mVar_eq, List.getElem?_cons_zero, List.getElem?_cons_succ, Option.join_some, optR_some, Am.R.bind_ok, oLen_tup, hl1, hm, Am.R.st_ok]
    rfl
  refine Eq.trans (seq_of (e := [some (.int n), some (.tup fst), some (.tup lst), some (.int x), some (.int r), none, none, none]) (A1 := A) ?_) ?_
  · have := check_pattern_ok (A := A) (lo := r) (hi := r) z2 (by omega) h2.ok (by omega) (by omega)
    simp only [mDrop_eq, mCB_eq, mCons_eq, mNil_eq, mC_eq, mVar_eq, List.getElem?_cons_zero, List.getElem?_cons_succ, Option.join_some, optR_some, Am.R.bind_ok, this, Am.R.st_ok]
  refine Eq.trans (seq_of (e := [some (.int n), some (.tup fst), some (.tup lst), some (.int x), some (.int r), none, none, none]) (A1 := A) ?_) ?_
  · have := check_ok (A := A) x0 (show x ≤ W - 1 by omega)
    simp only [mDrop_eq, mOp_eq, mCB_eq, mCons_eq, mNil_eq, mC_eq, mVar_eq, List.getElem?_cons_zero, List.getElem?_cons_succ, Option.join_some, optR_some, Am.R.bind_ok, oAdd_int, hp, oSub_int, this, Am.R.st_ok]
  refine Eq.trans (seq_of (e := [some (.int n), some (.tup fst), some (.tup lst), some (.int x), some (.int r), some (.loc A.length), none, none]) (A1 := A ++ [.lst []]) ?_) ?_
  · rw [mSet_eq, lst_ints (xs := []) rfl (by simp), Am.R.st_ok]
    rfl
  refine Eq.trans (seq_of (e := [some (.int n), some (.tup fst'), some (.tup lst'), some (.int x), some (.int r), some (.loc A.length), w6, w7]) (A1 := A ++ .lst (chainR n m fst lst 0 ds) :: [.lst (ds.map .int)]) ?_) ?_
  · have hf := figures_ok (A := A ++ [.lst []]) (x := x) (b := n + 1) (k := r) (by omega) (by omega) (by omega) (by omega)
    have hrm : r.toNat = m := by omega
    rw [hrm, hds] at hf
    have hlen : (A ++ [AO.lst []]).length = A.length + 1 := by simp
    have happ : (A ++ [AO.lst []]) ++ [AO.lst (ds.map .int)] = A ++ .lst [] :: [.lst (ds.map .int)] := by simp
    rw [hlen, happ] at hf
    have hi : miEnum (mCons (mCB m_figures_of (mCons (mVar 3) (mCons (mOp oAdd (mVar 0) (mC (.int 1))) (mCons (mVar 4) mNil)))) mNil) [some (.int n), some (.tup fst), some (.tup lst), some (.int x), some (.int r), some (.loc A.length), none, none] (A ++ [.lst []]) = .ok (enumA 0 (ds.map .int), [(A.length + 1, ds.map .int)]) (A ++ .lst [] :: [.lst (ds.map .int)]) := by
      simp only [miEnum, mCB_eq, mCons_eq, mNil_eq, mOp_eq, mC_eq, mVar_eq, List.getElem?_cons_zero, List.getElem?_cons_succ, Option.join_some, optR_some, Am.R.bind_ok, oAdd_int, hf, seqOf, hgd]
      rfl
    unfold mFor
    rw [hi]
    exact e1
  · have ht : oTuple [.loc A.length] (A ++ .lst (chainR n m fst lst 0 ds) :: [.lst (ds.map .int)]) = .ok (.tup (chainR n m fst lst 0 ds)) (A ++ .lst (chainR n m fst lst 0 ds) :: [.lst (ds.map .int)]) := by
      unfold oTuple Am.listOf
      dsimp only
      rw [mid_getA]
    simp only [mRet_eq, mCB_eq, mCons_eq, mNil_eq, mVar_eq, List.getElem?_cons_zero, List.getElem?_cons_succ, Option.join_some, optR_some, Am.R.bind_ok, ht, Am.R.st_ok]
end
end L20

set_option Elab.async false
set_option linter.all false
set_option maxRecDepth 100000
set_option maxHeartbeats 1000000
namespace L20
open PySem PySem.Spec PyProof.Rows L2 Am
theorem atI_map {xs : List Int} {i x : Int} (h : atI xs i = some x) : atI (xs.map AV.int) i = some (.int x) := by
  unfold atI at h ⊢
  rw [List.length_map]
  cases e : ixN xs.length i with
  | none => rw [e] at h; cases h
  | some k =>
    rw [e] at h
    have h' : xs[k]? = some x := h
    show (xs.map AV.int)[k]? = _
    rw [List.getElem?_map, h']
    rfl
theorem at_mid {pre z : List Int} {d : Int} : atI (pre ++ d :: z) ((pre.length : Nat) : Int) = some d := atI_natA (by simp)
theorem at_zero {pre : List Int} {d : Int} {j i : Nat} (hi : i < j) : atI (pre ++ d :: List.replicate j 0) ((pre.length + 1 + i : Nat) : Int) = some 0 := by
  refine atI_natA ?_
  rw [List.getElem?_append_right (by omega)]
  have e : pre.length + 1 + i - pre.length = i + 1 := by omega
  rw [e, List.getElem?_cons_succ, List.getElem?_replicate, if_pos hi]
section
variable {A : Hx}
theorem back_loop {v0 v1 v2 : Option AV} {k : Nat} {pre : List Int} {d : Int} {j : Nat} (hk : A[k]? = some (.lst ((pre ++ d :: List.replicate j 0).map .int))) (hd : d ≠ 0) : ∀ (i fuel : Nat) (y : Int), i ≤ j → i < fuel → y = ((pre.length + i : Nat) : Int) →
    whileV (mB (mOp oEq (mOp oIx (mVar 3) (mVar 4)) (mC (.int 0)))) (mAug 4 oSub (mC (.int 1))) fuel [v0, v1, v2, some (.loc k), some (.int y)] A = .nx [v0, v1, v2, some (.loc k), some (.int pre.length)] A
  | 0, fuel + 1, y, _, _, hy => by
    have hix : oIx (.loc k) (.int y) A = .ok (.int d) A := by
      rw [hy]
      exact oIx_loc hk (atI_map at_mid)
    unfold whileV
    simp only [mB_eq, mOp_eq, mC_eq, mVar_eq, List.getElem?_cons_zero, List.getElem?_cons_succ, Option.join_some, optR_some, Am.R.bind_ok, hix, oEq_int, decide_eq_false hd, isB_bl, Am.R.st_ok]
    rw [if_neg (by simp), hy]
    rfl
  | i + 1, fuel + 1, y, hi, hf, hy => by
    have hix : oIx (.loc k) (.int y) A = .ok (.int 0) A := by
      have e : ((pre.length + (i + 1) : Nat) : Int) = ((pre.length + 1 + i : Nat) : Int) := by omega
      rw [hy, e]
      exact oIx_loc hk (atI_map (at_zero (by omega)))
    have ih := back_loop (v0 := v0) (v1 := v1) (v2 := v2) hk hd i fuel (y - 1) (by omega) (by omega) (by omega)
    unfold whileV
    simp only [mB_eq, mOp_eq, mC_eq, mVar_eq, List.getElem?_cons_zero, List.getElem?_cons_succ, Option.join_some, optR_some, Am.R.bind_ok, hix, oEq_int, decide_true, isB_bl, Am.R.st_ok]
    rw [if_pos trivial]
    exact ih
theorem mover_ok {n x r d : Int} {m j : Nat} {pre : List Int} (z : Sz n r) (hm : (m : Int) = r) (x0 : 1 ≤ x) (x1 : x < (n + 1) ^ m) (hds : (lsd (n + 1) m x).reverse = pre ++ d :: List.replicate j 0) (hd : d ≠ 0) :
    m_mover [.int n, .int r, .int x] A = .ok (.tup [.int pre.length, .int (d - 1)]) A := by
  have z1 := z.n1
  have z2 := z.n2
  have z3 := z.r1
  have z4 := z.r2
  have hlen : pre.length + (j + 1) = m := by
    have := congrArg List.length hds
    simp [lsd_len] at this
    omega
  obtain ⟨W, hW⟩ : ∃ W : Int, (n + 1) ^ m = W := ⟨_, rfl⟩
  rw [hW] at x1
  have hp : ∀ B, m_power [.int (n + 1), .int r] B = .ok (.int W) B := fun B => by
    rw [← hW, ← hm]
    exact power_ok (by omega) (by omega)
  have hf := figures_ok (A := A) (x := x) (b := n + 1) (k := r) (by omega) (by omega) (by omega) (by omega)
  have hrm : r.toNat = m := by omega
  rw [hrm, hds] at hf
  have hk : (A ++ [AO.lst ((pre ++ d :: List.replicate j 0).map .int)])[A.length]? = some (.lst ((pre ++ d :: List.replicate j 0).map .int)) := by simp
  unfold m_mover
  refine fdef_ret rfl (v := .tup [.int pre.length, .int (d - 1)]) (A' := A ++ [.lst ((pre ++ d :: List.replicate j 0).map .int)]) ?_ (cut_junk (by simp))
  show b_mover [some (.int n), some (.int r), some (.int x), none, none] A = _
  unfold b_mover
  refine Eq.trans (seq_of (e := [some (.int n), some (.int r), some (.int x), none, none]) (A1 := A) ?_) ?_
  · simp only [mDrop_eq, mCB_eq, mCons_eq, mNil_eq, mC_eq, mVar_eq, List.getElem?_cons_zero, List.getElem?_cons_succ, Option.join_some, optR_some, Am.R.bind_ok, check_ok z1 z2, Am.R.st_ok]
  refine Eq.trans (seq_of (e := [some (.int n), some (.int r), some (.int x), none, none]) (A1 := A) ?_) ?_
  · simp only [mDrop_eq, mCB_eq, mCons_eq, mNil_eq, mC_eq, mVar_eq, List.getElem?_cons_zero, List.getElem?_cons_succ, Option.join_some, optR_some, Am.R.bind_ok, check_ok z3 z4, Am.R.st_ok]
  refine Eq.trans (seq_of (e := [some (.int n), some (.int r), some (.int x), none, none]) (A1 := A) ?_) ?_
  · have := check_ok (A := A) x0 (show x ≤ W - 1 by omega)
    simp only [mDrop_eq, mOp_eq, mCB_eq, mCons_eq, mNil_eq, mC_eq, mVar_eq, List.getElem?_cons_zero, List.getElem?_cons_succ, Option.join_some, optR_some, Am.R.bind_ok, oAdd_int, hp, oSub_int, this, Am.R.st_ok]
  refine Eq.trans (seq_of (e := [some (.int n), some (.int r), some (.int x), some (.loc A.length), none]) (A1 := A ++ [.lst ((pre ++ d :: List.replicate j 0).map .int)]) ?_) ?_
  · simp only [mSet_eq, mOp_eq, mCB_eq, mCons_eq, mNil_eq, mC_eq, mVar_eq, List.getElem?_cons_zero, List.getElem?_cons_succ, Option.join_some, optR_some, Am.R.bind_ok, oAdd_int, hf, Am.R.st_ok]
    rfl
  refine Eq.trans (seq_of (e := [some (.int n), some (.int r), some (.int x), some (.loc A.length), some (.int (r - 1))]) (A1 := A ++ [.lst ((pre ++ d :: List.replicate j 0).map .int)]) ?_) ?_
  · simp only [mSet_eq, mOp_eq, mC_eq, mVar_eq, List.getElem?_cons_zero, List.getElem?_cons_succ, Option.join_some, optR_some, Am.R.bind_ok, oSub_int, Am.R.st_ok]
    rfl
  refine Eq.trans (seq_of (e := [some (.int n), some (.int r), some (.int x), some (.loc A.length), some (.int pre.length)]) (A1 := A ++ [.lst ((pre ++ d :: List.replicate j 0).map .int)]) ?_) ?_
  · exact back_loop (v0 := some (.int n)) (v1 := some (.int r)) (v2 := some (.int x)) hk hd j 1000000 (r - 1) (Nat.le_refl j) (by omega) (by omega)
  · have hix := oIx_loc (i := (pre.length : Int)) hk (atI_map at_mid)
    have l2 : (2 : Nat) ≤ sizeLine := by rw [sizeLine_eq]; simp
    simp only [mRet_eq, mTup_eq, mOp_eq, mCons_eq, mNil_eq, mC_eq, mVar_eq, List.getElem?_cons_zero, List.getElem?_cons_succ, Option.join_some, optR_some, Am.R.bind_ok, hix, oSub_int, List.length_cons, List.length_nil, Nat.zero_add, Nat.reduceAdd, if_pos l2, Am.R.st_ok]
theorem law_figures_ok {b x r : Int} {m : Nat} (hb : 0 < b) (hb2 : b < 1000000) (hm : (m : Int) = r) (h1 : m ≤ 30) : m_law_figures [.int b, .int r, .int x] A = .ok (.loc A.length) (A ++ [.lst ((lsd b m x).reverse.map .int)]) := by
  have sb : small b := small_iff.mpr (show -18446744073709551616 < b ∧ b < 18446744073709551616 by omega)
  obtain ⟨env', A', e1, y, acc, k, T, w4, rfl, rfl, hk, hkl, hacc, -⟩ := for_step (gd := []) (g := gNm 4) (b := (mSeq (mSet 3 (mOp oAdd (mLst (mCons (mOp oMod (mCB oInt (mCons (mVar 2) mNil)) (mVar 0)) mNil)) (mVar 3)))
    (mSet 2 (mOp oFdiv (mVar 2) (mVar 0))))) (I := fun rest env A' => ∃ (y : Int) (acc : List Int) (k : Nat) (T : Hx) (w4 : Option AV), env = [some (.int b), some (.int r), some (.int y), some (.loc k), w4] ∧ A' = A ++ T ∧ (A ++ T)[k]? = some (.lst (acc.map .int)) ∧ A.length ≤ k ∧ (lsd b rest.length y).reverse ++ acc = (lsd b m x).reverse ∧ acc.length + rest.length ≤ 30) (by simp)
    (by
      rintro w rest env A' ⟨y, acc, k, T, w4, rfl, rfl, hk, hkl, hacc, hl⟩
      simp only [List.length_cons] at hl hacc
      refine ⟨[some (.int b), some (.int r), some (.int y), some (.loc k), some w], rfl, [some (.int b), some (.int r), some (.int (y / b)), some (.loc (A ++ T ++ [AO.lst [.int (y % b)]]).length), some w], A ++ T ++ [.lst [.int (y % b)]] ++ [.lst ((y % b :: acc).map .int)], ?_, y / b, y % b :: acc, _, T ++ [.lst [.int (y % b)]] ++ [.lst ((y % b :: acc).map .int)], _, rfl, by simp, ?_, ?_, ?_, by simp; omega⟩
      · refine Eq.trans (seq_of (e := [some (.int b), some (.int r), some (.int y), some (.loc (A ++ T ++ [AO.lst [.int (y % b)]]).length), some w]) (A1 := A ++ T ++ [.lst [.int (y % b)]] ++ [.lst ((y % b :: acc).map .int)]) ?_) ?_
        · have hkT : k < (A ++ T).length := (List.getElem?_eq_some_iff.mp hk).1
          have hadd : oAdd (.loc (A ++ T).length) (.loc k) (A ++ T ++ [AO.lst [.int (y % b)]]) = .ok (.loc (A ++ T ++ [AO.lst [.int (y % b)]]).length) (A ++ T ++ [.lst [.int (y % b)]] ++ [.lst ((y % b :: acc).map .int)]) := by
            unfold oAdd
            dsimp only
            have e1 : (A ++ T ++ [AO.lst [.int (y % b)]])[(A ++ T).length]? = some (.lst [.int (y % b)]) := by simp
            have e2 : (A ++ T ++ [AO.lst [.int (y % b)]])[k]? = some (.lst (acc.map .int)) := by
              rw [List.getElem?_append_left hkT]
              exact hk
            rw [e1, e2]
            dsimp only
            rw [if_pos (by rw [sizeLine_eq]; simp; omega)]
            rfl
          simp only [mSet_eq, mOp_eq, mLst_eq, mCB_eq, mCons_eq, mNil_eq, mVar_eq, List.getElem?_cons_zero, List.getElem?_cons_succ, Option.join_some, optR_some, Am.R.bind_ok, oInt_int, oMod_p hb, List.length_cons, List.length_nil, Nat.zero_add, if_pos one_le, hadd, Am.R.st_ok]
          rfl
        · simp only [mSet_eq, mOp_eq, mVar_eq, List.getElem?_cons_zero, List.getElem?_cons_succ, Option.join_some, optR_some, Am.R.bind_ok, oFdiv_s hb sb, Am.R.st_ok]
          rfl
      · have e : A ++ (T ++ [AO.lst [.int (y % b)]] ++ [AO.lst ((y % b :: acc).map .int)]) = (A ++ T ++ [AO.lst [.int (y % b)]]) ++ [AO.lst ((y % b :: acc).map .int)] := by simp
        rw [e]
        simp
      · simp <;> omega
      · rw [← hacc, lsd, List.reverse_cons, List.append_assoc]
        rfl) (rangeA 0 r) [some (.int b), some (.int r), some (.int x), some (.loc A.length), none] (A ++ [.lst (([] : List Int).map .int)]) ⟨x, [], A.length, [.lst (([] : List Int).map .int)], none, rfl, rfl, by simp, Nat.le_refl _, by
        have : (rangeA 0 r).length = m := by rw [range_len]; omega
        rw [this, List.append_nil], by rw [range_len]; simp; omega⟩
  have hacc' : acc = (lsd b m x).reverse := hacc
  subst hacc'
  unfold m_law_figures
  refine fdef_ret rfl (v := .loc k) (A' := A ++ T) ?_ ?_
  · show b_law_figures [some (.int b), some (.int r), some (.int x), none, none] A = _
    unfold b_law_figures
    refine Eq.trans (seq_of (e := [some (.int b), some (.int r), some (.int x), some (.loc A.length), none]) (A1 := A ++ [.lst (([] : List Int).map .int)]) ?_) ?_
    · rw [mSet_eq, lst_ints (xs := []) rfl (by simp), Am.R.st_ok]
      rfl
    refine Eq.trans (seq_of (e := [some (.int b), some (.int r), some (.int y), some (.loc k), w4]) (A1 := A ++ T) ?_) rfl
    unfold mFor
    rw [range1 (j := r) rfl (by rw [inR_iff]; omega)]
    exact e1
  · refine cut_new (k := k) (by simp) (by simp) hkl hk ?_
    rw [belowO_lst]
    exact belows_int _ _
end
end L20

set_option Elab.async false
set_option linter.all false
set_option maxRecDepth 100000
set_option maxHeartbeats 1000000
namespace L20
open PySem PySem.Spec PyProof.Rows L2 Am
theorem drawn_ints {n : Int} : ∀ {xs ys : List AV}, All2 (fun _ y => ∃ q : Int, y = .int q ∧ 0 ≤ q ∧ q < n) xs ys → ∃ ds : List Int, ys = ds.map .int ∧ Fig n ds ∧ ds.length = xs.length
  | _, _, .nil => ⟨[], rfl, (fun _ h => (List.not_mem_nil h).elim), rfl⟩
  | _, _, .cons h r => by
    obtain ⟨q, rfl, h0, h1⟩ := h
    obtain ⟨ds, rfl, h2, h3⟩ := drawn_ints r
    refine ⟨q :: ds, rfl, fun f hf => ?_, by simp [h3]⟩
    rcases List.mem_cons.mp hf with rfl | hf
    · exact ⟨h0, h1⟩
    · exact h2 f hf
theorem num_pos {b : Int} (hb : 0 < b) {fs : List Int} (h : Fig b fs) (hx : ∃ f, f ∈ fs ∧ 0 < f) : 1 ≤ num b 0 fs := by
  obtain ⟨pre, d, j, rfl, hd⟩ := split_last h hx
  rw [num_app]
  have hp : 0 ≤ num b 0 pre := (num_bound hb fun f hf => h f (List.mem_append_left _ hf)).1
  show 1 ≤ num b (num b 0 pre * b + d) (List.replicate j 0)
  rw [num_zeros]
  have h1 : 0 ≤ num b 0 pre * b := Int.mul_nonneg hp (by omega)
  have h2 : 0 < b ^ j := Int.pow_pos hb
  have h3 : 1 * 1 ≤ (num b 0 pre * b + d) * b ^ j := Int.mul_le_mul (by omega) (by omega) (by omega) (by omega)
  omega
theorem any_of {env : Ev} {A : Hx} {L : ME} {bs : List Bool} (h : L env A = .ok (.loc A.length) (A ++ [.lst (bs.map .bl)])) : mCut (mCB oAny (mCons L mNil)) env A = .ok (.bl (bs.any id)) A := by
  rw [mCut_eq, mCB_eq, mCons_eq, h, R.bind_ok, mNil_eq, R.bind_ok, R.bind_ok]
  have : oAny [.loc A.length] (A ++ [.lst (bs.map .bl)]) = .ok (.bl (bs.any id)) (A ++ [.lst (bs.map .bl)]) := by
    unfold oAny
    dsimp only
    rw [snoc_list, Option.bind_some, blsOf_map]
  rw [this]
  exact cut_junk (by simp)
section
variable {s : AO} {ns : List Int} {P : AO} {B : Hx}
theorem law_drawn_ok {b r : Int} {m : Nat} (hP : PotO ns P) (hb : 3 < b) (hb2 : b ≤ 6) (hm : (m : Int) = r) (m0 : 0 < m) (m1 : m ≤ 30) :
    ∃ N P', m_law_drawn [.loc 2, .int b, .int r] (Ht s ns P B) = .ok (.int N) (Ht s ns P' B) ∧ PotO ns P' ∧ 1 ≤ N ∧ N < b ^ m := by
  have sb : small b := small_iff.mpr (show -18446744073709551616 < b ∧ b < 18446744073709551616 by omega)
  -- drawn figures
  obtain ⟨A', ys, e1, ⟨P1, rfl, hP1⟩, hall⟩ := lc_st (env := [some (.loc 2), some (.int b), some (.int r), none, none, none, none, none, none]) (mi := miRange1 (mCons (mVar 2) mNil)) (g := gNm 4) (mt := mYes) (me := mCB m_law_draw (mCons (mVar 0) (mCons (mVar 1) mNil))) (vs := [4]) (gd := []) (xs := rangeA 0 r) (A := Ht s ns P B)
      (I := fun A' => ∃ P', A' = Ht s ns P' B ∧ PotO ns P') (P := fun _ y => ∃ q : Int, y = .int q ∧ 0 ≤ q ∧ q < b)
      (range1 rfl (by rw [inR_iff]; omega)) (by rintro A' ⟨P', rfl, -⟩; rfl) (by simp) (by
        intro x hx
        refine ⟨[some (.loc 2), some (.int b), some (.int r), none, some x, none, none, none, none], by simp [wipeE], ?_⟩
        rintro A' acc ⟨P', rfl, hP'⟩
        refine ⟨rfl, ?_⟩
        obtain ⟨q, P2', e, q0, q1, hP2'⟩ := draw_ok s ns P' (B ++ [.lst acc]) b hP' (by omega) (by omega)
        refine ⟨.int q, _, ?_, ⟨P2', rfl, hP2'⟩, q, rfl, q0, q1⟩
        simp only [mCB_eq, mCons_eq, mNil_eq, mVar_eq, List.getElem?_cons_zero, List.getElem?_cons_succ, Option.join_some, optR_some, Am.R.bind_ok]
        exact e) (by rw [range_len, sizeLine_eq]; omega) ⟨P, rfl, hP⟩
  obtain ⟨ds, rfl, hds, hdl⟩ := drawn_ints hall
  rw [range_len] at hdl
  have hdm : ds.length = m := by omega
  -- figures that are 0 behind
  have h2 : ∃ bh P2, mIfE (mB (mOp oEq (mCB m_law_draw (mCons (mVar 0) (mCons (mC (.int 2)) mNil))) (mC (.int 0)))) (mCB m_law_draw (mCons (mVar 0) (mCons (mVar 2) mNil))) (mC (.int 0)) [some (.loc 2), some (.int b), some (.int r), some (.loc (B.length + 3)), none, none, none, none, none] (Ht s ns P1 (B ++ [.lst (ds.map .int)])) = .ok (.int bh) (Ht s ns P2 (B ++ [.lst (ds.map .int)])) ∧ 0 ≤ bh ∧ bh < r ∧ PotO ns P2 := by
    obtain ⟨q, P2, e, q0, q1, hP2⟩ := draw_ok s ns P1 (B ++ [.lst (ds.map .int)]) 2 hP1 (by omega) (by omega)
    by_cases hq : q = 0
    · obtain ⟨q', P3, e', q0', q1', hP3⟩ := draw_ok s ns P2 (B ++ [.lst (ds.map .int)]) r hP2 (by omega) (by omega)
      refine ⟨q', P3, ?_, q0', q1', hP3⟩
      simp only [mIfE_eq, mB_eq, mOp_eq, mCB_eq, mCons_eq, mNil_eq, mC_eq, mVar_eq, List.getElem?_cons_zero, List.getElem?_cons_succ, Option.join_some, optR_some, Am.R.bind_ok, e, oEq_int, decide_eq_true hq, isB_bl, pick_t, e']
    · refine ⟨0, P2, ?_, Int.le_refl 0, by omega, hP2⟩
      simp only [mIfE_eq, mB_eq, mOp_eq, mCB_eq, mCons_eq, mNil_eq, mC_eq, mVar_eq, List.getElem?_cons_zero, List.getElem?_cons_succ, Option.join_some, optR_some, Am.R.bind_ok, e, oEq_int, decide_eq_false hq, isB_bl, pick_f]
  obtain ⟨bh, P2, e2, b0, b1, hP2⟩ := h2
  obtain ⟨fs, hfs⟩ : ∃ fs, fs = ds.take (r - bh).toNat ++ List.replicate bh.toNat 0 := ⟨_, rfl⟩
  have hfl : fs.length = m := by
    rw [hfs]
    simp
    omega
  have hff : Fig b fs := fun f hf => by
    rw [hfs] at hf
    rcases List.mem_append.mp hf with h | h
    · exact hds f (List.mem_of_mem_take h)
    · rw [List.eq_of_mem_replicate h]
      omega
  have hT : ∃ T : Hx, T.length = 3 ∧ mOp oAdd (mSl oSl (mVar 3) mNoPart (mPart (mOp oSub (mVar 2) (mVar 5)))) (mLc (miRange1 (mCons (mVar 5) mNil)) (gNm 6) mYes (mC (.int 0)) [6]) [some (.loc 2), some (.int b), some (.int r), some (.loc (B.length + 3)), none, some (.int bh), none, none, none] (Ht s ns P2 (B ++ [.lst (ds.map .int)])) = .ok (.loc (B.length + 6)) (Ht s ns P2 (B ++ T ++ [.lst (fs.map .int)])) := by
    refine ⟨[.lst (ds.map .int), .lst ((ds.take (r - bh).toNat).map .int), .lst ((List.replicate bh.toNat 0).map .int)], rfl, ?_⟩
    have hsl : oSl (.loc (B.length + 3)) none (some (r - bh)) (Ht s ns P2 (B ++ [.lst (ds.map .int)])) = .ok (.loc (B.length + 4)) (Ht s ns P2 (B ++ [.lst (ds.map .int), .lst ((ds.take (r - bh).toNat).map .int)])) := by
      have hlo : Am.listOf (Ht s ns P2 (B ++ [.lst (ds.map .int)])) (.loc (B.length + 3)) = some (ds.map .int) := snoc_list (A := Ht s ns P2 B) _
      unfold oSl
      dsimp only
      rw [hlo]
      dsimp only
      rw [cutA_take' (by omega), ← List.map_take]
      simp
    have hlc : mLc (miRange1 (mCons (mVar 5) mNil)) (gNm 6) mYes (mC (.int 0)) [6] [some (.loc 2), some (.int b), some (.int r), some (.loc (B.length + 3)), none, some (.int bh), none, none, none] (Ht s ns P2 (B ++ [.lst (ds.map .int), .lst ((ds.take (r - bh).toNat).map .int)])) = .ok (.loc (B.length + 5)) (Ht s ns P2 (B ++ [.lst (ds.map .int), .lst ((ds.take (r - bh).toNat).map .int), .lst ((List.replicate bh.toNat 0).map .int)])) := by
      have e : (List.replicate bh.toNat (0 : Int)).map AV.int = ((rangeA 0 bh).filter fun _ => true).map fun _ => .int 0 := by
        rw [filter_yes, range_const, List.map_replicate]
      rw [e]
      have := lc_pure (A := Ht s ns P2 (B ++ [.lst (ds.map .int), .lst ((ds.take (r - bh).toNat).map .int)])) (env := [some (.loc 2), some (.int b), some (.int r), some (.loc (B.length + 3)), none, some (.int bh), none, none, none]) (mi := miRange1 (mCons (mVar 5) mNil)) (g := gNm 6) (mt := mYes) (me := mC (.int 0)) (vs := [6]) (gd := []) (c := fun _ => true) (f := fun _ => .int 0) (range1 rfl (by rw [inR_iff]; omega)) (by simp) (fun x hx => ⟨[some (.loc 2), some (.int b), some (.int r), some (.loc (B.length + 3)), none, some (.int bh), some x, none, none], by simp [wipeE], fun acc => ⟨rfl, fun _ => rfl⟩⟩) (by rw [range_len, sizeLine_eq]; omega)
      rw [this]
      simp
    have hadd : oAdd (.loc (B.length + 4)) (.loc (B.length + 5)) (Ht s ns P2 (B ++ [.lst (ds.map .int), .lst ((ds.take (r - bh).toNat).map .int), .lst ((List.replicate bh.toNat 0).map .int)])) = .ok (.loc (B.length + 6)) (Ht s ns P2 (B ++ [.lst (ds.map .int), .lst ((ds.take (r - bh).toNat).map .int), .lst ((List.replicate bh.toNat 0).map .int)] ++ [.lst (fs.map .int)])) := by
      have g1 : (Ht s ns P2 (B ++ [.lst (ds.map .int), .lst ((ds.take (r - bh).toNat).map .int), .lst ((List.replicate bh.toNat 0).map .int)]))[B.length + 4]? = some (.lst ((ds.take (r - bh).toNat).map .int)) := by
        show (B ++ [AO.lst (ds.map .int), .lst ((ds.take (r - bh).toNat).map .int), .lst ((List.replicate bh.toNat 0).map .int)])[B.length + 1]? = _
        simp
      have g2 : (Ht s ns P2 (B ++ [.lst (ds.map .int), .lst ((ds.take (r - bh).toNat).map .int), .lst ((List.replicate bh.toNat 0).map .int)]))[B.length + 5]? = some (.lst ((List.replicate bh.toNat 0).map .int)) := by
        show (B ++ [AO.lst (ds.map .int), .lst ((ds.take (r - bh).toNat).map .int), .lst ((List.replicate bh.toNat 0).map .int)])[B.length + 2]? = _
        simp
      unfold oAdd
      dsimp only
      rw [g1, g2]
      dsimp only
      rw [if_pos (by rw [sizeLine_eq]; simp; omega), hfs, List.map_append]
      simp
    simp only [mOp_eq, mSl_eq, mNoPart_eq, mPart_eq, mVar_eq, List.getElem?_cons_zero, List.getElem?_cons_succ, Option.join_some, optR_some, Am.R.bind_ok, oSub_int, toI?_int, hsl, hlc, hadd]
  obtain ⟨T, hTl, e3⟩ := hT
  have hH : ∀ (P' : AO) (gs : List Int), (Ht s ns P' (B ++ T ++ [.lst (gs.map .int)]))[B.length + 6]? = some (.lst (gs.map .int)) := fun P' gs => by
    show (B ++ T ++ [AO.lst (gs.map .int)])[B.length + 3]? = _
    rw [← hTl, ← List.length_append]
    simp
  have hlo : ∀ (P' : AO) (gs : List Int), Am.listOf (Ht s ns P' (B ++ T ++ [.lst (gs.map .int)])) (.loc (B.length + 6)) = some (gs.map .int) := fun P' gs => by
    unfold Am.listOf
    dsimp only
    rw [hH]
  have hseq : ∀ (P' : AO) (gs : List Int) (env : Ev), env[3]? = some (some (.loc (B.length + 6))) → miSeq (mVar 3) env (Ht s ns P' (B ++ T ++ [.lst (gs.map .int)])) = .ok (gs.map .int, [(B.length + 6, gs.map .int)]) (Ht s ns P' (B ++ T ++ [.lst (gs.map .int)])) := fun P' gs env he => by
    simp only [miSeq, mVar_eq, he, Option.join_some, optR_some, Am.R.bind_ok, seqOf, hlo]
    rfl
  -- one that isn't 0
  have h4 : ∃ gs P4, mIf (mNot (mTru (mCut (mCB oAny (mCons (mLc (miSeq (mVar 3)) (gNm 7) mYes (mOp oGt (mVar 7) (mC (.int 0))) [7]) mNil)))))
    (mPut (mOp oAdd (mC (.int 1)) (mCB m_law_draw (mCons (mVar 0) (mCons (mOp oSub (mVar 1) (mC (.int 1))) mNil)))) (mVar 3) (mCB m_law_draw (mCons (mVar 0) (mCons (mVar 2) mNil))))
    mPass [some (.loc 2), some (.int b), some (.int r), some (.loc (B.length + 6)), none, some (.int bh), none, none, none] (Ht s ns P2 (B ++ T ++ [.lst (fs.map .int)])) = .nx [some (.loc 2), some (.int b), some (.int r), some (.loc (B.length + 6)), none, some (.int bh), none, none, none] (Ht s ns P4 (B ++ T ++ [.lst (gs.map .int)])) ∧ PotO ns P4 ∧ gs.length = m ∧ Fig b gs ∧ ∃ f, f ∈ gs ∧ 0 < f := by
    have hany : mCut (mCB oAny (mCons (mLc (miSeq (mVar 3)) (gNm 7) mYes (mOp oGt (mVar 7) (mC (.int 0))) [7]) mNil)) [some (.loc 2), some (.int b), some (.int r), some (.loc (B.length + 6)), none, some (.int bh), none, none, none] (Ht s ns P2 (B ++ T ++ [.lst (fs.map .int)])) = .ok (.bl ((fs.map fun f => decide (0 < f)).any id)) (Ht s ns P2 (B ++ T ++ [.lst (fs.map .int)])) := by
      refine any_of ?_
      have e : (fs.map fun f => decide (0 < f)).map AV.bl = ((fs.map AV.int).filter fun _ => true).map fun y => match y with | .int f => .bl (decide (0 < f)) | _ => .non := by
        rw [filter_yes, List.map_map, List.map_map]
        rfl
      rw [e]
      refine lc_pure (hseq P2 fs _ rfl) (fun acc => ?_) ?_ (by rw [sizeLine_eq]; simp; omega)
      · rw [okG_cons]
        refine ⟨?_, by simp⟩
        have hlt := (List.getElem?_eq_some_iff.mp (hH P2 fs)).1
        unfold Am.listOf
        dsimp only
        rw [List.getElem?_append_left hlt, hH]
      · intro y hy
        obtain ⟨f, -, rfl⟩ := List.mem_map.mp hy
        refine ⟨[some (.loc 2), some (.int b), some (.int r), some (.loc (B.length + 6)), none, some (.int bh), none, some (.int f), none], by simp [wipeE], fun acc => ⟨rfl, fun _ => ?_⟩⟩
        simp only [mOp_eq, mC_eq, mVar_eq, List.getElem?_cons_zero, List.getElem?_cons_succ, Option.join_some, optR_some, Am.R.bind_ok, oGt_int]
    by_cases hx : (fs.map fun f => decide (0 < f)).any id = true
    · refine ⟨fs, P2, ?_, hP2, hfl, hff, ?_⟩
      · rw [hx] at hany
        simp only [mIf_eq, mNot_eq, mTru_eq, hany, Am.R.bind_ok, truth_bl, Bool.not_true, Am.R.st_ok, pick_f, mPass_eq]
      · obtain ⟨x, hx1, hx2⟩ := List.any_eq_true.mp hx
        obtain ⟨f, hf, rfl⟩ := List.mem_map.mp hx1
        exact ⟨f, hf, by simpa using hx2⟩
    · have hx' : (fs.map fun f => decide (0 < f)).any id = false := by simpa using hx
      rw [hx'] at hany
      obtain ⟨q, P3, eq, q0, q1, hP3⟩ := draw_ok s ns P2 (B ++ T ++ [.lst (fs.map .int)]) (b - 1) hP2 (by omega) (by omega)
      obtain ⟨i, P4, ei, i0, i1, hP4⟩ := draw_ok s ns P3 (B ++ T ++ [.lst (fs.map .int)]) r hP3 (by omega) (by omega)
      have hset : setIx (.loc (B.length + 6)) (.int i) (.int (1 + q)) (Ht s ns P4 (B ++ T ++ [.lst (fs.map .int)])) = some (Ht s ns P4 (B ++ T ++ [.lst ((fs.set i.toNat (1 + q)).map .int)])) := by
        have hi : i = ((i.toNat : Nat) : Int) := by omega
        rw [setIx_loc (hH P4 fs) (j := i.toNat) (by rw [hi, List.length_map]; exact ixN_nat (by omega))]
        congr 1
        show s :: _ :: P4 :: (B ++ T ++ [AO.lst (fs.map .int)]).set (B.length + 3) _ = _
        rw [← hTl, ← List.length_append, snoc_set, List.map_set]
      refine ⟨fs.set i.toNat (1 + q), P4, ?_, hP4, by simpa using hfl, fun f hf => ?_, 1 + q, ?_, by omega⟩
      · simp only [mIf_eq, mNot_eq, mTru_eq, hany, Am.R.bind_ok, truth_bl, Bool.not_false, Am.R.st_ok, pick_t, mPut_eq, mOp_eq, mC_eq, mCB_eq, mCons_eq, mNil_eq, mVar_eq, List.getElem?_cons_zero, List.getElem?_cons_succ, Option.join_some, optR_some, oSub_int, eq, oAdd_int, ei, hset, optS_some]
      · rcases List.mem_or_eq_of_mem_set hf with h | rfl
        · exact hff f h
        · omega
      · have hlt : i.toNat < (fs.set i.toNat (1 + q)).length := by simp; omega
        have := List.getElem_mem hlt
        rwa [List.getElem_set_self] at this
  obtain ⟨gs, P4, e4, hP4, hgl, hgf, hgx⟩ := h4
  obtain ⟨env', A', e5, rfl, v', w7, ts, rfl, hts, hv⟩ := for_step (gd := [(B.length + 6, gs.map .int)]) (g := gNm 7) (b := mSet 8 (mOp oAdd (mOp oMul (mVar 8) (mVar 1)) (mVar 7))) (I := fun rest env A' => A' = Ht s ns P4 (B ++ T ++ [.lst (gs.map .int)]) ∧ ∃ (v' : Int) (w7 : Option AV) (ts : List Int), env = [some (.loc 2), some (.int b), some (.int r), some (.loc (B.length + 6)), none, some (.int bh), none, w7, some (.int v')] ∧ rest = ts.map .int ∧ num b v' ts = num b 0 gs) (by
      rintro r' env A' ⟨rfl, -⟩
      rw [okG_cons]
      exact ⟨hlo P4 gs, by simp⟩)
    (by
      rintro x rest env A' ⟨rfl, v', w7, ts, rfl, hr, hv⟩
      cases ts with
      | nil => cases hr
      | cons g ts =>
        rw [List.map_cons] at hr
        obtain ⟨rfl, rfl⟩ := List.cons.inj hr
        refine ⟨[some (.loc 2), some (.int b), some (.int r), some (.loc (B.length + 6)), none, some (.int bh), none, some (.int g), some (.int v')], rfl, [some (.loc 2), some (.int b), some (.int r), some (.loc (B.length + 6)), none, some (.int bh), none, some (.int g), some (.int (v' * b + g))], _, ?_, rfl, _, _, ts, rfl, rfl, hv⟩
        simp only [mSet_eq, mOp_eq, mVar_eq, List.getElem?_cons_zero, List.getElem?_cons_succ, Option.join_some, optR_some, Am.R.bind_ok, oMul_r sb, oAdd_int, Am.R.st_ok]
        rfl) (gs.map .int) [some (.loc 2), some (.int b), some (.int r), some (.loc (B.length + 6)), none, some (.int bh), none, none, some (.int 0)] (Ht s ns P4 (B ++ T ++ [.lst (gs.map .int)])) ⟨rfl, 0, none, gs, rfl, rfl, rfl⟩
  have ht0 : ts = [] := by
    cases ts with
    | nil => rfl
    | cons a b => cases hts
  subst ht0
  have hv' : v' = num b 0 gs := hv
  have hbound := num_bound (show 0 < b by omega) hgf
  rw [hgl, ← hv'] at hbound
  have hpos := num_pos (show 0 < b by omega) hgf hgx
  rw [← hv'] at hpos
  refine ⟨v', P4, ?_, hP4, hpos, hbound.2⟩
  unfold m_law_drawn
  refine fdef_ret rfl (v := .int v') (A' := Ht s ns P4 (B ++ (T ++ [.lst (gs.map .int)]))) ?_ (cut_pot hP4 (by simp))
  rw [← List.append_assoc]
  show b_law_drawn [some (.loc 2), some (.int b), some (.int r), none, none, none, none, none, none] _ = _
  unfold b_law_drawn
  refine Eq.trans (seq_of (e := [some (.loc 2), some (.int b), some (.int r), some (.loc (B.length + 3)), none, none, none, none, none]) (A1 := Ht s ns P1 (B ++ [.lst (ds.map .int)])) ?_) ?_
  · rw [mSet_eq, e1, Am.R.st_ok]
    rfl
  refine Eq.trans (seq_of (e := [some (.loc 2), some (.int b), some (.int r), some (.loc (B.length + 3)), none, some (.int bh), none, none, none]) (A1 := Ht s ns P2 (B ++ [.lst (ds.map .int)])) ?_) ?_
  · rw [mSet_eq, e2, Am.R.st_ok]
    rfl
  refine Eq.trans (seq_of (e := [some (.loc 2), some (.int b), some (.int r), some (.loc (B.length + 6)), none, some (.int bh), none, none, none]) (A1 := Ht s ns P2 (B ++ T ++ [.lst (fs.map .int)])) ?_) ?_
  · rw [mSet_eq, e3, Am.R.st_ok]
    rfl
  refine Eq.trans (seq_of e4) ?_
  refine Eq.trans (seq_of (e := [some (.loc 2), some (.int b), some (.int r), some (.loc (B.length + 6)), none, some (.int bh), none, none, some (.int 0)]) (A1 := Ht s ns P4 (B ++ T ++ [.lst (gs.map .int)])) rfl) ?_
  refine Eq.trans (seq_of (e := [some (.loc 2), some (.int b), some (.int r), some (.loc (B.length + 6)), none, some (.int bh), none, w7, some (.int v')]) (A1 := Ht s ns P4 (B ++ T ++ [.lst (gs.map .int)])) ?_) rfl
  unfold mFor
  rw [hseq P4 gs _ rfl]
  exact e5
end
end L20

set_option Elab.async false
set_option linter.all false
set_option maxRecDepth 100000
set_option maxHeartbeats 1000000
namespace L20
open PySem PySem.Spec PyProof.Rows L2 Am
theorem lsd_num {b : Int} (hb : 0 < b) : ∀ (k : Nat) (x : Int), 0 ≤ x → x < b ^ k → num b 0 (lsd b k x).reverse = x
  | 0, x, h0, h1 => by
    simp at h1
    simp [lsd, num]
    omega
  | k + 1, x, h0, h1 => by
    have e1 : 0 ≤ x / b := Int.ediv_nonneg h0 (by omega)
    have e2 : x / b < b ^ k := Int.ediv_lt_of_lt_mul hb (by rw [← Int.pow_succ]; exact h1)
    rw [lsd, List.reverse_cons, num_app, lsd_num hb k (x / b) e1 e2]
    show x / b * b + x % b = x
    have := Int.mul_ediv_add_emod x b
    rw [Int.mul_comm] at this
    exact this
/-- figures of a number from 1 on, and of the one ahead -/
theorem figs_two {n N : Int} {m : Nat} (hn : 0 < n) (h0 : 1 ≤ N) (h1 : N < (n + 1) ^ m) : ∃ pre d j, (lsd (n + 1) m N).reverse = pre ++ d :: List.replicate j 0 ∧ (lsd (n + 1) m (N - 1)).reverse = pre ++ (d - 1) :: List.replicate j n ∧ 0 < d ∧ d ≤ n ∧ Fig (n + 1) pre ∧ pre.length + (j + 1) = m := by
  have hN := lsd_num (b := n + 1) (by omega) m N (by omega) h1
  have hF : Fig (n + 1) (lsd (n + 1) m N).reverse := fun f hf => lsd_fig (by omega) m N f (List.mem_reverse.mp hf)
  have hx : ∃ f, f ∈ (lsd (n + 1) m N).reverse ∧ 0 < f := by
    by_cases h : ∃ f, f ∈ (lsd (n + 1) m N).reverse ∧ 0 < f
    · exact h
    · have e : (lsd (n + 1) m N).reverse = List.replicate (lsd (n + 1) m N).reverse.length 0 := List.eq_replicate_iff.mpr ⟨rfl, fun g hg => by
        have h2 := hF g hg
        by_cases hg0 : 0 < g
        · exact absurd ⟨g, hg, hg0⟩ h
        · omega⟩
      rw [e, num_zeros] at hN
      omega
  obtain ⟨pre, d, j, e, hd⟩ := split_last hF hx
  have hlen : pre.length + (j + 1) = m := by
    have := congrArg List.length e
    simp [lsd_len] at this
    omega
  have hdF := hF d (by rw [e]; simp)
  have hpF : Fig (n + 1) pre := fun f hf => hF f (by rw [e]; simp [hf])
  refine ⟨pre, d, j, e, ?_, hd, by omega, hpF, hlen⟩
  have hA : num (n + 1) 0 (pre ++ (d - 1) :: List.replicate j n) = N - 1 := by
    rw [num_ahead, ← e, hN]
  have hFA : Fig (n + 1) (pre ++ (d - 1) :: List.replicate j n) := fun f hf => by
    rcases List.mem_append.mp hf with h | h
    · exact hpF f h
    · rcases List.mem_cons.mp h with rfl | h
      · omega
      · rw [List.eq_of_mem_replicate h]
        omega
  have := digs_eq (show 0 < n + 1 by omega) hFA
  rw [hA] at this
  have hl2 : (pre ++ (d - 1) :: List.replicate j n).length = m := by simp; omega
  rwa [hl2] at this
theorem ent_toD {A : Hx} {k : Nat} {y : AV} (h : y = .non ∨ ∃ i, y = .int i) : toD A k y = some (entD y) := by
  rcases h with rfl | ⟨i, rfl⟩ <;> simp [entD]
theorem ent_same {A : Hx} {y : AV} (h : y = .non ∨ ∃ i, y = .int i) : oNe y y A = .ok (.bl false) A := oNe_self (n := 1) (ent_toD h) ((ent_shp y).mono (by decide)) (ent_eqv y)
theorem ent_ne {A : Hx} {y w : AV} (h : y = .non ∨ ∃ i, y = .int i) (h' : w = .non ∨ ∃ i, w = .int i) : ∃ v, oNe y w A = .ok (.bl v) A := by
  refine ⟨!PyData.eqv (entD y) (entD w), ?_⟩
  unfold oNe
  rw [eqD_of (n := 1) (ent_toD h) (ent_toD h') ((ent_shp y).mono (by decide)) ((ent_shp w).mono (by decide))]
  rfl
theorem row_same {A : Hx} {ts : List AV} (h : ∀ y, y ∈ ts → y = .non ∨ ∃ i, y = .int i) : oNe (.tup ts) (.tup ts) A = .ok (.bl false) A := by
  refine oNe_self (n := 1) (toD_tup (row_toD h)) (shp_tup fun d hd => ?_) (eqv_tup_refl fun d hd => ?_)
  · obtain ⟨y, _, rfl⟩ := List.mem_map.mp hd
    exact ent_shp y
  · obtain ⟨y, _, rfl⟩ := List.mem_map.mp hd
    exact ent_eqv y
theorem pair_all : ∀ a ∈ (List.range 31).map Int.ofNat, ∀ b ∈ (List.range 6).map Int.ofNat, ((PyData.tuple [.int a, .int b]).showable && !(PyData.tuple [.int a, .int b]).hasDict && decide ((PyData.tuple [.int a, .int b]).shown.length ≤ 1000) && decide ((PyData.tuple [.int a, .int b]).depth ≤ 60) && PyData.strOk (PyData.tuple [.int a, .int b]).shown) = true := by decide +kernel
theorem repr_pair {a b : Int} (a0 : 0 ≤ a) (a1 : a ≤ 30) (b0 : 0 ≤ b) (b1 : b ≤ 5) : ∃ t, PyData.strOk t = true ∧ ∀ A, oRepr [.tup [.int a, .int b]] A = .ok (.str t) A := by
  have h := pair_all a (List.mem_map.mpr ⟨a.toNat, List.mem_range.mpr (by omega), by show ((a.toNat : Nat) : Int) = a; omega⟩) b (List.mem_map.mpr ⟨b.toNat, List.mem_range.mpr (by omega), by show ((b.toNat : Nat) : Int) = b; omega⟩)
  simp only [Bool.and_eq_true, decide_eq_true_eq, Bool.not_eq_true'] at h
  obtain ⟨⟨⟨⟨h1, h2⟩, h3⟩, h4⟩, h5⟩ := h
  refine ⟨_, h5, fun A => ?_⟩
  unfold oRepr shownA
  dsimp only
  rw [show toD A 60 (.tup [.int a, .int b]) = some (.tuple [.int a, .int b]) from toD_tup (by simp)]
  dsimp only
  rw [if_pos ⟨h1, h2, by rw [sizeLine_eq]; omega, h4⟩]
/-- rows of a chain -/
theorem chain_shape {n : Int} {m : Nat} : ∀ {ds : List Int} {fst lst : List AV} {k : Nat}, Pt n m fst → Pt n m lst → Fig (n + 1) ds → k + ds.length ≤ m → ∀ x, x ∈ chainR n m fst lst k ds → ∃ ts, x = .tup ts ∧ (ts.length : Int) = n ∧ ∀ y, y ∈ ts → y = .non ∨ ∃ i, y = .int i
  | d :: r, fst, lst, k, h1, h2, h, hk, x, hx => by
    have hd := h d List.mem_cons_self
    simp only [List.length_cons] at hk
    rw [chainR] at hx
    rcases List.mem_cons.mp hx with rfl | hx
    · obtain ⟨f, f1, f2, f3, f4⟩ := pt_get h1 (show k < m by omega)
      obtain ⟨l, l1, l2, l3, l4⟩ := pt_get h2 (show k < m by omega)
      refine ⟨l.take d.toNat ++ f.drop d.toNat, by rw [f1, l1]; rfl, by simp; omega, fun y hy => ?_⟩
      rcases List.mem_append.mp hy with h | h
      · exact l4 y (List.mem_of_mem_take h)
      · exact f4 y (List.mem_of_mem_drop h)
    · exact chain_shape (nextFst_pt h1 (by omega)) (nextLst_pt h2 hd.1) (fun f hf => h f (List.mem_cons_of_mem d hf)) (by omega) x hx
/-- two patterns that follow one another, entry by entry -/
structure Two (n : Int) (m a : Nat) (w : Int) (one other : List AV) : Prop where
  at_ : ∀ k, k < m → ∃ t1 t2 : List AV, one[k]? = some (.tup t1) ∧ other[k]? = some (.tup t2) ∧ (t1.length : Int) = n ∧ (t2.length : Int) = n ∧ (∀ y, y ∈ t1 → y = .non ∨ ∃ i, y = .int i) ∧ (∀ y, y ∈ t2 → y = .non ∨ ∃ i, y = .int i) ∧ (k ≠ a → t1 = t2) ∧ (k = a → ∀ p : Nat, (p : Int) ≠ w → t1[p]? = t2[p]?)
  behind : ∀ k, a < k → k < m → one[k]? = some (.tup (shutRow n w)) ∧ other[k]? = some (.tup (shutRow n w))
theorem shut_ent {n i : Int} : ∀ y, y ∈ shutRow n i → y = .non ∨ ∃ q, y = .int q := fun y hy => by
  obtain ⟨x, hx, rfl⟩ := List.mem_map.mp hy
  obtain ⟨q, rfl, -, -⟩ := mem_range hx
  unfold shutF
  dsimp only
  split
  · exact .inl rfl
  · exact .inr ⟨i, rfl⟩
theorem two_of {n d : Int} {m j : Nat} {top f l : List AV} (hn : 0 < n) (d0 : 0 < d) (d1 : d ≤ n) (hm : top.length + (j + 1) = m) (hf : (f.length : Int) = n) (hl : (l.length : Int) = n) (ef : ∀ y, y ∈ f → y = .non ∨ ∃ i, y = .int i) (el : ∀ y, y ∈ l → y = .non ∨ ∃ i, y = .int i)
    (ht : ∀ x, x ∈ top → ∃ ts, x = .tup ts ∧ (ts.length : Int) = n ∧ ∀ y, y ∈ ts → y = .non ∨ ∃ i, y = .int i) :
    Two n m top.length (d - 1) (top ++ .tup (l.take (d - 1).toNat ++ f.drop (d - 1).toNat) :: List.replicate j (.tup (shutRow n (d - 1)))) (top ++ .tup (l.take d.toNat ++ f.drop d.toNat) :: List.replicate j (.tup (shutRow n (d - 1)))) := by
  have hb : ∀ (x : AV) (k : Nat), top.length < k → k < m → (top ++ x :: List.replicate j (.tup (shutRow n (d - 1))))[k]? = some (.tup (shutRow n (d - 1))) := fun x k h1 h2 => by
    rw [List.getElem?_append_right (by omega)]
    obtain ⟨q, hq⟩ : ∃ q, k - top.length = q + 1 := ⟨k - top.length - 1, by omega⟩
    rw [hq, List.getElem?_cons_succ, List.getElem?_replicate, if_pos (by omega)]
  refine ⟨fun k hk => ?_, fun k h1 h2 => ⟨hb _ k h1 h2, hb _ k h1 h2⟩⟩
  by_cases h1 : k < top.length
  · obtain ⟨ts, e, h2, h3⟩ := ht _ (List.getElem_mem h1)
    have hg : ∀ X : List AV, (top ++ X)[k]? = some (.tup ts) := fun X => by rw [List.getElem?_append_left h1, List.getElem?_eq_getElem h1, e]
    exact ⟨ts, ts, hg _, hg _, h2, h2, h3, h3, fun _ => rfl, fun _ _ _ => rfl⟩
  · by_cases h2 : k = top.length
    · subst h2
      refine ⟨_, _, by simp; rfl, by simp; rfl, by simp; omega, by simp; omega, fun y hy => ?_, fun y hy => ?_, fun h => absurd rfl h, fun _ p hp => ?_⟩
      · rcases List.mem_append.mp hy with h | h
        · exact el y (List.mem_of_mem_take h)
        · exact ef y (List.mem_of_mem_drop h)
      · rcases List.mem_append.mp hy with h | h
        · exact el y (List.mem_of_mem_take h)
        · exact ef y (List.mem_of_mem_drop h)
      · by_cases hp1 : (p : Int) < d - 1
        · rw [List.getElem?_append_left (by simp; omega), List.getElem?_append_left (by simp; omega), List.getElem?_take_of_lt (by omega), List.getElem?_take_of_lt (by omega)]
        · rw [List.getElem?_append_right (by simp; omega), List.getElem?_append_right (by simp; omega), List.getElem?_drop, List.getElem?_drop]
          congr 1
          simp
          omega
    · exact ⟨_, _, hb _ k (by omega) hk, hb _ k (by omega) hk, by simp [shutRow]; omega, by simp [shutRow]; omega, shut_ent, shut_ent, fun _ => rfl, fun h => absurd h h2⟩
end L20

set_option Elab.async false
set_option linter.all false
set_option maxRecDepth 100000
set_option maxHeartbeats 1000000
namespace L20
open PySem PySem.Spec PyProof.Rows L2 Am
noncomputable def b_turn : MS := (mSeq (mPar 3 4 (mCons (mOp oAdd (mC (.int 3)) (mCB m_law_draw (mCons (mVar 1) (mCons (mC (.int 3)) mNil)))) (mCons (mCut (mCB m_law_any (mCons (mVar 1) (mCons (mLst (mCons (mC (.int 1)) (mCons (mC (.int 2)) (mCons (mC (.int 3)) (mCons (mC (.int 4)) (mCons (mC (.int 9)) (mCons (mC (.int 30)) mNil))))))) mNil)))) mNil)))
    (mSeq (mPar 5 6 (mCons (mCB m_law_pattern (mCons (mVar 1) (mCons (mVar 3) (mCons (mVar 4) mNil)))) (mCons (mCB m_law_pattern (mCons (mVar 1) (mCons (mVar 3) (mCons (mVar 4) mNil)))) mNil)))
    (mSeq (mSet 7 (mCB m_law_drawn (mCons (mVar 1) (mCons (mOp oAdd (mVar 3) (mC (.int 1))) (mCons (mVar 4) mNil)))))
    (mSeq (mIf (mB (mOp oEq (mVar 2) (mC (.int 7))))
      (mSet 7 (mOp oAdd (mC (.int 1)) (mCB m_law_draw (mCons (mVar 1) (mCons (mIfE (mB (mOp oGt (mVar 4) (mC (.int 1)))) (mCB oMin (mCons (mC (.int 20)) (mCons (mOp oSub (mOp oPow (mOp oAdd (mVar 3) (mC (.int 1))) (mC (.int 2))) (mC (.int 1))) mNil))) (mVar 3)) mNil)))))
      mPass)
    (mSeq (mSet 8 (mCB m_law_figures (mCons (mOp oAdd (mVar 3) (mC (.int 1))) (mCons (mVar 4) (mCons (mVar 7) mNil)))))
    (mSeq (mSet 9 (mCut (mCB oMax (mCons (mLc (miRange1 (mCons (mVar 4) mNil)) (gNm 10) (mB (mOp oGt (mOp oIx (mVar 8) (mVar 10)) (mC (.int 0)))) (mVar 10) [10]) mNil))))
    (mSeq (mSet 11 (mCB m_mover (mCons (mVar 3) (mCons (mVar 4) (mCons (mVar 7) mNil)))))
    (mSeq (mIf (mB (mOp oNe (mCB oRepr (mCons (mVar 11) mNil)) (mCB oRepr (mCons (mTup (mCons (mVar 9) (mCons (mOp oSub (mOp oIx (mVar 8) (mVar 9)) (mC (.int 1))) mNil))) mNil))))
      (mRet (mC (.bl false)))
      mPass)
    (mSeq (mPar 12 13 (mCons (mCB m_chain_at (mCons (mVar 3) (mCons (mVar 5) (mCons (mVar 6) (mCons (mOp oSub (mVar 7) (mC (.int 1))) mNil))))) (mCons (mCB m_chain_at (mCons (mVar 3) (mCons (mVar 5) (mCons (mVar 6) (mCons (mVar 7) mNil))))) mNil)))
    (mSeq (mFor (miRange1 (mCons (mVar 4) mNil)) (gNm 10)
      (mFor (miRange1 (mCons (mVar 3) mNil)) (gNm 14)
        (mIf (mAnd (mB (mOp oNe (mOp oIx (mOp oIx (mVar 12) (mVar 10)) (mVar 14)) (mOp oIx (mOp oIx (mVar 13) (mVar 10)) (mVar 14)))) (mB (mOp oNe (mTup (mCons (mVar 10) (mCons (mVar 14) mNil))) (mVar 11))))
          (mRet (mC (.bl false)))
          mPass)))
    (mSeq (mFor (miRange2 (mCons (mOp oAdd (mVar 9) (mC (.int 1))) (mCons (mVar 4) mNil))) (gNm 10)
      (mSeq (mSet 15 (mCut (mCB oTuple (mCons (mLc (miRange1 (mCons (mVar 3) mNil)) (gNm 14) mYes (mIfE (mB (mOp oEq (mVar 14) (mOp oIx (mVar 11) (mC (.int 1))))) (mC .non) (mOp oIx (mVar 11) (mC (.int 1)))) [14]) mNil))))
      (mIf (mOr (mB (mOp oNe (mOp oIx (mVar 12) (mVar 10)) (mVar 15))) (mB (mOp oNe (mOp oIx (mVar 13) (mVar 10)) (mVar 15))))
        (mRet (mC (.bl false)))
        mPass)))
    (mIf (mOr (mAnd (mB (mOp oNe (mOp oIx (mOp oIx (mVar 12) (mVar 9)) (mOp oIx (mVar 11) (mC (.int 1)))) (mOp oIx (mOp oIx (mVar 5) (mVar 9)) (mOp oIx (mVar 11) (mC (.int 1)))))) (mB (mOp oEq (mVar 9) (mC (.int 0))))) (mAnd (mB (mOp oNe (mOp oIx (mOp oIx (mVar 13) (mVar 9)) (mOp oIx (mVar 11) (mC (.int 1)))) (mOp oIx (mOp oIx (mVar 6) (mVar 9)) (mOp oIx (mVar 11) (mC (.int 1)))))) (mB (mOp oEq (mVar 9) (mC (.int 0))))))
      (mRet (mC (.bl false)))
      mPass))))))))))))
theorem b_law_eq : b_law = mSeq (mSet 1 (mCB m_law_pot (mCons (mVar 0) mNil))) (mSeq (mFor (miRange1 (mCons (mC (.int 8)) mNil)) (gNm 2) b_turn) (mRet (mC (.bl true)))) := rfl
noncomputable def b_cmp : MS := mIf (mAnd (mB (mOp oNe (mOp oIx (mOp oIx (mVar 12) (mVar 10)) (mVar 14)) (mOp oIx (mOp oIx (mVar 13) (mVar 10)) (mVar 14)))) (mB (mOp oNe (mTup (mCons (mVar 10) (mCons (mVar 14) mNil))) (mVar 11))))
          (mRet (mC (.bl false)))
          mPass
noncomputable def b_beh : MS := mSeq (mSet 15 (mCut (mCB oTuple (mCons (mLc (miRange1 (mCons (mVar 3) mNil)) (gNm 14) mYes (mIfE (mB (mOp oEq (mVar 14) (mOp oIx (mVar 11) (mC (.int 1))))) (mC .non) (mOp oIx (mVar 11) (mC (.int 1)))) [14]) mNil))))
      (mIf (mOr (mB (mOp oNe (mOp oIx (mVar 12) (mVar 10)) (mVar 15))) (mB (mOp oNe (mOp oIx (mVar 13) (mVar 10)) (mVar 15))))
        (mRet (mC (.bl false)))
        mPass)
theorem pair_same {A : Hx} {a b : Int} : oNe (.tup [.int a, .int b]) (.tup [.int a, .int b]) A = .ok (.bl false) A :=
  row_same (ts := [.int a, .int b]) fun y hy => by
    simp only [List.mem_cons, List.not_mem_nil, or_false] at hy
    rcases hy with rfl | rfl
    · exact .inr ⟨a, rfl⟩
    · exact .inr ⟨b, rfl⟩
theorem get_ent {ts : List AV} {n : Int} {p : Nat} (hl : (ts.length : Int) = n) (hp : (p : Int) < n) (he : ∀ y, y ∈ ts → y = .non ∨ ∃ i, y = .int i) : ∃ y, ts[p]? = some y ∧ (y = .non ∨ ∃ i, y = .int i) ∧ atI ts (p : Int) = some y := by
  have h : p < ts.length := by omega
  exact ⟨ts[p], List.getElem?_eq_getElem h, he _ (List.getElem_mem h), atI_natA (List.getElem?_eq_getElem h)⟩
section
variable {A : Hx} {c : AV} {n r w ai : Int} {m k p : Nat} {a : Nat} {one other : List AV} {v2 v5 v6 v7 v8 v9 v14 v15 : Option AV}
theorem cmp_ok (hai : (a : Int) = ai) (h : Two n m a w one other) (hk : k < m) (hp : (p : Int) < n) : b_cmp [some c, some (.loc 2), v2, some (.int n), some (.int r), v5, v6, v7, v8, v9, some (.int (k : Int)), some (.tup [.int ai, .int w]), some (.tup one), some (.tup other), some (.int (p : Int)), v15] A = .nx [some c, some (.loc 2), v2, some (.int n), some (.int r), v5, v6, v7, v8, v9, some (.int (k : Int)), some (.tup [.int ai, .int w]), some (.tup one), some (.tup other), some (.int (p : Int)), v15] A := by
  subst hai
  obtain ⟨t1, t2, g1, g2, l1, l2, e1, e2, hne, heq⟩ := h.at_ k hk
  obtain ⟨y1, y1a, y1b, y1c⟩ := get_ent l1 hp e1
  obtain ⟨y2, y2a, y2b, y2c⟩ := get_ent l2 hp e2
  have i1 : ∀ B, oIx (.tup one) (.int (k : Int)) B = .ok (.tup t1) B := fun B => oIx_tup (atI_natA g1)
  have i2 : ∀ B, oIx (.tup other) (.int (k : Int)) B = .ok (.tup t2) B := fun B => oIx_tup (atI_natA g2)
  have i3 : ∀ B, oIx (.tup t1) (.int (p : Int)) B = .ok y1 B := fun B => oIx_tup y1c
  have i4 : ∀ B, oIx (.tup t2) (.int (p : Int)) B = .ok y2 B := fun B => oIx_tup y2c
  have l2' : (2 : Nat) ≤ sizeLine := by rw [sizeLine_eq]; simp
  unfold b_cmp
  by_cases hc : k = a ∧ (p : Int) = w
  · obtain ⟨rfl, rfl⟩ := hc
    obtain ⟨v, hv⟩ := ent_ne (A := A) y1b y2b
    simp only [mIf_eq, mAnd_eq, mB_eq, mOp_eq, mTup_eq, mCons_eq, mNil_eq, mVar_eq, List.getElem?_cons_zero, List.getElem?_cons_succ, Option.join_some, optR_some, Am.R.bind_ok, i1, i2, i3, i4, hv, isB_bl, List.length_cons, List.length_nil, Nat.zero_add, Nat.reduceAdd, if_pos l2', pair_same]
    cases v <;> rfl
  · have hy : y1 = y2 := by
      have : t1[p]? = t2[p]? := by
        by_cases hka : k = a
        · exact heq hka p fun hpw => hc ⟨hka, hpw⟩
        · rw [hne hka]
      rw [y1a, y2a] at this
      exact Option.some.inj this
    subst hy
    simp only [mIf_eq, mAnd_eq, mB_eq, mOp_eq, mTup_eq, mCons_eq, mNil_eq, mVar_eq, List.getElem?_cons_zero, List.getElem?_cons_succ, Option.join_some, optR_some, Am.R.bind_ok, i1, i2, i3, i4, ent_same y1b, isB_bl, pick_f, Am.R.st_ok, mPass_eq]
theorem beh_ok (hai : (a : Int) = ai) (h : Two n m a w one other) (h1 : a < k) (hk : k < m) (hn : 0 ≤ n) (hn2 : n ≤ 5) : ∃ v15', b_beh [some c, some (.loc 2), v2, some (.int n), some (.int r), v5, v6, v7, v8, v9, some (.int (k : Int)), some (.tup [.int ai, .int w]), some (.tup one), some (.tup other), v14, v15] A = .nx [some c, some (.loc 2), v2, some (.int n), some (.int r), v5, v6, v7, v8, v9, some (.int (k : Int)), some (.tup [.int ai, .int w]), some (.tup one), some (.tup other), v14, v15'] A := by
  refine ⟨some (.tup (shutRow n w)), ?_⟩
  obtain ⟨g1, g2⟩ := h.behind k h1 hk
  have i1 : ∀ B, oIx (.tup one) (.int (k : Int)) B = .ok (.tup (shutRow n w)) B := fun B => oIx_tup (atI_natA g1)
  have i2 : ∀ B, oIx (.tup other) (.int (k : Int)) B = .ok (.tup (shutRow n w)) B := fun B => oIx_tup (atI_natA g2)
  have i3 : ∀ B, oIx (.tup [.int ai, .int w]) (.int 1) B = .ok (.int w) B := fun B => oIx_tup rfl
  unfold b_beh
  have own : mCut (mCB oTuple (mCons (mLc (miRange1 (mCons (mVar 3) mNil)) (gNm 14) mYes (mIfE (mB (mOp oEq (mVar 14) (mOp oIx (mVar 11) (mC (.int 1))))) (mC .non) (mOp oIx (mVar 11) (mC (.int 1)))) [14]) mNil)) [some c, some (.loc 2), v2, some (.int n), some (.int r), v5, v6, v7, v8, v9, some (.int (k : Int)), some (.tup [.int ai, .int w]), some (.tup one), some (.tup other), v14, v15] A = .ok (.tup (shutRow n w)) A := by
    refine tuple_of ?_ shut_bel
    unfold shutRow
    conv => rhs; rw [← filter_yes (rangeA 0 n)]
    refine lc_pure (gd := []) (range1 rfl (by rw [inR_iff]; omega)) (by simp) ?_ (by rw [range_len, sizeLine_eq]; omega)
    intro x hx
    obtain ⟨q, rfl, -, -⟩ := mem_range hx
    refine ⟨[some c, some (.loc 2), v2, some (.int n), some (.int r), v5, v6, v7, v8, v9, some (.int (k : Int)), some (.tup [.int ai, .int w]), some (.tup one), some (.tup other), some (.int q), v15], by simp [wipeE], fun acc => ⟨rfl, fun _ => ?_⟩⟩
    by_cases hq : q = w
    · simp only [mIfE_eq, mB_eq, mOp_eq, mC_eq, mVar_eq, List.getElem?_cons_zero, List.getElem?_cons_succ, Option.join_some, optR_some, Am.R.bind_ok, i3, oEq_int, decide_eq_true hq, isB_bl, pick_t]
      simp [shutF, hq]
    · simp only [mIfE_eq, mB_eq, mOp_eq, mC_eq, mVar_eq, List.getElem?_cons_zero, List.getElem?_cons_succ, Option.join_some, optR_some, Am.R.bind_ok, i3, oEq_int, decide_eq_false hq, isB_bl, pick_f]
      simp [shutF, hq]
  refine Eq.trans (seq_of (e := [some c, some (.loc 2), v2, some (.int n), some (.int r), v5, v6, v7, v8, v9, some (.int (k : Int)), some (.tup [.int ai, .int w]), some (.tup one), some (.tup other), v14, some (.tup (shutRow n w))]) (A1 := A) ?_) ?_
  · rw [mSet_eq, own, Am.R.st_ok]
    rfl
  · simp only [mIf_eq, mOr_eq, mB_eq, mOp_eq, mVar_eq, List.getElem?_cons_zero, List.getElem?_cons_succ, Option.join_some, optR_some, Am.R.bind_ok, i1, i2, row_same shut_ent, isB_bl, pick_f, Am.R.st_ok, mPass_eq]
end
end L20

set_option Elab.async false
set_option linter.all false
set_option maxRecDepth 100000
set_option maxHeartbeats 1000000
namespace L20
open PySem PySem.Spec PyProof.Rows L2 Am
section
variable {s : AO} {ns : List Int} {P : AO} {B : Hx}
theorem ex_seq {Q : Ev → Hx → Prop} {a b : MS} {env e : Ev} {A A1 : Hx} (h : a env A = .nx e A1) (k : ∃ e' A', b e A1 = .nx e' A' ∧ Q e' A') : ∃ e' A', mSeq a b env A = .nx e' A' ∧ Q e' A' := by
  rw [seq_of h]
  exact k
def Left (s : AO) (ns : List Int) (c : AV) (e : Ev) (A : Hx) : Prop := ∃ vs P B, e = some c :: some (.loc 2) :: vs ∧ vs.length = 14 ∧ A = Ht s ns P B ∧ PotO ns P
/-- the greatest place of a figure that isn't 0 -/
theorem max_last {r d : Int} {m j : Nat} {pre : List Int} {k : Nat} {A : Hx} {env : Ev} (hm : (m : Int) = r) (m1 : m ≤ 30) (hl : pre.length + (j + 1) = m) (hpre : ∀ f, f ∈ pre → 0 ≤ f) (hd : 0 < d) (hk : A[k]? = some (.lst ((pre ++ d :: List.replicate j 0).map .int)))
    (h4 : mVar 4 env A = .ok (.int r) A) (he : ∀ q : Int, ∃ e, gNm 10 (.int q) (wipeE env [10]) = some e ∧ ∀ B, mVar 10 e B = .ok (.int q) B ∧ mVar 8 e B = .ok (.loc k) B) :
    mCut (mCB oMax (mCons (mLc (miRange1 (mCons (mVar 4) mNil)) (gNm 10) (mB (mOp oGt (mOp oIx (mVar 8) (mVar 10)) (mC (.int 0)))) (mVar 10) [10]) mNil)) env A = .ok (.int pre.length) A := by
  have hkl := (List.getElem?_eq_some_iff.mp hk).1
  have hF : ∀ q : Int, 0 ≤ q → q < r → ∃ f, (pre ++ d :: List.replicate j 0)[q.toNat]? = some f ∧ atI (pre ++ d :: List.replicate j 0) q = some f := fun q q0 q1 => by
    have hlt : q.toNat < (pre ++ d :: List.replicate j 0).length := by simp; omega
    refine ⟨_, List.getElem?_eq_getElem hlt, ?_⟩
    have e : ((q.toNat : Nat) : Int) = q := by omega
    have := atI_natA (List.getElem?_eq_getElem hlt)
    rwa [e] at this
  have hL := lc_pure (A := A) (env := env) (mi := miRange1 (mCons (mVar 4) mNil)) (g := gNm 10) (mt := mB (mOp oGt (mOp oIx (mVar 8) (mVar 10)) (mC (.int 0)))) (me := mVar 10) (vs := [10]) (gd := []) (xs := rangeA 0 r)
    (c := fun x => match x with | .int q => decide (0 < (pre ++ d :: List.replicate j 0).getD q.toNat 0) | _ => true) (f := id) (range1 h4 (by rw [inR_iff]; omega)) (by simp) (fun x hx => by
      obtain ⟨q, rfl, q0, q1⟩ := mem_range hx
      obtain ⟨e, e1, e2⟩ := he q
      obtain ⟨f, f1, f2⟩ := hF q q0 q1
      refine ⟨e, e1, fun acc => ⟨?_, fun _ => (e2 _).1⟩⟩
      have hix : oIx (.loc k) (.int q) (A ++ [.lst acc]) = .ok (.int f) (A ++ [.lst acc]) := oIx_loc (by rw [List.getElem?_append_left hkl]; exact hk) (atI_map f2)
      simp only [mB_eq, mOp_eq, mC_eq, (e2 _).1, (e2 _).2, Am.R.bind_ok, hix, oGt_int, isB_bl, List.getD_eq_getElem?_getD, f1, Option.getD_some]) (by rw [range_len, sizeLine_eq]; omega)
  obtain ⟨Ls, hLs⟩ : ∃ Ls : List Int, Ls = ((List.range r.toNat).map fun (q : Nat) => (q : Int)).filter fun q => decide (0 < (pre ++ d :: List.replicate j 0).getD q.toNat 0) := ⟨_, rfl⟩
  have hmap : ((rangeA 0 r).filter fun x => match x with | .int q => decide (0 < (pre ++ d :: List.replicate j 0).getD q.toNat 0) | _ => true).map id = Ls.map .int := by
    have e : rangeA 0 r = ((List.range r.toNat).map fun (q : Nat) => (q : Int)).map AV.int := by
      unfold rangeA
      rw [List.map_map]
      simp
    rw [e, List.filter_map, List.map_id, hLs]
    rfl
  rw [hmap] at hL
  have hmem : (pre.length : Int) ∈ Ls := by
    rw [hLs]
    refine List.mem_filter.mpr ⟨List.mem_map.mpr ⟨pre.length, List.mem_range.mpr (by omega), rfl⟩, ?_⟩
    have : (pre ++ d :: List.replicate j 0)[((pre.length : Int)).toNat]? = some d := by
      have e : ((pre.length : Int)).toNat = pre.length := by omega
      rw [e]
      simp
    rw [List.getD_eq_getElem?_getD, this]
    simpa using hd
  have hle : ∀ q, q ∈ Ls → q ≤ pre.length := fun q hq => by
    rw [hLs] at hq
    obtain ⟨h1, h2⟩ := List.mem_filter.mp hq
    obtain ⟨i, -, rfl⟩ := List.mem_map.mp h1
    have e : (((i : Nat) : Int)).toNat = i := by omega
    rw [e, List.getD_eq_getElem?_getD] at h2
    by_cases h : i ≤ pre.length
    · omega
    · rw [List.getElem?_append_right (by omega)] at h2
      obtain ⟨z, hz⟩ : ∃ z, i - pre.length = z + 1 := ⟨i - pre.length - 1, by omega⟩
      rw [hz, List.getElem?_cons_succ, List.getElem?_replicate] at h2
      split at h2 <;> simp at h2
  have hne : Ls ≠ [] := fun h => by
    rw [h] at hmem
    cases hmem
  obtain ⟨x1, x2⟩ := maxI_mem hne
  have hmx : maxI Ls = pre.length := Int.le_antisymm (hle _ x1) (x2 _ hmem)
  rw [mCut_eq, mCB_eq, mCons_eq, hL, Am.R.bind_ok, mNil_eq, Am.R.bind_ok, Am.R.bind_ok]
  have hmo : oMax [.loc A.length] (A ++ [.lst (Ls.map .int)]) = .ok (.int pre.length) (A ++ [.lst (Ls.map .int)]) := by
    unfold oMax
    dsimp only
    rw [snoc_list, Option.bind_some, intsOf_map]
    dsimp only
    rw [if_pos hne, hmx]
  rw [hmo]
  exact cut_junk (by simp)
theorem pow2 {A : Hx} {b : Int} (hb : small b) : oPow (.int b) (.int 2) A = .ok (.int (b ^ 2)) A := if_pos ⟨by decide, by decide, hb⟩
theorem turn_go {c : AV} {t : Int} {v3 v4 v5 v6 v7 v8 v9 v10 v11 v12 v13 v14 v15 : Option AV} (hP : PotO ns P) :
    ∃ e' A', b_turn [some c, some (.loc 2), some (.int t), v3, v4, v5, v6, v7, v8, v9, v10, v11, v12, v13, v14, v15] (Ht s ns P B) = .nx e' A' ∧ Left s ns c e' A' := by
  obtain ⟨i, P1, e1, i0, i1, hP1⟩ := draw_ok s ns P B 3 hP (by omega) (by omega)
  obtain ⟨dd, P2, hdd, e2, hP2⟩ := any_ints (s := s) (B := B) (a := mVar 1) (L := mLst (mCons (mC (.int 1)) (mCons (mC (.int 2)) (mCons (mC (.int 3)) (mCons (mC (.int 4)) (mCons (mC (.int 9)) (mCons (mC (.int 30)) mNil))))))) (env := [some c, some (.loc 2), some (.int t), v3, v4, v5, v6, v7, v8, v9, v10, v11, v12, v13, v14, v15]) (xs := [.int 1, .int 2, .int 3, .int 4, .int 9, .int 30]) hP1 (fun A => rfl) (lst_ints rfl (by simp)) (by simp) (by simp) (by simp)
  have hd' : ∃ k : Int, dd = .int k ∧ 1 ≤ k ∧ k ≤ 30 := by
    simp only [List.mem_cons, List.not_mem_nil, or_false] at hdd
    rcases hdd with rfl | rfl | rfl | rfl | rfl | rfl <;> exact ⟨_, rfl, by decide, by decide⟩
  obtain ⟨r, rfl, r0, r1⟩ := hd'
  obtain ⟨n, hn⟩ : ∃ n, n = 3 + i := ⟨_, rfl⟩
  have z : Sz n r := ⟨by omega, by omega, by omega, r1⟩
  have z1 := z.n1
  have z2 := z.n2
  obtain ⟨m, hm⟩ : ∃ m : Nat, (m : Int) = r := ⟨r.toNat, by omega⟩
  have m0 : 0 < m := by omega
  have m1 : m ≤ 30 := by omega
  obtain ⟨P3, first, e3, hP3, hl1, hr1⟩ := found_ok (s := s) (B := B) hP2 z
  obtain ⟨P4, last, e4, hP4, hl2, hr2⟩ := found_ok (s := s) (B := B) hP3 z
  have pt1 : Pt n m first := ⟨by omega, hr1⟩
  have pt2 : Pt n m last := ⟨by omega, hr2⟩
  obtain ⟨N0, P5, e5, hP5, hN0, hN0'⟩ := law_drawn_ok (s := s) (B := B) (b := n + 1) hP4 (by omega) (by omega) hm m0 m1
  unfold b_turn
  refine ex_seq (e := [some c, some (.loc 2), some (.int t), some (.int n), some (.int r), v5, v6, v7, v8, v9, v10, v11, v12, v13, v14, v15]) (A1 := Ht s ns P2 B) ?_ ?_
  · simp only [mPar_eq, mOp_eq, mC_eq, mCB_eq, mCons_eq, mNil_eq, mVar_eq, List.getElem?_cons_zero, List.getElem?_cons_succ, Option.join_some, optR_some, Am.R.bind_ok, e1, oAdd_int, e2, Am.R.st_ok, parR_eq, ← hn]
    rfl
  refine ex_seq (e := [some c, some (.loc 2), some (.int t), some (.int n), some (.int r), some (.tup first), some (.tup last), v7, v8, v9, v10, v11, v12, v13, v14, v15]) (A1 := Ht s ns P4 B) ?_ ?_
  · simp only [mPar_eq, mCB_eq, mCons_eq, mNil_eq, mVar_eq, List.getElem?_cons_zero, List.getElem?_cons_succ, Option.join_some, optR_some, Am.R.bind_ok, e3, e4, Am.R.st_ok, parR_eq]
    rfl
  refine ex_seq (e := [some c, some (.loc 2), some (.int t), some (.int n), some (.int r), some (.tup first), some (.tup last), some (.int N0), v8, v9, v10, v11, v12, v13, v14, v15]) (A1 := Ht s ns P5 B) ?_ ?_
  · simp only [mSet_eq, mOp_eq, mC_eq, mCB_eq, mCons_eq, mNil_eq, mVar_eq, List.getElem?_cons_zero, List.getElem?_cons_succ, Option.join_some, optR_some, Am.R.bind_ok, oAdd_int, e5, Am.R.st_ok]
    rfl
  -- another number at the last turn
  have h4 : ∃ N P6, mIf (mB (mOp oEq (mVar 2) (mC (.int 7))))
      (mSet 7 (mOp oAdd (mC (.int 1)) (mCB m_law_draw (mCons (mVar 1) (mCons (mIfE (mB (mOp oGt (mVar 4) (mC (.int 1)))) (mCB oMin (mCons (mC (.int 20)) (mCons (mOp oSub (mOp oPow (mOp oAdd (mVar 3) (mC (.int 1))) (mC (.int 2))) (mC (.int 1))) mNil))) (mVar 3)) mNil)))))
      mPass [some c, some (.loc 2), some (.int t), some (.int n), some (.int r), some (.tup first), some (.tup last), some (.int N0), v8, v9, v10, v11, v12, v13, v14, v15] (Ht s ns P5 B) = .nx [some c, some (.loc 2), some (.int t), some (.int n), some (.int r), some (.tup first), some (.tup last), some (.int N), v8, v9, v10, v11, v12, v13, v14, v15] (Ht s ns P6 B) ∧ PotO ns P6 ∧ 1 ≤ N ∧ N < (n + 1) ^ m := by
    by_cases ht : t = 7
    · have hmn : ∃ mn : Int, mIfE (mB (mOp oGt (mVar 4) (mC (.int 1)))) (mCB oMin (mCons (mC (.int 20)) (mCons (mOp oSub (mOp oPow (mOp oAdd (mVar 3) (mC (.int 1))) (mC (.int 2))) (mC (.int 1))) mNil))) (mVar 3) [some c, some (.loc 2), some (.int t), some (.int n), some (.int r), some (.tup first), some (.tup last), some (.int N0), v8, v9, v10, v11, v12, v13, v14, v15] (Ht s ns P5 B) = .ok (.int mn) (Ht s ns P5 B) ∧ 0 < mn ∧ mn ≤ 100 ∧ mn < (n + 1) ^ m := by
        by_cases hr : 1 < r
        · have sn : small (n + 1) := small_iff.mpr (by omega)
          refine ⟨if (n + 1) ^ 2 - 1 < 20 then (n + 1) ^ 2 - 1 else 20, ?_, ?_, ?_, ?_⟩
          · simp only [mIfE_eq, mB_eq, mOp_eq, mC_eq, mCB_eq, mCons_eq, mNil_eq, mVar_eq, List.getElem?_cons_zero, List.getElem?_cons_succ, Option.join_some, optR_some, Am.R.bind_ok, oGt_int, decide_eq_true hr, isB_bl, pick_t, oAdd_int, pow2 sn, oSub_int]
            rfl
          · have h2 : (n + 1) ^ 2 = (n + 1) * (n + 1) := by rw [Int.pow_succ, Int.pow_succ, Int.pow_zero, Int.one_mul]
            have h3 : 4 * 4 ≤ (n + 1) * (n + 1) := Int.mul_le_mul (by omega) (by omega) (by omega) (by omega)
            split <;> omega
          · split <;> omega
          · obtain ⟨q, rfl⟩ : ∃ q, m = 2 + q := ⟨m - 2, by omega⟩
            rw [Int.pow_add]
            have h4 : 0 < (n + 1) ^ q := Int.pow_pos (by omega)
            have h2 : (n + 1) ^ 2 = (n + 1) * (n + 1) := by rw [Int.pow_succ, Int.pow_succ, Int.pow_zero, Int.one_mul]
            have h3 : 4 * 4 ≤ (n + 1) * (n + 1) := Int.mul_le_mul (by omega) (by omega) (by omega) (by omega)
            have h5 : (n + 1) ^ 2 * 1 ≤ (n + 1) ^ 2 * (n + 1) ^ q := Int.mul_le_mul_of_nonneg_left (by omega) (by omega)
            split <;> omega
        · refine ⟨n, ?_, by omega, by omega, ?_⟩
          · simp only [mIfE_eq, mB_eq, mOp_eq, mC_eq, mVar_eq, List.getElem?_cons_zero, List.getElem?_cons_succ, Option.join_some, optR_some, Am.R.bind_ok, oGt_int, decide_eq_false hr, isB_bl, pick_f]
          · have : m = 1 := by omega
            rw [this, Int.pow_succ, Int.pow_zero, Int.one_mul]
            omega
      obtain ⟨mn, em, mn0, mn1, mn2⟩ := hmn
      obtain ⟨q, P6, eq, q0, q1, hP6⟩ := draw_ok s ns P5 B mn hP5 mn0 (by omega)
      refine ⟨1 + q, P6, ?_, hP6, by omega, by omega⟩
      rw [mIf_eq]
      have hc : mB (mOp oEq (mVar 2) (mC (.int 7))) [some c, some (.loc 2), some (.int t), some (.int n), some (.int r), some (.tup first), some (.tup last), some (.int N0), v8, v9, v10, v11, v12, v13, v14, v15] (Ht s ns P5 B) = .ok true (Ht s ns P5 B) := by
        simp only [mB_eq, mOp_eq, mC_eq, mVar_eq, List.getElem?_cons_zero, List.getElem?_cons_succ, Option.join_some, optR_some, Am.R.bind_ok, oEq_int, decide_eq_true ht, isB_bl]
      rw [hc, Am.R.st_ok, pick_t]
      simp only [mSet_eq, mCB_eq, mCons_eq, mNil_eq, mVar_eq, List.getElem?_cons_zero, List.getElem?_cons_succ, Option.join_some, optR_some, Am.R.bind_ok, mC_eq, mOp_eq, em, eq, oAdd_int, Am.R.st_ok]
      rfl
    · refine ⟨N0, P5, ?_, hP5, hN0, hN0'⟩
      simp only [mIf_eq, mB_eq, mOp_eq, mC_eq, mVar_eq, List.getElem?_cons_zero, List.getElem?_cons_succ, Option.join_some, optR_some, Am.R.bind_ok, oEq_int, decide_eq_false ht, isB_bl, Am.R.st_ok, pick_f, mPass_eq]
  obtain ⟨N, P6, e6, hP6, hN1, hN2⟩ := h4
  refine ex_seq e6 ?_
  obtain ⟨pre, d, j, hfig, hfigA, hd0, hdn, hpF, hplen⟩ := figs_two (n := n) (by omega) hN1 hN2
  -- figures
  refine ex_seq (e := [some c, some (.loc 2), some (.int t), some (.int n), some (.int r), some (.tup first), some (.tup last), some (.int N), some (.loc (B.length + 3)), v9, v10, v11, v12, v13, v14, v15]) (A1 := Ht s ns P6 B ++ [.lst ((pre ++ d :: List.replicate j 0).map .int)]) ?_ ?_
  · have hf := law_figures_ok (A := Ht s ns P6 B) (b := n + 1) (x := N) (by omega) (by omega) hm m1
    rw [hfig] at hf
    simp only [mSet_eq, mOp_eq, mC_eq, mCB_eq, mCons_eq, mNil_eq, mVar_eq, List.getElem?_cons_zero, List.getElem?_cons_succ, Option.join_some, optR_some, Am.R.bind_ok, oAdd_int, hf, Am.R.st_ok]
    rfl
  have hH : Ht s ns P6 B ++ [.lst ((pre ++ d :: List.replicate j 0).map .int)] = Ht s ns P6 (B ++ [.lst ((pre ++ d :: List.replicate j 0).map .int)]) := rfl
  have hk : (Ht s ns P6 B ++ [AO.lst ((pre ++ d :: List.replicate j 0).map .int)])[B.length + 3]? = some (.lst ((pre ++ d :: List.replicate j 0).map .int)) := by
    show (B ++ [AO.lst ((pre ++ d :: List.replicate j 0).map .int)])[B.length]? = _
    simp
  generalize hA : Ht s ns P6 B ++ [AO.lst ((pre ++ d :: List.replicate j 0).map .int)] = A at hk hH
  obtain ⟨ai, hai⟩ : ∃ ai : Int, ((pre.length : Nat) : Int) = ai := ⟨_, rfl⟩
  refine ex_seq (e := [some c, some (.loc 2), some (.int t), some (.int n), some (.int r), some (.tup first), some (.tup last), some (.int N), some (.loc (B.length + 3)), some (.int ai), v10, v11, v12, v13, v14, v15]) (A1 := A) ?_ ?_
  · have hmx := max_last (A := A) (env := [some c, some (.loc 2), some (.int t), some (.int n), some (.int r), some (.tup first), some (.tup last), some (.int N), some (.loc (B.length + 3)), v9, v10, v11, v12, v13, v14, v15]) (k := B.length + 3) hm m1 hplen (fun f hf => (hpF f hf).1) hd0 hk rfl (fun q => ⟨[some c, some (.loc 2), some (.int t), some (.int n), some (.int r), some (.tup first), some (.tup last), some (.int N), some (.loc (B.length + 3)), v9, some (.int q), v11, v12, v13, v14, v15], by simp [wipeE], fun B' => ⟨rfl, rfl⟩⟩)
    rw [hai] at hmx
    rw [mSet_eq, hmx, Am.R.st_ok]
    rfl
  refine ex_seq (e := [some c, some (.loc 2), some (.int t), some (.int n), some (.int r), some (.tup first), some (.tup last), some (.int N), some (.loc (B.length + 3)), some (.int ai), v10, some (.tup [.int ai, .int (d - 1)]), v12, v13, v14, v15]) (A1 := A) ?_ ?_
  · have hmv := mover_ok (A := A) z hm hN1 hN2 hfig (by omega)
    rw [hai] at hmv
    simp only [mSet_eq, mCB_eq, mCons_eq, mNil_eq, mVar_eq, List.getElem?_cons_zero, List.getElem?_cons_succ, Option.join_some, optR_some, Am.R.bind_ok, hmv, Am.R.st_ok]
    rfl
  have l2 : (2 : Nat) ≤ sizeLine := by rw [sizeLine_eq]; simp
  have hatd : atI ((pre ++ d :: List.replicate j 0).map AV.int) ai = some (.int d) := by
    rw [← hai]
    exact atI_map at_mid
  refine ex_seq (e := [some c, some (.loc 2), some (.int t), some (.int n), some (.int r), some (.tup first), some (.tup last), some (.int N), some (.loc (B.length + 3)), some (.int ai), v10, some (.tup [.int ai, .int (d - 1)]), v12, v13, v14, v15]) (A1 := A) ?_ ?_
  · obtain ⟨tx, htx, er⟩ := repr_pair (a := ai) (b := d - 1) (by omega) (by omega) (by omega) (by omega)
    have hix := oIx_loc hk hatd
    simp only [mIf_eq, mB_eq, mOp_eq, mC_eq, mCB_eq, mTup_eq, mCons_eq, mNil_eq, mVar_eq, List.getElem?_cons_zero, List.getElem?_cons_succ, Option.join_some, optR_some, Am.R.bind_ok, hix, oSub_int, List.length_cons, List.length_nil, Nat.zero_add, Nat.reduceAdd, if_pos l2, er, str_same htx, isB_bl, Am.R.st_ok, pick_f, mPass_eq]
  -- the two patterns
  obtain ⟨top, f, l, htl, hfl, hll, hfe, hle, hpz, htop, hc2, hc1⟩ := chain_two (n := n) (d := d) (m := m) (j := j) (pre := pre) (fst := first) (lst := last) (by omega) hd0 hdn pt1 pt2 hpF hplen
  have hN1' : 0 ≤ N - 1 := by omega
  have ec1 := chain_at_ok (A := A) (x := N - 1) z hm pt1 pt2 hN1' (by omega)
  have ec2 := chain_at_ok (A := A) (x := N) z hm pt1 pt2 (by omega) hN2
  rw [hfigA, hc1] at ec1
  rw [hfig, hc2] at ec2
  have htw := two_of (n := n) (d := d) (m := m) (j := j) (top := top) (f := f) (l := l) (by omega) hd0 hdn (by omega) hfl hll hfe hle (by
    rw [htop]
    exact chain_shape pt1 pt2 hpF (by omega))
  rw [htl] at htw
  have hg1 : (top ++ .tup (l.take (d - 1).toNat ++ f.drop (d - 1).toNat) :: List.replicate j (.tup (shutRow n (d - 1))))[pre.length]? = some (.tup (l.take (d - 1).toNat ++ f.drop (d - 1).toNat)) := by
    rw [← htl]
    simp
  have hg2 : (top ++ .tup (l.take d.toNat ++ f.drop d.toNat) :: List.replicate j (.tup (shutRow n (d - 1))))[pre.length]? = some (.tup (l.take d.toNat ++ f.drop d.toNat)) := by
    rw [← htl]
    simp
  generalize top ++ .tup (l.take (d - 1).toNat ++ f.drop (d - 1).toNat) :: List.replicate j (.tup (shutRow n (d - 1))) = one at ec1 htw hg1
  generalize top ++ .tup (l.take d.toNat ++ f.drop d.toNat) :: List.replicate j (.tup (shutRow n (d - 1))) = other at ec2 htw hg2
  refine ex_seq (e := [some c, some (.loc 2), some (.int t), some (.int n), some (.int r), some (.tup first), some (.tup last), some (.int N), some (.loc (B.length + 3)), some (.int ai), v10, some (.tup [.int ai, .int (d - 1)]), some (.tup one), some (.tup other), v14, v15]) (A1 := A) ?_ ?_
  · simp only [mPar_eq, mOp_eq, mC_eq, mCB_eq, mCons_eq, mNil_eq, mVar_eq, List.getElem?_cons_zero, List.getElem?_cons_succ, Option.join_some, optR_some, Am.R.bind_ok, oSub_int, ec1, ec2, Am.R.st_ok, parR_eq]
    rfl
  -- entry by entry
  obtain ⟨env10, A10, e10, w10, w14, rfl, rfl⟩ := for_inv (gd := []) (g := gNm 10) (b := mFor (miRange1 (mCons (mVar 3) mNil)) (gNm 14) b_cmp) (I := fun env A' => ∃ w10 w14, env = [some c, some (.loc 2), some (.int t), some (.int n), some (.int r), some (.tup first), some (.tup last), some (.int N), some (.loc (B.length + 3)), some (.int ai), w10, some (.tup [.int ai, .int (d - 1)]), some (.tup one), some (.tup other), w14, v15] ∧ A' = A) (by simp) (rangeA 0 r) _ _ (by
      rintro x hx env A' ⟨w10, w14, rfl, rfl⟩
      obtain ⟨q, rfl, q0, q1⟩ := mem_range hx
      obtain ⟨k, rfl⟩ : ∃ k : Nat, q = (k : Int) := ⟨q.toNat, by omega⟩
      refine ⟨_, rfl, ?_⟩
      obtain ⟨envi, Ai, ei, wi, rfl, rfl⟩ := for_inv (gd := []) (g := gNm 14) (b := b_cmp) (I := fun env A'' => ∃ wi, env = [some c, some (.loc 2), some (.int t), some (.int n), some (.int r), some (.tup first), some (.tup last), some (.int N), some (.loc (B.length + 3)), some (.int ai), some (.int (k : Int)), some (.tup [.int ai, .int (d - 1)]), some (.tup one), some (.tup other), wi, v15] ∧ A'' = A') (by simp) (rangeA 0 n) _ _ (by
        rintro x hx env A'' ⟨wi, rfl, rfl⟩
        obtain ⟨q, rfl, q0, q1'⟩ := mem_range hx
        obtain ⟨p, rfl⟩ : ∃ p : Nat, q = (p : Int) := ⟨q.toNat, by omega⟩
        exact ⟨_, rfl, _, _, cmp_ok hai htw (by omega) q1', some (.int (p : Int)), rfl, rfl⟩) ⟨w14, rfl, rfl⟩
      refine ⟨_, _, ?_, some (.int (k : Int)), wi, rfl, rfl⟩
      unfold mFor
      rw [range1 (j := n) rfl (by rw [inR_iff]; omega)]
      exact ei) ⟨v10, v14, rfl, rfl⟩
  refine ex_seq (e := [some c, some (.loc 2), some (.int t), some (.int n), some (.int r), some (.tup first), some (.tup last), some (.int N), some (.loc (B.length + 3)), some (.int ai), w10, some (.tup [.int ai, .int (d - 1)]), some (.tup one), some (.tup other), w14, v15]) (A1 := A10) ?_ ?_
  · unfold mFor
    rw [range1 (j := r) rfl (by rw [inR_iff]; omega)]
    exact e10
  -- all later rounds
  obtain ⟨env11, A11, e11, x10, x15, rfl, rfl⟩ := for_inv (gd := []) (g := gNm 10) (b := b_beh) (I := fun env A' => ∃ x10 x15, env = [some c, some (.loc 2), some (.int t), some (.int n), some (.int r), some (.tup first), some (.tup last), some (.int N), some (.loc (B.length + 3)), some (.int ai), x10, some (.tup [.int ai, .int (d - 1)]), some (.tup one), some (.tup other), w14, x15] ∧ A' = A10) (by simp) (rangeA (ai + 1) r) _ _ (by
      rintro x hx env A' ⟨x10, x15, rfl, rfl⟩
      obtain ⟨q, rfl, q0, q1⟩ := mem_range hx
      obtain ⟨k, rfl⟩ : ∃ k : Nat, q = (k : Int) := ⟨q.toNat, by omega⟩
      obtain ⟨v15', e⟩ := beh_ok (A := A') (c := c) (n := n) (r := r) (v2 := some (.int t)) (v5 := some (.tup first)) (v6 := some (.tup last)) (v7 := some (.int N)) (v8 := some (.loc (B.length + 3))) (v9 := some (.int ai)) (v14 := w14) (v15 := x15) (k := k) hai htw (by omega) (by omega) (by omega) z2
      exact ⟨_, rfl, _, _, e, some (.int (k : Int)), v15', rfl, rfl⟩) ⟨w10, v15, rfl, rfl⟩
  refine ex_seq (e := [some c, some (.loc 2), some (.int t), some (.int n), some (.int r), some (.tup first), some (.tup last), some (.int N), some (.loc (B.length + 3)), some (.int ai), x10, some (.tup [.int ai, .int (d - 1)]), some (.tup one), some (.tup other), w14, x15]) (A1 := A11) ?_ ?_
  · unfold mFor
    rw [range2 (i := ai + 1) (j := r) (by simp only [mOp_eq, mC_eq, mVar_eq, List.getElem?_cons_zero, List.getElem?_cons_succ, Option.join_some, optR_some, Am.R.bind_ok, oAdd_int]) rfl (by rw [inR_iff]; omega) (by rw [inR_iff]; omega)]
    exact e11
  -- at the begin
  refine ⟨[some c, some (.loc 2), some (.int t), some (.int n), some (.int r), some (.tup first), some (.tup last), some (.int N), some (.loc (B.length + 3)), some (.int ai), x10, some (.tup [.int ai, .int (d - 1)]), some (.tup one), some (.tup other), w14, x15], A11, ?_, ⟨_, P6, B ++ [.lst ((pre ++ d :: List.replicate j 0).map .int)], rfl, rfl, hH, hP6⟩⟩
  obtain ⟨f0, -, g3, f0l, f0e⟩ := pt_get pt1 (show pre.length < m by omega)
  obtain ⟨l0, -, g4, l0l, l0e⟩ := pt_get pt2 (show pre.length < m by omega)
  obtain ⟨dn, hdn'⟩ : ∃ dn : Nat, (dn : Int) = d - 1 := ⟨(d - 1).toNat, by omega⟩
  have t1e : ∀ y, y ∈ l.take (d - 1).toNat ++ f.drop (d - 1).toNat → y = .non ∨ ∃ i, y = .int i := fun y hy => by
    rcases List.mem_append.mp hy with h | h
    · exact hle y (List.mem_of_mem_take h)
    · exact hfe y (List.mem_of_mem_drop h)
  have t2e : ∀ y, y ∈ l.take d.toNat ++ f.drop d.toNat → y = .non ∨ ∃ i, y = .int i := fun y hy => by
    rcases List.mem_append.mp hy with h | h
    · exact hle y (List.mem_of_mem_take h)
    · exact hfe y (List.mem_of_mem_drop h)
  obtain ⟨y1, y1a, y1b, y1c⟩ := get_ent (p := dn) (n := n) (show ((l.take (d - 1).toNat ++ f.drop (d - 1).toNat).length : Int) = n by simp; omega) (by omega) t1e
  obtain ⟨y2, y2a, y2b, y2c⟩ := get_ent (p := dn) (n := n) (show ((l.take d.toNat ++ f.drop d.toNat).length : Int) = n by simp; omega) (by omega) t2e
  obtain ⟨y3, y3a, y3b, y3c⟩ := get_ent (p := dn) f0l (by omega) f0e
  obtain ⟨y4, y4a, y4b, y4c⟩ := get_ent (p := dn) l0l (by omega) l0e
  rw [hdn'] at y1c y2c y3c y4c
  have at1 : atI one ai = some (.tup (l.take (d - 1).toNat ++ f.drop (d - 1).toNat)) := by
    rw [← hai]
    exact atI_natA hg1
  have at2 : atI other ai = some (.tup (l.take d.toNat ++ f.drop d.toNat)) := by
    rw [← hai]
    exact atI_natA hg2
  have at3 : atI first ai = some (.tup f0) := by
    rw [← hai]
    exact atI_natA g3
  have at4 : atI last ai = some (.tup l0) := by
    rw [← hai]
    exact atI_natA g4
  have i0' : ∀ B', oIx (.tup [.int ai, .int (d - 1)]) (.int 1) B' = .ok (.int (d - 1)) B' := fun B' => oIx_tup rfl
  have i1' : ∀ B', oIx (.tup one) (.int ai) B' = .ok (.tup (l.take (d - 1).toNat ++ f.drop (d - 1).toNat)) B' := fun B' => oIx_tup at1
  have i2' : ∀ B', oIx (.tup other) (.int ai) B' = .ok (.tup (l.take d.toNat ++ f.drop d.toNat)) B' := fun B' => oIx_tup at2
  have i3' : ∀ B', oIx (.tup first) (.int ai) B' = .ok (.tup f0) B' := fun B' => oIx_tup at3
  have i4' : ∀ B', oIx (.tup last) (.int ai) B' = .ok (.tup l0) B' := fun B' => oIx_tup at4
  have j1 : ∀ B', oIx (.tup (l.take (d - 1).toNat ++ f.drop (d - 1).toNat)) (.int (d - 1)) B' = .ok y1 B' := fun B' => oIx_tup y1c
  have j2 : ∀ B', oIx (.tup (l.take d.toNat ++ f.drop d.toNat)) (.int (d - 1)) B' = .ok y2 B' := fun B' => oIx_tup y2c
  have j3 : ∀ B', oIx (.tup f0) (.int (d - 1)) B' = .ok y3 B' := fun B' => oIx_tup y3c
  have j4 : ∀ B', oIx (.tup l0) (.int (d - 1)) B' = .ok y4 B' := fun B' => oIx_tup y4c
  by_cases ha0 : ai = 0
  · have hpre : pre = [] := List.eq_nil_of_length_eq_zero (by omega)
    obtain ⟨q1, q2⟩ := hpz hpre
    rw [hpre] at g3 g4
    have ef0 : f0 = f := by
      have := g3.symm.trans q1
      simpa using this
    have el0 : l0 = l := by
      have := g4.symm.trans q2
      simpa using this
    subst ef0 el0
    have h13 : y1 = y3 := by
      rw [List.getElem?_append_right (by simp; omega), List.getElem?_drop] at y1a
      have e : (d - 1).toNat + (dn - (l0.take (d - 1).toNat).length) = dn := by simp; omega
      rw [e, y3a] at y1a
      exact (Option.some.inj y1a).symm
    have h24 : y2 = y4 := by
      rw [List.getElem?_append_left (by simp; omega), List.getElem?_take_of_lt (by omega), y4a] at y2a
      exact (Option.some.inj y2a).symm
    subst h13 h24
    simp only [mIf_eq, mOr_eq, mAnd_eq, mB_eq, mOp_eq, mC_eq, mVar_eq, List.getElem?_cons_zero, List.getElem?_cons_succ, Option.join_some, optR_some, Am.R.bind_ok, i0', i1', i2', i3', i4', j1, j2, j3, j4, ent_same y1b, ent_same y2b, isB_bl, pick_f, Am.R.st_ok, mPass_eq]
  · obtain ⟨u, hu⟩ := ent_ne (A := A11) y1b y3b
    obtain ⟨u', hu'⟩ := ent_ne (A := A11) y2b y4b
    have h0 : decide (ai = 0) = false := decide_eq_false ha0
    simp only [mIf_eq, mOr_eq, mAnd_eq, mB_eq, mOp_eq, mC_eq, mVar_eq, List.getElem?_cons_zero, List.getElem?_cons_succ, Option.join_some, optR_some, Am.R.bind_ok, i0', i1', i2', i3', i4', j1, j2, j3, j4, hu, hu', isB_bl, oEq_int, h0]
    cases u <;> simp only [pick_t, pick_f, Am.R.bind_ok, hu', isB_bl] <;> cases u' <;> rfl
theorem law_true (ns : List Int) (hn : ns.length ≤ 63) : ∃ A, m_law [.cst (ns.map .int)] [] = .ok (.bl true) A := by
  obtain ⟨s, P, e0, hP⟩ := pot_ok ns
  obtain ⟨env', A', e1, vs, P', B', rfl, -, rfl, -⟩ := for_inv (gd := []) (g := gNm 2) (b := b_turn) (I := Left s (cellsOf ns) (.cst (ns.map .int))) (by simp) (rangeA 0 8) [some (.cst (ns.map .int)), some (.loc 2), none, none, none, none, none, none, none, none, none, none, none, none, none, none] (Ht s (cellsOf ns) P []) (by
    rintro x hx env A ⟨vs, P', B', rfl, hv, rfl, hP'⟩
    obtain ⟨q, rfl, -, -⟩ := mem_range hx
    match vs, hv with
    | [u2, u3, u4, u5, u6, u7, u8, u9, u10, u11, u12, u13, u14, u15], _ =>
      exact ⟨_, rfl, turn_go hP'⟩) ⟨_, P, [], rfl, rfl, rfl, hP⟩
  have e2 : mFor (miRange1 (mCons (mC (.int 8)) mNil)) (gNm 2) b_turn [some (.cst (ns.map .int)), some (.loc 2), none, none, none, none, none, none, none, none, none, none, none, none, none, none] (Ht s (cellsOf ns) P []) = .nx (some (.cst (ns.map .int)) :: some (.loc 2) :: vs) (Ht s (cellsOf ns) P' B') := by
    unfold mFor
    rw [range1 (j := 8) rfl (by decide)]
    exact e1
  unfold m_law
  refine ⟨_, fdef_ret rfl (v := .bl true) (A' := Ht s (cellsOf ns) P' B') (B := []) ?_ ?_⟩
  · show b_law [some (.cst (ns.map .int)), none, none, none, none, none, none, none, none, none, none, none, none, none, none, none] [] = _
    rw [b_law_eq]
    refine Eq.trans (seq_of (e := [some (.cst (ns.map .int)), some (.loc 2), none, none, none, none, none, none, none, none, none, none, none, none, none, none]) (A1 := Ht s (cellsOf ns) P []) ?_) ?_
    · simp only [mSet_eq, mCB_eq, mCons_eq, mNil_eq, mVar_eq, List.getElem?_cons_zero, List.getElem?_cons_succ, Option.join_some, optR_some, Am.R.bind_ok, e0, Am.R.st_ok]
      rfl
    · rw [seq_of e2]
      rfl
  · exact cut_at (by simp) (by simp) (by simp) fun i o hi => by simp at hi
end
end L20

set_option Elab.async false
set_option linter.all false
set_option maxRecDepth 100000
set_option maxHeartbeats 4000000
namespace L20
open PySem PySem.Spec PyProof.Rows L2 Am
theorem lawAt {l : PySem.W.OpenLaw} {w : World} {h : Heap} {K : PySem.W.Frag} {mg : Str → Option Value} {fa : Addr} (X : K.In h) (G : h.Ns mainGlobals mg) (hfa : mg "law" = some (.ref fa))
    {f_is_integer f_is_number f_is_turn f_is_other f_power f_figures_of f_check_number f_check_machine f_is_pattern_of f_check_pattern f_shut_out f_check_size f_chain_at f_mover f_law_pot f_law_draw f_law_any f_law_entry f_law_pattern f_law_figures f_law_drawn f_law C_SilentError C_NoMachine C_NoNumber C_NoPattern : Addr}
    {od_is_integer an_is_integer : Option Addr} {sl_is_integer : Array (Option Value)} {oc_is_integer kV_is_integer dc_is_integer pm_is_integer cd_is_integer ct_is_integer : Value}
    {od_is_number an_is_number : Option Addr} {sl_is_number : Array (Option Value)} {oc_is_number kV_is_number dc_is_number pm_is_number cd_is_number ct_is_number : Value}
    {od_is_turn an_is_turn : Option Addr} {sl_is_turn : Array (Option Value)} {oc_is_turn kV_is_turn dc_is_turn pm_is_turn cd_is_turn ct_is_turn : Value}
    {od_is_other an_is_other : Option Addr} {sl_is_other : Array (Option Value)} {oc_is_other kV_is_other dc_is_other pm_is_other cd_is_other ct_is_other : Value}
    {od_power an_power : Option Addr} {sl_power : Array (Option Value)} {oc_power kV_power dc_power pm_power cd_power ct_power : Value}
    {od_figures_of an_figures_of : Option Addr} {sl_figures_of : Array (Option Value)} {oc_figures_of kV_figures_of dc_figures_of pm_figures_of cd_figures_of ct_figures_of : Value}
    {od_check_number an_check_number : Option Addr} {sl_check_number : Array (Option Value)} {oc_check_number kV_check_number dc_check_number pm_check_number cd_check_number ct_check_number : Value}
    {od_check_machine an_check_machine : Option Addr} {sl_check_machine : Array (Option Value)} {oc_check_machine kV_check_machine dc_check_machine pm_check_machine cd_check_machine ct_check_machine : Value}
    {od_is_pattern_of an_is_pattern_of : Option Addr} {sl_is_pattern_of : Array (Option Value)} {oc_is_pattern_of kV_is_pattern_of dc_is_pattern_of pm_is_pattern_of cd_is_pattern_of ct_is_pattern_of : Value}
    {od_check_pattern an_check_pattern : Option Addr} {sl_check_pattern : Array (Option Value)} {oc_check_pattern kV_check_pattern dc_check_pattern pm_check_pattern cd_check_pattern ct_check_pattern : Value}
    {od_shut_out an_shut_out : Option Addr} {sl_shut_out : Array (Option Value)} {oc_shut_out kV_shut_out dc_shut_out pm_shut_out cd_shut_out ct_shut_out : Value}
    {od_check_size an_check_size : Option Addr} {sl_check_size : Array (Option Value)} {oc_check_size kV_check_size dc_check_size pm_check_size cd_check_size ct_check_size : Value}
    {od_chain_at an_chain_at : Option Addr} {sl_chain_at : Array (Option Value)} {oc_chain_at kV_chain_at dc_chain_at pm_chain_at cd_chain_at ct_chain_at : Value}
    {od_mover an_mover : Option Addr} {sl_mover : Array (Option Value)} {oc_mover kV_mover dc_mover pm_mover cd_mover ct_mover : Value}
    {od_law_pot an_law_pot : Option Addr} {sl_law_pot : Array (Option Value)} {oc_law_pot kV_law_pot dc_law_pot pm_law_pot cd_law_pot ct_law_pot : Value}
    {od_law_draw an_law_draw : Option Addr} {sl_law_draw : Array (Option Value)} {oc_law_draw kV_law_draw dc_law_draw pm_law_draw cd_law_draw ct_law_draw : Value}
    {od_law_any an_law_any : Option Addr} {sl_law_any : Array (Option Value)} {oc_law_any kV_law_any dc_law_any pm_law_any cd_law_any ct_law_any : Value}
    {od_law_entry an_law_entry : Option Addr} {sl_law_entry : Array (Option Value)} {oc_law_entry kV_law_entry dc_law_entry pm_law_entry cd_law_entry ct_law_entry : Value}
    {od_law_pattern an_law_pattern : Option Addr} {sl_law_pattern : Array (Option Value)} {oc_law_pattern kV_law_pattern dc_law_pattern pm_law_pattern cd_law_pattern ct_law_pattern : Value}
    {od_law_figures an_law_figures : Option Addr} {sl_law_figures : Array (Option Value)} {oc_law_figures kV_law_figures dc_law_figures pm_law_figures cd_law_figures ct_law_figures : Value}
    {od_law_drawn an_law_drawn : Option Addr} {sl_law_drawn : Array (Option Value)} {oc_law_drawn kV_law_drawn dc_law_drawn pm_law_drawn cd_law_drawn ct_law_drawn : Value}
    {od_law an_law : Option Addr} {sl_law : Array (Option Value)} {oc_law kV_law dc_law pm_law cd_law ct_law : Value}
    {t_MOST_ROUNDS : Tok}
    (a_is_integer : PySem.W.nsIn K mainGlobals "is_integer" = some (some (.ref f_is_integer)))
    (l_is_integer : K.lookup f_is_integer = some ⟨oc_is_integer, od_is_integer, .func (PySem.W.fnOf "is_integer" "is_integer" (defArgs s_is_integer) (defBody s_is_integer) (defScope s_is_integer) .none kV_is_integer dc_is_integer pm_is_integer an_is_integer cd_is_integer ct_is_integer), sl_is_integer⟩)
    (c_is_integer : PySem.W.codeIn K cd_is_integer "is_integer" = true)
    (k_is_integer : PySem.W.keepIn K (.ref f_is_integer) = true)
    (a_is_number : PySem.W.nsIn K mainGlobals "is_number" = some (some (.ref f_is_number)))
    (l_is_number : K.lookup f_is_number = some ⟨oc_is_number, od_is_number, .func (PySem.W.fnOf "is_number" "is_number" (defArgs s_is_number) (defBody s_is_number) (defScope s_is_number) .none kV_is_number dc_is_number pm_is_number an_is_number cd_is_number ct_is_number), sl_is_number⟩)
    (c_is_number : PySem.W.codeIn K cd_is_number "is_number" = true)
    (k_is_number : PySem.W.keepIn K (.ref f_is_number) = true)
    (a_is_turn : PySem.W.nsIn K mainGlobals "is_turn" = some (some (.ref f_is_turn)))
    (l_is_turn : K.lookup f_is_turn = some ⟨oc_is_turn, od_is_turn, .func (PySem.W.fnOf "is_turn" "is_turn" (defArgs s_is_turn) (defBody s_is_turn) (defScope s_is_turn) .none kV_is_turn dc_is_turn pm_is_turn an_is_turn cd_is_turn ct_is_turn), sl_is_turn⟩)
    (c_is_turn : PySem.W.codeIn K cd_is_turn "is_turn" = true)
    (k_is_turn : PySem.W.keepIn K (.ref f_is_turn) = true)
    (a_is_other : PySem.W.nsIn K mainGlobals "_is_other" = some (some (.ref f_is_other)))
    (l_is_other : K.lookup f_is_other = some ⟨oc_is_other, od_is_other, .func (PySem.W.fnOf "_is_other" "_is_other" (defArgs s_is_other) (defBody s_is_other) (defScope s_is_other) .none kV_is_other dc_is_other pm_is_other an_is_other cd_is_other ct_is_other), sl_is_other⟩)
    (c_is_other : PySem.W.codeIn K cd_is_other "_is_other" = true)
    (k_is_other : PySem.W.keepIn K (.ref f_is_other) = true)
    (a_power : PySem.W.nsIn K mainGlobals "power" = some (some (.ref f_power)))
    (l_power : K.lookup f_power = some ⟨oc_power, od_power, .func (PySem.W.fnOf "power" "power" (defArgs s_power) (defBody s_power) (defScope s_power) .none kV_power dc_power pm_power an_power cd_power ct_power), sl_power⟩)
    (c_power : PySem.W.codeIn K cd_power "power" = true)
    (k_power : PySem.W.keepIn K (.ref f_power) = true)
    (a_figures_of : PySem.W.nsIn K mainGlobals "figures_of" = some (some (.ref f_figures_of)))
    (l_figures_of : K.lookup f_figures_of = some ⟨oc_figures_of, od_figures_of, .func (PySem.W.fnOf "figures_of" "figures_of" (defArgs s_figures_of) (defBody s_figures_of) (defScope s_figures_of) .none kV_figures_of dc_figures_of pm_figures_of an_figures_of cd_figures_of ct_figures_of), sl_figures_of⟩)
    (c_figures_of : PySem.W.codeIn K cd_figures_of "figures_of" = true)
    (k_figures_of : PySem.W.keepIn K (.ref f_figures_of) = true)
    (a_check_number : PySem.W.nsIn K mainGlobals "check_number" = some (some (.ref f_check_number)))
    (l_check_number : K.lookup f_check_number = some ⟨oc_check_number, od_check_number, .func (PySem.W.fnOf "check_number" "check_number" (defArgs s_check_number) (defBody s_check_number) (defScope s_check_number) .none kV_check_number dc_check_number pm_check_number an_check_number cd_check_number ct_check_number), sl_check_number⟩)
    (c_check_number : PySem.W.codeIn K cd_check_number "check_number" = true)
    (k_check_number : PySem.W.keepIn K (.ref f_check_number) = true)
    (a_check_machine : PySem.W.nsIn K mainGlobals "check_machine" = some (some (.ref f_check_machine)))
    (l_check_machine : K.lookup f_check_machine = some ⟨oc_check_machine, od_check_machine, .func (PySem.W.fnOf "check_machine" "check_machine" (defArgs s_check_machine) (defBody s_check_machine) (defScope s_check_machine) .none kV_check_machine dc_check_machine pm_check_machine an_check_machine cd_check_machine ct_check_machine), sl_check_machine⟩)
    (c_check_machine : PySem.W.codeIn K cd_check_machine "check_machine" = true)
    (k_check_machine : PySem.W.keepIn K (.ref f_check_machine) = true)
    (a_is_pattern_of : PySem.W.nsIn K mainGlobals "is_pattern_of" = some (some (.ref f_is_pattern_of)))
    (l_is_pattern_of : K.lookup f_is_pattern_of = some ⟨oc_is_pattern_of, od_is_pattern_of, .func (PySem.W.fnOf "is_pattern_of" "is_pattern_of" (defArgs s_is_pattern_of) (defBody s_is_pattern_of) (defScope s_is_pattern_of) .none kV_is_pattern_of dc_is_pattern_of pm_is_pattern_of an_is_pattern_of cd_is_pattern_of ct_is_pattern_of), sl_is_pattern_of⟩)
    (c_is_pattern_of : PySem.W.codeIn K cd_is_pattern_of "is_pattern_of" = true)
    (k_is_pattern_of : PySem.W.keepIn K (.ref f_is_pattern_of) = true)
    (a_check_pattern : PySem.W.nsIn K mainGlobals "check_pattern" = some (some (.ref f_check_pattern)))
    (l_check_pattern : K.lookup f_check_pattern = some ⟨oc_check_pattern, od_check_pattern, .func (PySem.W.fnOf "check_pattern" "check_pattern" (defArgs s_check_pattern) (defBody s_check_pattern) (defScope s_check_pattern) .none kV_check_pattern dc_check_pattern pm_check_pattern an_check_pattern cd_check_pattern ct_check_pattern), sl_check_pattern⟩)
    (c_check_pattern : PySem.W.codeIn K cd_check_pattern "check_pattern" = true)
    (k_check_pattern : PySem.W.keepIn K (.ref f_check_pattern) = true)
    (a_shut_out : PySem.W.nsIn K mainGlobals "shut_out" = some (some (.ref f_shut_out)))
    (l_shut_out : K.lookup f_shut_out = some ⟨oc_shut_out, od_shut_out, .func (PySem.W.fnOf "shut_out" "shut_out" (defArgs s_shut_out) (defBody s_shut_out) (defScope s_shut_out) .none kV_shut_out dc_shut_out pm_shut_out an_shut_out cd_shut_out ct_shut_out), sl_shut_out⟩)
    (c_shut_out : PySem.W.codeIn K cd_shut_out "shut_out" = true)
    (k_shut_out : PySem.W.keepIn K (.ref f_shut_out) = true)
    (a_check_size : PySem.W.nsIn K mainGlobals "_check_size" = some (some (.ref f_check_size)))
    (l_check_size : K.lookup f_check_size = some ⟨oc_check_size, od_check_size, .func (PySem.W.fnOf "_check_size" "_check_size" (defArgs s_check_size) (defBody s_check_size) (defScope s_check_size) .none kV_check_size dc_check_size pm_check_size an_check_size cd_check_size ct_check_size), sl_check_size⟩)
    (c_check_size : PySem.W.codeIn K cd_check_size "_check_size" = true)
    (k_check_size : PySem.W.keepIn K (.ref f_check_size) = true)
    (a_chain_at : PySem.W.nsIn K mainGlobals "chain_at" = some (some (.ref f_chain_at)))
    (l_chain_at : K.lookup f_chain_at = some ⟨oc_chain_at, od_chain_at, .func (PySem.W.fnOf "chain_at" "chain_at" (defArgs s_chain_at) (defBody s_chain_at) (defScope s_chain_at) .none kV_chain_at dc_chain_at pm_chain_at an_chain_at cd_chain_at ct_chain_at), sl_chain_at⟩)
    (c_chain_at : PySem.W.codeIn K cd_chain_at "chain_at" = true)
    (k_chain_at : PySem.W.keepIn K (.ref f_chain_at) = true)
    (a_mover : PySem.W.nsIn K mainGlobals "mover" = some (some (.ref f_mover)))
    (l_mover : K.lookup f_mover = some ⟨oc_mover, od_mover, .func (PySem.W.fnOf "mover" "mover" (defArgs s_mover) (defBody s_mover) (defScope s_mover) .none kV_mover dc_mover pm_mover an_mover cd_mover ct_mover), sl_mover⟩)
    (c_mover : PySem.W.codeIn K cd_mover "mover" = true)
    (k_mover : PySem.W.keepIn K (.ref f_mover) = true)
    (a_law_pot : PySem.W.nsIn K mainGlobals "_law_pot" = some (some (.ref f_law_pot)))
    (l_law_pot : K.lookup f_law_pot = some ⟨oc_law_pot, od_law_pot, .func (PySem.W.fnOf "_law_pot" "_law_pot" (defArgs s_law_pot) (defBody s_law_pot) (defScope s_law_pot) .none kV_law_pot dc_law_pot pm_law_pot an_law_pot cd_law_pot ct_law_pot), sl_law_pot⟩)
    (c_law_pot : PySem.W.codeIn K cd_law_pot "_law_pot" = true)
    (k_law_pot : PySem.W.keepIn K (.ref f_law_pot) = true)
    (a_law_draw : PySem.W.nsIn K mainGlobals "_law_draw" = some (some (.ref f_law_draw)))
    (l_law_draw : K.lookup f_law_draw = some ⟨oc_law_draw, od_law_draw, .func (PySem.W.fnOf "_law_draw" "_law_draw" (defArgs s_law_draw) (defBody s_law_draw) (defScope s_law_draw) .none kV_law_draw dc_law_draw pm_law_draw an_law_draw cd_law_draw ct_law_draw), sl_law_draw⟩)
    (c_law_draw : PySem.W.codeIn K cd_law_draw "_law_draw" = true)
    (k_law_draw : PySem.W.keepIn K (.ref f_law_draw) = true)
    (a_law_any : PySem.W.nsIn K mainGlobals "_law_any" = some (some (.ref f_law_any)))
    (l_law_any : K.lookup f_law_any = some ⟨oc_law_any, od_law_any, .func (PySem.W.fnOf "_law_any" "_law_any" (defArgs s_law_any) (defBody s_law_any) (defScope s_law_any) .none kV_law_any dc_law_any pm_law_any an_law_any cd_law_any ct_law_any), sl_law_any⟩)
    (c_law_any : PySem.W.codeIn K cd_law_any "_law_any" = true)
    (k_law_any : PySem.W.keepIn K (.ref f_law_any) = true)
    (a_law_entry : PySem.W.nsIn K mainGlobals "_law_entry" = some (some (.ref f_law_entry)))
    (l_law_entry : K.lookup f_law_entry = some ⟨oc_law_entry, od_law_entry, .func (PySem.W.fnOf "_law_entry" "_law_entry" (defArgs s_law_entry) (defBody s_law_entry) (defScope s_law_entry) .none kV_law_entry dc_law_entry pm_law_entry an_law_entry cd_law_entry ct_law_entry), sl_law_entry⟩)
    (c_law_entry : PySem.W.codeIn K cd_law_entry "_law_entry" = true)
    (k_law_entry : PySem.W.keepIn K (.ref f_law_entry) = true)
    (a_law_pattern : PySem.W.nsIn K mainGlobals "_law_pattern" = some (some (.ref f_law_pattern)))
    (l_law_pattern : K.lookup f_law_pattern = some ⟨oc_law_pattern, od_law_pattern, .func (PySem.W.fnOf "_law_pattern" "_law_pattern" (defArgs s_law_pattern) (defBody s_law_pattern) (defScope s_law_pattern) .none kV_law_pattern dc_law_pattern pm_law_pattern an_law_pattern cd_law_pattern ct_law_pattern), sl_law_pattern⟩)
    (c_law_pattern : PySem.W.codeIn K cd_law_pattern "_law_pattern" = true)
    (k_law_pattern : PySem.W.keepIn K (.ref f_law_pattern) = true)
    (a_law_figures : PySem.W.nsIn K mainGlobals "_law_figures" = some (some (.ref f_law_figures)))
    (l_law_figures : K.lookup f_law_figures = some ⟨oc_law_figures, od_law_figures, .func (PySem.W.fnOf "_law_figures" "_law_figures" (defArgs s_law_figures) (defBody s_law_figures) (defScope s_law_figures) .none kV_law_figures dc_law_figures pm_law_figures an_law_figures cd_law_figures ct_law_figures), sl_law_figures⟩)
    (c_law_figures : PySem.W.codeIn K cd_law_figures "_law_figures" = true)
    (k_law_figures : PySem.W.keepIn K (.ref f_law_figures) = true)
    (a_law_drawn : PySem.W.nsIn K mainGlobals "_law_drawn" = some (some (.ref f_law_drawn)))
    (l_law_drawn : K.lookup f_law_drawn = some ⟨oc_law_drawn, od_law_drawn, .func (PySem.W.fnOf "_law_drawn" "_law_drawn" (defArgs s_law_drawn) (defBody s_law_drawn) (defScope s_law_drawn) .none kV_law_drawn dc_law_drawn pm_law_drawn an_law_drawn cd_law_drawn ct_law_drawn), sl_law_drawn⟩)
    (c_law_drawn : PySem.W.codeIn K cd_law_drawn "_law_drawn" = true)
    (k_law_drawn : PySem.W.keepIn K (.ref f_law_drawn) = true)
    (a_law : PySem.W.nsIn K mainGlobals "law" = some (some (.ref f_law)))
    (l_law : K.lookup f_law = some ⟨oc_law, od_law, .func (PySem.W.fnOf "law" "law" (defArgs s_law) (defBody s_law) (defScope s_law) .none kV_law dc_law pm_law an_law cd_law ct_law), sl_law⟩)
    (c_law : PySem.W.codeIn K cd_law "law" = true)
    (k_law : PySem.W.keepIn K (.ref f_law) = true)
    (gC_SilentError : PySem.W.nsIn K mainGlobals "SilentError" = some (some (.ref C_SilentError)))
    (gC_NoMachine : PySem.W.nsIn K mainGlobals "NoMachine" = some (some (.ref C_NoMachine)))
    (gC_NoNumber : PySem.W.nsIn K mainGlobals "NoNumber" = some (some (.ref C_NoNumber)))
    (gC_NoPattern : PySem.W.nsIn K mainGlobals "NoPattern" = some (some (.ref C_NoPattern)))
    (z_isinstance : PySem.W.nsIn K mainGlobals "isinstance" = some none)
    (z_bool : PySem.W.nsIn K mainGlobals "bool" = some none)
    (z_int : PySem.W.nsIn K mainGlobals "int" = some none)
    (z_len : PySem.W.nsIn K mainGlobals "len" = some none)
    (z_tuple : PySem.W.nsIn K mainGlobals "tuple" = some none)
    (z_all : PySem.W.nsIn K mainGlobals "all" = some none)
    (z_enumerate : PySem.W.nsIn K mainGlobals "enumerate" = some none)
    (z_range : PySem.W.nsIn K mainGlobals "range" = some none)
    (z_divmod : PySem.W.nsIn K mainGlobals "divmod" = some none)
    (z_abs : PySem.W.nsIn K mainGlobals "abs" = some none)
    (z_any : PySem.W.nsIn K mainGlobals "any" = some none)
    (z_min : PySem.W.nsIn K mainGlobals "min" = some none)
    (z_max : PySem.W.nsIn K mainGlobals "max" = some none)
    (z_repr : PySem.W.nsIn K mainGlobals "repr" = some none)
    (v_MOST_ROUNDS : PySem.W.nsIn K mainGlobals "MOST_ROUNDS" = some (some (.int 30 t_MOST_ROUNDS))) :
    ∃ fd : FuncData, (∀ (s : Shared) (v : Value), BindsTo s fd ⟨[v], []⟩ [("script", v)]) ∧ ∀ base : Heap, K.In base → base.Ns mainGlobals mg → FnG l.prog w K mg base (L2.CX l.prog w) 8 fa fd ["script"] (spA K 1 m_law) := by
  have T : Txt K mg ⟨f_is_integer, f_is_number, f_is_turn, f_is_other, f_power, f_figures_of, f_check_number, f_check_machine, f_is_pattern_of, f_check_pattern, f_shut_out, f_check_size, f_chain_at, f_mover, f_law_pot, f_law_draw, f_law_any, f_law_entry, f_law_pattern, f_law_figures, f_law_drawn, f_law, C_SilentError, C_NoMachine, C_NoNumber, C_NoPattern⟩ := {
    g_is_integer := PySem.W.mg_of X G a_is_integer
    fn_is_integer := ⟨_, fun_mk (st := s_is_integer) l_is_integer c_is_integer k_is_integer⟩
    g_is_number := PySem.W.mg_of X G a_is_number
    fn_is_number := ⟨_, fun_mk (st := s_is_number) l_is_number c_is_number k_is_number⟩
    g_is_turn := PySem.W.mg_of X G a_is_turn
    fn_is_turn := ⟨_, fun_mk (st := s_is_turn) l_is_turn c_is_turn k_is_turn⟩
    g_is_other := PySem.W.mg_of X G a_is_other
    fn_is_other := ⟨_, fun_mk (st := s_is_other) l_is_other c_is_other k_is_other⟩
    g_power := PySem.W.mg_of X G a_power
    fn_power := ⟨_, fun_mk (st := s_power) l_power c_power k_power⟩
    g_figures_of := PySem.W.mg_of X G a_figures_of
    fn_figures_of := ⟨_, fun_mk (st := s_figures_of) l_figures_of c_figures_of k_figures_of⟩
    g_check_number := PySem.W.mg_of X G a_check_number
    fn_check_number := ⟨_, fun_mk (st := s_check_number) l_check_number c_check_number k_check_number⟩
    g_check_machine := PySem.W.mg_of X G a_check_machine
    fn_check_machine := ⟨_, fun_mk (st := s_check_machine) l_check_machine c_check_machine k_check_machine⟩
    g_is_pattern_of := PySem.W.mg_of X G a_is_pattern_of
    fn_is_pattern_of := ⟨_, fun_mk (st := s_is_pattern_of) l_is_pattern_of c_is_pattern_of k_is_pattern_of⟩
    g_check_pattern := PySem.W.mg_of X G a_check_pattern
    fn_check_pattern := ⟨_, fun_mk (st := s_check_pattern) l_check_pattern c_check_pattern k_check_pattern⟩
    g_shut_out := PySem.W.mg_of X G a_shut_out
    fn_shut_out := ⟨_, fun_mk (st := s_shut_out) l_shut_out c_shut_out k_shut_out⟩
    g_check_size := PySem.W.mg_of X G a_check_size
    fn_check_size := ⟨_, fun_mk (st := s_check_size) l_check_size c_check_size k_check_size⟩
    g_chain_at := PySem.W.mg_of X G a_chain_at
    fn_chain_at := ⟨_, fun_mk (st := s_chain_at) l_chain_at c_chain_at k_chain_at⟩
    g_mover := PySem.W.mg_of X G a_mover
    fn_mover := ⟨_, fun_mk (st := s_mover) l_mover c_mover k_mover⟩
    g_law_pot := PySem.W.mg_of X G a_law_pot
    fn_law_pot := ⟨_, fun_mk (st := s_law_pot) l_law_pot c_law_pot k_law_pot⟩
    g_law_draw := PySem.W.mg_of X G a_law_draw
    fn_law_draw := ⟨_, fun_mk (st := s_law_draw) l_law_draw c_law_draw k_law_draw⟩
    g_law_any := PySem.W.mg_of X G a_law_any
    fn_law_any := ⟨_, fun_mk (st := s_law_any) l_law_any c_law_any k_law_any⟩
    g_law_entry := PySem.W.mg_of X G a_law_entry
    fn_law_entry := ⟨_, fun_mk (st := s_law_entry) l_law_entry c_law_entry k_law_entry⟩
    g_law_pattern := PySem.W.mg_of X G a_law_pattern
    fn_law_pattern := ⟨_, fun_mk (st := s_law_pattern) l_law_pattern c_law_pattern k_law_pattern⟩
    g_law_figures := PySem.W.mg_of X G a_law_figures
    fn_law_figures := ⟨_, fun_mk (st := s_law_figures) l_law_figures c_law_figures k_law_figures⟩
    g_law_drawn := PySem.W.mg_of X G a_law_drawn
    fn_law_drawn := ⟨_, fun_mk (st := s_law_drawn) l_law_drawn c_law_drawn k_law_drawn⟩
    g_law := PySem.W.mg_of X G a_law
    fn_law := ⟨_, fun_mk (st := s_law) l_law c_law k_law⟩
    b_isinstance := PySem.W.mg_none_of X G z_isinstance
    b_bool := PySem.W.mg_none_of X G z_bool
    b_int := PySem.W.mg_none_of X G z_int
    b_len := PySem.W.mg_none_of X G z_len
    b_tuple := PySem.W.mg_none_of X G z_tuple
    b_all := PySem.W.mg_none_of X G z_all
    b_enumerate := PySem.W.mg_none_of X G z_enumerate
    b_range := PySem.W.mg_none_of X G z_range
    b_divmod := PySem.W.mg_none_of X G z_divmod
    b_abs := PySem.W.mg_none_of X G z_abs
    b_any := PySem.W.mg_none_of X G z_any
    b_min := PySem.W.mg_none_of X G z_min
    b_max := PySem.W.mg_none_of X G z_max
    b_repr := PySem.W.mg_none_of X G z_repr
    c_MOST_ROUNDS := ⟨_, PySem.W.mg_of X G v_MOST_ROUNDS⟩ }
  have e := hfa.symm.trans T.g_law
  cases e
  refine ⟨_, ?_, fun base _ _ => okfn_law T (fun_mk (st := s_law) l_law c_law k_law)⟩
  exact fun s v => .of_eq rfl

end L20
open PySem PySem.W PyProof.Rows
set_option maxRecDepth 100000 in
set_option maxHeartbeats 0 in
theorem PySem.Challenge.cw_onesilent_k20_whole_chain_link_by_link_holds : PySem.Challenge.rw_onesilent_k20_whole_chain_link_by_link.Holds := by
  w_on; o_law; k_head; (case hw => w_witness2)
  k_fill
  refine Am.walkG (l := PySem.Challenge.rw_onesilent_k20_whole_chain_link_by_link) (n := 63) (k := 8) (x := "script") (m := fun _ _ => L20.m_law) rfl (by decide) rfl ⟨⟨rfl, by decide, by decide⟩, rfl⟩ (fun w h Y => PySem.W.kIn_of Y) ?F fun _ _ ns hn => L20.law_true ns hn
  case F =>
    intro w mg fa h KX G hmg
    refine' L20.lawAt KX G hmg ?a_is_integer ?l_is_integer ?c_is_integer ?k_is_integer ?a_is_number ?l_is_number ?c_is_number ?k_is_number ?a_is_turn ?l_is_turn ?c_is_turn ?k_is_turn ?a_is_other ?l_is_other ?c_is_other ?k_is_other ?a_power ?l_power ?c_power ?k_power ?a_figures_of ?l_figures_of ?c_figures_of ?k_figures_of ?a_check_number ?l_check_number ?c_check_number ?k_check_number ?a_check_machine ?l_check_machine ?c_check_machine ?k_check_machine ?a_is_pattern_of ?l_is_pattern_of ?c_is_pattern_of ?k_is_pattern_of ?a_check_pattern ?l_check_pattern ?c_check_pattern ?k_check_pattern ?a_shut_out ?l_shut_out ?c_shut_out ?k_shut_out ?a_check_size ?l_check_size ?c_check_size ?k_check_size ?a_chain_at ?l_chain_at ?c_chain_at ?k_chain_at ?a_mover ?l_mover ?c_mover ?k_mover ?a_law_pot ?l_law_pot ?c_law_pot ?k_law_pot ?a_law_draw ?l_law_draw ?c_law_draw ?k_law_draw ?a_law_any ?l_law_any ?c_law_any ?k_law_any ?a_law_entry ?l_law_entry ?c_law_entry ?k_law_entry ?a_law_pattern ?l_law_pattern ?c_law_pattern ?k_law_pattern ?a_law_figures ?l_law_figures ?c_law_figures ?k_law_figures ?a_law_drawn ?l_law_drawn ?c_law_drawn ?k_law_drawn ?a_law ?l_law ?c_law ?k_law ?gC_SilentError ?gC_NoMachine ?gC_NoNumber ?gC_NoPattern ?z_isinstance ?z_bool ?z_int ?z_len ?z_tuple ?z_all ?z_enumerate ?z_range ?z_divmod ?z_abs ?z_any ?z_min ?z_max ?z_repr ?v_MOST_ROUNDS
    (case a_is_integer => k_is)
    (case l_is_integer => k_is)
    (case c_is_integer => k_is)
    (case k_is_integer => k_is)
    (case a_is_number => k_is)
    (case l_is_number => k_is)
    (case c_is_number => k_is)
    (case k_is_number => k_is)
    (case a_is_turn => k_is)
    (case l_is_turn => k_is)
    (case c_is_turn => k_is)
    (case k_is_turn => k_is)
    (case a_is_other => k_is)
    (case l_is_other => k_is)
    (case c_is_other => k_is)
    (case k_is_other => k_is)
    (case a_power => k_is)
    (case l_power => k_is)
    (case c_power => k_is)
    (case k_power => k_is)
    (case a_figures_of => k_is)
    (case l_figures_of => k_is)
    (case c_figures_of => k_is)
    (case k_figures_of => k_is)
    (case a_check_number => k_is)
    (case l_check_number => k_is)
    (case c_check_number => k_is)
    (case k_check_number => k_is)
    (case a_check_machine => k_is)
    (case l_check_machine => k_is)
    (case c_check_machine => k_is)
    (case k_check_machine => k_is)
    (case a_is_pattern_of => k_is)
    (case l_is_pattern_of => k_is)
    (case c_is_pattern_of => k_is)
    (case k_is_pattern_of => k_is)
    (case a_check_pattern => k_is)
    (case l_check_pattern => k_is)
    (case c_check_pattern => k_is)
    (case k_check_pattern => k_is)
    (case a_shut_out => k_is)
    (case l_shut_out => k_is)
    (case c_shut_out => k_is)
    (case k_shut_out => k_is)
    (case a_check_size => k_is)
    (case l_check_size => k_is)
    (case c_check_size => k_is)
    (case k_check_size => k_is)
    (case a_chain_at => k_is)
    (case l_chain_at => k_is)
    (case c_chain_at => k_is)
    (case k_chain_at => k_is)
    (case a_mover => k_is)
    (case l_mover => k_is)
    (case c_mover => k_is)
    (case k_mover => k_is)
    (case a_law_pot => k_is)
    (case l_law_pot => k_is)
    (case c_law_pot => k_is)
    (case k_law_pot => k_is)
    (case a_law_draw => k_is)
    (case l_law_draw => k_is)
    (case c_law_draw => k_is)
    (case k_law_draw => k_is)
    (case a_law_any => k_is)
    (case l_law_any => k_is)
    (case c_law_any => k_is)
    (case k_law_any => k_is)
    (case a_law_entry => k_is)
    (case l_law_entry => k_is)
    (case c_law_entry => k_is)
    (case k_law_entry => k_is)
    (case a_law_pattern => k_is)
    (case l_law_pattern => k_is)
    (case c_law_pattern => k_is)
    (case k_law_pattern => k_is)
    (case a_law_figures => k_is)
    (case l_law_figures => k_is)
    (case c_law_figures => k_is)
    (case k_law_figures => k_is)
    (case a_law_drawn => k_is)
    (case l_law_drawn => k_is)
    (case c_law_drawn => k_is)
    (case k_law_drawn => k_is)
    (case a_law => k_is)
    (case l_law => k_is)
    (case c_law => k_is)
    (case k_law => k_is)
    (case gC_SilentError => k_is)
    (case gC_NoMachine => k_is)
    (case gC_NoNumber => k_is)
    (case gC_NoPattern => k_is)
    (case z_isinstance => k_is)
    (case z_bool => k_is)
    (case z_int => k_is)
    (case z_len => k_is)
    (case z_tuple => k_is)
    (case z_all => k_is)
    (case z_enumerate => k_is)
    (case z_range => k_is)
    (case z_divmod => k_is)
    (case z_abs => k_is)
    (case z_any => k_is)
    (case z_min => k_is)
    (case z_max => k_is)
    (case z_repr => k_is)
    (case v_MOST_ROUNDS => k_is)

