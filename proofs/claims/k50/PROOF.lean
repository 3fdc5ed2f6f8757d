import PyProof.Rows.All
import Wide.All
import OpenK.AllK
import Wide.FinOn
import HandS.ForMost
import HandS.ForExc
import HandS.CallSlots
import HandS.Flow
import HandS.TupMul
import HandS.Wide
import HandS.Style
import HandS.Deep
import HandS.TupAny
import HandS.TupLe
import HandS.IsInst
import PyProof.ReprReads
import HandS.Zip
import HandS.ExcBuiltin
import KE.GoesMore
import KE.GoesEnum
import HandS.Ends
import HandS.RaiseMore
import HandS.WideMore
import HandS.WideBits
import HandS.SortInts
import PyProof.Rows.InDataRows
import PyProof.ReprRoads
import PyProof.Rows.NestShow
import KE.KRevSl
import HandS.List
import HandS.Exc
import HandS.ExcField
import HandS.ExcValue
import HandS.ExcIs
import HandS.TryOnly
import HandS.Lambda
import PySem.Challenge.RW_onesilent_k50_sparing_patterns_judged
import HandS.EndTab
set_option Elab.async false
set_option linter.all false
set_option maxRecDepth 100000
set_option maxHeartbeats 4000000
/-! Am1: values as trees, a heap as a list, what a def does as a function of these; how that is held against the layer's readings. -/
namespace Am
open PySem PySem.Spec PyProof.Rows L2

/-- a value: tuples are trees, other objects places -/
inductive AV where
  | non | bl (b : Bool) | int (i : Int) | str (x : Str) | ty (n : String) | st (a : Addr) | tup (ts : List AV) | cst (ts : List AV) | loc (n : Nat)
  deriving Inhabited
/-- an object -/
inductive AO where
  | lst (xs : List AV)
  | dct (kvs : List (AV × AV))
  | ins (C : Addr) (fs : List (Str × AV))
  | gone
abbrev Hx := List AO
abbrev Ev := List (Option AV)

def keyA : Key → AV
  | .inl i => .int i
  | .inr x => .str x
def keyT (l : List Key) : AV := .tup (l.map keyA)
def wipeE (env : Ev) : List Nat → Ev
  | [] => env
  | v :: vs => (wipeE env vs).set v none
section
variable (K : PySem.W.Frag)
/-- a list that stands as it is (the script, a module's list) -/
def FxL (H : Hp) (a : Addr) (xs : List V) : Prop := (∃ o, H a = some (.frz o (.lst xs))) ∨
  ∃ (o : Obj) (its : Array Value) (n : Nat), K.lookup a = some o ∧ o.cls = .type "list" ∧ o.dict = none ∧ o.data = .seq its n ∧ its.size ≤ sizeLine ∧ Vals xs its.toList
mutual
inductive RV (as : List Addr) (H : Hp) : AV → V → Prop
  | non : RV as H .non .non
  | bl (b : Bool) : RV as H (.bl b) (.bl b)
  | int (i : Int) : RV as H (.int i) (.int i)
  | str (x : Str) : RV as H (.str x) (.str x)
  | ty (n : String) : RV as H (.ty n) (.ty n)
  | st (a : Addr) : RV as H (.st a) (.ref a)
  | tup {a : Addr} {ts : List AV} {xs : List V} : SqT K H a xs → RVs as H ts xs → RV as H (.tup ts) (.ref a)
  | cst {a : Addr} {ts : List AV} {xs : List V} : FxL K H a xs → RVs as H ts xs → RV as H (.cst ts) (.ref a)
  | loc {n : Nat} {a : Addr} : as[n]? = some a → RV as H (.loc n) (.ref a)
inductive RVs (as : List Addr) (H : Hp) : List AV → List V → Prop
  | nil : RVs as H [] []
  | cons {x : AV} {v : V} {xs : List AV} {vs : List V} : RV as H x v → RVs as H xs vs → RVs as H (x :: xs) (v :: vs)
end
inductive RFs (as : List Addr) (H : Hp) : List (Str × AV) → List (Str × V) → Prop
  | nil : RFs as H [] []
  | cons {f : Str} {x : AV} {v : V} {xs : List (Str × AV)} {vs : List (Str × V)} : RV K as H x v → RFs as H xs vs → RFs as H ((f, x) :: xs) ((f, v) :: vs)
/-- a dict's pairs -/
inductive RK {κ : Type} (f : κ → AV) (as : List Addr) (H : Hp) : List (AV × AV) → List (κ × V) → Prop
  | nil : RK f as H [] []
  | cons {k : κ} {x : AV} {v : V} {xs : List (AV × AV)} {vs : List (κ × V)} : RV K as H x v → RK f as H xs vs → RK f as H ((f k, x) :: xs) ((k, v) :: vs)
/-- an object stands at a -/
def RO (as : List Addr) (H : Hp) (a : Addr) : AO → Prop
  | .lst xs => ∃ vs, H a = some (.lst vs) ∧ RVs K as H xs vs
  | .dct kvs => (∃ ks, H a = some (.dK ks) ∧ RK K keyA as H kvs ks) ∨ ∃ ks, H a = some (.dT ks) ∧ RK K keyT as H kvs ks
  | .ins C fs => ∃ dx vs, H a = some (.ins C dx vs) ∧ RFs K as H fs vs
  | .gone => ∃ o, H a = some o
structure RA (as : List Addr) (H : Hp) (A : Hx) : Prop where
  len : as.length = A.length
  nd : as.Nodup
  ob : ∀ (n : Nat) (a : Addr) (o : AO), as[n]? = some a → A[n]? = some o → RO K as H a o
structure RE (as : List Addr) (H : Hp) (env : Ev) (σ : L2.St) : Prop where
  len : env.length = σ.length
  at_ : ∀ (i : Nat) (x : AV), env[i]? = some (some x) → ∃ v, σ[i]? = some (some v) ∧ RV K as H x v
/-- the tuples stay -/
def Kp (H H' : Hp) : Prop := (∀ a xs, SqT K H a xs → SqT K H' a xs) ∧ ∀ a xs, FxL K H a xs → FxL K H' a xs
end

section
variable {K : PySem.W.Frag} {as as' : List Addr} {H H' H'' : Hp}
theorem FxL.sq {a : Addr} {xs : List V} (h : FxL K H a xs) : SqL K H a xs := h.elim (fun q => .inl (.inr q)) .inr
theorem Kp.refl : Kp K H H := ⟨fun _ _ h => h, fun _ _ h => h⟩
theorem Kp.trans (a : Kp K H H') (b : Kp K H' H'') : Kp K H H'' := ⟨fun c xs h => b.1 c xs (a.1 c xs h), fun c xs h => b.2 c xs (a.2 c xs h)⟩
/-- later: more places, the tuples stay -/
structure Ex (K : PySem.W.Frag) (as : List Addr) (H : Hp) (as' : List Addr) (H' : Hp) : Prop where
  pre : ∃ l, as' = as ++ l
  kp : Kp K H H'
theorem Ex.refl : Ex K as H as H := ⟨⟨[], by simp⟩, Kp.refl⟩
theorem Ex.trans {as'' : List Addr} (a : Ex K as H as' H') (b : Ex K as' H' as'' H'') : Ex K as H as'' H'' := by
  obtain ⟨⟨l, rfl⟩, k⟩ := a
  obtain ⟨⟨m, rfl⟩, j⟩ := b
  exact ⟨⟨l ++ m, by simp⟩, k.trans j⟩
theorem Ex.get (a : Ex K as H as' H') {n : Nat} {p : Addr} (h : as[n]? = some p) : as'[n]? = some p := by
  obtain ⟨⟨l, rfl⟩, _⟩ := a
  have hn := (List.getElem?_eq_some_iff.mp h).1
  rw [List.getElem?_append_left hn]
  exact h
mutual
theorem RV.ex (e : Ex K as H as' H') : ∀ {x : AV} {v : V}, RV K as H x v → RV K as' H' x v
  | _, _, .non => .non
  | _, _, .bl b => .bl b
  | _, _, .int i => .int i
  | _, _, .str x => .str x
  | _, _, .ty n => .ty n
  | _, _, .st a => .st a
  | _, _, .tup h r => .tup (e.kp.1 _ _ h) (RVs.ex e r)
  | _, _, .cst h r => .cst (e.kp.2 _ _ h) (RVs.ex e r)
  | _, _, .loc h => .loc (e.get h)
theorem RVs.ex (e : Ex K as H as' H') : ∀ {xs : List AV} {vs : List V}, RVs K as H xs vs → RVs K as' H' xs vs
  | _, _, .nil => .nil
  | _, _, .cons h r => .cons (RV.ex e h) (RVs.ex e r)
end
theorem RFs.ex (e : Ex K as H as' H') : ∀ {xs : List (Str × AV)} {vs : List (Str × V)}, RFs K as H xs vs → RFs K as' H' xs vs
  | _, _, .nil => .nil
  | _, _, .cons h r => .cons (h.ex e) (RFs.ex e r)
theorem RK.ex {κ : Type} {f : κ → AV} (e : Ex K as H as' H') : ∀ {xs : List (AV × AV)} {vs : List (κ × V)}, RK K f as H xs vs → RK K f as' H' xs vs
  | _, _, .nil => .nil
  | _, _, .cons h r => .cons (h.ex e) (RK.ex e r)
theorem RE.ex {env : Ev} {σ : L2.St} (e : Ex K as H as' H') (r : RE K as H env σ) : RE K as' H' env σ :=
  ⟨r.len, fun i x h => let ⟨v, a, b⟩ := r.at_ i x h; ⟨v, a, b.ex e⟩⟩
theorem RE.set {env : Ev} {σ : L2.St} (r : RE K as H env σ) (i : Nat) {x : AV} {v : V} (h : RV K as H x v) : RE K as H (env.set i (some x)) (σ.set i (some v)) := by
  refine ⟨by simp [r.len], fun j y e => ?_⟩
  by_cases hj : i = j
  · subst hj
    rw [List.getElem?_set] at e
    simp only [if_true] at e
    split at e
    · rename_i hl
      cases e
      exact ⟨v, by rw [List.getElem?_set]; simp [← r.len, hl], h⟩
    · cases e
  · rw [List.getElem?_set_ne hj] at e ⊢
    exact r.at_ j y e
theorem RE.drop1 {env : Ev} {σ : L2.St} (r : RE K as H env σ) (i : Nat) : RE K as H (env.set i none) (σ.set i none) := by
  refine ⟨by simp [r.len], fun j y e => ?_⟩
  by_cases hj : i = j
  · subst hj
    rw [List.getElem?_set] at e
    simp only [if_true] at e
    split at e
    · cases e
    · cases e
  · rw [List.getElem?_set_ne hj] at e ⊢
    exact r.at_ j y e
theorem RE.wipe {env : Ev} {σ : L2.St} (r : RE K as H env σ) : ∀ vs : List Nat, RE K as H (wipeE env vs) (L2.wipe σ vs)
  | [] => r
  | v :: vs => (RE.wipe r vs).drop1 v
theorem RVs.length : ∀ {xs : List AV} {vs : List V}, RVs K as H xs vs → xs.length = vs.length
  | _, _, .nil => rfl
  | _, _, .cons _ r => congrArg (· + 1) (RVs.length r)
theorem RVs.isEmpty : ∀ {xs : List AV} {vs : List V}, RVs K as H xs vs → (!xs.isEmpty) = !vs.isEmpty
  | _, _, .nil => rfl
  | _, _, .cons _ r => rfl
theorem RVs.get : ∀ {xs : List AV} {vs : List V} {i : Nat} {x : AV}, RVs K as H xs vs → xs[i]? = some x → ∃ v, vs[i]? = some v ∧ RV K as H x v
  | _, _, i, x, .nil, e => by simp at e
  | _, _, 0, x, .cons h _, e => by
    simp at e
    subst e
    exact ⟨_, rfl, h⟩
  | _, _, i + 1, x, .cons _ r, e => RVs.get (i := i) r (by simpa using e)
theorem RVs.getV : ∀ {xs : List AV} {vs : List V} {i : Nat} {v : V}, RVs K as H xs vs → vs[i]? = some v → ∃ x, xs[i]? = some x ∧ RV K as H x v
  | _, _, i, x, .nil, e => by simp at e
  | _, _, 0, x, .cons h _, e => by
    simp at e
    subst e
    exact ⟨_, rfl, h⟩
  | _, _, i + 1, x, .cons _ r, e => RVs.getV (i := i) r (by simpa using e)
theorem RVs.app : ∀ {xs ys : List AV} {vs ws : List V}, RVs K as H xs vs → RVs K as H ys ws → RVs K as H (xs ++ ys) (vs ++ ws)
  | _, _, _, _, .nil, s => s
  | _, _, _, _, .cons h r, s => .cons h (RVs.app r s)
theorem RVs.take : ∀ {xs : List AV} {vs : List V} (n : Nat), RVs K as H xs vs → RVs K as H (xs.take n) (vs.take n)
  | _, _, 0, _ => by simpa using .nil
  | _, _, _ + 1, .nil => .nil
  | _, _, n + 1, .cons h r => .cons h (RVs.take n r)
theorem RVs.drop : ∀ {xs : List AV} {vs : List V} (n : Nat), RVs K as H xs vs → RVs K as H (xs.drop n) (vs.drop n)
  | _, _, 0, r => r
  | _, _, _ + 1, .nil => .nil
  | _, _, n + 1, .cons _ r => RVs.drop n r
theorem RVs.rev : ∀ {xs : List AV} {vs : List V}, RVs K as H xs vs → RVs K as H xs.reverse vs.reverse
  | _, _, .nil => .nil
  | _, _, .cons h r => by
    rw [List.reverse_cons, List.reverse_cons]
    exact (RVs.rev r).app (.cons h .nil)
theorem RVs.set : ∀ {xs : List AV} {vs : List V} (i : Nat) {x : AV} {v : V}, RVs K as H xs vs → RV K as H x v → RVs K as H (xs.set i x) (vs.set i v)
  | _, _, _, _, _, .nil, _ => .nil
  | _, _, 0, _, _, .cons _ r, h => .cons h r
  | _, _, i + 1, _, _, .cons h r, q => .cons h (RVs.set i r q)
end

/-! ### the heap grows, changes -/
section
variable {K : PySem.W.Frag} {as : List Addr} {H : Hp} {A : Hx} {p : Addr} {o : HO}
theorem kp_new (h : H p = none) : Kp K H (upd H p o) := by
  refine ⟨fun a xs q => ?_, fun a xs q => ?_⟩
  · rcases q with (q | ⟨u, q⟩) | q
    · exact .inl (.inl (by rw [upd_ne (ne_of_none q h)]; exact q))
    · exact .inl (.inr ⟨u, by rw [upd_ne (ne_of_none q h)]; exact q⟩)
    · exact .inr q
  · rcases q with ⟨u, q⟩ | q
    · exact .inl ⟨u, by rw [upd_ne (ne_of_none q h)]; exact q⟩
    · exact .inr q
/-- what stays -/
def isT : HO → Bool
  | .tup _ => true
  | .frz _ _ => true
  | _ => false
theorem kp_mut {u : HO} (h : H p = some u) (n : isT u = false) : Kp K H (upd H p o) := by
  refine ⟨fun a xs q => ?_, fun a xs q => ?_⟩
  · rcases q with (q | ⟨v, q⟩) | q
    · exact .inl (.inl (by rw [upd_ne (ne_of q h (fun z => by subst z; cases n))]; exact q))
    · exact .inl (.inr ⟨v, by rw [upd_ne (ne_of q h (fun z => by subst z; cases n))]; exact q⟩)
    · exact .inr q
  · rcases q with ⟨v, q⟩ | q
    · exact .inl ⟨v, by rw [upd_ne (ne_of q h (fun z => by subst z; cases n))]; exact q⟩
    · exact .inr q
theorem RO.some {a : Addr} : ∀ {u : AO}, RO K as H a u → ∃ o, H a = some o
  | .lst _, ⟨vs, h, _⟩ => ⟨_, h⟩
  | .dct _, .inl ⟨_, h, _⟩ => ⟨_, h⟩
  | .dct _, .inr ⟨_, h, _⟩ => ⟨_, h⟩
  | .ins _ _, ⟨_, _, h, _⟩ => ⟨_, h⟩
  | .gone, h => h
theorem RO.stay {as' : List Addr} {H' : Hp} {a : Addr} (e : Ex K as H as' H') (k : H' a = H a) : ∀ {u : AO}, RO K as H a u → RO K as' H' a u
  | .lst _, ⟨vs, h, r⟩ => ⟨vs, k.trans h, r.ex e⟩
  | .dct _, .inl ⟨ks, h, r⟩ => .inl ⟨ks, k.trans h, r.ex e⟩
  | .dct _, .inr ⟨ks, h, r⟩ => .inr ⟨ks, k.trans h, r.ex e⟩
  | .ins _ _, ⟨dx, vs, h, r⟩ => ⟨dx, vs, k.trans h, r.ex e⟩
  | .gone, ⟨o, h⟩ => ⟨o, k.trans h⟩
theorem RA.tracked (r : RA K as H A) {n : Nat} {a : Addr} (h : as[n]? = some a) : ∃ o, H a = some o := by
  have hn : n < A.length := by rw [← r.len]; exact (List.getElem?_eq_some_iff.mp h).1
  exact (r.ob n a A[n] h (by simp [hn])).some
theorem RA.mem (r : RA K as H A) {a : Addr} (h : a ∈ as) : ∃ o, H a = some o := by
  obtain ⟨n, hn⟩ := List.getElem?_of_mem h
  exact r.tracked hn
theorem RA.off (r : RA K as H A) (h : H p = none) : p ∉ as := fun m => by
  obtain ⟨o, e⟩ := r.mem m
  rw [h] at e
  cases e
/-- something new that is no place -/
theorem RA.new (r : RA K as H A) (h : H p = none) : RA K as (upd H p o) A :=
  ⟨r.len, r.nd, fun n a u e1 e2 => (r.ob n a u e1 e2).stay ⟨⟨[], by simp⟩, kp_new h⟩ (upd_ne fun z => by
    obtain ⟨v, q⟩ := r.tracked e1
    rw [z, h] at q
    cases q)⟩
theorem ex_new (h : H p = none) : Ex K as H as (upd H p o) := ⟨⟨[], by simp⟩, kp_new h⟩
theorem ex_push (h : H p = none) : Ex K as H (as ++ [p]) (upd H p o) := ⟨⟨[p], rfl⟩, kp_new h⟩
/-- a new place -/
theorem RA.push (r : RA K as H A) (h : H p = none) {u : AO} (q : RO K (as ++ [p]) (upd H p o) p u) : RA K (as ++ [p]) (upd H p o) (A ++ [u]) := by
  refine ⟨by simp [r.len], ?_, fun n a v e1 e2 => ?_⟩
  · rw [List.nodup_append]
    exact ⟨r.nd, by simp, fun x hx y hy z => by
      have : y = p := by simpa using hy
      subst this
      subst z
      exact r.off h hx⟩
  · by_cases hn : n < as.length
    · rw [List.getElem?_append_left hn] at e1
      rw [List.getElem?_append_left (by rw [← r.len]; exact hn)] at e2
      exact (r.ob n a v e1 e2).stay (ex_push h) (upd_ne fun z => by
        obtain ⟨v, q⟩ := r.tracked e1
        rw [z, h] at q
        cases q)
    · have h1 : n < (as ++ [p]).length := (List.getElem?_eq_some_iff.mp e1).1
      have h2 : n = as.length := by simp at h1; omega
      subst h2
      rw [List.getElem?_append_right (Nat.le_refl _)] at e1
      rw [r.len, List.getElem?_append_right (Nat.le_refl _)] at e2
      simp at e1 e2
      subst e1 e2
      exact q
/-- a place changes -/
theorem RA.set (r : RA K as H A) {n : Nat} (hp : as[n]? = some p) {v : HO} (h : H p = some v) (ht : isT v = false) {u : AO} (q : RO K as (upd H p o) p u) : RA K as (upd H p o) (A.set n u) := by
  refine ⟨by simp [r.len], r.nd, fun m a w e1 e2 => ?_⟩
  by_cases hm : m = n
  · subst hm
    rw [hp] at e1
    cases e1
    have hl : m < A.length := by rw [← r.len]; exact (List.getElem?_eq_some_iff.mp hp).1
    rw [List.getElem?_set_self hl] at e2
    cases e2
    exact q
  · rw [List.getElem?_set_ne (Ne.symm hm)] at e2
    refine (r.ob m a w e1 e2).stay ⟨⟨[], by simp⟩, kp_mut h ht⟩ (upd_ne fun z => hm ?_)
    subst z
    obtain ⟨l1, g1⟩ := List.getElem?_eq_some_iff.mp e1
    obtain ⟨l2, g2⟩ := List.getElem?_eq_some_iff.mp hp
    exact (List.getElem_inj r.nd).mp (g1.trans g2.symm)
theorem ex_mut {v : HO} (h : H p = some v) (ht : isT v = false) : Ex K as H as (upd H p o) := ⟨⟨[], by simp⟩, kp_mut h ht⟩
end
end Am

set_option Elab.async false
set_option linter.all false
set_option maxRecDepth 100000
set_option maxHeartbeats 4000000
/-! Am2: outcomes; the readings that they give; expressions. -/
namespace Am
open PySem PySem.Spec PyProof.Rows L2
/-- an exception: its class, its fields -/
structure AX where
  cls : Value
  fs : List (Str × AV)
inductive R (α : Type) where
  | ok (x : α) (A : Hx) | ex (e : AX) (A : Hx) | bad
def R.bind {α β : Type} (r : R α) (k : α → Hx → R β) : R β := match r with
  | .ok x A => k x A
  | .ex e A => .ex e A
  | .bad => .bad
@[simp] theorem R.bind_ok {α β : Type} {x : α} {A : Hx} {k : α → Hx → R β} : (R.ok x A).bind k = k x A := rfl
@[simp] theorem R.bind_ex {α β : Type} {e : AX} {A : Hx} {k : α → Hx → R β} : (R.ex e A).bind k = .ex e A := rfl
@[simp] theorem R.bind_bad {α β : Type} {k : α → Hx → R β} : (R.bad).bind k = .bad := rfl

section
variable (K : PySem.W.Frag)
def RX (as : List Addr) (H : Hp) (e : AX) (d : Option Addr) : Prop := match e.fs with
  | [] => d = none
  | fs => ∃ dx vs, d = some dx ∧ H dx = some (.xd vs) ∧ RFs K as H fs vs
/-- what is wanted holds of the outcome -/
def G {α β : Type} (W : WX) (as : List Addr) (H : Hp) (σ : L2.St) (Rel : List Addr → Hp → α → β → Prop) (r : R α) (Q : β → Hp → Prop) : Prop := match r with
  | .ok x A => ∀ as' H' v, Ex K as H as' H' → RA K as' H' A → Rel as' H' x v → Q v H'
  | .ex e A => ∀ as' H' d, Ex K as H as' H' → RA K as' H' A → RX K as' H' e d → W e.cls d σ H'
  | .bad => False
/-- a function's reading -/
def rd {α β : Type} (W : WX) (Rel : List Addr → Hp → α → β → Prop) (m : Ev → Hx → R α) : L2.St → Hp → (β → Hp → Prop) → Prop := fun σ H Q =>
  ∃ as env A, RA K as H A ∧ RE K as H env σ ∧ G K W as H σ Rel (m env A) Q
def rB : List Addr → Hp → Bool → Bool → Prop := fun _ _ a b => a = b
end
section
variable {K : PySem.W.Frag} {W : WX} {as as1 : List Addr} {H H1 : Hp} {σ : L2.St} {α β γ δ : Type} {Rel : List Addr → Hp → α → β → Prop} {Rel2 : List Addr → Hp → γ → δ → Prop}
theorem G.ex {r : R α} {Q : β → Hp → Prop} (e : Ex K as H as1 H1) (g : G K W as H σ Rel r Q) : G K W as1 H1 σ Rel r Q := by
  cases r with
  | ok x A => exact fun as' H' v e' => g as' H' v (e.trans e')
  | ex x A => exact fun as' H' v e' => g as' H' v (e.trans e')
  | bad => exact g
theorem G.bind {r : R α} {k : α → Hx → R γ} {Q : δ → Hp → Prop} {Q' : β → Hp → Prop} (g : G K W as H σ Rel2 (r.bind k) Q)
    (h : ∀ x A as1 H1 v, r = .ok x A → Ex K as H as1 H1 → RA K as1 H1 A → Rel as1 H1 x v → G K W as1 H1 σ Rel2 (k x A) Q → Q' v H1) : G K W as H σ Rel r Q' := by
  cases r with
  | ok x A => exact fun as' H' v e ra rv => h x A as' H' v rfl e ra rv (G.ex e g)
  | ex x A => exact g
  | bad => exact g
theorem G.imp {r : R α} {Q Q' : β → Hp → Prop} (g : G K W as H σ Rel r Q) (h : ∀ v H', Q v H' → Q' v H') : G K W as H σ Rel r Q' := by
  cases r with
  | ok x A => exact fun as' H' v e ra rv => h _ _ (g as' H' v e ra rv)
  | ex x A => exact g
  | bad => exact g
end

/-! ### the judgements -/
section
variable {X : Cx}
theorem pe_mono {e : Expr} {t t' : TE} (h : PE X e t) (w : ∀ σ H Q, t' σ H Q → t σ H Q) : PE X e t' := ⟨fun pins s σ H Q I q => h.run pins s σ H Q I (w σ H Q q)⟩
theorem pt_mono {e : Expr} {t t' : TT} (h : PT X e t) (w : ∀ σ H Q, t' σ H Q → t σ H Q) : PT X e t' := ⟨fun pins s σ H Q I q => h.run pins s σ H Q I (w σ H Q q)⟩
theorem pw_mono {e : Expr} {t t' : TT} (h : PW X e t) (w : ∀ σ H Q, t' σ H Q → t σ H Q) : PW X e t' := ⟨fun wh pins s σ H Q I q => h.run wh pins s σ H Q I (w σ H Q q)⟩
theorem pa_mono {e : List Expr} {t t' : TA} (h : PA X e t) (w : ∀ σ H Q, t' σ H Q → t σ H Q) : PA X e t' := ⟨fun pos pins s σ H Q I q => h.run pos pins s σ H Q I (w σ H Q q)⟩
theorem po_mono {e : Option Expr} {t t' : TO} (h : PO X e t) (w : ∀ σ H Q, t' σ H Q → t σ H Q) : PO X e t' := ⟨fun pins s σ H Q I q => h.run pins s σ H Q I (w σ H Q q)⟩
end
abbrev ME := Ev → Hx → R AV
abbrev MT := Ev → Hx → R Bool
abbrev MA := Ev → Hx → R (List AV)
abbrev MO := Ev → Hx → R (Option Int)
abbrev JE (X : Cx) (W : WX) (e : Expr) (m : ME) : Prop := PE X e (rd X.K W (RV X.K) m)
abbrev JT (X : Cx) (W : WX) (e : Expr) (m : MT) : Prop := PT X e (rd X.K W rB m)
abbrev JW (X : Cx) (W : WX) (e : Expr) (m : MT) : Prop := PW X e (rd X.K W rB m)
abbrev JA (X : Cx) (W : WX) (e : List Expr) (m : MA) : Prop := PA X e (rd X.K W (RVs X.K) m)
def rI? : List Addr → Hp → Option Int → Option Int → Prop := fun _ _ a b => a = b
abbrev JO (X : Cx) (W : WX) (e : Option Expr) (m : MO) : Prop := PO X e (rd X.K W rI? m)

/-! ### values, operators, calls by values -/
/-- an operation's reading -/
def r1 (K : PySem.W.Frag) (m : AV → Hx → R AV) : V → Hp → VK → Prop := fun v H Q => ∃ W σ as A x, RA K as H A ∧ RV K as H x v ∧ G K W as H σ (RV K) (m x A) Q
def r2 (K : PySem.W.Frag) (m : AV → AV → Hx → R AV) : R2 := fun v u H Q => ∃ W σ as A x y, RA K as H A ∧ RV K as H x v ∧ RV K as H y u ∧ G K W as H σ (RV K) (m x y A) Q
def rs (K : PySem.W.Frag) (m : List AV → Hx → R AV) : List V → Hp → VK → Prop := fun vs H Q => ∃ W σ as A xs, RA K as H A ∧ RVs K as H xs vs ∧ G K W as H σ (RV K) (m xs A) Q
def rm (K : PySem.W.Frag) (m : AV → List AV → Hx → R AV) : V → List V → Hp → VK → Prop := fun v vs H Q => ∃ W σ as A x xs, RA K as H A ∧ RV K as H x v ∧ RVs K as H xs vs ∧ G K W as H σ (RV K) (m x xs A) Q
abbrev OpA (X : Cx) (f : Value → Value → Sem Value) (m : AV → AV → Hx → R AV) : Prop := OpR X f (r2 X.K m)
abbrev UnA (X : Cx) (f : Value → Sem Value) (m : AV → Hx → R AV) : Prop := UnR X f (r1 X.K m)
abbrev CallA (X : Cx) (f : Value) (m : List AV → Hx → R AV) : Prop := CallR X f (rs X.K m)
abbrev MtA (X : Cx) (id : String) (m : AV → List AV → Hx → R AV) : Prop := MtR X id (rm X.K m)
abbrev IxA (X : Cx) (m : AV → AV → Hx → R AV) : Prop := IxR X (r2 X.K m)
def rsl (K : PySem.W.Frag) (m : AV → Option Int → Option Int → Hx → R AV) : V → Option Int → Option Int → Hp → VK → Prop := fun v lo hi H Q => ∃ W σ as A x, RA K as H A ∧ RV K as H x v ∧ G K W as H σ (RV K) (m x lo hi A) Q
abbrev SlA (X : Cx) (m : AV → Option Int → Option Int → Hx → R AV) : Prop := SlR X (rsl X.K m)

/-! ### expressions -/
def mC (x : AV) : ME := fun _ A => .ok x A
def mVar (i : Nat) : ME := fun env A => match env[i]? with
  | some (some x) => .ok x A
  | _ => .bad
def mOp (f : AV → AV → Hx → R AV) (a b : ME) : ME := fun env A => (a env A).bind fun x A1 => (b env A1).bind fun y A2 => f x y A2
def mUn (f : AV → Hx → R AV) (a : ME) : ME := fun env A => (a env A).bind f
def mNil : MA := fun _ A => .ok [] A
def mCons (a : ME) (r : MA) : MA := fun env A => (a env A).bind fun x A1 => (r env A1).bind fun xs A2 => .ok (x :: xs) A2
def mTup (a : MA) : ME := fun env A => (a env A).bind fun xs A1 => if xs.length ≤ sizeLine then .ok (.tup xs) A1 else .bad
def mLst (a : MA) : ME := fun env A => (a env A).bind fun xs A1 => if xs.length ≤ sizeLine then .ok (.loc A1.length) (A1 ++ [.lst xs]) else .bad
def truth (x : AV) (A : Hx) : R Bool := match x with
  | .non => .ok false A
  | .bl b => .ok b A
  | .int i => .ok (i != 0) A
  | .str s => if s.length ≤ sizeLine then .ok ((s.length : Int) != 0) A else .bad
  | .tup ts => .ok (!ts.isEmpty) A
  | .cst ts => .ok (!ts.isEmpty) A
  | .loc n => (match A[n]? with
    | some (.lst xs) => .ok (!xs.isEmpty) A
    | _ => .bad)
  | _ => .bad
def mTru (a : ME) : MT := fun env A => (a env A).bind truth
def mNotV (a : ME) : ME := fun env A => (a env A).bind fun x A1 => (truth x A1).bind fun b A2 => .ok (.bl (!b)) A2
def mAndV (a b : ME) : ME := fun env A => (a env A).bind fun x A1 => (truth x A1).bind fun c A2 => if c = true then b env A2 else .ok x A2
def mOrV (a b : ME) : ME := fun env A => (a env A).bind fun x A1 => (truth x A1).bind fun c A2 => if c = true then .ok x A2 else b env A2
def mAnd (a b : MT) : MT := fun env A => (a env A).bind fun c A1 => if c = true then b env A1 else .ok false A1
def mOr (a b : MT) : MT := fun env A => (a env A).bind fun c A1 => if c = true then .ok true A1 else b env A1
def mNot (a : MT) : MT := fun env A => (a env A).bind fun c A1 => .ok (!c) A1
def mIfE (t : MT) (a b : ME) : ME := fun env A => (t env A).bind fun c A1 => if c = true then a env A1 else b env A1
def isB (x : AV) (A : Hx) : R Bool := match x with
  | .bl b => .ok b A
  | _ => .bad
/-- a comparison as a test -/
def mB (a : ME) : MT := fun env A => (a env A).bind isB
def mChain (f g : AV → AV → Hx → R AV) (a b c : ME) : ME := fun env A => (a env A).bind fun x A1 => (b env A1).bind fun y A2 => (f x y A2).bind fun z A3 => (isB z A3).bind fun k A4 =>
  if k = true then (c env A4).bind fun w A5 => g y w A5 else .ok (.bl false) A4
def mNoPart : MO := fun _ A => .ok none A
def mPart (a : ME) : MO := fun env A => (a env A).bind fun x A1 => match x with
  | .int i => .ok (some i) A1
  | _ => .bad
def mSl (f : AV → Option Int → Option Int → Hx → R AV) (a : ME) (lo hi : MO) : ME := fun env A => (a env A).bind fun x A1 => (lo env A1).bind fun l A2 => (hi env A2).bind fun u A3 => f x l u A3
def mCB (f : List AV → Hx → R AV) (a : MA) : ME := fun env A => (a env A).bind f
def mBM (T : String) (ty : AV → Hx → Bool) (f : AV → List AV → Hx → R AV) (o : ME) (a : MA) : ME := fun env A => (o env A).bind fun x A1 => if ty x A1 = true then (a env A1).bind fun xs A2 => f x xs A2 else .bad

section
variable {X : Cx} {W : WX} {a b c : Expr} {ma mb mc : ME} {ta tb : MT} {pos : Pos} {es : List Expr} {ms : MA}
theorem je_of {v : V} {x : AV} (h : PE X a (tC v)) (r : ∀ as H, RV X.K as H x v) : JE X W a (mC x) :=
  pe_mono h fun σ H Q ⟨as, env, A, ra, re, g⟩ => g as H v Ex.refl ra (r as H)
theorem je_var {i : Nat} (h : PE X a (tVar i)) : JE X W a (mVar i) := by
  refine pe_mono h fun σ H Q ⟨as, env, A, ra, re, g⟩ => ?_
  unfold mVar at g
  split at g
  · rename_i x e
    obtain ⟨v, h1, h2⟩ := re.at_ i x e
    exact ⟨v, h1, g as H v Ex.refl ra h2⟩
  · exact g.elim
theorem je_op {op : Operator} {f : AV → AV → Hx → R AV} (ho : OpA X (binaryOp op) f) (ha : JE X W a ma) (hb : JE X W b mb) : JE X W (.BinOp a op b pos) (mOp f ma mb) := by
  refine pe_mono (pe_op ho ha hb) fun σ H Q ⟨as, env, A, ra, re, g⟩ => ?_
  refine ⟨as, env, A, ra, re, G.bind g fun x A1 as1 H1 v _ e1 ra1 rx g1 => ?_⟩
  refine ⟨as1, env, A1, ra1, re.ex e1, G.bind g1 fun y A2 as2 H2 u _ e2 ra2 ry g2 => ?_⟩
  exact ⟨W, σ, as2, A2, x, y, ra2, rx.ex e2, ry, g2⟩
theorem je_un {op : UnaryOp} {f : AV → Hx → R AV} (ho : UnA X (unaryOp op) f) (ha : JE X W a ma) : JE X W (.UnaryOp op a pos) (mUn f ma) := by
  refine pe_mono (pe_un ho ha) fun σ H Q ⟨as, env, A, ra, re, g⟩ => ?_
  exact ⟨as, env, A, ra, re, G.bind g fun x A1 as1 H1 v _ e1 ra1 rx g1 => ⟨W, σ, as1, A1, x, ra1, rx, g1⟩⟩
theorem ja_nil : JA X W [] mNil := pa_mono pa_nil fun σ H Q ⟨as, env, A, ra, re, g⟩ => g as H [] Ex.refl ra .nil
theorem ja_cons (ha : JE X W a ma) (hr : JA X W es ms) (hs : starEach (a :: es) X.env = (false, eval a X.env) :: starEach es X.env := by rfl) : JA X W (a :: es) (mCons ma ms) := by
  refine pa_mono (pa_cons ha hr hs) fun σ H Q ⟨as, env, A, ra, re, g⟩ => ?_
  refine ⟨as, env, A, ra, re, G.bind g fun x A1 as1 H1 v _ e1 ra1 rx g1 => ?_⟩
  refine ⟨as1, env, A1, ra1, re.ex e1, G.bind g1 fun xs A2 as2 H2 vs _ e2 ra2 rxs g2 => ?_⟩
  exact g2 as2 H2 (v :: vs) Ex.refl ra2 (.cons (rx.ex e2) rxs)
theorem je_tup {x1} (h : JA X W es ms) : JE X W (.Tuple es x1 pos) (mTup ms) := by
  refine pe_mono (pe_tup h) fun σ H Q ⟨as, env, A, ra, re, g⟩ => ?_
  refine ⟨as, env, A, ra, re, G.bind g fun xs A1 as1 H1 vs _ e1 ra1 rxs g1 => ?_⟩
  split at g1
  · rename_i hl
    refine ⟨by rw [← rxs.length]; exact hl, fun p hp => g1 as1 _ (.ref p) (ex_new hp) (ra1.new hp) (.tup (.inl (.inl upd_same)) (rxs.ex (ex_new hp)))⟩
  · exact g1.elim
theorem je_lst (h : JA X W es ms) : JE X W (.List es pos) (mLst ms) := by
  refine pe_mono (pe_lst h) fun σ H Q ⟨as, env, A, ra, re, g⟩ => ?_
  refine ⟨as, env, A, ra, re, G.bind g fun xs A1 as1 H1 vs _ e1 ra1 rxs g1 => ?_⟩
  split at g1
  · rename_i hl
    refine ⟨by rw [← rxs.length]; exact hl, fun p hp => g1 (as1 ++ [p]) _ (.ref p) (ex_push hp) (ra1.push hp ⟨vs, upd_same, rxs.ex (ex_push hp)⟩) (.loc ?_)⟩
    rw [← ra1.len, List.getElem?_append_right (Nat.le_refl _)]
    simp
  · exact g1.elim
theorem truth_ok {as : List Addr} {H : Hp} {σ : L2.St} {A : Hx} {x : AV} {v : V} {Q : Bool → Hp → Prop} (ra : RA X.K as H A) (rx : RV X.K as H x v) (g : G X.K W as H σ rB (truth x A) Q) : ∃ k, TruV X.K v H k ∧ Q k H := by
  have fin : ∀ {b : Bool}, G X.K W as H σ rB (.ok b A) Q → Q b H := fun {b} g => g as H b Ex.refl ra rfl
  cases rx with
  | non => exact ⟨false, rfl, fin g⟩
  | bl b => exact ⟨b, rfl, fin g⟩
  | int i => exact ⟨_, rfl, fin g⟩
  | str s =>
    unfold truth at g
    dsimp only at g
    split at g
    · rename_i hl
      exact ⟨_, ⟨hl, rfl⟩, fin g⟩
    · exact g.elim
  | ty n => exact g.elim
  | st a => exact g.elim
  | tup h r => exact ⟨_, .inr (.inl ⟨_, h, rfl⟩), by rw [← r.isEmpty]; exact fin g⟩
  | cst h r => exact ⟨_, .inl ⟨_, h.sq, rfl⟩, by rw [← r.isEmpty]; exact fin g⟩
  | loc h =>
    unfold truth at g
    dsimp only at g
    split at g
    · rename_i e
      obtain ⟨vs, hv, rv⟩ := ra.ob _ _ _ h e
      exact ⟨_, .inl ⟨vs, .inl (.inl hv), rfl⟩, by rw [← rv.isEmpty]; exact fin g⟩
    · exact g.elim
/-- the wish of a truth is any wish -/
theorem jt_truth (ha : JE X W a ma) (he : ∀ whole, isTrue a X.env whole = (do let v ← whole; standAt a.pos; holding [v] (truthy v)) := by intro _; rfl) : JT X W a (mTru ma) := by
  refine pt_mono (pt_truth ha he) fun σ H Q ⟨as, env, A, ra, re, g⟩ => ?_
  exact ⟨as, env, A, ra, re, G.bind g fun x A1 as1 H1 v _ e1 ra1 rx g1 => truth_ok ra1 rx g1⟩
theorem je_notV (ha : JE X W a ma) : JE X W (.UnaryOp .Not a pos) (mNotV ma) := by
  refine pe_mono (pe_notT ha) fun σ H Q ⟨as, env, A, ra, re, g⟩ => ?_
  refine ⟨as, env, A, ra, re, G.bind g fun x A1 as1 H1 v _ e1 ra1 rx g1 => ?_⟩
  exact truth_ok (Q := fun k H' => Q (.bl (!k)) H') ra1 rx (G.bind g1 fun b A2 as2 H2 k _ e2 ra2 rb g2 => by cases rb; exact g2 as2 H2 _ Ex.refl ra2 (.bl _))
theorem je_one {op} (h : JE X W a ma) : JE X W (.BoolOp op [a] pos) ma := pe_one h
theorem je_andV {rest : List Expr} (ha : JE X W a ma) (hb : JE X W (.BoolOp .And (b :: rest) pos) mb) : JE X W (.BoolOp .And (a :: b :: rest) pos) (mAndV ma mb) := by
  refine pe_mono (pe_andT ha hb) fun σ H Q ⟨as, env, A, ra, re, g⟩ => ?_
  refine ⟨as, env, A, ra, re, G.bind g fun x A1 as1 H1 v _ e1 ra1 rx g1 => ?_⟩
  refine truth_ok (Q := fun k H' => if k = true then rd X.K W (RV X.K) mb σ H' Q else Q v H') ra1 rx (G.bind g1 fun b A2 as2 H2 k _ e2 ra2 rb g2 => ?_)
  cases rb
  cases b with
  | true => exact ⟨as2, env, A2, ra2, (re.ex e1).ex e2, g2⟩
  | false => exact g2 as2 H2 v Ex.refl ra2 (rx.ex e2)
theorem je_orV {rest : List Expr} (ha : JE X W a ma) (hb : JE X W (.BoolOp .Or (b :: rest) pos) mb) : JE X W (.BoolOp .Or (a :: b :: rest) pos) (mOrV ma mb) := by
  refine pe_mono (pe_orT ha hb) fun σ H Q ⟨as, env, A, ra, re, g⟩ => ?_
  refine ⟨as, env, A, ra, re, G.bind g fun x A1 as1 H1 v _ e1 ra1 rx g1 => ?_⟩
  refine truth_ok (Q := fun k H' => if k = true then Q v H' else rd X.K W (RV X.K) mb σ H' Q) ra1 rx (G.bind g1 fun b A2 as2 H2 k _ e2 ra2 rb g2 => ?_)
  cases rb
  cases b with
  | true => exact g2 as2 H2 v Ex.refl ra2 (rx.ex e2)
  | false => exact ⟨as2, env, A2, ra2, (re.ex e1).ex e2, g2⟩
theorem jw_and1 (ha : JT X W a ta) : JW X W (.BoolOp .And [a] pos) ta := pw_and1 ha
theorem jw_or1 (ha : JT X W a ta) : JW X W (.BoolOp .Or [a] pos) ta := pw_or1 ha
theorem jw_and {rest : List Expr} (ha : JT X W a ta) (hb : JW X W (.BoolOp .And (b :: rest) pos) tb) : JW X W (.BoolOp .And (a :: b :: rest) pos) (mAnd ta tb) := by
  refine pw_mono (pw_and ha hb) fun σ H Q ⟨as, env, A, ra, re, g⟩ => ?_
  refine ⟨as, env, A, ra, re, G.bind g fun x A1 as1 H1 k _ e1 ra1 rb g1 => ?_⟩
  cases rb
  cases x with
  | true => exact ⟨as1, env, A1, ra1, re.ex e1, g1⟩
  | false => exact g1 as1 H1 _ Ex.refl ra1 rfl
theorem jw_or {rest : List Expr} (ha : JT X W a ta) (hb : JW X W (.BoolOp .Or (b :: rest) pos) tb) : JW X W (.BoolOp .Or (a :: b :: rest) pos) (mOr ta tb) := by
  refine pw_mono (pw_or ha hb) fun σ H Q ⟨as, env, A, ra, re, g⟩ => ?_
  refine ⟨as, env, A, ra, re, G.bind g fun x A1 as1 H1 k _ e1 ra1 rb g1 => ?_⟩
  cases rb
  cases x with
  | true => exact g1 as1 H1 _ Ex.refl ra1 rfl
  | false => exact ⟨as1, env, A1, ra1, re.ex e1, g1⟩
theorem jt_not (ha : JT X W a ta) : JT X W (.UnaryOp .Not a pos) (mNot ta) := by
  refine pt_mono (pt_not ha) fun σ H Q ⟨as, env, A, ra, re, g⟩ => ?_
  refine ⟨as, env, A, ra, re, G.bind g fun x A1 as1 H1 k _ e1 ra1 rb g1 => ?_⟩
  cases rb
  exact g1 as1 H1 _ Ex.refl ra1 rfl
theorem je_ifE (hc : JT X W c ta) (ha : JE X W a ma) (hb : JE X W b mb) : JE X W (.IfExp c a b pos) (mIfE ta ma mb) := by
  refine pe_mono (pe_ifExp hc ha hb) fun σ H Q ⟨as, env, A, ra, re, g⟩ => ?_
  refine ⟨as, env, A, ra, re, G.bind g fun x A1 as1 H1 k _ e1 ra1 rb g1 => ?_⟩
  cases rb
  cases x with
  | true => exact ⟨as1, env, A1, ra1, re.ex e1, g1⟩
  | false => exact ⟨as1, env, A1, ra1, re.ex e1, g1⟩
theorem je_cmp {op : CmpOp} {f : AV → AV → Hx → R AV} (ho : OpA X (compareOp op) f) (ha : JE X W a ma) (hb : JE X W b mb) (hm : behindInMarks op b = false) : JE X W (.Compare a [op] [b] pos) (mOp f ma mb) := by
  refine pe_mono (pe_cmpR ho ha hb hm) fun σ H Q ⟨as, env, A, ra, re, g⟩ => ?_
  refine ⟨as, env, A, ra, re, G.bind g fun x A1 as1 H1 v _ e1 ra1 rx g1 => ?_⟩
  refine ⟨as1, env, A1, ra1, re.ex e1, G.bind g1 fun y A2 as2 H2 u _ e2 ra2 ry g2 => ?_⟩
  exact ⟨W, σ, as2, A2, x, y, ra2, rx.ex e2, ry, g2⟩
theorem isB_ok {as : List Addr} {H : Hp} {σ : L2.St} {A : Hx} {x : AV} {v : V} {Q : Bool → Hp → Prop} {K : PySem.W.Frag} (ra : RA K as H A) (rx : RV K as H x v) (g : G K W as H σ rB (isB x A) Q) : ∃ k, v = .bl k ∧ Q k H := by
  cases rx with
  | bl b => exact ⟨b, rfl, g as H b Ex.refl ra rfl⟩
  | _ => exact g.elim
theorem jt_cmp {op : CmpOp} {f : AV → AV → Hx → R AV} (ho : OpA X (compareOp op) f) (ha : JE X W a ma) (hb : JE X W b mb) (hm : behindInMarks op b = false) : JT X W (.Compare a [op] [b] pos) (mB (mOp f ma mb)) := by
  refine pt_mono (pt_cmpR ho ha hb hm) fun σ H Q ⟨as, env, A, ra, re, g⟩ => ?_
  show tTest (tOp _ _ _) σ H Q
  have g' : G X.K W as H σ rB ((ma env A).bind fun x A1 => (mb env A1).bind fun y A2 => (f x y A2).bind isB) Q := by
    have e : mB (mOp f ma mb) env A = (ma env A).bind fun x A1 => (mb env A1).bind fun y A2 => (f x y A2).bind isB := by
      unfold mB mOp
      cases ma env A with
      | ok x A1 =>
        rw [R.bind_ok, R.bind_ok]
        cases mb env A1 <;> rfl
      | _ => rfl
    rw [e] at g
    exact g
  refine ⟨as, env, A, ra, re, G.bind g' fun x A1 as1 H1 v _ e1 ra1 rx g1 => ?_⟩
  refine ⟨as1, env, A1, ra1, re.ex e1, G.bind g1 fun y A2 as2 H2 u _ e2 ra2 ry g2 => ?_⟩
  refine ⟨W, σ, as2, A2, x, y, ra2, rx.ex e2, ry, G.bind g2 fun z A3 as3 H3 w _ e3 ra3 rz g3 => ?_⟩
  exact isB_ok ra3 rz g3
theorem je_chain {op op' : CmpOp} {f f' : AV → AV → Hx → R AV} (ho : OpA X (compareOp op) f) (ho' : OpA X (compareOp op') f') (ha : JE X W a ma) (hb : JE X W b mb) (hc : JE X W c mc)
    (hm : lastMarks [op, op'] [b, c] = false := by with_unfolding_all rfl) : JE X W (.Compare a [op, op'] [b, c] pos) (mChain f f' ma mb mc) := by
  refine pe_mono (pe_chain ho ho' ha hb hc hm) fun σ H Q ⟨as, env, A, ra, re, g⟩ => ?_
  refine ⟨as, env, A, ra, re, G.bind g fun x A1 as1 H1 v _ e1 ra1 rx g1 => ?_⟩
  refine ⟨as1, env, A1, ra1, re.ex e1, G.bind g1 fun y A2 as2 H2 u _ e2 ra2 ry g2 => ?_⟩
  refine ⟨W, σ, as2, A2, x, y, ra2, rx.ex e2, ry, G.bind g2 fun z A3 as3 H3 w _ e3 ra3 rz g3 => ?_⟩
  refine isB_ok (Q := fun k H3 => if k = true then rd X.K W (RV X.K) mc σ H3 fun w' H4 => r2 X.K f' u w' H4 Q else Q (.bl false) H3) ra3 rz (G.bind g3 fun k A4 as4 H4 k' _ e4 ra4 rb g4 => ?_)
  cases rb
  cases k with
  | true =>
    refine ⟨as4, env, A4, ra4, (((re.ex e1).ex e2).ex e3).ex e4, G.bind g4 fun q A5 as5 H5 p _ e5 ra5 rq g5 => ?_⟩
    exact ⟨W, σ, as5, A5, y, q, ra5, ((ry.ex e3).ex e4).ex e5, rq, g5⟩
  | false => exact g4 as4 H4 _ Ex.refl ra4 (.bl _)
theorem jt_val (h : JE X W a ma) (he : ∀ whole, isTrue a X.env whole = (do let v ← whole; standAt a.pos; holding [v] (truthy v)) := by intro _; rfl) : JT X W a (mTru ma) := jt_truth h he
theorem jt_chain {op op' : CmpOp} {f f' : AV → AV → Hx → R AV} (ho : OpA X (compareOp op) f) (ho' : OpA X (compareOp op') f') (ha : JE X W a ma) (hb : JE X W b mb) (hc : JE X W c mc)
    (hm : lastMarks [op, op'] [b, c] = false := by with_unfolding_all rfl) : JT X W (.Compare a [op, op'] [b, c] pos) (mB (mChain f f' ma mb mc)) := by
  refine pt_mono (pt_chain ho ho' ha hb hc hm) fun σ H Q ⟨as, env, A, ra, re, g⟩ => ?_
  have h2 : ∃ as env A, RA X.K as H A ∧ RE X.K as H env σ ∧ G X.K W as H σ (RV X.K) (mChain f f' ma mb mc env A) (fun v H' => ∃ k, v = .bl k ∧ Q k H') :=
    ⟨as, env, A, ra, re, G.bind g fun x A1 as1 H1 v _ e1 ra1 rx g1 => isB_ok ra1 rx g1⟩
  obtain ⟨as, env, A, ra, re, g⟩ := h2
  refine ⟨as, env, A, ra, re, G.bind g fun x A1 as1 H1 v _ e1 ra1 rx g1 => ?_⟩
  refine ⟨as1, env, A1, ra1, re.ex e1, G.bind g1 fun y A2 as2 H2 u _ e2 ra2 ry g2 => ?_⟩
  refine ⟨W, σ, as2, A2, x, y, ra2, rx.ex e2, ry, G.bind g2 fun z A3 as3 H3 w _ e3 ra3 rz g3 => ?_⟩
  refine isB_ok (Q := fun k H3 => if k = true then rd X.K W (RV X.K) mc σ H3 fun w' H4 => r2 X.K f' u w' H4 (fun v H' => ∃ k, v = .bl k ∧ Q k H') else (∃ k, V.bl false = .bl k ∧ Q k H3)) ra3 rz (G.bind g3 fun k A4 as4 H4 k' _ e4 ra4 rb g4 => ?_)
  cases rb
  cases k with
  | true =>
    refine ⟨as4, env, A4, ra4, (((re.ex e1).ex e2).ex e3).ex e4, G.bind g4 fun q A5 as5 H5 p _ e5 ra5 rq g5 => ?_⟩
    exact ⟨W, σ, as5, A5, y, q, ra5, ((ry.ex e3).ex e4).ex e5, rq, g5⟩
  | false => exact g4 as4 H4 _ Ex.refl ra4 (.bl _)
/-! ### subscripts, slices, calls -/
theorem je_ix {f : AV → AV → Hx → R AV} (hr : IxA X f) (ha : JE X W a ma) (hb : JE X W b mb) (hs : PlainIx b := by exact fun _ _ => rfl) : JE X W (.Subscript a b pos) (mOp f ma mb) := by
  refine pe_mono (pe_ix hr ha hb hs) fun σ H Q ⟨as, env, A, ra, re, g⟩ => ?_
  refine ⟨as, env, A, ra, re, G.bind g fun x A1 as1 H1 v _ e1 ra1 rx g1 => ?_⟩
  refine ⟨as1, env, A1, ra1, re.ex e1, G.bind g1 fun y A2 as2 H2 u _ e2 ra2 ry g2 => ?_⟩
  exact ⟨W, σ, as2, A2, x, y, ra2, rx.ex e2, ry, g2⟩
theorem jo_none : JO X W none mNoPart := po_mono po_none fun σ H Q ⟨as, env, A, ra, re, g⟩ => g as H none Ex.refl ra rfl
theorem jo_some (h : JE X W a ma) : JO X W (some a) (mPart ma) := by
  refine po_mono (po_some h) fun σ H Q ⟨as, env, A, ra, re, g⟩ => ?_
  refine ⟨as, env, A, ra, re, G.bind g fun x A1 as1 H1 v _ e1 ra1 rx g1 => ?_⟩
  cases rx with
  | int i => exact ⟨i, rfl, g1 as1 H1 _ Ex.refl ra1 rfl⟩
  | _ => exact g1.elim
theorem je_slice {f : AV → Option Int → Option Int → Hx → R AV} {lo hi : Option Expr} {ml mh : MO} {p2 : Pos} (hr : SlA X f) (ha : JE X W a ma) (hl : JO X W lo ml) (hh : JO X W hi mh) : JE X W (.Subscript a (.Slice lo hi none p2) pos) (mSl f ma ml mh) := by
  refine pe_mono (pe_slice hr ha hl hh) fun σ H Q ⟨as, env, A, ra, re, g⟩ => ?_
  refine ⟨as, env, A, ra, re, G.bind g fun x A1 as1 H1 v _ e1 ra1 rx g1 => ?_⟩
  refine ⟨as1, env, A1, ra1, re.ex e1, G.bind g1 fun y A2 as2 H2 u _ e2 ra2 ry g2 => ?_⟩
  cases ry
  refine ⟨as2, env, A2, ra2, (re.ex e1).ex e2, G.bind g2 fun z A3 as3 H3 w _ e3 ra3 rz g3 => ?_⟩
  cases rz
  exact ⟨W, σ, as3, A3, x, ra3, (rx.ex e2).ex e3, g3⟩
theorem rs_of {f : List AV → Hx → R AV} {σ : L2.St} {H : Hp} {Q : VK} {K : PySem.W.Frag} (h : rd K W (RV K) (mCB f ms) σ H Q) : tCB (rs K f) (rd K W (RVs K) ms) σ H Q := by
  obtain ⟨as, env, A, ra, re, g⟩ := h
  exact ⟨as, env, A, ra, re, G.bind g fun x A1 as1 H1 v _ e1 ra1 rx g1 => ⟨W, σ, as1, A1, x, ra1, rx, g1⟩⟩
theorem je_callB {f : List AV → Hx → R AV} {id : String} {x : Str} {p : Pos} (hc : CallA X (.builtin id) f) (hg : Gl X x) (hm : X.mg x = none) (hv : bootBuiltins x = some (.builtin id)) (ha : JA X W (a :: es) ms) (hn : x ≠ "__name__" := by decide) (hdb : (x == ("__debug__" : Str)) = false := by decide)
    (he : starEach (a :: es) X.env = (false, eval a X.env) :: starEach es X.env := by rfl) (hpl : (backTo pos (starEach es X.env)).any (·.1) = false := by rfl) : JE X W (.Call (.Name x p) (a :: es) [] pos) (mCB f ms) :=
  pe_mono (pe_callB hc hg hm hv ha hn hdb he hpl) fun σ H Q h => rs_of h
theorem je_bm {f : AV → List AV → Hx → R AV} {ty : AV → Hx → Bool} {T id : String} {name : Str} {apos cpos : Pos} {o e : Expr} {mo : ME} (pa : PlainAttrs T) (slot : Slot T name id) (hty : typeOf (.builtin id) = pure (.type "method_descriptor")) (hm : MtA X id f) (ho : JE X W o mo) (ha : JA X W (e :: es) ms)
    (ht : ∀ as H A x v, RA X.K as H A → RV X.K as H x v → ty x A = true → tyV X.K T v H)
    (hbase : attributeBase o name X.env (eval o X.env) = eval o X.env := by rfl)
    (hfew : ((backTo cpos (starEach (e :: es) X.env)).all (fun x => !x.1) && (backToKw cpos (keywordEach [] X.env)).all (fun x => x.1.isSome)
      && decide ((e :: es).length + ([] : List Keyword).length + (if ([] : List Keyword).isEmpty then 0 else 1) < 30)) = true := by rfl)
    (hline : (apos.endLine == cpos.line) = true := by rfl) (hs : starEach (e :: es) X.env = (false, eval e X.env) :: starEach es X.env := by rfl) (hplain : (backTo cpos (starEach es X.env)).any (·.1) = false := by rfl) :
    JE X W (.Call (.Attribute o name apos) (e :: es) [] cpos) (mBM T ty f mo ms) := by
  refine pe_mono (pe_bm pa slot hty hm ho ha hbase hfew hline hs hplain) fun σ H Q ⟨as, env, A, ra, re, g⟩ => ?_
  refine ⟨as, env, A, ra, re, G.bind g fun x A1 as1 H1 v _ e1 ra1 rx g1 => ?_⟩
  split at g1
  · rename_i t
    refine ⟨ht _ _ _ _ _ ra1 rx t, as1, env, A1, ra1, re.ex e1, G.bind g1 fun xs A2 as2 H2 vs _ e2 ra2 rxs g2 => ?_⟩
    exact ⟨W, σ, as2, A2, x, xs, ra2, rx.ex e2, rxs, g2⟩
  · exact g1.elim
theorem je_bm0 {f : AV → List AV → Hx → R AV} {ty : AV → Hx → Bool} {T id : String} {name : Str} {apos cpos : Pos} {o : Expr} {mo : ME} (pa : PlainAttrs T) (slot : Slot T name id) (hty : typeOf (.builtin id) = pure (.type "method_descriptor")) (hm : MtA X id f) (ho : JE X W o mo)
    (ht : ∀ as H A x v, RA X.K as H A → RV X.K as H x v → ty x A = true → tyV X.K T v H)
    (hbase : attributeBase o name X.env (eval o X.env) = eval o X.env := by rfl) (hline : (apos.endLine == cpos.line) = true := by rfl) :
    JE X W (.Call (.Attribute o name apos) [] [] cpos) (mBM T ty f mo mNil) := by
  refine pe_mono (pe_bm0 pa slot hty hm ho hbase hline) fun σ H Q ⟨as, env, A, ra, re, g⟩ => ?_
  refine ⟨as, env, A, ra, re, G.bind g fun x A1 as1 H1 v _ e1 ra1 rx g1 => ?_⟩
  split at g1
  · rename_i t
    exact ⟨ht _ _ _ _ _ ra1 rx t, W, σ, as1, A1, x, [], ra1, rx, .nil, g1⟩
  · exact g1.elim
end
end Am

set_option Elab.async false
set_option linter.all false
set_option maxRecDepth 100000
set_option maxHeartbeats 4000000
/-! Tm: a tuple, no times and once. -/
namespace Kb
open PySem PySem.Spec PyProof.Rows L2
theorem mul_same (l : Addr) (items : Array Value) (n : Nat) (dd : Option Addr) (sl : Array (Option Value)) (x : Int) (u : Tok) (c0 : (decide (x < -(2 ^ 63)) || decide (x ≥ 2 ^ 63)) = false) (c1 : (items.isEmpty || x == 1) = true) :
    Meets (Builtin.«tuple.__mul__» ⟨[.ref l, .int x u], []⟩) (fun _ R s => s.heap.get? l = some { cls := .type "tuple", dict := dd, data := .seq items n, slots := sl } ∧ R (.ok (.ret (Value.ref l))) s) :=
  .of_wp fun prog w A R s h => by
    obtain ⟨hp, g, d, tk, os⟩ := s
    obtain ⟨hl, h⟩ := h
    have f1 := AutoSeq1.idx_int
    wp_walk using wpAny_loadPart' hl
    repeat (first
      | (refine wpAny_ite_false (decide_eq_false (by rw [c0]; exact Bool.false_ne_true)) ?_; wp_walk using wpAny_loadPart' hl)
      | (refine wpAny_ite_true (decide_eq_true c1) ?_; wp_walk using wpAny_loadPart' hl))
    exact ⟨_, rfl, h⟩
theorem mul_none (l : Addr) (items : Array Value) (n : Nat) (dd : Option Addr) (sl : Array (Option Value)) (x : Int) (u : Tok) (c0 : (decide (x < -(2 ^ 63)) || decide (x ≥ 2 ^ 63)) = false) (c1 : (items.isEmpty || x == 1) = false) (c2 : (decide (x ≤ 0) || items.isEmpty) = true) :
    Meets (Builtin.«tuple.__mul__» ⟨[.ref l, .int x u], []⟩) (fun _ R s => s.heap.get? l = some { cls := .type "tuple", dict := dd, data := .seq items n, slots := sl } ∧
      R (.ok (.ret (Value.ref s.heap.objs.size))) { s with heap := s.heap.push { cls := Value.type "tuple", data := Data.seq #[] }, toks := s.toks }) :=
  .of_wp fun prog w A R s h => by
    obtain ⟨hp, g, d, tk, os⟩ := s
    obtain ⟨hl, h⟩ := h
    have f1 := AutoSeq1.idx_int
    wp_walk using wpAny_loadPart' hl
    repeat (first
      | (refine wpAny_ite_false (decide_eq_false (by rw [c0]; exact Bool.false_ne_true)) ?_; wp_walk using wpAny_loadPart' hl)
      | (refine wpAny_ite_false (decide_eq_false (by rw [c1]; exact Bool.false_ne_true)) ?_; wp_walk using wpAny_loadPart' hl)
      | (refine wpAny_ite_true (decide_eq_true c2) ?_; wp_walk using wpAny_loadPart' hl))
    exact ⟨_, rfl, h⟩
def rRepS (K : PySem.W.Frag) : R2 := fun x y H Q => ∃ l k xs, x = .ref l ∧ y = .int k ∧ SqT K H l xs ∧ (k = 1 ∨ xs = []) ∧ -(2 ^ 63) ≤ k ∧ k < 2 ^ 63 ∧ Q (.ref l) H
def rRep0 (K : PySem.W.Frag) : R2 := fun x y H Q => ∃ l k xs, x = .ref l ∧ y = .int k ∧ SqT K H l xs ∧ xs ≠ [] ∧ k ≤ 0 ∧ -(2 ^ 63) ≤ k ∧ ∀ p, H p = none → Q (.ref p) (upd H p (.tup []))
section
variable {X : Cx}
theorem op_repS : OpR X (binaryOp .Mult) (rRepS X.K) := by
  intro pins s σ H x y v u Q I rx ry h
  obtain ⟨l, k, xs, rfl, rfl, hT, ho1, h1, h2, q⟩ := h
  cases rx
  obtain ⟨t, rfl⟩ := ry
  obtain ⟨its, r, ⟨⟨cls, dd, data, sl⟩, ho, hc, n, hd⟩, hs⟩ := I.tuple hT
  simp only at hc hd
  subst hc hd
  have hle : its.length = xs.length := r.length.symm
  have c0 : (decide (k < -(2 ^ 63)) || decide (k ≥ 2 ^ 63)) = false := by
    rw [decide_eq_false (by omega), decide_eq_false (by omega)] <;> rfl
  have c1 : (its.toArray.isEmpty || k == 1) = true := by
    rcases ho1 with rfl | rfl
    · simp
    · rw [List.eq_nil_of_length_eq_zero (l := its) hle]
      rfl
  exact wpAny_binaryOp_repeat_ref (T := "tuple") (U := "int") (by decide) ⟨_, ho, rfl⟩ (fun s' => typeIs_int s' k t) noFill_tuple_mul F.fills_int_mul F.slot_int_rmul repeat_tuple F.slot_int_index.lookup
    (call_meets F.slot_int_rmul (typeIs_int s k t) F.entry_int_rmul (F.args_int_rmul_2 _ _) (int_rmul_tuple k t l its.toArray n dd sl)
      ⟨ho, rfl, ⟨_, ho, rfl⟩, call_meets F.slot_tuple_mul ⟨_, ho, rfl⟩ F.entry_tuple_mul (F.args_tuple_mul_2 _ _) (mul_same l its.toArray n dd sl k t c0 c1) ⟨ho, .ref l, H, I, rfl, q⟩⟩)
theorem op_rep0 : OpR X (binaryOp .Mult) (rRep0 X.K) := by
  intro pins s σ H x y v u Q I rx ry h
  obtain ⟨l, k, xs, rfl, rfl, hT, hne, h1, h2, q⟩ := h
  cases rx
  obtain ⟨t, rfl⟩ := ry
  obtain ⟨its, r, ⟨⟨cls, dd, data, sl⟩, ho, hc, n, hd⟩, hs⟩ := I.tuple hT
  simp only at hc hd
  subst hc hd
  have hle : its.length = xs.length := r.length.symm
  have hn : its ≠ [] := fun e => hne (by
    rw [e] at hle
    exact List.eq_nil_of_length_eq_zero hle.symm)
  have hi : its.toArray.isEmpty = false := by
    cases its with
    | nil => exact absurd rfl hn
    | cons a b => rfl
  have c0 : (decide (k < -(2 ^ 63)) || decide (k ≥ 2 ^ 63)) = false := by
    rw [decide_eq_false (by omega), decide_eq_false (by omega)] <;> rfl
  have c1 : (its.toArray.isEmpty || k == 1) = false := by
    rw [hi, Bool.false_or]
    exact beq_eq_false_iff_ne.mpr (by omega)
  have c2 : (decide (k ≤ 0) || its.toArray.isEmpty) = true := by
    rw [hi, Bool.or_false]
    exact decide_eq_true h1
  refine wpAny_binaryOp_repeat_ref (T := "tuple") (U := "int") (by decide) ⟨_, ho, rfl⟩ (fun s' => typeIs_int s' k t) noFill_tuple_mul F.fills_int_mul F.slot_int_rmul repeat_tuple F.slot_int_index.lookup
    (call_meets F.slot_int_rmul (typeIs_int s k t) F.entry_int_rmul (F.args_int_rmul_2 _ _) (int_rmul_tuple k t l its.toArray n dd sl)
      ⟨ho, rfl, ⟨_, ho, rfl⟩, call_meets F.slot_tuple_mul ⟨_, ho, rfl⟩ F.entry_tuple_mul (F.args_tuple_mul_2 _ _) (mul_none l its.toArray n dd sl k t c0 c1 c2) ⟨ho, ?_⟩⟩)
  refine ⟨.ref s.heap.objs.size, _, I.laid (t' := s.toks) (o := .tup []) (fun b ob q => Heap.get?_push_of_some _ q) (Nat.le_refl _) ?_, rfl, q _ (I.hok.fresh (Nat.le_refl _))⟩
  exact ⟨by simp, _, .nil, IsTup.new _ _⟩
end
end Kb

set_option Elab.async false
set_option linter.all false
set_option maxRecDepth 100000
set_option maxHeartbeats 4000000
/-! Am3: operators on values. -/
namespace Am
open PySem PySem.Spec PyProof.Rows L2
/-! ### data -/
def allD (f : AV → Option PyData) : List AV → Option (List PyData)
  | [] => some []
  | x :: r => (f x).bind fun d => (allD f r).map (d :: ·)
def toD (A : Hx) : Nat → AV → Option PyData
  | _, .non => some .none
  | _, .bl b => some (.bool b)
  | _, .int i => some (.int i)
  | _, .str x => some (.str x)
  | k + 1, .tup ts => (allD (toD A k) ts).map .tuple
  | k + 1, .cst ts => (allD (toD A k) ts).map .list
  | k + 1, .loc n => (match A[n]? with
    | some (.lst xs) => (allD (toD A k) xs).map .list
    | _ => none)
  | _, _ => none
section
variable {K : PySem.W.Frag} {as : List Addr} {H : Hp} {A : Hx}
theorem allD_dp {f : AV → Option PyData} (hf : ∀ x d v, f x = some d → RV K as H x v → Dp K H v d) : ∀ {xs : List AV} {ds : List PyData} {vs : List V}, allD f xs = some ds → RVs K as H xs vs → DpAll K H vs ds
  | _, _, _, e, .nil => by
    simp [allD] at e
    subst e
    exact .nil
  | _, _, _, e, .cons h r => by
    simp only [allD] at e
    obtain ⟨d, e1, e2⟩ := Option.bind_eq_some_iff.mp e
    obtain ⟨ds, e3, rfl⟩ := Option.map_eq_some_iff.mp e2
    exact .cons (hf _ _ _ e1 h) (allD_dp hf e3 r)
theorem toD_dp (ra : RA K as H A) : ∀ (k : Nat) (x : AV) (d : PyData) (v : V), toD A k x = some d → RV K as H x v → Dp K H v d
  | k, .non, _, _, e, .non => by simp [toD] at e; subst e; exact .non
  | k, .bl b, _, _, e, .bl _ => by simp [toD] at e; subst e; exact .bl b
  | k, .int i, _, _, e, .int _ => by simp [toD] at e; subst e; exact .int i
  | k, .str x, _, _, e, .str _ => by simp [toD] at e; subst e; exact .str x
  | 0, .ty n, _, _, e, .ty _ => by simp [toD] at e
  | k + 1, .ty n, _, _, e, .ty _ => by simp [toD] at e
  | 0, .st a, _, _, e, .st _ => by simp [toD] at e
  | k + 1, .st a, _, _, e, .st _ => by simp [toD] at e
  | 0, .tup ts, _, _, e, .tup _ _ => by simp [toD] at e
  | k + 1, .tup ts, _, _, e, .tup h r => by
    simp only [toD] at e
    obtain ⟨ds, e1, rfl⟩ := Option.map_eq_some_iff.mp e
    exact .tup h (allD_dp (fun x d v => toD_dp ra k x d v) e1 r)
  | 0, .cst ts, _, _, e, .cst _ _ => by simp [toD] at e
  | k + 1, .cst ts, _, _, e, .cst h r => by
    simp only [toD] at e
    obtain ⟨ds, e1, rfl⟩ := Option.map_eq_some_iff.mp e
    exact .lst h.sq (allD_dp (fun x d v => toD_dp ra k x d v) e1 r)
  | 0, .loc n, _, _, e, .loc _ => by simp [toD] at e
  | k + 1, .loc n, _, _, e, .loc h => by
    simp only [toD] at e
    split at e
    · rename_i q
      obtain ⟨ds, e1, rfl⟩ := Option.map_eq_some_iff.mp e
      obtain ⟨vs, hv, rv⟩ := ra.ob _ _ _ h q
      exact .lst (.inl (.inl hv)) (allD_dp (fun x d v => toD_dp ra k x d v) e1 rv)
    · cases e
end
/-- equal as Python has it -/
def eqD (A : Hx) (x y : AV) : R Bool := match toD A 60 x, toD A 60 y with
  | some d, some e => if SeqAt.shaped d = true ∧ SeqAt.shaped e = true then .ok (PyData.eqv d e) A else .bad
  | _, _ => .bad
def oEq (x y : AV) (A : Hx) : R AV := (eqD A x y).bind fun b A => .ok (.bl b) A
def oNe (x y : AV) (A : Hx) : R AV := (eqD A x y).bind fun b A => .ok (.bl (!b)) A
def listOf (A : Hx) (x : AV) : Option (List AV) := match x with
  | .cst ts => some ts
  | .loc n => (match A[n]? with
    | some (.lst xs) => some xs
    | _ => none)
  | _ => none
def mutOf (A : Hx) (x : AV) : Option (Nat × List AV) := match x with
  | .loc n => (match A[n]? with
    | some (.lst xs) => some (n, xs)
    | _ => none)
  | _ => none
section
variable {K : PySem.W.Frag} {as : List Addr} {H : Hp} {A : Hx} {x : AV} {v : V} {xs : List AV}
theorem listOf_ok (ra : RA K as H A) (rx : RV K as H x v) (e : listOf A x = some xs) : ∃ p vs, v = .ref p ∧ SqL K H p vs ∧ RVs K as H xs vs := by
  cases rx with
  | loc h =>
    unfold listOf at e
    dsimp only at e
    split at e
    · rename_i q
      cases e
      obtain ⟨vs, hv, rv⟩ := ra.ob _ _ _ h q
      exact ⟨_, vs, rfl, .inl (.inl hv), rv⟩
    · cases e
  | cst h r =>
    cases e
    exact ⟨_, _, rfl, h.sq, r⟩
  | _ => cases e
theorem mutOf_ok {n : Nat} (ra : RA K as H A) (rx : RV K as H x v) (e : mutOf A x = some (n, xs)) : ∃ p vs, v = .ref p ∧ as[n]? = some p ∧ A[n]? = some (.lst xs) ∧ H p = some (.lst vs) ∧ RVs K as H xs vs := by
  cases rx with
  | loc h =>
    unfold mutOf at e
    dsimp only at e
    split at e
    · rename_i q
      cases e
      obtain ⟨vs, hv, rv⟩ := ra.ob _ _ _ h q
      exact ⟨_, vs, rfl, h, q, hv, rv⟩
    · cases e
  | _ => cases e
/-- a list changes -/
theorem RA.lset {n : Nat} {p : Addr} {vs ws : List V} {ys : List AV} (ra : RA K as H A) (h : as[n]? = some p) (hv : H p = some (.lst vs)) (r : RVs K as H ys ws) : RA K as (upd H p (.lst ws)) (A.set n (.lst ys)) :=
  ra.set h hv rfl ⟨ws, upd_same, r.ex (ex_mut hv rfl)⟩
end
/-- x in xs -/
def anyD (A : Hx) (d : PyData) (xs : List AV) : R Bool := match allD (toD A 59) xs with
  | some ds => if SeqAt.shaped d = true ∧ SeqAt.shaped (.list ds) = true ∧ SeqAt.shaped (.tuple ds) = true then .ok (ds.any fun z => PyData.eqv z d) A else .bad
  | none => .bad
def inD (A : Hx) (x y : AV) : R Bool := match toD A 60 x with
  | some d => (match y with
    | .tup ts => anyD A d ts
    | y => (match listOf A y with
      | some xs => anyD A d xs
      | none => .bad))
  | none => .bad
def oIn (x y : AV) (A : Hx) : R AV := (inD A x y).bind fun b A => .ok (.bl b) A
def oNotIn (x y : AV) (A : Hx) : R AV := (inD A x y).bind fun b A => .ok (.bl (!b)) A

def small (i : Int) : Prop := -(2 ^ 64) < i ∧ i < 2 ^ 64
instance (i : Int) : Decidable (small i) := by unfold small; infer_instance
def wide (i : Int) : Prop := i.natAbs.log2 < 4000
instance (i : Int) : Decidable (wide i) := by unfold wide; infer_instance
def oAdd (x y : AV) (A : Hx) : R AV := match x, y with
  | .int i, .int j => .ok (.int (i + j)) A
  | .str i, .str j => if i.length + j.length ≤ sizeLine then .ok (.str (i ++ j)) A else .bad
  | .tup xs, .tup ys => if xs.length + ys.length ≤ sizeLine then .ok (.tup (xs ++ ys)) A else .bad
  | .loc n, .loc m => (match A[n]?, A[m]? with
    | some (.lst xs), some (.lst ys) => if xs.length + ys.length ≤ sizeLine then .ok (.loc A.length) (A ++ [.lst (xs ++ ys)]) else .bad
    | _, _ => .bad)
  | _, _ => .bad
def oSub (x y : AV) (A : Hx) : R AV := match x, y with
  | .int i, .int j => .ok (.int (i - j)) A
  | _, _ => .bad
def oMul (x y : AV) (A : Hx) : R AV := match x, y with
  | .int i, .int j => if small i ∨ small j ∨ (wide i ∧ wide j) then .ok (.int (i * j)) A else .bad
  | .tup xs, .int k => if -1000 ≤ k ∧ k ≤ 1000 ∧ xs.length ≤ 1000 then .ok (.tup (List.replicate k.toNat xs).flatten) A else .bad
  | .loc n, .int k => (match A[n]? with
    | some (.lst xs) => if 0 ≤ k ∧ k ≤ 1000000 ∧ xs.length * k.toNat ≤ sizeLine then .ok (.loc A.length) (A ++ [.lst (List.replicate k.toNat xs).flatten]) else .bad
    | _ => .bad)
  | _, _ => .bad
def oFdiv (x y : AV) (A : Hx) : R AV := match x, y with
  | .int i, .int j => if 0 < j ∧ wide j then .ok (.int (i / j)) A else .bad
  | _, _ => .bad
def oMod (x y : AV) (A : Hx) : R AV := match x, y with
  | .int i, .int j => if 0 < j then .ok (.int (i % j)) A else .bad
  | _, _ => .bad
def oPow (x y : AV) (A : Hx) : R AV := match x, y with
  | .int i, .int j => if 0 ≤ j ∧ j ≤ 1000 ∧ small i then .ok (.int (i ^ j.toNat)) A else .bad
  | _, _ => .bad
def oLt (x y : AV) (A : Hx) : R AV := match x, y with
  | .int i, .int j => .ok (.bl (decide (i < j))) A
  | _, _ => .bad
def oLe (x y : AV) (A : Hx) : R AV := match x, y with
  | .int i, .int j => .ok (.bl (decide (i ≤ j))) A
  | _, _ => .bad
def oGt (x y : AV) (A : Hx) : R AV := match x, y with
  | .int i, .int j => .ok (.bl (decide (j < i))) A
  | _, _ => .bad
def oGe (x y : AV) (A : Hx) : R AV := match x, y with
  | .int i, .int j => .ok (.bl (decide (j ≤ i))) A
  | _, _ => .bad
def isNon : AV → Bool
  | .non => true
  | _ => false
def oIs (x y : AV) (A : Hx) : R AV := match x, y with
  | .bl a, .bl b => .ok (.bl (a == b)) A
  | x, .non => .ok (.bl (isNon x)) A
  | _, _ => .bad
def oIsNot (x y : AV) (A : Hx) : R AV := match x, y with
  | .bl a, .bl b => .ok (.bl (a != b)) A
  | x, .non => .ok (.bl (!isNon x)) A
  | _, _ => .bad
def oNeg (x : AV) (A : Hx) : R AV := match x with
  | .int i => .ok (.int (-i)) A
  | _ => .bad
def oIx (x y : AV) (A : Hx) : R AV := match y with
  | .int i => (match x with
    | .tup ts => (match atI ts i with
      | some z => .ok z A
      | none => .bad)
    | x => (match listOf A x with
      | some xs => (match atI xs i with
        | some z => .ok z A
        | none => .bad)
      | none => .bad))
  | _ => .bad
def cutA (xs : List AV) (lo hi : Option Int) : List AV := (xs.drop (HT.sIx xs.length 0 lo)).take (HT.sIx xs.length xs.length hi - HT.sIx xs.length 0 lo)
def oSl (x : AV) (lo hi : Option Int) (A : Hx) : R AV := match x with
  | .tup ts => .ok (.tup (cutA ts lo hi)) A
  | x => (match listOf A x with
    | some xs => .ok (.loc A.length) (A ++ [.lst (cutA xs lo hi)])
    | none => .bad)

section
variable {X : Cx} {W : WX}
theorem fin1 {K : PySem.W.Frag} {as : List Addr} {H : Hp} {σ : L2.St} {A : Hx} {x : AV} {v : V} {Q : VK} (ra : RA K as H A) (g : G K W as H σ (RV K) (.ok x A) Q) (r : RV K as H x v) : Q v H := g as H v Ex.refl ra r
theorem atI_of {xs : List AV} {vs : List V} {i : Int} {z : AV} {K : PySem.W.Frag} {as : List Addr} {H : Hp} (r : RVs K as H xs vs) (e : atI xs i = some z) : ∃ w, atI vs i = some w ∧ RV K as H z w := by
  unfold atI at e ⊢
  obtain ⟨j, e1, e2⟩ := Option.bind_eq_some_iff.mp e
  obtain ⟨w, e3, r1⟩ := r.get e2
  exact ⟨w, by rw [← r.length, e1]; exact e3, r1⟩
theorem eqD_ok {as : List Addr} {H : Hp} {σ : L2.St} {A : Hx} {x y : AV} {v u : V} {K : PySem.W.Frag} {Q : Bool → Hp → Prop} (ra : RA K as H A) (rx : RV K as H x v) (ry : RV K as H y u) (g : G K W as H σ rB (eqD A x y) Q) :
    ∃ d e, Dp K H v d ∧ Dp K H u e ∧ SeqAt.shaped d = true ∧ SeqAt.shaped e = true ∧ Q (PyData.eqv d e) H := by
  unfold eqD at g
  split at g
  · rename_i d e hd he
    split at g
    · rename_i hs
      exact ⟨d, e, toD_dp ra _ _ _ _ hd rx, toD_dp ra _ _ _ _ he ry, hs.1, hs.2, g as H _ Ex.refl ra rfl⟩
    · exact g.elim
  · exact g.elim
theorem oa_eq (hu : X.A.units + 64 < cLine) : OpA X (compareOp .Eq) oEq := by
  rintro pins s σ H v u w1 w2 Q I rv ru ⟨W, σ', as, A, x, y, ra, rx, ry, g⟩
  refine op_eqD hu pins s σ H v u w1 w2 Q I rv ru (eqD_ok (Q := fun b H => Q (.bl b) H) ra rx ry (G.bind (Rel := rB) g fun b A' as1 H1 v1 e0 e1 ra1 rb g1 => ?_))
  cases rb
  exact fin1 ra1 g1 (.bl _)
theorem oa_ne (hu : X.A.units + 64 < cLine) : OpA X (compareOp .NotEq) oNe := by
  rintro pins s σ H v u w1 w2 Q I rv ru ⟨W, σ', as, A, x, y, ra, rx, ry, g⟩
  refine op_neD hu pins s σ H v u w1 w2 Q I rv ru (eqD_ok (Q := fun b H => Q (.bl (!b)) H) ra rx ry (G.bind (Rel := rB) g fun b A' as1 H1 v1 e0 e1 ra1 rb g1 => ?_))
  cases rb
  exact fin1 ra1 g1 (.bl _)
theorem oa_add : OpA X (binaryOp .Add) oAdd := by
  rintro pins s σ H v u w1 w2 Q I rv ru ⟨W, σ', as, A, x, y, ra, rx, ry, g⟩
  unfold oAdd at g
  split at g
  · cases rx; cases ry
    exact op_add pins s σ H _ _ w1 w2 Q I rv ru ⟨_, _, rfl, rfl, fin1 ra g (.int _)⟩
  · cases rx; cases ry
    split at g
    · rename_i hl
      exact op_add_str pins s σ H _ _ w1 w2 Q I rv ru ⟨_, _, rfl, rfl, hl, fin1 ra g (.str _)⟩
    · exact g.elim
  · cases rx with
    | tup h1 r1 =>
    cases ry with
    | tup h2 r2 =>
    split at g
    · rename_i hl
      refine op_catA pins s σ H _ _ w1 w2 Q I rv ru ⟨_, _, _, _, rfl, rfl, h1, h2, by rw [← r1.length, ← r2.length]; exact hl, fun e => ?_, fun _ e => ?_, fun _ _ p hp => ?_⟩
      · subst e
        cases r1
        exact fin1 ra g (.tup h2 r2)
      · subst e
        cases r2
        exact fin1 ra g (.tup h1 (by simpa using r1))
      · exact g as _ (.ref p) (ex_new hp) (ra.new hp) (.tup (.inl (.inl upd_same)) ((r1.app r2).ex (ex_new hp)))
    · exact g.elim
  · split at g
    · rename_i e1 e2
      cases rx with
      | loc h1 =>
      cases ry with
      | loc h2 =>
      obtain ⟨vs, hv, r1⟩ := ra.ob _ _ _ h1 e1
      obtain ⟨ws, hw, r2⟩ := ra.ob _ _ _ h2 e2
      split at g
      · rename_i hl
        refine op_cat pins s σ H _ _ w1 w2 Q I rv ru ⟨_, _, vs, ws, rfl, rfl, hv, hw, by rw [← r1.length, ← r2.length]; exact hl, fun p hp => ?_⟩
        refine g (as ++ [p]) _ (.ref p) (ex_push hp) (ra.push hp ⟨_, upd_same, (r1.app r2).ex (ex_push hp)⟩) (.loc ?_)
        rw [← ra.len, List.getElem?_append_right (Nat.le_refl _)]
        simp
      · exact g.elim
    · exact g.elim
  · exact g.elim
theorem oa_sub : OpA X (binaryOp .Sub) oSub := by
  rintro pins s σ H v u w1 w2 Q I rv ru ⟨W, σ', as, A, x, y, ra, rx, ry, g⟩
  unfold oSub at g
  split at g
  · cases rx; cases ry
    exact op_sub pins s σ H _ _ w1 w2 Q I rv ru ⟨_, _, rfl, rfl, fin1 ra g (.int _)⟩
  · exact g.elim
theorem oa_mul : OpA X (binaryOp .Mult) oMul := by
  rintro pins s σ H v u w1 w2 Q I rv ru ⟨W, σ', as, A, x, y, ra, rx, ry, g⟩
  unfold oMul at g
  split at g
  · cases rx; cases ry
    split at g
    · rename_i h
      rcases h with h | h | h
      · exact op_mul pins s σ H _ _ w1 w2 Q I rv ru ⟨_, _, rfl, rfl, .inl h, fin1 ra g (.int _)⟩
      · exact op_mul pins s σ H _ _ w1 w2 Q I rv ru ⟨_, _, rfl, rfl, .inr h, fin1 ra g (.int _)⟩
      · exact op_mulW pins s σ H _ _ w1 w2 Q I rv ru ⟨_, _, rfl, rfl, by have h1 := h.1; have h2 := h.2; unfold wide at h1 h2; unfold CMulW; omega, fin1 ra g (.int _)⟩
    · exact g.elim
  · cases rx with
    | tup h1 r1 =>
    cases ry
    split at g
    · rename_i h
      obtain ⟨a2, a3, a4⟩ := h
      rename_i xs k q0 vs
      by_cases c1 : k = 1 ∨ xs = []
      · refine Kb.op_repS pins s σ H _ _ w1 w2 Q I rv ru ⟨_, _, _, rfl, rfl, h1, c1.imp id (fun e => by subst e; cases r1; rfl), by omega, by omega, ?_⟩
        have e : (List.replicate k.toNat xs).flatten = xs := by
          rcases c1 with rfl | rfl
          · simp
          · simp
        rw [e] at g
        exact fin1 ra g (.tup h1 r1)
      · have hne : vs ≠ [] := fun e => c1 (.inr (by subst e; cases r1; rfl))
        by_cases c2 : k ≤ 0
        · refine Kb.op_rep0 pins s σ H _ _ w1 w2 Q I rv ru ⟨_, _, _, rfl, rfl, h1, hne, c2, by omega, fun p hp => ?_⟩
          have e : (List.replicate k.toNat xs).flatten = [] := by
            rw [Int.toNat_of_nonpos c2]
            rfl
          rw [e] at g
          exact g as _ (.ref p) (ex_new hp) (ra.new hp) (.tup (.inl (.inl upd_same)) .nil)
        · refine op_repT pins s σ H _ _ w1 w2 Q I rv ru ⟨_, _, _, rfl, rfl, h1, hne, by omega, a3, by rw [← r1.length]; exact a4, fun p hp => ?_⟩
          refine g as _ (.ref p) (ex_new hp) (ra.new hp) (.tup (.inl (.inl upd_same)) (RVs.ex (ex_new hp) ?_))
          clear g a2 a3 c1 c2
          generalize k.toNat = n
          induction n with
          | zero => exact .nil
          | succ n ih => rw [List.replicate_succ, List.replicate_succ, List.flatten_cons, List.flatten_cons]; exact r1.app ih
    · exact g.elim
  · split at g
    · rename_i e1
      cases rx with
      | loc h1 =>
      cases ry
      obtain ⟨vs, hv, r1⟩ := ra.ob _ _ _ h1 e1
      split at g
      · rename_i h
        obtain ⟨a1, a2, a3⟩ := h
        refine op_rep pins s σ H _ _ w1 w2 Q I rv ru ⟨_, _, vs, rfl, rfl, hv, by omega, by omega, by rw [← r1.length]; exact a3, fun p hp => ?_⟩
        refine g (as ++ [p]) _ (.ref p) (ex_push hp) (ra.push hp ⟨_, upd_same, RVs.ex (ex_push hp) ?_⟩) (.loc ?_)
        · clear g a1 a2 a3
          generalize Int.toNat _ = n
          induction n with
          | zero => exact .nil
          | succ n ih => rw [List.replicate_succ, List.replicate_succ, List.flatten_cons, List.flatten_cons]; exact r1.app ih
        · rw [← ra.len, List.getElem?_append_right (Nat.le_refl _)]
          simp
      · exact g.elim
    · exact g.elim
  · exact g.elim
theorem oa_fdiv : OpA X (binaryOp .FloorDiv) oFdiv := by
  rintro pins s σ H v u w1 w2 Q I rv ru ⟨W, σ', as, A, x, y, ra, rx, ry, g⟩
  unfold oFdiv at g
  split at g
  · cases rx; cases ry
    split at g
    · rename_i h
      exact op_fdivW pins s σ H _ _ w1 w2 Q I rv ru ⟨_, _, rfl, rfl, ⟨h.1, by have h2 := h.2; unfold wide at h2; omega⟩, fin1 ra g (.int _)⟩
    · exact g.elim
  · exact g.elim
theorem oa_mod : OpA X (binaryOp .Mod) oMod := by
  rintro pins s σ H v u w1 w2 Q I rv ru ⟨W, σ', as, A, x, y, ra, rx, ry, g⟩
  unfold oMod at g
  split at g
  · cases rx; cases ry
    split at g
    · rename_i h
      exact op_mod pins s σ H _ _ w1 w2 Q I rv ru ⟨_, _, rfl, rfl, h, fin1 ra g (.int _)⟩
    · exact g.elim
  · exact g.elim
theorem oa_pow : OpA X (binaryOp .Pow) oPow := by
  rintro pins s σ H v u w1 w2 Q I rv ru ⟨W, σ', as, A, x, y, ra, rx, ry, g⟩
  unfold oPow at g
  split at g
  · cases rx; cases ry
    split at g
    · rename_i h
      exact op_pow pins s σ H _ _ w1 w2 Q I rv ru ⟨_, _, rfl, rfl, ⟨h.1, by omega, by have h2 := h.2.2; unfold small at h2; omega⟩, fin1 ra g (.int _)⟩
    · exact g.elim
  · exact g.elim
theorem oa_lt : OpA X (compareOp .Lt) oLt := by
  rintro pins s σ H v u w1 w2 Q I rv ru ⟨W, σ', as, A, x, y, ra, rx, ry, g⟩
  unfold oLt at g
  split at g
  · cases rx; cases ry
    exact op_lt pins s σ H _ _ w1 w2 Q I rv ru ⟨_, _, rfl, rfl, fin1 ra g (.bl _)⟩
  · exact g.elim
theorem oa_le : OpA X (compareOp .LtE) oLe := by
  rintro pins s σ H v u w1 w2 Q I rv ru ⟨W, σ', as, A, x, y, ra, rx, ry, g⟩
  unfold oLe at g
  split at g
  · cases rx; cases ry
    exact op_le pins s σ H _ _ w1 w2 Q I rv ru ⟨_, _, rfl, rfl, fin1 ra g (.bl _)⟩
  · exact g.elim
theorem oa_gt : OpA X (compareOp .Gt) oGt := by
  rintro pins s σ H v u w1 w2 Q I rv ru ⟨W, σ', as, A, x, y, ra, rx, ry, g⟩
  unfold oGt at g
  split at g
  · cases rx; cases ry
    exact op_gt pins s σ H _ _ w1 w2 Q I rv ru ⟨_, _, rfl, rfl, fin1 ra g (.bl _)⟩
  · exact g.elim
theorem oa_ge : OpA X (compareOp .GtE) oGe := by
  rintro pins s σ H v u w1 w2 Q I rv ru ⟨W, σ', as, A, x, y, ra, rx, ry, g⟩
  unfold oGe at g
  split at g
  · cases rx; cases ry
    exact op_ge pins s σ H _ _ w1 w2 Q I rv ru ⟨_, _, rfl, rfl, fin1 ra g (.bl _)⟩
  · exact g.elim
theorem isNon_ok {K : PySem.W.Frag} {as : List Addr} {H : Hp} {x : AV} {v : V} (r : RV K as H x v) : isNon x = decide (v = .non) := by
  cases r <;> simp [isNon]
theorem oa_is : OpA X (compareOp .Is) oIs := by
  rintro pins s σ H v u w1 w2 Q I rv ru ⟨W, σ', as, A, x, y, ra, rx, ry, g⟩
  unfold oIs at g
  split at g
  · cases rx; cases ry
    exact op_isBl pins s σ H _ _ w1 w2 Q I rv ru ⟨_, _, rfl, rfl, fin1 ra g (by rw [Bool.beq_eq_decide_eq]; exact .bl _)⟩
  · cases ry
    exact op_isN pins s σ H _ _ w1 w2 Q I rv ru ⟨rfl, fin1 ra g (by rw [isNon_ok rx]; exact .bl _)⟩
  · exact g.elim
theorem oa_isNot : OpA X (compareOp .IsNot) oIsNot := by
  rintro pins s σ H v u w1 w2 Q I rv ru ⟨W, σ', as, A, x, y, ra, rx, ry, g⟩
  unfold oIsNot at g
  split at g
  · cases rx; cases ry
    exact op_notBl pins s σ H _ _ w1 w2 Q I rv ru ⟨_, _, rfl, rfl, fin1 ra g (by rw [bne, Bool.beq_eq_decide_eq]; exact .bl _)⟩
  · cases ry
    exact op_notN pins s σ H _ _ w1 w2 Q I rv ru ⟨rfl, fin1 ra g (by rw [isNon_ok rx]; exact .bl _)⟩
  · exact g.elim
theorem ua_neg : UnA X (unaryOp .USub) oNeg := by
  rintro pins s σ H v w1 Q I rv ⟨W, σ', as, A, x, ra, rx, g⟩
  unfold oNeg at g
  split at g
  · cases rx
    exact un_neg pins s σ H _ w1 Q I rv ⟨_, rfl, fin1 ra g (.int _)⟩
  · exact g.elim
theorem ixa : IxA X oIx := by
  rintro e1 e2 pins s σ H v u w1 w2 Q I rv ru ⟨W, σ', as, A, x, y, ra, rx, ry, g⟩ hs
  unfold oIx at g
  split at g
  · cases ry
    split at g
    · cases rx with
      | tup h1 r1 =>
      split at g
      · rename_i e
        obtain ⟨w, ew, rw'⟩ := atI_of r1 e
        exact ix_tup _ _ pins s σ H _ _ w1 w2 Q I rv ru ⟨_, _, _, w, rfl, rfl, h1, ew, fin1 ra g rw'⟩ hs
      · exact g.elim
    · split at g
      · rename_i e
        obtain ⟨p, vs, rfl, hl, r1⟩ := listOf_ok ra rx e
        split at g
        · rename_i e
          obtain ⟨w, ew, rw'⟩ := atI_of r1 e
          exact ix_list _ _ pins s σ H _ _ w1 w2 Q I rv ru ⟨_, _, _, w, rfl, rfl, hl, ew, fin1 ra g rw'⟩ hs
        · exact g.elim
      · exact g.elim
  · exact g.elim
theorem cutA_ok {K : PySem.W.Frag} {as : List Addr} {H : Hp} {xs : List AV} {vs : List V} (r : RVs K as H xs vs) (lo hi : Option Int) : RVs K as H (cutA xs lo hi) (cutV vs lo hi) := by
  unfold cutA cutV
  rw [← r.length]
  exact (r.drop _).take _
theorem cutV_all {vs : List V} {lo hi : Option Int} (e : HT.sIx vs.length 0 lo = 0 ∧ HT.sIx vs.length vs.length hi = vs.length) : cutV vs lo hi = vs := by
  unfold cutV
  rw [e.1, e.2, Nat.sub_zero, List.drop_zero, List.take_length]
theorem sla : SlA X oSl := by
  rintro pins s σ H v u vl vu lo hi sl Q I rv hs pl pu ⟨W, σ', as, A, x, ra, rx, g⟩
  unfold oSl at g
  split at g
  · cases rx with
    | tup h1 r1 =>
    refine sl_tupA pins s σ H _ u vl vu lo hi sl Q I rv hs pl pu ⟨_, _, rfl, h1, fun e => ?_, fun _ p hp => ?_⟩
    · refine fin1 ra g (.tup h1 ?_)
      have e2 := r1.length
      have hc := cutA_ok r1 lo hi
      have q : cutV _ lo hi = _ := cutV_all e
      rw [q] at hc
      exact hc
    · exact g as _ (.ref p) (ex_new hp) (ra.new hp) (.tup (.inl (.inl upd_same)) ((cutA_ok r1 lo hi).ex (ex_new hp)))
  · split at g
    · rename_i e
      obtain ⟨p, vs, rfl, hl, r1⟩ := listOf_ok ra rx e
      refine sl_list pins s σ H _ u vl vu lo hi sl Q I rv hs pl pu ⟨_, _, rfl, hl, fun p hp => ?_⟩
      refine g (as ++ [p]) _ (.ref p) (ex_push hp) (ra.push hp ⟨_, upd_same, (cutA_ok r1 lo hi).ex (ex_push hp)⟩) (.loc ?_)
      rw [← ra.len, List.getElem?_append_right (Nat.le_refl _)]
      simp
    · exact g.elim
end
end Am

set_option Elab.async false
set_option linter.all false
set_option maxRecDepth 100000
set_option maxHeartbeats 4000000
/-! Am4: statements, loops, comprehensions, calls of defs. -/
namespace Am
open PySem PySem.Spec PyProof.Rows L2
inductive RS where
  | nx (env : Ev) (A : Hx) | rt (x : AV) (A : Hx) | bk (env : Ev) (A : Hx) | ct (env : Ev) (A : Hx) | ex (e : AX) (env : Ev) (A : Hx) | bad
abbrev MS := Ev → Hx → RS
section
variable (K : PySem.W.Frag)
def GS (W : WX) (as : List Addr) (H : Hp) (r : RS) (D : Ends) : Prop := match r with
  | .nx env A => ∀ as' H' σ', Ex K as H as' H' → RA K as' H' A → RE K as' H' env σ' → D.nx σ' H'
  | .rt x A => ∀ as' H' v, Ex K as H as' H' → RA K as' H' A → RV K as' H' x v → D.rt v H'
  | .bk env A => ∀ as' H' σ', Ex K as H as' H' → RA K as' H' A → RE K as' H' env σ' → D.bk σ' H'
  | .ct env A => ∀ as' H' σ', Ex K as H as' H' → RA K as' H' A → RE K as' H' env σ' → D.ct σ' H'
  | .ex e env A => ∀ as' H' σ' d, Ex K as H as' H' → RA K as' H' A → RE K as' H' env σ' → RX K as' H' e d → W e.cls d σ' H'
  | .bad => False
def rdS (W : WX) (m : MS) : TS := fun D σ H => ∃ as env A, RA K as H A ∧ RE K as H env σ ∧ GS K W as H (m env A) D
end
abbrev JS (X : Cx) (W : WX) (st : Stmt) (m : MS) : Prop := PS X st (rdS X.K W m)
abbrev JSs (X : Cx) (W : WX) (st : List Stmt) (m : MS) : Prop := PSs X st (rdS X.K W m)
section
variable {X : Cx}
theorem ps_mono {e : Stmt} {t t' : TS} (h : PS X e t) (w : ∀ D σ H, t' D σ H → t D σ H) : PS X e t' := ⟨fun pins s σ H D I q => h.run pins s σ H D I (w D σ H q)⟩
theorem pss_mono {e : List Stmt} {t t' : TS} (h : PSs X e t) (w : ∀ D σ H, t' D σ H → t D σ H) : PSs X e t' := ⟨fun pins s σ H D I q => h.run pins s σ H D I (w D σ H q)⟩
end
/-- what an expression's outcome is to a statement -/
def R.st {α : Type} (r : R α) (env : Ev) (k : α → Hx → RS) : RS := match r with
  | .ok x A => k x A
  | .ex e A => .ex e env A
  | .bad => .bad
@[simp] theorem R.st_ok {α : Type} {x : α} {A : Hx} {env : Ev} {k : α → Hx → RS} : (R.ok x A).st env k = k x A := rfl
@[simp] theorem R.st_ex {α : Type} {e : AX} {A : Hx} {env : Ev} {k : α → Hx → RS} : (R.ex e A : R α).st env k = .ex e env A := rfl
@[simp] theorem R.st_bad {α : Type} {env : Ev} {k : α → Hx → RS} : (R.bad : R α).st env k = .bad := rfl
section
variable {K : PySem.W.Frag} {W : WX} {as as1 : List Addr} {H H1 : Hp} {σ : L2.St} {α β : Type} {Rel : List Addr → Hp → α → β → Prop}
theorem GS.ex {r : RS} {D : Ends} (e : Ex K as H as1 H1) (g : GS K W as H r D) : GS K W as1 H1 r D := by
  cases r with
  | nx env A => exact fun as' H' v e' => g as' H' v (e.trans e')
  | rt x A => exact fun as' H' v e' => g as' H' v (e.trans e')
  | bk env A => exact fun as' H' v e' => g as' H' v (e.trans e')
  | ct env A => exact fun as' H' v e' => g as' H' v (e.trans e')
  | ex x env A => exact fun as' H' v d e' => g as' H' v d (e.trans e')
  | bad => exact g
theorem GS.st {r : R α} {env : Ev} {k : α → Hx → RS} {D : Ends} {Q : β → Hp → Prop} (re : RE K as H env σ) (g : GS K W as H (r.st env k) D)
    (h : ∀ x A as1 H1 v, r = .ok x A → Ex K as H as1 H1 → RA K as1 H1 A → Rel as1 H1 x v → GS K W as1 H1 (k x A) D → Q v H1) : G K W as H σ Rel r Q := by
  cases r with
  | ok x A => exact fun as' H' v e ra rv => h x A as' H' v rfl e ra rv (GS.ex e g)
  | ex x A => exact fun as' H' d e ra rx => g as' H' σ d e ra (re.ex e) rx
  | bad => exact g
end
/-! ### targets -/
abbrev MG := AV → Ev → Option Ev
abbrev MGs := List AV → Ev → Option Ev
def Chg (ns : List Nat) (σ σ' : L2.St) : Prop := σ'.length = σ.length ∧ ∀ i, i ∉ ns → σ'[i]? = σ[i]?
def gRd (K : PySem.W.Frag) (m : MG) (ns : List Nat) : TG := fun v σ H Q => ∃ as x env env', RV K as H x v ∧ RE K as H env σ ∧ m x env = some env' ∧ ∀ σ', RE K as H env' σ' → Chg ns σ σ' → Q σ' H
def gsRd (K : PySem.W.Frag) (m : MGs) (ns : List Nat) : TGs := fun vs σ H Q => ∃ as xs env env', RVs K as H xs vs ∧ RE K as H env σ ∧ m xs env = some env' ∧ ∀ σ', RE K as H env' σ' → Chg ns σ σ' → Q σ' H
abbrev JG (X : Cx) (tg : Expr) (m : MG) (ns : List Nat) : Prop := PG X tg (gRd X.K m ns)
abbrev JGs (X : Cx) (tg : List Expr) (m : MGs) (ns : List Nat) : Prop := PGs X tg (gsRd X.K m ns)
def gNm (i : Nat) : MG := fun x env => some (env.set i (some x))
def gNl : MGs := fun xs env => match xs with
  | [] => some env
  | _ => none
def gCs (m : MG) (r : MGs) : MGs := fun xs env => match xs with
  | x :: xs => (m x env).bind fun e => r xs e
  | [] => none
def gTp (m : MGs) : MG := fun x env => match x with
  | .tup ts => m ts env
  | _ => none
section
variable {X : Cx} {pos : Pos}
theorem pg_mono {e : Expr} {t t' : TG} (h : PG X e t) (w : ∀ v σ H Q, t' v σ H Q → t v σ H Q) : PG X e t' := ⟨fun pins s σ H v u Q I r q => h.run pins s σ H v u Q I r (w v σ H Q q)⟩
theorem pgs_mono {e : List Expr} {t t' : TGs} (h : PGs X e t) (w : ∀ v σ H Q, t' v σ H Q → t v σ H Q) : PGs X e t' := ⟨fun pins s σ H v u Q I r q => h.run pins s σ H v u Q I r (w v σ H Q q)⟩
theorem jg_name {i : Nat} {x : Str} (hN : X.N.Nodup) (hi : X.N[i]? = some x) (hx : Loc X.env.scope x) (hf : X.fn x = true ∨ X.env.scope.names.lookup x = some .local := by first | exact .inl rfl | exact .inr rfl | assumption) : JG X (.Name x pos) (gNm i) [i] := by
  refine pg_mono (pg_name hN hi hx hf) fun v σ H Q ⟨as, y, env, env', rv, re, e, q⟩ => ?_
  cases e
  refine q _ (re.set i rv) ⟨by simp, fun j hj => List.getElem?_set_ne ?_⟩
  intro z
  exact hj (by simp [z])
theorem jgs_nil : JGs X [] gNl [] := by
  refine pgs_mono pgs_nil fun vs σ H Q ⟨as, y, env, env', rv, re, e, q⟩ => ?_
  cases rv with
  | nil => cases e; exact ⟨rfl, q _ re ⟨rfl, fun _ _ => rfl⟩⟩
  | cons _ _ => cases e
theorem jgs_cons {e : Expr} {es : List Expr} {m : MG} {ms : MGs} {ns ks : List Nat} (h1 : JG X e m ns) (h2 : JGs X es ms ks)
    (hs : (assignEach (e :: es) X.env).map (·.2) = assign e X.env :: (assignEach es X.env).map (·.2) := by rfl) : JGs X (e :: es) (gCs m ms) (ns ++ ks) := by
  refine pgs_mono (pgs_cons h1 h2 hs) fun vs σ H Q ⟨as, y, env, env', rv, re, e, q⟩ => ?_
  cases rv with
  | nil => cases e
  | cons r rs =>
    obtain ⟨e1, h3, h4⟩ := Option.bind_eq_some_iff.mp e
    refine ⟨_, _, rfl, as, _, env, e1, r, re, h3, fun σ1 re1 c1 => ⟨as, _, e1, env', rs, re1, h4, fun σ2 re2 c2 => q σ2 re2 ⟨c2.1.trans c1.1, fun i hi => ?_⟩⟩⟩
    rw [List.mem_append, not_or] at hi
    exact (c2.2 i hi.2).trans (c1.2 i hi.1)
theorem jg_tup {es : List Expr} {k : Nat} {m : MGs} {ns : List Nat} {n : Nat} (hc : X.calm = true) (h : JGs X es m ns) (hm : ∀ xs env env', m xs env = some env' → xs.length = n)
    (hn : (assignEach es X.env).length = n := by rfl) (hst : (assignEach es X.env).findIdx? (·.1) = none := by rfl) : JG X (.Tuple es k pos) (gTp m) ns := by
  refine pg_mono (pg_tup hc h hn hst) fun v σ H Q ⟨as, y, env, env', rv, re, e, q⟩ => ?_
  cases rv with
  | tup h1 r1 => exact ⟨_, _, rfl, h1, by rw [← r1.length]; exact hm _ _ _ e, as, _, env, env', r1, re, e, q⟩
  | _ => cases e
end
theorem gNl_len {xs : List AV} {env env' : Ev} (h : gNl xs env = some env') : xs.length = 0 := by
  cases xs with
  | nil => rfl
  | cons _ _ => cases h
theorem gCs_len {m : MG} {ms : MGs} {n : Nat} (hm : ∀ xs env env', ms xs env = some env' → xs.length = n) {xs : List AV} {env env' : Ev} (h : gCs m ms xs env = some env') : xs.length = n + 1 := by
  cases xs with
  | nil => cases h
  | cons _ _ =>
    obtain ⟨e1, h3, h4⟩ := Option.bind_eq_some_iff.mp h
    rw [List.length_cons, hm _ _ _ h4]
/-! ### statements -/
def mPass : MS := fun env A => .nx env A
def mSeq (a b : MS) : MS := fun env A => match a env A with
  | .nx e A1 => b e A1
  | r => r
def mDrop (a : ME) : MS := fun env A => (a env A).st env fun _ A1 => .nx env A1
def mRet (a : ME) : MS := fun env A => (a env A).st env fun x A1 => .rt x A1
def mRetN : MS := fun env A => .rt .non A
def mIf (t : MT) (a b : MS) : MS := fun env A => (t env A).st env fun c A1 => if c = true then a env A1 else b env A1
def mSet (i : Nat) (a : ME) : MS := fun env A => (a env A).st env fun x A1 => .nx (env.set i (some x)) A1
def mAsg (g : MG) (a : ME) : MS := fun env A => (a env A).st env fun x A1 => match g x env with
  | some e => .nx e A1
  | none => .bad
def mPar (i j : Nat) (a : MA) : MS := fun env A => (a env A).st env fun xs A1 => match xs with
  | [x, y] => .nx ((env.set i (some x)).set j (some y)) A1
  | _ => .bad
/-- o[i] = v of a list -/
def setIx (o i v : AV) (A : Hx) : Option Hx := match i with
  | .int k => (match mutOf A o with
    | some (n, xs) => (ixN xs.length k).map fun j => A.set n (.lst (xs.set j v))
    | none => none)
  | _ => none
def mPut (v o i : ME) : MS := fun env A => (v env A).st env fun x A1 => (o env A1).st env fun y A2 => (i env A2).st env fun z A3 => match setIx y z x A3 with
  | some A4 => .nx env A4
  | none => .bad
def mBad : MS := fun _ _ => .bad
section
variable {X : Cx} {W : WX} {a b c : Expr} {ma mb mc : ME} {mt : MT} {pos : Pos} {st : Stmt} {rest : List Stmt} {m u : MS}
theorem js_pass : JS X W (.Pass pos) mPass := ps_mono ps_pass fun D σ H ⟨as, env, A, ra, re, g⟩ => g as H σ Ex.refl ra re
theorem js_bad : JS X W st mBad := ps_mono ps_never fun D σ H ⟨as, env, A, ra, re, g⟩ => g.elim
theorem js_doc {x j pos'} : JS X W (.Expr (.Constant (.str x) j pos) pos') mPass := ps_mono ps_doc fun D σ H ⟨as, env, A, ra, re, g⟩ => g as H σ Ex.refl ra re
theorem jss_nil : JSs X W [] mPass := pss_mono pss_nil fun D σ H ⟨as, env, A, ra, re, g⟩ => g as H σ Ex.refl ra re
theorem jss_one (h : JS X W st m) : JSs X W [st] m := pss_one h
theorem jss_cons (h : JS X W st m) (hr : JSs X W rest u) : JSs X W (st :: rest) (mSeq m u) := by
  refine pss_mono (pss_cons h hr) fun D σ H ⟨as, env, A, ra, re, g⟩ => ?_
  refine ⟨as, env, A, ra, re, ?_⟩
  unfold mSeq at g
  cases e : m env A with
  | nx env1 A1 =>
    rw [e] at g
    exact fun as1 H1 σ1 e1 ra1 re1 => ⟨as1, env1, A1, ra1, re1, g.ex e1⟩
  | _ => rw [e] at g; exact g
theorem js_drop (h : JE X W a ma) (hs : swapsWith a none pos.line X.env = pure false := by rfl) : JS X W (.Expr a pos) (mDrop ma) := by
  refine ps_mono (ps_expr h hs) fun D σ H ⟨as, env, A, ra, re, g⟩ => ?_
  exact ⟨as, env, A, ra, re, GS.st re g fun x A1 as1 H1 v _ e1 ra1 rv g1 => g1 as1 H1 σ Ex.refl ra1 (re.ex e1)⟩
theorem js_ret (h : JE X W a ma) : JS X W (.Return (some a) pos) (mRet ma) := by
  refine ps_mono (ps_ret h) fun D σ H ⟨as, env, A, ra, re, g⟩ => ?_
  exact ⟨as, env, A, ra, re, GS.st re g fun x A1 as1 H1 v _ e1 ra1 rv g1 => g1 as1 H1 v Ex.refl ra1 rv⟩
theorem js_retN : JS X W (.Return none pos) mRetN := ps_mono ps_retN fun D σ H ⟨as, env, A, ra, re, g⟩ => g as H .non Ex.refl ra .non
theorem js_if {p q : List Stmt} (hc : JT X W a mt) (ha : JSs X W p m) (hb : JSs X W q u) : JS X W (.If a p q pos) (mIf mt m u) := by
  refine ps_mono (ps_if hc ha hb) fun D σ H ⟨as, env, A, ra, re, g⟩ => ?_
  refine ⟨as, env, A, ra, re, GS.st re g fun x A1 as1 H1 k _ e1 ra1 rb g1 => ?_⟩
  cases rb
  cases x with
  | true => exact ⟨as1, env, A1, ra1, re.ex e1, g1⟩
  | false => exact ⟨as1, env, A1, ra1, re.ex e1, g1⟩
theorem js_set {i : Nat} {x : Str} {pos' : Pos} (hN : X.N.Nodup) (hi : X.N[i]? = some x) (hx : Loc X.env.scope x) (he : JE X W a ma) (hs : swapsWith a (some (.Name x pos')) pos.line X.env = pure false := by rfl) (hf : X.fn x = true ∨ X.env.scope.names.lookup x = some .local := by first | exact .inl rfl | exact .inr rfl | assumption) :
    JS X W (.Assign [.Name x pos'] a pos) (mSet i ma) := by
  refine ps_mono (ps_set hN hi hx he hs hf) fun D σ H ⟨as, env, A, ra, re, g⟩ => ?_
  exact ⟨as, env, A, ra, re, GS.st re g fun x A1 as1 H1 v _ e1 ra1 rv g1 => g1 as1 H1 _ Ex.refl ra1 ((re.ex e1).set i rv)⟩
theorem js_asg {tg : Expr} {g : MG} {ns : List Nat} (he : JE X W a ma) (hg : JG X tg g ns) (hs : swapsWithSole [tg] a pos.line X.env = pure false := by rfl) (hw : swappedStores [tg] a X.env = pure none := by rfl)
    (h1 : (assignEach [tg] X.env).map (·.2) = [assign tg X.env] := by rfl) : JS X W (.Assign [tg] a pos) (mAsg g ma) := by
  refine ps_mono (ps_asg he hg hs hw h1) fun D σ H ⟨as, env, A, ra, re, gg⟩ => ?_
  refine ⟨as, env, A, ra, re, GS.st re gg fun x A1 as1 H1 v _ e1 ra1 rv g1 => ?_⟩
  split at g1
  · rename_i env' e
    exact ⟨as1, x, env, env', rv, re.ex e1, e, fun σ' re' _ => g1 as1 H1 σ' Ex.refl ra1 re'⟩
  · exact g1.elim
theorem js_par {i j : Nat} {x y : Str} {ms : MA} {px py pt : Pos} {kt k2 pt2} (hc : X.calm = true) (hN : X.N.Nodup) (hi : X.N[i]? = some x) (hj : X.N[j]? = some y) (hij : i ≠ j)
    (hx : X.env.scope.names.lookup x = some .local) (hy : X.env.scope.names.lookup y = some .local) (ha : JA X W [a, b] ms)
    (hw : swappedStores [.Tuple [.Name x px, .Name y py] kt pt] (.Tuple [a, b] k2 pt2) X.env = pure (some [x, y]))
    (hs : swapsWithSole [.Tuple [.Name x px, .Name y py] kt pt] (.Tuple [a, b] k2 pt2) pos.line X.env = pure false := by rfl) :
    JS X W (.Assign [.Tuple [.Name x px, .Name y py] kt pt] (.Tuple [a, b] k2 pt2) pos) (mPar i j ms) := by
  refine ps_mono (ps_par hc hN hi hj hij hx hy ha hw hs) fun D σ H ⟨as, env, A, ra, re, g⟩ => ?_
  refine ⟨as, env, A, ra, re, GS.st re g fun xs A1 as1 H1 vs _ e1 ra1 rv g1 => ?_⟩
  split at g1
  · cases rv with
    | cons r1 rr =>
      cases rr with
      | cons r2 rr =>
        cases rr
        exact ⟨_, _, rfl, g1 as1 H1 _ Ex.refl ra1 (((re.ex e1).set i r1).set j r2)⟩
  · exact g1.elim
theorem js_put {o i : Expr} {mo mi : ME} {tpos : Pos} (he : JE X W a ma) (ho : JE X W o mo) (hi : JE X W i mi)
    (hs : swapsWithSole [.Subscript o i tpos] a pos.line X.env = pure false := by rfl) (hw : swappedStores [.Subscript o i tpos] a X.env = pure none := by rfl)
    (h1 : (assignEach [.Subscript o i tpos] X.env).map (·.2) = [assign (.Subscript o i tpos) X.env] := by rfl)
    (ha : ∀ v, assign (.Subscript o i tpos) X.env v = (do
      let ov ← holding [v] (eval o X.env)
      let iv ← holding [v, ov] (eval i X.env)
      standAt tpos
      holding [v, ov, iv] (setItem ov iv v)
      release [v, ov, iv] []) := by intro _; rfl) : JS X W (.Assign [.Subscript o i tpos] a pos) (mPut ma mo mi) := by
  refine ps_mono (ps_asg he (pg_sub ho hi set_list ha) hs hw h1) fun D σ H ⟨as, env, A, ra, re, g⟩ => ?_
  refine ⟨as, env, A, ra, re, GS.st re g fun x A1 as1 H1 v _ e1 ra1 rv g1 => ?_⟩
  refine ⟨as1, env, A1, ra1, re.ex e1, GS.st (re.ex e1) g1 fun y A2 as2 H2 u _ e2 ra2 ru g2 => ?_⟩
  refine ⟨as2, env, A2, ra2, (re.ex e1).ex e2, GS.st ((re.ex e1).ex e2) g2 fun z A3 as3 H3 w _ e3 ra3 rw' g3 => ?_⟩
  unfold setIx at g3
  split at g3
  · rename_i A4 e
    split at e
    · cases rw'
      split at e
      · rename_i n xs em
        obtain ⟨j, ej, rfl⟩ := Option.map_eq_some_iff.mp e
        obtain ⟨p, vs, rfl, hp, hA, hH, rl⟩ := mutOf_ok ra3 (ru.ex e3) em
        refine ⟨p, vs, _, j, rfl, rfl, hH, by rw [← rl.length]; exact ej, ?_⟩
        have ee : Ex X.K as3 H3 as3 (upd H3 p (.lst (vs.set j v))) := ex_mut hH rfl
        exact g3 as3 _ σ ee (ra3.lset hp hH (rl.set j ((rv.ex e2).ex e3))) ((((re.ex e1).ex e2).ex e3).ex ee)
      · cases e
    · cases e
  · exact g3.elim
end
end Am

set_option Elab.async false
set_option linter.all false
set_option maxRecDepth 100000
set_option maxHeartbeats 4000000
namespace PySem
open Sem (wp)
open AutoSeq1 (wpAny_loadPart')
/-! enumerate of a tuple: how it is made -/
theorem kbEnumNew (tp : Addr) (its : Array Value) (nn : Nat) (dc : Option Addr) (slx : Array (Option Value)) :
    Meets (Builtin.«enumerate.__new__» ⟨[.type "enumerate", .ref tp], []⟩) (fun _ R s => s.heap.get? tp = some { cls := .type "tuple", dict := dc, data := .seq its nn, slots := slx } ∧
      R (.ok (.ret (.ref (s.heap.push { cls := .type "tuple_iterator", data := .fields #[.ref tp, .int 0 0] }).objs.size)))
        { s with heap := (s.heap.push { cls := .type "tuple_iterator", data := .fields #[.ref tp, .int 0 0] }).push { cls := .type "enumerate", data := .fields #[.none, .bool false, .ref s.heap.objs.size, rawInt 0, .none, .none] } }) :=
  .of_wp fun prog w A R s hyp => by
    obtain ⟨hp0, g0, d0, tk0, os0⟩ := s; obtain ⟨hget, hend⟩ := hyp
    have hsub0 := sub_enumerate
    have hTup : Heap.IsTuple (Shared.heap ⟨hp0, g0, d0, tk0, os0⟩) tp its := ⟨_, hget, rfl, nn, rfl⟩
    wp_walk using wpAny_loadPart' hget
    refine wpAny_stack_any fun stk => wpAny_pure ?_
    split
    · rename_i cc _ _ _ _ _
      cases (cc == Value.type "enumerate")
      · wp_walk using wpAny_loadPart' hget, wpAny_pyIter_tuple hTup
        exact ⟨_, rfl, hend⟩
      · wp_walk using wpAny_loadPart' hget, wpAny_pyIter_tuple hTup
        exact ⟨_, rfl, hend⟩
    · wp_walk using wpAny_loadPart' hget, wpAny_pyIter_tuple hTup
      exact ⟨_, rfl, hend⟩
end PySem
namespace PySem
section
variable {prog : Program} {w : World} {A : Around} {E : Value → Shared → Prop} {s : Shared}
theorem kbEnumCall {tp : Addr} {its : Array Value} {Q : Value → Shared → Prop} (hT : s.heap.IsTuple tp its)
    (fin : ∀ h1, IsEnum h1 (s.heap.objs.size + 1) s.heap.objs.size 0 .none → h1.IsTupleIter s.heap.objs.size tp 0 → h1.objs.size = s.heap.objs.size + 2 → (∀ q u, s.heap.get? q = some u → h1.get? q = some u) → Q (.ref (s.heap.objs.size + 1)) { s with heap := h1 }) :
    wpAny (model prog w) A (call (.type "enumerate") [.ref tp]) Q E s := by
  obtain ⟨⟨cc, dc, dd, slx⟩, hget, hcc, nn, hdd⟩ := hT
  obtain rfl : cc = .type "tuple" := hcc
  obtain rfl : dd = .seq its nn := hdd
  refine callType_new F.called_enumerate (by decide) (F.typeCall_enumerate_1 _) (F.newCall_enumerate_1 _) (fun ob => F.args_object_init_2 ob _) F.entry_enumerate_new (kbEnumNew tp its nn dc slx) ⟨hget, ?_⟩
  have size1 : (s.heap.push { cls := .type "tuple_iterator", data := .fields #[.ref tp, .int 0 0] }).objs.size = s.heap.objs.size + 1 := Heap.size_push ..
  show _ ∧ _
  rw [size1]
  have isE : IsEnum ((s.heap.push { cls := .type "tuple_iterator", data := .fields #[.ref tp, .int 0 0] }).push { cls := .type "enumerate", data := .fields #[.none, .bool false, .ref s.heap.objs.size, rawInt 0, .none, .none] }) (s.heap.objs.size + 1) s.heap.objs.size 0 .none := by
    have z := Heap.get?_push_size (s.heap.push { cls := .type "tuple_iterator", data := .fields #[.ref tp, .int 0 0] }) (o := { cls := .type "enumerate", data := .fields #[.none, .bool false, .ref s.heap.objs.size, rawInt 0, .none, .none] }) rfl
    rw [size1] at z
    exact z
  exact ⟨⟨_, isE, rfl⟩, fin _ isE ⟨_, Heap.get?_push_of_some _ (Heap.get?_push_size _ rfl), rfl, rfl⟩ (by rw [Heap.size_push, size1]) fun q u x => Heap.get?_push_of_some _ (Heap.get?_push_of_some _ x)⟩
theorem kbEnumEnd {e it tp : Addr} {i : Nat} {its : Array Value} {old : Value} {Q : Option Value → Shared → Prop} (hh : A.handled = none) (isE : IsEnum s.heap e it i old) (isI : s.heap.IsTupleIter it tp i) (isT : s.heap.IsTuple tp its) (over : its[i]? = none)
    (fin : ∀ h1, Heap.ExtBut it s.heap h1 → Q none { s with heap := h1 }) : wpAny (model prog w) A (pyNext (.ref e)) Q E s := by
  have ty : s.TypeIs (.ref e) "enumerate" := ⟨_, isE, rfl⟩
  unfold pyNext
  refine wpAny_bind (wpAny_attempt (wpAny_callSpecial?_slot (name := Str.ofString "__next__") ty F.slot_enumerate_next (wpAny_call_entry F.slot_enumerate_next ty F.entry_enumerate_next ?_ (F.args_enumerate_next_1 _))))
  show wpAny _ _ (field (.ref e) 2 >>= _) _ _ _
  refine wpAny_bind (wpAny_field isE rfl (x := .ref it) rfl ?_)
  refine wpAny_bind (wpAny_nextOf_tuple_end (A := A.in1) hh isI isT over fun h1 x eb ⟨o, ho, hc⟩ => ?_)
  refine wpAny_bind (wpAny_isInstance (T := "StopIteration") (b := true) ⟨o, ho, hc⟩ isSubtype_stop ?_)
  exact wpAny_pure (fin _ eb)
end
end PySem
namespace Kb
open PySem PySem.Spec PyProof.Rows L2 RZ
/-- the tuple at a, each item in a new pair with its number -/
def ItEn (K : PySem.W.Frag) (a : Addr) : It :=
  ⟨fun i H => ∃ (xs : List V) (x : V), SqT K H a xs ∧ xs[i]? = some x, fun i H v H' => ∃ T x, v = .ref T ∧ H T = none ∧ H' = upd H T (.tup [.int (i : Nat), x]) ∧ ∀ xs, SqT K H a xs → xs[i]? = some x, fun i H => ∃ xs : List V, SqT K H a xs ∧ xs.length ≤ i⟩
theorem turnEn {P : Program} {w : World} {K : PySem.W.Frag} {elts : List Expr} {kk : Nat} {tpos : Pos} (a e it : Addr) :
    Turn P w K (.Tuple elts kk tpos) (ItEn K a) [e, it] e (fun i h => (∃ old, IsEnum h e it ((i : Nat) : Int) old) ∧ h.IsTupleIter it a i ∧ e ≠ it ∧ e ≠ a ∧ it ≠ a) where
  mem := by simp
  obj := fun i h st b hb => by
    obtain ⟨⟨old, he⟩, ⟨o, ho, hc, hd⟩, _⟩ := st
    have cases2 : b = e ∨ b = it := by simpa using hb
    rcases cases2 with rfl | rfl
    · exact ⟨_, he, fun v q => nomatch q⟩
    · exact ⟨o, ho, fun v q => by rw [hd] at q; cases q⟩
  keep := fun i h h' st k => by
    obtain ⟨⟨old, he⟩, hi, hne⟩ := st
    exact ⟨⟨old, k e (by simp) _ he⟩, hi.at fun o q => k it (by simp) o q, hne⟩
  item := by
    intro X hP hw hK hc i pins s σ H E I hf st hg
    subst hP hw hK
    obtain ⟨⟨old, he⟩, hit, hne, hea, hia⟩ := st
    obtain ⟨xs, x, hq, hx⟩ := hg
    obtain ⟨its, rv, p, hz⟩ := I.tuple hq
    obtain ⟨u, hu, ru⟩ := rv.get hx
    have hlt : i < its.toArray.size := by
      have h1 := (List.getElem?_eq_some_iff.mp hu).1
      simpa using h1
    have hel : e < s.heap.objs.size := Heap.lt_size he
    have hil : it < s.heap.objs.size := by obtain ⟨_, q, _⟩ := hit; exact Heap.lt_size q
    refine wpAny_pyNext_enum_itemD (Draws.tuple (A := X.A.in1) (show X.A.in1.handled = none from I.ok.hd hc) it a hia.symm its.toArray) he ⟨hit, p⟩ hlt hne (by simp [hne, hea]) fun v h1 tk hv ho hit1 hT hsz hk => ?_
    have ev : v = u := by
      have z : its.toArray[i]? = some v := hv
      rw [List.getElem?_toArray, hu] at z
      exact (Option.some.inj z).symm
    subst ev
    refine ⟨_, rfl, wpAny_letOwnedTupleGo_enum (s := { s with heap := h1, toks := tk + 1 }) ho fun h2 he2 sb => ?_⟩
    have hT2 : h2.get? s.heap.objs.size = some { cls := .type "tuple", data := .seq #[.int i tk, v] } := (sb.2 _ (Nat.ne_of_gt hel)).trans hT
    have new : ObjOk X.prog X.w (upd H s.heap.objs.size (.tup [.int (i : Nat), x])) h2 s.heap.objs.size (.tup [.int (i : Nat), x]) :=
      ⟨by show 2 ≤ sizeLine; decide, [.int i tk, v], .cons ⟨_, rfl⟩ (.cons ru .nil), ⟨_, hT2, rfl, _, rfl⟩⟩
    have J : Inv X pins σ (upd H s.heap.objs.size (.tup [.int (i : Nat), x])) { s with heap := h2, toks := tk + 1 } :=
      I.turnedNew (ch := [e, it]) (fun b ob hb q => (sb.2 b (fun z => hb (by simp [z]))).trans (hk b ob (fun z => hb (by simp [z])) (fun z => hb (by simp [z])) q)) hf (Nat.le_refl _) new
    refine ⟨.ref s.heap.objs.size, _, J, rfl, ⟨_, x, rfl, I.hok.fresh (Nat.le_refl _), rfl, fun ys hy => by rw [I.tuple_inj hy hq]; exact hx⟩, ⟨⟨v, ?_⟩, hit1.1.at fun o q => (sb.2 it (Ne.symm hne)).trans q, hne, hea, hia⟩, fun b hb => ?_⟩
    · have step : ((i + 1 : Nat) : Int) = (i : Int) + 1 := by omega
      rw [step]; exact he2
    · have small : b < s.heap.objs.size := by
        have cases2 : b = e ∨ b = it := by simpa using hb
        rcases cases2 with rfl | rfl
        · exact hel
        · exact hil
      rw [upd_ne (Nat.ne_of_lt small)]
      exact (hf b hb).1
  done := by
    intro X hP hw hK hc i pins s σ H E I hf st hg
    subst hP hw hK
    obtain ⟨⟨old, he⟩, hit, hne, hea, hia⟩ := st
    obtain ⟨xs, hq, hx⟩ := hg
    obtain ⟨its, rv, p, hz⟩ := I.tuple hq
    obtain ⟨f0, f1, f2, f3, f4, f5⟩ := hf it (by simp)
    have hl := rv.length
    have hT : s.TypeIs (.ref e) "enumerate" := ⟨_, he, rfl⟩
    refine kbEnumEnd (I.ok.hd hc) he hit p (by simp; omega) fun h1 eb => ⟨rfl, I.turned (t' := s.toks) (fun b o hb q => eb b o hb q) f0 f1 f3 f4 f5⟩
  self := fun A i s Q E st h => let ⟨⟨_, he⟩, _⟩ := st; wpAny_pyIter_enum he h
def iEn (K : PySem.W.Frag) (ta : TA) : TI := fun σ H R => ta σ H fun vs H1 => ∃ a xs, vs = [.ref a] ∧ SqT K H1 a xs ∧ R (ItEn K a) H1
theorem pi_en {X : Cx} {e : Expr} {ta : TA} {p pos tpos : Pos} {elts : List Expr} {kk : Nat} (hg : Gl X "enumerate") (hm : X.mg "enumerate" = none) (ha : PA X [e] ta) (hs : starEach [e] X.env = [(false, eval e X.env)] := by rfl) :
    PI X (.Tuple elts kk tpos) (.Call (.Name "enumerate" p) [e] [] pos) (iEn X.K ta) := by
  refine ⟨fun pins s σ H R I h => ?_⟩
  refine Call_ (ld_blt I hg hm boot_enumerate (PyProof.Rows.callWith_type1 (thn (ha.run pos pins s σ H _ I h) fun us s1 ⟨vs, H1, I1, r1, q1⟩ => ?_) hs rfl))
  obtain ⟨a, xs, ex, hq, q⟩ := q1
  subst ex
  cases r1 with
  | cons r rr =>
    cases rr
    cases r
    obtain ⟨its, rv, pt, hz⟩ := I1.tuple hq
    have hal : a < s1.heap.objs.size := by obtain ⟨_, z, _⟩ := pt; exact Heap.lt_size z
    refine kbEnumCall pt fun h1 he hit hsz hk => wpAny_pyIter_enum he ?_
    have J : Inv X pins σ H1 { s1 with heap := h1 } := I1.kept (t' := s1.toks) hk
    refine ⟨s1.heap.objs.size + 1, [s1.heap.objs.size + 1, s1.heap.objs.size], _, _, H1, rfl, J, turnEn a (s1.heap.objs.size + 1) s1.heap.objs.size, ⟨⟨.none, he⟩, hit, Nat.succ_ne_self _, Nat.ne_of_gt (Nat.lt_succ_of_lt hal), Nat.ne_of_gt hal⟩, fun b hb => ?_, q⟩
    have cases2 : b = s1.heap.objs.size + 1 ∨ b = s1.heap.objs.size := by simpa using hb
    have big : s1.heap.objs.size ≤ b := by
      rcases cases2 with rfl | rfl
      · exact Nat.le_add_right _ _
      · exact Nat.le_refl _
    exact I1.fpOk big (I1.hok.fresh big)
end Kb


set_option Elab.async false
set_option linter.all false
set_option maxRecDepth 100000
set_option maxHeartbeats 4000000
/-! Am5: what loops walk; for, while; comprehensions. -/
namespace Am
open PySem PySem.Spec PyProof.Rows L2
theorem PI.or {X : Cx} {tg it : Expr} {w w' : TI} (h : PI X tg it w) (h' : PI X tg it w') : PI X tg it (fun σ H R => w σ H R ∨ w' σ H R) :=
  ⟨fun pins s σ H R I q => q.elim (h.run pins s σ H R I) (h'.run pins s σ H R I)⟩
theorem pi_mono {X : Cx} {tg it : Expr} {t t' : TI} (h : PI X tg it t) (w : ∀ σ H R, t' σ H R → t σ H R) : PI X tg it t' := ⟨fun pins s σ H R I q => h.run pins s σ H R I (w σ H R q)⟩
abbrev Gd := List (Nat × List AV)
def okG (gd : Gd) (A : Hx) : Prop := ∀ p, p ∈ gd → listOf A (.loc p.1) = some p.2
@[simp] theorem okG_nil (A : Hx) : okG [] A ↔ True := ⟨fun _ => trivial, fun _ _ h => nomatch h⟩
@[simp] theorem okG_cons (p : Nat × List AV) (gd : Gd) (A : Hx) : okG (p :: gd) A ↔ listOf A (.loc p.1) = some p.2 ∧ okG gd A :=
  ⟨fun h => ⟨h p List.mem_cons_self, fun q hq => h q (List.mem_cons_of_mem _ hq)⟩, fun h q hq => (List.mem_cons.mp hq).elim (fun e => e ▸ h.1) (h.2 q)⟩
def RI (K : PySem.W.Frag) : List Addr → Hp → List AV × Gd → It → Prop := fun as H p J => ∀ i as' H' A, Ex K as H as' H' → RA K as' H' A → okG p.2 A →
  (∀ x, p.1[i]? = some x → J.go i H' ∧ ∀ v H2, J.yld i H' v H2 → Ex K as' H' as' H2 ∧ RA K as' H2 A ∧ RV K as' H2 x v) ∧ (p.1.length ≤ i → J.stop i H')
abbrev MI := Ev → Hx → R (List AV × Gd)
abbrev JI (X : Cx) (W : WX) (tg it : Expr) (m : MI) : Prop := PI X tg it (rd X.K W (RI X.K) m)
def seqOf (A : Hx) (x : AV) : Option (List AV × Gd) := match x with
  | .tup ts => some (ts, [])
  | .cst ts => some (ts, [])
  | .loc n => (listOf A (.loc n)).map fun xs => (xs, [(n, xs)])
  | _ => none
def miSeq (a : ME) : MI := fun env A => (a env A).bind fun x A1 => match seqOf A1 x with
  | some p => .ok p A1
  | none => .bad
def enumA : Nat → List AV → List AV
  | _, [] => []
  | k, x :: r => .tup [.int k, x] :: enumA (k + 1) r
def rangeA (lo hi : Int) : List AV := (List.range (hi - lo).toNat).map fun (k : Nat) => .int (lo + k)
def miEnum (a : MA) : MI := fun env A => (a env A).bind fun xs A1 => match xs with
  | [x] => (match seqOf A1 x with
    | some p => .ok (enumA 0 p.1, p.2) A1
    | none => .bad)
  | _ => .bad
def miZip (a : MA) : MI := fun env A => (a env A).bind fun xs A1 => match xs with
  | [.tup xs, .tup ys] => .ok (List.zipWith (fun x y => .tup [x, y]) xs ys, []) A1
  | [.loc n, .loc m] => (match listOf A1 (.loc n), listOf A1 (.loc m) with
    | some xs, some ys => .ok (List.zipWith (fun x y => .tup [x, y]) xs ys, [(n, xs), (m, ys)]) A1
    | _, _ => .bad)
  | _ => .bad
def inR (i : Int) : Prop := -(2 ^ 62) ≤ i ∧ i < 2 ^ 62
instance (i : Int) : Decidable (inR i) := by unfold inR; infer_instance
def miRange1 (a : MA) : MI := fun env A => (a env A).bind fun xs A1 => match xs with
  | [.int j] => if inR j then .ok (rangeA 0 j, []) A1 else .bad
  | _ => .bad
def miRange2 (a : MA) : MI := fun env A => (a env A).bind fun xs A1 => match xs with
  | [.int i, .int j] => if inR i ∧ inR j then .ok (rangeA i j, []) A1 else .bad
  | _ => .bad
theorem enumA_get : ∀ {k : Nat} {xs : List AV} {i : Nat} {x : AV}, (enumA k xs)[i]? = some x → ∃ y, xs[i]? = some y ∧ x = .tup [.int ((k + i : Nat)), y]
  | k, [], i, x, h => by simp [enumA] at h
  | k, y :: r, 0, x, h => by
    simp [enumA] at h
    exact ⟨y, rfl, by rw [← h]; simp⟩
  | k, y :: r, i + 1, x, h => by
    simp only [enumA, List.getElem?_cons_succ] at h
    obtain ⟨z, h1, h2⟩ := enumA_get h
    refine ⟨z, h1, ?_⟩
    rw [h2, show k + 1 + i = k + (i + 1) by omega]
theorem enumA_length : ∀ (k : Nat) (xs : List AV), (enumA k xs).length = xs.length
  | _, [] => rfl
  | k, _ :: r => by simp [enumA, enumA_length (k + 1) r]
section
variable {K : PySem.W.Frag} {as : List Addr} {H : Hp} {A : Hx}
theorem listOf_loc {n : Nat} {p : Addr} {xs : List AV} (ra : RA K as H A) (h : as[n]? = some p) (e : listOf A (.loc n) = some xs) : ∃ vs, SqL K H p vs ∧ RVs K as H xs vs := by
  obtain ⟨q, vs, e1, h1, h2⟩ := listOf_ok ra (.loc h) e
  cases e1
  exact ⟨vs, h1, h2⟩
theorem ri_tup {a : Addr} {ts : List AV} {vs : List V} (h : SqT K H a vs) (r : RVs K as H ts vs) : RI K as H (ts, []) (Itt K a) := by
  intro i as' H' A' e ra _
  have h' := e.kp.1 _ _ h
  have r' := r.ex e
  refine ⟨fun x hx => ?_, fun hl => ⟨vs, h', by rw [← r'.length]; exact hl⟩⟩
  obtain ⟨v, hv, rv⟩ := r'.get hx
  refine ⟨⟨vs, v, h', hv⟩, fun w H2 y => ?_⟩
  obtain ⟨rfl, y⟩ := y
  have := y vs h'
  rw [hv] at this
  cases this
  exact ⟨Ex.refl, ra, rv⟩
theorem ri_lst {a : Addr} {n : Nat} {xs : List AV} (h : as[n]? = some a) : RI K as H (xs, [(n, xs)]) (Itl K a) := by
  intro i as' H' A' e ra ok
  obtain ⟨vs, h', r'⟩ := listOf_loc ra (e.get h) (ok _ List.mem_cons_self)
  refine ⟨fun x hx => ?_, fun hl => ⟨vs, h', by rw [← r'.length]; exact hl⟩⟩
  obtain ⟨v, hv, rv⟩ := r'.get hx
  refine ⟨⟨vs, v, h', hv⟩, fun w H2 y => ?_⟩
  obtain ⟨rfl, y⟩ := y
  have := y vs h'
  rw [hv] at this
  cases this
  exact ⟨Ex.refl, ra, rv⟩
theorem ri_cst {a : Addr} {ts : List AV} {vs : List V} (h : FxL K H a vs) (r : RVs K as H ts vs) : RI K as H (ts, []) (Itl K a) := by
  intro i as' H' A' e ra _
  have h' := (e.kp.2 _ _ h).sq
  have r' := r.ex e
  refine ⟨fun x hx => ?_, fun hl => ⟨vs, h', by rw [← r'.length]; exact hl⟩⟩
  obtain ⟨v, hv, rv⟩ := r'.get hx
  refine ⟨⟨vs, v, h', hv⟩, fun w H2 y => ?_⟩
  obtain ⟨rfl, y⟩ := y
  have := y vs h'
  rw [hv] at this
  cases this
  exact ⟨Ex.refl, ra, rv⟩
theorem ri_enC {a : Addr} {xs : List AV} {vs : List V} (h : FxL K H a vs) (r : RVs K as H xs vs) : RI K as H (enumA 0 xs, []) (Ite K a) := by
  intro i as' H' A' e ra ok
  have h' := (e.kp.2 _ _ h).sq
  have r' := r.ex e
  refine ⟨fun x hx => ?_, fun hl => ⟨vs, h', by rw [← r'.length]; rw [enumA_length] at hl; exact hl⟩⟩
  obtain ⟨y, hy, rfl⟩ := enumA_get hx
  obtain ⟨v, hv, rv⟩ := r'.get hy
  refine ⟨⟨vs, v, h', hv⟩, fun w H2 yl => ?_⟩
  obtain ⟨T, z, rfl, hT, rfl, yl⟩ := yl
  have := yl vs h'
  rw [hv] at this
  cases this
  exact ⟨ex_new hT, ra.new hT, .tup (.inl (.inl upd_same)) (.cons (by rw [Nat.zero_add]; exact .int _) (.cons (rv.ex (ex_new hT)) .nil))⟩
theorem rv_pair {p : Addr} {x y : AV} {v w : V} (hp : H p = none) (rx : RV K as H x v) (ry : RV K as H y w) : RV K as (upd H p (.tup [v, w])) (.tup [x, y]) (.ref p) :=
  .tup (.inl (.inl upd_same)) (.cons (rx.ex (ex_new hp)) (.cons (ry.ex (ex_new hp)) .nil))
theorem ri_enT {a : Addr} {ts : List AV} {vs : List V} (h : SqT K H a vs) (r : RVs K as H ts vs) : RI K as H (enumA 0 ts, []) (Kb.ItEn K a) := by
  intro i as' H' A' e ra _
  have h' := e.kp.1 _ _ h
  have r' := r.ex e
  refine ⟨fun x hx => ?_, fun hl => ⟨vs, h', by rw [← r'.length]; rw [enumA_length] at hl; exact hl⟩⟩
  obtain ⟨y, hy, rfl⟩ := enumA_get hx
  obtain ⟨v, hv, rv⟩ := r'.get hy
  refine ⟨⟨vs, v, h', hv⟩, fun w H2 yl => ?_⟩
  obtain ⟨T, z, rfl, hT, rfl, yl⟩ := yl
  have := yl vs h'
  rw [hv] at this
  cases this
  exact ⟨ex_new hT, ra.new hT, rv_pair hT (by rw [Nat.zero_add]; exact .int _) rv⟩
theorem ri_enL {a : Addr} {n : Nat} {xs : List AV} (h : as[n]? = some a) : RI K as H (enumA 0 xs, [(n, xs)]) (Ite K a) := by
  intro i as' H' A' e ra ok
  obtain ⟨vs, h', r'⟩ := listOf_loc ra (e.get h) (ok _ List.mem_cons_self)
  refine ⟨fun x hx => ?_, fun hl => ⟨vs, h', by rw [← r'.length]; rw [enumA_length] at hl; exact hl⟩⟩
  obtain ⟨y, hy, rfl⟩ := enumA_get hx
  obtain ⟨v, hv, rv⟩ := r'.get hy
  refine ⟨⟨vs, v, h', hv⟩, fun w H2 yl => ?_⟩
  obtain ⟨T, z, rfl, hT, rfl, yl⟩ := yl
  have := yl vs h'
  rw [hv] at this
  cases this
  exact ⟨ex_new hT, ra.new hT, rv_pair hT (by rw [Nat.zero_add]; exact .int _) rv⟩
theorem zip_get {xs ys : List AV} {i : Nat} {x : AV} (h : (List.zipWith (fun x y => AV.tup [x, y]) xs ys)[i]? = some x) : ∃ a b, xs[i]? = some a ∧ ys[i]? = some b ∧ x = .tup [a, b] := by
  rw [List.getElem?_zipWith] at h
  split at h
  · rename_i a b e1 e2
    exact ⟨a, b, e1, e2, by cases h; rfl⟩
  · cases h
theorem ri_zipT {a b : Addr} {xs ys : List AV} {vs ws : List V} (h : SqT K H a vs) (r : RVs K as H xs vs) (h2 : SqT K H b ws) (r2 : RVs K as H ys ws) : RI K as H (List.zipWith (fun x y => .tup [x, y]) xs ys, []) (RZ.ItzT K a b) := by
  intro i as' H' A' e ra _
  have h' := e.kp.1 _ _ h
  have r' := r.ex e
  have h2' := e.kp.1 _ _ h2
  have r2' := r2.ex e
  refine ⟨fun x hx => ?_, fun hl => ⟨vs, ws, h', h2', by have q1 : xs.length = vs.length := r'.length; have q2 : ys.length = ws.length := r2'.length; rw [List.length_zipWith] at hl; omega⟩⟩
  obtain ⟨y, z, hy, hz, rfl⟩ := zip_get hx
  obtain ⟨v, hv, rv⟩ := r'.get hy
  obtain ⟨w, hw, rw'⟩ := r2'.get hz
  refine ⟨⟨vs, ws, v, w, h', h2', hv, hw⟩, fun u H2 yl => ?_⟩
  obtain ⟨T, x1, y1, rfl, hT, rfl, y1', y2'⟩ := yl
  have q1 := y1' vs h'
  have q2 := y2' ws h2'
  rw [hv] at q1
  rw [hw] at q2
  cases q1
  cases q2
  exact ⟨ex_new hT, ra.new hT, rv_pair hT rv rw'⟩
theorem ri_zipL {a b : Addr} {n m : Nat} {xs ys : List AV} (h : as[n]? = some a) (h2 : as[m]? = some b) : RI K as H (List.zipWith (fun x y => .tup [x, y]) xs ys, [(n, xs), (m, ys)]) (Itz K a b) := by
  intro i as' H' A' e ra ok
  obtain ⟨vs, h', r'⟩ := listOf_loc ra (e.get h) (ok _ List.mem_cons_self)
  obtain ⟨ws, h2', r2'⟩ := listOf_loc ra (e.get h2) (ok _ (List.mem_cons_of_mem _ List.mem_cons_self))
  refine ⟨fun x hx => ?_, fun hl => ⟨vs, ws, h', h2', by have q1 : xs.length = vs.length := r'.length; have q2 : ys.length = ws.length := r2'.length; rw [List.length_zipWith] at hl; omega⟩⟩
  obtain ⟨y, z, hy, hz, rfl⟩ := zip_get hx
  obtain ⟨v, hv, rv⟩ := r'.get hy
  obtain ⟨w, hw, rw'⟩ := r2'.get hz
  refine ⟨⟨vs, ws, v, w, h', h2', hv, hw⟩, fun u H2 yl => ?_⟩
  obtain ⟨T, x1, y1, rfl, hT, rfl, y1', y2'⟩ := yl
  have q1 := y1' vs h'
  have q2 := y2' ws h2'
  rw [hv] at q1
  rw [hw] at q2
  cases q1
  cases q2
  exact ⟨ex_new hT, ra.new hT, rv_pair hT rv rw'⟩
theorem ri_range {lo hi : Int} : RI K as H (rangeA lo hi, []) (Itr lo (hi - lo).toNat) := by
  intro i as' H' A' e ra _
  refine ⟨fun x hx => ?_, fun hl => by
    unfold rangeA at hl
    rw [List.length_map, List.length_range] at hl
    exact hl⟩
  unfold rangeA at hx
  rw [List.getElem?_map] at hx
  obtain ⟨k, hk, rfl⟩ := Option.map_eq_some_iff.mp hx
  obtain ⟨h1, h2⟩ := List.getElem?_eq_some_iff.mp hk
  rw [List.length_range] at h1
  rw [List.getElem_range] at h2
  subst h2
  refine ⟨h1, fun v H2 y => ?_⟩
  obtain ⟨rfl, rfl⟩ := y
  exact ⟨Ex.refl, ra, .int _⟩
end
section
variable {X : Cx} {W : WX} {tg e e2 : Expr} {me : ME} {ms : MA} {p pos tpos : Pos} {elts : List Expr} {kk : Nat}
theorem ji_seq (h : JE X W e me) : JI X W tg e (miSeq me) := by
  refine pi_mono (PI.or (pi_list h) (pi_tup h)) fun σ H R ⟨as, env, A, ra, re, g⟩ => ?_
  cases em : me env A with
  | ok x A1 =>
    cases x with
    | tup ts =>
      refine .inr ⟨as, env, A, ra, re, G.bind g fun y A2 as1 H1 v e0 e1 ra1 rv g1 => ?_⟩
      rw [em] at e0
      cases e0
      cases rv with
      | tup h1 r1 => exact ⟨_, rfl, ⟨_, h1⟩, g1 as1 H1 _ Ex.refl ra1 (ri_tup h1 r1)⟩
    | cst ts =>
      refine .inl ⟨as, env, A, ra, re, G.bind g fun y A2 as1 H1 v e0 e1 ra1 rv g1 => ?_⟩
      rw [em] at e0
      cases e0
      cases rv with
      | cst h1 r1 => exact ⟨_, rfl, ⟨_, h1.sq⟩, g1 as1 H1 _ Ex.refl ra1 (ri_cst h1 r1)⟩
    | loc n =>
      refine .inl ⟨as, env, A, ra, re, G.bind g fun y A2 as1 H1 v e0 e1 ra1 rv g1 => ?_⟩
      rw [em] at e0
      cases e0
      unfold seqOf at g1
      dsimp only at g1
      cases rv with
      | loc h1 =>
      cases el : listOf A1 (.loc n) with
      | none => rw [el] at g1; exact g1.elim
      | some xs =>
        rw [el] at g1
        obtain ⟨vs, hs, rs⟩ := listOf_loc ra1 h1 el
        exact ⟨_, rfl, ⟨vs, hs⟩, g1 as1 H1 _ Ex.refl ra1 (ri_lst h1)⟩
    | _ => unfold miSeq at g; rw [em] at g; exact g.elim
  | ex x A1 =>
    refine .inl ⟨as, env, A, ra, re, ?_⟩
    unfold miSeq at g
    rw [em] at g ⊢
    exact g
  | bad => unfold miSeq at g; rw [em] at g; exact g.elim
theorem ji_enum (hg : Gl X "enumerate") (hm : X.mg "enumerate" = none) (ha : JA X W [e] ms) (hs : starEach [e] X.env = [(false, eval e X.env)] := by rfl) :
    JI X W (.Tuple elts kk tpos) (.Call (.Name "enumerate" p) [e] [] pos) (miEnum ms) := by
  refine pi_mono (PI.or (pi_enum hg hm ha hs) (Kb.pi_en hg hm ha hs)) fun σ H R ⟨as, env, A, ra, re, g⟩ => ?_
  cases em : ms env A with
  | ok xs A1 =>
    match xs, em with
    | [], em => unfold miEnum at g; rw [em] at g; exact g.elim
    | _ :: _ :: _, em => unfold miEnum at g; rw [em] at g; exact g.elim
    | [x], em =>
    cases x with
    | tup ts =>
      refine .inr ⟨as, env, A, ra, re, G.bind g fun y A2 as1 H1 v e0 e1 ra1 rv g1 => ?_⟩
      rw [em] at e0
      cases e0
      cases rv with
      | cons rv rr =>
      cases rr
      cases rv with
      | tup h1 r1 => exact ⟨_, _, rfl, h1, g1 as1 H1 _ Ex.refl ra1 (ri_enT h1 r1)⟩
    | cst ts =>
      refine .inl ⟨as, env, A, ra, re, G.bind g fun y A2 as1 H1 v e0 e1 ra1 rv g1 => ?_⟩
      rw [em] at e0
      cases e0
      cases rv with
      | cons rv rr =>
      cases rr
      cases rv with
      | cst h1 r1 => exact ⟨_, _, rfl, h1.sq, g1 as1 H1 _ Ex.refl ra1 (ri_enC h1 r1)⟩
    | loc n =>
      refine .inl ⟨as, env, A, ra, re, G.bind g fun y A2 as1 H1 v e0 e1 ra1 rv g1 => ?_⟩
      rw [em] at e0
      cases e0
      cases rv with
      | cons rv rr =>
      cases rr
      cases rv with
      | loc h1 =>
      dsimp only [seqOf] at g1
      cases el : listOf A1 (.loc n) with
      | none => rw [el] at g1; exact g1.elim
      | some xs =>
        rw [el] at g1
        obtain ⟨vs, hs, rs⟩ := listOf_loc ra1 h1 el
        exact ⟨_, _, rfl, hs, g1 as1 H1 _ Ex.refl ra1 (ri_enL h1)⟩
    | _ => unfold miEnum at g; rw [em] at g; exact g.elim
  | ex x A1 =>
    refine .inl ⟨as, env, A, ra, re, ?_⟩
    unfold miEnum at g
    rw [em] at g ⊢
    exact g
  | bad => unfold miEnum at g; rw [em] at g; exact g.elim
theorem ji_zip (hg : Gl X "zip") (hm : X.mg "zip" = none) (ha : JA X W [e, e2] ms)
    (hs : starEach [e, e2] X.env = (false, eval e X.env) :: starEach [e2] X.env := by rfl) (hpl : (backTo pos (starEach [e2] X.env)).any (·.1) = false := by rfl) :
    JI X W (.Tuple elts kk tpos) (.Call (.Name "zip" p) [e, e2] [] pos) (miZip ms) := by
  refine pi_mono (RZ.pi_zipA hg hm ha hs hpl) fun σ H R ⟨as, env, A, ra, re, g⟩ => ?_
  refine ⟨as, env, A, ra, re, G.bind g fun y A2 as1 H1 v e0 e1 ra1 rv g1 => ?_⟩
  split at g1
  · cases rv with
    | cons r1 rr =>
    cases rr with
    | cons r2 rr =>
    cases rr
    cases r1 with
    | tup h1 r1 =>
    cases r2 with
    | tup h2 r2 => exact ⟨_, _, _, _, rfl, .inr ⟨h1, h2, g1 as1 H1 _ Ex.refl ra1 (ri_zipT h1 r1 h2 r2)⟩⟩
  · split at g1
    · rename_i el1 el2
      cases rv with
      | cons r1 rr =>
      cases rr with
      | cons r2 rr =>
      cases rr
      cases r1 with
      | loc h1 =>
      cases r2 with
      | loc h2 =>
      obtain ⟨vs, hs, rs⟩ := listOf_loc ra1 h1 el1
      obtain ⟨ws, hs2, rs2⟩ := listOf_loc ra1 h2 el2
      exact ⟨_, _, _, _, rfl, .inl ⟨hs, hs2, g1 as1 H1 _ Ex.refl ra1 (ri_zipL h1 h2)⟩⟩
    · exact g1.elim
  · exact g1.elim
theorem ji_range1 (hg : Gl X "range") (hm : X.mg "range" = none) (ha : JA X W [e] ms) (hs : starEach [e] X.env = [(false, eval e X.env)] := by rfl) : JI X W tg (.Call (.Name "range" p) [e] [] pos) (miRange1 ms) := by
  refine pi_mono (pi_range1 hg hm ha hs) fun σ H R ⟨as, env, A, ra, re, g⟩ => ?_
  refine ⟨as, env, A, ra, re, G.bind g fun y A2 as1 H1 v e0 e1 ra1 rv g1 => ?_⟩
  split at g1
  · cases rv with
    | cons r1 rr =>
    cases rr
    cases r1
    split at g1
    · rename_i h
      have q := g1 as1 H1 _ Ex.refl ra1 ri_range
      rw [Int.sub_zero] at q
      exact ⟨_, rfl, h.1, h.2, q⟩
    · exact g1.elim
  · exact g1.elim
theorem ji_range2 (hg : Gl X "range") (hm : X.mg "range" = none) (ha : JA X W [e, e2] ms) (hs : starEach [e, e2] X.env = [(false, eval e X.env), (false, eval e2 X.env)] := by rfl) (hs2 : starEach [e2] X.env = [(false, eval e2 X.env)] := by rfl) :
    JI X W tg (.Call (.Name "range" p) [e, e2] [] pos) (miRange2 ms) := by
  refine pi_mono (pi_range2 hg hm ha hs hs2) fun σ H R ⟨as, env, A, ra, re, g⟩ => ?_
  refine ⟨as, env, A, ra, re, G.bind g fun y A2 as1 H1 v e0 e1 ra1 rv g1 => ?_⟩
  split at g1
  · cases rv with
    | cons r1 rr =>
    cases rr with
    | cons r2 rr =>
    cases rr
    cases r1
    cases r2
    split at g1
    · rename_i h
      exact ⟨_, _, rfl, ⟨h.1.1, h.1.2, h.2.1, h.2.2⟩, g1 as1 H1 _ Ex.refl ra1 ri_range⟩
    · exact g1.elim
  · exact g1.elim
end
/-! ### for, while -/
open Classical in
noncomputable def forV (gd : Gd) (g : MG) (b : MS) : List AV → MS
  | [], env, A => if okG gd A then .nx env A else .bad
  | x :: r, env, A => if okG gd A then (match g x env with
    | none => .bad
    | some e => (match b e A with
      | .nx e A => forV gd g b r e A
      | .ct e A => forV gd g b r e A
      | .bk e A => .nx e A
      | o => o)) else .bad
noncomputable def mFor (i : MI) (g : MG) (b : MS) : MS := fun env A => (i env A).st env fun p A1 => forV p.2 g b p.1 env A1
def whileV (c : MT) (b : MS) : Nat → MS
  | 0, _, _ => .bad
  | n + 1, env, A => (c env A).st env fun k A1 => if k = true then (match b env A1 with
      | .nx e A => whileV c b n e A
      | .ct e A => whileV c b n e A
      | .bk e A => .nx e A
      | o => o) else .nx env A1
def mWhile (n : Nat) (c : MT) (b : MS) : MS := whileV c b n
section
variable {X : Cx} {W : WX} {tg it c : Expr} {mi : MI} {g : MG} {ns : List Nat} {body : List Stmt} {mb : MS} {pos : Pos} {mt : MT}
theorem js_for (hp : PassesOwn (model X.prog X.w) X.A X.env X.xe) (hc : X.calm = true) (hi : JI X W tg it mi) (hg : JG X tg g ns) (hb : JSs X W body mb)
    (hs : ∀ x, foldedSetIterable it X.env x = pure x := by intro _; rfl) : JS X W (.For tg it body [] pos) (mFor mi g mb) := by
  refine ps_mono (ps_for hp hc hi hg hb hs) fun D σ H ⟨as, env, A, ra, re, gg⟩ => ?_
  refine ⟨as, env, A, ra, re, GS.st re gg fun p A1 as1 H1 J _ e1 ra1 rj g1 => ?_⟩
  refine ⟨fun i m σ H => m = p.1.length - i ∧ ∃ as2 env A2, Ex X.K as1 H1 as2 H ∧ RA X.K as2 H A2 ∧ RE X.K as2 H env σ ∧ GS X.K W as2 H (forV p.2 g mb (p.1.drop i) env A2) D, ⟨_, rfl, as1, env, A1, Ex.refl, ra1, re.ex e1, g1⟩, ?_⟩
  rintro i m σ2 H2 ⟨rfl, as2, env2, A2, e2, ra2, re2, g2⟩
  cases hd : p.1.drop i with
  | nil =>
    rw [hd] at g2
    unfold forV at g2
    split at g2
    · rename_i ok
      refine .inl ⟨(rj i as2 H2 A2 e2 ra2 ok).2 (List.drop_eq_nil_iff.mp hd), g2 as2 H2 σ2 Ex.refl ra2 re2⟩
    · exact g2.elim
  | cons x r =>
    rw [hd] at g2
    unfold forV at g2
    split at g2
    · rename_i ok
      have hx : p.1[i]? = some x := by
        have := List.getElem?_drop (xs := p.1) (i := i) (j := 0)
        rw [hd] at this
        simpa using this.symm
      have hil : i < p.1.length := (List.getElem?_eq_some_iff.mp hx).1
      have hr : p.1.drop (i + 1) = r := by
        rw [← List.tail_drop, hd]
        rfl
      obtain ⟨go, yl⟩ := (rj i as2 H2 A2 e2 ra2 ok).1 x hx
      refine .inr ⟨go, fun σ' H' => ∃ as3 env3 A3, Ex X.K as1 H1 as3 H' ∧ RA X.K as3 H' A3 ∧ RE X.K as3 H' env3 σ' ∧ GS X.K W as3 H' (forV p.2 g mb (p.1.drop (i + 1)) env3 A3) D, fun σ' H' q => ⟨_, ?_, rfl, q⟩, fun v H3 y => ?_⟩
      · omega
      · obtain ⟨e3, ra3, rx⟩ := yl v H3 y
        split at g2
        · exact g2.elim
        · rename_i env' eg
          refine ⟨as2, x, env2, env', rx, re2.ex e3, eg, fun σ' re' _ => ?_⟩
          refine ⟨as2, env', A2, ra3, re', ?_⟩
          have e13 := e2.trans e3
          have g3 := GS.ex e3 g2
          rw [hr]
          cases eb : mb env' A2 with
          | nx env4 A4 =>
            rw [eb] at g3
            exact fun as' H' σ' e4 ra4 re4 => ⟨as', env4, A4, e13.trans e4, ra4, re4, GS.ex e4 g3⟩
          | ct env4 A4 =>
            rw [eb] at g3
            exact fun as' H' σ' e4 ra4 re4 => ⟨as', env4, A4, e13.trans e4, ra4, re4, GS.ex e4 g3⟩
          | bk env4 A4 =>
            rw [eb] at g3
            exact g3
          | rt x A4 =>
            rw [eb] at g3
            exact g3
          | ex x env4 A4 =>
            rw [eb] at g3
            exact g3
          | bad =>
            rw [eb] at g3
            exact g3
    · exact g2.elim
theorem js_while (n : Nat) (hp : PassesOwn (model X.prog X.w) X.A X.env X.xe) (hc : JT X W c mt) (hb : JSs X W body mb) : JS X W (.While c body [] pos) (mWhile n mt mb) := by
  refine ps_mono (ps_while hp hc hb) fun D σ H ⟨as, env, A, ra, re, gg⟩ => ?_
  refine ⟨fun m σ H => ∃ as env A, RA X.K as H A ∧ RE X.K as H env σ ∧ GS X.K W as H (whileV mt mb m env A) D, ⟨n, as, env, A, ra, re, gg⟩, ?_⟩
  rintro m σ1 H1 ⟨as1, env1, A1, ra1, re1, g1⟩
  cases m with
  | zero => exact g1.elim
  | succ m =>
    unfold whileV at g1
    refine ⟨as1, env1, A1, ra1, re1, GS.st re1 g1 fun k A2 as2 H2 b _ e2 ra2 rb g2 => ?_⟩
    cases rb
    cases k with
    | false => exact g2 as2 H2 σ1 Ex.refl ra2 (re1.ex e2)
    | true =>
      rw [if_pos rfl] at g2 ⊢
      refine ⟨fun σ' H' => ∃ as3 env3 A3, RA X.K as3 H' A3 ∧ RE X.K as3 H' env3 σ' ∧ GS X.K W as3 H' (whileV mt mb m env3 A3) D, fun σ' H' q => ⟨m, Nat.lt_succ_self _, q⟩, as2, env1, A2, ra2, re1.ex e2, ?_⟩
      cases eb : mb env1 A2 with
      | nx env4 A4 =>
        rw [eb] at g2
        exact fun as' H' σ' e4 ra4 re4 => ⟨as', env4, A4, ra4, re4, GS.ex e4 g2⟩
      | ct env4 A4 =>
        rw [eb] at g2
        exact fun as' H' σ' e4 ra4 re4 => ⟨as', env4, A4, ra4, re4, GS.ex e4 g2⟩
      | bk env4 A4 => rw [eb] at g2; exact g2
      | rt x A4 => rw [eb] at g2; exact g2
      | ex x env4 A4 => rw [eb] at g2; exact g2
      | bad => rw [eb] at g2; exact g2
end
end Am

set_option Elab.async false
set_option linter.all false
set_option maxRecDepth 100000
set_option maxHeartbeats 4000000
/-! Am6: comprehensions; calls of defs. -/
namespace Am
open PySem PySem.Spec PyProof.Rows L2
abbrev WF : WX := fun _ _ _ _ => False
def R.noex {α : Type} (r : R α) : R α := match r with
  | .ok x A => .ok x A
  | _ => .bad
@[simp] theorem R.noex_ok {α : Type} {x : α} {A : Hx} : (R.ok x A).noex = .ok x A := rfl
@[simp] theorem R.noex_bad {α : Type} : (R.bad : R α).noex = .bad := rfl
@[simp] theorem R.noex_ex {α : Type} {e : AX} {A : Hx} : (R.ex e A : R α).noex = .bad := rfl
section
variable {K : PySem.W.Frag} {W W' : WX} {as as1 : List Addr} {H H1 : Hp} {σ σ' : L2.St} {α β γ δ : Type} {Rel : List Addr → Hp → α → β → Prop} {Rel2 : List Addr → Hp → γ → δ → Prop}
theorem G.nbind {r : R α} {k : α → Hx → R γ} {Q : δ → Hp → Prop} {Q' : β → Hp → Prop} (g : G K W as H σ Rel2 (r.noex.bind k) Q)
    (h : ∀ x A as1 H1 v, r = .ok x A → Ex K as H as1 H1 → RA K as1 H1 A → Rel as1 H1 x v → G K W as1 H1 σ Rel2 (k x A) Q → Q' v H1) : G K W' as H σ' Rel r Q' := by
  cases r with
  | ok x A => exact fun as' H' v e ra rv => h x A as' H' v rfl e ra rv (G.ex e g)
  | ex x A => exact g.elim
  | bad => exact g.elim
theorem G.wish {r : R α} {Q : β → Hp → Prop} (g : G K W as H σ Rel r Q) : G K (fun c d _ H => W c d σ H) as H σ' Rel r Q := by
  cases r with
  | ok x A => exact g
  | ex x A => exact g
  | bad => exact g
end
open Classical in
noncomputable def compV (gd : Gd) (n : Nat) (g : MG) (mt : MT) (me : ME) (env : Ev) (vs : List Nat) : List AV → Hx → R AV
  | [], A => if okG gd A then .ok (.loc n) A else .bad
  | x :: r, A => if okG gd A then (match g x (wipeE env vs) with
    | none => .bad
    | some e => (mt e A).noex.bind fun b A1 => if b = true then (me e A1).noex.bind fun y A2 => (match mutOf A2 (.loc n) with
        | some (_, acc) => if acc.length < sizeLine then compV gd n g mt me env vs r (A2.set n (.lst (acc ++ [y]))) else .bad
        | none => .bad) else compV gd n g mt me env vs r A1) else .bad
noncomputable def mLc (mi : MI) (g : MG) (mt : MT) (me : ME) (vs : List Nat) : ME := fun env A => (mi env A).bind fun p A1 => compV p.2 A1.length g mt me env vs p.1 (A1 ++ [.lst []])
def mYes : MT := fun _ A => .ok true A
theorem wipe_chg {σ σ' : L2.St} {ns : List Nat} (c : Chg ns σ σ') : ∀ {vs : List Nat}, (∀ i, i ∈ ns → i ∈ vs) → L2.wipe σ' vs = L2.wipe σ vs := by
  intro vs h
  have key : ∀ (τ : L2.St) (i : Nat), (L2.wipe τ vs)[i]? = if i ∈ vs ∧ i < τ.length then some none else τ[i]? := by
    intro τ i
    clear h c
    induction vs with
    | nil => simp [L2.wipe]
    | cons v vs ih =>
      unfold L2.wipe
      rw [List.getElem?_set, ih, L2.wipe_length]
      by_cases hv : v = i
      · subst hv
        by_cases hl : v < τ.length
        · simp [hl]
        · have hn : τ[v]? = none := List.getElem?_eq_none_iff.mpr (by omega)
          simp [hl]
      · have hv' : ¬ i = v := fun z => hv z.symm
        simp [hv, hv']
  apply List.ext_getElem?
  intro i
  rw [key, key, c.1]
  by_cases hi : i ∈ vs ∧ i < σ.length
  · rw [if_pos hi, if_pos hi]
  · rw [if_neg hi, if_neg hi]
    by_cases hv : i ∈ vs
    · have hl : ¬ i < σ.length := fun z => hi ⟨hv, z⟩
      rw [List.getElem?_eq_none_iff.mpr (by rw [c.1]; omega), List.getElem?_eq_none_iff.mpr (by omega)]
    · exact c.2 i fun z => hv (h i z)
theorem wipe_wipe (σ : L2.St) (vs : List Nat) : L2.wipe (L2.wipe σ vs) vs = L2.wipe σ vs :=
  wipe_chg (σ := σ) (σ' := L2.wipe σ vs) (ns := vs) ⟨L2.wipe_length _ _, fun i hi => by
    induction vs with
    | nil => rfl
    | cons v vs ih =>
      rw [List.mem_cons, not_or] at hi
      unfold L2.wipe
      rw [List.getElem?_set_ne (fun z => hi.1 z.symm), ih hi.2]⟩ fun _ h => h
section
variable {X : Cx} {W : WX} {mi : MI} {g : MG} {ns : List Nat} {mt : MT} {me : ME}
/-- the turns of a comprehension -/
theorem lc_ok {vs : List Nat} {σ : L2.St} {H : Hp} {Q : VK} {wi : TI} (hwi : ∀ σ H R, rd X.K W (RI X.K) mi σ H R → wi σ H R) (hns : ∀ i, i ∈ ns → i ∈ vs) (h : rd X.K W (RV X.K) (mLc mi g mt me vs) σ H Q) :
    L2.tLc wi (gRd X.K g ns) (rd X.K WF rB mt) (rd X.K WF (RV X.K) me) vs σ H Q := by
  obtain ⟨as, env, A, ra, re, gg⟩ := h
  refine hwi _ _ _ ⟨as, env, A, ra, re, G.bind gg fun p A1 as1 H1 J _ e1 ra1 rj g1 => ?_⟩
  intro D hD
  have eD : Ex X.K as1 H1 (as1 ++ [D]) (upd H1 D (.lst [])) := ex_push hD
  have raD : RA X.K (as1 ++ [D]) (upd H1 D (.lst [])) (A1 ++ [.lst []]) := ra1.push hD ⟨[], upd_same, .nil⟩
  have atD : (as1 ++ [D])[A1.length]? = some D := by
    rw [← ra1.len, List.getElem?_append_right (Nat.le_refl _)]
    simp
  refine ⟨fun i m H => m = p.1.length - i ∧ ∃ as2 A2, Ex X.K (as1 ++ [D]) (upd H1 D (.lst [])) as2 H ∧ RA X.K as2 H A2 ∧ G X.K W as2 H σ (RV X.K) (compV p.2 A1.length g mt me env vs (p.1.drop i) A2) Q, ⟨_, rfl, as1 ++ [D], A1 ++ [.lst []], Ex.refl, raD, by rw [List.drop_zero]; exact G.ex eD g1⟩, ?_⟩
  rintro i m H2 ⟨rfl, as2, A2, e2, ra2, g2⟩
  have at2 := e2.get atD
  cases hd : p.1.drop i with
  | nil =>
    rw [hd] at g2
    unfold compV at g2
    split at g2
    · rename_i ok
      exact .inl ⟨(rj i as2 H2 A2 (eD.trans e2) ra2 ok).2 (List.drop_eq_nil_iff.mp hd), g2 as2 H2 _ Ex.refl ra2 (.loc at2)⟩
    · exact g2.elim
  | cons x r =>
    rw [hd] at g2
    unfold compV at g2
    split at g2
    · rename_i ok
      have hx : p.1[i]? = some x := by
        have := List.getElem?_drop (xs := p.1) (i := i) (j := 0)
        rw [hd] at this
        simpa using this.symm
      have hil : i < p.1.length := (List.getElem?_eq_some_iff.mp hx).1
      have hr : p.1.drop (i + 1) = r := by
        rw [← List.tail_drop, hd]
        rfl
      obtain ⟨go, yl⟩ := (rj i as2 H2 A2 (eD.trans e2) ra2 ok).1 x hx
      refine .inr ⟨go, fun H' => ∃ as3 A3, Ex X.K (as1 ++ [D]) (upd H1 D (.lst [])) as3 H' ∧ RA X.K as3 H' A3 ∧ G X.K W as3 H' σ (RV X.K) (compV p.2 A1.length g mt me env vs (p.1.drop (i + 1)) A3) Q, fun H' q => ⟨_, by omega, rfl, q⟩, fun v H3 y => ?_⟩
      obtain ⟨e3, ra3, rx⟩ := yl v H3 y
      have re3 := (((re.ex e1).ex eD).ex e2).ex e3
      split at g2
      · exact g2.elim
      · rename_i env' eg
        refine ⟨as2, x, wipeE env vs, env', rx, re3.wipe vs, eg, fun σ' re' ch => ⟨?_, ?_⟩⟩
        · exact (wipe_chg ch hns).trans (wipe_wipe σ vs)
        · refine ⟨as2, env', A2, ra3, re', G.nbind (G.ex e3 g2) fun b A4 as4 H4 _ _ e4 ra4 rb g4 => ?_⟩
          cases rb
          cases b with
          | false =>
            rw [if_neg Bool.false_ne_true] at g4 ⊢
            exact ⟨as4, A4, (e2.trans e3).trans e4, ra4, by rw [hr]; exact g4⟩
          | true =>
            rw [if_pos rfl] at g4 ⊢
            refine ⟨as4, env', A4, ra4, re'.ex e4, G.nbind g4 fun z A5 as5 H5 u _ e5 ra5 rz g5 => ?_⟩
            split at g5
            · rename_i k acc em
              have at5 := e5.get (e4.get (e3.get at2))
              obtain ⟨q, ws, eq1, hp, hA, hH, rl⟩ := mutOf_ok ra5 (.loc at5) em
              cases eq1
              have hk : k = A1.length := by
                unfold mutOf at em
                dsimp only at em
                split at em
                · cases em; rfl
                · cases em
              subst hk
              split at g5
              · rename_i hl
                refine ⟨ws, hH, by rw [← rl.length]; exact hl, as5, _, (((e2.trans e3).trans e4).trans e5).trans (ex_mut hH rfl), ra5.lset hp hH (rl.app (.cons rz .nil)), ?_⟩
                rw [hr]
                exact G.ex (ex_mut hH rfl) g5
              · exact g5.elim
            · exact g5.elim
    · exact g2.elim
theorem je_lc {elt tg iter : Expr} {ifs : List Expr} {scope : Scope} {own : List (Str × Nat)} {pos : Pos} (hc : X.calm = true) (hN : X.N.Nodup) (hi : JI X W tg iter mi) (ok : BlkOk X.N X.env.scope scope own)
    (hg : ∀ (s : Shared) (H : Hp) (C : Addr) (cl : List (Str × Addr)) (fp : List Addr), JG (X.blk s H scope (compEnvC scope cl C X.env) fp) tg g ns)
    (ht : ∀ (s : Shared) (H : Hp) (C : Addr) (cl : List (Str × Addr)) (fp : List Addr), PTs (X.blk s H scope (compEnvC scope cl C X.env) fp) ifs (rd X.K WF rB mt))
    (he : ∀ (s : Shared) (H : Hp) (C : Addr) (cl : List (Str × Addr)) (fp : List Addr), JE (X.blk s H scope (compEnvC scope cl C X.env) fp) WF elt me)
    (hns : ∀ i, i ∈ ns → i ∈ own.map (·.2) := by decide) (hs : ∀ x, foldedSetIterable iter X.env x = pure x := by intro _; rfl) : JE X W (.ListComp elt [⟨tg, iter, ifs, 0⟩] scope pos) (mLc mi g mt me (own.map (·.2))) :=
  pe_mono (pe_lc hc hN hi ok hg ht he hs) fun σ H Q h => lc_ok (fun _ _ _ q => q) hns h
theorem jts_nil {K : PySem.W.Frag} : PTs X [] (rd K WF rB mYes) := ⟨fun pins s σ H Q I ⟨as, env, A, ra, re, g⟩ => pts_nil.run pins s σ H Q I (g as H true Ex.refl ra rfl)⟩
theorem jts_one {c : Expr} (h : JT X WF c mt) : PTs X [c] (rd X.K WF rB mt) := pts_one h
theorem js_setLc {i : Nat} {y : Str} {py : Pos} {elt tg iter : Expr} {ifs : List Expr} {scope : Scope} {own : List (Str × Nat)} {pos spos : Pos} (hc : X.calm = true) (hN : X.N.Nodup) (hy : X.N[i]? = some y) (hyl : X.env.scope.names.lookup y = some .local)
    (hsw : swapsWith (.ListComp elt [⟨tg, iter, ifs, 0⟩] scope pos) (some (.Name y py)) spos.line X.env = pure true) (hi : JI X W tg iter mi) (ok : BlkOk X.N X.env.scope scope own)
    (hg : ∀ (s : Shared) (H : Hp) (C : Addr) (cl : List (Str × Addr)) (fp : List Addr), JG (X.blk s H scope (compEnvC scope cl C X.env) fp) tg g ns)
    (ht : ∀ (s : Shared) (H : Hp) (C : Addr) (cl : List (Str × Addr)) (fp : List Addr), PTs (X.blk s H scope (compEnvC scope cl C X.env) fp) ifs (rd X.K WF rB mt))
    (he : ∀ (s : Shared) (H : Hp) (C : Addr) (cl : List (Str × Addr)) (fp : List Addr), JE (X.blk s H scope (compEnvC scope cl C X.env) fp) WF elt me)
    (hns : ∀ i, i ∈ ns → i ∈ own.map (·.2) := by decide) (hs : ∀ x, foldedSetIterable iter X.env x = pure x := by intro _; rfl) : JS X W (.Assign [.Name y py] (.ListComp elt [⟨tg, iter, ifs, 0⟩] scope pos) spos) (mSet i (mLc mi g mt me (own.map (·.2)))) := by
  refine ps_mono (ps_setLc (wi := rd X.K W (RI X.K) mi) (g := gRd X.K g ns) (tt := rd X.K WF rB mt) (te := rd X.K WF (RV X.K) me) hc hN hy hyl hsw hi ok hg ht he hs) fun D σ H ⟨as, env, A, ra, re, gg⟩ => ?_
  refine lc_ok (fun _ _ _ q => q) hns ⟨as, env, A, ra, re, GS.st re gg fun x A1 as1 H1 v _ e1 ra1 rv g1 => ?_⟩
  exact g1 as1 H1 _ Ex.refl ra1 ((re.ex e1).set i rv)
end
/-! ### what a def leaves -/
mutual
def below (n : Nat) : AV → Bool
  | .loc k => decide (k < n)
  | .tup ts => belows n ts
  | .cst ts => belows n ts
  | _ => true
def belows (n : Nat) : List AV → Bool
  | [] => true
  | x :: r => below n x && belows n r
end
def belowO (n : Nat) : AO → Bool
  | .lst xs => belows n xs
  | .dct kvs => belows n (kvs.map (·.2))
  | .ins _ fs => belows n (fs.map (·.2))
  | .gone => true
def cutOk (A A' : Hx) : Prop := A.length ≤ A'.length ∧ ∀ (i : Nat) (o : AO), i < A.length → A'[i]? = some o → A[i]? = some o ∨ belowO A.length o = true
open Classical in
noncomputable def cut (A : Hx) (r : R AV) : R AV := match r with
  | .ok x A' => if cutOk A A' then (if below A.length x = true then .ok x (A'.take A.length) else (match x with
      | .loc k => (match A'[k]? with
        | some o => if belowO A.length o = true then .ok (.loc A.length) (A'.take A.length ++ [o]) else .ok x A'
        | none => .ok x A')
      | x => .ok x A')) else .ok x A'
  | .ex e A' => if cutOk A A' ∧ belows A.length (e.fs.map (·.2)) = true then .ex e (A'.take A.length) else .ex e A'
  | .bad => .bad
section
variable {K : PySem.W.Frag} {as : List Addr} {H : Hp} {A : Hx} {n : Nat}
mutual
theorem RV.bel : ∀ {x : AV} {v : V}, RV K as H x v → below as.length x = true
  | _, _, .non => by simp [Am.below]
  | _, _, .bl b => by simp [Am.below]
  | _, _, .int i => by simp [Am.below]
  | _, _, .str x => by simp [Am.below]
  | _, _, .ty x => by simp [Am.below]
  | _, _, .st x => by simp [Am.below]
  | _, _, .tup _ r => by
    simp only [Am.below]
    exact RVs.bel r
  | _, _, .cst _ r => by
    simp only [Am.below]
    exact RVs.bel r
  | _, _, .loc h => by
    simp only [Am.below]
    exact decide_eq_true (List.getElem?_eq_some_iff.mp h).1
theorem RVs.bel : ∀ {x : List AV} {v : List V}, RVs K as H x v → belows as.length x = true
  | _, _, .nil => by simp [Am.belows]
  | _, _, .cons h r => by
    simp only [Am.belows, RV.bel h, RVs.bel r, Bool.and_true]
end
theorem RFs.bel : ∀ {x : List (Str × AV)} {v : List (Str × V)}, RFs K as H x v → belows as.length (x.map (·.2)) = true
  | _, _, .nil => by simp [belows]
  | _, _, .cons h r => by
    simp only [List.map_cons, belows, RV.bel h, RFs.bel r, Bool.and_true]
theorem RK.bel {κ : Type} {f : κ → AV} : ∀ {x : List (AV × AV)} {v : List (κ × V)}, RK K f as H x v → belows as.length (x.map (·.2)) = true
  | _, _, .nil => by simp [belows]
  | _, _, .cons h r => by
    simp only [List.map_cons, belows, RV.bel h, RK.bel r, Bool.and_true]
theorem RO.bel {a : Addr} : ∀ {o : AO}, RO K as H a o → belowO as.length o = true
  | .lst _, ⟨_, _, r⟩ => RVs.bel r
  | .dct _, .inl ⟨_, _, r⟩ => RK.bel r
  | .dct _, .inr ⟨_, _, r⟩ => RK.bel r
  | .ins _ _, ⟨_, _, _, r⟩ => RFs.bel r
  | .gone, _ => rfl
mutual
/-- fewer places -/
theorem RV.fewer : ∀ {x : AV} {v : V}, RV K as H x v → Am.below n x = true → RV K (as.take n) H x v
  | _, _, .non, _ => .non
  | _, _, .bl b, _ => .bl b
  | _, _, .int i, _ => .int i
  | _, _, .str x, _ => .str x
  | _, _, .ty x, _ => .ty x
  | _, _, .st x, _ => .st x
  | _, _, .tup h r, b => by
    simp only [Am.below] at b
    exact .tup h (RVs.fewer r b)
  | _, _, .cst h r, b => by
    simp only [Am.below] at b
    exact .cst h (RVs.fewer r b)
  | _, _, .loc h, b => by
    simp only [Am.below, decide_eq_true_eq] at b
    exact .loc (by rw [List.getElem?_take_of_lt b]; exact h)
theorem RVs.fewer : ∀ {x : List AV} {v : List V}, RVs K as H x v → Am.belows n x = true → RVs K (as.take n) H x v
  | _, _, .nil, _ => .nil
  | _, _, .cons h r, b => by
    simp only [Am.belows, Bool.and_eq_true] at b
    exact .cons (RV.fewer h b.1) (RVs.fewer r b.2)
end
theorem RFs.fewer : ∀ {x : List (Str × AV)} {v : List (Str × V)}, RFs K as H x v → belows n (x.map (·.2)) = true → RFs K (as.take n) H x v
  | _, _, .nil, _ => .nil
  | _, _, .cons h r, b => by
    simp only [List.map_cons, belows, Bool.and_eq_true] at b
    exact .cons (h.fewer b.1) (RFs.fewer r b.2)
theorem RK.fewer {κ : Type} {f : κ → AV} : ∀ {x : List (AV × AV)} {v : List (κ × V)}, RK K f as H x v → belows n (x.map (·.2)) = true → RK K f (as.take n) H x v
  | _, _, .nil, _ => .nil
  | _, _, .cons h r, b => by
    simp only [List.map_cons, belows, Bool.and_eq_true] at b
    exact .cons (h.fewer b.1) (RK.fewer r b.2)
theorem RO.fewer {a : Addr} : ∀ {o : AO}, RO K as H a o → belowO n o = true → RO K (as.take n) H a o
  | .lst _, ⟨v, h, r⟩, b => ⟨v, h, r.fewer b⟩
  | .dct _, .inl ⟨v, h, r⟩, b => .inl ⟨v, h, r.fewer b⟩
  | .dct _, .inr ⟨v, h, r⟩, b => .inr ⟨v, h, r.fewer b⟩
  | .ins _ _, ⟨d, v, h, r⟩, b => ⟨d, v, h, r.fewer b⟩
  | .gone, h, _ => h
/-- behind a def: what it laid is forgotten -/
theorem RA.cutA {as' : List Addr} {H' : Hp} {A' : Hx} (ra : RA K as H A) (e : Ex K as H as' H') (ra' : RA K as' H' A') (ok : cutOk A A') : as'.take A.length = as ∧ RA K as H' (A'.take A.length) := by
  obtain ⟨l, rfl⟩ := e.pre
  have ht : (as ++ l).take A.length = as := by
    rw [← ra.len, List.take_left']
    rfl
  refine ⟨ht, by rw [List.length_take, ra.len]; exact (Nat.min_eq_left ok.1).symm, ra.nd, fun n a o e1 e2 => ?_⟩
  have hn : n < A.length := by rw [← ra.len]; exact (List.getElem?_eq_some_iff.mp e1).1
  rw [List.getElem?_take_of_lt hn] at e2
  have r1 := ra'.ob n a o (e.get e1) e2
  have b : belowO A.length o = true := by
    rcases ok.2 n o hn e2 with h | h
    · rw [← ra.len]
      exact (ra.ob n a o e1 h).bel
    · exact h
  have r2 := r1.fewer b
  rw [ht] at r2
  exact r2
end
section
variable {K : PySem.W.Frag} {W : WX} {as : List Addr} {H : Hp} {A : Hx} {σ : L2.St}
theorem G.cut {r : R AV} {Q : VK} (ra : RA K as H A) (g : G K W as H σ (RV K) (cut A r) Q) : G K W as H σ (RV K) r Q := by
  cases r with
  | bad => exact g
  | ok x A' =>
    intro as' H' v e ra' rv
    unfold Am.cut at g
    dsimp only at g
    split at g
    · rename_i ok
      obtain ⟨ht, rc⟩ := ra.cutA e ra' ok
      have e0 : Ex K as H as H' := ⟨⟨[], by simp⟩, e.kp⟩
      split at g
      · rename_i b
        have r2 := rv.fewer b
        rw [ht] at r2
        exact g as H' v e0 rc r2
      · split at g
        · rename_i k nb
          split at g
          · rename_i o eo
            split at g
            · rename_i b
              cases rv with
              | loc hk =>
              rename_i p
              have hp : p ∉ as := by
                intro m
                obtain ⟨j, hj⟩ := List.getElem?_of_mem m
                have hj' := e.get hj
                have : j = k := by
                  obtain ⟨l1, g1⟩ := List.getElem?_eq_some_iff.mp hj'
                  obtain ⟨l2, g2⟩ := List.getElem?_eq_some_iff.mp hk
                  exact (List.getElem_inj ra'.nd).mp (g1.trans g2.symm)
                subst this
                have hl := (List.getElem?_eq_some_iff.mp hj).1
                rw [ra.len] at hl
                simp [Am.below, hl] at nb
              have ro := (ra'.ob k p o hk eo).fewer b
              rw [ht] at ro
              have e1 : Ex K as H (as ++ [p]) H' := ⟨⟨[p], rfl⟩, e.kp⟩
              have e2 : Ex K as H' (as ++ [p]) H' := ⟨⟨[p], rfl⟩, Kp.refl⟩
              refine g (as ++ [p]) H' (.ref p) e1 ⟨by rw [List.length_append, List.length_append, rc.len] <;> rfl, ?_, fun n a u e3 e4 => ?_⟩ (.loc ?_)
              · rw [List.nodup_append]
                exact ⟨ra.nd, by simp, fun x hx y hy z => by
                  have : y = p := by simpa using hy
                  subst this
                  subst z
                  exact hp hx⟩
              · by_cases hn : n < as.length
                · rw [List.getElem?_append_left hn] at e3
                  rw [List.getElem?_append_left (by rw [← rc.len]; exact hn)] at e4
                  exact (rc.ob n a u e3 e4).stay e2 rfl
                · have h1 : n < (as ++ [p]).length := (List.getElem?_eq_some_iff.mp e3).1
                  have h2 : n = as.length := by simp at h1; omega
                  subst h2
                  rw [List.getElem?_append_right (Nat.le_refl _)] at e3
                  rw [rc.len, List.getElem?_append_right (Nat.le_refl _)] at e4
                  simp at e3 e4
                  subst e3 e4
                  exact ro.stay e2 rfl
              · rw [← ra.len, List.getElem?_append_right (Nat.le_refl _)]
                simp
            · exact g as' H' v e ra' rv
          · exact g as' H' v e ra' rv
        · exact g as' H' v e ra' rv
    · exact g as' H' v e ra' rv
  | ex x A' =>
    intro as' H' d e ra' rx
    unfold Am.cut at g
    dsimp only at g
    split at g
    · rename_i ok
      obtain ⟨ht, rc⟩ := ra.cutA e ra' ok.1
      have e0 : Ex K as H as H' := ⟨⟨[], by simp⟩, e.kp⟩
      refine g as H' d e0 rc ?_
      unfold RX at rx ⊢
      split at rx
      · exact rx
      · obtain ⟨dx, vs, h1, h2, h3⟩ := rx
        have h4 := h3.fewer ok.2
        rw [ht] at h4
        exact ⟨dx, vs, h1, h2, h4⟩
    · exact g as' H' d e ra' rx
/-- a wrapped expression -/
noncomputable def mCut (a : ME) : ME := fun env A => cut A (a env A)
theorem je_cut {X : Cx} {a : Expr} {ma : ME} (h : JE X W a ma) : JE X W a (mCut ma) := pe_mono h fun σ H Q ⟨as, env, A, ra, re, g⟩ => ⟨as, env, A, ra, re, G.cut ra g⟩
end
/-! ### defs -/
def outR (r : RS) : R AV := match r with
  | .nx _ A => .ok .non A
  | .rt x A => .ok x A
  | .ex e _ A => .ex e A
  | _ => .bad
noncomputable def fdef (n l : Nat) (mb : MS) : List AV → Hx → R AV := fun xs A => if xs.length = n then cut A (outR (mb (xs.map some ++ List.replicate l none) A)) else .bad
def spA (K : PySem.W.Frag) (n : Nat) (m : List AV → Hx → R AV) : Sp := fun vs H Q E => vs.length = n ∧ ∃ as σ A xs, RA K as H A ∧ RVs K as H xs vs ∧ G K (fun c d _ H => E c d H) as H σ (RV K) (m xs A) Q
/-- room, and no repr under way -/
structure Rm (k : Nat) (A : Around) : Prop where
  r : Room k A
  g : A.guards = some []
theorem Rm.mono {j k : Nat} {A : Around} (r : Rm k A) (h : j ≤ k) : Rm j A := ⟨r.r.mono h, r.g⟩
theorem Rm.deeper {k : Nat} {A : Around} (r : Rm (k + 1) A) (env : Env) : Rm k (A.deeper env) := ⟨r.r.deeper env, r.g⟩
/-- what the def at f keeps, where no repr is under way -/
structure FnG (P : Program) (w : World) (K : PySem.W.Frag) (mg : Str → Option Value) (base : Heap) (T : CXT) (k : Nat) (f : Addr) (fd : FuncData) (ps : List Str) (sp : Sp) : Prop where
  len : ∀ {vs : List V} {H : Hp} {Q : VK} {E : XK}, sp vs H Q E → vs.length = ps.length
  run : ∀ {A : Around} {l : List Env} {s : Shared} {H : Hp} {g : Args} {us : List Value} {vs : List V} {Q : VK} {E : XK}, Rm k A → Env0 P w K mg base A l s H → BindsTo s fd g (ps.zip us) → Vals vs us → sp vs H Q E →
    codeAny (model P w) A (.call (.ref f) g) (CR T l P w H s Q E) s
structure OkA (P : Program) (w : World) (K : PySem.W.Frag) (mg : Str → Option Value) (base : Heap) (k : Nat) (f : Addr) (ps : List Str) (m : List AV → Hx → R AV) : Prop where
  ex : ∃ fd, FnG P w K mg base (L2.CX P w) k f fd ps (spA K ps.length m) ∧ Binds K fd ps []
  kp : PySem.W.keepIn K (.ref f) = true
  len : ∀ xs A, xs.length ≠ ps.length → m xs A = .bad
theorem re_start {K : PySem.W.Frag} {as : List Addr} {H : Hp} {N : List Str} {xs : List AV} {vs : List V} (r : RVs K as H xs vs) {l : Nat} (hl : N.length - xs.length = l) : RE K as H (xs.map some ++ List.replicate l none) (L2.start N vs) := by
  have e := r.length
  refine ⟨by unfold L2.start; simp [e, ← hl], fun i x h => ?_⟩
  by_cases hi : i < xs.length
  · rw [List.getElem?_append_left (by simpa using hi), List.getElem?_map] at h
    obtain ⟨y, hy, q⟩ := Option.map_eq_some_iff.mp h
    cases q
    obtain ⟨v, hv, rv⟩ := r.get hy
    refine ⟨v, ?_, rv⟩
    unfold L2.start
    rw [List.getElem?_append_left (by simp; omega), List.getElem?_map, hv]
    rfl
  · rw [List.getElem?_append_right (by simp; omega), List.getElem?_replicate] at h
    split at h
    · cases h
    · cases h
section
variable {P : Program} {w : World} {K : PySem.W.Frag} {mg : Str → Option Value} {base : Heap}
/-- a def of the text keeps its promise if its body does -/
theorem fnG_of {T : CXT} {x qual : Str} {st : Stmt} {f : Addr} {fd : FuncData} {N ps : List Str} {k : Nat} {sp : Sp} (F : Fun K x qual st f fd) (S : FnScope N ps (defScope st)) (hl : ∀ {vs : List V} {H : Hp} {Q : VK} {E : XK}, sp vs H Q E → vs.length = ps.length)
    (hbody : ∀ (cdv : Value) (A : Around) (l : List Env) (s : Shared) (H : Hp) (vs : List V) (Q : VK) (E : XK), Rm k (A.deeper (envOfC qual (defScope st) s.heap.objs.size f cdv)) → sp vs H Q E →
      ∃ t, PSs (cxOf T P w K mg base N qual (defScope st) f cdv A l s H E) (defBody st) t ∧ t { nx := fun _ H1 => Q .non H1, rt := Q } (L2.start N vs) H) : FnG P w K mg base T (k + 1) f fd ps sp := by
  obtain ⟨oc, od, kV, doc, pm, an, cdv, ct, osl, rfl, look, code⟩ := F.ex
  refine ⟨hl, fun {A l s H g us vs Q E} room e0 bnd rv told => ?_⟩
  have kin : K.In s.heap := e0.mod.kin.keeps fun b o q => (e0.bs b o q).1
  have nolim : s.heap.NoLimit := e0.mod.nolimit.keeps fun b o q => (e0.bs b o q).1
  refine codeAny_call_function room.r.depth (kin _ _ look) rfl S.co S.gen rfl (PySem.W.codeRec_of kin code) (bnd _ _ _ _ ?_)
  refine wpAny_newFunctionEnv_cells S.kind (fun y hy => ?_) fun env same s1 inside => ?_
  · rcases S.par y.1 (List.of_mem_zip hy).1 with q | q
    · exact .inl q
    · exact .inr ⟨q, PySem.W.cellsFrom_some _ _ _ (.inl q)⟩
  · subst same
    refine ⟨nolim.keeps inside.toInCall.keep, codeAny_func ?_⟩
    obtain ⟨t, body, begin⟩ := hbody cdv A l s H vs Q E (room.deeper _) told
    refine wpAny_mono (body.run [] s1 _ H _ (inv_start S room.r.hd e0 (hl told) rv inside) begin) (fun fl s2 end2 => ?_) fun _ _ q => q
    cases fl with
    | ret u =>
      obtain ⟨v, σ2, H2, J, r2, q2⟩ := end2
      exact ⟨v, H2, J.os, J.bare, J.base, J.hok, r2, q2⟩
    | next =>
      obtain ⟨σ2, H2, J, q2⟩ := end2
      exact ⟨.non, H2, J.os, J.bare, J.base, J.hok, rfl, q2⟩
    | brk =>
      obtain ⟨_, _, _, q2⟩ := end2
      exact q2.elim
    | cont =>
      obtain ⟨_, _, _, q2⟩ := end2
      exact q2.elim
theorem ok_defF {fd : FuncData} {x qual : Str} {st : Stmt} {f : Addr} {N ps : List Str} {k n l : Nat} {mb : MS} (F : Fun K x qual st f fd) (S : FnScope N ps (defScope st)) (hn : ps.length = n) (hl : N.length - n = l)
    (hb : ∀ (kV doc pm : Value) (an : Option Addr) (cdv ct : Value) (us : List Value), us.length = ps.length → bindArgs (PySem.W.fnOf x qual (defArgs st) (defBody st) (defScope st) .none kV doc pm an cdv ct) ⟨us, []⟩ = pure (ps.zip us))
    (hbody : ∀ (cdv : Value) (A : Around) (outer : List Env) (s : Shared) (H : Hp) (E : XK), Rm k (A.deeper (envOfC qual (defScope st) s.heap.objs.size f cdv)) →
      JSs (cxOf (L2.CX P w) P w K mg base N qual (defScope st) f cdv A outer s H E) (fun c d _ H => E c d H) (defBody st) mb) : FnG P w K mg base (L2.CX P w) (k + 1) f fd ps (spA K ps.length (fdef n l mb)) ∧ Binds K fd ps [] ∧ ∀ xs A, xs.length ≠ ps.length → fdef n l mb xs A = .bad := by
  refine ⟨fnG_of F S (fun h => h.1) (fun cdv A outer s H vs Q E hr h => ?_), F.binds hb, fun xs A h => ?_⟩
  · obtain ⟨hv, as, σ, A', xs, ra, rx, g⟩ := h
    refine ⟨_, hbody cdv A outer s H E hr, as, _, A', ra, re_start (N := N) (l := l) rx (by rw [rx.length, hv, hn]; exact hl), ?_⟩
    unfold fdef at g
    split at g
    · have g2 := G.cut ra g
      show GS K _ as H _ _
      cases em : mb (xs.map some ++ List.replicate l none) A' with
      | nx env B =>
        rw [em] at g2
        exact fun as' H' σ' e ra' re' => g2 as' H' .non e ra' .non
      | rt y B =>
        rw [em] at g2
        exact g2
      | ex y env B =>
        rw [em] at g2
        exact fun as' H' σ' d e ra' re' rx' => g2 as' H' d e ra' rx'
      | bk env B => rw [em] at g2; exact g2.elim
      | ct env B => rw [em] at g2; exact g2.elim
      | bad => rw [em] at g2; exact g2.elim
    · exact g.elim
  · unfold fdef
    rw [if_neg (by rw [← hn]; exact h)]
theorem ok_def {x qual : Str} {st : Stmt} {f : Addr} {N ps : List Str} {k n l : Nat} {mb : MS} (F : ∃ fd, Fun K x qual st f fd) (S : FnScope N ps (defScope st)) (hn : ps.length = n) (hl : N.length - n = l)
    (hb : ∀ (kV doc pm : Value) (an : Option Addr) (cdv ct : Value) (us : List Value), us.length = ps.length → bindArgs (PySem.W.fnOf x qual (defArgs st) (defBody st) (defScope st) .none kV doc pm an cdv ct) ⟨us, []⟩ = pure (ps.zip us))
    (hbody : ∀ (cdv : Value) (A : Around) (outer : List Env) (s : Shared) (H : Hp) (E : XK), Rm k (A.deeper (envOfC qual (defScope st) s.heap.objs.size f cdv)) →
      JSs (cxOf (L2.CX P w) P w K mg base N qual (defScope st) f cdv A outer s H E) (fun c d _ H => E c d H) (defBody st) mb) : OkA P w K mg base (k + 1) f ps (fdef n l mb) := by
  obtain ⟨fd, F⟩ := F
  obtain ⟨h1, h2, h3⟩ := ok_defF (mb := mb) F S hn hl hb hbody
  exact ⟨⟨fd, h1, h2⟩, F.kp, h3⟩
end
/-- a call in a body -/
theorem run_fnG {X : Cx} {T : CXT} {k : Nat} {f : Addr} {fd : FuncData} {ps : List Str} {sp : Sp} {pins : List (Addr × Obj)} {σ : L2.St} {H : Hp} {s : Shared} {Q : VK} {E : XK} {us : List Value} {vs : List V} (F : FnG X.prog X.w X.K X.mg X.base T k f fd ps sp) (room : Rm k X.A) (bnd : Binds X.K fd ps [])
    (ps_ : PassesAt T X σ E) (I : Inv X pins σ H s) (rv : Vals vs us) (told : sp vs H Q E) : wpAny (model X.prog X.w) X.A (call (.ref f) us) (EP X pins σ Q) X.xe s := by
  have hl : (us ++ []).length = ps.length := by
    rw [List.append_nil, ← rv.length]
    exact F.len told
  have b := bnd s us I.kIn hl
  rw [List.append_nil] at b
  refine wpAny_call (codeAny_mono (F.run room I.env0 b rv told) fun r s2 q => ?_)
  cases r with
  | error e => exact ps_ pins H s e s2 I q
  | ok fl =>
    cases fl with
    | ret u => exact I.after q
    | _ => exact q.elim
section
variable {X : Cx} {W : WX} {k : Nat} {f : Addr} {ps : List Str} {m : List AV → Hx → R AV} {x : Str} {p pos : Pos} {e : Expr} {es : List Expr} {ms : MA}
theorem je_call (F : OkA X.prog X.w X.K X.mg X.base k f ps m) (hr : Rm k X.A) (hg : Gl X x) (hm : X.mg x = some (.ref f)) (tk : Takes X W)
    (ha : JA X W (e :: es) ms) (hdb : (x == ("__debug__" : Str)) = false := by decide) (he : starEach (e :: es) X.env = (false, eval e X.env) :: starEach es X.env := by rfl) (hpl : (backTo pos (starEach es X.env)).any (·.1) = false := by rfl) :
    JE X W (.Call (.Name x p) (e :: es) [] pos) (mCB m ms) := by
  obtain ⟨⟨fd, F1, F2⟩, kp, hl⟩ := F
  refine ⟨fun pins s σ H Q I ⟨as, env, A, ra, re, g⟩ => ?_⟩
  refine wpAny_Call_Name_kw (ld_glob I hg hm ?_ hdb)
  refine PySem.W.callWith_K (h₀ := X.base) I.ok.mod.kin kp (thn (ha.run pos pins s σ H (fun vs H1 => spA X.K ps.length m vs H1 Q (WE W σ)) I ⟨as, env, A, ra, re, G.bind g fun y A1 as1 H1 v e0 e1 ra1 rx g1 => ?_⟩) fun us s1 ⟨vs, H1, I1, r, q⟩ => ⟨I1.kIn, run_fnG F1 hr F2 (passAt tk σ) I1 r q⟩) he hpl
  refine ⟨?_, as1, σ, A1, y, ra1, rx, G.wish g1⟩
  rw [← rx.length]
  by_cases hh : y.length = ps.length
  · exact hh
  · rw [hl y A1 hh] at g1
    exact g1.elim
theorem je_call0 (F : OkA X.prog X.w X.K X.mg X.base k f [] m) (hr : Rm k X.A) (hg : Gl X x) (hm : X.mg x = some (.ref f)) (tk : Takes X W)
    (hdb : (x == ("__debug__" : Str)) = false := by decide) : JE X W (.Call (.Name x p) [] [] pos) (mCB m mNil) := by
  obtain ⟨⟨fd, F1, F2⟩, kp, hl⟩ := F
  refine ⟨fun pins s σ H Q I ⟨as, env, A, ra, re, g⟩ => ?_⟩
  refine wpAny_Call_Name_kw (ld_glob I hg hm ?_ hdb)
  exact PySem.W.callWith_K0 I.kIn kp (run_fnG (us := []) F1 hr F2 (passAt tk σ) I .nil ⟨rfl, as, σ, A, [], ra, .nil, G.wish g⟩)
/-- a body that calls nothing that raises, from a weaker context -/
theorem takesF : Takes X WF := takes0
end
/-! ### the law's own call -/
/-- the heap in which the script alone is known, if it is no object of the module -/
def onlyS (K : PySem.W.Frag) (a : Addr) (ob : Obj) (ns : List Int) : Hp := fun b => if b = a ∧ K.lookup a = none then some (.frz ob (.lst (ns.map V.int))) else none
theorem lawG {P : Program} {w : World} {K : PySem.W.Frag} {mg mb : Str → Option Value} {k : Nat} {fa a : Addr} {fd : FuncData} {x : Str} {m : List AV → Hx → R AV} {s : Shared} {vs : List Value} {ns : List Int}
    (kin : K.In s.heap) (hmg : s.heap.Ns mainGlobals mg) (hmb : s.heap.Ns builtinsNs mb) (boot : ∀ y : Str, y ≠ "__name__" → mb y = bootBuiltins y) (nolim : s.heap.NoLimit) (nogen : s.gens = #[])
    (at_ : s.heap.get? a = some { cls := .type "list", data := .seq vs.toArray }) (isI : IntsAre vs ns) (few : ns.length ≤ sizeLine) (room : Rm k callerA)
    (F : ∀ base : Heap, K.In base → base.Ns mainGlobals mg → FnG P w K mg base (L2.CX P w) k fa fd [x] (spA K 1 m)) (bnd : ∀ (s : Shared) (u : Value), BindsTo s fd ⟨[u], []⟩ [(x, u)])
    (goal : ∃ A, m [.cst (ns.map AV.int)] [] = .ok (.bl true) A) :
    codeAny (model P w) callerA (.call (.ref fa) ⟨[.ref a], []⟩) (fun r s' => r = .ok (.ret (.bool true)) ∧ OldK s.heap s'.heap ∧ s'.os = s.os ∧ AllBare s'.gens) s := by
  have rv : Vals (ns.map V.int) vs := vals_ints isI
  have lv := isI.length
  generalize eob : ({ cls := .type "list", data := .seq vs.toArray } : Obj) = ob at at_
  have H_ne : ∀ b u, onlyS K a ob ns b = some u → b = a ∧ K.lookup a = none ∧ u = .frz ob (.lst (ns.map V.int)) := fun b u q => by
    unfold onlyS at q
    split at q
    · rename_i c
      cases q
      exact ⟨c.1, c.2, rfl⟩
    · cases q
  have hok : HOk P w (onlyS K a ob ns) s.heap := fun b u q => by
    obtain ⟨rfl, _, rfl⟩ := H_ne b u q
    refine ⟨at_, by rw [List.length_map]; exact few, vs, 0, rv, ?_⟩
    rw [at_, ← eob]
  have keepB : ∀ {b : Addr} {o : Obj}, s.heap.get? b = some o → onlyS K a ob ns b = none → (hidT s.heap (onlyS K a ob ns)).get? b = some o := fun e n => hidT_get e n
  have dictB : ∀ {b : Addr} {o : Obj} {es : Array DictEntry} {ep : Nat}, s.heap.get? b = some o → o.data = .dict es ep → onlyS K a ob ns b = none := fun {b o es ep} e d => by
    cases q : onlyS K a ob ns b with
    | none => rfl
    | some u =>
      obtain ⟨rfl, _, _⟩ := H_ne b u q
      rw [at_] at e
      cases e
      rw [← eob] at d
      cases d
  have nsB : ∀ {b : Addr} {f : Str → Option Value}, s.heap.Ns b f → (hidT s.heap (onlyS K a ob ns)).Ns b f := fun {b f} ⟨o, es, ep, e, d, r⟩ => ⟨o, es, ep, keepB e (dictB e d), d, r⟩
  have kinB : K.In (hidT s.heap (onlyS K a ob ns)) := fun b o e => keepB (kin b o e) (by
    cases q : onlyS K a ob ns b with
    | none => rfl
    | some u =>
      obtain ⟨rfl, z, _⟩ := H_ne b u q
      rw [z] at e
      cases e)
  obtain ⟨ml, nl1, nl2⟩ := id nolim
  have mod : Mod K mg (hidT s.heap (onlyS K a ob ns)) := ⟨kinB, nsB hmg, ⟨mb, nsB hmb, boot⟩, ⟨ml, nsB nl1, nl2⟩⟩
  have e0 : Env0 P w K mg (hidT s.heap (onlyS K a ob ns)) callerA [] s (onlyS K a ob ns) := ⟨rfl, mod, fun b o e => of_hidT e, Nat.le_of_eq (hidT_size _ _), trivial, fun b hb => (List.not_mem_nil hb).elim, hok, .of_eq nogen⟩
  have fx : FxL K (onlyS K a ob ns) a (ns.map V.int) := by
    cases q : K.lookup a with
    | none => exact .inl ⟨ob, by unfold onlyS; rw [if_pos ⟨rfl, q⟩]⟩
    | some o =>
      have e := kin a o q
      rw [at_] at e
      cases e
      refine .inr ⟨_, vs.toArray, 0, q, ?_, ?_, ?_, by rw [List.size_toArray, lv]; exact few, by simpa using rv⟩ <;> rw [← eob]
  have rx : RVs K [] (onlyS K a ob ns) (ns.map AV.int) (ns.map V.int) := by
    clear goal rv few lv isI fx e0 mod kinB nsB dictB keepB hok H_ne
    generalize onlyS K a ob ns = H
    induction ns with
    | nil => exact .nil
    | cons n r ih => exact .cons (.int n) ih
  obtain ⟨A', eg⟩ := goal
  have told : spA K 1 m [.ref a] (onlyS K a ob ns) (fun v H' => v = .bl true ∧ ∀ b u, onlyS K a ob ns b = some u → True) (fun _ _ _ => False) :=
    ⟨rfl, [], [], [], [.cst (ns.map AV.int)], ⟨rfl, .nil, fun n b o e _ => by simp at e⟩, .cons (.cst fx rx) .nil, by
      rw [eg]
      intro as' H' v _ _ r
      cases r
      exact ⟨rfl, fun _ _ _ => trivial⟩⟩
  refine codeAny_mono ((F _ kinB (nsB hmg)).run room e0 (us := [.ref a]) (vs := [.ref a]) (bnd s (.ref a)) (.cons rfl .nil) told) fun r s' q => ?_
  cases r with
  | error e =>
    obtain ⟨_, _, _, _, _, _, _, _, _, _, _, _, z⟩ := q
    exact z.elim
  | ok fl =>
    cases fl with
    | next => exact q.elim
    | brk => exact q.elim
    | cont => exact q.elim
    | ret u =>
      obtain ⟨v, H', os, bare, un, hok', r', rfl, _⟩ := q
      cases r'
      refine ⟨rfl, OldK.of_keep fun b o e => ?_, os, bare⟩
      cases q : onlyS K a ob ns b with
      | none => exact un.keep b o e q List.not_mem_nil List.not_mem_nil
      | some u =>
        obtain ⟨rfl, _, rfl⟩ := H_ne b u q
        have e2 := (hok' b _ (un.frzs b _ _ q)).1
        rw [at_] at e
        cases e
        exact e2
/-- the goal that the head leaves -/
theorem walkG {l : PySem.W.OpenLaw} {n k : Nat} {q : Program} {loose : List Str} {XP : (Str → Option Value) → Heap → Prop} {YP : World → Heap → Prop} {d : DefRec} {K : Params → PySem.W.Frag} {x : Str} {m : World → (Str → Option Value) → List AV → Hx → R AV}
    (h1 : l.most = some n) (h2 : n ≤ sizeLine) (h3 : d.params.defaults = []) (room : Rm k callerA) (hY : ∀ (w : World) (h : Heap), YP w h → (K w.params).In h)
    (F : ∀ (w : World) (mg : Str → Option Value) (fa : Addr) (h : Heap), (K w.params).In h → h.Ns mainGlobals mg → mg d.name = some (.ref fa) → ∃ fd : FuncData, (∀ (s : Shared) (u : Value), BindsTo s fd ⟨[u], []⟩ [(x, u)]) ∧
      ∀ base : Heap, (K w.params).In base → base.Ns mainGlobals mg → FnG l.prog w (K w.params) mg base (L2.CX l.prog w) k fa fd [x] (spA (K w.params) 1 (m w mg)))
    (goal : ∀ (w : World) (mg : Str → Option Value) (ns : List Int), ns.length ≤ n → ∃ A, m w mg [.cst (ns.map AV.int)] [] = .ok (.bl true) A) : PySem.W.WalkO q loose XP YP l.row.toRowW d [] (fun f vs => PySem.call f vs) := by
  refine Att.attach_call h1 h3 fun w s0 s mg mb fa o pm cd doc a vs ns G Y _ _ _ hmg at_ isI few gens => ?_
  obtain ⟨fd, bnd, hF⟩ := F w mg fa _ (hY w _ Y) G.T.g hmg
  exact lawG (hY w _ Y) G.T.g G.T.b G.T.builtins G.T.nolimit gens at_ isI (Nat.le_trans few h2) room hF bnd (goal w mg ns few)
end Am

set_option Elab.async false
set_option linter.all false
set_option maxRecDepth 100000
set_option maxHeartbeats 4000000
/-! Am7: what is built in. -/
namespace Am
open PySem PySem.Spec PyProof.Rows L2
section
variable {X : Cx} {W : WX} {K : PySem.W.Frag} {as : List Addr} {H : Hp} {A : Hx}
theorem loc_new {p : Addr} (ra : RA K as H A) : (as ++ [p])[A.length]? = some p := by
  rw [← ra.len, List.getElem?_append_right (Nat.le_refl _)]
  simp
/-- a new list -/
theorem new_lst {σ : L2.St} {Q : VK} {xs : List AV} {vs : List V} {p : Addr} (ra : RA K as H A) (r : RVs K as H xs vs) (hp : H p = none) (g : G K W as H σ (RV K) (.ok (.loc A.length) (A ++ [.lst xs])) Q) : Q (.ref p) (upd H p (.lst vs)) :=
  g (as ++ [p]) _ (.ref p) (ex_push hp) (ra.push hp ⟨vs, upd_same, r.ex (ex_push hp)⟩) (.loc (loc_new ra))
/-- a new tuple -/
theorem new_tup {σ : L2.St} {Q : VK} {xs : List AV} {vs : List V} {p : Addr} (ra : RA K as H A) (r : RVs K as H xs vs) (hp : H p = none) (g : G K W as H σ (RV K) (.ok (.tup xs) A) Q) : Q (.ref p) (upd H p (.tup vs)) :=
  g as _ (.ref p) (ex_new hp) (ra.new hp) (.tup (.inl (.inl upd_same)) (r.ex (ex_new hp)))

/-! ### len -/
def oLen (xs : List AV) (A : Hx) : R AV := match xs with
  | [.str s] => if s.length ≤ sizeLine then .ok (.int s.length) A else .bad
  | [.tup ts] => .ok (.int ts.length) A
  | [x] => (match listOf A x with
    | some ys => .ok (.int ys.length) A
    | none => .bad)
  | _ => .bad
theorem ca_len : CallA X (.builtin "len") oLen := by
  rintro pins s σ H vs us Q I r ⟨W, σ', as, A, xs, ra, rx, g⟩
  unfold oLen at g
  split at g
  · cases rx with
    | cons r1 rr =>
    cases rr
    cases r1
    split at g
    · rename_i h
      exact call_len_str pins s σ H _ us Q I r ⟨_, rfl, h, fin1 ra g (.int _)⟩
    · exact g.elim
  · cases rx with
    | cons r1 rr =>
    cases rr
    cases r1 with
    | tup h1 r1 => exact call_len_seq pins s σ H _ us Q I r ⟨_, _, rfl, .inr h1, fin1 ra g (by rw [r1.length]; exact .int _)⟩
  · cases rx with
    | cons r1 rr =>
    cases rr
    split at g
    · rename_i e
      obtain ⟨p, ws, rfl, hl, rl⟩ := listOf_ok ra r1 e
      exact call_len_seq pins s σ H _ us Q I r ⟨_, _, rfl, .inl hl, fin1 ra g (by rw [rl.length]; exact .int _)⟩
    · exact g.elim
  · exact g.elim

/-! ### isinstance -/
def tyN (A : Hx) (x : AV) : Option String := match x with
  | .non => some "NoneType"
  | .bl _ => some "bool"
  | .int _ => some "int"
  | .str _ => some "str"
  | .tup _ => some "tuple"
  | .cst _ => some "list"
  | .loc n => (match A[n]? with
    | some (.lst _) => some "list"
    | some (.dct _) => some "dict"
    | _ => none)
  | _ => none
/-- one built-in class is (beneath) another -/
def subN (a b : String) : Bool := a == b || (a == "bool" && b == "int")
def knownN (b : String) : Bool := ["int", "bool", "str", "tuple", "list", "dict"].contains b
def oIsi (xs : List AV) (A : Hx) : R AV := match xs with
  | [x, .ty b] => (match tyN A x with
    | some a => if knownN b = true then .ok (.bl (subN a b)) A else .bad
    | none => .bad)
  | _ => .bad
theorem kitB_all : ∀ a, a ∈ ["NoneType", "bool", "int", "str", "tuple", "list", "dict"] → ∀ b, b ∈ ["int", "bool", "str", "tuple", "list", "dict"] → kitB a b = some (subN a b) := by
  decide +kernel
theorem tyN_ok {x : AV} {v : V} {a : String} (ra : RA K as H A) (rx : RV K as H x v) (e : tyN A x = some a) : TyX K H v (.type a) ∧ a ∈ ["NoneType", "bool", "int", "str", "tuple", "list", "dict"] := by
  cases rx with
  | non => cases e; exact ⟨.base .non, by decide⟩
  | bl b => cases e; exact ⟨.base (.bl b), by decide⟩
  | int b => cases e; exact ⟨.base (.int b), by decide⟩
  | str b => cases e; exact ⟨.base (.str b), by decide⟩
  | ty b => cases e
  | st b => cases e
  | tup h r =>
    cases e
    refine ⟨?_, by decide⟩
    rcases h with (h | ⟨o, h⟩) | ⟨o, its, n, h, c, _⟩
    · exact .base (.tup h)
    · exact .fTuple h
    · exact .kTuple h c
  | cst h r =>
    cases e
    refine ⟨?_, by decide⟩
    rcases h with ⟨o, h⟩ | ⟨o, its, n, h, c, _⟩
    · exact .base (.frz h)
    · exact .kList h c
  | loc h =>
    unfold tyN at e
    dsimp only at e
    split at e
    · rename_i q
      cases e
      obtain ⟨vs, hv, rv⟩ := ra.ob _ _ _ h q
      exact ⟨.base (.lst hv), by decide⟩
    · rename_i q
      cases e
      rcases ra.ob _ _ _ h q with ⟨vs, hv, rv⟩ | ⟨vs, hv, rv⟩
      · exact ⟨.base (.dK hv), by decide⟩
      · exact ⟨.base (.dT hv), by decide⟩
    · cases e
theorem ca_isi : CallA X (.builtin "isinstance") oIsi := by
  rintro pins s σ H vs us Q I r ⟨W, σ', as, A, xs, ra, rx, g⟩
  unfold oIsi at g
  split at g
  · cases rx with
    | cons r1 rr =>
    cases rr with
    | cons r2 rr =>
    cases rr
    cases r2
    split at g
    · rename_i e
      split at g
      · rename_i kb
        obtain ⟨ty, ma⟩ := tyN_ok ra r1 e
        exact call_isi pins s σ H _ us Q I r ⟨_, _, _, _, _, rfl, .ty _, ty, kit_ty (kitB_all _ ma _ (by simpa [knownN] using kb)), fin1 ra g (.bl _)⟩
      · exact g.elim
    · exact g.elim
  · exact g.elim

/-! ### all, any, sum, max, min -/
def blsOf : List AV → Option (List Bool)
  | [] => some []
  | .bl b :: r => (blsOf r).map (b :: ·)
  | _ => none
def intsOf : List AV → Option (List Int)
  | [] => some []
  | .int b :: r => (intsOf r).map (b :: ·)
  | _ => none
theorem blsOf_ok : ∀ {xs : List AV} {vs : List V} {bs : List Bool}, RVs K as H xs vs → blsOf xs = some bs → vs = bs.map V.bl
  | _, _, _, .nil, e => by cases e; rfl
  | _, _, _, .cons h r, e => by
    cases h with
    | bl b =>
      simp only [blsOf] at e
      obtain ⟨l, e1, rfl⟩ := Option.map_eq_some_iff.mp e
      rw [blsOf_ok r e1]
      rfl
    | _ => cases e
theorem intsOf_ok : ∀ {xs : List AV} {vs : List V} {bs : List Int}, RVs K as H xs vs → intsOf xs = some bs → vs = bs.map V.int
  | _, _, _, .nil, e => by cases e; rfl
  | _, _, _, .cons h r, e => by
    cases h with
    | int b =>
      simp only [intsOf] at e
      obtain ⟨l, e1, rfl⟩ := Option.map_eq_some_iff.mp e
      rw [intsOf_ok r e1]
      rfl
    | _ => cases e
@[simp] theorem blsOf_map (bs : List Bool) : blsOf (bs.map AV.bl) = some bs := by
  induction bs with
  | nil => rfl
  | cons b r ih => simp [blsOf, ih]
@[simp] theorem intsOf_map (bs : List Int) : intsOf (bs.map AV.int) = some bs := by
  induction bs with
  | nil => rfl
  | cons b r ih => simp [intsOf, ih]
def oAll (xs : List AV) (A : Hx) : R AV := match xs with
  | [x] => (match (listOf A x).bind blsOf with
    | some bs => .ok (.bl (bs.all id)) A
    | none => .bad)
  | _ => .bad
def oAny (xs : List AV) (A : Hx) : R AV := match xs with
  | [x] => (match (listOf A x).bind blsOf with
    | some bs => .ok (.bl (bs.any id)) A
    | none => .bad)
  | _ => .bad
def oSum (xs : List AV) (A : Hx) : R AV := match xs with
  | [x] => (match (listOf A x).bind intsOf with
    | some bs => .ok (.int bs.sum) A
    | none => .bad)
  | _ => .bad
def maxI : List Int → Int
  | [] => 0
  | [x] => x
  | x :: r => max x (maxI r)
def minI : List Int → Int
  | [] => 0
  | [x] => x
  | x :: r => min x (minI r)
theorem maxI_mem : ∀ {ns : List Int}, ns ≠ [] → maxI ns ∈ ns ∧ ∀ y, y ∈ ns → y ≤ maxI ns
  | [], h => absurd rfl h
  | [x], _ => ⟨by simp [maxI], by simp [maxI]⟩
  | x :: y :: r, _ => by
    obtain ⟨h1, h2⟩ := maxI_mem (ns := y :: r) (by simp)
    have e : maxI (x :: y :: r) = max x (maxI (y :: r)) := rfl
    rw [e]
    refine ⟨?_, fun z hz => ?_⟩
    · by_cases h : x ≤ maxI (y :: r)
      · rw [Int.max_eq_right h]
        exact List.mem_cons_of_mem _ h1
      · rw [Int.max_eq_left (by omega)]
        exact List.mem_cons_self
    · rcases List.mem_cons.mp hz with rfl | hz
      · omega
      · have := h2 z hz
        omega
theorem minI_mem : ∀ {ns : List Int}, ns ≠ [] → minI ns ∈ ns ∧ ∀ y, y ∈ ns → minI ns ≤ y
  | [], h => absurd rfl h
  | [x], _ => ⟨by simp [minI], by simp [minI]⟩
  | x :: y :: r, _ => by
    obtain ⟨h1, h2⟩ := minI_mem (ns := y :: r) (by simp)
    have e : minI (x :: y :: r) = min x (minI (y :: r)) := rfl
    rw [e]
    refine ⟨?_, fun z hz => ?_⟩
    · by_cases h : x ≤ minI (y :: r)
      · rw [Int.min_eq_left h]
        exact List.mem_cons_self
      · rw [Int.min_eq_right (by omega)]
        exact List.mem_cons_of_mem _ h1
    · rcases List.mem_cons.mp hz with rfl | hz
      · omega
      · have := h2 z hz
        omega
def oMax (xs : List AV) (A : Hx) : R AV := match xs with
  | [.int i, .int j] => .ok (.int (if j > i then j else i)) A
  | [x] => (match (listOf A x).bind intsOf with
    | some bs => if bs ≠ [] then .ok (.int (maxI bs)) A else .bad
    | none => .bad)
  | _ => .bad
def oMin (xs : List AV) (A : Hx) : R AV := match xs with
  | [.int i, .int j] => .ok (.int (if j < i then j else i)) A
  | [x] => (match (listOf A x).bind intsOf with
    | some bs => if bs ≠ [] then .ok (.int (minI bs)) A else .bad
    | none => .bad)
  | _ => .bad
theorem bind_lst {α : Type} {x : AV} {f : List AV → Option α} {y : α} (e : (listOf A x).bind f = some y) : ∃ xs, listOf A x = some xs ∧ f xs = some y := Option.bind_eq_some_iff.mp e
theorem ca_all (hc : X.calm = true) : CallA X (.builtin "all") oAll := by
  rintro pins s σ H vs us Q I r ⟨W, σ', as, A, xs, ra, rx, g⟩
  unfold oAll at g
  split at g
  · cases rx with
    | cons r1 rr =>
    cases rr
    split at g
    · rename_i e
      obtain ⟨ys, e1, e2⟩ := bind_lst e
      obtain ⟨p, ws, rfl, hl, rl⟩ := listOf_ok ra r1 e1
      rw [blsOf_ok rl e2] at hl
      exact cr_all hc pins s σ H _ us Q I r ⟨_, _, rfl, hl, fin1 ra g (.bl _)⟩
    · exact g.elim
  · exact g.elim
theorem ca_any (hc : X.calm = true) : CallA X (.builtin "any") oAny := by
  rintro pins s σ H vs us Q I r ⟨W, σ', as, A, xs, ra, rx, g⟩
  unfold oAny at g
  split at g
  · cases rx with
    | cons r1 rr =>
    cases rr
    split at g
    · rename_i e
      obtain ⟨ys, e1, e2⟩ := bind_lst e
      obtain ⟨p, ws, rfl, hl, rl⟩ := listOf_ok ra r1 e1
      rw [blsOf_ok rl e2] at hl
      exact cr_any hc pins s σ H _ us Q I r ⟨_, _, rfl, hl, fin1 ra g (.bl _)⟩
    · exact g.elim
  · exact g.elim
theorem ca_sum (hc : X.calm = true) : CallA X (.builtin "sum") oSum := by
  rintro pins s σ H vs us Q I r ⟨W, σ', as, A, xs, ra, rx, g⟩
  unfold oSum at g
  split at g
  · cases rx with
    | cons r1 rr =>
    cases rr
    split at g
    · rename_i e
      obtain ⟨ys, e1, e2⟩ := bind_lst e
      obtain ⟨p, ws, rfl, hl, rl⟩ := listOf_ok ra r1 e1
      rw [intsOf_ok rl e2] at hl
      exact cr_sum hc pins s σ H _ us Q I r ⟨_, _, rfl, hl, fin1 ra g (.int _)⟩
    · exact g.elim
  · exact g.elim
theorem ca_max (hc : X.calm = true) : CallA X (.builtin "max") oMax := by
  rintro pins s σ H vs us Q I r ⟨W, σ', as, A, xs, ra, rx, g⟩
  unfold oMax at g
  split at g
  · cases rx with
    | cons r1 rr =>
    cases rr with
    | cons r2 rr =>
    cases rr
    cases r1
    cases r2
    exact call_max2 hc pins s σ H _ us Q I r ⟨_, _, rfl, fin1 ra g (.int _)⟩
  · cases rx with
    | cons r1 rr =>
    cases rr
    split at g
    · rename_i e
      split at g
      · rename_i hne
        obtain ⟨ys, e1, e2⟩ := bind_lst e
        obtain ⟨p, ws, rfl, hl, rl⟩ := listOf_ok ra r1 e1
        rw [intsOf_ok rl e2] at hl
        refine cr_max hc pins s σ H _ us Q I r ⟨_, _, rfl, hl, List.length_pos_iff.mpr hne, fun m h1 h2 => ?_⟩
        obtain ⟨h3, h4⟩ := maxI_mem hne
        have : m = maxI _ := Int.le_antisymm (h4 m h1) (h2 _ h3)
        rw [this]
        exact fin1 ra g (.int _)
      · exact g.elim
    · exact g.elim
  · exact g.elim
theorem ca_min (hc : X.calm = true) : CallA X (.builtin "min") oMin := by
  rintro pins s σ H vs us Q I r ⟨W, σ', as, A, xs, ra, rx, g⟩
  unfold oMin at g
  split at g
  · cases rx with
    | cons r1 rr =>
    cases rr with
    | cons r2 rr =>
    cases rr
    cases r1
    cases r2
    exact call_min2 hc pins s σ H _ us Q I r ⟨_, _, rfl, fin1 ra g (.int _)⟩
  · cases rx with
    | cons r1 rr =>
    cases rr
    split at g
    · rename_i e
      split at g
      · rename_i hne
        obtain ⟨ys, e1, e2⟩ := bind_lst e
        obtain ⟨p, ws, rfl, hl, rl⟩ := listOf_ok ra r1 e1
        rw [intsOf_ok rl e2] at hl
        refine cr_min hc pins s σ H _ us Q I r ⟨_, _, rfl, hl, List.length_pos_iff.mpr hne, fun m h1 h2 => ?_⟩
        obtain ⟨h3, h4⟩ := minI_mem hne
        have : m = minI _ := Int.le_antisymm (h2 _ h3) (h4 m h1)
        rw [this]
        exact fin1 ra g (.int _)
      · exact g.elim
    · exact g.elim
  · exact g.elim

/-! ### tuple(x), list(x), int(x), abs(x), divmod, repr -/
def oTuple (xs : List AV) (A : Hx) : R AV := match xs with
  | [.tup ts] => .ok (.tup ts) A
  | [x] => (match listOf A x with
    | some ys => .ok (.tup ys) A
    | none => .bad)
  | _ => .bad
theorem ca_tuple : CallA X (.type "tuple") oTuple := by
  rintro pins s σ H vs us Q I r ⟨W, σ', as, A, xs, ra, rx, g⟩
  unfold oTuple at g
  split at g
  · cases rx with
    | cons r1 rr =>
    cases rr
    cases r1 with
    | tup h1 r1 => exact call_tuple_of pins s σ H _ us Q I r ⟨_, _, rfl, .inr ⟨h1, fin1 ra g (.tup h1 r1)⟩⟩
  · cases rx with
    | cons r1 rr =>
    cases rr
    split at g
    · rename_i e
      obtain ⟨p, ws, rfl, hl, rl⟩ := listOf_ok ra r1 e
      exact call_tuple_of pins s σ H _ us Q I r ⟨_, _, rfl, .inl ⟨hl, fun l hn => new_tup ra rl hn g⟩⟩
    · exact g.elim
  · exact g.elim
def oList (xs : List AV) (A : Hx) : R AV := match xs with
  | [.tup ts] => .ok (.loc A.length) (A ++ [.lst ts])
  | [x] => (match listOf A x with
    | some ys => .ok (.loc A.length) (A ++ [.lst ys])
    | none => .bad)
  | _ => .bad
theorem ca_list : CallA X (.type "list") oList := by
  rintro pins s σ H vs us Q I r ⟨W, σ', as, A, xs, ra, rx, g⟩
  unfold oList at g
  split at g
  · cases rx with
    | cons r1 rr =>
    cases rr
    cases r1 with
    | tup h1 r1 => exact call_list_of pins s σ H _ us Q I r ⟨_, _, rfl, .inr h1, fun l hn => new_lst ra r1 hn g⟩
  · cases rx with
    | cons r1 rr =>
    cases rr
    split at g
    · rename_i e
      obtain ⟨p, ws, rfl, hl, rl⟩ := listOf_ok ra r1 e
      exact call_list_of pins s σ H _ us Q I r ⟨_, _, rfl, .inl hl, fun l hn => new_lst ra rl hn g⟩
    · exact g.elim
  · exact g.elim
def oInt (xs : List AV) (A : Hx) : R AV := match xs with
  | [.int i] => .ok (.int i) A
  | [.bl b] => .ok (.int (if b then 1 else 0)) A
  | _ => .bad
theorem ca_int : CallA X (.type "int") oInt := by
  rintro pins s σ H vs us Q I r ⟨W, σ', as, A, xs, ra, rx, g⟩
  unfold oInt at g
  split at g
  · cases rx with
    | cons r1 rr =>
    cases rr
    cases r1
    exact call_int1 pins s σ H _ us Q I r (.inl ⟨_, rfl, fin1 ra g (.int _)⟩)
  · cases rx with
    | cons r1 rr =>
    cases rr
    cases r1
    exact call_int1 pins s σ H _ us Q I r (.inr ⟨_, rfl, fin1 ra g (.int _)⟩)
  · exact g.elim
def oAbs (xs : List AV) (A : Hx) : R AV := match xs with
  | [.int i] => .ok (.int (if i < 0 then -i else i)) A
  | _ => .bad
theorem ca_abs : CallA X (.builtin "abs") oAbs := by
  rintro pins s σ H vs us Q I r ⟨W, σ', as, A, xs, ra, rx, g⟩
  unfold oAbs at g
  split at g
  · cases rx with
    | cons r1 rr =>
    cases rr
    cases r1
    exact call_abs pins s σ H _ us Q I r ⟨_, rfl, fin1 ra g (.int _)⟩
  · exact g.elim
def oDivmod (xs : List AV) (A : Hx) : R AV := match xs with
  | [.int i, .int j] => if 0 < j ∧ j < 1073741824 then .ok (.tup [.int (i / j), .int (i % j)]) A else .bad
  | _ => .bad
theorem ca_divmod : CallA X (.builtin "divmod") oDivmod := by
  rintro pins s σ H vs us Q I r ⟨W, σ', as, A, xs, ra, rx, g⟩
  unfold oDivmod at g
  split at g
  · cases rx with
    | cons r1 rr =>
    cases rr with
    | cons r2 rr =>
    cases rr
    cases r1
    cases r2
    split at g
    · rename_i h
      exact call_divmod pins s σ H _ us Q I r ⟨_, _, rfl, h, fun p hp => new_tup ra (.cons (.int _) (.cons (.int _) .nil)) hp g⟩
    · exact g.elim
  · exact g.elim
def shownA (A : Hx) (x : AV) : Option Str := match toD A 60 x with
  | some d => if d.showable = true ∧ d.hasDict = false ∧ d.shown.length ≤ sizeLine ∧ d.depth ≤ 60 then some d.shown else none
  | none => none
def oRepr (xs : List AV) (A : Hx) : R AV := match xs with
  | [x] => (match shownA A x with
    | some t => .ok (.str t) A
    | none => .bad)
  | _ => .bad
theorem ca_repr (hg : X.A.guards = some []) (hu : X.A.units + 64 < cLine) : CallA X (.builtin "repr") oRepr := by
  rintro pins s σ H vs us Q I r ⟨W, σ', as, A, xs, ra, rx, g⟩
  unfold oRepr at g
  split at g
  · cases rx with
    | cons r1 rr =>
    cases rr
    split at g
    · rename_i e
      unfold shownA at e
      split at e
      · rename_i d ed
        split at e
        · rename_i hs
          cases e
          obtain ⟨u, rfl, ru⟩ := vals1 r
          obtain ⟨bs, rd⟩ := Dp.reads I d _ u (toD_dp ra _ _ _ _ ed r1) ru
          obtain ⟨h1, h2, h3, h4⟩ := hs
          have q := fin1 ra g (.str _)
          have fin : ∀ h' tk t, (∀ b o, s.heap.get? b = some o → h'.get? b = some o) → EP X pins σ Q (.str d.shown t) { s with heap := h', toks := tk } := fun h' tk t k =>
            ⟨.str d.shown, H, I.kept k, ⟨t, rfl⟩, q⟩
          cases rd with
          | none => exact PySem.P.repr_of_none (by simpa [PyData.shown] using fin s.heap _ _ fun _ _ e => e)
          | bool b => exact PySem.P.repr_of_bool (by simpa [PyData.shown] using fin s.heap _ _ fun _ _ e => e)
          | int i t => exact PySem.P.repr_of_int (by simpa [PyData.showable] using h1) (by simpa [PyData.shown] using fin s.heap _ _ fun _ _ e => e)
          | str x t => exact PySem.P.repr_of_str (by simpa [PyData.shown] using fin s.heap _ _ fun _ _ e => e) (by simpa [PyData.shown] using h3)
          | list a1 a2 a3 a4 => exact repr_of_reads' (.list a1 a2 a3 a4) h1 (PyData.noDict_hsm h2) hg (by omega) (fun _ _ e => e) (fun h' t tk k => fin h' tk t k) h3
          | tuple a1 a2 a3 a4 => exact repr_of_reads' (.tuple a1 a2 a3 a4) h1 (PyData.noDict_hsm h2) hg (by omega) (fun _ _ e => e) (fun h' t tk k => fin h' tk t k) h3
          | dict a1 a2 a3 a4 a5 => simp [PyData.hasDict] at h2
        · cases e
      · cases e
    · exact g.elim
  · exact g.elim
/-! ### in -/
theorem anyD_ok {σ : L2.St} {d : PyData} {xs : List AV} {vs : List V} {Q : Bool → Hp → Prop} (ra : RA K as H A) (r : RVs K as H xs vs) (g : G K W as H σ rB (anyD A d xs) Q) :
    ∃ ds, DpAll K H vs ds ∧ SeqAt.shaped d = true ∧ SeqAt.shaped (.list ds) = true ∧ SeqAt.shaped (.tuple ds) = true ∧ Q (ds.any fun z => PyData.eqv z d) H := by
  unfold anyD at g
  split at g
  · rename_i ds e
    split at g
    · rename_i h
      exact ⟨ds, allD_dp (fun x d v => toD_dp ra 59 x d v) e r, h.1, h.2.1, h.2.2, g as H _ Ex.refl ra rfl⟩
    · exact g.elim
  · exact g.elim
/-- a tuple or a list, and a thing -/
theorem inD_ok {σ : L2.St} {x y : AV} {v u : V} {Q : Bool → Hp → Prop} (ra : RA K as H A) (rx : RV K as H x v) (ry : RV K as H y u) (g : G K W as H σ rB (inD A x y) Q) :
    ∃ d ds, Dp K H v d ∧ (Dp K H u (.list ds) ∨ Dp K H u (.tuple ds)) ∧ SeqAt.shaped d = true ∧ SeqAt.shaped (.list ds) = true ∧ SeqAt.shaped (.tuple ds) = true ∧ Q (ds.any fun z => PyData.eqv z d) H := by
  unfold inD at g
  split at g
  · rename_i d ed
    split at g
    · cases ry with
      | tup h1 r1 =>
        obtain ⟨ds, a1, a2, a3, a4, a5⟩ := anyD_ok ra r1 g
        exact ⟨d, ds, toD_dp ra _ _ _ _ ed rx, .inr (.tup h1 a1), a2, a3, a4, a5⟩
    · split at g
      · rename_i e
        obtain ⟨p, ws, rfl, hl, rl⟩ := listOf_ok ra ry e
        obtain ⟨ds, a1, a2, a3, a4, a5⟩ := anyD_ok ra rl g
        exact ⟨d, ds, toD_dp ra _ _ _ _ ed rx, .inl (.lst hl a1), a2, a3, a4, a5⟩
      · exact g.elim
  · exact g.elim
theorem oa_in (hu : X.A.units + 65 < cLine) : OpA X (compareOp .In) oIn := by
  rintro pins s σ H v u w1 w2 Q I rv ru ⟨W, σ', as, A, x, y, ra, rx, ry, g⟩
  obtain ⟨d, ds, a1, a2, a3, a4, a5, q⟩ := inD_ok (Q := fun b H => Q (.bl b) H) ra rx ry (G.bind (Rel := rB) g fun b A' as1 H1 v1 e0 e1 ra1 rb g1 => by cases rb; exact fin1 ra1 g1 (.bl _))
  obtain ⟨as1, r1⟩ := Dp.reads I d v w1 a1 rv
  rcases a2 with a2 | a2
  · obtain ⟨bs, r2⟩ := Dp.reads I (.list ds) u w2 a2 ru
    exact SeqAt.in_list_reads r2 r1 (SeqAt.canLay_of_shaped a4) (SeqAt.canLay_of_shaped a3) (room_in_shaped a3 hu) ⟨.bl _, H, I, rfl, q⟩
  · obtain ⟨bs, r2⟩ := Dp.reads I (.tuple ds) u w2 a2 ru
    exact SeqAt.in_tuple_reads r2 r1 (SeqAt.canLay_of_shaped a5) (SeqAt.canLay_of_shaped a3) (room_in_shaped a3 hu) ⟨.bl _, H, I, rfl, q⟩
theorem oa_notIn (hu : X.A.units + 65 < cLine) : OpA X (compareOp .NotIn) oNotIn := by
  rintro pins s σ H v u w1 w2 Q I rv ru ⟨W, σ', as, A, x, y, ra, rx, ry, g⟩
  obtain ⟨d, ds, a1, a2, a3, a4, a5, q⟩ := inD_ok (Q := fun b H => Q (.bl (!b)) H) ra rx ry (G.bind (Rel := rB) g fun b A' as1 H1 v1 e0 e1 ra1 rb g1 => by cases rb; exact fin1 ra1 g1 (.bl _))
  obtain ⟨as1, r1⟩ := Dp.reads I d v w1 a1 rv
  rcases a2 with a2 | a2
  · obtain ⟨bs, r2⟩ := Dp.reads I (.list ds) u w2 a2 ru
    exact SeqAt.notIn_list_reads r2 r1 (SeqAt.canLay_of_shaped a4) (SeqAt.canLay_of_shaped a3) (room_in_shaped a3 hu) ⟨.bl _, H, I, rfl, q⟩
  · obtain ⟨bs, r2⟩ := Dp.reads I (.tuple ds) u w2 a2 ru
    exact SeqAt.notIn_tuple_reads r2 r1 (SeqAt.canLay_of_shaped a5) (SeqAt.canLay_of_shaped a3) (room_in_shaped a3 hu) ⟨.bl _, H, I, rfl, q⟩
/-! ### append, extend -/
def oAppend (x : AV) (xs : List AV) (A : Hx) : R AV := match xs with
  | [y] => (match mutOf A x with
    | some (n, zs) => if zs.length < sizeLine then .ok .non (A.set n (.lst (zs ++ [y]))) else .bad
    | none => .bad)
  | _ => .bad
theorem ma_append : MtA X "list.append" oAppend := by
  rintro pins s σ H v vs u us Q I rv rvs ⟨W, σ', as, A, x, xs, ra, rx, rxs, g⟩
  unfold oAppend at g
  split at g
  · cases rxs with
    | cons r1 rr =>
    cases rr
    split at g
    · rename_i e
      split at g
      · rename_i hl
        obtain ⟨p, ws, rfl, hp, hA, hH, rl⟩ := mutOf_ok ra rx e
        refine mt_append pins s σ H _ _ u us Q I rv rvs ⟨_, _, _, rfl, rfl, hH, by rw [← rl.length]; exact hl, ?_⟩
        exact g as _ .non (ex_mut hH rfl) (ra.lset hp hH (rl.app (.cons r1 .nil))) .non
      · exact g.elim
    · exact g.elim
  · exact g.elim
def oExtend (x : AV) (xs : List AV) (A : Hx) : R AV := match xs with
  | [y] => (match mutOf A x, mutOf A y with
    | some (n, zs), some (m, ys) => if zs.length + ys.length ≤ sizeLine then .ok .non (A.set n (.lst (zs ++ ys))) else .bad
    | _, _ => .bad)
  | _ => .bad
theorem ma_extend : MtA X "list.extend" oExtend := by
  rintro pins s σ H v vs u us Q I rv rvs ⟨W, σ', as, A, x, xs, ra, rx, rxs, g⟩
  unfold oExtend at g
  split at g
  · cases rxs with
    | cons r1 rr =>
    cases rr
    split at g
    · rename_i e e2
      split at g
      · rename_i hl
        obtain ⟨p, ws, rfl, hp, hA, hH, rl⟩ := mutOf_ok ra rx e
        obtain ⟨p2, ws2, rfl, hp2, hA2, hH2, rl2⟩ := mutOf_ok ra r1 e2
        refine mt_extend pins s σ H _ _ u us Q I rv rvs ⟨_, _, _, _, rfl, rfl, hH, hH2, by rw [← rl.length, ← rl2.length]; exact hl, ?_⟩
        exact g as _ .non (ex_mut hH rfl) (ra.lset hp hH (rl.app rl2)) .non
      · exact g.elim
    · exact g.elim
  · exact g.elim
def tyL (x : AV) (A : Hx) : Bool := (listOf A x).isSome
theorem tyL_ok : ∀ as H A x v, RA X.K as H A → RV X.K as H x v → tyL x A = true → tyV X.K "list" v H := by
  intro as H A x v ra rx h
  obtain ⟨ys, e⟩ := Option.isSome_iff_exists.mp h
  obtain ⟨p, ws, rfl, hl, rl⟩ := listOf_ok ra rx e
  exact .inl ⟨rfl, _, hl⟩
/-! ### {} -/
def mDnew : ME := fun _ A => .ok (.loc A.length) (A ++ [.dct []])
theorem je_dnew {pos : Pos} : JE X W (.Dict [] [] pos) mDnew := pe_mono pe_dnewK fun σ H Q ⟨as, env, A, ra, re, g⟩ p hp =>
  g (as ++ [p]) _ (.ref p) (ex_push hp) (ra.push hp (.inl ⟨[], upd_same, .nil⟩)) (.loc (loc_new ra))
theorem je_callTy {f : List AV → Hx → R AV} {T : String} {x : Str} {p pos : Pos} {a : Expr} {es : List Expr} {ms : MA} (hc : CallA X (.type T) f) (hg : Gl X x) (hm : X.mg x = none) (hv : bootBuiltins x = some (.type T)) (ha : JA X W (a :: es) ms) (hn : x ≠ "__name__" := by decide) (hdb : (x == ("__debug__" : Str)) = false := by decide)
    (he : starEach (a :: es) X.env = (false, eval a X.env) :: starEach es X.env := by rfl) (hpl : (backTo pos (starEach es X.env)).any (·.1) = false := by rfl) : JE X W (.Call (.Name x p) (a :: es) [] pos) (mCB f ms) :=
  pe_mono (pe_callTy hc hg hm hv ha hn hdb he hpl) fun σ H Q h => rs_of h
end
end Am

set_option Elab.async false
set_option linter.all false
set_option maxRecDepth 100000
set_option maxHeartbeats 4000000
namespace HT
open PySem PySem.Spec PyProof.Rows
section
variable {prog : Program} {w : World} {A : Around} {E : Value → Shared → Prop} {s : Shared}
theorem kbAdjust (n : Nat) : Builtin.Slice.sliceAdjust none none (-1) (n : Int) = ((n : Int) - 1, -1) := by
  unfold Builtin.Slice.sliceAdjust
  simp
theorem kbPlaces (n : Nat) : Builtin.Slice.slicePlaces ((n : Int) - 1) (-1) (-1) = n := by
  unfold Builtin.Slice.slicePlaces
  have h1 : ¬ ((-1 : Int) > 0) := by decide
  simp only [h1, if_false]
  by_cases h : (n : Int) - 1 > -1
  · rw [if_pos h, show (-(-1 : Int)) = 1 by decide, Int.ediv_one]
    omega
  · rw [if_neg h]
    have : n = 0 := by omega
    subst this
    rfl
theorem kbApplied {sl : Addr} {n : Nat} {t : Tok} {Q : Int × Int × Nat → Shared → Prop} (hs : s.heap.IsSliceOf sl .none .none (.int (-1) t)) (h : Q ((n : Int) - 1, -1, n) s) : wpAny (model prog w) A (Builtin.Slice.sliceApplied (.ref sl) (pure (n : Int))) Q E s := by
  obtain ⟨os, hos, hcs, hds⟩ := id hs
  unfold Builtin.Slice.sliceApplied Builtin.Slice.sliceFields
  refine wpAny_bind (wpAny_bind (wpAny_field hos hds (x := .none) rfl (wpAny_bind (wpAny_field hos hds (x := .none) rfl (wpAny_bind (wpAny_field hos hds (x := .int (-1) t) rfl (wpAny_pure ?_)))))))
  refine wpAny_bind (slicePart_ (IsPart.int (-1) t) ?_)
  show wpAny _ _ (if ((-1 : Int) == 0) = true then _ else _) _ _ s
  rw [if_neg (by decide)]
  refine wpAny_bind (slicePart_ IsPart.none (wpAny_bind (slicePart_ IsPart.none (wpAny_bind (wpAny_pure ?_)))))
  show wpAny _ _ (match Builtin.Slice.sliceAdjust none none (-1) (n : Int) with | (lo, hi) => pure (lo, (-1 : Int), Builtin.Slice.slicePlaces lo hi (-1))) _ _ s
  rw [kbAdjust n]
  show wpAny _ _ (pure ((n : Int) - 1, (-1 : Int), Builtin.Slice.slicePlaces ((n : Int) - 1) (-1) (-1))) _ _ s
  rw [kbPlaces]
  exact wpAny_pure h
theorem kbFmc {α β : Type} {f g : α → Option β} : ∀ {l : List α}, (∀ x, x ∈ l → f x = g x) → l.filterMap f = l.filterMap g
  | [], _ => rfl
  | x :: r, h => by
    rw [List.filterMap_cons, List.filterMap_cons, h x List.mem_cons_self, kbFmc fun y hy => h y (List.mem_cons_of_mem _ hy)]
theorem kbPick (xs : Array Value) : ((List.range xs.size).filterMap fun (k : Nat) => xs[(((xs.size : Int) - 1) + (k : Int) * (-1)).toNat]?).toArray = xs.toList.reverse.toArray := by
  have e : (List.range xs.size).filterMap (fun (k : Nat) => xs[(((xs.size : Int) - 1) + (k : Int) * (-1)).toNat]?) = ((List.range xs.size).map fun k => xs.size - 1 - k).filterMap (xs[·]?) := by
    rw [List.filterMap_map]
    refine kbFmc fun k hk => ?_
    have hk' := List.mem_range.mp hk
    have z : (((xs.size : Int) - 1) + (k : Int) * (-1)).toNat = xs.size - 1 - k := by omega
    show xs[_]? = xs[_]?
    rw [z]
  rw [e, PySem.W.krv_range, List.filterMap_reverse, PySem.W.krv_all]
theorem kbRevTup {t sl : Addr} {items : Array Value} {tk : Tok} {Q : Value → Shared → Prop} (ht : IsTup s.heap t items) (hs : s.heap.IsSliceOf sl .none .none (.int (-1) tk))
    (h : Q (.ref s.heap.objs.size) { s with heap := s.heap.push { cls := .type "tuple", data := .seq items.toList.reverse.toArray } }) (hsz : items.size ≤ sizeLine) : wpAny (model prog w) A (getItem (.ref t) (.ref sl)) Q E s := by
  have hfit : sizeOk (.seq items.toList.reverse.toArray) := by
    show items.toList.reverse.toArray.size ≤ sizeLine
    rw [List.size_toArray, List.length_reverse, Array.length_toList]
    exact hsz
  obtain ⟨os, hos, hcs, hds⟩ := id hs
  have hTs : s.TypeIs (.ref sl) "slice" := ⟨os, hos, hcs⟩
  unfold getItem
  try with_reducible refine wpAny_holding ?_
  first | refine wpAny_bind (wpAny_pure ?_) | skip
  refine wpAny_bind (wpAny_sequenceKey ht.typeIs (by decide) ?_)
  refine wpAny_bind (wpAny_callSpecial?_slot (name := Str.ofString "__getitem__") ht.typeIs PyProof.Rows.slot_tuple_getitem (wpAny_call_entry PyProof.Rows.slot_tuple_getitem ht.typeIs entry_tuple_getitem ?_ (args_tuple_getitem _ _)))
  show wpAny _ _ (Builtin.Tuple.tupleItemsOf (.ref t) >>= _) _ _ s
  refine wpAny_bind (tupleItemsOf_ ht (wpAny_bind (wpAny_typeOf hTs ?_)))
  rw [if_pos (by decide)]
  refine wpAny_bind (kbApplied hs ?_)
  have no : ¬ ((((items.size : Int) - 1) == 0 && (-1 : Int) == 1 && items.size == items.size) = true) := by
    intro q
    rw [Bool.and_eq_true, Bool.and_eq_true] at q
    exact absurd q.1.2 (by decide)
  show wpAny _ _ (if (((items.size : Int) - 1) == 0 && (-1 : Int) == 1 && items.size == items.size) = true then _ else _) _ _ s
  rw [if_neg no, kbPick]
  first
    | exact wpAny_bind (m := Builtin.Tuple.tupleExact _) (wpAny_newObj_type (wpAny_pure ⟨_, rfl, wpAny_pure h⟩) hfit)
    | exact wpAny_bind (m := Builtin.Tuple.tupleExact _) (wpAny_newObj_type (wpAny_bind (wpAny_pure (wpAny_pure ⟨_, rfl, wpAny_pure h⟩))) hfit)
    | exact wpAny_bind (wpAny_bind (m := Builtin.Tuple.tupleExact _) (wpAny_newObj_type (wpAny_pure (wpAny_pure ⟨_, rfl, wpAny_pure h⟩)) hfit))
    | exact wpAny_bind (wpAny_bind (m := Builtin.Tuple.tupleExact _) (wpAny_newObj_type (wpAny_pure ⟨_, rfl, wpAny_pure h⟩) hfit))
end
end HT
namespace Kb
open PySem PySem.Spec PyProof.Rows L2 RZ
/-- t[::-1] of a tuple -/
def tRevT (K : PySem.W.Frag) (te : TE) : TE := fun σ H Q => te σ H fun x H1 => ∃ a xs, x = .ref a ∧ SqT K H1 a xs ∧ ∀ q, H1 q = none → Q (.ref q) (upd H1 q (.tup xs.reverse))
theorem pe_revT {X : Cx} {e : Expr} {te : TE} {k : Nat} {p1 p2 p3 pos : Pos} (he : PE X e te) : PE X (.Subscript e (.Slice none none (some (.UnaryOp .USub (.Constant (.int 1) k p1) p2)) p3) pos) (tRevT X.K te) := by
  refine ⟨fun pins s σ H Q I h => ?_⟩
  refine Subscript_ (thn (he.run pins s σ H _ I h) fun v s1 ⟨x, H1, I1, r1, q1⟩ => ?_)
  obtain ⟨a, xs, ex, hx, q⟩ := q1
  subst ex
  cases r1
  have part : PO X (some (.UnaryOp .USub (.Constant (.int 1) k p1) p2)) (tPart (tUn (rU fun i => .int (-i)) (tC (.int 1)))) := po_some (pe_un un_neg pe_int)
  refine wpAny_Slice (thn (po_none.run pins s1 σ H1 (fun o H2 => o = none ∧ H2 = H1) I1 ⟨rfl, rfl⟩) fun vl s2 ⟨l, H2, I2, pl, el, e2⟩ => ?_)
  subst el e2
  refine thn (po_none.run pins s2 σ H2 (fun o H3 => o = none ∧ H3 = H2) I2 ⟨rfl, rfl⟩) fun vu s3 ⟨u, H3, I3, pu, eu, e3⟩ => ?_
  subst eu e3
  refine thn (part.run pins s3 σ H3 (fun o H4 => o = some (-1) ∧ H4 = H3) I3 ⟨1, rfl, -1, rfl, rfl, rfl⟩) fun vs s4 ⟨o, H4, I4, ps, eo, e4⟩ => ?_
  subst eo e4
  have I5 : Inv X pins σ H4 { s4 with heap := s4.heap.push { cls := .type "slice", data := .fields #[vl, vu, vs] } } := I4.kept (t' := s4.toks) fun b ob q => Heap.get?_push_of_some _ q
  obtain ⟨its, r, ht, hz⟩ := I5.tuple hx
  have hlen := r.length
  cases pl
  cases pu
  cases ps
  show wpAny (model X.prog X.w) X.A (subscriptTail e (.Slice none none (some (.UnaryOp .USub (.Constant (.int 1) k p1) p2)) p3) (.ref a) (.ref s4.heap.objs.size)) (EP X pins σ Q) X.xe _
  refine tail_any (ops := [.ref a, .ref s4.heap.objs.size]) ht.typeIs PyProof.Rows.slot_tuple_getitem.lookup ?_ (by with_unfolding_all rfl)
  refine HT.kbRevTup ht (Heap.IsSliceOf.new _ _ _ _) ?_ (by rw [List.size_toArray]; omega)
  refine ⟨.ref _, _, I5.laid (t' := s4.toks) (o := .tup xs.reverse) (fun b ob q => Heap.get?_push_of_some _ q) (Nat.le_refl _) ?_, rfl, q _ (I5.hok.fresh (Nat.le_refl _))⟩
  exact ⟨by rw [List.length_reverse]; exact hz, _, r.reverse, ⟨_, Heap.get?_push_size _ rfl, rfl, 0, rfl⟩⟩
end Kb

set_option Elab.async false
set_option linter.all false
set_option maxRecDepth 100000
set_option maxHeartbeats 4000000
/-! Am8: reversed slices; small words. -/
namespace Am
open PySem PySem.Spec PyProof.Rows L2
theorem Rm.u64 {k : Nat} {A : Around} (r : Rm k A) : A.units + 64 < cLine := r.r.units
theorem Rm.u65 {k : Nat} {A : Around} (r : Rm k A) : A.units + 65 < cLine := by
  have := r.r.un
  omega
def mRev (a : ME) : ME := fun env A => (a env A).bind fun x A1 => match x with
  | .tup ts => .ok (.tup ts.reverse) A1
  | x => (match listOf A1 x with
    | some xs => .ok (.loc A1.length) (A1 ++ [.lst xs.reverse])
    | none => .bad)
section
variable {X : Cx} {W : WX}
theorem PE.or {e : Expr} {t t' : TE} (h : PE X e t) (h' : PE X e t') : PE X e (fun σ H Q => t σ H Q ∨ t' σ H Q) := ⟨fun pins s σ H Q I q => q.elim (h.run pins s σ H Q I) (h'.run pins s σ H Q I)⟩
theorem je_rev {e : Expr} {me : ME} {k : Nat} {p1 p2 p3 pos : Pos} (he : JE X W e me) : JE X W (.Subscript e (.Slice none none (some (.UnaryOp .USub (.Constant (.int 1) k p1) p2)) p3) pos) (mRev me) := by
  refine pe_mono (PE.or (pe_revL he) (Kb.pe_revT he)) fun σ H Q ⟨as, env, A, ra, re, g⟩ => ?_
  cases em : me env A with
  | ok x A1 =>
    unfold mRev at g
    by_cases ht : ∃ ts, x = .tup ts
    · obtain ⟨ts, rfl⟩ := ht
      refine .inr ⟨as, env, A, ra, re, G.bind g fun y A2 as1 H1 v e0 e1 ra1 rv g1 => ?_⟩
      rw [em] at e0
      cases e0
      cases rv with
      | tup h1 r1 => exact ⟨_, _, rfl, h1, fun p hp => new_tup ra1 r1.rev hp g1⟩
    · refine .inl ⟨as, env, A, ra, re, G.bind g fun y A2 as1 H1 v e0 e1 ra1 rv g1 => ?_⟩
      rw [em] at e0
      cases e0
      split at g1
      · exact absurd ⟨_, rfl⟩ ht
      · split at g1
        · rename_i el
          obtain ⟨p, ws, rfl, hl, rl⟩ := listOf_ok ra1 rv el
          exact ⟨_, _, rfl, hl, fun p hp => new_lst ra1 rl.rev hp g1⟩
        · exact g1.elim
  | ex x A1 =>
    refine .inl ⟨as, env, A, ra, re, ?_⟩
    unfold mRev at g
    rw [em] at g ⊢
    exact g
  | bad => unfold mRev at g; rw [em] at g; exact g.elim
end
end Am

set_option Elab.async false
set_option linter.all false
set_option maxRecDepth 100000
set_option maxHeartbeats 4000000
/-! Am9: more methods. -/
namespace Am
open PySem PySem.Spec PyProof.Rows L2
section
variable {X : Cx} {W : WX}
def posI (i : Int) : List Int → Option Nat
  | [] => none
  | j :: r => if j = i then some 0 else (posI i r).map (· + 1)
theorem posI_ok {i : Int} : ∀ {js : List Int} {k : Nat}, posI i js = some k → js[k]? = some i ∧ ∀ m z, m < k → js[m]? = some z → z ≠ i
  | j :: r, k, e => by
    unfold posI at e
    split at e
    · rename_i h
      cases e
      exact ⟨by simp [h], fun m z hm => absurd hm (Nat.not_lt_zero m)⟩
    · rename_i h
      obtain ⟨k', e', rfl⟩ := Option.map_eq_some_iff.mp e
      obtain ⟨h1, h2⟩ := posI_ok e'
      refine ⟨by simpa using h1, fun m z hm hz => ?_⟩
      cases m with
      | zero =>
        simp at hz
        subst hz
        exact h
      | succ m => exact h2 m z (by omega) (by simpa using hz)
def oIndex (x : AV) (xs : List AV) (A : Hx) : R AV := match xs with
  | [.int i] => (match (listOf A x).bind intsOf with
    | some js => (match posI i js with
      | some k => .ok (.int k) A
      | none => .bad)
    | none => .bad)
  | _ => .bad
theorem ma_index : MtA X "list.index" oIndex := by
  rintro pins s σ H v vs u us Q I rv rvs ⟨W, σ', as, A, x, xs, ra, rx, rxs, g⟩
  unfold oIndex at g
  split at g
  · rename_i i
    cases rxs with
    | cons r1 rr =>
    cases rr
    cases r1
    split at g
    · rename_i e
      obtain ⟨ys, e1, e2⟩ := bind_lst e
      obtain ⟨p, ws, rfl, hl, rl⟩ := listOf_ok ra rx e1
      rw [intsOf_ok rl e2] at hl
      split at g
      · rename_i k ek
        obtain ⟨h1, h2⟩ := posI_ok ek
        refine mt_index pins s σ H _ _ u us Q I rv rvs ⟨_, _, _, k, .int i, rfl, rfl, hl, rfl, ?_, ?_, ?_, ?_, fin1 ra g (.int _)⟩
        · rw [List.all_map]
          exact List.all_eq_true.mpr fun _ _ => rfl
        · rw [List.getElem?_map, h1]
          rfl
        · simp [eqV]
        · intro m z' hm hz
          rw [List.getElem?_map] at hz
          obtain ⟨q, hq, rfl⟩ := Option.map_eq_some_iff.mp hz
          have := h2 m q hm hq
          simp [eqV, this]
      · exact g.elim
    · exact g.elim
  · exact g.elim
end
end Am

set_option Elab.async false
set_option linter.all false
set_option maxRecDepth 100000
set_option maxHeartbeats 4000000
/-! Am10: a name that grows in its place (x += y, of integers). -/
namespace Am
open PySem PySem.Spec PyProof.Rows L2
section
variable {X : Cx} {W : WX} {pos : Pos}
def aAdd (x y : AV) (A : Hx) : R AV := match x, y with
  | .int i, .int j => .ok (.int (i + j)) A
  | _, _ => .bad
theorem oi_add : OpA X (inplaceOp .Add) aAdd := by
  rintro pins s σ H v u w1 w2 Q I rv ru ⟨W, σ', as, A, x, y, ra, rx, ry, g⟩
  unfold aAdd at g
  split at g
  · cases rx; cases ry
    exact iop_add pins s σ H _ _ w1 w2 Q I rv ru ⟨_, _, rfl, rfl, fin1 ra g (.int _)⟩
  · exact g.elim
theorem oi_sub : OpA X (inplaceOp .Sub) oSub := by
  rintro pins s σ H v u w1 w2 Q I rv ru ⟨W, σ', as, A, x, y, ra, rx, ry, g⟩
  unfold oSub at g
  split at g
  · cases rx; cases ry
    exact iop_sub pins s σ H _ _ w1 w2 Q I rv ru ⟨_, _, rfl, rfl, fin1 ra g (.int _)⟩
  · exact g.elim
def mAug (i : Nat) (f : AV → AV → Hx → R AV) (a : ME) : MS := fun env A => match env[i]? with
  | some (some x) => (a env A).st env fun y A1 => (f x y A1).st env fun z A2 => .nx (env.set i (some z)) A2
  | _ => .bad
theorem js_aug {i : Nat} {x : Str} {a : Expr} {ma : ME} {op : Operator} {f : AV → AV → Hx → R AV} {pos' : Pos} (hN : X.N.Nodup) (hi : X.N[i]? = some x) (hx : Loc X.env.scope x) (ho : OpA X (inplaceOp op) f) (he : JE X W a ma) (hf : X.fn x = true ∨ X.env.scope.names.lookup x = some .local := by first | exact .inl rfl | exact .inr rfl | assumption) :
    JS X W (.AugAssign (.Name x pos') op a pos) (mAug i f ma) := by
  refine ps_mono (ps_aug (ti := r2 X.K f) hN hi hx he ho hf) fun D σ H ⟨as, env, A, ra, re, g⟩ => ?_
  unfold mAug at g
  split at g
  · rename_i x e
    obtain ⟨v, h1, h2⟩ := re.at_ i x e
    refine ⟨v, h1, as, env, A, ra, re, GS.st re g fun y A1 as1 H1 u _ e1 ra1 ry g1 => ?_⟩
    exact ⟨W, σ, as1, A1, x, y, ra1, h2.ex e1, ry, GS.st (re.ex e1) g1 fun z A2 as2 H2 w _ e2 ra2 rz g2 => g2 as2 H2 _ Ex.refl ra2 (((re.ex e1).ex e2).set i rz)⟩
  · exact g.elim
end
end Am

set_option Elab.async false
set_option linter.all false
set_option maxRecDepth 100000
set_option maxHeartbeats 4000000
/-! Am11: defs whose mirrors forget nothing. -/
namespace Am
open PySem PySem.Spec PyProof.Rows L2
/-- a def's function: n parameters, l other names -/
noncomputable def fdef0 (n l : Nat) (mb : MS) (xs : List AV) (A : Hx) : R AV := if xs.length = n then outR (mb (xs.map some ++ List.replicate l none) A) else .bad
section
variable {P : Program} {w : World} {K : PySem.W.Frag} {mg : Str → Option Value} {base : Heap}
theorem ok_defF0 {fd : FuncData} {x qual : Str} {st : Stmt} {f : Addr} {N ps : List Str} {k n l : Nat} {mb : MS} (F : Fun K x qual st f fd) (S : FnScope N ps (defScope st)) (hn : ps.length = n) (hl : N.length - n = l)
    (hb : ∀ (kV doc pm : Value) (an : Option Addr) (cdv ct : Value) (us : List Value), us.length = ps.length → bindArgs (PySem.W.fnOf x qual (defArgs st) (defBody st) (defScope st) .none kV doc pm an cdv ct) ⟨us, []⟩ = pure (ps.zip us))
    (hbody : ∀ (cdv : Value) (A : Around) (outer : List Env) (s : Shared) (H : Hp) (E : XK), Rm k (A.deeper (envOfC qual (defScope st) s.heap.objs.size f cdv)) →
      JSs (cxOf (L2.CX P w) P w K mg base N qual (defScope st) f cdv A outer s H E) (fun c d _ H => E c d H) (defBody st) mb) : FnG P w K mg base (L2.CX P w) (k + 1) f fd ps (spA K ps.length (fdef0 n l mb)) ∧ Binds K fd ps [] ∧ ∀ xs A, xs.length ≠ ps.length → fdef0 n l mb xs A = .bad := by
  refine ⟨fnG_of F S (fun h => h.1) (fun cdv A outer s H vs Q E hr h => ?_), F.binds hb, fun xs A h => ?_⟩
  · obtain ⟨hv, as, σ, A', xs, ra, rx, g⟩ := h
    refine ⟨_, hbody cdv A outer s H E hr, as, _, A', ra, re_start (N := N) (l := l) rx (by rw [rx.length, hv, hn]; exact hl), ?_⟩
    unfold fdef0 at g
    split at g
    · have g2 := g
      show GS K _ as H _ _
      cases em : mb (xs.map some ++ List.replicate l none) A' with
      | nx env B =>
        rw [em] at g2
        exact fun as' H' σ' e ra' re' => g2 as' H' .non e ra' .non
      | rt y B =>
        rw [em] at g2
        exact g2
      | ex y env B =>
        rw [em] at g2
        exact fun as' H' σ' d e ra' re' rx' => g2 as' H' d e ra' rx'
      | bk env B => rw [em] at g2; exact g2.elim
      | ct env B => rw [em] at g2; exact g2.elim
      | bad => rw [em] at g2; exact g2.elim
    · exact g.elim
  · unfold fdef0
    rw [if_neg (by rw [← hn]; exact h)]
theorem ok_def0 {x qual : Str} {st : Stmt} {f : Addr} {N ps : List Str} {k n l : Nat} {mb : MS} (F : ∃ fd, Fun K x qual st f fd) (S : FnScope N ps (defScope st)) (hn : ps.length = n) (hl : N.length - n = l)
    (hb : ∀ (kV doc pm : Value) (an : Option Addr) (cdv ct : Value) (us : List Value), us.length = ps.length → bindArgs (PySem.W.fnOf x qual (defArgs st) (defBody st) (defScope st) .none kV doc pm an cdv ct) ⟨us, []⟩ = pure (ps.zip us))
    (hbody : ∀ (cdv : Value) (A : Around) (outer : List Env) (s : Shared) (H : Hp) (E : XK), Rm k (A.deeper (envOfC qual (defScope st) s.heap.objs.size f cdv)) →
      JSs (cxOf (L2.CX P w) P w K mg base N qual (defScope st) f cdv A outer s H E) (fun c d _ H => E c d H) (defBody st) mb) : OkA P w K mg base (k + 1) f ps (fdef0 n l mb) := by
  obtain ⟨fd, F⟩ := F
  obtain ⟨h1, h2, h3⟩ := ok_defF0 (mb := mb) F S hn hl hb hbody
  exact ⟨⟨fd, h1, h2⟩, F.kp, h3⟩
end
end Am
namespace Am
open PySem PySem.Spec PyProof.Rows L2
theorem jss_bad {X : Cx} {W : WX} {st : List Stmt} : JSs X W st mBad := ⟨fun pins s σ H D I ⟨as, env, A, ra, re, g⟩ => g.elim⟩
theorem OkA.up {P : Program} {w : World} {K : PySem.W.Frag} {mg : Str → Option Value} {base : Heap} {k j : Nat} {f : Addr} {ps : List Str} {m : List AV → Hx → R AV} (h : OkA P w K mg base k f ps m) (l : k ≤ j) : OkA P w K mg base j f ps m := by
  obtain ⟨⟨fd, F, B⟩, kp, hl⟩ := h
  refine ⟨⟨fd, ⟨F.len, fun {A outer s H g us vs Q E} room e0 bnd rv told => F.run (room.mono l) e0 bnd rv told⟩, B⟩, kp, hl⟩
end Am

set_option Elab.async false
set_option linter.all false
set_option maxRecDepth 100000
set_option maxHeartbeats 1000000
/-! AmS: words for reckoning with what defs do. -/
namespace Am
open PySem PySem.Spec PyProof.Rows L2
/-! ### reckoning step by step: what stands behind is looked at when it is come to -/
section
variable {α β : Type}
theorem R.bind_c {r r' : R α} {k : α → Hx → R β} (h : r = r') : r.bind k = r'.bind k := by rw [h]
theorem R.st_c {r r' : R α} {env : Ev} {k : α → Hx → RS} (h : r = r') : r.st env k = r'.st env k := by rw [h]
theorem R.noex_c {r r' : R α} (h : r = r') : r.noex = r'.noex := by rw [h]
def RS.seq (r : RS) (k : MS) : RS := match r with
  | .nx e A => k e A
  | r => r
theorem RS.seq_c {r r' : RS} {k : MS} (h : r = r') : r.seq k = r'.seq k := by rw [h]
@[simp] theorem RS.seq_nx {e : Ev} {A : Hx} {k : MS} : (RS.nx e A).seq k = k e A := rfl
@[simp] theorem RS.seq_rt {e : AV} {A : Hx} {k : MS} : (RS.rt e A).seq k = .rt e A := rfl
@[simp] theorem RS.seq_bk {e : Ev} {A : Hx} {k : MS} : (RS.bk e A).seq k = .bk e A := rfl
@[simp] theorem RS.seq_ct {e : Ev} {A : Hx} {k : MS} : (RS.ct e A).seq k = .ct e A := rfl
@[simp] theorem RS.seq_ex {x : AX} {e : Ev} {A : Hx} {k : MS} : (RS.ex x e A).seq k = .ex x e A := rfl
@[simp] theorem RS.seq_bad {k : MS} : RS.bad.seq k = .bad := rfl
/-- which way -/
def pick (c : Bool) (x y : α) : α := if c = true then x else y
theorem pick_c {c c' : Bool} {x y : α} (h : c = c') : pick c x y = pick c' x y := by rw [h]
@[simp] theorem pick_t {x y : α} : pick true x y = x := rfl
@[simp] theorem pick_f {x y : α} : pick false x y = y := rfl
theorem pick_pos {p : Prop} [Decidable p] {x y : α} (h : p) : pick (decide p) x y = x := by rw [decide_eq_true h]; rfl
theorem pick_neg {p : Prop} [Decidable p] {x y : α} (h : ¬ p) : pick (decide p) x y = y := by rw [decide_eq_false h]; rfl
/-- an optional outcome -/
def optR (o : Option α) (k : α → R β) : R β := match o with
  | some x => k x
  | none => .bad
theorem optR_c {o o' : Option α} {k : α → R β} (h : o = o') : optR o k = optR o' k := by rw [h]
@[simp] theorem optR_some {x : α} {k : α → R β} : optR (some x) k = k x := rfl
@[simp] theorem optR_none {k : α → R β} : optR none k = .bad := rfl
def optS (o : Option α) (k : α → RS) : RS := match o with
  | some x => k x
  | none => .bad
theorem optS_c {o o' : Option α} {k : α → RS} (h : o = o') : optS o k = optS o' k := by rw [h]
@[simp] theorem optS_some {x : α} {k : α → RS} : optS (some x) k = k x := rfl
@[simp] theorem optS_none {k : α → RS} : optS none k = .bad := rfl
end
section
variable {env : Ev} {A : Hx} {a b c : ME} {t u : MT} {x y z : MS} {ma : MA} {f g : AV → AV → Hx → R AV} {i j : Nat}
@[simp] theorem mC_eq {v : AV} : mC v env A = .ok v A := rfl
theorem mVar_eq : mVar i env A = optR (env[i]?.join) fun v => .ok v A := by
  unfold mVar
  cases env[i]? with
  | none => rfl
  | some o => cases o <;> rfl
@[simp] theorem mOp_eq : mOp f a b env A = (a env A).bind fun x A1 => (b env A1).bind fun y A2 => f x y A2 := rfl
@[simp] theorem mUn_eq {f : AV → Hx → R AV} : mUn f a env A = (a env A).bind f := rfl
@[simp] theorem mNil_eq : mNil env A = .ok [] A := rfl
@[simp] theorem mCons_eq : mCons a ma env A = (a env A).bind fun x A1 => (ma env A1).bind fun xs A2 => .ok (x :: xs) A2 := rfl
@[simp] theorem mTup_eq : mTup ma env A = (ma env A).bind fun xs A1 => if xs.length ≤ sizeLine then .ok (.tup xs) A1 else .bad := rfl
@[simp] theorem mLst_eq : mLst ma env A = (ma env A).bind fun xs A1 => if xs.length ≤ sizeLine then .ok (.loc A1.length) (A1 ++ [.lst xs]) else .bad := rfl
@[simp] theorem mTru_eq : mTru a env A = (a env A).bind truth := rfl
@[simp] theorem mNotV_eq : mNotV a env A = (a env A).bind fun x A1 => (truth x A1).bind fun b A2 => .ok (.bl (!b)) A2 := rfl
@[simp] theorem mAndV_eq : mAndV a b env A = (a env A).bind fun x A1 => (truth x A1).bind fun c A2 => pick c (b env A2) (.ok x A2) := rfl
@[simp] theorem mOrV_eq : mOrV a b env A = (a env A).bind fun x A1 => (truth x A1).bind fun c A2 => pick c (.ok x A2) (b env A2) := rfl
@[simp] theorem mAnd_eq : mAnd t u env A = (t env A).bind fun c A1 => pick c (u env A1) (.ok false A1) := rfl
@[simp] theorem mOr_eq : mOr t u env A = (t env A).bind fun c A1 => pick c (.ok true A1) (u env A1) := rfl
@[simp] theorem mNot_eq : mNot t env A = (t env A).bind fun c A1 => .ok (!c) A1 := rfl
@[simp] theorem mIfE_eq : mIfE t a b env A = (t env A).bind fun c A1 => pick c (a env A1) (b env A1) := rfl
@[simp] theorem mB_eq : mB a env A = (a env A).bind isB := rfl
@[simp] theorem isB_bl {b : Bool} : isB (.bl b) A = .ok b A := rfl
@[simp] theorem mChain_eq : mChain f g a b c env A = (a env A).bind fun x A1 => (b env A1).bind fun y A2 => (f x y A2).bind fun z A3 => (isB z A3).bind fun k A4 => pick k ((c env A4).bind fun w A5 => g y w A5) (.ok (.bl false) A4) := rfl
@[simp] theorem mNoPart_eq : mNoPart env A = .ok none A := rfl
def toI? (x : AV) (A : Hx) : R (Option Int) := match x with
  | .int i => .ok (some i) A
  | _ => .bad
@[simp] theorem toI?_int {i : Int} : toI? (.int i) A = .ok (some i) A := rfl
@[simp] theorem mPart_eq : mPart a env A = (a env A).bind toI? := rfl
@[simp] theorem mSl_eq {f : AV → Option Int → Option Int → Hx → R AV} {lo hi : MO} : mSl f a lo hi env A = (a env A).bind fun x A1 => (lo env A1).bind fun l A2 => (hi env A2).bind fun u A3 => f x l u A3 := rfl
@[simp] theorem mCB_eq {f : List AV → Hx → R AV} : mCB f ma env A = (ma env A).bind f := rfl
@[simp] theorem mBM_eq {T : String} {ty : AV → Hx → Bool} {f : AV → List AV → Hx → R AV} : mBM T ty f a ma env A = (a env A).bind fun x A1 => pick (ty x A1) ((ma env A1).bind fun xs A2 => f x xs A2) .bad := rfl
@[simp] theorem mCut_eq : mCut a env A = cut A (a env A) := rfl
theorem cut_c {r r' : R AV} (h : r = r') : cut A r = cut A r' := by rw [h]
@[simp] theorem mPass_eq : mPass env A = .nx env A := rfl
@[simp] theorem mBad_eq : mBad env A = .bad := rfl
@[simp] theorem mSeq_eq : mSeq x y env A = (x env A).seq y := by
  unfold mSeq RS.seq
  cases x env A <;> rfl
@[simp] theorem mDrop_eq : mDrop a env A = (a env A).st env fun _ A1 => .nx env A1 := rfl
@[simp] theorem mRet_eq : mRet a env A = (a env A).st env fun x A1 => .rt x A1 := rfl
@[simp] theorem mRetN_eq : mRetN env A = .rt .non A := rfl
@[simp] theorem mIf_eq : mIf t x y env A = (t env A).st env fun c A1 => pick c (x env A1) (y env A1) := rfl
@[simp] theorem mSet_eq : mSet i a env A = (a env A).st env fun x A1 => .nx (env.set i (some x)) A1 := rfl
@[simp] theorem mAsg_eq {g : MG} : mAsg g a env A = (a env A).st env fun x A1 => optS (g x env) fun e => .nx e A1 := by
  unfold mAsg
  congr 1
  funext x A1
  cases g x env <;> rfl
def parR (i j : Nat) (env : Ev) (xs : List AV) (A : Hx) : RS := match xs with
  | [x, y] => .nx ((env.set i (some x)).set j (some y)) A
  | _ => .bad
@[simp] theorem parR_eq {v w : AV} : parR i j env [v, w] A = .nx ((env.set i (some v)).set j (some w)) A := rfl
@[simp] theorem mPar_eq : mPar i j ma env A = (ma env A).st env (parR i j env) := rfl
@[simp] theorem mPut_eq : mPut a b c env A = (a env A).st env fun x A1 => (b env A1).st env fun y A2 => (c env A2).st env fun z A3 => optS (setIx y z x A3) fun A4 => .nx env A4 := by
  unfold mPut
  congr 1
  funext x A1
  congr 1
  funext y A2
  congr 1
  funext z A3
  cases setIx y z x A3 <;> rfl
@[simp] theorem gNm_eq {v : AV} : gNm i v env = some (env.set i (some v)) := rfl
@[simp] theorem gNl_eq : gNl [] env = some env := rfl
@[simp] theorem gCs_eq {g : MG} {r : MGs} {v : AV} {vs : List AV} : gCs g r (v :: vs) env = (g v env).bind fun e => r vs e := rfl
@[simp] theorem gTp_eq {g : MGs} {vs : List AV} : gTp g (.tup vs) env = g vs env := rfl
@[simp] theorem outR_nx : outR (.nx env A) = .ok .non A := rfl
@[simp] theorem outR_rt {v : AV} : outR (.rt v A) = .ok v A := rfl
@[simp] theorem outR_ex {e : AX} : outR (.ex e env A) = .ex e A := rfl
@[simp] theorem outR_bad : outR .bad = .bad := rfl
theorem outR_c {r r' : RS} (h : r = r') : outR r = outR r' := by rw [h]
theorem fdef_eq {n l : Nat} {xs : List AV} (h : xs.length = n) : fdef n l x xs A = cut A (outR (x (xs.map some ++ List.replicate l none) A)) := by
  unfold fdef
  rw [if_pos h]
end
theorem fdef_ret {n l : Nat} {mb : MS} {xs : List AV} {A A' B : Hx} {v w : AV} (h : xs.length = n) (e : mb (xs.map some ++ List.replicate l none) A = .rt v A') (c : cut A (.ok v A') = .ok w B) : fdef n l mb xs A = .ok w B := by
  unfold fdef
  rw [if_pos h, e]
  exact c
theorem fdef_nxt {n l : Nat} {mb : MS} {xs : List AV} {A A' B : Hx} {env : Ev} (h : xs.length = n) (e : mb (xs.map some ++ List.replicate l none) A = .nx env A') (c : cut A (.ok .non A') = .ok .non B) : fdef n l mb xs A = .ok .non B := by
  unfold fdef
  rw [if_pos h, e]
  exact c
theorem seq_of {a b : MS} {env e : Ev} {A A1 : Hx} (h : a env A = .nx e A1) : mSeq a b env A = b e A1 := by rw [mSeq_eq, h]; rfl
theorem cutOk_refl (A : Hx) : cutOk A A := ⟨Nat.le_refl _, fun i o _ e => .inl e⟩
theorem cut_at {A A' B : Hx} {x : AV} (hx : below A.length x = true) (hl : A.length ≤ A'.length) (ht : A'.take A.length = B) (h : ∀ (i : Nat) (o : AO), i < A.length → B[i]? = some o → A[i]? = some o ∨ belowO A.length o = true) : cut A (.ok x A') = .ok x B := by
  have ok : cutOk A A' := ⟨hl, fun i o hi e => h i o hi (by rw [← ht, List.getElem?_take_of_lt hi]; exact e)⟩
  unfold cut
  dsimp only
  rw [if_pos ok, if_pos hx, ht]
theorem cut_pure {A : Hx} {x : AV} (h : below A.length x = true) : cut A (.ok x A) = .ok x A :=
  cut_at h (Nat.le_refl _) (List.take_length) fun i o _ e => .inl e
theorem cut_junk {A J : Hx} {x : AV} (h : below A.length x = true) : cut A (.ok x (A ++ J)) = .ok x A :=
  cut_at h (by simp) (by simp) fun i o _ e => .inl e
/-- a new object is what is handed back -/
theorem cut_new {A A' : Hx} {k : Nat} {o : AO} (hl : A.length ≤ A'.length) (ht : A'.take A.length = A) (hk : A.length ≤ k) (e : A'[k]? = some o) (b : belowO A.length o = true) : cut A (.ok (.loc k) A') = .ok (.loc A.length) (A ++ [o]) := by
  have ok : cutOk A A' := ⟨hl, fun i o hi e => .inl (by rw [← ht, List.getElem?_take_of_lt hi]; exact e)⟩
  unfold cut
  dsimp only
  rw [if_pos ok]
  have nb : ¬ below A.length (.loc k) = true := by simp [below]; omega
  rw [if_neg nb, e]
  dsimp only
  rw [if_pos b, ht]
@[simp] theorem below_non (n : Nat) : below n .non = true := by simp [below]
@[simp] theorem below_bl (n : Nat) (b : Bool) : below n (.bl b) = true := by simp [below]
@[simp] theorem below_int (n : Nat) (b : Int) : below n (.int b) = true := by simp [below]
@[simp] theorem below_str (n : Nat) (b : Str) : below n (.str b) = true := by simp [below]
@[simp] theorem below_tup (n : Nat) (b : List AV) : below n (.tup b) = belows n b := by simp [below]
@[simp] theorem below_loc (n k : Nat) : below n (.loc k) = decide (k < n) := by simp [below]
@[simp] theorem belows_nil (n : Nat) : belows n [] = true := by simp [belows]
@[simp] theorem belows_cons (n : Nat) (x : AV) (r : List AV) : belows n (x :: r) = (below n x && belows n r) := by simp [belows]
@[simp] theorem belows_append (n : Nat) : ∀ (r s : List AV), belows n (r ++ s) = (belows n r && belows n s)
  | [], s => by simp
  | x :: r, s => by simp [belows_append n r s, Bool.and_assoc]
@[simp] theorem belows_int (n : Nat) (r : List Int) : belows n (r.map AV.int) = true := by
  induction r with
  | nil => simp
  | cons x r ih => simp [ih]
@[simp] theorem belowO_lst (n : Nat) (r : List AV) : belowO n (.lst r) = belows n r := rfl
theorem ixN_nat {n j : Nat} (h : j < n) : ixN n (j : Int) = some j := by
  unfold ixN
  have h2 : (j : Int) < (n : Int) := by omega
  simp [h]
theorem atI_natA {α : Type} {xs : List α} {j : Nat} {x : α} (h : xs[j]? = some x) : atI xs (j : Int) = some x := by
  unfold atI
  rw [ixN_nat (List.getElem?_eq_some_iff.mp h).1]
  exact h
/-! ### data -/
section
variable {A : Hx} {k : Nat}
@[simp] theorem toD_non : toD A k .non = some .none := by cases k <;> simp [toD]
@[simp] theorem toD_bl (b : Bool) : toD A k (.bl b) = some (.bool b) := by cases k <;> simp [toD]
@[simp] theorem toD_int (b : Int) : toD A k (.int b) = some (.int b) := by cases k <;> simp [toD]
@[simp] theorem toD_str (b : Str) : toD A k (.str b) = some (.str b) := by cases k <;> simp [toD]
@[simp] theorem allD_nil (f : AV → Option PyData) : allD f [] = some [] := rfl
@[simp] theorem allD_cons (f : AV → Option PyData) (x : AV) (r : List AV) : allD f (x :: r) = (f x).bind fun d => (allD f r).map (d :: ·) := rfl
theorem allD_map {α : Type} {f : α → AV} {g : α → PyData} {t : AV → Option PyData} (h : ∀ x, t (f x) = some (g x)) : ∀ xs : List α, allD t (xs.map f) = some (xs.map g)
  | [] => rfl
  | x :: r => by simp [h x, allD_map h r]
theorem toD_tup {ts : List AV} {ds : List PyData} (h : allD (toD A k) ts = some ds) : toD A (k + 1) (.tup ts) = some (.tuple ds) := by simp [toD, h]
theorem depthAll_le {n : Nat} : ∀ {ds : List PyData}, (∀ d, d ∈ ds → d.depth ≤ n) → PyData.depthAll ds ≤ n
  | [], _ => by simp [PyData.depthAll]
  | d :: r, h => by
    simp only [PyData.depthAll]
    exact Nat.max_le.mpr ⟨h d List.mem_cons_self, depthAll_le fun e he => h e (List.mem_cons_of_mem _ he)⟩
theorem canLayAll_of : ∀ {ds : List PyData}, (∀ d, d ∈ ds → d.canLay0 = true) → PyData.canLayAll0 ds = true
  | [], _ => by simp [PyData.canLayAll0]
  | d :: r, h => by
    simp only [PyData.canLayAll0, h d List.mem_cons_self, canLayAll_of fun e he => h e (List.mem_cons_of_mem _ he), Bool.and_self]
/-- data of a depth at most n -/
structure Shp (n : Nat) (d : PyData) : Prop where
  lay : d.canLay0 = true
  dep : d.depth ≤ n
theorem Shp.shaped {n : Nat} {d : PyData} (h : Shp n d) (hn : n ≤ 64 := by decide) : SeqAt.shaped d = true := by
  unfold SeqAt.shaped
  rw [h.lay, decide_eq_true (Nat.le_trans h.dep hn)]
  rfl
theorem Shp.mono {n m : Nat} {d : PyData} (h : Shp n d) (hn : n ≤ m) : Shp m d := ⟨h.lay, Nat.le_trans h.dep hn⟩
theorem shp_non (n : Nat) : Shp n .none := ⟨by simp [PyData.canLay0], by simp [PyData.depth]⟩
theorem shp_bool (n : Nat) (b : Bool) : Shp n (.bool b) := ⟨by simp [PyData.canLay0], by simp [PyData.depth]⟩
theorem shp_int (n : Nat) (b : Int) : Shp n (.int b) := ⟨by simp [PyData.canLay0], by simp [PyData.depth]⟩
theorem shp_tup {n : Nat} {ds : List PyData} (h : ∀ d, d ∈ ds → Shp n d) : Shp (n + 1) (.tuple ds) :=
  ⟨by simp only [PyData.canLay0]; exact canLayAll_of fun d hd => (h d hd).lay, by simp only [PyData.depth]; have := depthAll_le fun d hd => (h d hd).dep; omega⟩
theorem shp_lst {n : Nat} {ds : List PyData} (h : ∀ d, d ∈ ds → Shp n d) : Shp (n + 1) (.list ds) :=
  ⟨by simp only [PyData.canLay0]; exact canLayAll_of fun d hd => (h d hd).lay, by simp only [PyData.depth]; have := depthAll_le fun d hd => (h d hd).dep; omega⟩
theorem shp_map {α : Type} {n : Nat} {g : α → PyData} (h : ∀ x, Shp n (g x)) (xs : List α) : Shp (n + 1) (.tuple (xs.map g)) := shp_tup fun d hd => by
  obtain ⟨x, _, rfl⟩ := List.mem_map.mp hd
  exact h x
theorem eqD_of {x y : AV} {d e : PyData} {n : Nat} (hx : toD A 60 x = some d) (hy : toD A 60 y = some e) (sd : Shp n d) (se : Shp n e) (hn : n ≤ 64 := by decide) : eqD A x y = .ok (PyData.eqv d e) A := by
  unfold eqD
  rw [hx, hy]
  dsimp only
  rw [if_pos ⟨sd.shaped hn, se.shaped hn⟩]
theorem eqv_int (i j : Int) : PyData.eqv (.int i) (.int j) = decide (i = j) := by
  by_cases h : i = j <;> simp [PyData.eqv, h]
theorem eqvAll_map {α : Type} [DecidableEq α] {g : α → PyData} (h : ∀ x y, PyData.eqv (g x) (g y) = decide (x = y)) : ∀ xs ys : List α, PyData.eqvAll (xs.map g) (ys.map g) = decide (xs = ys)
  | [], [] => by simp [PyData.eqvAll]
  | [], y :: r => by simp [PyData.eqvAll]
  | x :: r, [] => by simp [PyData.eqvAll]
  | x :: r, y :: s => by
    rw [List.map_cons, List.map_cons, PyData.eqvAll, h, eqvAll_map h r s]
    by_cases h1 : x = y <;> by_cases h2 : r = s <;> simp [h1, h2]
theorem eqv_map {α : Type} [DecidableEq α] {g : α → PyData} (h : ∀ x y, PyData.eqv (g x) (g y) = decide (x = y)) (xs ys : List α) : PyData.eqv (.tuple (xs.map g)) (.tuple (ys.map g)) = decide (xs = ys) := by
  rw [PyData.eqv]
  exact eqvAll_map h xs ys
@[simp] theorem oEq_int (i j : Int) : oEq (.int i) (.int j) A = .ok (.bl (decide (i = j))) A := by
  unfold oEq
  rw [eqD_of (n := 1) (toD_int _) (toD_int _) (shp_int _ _) (shp_int _ _), eqv_int]
  rfl
@[simp] theorem oNe_int (i j : Int) : oNe (.int i) (.int j) A = .ok (.bl (!decide (i = j))) A := by
  unfold oNe
  rw [eqD_of (n := 1) (toD_int _) (toD_int _) (shp_int _ _) (shp_int _ _), eqv_int]
  rfl
end
theorem small_of {i : Int} (h0 : 0 ≤ i) (h : i < 18446744073709551616) : small i := ⟨by omega, by omega⟩
theorem wide_of {i : Int} {k : Nat} (h : i.natAbs < 2 ^ k) (hk : k ≤ 4000) (h0 : 0 < k) : wide i := by
  unfold wide
  exact Nat.lt_of_lt_of_le (PySem.Flt.log2_lt_of h0 h) hk
theorem wide_small {i : Int} (h : small i) : wide i := by
  refine wide_of (k := 65) ?_ (by decide) (by decide)
  obtain ⟨h1, h2⟩ := h
  have : i.natAbs < 36893488147419103232 := by omega
  exact this
@[simp] theorem oAdd_int {A : Hx} (i j : Int) : oAdd (.int i) (.int j) A = .ok (.int (i + j)) A := rfl
@[simp] theorem oSub_int {A : Hx} (i j : Int) : oSub (.int i) (.int j) A = .ok (.int (i - j)) A := rfl
@[simp] theorem oLt_int {A : Hx} (i j : Int) : oLt (.int i) (.int j) A = .ok (.bl (decide (i < j))) A := rfl
@[simp] theorem oLe_int {A : Hx} (i j : Int) : oLe (.int i) (.int j) A = .ok (.bl (decide (i ≤ j))) A := rfl
@[simp] theorem oGt_int {A : Hx} (i j : Int) : oGt (.int i) (.int j) A = .ok (.bl (decide (j < i))) A := rfl
@[simp] theorem oGe_int {A : Hx} (i j : Int) : oGe (.int i) (.int j) A = .ok (.bl (decide (j ≤ i))) A := rfl
@[simp] theorem oInt_int {A : Hx} (i : Int) : oInt [.int i] A = .ok (.int i) A := rfl
theorem oMul_l {A : Hx} {i j : Int} (h : small i) : oMul (.int i) (.int j) A = .ok (.int (i * j)) A := if_pos (.inl h)
theorem oMul_r {A : Hx} {i j : Int} (h : small j) : oMul (.int i) (.int j) A = .ok (.int (i * j)) A := if_pos (.inr (.inl h))
theorem oFdiv_w {A : Hx} {i j : Int} (h : 0 < j) (hw : wide j) : oFdiv (.int i) (.int j) A = .ok (.int (i / j)) A := if_pos ⟨h, hw⟩
theorem oMod_p {A : Hx} {i j : Int} (h : 0 < j) : oMod (.int i) (.int j) A = .ok (.int (i % j)) A := if_pos h
theorem small_lit {i : Int} (h : decide (-(2 ^ 64) < i ∧ i < 2 ^ 64) = true) : small i := of_decide_eq_true h
/-- an item of a list that stands at n -/
theorem oIx_loc {A : Hx} {n : Nat} {xs : List AV} {i : Int} {v : AV} (h : A[n]? = some (.lst xs)) (e : atI xs i = some v) : oIx (.loc n) (.int i) A = .ok v A := by
  simp [oIx, listOf, h, e]
theorem oIx_tup {A : Hx} {xs : List AV} {i : Int} {v : AV} (e : atI xs i = some v) : oIx (.tup xs) (.int i) A = .ok v A := by
  simp [oIx, e]
theorem oLen_loc {A : Hx} {n : Nat} {xs : List AV} (h : A[n]? = some (.lst xs)) : oLen [.loc n] A = .ok (.int xs.length) A := by
  simp [oLen, listOf, h]
@[simp] theorem oLen_tup {A : Hx} {xs : List AV} : oLen [.tup xs] A = .ok (.int xs.length) A := rfl
theorem setIx_loc {A : Hx} {n j : Nat} {xs : List AV} {i : Int} {v : AV} (h : A[n]? = some (.lst xs)) (e : ixN xs.length i = some j) : setIx (.loc n) (.int i) v A = some (A.set n (.lst (xs.set j v))) := by
  simp [setIx, mutOf, h, e]
/-! ### the drawing pot: cells at 1, pot at 2 -/
structure PotO (ns : List Int) (o : AO) : Prop where
  ex : ∃ i d x n : Int, o = .lst [.loc 1, .int i, .int d, .int x, .int n] ∧ 0 ≤ i
end Am

set_option Elab.async false
set_option linter.all false
set_option maxRecDepth 100000
set_option maxHeartbeats 1000000
/-! AmP: words for reckoning, on: comprehensions, loops, the pot. -/
namespace Am
open PySem PySem.Spec PyProof.Rows L2
theorem small_iff {i : Int} : small i ↔ (-18446744073709551616 < i ∧ i < 18446744073709551616) := by
  simp [small]
theorem inR_iff {i : Int} : inR i ↔ (-4611686018427387904 ≤ i ∧ i < 4611686018427387904) := by
  simp [inR]
theorem oFdiv_s {A : Hx} {i j : Int} (h : 0 < j) (hw : small j) : oFdiv (.int i) (.int j) A = .ok (.int (i / j)) A := oFdiv_w h (wide_small hw)
theorem pow18 {A : Hx} : oPow (.int 10) (.int 18) A = .ok (.int 1000000000000000000) A := rfl
section
variable {A : Hx}
@[simp] theorem cut_bl {b : Bool} : cut A (.ok (.bl b) A) = .ok (.bl b) A := cut_pure (by simp)
@[simp] theorem cut_int {b : Int} : cut A (.ok (.int b) A) = .ok (.int b) A := cut_pure (by simp)
@[simp] theorem cut_non : cut A (.ok .non A) = .ok .non A := cut_pure (by simp)
@[simp] theorem cut_str {b : Str} : cut A (.ok (.str b) A) = .ok (.str b) A := cut_pure (by simp)
@[simp] theorem truth_bl {b : Bool} : truth (.bl b) A = .ok b A := by cases b <;> rfl
@[simp] theorem oIs_non {x : AV} : oIs x .non A = .ok (.bl (isNon x)) A := by cases x <;> rfl
@[simp] theorem oIsNot_non {x : AV} : oIsNot x .non A = .ok (.bl (!isNon x)) A := by cases x <;> rfl
@[simp] theorem oIs_bl {a b : Bool} : oIs (.bl a) (.bl b) A = .ok (.bl (a == b)) A := rfl
@[simp] theorem oIsNot_bl {a b : Bool} : oIsNot (.bl a) (.bl b) A = .ok (.bl (a != b)) A := rfl
@[simp] theorem oNeg_int {i : Int} : oNeg (.int i) A = .ok (.int (-i)) A := rfl
theorem snoc_get (x : AO) : (A ++ [x])[A.length]? = some x := by simp
theorem snoc_set (x y : AO) : (A ++ [x]).set A.length y = A ++ [y] := by simp
theorem snoc_mut (xs : List AV) : mutOf (A ++ [.lst xs]) (.loc A.length) = some (A.length, xs) := by simp [mutOf]
theorem snoc_list (xs : List AV) : listOf (A ++ [.lst xs]) (.loc A.length) = some xs := by simp [listOf]
end
section
variable {gd : Gd} {n : Nat} {g : MG} {mt : MT} {me : ME} {env : Ev} {vs : List Nat}
/-- a comprehension that only reads -/
theorem comp_pure {c : AV → Bool} {f : AV → AV} {A : Hx} (hn : n = A.length) (hgd : ∀ acc, okG gd (A ++ [.lst acc])) : ∀ (xs acc : List AV),
    (∀ x, x ∈ xs → ∃ e, g x (wipeE env vs) = some e ∧ ∀ acc, mt e (A ++ [.lst acc]) = .ok (c x) (A ++ [.lst acc]) ∧ (c x = true → me e (A ++ [.lst acc]) = .ok (f x) (A ++ [.lst acc]))) → acc.length + xs.length ≤ sizeLine →
    compV gd n g mt me env vs xs (A ++ [.lst acc]) = .ok (.loc n) (A ++ [.lst (acc ++ (xs.filter c).map f)])
  | [], acc, _, _ => by
    unfold compV
    rw [if_pos (hgd acc)]
    simp
  | x :: r, acc, h, hl => by
    obtain ⟨e, e1, e2⟩ := h x List.mem_cons_self
    unfold compV
    rw [if_pos (hgd acc), e1]
    dsimp only
    rw [(e2 acc).1, R.noex_ok, R.bind_ok]
    have hr := fun y hy => h y (List.mem_cons_of_mem x hy)
    simp only [List.length_cons] at hl
    cases hc : c x with
    | false =>
      rw [if_neg (by simp), comp_pure hn hgd r acc hr (by omega)]
      simp [hc]
    | true =>
      rw [if_pos rfl, (e2 acc).2 hc, R.noex_ok, R.bind_ok, hn, snoc_mut]
      dsimp only
      rw [if_pos (by omega), snoc_set, ← hn, comp_pure hn hgd r (acc ++ [f x]) hr (by simp; omega)]
      simp [hc]
theorem lc_pure {mi : MI} {c : AV → Bool} {f : AV → AV} {A : Hx} {xs : List AV} (hi : mi env A = .ok (xs, gd) A) (hgd : ∀ acc, okG gd (A ++ [.lst acc]))
    (h : ∀ x, x ∈ xs → ∃ e, g x (wipeE env vs) = some e ∧ ∀ acc, mt e (A ++ [.lst acc]) = .ok (c x) (A ++ [.lst acc]) ∧ (c x = true → me e (A ++ [.lst acc]) = .ok (f x) (A ++ [.lst acc]))) (hl : xs.length ≤ sizeLine) :
    mLc mi g mt me vs env A = .ok (.loc A.length) (A ++ [.lst ((xs.filter c).map f)]) := by
  unfold mLc
  rw [hi, R.bind_ok, comp_pure rfl hgd xs [] h (by simpa using hl), List.nil_append]
/-- two rows, item by item -/
inductive All2 (P : AV → AV → Prop) : List AV → List AV → Prop where
  | nil : All2 P [] []
  | cons {x y : AV} {xs ys : List AV} (h : P x y) (r : All2 P xs ys) : All2 P (x :: xs) (y :: ys)
theorem All2.length {P : AV → AV → Prop} : ∀ {xs ys : List AV}, All2 P xs ys → ys.length = xs.length
  | _, _, .nil => rfl
  | _, _, .cons _ r => by simp [r.length]
/-- a comprehension that changes what stands outside, by an invariant -/
theorem comp_st {I : Hx → Prop} {P : AV → AV → Prop} (hl : ∀ A, I A → A.length = n) (hgd : ∀ A acc, I A → okG gd (A ++ [.lst acc])) : ∀ (xs acc : List AV) (A : Hx),
    (∀ x, x ∈ xs → ∃ e, g x (wipeE env vs) = some e ∧ ∀ A acc, I A → mt e (A ++ [.lst acc]) = .ok true (A ++ [.lst acc]) ∧ ∃ y A', me e (A ++ [.lst acc]) = .ok y (A' ++ [.lst acc]) ∧ I A' ∧ P x y) → acc.length + xs.length ≤ sizeLine → I A →
    ∃ A' ys, compV gd n g mt me env vs xs (A ++ [.lst acc]) = .ok (.loc n) (A' ++ [.lst (acc ++ ys)]) ∧ I A' ∧ All2 P xs ys
  | [], acc, A, _, _, hI => by
    refine ⟨A, [], ?_, hI, .nil⟩
    unfold compV
    rw [if_pos (hgd A acc hI)]
    simp
  | x :: r, acc, A, h, hs, hI => by
    obtain ⟨e, e1, e2⟩ := h x List.mem_cons_self
    obtain ⟨e3, y, A1, e4, hI1, hp⟩ := e2 A acc hI
    simp only [List.length_cons] at hs
    obtain ⟨A2, ys, e5, hI2, hp2⟩ := comp_st hl hgd r (acc ++ [y]) A1 (fun z hz => h z (List.mem_cons_of_mem x hz)) (by simp; omega) hI1
    refine ⟨A2, y :: ys, ?_, hI2, .cons hp hp2⟩
    unfold compV
    rw [if_pos (hgd A acc hI), e1]
    dsimp only
    rw [e3, R.noex_ok, R.bind_ok, if_pos rfl, e4, R.noex_ok, R.bind_ok]
    have hn := hl A1 hI1
    have hm : mutOf (A1 ++ [.lst acc]) (.loc n) = some (n, acc) := hn ▸ snoc_mut acc
    rw [hm]
    dsimp only
    have hset : (A1 ++ [AO.lst acc]).set n (.lst (acc ++ [y])) = A1 ++ [.lst (acc ++ [y])] := hn ▸ snoc_set _ _
    rw [if_pos (by omega), hset, e5]
    simp
theorem lc_st {mi : MI} {I : Hx → Prop} {P : AV → AV → Prop} {A : Hx} {xs : List AV} (hi : mi env A = .ok (xs, gd) A) (hl : ∀ A', I A' → A'.length = A.length) (hgd : ∀ A acc, I A → okG gd (A ++ [.lst acc]))
    (h : ∀ x, x ∈ xs → ∃ e, g x (wipeE env vs) = some e ∧ ∀ A acc, I A → mt e (A ++ [.lst acc]) = .ok true (A ++ [.lst acc]) ∧ ∃ y A', me e (A ++ [.lst acc]) = .ok y (A' ++ [.lst acc]) ∧ I A' ∧ P x y) (hs : xs.length ≤ sizeLine) (hI : I A) :
    ∃ A' ys, mLc mi g mt me vs env A = .ok (.loc A.length) (A' ++ [.lst ys]) ∧ I A' ∧ All2 P xs ys := by
  obtain ⟨A', ys, e, h1, h2⟩ := comp_st (mt := mt) (me := me) (acc := []) hl hgd xs A h (by simpa using hs) hI
  refine ⟨A', ys, ?_, h1, h2⟩
  unfold mLc
  rw [hi, R.bind_ok, e, List.nil_append]
variable {b : MS}
/-- a loop by an invariant -/
theorem for_inv {I : Ev → Hx → Prop} (hgd : ∀ env A, I env A → okG gd A) : ∀ (xs : List AV) (env : Ev) (A : Hx), (∀ x, x ∈ xs → ∀ env A, I env A → ∃ e, g x env = some e ∧ ∃ e' A', b e A = .nx e' A' ∧ I e' A') → I env A →
    ∃ env' A', forV gd g b xs env A = .nx env' A' ∧ I env' A'
  | [], env, A, _, hI => by
    refine ⟨env, A, ?_, hI⟩
    unfold forV
    rw [if_pos (hgd env A hI)]
  | x :: r, env, A, h, hI => by
    obtain ⟨e, e1, e2, A2, e3, hI2⟩ := h x List.mem_cons_self env A hI
    obtain ⟨e4, A4, e5, hI4⟩ := for_inv hgd r e2 A2 (fun z hz => h z (List.mem_cons_of_mem x hz)) hI2
    refine ⟨e4, A4, ?_, hI4⟩
    unfold forV
    rw [if_pos (hgd env A hI), e1]
    dsimp only
    rw [e3]
    exact e5
/-- a loop by an invariant that goes on with what is done -/
theorem for_step {I : List AV → Ev → Hx → Prop} (hgd : ∀ r env A, I r env A → okG gd A) (h : ∀ x r env A, I (x :: r) env A → ∃ e, g x env = some e ∧ ∃ e' A', b e A = .nx e' A' ∧ I r e' A') : ∀ (xs : List AV) (env : Ev) (A : Hx), I xs env A →
    ∃ env' A', forV gd g b xs env A = .nx env' A' ∧ I [] env' A'
  | [], env, A, hI => by
    refine ⟨env, A, ?_, hI⟩
    unfold forV
    rw [if_pos (hgd _ env A hI)]
  | x :: r, env, A, hI => by
    obtain ⟨e, e1, e2, A2, e3, hI2⟩ := h x r env A hI
    obtain ⟨e4, A4, e5, hI4⟩ := for_step hgd h r e2 A2 hI2
    refine ⟨e4, A4, ?_, hI4⟩
    unfold forV
    rw [if_pos (hgd _ env A hI), e1]
    dsimp only
    rw [e3]
    exact e5
end
section
variable {env : Ev} {A : Hx}
theorem range1 {a : ME} {j : Int} (h : a env A = .ok (.int j) A) (hj : inR j) : miRange1 (mCons a mNil) env A = .ok (rangeA 0 j, []) A := by
  simp [miRange1, h, hj]
theorem range2 {a c : ME} {i j : Int} (h : a env A = .ok (.int i) A) (h' : c env A = .ok (.int j) A) (hi : inR i) (hj : inR j) : miRange2 (mCons a (mCons c mNil)) env A = .ok (rangeA i j, []) A := by
  simp [miRange2, h, h', hi, hj]
theorem mem_range {i j : Int} {x : AV} (h : x ∈ rangeA i j) : ∃ k : Int, x = .int k ∧ i ≤ k ∧ k < j := by
  unfold rangeA at h
  obtain ⟨k, hk, rfl⟩ := List.mem_map.mp h
  have := List.mem_range.mp hk
  exact ⟨_, rfl, by omega, by omega⟩
@[simp] theorem range_len {i j : Int} : (rangeA i j).length = (j - i).toNat := by simp [rangeA]
theorem range_get {i j : Int} {k : Nat} (h : (k : Int) < j - i) : (rangeA i j)[k]? = some (.int (i + k)) := by
  unfold rangeA
  rw [List.getElem?_map, List.getElem?_range (by omega)]
  rfl
/-- all over a comprehension -/
theorem all_of {L : ME} {bs : List Bool} (h : L env A = .ok (.loc A.length) (A ++ [.lst (bs.map .bl)])) : mCut (mCB oAll (mCons L mNil)) env A = .ok (.bl (bs.all id)) A := by
  rw [mCut_eq, mCB_eq, mCons_eq, h, R.bind_ok, mNil_eq, R.bind_ok, R.bind_ok]
  have : oAll [.loc A.length] (A ++ [.lst (bs.map .bl)]) = .ok (.bl (bs.all id)) (A ++ [.lst (bs.map .bl)]) := by
    unfold oAll
    dsimp only
    rw [snoc_list, Option.bind_some, blsOf_map]
  rw [this]
  exact cut_junk (by simp)
/-- a tuple of a comprehension -/
theorem tuple_of {L : ME} {xs : List AV} (h : L env A = .ok (.loc A.length) (A ++ [.lst xs])) (hb : belows A.length xs = true) : mCut (mCB oTuple (mCons L mNil)) env A = .ok (.tup xs) A := by
  rw [mCut_eq, mCB_eq, mCons_eq, h, R.bind_ok, mNil_eq, R.bind_ok, R.bind_ok]
  have : oTuple [.loc A.length] (A ++ [.lst xs]) = .ok (.tup xs) (A ++ [.lst xs]) := by
    unfold oTuple
    dsimp only
    rw [snoc_list]
  rw [this]
  exact cut_junk (by simpa using hb)
end
theorem belows_mem {n : Nat} : ∀ {xs : List AV}, belows n xs = true → ∀ {x}, x ∈ xs → below n x = true
  | y :: r, h, x, hx => by
    rw [belows_cons, Bool.and_eq_true] at h
    rcases List.mem_cons.mp hx with rfl | hx
    · exact h.1
    · exact belows_mem h.2 hx
theorem belows_of {n : Nat} : ∀ {xs : List AV}, (∀ x, x ∈ xs → below n x = true) → belows n xs = true
  | [], _ => by simp
  | y :: r, h => by
    rw [belows_cons, h y List.mem_cons_self, belows_of fun x hx => h x (List.mem_cons_of_mem y hx)]
    rfl
theorem atI_mem {α : Type} {xs : List α} {i : Int} (h0 : 0 ≤ i) (h : i < xs.length) : ∃ x, x ∈ xs ∧ atI xs i = some x ∧ xs[i.toNat]? = some x := by
  have hz : i.toNat < xs.length := by omega
  refine ⟨xs[i.toNat], List.getElem_mem hz, ?_, List.getElem?_eq_getElem hz⟩
  have e : ((i.toNat : Nat) : Int) = i := by omega
  have := atI_natA (List.getElem?_eq_getElem hz)
  rwa [e] at this
/-! ### the pot -/
theorem PotO.bel {ns : List Int} {P : AO} (h : PotO ns P) {n : Nat} (hn : 1 < n) : belowO n P = true := by
  obtain ⟨i, d, x, k, rfl, _⟩ := h.ex
  simp [hn]
theorem cut_pot {ns : List Int} {s c P P' : AO} {B J : Hx} {x : AV} (h : PotO ns P') (hb : below (B.length + 3) x = true) : cut (s :: c :: P :: B) (.ok x (s :: c :: P' :: (B ++ J))) = .ok x (s :: c :: P' :: B) := by
  refine cut_at hb (by simp) (by simp) ?_
  intro j o hj e
  match j, e with
  | 0, e => exact .inl e
  | 1, e => exact .inl e
  | 2, e => cases e; exact .inr (by simpa using h.bel (by omega))
  | j + 3, e => exact .inl e
theorem cut_pot0 {ns : List Int} {s c P P' : AO} {B : Hx} {x : AV} (h : PotO ns P') (hb : below (B.length + 3) x = true) : cut (s :: c :: P :: B) (.ok x (s :: c :: P' :: B)) = .ok x (s :: c :: P' :: B) := by
  have := cut_pot (s := s) (c := c) (P := P) (B := B) (J := []) h hb
  rwa [List.append_nil] at this
/-! ### equal texts and tuples -/
theorem eqvAll_refl : ∀ {ds : List PyData}, (∀ d, d ∈ ds → PyData.eqv d d = true) → PyData.eqvAll ds ds = true
  | [], _ => by simp [PyData.eqvAll]
  | d :: r, h => by
    rw [PyData.eqvAll, h d List.mem_cons_self, eqvAll_refl fun e he => h e (List.mem_cons_of_mem d he)]
    rfl
theorem eqv_tup_refl {ds : List PyData} (h : ∀ d, d ∈ ds → PyData.eqv d d = true) : PyData.eqv (.tuple ds) (.tuple ds) = true := by
  rw [PyData.eqv]
  exact eqvAll_refl h
/-- equal to itself -/
theorem oNe_self {A : Hx} {x : AV} {d : PyData} {n : Nat} (hx : toD A 60 x = some d) (sd : Shp n d) (hr : PyData.eqv d d = true) (hn : n ≤ 64 := by decide) : oNe x x A = .ok (.bl false) A := by
  unfold oNe
  rw [eqD_of hx hx sd sd hn, hr]
  rfl
end Am

set_option Elab.async false
set_option linter.all false
set_option maxRecDepth 100000
set_option maxHeartbeats 1000000
/-! Am12: constants of modules that are tuples. -/
namespace Am
open PySem PySem.Spec PyProof.Rows L2
def CstT (K : PySem.W.Frag) (mg : Str → Option Value) (x : Str) (ts : List AV) : Prop := ∃ A vs, mg x = some (.ref A) ∧ (∀ H, SqT K H A vs) ∧ ∀ as H, RVs K as H ts vs
theorem CstT.of {K : PySem.W.Frag} {mg : Str → Option Value} {x : Str} {A : Addr} {od : Option Addr} {its : Array Value} {n : Nat} {sl : Array (Option Value)} {ts : List AV} {vs : List V} (g : mg x = some (.ref A)) (l : K.lookup A = some ⟨.type "tuple", od, .seq its n, sl⟩) (z : its.size ≤ sizeLine) (v : Vals vs its.toList) (r : ∀ as H, RVs K as H ts vs) : CstT K mg x ts :=
  ⟨A, vs, g, fun _ => .inr ⟨_, its, n, l, rfl, rfl, z, v⟩, r⟩
section
variable {X : Cx} {W : WX}
theorem je_cst {x : Str} {pos : Pos} {ts : List AV} (h : CstT X.K X.mg x ts) (g : Gl X x) (d : (x == Str.ofString "__debug__") = false) : JE X W (.Name x pos) (mC (.tup ts)) := by
  obtain ⟨A, vs, h1, h2, h3⟩ := h
  exact je_of (v := .ref A) (pe_glob g h1 rfl d) fun as H => .tup (h2 H) (h3 as H)
end
def mPar3 (i j l : Nat) (a : MA) : MS := fun env A => (a env A).st env fun xs A1 => match xs with
  | [x, y, z] => .nx (((env.set i (some x)).set j (some y)).set l (some z)) A1
  | _ => .bad
section
variable {X : Cx} {W : WX} {a b c : Expr} {pos : Pos}
theorem js_par3 {i j l : Nat} {x y z : Str} {ms : MA} {px py pz pt : Pos} {kt k2 pt2} (hc : X.calm = true) (hN : X.N.Nodup) (hi : X.N[i]? = some x) (hj : X.N[j]? = some y) (hl : X.N[l]? = some z) (hij : i ≠ j) (hil : i ≠ l) (hjl : j ≠ l)
    (hx : X.env.scope.names.lookup x = some .local) (hy : X.env.scope.names.lookup y = some .local) (hz : X.env.scope.names.lookup z = some .local) (ha : JA X W [a, b, c] ms)
    (hw : swappedStores [.Tuple [.Name x px, .Name y py, .Name z pz] kt pt] (.Tuple [a, b, c] k2 pt2) X.env = pure (some [x, y, z]))
    (hs : swapsWithSole [.Tuple [.Name x px, .Name y py, .Name z pz] kt pt] (.Tuple [a, b, c] k2 pt2) pos.line X.env = pure false := by rfl) :
    JS X W (.Assign [.Tuple [.Name x px, .Name y py, .Name z pz] kt pt] (.Tuple [a, b, c] k2 pt2) pos) (mPar3 i j l ms) := by
  refine ps_mono (ps_par3 hc hN hi hj hl hij hil hjl hx hy hz ha hw hs) fun D σ H ⟨as, env, A, ra, re, g⟩ => ?_
  refine ⟨as, env, A, ra, re, GS.st re g fun xs A1 as1 H1 vs _ e1 ra1 rv g1 => ?_⟩
  split at g1
  · cases rv with
    | cons r1 rr =>
      cases rr with
      | cons r2 rr =>
        cases rr with
        | cons r3 rr =>
          cases rr
          exact ⟨_, _, _, rfl, g1 as1 H1 _ Ex.refl ra1 ((((re.ex e1).set i r1).set j r2).set l r3)⟩
  · exact g1.elim
end
end Am

set_option Elab.async false
set_option linter.all false
set_option maxRecDepth 100000
set_option maxHeartbeats 4000000
/-! Am13: raise X(), try with a first clause that takes what comes. -/
namespace Am
open PySem PySem.Spec PyProof.Rows L2
/-- what is told of an own class of exceptions -/
structure ExcT (K : PySem.W.Frag) (mg : Str → Option Value) (x : Str) (C : Addr) : Prop where
  q : PySem.W.excIn K C [.type "ValueError", .type "Exception", .type "BaseException", .type "object"] "ValueError.__new__" = true
  g : mg x = some (.ref C)
  k : PySem.W.keepIn K (.ref C) = true
  s : PySem.W.subIn K (.ref C) (.type "BaseException") = some true
  t : PySem.W.typeIn K (.ref C) = some (.type "type")
theorem ExcT.raises {X : Cx} {x : Str} {C : Addr} (T : ExcT X.K X.mg x C) : Raises X (.ref C) := fun M h hk => ⟨PySem.W.looks_subIn hk T.s, PySem.W.looks_typeIn hk T.t⟩
theorem pmk_own0 {X : Cx} {C : Addr} {x : Str} {p pos : Pos} (T : ExcT X.K X.mg x C) (hg : Gl X x) (hdb : (x == Str.ofString "__debug__") = false) :
    PMk X (.Call (.Name x p) [] [] pos) fun _ H Q => Q (.ref C) none H := by
  intro pins s σ H Q I h
  refine wpAny_Call_Name_kw (ld_glob I hg T.g ?_ hdb)
  refine PySem.W.callWith_K0 I.kIn T.k ?_
  show wpAny _ _ (call (.ref C) []) _ _ _
  obtain ⟨bm, N, nm, qn, bs, hdct, sn, sub, ab, col, dd, k0, k1, k2, k3, k5, mN, hC, hN, hni, hT⟩ := exc_obj I.kIn T.q
  refine wpAny_call_exc_subT PySem.F.excBase_ValueError hT hC hN hni (fun h' a hm => ?_) (by show 0 ≤ sizeLine; exact Nat.zero_le _)
  have hn : H a = none := I.hok.gone hm.new
  obtain ⟨t, ht, _, _⟩ := hm.there
  exact ⟨a, _, _, s, H, .ref C, none, rfl, I, hm.keeps, hm.new, ht, ⟨rfl, rfl⟩, rfl, rfl, hn, rfl, I.bare, T.raises, h⟩
def mRaise (c : Value) : MS := fun env A => .ex ⟨c, []⟩ env A
section
variable {X : Cx} {W : WX}
theorem js_raise0 {x : Str} {C : Addr} {p p2 pos : Pos} (hc : X.calm = true) (tk : Takes X W) (T : ExcT X.K X.mg x C) (hg : Gl X x) (hdb : (x == Str.ofString "__debug__") = false) :
    JS X W (.Raise (some (.Call (.Name x p) [] [] p2)) none pos) (mRaise (.ref C)) :=
  ps_mono (ps_raise hc tk (pmk_own0 T hg hdb)) fun D σ H ⟨as, env, A, ra, re, g⟩ => g as H σ none Ex.refl ra re rfl
end
end Am

set_option Elab.async false
set_option linter.all false
set_option maxRecDepth 100000
set_option maxHeartbeats 4000000
/-! Am14: a try whose first clause, 'except x as n', takes all that the body lets out; whatever stands behind it. -/
namespace Tr
open PySem PySem.Spec PyProof.Rows L2
/-- the exception at a lies still, its class and dict known; z: the state ahead of it -/
structure Lain (X : Cx) (pins : List (Addr × Obj)) (σ : L2.St) (H : Hp) (cls : Value) (d : Option Addr) (a : Addr) (B : Heap) (z s : Shared) : Prop where
  inv : Inv X pins σ H z
  gr : ∀ b o, z.heap.get? b = some o → b ∉ frs X.stack → B.get? b = some o
  up : z.heap.UpToSlots s.heap
  fl : HandSPX.FlyingZ B (X.env :: X.outer) a (Zc cls d) s.heap
  na : H a = none
  os : s.os = z.os
  ag : AllBare s.gens
section
variable {X : Cx} {pins : List (Addr × Obj)} {σ : L2.St} {H : Hp} {cls : Value} {d : Option Addr} {a : Addr} {B : Heap} {z s : Shared}
theorem Lain.again (l : Lain X pins σ H cls d a B z s) {h : Heap} (up : s.heap.UpToSlots h) (fl : HandSPX.FlyingZ B (X.env :: X.outer) a (Zc cls d) h) : Lain X pins σ H cls d a B z { s with heap := h } :=
  ⟨l.inv, l.gr, l.up.trans up, fl, l.na, l.os, l.ag⟩
theorem Lain.here (l : Lain X pins σ H cls d a B z s) : Inv X pins σ H s := l.inv.landed l.gr l.fl.1 l.up l.os l.ag
theorem Lain.suite (l : Lain X pins σ H cls d a B z s) (hf : X.env.frame = some X.env.locals) : ∃ oe, s.heap.get? a = some oe ∧ Zc cls d oe ∧ (∃ us, oe.data = .fields us) ∧ Inv (X.suite a ((a, oe) :: (X.pn ++ pins))) [] σ H s := by
  obtain ⟨oe, us, at_, zc, da⟩ := l.fl.there
  have off : a ∉ frs (X.env :: X.outer) := by
    intro m
    obtain ⟨_, o, e, q⟩ := l.fl.2.2.1.mem m
    rw [at_] at e
    cases e
    exact q _ da
  refine ⟨oe, at_, zc, ⟨us, da⟩, l.here.suite at_ da l.na (fun q => off ?_) fun m => off ?_⟩
  · exact List.mem_filterMap.mpr ⟨X.env, by simp, by rw [hf, q]⟩
  · obtain ⟨e, m1, m2⟩ := List.mem_filterMap.mp m
    exact List.mem_filterMap.mpr ⟨e, by simp [m1], m2⟩
/-- the clause's class is looked up in the suite's context -/
theorem named {x : Str} {c : Value} {p : Pos} {oe : Obj} {Q E : Value → Shared → Prop} (nm : Names X x c) (S : Inv (X.suite a ((a, oe) :: (X.pn ++ pins))) [] σ H s) (q : Q c s) :
    wpAny (model X.prog X.w) (X.A.mark (some (.ref a))) (eval (.Name x p) X.env) Q E s := by
  obtain ⟨g, nd, w⟩ := nm
  rcases w with m | ⟨m, v, n⟩
  · exact ld_glob S g m q nd
  · exact ld_blt S g m v q n nd
end
/-- behind the suite the name is gone -/
def gone (i : Nat) (D : Ends) : Ends := { nx := fun σ H => D.nx (σ.set i none) H, rt := D.rt, bk := fun σ H => D.bk (σ.set i none) H, ct := fun σ H => D.ct (σ.set i none) H }
def wFirst (K : PySem.W.Frag) (n : Nat) (c : Value) (i : Nat) (ts : Addr → Value → Option Addr → TS) (D : Ends) : WX := fun cls d σ H =>
  PySem.W.exmOne K cls c = some true ∧ ∀ a, H a = none → σ.length = n → ts a cls d (gone i D) (σ.set i (some (.ref a))) H
theorem ps_try_first {X : Cx} {x n : Str} {c : Value} {i : Nat} {body suite : List Stmt} {b : Stmt} {p1 p2 p3 : Pos} {more : List ExceptHandler} {tb : WX → TS} {ts : Addr → Value → Option Addr → TS}
    (st : X.stack = X.env :: X.outer) (hf : X.env.frame = some X.env.locals) (nd : X.N.Nodup) (hi : X.N[i]? = some n) (kn : X.env.kindOf n = some .local) (nm : Names X x c)
    (hb : ∀ (W : WX) (pn : List (Addr × Obj)) (xe : Value → Shared → Prop), Takes (X.tr pn xe) W → PSs (X.tr pn xe) body (tb W))
    (hu : ∀ (a : Addr) (oe : Obj) (cls : Value) (d : Option Addr) (pn : List (Addr × Obj)), Zc cls d oe → (∃ us, oe.data = .fields us) → PSs (X.suite a ((a, oe) :: pn)) (b :: suite) (ts a cls d)) :
    PS X (.Try body (.ExceptHandler (some (.Name x p1)) (some n) (b :: suite) p2 :: more) [] [] p3) (fun D σ H => tb (wFirst X.K X.N.length c i ts D) D σ H) := by
  refine ⟨fun pins s σ H D I told => ?_⟩
  have ok := I.ok
  have fr : X.A.frames = some (X.env :: X.outer) := ok.frames.trans (congrArg some st)
  refine wpAny_Try_except (wpAny_mono ((hb (wFirst X.K X.N.length c i ts D) (X.pn ++ pins) _ (fun u s1 out => ?_)).run [] s σ H D (I.toTry _) told) (fun f s1 end1 => ?_) fun _ _ q => q)
  · obtain ⟨a, B, z, pins1, σ1, H1, cls, d, rfl, J0, gr, up, sky, na, os, ag, yes, k⟩ := out
    have J : Inv X pins σ1 H1 z := J0.ofTry ok
    have sky1 : Sky B (X.env :: X.outer) a (Zc cls d) X.env.locals s1.heap := st ▸ sky
    show wpAny (model X.prog X.w) X.A (noteFrame (.ref a) X.env) _ _ _
    refine Sky.land Zc.steady fr hf sky1 fun h2 fl2 up2 => ?_
    have L : Lain X pins σ1 H1 cls d a B z { s1 with heap := h2 } := ⟨J, gr, up.trans up2, fl2, na, os, ag⟩
    obtain ⟨oe, at_, zc, _, S⟩ := L.suite hf
    refine wpAny_handleBy_cons (codeAny_handlers_test (named nm S ?_)) (by intro q; cases q)
    have ty : PySem.W.Looks (model X.prog X.w) h2 (typeOf (.ref a)) cls := fun _ _ _ _ keep q => wpAny_typeOf_ref (keep _ _ at_) (zc.1.symm ▸ q)
    refine (PySem.W.exm_one (M := model X.prog X.w) L.here.kIn ty yes).here (codeAny_handlers_suite_as (HandSPX.lands_againZ fl2 fun h3 fl3 up3 => ?_))
    obtain ⟨oe3, _, zc3, da3, S3⟩ := (L.again up3 fl3).suite hf
    refine store_ok (X := X.suite a ((a, oe3) :: (X.pn ++ pins))) (v := .ref a) S3 nd hi (.inl kn) rfl (fun s4 S4 => ?_) (.inr kn)
    refine wpAny_mono ((hu a oe3 cls d (X.pn ++ pins) zc3 da3).run [] s4 _ H1 _ S4 (k a na J.len)) (fun f s5 end5 => ?_) fun _ _ q => q.elim
    have left : ∀ {σ5 : L2.St} {H5 : Hp} {Q : Shared → Prop}, Inv (X.suite a ((a, oe3) :: (X.pn ++ pins))) [] σ5 H5 s5 → (∀ s6, Inv X pins (σ5.set i none) H5 s6 → Q s6) →
        wpAny (model X.prog X.w) X.A (do bindName X.env n .none; unbindBehindTheSuite X.env n p2) (fun _ s6 => Q s6) X.xe s5 := fun {σ5 H5 Q} S5 q => gone_ok (S5.unsuite ok) nd hi kn q
    cases f with
    | ret u =>
      obtain ⟨v, σ5, H5, S5, r, q⟩ := end5
      exact left S5 fun s6 J6 => ⟨v, _, H5, J6, r, q⟩
    | next =>
      obtain ⟨σ5, H5, S5, q⟩ := end5
      exact left S5 fun s6 J6 => ⟨_, H5, J6, q⟩
    | brk =>
      obtain ⟨σ5, H5, S5, q⟩ := end5
      exact left S5 fun s6 J6 => ⟨_, H5, J6, q⟩
    | cont =>
      obtain ⟨σ5, H5, S5, q⟩ := end5
      exact left S5 fun s6 J6 => ⟨_, H5, J6, q⟩
  · cases f with
    | next =>
      obtain ⟨σ2, H2, J2, q⟩ := end1
      exact wpAny_execs_nil ⟨σ2, H2, J2.ofTry ok, q⟩
    | ret u =>
      obtain ⟨v, σ2, H2, J2, r, q⟩ := end1
      exact ⟨v, σ2, H2, J2.ofTry ok, r, q⟩
    | brk =>
      obtain ⟨σ2, H2, J2, q⟩ := end1
      exact ⟨σ2, H2, J2.ofTry ok, q⟩
    | cont =>
      obtain ⟨σ2, H2, J2, q⟩ := end1
      exact ⟨σ2, H2, J2.ofTry ok, q⟩
end Tr

set_option Elab.async false
set_option linter.all false
set_option maxRecDepth 100000
set_option maxHeartbeats 4000000
/-! Am15: try, isinstance of the exception that was taken. -/
namespace Am
open PySem PySem.Spec PyProof.Rows L2
noncomputable def mIsE (i : Nat) (a : Addr) (b : Bool) : ME := fun env A => @ite _ (env[i]? = some (some (.st a))) (Classical.propDecidable _) (.ok (.bl b) A) .bad
theorem mIsE_at {i : Nat} {a : Addr} {b : Bool} {env : Ev} {A : Hx} (h : i < env.length) : mIsE i a b (env.set i (some (.st a))) A = .ok (.bl b) A := by
  unfold mIsE
  rw [if_pos (by rw [List.getElem?_set_self h])]
def Cls1 (v : V) (c : Value) : Prop := ∀ u, RelV v u → u = c
theorem Cls1.ref {C : Addr} : Cls1 (.ref C) (.ref C) := fun _ h => h
theorem Cls1.ty {n : String} : Cls1 (.ty n) (.type n) := fun _ h => h
theorem Cls1.all : ∀ {vs : List V} {cs us : List Value}, Paired Cls1 vs cs → Vals vs us → us = cs
  | _, _, _, .nil, .nil => rfl
  | _, _, _, .cons h r, .cons g s => by rw [h _ g, Cls1.all r s]
def rIsEt (K : PySem.W.Frag) (D a : Addr) : List V → Hp → VK → Prop := fun xs H Q => ∃ tp vs cs b, xs = [.ref a, .ref tp] ∧ H tp = some (.tup vs) ∧ Paired Cls1 vs cs ∧ PySem.W.kitAny K (.ref D) cs = some b ∧ Q (.bl b) H
section
variable {X : Cx} {W : WX} {a D : Addr} {oe : Obj} {pn : List (Addr × Obj)}
theorem call_isEt (C : ExcC X.K D) (zc : Zc (.ref D) none oe) (hv : ∃ vs, oe.data = .fields vs) : CallR (X.suite a ((a, oe) :: pn)) (.builtin "isinstance") (rIsEt X.K D a) := by
  intro pins s σ H xs us Q I r h
  obtain ⟨tp, vs, cs, b, rfl, hT, hcs, e, q⟩ := h
  cases r with
  | cons r1 rr =>
  cases rr with
  | cons r2 rr =>
  cases rr
  rename_i u1 u2
  cases (show u1 = Value.ref a from r1)
  cases (show u2 = Value.ref tp from r2)
  have hget : s.heap.get? a = some oe := (I.pin (a, oe) (List.mem_append_left _ List.mem_cons_self)).1
  have J : PySem.W.InstAt s.heap a oe D none := by
    obtain ⟨oc, od, oda, osl⟩ := oe
    obtain ⟨h1, h2⟩ := zc
    obtain ⟨us, hv⟩ := hv
    dsimp only at h1 h2 hv
    subst h1 h2 hv
    exact ⟨hget, rfl, rfl, trivial⟩
  obtain ⟨_, its, rv, o, h1, h2, n, h3⟩ := (show ObjOk X.prog X.w H s.heap tp (.tup vs) from I.hok tp _ hT)
  have e3 := Cls1.all hcs rv
  subst e3
  obtain ⟨oc, od, dt, sl⟩ := o
  simp only at h2 h3
  subst h2 h3
  exact PySem.W.kia_tup (PySem.W.handS_kitx_exc C.hg C.hk C.hs C.hd C.ha C.hn C.ht C.hm) I.kIn J h1 e (fun z => nomatch z) fun tk => ⟨.bl b, H, I.tok tk, rfl, q⟩
theorem je_isE {c e1 : Expr} {x : Str} {p pos : Pos} {i : Nat} {v : V} {cv : Value} {b : Bool} (C : ExcC X.K D) (zc : Zc (.ref D) none oe) (hv : ∃ vs, oe.data = .fields vs)
    (hg : Gl (X.suite a ((a, oe) :: pn)) x) (hm : X.mg x = none) (hb : bootBuiltins x = some (.builtin "isinstance")) (h1 : PE (X.suite a ((a, oe) :: pn)) e1 (tVar i)) (h2 : PE (X.suite a ((a, oe) :: pn)) c (tC v)) (hc : Cls1 v cv) (hk : PySem.W.kitOne X.K (.ref D) cv = some b)
    (hn : x ≠ "__name__" := by decide) (hdb : (x == ("__debug__" : Str)) = false := by decide)
    (hs : starEach [e1, c] X.env = (false, eval e1 X.env) :: starEach [c] X.env := by rfl) (hs2 : starEach [c] X.env = (false, eval c X.env) :: starEach [] X.env := by rfl) (hpl : (backTo pos (starEach [c] X.env)).any (·.1) = false := by rfl) :
    JE (X.suite a ((a, oe) :: pn)) W (.Call (.Name x p) [e1, c] [] pos) (mIsE i a b) := by
  refine pe_mono (pe_callB (call_isE C zc hv) hg hm hb (pa_cons h1 (pa_cons h2 pa_nil hs2) hs) hn hdb hs hpl) fun σ H Q ⟨as, env, A, ra, re, g⟩ => ?_
  unfold mIsE at g
  split at g
  · rename_i q
    obtain ⟨w, q1, q2⟩ := re.at_ i _ q
    cases q2
    exact ⟨_, q1, v, cv, b, rfl, hc, hk, g as H _ Ex.refl ra (.bl b)⟩
  · exact g.elim
theorem je_isEt {es : List Expr} {e1 : Expr} {x : Str} {p p2 pos : Pos} {x1 i : Nat} {vs : List V} {cs : List Value} {b : Bool} {t : TA} (C : ExcC X.K D) (zc : Zc (.ref D) none oe) (hv : ∃ vs, oe.data = .fields vs)
    (hg : Gl (X.suite a ((a, oe) :: pn)) x) (hm : X.mg x = none) (hb : bootBuiltins x = some (.builtin "isinstance")) (h1 : PE (X.suite a ((a, oe) :: pn)) e1 (tVar i)) (h2 : PA (X.suite a ((a, oe) :: pn)) es t) (ht : ∀ σ H (Q : List V → Hp → Prop), Q vs H → t σ H Q) (hl : vs.length ≤ sizeLine) (hc : Paired Cls1 vs cs) (hk : PySem.W.kitAny X.K (.ref D) cs = some b)
    (hn : x ≠ "__name__" := by decide) (hdb : (x == ("__debug__" : Str)) = false := by decide)
    (hs : starEach [e1, .Tuple es x1 p2] X.env = (false, eval e1 X.env) :: starEach [.Tuple es x1 p2] X.env := by rfl) (hs2 : starEach [.Tuple es x1 p2] X.env = (false, eval (.Tuple es x1 p2) X.env) :: starEach [] X.env := by rfl) (hpl : (backTo pos (starEach [.Tuple es x1 p2] X.env)).any (·.1) = false := by rfl) :
    JE (X.suite a ((a, oe) :: pn)) W (.Call (.Name x p) [e1, .Tuple es x1 p2] [] pos) (mIsE i a b) := by
  refine pe_mono (pe_callB (call_isEt C zc hv) hg hm hb (pa_cons h1 (pa_cons (pe_tup h2) pa_nil hs2) hs) hn hdb hs hpl) fun σ H Q ⟨as, env, A, ra, re, g⟩ => ?_
  unfold mIsE at g
  split at g
  · rename_i q
    obtain ⟨w, q1, q2⟩ := re.at_ i _ q
    cases q2
    refine ⟨_, q1, ht _ _ _ ⟨hl, fun tp hp => ?_⟩⟩
    exact ⟨tp, vs, cs, b, rfl, upd_same, hc, hk, g as _ _ (ex_new hp) (ra.new hp) (.bl b)⟩
  · exact g.elim
/-! ### try -/
def unsetI (i : Nat) : RS → RS
  | .nx env A => .nx (env.set i none) A
  | .rt x A => .rt x A
  | .bk env A => .bk (env.set i none) A
  | .ct env A => .ct (env.set i none) A
  | _ => .bad
noncomputable def mTry1 (i : Nat) (c : Value) (mb mh : MS) : MS := fun env A => match mb env A with
  | .ex e env' A' => @ite _ (e.cls = c ∧ e.fs = []) (Classical.propDecidable _) (unsetI i (mh env' A')) .bad
  | r => r
abbrev wNo : WX := fun _ _ _ _ => False
theorem takes_no {Y : Cx} : Takes Y wNo := fun u s' h => by
  obtain ⟨_, _, _, _, _, _, _, _, _, _, _, _, _, _, _, _, q⟩ := h
  exact q.elim
theorem GS.gone {K : PySem.W.Frag} {W : WX} {as : List Addr} {H : Hp} {r : RS} {i : Nat} {D : Ends} (g : GS K W as H (unsetI i r) D) : GS K wNo as H r (Tr.gone i D) := by
  cases r with
  | nx env A => exact fun as' H' σ' e ra re => g as' H' _ e ra (re.drop1 i)
  | rt x A => exact g
  | bk env A => exact fun as' H' σ' e ra re => g as' H' _ e ra (re.drop1 i)
  | ct env A => exact fun as' H' σ' e ra re => g as' H' _ e ra (re.drop1 i)
  | ex e env A => exact g.elim
  | bad => exact g
theorem js_try1 {x n : Str} {C : Addr} {i : Nat} {body suite : List Stmt} {b : Stmt} {p1 p2 p3 : Pos} {more : List ExceptHandler} {mb mh : MS} {mha : Addr → MS}
    (st : X.stack = X.env :: X.outer) (hf : X.env.frame = some X.env.locals) (nd : X.N.Nodup) (hi : X.N[i]? = some n) (kn : X.env.kindOf n = some .local) (nm : Names X x (.ref C)) (yes : PySem.W.exmOne X.K (.ref C) (.ref C) = some true)
    (hb : ∀ (W : WX) (pn : List (Addr × Obj)) (xe : Value → Shared → Prop), Takes (X.tr pn xe) W → JSs (X.tr pn xe) W body mb)
    (hu : ∀ (a : Addr) (oe : Obj) (pn : List (Addr × Obj)), Zc (.ref C) none oe → (∃ us, oe.data = .fields us) → JSs (X.suite a ((a, oe) :: pn)) wNo (b :: suite) (mha a))
    (same : ∀ (a : Addr) (env : Ev) (A : Hx), i < env.length → mha a (env.set i (some (.st a))) A = mh env A) :
    JS X W (.Try body (.ExceptHandler (some (.Name x p1)) (some n) (b :: suite) p2 :: more) [] [] p3) (mTry1 i (.ref C) mb mh) := by
  refine ps_mono (Tr.ps_try_first (c := .ref C) (tb := fun W => rdS X.K W mb) (ts := fun a cls d D σ H => (cls = .ref C ∧ d = none) ∧ rdS X.K wNo (mha a) D σ H) st hf nd hi kn nm hb (fun a oe cls d pn zc hv => ?_)) fun D σ H ⟨as, env, A, ra, re, g⟩ => ?_
  · refine ⟨fun pins s σ H D I q => ?_⟩
    obtain ⟨⟨rfl, rfl⟩, q⟩ := q
    exact (hu a oe pn zc hv).run pins s σ H D I q
  · refine ⟨as, env, A, ra, re, ?_⟩
    unfold mTry1 at g
    cases e : mb env A with
    | ex z env' A' =>
      rw [e] at g
      dsimp only at g
      split at g
      · rename_i hz
        intro as' H' σ' d e1 ra1 re1 rx
        have hd : d = none := by
          unfold RX at rx
          rw [hz.2] at rx
          exact rx
        rw [hz.1]
        refine ⟨yes, fun a ha hn => ⟨⟨rfl, hd⟩, as', env'.set i (some (.st a)), A', ra1, re1.set i (.st a), ?_⟩⟩
        rw [same a env' A' (by
          have := re1.len
          have := (List.getElem?_eq_some_iff.mp hi).1
          omega)]
        exact (GS.ex e1 g).gone
      · exact g.elim
    | nx env' A' => rw [e] at g; exact g
    | rt x A' => rw [e] at g; exact g
    | bk env' A' => rw [e] at g; exact g
    | ct env' A' => rw [e] at g; exact g
    | bad => rw [e] at g; exact g
end
/-! ### classes by their names -/
def clsOf (mg : Str → Option Value) (x : Str) : Value := (mg x).getD .none
theorem clsOf_eq {mg : Str → Option Value} {x : Str} {C : Addr} (h : mg x = some (.ref C)) : clsOf mg x = .ref C := by
  unfold clsOf
  rw [h]
  rfl
section
variable {X : Cx} {W : WX}
theorem js_raise {x : Str} {C : Addr} {p p2 pos : Pos} (hc : X.calm = true) (tk : Takes X W) (T : ExcT X.K X.mg x C) (hg : Gl X x) (hdb : (x == Str.ofString "__debug__") = false := by decide) :
    JS X W (.Raise (some (.Call (.Name x p) [] [] p2)) none pos) (mRaise (clsOf X.mg x)) := by
  rw [clsOf_eq T.g]
  exact js_raise0 hc tk T hg hdb
theorem js_try {x n : Str} {C : Addr} {i : Nat} {body suite : List Stmt} {b : Stmt} {p1 p2 p3 : Pos} {more : List ExceptHandler} {mb mh : MS} {mha : Addr → MS}
    (T : ExcT X.K X.mg x C) (st : X.stack = X.env :: X.outer) (hf : X.env.frame = some X.env.locals) (nd : X.N.Nodup) (hi : X.N[i]? = some n) (kn : X.env.kindOf n = some .local) (hg : Gl X x) (yes : PySem.W.exmOne X.K (.ref C) (.ref C) = some true)
    (hb : ∀ (W : WX) (pn : List (Addr × Obj)) (xe : Value → Shared → Prop), Takes (X.tr pn xe) W → JSs (X.tr pn xe) W body mb)
    (hu : ∀ (a : Addr) (oe : Obj) (pn : List (Addr × Obj)), Zc (.ref C) none oe → (∃ us, oe.data = .fields us) → JSs (X.suite a ((a, oe) :: pn)) wNo (b :: suite) (mha a))
    (same : ∀ (a : Addr) (env : Ev) (A : Hx), i < env.length → mha a (env.set i (some (.st a))) A = mh env A) (hdb : (x == Str.ofString "__debug__") = false := by decide) :
    JS X W (.Try body (.ExceptHandler (some (.Name x p1)) (some n) (b :: suite) p2 :: more) [] [] p3) (mTry1 i (clsOf X.mg x) mb mh) := by
  rw [clsOf_eq T.g]
  exact js_try1 st hf nd hi kn ⟨hg, hdb, .inl T.g⟩ yes hb hu same
end
end Am

set_option Elab.async false
set_option linter.all false
set_option maxRecDepth 100000
set_option maxHeartbeats 4000000
/-! Am16: a dict of one pair; a list comprehension of two clauses. -/
namespace Am
open PySem PySem.Spec PyProof.Rows L2
def mDispV (k : Key) (i : Nat) : ME := fun env A => match env[i]? with
  | some (some x) => .ok (.loc A.length) (A ++ [.dct [(keyA k, x)]])
  | _ => .bad
def mDispC (k : Key) (x : AV) : ME := fun env A => .ok (.loc A.length) (A ++ [.dct [(keyA k, x)]])
section
variable {X : Cx} {W : WX}
theorem upd_upd {H : Hp} {p : Addr} {a b : HO} : upd (upd H p a) p b = upd H p b := by
  funext q
  unfold upd
  by_cases h : q = p
  · simp [h]
  · simp [h]
theorem je_dispC {ke ve : Expr} {k : Key} {v : V} {x : AV} {pos : Pos} (hk : PE X ke (tC (kV k))) (hv : PE X ve (tC v)) (rv : ∀ as H, RV X.K as H x v) : JE X W (.Dict [some ke] [ve] pos) (mDispC k x) := by
  refine pe_mono (pe_disp (pps_cons hk hv pps_nil) rfl rfl (by simp) (by simp)) fun σ H Q ⟨as, env, A, ra, re, g⟩ p hp => ?_
  refine ⟨upd_same, [(k, v)], rfl, by simp, ?_⟩
  rw [upd_upd]
  exact g (as ++ [p]) _ (.ref p) (ex_push hp) (ra.push hp (.inl ⟨[(k, v)], upd_same, .cons (rv _ _) .nil⟩)) (.loc (loc_new ra))
theorem je_dispV {ke ve : Expr} {k : Key} {i : Nat} {pos : Pos} (hk : PE X ke (tC (kV k))) (hv : PE X ve (tVar i)) : JE X W (.Dict [some ke] [ve] pos) (mDispV k i) := by
  refine pe_mono (pe_disp (pps_cons hk hv pps_nil) rfl rfl (by simp) (by simp)) fun σ H Q ⟨as, env, A, ra, re, g⟩ p hp => ?_
  unfold mDispV at g
  split at g
  · rename_i x q
    obtain ⟨v, h1, h2⟩ := re.at_ i x q
    refine ⟨v, h1, upd_same, [(k, v)], rfl, by simp, ?_⟩
    rw [upd_upd]
    exact g (as ++ [p]) _ (.ref p) (ex_push hp) (ra.push hp (.inl ⟨[(k, v)], upd_same, .cons (h2.ex (ex_push hp)) .nil⟩)) (.loc (loc_new ra))
  · exact g.elim
end
/-! ### two clauses -/
open Classical in
noncomputable def compV2 (gd : Gd) (n : Nat) (g : MG) (mt : MT) (mi1 : MI) (g1 : MG) (mt1 : MT) (me : ME) (env : Ev) (vs vs1 : List Nat) : List AV → Hx → R AV
  | [], A => if okG gd A then .ok (.loc n) A else .bad
  | x :: r, A => if okG gd A then (match g x (wipeE env vs) with
    | none => .bad
    | some e => (mt e A).noex.bind fun b A1 => if b = true then (mi1 e A1).noex.bind fun p A2 => (compV p.2 n g1 mt1 me e vs1 p.1 A2).noex.bind fun _ A3 => compV2 gd n g mt mi1 g1 mt1 me env vs vs1 r A3 else compV2 gd n g mt mi1 g1 mt1 me env vs vs1 r A1) else .bad
noncomputable def mLc2 (mi : MI) (g : MG) (mt : MT) (mi1 : MI) (g1 : MG) (mt1 : MT) (me : ME) (vs vs1 : List Nat) : ME := fun env A => (mi env A).bind fun p A1 => compV2 p.2 A1.length g mt mi1 g1 mt1 me env vs vs1 p.1 (A1 ++ [.lst []])
section
variable {X : Cx} {W : WX} {mi mi1 : MI} {g g1 : MG} {ns ns1 : List Nat} {mt mt1 : MT} {me : ME}
def RT : List Addr → Hp → AV → Unit → Prop := fun _ _ _ _ => True
/-- the turns of the second clause -/
theorem turns_ok {vs : List Nat} {σ σ0 : L2.St} {H1 H2 : Hp} {as1 as2 : List Addr} {A2 : Hx} {env : Ev} {p : List AV × Gd} {J : It} {n : Nat} {D : Addr} {Nx : Hp → Prop} (hns : ∀ i, i ∈ ns → i ∈ vs) (rj : RI X.K as1 H1 p J) (re : RE X.K as1 H1 env σ) (atD : as1[n]? = some D) (e2 : Ex X.K as1 H1 as2 H2) (ra2 : RA X.K as2 H2 A2)
    (gg : G X.K WF as2 H2 σ0 RT (compV p.2 n g mt me env vs p.1 A2) (fun _ H' => Nx H')) :
    ∃ W1 : Nat → Nat → Hp → Prop, (∃ m, W1 0 m H2) ∧ ∀ (j k : Nat) (H : Hp), W1 j k H → J.stop j H ∧ Nx H ∨ J.go j H ∧ ∃ Nx1 : Hp → Prop, (∀ H', Nx1 H' → ∃ k', k' < k ∧ W1 (j + 1) k' H') ∧ ∀ (x : V) (H' : Hp), J.yld j H x H' →
      gRd X.K g ns x (L2.wipe σ vs) H' fun σ3 H5 => L2.wipe σ3 vs = L2.wipe σ vs ∧ rd X.K WF rB mt σ3 H5 fun b H6 => if b = true then rd X.K WF (RV X.K) me σ3 H6 fun y H7 => ∃ acc, H7 D = some (.lst acc) ∧ acc.length < sizeLine ∧ Nx1 (upd H7 D (.lst (acc ++ [y]))) else Nx1 H6 := by
  refine ⟨fun i m H => m = p.1.length - i ∧ ∃ as2 A2, Ex X.K as1 H1 as2 H ∧ RA X.K as2 H A2 ∧ G X.K WF as2 H σ0 RT (compV p.2 n g mt me env vs (p.1.drop i) A2) (fun _ H' => Nx H'), ⟨_, rfl, as2, A2, e2, ra2, by rw [List.drop_zero]; exact gg⟩, ?_⟩
  clear gg ra2 e2
  clear as2 A2 H2
  rintro i m H2 ⟨rfl, as2, A2, e2, ra2, g2⟩
  have at2 := e2.get atD
  cases hd : p.1.drop i with
  | nil =>
    rw [hd] at g2
    unfold compV at g2
    split at g2
    · rename_i ok
      exact .inl ⟨(rj i as2 H2 A2 e2 ra2 ok).2 (List.drop_eq_nil_iff.mp hd), g2 as2 H2 () Ex.refl ra2 trivial⟩
    · exact g2.elim
  | cons x r =>
    rw [hd] at g2
    unfold compV at g2
    split at g2
    · rename_i ok
      have hx : p.1[i]? = some x := by
        have := List.getElem?_drop (xs := p.1) (i := i) (j := 0)
        rw [hd] at this
        simpa using this.symm
      have hil : i < p.1.length := (List.getElem?_eq_some_iff.mp hx).1
      have hr : p.1.drop (i + 1) = r := by
        rw [← List.tail_drop, hd]
        rfl
      obtain ⟨go, yl⟩ := (rj i as2 H2 A2 e2 ra2 ok).1 x hx
      refine .inr ⟨go, fun H' => ∃ as3 A3, Ex X.K as1 H1 as3 H' ∧ RA X.K as3 H' A3 ∧ G X.K WF as3 H' σ0 RT (compV p.2 n g mt me env vs (p.1.drop (i + 1)) A3) (fun _ H' => Nx H'), fun H' q => ⟨_, by omega, rfl, q⟩, fun v H3 y => ?_⟩
      obtain ⟨e3, ra3, rx⟩ := yl v H3 y
      have re3 := (re.ex e2).ex e3
      split at g2
      · exact g2.elim
      · rename_i env' eg
        refine ⟨as2, x, wipeE env vs, env', rx, re3.wipe vs, eg, fun σ' re' ch => ⟨?_, ?_⟩⟩
        · exact (wipe_chg ch hns).trans (wipe_wipe σ vs)
        · refine ⟨as2, env', A2, ra3, re', G.nbind (G.ex e3 g2) fun b A4 as4 H4 _ _ e4 ra4 rb g4 => ?_⟩
          cases rb
          cases b with
          | false =>
            rw [if_neg Bool.false_ne_true] at g4 ⊢
            exact ⟨as4, A4, (e2.trans e3).trans e4, ra4, by rw [hr]; exact g4⟩
          | true =>
            rw [if_pos rfl] at g4 ⊢
            refine ⟨as4, env', A4, ra4, re'.ex e4, G.nbind g4 fun z A5 as5 H5 u _ e5 ra5 rz g5 => ?_⟩
            split at g5
            · rename_i k acc em
              have at5 := e5.get (e4.get (e3.get at2))
              obtain ⟨q, ws, eq1, hp, hA, hH, rl⟩ := mutOf_ok ra5 (.loc at5) em
              cases eq1
              have hk : k = n := by
                unfold mutOf at em
                dsimp only at em
                split at em
                · cases em; rfl
                · cases em
              subst hk
              split at g5
              · rename_i hl
                refine ⟨ws, hH, by rw [← rl.length]; exact hl, as5, _, (((e2.trans e3).trans e4).trans e5).trans (ex_mut hH rfl), ra5.lset hp hH (rl.app (.cons rz .nil)), ?_⟩
                rw [hr]
                exact G.ex (ex_mut hH rfl) g5
              · exact g5.elim
            · exact g5.elim
    · exact g2.elim
theorem lc2_ok {vs vs1 : List Nat} {σ : L2.St} {H : Hp} {Q : VK} (hns : ∀ i, i ∈ ns → i ∈ vs) (hns1 : ∀ i, i ∈ ns1 → i ∈ vs1) (h : rd X.K W (RV X.K) (mLc2 mi g mt mi1 g1 mt1 me vs vs1) σ H Q) :
    L2.tLc2 (rd X.K W (RI X.K) mi) (gRd X.K g ns) (rd X.K WF rB mt) (rd X.K WF (RI X.K) mi1) (gRd X.K g1 ns1) (rd X.K WF rB mt1) (rd X.K WF (RV X.K) me) vs vs1 σ H Q := by
  obtain ⟨as, env, A, ra, re, gg⟩ := h
  refine ⟨as, env, A, ra, re, G.bind gg fun p A1 as1 H1 J _ e1 ra1 rj g1' => ?_⟩
  intro D hD
  have eD : Ex X.K as1 H1 (as1 ++ [D]) (upd H1 D (.lst [])) := ex_push hD
  have raD : RA X.K (as1 ++ [D]) (upd H1 D (.lst [])) (A1 ++ [.lst []]) := ra1.push hD ⟨[], upd_same, .nil⟩
  have atD : (as1 ++ [D])[A1.length]? = some D := by
    rw [← ra1.len, List.getElem?_append_right (Nat.le_refl _)]
    simp
  refine ⟨fun i m H => m = p.1.length - i ∧ ∃ as2 A2, Ex X.K (as1 ++ [D]) (upd H1 D (.lst [])) as2 H ∧ RA X.K as2 H A2 ∧ G X.K W as2 H σ (RV X.K) (compV2 p.2 A1.length g mt mi1 g1 mt1 me env vs vs1 (p.1.drop i) A2) Q, ⟨_, rfl, as1 ++ [D], A1 ++ [.lst []], Ex.refl, raD, by rw [List.drop_zero]; exact G.ex eD g1'⟩, ?_⟩
  rintro i m H2 ⟨rfl, as2, A2, e2, ra2, g2⟩
  have at2 := e2.get atD
  cases hd : p.1.drop i with
  | nil =>
    rw [hd] at g2
    unfold compV2 at g2
    split at g2
    · rename_i ok
      exact .inl ⟨(rj i as2 H2 A2 (eD.trans e2) ra2 ok).2 (List.drop_eq_nil_iff.mp hd), g2 as2 H2 _ Ex.refl ra2 (.loc at2)⟩
    · exact g2.elim
  | cons x r =>
    rw [hd] at g2
    unfold compV2 at g2
    split at g2
    · rename_i ok
      have hx : p.1[i]? = some x := by
        have := List.getElem?_drop (xs := p.1) (i := i) (j := 0)
        rw [hd] at this
        simpa using this.symm
      have hil : i < p.1.length := (List.getElem?_eq_some_iff.mp hx).1
      have hr : p.1.drop (i + 1) = r := by
        rw [← List.tail_drop, hd]
        rfl
      obtain ⟨go, yl⟩ := (rj i as2 H2 A2 (eD.trans e2) ra2 ok).1 x hx
      refine .inr ⟨go, fun H' => ∃ as3 A3, Ex X.K (as1 ++ [D]) (upd H1 D (.lst [])) as3 H' ∧ RA X.K as3 H' A3 ∧ G X.K W as3 H' σ (RV X.K) (compV2 p.2 A1.length g mt mi1 g1 mt1 me env vs vs1 (p.1.drop (i + 1)) A3) Q, fun H' q => ⟨_, by omega, rfl, q⟩, fun v H3 y => ?_⟩
      obtain ⟨e3, ra3, rx⟩ := yl v H3 y
      have re3 := (((re.ex e1).ex eD).ex e2).ex e3
      split at g2
      · exact g2.elim
      · rename_i env' eg
        refine ⟨as2, x, wipeE env vs, env', rx, re3.wipe vs, eg, fun σ' re' ch => ⟨?_, ?_⟩⟩
        · exact (wipe_chg ch hns).trans (wipe_wipe σ vs)
        · refine ⟨as2, env', A2, ra3, re', G.nbind (G.ex e3 g2) fun b A4 as4 H4 _ _ e4 ra4 rb g4 => ?_⟩
          cases rb
          cases b with
          | false =>
            rw [if_neg Bool.false_ne_true] at g4 ⊢
            exact ⟨as4, A4, (e2.trans e3).trans e4, ra4, by rw [hr]; exact g4⟩
          | true =>
            rw [if_pos rfl] at g4 ⊢
            refine ⟨as4, env', A4, ra4, re'.ex e4, G.nbind g4 fun p1 A5 as5 H5 J1 _ e5 ra5 rj1 g5 => ?_⟩
            have at5 := e5.get (e4.get (e3.get at2))
            refine turns_ok hns1 rj1 ((re'.ex e4).ex e5) at5 Ex.refl ra5 (σ0 := σ) (G.nbind g5 fun z A6 as6 H6 _ _ e6 ra6 _ g6 => ?_)
            exact ⟨as6, A6, (((e2.trans e3).trans e4).trans e5).trans e6, ra6, by rw [hr]; exact g6⟩
    · exact g2.elim
theorem je_lc2 {elt tg iter tg1 iter1 : Expr} {ifs ifs1 : List Expr} {scope : Scope} {own : List (Str × Nat)} {vs1 : List Nat} {pos : Pos} (hc : X.calm = true) (hN : X.N.Nodup) (hi : JI X W tg iter mi) (ok : BlkOk X.N X.env.scope scope own) (hvs : ∀ i, i ∈ vs1 → i ∈ own.map (·.2))
    (hg : ∀ (s : Shared) (H : Hp) (C : Addr) (cl : List (Str × Addr)) (fp : List Addr), JG (X.blk s H scope (compEnvC scope cl C X.env) fp) tg g ns)
    (ht : ∀ (s : Shared) (H : Hp) (C : Addr) (cl : List (Str × Addr)) (fp : List Addr), PTs (X.blk s H scope (compEnvC scope cl C X.env) fp) ifs (rd X.K WF rB mt))
    (hi1 : ∀ (s : Shared) (H : Hp) (C : Addr) (cl : List (Str × Addr)) (fp : List Addr), JI (X.blk s H scope (compEnvC scope cl C X.env) fp) WF tg1 iter1 mi1)
    (hg1 : ∀ (s : Shared) (H : Hp) (C : Addr) (cl : List (Str × Addr)) (fp : List Addr), JG (X.blk s H scope (compEnvC scope cl C X.env) fp) tg1 g1 ns1)
    (ht1 : ∀ (s : Shared) (H : Hp) (C : Addr) (cl : List (Str × Addr)) (fp : List Addr), PTs (X.blk s H scope (compEnvC scope cl C X.env) fp) ifs1 (rd X.K WF rB mt1))
    (he : ∀ (s : Shared) (H : Hp) (C : Addr) (cl : List (Str × Addr)) (fp : List Addr), JE (X.blk s H scope (compEnvC scope cl C X.env) fp) WF elt me)
    (hns : ∀ i, i ∈ ns → i ∈ own.map (·.2) := by decide) (hns1 : ∀ i, i ∈ ns1 → i ∈ vs1 := by decide) (hs : ∀ x, foldedSetIterable iter X.env x = pure x := by intro _; rfl) (hs1 : ∀ (env : Env) (x : Value), foldedSetIterable iter1 env x = pure x := by intro _ _; rfl) :
    JE X W (.ListComp elt [⟨tg, iter, ifs, 0⟩, ⟨tg1, iter1, ifs1, 0⟩] scope pos) (mLc2 mi g mt mi1 g1 mt1 me (own.map (·.2)) vs1) :=
  pe_mono (pe_lc2 hc hN hi ok hvs hg ht hi1 hg1 ht1 he hs hs1) fun σ H Q h => lc2_ok hns hns1 h
end
end Am

set_option Elab.async false
set_option linter.all false
set_option maxRecDepth 100000
set_option maxHeartbeats 1000000
/-! Bm1: values without places; what a mirror does, told of such values. -/
namespace Bm
open PySem PySem.Spec PyProof.Rows L2 Am

inductive TV where
  | non | bl (b : Bool) | int (i : Int) | str (x : Str) | ty (n : String) | st (a : Addr) | tup (ts : List TV) | lst (ts : List TV) | dct (kvs : List (TV × TV))
  deriving Inhabited

mutual
inductive T (F : Nat → Prop) (A : Hx) : AV → TV → Prop
  | non : T F A .non .non
  | bl (b : Bool) : T F A (.bl b) (.bl b)
  | int (i : Int) : T F A (.int i) (.int i)
  | str (x : Str) : T F A (.str x) (.str x)
  | ty (n : String) : T F A (.ty n) (.ty n)
  | st (a : Addr) : T F A (.st a) (.st a)
  | tup {xs : List AV} {ts : List TV} : Ts F A xs ts → ts.length ≤ sizeLine → T F A (.tup xs) (.tup ts)
  | loc {n : Nat} {xs : List AV} {ts : List TV} : F n → A[n]? = some (.lst xs) → Ts F A xs ts → ts.length ≤ sizeLine → T F A (.loc n) (.lst ts)
  | dct {n : Nat} {xs : List (AV × AV)} {ts : List (TV × TV)} : F n → A[n]? = some (.dct xs) → Tp F A xs ts → T F A (.loc n) (.dct ts)
inductive Ts (F : Nat → Prop) (A : Hx) : List AV → List TV → Prop
  | nil : Ts F A [] []
  | cons {x : AV} {t : TV} {xs : List AV} {ts : List TV} : T F A x t → Ts F A xs ts → Ts F A (x :: xs) (t :: ts)
inductive Tp (F : Nat → Prop) (A : Hx) : List (AV × AV) → List (TV × TV) → Prop
  | nil : Tp F A [] []
  | cons {k x : AV} {u t : TV} {xs : List (AV × AV)} {ts : List (TV × TV)} : T F A k u → T F A x t → Tp F A xs ts → Tp F A ((k, x) :: xs) ((u, t) :: ts)
end
section
variable {F G : Nat → Prop} {A A' : Hx}
mutual
/-- more is let, the places stay -/
theorem T.up (h : ∀ n o, F n → A[n]? = some o → G n ∧ A'[n]? = some o) : ∀ {x : AV} {t : TV}, T F A x t → T G A' x t
  | _, _, .non => .non
  | _, _, .bl b => .bl b
  | _, _, .int i => .int i
  | _, _, .str x => .str x
  | _, _, .ty n => .ty n
  | _, _, .st a => .st a
  | _, _, .tup r l => .tup (Ts.up h r) l
  | _, _, .loc f e r l => .loc (h _ _ f e).1 (h _ _ f e).2 (Ts.up h r) l
  | _, _, .dct f e r => .dct (h _ _ f e).1 (h _ _ f e).2 (Tp.up h r)
theorem Ts.up (h : ∀ n o, F n → A[n]? = some o → G n ∧ A'[n]? = some o) : ∀ {x : List AV} {t : List TV}, Ts F A x t → Ts G A' x t
  | _, _, .nil => .nil
  | _, _, .cons r s => .cons (T.up h r) (Ts.up h s)
theorem Tp.up (h : ∀ n o, F n → A[n]? = some o → G n ∧ A'[n]? = some o) : ∀ {x : List (AV × AV)} {t : List (TV × TV)}, Tp F A x t → Tp G A' x t
  | _, _, .nil => .nil
  | _, _, .cons r q s => .cons (T.up h r) (T.up h q) (Tp.up h s)
end
theorem Ts.length : ∀ {xs : List AV} {ts : List TV}, Ts F A xs ts → xs.length = ts.length
  | _, _, .nil => rfl
  | _, _, .cons _ r => congrArg (· + 1) (Ts.length r)
theorem Ts.get : ∀ {xs : List AV} {ts : List TV} {i : Nat} {t : TV}, Ts F A xs ts → ts[i]? = some t → ∃ x, xs[i]? = some x ∧ T F A x t
  | _, _, i, x, .nil, e => by simp at e
  | _, _, 0, x, .cons h _, e => by
    simp at e
    subst e
    exact ⟨_, rfl, h⟩
  | _, _, i + 1, x, .cons _ r, e => Ts.get (i := i) r (by simpa using e)
theorem Ts.app : ∀ {xs ys : List AV} {ts us : List TV}, Ts F A xs ts → Ts F A ys us → Ts F A (xs ++ ys) (ts ++ us)
  | _, _, _, _, .nil, s => s
  | _, _, _, _, .cons h r, s => .cons h (Ts.app r s)
theorem Ts.take : ∀ {xs : List AV} {ts : List TV} (n : Nat), Ts F A xs ts → Ts F A (xs.take n) (ts.take n)
  | _, _, 0, _ => by simpa using .nil
  | _, _, _ + 1, .nil => .nil
  | _, _, n + 1, .cons h r => .cons h (Ts.take n r)
theorem Ts.drop : ∀ {xs : List AV} {ts : List TV} (n : Nat), Ts F A xs ts → Ts F A (xs.drop n) (ts.drop n)
  | _, _, 0, r => r
  | _, _, _ + 1, .nil => .nil
  | _, _, n + 1, .cons _ r => Ts.drop n r
theorem Ts.rev : ∀ {xs : List AV} {ts : List TV}, Ts F A xs ts → Ts F A xs.reverse ts.reverse
  | _, _, .nil => .nil
  | _, _, .cons h r => by
    rw [List.reverse_cons, List.reverse_cons]
    exact (Ts.rev r).app (.cons h .nil)
theorem Ts.set : ∀ {xs : List AV} {ts : List TV} (i : Nat) {x : AV} {t : TV}, Ts F A xs ts → T F A x t → Ts F A (xs.set i x) (ts.set i t)
  | _, _, _, _, _, .nil, _ => .nil
  | _, _, 0, _, _, .cons _ r, h => .cons h r
  | _, _, i + 1, _, _, .cons h r, q => .cons h (Ts.set i r q)
theorem Ts.flat : ∀ (k : Nat) {xs : List AV} {ts : List TV}, Ts F A xs ts → Ts F A (List.replicate k xs).flatten (List.replicate k ts).flatten
  | 0, _, _, _ => .nil
  | k + 1, _, _, r => by
    rw [List.replicate_succ, List.replicate_succ, List.flatten_cons, List.flatten_cons]
    exact r.app (Ts.flat k r)
end

/-! ### outcomes -/
/-- an exception: its class, its fields -/
structure XT where
  cls : Value
  fs : List (Str × TV)
inductive TXs (F : Nat → Prop) (A : Hx) : List (Str × AV) → List (Str × TV) → Prop
  | nil : TXs F A [] []
  | cons {f : Str} {x : AV} {t : TV} {xs ts} : T F A x t → TXs F A xs ts → TXs F A ((f, x) :: xs) ((f, t) :: ts)
structure TX (F : Nat → Prop) (A : Hx) (x : AX) (z : XT) : Prop where
  cls : x.cls = z.cls
  fs : TXs F A x.fs z.fs
theorem TXs.up {F G : Nat → Prop} {A A' : Hx} (h : ∀ n o, F n → A[n]? = some o → G n ∧ A'[n]? = some o) : ∀ {x t}, TXs F A x t → TXs G A' x t
  | _, _, .nil => .nil
  | _, _, .cons r s => .cons (r.up h) (TXs.up h s)
theorem TX.up {F G : Nat → Prop} {A A' : Hx} {x z} (h : ∀ n o, F n → A[n]? = some o → G n ∧ A'[n]? = some o) (q : TX F A x z) : TX G A' x z := ⟨q.cls, q.fs.up h⟩
inductive Out (σ α : Type) where
  | ok (a : α) (s : σ) | ex (e : XT) (s : σ) | bad
def M (σ α : Type) := σ → Out σ α
section
variable {σ α β γ : Type}
def M.pure (a : α) : M σ α := fun s => .ok a s
def M.bad : M σ α := fun _ => .bad
def M.throw (e : XT) : M σ α := fun s => .ex e s
def M.bind (m : M σ α) (k : α → M σ β) : M σ β := fun s => match m s with
  | .ok a s => k a s
  | .ex e s => .ex e s
  | .bad => .bad
/-- what changes no state, where a state is -/
def lift (m : M Unit α) : M σ α := fun s => match m () with
  | .ok a _ => .ok a s
  | .ex e _ => .ex e s
  | .bad => .bad
def M.noex (m : M σ α) : M σ α := fun s => match m s with
  | .ex _ _ => .bad
  | o => o
/-- where something holds -/
noncomputable def chk (p : Prop) (m : M σ α) : M σ α := @ite _ p (Classical.propDecidable p) m .bad
theorem chk_pos {p : Prop} {m : M σ α} (h : p) : chk p m = m := by
  unfold chk
  rw [if_pos h]
theorem chk_neg {p : Prop} {m : M σ α} (h : ¬ p) : chk p m = .bad := by
  unfold chk
  rw [if_neg h]
theorem chk_ite {p : Prop} [Decidable p] {m : M σ α} : chk p m = if p then m else .bad := by
  by_cases h : p
  · rw [chk_pos h, if_pos h]
  · rw [chk_neg h, if_neg h]
@[simp] theorem M.pure_bind (a : α) (k : α → M σ β) : (M.pure a).bind k = k a := rfl
@[simp] theorem M.bad_bind (k : α → M σ β) : (M.bad).bind k = M.bad := rfl
@[simp] theorem M.throw_bind (e : XT) (k : α → M σ β) : (M.throw e).bind k = M.throw e := rfl
@[simp] theorem M.noex_pure (a : α) : (M.pure a : M σ α).noex = M.pure a := rfl
@[simp] theorem M.noex_bad : (M.bad : M σ α).noex = M.bad := rfl
@[simp] theorem lift_pure (a : α) : (lift (M.pure a) : M σ α) = M.pure a := rfl
@[simp] theorem lift_bad : (lift M.bad : M σ α) = M.bad := rfl
@[simp] theorem lift_throw (e : XT) : (lift (M.throw e) : M σ α) = M.throw e := rfl
@[simp] theorem lift_unit (m : M Unit α) : lift m = m := by
  funext s
  unfold lift
  cases m s <;> rfl
@[simp] theorem M.bind_assoc (m : M σ α) (k : α → M σ β) (j : β → M σ γ) : (m.bind k).bind j = m.bind fun a => (k a).bind j := by
  funext s
  unfold M.bind
  cases m s <;> rfl
@[simp] theorem lift_bind (m : M Unit α) (k : α → M Unit β) : (lift (m.bind k) : M σ β) = (lift m).bind fun a => lift (k a) := by
  funext s
  unfold lift M.bind
  cases m () with
  | ok a s' => cases k a () <;> rfl
  | _ => rfl
theorem M.bind_pure (m : M σ α) : m.bind M.pure = m := by
  funext s
  unfold M.bind
  cases m s <;> rfl
theorem M.bind_ok {m : M σ α} {k : α → M σ β} {s s' : σ} {a : α} (h : m s = .ok a s') : m.bind k s = k a s' := by
  unfold M.bind
  rw [h]
@[simp] theorem M.pure_app (a : α) (s : σ) : (M.pure a : M σ α) s = .ok a s := rfl
end
/-- a state that stands at the heap's begin, or none -/
structure Md where
  σ : Type
  lo : Nat
  hd : σ → Hx
  len : ∀ s, (hd s).length = lo
  pot : Nat
abbrev pureM : Md := ⟨Unit, 0, fun _ => [], fun _ => rfl, 0⟩
def Md.inv (μ : Md) (s : μ.σ) (A : Hx) : Prop := ∃ B, A = μ.hd s ++ B

/-! ### names -/
inductive Sl where
  | no | va (t : TV) | ow (ts : List TV) | pt
def Owned (own : List (Option Nat)) (n : Nat) : Prop := ∃ i : Nat, own[i]? = some (some n)
/-- what may stand in a value of a name -/
def Cl (F : Nat → Prop) (own : List (Option Nat)) (n : Nat) : Prop := F n ∧ ¬ Owned own n
def SlR (μ : Md) (F : Nat → Prop) (own : List (Option Nat)) (i : Nat) (env : Ev) (A : Hx) : Sl → Prop
  | .no => True
  | .va t => ∃ x, env[i]? = some (some x) ∧ T (Cl F own) A x t
  | .ow ts => ∃ n xs, own[i]? = some (some n) ∧ env[i]? = some (some (.loc n)) ∧ A[n]? = some (.lst xs) ∧ Ts (Cl F own) A xs ts ∧ ts.length ≤ sizeLine
  | .pt => env[i]? = some (some (.loc μ.pot))
structure Rl (μ : Md) (L : Nat) (F : Nat → Prop) (own : List (Option Nat)) (Γ : List Sl) (env : Ev) (A : Hx) : Prop where
  elen : env.length = Γ.length
  olen : own.length = Γ.length
  hL : L ≤ A.length
  up : ∀ n : Nat, L ≤ n → F n
  fp : μ.lo ≤ L ∧ ∀ n, n < μ.lo → ¬ F n
  ond : ∀ (i j n : Nat), own[i]? = some (some n) → own[j]? = some (some n) → i = j
  obd : ∀ (i n : Nat), own[i]? = some (some n) → F n ∧ n < A.length
  sl : ∀ (i : Nat) (g : Sl), Γ[i]? = some g → SlR μ F own i env A g
/-- the heap grows -/
structure Gr (μ : Md) (A A' : Hx) : Prop where
  len : A.length ≤ A'.length
  st : ∀ n, n < A.length → μ.lo ≤ n → A'[n]? = A[n]?
structure Ch (μ : Md) (own : List (Option Nat)) (A A' : Hx) : Prop where
  len : A.length ≤ A'.length
  st : ∀ n, n < A.length → μ.lo ≤ n → ¬ Owned own n → A'[n]? = A[n]?
def Ow (own : List (Option Nat)) (A : Hx) (own' : List (Option Nat)) : Prop := ∀ n, Owned own' n → Owned own n ∨ A.length ≤ n
section
variable {μ : Md} {L : Nat} {F : Nat → Prop} {own own' own'' : List (Option Nat)} {Γ : List Sl} {env : Ev} {A A' A'' : Hx}
theorem some_lt {α : Type} {A : List α} {n : Nat} {o : α} (h : A[n]? = some o) : n < A.length := (List.getElem?_eq_some_iff.mp h).1
theorem Gr.refl : Gr μ A A := ⟨Nat.le_refl _, fun _ _ _ => rfl⟩
theorem Gr.trans (a : Gr μ A A') (b : Gr μ A' A'') : Gr μ A A'' := ⟨Nat.le_trans a.len b.len, fun n h p => (b.st n (Nat.lt_of_lt_of_le h a.len) p).trans (a.st n h p)⟩
theorem Gr.app (J : Hx) : Gr μ A (A ++ J) := ⟨by simp, fun n h _ => List.getElem?_append_left h⟩
theorem Gr.ch (a : Gr μ A A') : Ch μ own A A' := ⟨a.len, fun n h p _ => a.st n h p⟩
theorem Ch.refl : Ch μ own A A := ⟨Nat.le_refl _, fun _ _ _ _ => rfl⟩
theorem Ow.refl : Ow own A own := fun _ h => .inl h
theorem Ch.trans (a : Ch μ own A A') (w : Ow own A own') (b : Ch μ own' A' A'') : Ch μ own A A'' :=
  ⟨Nat.le_trans a.len b.len, fun n h p q => (b.st n (Nat.lt_of_lt_of_le h a.len) p (fun o => (w n o).elim q fun l => absurd h (Nat.not_lt.mpr l))).trans (a.st n h p q)⟩
theorem Ow.trans (l : A.length ≤ A'.length) (a : Ow own A own') (b : Ow own' A' own'') : Ow own A own'' := fun n h => (b n h).elim (a n) fun q => .inr (Nat.le_trans l q)
theorem Rl.lo (r : Rl μ L F own Γ env A) {n : Nat} (h : F n) : μ.lo ≤ n := Nat.le_of_not_lt fun z => r.fp.2 n z h
/-- a clean value stays -/
theorem Rl.stayC (r : Rl μ L F own Γ env A) (c : Ch μ own A A') (w : Ow own A own') : ∀ n o, Cl F own n → A[n]? = some o → Cl F own' n ∧ A'[n]? = some o := fun n o h e => by
  have hn := some_lt e
  refine ⟨⟨h.1, fun q => (w n q).elim h.2 fun l => absurd hn (Nat.not_lt.mpr l)⟩, ?_⟩
  rw [c.st n hn (r.lo h.1) h.2]
  exact e
theorem Rl.stayG (r : Rl μ L F own Γ env A) (c : Gr μ A A') : ∀ n o, Cl F own n → A[n]? = some o → Cl F own n ∧ A'[n]? = some o := r.stayC c.ch Ow.refl
theorem Rl.new (r : Rl μ L F own Γ env A) : ∀ n, A.length ≤ n → Cl F own n := fun n h => ⟨r.up n (Nat.le_trans r.hL h), fun ⟨i, q⟩ => absurd (r.obd i n q).2 (Nat.not_lt.mpr h)⟩
theorem Rl.gr (r : Rl μ L F own Γ env A) (c : Gr μ A A') : Rl μ L F own Γ env A' where
  elen := r.elen
  olen := r.olen
  hL := Nat.le_trans r.hL c.len
  up := r.up
  fp := r.fp
  ond := r.ond
  obd := fun i n h => ⟨(r.obd i n h).1, Nat.lt_of_lt_of_le (r.obd i n h).2 c.len⟩
  sl := fun i g h => by
    have q := r.sl i g h
    cases g with
    | no => trivial
    | va t =>
      obtain ⟨x, h1, h2⟩ := q
      exact ⟨x, h1, h2.up (r.stayG c)⟩
    | ow ts =>
      obtain ⟨n, xs, h1, h2, h3, h4, h5⟩ := q
      have hb := r.obd i n h1
      refine ⟨n, xs, h1, h2, ?_, h4.up (r.stayG c), h5⟩
      rw [c.st n hb.2 (r.lo hb.1)]
      exact h3
    | pt => exact q
theorem Md.inv_gr {J : Hx} {s : μ.σ} (h : μ.inv s A) : μ.inv s (A ++ J) := by
  obtain ⟨B, rfl⟩ := h
  exact ⟨B ++ J, by simp⟩
end

/-! ### what an outcome is, told of values -/
section
variable (μ : Md)
/-- an expression's outcome -/
def OutR {β α : Type} (A : Hx) (P : Hx → β → α → Prop) (N : Hx → AX → XT → Prop) (r : R β) : Out μ.σ α → Prop
  | .ok a s => ∃ x A', r = .ok x A' ∧ Gr μ A A' ∧ μ.inv s A' ∧ P A' x a
  | .ex z s => ∃ x A', r = .ex x A' ∧ Gr μ A A' ∧ μ.inv s A' ∧ N A' x z
  | .bad => True
/-- an expression's judgement -/
def EG {β α : Type} (Γ : List Sl) (m : Ev → Hx → R β) (P : (Nat → Prop) → Hx → β → α → Prop) (o : M μ.σ α) : Prop :=
  ∀ (L : Nat) (F : Nat → Prop) (own : List (Option Nat)) (env : Ev) (A : Hx) (s : μ.σ), Rl μ L F own Γ env A → μ.inv s A → OutR μ A (P (Cl F own)) (TX (Cl F own)) (m env A) (o s)
def PE_ {α : Type} (e : α → TV) : (Nat → Prop) → Hx → AV → α → Prop := fun F A x a => T F A x (e a)
def PL_ {α : Type} (e : α → List TV) : (Nat → Prop) → Hx → List AV → α → Prop := fun F A x a => Ts F A x (e a)
def PB_ : (Nat → Prop) → Hx → Bool → Bool → Prop := fun _ _ a b => a = b
def PI_ : (Nat → Prop) → Hx → Option Int → Option Int → Prop := fun _ _ a b => a = b
abbrev E {α : Type} (Γ : List Sl) (m : ME) (e : α → TV) (o : M μ.σ α) : Prop := EG μ Γ m (PE_ e) o
abbrev EA {α : Type} (Γ : List Sl) (m : MA) (e : α → List TV) (o : M μ.σ α) : Prop := EG μ Γ m (PL_ e) o
abbrev EB (Γ : List Sl) (m : MT) (o : M μ.σ Bool) : Prop := EG μ Γ m PB_ o
end
section
variable {μ : Md} {A A1 : Hx} {β α γ δ : Type} {P : Hx → β → α → Prop} {N : Hx → AX → XT → Prop}
theorem OutR.base {r : R β} {o : Out μ.σ α} (c : Gr μ A A1) (h : OutR μ A1 P N r o) : OutR μ A P N r o := by
  cases o with
  | ok a s =>
    obtain ⟨x, A', h1, h2, h3, h4⟩ := h
    exact ⟨x, A', h1, c.trans h2, h3, h4⟩
  | ex a s =>
    obtain ⟨x, A', h1, h2, h3, h4⟩ := h
    exact ⟨x, A', h1, c.trans h2, h3, h4⟩
  | bad => trivial
theorem OutR.pur {x : β} {a : α} {s : μ.σ} (i : μ.inv s A) (h : P A x a) : OutR μ A P N (.ok x A) (.ok a s) := ⟨x, A, rfl, Gr.refl, i, h⟩
theorem OutR.bind {P' : Hx → δ → γ → Prop} {r : R β} {k : β → Hx → R δ} {o : M μ.σ α} {ob : α → M μ.σ γ} {s : μ.σ} (h : OutR μ A P N r (o s))
    (hk : ∀ x A1 a s1, Gr μ A A1 → μ.inv s1 A1 → P A1 x a → OutR μ A1 P' N (k x A1) (ob a s1)) : OutR μ A P' N (r.bind k) (o.bind ob s) := by
  unfold M.bind
  cases e : o s with
  | ok a s1 =>
    rw [e] at h
    obtain ⟨x, A', rfl, h2, h3, h4⟩ := h
    exact (hk x A' a s1 h2 h3 h4).base h2
  | ex z s1 =>
    rw [e] at h
    obtain ⟨x, A', rfl, h2, h3, h4⟩ := h
    exact ⟨x, A', rfl, h2, h3, h4⟩
  | bad => trivial
theorem EG.bind {Γ : List Sl} {m : Ev → Hx → R β} {k : Ev → β → Hx → R δ} {P : (Nat → Prop) → Hx → β → α → Prop} {P' : (Nat → Prop) → Hx → δ → γ → Prop} {o : M μ.σ α} {ob : α → M μ.σ γ} (h : EG μ Γ m P o)
    (hk : ∀ L F own env x A a s, Rl μ L F own Γ env A → μ.inv s A → P (Cl F own) A x a → OutR μ A (P' (Cl F own)) (TX (Cl F own)) (k env x A) (ob a s)) : EG μ Γ (fun env A => (m env A).bind (k env)) P' (o.bind ob) :=
  fun L F own env A s r i => (h L F own env A s r i).bind fun x A1 a s1 g i1 p => hk L F own env x A1 a s1 (r.gr g) i1 p
end

/-! ### operations -/
/-- what an operation does, told of values: it changes nothing, what it lays is new -/
def Res {γ : Type} (F : Nat → Prop) (A : Hx) (r : R AV) (e : γ → TV) : Out Unit γ → Prop
  | .ok c _ => ∃ z J, r = .ok z (A ++ J) ∧ T F (A ++ J) z (e c)
  | .ex z _ => ∃ x J, r = .ex x (A ++ J) ∧ TX F (A ++ J) x z
  | .bad => True
def Fn1 {α γ : Type} (f : AV → Hx → R AV) (e1 : α → TV) (e : γ → TV) (g : α → M Unit γ) : Prop := ∀ F A x a, (∀ n, A.length ≤ n → F n) → T F A x (e1 a) → Res F A (f x A) e (g a ())
def Fn2 {α β γ : Type} (f : AV → AV → Hx → R AV) (e1 : α → TV) (e2 : β → TV) (e : γ → TV) (g : α → β → M Unit γ) : Prop := ∀ F A x y a b, (∀ n, A.length ≤ n → F n) → T F A x (e1 a) → T F A y (e2 b) → Res F A (f x y A) e (g a b ())
def FnL {α γ : Type} (f : List AV → Hx → R AV) (e1 : α → List TV) (e : γ → TV) (g : α → M Unit γ) : Prop := ∀ F A x a, (∀ n, A.length ≤ n → F n) → Ts F A x (e1 a) → Res F A (f x A) e (g a ())
section
variable {μ : Md} {A : Hx} {γ : Type} {F : Nat → Prop} {e : γ → TV} {r : R AV}
theorem lift_eq {σ : Type} {m : M Unit γ} {s : σ} : lift m s = match m () with
  | .ok a _ => .ok a s
  | .ex e _ => .ex e s
  | .bad => .bad := rfl
theorem Res.out {m : M Unit γ} {s : μ.σ} (h : Res F A r e (m ())) (i : μ.inv s A) : OutR μ A (PE_ e F) (TX F) r (lift m s) := by
  rw [lift_eq]
  cases q : m () with
  | ok c u =>
    rw [q] at h
    obtain ⟨z, J, h1, h2⟩ := h
    exact ⟨z, A ++ J, h1, Gr.app J, Md.inv_gr i, h2⟩
  | ex c u =>
    rw [q] at h
    obtain ⟨z, J, h1, h2⟩ := h
    exact ⟨z, A ++ J, h1, Gr.app J, Md.inv_gr i, h2⟩
  | bad => trivial
end
section
variable {μ : Md} {Γ : List Sl} {α β γ δ : Type} {ma mb mc : ME} {ta tb : MT} {e1 : α → TV} {e2 : β → TV} {e : γ → TV}
theorem Rl.newF {L : Nat} {F : Nat → Prop} {own : List (Option Nat)} {env : Ev} {A : Hx} (r : Rl μ L F own Γ env A) : ∀ n, A.length ≤ n → Cl F own n := r.new
theorem e_const {x : AV} {a : α} (h : ∀ F A, T F A x (e1 a)) : E μ Γ (mC x) e1 (.pure a) := fun L F own env A s r i => OutR.pur i (h _ _)
theorem e_var {i : Nat} {a : α} (h : Γ[i]? = some (.va (e1 a))) : E μ Γ (mVar i) e1 (.pure a) := fun L F own env A s r inv => by
  obtain ⟨x, h1, h2⟩ := r.sl i _ h
  have : mVar i env A = .ok x A := by
    unfold mVar
    rw [h1]
  rw [this]
  exact OutR.pur inv h2
theorem e_un {f : AV → Hx → R AV} {g : α → M Unit γ} {oa : M μ.σ α} (H : Fn1 f e1 e g) (ha : E μ Γ ma e1 oa) : E μ Γ (mUn f ma) e (oa.bind fun a => lift (g a)) :=
  EG.bind (k := fun _ => f) ha fun L F own env x A a s r i p => Res.out (m := g a) (H _ _ _ _ r.newF p) i
theorem e_op {f : AV → AV → Hx → R AV} {g : α → β → M Unit γ} {oa : M μ.σ α} {ob : M μ.σ β} (H : Fn2 f e1 e2 e g) (ha : E μ Γ ma e1 oa) (hb : E μ Γ mb e2 ob) : E μ Γ (mOp f ma mb) e (oa.bind fun a => ob.bind fun b => lift (g a b)) :=
  EG.bind (k := fun env x A1 => (mb env A1).bind fun y A2 => f x y A2) ha fun L F own env x A a s r i p =>
    (hb L F own env A s r i).bind fun y A1 b s1 g1 i1 q => Res.out (m := g a b) (H _ _ _ _ _ _ (r.gr g1).newF (p.up (r.stayG g1)) q) i1
theorem a_nil : EA μ Γ mNil (fun _ : Unit => []) (.pure ()) := fun L F own env A s r i => OutR.pur i .nil
theorem a_cons {el : β → List TV} {mr : MA} {oa : M μ.σ α} {ob : M μ.σ β} (ha : E μ Γ ma e1 oa) (hb : EA μ Γ mr el ob) : EA μ Γ (mCons ma mr) (fun p : α × β => e1 p.1 :: el p.2) (oa.bind fun a => ob.bind fun b => .pure (a, b)) :=
  EG.bind (k := fun env x A1 => (mr env A1).bind fun xs A2 => .ok (x :: xs) A2) ha fun L F own env x A a s r i p =>
    (hb L F own env A s r i).bind fun y A1 b s1 g1 i1 q => OutR.pur (a := (a, b)) i1 (.cons (p.up (r.stayG g1)) q)
/-- one argument -/
theorem a_one {oa : M μ.σ α} (ha : E μ Γ ma e1 oa) : EA μ Γ (mCons ma mNil) (fun p : α => [e1 p]) oa := by
  have h := EG.bind (k := fun env x A1 => (mNil env A1).bind fun xs A2 => .ok (x :: xs) A2) (P' := PL_ fun p : α => [e1 p]) (ob := fun a => .pure a) ha fun L F own env x A a s r i p => by
    show OutR μ A _ _ (.ok [x] A) _
    exact OutR.pur i (.cons p .nil)
  rw [show (oa.bind fun a => M.pure a) = oa from M.bind_pure oa] at h
  exact h
theorem e_call {f : List AV → Hx → R AV} {el : α → List TV} {mr : MA} {g : α → M Unit γ} {oa : M μ.σ α} (H : FnL f el e g) (ha : EA μ Γ mr el oa) : E μ Γ (mCB f mr) e (oa.bind fun a => lift (g a)) :=
  EG.bind (k := fun _ => f) ha fun L F own env x A a s r i p => Res.out (m := g a) (H _ _ _ _ r.newF p) i
/-- where the arguments are values -/
theorem e_call1 {f : List AV → Hx → R AV} {g : α → M Unit γ} {a : α} (H : FnL f (fun a => [e1 a]) e g) (ha : E μ Γ ma e1 (.pure a)) : E μ Γ (mCB f (mCons ma mNil)) e (lift (g a)) := e_call H (a_one ha)
theorem e_un1 {f : AV → Hx → R AV} {g : α → M Unit γ} {a : α} (H : Fn1 f e1 e g) (ha : E μ Γ ma e1 (.pure a)) : E μ Γ (mUn f ma) e (lift (g a)) := e_un H ha
theorem e_op1 {f : AV → AV → Hx → R AV} {g : α → β → M Unit γ} {a : α} {b : β} (H : Fn2 f e1 e2 e g) (ha : E μ Γ ma e1 (.pure a)) (hb : E μ Γ mb e2 (.pure b)) : E μ Γ (mOp f ma mb) e (lift (g a b)) := e_op H ha hb
theorem e_coe {f : α → γ} {oa : M μ.σ α} (h : ∀ a, e1 a = e (f a)) (ha : E μ Γ ma e1 oa) : E μ Γ ma e (oa.bind fun a => .pure (f a)) := fun L F own env A s r i => by
  have q := ha L F own env A s r i
  unfold M.bind
  cases o : oa s with
  | ok a s1 =>
    rw [o] at q
    obtain ⟨x, A', h1, h2, h3, h4⟩ := q
    exact ⟨x, A', h1, h2, h3, by rw [PE_, ← h]; exact h4⟩
  | ex z s1 => rw [o] at q; exact q
  | bad => trivial
theorem e_coe1 {f : α → γ} {a : α} (h : ∀ a, e1 a = e (f a)) (ha : E μ Γ ma e1 (.pure a)) : E μ Γ ma e (.pure (f a)) := e_coe h ha
theorem e_as {oa ob : M μ.σ α} (ha : E μ Γ ma e1 oa) (h : oa = ob) : E μ Γ ma e1 ob := h ▸ ha
/-! ### tests -/
theorem b_of {oa : M μ.σ Bool} (ha : E μ Γ ma TV.bl oa) : EB μ Γ (mB ma) oa := by
  have h := EG.bind (k := fun _ => isB) (P' := PB_) (ob := fun a => .pure a) ha fun L F own env x A a s r i p => by
    cases p
    exact OutR.pur i rfl
  rw [show (oa.bind fun a => M.pure a) = oa from M.bind_pure oa] at h
  exact h
theorem b_and {oa ob : M μ.σ Bool} (ha : EB μ Γ ta oa) (hb : EB μ Γ tb ob) : EB μ Γ (mAnd ta tb) (oa.bind fun c => if c then ob else .pure false) :=
  EG.bind (k := fun env c A1 => if c = true then tb env A1 else .ok false A1) ha fun L F own env x A a s r i p => by
    cases p
    cases x with
    | true => exact hb L F own env A s r i
    | false => exact OutR.pur i rfl
theorem b_or {oa ob : M μ.σ Bool} (ha : EB μ Γ ta oa) (hb : EB μ Γ tb ob) : EB μ Γ (mOr ta tb) (oa.bind fun c => if c then .pure true else ob) :=
  EG.bind (k := fun env c A1 => if c = true then .ok true A1 else tb env A1) ha fun L F own env x A a s r i p => by
    cases p
    cases x with
    | true => exact OutR.pur i rfl
    | false => exact hb L F own env A s r i
theorem b_not {oa : M μ.σ Bool} (ha : EB μ Γ ta oa) : EB μ Γ (mNot ta) (oa.bind fun c => .pure (!c)) :=
  EG.bind (k := fun env c A1 => .ok (!c) A1) ha fun L F own env x A a s r i p => by
    cases p
    exact OutR.pur i rfl
theorem b_and1 {a b : Bool} (ha : EB μ Γ ta (.pure a)) (hb : EB μ Γ tb (.pure b)) : EB μ Γ (mAnd ta tb) (.pure (a && b)) := by
  have := b_and ha hb
  cases a <;> exact this
theorem b_or1 {a b : Bool} (ha : EB μ Γ ta (.pure a)) (hb : EB μ Γ tb (.pure b)) : EB μ Γ (mOr ta tb) (.pure (a || b)) := by
  have := b_or ha hb
  cases a <;> exact this
theorem b_not1 {a : Bool} (ha : EB μ Γ ta (.pure a)) : EB μ Γ (mNot ta) (.pure (!a)) := b_not ha
theorem e_ifE {oc : M μ.σ Bool} {oa ob : M μ.σ α} (hc : EB μ Γ ta oc) (ha : E μ Γ ma e1 oa) (hb : E μ Γ mb e1 ob) : E μ Γ (mIfE ta ma mb) e1 (oc.bind fun c => if c then oa else ob) :=
  EG.bind (k := fun env c A1 => if c = true then ma env A1 else mb env A1) hc fun L F own env x A a s r i p => by
    cases p
    cases x with
    | true => exact ha L F own env A s r i
    | false => exact hb L F own env A s r i
theorem e_ifE1 {c : Bool} {a b : α} (hc : EB μ Γ ta (.pure c)) (ha : E μ Γ ma e1 (.pure a)) (hb : E μ Γ mb e1 (.pure b)) : E μ Γ (mIfE ta ma mb) e1 (.pure (if c then a else b)) := by
  have := e_ifE hc ha hb
  cases c <;> exact this
/-- a flag of values: x and y, x or y, not x of flags -/
theorem e_andB {oa ob : M μ.σ Bool} (ha : E μ Γ ma TV.bl oa) (hb : E μ Γ mb TV.bl ob) : E μ Γ (mAndV ma mb) TV.bl (oa.bind fun c => if c then ob else .pure false) :=
  EG.bind (k := fun env x A1 => (truth x A1).bind fun c A2 => if c = true then mb env A2 else .ok x A2) ha fun L F own env x A a s r i p => by
    cases p
    cases a with
    | true => exact hb L F own env A s r i
    | false => exact OutR.pur i (.bl _)
theorem e_orB {oa ob : M μ.σ Bool} (ha : E μ Γ ma TV.bl oa) (hb : E μ Γ mb TV.bl ob) : E μ Γ (mOrV ma mb) TV.bl (oa.bind fun c => if c then .pure true else ob) :=
  EG.bind (k := fun env x A1 => (truth x A1).bind fun c A2 => if c = true then .ok x A2 else mb env A2) ha fun L F own env x A a s r i p => by
    cases p
    cases a with
    | true => exact OutR.pur i (.bl _)
    | false => exact hb L F own env A s r i
theorem e_notB {oa : M μ.σ Bool} (ha : E μ Γ ma TV.bl oa) : E μ Γ (mNotV ma) TV.bl (oa.bind fun c => .pure (!c)) :=
  EG.bind (k := fun env x A1 => (truth x A1).bind fun c A2 => .ok (AV.bl (!c)) A2) (P' := PE_ TV.bl) (ob := fun c => M.pure (!c)) ha fun L F own env x A a s r i p => by
    cases p
    exact OutR.pur i (.bl _)
theorem e_andB1 {a b : Bool} (ha : E μ Γ ma TV.bl (.pure a)) (hb : E μ Γ mb TV.bl (.pure b)) : E μ Γ (mAndV ma mb) TV.bl (.pure (a && b)) := by
  have := e_andB ha hb
  cases a <;> exact this
theorem e_orB1 {a b : Bool} (ha : E μ Γ ma TV.bl (.pure a)) (hb : E μ Γ mb TV.bl (.pure b)) : E μ Γ (mOrV ma mb) TV.bl (.pure (a || b)) := by
  have := e_orB ha hb
  cases a <;> exact this
theorem e_notB1 {a : Bool} (ha : E μ Γ ma TV.bl (.pure a)) : E μ Γ (mNotV ma) TV.bl (.pure (!a)) := e_notB ha
/-- the truth of a value -/
def truT : TV → M Unit Bool
  | .non => .pure false
  | .bl b => .pure b
  | .int i => .pure (i != 0)
  | .str s => if s.length ≤ sizeLine then .pure ((s.length : Int) != 0) else .bad
  | .tup ts => .pure (!ts.isEmpty)
  | .lst ts => .pure (!ts.isEmpty)
  | _ => .bad
theorem Ts.isEmpty {F : Nat → Prop} {A : Hx} : ∀ {xs : List AV} {ts : List TV}, Ts F A xs ts → xs.isEmpty = ts.isEmpty
  | _, _, .nil => rfl
  | _, _, .cons _ _ => rfl
theorem b_tru {oa : M μ.σ α} (ha : E μ Γ ma e1 oa) : EB μ Γ (mTru ma) (oa.bind fun a => lift (truT (e1 a))) :=
  EG.bind (k := fun _ => truth) ha fun L F own env x A a s r i p => by
    unfold PE_ at p
    generalize e1 a = t at p
    cases p with
    | non => exact OutR.pur i rfl
    | bl b => exact OutR.pur i rfl
    | int b => exact OutR.pur i rfl
    | str b =>
      unfold truth truT
      dsimp only
      split
      · exact OutR.pur i rfl
      · trivial
    | ty b => trivial
    | st b => trivial
    | tup h l => exact OutR.pur i (by rw [PB_, h.isEmpty])
    | loc f h r l =>
      unfold truth
      dsimp only
      rw [h]
      exact OutR.pur i (by rw [PB_, r.isEmpty])
    | dct f h r => trivial
theorem b_truB {oa : M μ.σ Bool} (ha : E μ Γ ma TV.bl oa) : EB μ Γ (mTru ma) oa := by
  have := b_tru ha
  rw [show (oa.bind fun a => lift (truT (TV.bl a))) = oa from M.bind_pure oa] at this
  exact this
end
end Bm

set_option Elab.async false
set_option linter.all false
set_option maxRecDepth 100000
set_option maxHeartbeats 1000000
/-! Bm2: statements, loops, comprehensions, defs, told of values. -/
namespace Bm
open PySem PySem.Spec PyProof.Rows L2 Am
inductive Ctl (β ρ : Type) where
  | nx (b : β) | bk (b : β) | ct (b : β) | rt (r : ρ)
section
variable {σ α β ρ : Type}
/-- what may return, then something -/
def thenR (o : M σ (Ctl α ρ)) (ob : α → M σ ρ) : M σ ρ := o.bind fun c => match c with
  | .nx b => ob b
  | .rt v => .pure v
  | _ => .bad
def thenC (o : M σ (Ctl α ρ)) (ob : α → M σ (Ctl β ρ)) : M σ (Ctl β ρ) := o.bind fun c => match c with
  | .nx b => ob b
  | .rt v => .pure (.rt v)
  | _ => .bad
@[simp] theorem thenR_nx (b : α) (ob : α → M σ ρ) : thenR (.pure (.nx b)) ob = ob b := rfl
@[simp] theorem thenR_rt (v : ρ) (ob : α → M σ ρ) : thenR (.pure (.rt v)) ob = .pure v := rfl
@[simp] theorem thenC_nx (b : α) (ob : α → M σ (Ctl β ρ)) : thenC (.pure (.nx b)) ob = ob b := rfl
@[simp] theorem thenC_rt (v : ρ) (ob : α → M σ (Ctl β ρ)) : thenC (.pure (.rt v)) ob = .pure (.rt v) := rfl
end
section
variable (μ : Md) {β ρ : Type}
/-- a statement's outcome -/
def OutS {γ : Type} (own : List (Option Nat)) (F : Nat → Prop) (A : Hx) (Q : RS → γ → μ.σ → Prop) (r : RS) : Out μ.σ γ → Prop
  | .ok c s => Q r c s
  | .ex z s => ∃ x env' A', r = .ex x env' A' ∧ TX F A' x z ∧ μ.inv s A' ∧ Ch μ own A A'
  | .bad => True
structure After (L : Nat) (F : Nat → Prop) (own : List (Option Nat)) (A : Hx) (Γ : List Sl) (env' : Ev) (A' : Hx) (s : μ.σ) : Prop where
  ex : ∃ own', Rl μ L F own' Γ env' A' ∧ Ow own A own'
  inv : μ.inv s A'
  ch : Ch μ own A A'
def QN (L : Nat) (F : Nat → Prop) (own : List (Option Nat)) (A : Hx) (Γ' : β → List Sl) (r : RS) (b : β) (s : μ.σ) : Prop := ∃ env' A', r = .nx env' A' ∧ After μ L F own A (Γ' b) env' A' s
def QR (F : Nat → Prop) (own : List (Option Nat)) (A : Hx) (er : ρ → TV) (r : RS) (v : ρ) (s : μ.σ) : Prop := ∃ x A', r = .rt x A' ∧ T F A' x (er v) ∧ μ.inv s A' ∧ Ch μ own A A'
def QC (L : Nat) (F : Nat → Prop) (own : List (Option Nat)) (A : Hx) (Γ' : β → List Sl) (er : ρ → TV) (r : RS) (c : Ctl β ρ) (s : μ.σ) : Prop := match c with
  | .nx b => ∃ env' A', r = .nx env' A' ∧ After μ L F own A (Γ' b) env' A' s
  | .bk b => ∃ env' A', r = .bk env' A' ∧ After μ L F own A (Γ' b) env' A' s
  | .ct b => ∃ env' A', r = .ct env' A' ∧ After μ L F own A (Γ' b) env' A' s
  | .rt v => QR μ F own A er r v s
def SN (Γ : List Sl) (m : MS) (Γ' : β → List Sl) (o : M μ.σ β) : Prop := ∀ (L : Nat) (F : Nat → Prop) (own : List (Option Nat)) (env : Ev) (A : Hx) (s : μ.σ), Rl μ L F own Γ env A → μ.inv s A → OutS μ own F A (QN μ L F own A Γ') (m env A) (o s)
def SR (Γ : List Sl) (m : MS) (er : ρ → TV) (o : M μ.σ ρ) : Prop := ∀ (L : Nat) (F : Nat → Prop) (own : List (Option Nat)) (env : Ev) (A : Hx) (s : μ.σ), Rl μ L F own Γ env A → μ.inv s A → OutS μ own F A (QR μ F own A er) (m env A) (o s)
def SC (Γ : List Sl) (m : MS) (Γ' : β → List Sl) (er : ρ → TV) (o : M μ.σ (Ctl β ρ)) : Prop := ∀ (L : Nat) (F : Nat → Prop) (own : List (Option Nat)) (env : Ev) (A : Hx) (s : μ.σ), Rl μ L F own Γ env A → μ.inv s A → OutS μ own F A (QC μ L F own A Γ' er) (m env A) (o s)
end
section
variable {μ : Md} {L : Nat} {F : Nat → Prop} {own own' : List (Option Nat)} {Γ Γ' Γ0 : List Sl} {env env' : Ev} {A A' A'' : Hx} {s s' : μ.σ}
theorem After.refl (r : Rl μ L F own Γ env A) (i : μ.inv s A) : After μ L F own A Γ env A s := ⟨⟨own, r, Ow.refl⟩, i, Ch.refl⟩
theorem After.of (g : Gr μ A A') (h : After μ L F own A' Γ env' A'' s) : After μ L F own A Γ env' A'' s := by
  obtain ⟨⟨o, r, w⟩, i, c⟩ := h
  exact ⟨⟨o, r, Ow.trans g.len Ow.refl w⟩, i, g.ch.trans Ow.refl c⟩
theorem After.trans {own1 : List (Option Nat)} (c0 : Ch μ own A A') (w0 : Ow own A own1) (h : After μ L F own1 A' Γ env' A'' s) : After μ L F own A Γ env' A'' s := by
  obtain ⟨⟨o, r, w⟩, i, c⟩ := h
  exact ⟨⟨o, r, w0.trans c0.len w⟩, i, c0.trans w0 c⟩
theorem Cl.sub {n : Nat} (h : Cl F own n) : F n := h.1
theorem T.toF {x : AV} {t : TV} (h : T (Cl F own) A x t) : T F A x t := h.up fun _ _ f e => ⟨f.1, e⟩
theorem TX.toF {x : AX} {t : XT} (h : TX (Cl F own) A x t) : TX F A x t := h.up fun _ _ f e => ⟨f.1, e⟩
/-- an expression, then something -/
theorem OutS.st {β α γ : Type} {P : Hx → β → α → Prop} {r : R β} {o : M μ.σ α} {k : β → Hx → RS} {ob : α → M μ.σ γ} {Q : RS → γ → μ.σ → Prop} (h : OutR μ A P (TX (Cl F own)) r (o s))
    (hk : ∀ x A1 a s1, Gr μ A A1 → μ.inv s1 A1 → P A1 x a → OutS μ own F A Q (k x A1) (ob a s1)) : OutS μ own F A Q (r.st env k) (o.bind ob s) := by
  unfold M.bind
  cases e : o s with
  | ok a s1 =>
    rw [e] at h
    obtain ⟨x, A1, rfl, g, i, p⟩ := h
    exact hk x A1 a s1 g i p
  | ex z s1 =>
    rw [e] at h
    obtain ⟨x, A1, rfl, g, i, p⟩ := h
    exact ⟨x, env, A1, rfl, p.toF, i, g.ch⟩
  | bad => trivial
/-- a statement, then something -/
theorem OutS.seq {β γ : Type} {Γ1 : β → List Sl} {a : MS} {b : MS} {o : M μ.σ β} {ob : β → M μ.σ γ} {Q : RS → γ → μ.σ → Prop} (h : OutS μ own F A (QN μ L F own A Γ1) (a env A) (o s))
    (hk : ∀ env1 A1 own1 c s1, Rl μ L F own1 (Γ1 c) env1 A1 → μ.inv s1 A1 → Ch μ own A A1 → Ow own A own1 → OutS μ own F A Q (b env1 A1) (ob c s1)) : OutS μ own F A Q (mSeq a b env A) (o.bind ob s) := by
  unfold M.bind mSeq
  cases e : o s with
  | ok c s1 =>
    rw [e] at h
    obtain ⟨env1, A1, e1, ⟨o1, r1, w1⟩, i1, c1⟩ := h
    rw [e1]
    exact hk env1 A1 o1 c s1 r1 i1 c1 w1
  | ex z s1 =>
    rw [e] at h
    obtain ⟨x, env1, A1, e1, p⟩ := h
    rw [e1]
    exact ⟨x, env1, A1, rfl, p⟩
  | bad => trivial
theorem OutS.trans {γ : Type} {own1 : List (Option Nat)} {Q Q' : RS → γ → μ.σ → Prop} {r : RS} {o : Out μ.σ γ} (c0 : Ch μ own A A') (w0 : Ow own A own1) (h : OutS μ own1 F A' Q' r o) (hq : ∀ r c s, Q' r c s → Q r c s) : OutS μ own F A Q r o := by
  cases o with
  | ok c s => exact hq _ _ _ h
  | ex z s =>
    obtain ⟨x, env1, A1, e1, p, i, c⟩ := h
    exact ⟨x, env1, A1, e1, p, i, c0.trans w0 c⟩
  | bad => trivial
theorem QN.trans {β : Type} {Γ' : β → List Sl} {own1 : List (Option Nat)} {r : RS} {c : β} (c0 : Ch μ own A A') (w0 : Ow own A own1) (h : QN μ L F own1 A' Γ' r c s) : QN μ L F own A Γ' r c s := by
  obtain ⟨e1, A1, e, a⟩ := h
  exact ⟨e1, A1, e, a.trans c0 w0⟩
theorem QR.trans {β : Type} {er : β → TV} {own1 : List (Option Nat)} {r : RS} {c : β} (c0 : Ch μ own A A') (w0 : Ow own A own1) (h : QR μ F own1 A' er r c s) : QR μ F own A er r c s := by
  obtain ⟨e1, A1, e, a, i, c⟩ := h
  exact ⟨e1, A1, e, a, i, c0.trans w0 c⟩
theorem QC.trans {β ρ : Type} {Γ' : β → List Sl} {er : ρ → TV} {own1 : List (Option Nat)} {r : RS} {c : Ctl β ρ} (c0 : Ch μ own A A') (w0 : Ow own A own1) (h : QC μ L F own1 A' Γ' er r c s) : QC μ L F own A Γ' er r c s := by
  cases c with
  | nx b => exact QN.trans c0 w0 h
  | bk b =>
    obtain ⟨e1, A1, e, a⟩ := h
    exact ⟨e1, A1, e, a.trans c0 w0⟩
  | ct b =>
    obtain ⟨e1, A1, e, a⟩ := h
    exact ⟨e1, A1, e, a.trans c0 w0⟩
  | rt r => exact QR.trans c0 w0 h
/-! ### names stored -/
theorem Rl.set (r : Rl μ L F own Γ env A) (i : Nat) {x : AV} {t : TV} (h : T (Cl F own) A x t) : Rl μ L F own (Γ.set i (.va t)) (env.set i (some x)) A where
  elen := by simp [r.elen]
  olen := by simp [r.olen]
  hL := r.hL
  up := r.up
  fp := r.fp
  ond := r.ond
  obd := r.obd
  sl := fun j g e => by
    by_cases hj : i = j
    · subst hj
      have hl : i < Γ.length := by
        have := some_lt e
        simpa using this
      rw [List.getElem?_set_self hl] at e
      cases e
      exact ⟨x, by rw [List.getElem?_set_self (by rw [r.elen]; exact hl)], h⟩
    · rw [List.getElem?_set_ne hj] at e
      have q := r.sl j g e
      cases g with
      | no => trivial
      | va u =>
        obtain ⟨y, h1, h2⟩ := q
        exact ⟨y, by rw [List.getElem?_set_ne hj]; exact h1, h2⟩
      | ow ts =>
        obtain ⟨n, xs, h1, h2, h3⟩ := q
        exact ⟨n, xs, h1, by rw [List.getElem?_set_ne hj]; exact h2, h3⟩
      | pt => exact (List.getElem?_set_ne hj).trans q
/-- less is known of the names -/
inductive Wk : List Sl → List Sl → Prop
  | nil : Wk [] []
  | keep {g : Sl} {a b : List Sl} : Wk a b → Wk (g :: a) (g :: b)
  | drop {g : Sl} {a b : List Sl} : Wk a b → Wk (g :: a) (.no :: b)
theorem Wk.rfl : ∀ {Γ : List Sl}, Wk Γ Γ
  | [] => .nil
  | _ :: _ => .keep Wk.rfl
theorem Wk.length : ∀ {a b : List Sl}, Wk a b → a.length = b.length
  | _, _, .nil => Eq.refl _
  | _, _, .keep w => congrArg (· + 1) w.length
  | _, _, .drop w => congrArg (· + 1) w.length
theorem Wk.at : ∀ {a b : List Sl} {i : Nat} {g : Sl}, Wk a b → b[i]? = some g → a[i]? = some g ∨ g = .no
  | _, _, i, g, .nil, e => .inl e
  | _, _, 0, g, .keep w, e => .inl e
  | _, _, 0, g, .drop w, e => .inr (by simpa using e.symm)
  | _, _, i + 1, g, .keep w, e => by simpa using Wk.at (i := i) w (by simpa using e)
  | _, _, i + 1, g, .drop w, e => by simpa using Wk.at (i := i) w (by simpa using e)
theorem Rl.wk (r : Rl μ L F own Γ env A) (w : Wk Γ Γ') : Rl μ L F own Γ' env A where
  elen := by rw [r.elen, w.length]
  olen := by rw [r.olen, w.length]
  hL := r.hL
  up := r.up
  fp := r.fp
  ond := r.ond
  obd := r.obd
  sl := fun j g e => by
    rcases w.at e with h | rfl
    · exact r.sl j g h
    · trivial
theorem After.wk (h : After μ L F own A Γ env' A' s) (w : Wk Γ Γ') : After μ L F own A Γ' env' A' s := by
  obtain ⟨⟨o, r, w1⟩, i, c⟩ := h
  exact ⟨⟨o, r.wk w, w1⟩, i, c⟩
end
section
variable {μ : Md} {Γ Γ0 : List Sl} {α β γ δ ρ : Type} {ma mb mc : ME} {mt : MT} {m u : MS} {e1 : α → TV} {er : ρ → TV} {Γ1 : α → List Sl} {Γ' Γ2 : β → List Sl}
theorem s_pass : SN μ Γ mPass (fun _ : Unit => Γ) (.pure ()) := fun L F own env A s r i => ⟨env, A, rfl, After.refl r i⟩
theorem s_set {i : Nat} {oa : M μ.σ α} (ha : E μ Γ ma e1 oa) : SN μ Γ (mSet i ma) (fun a => Γ.set i (.va (e1 a))) oa := fun L F own env A s r inv => by
  have h := OutS.st (env := env) (k := fun x A1 => .nx (env.set i (some x)) A1) (ob := M.pure) (Q := QN μ L F own A fun a => Γ.set i (.va (e1 a))) (ha L F own env A s r inv) fun x A1 a s1 g i1 p =>
    ⟨_, A1, rfl, (After.refl ((r.gr g).set i p) i1).of g⟩
  rw [M.bind_pure] at h
  exact h
theorem s_drop {oa : M μ.σ α} (ha : E μ Γ ma e1 oa) : SN μ Γ (mDrop ma) (fun _ : Unit => Γ) (oa.bind fun _ => .pure ()) := fun L F own env A s r inv =>
  OutS.st (env := env) (k := fun _ A1 => .nx env A1) (ha L F own env A s r inv) fun x A1 a s1 g i1 p => ⟨_, A1, rfl, (After.refl (r.gr g) i1).of g⟩
theorem s_ret {oa : M μ.σ α} (ha : E μ Γ ma e1 oa) : SR μ Γ (mRet ma) e1 oa := fun L F own env A s r inv => by
  have h := OutS.st (env := env) (k := fun x A1 => .rt x A1) (ob := M.pure) (Q := QR μ F own A e1) (ha L F own env A s r inv) fun x A1 a s1 g i1 p =>
    ⟨x, A1, rfl, p.toF, i1, g.ch⟩
  rw [M.bind_pure] at h
  exact h
theorem s_retN : SR μ Γ mRetN (fun _ : Unit => TV.non) (.pure ()) := fun L F own env A s r inv => ⟨.non, A, rfl, .non, inv, Ch.refl⟩
theorem s_seqN {oa : M μ.σ α} {ob : α → M μ.σ β} (ha : SN μ Γ m Γ1 oa) (hb : ∀ x, SN μ (Γ1 x) u Γ' (ob x)) : SN μ Γ (mSeq m u) Γ' (oa.bind ob) := fun L F own env A s r inv =>
  OutS.seq (ha L F own env A s r inv) fun env1 A1 own1 c s1 r1 i1 c1 w1 => OutS.trans c1 w1 (hb c L F own1 env1 A1 s1 r1 i1) fun _ _ _ => QN.trans c1 w1
theorem s_seqR {oa : M μ.σ α} {ob : α → M μ.σ ρ} (ha : SN μ Γ m Γ1 oa) (hb : ∀ x, SR μ (Γ1 x) u er (ob x)) : SR μ Γ (mSeq m u) er (oa.bind ob) := fun L F own env A s r inv =>
  OutS.seq (ha L F own env A s r inv) fun env1 A1 own1 c s1 r1 i1 c1 w1 => OutS.trans c1 w1 (hb c L F own1 env1 A1 s1 r1 i1) fun _ _ _ => QR.trans c1 w1
theorem s_seqC {oa : M μ.σ α} {ob : α → M μ.σ (Ctl β ρ)} (ha : SN μ Γ m Γ1 oa) (hb : ∀ x, SC μ (Γ1 x) u Γ' er (ob x)) : SC μ Γ (mSeq m u) Γ' er (oa.bind ob) := fun L F own env A s r inv =>
  OutS.seq (ha L F own env A s r inv) fun env1 A1 own1 c s1 r1 i1 c1 w1 => OutS.trans c1 w1 (hb c L F own1 env1 A1 s1 r1 i1) fun _ _ _ => QC.trans c1 w1
theorem s_map {oa : M μ.σ α} (f : α → β) (ha : SN μ Γ m Γ1 oa) (w : ∀ a, Wk (Γ1 a) (Γ' (f a))) : SN μ Γ m Γ' (oa.bind fun a => .pure (f a)) := fun L F own env A s r inv => by
  have h := ha L F own env A s r inv
  unfold M.bind
  cases e : oa s with
  | ok c s1 =>
    rw [e] at h
    obtain ⟨env1, A1, e1, a⟩ := h
    exact ⟨env1, A1, e1, a.wk (w c)⟩
  | ex z s1 => rw [e] at h; exact h
  | bad => trivial
theorem s_wkN {o : M μ.σ β} (w : Wk Γ Γ0) (h : SN μ Γ0 m Γ' o) : SN μ Γ m Γ' o := fun L F own env A s r inv => h L F own env A s (r.wk w) inv
theorem s_wkR {o : M μ.σ ρ} (w : Wk Γ Γ0) (h : SR μ Γ0 m er o) : SR μ Γ m er o := fun L F own env A s r inv => h L F own env A s (r.wk w) inv
theorem s_wkC {o : M μ.σ (Ctl β ρ)} (w : Wk Γ Γ0) (h : SC μ Γ0 m Γ' er o) : SC μ Γ m Γ' er o := fun L F own env A s r inv => h L F own env A s (r.wk w) inv
theorem s_toC {o : M μ.σ β} (h : SN μ Γ m Γ' o) : SC μ Γ m Γ' er (o.bind fun b => .pure (.nx b)) := fun L F own env A s r inv => by
  have h := h L F own env A s r inv
  unfold M.bind
  cases e : o s with
  | ok c s1 => rw [e] at h; exact h
  | ex z s1 => rw [e] at h; exact h
  | bad => trivial
theorem s_rtC {o : M μ.σ ρ} (h : SR μ Γ m er o) : SC μ Γ m Γ' er (o.bind fun b => .pure (.rt b)) := fun L F own env A s r inv => by
  have h := h L F own env A s r inv
  unfold M.bind
  cases e : o s with
  | ok c s1 => rw [e] at h; exact h
  | ex z s1 => rw [e] at h; exact h
  | bad => trivial
def mBreak : MS := fun env A => .bk env A
def mContinue : MS := fun env A => .ct env A
theorem s_brk {b : β} (w : Wk Γ (Γ' b)) : SC μ Γ mBreak Γ' er (.pure (.bk b)) := fun L F own env A s r inv => ⟨env, A, rfl, (After.refl r inv).wk w⟩
theorem s_ctn {b : β} (w : Wk Γ (Γ' b)) : SC μ Γ mContinue Γ' er (.pure (.ct b)) := fun L F own env A s r inv => ⟨env, A, rfl, (After.refl r inv).wk w⟩
/-! ### if -/
theorem OutS.if {γ : Type} {own : List (Option Nat)} {F : Nat → Prop} {env : Ev} {A : Hx} {s : μ.σ} {oc : M μ.σ Bool} {oa ob : M μ.σ γ} {Q : RS → γ → μ.σ → Prop} (h : OutR μ A (PB_ (Cl F own)) (TX (Cl F own)) (mt env A) (oc s))
    (ka : ∀ A1 s1, Gr μ A A1 → μ.inv s1 A1 → OutS μ own F A Q (m env A1) (oa s1)) (kb : ∀ A1 s1, Gr μ A A1 → μ.inv s1 A1 → OutS μ own F A Q (u env A1) (ob s1)) : OutS μ own F A Q (mIf mt m u env A) (oc.bind (fun c => if c then oa else ob) s) := by
  refine OutS.st h fun x A1 a s1 g i1 p => ?_
  cases p
  cases x with
  | true => exact ka A1 s1 g i1
  | false => exact kb A1 s1 g i1
theorem s_ifN {oc : M μ.σ Bool} {oa ob : M μ.σ β} (hc : EB μ Γ mt oc) (ha : SN μ Γ m Γ' oa) (hb : SN μ Γ u Γ' ob) : SN μ Γ (mIf mt m u) Γ' (oc.bind fun c => if c then oa else ob) := fun L F own env A s r inv =>
  OutS.if (hc L F own env A s r inv) (fun A1 s1 g i1 => OutS.trans g.ch Ow.refl (ha L F own env A1 s1 (r.gr g) i1) fun _ _ _ => QN.trans g.ch Ow.refl)
    (fun A1 s1 g i1 => OutS.trans g.ch Ow.refl (hb L F own env A1 s1 (r.gr g) i1) fun _ _ _ => QN.trans g.ch Ow.refl)
theorem s_ifR {oc : M μ.σ Bool} {oa ob : M μ.σ ρ} (hc : EB μ Γ mt oc) (ha : SR μ Γ m er oa) (hb : SR μ Γ u er ob) : SR μ Γ (mIf mt m u) er (oc.bind fun c => if c then oa else ob) := fun L F own env A s r inv =>
  OutS.if (hc L F own env A s r inv) (fun A1 s1 g i1 => OutS.trans g.ch Ow.refl (ha L F own env A1 s1 (r.gr g) i1) fun _ _ _ => QR.trans g.ch Ow.refl)
    (fun A1 s1 g i1 => OutS.trans g.ch Ow.refl (hb L F own env A1 s1 (r.gr g) i1) fun _ _ _ => QR.trans g.ch Ow.refl)
theorem s_ifC {oc : M μ.σ Bool} {oa ob : M μ.σ (Ctl β ρ)} (hc : EB μ Γ mt oc) (ha : SC μ Γ m Γ' er oa) (hb : SC μ Γ u Γ' er ob) : SC μ Γ (mIf mt m u) Γ' er (oc.bind fun c => if c then oa else ob) := fun L F own env A s r inv =>
  OutS.if (hc L F own env A s r inv) (fun A1 s1 g i1 => OutS.trans g.ch Ow.refl (ha L F own env A1 s1 (r.gr g) i1) fun _ _ _ => QC.trans g.ch Ow.refl)
    (fun A1 s1 g i1 => OutS.trans g.ch Ow.refl (hb L F own env A1 s1 (r.gr g) i1) fun _ _ _ => QC.trans g.ch Ow.refl)
/-- what stands behind an if stands in both ways -/
theorem if_seq {a b rest : MS} : mSeq (mIf mt a b) rest = mIf mt (mSeq a rest) (mSeq b rest) := by
  funext env A
  unfold mSeq mIf
  cases mt env A with
  | ok c A1 => cases c <;> rfl
  | _ => rfl
theorem pass_seq {rest : MS} : mSeq mPass rest = rest := rfl
/-- what returns goes on to nothing -/
theorem r_seq {rest : MS} {o : M μ.σ ρ} (h : SR μ Γ m er o) : SR μ Γ (mSeq m rest) er o := fun L F own env A s r inv => by
  have h := h L F own env A s r inv
  unfold mSeq
  cases e : o s with
  | ok c s1 =>
    rw [e] at h
    obtain ⟨x, A', e1, p⟩ := h
    rw [e1]
    exact ⟨x, A', rfl, p⟩
  | ex z s1 =>
    rw [e] at h
    obtain ⟨x, env1, A', e1, p⟩ := h
    rw [e1]
    exact ⟨x, env1, A', rfl, p⟩
  | bad => trivial
theorem s_guardR {rest : MS} {oc : M μ.σ Bool} {oa ob : M μ.σ ρ} (hc : EB μ Γ mt oc) (ha : SR μ Γ m er oa) (hb : SR μ Γ rest er ob) : SR μ Γ (mSeq (mIf mt m mPass) rest) er (oc.bind fun c => if c then oa else ob) := by
  rw [if_seq, pass_seq]
  exact s_ifR hc (r_seq ha) hb
theorem s_guardC {rest : MS} {oc : M μ.σ Bool} {oa : M μ.σ ρ} {ob : M μ.σ (Ctl β ρ)} (hc : EB μ Γ mt oc) (ha : SR μ Γ m er oa) (hb : SC μ Γ rest Γ' er ob) : SC μ Γ (mSeq (mIf mt m mPass) rest) Γ' er (oc.bind fun c => if c then (oa.bind fun v => .pure (.rt v)) else ob) := by
  rw [if_seq, pass_seq]
  exact s_ifC hc (s_rtC (r_seq ha)) hb
/-- both ways on their own -/
theorem s_forkR {rest : MS} {oc : M μ.σ Bool} {oa ob : M μ.σ ρ} (hc : EB μ Γ mt oc) (ha : SR μ Γ (mSeq m rest) er oa) (hb : SR μ Γ (mSeq u rest) er ob) : SR μ Γ (mSeq (mIf mt m u) rest) er (oc.bind fun c => if c then oa else ob) := by
  rw [if_seq]
  exact s_ifR hc ha hb
theorem s_forkC {rest : MS} {oc : M μ.σ Bool} {oa ob : M μ.σ (Ctl β ρ)} (hc : EB μ Γ mt oc) (ha : SC μ Γ (mSeq m rest) Γ' er oa) (hb : SC μ Γ (mSeq u rest) Γ' er ob) : SC μ Γ (mSeq (mIf mt m u) rest) Γ' er (oc.bind fun c => if c then oa else ob) := by
  rw [if_seq]
  exact s_ifC hc ha hb
/-- a statement that may return, and what stands behind -/
theorem s_thenR {rest : MS} {o : M μ.σ (Ctl α ρ)} {ob : α → M μ.σ ρ} (ha : SC μ Γ m Γ1 er o) (hb : ∀ x, SR μ (Γ1 x) rest er (ob x)) : SR μ Γ (mSeq m rest) er (thenR o ob) := fun L F own env A s r inv => by
  have h := ha L F own env A s r inv
  unfold thenR M.bind mSeq
  cases e : o s with
  | ok c s1 =>
    rw [e] at h
    cases c with
    | nx b =>
      obtain ⟨env1, A1, e1, ⟨o1, r1, w1⟩, i1, c1⟩ := h
      rw [e1]
      exact OutS.trans c1 w1 (hb b L F o1 env1 A1 s1 r1 i1) fun _ _ _ => QR.trans c1 w1
    | rt v =>
      obtain ⟨x, A1, e1, p⟩ := h
      rw [e1]
      exact ⟨x, A1, rfl, p⟩
    | _ => trivial
  | ex z s1 =>
    rw [e] at h
    obtain ⟨x, env1, A', e1, p⟩ := h
    rw [e1]
    exact ⟨x, env1, A', rfl, p⟩
  | bad => trivial
theorem s_thenC {rest : MS} {o : M μ.σ (Ctl α ρ)} {ob : α → M μ.σ (Ctl β ρ)} (ha : SC μ Γ m Γ1 er o) (hb : ∀ x, SC μ (Γ1 x) rest Γ' er (ob x)) : SC μ Γ (mSeq m rest) Γ' er (thenC o ob) := fun L F own env A s r inv => by
  have h := ha L F own env A s r inv
  unfold thenC M.bind mSeq
  cases e : o s with
  | ok c s1 =>
    rw [e] at h
    cases c with
    | nx b =>
      obtain ⟨env1, A1, e1, ⟨o1, r1, w1⟩, i1, c1⟩ := h
      rw [e1]
      exact OutS.trans c1 w1 (hb b L F o1 env1 A1 s1 r1 i1) fun _ _ _ => QC.trans c1 w1
    | rt v =>
      obtain ⟨x, A1, e1, p⟩ := h
      rw [e1]
      exact ⟨x, A1, rfl, p⟩
    | _ => trivial
  | ex z s1 =>
    rw [e] at h
    obtain ⟨x, env1, A', e1, p⟩ := h
    rw [e1]
    exact ⟨x, env1, A', rfl, p⟩
  | bad => trivial
/-! ### targets -/
end
def GT (μ : Md) (g : MG) (t : TV) (Γ Γ' : List Sl) : Prop := ∀ (L : Nat) (F : Nat → Prop) (own : List (Option Nat)) (env : Ev) (A : Hx) (x : AV), Rl μ L F own Γ env A → T (Cl F own) A x t → ∃ env', g x env = some env' ∧ Rl μ L F own Γ' env' A
def GTs (μ : Md) (g : MGs) (ts : List TV) (Γ Γ' : List Sl) : Prop := ∀ (L : Nat) (F : Nat → Prop) (own : List (Option Nat)) (env : Ev) (A : Hx) (xs : List AV), Rl μ L F own Γ env A → Ts (Cl F own) A xs ts → ∃ env', g xs env = some env' ∧ Rl μ L F own Γ' env' A
section
variable {μ : Md} {Γ Γ0 Γ1 Γ2 : List Sl} {α β γ ρ : Type} {t : TV} {ts : List TV}
theorem g_name {i : Nat} : GT μ (gNm i) t Γ (Γ.set i (.va t)) := fun L F own env A x r h => ⟨_, rfl, r.set i h⟩
theorem gs_nil : GTs μ gNl [] Γ Γ := fun L F own env A xs r h => by
  cases h
  exact ⟨env, rfl, r⟩
theorem gs_cons {g : MG} {gs : MGs} (h1 : GT μ g t Γ Γ1) (h2 : GTs μ gs ts Γ1 Γ2) : GTs μ (gCs g gs) (t :: ts) Γ Γ2 := fun L F own env A xs r h => by
  cases h with
  | cons a b =>
    obtain ⟨e1, q1, r1⟩ := h1 L F own env A _ r a
    obtain ⟨e2, q2, r2⟩ := h2 L F own e1 A _ r1 b
    exact ⟨e2, by rw [gCs, q1]; exact q2, r2⟩
theorem g_tup {gs : MGs} (h : GTs μ gs ts Γ Γ1) : GT μ (gTp gs) (.tup ts) Γ Γ1 := fun L F own env A x r q => by
  cases q with
  | tup a b => exact h L F own env A _ r a
theorem s_asg {g : MG} {ma : ME} {e1 : α → TV} {oa : M μ.σ α} {Γ' : α → List Sl} (ha : E μ Γ ma e1 oa) (hg : ∀ a, GT μ g (e1 a) Γ (Γ' a)) : SN μ Γ (mAsg g ma) Γ' oa := fun L F own env A s r inv => by
  have h := OutS.st (env := env) (k := fun x A1 => match g x env with
    | some e => .nx e A1
    | none => .bad) (ob := M.pure) (Q := QN μ L F own A Γ') (ha L F own env A s r inv) fun x A1 a s1 gr i1 p => by
      obtain ⟨env', q, r'⟩ := hg a L F own env A1 x (r.gr gr) p
      rw [q]
      exact ⟨_, A1, rfl, (After.refl r' i1).of gr⟩
  rw [M.bind_pure] at h
  exact h
theorem s_par {i j : Nat} {ms : MA} {oa : M μ.σ α} {e1 : α → TV} {e2 : α → TV} (ha : EA μ Γ ms (fun a => [e1 a, e2 a]) oa) : SN μ Γ (mPar i j ms) (fun a => (Γ.set i (.va (e1 a))).set j (.va (e2 a))) oa := fun L F own env A s r inv => by
  have h := OutS.st (env := env) (k := fun xs A1 => match xs with
    | [x, y] => .nx ((env.set i (some x)).set j (some y)) A1
    | _ => .bad) (ob := M.pure) (Q := QN μ L F own A fun a => (Γ.set i (.va (e1 a))).set j (.va (e2 a))) (ha L F own env A s r inv) fun xs A1 a s1 gr i1 p => by
      have p' : Ts (Cl F own) A1 xs [e1 a, e2 a] := p
      cases p' with
      | cons p1 p2 =>
        cases p2 with
        | cons p2 p3 =>
          cases p3
          exact ⟨_, A1, rfl, (After.refl (((r.gr gr).set i p1).set j p2) i1).of gr⟩
  rw [M.bind_pure] at h
  exact h
/-! ### what loops walk -/
def GdO (F : Nat → Prop) (A : Hx) (gd : Gd) : Prop := ∀ q, q ∈ gd → F q.1 ∧ Am.listOf A (.loc q.1) = some q.2
structure ItP (e : α → TV) (F : Nat → Prop) (A : Hx) (p : List AV × Gd) (xs : List α) : Prop where
  ts : Ts F A p.1 (xs.map e)
  ln : xs.length ≤ sizeLine
  gd : GdO F A p.2
abbrev EI (μ : Md) (Γ : List Sl) (mi : MI) (e : α → TV) (o : M μ.σ (List α)) : Prop := EG μ Γ mi (ItP e) o
theorem GdO.up {F G : Nat → Prop} {A A' : Hx} {gd : Gd} (h : ∀ n o, F n → A[n]? = some o → G n ∧ A'[n]? = some o) (q : GdO F A gd) : GdO G A' gd := fun p hp => by
  obtain ⟨h1, h2⟩ := q p hp
  cases e : A[p.1]? with
  | none => simp [Am.listOf, e] at h2
  | some o =>
    have h3 := h _ _ h1 e
    refine ⟨h3.1, ?_⟩
    unfold Am.listOf at h2 ⊢
    dsimp only at h2 ⊢
    rw [h3.2]
    rw [e] at h2
    exact h2
theorem GdO.ok {F : Nat → Prop} {A : Hx} {gd : Gd} (q : GdO F A gd) : okG gd A := fun p hp => (q p hp).2
def forL {σ : Type} (b : β → α → M σ β) : List α → β → M σ β
  | [], st => .pure st
  | x :: r, st => (b st x).bind fun st' => forL b r st'
def forC {σ : Type} (b : β → α → M σ (Ctl β ρ)) : List α → β → M σ (Ctl β ρ)
  | [], st => .pure (.nx st)
  | x :: r, st => (b st x).bind fun c => match c with
    | .nx st' => forC b r st'
    | .ct st' => forC b r st'
    | .bk st' => .pure (.nx st')
    | .rt v => .pure (.rt v)
theorem forN_ok {gd : Gd} {g : MG} {mb : MS} {e : α → TV} {Γl : β → List Sl} {Γb : β → α → List Sl} {ob : β → α → M μ.σ β} (hg : ∀ st x, GT μ g (e x) (Γl st) (Γb st x)) (hb : ∀ st x, SN μ (Γb st x) mb Γl (ob st x)) {L : Nat} {F : Nat → Prop} :
    ∀ (vs : List AV) (xs : List α) (st : β) (own : List (Option Nat)) (env : Ev) (A : Hx) (s : μ.σ), Ts (Cl F own) A vs (xs.map e) → GdO (Cl F own) A gd → Rl μ L F own (Γl st) env A → μ.inv s A → OutS μ own F A (QN μ L F own A Γl) (forV gd g mb vs env A) (forL ob xs st s)
  | [], [], st, own, env, A, s, _, hgd, r, inv => by
    unfold forV
    rw [if_pos hgd.ok]
    exact ⟨env, A, rfl, After.refl r inv⟩
  | [], _ :: _, _, _, _, _, _, h, _, _, _ => nomatch h
  | _ :: _, [], _, _, _, _, _, h, _, _, _ => nomatch h
  | v :: vs, x :: xs, st, own, env, A, s, .cons h1 h2, hgd, r, inv => by
    unfold forV
    rw [if_pos hgd.ok]
    obtain ⟨env1, q, r1⟩ := hg st x L F own env A v r h1
    rw [q]
    dsimp only
    have h := hb st x L F own env1 A s r1 inv
    unfold forL M.bind
    cases e : ob st x s with
    | ok c s1 =>
      rw [e] at h
      obtain ⟨env2, A2, e1, ⟨o2, r2, w2⟩, i2, c2⟩ := h
      rw [e1]
      exact OutS.trans c2 w2 (forN_ok hg hb vs xs c o2 env2 A2 s1 (h2.up (r1.stayC c2 w2)) (hgd.up (r1.stayC c2 w2)) r2 i2) fun _ _ _ => QN.trans c2 w2
    | ex z s1 =>
      rw [e] at h
      obtain ⟨x, env1, A', e1, p⟩ := h
      rw [e1]
      exact ⟨x, env1, A', rfl, p⟩
    | bad => trivial
theorem forC_ok {gd : Gd} {g : MG} {mb : MS} {e : α → TV} {er : ρ → TV} {Γl : β → List Sl} {Γb : β → α → List Sl} {ob : β → α → M μ.σ (Ctl β ρ)} (hg : ∀ st x, GT μ g (e x) (Γl st) (Γb st x)) (hb : ∀ st x, SC μ (Γb st x) mb Γl er (ob st x)) {L : Nat} {F : Nat → Prop} :
    ∀ (vs : List AV) (xs : List α) (st : β) (own : List (Option Nat)) (env : Ev) (A : Hx) (s : μ.σ), Ts (Cl F own) A vs (xs.map e) → GdO (Cl F own) A gd → Rl μ L F own (Γl st) env A → μ.inv s A → OutS μ own F A (QC μ L F own A Γl er) (forV gd g mb vs env A) (forC ob xs st s)
  | [], [], st, own, env, A, s, _, hgd, r, inv => by
    unfold forV
    rw [if_pos hgd.ok]
    exact ⟨env, A, rfl, After.refl r inv⟩
  | [], _ :: _, _, _, _, _, _, h, _, _, _ => nomatch h
  | _ :: _, [], _, _, _, _, _, h, _, _, _ => nomatch h
  | v :: vs, x :: xs, st, own, env, A, s, .cons h1 h2, hgd, r, inv => by
    unfold forV
    rw [if_pos hgd.ok]
    obtain ⟨env1, q, r1⟩ := hg st x L F own env A v r h1
    rw [q]
    dsimp only
    have h := hb st x L F own env1 A s r1 inv
    unfold forC M.bind
    cases e : ob st x s with
    | ok c s1 =>
      rw [e] at h
      cases c with
      | nx c =>
        obtain ⟨env2, A2, e1, ⟨o2, r2, w2⟩, i2, c2⟩ := h
        rw [e1]
        exact OutS.trans c2 w2 (forC_ok hg hb vs xs c o2 env2 A2 s1 (h2.up (r1.stayC c2 w2)) (hgd.up (r1.stayC c2 w2)) r2 i2) fun _ _ _ => QC.trans c2 w2
      | ct c =>
        obtain ⟨env2, A2, e1, ⟨o2, r2, w2⟩, i2, c2⟩ := h
        rw [e1]
        exact OutS.trans c2 w2 (forC_ok hg hb vs xs c o2 env2 A2 s1 (h2.up (r1.stayC c2 w2)) (hgd.up (r1.stayC c2 w2)) r2 i2) fun _ _ _ => QC.trans c2 w2
      | bk c =>
        obtain ⟨env2, A2, e1, a⟩ := h
        rw [e1]
        exact ⟨env2, A2, rfl, a⟩
      | rt v =>
        obtain ⟨y, A2, e1, a⟩ := h
        rw [e1]
        exact ⟨y, A2, rfl, a⟩
    | ex z s1 =>
      rw [e] at h
      obtain ⟨x, env1, A', e1, p⟩ := h
      rw [e1]
      exact ⟨x, env1, A', rfl, p⟩
    | bad => trivial
theorem s_for {mi : MI} {g : MG} {mb : MS} {e : α → TV} {Γl : β → List Sl} {Γb : β → α → List Sl} {oi : M μ.σ (List α)} {ob : β → α → M μ.σ β} (init : β) (hi : EI μ Γ mi e oi) (w : Wk Γ (Γl init)) (hg : ∀ st x, GT μ g (e x) (Γl st) (Γb st x)) (hb : ∀ st x, SN μ (Γb st x) mb Γl (ob st x)) :
    SN μ Γ (mFor mi g mb) Γl (oi.bind fun xs => forL ob xs init) := fun L F own env A s r inv =>
  OutS.st (env := env) (k := fun p A1 => forV p.2 g mb p.1 env A1) (hi L F own env A s r inv) fun p A1 xs s1 gr i1 q =>
    OutS.trans gr.ch Ow.refl (forN_ok hg hb p.1 xs init own env A1 s1 q.ts q.gd ((r.gr gr).wk w) i1) fun _ _ _ => QN.trans gr.ch Ow.refl
theorem s_forC {mi : MI} {g : MG} {mb : MS} {e : α → TV} {er : ρ → TV} {Γl : β → List Sl} {Γb : β → α → List Sl} {oi : M μ.σ (List α)} {ob : β → α → M μ.σ (Ctl β ρ)} (init : β) (hi : EI μ Γ mi e oi) (w : Wk Γ (Γl init)) (hg : ∀ st x, GT μ g (e x) (Γl st) (Γb st x)) (hb : ∀ st x, SC μ (Γb st x) mb Γl er (ob st x)) :
    SC μ Γ (mFor mi g mb) Γl er (oi.bind fun xs => forC ob xs init) := fun L F own env A s r inv =>
  OutS.st (env := env) (k := fun p A1 => forV p.2 g mb p.1 env A1) (hi L F own env A s r inv) fun p A1 xs s1 gr i1 q =>
    OutS.trans gr.ch Ow.refl (forC_ok hg hb p.1 xs init own env A1 s1 q.ts q.gd ((r.gr gr).wk w) i1) fun _ _ _ => QC.trans gr.ch Ow.refl
/-! ### while -/
def whileM {σ : Type} (c : β → M σ Bool) (b : β → M σ (Ctl β ρ)) : Nat → β → M σ (Ctl β ρ)
  | 0, _ => .bad
  | n + 1, st => (c st).bind fun k => if k then ((b st).bind fun c' => match c' with
    | .nx st' => whileM c b n st'
    | .ct st' => whileM c b n st'
    | .bk st' => .pure (.nx st')
    | .rt v => .pure (.rt v)) else .pure (.nx st)
theorem while_ok {mt : MT} {mb : MS} {er : ρ → TV} {Γl : β → List Sl} {oc : β → M μ.σ Bool} {ob : β → M μ.σ (Ctl β ρ)} (hc : ∀ st, EB μ (Γl st) mt (oc st)) (hb : ∀ st, SC μ (Γl st) mb Γl er (ob st)) {L : Nat} {F : Nat → Prop} :
    ∀ (n : Nat) (st : β) (own : List (Option Nat)) (env : Ev) (A : Hx) (s : μ.σ), Rl μ L F own (Γl st) env A → μ.inv s A → OutS μ own F A (QC μ L F own A Γl er) (whileV mt mb n env A) (whileM oc ob n st s)
  | 0, st, own, env, A, s, r, inv => by
    unfold whileM
    trivial
  | n + 1, st, own, env, A, s, r, inv => by
    unfold whileV whileM
    refine OutS.st (hc st L F own env A s r inv) fun k A1 k' s1 g i1 p => ?_
    cases p
    cases k with
    | false => exact ⟨env, A1, rfl, (After.refl (r.gr g) i1).of g⟩
    | true =>
      have h := hb st L F own env A1 s1 (r.gr g) i1
      refine OutS.trans g.ch Ow.refl (Q' := QC μ L F own A1 Γl er) ?_ fun _ _ _ => QC.trans g.ch Ow.refl
      simp only [if_true]
      unfold M.bind
      cases e : ob st s1 with
      | ok c s2 =>
        rw [e] at h
        cases c with
        | nx c =>
          obtain ⟨env2, A2, e1, ⟨o2, r2, w2⟩, i2, c2⟩ := h
          rw [e1]
          exact OutS.trans c2 w2 (while_ok hc hb n c o2 env2 A2 s2 r2 i2) fun _ _ _ => QC.trans c2 w2
        | ct c =>
          obtain ⟨env2, A2, e1, ⟨o2, r2, w2⟩, i2, c2⟩ := h
          rw [e1]
          exact OutS.trans c2 w2 (while_ok hc hb n c o2 env2 A2 s2 r2 i2) fun _ _ _ => QC.trans c2 w2
        | bk c =>
          obtain ⟨env2, A2, e1, a⟩ := h
          rw [e1]
          exact ⟨env2, A2, rfl, a⟩
        | rt v =>
          obtain ⟨y, A2, e1, a⟩ := h
          rw [e1]
          exact ⟨y, A2, rfl, a⟩
      | ex z s2 =>
        rw [e] at h
        obtain ⟨x, env1, A', e1, p⟩ := h
        rw [e1]
        exact ⟨x, env1, A', rfl, p⟩
      | bad => trivial
theorem s_while {mt : MT} {mb : MS} {er : ρ → TV} {Γl : β → List Sl} {oc : β → M μ.σ Bool} {ob : β → M μ.σ (Ctl β ρ)} (n : Nat) (init : β) (w : Wk Γ (Γl init)) (hc : ∀ st, EB μ (Γl st) mt (oc st)) (hb : ∀ st, SC μ (Γl st) mb Γl er (ob st)) :
    SC μ Γ (mWhile n mt mb) Γl er (whileM oc ob n init) := fun L F own env A s r inv => while_ok hc hb n init own env A s (r.wk w) inv
/-- a while whose body only goes on -/
def whileN {σ : Type} (c : β → M σ Bool) (b : β → M σ β) : Nat → β → M σ β
  | 0, _ => .bad
  | n + 1, st => (c st).bind fun k => if k then ((b st).bind fun st' => whileN c b n st') else .pure st
theorem whileN_ok {mt : MT} {mb : MS} {Γl : β → List Sl} {oc : β → M μ.σ Bool} {ob : β → M μ.σ β} (hc : ∀ st, EB μ (Γl st) mt (oc st)) (hb : ∀ st, SN μ (Γl st) mb Γl (ob st)) {L : Nat} {F : Nat → Prop} :
    ∀ (n : Nat) (st : β) (own : List (Option Nat)) (env : Ev) (A : Hx) (s : μ.σ), Rl μ L F own (Γl st) env A → μ.inv s A → OutS μ own F A (QN μ L F own A Γl) (whileV mt mb n env A) (whileN oc ob n st s)
  | 0, st, own, env, A, s, r, inv => by
    unfold whileN
    trivial
  | n + 1, st, own, env, A, s, r, inv => by
    unfold whileV whileN
    refine OutS.st (hc st L F own env A s r inv) fun k A1 k' s1 g i1 p => ?_
    cases p
    cases k with
    | false => exact ⟨env, A1, rfl, (After.refl (r.gr g) i1).of g⟩
    | true =>
      have h := hb st L F own env A1 s1 (r.gr g) i1
      refine OutS.trans g.ch Ow.refl (Q' := QN μ L F own A1 Γl) ?_ fun _ _ _ => QN.trans g.ch Ow.refl
      simp only [if_true]
      unfold M.bind
      cases e : ob st s1 with
      | ok c s2 =>
        rw [e] at h
        obtain ⟨env2, A2, e1, ⟨o2, r2, w2⟩, i2, c2⟩ := h
        rw [e1]
        exact OutS.trans c2 w2 (whileN_ok hc hb n c o2 env2 A2 s2 r2 i2) fun _ _ _ => QN.trans c2 w2
      | ex z s2 =>
        rw [e] at h
        obtain ⟨x, env1, A', e1, p⟩ := h
        rw [e1]
        exact ⟨x, env1, A', rfl, p⟩
      | bad => trivial
theorem s_whileN {mt : MT} {mb : MS} {Γl : β → List Sl} {oc : β → M μ.σ Bool} {ob : β → M μ.σ β} (n : Nat) (init : β) (w : Wk Γ (Γl init)) (hc : ∀ st, EB μ (Γl st) mt (oc st)) (hb : ∀ st, SN μ (Γl st) mb Γl (ob st)) :
    SN μ Γ (mWhile n mt mb) Γl (whileN oc ob n init) := fun L F own env A s r inv => whileN_ok hc hb n init own env A s (r.wk w) inv
end
end Bm

set_option Elab.async false
set_option linter.all false
set_option maxRecDepth 100000
set_option maxHeartbeats 1000000
/-! Bm3: comprehensions, lists that grow, calls of defs. -/
namespace Bm
open PySem PySem.Spec PyProof.Rows L2 Am
/-! ### comprehensions -/
def compM {σ α γ : Type} (oc : α → M σ Bool) (of : α → M σ γ) : List α → M σ (List γ)
  | [] => .pure []
  | x :: r => (oc x).noex.bind fun c => if c then ((of x).noex.bind fun y => (compM oc of r).bind fun ys => .pure (y :: ys)) else compM oc of r
theorem compM_cons {σ α γ : Type} (oc : α → M σ Bool) (of : α → M σ γ) (x : α) (r : List α) (s : σ) : compM oc of (x :: r) s = (match oc x s with
    | .ok c s1 => (match c with
      | true => (match of x s1 with
        | .ok y s2 => (match compM oc of r s2 with
          | .ok ys s3 => .ok (y :: ys) s3
          | .ex z s3 => .ex z s3
          | .bad => .bad)
        | _ => .bad)
      | false => compM oc of r s1)
    | _ => .bad) := by
  conv => lhs; unfold compM
  unfold M.bind M.noex
  cases oc x s with
  | ok c s1 =>
    cases c with
    | false => rfl
    | true =>
      show (match (match of x s1 with
        | .ex _ _ => Out.bad
        | o => o) with
        | .ok a s => ((compM oc of r).bind fun ys => M.pure (a :: ys)) s
        | .ex e s => Out.ex e s
        | .bad => Out.bad) = (match of x s1 with
        | .ok y s2 => (match compM oc of r s2 with
          | .ok ys s3 => .ok (y :: ys) s3
          | .ex z s3 => .ex z s3
          | .bad => .bad)
        | _ => .bad)
      cases of x s1 with
      | ok y s2 =>
        dsimp only
        unfold M.bind
        cases compM oc of r s2 <;> rfl
      | _ => rfl
  | _ => rfl
section
variable {μ : Md} {Γ Γw : List Sl} {α β γ : Type}
/-- names that are wiped -/
def wipeG (Γ : List Sl) : List Nat → List Sl
  | [] => Γ
  | v :: vs => (wipeG Γ vs).set v .no
theorem Rl.drop1 {L : Nat} {F : Nat → Prop} {own : List (Option Nat)} {env : Ev} {A : Hx} (r : Rl μ L F own Γ env A) (i : Nat) : Rl μ L F own (Γ.set i .no) (env.set i none) A where
  elen := by simp [r.elen]
  olen := by simp [r.olen]
  hL := r.hL
  up := r.up
  fp := r.fp
  ond := r.ond
  obd := r.obd
  sl := fun j g e => by
    by_cases hj : i = j
    · subst hj
      have hl : i < Γ.length := by
        have := some_lt e
        simpa using this
      rw [List.getElem?_set_self hl] at e
      cases e
      trivial
    · rw [List.getElem?_set_ne hj] at e
      have q := r.sl j g e
      cases g with
      | no => trivial
      | va u =>
        obtain ⟨y, h1, h2⟩ := q
        exact ⟨y, by rw [List.getElem?_set_ne hj]; exact h1, h2⟩
      | ow ts =>
        obtain ⟨n, xs, h1, h2, h3⟩ := q
        exact ⟨n, xs, h1, by rw [List.getElem?_set_ne hj]; exact h2, h3⟩
      | pt => exact (List.getElem?_set_ne hj).trans q
theorem Rl.wipe {L : Nat} {F : Nat → Prop} {own : List (Option Nat)} {env : Ev} {A : Hx} (r : Rl μ L F own Γ env A) : ∀ vs, Rl μ L F own (wipeG Γ vs) (wipeE env vs) A
  | [] => r
  | v :: vs => (Rl.wipe r vs).drop1 v
/-- without the list that grows -/
def Fx (F : Nat → Prop) (n : Nat) : Nat → Prop := fun k => F k ∧ k ≠ n
theorem Rl.fx {L : Nat} {F : Nat → Prop} {own : List (Option Nat)} {env : Ev} {A : Hx} {o : AO} (r : Rl μ L F own Γ env A) : Rl μ (A.length + 1) (Fx F A.length) own Γ env (A ++ [o]) := by
  have hcl : ∀ n o', Cl F own n → A[n]? = some o' → Cl (Fx F A.length) own n ∧ (A ++ [o])[n]? = some o' := fun n o' h e =>
    ⟨⟨⟨h.1, Nat.ne_of_lt (some_lt e)⟩, h.2⟩, by rw [List.getElem?_append_left (some_lt e)]; exact e⟩
  exact {
    elen := r.elen
    olen := r.olen
    hL := by simp
    up := fun n h => ⟨r.up n (by have := r.hL; omega), by omega⟩
    fp := ⟨by have := r.fp.1; have := r.hL; omega, fun n h q => r.fp.2 n h q.1⟩
    ond := r.ond
    obd := fun i n h => ⟨⟨(r.obd i n h).1, Nat.ne_of_lt (r.obd i n h).2⟩, by have := (r.obd i n h).2; simp; omega⟩
    sl := fun i g h => by
      have q := r.sl i g h
      cases g with
      | no => trivial
      | va t =>
        obtain ⟨x, h1, h2⟩ := q
        exact ⟨x, h1, h2.up hcl⟩
      | ow ts =>
        obtain ⟨n, xs, h1, h2, h3, h4, h5⟩ := q
        refine ⟨n, xs, h1, h2, ?_, h4.up hcl, h5⟩
        rw [List.getElem?_append_left (some_lt h3)]
        exact h3
      | pt => exact q }
theorem comp_ok {gd : Gd} {n : Nat} {g : MG} {mt : MT} {me : ME} {e : α → TV} {e2 : γ → TV} {vs : List Nat} {Γb : α → List Sl} {oc : α → M μ.σ Bool} {of : α → M μ.σ γ} (hg : ∀ x, GT μ g (e x) (wipeG Γ vs) (Γb x)) (ht : ∀ x, EB μ (Γb x) mt (oc x)) (he : ∀ x, E μ (Γb x) me e2 (of x)) {L : Nat} {F : Nat → Prop} {own : List (Option Nat)} {env : Ev} :
    ∀ (us : List AV) (xs : List α) (acc : List AV) (accs : List TV) (A : Hx) (s : μ.σ), Rl μ L (Fx F n) own Γ env A → μ.inv s A → Ts (Cl (Fx F n) own) A us (xs.map e) → GdO (Cl (Fx F n) own) A gd → A[n]? = some (.lst acc) → μ.lo ≤ n → ¬ Owned own n → Ts (Cl (Fx F n) own) A acc accs → accs.length + xs.length ≤ sizeLine →
    match compM oc of xs s with
    | .ok ys s' => ∃ A' zs, compV gd n g mt me env vs us A = .ok (.loc n) A' ∧ A'[n]? = some (.lst zs) ∧ Ts (Cl (Fx F n) own) A' zs (accs ++ ys.map e2) ∧ accs.length + ys.length ≤ sizeLine ∧ μ.inv s' A' ∧ A.length ≤ A'.length ∧ ∀ k, k < A.length → μ.lo ≤ k → k ≠ n → A'[k]? = A[k]?
    | .ex _ _ => False
    | .bad => True
  | [], [], acc, accs, A, s, r, inv, _, hgd, ha, _, _, hacc, hl => by
    unfold compM compV
    rw [if_pos hgd.ok]
    exact ⟨A, acc, rfl, ha, by simpa using hacc, by simpa using hl, inv, Nat.le_refl _, fun _ _ _ _ => rfl⟩
  | [], _ :: _, _, _, _, _, _, _, h, _, _, _, _, _, _ => nomatch h
  | _ :: _, [], _, _, _, _, _, _, h, _, _, _, _, _, _ => nomatch h
  | u :: us, x :: xs, acc, accs, A, s, r, inv, .cons h1 h2, hgd, ha, hlo, hno, hacc, hl => by
    rw [compM_cons]
    unfold compV
    rw [if_pos hgd.ok]
    obtain ⟨env1, q, r1⟩ := hg x L (Fx F n) own (wipeE env vs) A u (r.wipe vs) h1
    rw [q]
    dsimp only
    have h := ht x L (Fx F n) own env1 A s r1 inv
    simp only [List.length_cons] at hl
    have hnl := some_lt ha
    cases e : oc x s with
    | ex z s1 => trivial
    | bad => trivial
    | ok c s1 =>
      rw [e] at h
      obtain ⟨b, A1, e1, g1, i1, rfl⟩ := h
      rw [e1, R.noex_ok, R.bind_ok]
      dsimp only
      have ha1 : A1[n]? = some (.lst acc) := by rw [g1.st n hnl hlo]; exact ha
      have st1 := r.stayG g1
      cases b with
      | false =>
        dsimp only
        rw [if_neg Bool.false_ne_true]
        have ih := comp_ok hg ht he us xs acc accs A1 s1 (r.gr g1) i1 (h2.up st1) (hgd.up st1) ha1 hlo hno (hacc.up st1) (by omega)
        cases e3 : compM oc of xs s1 with
        | ok ys s3 =>
          rw [e3] at ih
          obtain ⟨A', zs, a1, a2, a3, a4, a5, a6, a7⟩ := ih
          refine ⟨A', zs, a1, a2, a3, a4, a5, Nat.le_trans g1.len a6, fun k k1 k2 k3 => ?_⟩
          exact (a7 k (Nat.lt_of_lt_of_le k1 g1.len) k2 k3).trans (g1.st k k1 k2)
        | ex z s3 => rw [e3] at ih; exact ih
        | bad => trivial
      | true =>
        dsimp only
        rw [if_pos rfl]
        have hy := he x L (Fx F n) own env1 A1 s1 (r1.gr g1) i1
        cases e2' : of x s1 with
        | ex z s2 => trivial
        | bad => trivial
        | ok y s2 =>
          rw [e2'] at hy
          obtain ⟨v, A2, e4, g2, i2, p2⟩ := hy
          rw [e4, R.noex_ok, R.bind_ok]
          dsimp only
          have ha2 : A2[n]? = some (.lst acc) := by rw [g2.st n (some_lt ha1) hlo]; exact ha1
          have hm : mutOf A2 (.loc n) = some (n, acc) := by simp [mutOf, ha2]
          rw [hm]
          dsimp only
          have hal : acc.length = accs.length := hacc.length
          rw [if_pos (by omega)]
          have r2 := (r.gr g1).gr g2
          have st2 := (r.gr g1).stayG g2
          -- the list grows
          have hset : ∀ k o, Cl (Fx F n) own k → A2[k]? = some o → Cl (Fx F n) own k ∧ (A2.set n (.lst (acc ++ [v])))[k]? = some o := fun k o hk hk2 =>
            ⟨hk, by rw [List.getElem?_set_ne (Ne.symm hk.1.2)]; exact hk2⟩
          have r3 : Rl μ L (Fx F n) own Γ env (A2.set n (.lst (acc ++ [v]))) := {
            elen := r2.elen
            olen := r2.olen
            hL := by rw [List.length_set]; exact r2.hL
            up := r2.up
            fp := r2.fp
            ond := r2.ond
            obd := fun i m h => by rw [List.length_set]; exact r2.obd i m h
            sl := fun i g h => by
              have q := r2.sl i g h
              cases g with
              | no => trivial
              | va t =>
                obtain ⟨x, q1, q2⟩ := q
                exact ⟨x, q1, q2.up hset⟩
              | ow ts =>
                obtain ⟨m, xs, q1, q2, q3, q4, q5⟩ := q
                refine ⟨m, xs, q1, q2, ?_, q4.up hset, q5⟩
                rw [List.getElem?_set_ne (fun z => hno ⟨i, by rw [z]; exact q1⟩)]
                exact q3
              | pt => exact q }
          have i3 : μ.inv s2 (A2.set n (.lst (acc ++ [v]))) := by
            obtain ⟨B, hB⟩ := i2
            refine ⟨B.set (n - μ.lo) (.lst (acc ++ [v])), ?_⟩
            rw [hB, List.set_append_right _ _ (by rw [μ.len]; exact hlo), μ.len]
          have st12 : ∀ k o, Cl (Fx F n) own k → A[k]? = some o → Cl (Fx F n) own k ∧ (A2.set n (.lst (acc ++ [v])))[k]? = some o := fun k o hk hk2 =>
            hset k o hk (st2 k o hk (st1 k o hk hk2).2).2
          have ih := comp_ok hg ht he us xs (acc ++ [v]) (accs ++ [e2 y]) (A2.set n (.lst (acc ++ [v]))) s2 r3 i3 (h2.up st12) (hgd.up st12) (by rw [List.getElem?_set_self (some_lt ha2)]) hlo hno ((hacc.up st12).app (.cons (p2.up hset) .nil)) (by simp; omega)
          cases e3 : compM oc of xs s2 with
          | ok ys s3 =>
            rw [e3] at ih
            obtain ⟨A', zs, a1, a2, a3, a4, a5, a6, a7⟩ := ih
            have hle : A.length ≤ A2.length := Nat.le_trans g1.len g2.len
            refine ⟨A', zs, a1, a2, by simpa using a3, by simp at a4 ⊢; omega, a5, ?_, fun k k1 k2 k3 => ?_⟩
            · rw [List.length_set] at a6
              omega
            · rw [a7 k (by rw [List.length_set]; omega) k2 k3, List.getElem?_set_ne (Ne.symm k3), g2.st k (Nat.lt_of_lt_of_le k1 g1.len) k2, g1.st k k1 k2]
          | ex z s3 => rw [e3] at ih; exact ih
          | bad => trivial
theorem e_comp {mi : MI} {g : MG} {mt : MT} {me : ME} {e : α → TV} {e2 : γ → TV} {vs : List Nat} {Γb : α → List Sl} {oi : M μ.σ (List α)} {oc : α → M μ.σ Bool} {of : α → M μ.σ γ} (hi : EI μ Γ mi e oi) (hg : ∀ x, GT μ g (e x) (wipeG Γ vs) (Γb x)) (ht : ∀ x, EB μ (Γb x) mt (oc x)) (he : ∀ x, E μ (Γb x) me e2 (of x)) :
    E μ Γ (mLc mi g mt me vs) (fun ys : List γ => TV.lst (ys.map e2)) (oi.bind fun xs => compM oc of xs) :=
  EG.bind (k := fun (env : Ev) (p : List AV × Gd) (A1 : Hx) => compV p.2 A1.length g mt me env vs p.1 (A1 ++ [AO.lst []])) (P' := PE_ fun ys : List γ => TV.lst (ys.map e2)) (ob := fun xs => compM oc of xs) hi fun L F own env p A xs s r inv q => by
    have hlo : μ.lo ≤ A.length := Nat.le_trans r.fp.1 r.hL
    have hno : ¬ Owned own A.length := fun ⟨i, h⟩ => Nat.lt_irrefl _ (r.obd i _ h).2
    have hcl : ∀ n o', Cl F own n → A[n]? = some o' → Cl (Fx F A.length) own n ∧ (A ++ [AO.lst []])[n]? = some o' := fun n o' h e =>
      ⟨⟨⟨h.1, Nat.ne_of_lt (some_lt e)⟩, h.2⟩, by rw [List.getElem?_append_left (some_lt e)]; exact e⟩
    have h := comp_ok (n := A.length) hg ht he p.1 xs [] [] (A ++ [.lst []]) s r.fx (Md.inv_gr inv) (q.ts.up hcl) (q.gd.up hcl) (by simp) hlo hno .nil (by simpa using q.ln)
    cases e3 : compM oc of xs s with
    | ok ys s3 =>
      rw [e3] at h
      obtain ⟨A', zs, a1, a2, a3, a4, a5, a6, a7⟩ := h
      refine ⟨.loc A.length, A', a1, ⟨by simp at a6; omega, fun k k1 k2 => ?_⟩, a5, .loc (r.new _ (Nat.le_refl _)) a2 ?_ (by simpa using a4)⟩
      · rw [a7 k (by simp; omega) k2 (Nat.ne_of_lt k1), List.getElem?_append_left k1]
      · have a3' : Ts (Cl (Fx F A.length) own) A' zs (ys.map e2) := by simpa using a3
        exact a3'.up fun k o hk hk2 => ⟨⟨hk.1.1, hk.2⟩, hk2⟩
    | ex z s3 => rw [e3] at h; exact h.elim
    | bad => trivial
theorem t_yes : EB μ Γ mYes (.pure true) := fun L F own env A s r i => OutR.pur i rfl
end
theorem compM_pure {σ α γ : Type} {c : α → Bool} {f : α → γ} : ∀ xs : List α, compM (σ := σ) (fun x => .pure (c x)) (fun x => .pure (f x)) xs = .pure ((xs.filter c).map f)
  | [] => rfl
  | x :: r => by
    unfold compM
    rw [M.noex_pure, M.pure_bind]
    cases h : c x with
    | false =>
      show compM _ _ r = _
      rw [compM_pure r]
      simp [h]
    | true =>
      show (compM _ _ r).bind _ = _
      rw [compM_pure r, M.pure_bind]
      simp [h]
theorem compM_map {σ α γ : Type} {f : α → γ} (xs : List α) : compM (σ := σ) (fun _ => .pure true) (fun x => .pure (f x)) xs = .pure (xs.map f) := by
  have h := compM_pure (σ := σ) (c := fun _ : α => true) (f := f) xs
  rwa [List.filter_eq_self.mpr (fun _ _ => rfl)] at h
/-! ### lists that grow -/
section
variable {μ : Md} {Γ : List Sl} {α β γ : Type} {e1 : α → TV} {L : Nat} {F : Nat → Prop} {own : List (Option Nat)} {env : Ev} {A : Hx}
/-- a list that is new, of clean things -/
def PF_ (e : α → TV) (n0 : Nat) : (Nat → Prop) → Hx → AV → List α → Prop := fun F A x xs => ∃ n zs, x = .loc n ∧ n0 ≤ n ∧ A[n]? = some (.lst zs) ∧ Ts (fun k => F k ∧ k ≠ n) A zs (xs.map e) ∧ xs.length ≤ sizeLine
def EF (μ : Md) (Γ : List Sl) (m : ME) (e : α → TV) (o : M μ.σ (List α)) : Prop :=
  ∀ (L : Nat) (F : Nat → Prop) (own : List (Option Nat)) (env : Ev) (A : Hx) (s : μ.σ), Rl μ L F own Γ env A → μ.inv s A → OutR μ A (PF_ e A.length (Cl F own)) (TX (Cl F own)) (m env A) (o s)
theorem Rl.setO (r : Rl μ L F own Γ env A) (i : Nat) (hi : i < Γ.length) {A0 : Hx} {n : Nat} {zs : List AV} {ts : List TV} (r0 : Rl μ L F own Γ env A0) (g : Gr μ A0 A) (hn : A0.length ≤ n) (h1 : A[n]? = some (.lst zs)) (h2 : Ts (fun k => Cl F own k ∧ k ≠ n) A zs ts) (h3 : ts.length ≤ sizeLine) :
    Rl μ L F (own.set i (some n)) (Γ.set i (.ow ts)) (env.set i (some (.loc n))) A := by
  have hno : ¬ Owned own n := fun ⟨j, h⟩ => Nat.lt_irrefl _ (Nat.lt_of_lt_of_le (r0.obd j n h).2 hn)
  have hown : ∀ (j m : Nat), (own.set i (some n))[j]? = some (some m) → (j = i ∧ m = n) ∨ (j ≠ i ∧ own[j]? = some (some m)) := fun j m h => by
    by_cases hj : i = j
    · subst hj
      rw [List.getElem?_set_self (by rw [r.olen]; exact hi)] at h
      cases h
      exact .inl ⟨rfl, rfl⟩
    · rw [List.getElem?_set_ne hj] at h
      exact .inr ⟨Ne.symm hj, h⟩
  have hnot : ∀ k, ¬ Owned own k → k ≠ n → ¬ Owned (own.set i (some n)) k := fun k h1 h2 ⟨j, h⟩ => by
    rcases hown j k h with ⟨_, q⟩ | ⟨_, q⟩
    · exact h2 q
    · exact h1 ⟨j, q⟩
  have hst : ∀ k o, Cl F own k → A0[k]? = some o → Cl F (own.set i (some n)) k ∧ A[k]? = some o := fun k o hk e =>
    ⟨⟨hk.1, hnot k hk.2 (Nat.ne_of_lt (Nat.lt_of_lt_of_le (some_lt e) hn))⟩, (r0.stayG g k o hk e).2⟩
  exact {
    elen := by simp [r.elen]
    olen := by simp [r.olen]
    hL := r.hL
    up := r.up
    fp := r.fp
    ond := fun j k m h h' => by
      rcases hown j m h with ⟨q1, q2⟩ | ⟨q1, q2⟩ <;> rcases hown k m h' with ⟨q3, q4⟩ | ⟨q3, q4⟩
      · omega
      · exact absurd ⟨k, by rw [← q2]; exact q4⟩ hno
      · exact absurd ⟨j, by rw [← q4]; exact q2⟩ hno
      · exact r.ond j k m q2 q4
    obd := fun j m h => by
      rcases hown j m h with ⟨_, q⟩ | ⟨_, q⟩
      · subst q
        exact ⟨r.up _ (Nat.le_trans r0.hL hn), some_lt h1⟩
      · exact r.obd j m q
    sl := fun j g e => by
      by_cases hj : i = j
      · subst hj
        rw [List.getElem?_set_self hi] at e
        cases e
        exact ⟨n, zs, by rw [List.getElem?_set_self (by rw [r.olen]; exact hi)], by rw [List.getElem?_set_self (by rw [r.elen]; exact hi)], h1, h2.up fun k o hk e => ⟨⟨hk.1.1, hnot k hk.1.2 hk.2⟩, e⟩, h3⟩
      · rw [List.getElem?_set_ne hj] at e
        have q := r0.sl j g e
        cases g with
        | no => trivial
        | va u =>
          obtain ⟨y, q1, q2⟩ := q
          exact ⟨y, by rw [List.getElem?_set_ne hj]; exact q1, q2.up hst⟩
        | ow us =>
          obtain ⟨m, xs, q1, q2, q3, q4, q5⟩ := q
          refine ⟨m, xs, by rw [List.getElem?_set_ne hj]; exact q1, by rw [List.getElem?_set_ne hj]; exact q2, ?_, q4.up hst, q5⟩
          have hb := r0.obd j m q1
          rw [g.st m hb.2 (r0.lo hb.1)]
          exact q3
        | pt => exact (List.getElem?_set_ne hj).trans q }
theorem s_setO {i : Nat} {ma : ME} {oa : M μ.σ (List α)} (hi : (decide (i < Γ.length)) = true) (ha : EF μ Γ ma e1 oa) : SN μ Γ (mSet i ma) (fun xs => Γ.set i (.ow (xs.map e1))) oa := fun L F own env A s r inv => by
  have hi := of_decide_eq_true hi
  have h := ha L F own env A s r inv
  unfold mSet
  cases e : oa s with
  | ok xs s1 =>
    rw [e] at h
    obtain ⟨x, A', q1, g, i1, n, zs, rfl, h2, h3, h4, h5⟩ := h
    rw [q1]
    refine ⟨_, A', rfl, ⟨_, (r.gr g).setO i hi r g h2 h3 h4 (by simpa using h5), fun m ⟨j, hm⟩ => ?_⟩, i1, g.ch⟩
    by_cases hj : i = j
    · subst hj
      rw [List.getElem?_set_self (by rw [r.olen]; exact hi)] at hm
      cases hm
      exact .inr h2
    · rw [List.getElem?_set_ne hj] at hm
      exact .inl ⟨j, hm⟩
  | ex z s1 =>
    rw [e] at h
    obtain ⟨x, A', q1, g, i1, p⟩ := h
    rw [q1]
    exact ⟨x, env, A', rfl, p.toF, i1, g.ch⟩
  | bad => trivial
/-- a list that grew is a value from now on -/
theorem Rl.freeze (r : Rl μ L F own Γ env A) {i : Nat} {ts : List TV} (h : Γ[i]? = some (.ow ts)) : Rl μ L F (own.set i none) (Γ.set i (.va (.lst ts))) env A := by
  have hl := some_lt h
  have hown : ∀ (j m : Nat), (own.set i none)[j]? = some (some m) → own[j]? = some (some m) := fun j m q => by
    by_cases hj : i = j
    · subst hj
      rw [List.getElem?_set_self (by rw [r.olen]; exact hl)] at q
      cases q
    · rw [List.getElem?_set_ne hj] at q
      exact q
  have hcl : ∀ k o, Cl F own k → A[k]? = some o → Cl F (own.set i none) k ∧ A[k]? = some o := fun k o hk e => ⟨⟨hk.1, fun ⟨j, q⟩ => hk.2 ⟨j, hown j k q⟩⟩, e⟩
  exact {
    elen := by simp [r.elen]
    olen := by simp [r.olen]
    hL := r.hL
    up := r.up
    fp := r.fp
    ond := fun j k m q q' => r.ond j k m (hown j m q) (hown k m q')
    obd := fun j m q => r.obd j m (hown j m q)
    sl := fun j g e => by
      by_cases hj : i = j
      · subst hj
        rw [List.getElem?_set_self hl] at e
        cases e
        obtain ⟨n, xs, q1, q2, q3, q4, q5⟩ := r.sl i _ h
        refine ⟨_, q2, .loc ⟨(r.obd i n q1).1, fun ⟨j, q⟩ => ?_⟩ q3 (q4.up hcl) q5⟩
        have hji := r.ond j i n (hown j n q) q1
        subst hji
        rw [List.getElem?_set_self (by rw [r.olen]; exact hl)] at q
        cases q
      · rw [List.getElem?_set_ne hj] at e
        have q := r.sl j g e
        cases g with
        | no => trivial
        | va u =>
          obtain ⟨y, q1, q2⟩ := q
          exact ⟨y, q1, q2.up hcl⟩
        | ow us =>
          obtain ⟨m, xs, q1, q2, q3, q4, q5⟩ := q
          exact ⟨m, xs, by rw [List.getElem?_set_ne hj]; exact q1, q2, q3, q4.up hcl, q5⟩
        | pt => exact q }
theorem Ow.freeze {i : Nat} : Ow own A (own.set i none) := fun m ⟨j, hm⟩ => by
  by_cases hj : i = j
  · subst hj
    rw [List.getElem?_set] at hm
    simp only [if_true] at hm
    split at hm
    · cases hm
    · cases hm
  · rw [List.getElem?_set_ne hj] at hm
    exact .inl ⟨j, hm⟩
theorem s_frzN {i : Nat} {m : MS} {ts : List TV} {Γ' : β → List Sl} {o : M μ.σ β} (h : Γ[i]? = some (.ow ts)) (hs : SN μ (Γ.set i (.va (.lst ts))) m Γ' o) : SN μ Γ m Γ' o := fun L F own env A s r inv =>
  OutS.trans Ch.refl Ow.freeze (hs L F _ env A s (r.freeze h) inv) fun _ _ _ => QN.trans Ch.refl Ow.freeze
theorem s_frzR {i : Nat} {m : MS} {ts : List TV} {er : β → TV} {o : M μ.σ β} (h : Γ[i]? = some (.ow ts)) (hs : SR μ (Γ.set i (.va (.lst ts))) m er o) : SR μ Γ m er o := fun L F own env A s r inv =>
  OutS.trans Ch.refl Ow.freeze (hs L F _ env A s (r.freeze h) inv) fun _ _ _ => QR.trans Ch.refl Ow.freeze
theorem s_frzC {ρ : Type} {i : Nat} {m : MS} {ts : List TV} {Γ' : β → List Sl} {er : ρ → TV} {o : M μ.σ (Ctl β ρ)} (h : Γ[i]? = some (.ow ts)) (hs : SC μ (Γ.set i (.va (.lst ts))) m Γ' er o) : SC μ Γ m Γ' er o := fun L F own env A s r inv =>
  OutS.trans Ch.refl Ow.freeze (hs L F _ env A s (r.freeze h) inv) fun _ _ _ => QC.trans Ch.refl Ow.freeze
/-- an owned list's content changes -/
theorem Rl.mut (r : Rl μ L F own Γ env A) {i n : Nat} {us ts : List TV} {xs zs : List AV} (h : Γ[i]? = some (.ow us)) (q1 : own[i]? = some (some n)) (q2 : env[i]? = some (some (.loc n))) (q3 : A[n]? = some (.lst xs)) (h2 : Ts (Cl F own) A zs ts) (h3 : ts.length ≤ sizeLine) : Rl μ L F own (Γ.set i (.ow ts)) env (A.set n (.lst zs)) := by
  have hl := some_lt h
  have hcl : ∀ k o, Cl F own k → A[k]? = some o → Cl F own k ∧ (A.set n (.lst zs))[k]? = some o := fun k o hk e => ⟨hk, by
    rw [List.getElem?_set_ne fun z => hk.2 ⟨i, by rw [← z]; exact q1⟩]
    exact e⟩
  exact {
    elen := by simp [r.elen]
    olen := by simp [r.olen]
    hL := by rw [List.length_set]; exact r.hL
    up := r.up
    fp := r.fp
    ond := r.ond
    obd := fun j m q => by rw [List.length_set]; exact r.obd j m q
    sl := fun j g e => by
      by_cases hj : i = j
      · subst hj
        rw [List.getElem?_set_self hl] at e
        cases e
        exact ⟨n, zs, q1, q2, by rw [List.getElem?_set_self (some_lt q3)], h2.up hcl, h3⟩
      · rw [List.getElem?_set_ne hj] at e
        have q := r.sl j g e
        cases g with
        | no => trivial
        | va u =>
          obtain ⟨y, q1, q2⟩ := q
          exact ⟨y, q1, q2.up hcl⟩
        | ow us =>
          obtain ⟨m, xs, p1, p2, p3, p4, p5⟩ := q
          refine ⟨m, xs, p1, p2, ?_, p4.up hcl, p5⟩
          rw [List.getElem?_set_ne fun z => hj (r.ond i j n q1 (by rw [z]; exact p1))]
          exact p3
        | pt => exact q }
theorem inv_mut {s : μ.σ} {n : Nat} {o : AO} (r : Rl μ L F own Γ env A) {i : Nat} (q1 : own[i]? = some (some n)) (inv : μ.inv s A) : μ.inv s (A.set n o) := by
  have hlo := r.lo (r.obd i n q1).1
  obtain ⟨B, hB⟩ := inv
  exact ⟨B.set (n - μ.lo) o, by rw [hB, List.set_append_right _ _ (by rw [μ.len]; exact hlo), μ.len]⟩
theorem ch_mut {n : Nat} {o : AO} {i : Nat} (q1 : own[i]? = some (some n)) : Ch μ own A (A.set n o) :=
  ⟨by simp, fun k _ _ h => by rw [List.getElem?_set_ne fun z => h ⟨i, by rw [← z]; exact q1⟩]⟩
noncomputable def apM {σ : Type} (xs : List α) (a : α) : M σ (List α) := chk (xs.length < sizeLine) (.pure (xs ++ [a]))
def putM {σ : Type} (xs : List α) (i : Int) (a : α) : M σ (List α) := match ixN xs.length i with
  | some j => .pure (xs.set j a)
  | none => .bad
theorem s_append {i : Nat} {ma : ME} {xs : List α} {oa : M μ.σ α} (h : Γ[i]? = some (.ow (xs.map e1))) (ha : E μ Γ ma e1 oa) : SN μ Γ (mDrop (mBM "list" tyL oAppend (mVar i) (mCons ma mNil))) (fun ys : List α => Γ.set i (.ow (ys.map e1))) (oa.bind fun a => apM xs a) := fun L F own env A s r inv => by
  obtain ⟨n, zs, q1, q2, q3, q4, q5⟩ := r.sl i _ h
  have hv : mVar i env A = .ok (.loc n) A := by
    unfold mVar
    rw [q2]
  have ht : tyL (.loc n) A = true := by
    unfold tyL Am.listOf
    dsimp only
    rw [q3]
    rfl
  have e : mDrop (mBM "list" tyL oAppend (mVar i) (mCons ma mNil)) env A = (ma env A).st env fun x A1 => (oAppend (.loc n) [x] A1).st env fun _ A2 => .nx env A2 := by
    unfold mDrop mBM
    rw [hv, R.bind_ok, if_pos ht]
    unfold mCons
    cases ma env A <;> rfl
  rw [e]
  refine OutS.st (ha L F own env A s r inv) fun x A1 a s1 g i1 p => ?_
  have r1 := r.gr g
  have hb := r.obd i n q1
  have q3' : A1[n]? = some (.lst zs) := by rw [g.st n hb.2 (r.lo hb.1)]; exact q3
  have q4' := q4.up (r.stayG g)
  have hzl := q4.length
  unfold apM oAppend
  rw [chk_ite]
  have hm : mutOf A1 (.loc n) = some (n, zs) := by simp [mutOf, q3']
  rw [List.length_map] at hzl
  dsimp only
  rw [hm]
  dsimp only
  rw [hzl]
  split
  · rename_i hlt
    refine ⟨env, _, rfl, ⟨own, r1.mut h q1 q2 q3' (zs := zs ++ [x]) (ts := (xs ++ [a]).map e1) ?_ (by simp; omega), fun m hm => .inl hm⟩, inv_mut r1 q1 i1, g.ch.trans Ow.refl (ch_mut q1)⟩
    rw [List.map_append]
    exact q4'.app (.cons p .nil)
  · trivial
theorem s_put {i : Nat} {mv mi : ME} {xs : List α} {oa : M μ.σ α} {ok : M μ.σ Int} (h : Γ[i]? = some (.ow (xs.map e1))) (ha : E μ Γ mv e1 oa) (hk : E μ Γ mi TV.int ok) : SN μ Γ (mPut mv (mVar i) mi) (fun ys : List α => Γ.set i (.ow (ys.map e1))) (oa.bind fun a => ok.bind fun k => putM xs k a) := fun L F own env A s r inv => by
  obtain ⟨n, zs, q1, q2, q3, q4, q5⟩ := r.sl i _ h
  unfold mPut
  refine OutS.st (ha L F own env A s r inv) fun x A1 a s1 g i1 p => ?_
  have hv : mVar i env A1 = .ok (.loc n) A1 := by
    unfold mVar
    rw [q2]
  rw [hv, R.st_ok]
  have r1 := r.gr g
  refine OutS.trans g.ch Ow.refl (Q' := QN μ L F own A1 fun ys : List α => Γ.set i (.ow (ys.map e1))) ?_ fun _ _ _ => QN.trans g.ch Ow.refl
  refine OutS.st (hk L F own env A1 s1 r1 i1) fun z A2 k s2 g2 i2 p2 => ?_
  cases p2
  have hb := r.obd i n q1
  have q3' : A1[n]? = some (.lst zs) := by rw [g.st n hb.2 (r.lo hb.1)]; exact q3
  have hb1 := r1.obd i n q1
  have q3'' : A2[n]? = some (.lst zs) := by rw [g2.st n hb1.2 (r1.lo hb1.1)]; exact q3'
  have q4' := (q4.up (r.stayG g)).up (r1.stayG g2)
  have hzl := q4.length
  rw [List.length_map] at hzl
  unfold setIx putM
  have hm : mutOf A2 (.loc n) = some (n, zs) := by simp [mutOf, q3'']
  dsimp only
  rw [hm]
  dsimp only
  rw [hzl]
  cases ej : ixN xs.length k with
  | none => trivial
  | some j =>
    have r2 := r1.gr g2
    refine ⟨env, _, rfl, ⟨own, r2.mut h q1 q2 q3'' (zs := zs.set j x) (ts := (xs.set j a).map e1) ?_ (by simpa using q5), fun m hm => .inl hm⟩, inv_mut r2 q1 i2, g2.ch.trans Ow.refl (ch_mut q1)⟩
    rw [List.map_set]
    exact q4'.set j (p.up (r1.stayG g2))
end
end Bm

set_option Elab.async false
set_option linter.all false
set_option maxRecDepth 100000
set_option maxHeartbeats 1000000
/-! Bm4: defs; calls; the state. -/
namespace Bm
open PySem PySem.Spec PyProof.Rows L2 Am
/-- the names at a def's begin -/
def G0 (ts : List TV) (l : Nat) : List Sl := ts.map .va ++ List.replicate l .no
theorem owned_none {m n : Nat} : ¬ Owned (List.replicate m none) n := fun ⟨i, h⟩ => by
  rw [List.getElem?_replicate] at h
  split at h
  · cases h
  · cases h
theorem G0_at : ∀ {F : Nat → Prop} {A : Hx} {xs : List AV} {ts : List TV} {l i : Nat} {g : Sl}, Ts F A xs ts → (G0 ts l)[i]? = some g → (∃ t x, g = .va t ∧ (xs.map some ++ List.replicate l none : Ev)[i]? = some (some x) ∧ T F A x t) ∨ g = .no
  | F, A, [], [], l, i, g, .nil, h => by
    unfold G0 at h
    rw [List.map_nil, List.nil_append, List.getElem?_replicate] at h
    split at h
    · cases h
      exact .inr rfl
    · cases h
  | F, A, x :: xs, t :: ts, l, 0, g, .cons a b, h => by
    cases h
    exact .inl ⟨t, x, rfl, rfl, a⟩
  | F, A, x :: xs, t :: ts, l, i + 1, g, .cons a b, h => G0_at (l := l) (i := i) b h
section
variable {α ρ : Type}
theorem Rl.start {μ : Md} {F : Nat → Prop} {A : Hx} {xs : List AV} {ts : List TV} {l : Nat} (hf : ∀ n, A.length ≤ n → F n) (hlo : μ.lo ≤ A.length) (hp : ∀ n, n < μ.lo → ¬ F n) (h : Ts F A xs ts) :
    Rl μ A.length F (List.replicate (xs.length + l) none) (G0 ts l) (xs.map some ++ List.replicate l none) A where
  elen := by simp [G0, h.length]
  olen := by simp [G0, h.length]
  hL := Nat.le_refl _
  up := hf
  fp := ⟨hlo, hp⟩
  ond := fun i j n q => absurd ⟨i, q⟩ owned_none
  obd := fun i n q => absurd ⟨i, q⟩ owned_none
  sl := fun i g e => by
    rcases G0_at h e with ⟨t, x, rfl, q1, q2⟩ | rfl
    · exact ⟨x, q1, q2.up fun n o f e => ⟨⟨f, owned_none⟩, e⟩⟩
    · trivial
theorem ch_app {own : List (Option Nat)} {A A' : Hx} (c : Ch pureM own A A') (h : ∀ n, ¬ Owned own n) : ∃ J, A' = A ++ J := by
  refine ⟨A'.drop A.length, ?_⟩
  have : A = A'.take A.length := by
    apply List.ext_getElem?
    intro n
    by_cases hn : n < A.length
    · rw [List.getElem?_take_of_lt hn, c.st n hn (Nat.zero_le _) (h n)]
    · rw [List.getElem?_eq_none_iff.mpr (by omega), List.getElem?_eq_none_iff.mpr (by simp; omega)]
  conv => lhs; rw [← List.take_append_drop A.length A', ← this]
/-- a def of the text, told of values -/
theorem def_of {n l : Nat} {mb : MS} {el : α → List TV} {er : ρ → TV} {f : α → M Unit ρ} (hn : ∀ a, (el a).length = n) (h : ∀ a, SR pureM (G0 (el a) l) mb er (f a)) : FnL (fdef0 n l mb) el er f := fun F A xs a hf hx => by
  have q := h a A.length F (List.replicate (xs.length + l) none) (xs.map some ++ List.replicate l none) A () (Rl.start hf (Nat.zero_le _) (fun n z => absurd z (Nat.not_lt_zero n)) hx) ⟨A, rfl⟩
  unfold fdef0
  rw [if_pos (by rw [hx.length, hn])]
  cases e : f a () with
  | ok c s =>
    rw [e] at q
    obtain ⟨x, A', e1, t, i, c1⟩ := q
    obtain ⟨J, rfl⟩ := ch_app c1 fun _ => owned_none
    rw [e1]
    exact ⟨x, J, rfl, t⟩
  | ex z s =>
    rw [e] at q
    obtain ⟨x, env', A', e1, t, i, c1⟩ := q
    obtain ⟨J, rfl⟩ := ch_app c1 fun _ => owned_none
    rw [e1]
    exact ⟨x, J, rfl, t⟩
  | bad => trivial
/-- .. that tells nothing -/
theorem def_ofN {β : Type} {n l : Nat} {mb : MS} {el : α → List TV} {Γ' : α → β → List Sl} {f : α → M Unit β} (hn : ∀ a, (el a).length = n) (h : ∀ a, SN pureM (G0 (el a) l) mb (Γ' a) (f a)) : FnL (fdef0 n l mb) el (fun _ : Unit => TV.non) (fun a => (f a).bind fun _ => .pure ()) := fun F A xs a hf hx => by
  have q := h a A.length F (List.replicate (xs.length + l) none) (xs.map some ++ List.replicate l none) A () (Rl.start hf (Nat.zero_le _) (fun n z => absurd z (Nat.not_lt_zero n)) hx) ⟨A, rfl⟩
  unfold fdef0
  rw [if_pos (by rw [hx.length, hn])]
  unfold M.bind
  dsimp only
  cases e : f a () with
  | ok c s =>
    rw [e] at q
    obtain ⟨env', A', e1, t, i, c1⟩ := q
    obtain ⟨J, rfl⟩ := ch_app c1 fun _ => owned_none
    rw [e1]
    exact ⟨.non, J, rfl, .non⟩
  | ex z s =>
    rw [e] at q
    obtain ⟨x, env', A', e1, t, i, c1⟩ := q
    obtain ⟨J, rfl⟩ := ch_app c1 fun _ => owned_none
    rw [e1]
    exact ⟨x, J, rfl, t⟩
  | bad => trivial
/-! ### defs that change the state: the pot is their first argument -/
def FnS (μ : Md) (m : List AV → Hx → R AV) (el : α → List TV) (er : ρ → TV) (f : α → M μ.σ ρ) : Prop := ∀ (F : Nat → Prop) (A : Hx) (xs : List AV) (a : α) (s : μ.σ), (∀ n, A.length ≤ n → F n) → (∀ n, n < μ.lo → ¬ F n) → μ.inv s A → Ts F A xs (el a) →
  OutR μ A (PE_ er F) (TX F) (m (.loc μ.pot :: xs) A) (f a s)
theorem ch_gr {μ : Md} {own : List (Option Nat)} {A A' : Hx} (c : Ch μ own A A') (h : ∀ n, ¬ Owned own n) : Gr μ A A' := ⟨c.len, fun n q p => c.st n q p (h n)⟩
theorem inv_lo {μ : Md} {s : μ.σ} {A : Hx} (i : μ.inv s A) : μ.lo ≤ A.length := by
  obtain ⟨B, rfl⟩ := i
  rw [List.length_append, μ.len]
  exact Nat.le_add_right _ _
theorem Rl.startS {μ : Md} {F : Nat → Prop} {A : Hx} {s : μ.σ} {xs : List AV} {ts : List TV} {l : Nat} (hf : ∀ n, A.length ≤ n → F n) (i : μ.inv s A) (hp : ∀ n, n < μ.lo → ¬ F n) (h : Ts F A xs ts) :
    Rl μ A.length F (List.replicate (xs.length + l + 1) none) (.pt :: G0 ts l) (some (.loc μ.pot) :: (xs.map some ++ List.replicate l none)) A := by
  have r := Rl.start (l := l) hf (inv_lo i) hp h
  exact {
    elen := by simpa using r.elen
    olen := by simpa using r.olen
    hL := r.hL
    up := r.up
    fp := r.fp
    ond := fun i j n q => absurd ⟨i, q⟩ owned_none
    obd := fun i n q => absurd ⟨i, q⟩ owned_none
    sl := fun i g e => by
      cases i with
      | zero => cases e; rfl
      | succ i =>
        have q := r.sl i g (by simpa using e)
        cases g with
        | no => trivial
        | va t =>
          obtain ⟨x, q1, q2⟩ := q
          exact ⟨x, q1, q2.up fun n o f e => ⟨⟨f.1, owned_none⟩, e⟩⟩
        | ow ts =>
          obtain ⟨n, xs, q1, _⟩ := q
          exact absurd ⟨i, q1⟩ owned_none
        | pt => exact q }
theorem def_ofS {μ : Md} {n l : Nat} {mb : MS} {el : α → List TV} {er : ρ → TV} {f : α → M μ.σ ρ} (hn : ∀ a, (el a).length + 1 = n) (h : ∀ a, SR μ (.pt :: G0 (el a) l) mb er (f a)) : FnS μ (fdef0 n l mb) el er f := fun F A xs a s hf hp inv hx => by
  have q := h a A.length F _ _ A s (Rl.startS (l := l) hf inv hp hx) inv
  unfold fdef0
  rw [if_pos (by rw [List.length_cons, hx.length, hn])]
  cases e : f a s with
  | ok c s =>
    rw [e] at q
    obtain ⟨x, A', e1, t, i, c1⟩ := q
    rw [List.map_cons, List.cons_append, e1]
    exact ⟨x, A', rfl, ch_gr c1 fun _ => owned_none, i, t⟩
  | ex z s =>
    rw [e] at q
    obtain ⟨x, env', A', e1, t, i, c1⟩ := q
    rw [List.map_cons, List.cons_append, e1]
    exact ⟨x, A', rfl, ch_gr c1 fun _ => owned_none, i, t⟩
  | bad => trivial
theorem def_ofSN {β : Type} {μ : Md} {n l : Nat} {mb : MS} {el : α → List TV} {Γ' : α → β → List Sl} {f : α → M μ.σ β} (hn : ∀ a, (el a).length + 1 = n) (h : ∀ a, SN μ (.pt :: G0 (el a) l) mb (Γ' a) (f a)) : FnS μ (fdef0 n l mb) el (fun _ : Unit => TV.non) (fun a => (f a).bind fun _ => .pure ()) := fun F A xs a s hf hp inv hx => by
  have q := h a A.length F _ _ A s (Rl.startS (l := l) hf inv hp hx) inv
  unfold fdef0
  rw [if_pos (by rw [List.length_cons, hx.length, hn])]
  unfold M.bind
  dsimp only
  cases e : f a s with
  | ok c s =>
    rw [e] at q
    obtain ⟨env', A', e1, ⟨own', r', w⟩, i, c1⟩ := q
    rw [List.map_cons, List.cons_append, e1]
    exact ⟨.non, A', rfl, ch_gr c1 fun _ => owned_none, i, .non⟩
  | ex z s =>
    rw [e] at q
    obtain ⟨x, env', A', e1, t, i, c1⟩ := q
    rw [List.map_cons, List.cons_append, e1]
    exact ⟨x, A', rfl, ch_gr c1 fun _ => owned_none, i, t⟩
  | bad => trivial
end
section
variable {μ : Md} {Γ : List Sl} {α β γ ρ : Type}
theorem e_callS {f : List AV → Hx → R AV} {el : α → List TV} {e : γ → TV} {mr : MA} {g : α → M μ.σ γ} {oa : M μ.σ α} {i : Nat} (H : FnS μ f el e g) (hp : Γ[i]? = some .pt) (ha : EA μ Γ mr el oa) : E μ Γ (mCB f (mCons (mVar i) mr)) e (oa.bind g) := fun L F own env A s r inv => by
  have hv : mVar i env A = .ok (.loc μ.pot) A := by
    unfold mVar
    rw [r.sl i _ hp]
  have e1 : mCB f (mCons (mVar i) mr) env A = (mr env A).bind fun xs A1 => f (.loc μ.pot :: xs) A1 := by
    unfold mCB mCons
    rw [hv, R.bind_ok]
    cases mr env A <;> rfl
  rw [e1]
  exact (ha L F own env A s r inv).bind fun xs A1 a s1 g1 i1 p => H (Cl F own) A1 xs a s1 (r.gr g1).newF (fun n hn q => r.fp.2 n hn q.1) i1 p
theorem e_callS1 {f : List AV → Hx → R AV} {e1 : α → TV} {e : γ → TV} {ma : ME} {g : α → M μ.σ γ} {a : α} {i : Nat} (H : FnS μ f (fun a => [e1 a]) e g) (hp : Γ[i]? = some .pt) (ha : E μ Γ ma e1 (.pure a)) : E μ Γ (mCB f (mCons (mVar i) (mCons ma mNil))) e (g a) := e_callS H hp (a_one ha)
/-- a pot's item: things[draw(pot, len(things))] of a list that may be one that grows is a thing of it -/
theorem EG.ret {β α : Type} {m : Ev → Hx → R β} {P : (Nat → Prop) → Hx → β → α → Prop} {o : M μ.σ α} (h : EG μ Γ m P o) : EG μ Γ m P (o.bind M.pure) := by rwa [M.bind_pure]
end
end Bm

set_option Elab.async false
set_option linter.all false
set_option maxRecDepth 100000
set_option maxHeartbeats 2000000
/-! Bm5: operations on values. -/
namespace Bm
open PySem PySem.Spec PyProof.Rows L2 Am
section
variable {F : Nat → Prop} {A : Hx} {x y : AV}
theorem Res.same {γ : Type} {e : γ → TV} {z : AV} {c : γ} (h : T F A z (e c)) : Res F A (.ok z A) e (.ok c ()) := ⟨z, [], by simp, by simpa using h⟩
theorem Res.new {γ : Type} {e : γ → TV} {xs : List AV} {ts : List TV} {c : γ} (hf : ∀ n, A.length ≤ n → F n) (h : Ts F A xs ts) (l : ts.length ≤ sizeLine) (he : e c = .lst ts) : Res F A (.ok (.loc A.length) (A ++ [.lst xs])) e (.ok c ()) :=
  ⟨_, [.lst xs], rfl, by
    rw [he]
    refine .loc (hf _ (Nat.le_refl _)) (by simp) (h.up fun n o f q => ⟨f, ?_⟩) l
    rw [List.getElem?_append_left (some_lt q)]
    exact q⟩
theorem tInt {i : Int} (h : T F A x (.int i)) : x = .int i := by cases h; rfl
theorem tBl {i : Bool} (h : T F A x (.bl i)) : x = .bl i := by cases h; rfl
theorem tStr {i : Str} (h : T F A x (.str i)) : x = .str i := by cases h; rfl
theorem tNon (h : T F A x .non) : x = .non := by cases h; rfl
theorem tTup {ts : List TV} (h : T F A x (.tup ts)) : ∃ xs, x = .tup xs ∧ Ts F A xs ts ∧ ts.length ≤ sizeLine := by
  cases h with
  | tup a b => exact ⟨_, rfl, a, b⟩
theorem tLoc {ts : List TV} (h : T F A x (.lst ts)) : ∃ n xs, x = .loc n ∧ F n ∧ A[n]? = some (.lst xs) ∧ Ts F A xs ts ∧ ts.length ≤ sizeLine := by
  cases h with
  | loc f e a b => exact ⟨_, _, rfl, f, e, a, b⟩
theorem tLst {ts : List TV} (h : T F A x (.lst ts)) : ∃ xs, Am.listOf A x = some xs ∧ Ts F A xs ts ∧ ts.length ≤ sizeLine ∧ ∀ zs, x ≠ .tup zs := by
  cases h with
  | loc f e a b => exact ⟨_, by simp [Am.listOf, e], a, b, by simp⟩
end
/-- from values of any kind to values of a kind -/
theorem Fn1.ty {α γ : Type} {f : AV → Hx → R AV} {e1 : α → TV} {e : γ → TV} {gT : TV → M Unit TV} {g : α → M Unit γ} (H : Fn1 f id id gT) (h : ∀ a, gT (e1 a) = (g a).bind fun c => .pure (e c)) : Fn1 f e1 e g := fun F A x a hf hx => by
  have q := H F A x (e1 a) hf hx
  rw [h] at q
  unfold M.bind at q
  cases o : g a () with
  | ok c s => rw [o] at q; exact q
  | ex c s => rw [o] at q; exact q
  | bad => trivial
theorem Fn2.ty {α β γ : Type} {f : AV → AV → Hx → R AV} {e1 : α → TV} {e2 : β → TV} {e : γ → TV} {gT : TV → TV → M Unit TV} {g : α → β → M Unit γ} (H : Fn2 f id id id gT) (h : ∀ a b, gT (e1 a) (e2 b) = (g a b).bind fun c => .pure (e c)) : Fn2 f e1 e2 e g := fun F A x y a b hf hx hy => by
  have q := H F A x y (e1 a) (e2 b) hf hx hy
  rw [h] at q
  unfold M.bind at q
  cases o : g a b () with
  | ok c s => rw [o] at q; exact q
  | ex c s => rw [o] at q; exact q
  | bad => trivial
theorem FnL.ty {α γ : Type} {f : List AV → Hx → R AV} {el : α → List TV} {e : γ → TV} {gT : List TV → M Unit TV} {g : α → M Unit γ} (H : FnL f id id gT) (h : ∀ a, gT (el a) = (g a).bind fun c => .pure (e c)) : FnL f el e g := fun F A x a hf hx => by
  have q := H F A x (el a) hf hx
  rw [h] at q
  unfold M.bind at q
  cases o : g a () with
  | ok c s => rw [o] at q; exact q
  | ex c s => rw [o] at q; exact q
  | bad => trivial
/-! ### arithmetic -/
def addT : TV → TV → M Unit TV
  | .int i, .int j => .pure (.int (i + j))
  | .str i, .str j => if i.length + j.length ≤ sizeLine then .pure (.str (i ++ j)) else .bad
  | .tup xs, .tup ys => if xs.length + ys.length ≤ sizeLine then .pure (.tup (xs ++ ys)) else .bad
  | _, _ => .bad
theorem f_add : Fn2 oAdd id id id addT := fun F A x y a b hf hx hy => by
  unfold addT
  split
  · rw [tInt hx, tInt hy]; exact Res.same (.int _)
  · rw [tStr hx, tStr hy]
    unfold oAdd
    dsimp only
    split
    · exact Res.same (.str _)
    · trivial
  · obtain ⟨us, rfl, h1, l1⟩ := tTup hx
    obtain ⟨vs, rfl, h2, l2⟩ := tTup hy
    unfold oAdd
    dsimp only
    rw [h1.length, h2.length]
    split
    · rename_i hl
      exact Res.same (.tup (h1.app h2) (by simpa using hl))
    · trivial
  · trivial
def subT : TV → TV → M Unit TV
  | .int i, .int j => .pure (.int (i - j))
  | _, _ => .bad
theorem f_sub : Fn2 oSub id id id subT := fun F A x y a b hf hx hy => by
  unfold subT
  split
  · rw [tInt hx, tInt hy]; exact Res.same (.int _)
  · trivial
def mulT : TV → TV → M Unit TV
  | .int i, .int j => if small i ∨ small j ∨ (wide i ∧ wide j) then .pure (.int (i * j)) else .bad
  | .tup xs, .int k => if -1000 ≤ k ∧ k ≤ 1000 ∧ xs.length ≤ 1000 then .pure (.tup (List.replicate k.toNat xs).flatten) else .bad
  | _, _ => .bad
theorem flat_len {α : Type} (k : Nat) (xs : List α) : (List.replicate k xs).flatten.length = k * xs.length := by
  induction k with
  | zero => simp
  | succ k ih => rw [List.replicate_succ, List.flatten_cons, List.length_append, ih, Nat.succ_mul, Nat.add_comm]
theorem f_mul : Fn2 oMul id id id mulT := fun F A x y a b hf hx hy => by
  unfold mulT
  split
  · rw [tInt hx, tInt hy]
    unfold oMul
    dsimp only
    split
    · exact Res.same (.int _)
    · trivial
  · obtain ⟨us, rfl, h1, l1⟩ := tTup hx
    rw [tInt hy]
    unfold oMul
    dsimp only
    rw [h1.length]
    split
    · rename_i hl
      refine Res.same (.tup (h1.flat _) ?_)
      rw [flat_len]
      have : sizeLine = 16777216 := by rw [sizeLine_eq]
      rename_i xs k
      have h3 : k.toNat * xs.length ≤ 1000 * 1000 := Nat.mul_le_mul (by omega) hl.2.2
      omega
    · trivial
  · trivial
def fdivT : TV → TV → M Unit TV
  | .int i, .int j => if 0 < j ∧ wide j then .pure (.int (i / j)) else .bad
  | _, _ => .bad
theorem f_fdiv : Fn2 oFdiv id id id fdivT := fun F A x y a b hf hx hy => by
  unfold fdivT
  split
  · rw [tInt hx, tInt hy]
    unfold oFdiv
    dsimp only
    split
    · exact Res.same (.int _)
    · trivial
  · trivial
def modT : TV → TV → M Unit TV
  | .int i, .int j => if 0 < j then .pure (.int (i % j)) else .bad
  | _, _ => .bad
theorem f_mod : Fn2 oMod id id id modT := fun F A x y a b hf hx hy => by
  unfold modT
  split
  · rw [tInt hx, tInt hy]
    unfold oMod
    dsimp only
    split
    · exact Res.same (.int _)
    · trivial
  · trivial
def powT : TV → TV → M Unit TV
  | .int i, .int j => if 0 ≤ j ∧ j ≤ 1000 ∧ small i then .pure (.int (i ^ j.toNat)) else .bad
  | _, _ => .bad
theorem f_pow : Fn2 oPow id id id powT := fun F A x y a b hf hx hy => by
  unfold powT
  split
  · rw [tInt hx, tInt hy]
    unfold oPow
    dsimp only
    split
    · exact Res.same (.int _)
    · trivial
  · trivial
def negT : TV → M Unit TV
  | .int i => .pure (.int (-i))
  | _ => .bad
theorem f_neg : Fn1 oNeg id id negT := fun F A x a hf hx => by
  unfold negT
  split
  · rw [tInt hx]; exact Res.same (.int _)
  · trivial
/-! ### order -/
def cmpT (p : Int → Int → Bool) : TV → TV → M Unit TV
  | .int i, .int j => .pure (.bl (p i j))
  | _, _ => .bad
theorem f_lt : Fn2 oLt id id id (cmpT fun i j => decide (i < j)) := fun F A x y a b hf hx hy => by
  unfold cmpT
  split
  · rw [tInt hx, tInt hy]; exact Res.same (.bl _)
  · trivial
theorem f_le : Fn2 oLe id id id (cmpT fun i j => decide (i ≤ j)) := fun F A x y a b hf hx hy => by
  unfold cmpT
  split
  · rw [tInt hx, tInt hy]; exact Res.same (.bl _)
  · trivial
theorem f_gt : Fn2 oGt id id id (cmpT fun i j => decide (j < i)) := fun F A x y a b hf hx hy => by
  unfold cmpT
  split
  · rw [tInt hx, tInt hy]; exact Res.same (.bl _)
  · trivial
theorem f_ge : Fn2 oGe id id id (cmpT fun i j => decide (j ≤ i)) := fun F A x y a b hf hx hy => by
  unfold cmpT
  split
  · rw [tInt hx, tInt hy]; exact Res.same (.bl _)
  · trivial
/-! ### equal -/
def allDT (f : TV → Option PyData) : List TV → Option (List PyData)
  | [] => some []
  | x :: r => (f x).bind fun d => (allDT f r).map (d :: ·)
def toDT : Nat → TV → Option PyData
  | _, .non => some .none
  | _, .bl b => some (.bool b)
  | _, .int i => some (.int i)
  | _, .str x => some (.str x)
  | k + 1, .tup ts => (allDT (toDT k) ts).map .tuple
  | k + 1, .lst ts => (allDT (toDT k) ts).map .list
  | _, _ => none
section
variable {F : Nat → Prop} {A : Hx}
mutual
theorem toD_T : ∀ (k : Nat) {x : AV} {t : TV}, T F A x t → toD A k x = toDT k t
  | k, _, _, .non => by cases k <;> simp [toD, toDT]
  | k, _, _, .bl b => by cases k <;> simp [toD, toDT]
  | k, _, _, .int i => by cases k <;> simp [toD, toDT]
  | k, _, _, .str x => by cases k <;> simp [toD, toDT]
  | k, _, _, .ty n => by cases k <;> simp [toD, toDT]
  | k, _, _, .st a => by cases k <;> simp [toD, toDT]
  | 0, _, _, .tup r l => by simp [toD, toDT]
  | 0, _, _, .loc f e r l => by simp [toD, toDT]
  | 0, _, _, .dct f e r => by simp [toD, toDT]
  | k + 1, _, _, .dct f e r => by simp only [toD, toDT]; rw [e]
  | k + 1, _, _, .tup r l => by simp only [toD, toDT]; rw [allD_T k r]
  | k + 1, _, _, .loc f e r l => by simp only [toD, toDT]; rw [e]; dsimp only; rw [allD_T k r]
theorem allD_T : ∀ (k : Nat) {xs : List AV} {ts : List TV}, Ts F A xs ts → allD (toD A k) xs = allDT (toDT k) ts
  | k, _, _, .nil => rfl
  | k, _, _, .cons h r => by
    rw [allD, allDT, toD_T k h, allD_T k r]
end
end
def eqT (x y : TV) : M Unit Bool := match toDT 60 x, toDT 60 y with
  | some d, some e => if SeqAt.shaped d = true ∧ SeqAt.shaped e = true then .pure (PyData.eqv d e) else .bad
  | _, _ => .bad
/-- a flag without a change, or nothing -/
def Asks (A : Hx) (r : R Bool) : Out Unit Bool → Prop
  | .ok c _ => r = .ok c A
  | .ex _ _ => False
  | .bad => True
theorem eqD_T {F : Nat → Prop} {A : Hx} {x y : AV} {a b : TV} (hx : T F A x a) (hy : T F A y b) : Asks A (eqD A x y) (eqT a b ()) := by
  unfold eqT eqD
  rw [toD_T 60 hx, toD_T 60 hy]
  cases toDT 60 a with
  | none => trivial
  | some d =>
    cases toDT 60 b with
    | none => trivial
    | some e =>
      dsimp only
      by_cases hs : SeqAt.shaped d = true ∧ SeqAt.shaped e = true
      · rw [if_pos hs, if_pos hs]
        exact Eq.refl (R.ok (PyData.eqv d e) A)
      · rw [if_neg hs, if_neg hs]
        trivial
theorem Asks.res {F : Nat → Prop} {A : Hx} {r : R Bool} {m : M Unit Bool} (h : Asks A r (m ())) : Res F A (r.bind fun b A => .ok (.bl b) A) TV.bl (m ()) := by
  cases e : m () with
  | ok c s => rw [e] at h; rw [show r = .ok c A from h]; exact Res.same (.bl _)
  | ex z s => rw [e] at h; exact h.elim
  | bad => trivial
theorem Asks.resN {F : Nat → Prop} {A : Hx} {r : R Bool} {m : M Unit Bool} (h : Asks A r (m ())) : Res F A (r.bind fun b A => .ok (.bl (!b)) A) TV.bl ((m.bind fun c => .pure (!c)) ()) := by
  unfold M.bind
  cases e : m () with
  | ok c s => rw [e] at h; rw [show r = .ok c A from h]; exact Res.same (.bl _)
  | ex z s => rw [e] at h; exact h.elim
  | bad => trivial
theorem f_eq : Fn2 oEq id id TV.bl eqT := fun F A x y a b hf hx hy => (eqD_T (a := a) (b := b) hx hy).res
theorem f_ne : Fn2 oNe id id TV.bl (fun a b => (eqT a b).bind fun c => .pure (!c)) := fun F A x y a b hf hx hy => (eqD_T (a := a) (b := b) hx hy).resN
/-- values of a kind that are data, told apart by == -/
structure Dat {α : Type} [DecidableEq α] (n : Nat) (e : α → TV) (d : α → PyData) : Prop where
  to : ∀ a k, n ≤ k → toDT k (e a) = some (d a)
  shp : ∀ a, Shp (n + 1) (d a)
  eqv : ∀ a b, PyData.eqv (d a) (d b) = decide (a = b)
theorem allDT_map {α : Type} {f : TV → Option PyData} {e : α → TV} {d : α → PyData} (h : ∀ a, f (e a) = some (d a)) : ∀ xs : List α, allDT f (xs.map e) = some (xs.map d)
  | [] => rfl
  | x :: r => by rw [List.map_cons, allDT, h, allDT_map h r]; rfl
theorem Dat.int : Dat 0 TV.int PyData.int := ⟨fun a k _ => by cases k <;> simp [toDT], fun a => shp_int _ a, fun a b => eqv_int a b⟩
theorem Dat.bl : Dat 0 TV.bl PyData.bool := ⟨fun a k _ => by cases k <;> simp [toDT], fun a => shp_bool _ a, fun a b => by cases a <;> cases b <;> simp [PyData.eqv]⟩
def eO {α : Type} (e : α → TV) : Option α → TV
  | some a => e a
  | none => .non
abbrev eT {α : Type} (e : α → TV) (xs : List α) : TV := .tup (xs.map e)
abbrev eL {α : Type} (e : α → TV) (xs : List α) : TV := .lst (xs.map e)
abbrev eP {α β : Type} (e1 : α → TV) (e2 : β → TV) (p : α × β) : TV := .tup [e1 p.1, e2 p.2]
abbrev eP3 {α β γ : Type} (e1 : α → TV) (e2 : β → TV) (e3 : γ → TV) (p : α × β × γ) : TV := .tup [e1 p.1, e2 p.2.1, e3 p.2.2]
abbrev eN (_ : Unit) : TV := .non
abbrev eA (t : TV) : TV := t
def dO {α : Type} (d : α → PyData) : Option α → PyData
  | some a => d a
  | none => .none
section
variable {α β : Type} [DecidableEq α] [DecidableEq β] {n m : Nat} {e : α → TV} {d : α → PyData} {e2 : β → TV} {d2 : β → PyData}
theorem Dat.mono (h : Dat n e d) (l : n ≤ m) : Dat m e d := ⟨fun a k q => h.to a k (Nat.le_trans l q), fun a => (h.shp a).mono (by omega), h.eqv⟩
theorem Dat.opt (h : Dat n e d) (hn : ∀ a, PyData.eqv (d a) .none = false ∧ PyData.eqv .none (d a) = false) : Dat n (eO e) (dO d) where
  to := fun a k q => by
    cases a with
    | none => cases k <;> simp [eO, dO, toDT]
    | some a => exact h.to a k q
  shp := fun a => by
    cases a with
    | none => exact shp_non _
    | some a => exact h.shp a
  eqv := fun a b => by
    cases a with
    | none =>
      cases b with
      | none => simp [dO, PyData.eqv]
      | some b => simp [dO, (hn b).2]
    | some a =>
      cases b with
      | none => simp [dO, (hn a).1]
      | some b => simp [dO, h.eqv]
theorem Dat.optI : Dat 0 (eO TV.int) (dO PyData.int) := Dat.int.opt fun a => by simp [PyData.eqv]
theorem Dat.tup (h : Dat n e d) : Dat (n + 1) (eT e) (fun xs => .tuple (xs.map d)) where
  to := fun a k q => by
    cases k with
    | zero => omega
    | succ k =>
      show toDT (k + 1) (.tup (a.map e)) = _
      rw [toDT, allDT_map (fun x => h.to x k (by omega))]
      rfl
  shp := fun a => shp_tup fun x hx => by
    obtain ⟨y, _, rfl⟩ := List.mem_map.mp hx
    exact h.shp y
  eqv := fun a b => eqv_map h.eqv a b
theorem Dat.lst (h : Dat n e d) : Dat (n + 1) (eL e) (fun xs => .list (xs.map d)) where
  to := fun a k q => by
    cases k with
    | zero => omega
    | succ k =>
      show toDT (k + 1) (.lst (a.map e)) = _
      rw [toDT, allDT_map (fun x => h.to x k (by omega))]
      rfl
  shp := fun a => shp_lst fun x hx => by
    obtain ⟨y, _, rfl⟩ := List.mem_map.mp hx
    exact h.shp y
  eqv := fun a b => by
    rw [PyData.eqv]
    exact eqvAll_map h.eqv a b
theorem Dat.pair (h : Dat n e d) (h2 : Dat n e2 d2) : Dat (n + 1) (eP e e2) (fun p => .tuple [d p.1, d2 p.2]) where
  to := fun a k q => by
    cases k with
    | zero => omega
    | succ k =>
      show toDT (k + 1) (.tup [e a.1, e2 a.2]) = _
      rw [toDT]
      simp only [allDT]
      rw [h.to _ k (by omega), h2.to _ k (by omega)]
      rfl
  shp := fun a => shp_tup fun x hx => by
    rcases List.mem_cons.mp hx with rfl | hx
    · exact h.shp _
    · rcases List.mem_cons.mp hx with rfl | hx
      · exact h2.shp _
      · cases hx
  eqv := fun a b => by
    obtain ⟨a1, a2⟩ := a
    obtain ⟨b1, b2⟩ := b
    simp only [PyData.eqv, PyData.eqvAll, h.eqv, h2.eqv]
    by_cases h1 : a1 = b1 <;> by_cases h3 : a2 = b2 <;> simp [h1, h3]
theorem eqT_dat (h : Dat n e d) (hn : n ≤ 60) (a b : α) : eqT (e a) (e b) = .pure (decide (a = b)) := by
  unfold eqT
  rw [h.to a 60 hn, h.to b 60 hn]
  dsimp only
  rw [if_pos ⟨(h.shp a).shaped (by omega), (h.shp b).shaped (by omega)⟩, h.eqv]
theorem f_eqD (h : Dat n e d) (hn : n ≤ 60 := by decide) : Fn2 oEq e e TV.bl (fun a b => .pure (decide (a = b))) := fun F A x y a b hf hx hy => by
  have q := f_eq F A x y (e a) (e b) hf hx hy
  rw [eqT_dat h hn] at q
  exact q
theorem f_neD (h : Dat n e d) (hn : n ≤ 60 := by decide) : Fn2 oNe e e TV.bl (fun a b => .pure (!decide (a = b))) := fun F A x y a b hf hx hy => by
  have q := f_ne F A x y (e a) (e b) hf hx hy
  dsimp only at q
  rw [eqT_dat h hn] at q
  exact q
end
/-! ### in -/
def anyT (d : PyData) (ts : List TV) : M Unit Bool := match allDT (toDT 59) ts with
  | some ds => if SeqAt.shaped d = true ∧ SeqAt.shaped (.list ds) = true ∧ SeqAt.shaped (.tuple ds) = true then .pure (ds.any fun z => PyData.eqv z d) else .bad
  | none => .bad
def inT (x y : TV) : M Unit Bool := match toDT 60 x with
  | some d => (match y with
    | .tup ts => anyT d ts
    | .lst ts => anyT d ts
    | _ => .bad)
  | none => .bad
theorem anyD_T {F : Nat → Prop} {A : Hx} {d : PyData} {xs : List AV} {ts : List TV} (h : Ts F A xs ts) : Asks A (anyD A d xs) (anyT d ts ()) := by
  unfold anyT anyD
  rw [allD_T 59 h]
  cases allDT (toDT 59) ts with
  | none => trivial
  | some ds =>
    dsimp only
    by_cases hs : SeqAt.shaped d = true ∧ SeqAt.shaped (.list ds) = true ∧ SeqAt.shaped (.tuple ds) = true
    · rw [if_pos hs, if_pos hs]
      exact Eq.refl (R.ok (ds.any fun z => PyData.eqv z d) A)
    · rw [if_neg hs, if_neg hs]
      trivial
theorem inD_T {F : Nat → Prop} {A : Hx} {x y : AV} {a b : TV} (hx : T F A x a) (hy : T F A y b) : Asks A (inD A x y) (inT a b ()) := by
  unfold inT inD
  rw [toD_T 60 hx]
  cases toDT 60 a with
  | none => trivial
  | some d =>
    dsimp only
    cases b with
    | tup ts =>
      obtain ⟨xs, rfl, h, l⟩ := tTup hy
      exact anyD_T h
    | lst ts =>
      obtain ⟨xs, e, h, l, nt⟩ := tLst hy
      have := anyD_T (d := d) h
      cases y with
      | tup zs => exact absurd rfl (nt zs)
      | _ => dsimp only; rw [e]; exact this
    | _ => trivial
theorem f_in : Fn2 oIn id id TV.bl inT := fun F A x y a b hf hx hy => (inD_T (a := a) (b := b) hx hy).res
theorem f_nin : Fn2 oNotIn id id TV.bl (fun a b => (inT a b).bind fun c => .pure (!c)) := fun F A x y a b hf hx hy => (inD_T (a := a) (b := b) hx hy).resN
section
variable {α : Type} [DecidableEq α] {n : Nat} {e : α → TV} {d : α → PyData}
theorem anyT_dat (h : Dat n e d) (hn : n ≤ 58) (a : α) (xs : List α) : anyT (d a) (xs.map e) = .pure (decide (a ∈ xs)) := by
  unfold anyT
  rw [allDT_map (fun x => h.to x 59 (by omega))]
  dsimp only
  have hs : ∀ x, x ∈ xs.map d → Shp (n + 1) x := fun x hx => by
    obtain ⟨y, _, rfl⟩ := List.mem_map.mp hx
    exact h.shp y
  rw [if_pos ⟨(h.shp a).shaped (by omega), (shp_lst hs).shaped (by omega), (shp_tup hs).shaped (by omega)⟩]
  congr 1
  rw [List.any_map]
  induction xs with
  | nil => simp
  | cons x r ih =>
    rw [List.any_cons, ih fun y hy => hs y (by simp only [List.map_cons]; exact List.mem_cons_of_mem _ hy)]
    simp only [Function.comp, h.eqv]
    by_cases h1 : x = a
    · simp [h1]
    · have h2 : ¬ a = x := fun z => h1 z.symm
      simp [h1, h2]
theorem f_inT (h : Dat n e d) (hn : n ≤ 58 := by decide) : Fn2 oIn e (eT e) TV.bl (fun a xs => .pure (decide (a ∈ xs))) := fun F A x y a b hf hx hy => by
  have q := f_in F A x y (e a) (eT e b) hf hx hy
  unfold inT at q
  rw [h.to a 60 (by omega)] at q
  dsimp only at q
  rw [anyT_dat h hn] at q
  exact q
theorem f_inL (h : Dat n e d) (hn : n ≤ 58 := by decide) : Fn2 oIn e (eL e) TV.bl (fun a xs => .pure (decide (a ∈ xs))) := fun F A x y a b hf hx hy => by
  have q := f_in F A x y (e a) (eL e b) hf hx hy
  unfold inT at q
  rw [h.to a 60 (by omega)] at q
  dsimp only at q
  rw [anyT_dat h hn] at q
  exact q
theorem f_ninT (h : Dat n e d) (hn : n ≤ 58 := by decide) : Fn2 oNotIn e (eT e) TV.bl (fun a xs => .pure (!decide (a ∈ xs))) := fun F A x y a b hf hx hy => by
  have q := f_nin F A x y (e a) (eT e b) hf hx hy
  dsimp only at q
  unfold inT at q
  rw [h.to a 60 (by omega)] at q
  dsimp only at q
  rw [anyT_dat h hn] at q
  exact q
theorem f_ninL (h : Dat n e d) (hn : n ≤ 58 := by decide) : Fn2 oNotIn e (eL e) TV.bl (fun a xs => .pure (!decide (a ∈ xs))) := fun F A x y a b hf hx hy => by
  have q := f_nin F A x y (e a) (eL e b) hf hx hy
  dsimp only at q
  unfold inT at q
  rw [h.to a 60 (by omega)] at q
  dsimp only at q
  rw [anyT_dat h hn] at q
  exact q
end
/-! ### is -/
def isNonT : TV → Bool
  | .non => true
  | _ => false
def isT_ : TV → TV → M Unit Bool
  | .bl a, .bl b => .pure (a == b)
  | x, .non => .pure (isNonT x)
  | _, _ => .bad
theorem isNon_T {F : Nat → Prop} {A : Hx} {x : AV} {a : TV} (h : T F A x a) : isNon x = isNonT a := by cases h <;> rfl
theorem f_is : Fn2 oIs id id TV.bl isT_ := fun F A x y a b hf hx hy => by
  unfold isT_
  split
  · rw [tBl hx, tBl hy]; exact Res.same (.bl _)
  · rw [tNon hy]
    have : oIs x .non A = .ok (.bl (isNon x)) A := by cases x <;> rfl
    rw [this, isNon_T hx]
    exact Res.same (.bl _)
  · trivial
theorem f_isNot : Fn2 oIsNot id id TV.bl (fun a b => (isT_ a b).bind fun c => .pure (!c)) := fun F A x y a b hf hx hy => by
  dsimp only
  unfold isT_
  split
  · rename_i p q
    rw [tBl hx, tBl hy]
    show Res F A (.ok (.bl (p != q)) A) _ _
    exact Res.same (.bl _)
  · rw [tNon hy]
    have : oIsNot x .non A = .ok (.bl (!isNon x)) A := by cases x <;> rfl
    rw [this, isNon_T hx]
    exact Res.same (.bl _)
  · trivial
theorem isT_non (x : TV) : isT_ x .non = .pure (isNonT x) := by cases x <;> rfl
section
variable {α : Type} {e : α → TV}
def Nn (e : α → TV) : Prop := ∀ a, isNonT (e a) = false
theorem nn_int : Nn TV.int := fun _ => rfl
theorem nn_bl : Nn TV.bl := fun _ => rfl
theorem nn_str : Nn TV.str := fun _ => rfl
theorem nn_tup : Nn (eT e) := fun _ => rfl
theorem nn_lst : Nn (eL e) := fun _ => rfl
theorem f_isO (h : Nn e) : Fn2 oIs (eO e) eN TV.bl (fun a _ => .pure a.isNone) := fun F A x y a b hf hx hy => by
  have q := f_is F A x y (eO e a) .non hf hx hy
  rw [isT_non] at q
  cases a with
  | none => exact q
  | some a => rw [show isNonT (eO e (some a)) = false from h a] at q; exact q
theorem f_isNotO (h : Nn e) : Fn2 oIsNot (eO e) eN TV.bl (fun a _ => .pure (!a.isNone)) := fun F A x y a b hf hx hy => by
  have q := f_isNot F A x y (eO e a) .non hf hx hy
  dsimp only at q
  rw [isT_non] at q
  cases a with
  | none => exact q
  | some a => rw [show isNonT (eO e (some a)) = false from h a] at q; exact q
theorem f_isA : Fn2 oIs eA eN TV.bl (fun a _ => .pure (isNonT a)) := fun F A x y a b hf hx hy => by
  have q := f_is F A x y a .non hf hx hy
  rw [isT_non] at q
  exact q
theorem f_isNotA : Fn2 oIsNot eA eN TV.bl (fun a _ => .pure (!isNonT a)) := fun F A x y a b hf hx hy => by
  have q := f_isNot F A x y a .non hf hx hy
  dsimp only at q
  rw [isT_non] at q
  exact q
end
end Bm

set_option Elab.async false
set_option linter.all false
set_option maxRecDepth 100000
set_option maxHeartbeats 2000000
/-! Bm6: items, lengths, built-in functions; what is walked. -/
namespace Bm
open PySem PySem.Spec PyProof.Rows L2 Am
theorem atI_T {F : Nat → Prop} {A : Hx} {xs : List AV} {ts : List TV} (h : Ts F A xs ts) {i : Int} {t : TV} (e : atI ts i = some t) : ∃ x, atI xs i = some x ∧ T F A x t := by
  unfold atI at e ⊢
  rw [h.length]
  cases q : ixN ts.length i with
  | none => rw [q] at e; cases e
  | some k => rw [q] at e; exact h.get e
/-- an item, if it is there -/
def atM {α : Type} (xs : List α) (i : Int) : M Unit α := match atI xs i with
  | some a => .pure a
  | none => .bad
def ixT : TV → TV → M Unit TV
  | .tup ts, .int i => atM ts i
  | .lst ts, .int i => atM ts i
  | _, _ => .bad
theorem f_ix : Fn2 oIx id id id ixT := fun F A x y a b hf hx hy => by
  unfold ixT
  split
  · rename_i ts i
    obtain ⟨xs, rfl, h, l⟩ := tTup hx
    rw [tInt hy]
    unfold atM oIx
    dsimp only
    cases e : atI ts i with
    | none => trivial
    | some t =>
      obtain ⟨z, h1, h2⟩ := atI_T h e
      rw [h1]
      exact Res.same h2
  · rename_i ts i
    obtain ⟨xs, q, h, l, nt⟩ := tLst hx
    rw [tInt hy]
    unfold atM oIx
    dsimp only
    cases e : atI ts i with
    | none => trivial
    | some t =>
      obtain ⟨z, h1, h2⟩ := atI_T h e
      cases x with
      | tup zs => exact absurd rfl (nt zs)
      | _ => dsimp only; rw [q]; dsimp only; rw [h1]; exact Res.same h2
  · trivial
section
variable {α β γ : Type} {e : α → TV} {e1 : α → TV} {e2 : β → TV} {e3 : γ → TV}
theorem atI_map {f : α → β} {xs : List α} {i : Int} : atI (xs.map f) i = (atI xs i).map f := by
  unfold atI
  rw [List.length_map]
  cases ixN xs.length i with
  | none => rfl
  | some k => simp
theorem atM_map {f : α → β} {xs : List α} {i : Int} : atM (xs.map f) i = (atM xs i).bind fun c => .pure (f c) := by
  unfold atM
  rw [atI_map]
  cases atI xs i <;> rfl
theorem f_ixT : Fn2 oIx (eT e) TV.int e atM := Fn2.ty f_ix fun a b => atM_map
theorem f_ixL : Fn2 oIx (eL e) TV.int e atM := Fn2.ty f_ix fun a b => atM_map
/-- an item of a pair, of three -/
theorem f_ix0 : Fn2 oIx (eP e1 e2) (fun _ : Unit => TV.int 0) e1 (fun p _ => .pure p.1) := Fn2.ty f_ix fun a b => rfl
theorem f_ix1 : Fn2 oIx (eP e1 e2) (fun _ : Unit => TV.int 1) e2 (fun p _ => .pure p.2) := Fn2.ty f_ix fun a b => rfl
theorem f_ix30 : Fn2 oIx (eP3 e1 e2 e3) (fun _ : Unit => TV.int 0) e1 (fun p _ => .pure p.1) := Fn2.ty f_ix fun a b => rfl
theorem f_ix31 : Fn2 oIx (eP3 e1 e2 e3) (fun _ : Unit => TV.int 1) e2 (fun p _ => .pure p.2.1) := Fn2.ty f_ix fun a b => rfl
theorem f_ix32 : Fn2 oIx (eP3 e1 e2 e3) (fun _ : Unit => TV.int 2) e3 (fun p _ => .pure p.2.2) := Fn2.ty f_ix fun a b => rfl
/-! arithmetic of integers -/
theorem i_add : Fn2 oAdd TV.int TV.int TV.int (fun a b => .pure (a + b)) := Fn2.ty f_add fun a b => rfl
theorem i_sub : Fn2 oSub TV.int TV.int TV.int (fun a b => .pure (a - b)) := Fn2.ty f_sub fun a b => rfl
noncomputable def mulM (a b : Int) : M Unit Int := chk (small a ∨ small b ∨ (wide a ∧ wide b)) (.pure (a * b))
theorem i_mul : Fn2 oMul TV.int TV.int TV.int mulM := Fn2.ty f_mul fun a b => by
  unfold mulT mulM
  rw [chk_ite]
  dsimp only
  split <;> rfl
noncomputable def fdivM (a b : Int) : M Unit Int := chk (0 < b ∧ wide b) (.pure (a / b))
theorem i_fdiv : Fn2 oFdiv TV.int TV.int TV.int fdivM := Fn2.ty f_fdiv fun a b => by
  unfold fdivT fdivM
  rw [chk_ite]
  dsimp only
  split <;> rfl
noncomputable def modM (a b : Int) : M Unit Int := chk (0 < b) (.pure (a % b))
theorem i_mod : Fn2 oMod TV.int TV.int TV.int modM := Fn2.ty f_mod fun a b => by
  unfold modT modM
  rw [chk_ite]
  dsimp only
  split <;> rfl
noncomputable def powM (a b : Int) : M Unit Int := chk (0 ≤ b ∧ b ≤ 1000 ∧ small a) (.pure (a ^ b.toNat))
theorem i_pow : Fn2 oPow TV.int TV.int TV.int powM := Fn2.ty f_pow fun a b => by
  unfold powT powM
  rw [chk_ite]
  dsimp only
  split <;> rfl
theorem i_neg : Fn1 oNeg TV.int TV.int (fun a => .pure (-a)) := Fn1.ty f_neg fun a => rfl
theorem i_lt : Fn2 oLt TV.int TV.int TV.bl (fun a b => .pure (decide (a < b))) := Fn2.ty f_lt fun a b => rfl
theorem i_le : Fn2 oLe TV.int TV.int TV.bl (fun a b => .pure (decide (a ≤ b))) := Fn2.ty f_le fun a b => rfl
theorem i_gt : Fn2 oGt TV.int TV.int TV.bl (fun a b => .pure (decide (b < a))) := Fn2.ty f_gt fun a b => rfl
theorem i_ge : Fn2 oGe TV.int TV.int TV.bl (fun a b => .pure (decide (b ≤ a))) := Fn2.ty f_ge fun a b => rfl
def cmpA (p : Int → Int → Bool) : TV → TV → M Unit Bool
  | .int i, .int j => .pure (p i j)
  | _, _ => .bad
theorem a_lt : Fn2 oLt eA eA TV.bl (cmpA fun i j => decide (i < j)) := Fn2.ty f_lt fun a b => by
  cases a <;> cases b <;> rfl
theorem a_le : Fn2 oLe eA eA TV.bl (cmpA fun i j => decide (i ≤ j)) := Fn2.ty f_le fun a b => by
  cases a <;> cases b <;> rfl
theorem a_gt : Fn2 oGt eA eA TV.bl (cmpA fun i j => decide (j < i)) := Fn2.ty f_gt fun a b => by
  cases a <;> cases b <;> rfl
theorem a_ge : Fn2 oGe eA eA TV.bl (cmpA fun i j => decide (j ≤ i)) := Fn2.ty f_ge fun a b => by
  cases a <;> cases b <;> rfl
/-- tuples, one behind another -/
noncomputable def catM (xs ys : List α) : M Unit (List α) := chk (xs.length + ys.length ≤ sizeLine) (.pure (xs ++ ys))
theorem t_cat : Fn2 oAdd (eT e) (eT e) (eT e) catM := Fn2.ty f_add fun a b => by
  unfold addT catM
  rw [chk_ite]
  dsimp only
  rw [List.length_map, List.length_map]
  split
  · rw [M.pure_bind]
    simp only [eT, List.map_append]
  · rfl
noncomputable def repM (xs : List α) (k : Int) : M Unit (List α) := chk (-1000 ≤ k ∧ k ≤ 1000 ∧ xs.length ≤ 1000) (.pure (List.replicate k.toNat xs).flatten)
theorem t_rep : Fn2 oMul (eT e) TV.int (eT e) repM := Fn2.ty f_mul fun a b => by
  unfold mulT repM
  rw [chk_ite]
  dsimp only
  rw [List.length_map]
  split
  · rw [M.pure_bind]
    congr 2
    simp [List.map_flatten]
  · rfl
/-! ### lists, new -/
theorem ef_of {μ : Md} {Γ : List Sl} {m : ME} {o : M μ.σ (List α)} (h : EF μ Γ m e o) : E μ Γ m (eL e) o := fun L F own env A s r inv => by
  have q := h L F own env A s r inv
  cases c : o s with
  | ok xs s1 =>
    rw [c] at q
    obtain ⟨x, A', h1, h2, h3, n, zs, rfl, h4, h5, h6, h7⟩ := q
    exact ⟨_, A', h1, h2, h3, .loc (r.new n h4) h5 (h6.up fun k o hk e => ⟨hk.1, e⟩) (by simpa using h7)⟩
  | ex z s1 => rw [c] at q; exact q
  | bad => trivial
end
/-- a list of its own: what an operation on values lays at the end -/
def FnF {α γ : Type} (f : List AV → Hx → R AV) (el : α → List TV) (e : γ → TV) (g : α → M Unit (List γ)) : Prop := ∀ F A x a, (∀ n, A.length ≤ n → F n) → Ts F A x (el a) → match g a () with
  | .ok c _ => ∃ zs, f x A = .ok (.loc A.length) (A ++ [.lst zs]) ∧ Ts F A zs (c.map e) ∧ c.length ≤ sizeLine
  | .ex _ _ => False
  | .bad => True
section
variable {μ : Md} {Γ : List Sl} {α β γ δ : Type} {e : γ → TV} {e1 : α → TV} {e2 : β → TV}
theorem FnF.to {f : List AV → Hx → R AV} {el : α → List TV} {g : α → M Unit (List γ)} (H : FnF f el e g) : FnL f el (eL e) g := fun F A x a hf hx => by
  have q := H F A x a hf hx
  cases c : g a () with
  | ok xs s =>
    rw [c] at q
    obtain ⟨zs, h1, h2, h3⟩ := q
    rw [h1]
    exact Res.new hf h2 (by simpa using h3) rfl
  | ex z s => rw [c] at q; exact q.elim
  | bad => trivial
theorem ef_call {f : List AV → Hx → R AV} {el : α → List TV} {mr : MA} {g : α → M Unit (List γ)} {oa : M μ.σ α} (H : FnF f el e g) (ha : EA μ Γ mr el oa) : EF μ Γ (mCB f mr) e (oa.bind fun a => lift (g a)) := fun L F own env A s r inv => by
  refine OutR.bind (ha L F own env A s r inv) fun x A1 a s1 g1 i1 p => ?_
  have r1 := r.gr g1
  have q := H (Cl F own) A1 x a r1.newF p
  rw [lift_eq]
  cases c : g a () with
  | ok xs u =>
    rw [c] at q
    obtain ⟨zs, h1, h2, h3⟩ := q
    refine ⟨_, _, h1, Gr.app _, Md.inv_gr i1, A1.length, zs, rfl, g1.len, by simp, ?_, h3⟩
    refine h2.up fun n o f q => ⟨⟨f, Nat.ne_of_lt (some_lt q)⟩, ?_⟩
    rw [List.getElem?_append_left (some_lt q)]
    exact q
  | ex z u => rw [c] at q; exact q.elim
  | bad => trivial
/-- a display -/
theorem ef_lst {mr : MA} {el : α → List TV} {oa : M μ.σ α} (f : α → List γ) (h : ∀ a, el a = (f a).map e) (n : Nat) (hl : ∀ a, (f a).length = n) (hn : n ≤ sizeLine) (ha : EA μ Γ mr el oa) : EF μ Γ (mLst mr) e (oa.bind fun a => .pure (f a)) := fun L F own env A s r inv => by
  refine OutR.bind (ha L F own env A s r inv) fun x A1 a s1 g1 i1 p => ?_
  have p' : Ts (Cl F own) A1 x ((f a).map e) := h a ▸ p
  have hxl : x.length = n := by
    have := p'.length
    rw [List.length_map, hl] at this
    exact this
  rw [if_pos (by rw [hxl]; exact hn)]
  refine ⟨_, _, rfl, Gr.app _, Md.inv_gr i1, A1.length, x, rfl, g1.len, by simp, ?_, by rw [hl]; exact hn⟩
  refine p'.up fun n o f q => ⟨⟨f, Nat.ne_of_lt (some_lt q)⟩, ?_⟩
  rw [List.getElem?_append_left (some_lt q)]
  exact q
theorem ef_comp {mi : MI} {g : MG} {mt : MT} {me : ME} {vs : List Nat} {Γb : α → List Sl} {oi : M μ.σ (List α)} {oc : α → M μ.σ Bool} {of : α → M μ.σ γ} (hi : EI μ Γ mi e1 oi) (hg : ∀ x, GT μ g (e1 x) (wipeG Γ vs) (Γb x)) (ht : ∀ x, EB μ (Γb x) mt (oc x)) (he : ∀ x, E μ (Γb x) me e (of x)) :
    EF μ Γ (mLc mi g mt me vs) e (oi.bind fun xs => compM oc of xs) := fun L F own env A s r inv => by
  refine OutR.bind (hi L F own env A s r inv) fun p A1 xs s1 g1 i1 q => ?_
  have r1 := r.gr g1
  have hlo : μ.lo ≤ A1.length := Nat.le_trans r1.fp.1 r1.hL
  have hno : ¬ Owned own A1.length := fun ⟨i, h⟩ => Nat.lt_irrefl _ (r1.obd i _ h).2
  have hcl : ∀ n o', Cl F own n → A1[n]? = some o' → Cl (Fx F A1.length) own n ∧ (A1 ++ [AO.lst []])[n]? = some o' := fun n o' h e =>
    ⟨⟨⟨h.1, Nat.ne_of_lt (some_lt e)⟩, h.2⟩, by rw [List.getElem?_append_left (some_lt e)]; exact e⟩
  have h := comp_ok (n := A1.length) hg ht he p.1 xs [] [] (A1 ++ [.lst []]) s1 r1.fx (Md.inv_gr i1) (q.ts.up hcl) (q.gd.up hcl) (by simp) hlo hno .nil (by simpa using q.ln)
  cases e3 : compM oc of xs s1 with
  | ok ys s3 =>
    rw [e3] at h
    obtain ⟨A', zs, a1, a2, a3, a4, a5, a6, a7⟩ := h
    refine ⟨.loc A1.length, A', a1, ⟨by simp at a6; omega, fun k k1 k2 => ?_⟩, a5, A1.length, zs, rfl, g1.len, a2, ?_, by simpa using a4⟩
    · rw [a7 k (by simp; omega) k2 (Nat.ne_of_lt k1), List.getElem?_append_left k1]
    · have a3' : Ts (Cl (Fx F A1.length) own) A' zs (ys.map e) := by simpa using a3
      exact a3'.up fun k o hk hk2 => ⟨⟨⟨hk.1.1, hk.2⟩, hk.1.2⟩, hk2⟩
  | ex z s3 => rw [e3] at h; exact h.elim
  | bad => trivial
/-- a tuple's display: a pair, three, a row -/
theorem e_tup {mr : MA} {el : α → List TV} {oa : M μ.σ α} (n : Nat) (hl : ∀ a, (el a).length = n) (hn : n ≤ sizeLine) (ha : EA μ Γ mr el oa) : E μ Γ (mTup mr) (fun a => TV.tup (el a)) oa := fun L F own env A s r inv => by
  have h := OutR.bind (P' := PE_ (fun a => TV.tup (el a)) (Cl F own)) (k := fun xs A1 => if xs.length ≤ sizeLine then R.ok (AV.tup xs) A1 else .bad) (ob := M.pure) (ha L F own env A s r inv) fun x A1 a s1 g1 i1 p => by
    have hxl : x.length = n := by rw [p.length, hl]
    rw [if_pos (by rw [hxl]; exact hn)]
    exact OutR.pur i1 (.tup p (by rw [hl]; exact hn))
  rw [M.bind_pure] at h
  exact h
end
end Bm

set_option Elab.async false
set_option linter.all false
set_option maxRecDepth 100000
set_option maxHeartbeats 2000000
/-! Bm7: built-in functions; what is walked; lists that grow, read. -/
namespace Bm
open PySem PySem.Spec PyProof.Rows L2 Am
section
variable {F : Nat → Prop} {A : Hx} {α β γ : Type} {e : α → TV} {e1 : α → TV} {e2 : β → TV}
theorem ts1 {xs : List AV} {t : TV} (h : Ts F A xs [t]) : ∃ x, xs = [x] ∧ T F A x t := by
  cases h with
  | cons a b => cases b; exact ⟨_, rfl, a⟩
theorem ts2 {xs : List AV} {t u : TV} (h : Ts F A xs [t, u]) : ∃ x y, xs = [x, y] ∧ T F A x t ∧ T F A y u := by
  cases h with
  | cons a b =>
    obtain ⟨y, rfl, c⟩ := ts1 b
    exact ⟨_, y, rfl, a, c⟩
/-! ### len -/
noncomputable def lenM : TV → M Unit Int
  | .str s => chk (s.length ≤ sizeLine) (.pure s.length)
  | .tup ts => .pure ts.length
  | .lst ts => .pure ts.length
  | _ => .bad
theorem oLen_lst {x : AV} {xs : List AV} (h : Am.listOf A x = some xs) (nt : ∀ zs, x ≠ .tup zs) : oLen [x] A = .ok (.int xs.length) A := by
  unfold oLen
  cases x with
  | tup zs => exact absurd rfl (nt zs)
  | str s => cases h
  | _ => dsimp only; rw [h]
theorem f_len : FnL oLen (fun t : TV => [t]) TV.int lenM := fun F A xs a hf hx => by
  obtain ⟨x, rfl, h⟩ := ts1 hx
  unfold lenM
  split
  · rw [tStr h, chk_ite]
    unfold oLen
    dsimp only
    split
    · exact Res.same (.int _)
    · trivial
  · obtain ⟨us, rfl, h1, l1⟩ := tTup h
    show Res F A (.ok (.int us.length) A) _ _
    rw [h1.length]
    exact Res.same (.int _)
  · obtain ⟨us, q, h1, l1, nt⟩ := tLst h
    rw [oLen_lst q nt, h1.length]
    exact Res.same (.int _)
  · trivial
theorem f_lenT : FnL oLen (fun a => [eT e a]) TV.int (fun xs => .pure (xs.length : Int)) := fun F A xs a hf hx => by
  have := f_len F A xs (eT e a) hf hx
  have e1 : lenM (eT e a) = .pure (a.length : Int) := by
    show M.pure (((a.map e).length : Nat) : Int) = _
    rw [List.length_map]
  rw [e1] at this
  exact this
theorem f_lenL : FnL oLen (fun a => [eL e a]) TV.int (fun xs => .pure (xs.length : Int)) := fun F A xs a hf hx => by
  have := f_len F A xs (eL e a) hf hx
  have e1 : lenM (eL e a) = .pure (a.length : Int) := by
    show M.pure (((a.map e).length : Nat) : Int) = _
    rw [List.length_map]
  rw [e1] at this
  exact this
/-! ### isinstance -/
def tyT : TV → Option String
  | .non => some "NoneType"
  | .bl _ => some "bool"
  | .int _ => some "int"
  | .str _ => some "str"
  | .tup _ => some "tuple"
  | .lst _ => some "list"
  | .dct _ => some "dict"
  | _ => none
def isiM (n : String) (t : TV) : M Unit Bool := match tyT t with
  | some a => if knownN n = true then .pure (subN a n) else .bad
  | none => .bad
theorem tyT_ok {x : AV} {t : TV} (h : T F A x t) : tyN A x = tyT t := by
  cases h with
  | loc f e r l => simp [tyN, tyT, e]
  | dct f e r => simp [tyN, tyT, e]
  | _ => rfl
theorem f_isi {n : String} : FnL oIsi (fun t : TV => [t, .ty n]) TV.bl (isiM n) := fun F A xs a hf hx => by
  obtain ⟨x, y, rfl, h, h2⟩ := ts2 hx
  cases h2
  unfold isiM oIsi
  dsimp only
  rw [tyT_ok h]
  cases tyT a with
  | none => trivial
  | some b =>
    dsimp only
    split
    · exact Res.same (.bl _)
    · trivial
/-! ### int, abs, min, max, divmod -/
theorem f_int : FnL oInt (fun i : Int => [TV.int i]) TV.int (fun i => .pure i) := fun F A xs a hf hx => by
  obtain ⟨x, rfl, h⟩ := ts1 hx
  rw [tInt h]
  exact Res.same (.int _)
theorem f_abs : FnL oAbs (fun i : Int => [TV.int i]) TV.int (fun i => .pure (if i < 0 then -i else i)) := fun F A xs a hf hx => by
  obtain ⟨x, rfl, h⟩ := ts1 hx
  rw [tInt h]
  exact Res.same (.int _)
theorem f_max2 : FnL oMax (fun p : Int × Int => [TV.int p.1, TV.int p.2]) TV.int (fun p => .pure (if p.2 > p.1 then p.2 else p.1)) := fun F A xs a hf hx => by
  obtain ⟨x, y, rfl, h, h2⟩ := ts2 hx
  rw [tInt h, tInt h2]
  exact Res.same (.int _)
theorem f_min2 : FnL oMin (fun p : Int × Int => [TV.int p.1, TV.int p.2]) TV.int (fun p => .pure (if p.2 < p.1 then p.2 else p.1)) := fun F A xs a hf hx => by
  obtain ⟨x, y, rfl, h, h2⟩ := ts2 hx
  rw [tInt h, tInt h2]
  exact Res.same (.int _)
theorem intsT : ∀ {xs : List AV} {is : List Int}, Ts F A xs (is.map TV.int) → xs = is.map AV.int
  | [], [], _ => rfl
  | _ :: _, _ :: _, .cons a b => by
    rw [List.map_cons, tInt a, intsT b]
theorem blsT : ∀ {xs : List AV} {is : List Bool}, Ts F A xs (is.map TV.bl) → xs = is.map AV.bl
  | [], [], _ => rfl
  | _ :: _, _ :: _, .cons a b => by
    rw [List.map_cons, tBl a, blsT b]
noncomputable def maxM (xs : List Int) : M Unit Int := chk (xs ≠ []) (.pure (maxI xs))
noncomputable def minM (xs : List Int) : M Unit Int := chk (xs ≠ []) (.pure (minI xs))
theorem f_maxL : FnL oMax (fun xs : List Int => [eL TV.int xs]) TV.int maxM := fun F A xs a hf hx => by
  obtain ⟨x, rfl, h⟩ := ts1 hx
  obtain ⟨us, q, h1, l1, nt⟩ := tLst h
  have e : oMax [x] A = (match (Am.listOf A x).bind intsOf with
    | some bs => if bs ≠ [] then .ok (.int (maxI bs)) A else .bad
    | none => .bad) := by
    unfold oMax
    cases x <;> rfl
  rw [e, q, Option.bind_some, intsT h1, intsOf_map]
  unfold maxM
  rw [chk_ite]
  dsimp only
  split
  · exact Res.same (.int _)
  · trivial
theorem f_minL : FnL oMin (fun xs : List Int => [eL TV.int xs]) TV.int minM := fun F A xs a hf hx => by
  obtain ⟨x, rfl, h⟩ := ts1 hx
  obtain ⟨us, q, h1, l1, nt⟩ := tLst h
  have e : oMin [x] A = (match (Am.listOf A x).bind intsOf with
    | some bs => if bs ≠ [] then .ok (.int (minI bs)) A else .bad
    | none => .bad) := by
    unfold oMin
    cases x <;> rfl
  rw [e, q, Option.bind_some, intsT h1, intsOf_map]
  unfold minM
  rw [chk_ite]
  dsimp only
  split
  · exact Res.same (.int _)
  · trivial
theorem f_sum : FnL oSum (fun xs : List Int => [eL TV.int xs]) TV.int (fun xs => .pure xs.sum) := fun F A xs a hf hx => by
  obtain ⟨x, rfl, h⟩ := ts1 hx
  obtain ⟨us, q, h1, l1, nt⟩ := tLst h
  unfold oSum
  dsimp only
  rw [q, Option.bind_some, intsT h1, intsOf_map]
  exact Res.same (.int _)
theorem f_all : FnL oAll (fun xs : List Bool => [eL TV.bl xs]) TV.bl (fun xs => .pure (xs.all id)) := fun F A xs a hf hx => by
  obtain ⟨x, rfl, h⟩ := ts1 hx
  obtain ⟨us, q, h1, l1, nt⟩ := tLst h
  unfold oAll
  dsimp only
  rw [q, Option.bind_some, blsT h1, blsOf_map]
  exact Res.same (.bl _)
theorem f_any : FnL oAny (fun xs : List Bool => [eL TV.bl xs]) TV.bl (fun xs => .pure (xs.any id)) := fun F A xs a hf hx => by
  obtain ⟨x, rfl, h⟩ := ts1 hx
  obtain ⟨us, q, h1, l1, nt⟩ := tLst h
  unfold oAny
  dsimp only
  rw [q, Option.bind_some, blsT h1, blsOf_map]
  exact Res.same (.bl _)
noncomputable def divmodM (p : Int × Int) : M Unit (Int × Int) := chk (0 < p.2 ∧ p.2 < 1073741824) (.pure (p.1 / p.2, p.1 % p.2))
theorem f_divmod : FnL oDivmod (fun p : Int × Int => [TV.int p.1, TV.int p.2]) (eP TV.int TV.int) divmodM := fun F A xs a hf hx => by
  obtain ⟨x, y, rfl, h, h2⟩ := ts2 hx
  rw [tInt h, tInt h2]
  unfold divmodM oDivmod
  rw [chk_ite]
  dsimp only
  split
  · exact Res.same (.tup (.cons (.int _) (.cons (.int _) .nil)) (by rw [sizeLine_eq]; simp))
  · trivial
/-! ### tuple, list -/
theorem f_tupL : FnL oTuple (fun xs : List α => [eL e xs]) (eT e) (fun xs => .pure xs) := fun F A xs a hf hx => by
  obtain ⟨x, rfl, h⟩ := ts1 hx
  obtain ⟨us, q, h1, l1, nt⟩ := tLst h
  have e1 : oTuple [x] A = .ok (.tup us) A := by
    unfold oTuple
    cases x with
    | tup zs => exact absurd rfl (nt zs)
    | _ => dsimp only; rw [q]
  rw [e1]
  exact Res.same (.tup h1 l1)
theorem f_tupT : FnL oTuple (fun xs : List α => [eT e xs]) (eT e) (fun xs => .pure xs) := fun F A xs a hf hx => by
  obtain ⟨x, rfl, h⟩ := ts1 hx
  obtain ⟨us, rfl, h1, l1⟩ := tTup h
  exact Res.same (.tup h1 l1)
theorem f_lstL : FnF oList (fun xs : List α => [eL e xs]) e (fun xs => .pure xs) := fun F A xs a hf hx => by
  obtain ⟨x, rfl, h⟩ := ts1 hx
  obtain ⟨us, q, h1, l1, nt⟩ := tLst h
  have e1 : oList [x] A = .ok (.loc A.length) (A ++ [.lst us]) := by
    unfold oList
    cases x with
    | tup zs => exact absurd rfl (nt zs)
    | _ => dsimp only; rw [q]
  exact ⟨us, e1, h1, by simpa using l1⟩
theorem f_lstT : FnF oList (fun xs : List α => [eT e xs]) e (fun xs => .pure xs) := fun F A xs a hf hx => by
  obtain ⟨x, rfl, h⟩ := ts1 hx
  obtain ⟨us, rfl, h1, l1⟩ := tTup h
  exact ⟨us, rfl, h1, by simpa using l1⟩
/-! ### repr -/
noncomputable def reprM (t : TV) : M Unit Str := match toDT 60 t with
  | some d => chk (d.showable = true ∧ d.hasDict = false ∧ d.shown.length ≤ sizeLine ∧ d.depth ≤ 60) (.pure d.shown)
  | none => .bad
theorem f_repr : FnL oRepr (fun t : TV => [t]) TV.str reprM := fun F A xs a hf hx => by
  obtain ⟨x, rfl, h⟩ := ts1 hx
  unfold reprM oRepr shownA
  dsimp only
  rw [toD_T 60 h]
  cases toDT 60 a with
  | none => trivial
  | some d =>
    dsimp only
    by_cases hs : d.showable = true ∧ d.hasDict = false ∧ d.shown.length ≤ sizeLine ∧ d.depth ≤ 60
    · rw [chk_pos hs, if_pos hs]
      exact Res.same (.str _)
    · rw [chk_neg hs, if_neg hs]
      trivial
/-- where an argument is seen as a value of any kind -/
theorem FnL.of1 {f : List AV → Hx → R AV} {e3 : γ → TV} {g : TV → M Unit γ} (H : FnL f (fun t : TV => [t]) e3 g) (e : α → TV) : FnL f (fun a => [e a]) e3 (fun a => g (e a)) := fun F A x a hf hx => H F A x (e a) hf hx
/-! ### slices -/
def cutL (xs : List α) (lo hi : Option Int) : List α := (xs.drop (HT.sIx xs.length 0 lo)).take (HT.sIx xs.length xs.length hi - HT.sIx xs.length 0 lo)
theorem cut_T {xs : List AV} {ts : List TV} (h : Ts F A xs ts) (lo hi : Option Int) : Ts F A (cutA xs lo hi) (cutL ts lo hi) := by
  unfold cutA cutL
  rw [h.length]
  exact (h.drop _).take _
theorem cutL_len {xs : List α} {lo hi : Option Int} : (cutL xs lo hi).length ≤ xs.length := by
  unfold cutL
  rw [List.length_take, List.length_drop]
  omega
theorem cutL_map {f : α → β} {xs : List α} {lo hi : Option Int} : cutL (xs.map f) lo hi = (cutL xs lo hi).map f := by
  unfold cutL
  rw [List.length_map, List.map_take, List.map_drop]
end
section
variable {μ : Md} {Γ : List Sl} {α β γ : Type} {e : α → TV} {ma : ME} {ml mh : MO}
abbrev EO (μ : Md) (Γ : List Sl) (m : MO) (o : M μ.σ (Option Int)) : Prop := EG μ Γ m PI_ o
theorem o_none : EO μ Γ mNoPart (.pure none) := fun L F own env A s r i => OutR.pur i rfl
theorem o_some {oa : M μ.σ Int} (ha : E μ Γ ma TV.int oa) : EO μ Γ (mPart ma) (oa.bind fun i => .pure (some i)) :=
  EG.bind (k := fun _ => toI?) (P' := PI_) (ob := fun i => .pure (some i)) ha fun L F own env x A a s r i p => by
    rw [tInt p]
    exact OutR.pur i rfl
theorem o_some1 {i : Int} (ha : E μ Γ ma TV.int (.pure i)) : EO μ Γ (mPart ma) (.pure (some i)) := o_some ha
theorem e_slT {oa : M μ.σ (List α)} {ol oh : M μ.σ (Option Int)} (ha : E μ Γ ma (eT e) oa) (hl : EO μ Γ ml ol) (hh : EO μ Γ mh oh) : E μ Γ (mSl oSl ma ml mh) (eT e) (oa.bind fun xs => ol.bind fun l => oh.bind fun h => .pure (cutL xs l h)) := fun L F own env A s r inv => by
  refine OutR.bind (ha L F own env A s r inv) fun x A1 a s1 g1 i1 p => ?_
  have r1 := r.gr g1
  refine OutR.bind (hl L F own env A1 s1 r1 i1) fun l A2 l' s2 g2 i2 p2 => ?_
  cases p2
  refine OutR.bind (hh L F own env A2 s2 (r1.gr g2) i2) fun h A3 h' s3 g3 i3 p3 => ?_
  cases p3
  obtain ⟨us, rfl, h1, l1⟩ := tTup p
  have h2 := (h1.up (r1.stayG g2)).up ((r1.gr g2).stayG g3)
  refine OutR.pur i3 (.tup ?_ ?_)
  · rw [← cutL_map]
    exact cut_T h2 _ _
  · rw [List.length_map]
    have := cutL_len (xs := a) (lo := l) (hi := h)
    rw [List.length_map] at l1
    omega
theorem ef_slL {oa : M μ.σ (List α)} {ol oh : M μ.σ (Option Int)} (ha : E μ Γ ma (eL e) oa) (hl : EO μ Γ ml ol) (hh : EO μ Γ mh oh) : EF μ Γ (mSl oSl ma ml mh) e (oa.bind fun xs => ol.bind fun l => oh.bind fun h => .pure (cutL xs l h)) := fun L F own env A s r inv => by
  refine OutR.bind (ha L F own env A s r inv) fun x A1 a s1 g1 i1 p => ?_
  have r1 := r.gr g1
  refine OutR.bind (hl L F own env A1 s1 r1 i1) fun l A2 l' s2 g2 i2 p2 => ?_
  cases p2
  refine OutR.bind (hh L F own env A2 s2 (r1.gr g2) i2) fun h A3 h' s3 g3 i3 p3 => ?_
  cases p3
  have p3 := (T.up (r1.stayG g2) p).up ((r1.gr g2).stayG g3)
  obtain ⟨us, q, h1, l1, nt⟩ := tLst p3
  have e1 : oSl x l h A3 = .ok (.loc A3.length) (A3 ++ [.lst (cutA us l h)]) := by
    unfold oSl
    cases x with
    | tup zs => exact absurd rfl (nt zs)
    | _ => dsimp only; rw [q]
  rw [e1]
  refine ⟨.loc A3.length, A3 ++ [.lst (cutA us l h)], rfl, Gr.app _, Md.inv_gr i3, A3.length, cutA us l h, rfl, ?_, by simp, ?_, ?_⟩
  · exact Nat.le_trans g1.len (Nat.le_trans g2.len g3.len)
  · rw [← cutL_map]
    refine (cut_T h1 _ _).up fun n o f q => ⟨⟨f, Nat.ne_of_lt (some_lt q)⟩, ?_⟩
    rw [List.getElem?_append_left (some_lt q)]
    exact q
  · have := cutL_len (xs := a) (lo := l) (hi := h)
    rw [List.length_map] at l1
    omega
/-- the same, turned about -/
theorem e_revT {oa : M μ.σ (List α)} (ha : E μ Γ ma (eT e) oa) : E μ Γ (mRev ma) (eT e) (oa.bind fun xs => .pure xs.reverse) := fun L F own env A s r inv => by
  refine OutR.bind (ha L F own env A s r inv) fun x A1 a s1 g1 i1 p => ?_
  obtain ⟨us, rfl, h1, l1⟩ := tTup p
  refine OutR.pur i1 (.tup ?_ (by simpa using l1))
  rw [List.map_reverse]
  exact h1.rev
theorem ef_revL {oa : M μ.σ (List α)} (ha : E μ Γ ma (eL e) oa) : EF μ Γ (mRev ma) e (oa.bind fun xs => .pure xs.reverse) := fun L F own env A s r inv => by
  refine OutR.bind (ha L F own env A s r inv) fun x A1 a s1 g1 i1 p => ?_
  obtain ⟨us, q, h1, l1, nt⟩ := tLst p
  obtain ⟨n, zs, rfl, -, -⟩ := tLoc p
  dsimp only
  rw [q]
  refine ⟨.loc A1.length, A1 ++ [.lst us.reverse], rfl, Gr.app _, Md.inv_gr i1, A1.length, us.reverse, rfl, g1.len, by simp, ?_, by simpa using l1⟩
  rw [List.map_reverse]
  refine h1.rev.up fun n o f q => ⟨⟨f, Nat.ne_of_lt (some_lt q)⟩, ?_⟩
  rw [List.getElem?_append_left (some_lt q)]
  exact q
theorem e_revL {oa : M μ.σ (List α)} (ha : E μ Γ ma (eL e) oa) : E μ Γ (mRev ma) (eL e) (oa.bind fun xs => .pure xs.reverse) := ef_of (ef_revL ha)
theorem e_slL {oa : M μ.σ (List α)} {ol oh : M μ.σ (Option Int)} (ha : E μ Γ ma (eL e) oa) (hl : EO μ Γ ml ol) (hh : EO μ Γ mh oh) : E μ Γ (mSl oSl ma ml mh) (eL e) (oa.bind fun xs => ol.bind fun l => oh.bind fun h => .pure (cutL xs l h)) := ef_of (ef_slL ha hl hh)
/-! ### lists put together -/
theorem l_cat {oa ob : M μ.σ (List α)} {mb : ME} (ha : E μ Γ ma (eL e) oa) (hb : E μ Γ mb (eL e) ob) : E μ Γ (mOp oAdd ma mb) (eL e) (oa.bind fun a => ob.bind fun b => lift (catM a b)) := fun L F own env A s r inv => by
  refine OutR.bind (ha L F own env A s r inv) fun x A1 a s1 g1 i1 p => ?_
  have r1 := r.gr g1
  refine OutR.bind (hb L F own env A1 s1 r1 i1) fun y A2 b s2 g2 i2 p2 => ?_
  have p1 := T.up (r1.stayG g2) p
  have r2 := r1.gr g2
  obtain ⟨n1, zs1, rfl, -, q1, h1, l1⟩ := tLoc p1
  obtain ⟨n2, zs2, rfl, -, q2, h2, l2⟩ := tLoc p2
  have e1 := h1.length
  have e2 := h2.length
  rw [List.length_map] at e1 e2
  rw [lift_eq]
  unfold catM oAdd
  dsimp only
  rw [q1, q2]
  dsimp only
  rw [e1, e2]
  by_cases hl : a.length + b.length ≤ sizeLine
  · rw [if_pos hl, chk_pos hl]
    refine Res.out (m := M.pure (a ++ b)) (Res.new r2.newF (h1.app h2) (by simpa using hl) ?_) i2
    simp [eL]
  · rw [if_neg hl, chk_neg hl]
    trivial
end
end Bm

set_option Elab.async false
set_option linter.all false
set_option maxRecDepth 100000
set_option maxHeartbeats 2000000
/-! Bm8: what is walked; lists that grow, read; the end. -/
namespace Bm
open PySem PySem.Spec PyProof.Rows L2 Am
section
variable {μ : Md} {Γ : List Sl} {α β γ : Type} {e : α → TV} {e1 : α → TV} {e2 : β → TV} {ma mb : ME}
/-- a list or a tuple is walked -/
theorem i_lst {oa : M μ.σ (List α)} (ha : E μ Γ ma (eL e) oa) : EI μ Γ (miSeq ma) e oa := by
  have h := EG.bind (k := fun _ x A1 => match seqOf A1 x with
    | some p => R.ok p A1
    | none => .bad) (P' := ItP e) (ob := M.pure) ha fun L F own env x A a s r i p => by
      obtain ⟨n, xs, rfl, f, q, h, l⟩ := tLoc p
      have e1 : seqOf A (.loc n) = some (xs, [(n, xs)]) := by simp [seqOf, Am.listOf, q]
      rw [e1]
      refine OutR.pur i ⟨h, by simpa using l, fun z hz => ?_⟩
      rw [List.mem_singleton] at hz
      subst hz
      exact ⟨f, by simp [Am.listOf, q]⟩
  rw [M.bind_pure] at h
  exact h
theorem i_tup {oa : M μ.σ (List α)} (ha : E μ Γ ma (eT e) oa) : EI μ Γ (miSeq ma) e oa := by
  have h := EG.bind (k := fun _ x A1 => match seqOf A1 x with
    | some p => R.ok p A1
    | none => .bad) (P' := ItP e) (ob := M.pure) ha fun L F own env x A a s r i p => by
      obtain ⟨xs, rfl, h, l⟩ := tTup p
      exact OutR.pur i ⟨h, by simpa using l, fun z hz => nomatch hz⟩
  rw [M.bind_pure] at h
  exact h
/-- a value of any kind is walked -/
def seqM : TV → M Unit (List TV)
  | .tup ts => .pure ts
  | .lst ts => .pure ts
  | _ => .bad
theorem i_any {oa : M μ.σ TV} (ha : E μ Γ ma eA oa) : EI μ Γ (miSeq ma) eA (oa.bind fun t => lift (seqM t)) :=
  EG.bind (k := fun _ x A1 => match seqOf A1 x with
    | some p => R.ok p A1
    | none => .bad) (P' := ItP eA) (ob := fun t => lift (seqM t)) ha fun L F own env x A a s r i p => by
      unfold PE_ eA at p
      cases a with
      | tup ts =>
        obtain ⟨xs, rfl, h, l⟩ := tTup p
        exact OutR.pur i ⟨by simpa [eA] using h, l, fun z hz => nomatch hz⟩
      | lst ts =>
        obtain ⟨n, xs, rfl, f, q, h, l⟩ := tLoc p
        have e1 : seqOf A (.loc n) = some (xs, [(n, xs)]) := by simp [seqOf, Am.listOf, q]
        rw [e1]
        refine OutR.pur i ⟨by simpa [eA] using h, l, fun z hz => ?_⟩
        rw [List.mem_singleton] at hz
        subst hz
        exact ⟨f, by simp [Am.listOf, q]⟩
      | _ => trivial
/-- lo, lo + 1, .. below hi -/
def rng (lo hi : Int) : List Int := (List.range (hi - lo).toNat).map fun (k : Nat) => lo + k
theorem rng_len {lo hi : Int} : (rng lo hi).length = (hi - lo).toNat := by simp [rng]
theorem mem_rng {lo hi x : Int} : x ∈ rng lo hi ↔ lo ≤ x ∧ x < hi := by
  unfold rng
  rw [List.mem_map]
  constructor
  · rintro ⟨k, hk, rfl⟩
    have := List.mem_range.mp hk
    omega
  · rintro ⟨h1, h2⟩
    exact ⟨(x - lo).toNat, List.mem_range.mpr (by omega), by omega⟩
noncomputable def rngM (lo hi : Int) : M Unit (List Int) := chk (inR lo ∧ inR hi ∧ (hi - lo).toNat ≤ sizeLine) (.pure (rng lo hi))
theorem rng_T {F : Nat → Prop} {A : Hx} {lo hi : Int} : Ts F A (rangeA lo hi) ((rng lo hi).map TV.int) := by
  unfold rangeA rng
  rw [List.map_map]
  generalize List.range (hi - lo).toNat = l
  induction l with
  | nil => exact .nil
  | cons k r ih => exact .cons (.int _) ih
theorem i_range {ms : MA} {oa : M μ.σ Int} (ha : EA μ Γ ms (fun i => [TV.int i]) oa) : EI μ Γ (miRange1 ms) TV.int (oa.bind fun i => lift (rngM 0 i)) := fun L F own env A0 s0 r0 inv0 => by
    refine OutR.bind (ha L F own env A0 s0 r0 inv0) fun x A a s g i p => ?_
    have r := r0.gr g
    obtain ⟨y, rfl, q⟩ := ts1 p
    rw [tInt q]
    rw [lift_eq]
    unfold rngM
    by_cases h : inR 0 ∧ inR a ∧ (a - 0).toNat ≤ sizeLine
    · rw [chk_pos h]
      dsimp only
      rw [if_pos h.2.1]
      exact OutR.pur i ⟨rng_T, by rw [rng_len]; exact h.2.2, fun z hz => nomatch hz⟩
    · rw [chk_neg h]
      trivial
theorem i_range2 {ms : MA} {oa : M μ.σ (Int × Int)} (ha : EA μ Γ ms (fun p => [TV.int p.1, TV.int p.2]) oa) : EI μ Γ (miRange2 ms) TV.int (oa.bind fun p => lift (rngM p.1 p.2)) := fun L F own env A0 s0 r0 inv0 => by
    refine OutR.bind (ha L F own env A0 s0 r0 inv0) fun x A a s g i p => ?_
    have r := r0.gr g
    obtain ⟨y, z, rfl, q, q2⟩ := ts2 p
    rw [tInt q, tInt q2]
    rw [lift_eq]
    unfold rngM
    by_cases h : inR a.1 ∧ inR a.2 ∧ (a.2 - a.1).toNat ≤ sizeLine
    · rw [chk_pos h]
      dsimp only
      rw [if_pos ⟨h.1, h.2.1⟩]
      exact OutR.pur i ⟨rng_T, by rw [rng_len]; exact h.2.2, fun z hz => nomatch hz⟩
    · rw [chk_neg h]
      trivial
theorem i_range1 {i : Int} (ha : E μ Γ ma TV.int (.pure i)) : EI μ Γ (miRange1 (mCons ma mNil)) TV.int (lift (rngM 0 i)) := i_range (a_one ha)
/-- numbered -/
def enumI {α : Type} : Int → List α → List (Int × α)
  | _, [] => []
  | k, x :: r => (k, x) :: enumI (k + 1) r
theorem enumI_len : ∀ (k : Int) (xs : List α), (enumI k xs).length = xs.length
  | _, [] => rfl
  | k, _ :: r => by simp [enumI, enumI_len (k + 1) r]
theorem enum_T {F : Nat → Prop} {A : Hx} : ∀ {xs : List AV} {as : List α} (k : Nat), Ts F A xs (as.map e) → Ts F A (enumA k xs) ((enumI k as).map (eP TV.int e))
  | [], [], _, _ => .nil
  | _ :: _, _ :: _, k, .cons a b => by
    refine .cons (.tup (.cons (.int _) (.cons a .nil)) (by rw [sizeLine_eq]; simp)) ?_
    have := enum_T (k + 1) b
    exact this
theorem i_enumL {ms : MA} {oa : M μ.σ (List α)} (ha : EA μ Γ ms (fun xs => [eL e xs]) oa) : EI μ Γ (miEnum ms) (eP TV.int e) (oa.bind fun xs => .pure (enumI 0 xs)) := fun L F own env A0 s0 r0 inv0 => by
    refine OutR.bind (ha L F own env A0 s0 r0 inv0) fun x A a s g i p => ?_
    have r := r0.gr g
    obtain ⟨y, rfl, q⟩ := ts1 p
    obtain ⟨n, xs, rfl, f, q, h, l⟩ := tLoc q
    have e1 : seqOf A (.loc n) = some (xs, [(n, xs)]) := by simp [seqOf, Am.listOf, q]
    dsimp only
    rw [e1]
    refine OutR.pur i ⟨enum_T 0 h, by rw [enumI_len]; simpa using l, fun z hz => ?_⟩
    rw [List.mem_singleton] at hz
    subst hz
    exact ⟨f, by simp [Am.listOf, q]⟩
theorem i_enumT {ms : MA} {oa : M μ.σ (List α)} (ha : EA μ Γ ms (fun xs => [eT e xs]) oa) : EI μ Γ (miEnum ms) (eP TV.int e) (oa.bind fun xs => .pure (enumI 0 xs)) := fun L F own env A0 s0 r0 inv0 => by
    refine OutR.bind (ha L F own env A0 s0 r0 inv0) fun x A a s g i p => ?_
    have r := r0.gr g
    obtain ⟨y, rfl, q⟩ := ts1 p
    obtain ⟨xs, rfl, h, l⟩ := tTup q
    exact OutR.pur i ⟨enum_T 0 h, by rw [enumI_len]; simpa using l, fun z hz => nomatch hz⟩
theorem i_enumA {ms : MA} {oa : M μ.σ TV} (ha : EA μ Γ ms (fun t => [eA t]) oa) : EI μ Γ (miEnum ms) (eP TV.int eA) (oa.bind fun t => (lift (seqM t)).bind fun xs => .pure (enumI 0 xs)) := fun L F own env A0 s0 r0 inv0 => by
    refine OutR.bind (ha L F own env A0 s0 r0 inv0) fun x A a s g i p => ?_
    have r := r0.gr g
    obtain ⟨y, rfl, q⟩ := ts1 p
    unfold eA at q
    cases a with
    | tup ts =>
      obtain ⟨xs, rfl, h, l⟩ := tTup q
      exact OutR.pur i ⟨enum_T 0 (by simpa [eA] using h), by rw [enumI_len]; exact l, fun z hz => nomatch hz⟩
    | lst ts =>
      obtain ⟨n, xs, rfl, f, q, h, l⟩ := tLoc q
      have e1 : seqOf A (.loc n) = some (xs, [(n, xs)]) := by simp [seqOf, Am.listOf, q]
      dsimp only
      rw [e1]
      refine OutR.pur i ⟨enum_T 0 (by simpa [eA] using h), by rw [enumI_len]; exact l, fun z hz => ?_⟩
      rw [List.mem_singleton] at hz
      subst hz
      exact ⟨f, by simp [Am.listOf, q]⟩
    | _ => trivial
/-- two, item by item -/
theorem zip_T {F : Nat → Prop} {A : Hx} : ∀ {xs ys : List AV} {as : List α} {bs : List β}, Ts F A xs (as.map e) → Ts F A ys (bs.map e2) → Ts F A (List.zipWith (fun x y => .tup [x, y]) xs ys) ((as.zip bs).map (eP e e2))
  | [], _, [], _, _, _ => by simpa using .nil
  | _ :: _, [], _ :: _, [], _, _ => by simpa using .nil
  | _ :: _, _ :: _, _ :: _, _ :: _, .cons a b, .cons c d => by
    simp only [List.zipWith_cons_cons, List.zip_cons_cons, List.map_cons]
    exact .cons (.tup (.cons a (.cons c .nil)) (by rw [sizeLine_eq]; simp)) (zip_T b d)
theorem i_zipT {ms : MA} {oa : M μ.σ (List α × List β)} (ha : EA μ Γ ms (fun p => [eT e p.1, eT e2 p.2]) oa) : EI μ Γ (miZip ms) (eP e e2) (oa.bind fun p => .pure (p.1.zip p.2)) := fun L F own env A0 s0 r0 inv0 => by
    refine OutR.bind (ha L F own env A0 s0 r0 inv0) fun x A a s g i p => ?_
    have r := r0.gr g
    obtain ⟨y, z, rfl, q, q2⟩ := ts2 p
    obtain ⟨xs, rfl, h, l⟩ := tTup q
    obtain ⟨ys, rfl, h2, l2⟩ := tTup q2
    refine OutR.pur i ⟨zip_T h h2, ?_, fun z hz => nomatch hz⟩
    rw [List.length_zip]
    rw [List.length_map] at l
    omega
theorem i_zipL {ms : MA} {oa : M μ.σ (List α × List β)} (ha : EA μ Γ ms (fun p => [eL e p.1, eL e2 p.2]) oa) : EI μ Γ (miZip ms) (eP e e2) (oa.bind fun p => .pure (p.1.zip p.2)) := fun L F own env A0 s0 r0 inv0 => by
    refine OutR.bind (ha L F own env A0 s0 r0 inv0) fun x A a s g i p => ?_
    have r := r0.gr g
    obtain ⟨y, z, rfl, q, q2⟩ := ts2 p
    obtain ⟨n, xs, rfl, f, q, h, l⟩ := tLoc q
    obtain ⟨m, ys, rfl, f2, q2, h2, l2⟩ := tLoc q2
    have e1 : Am.listOf A (.loc n) = some xs := by simp [Am.listOf, q]
    have e3 : Am.listOf A (.loc m) = some ys := by simp [Am.listOf, q2]
    dsimp only
    rw [e1, e3]
    refine OutR.pur i ⟨zip_T h h2, ?_, fun z hz => ?_⟩
    · rw [List.length_zip]
      rw [List.length_map] at l
      omega
    · rcases List.mem_cons.mp hz with rfl | hz
      · exact ⟨f, e1⟩
      · rw [List.mem_singleton] at hz
        subst hz
        exact ⟨f2, e3⟩
/-! ### a list that grows, read -/
theorem own_at {L : Nat} {F : Nat → Prop} {own : List (Option Nat)} {env : Ev} {A : Hx} {i : Nat} {ts : List TV} (r : Rl μ L F own Γ env A) (h : Γ[i]? = some (.ow ts)) : ∃ n xs, mVar i env A = .ok (.loc n) A ∧ A[n]? = some (.lst xs) ∧ Ts (Cl F own) A xs ts ∧ ts.length ≤ sizeLine := by
  obtain ⟨n, xs, q1, q2, q3, q4, q5⟩ := r.sl i _ h
  refine ⟨n, xs, ?_, q3, q4, q5⟩
  unfold mVar
  rw [q2]
theorem w_len {i : Nat} {xs : List α} (h : Γ[i]? = some (.ow (xs.map e))) : E μ Γ (mCB oLen (mCons (mVar i) mNil)) TV.int (.pure (xs.length : Int)) := fun L F own env A s r inv => by
  obtain ⟨n, zs, e1, q, ht, l⟩ := own_at r h
  have : mCB oLen (mCons (mVar i) mNil) env A = .ok (.int zs.length) A := by
    rw [mCB_eq, mCons_eq, e1]
    simp [oLen, Am.listOf, q]
  rw [this, ht.length, List.length_map]
  exact OutR.pur inv (.int _)
theorem w_ix {i : Nat} {xs : List α} {mi : ME} {oi : M μ.σ Int} (h : Γ[i]? = some (.ow (xs.map e))) (hi : E μ Γ mi TV.int oi) : E μ Γ (mOp oIx (mVar i) mi) e (oi.bind fun k => lift (atM xs k)) := fun L F own env A s r inv => by
  obtain ⟨n, zs, e1, q, ht, l⟩ := own_at r h
  rw [mOp_eq, e1, R.bind_ok]
  refine OutR.bind (hi L F own env A s r inv) fun y A1 k s1 g1 i1 p => ?_
  have r1 := r.gr g1
  obtain ⟨n', zs', e1', q', ht', l'⟩ := own_at r1 h
  have hnn : n' = n := by
    obtain ⟨m1, _, q1, q2, _⟩ := r.sl i _ h
    have e2 : mVar i env A = .ok (.loc m1) A := by
      unfold mVar
      rw [q2]
    have e3 : mVar i env A1 = .ok (.loc m1) A1 := by
      unfold mVar
      rw [q2]
    rw [e1] at e2
    rw [e1'] at e3
    cases e2
    cases e3
    rfl
  subst hnn
  rw [tInt p]
  have e4 := atM_map (f := e) (xs := xs) (i := k)
  have q5 := atI_map (f := e) (xs := xs) (i := k)
  rw [lift_eq]
  unfold atM oIx
  dsimp only
  have hl : Am.listOf A1 (.loc n') = some zs' := by simp [Am.listOf, q']
  rw [hl]
  dsimp only
  cases c : atI xs k with
  | none => trivial
  | some a =>
    rw [c] at q5
    obtain ⟨z, h1, h2⟩ := atI_T ht' q5
    rw [h1]
    exact OutR.pur i1 h2
theorem w_tup {i : Nat} {xs : List α} (h : Γ[i]? = some (.ow (xs.map e))) : E μ Γ (mCB oTuple (mCons (mVar i) mNil)) (eT e) (.pure xs) := fun L F own env A s r inv => by
  obtain ⟨n, zs, e1, q, ht, l⟩ := own_at r h
  have : mCB oTuple (mCons (mVar i) mNil) env A = .ok (.tup zs) A := by
    rw [mCB_eq, mCons_eq, e1]
    simp [oTuple, Am.listOf, q]
  rw [this]
  exact OutR.pur inv (.tup ht l)
theorem w_ret {i : Nat} {xs : List α} (h : Γ[i]? = some (.ow (xs.map e))) : SR μ Γ (mRet (mVar i)) (eL e) (.pure xs) := fun L F own env A s r inv => by
  obtain ⟨n, zs, q1, q2, q3, q4, q5⟩ := r.sl i _ h
  have e1 : mVar i env A = .ok (.loc n) A := by
    unfold mVar
    rw [q2]
  unfold mRet
  rw [e1]
  exact ⟨_, A, rfl, .loc (r.obd i n q1).1 q3 (q4.up fun _ _ f e => ⟨f.1, e⟩) q5, inv, Ch.refl⟩
end
end Bm

set_option Elab.async false
set_option linter.all false
set_option maxRecDepth 100000
set_option maxHeartbeats 2000000
/-! Pot: the laws' numbers: the pot that is drawn from. -/
namespace Pot
open PySem PySem.Spec PyProof.Rows L2 Am Bm
noncomputable def b_law_pot : MS :=
  (mSeq (mSet 1 (mLc (miSeq (mSl oSl (mVar 0) mNoPart (mPart (mC (.int 63))))) (gNm 2) mYes (mCB oAbs (mCons (mCB oInt (mCons (mVar 2) mNil)) mNil)) [2]))
  (mRet (mLst (mCons (mVar 1) (mCons (mC (.int 0)) (mCons (mC (.int 0)) (mCons (mOp oAdd (mC (.int 1)) (mCB oLen (mCons (mVar 1) mNil))) (mCons (mC (.int 0)) mNil))))))))
noncomputable def m_law_pot : List AV → Hx → R AV := fdef0 1 2 b_law_pot
noncomputable def b_law_draw : MS :=
  (mSeq (mIf (mAnd (mB (mOp oEq (mOp oIx (mVar 0) (mC (.int 2))) (mC (.int 0)))) (mB (mOp oLt (mOp oIx (mVar 0) (mC (.int 1))) (mCB oLen (mCons (mOp oIx (mVar 0) (mC (.int 0))) mNil)))))
    (mSeq (mSet 2 (mOp oIx (mOp oIx (mVar 0) (mC (.int 0))) (mOp oIx (mVar 0) (mC (.int 1)))))
    (mSeq (mPut (mOp oAdd (mOp oIx (mVar 0) (mC (.int 1))) (mC (.int 1))) (mVar 0) (mC (.int 1)))
    (mSeq (mPut (mOp oMod (mCB oInt (mCons (mOp oAdd (mOp oAdd (mOp oMul (mOp oIx (mVar 0) (mC (.int 3))) (mC (.int 69621))) (mVar 2)) (mC (.int 11))) mNil)) (mC (.int 2147483629))) (mVar 0) (mC (.int 3)))
    (mIf (mB (mOp oGe (mVar 2) (mOp oPow (mC (.int 10)) (mC (.int 18)))))
      (mPut (mVar 2) (mVar 0) (mC (.int 2)))
      mPass))))
    mPass)
  (mSeq (mIf (mB (mOp oGt (mOp oIx (mVar 0) (mC (.int 2))) (mC (.int 0))))
    (mSeq (mSet 3 (mOp oMod (mCB oInt (mCons (mOp oIx (mVar 0) (mC (.int 2))) mNil)) (mVar 1)))
    (mSeq (mPut (mOp oFdiv (mOp oIx (mVar 0) (mC (.int 2))) (mVar 1)) (mVar 0) (mC (.int 2)))
    (mRet (mVar 3))))
    mPass)
  (mSeq (mPut (mOp oAdd (mOp oIx (mVar 0) (mC (.int 4))) (mC (.int 1))) (mVar 0) (mC (.int 4)))
  (mSeq (mSet 4 (mOp oMod (mCB oInt (mCons (mOp oMul (mCB oInt (mCons (mOp oAdd (mOp oIx (mVar 0) (mC (.int 3))) (mOp oMul (mC (.int 7919)) (mOp oIx (mVar 0) (mC (.int 4))))) mNil)) (mC (.int 48271))) mNil)) (mC (.int 2147483647))))
  (mSeq (mSet 4 (mOp oMod (mCB oInt (mCons (mOp oMul (mVar 4) (mOp oAdd (mOp oFdiv (mVar 4) (mC (.int 1009))) (mC (.int 69621)))) mNil)) (mC (.int 2147483647))))
  (mSeq (mSet 4 (mOp oMod (mCB oInt (mCons (mOp oMul (mVar 4) (mOp oAdd (mOp oFdiv (mVar 4) (mC (.int 2003))) (mC (.int 40692)))) mNil)) (mC (.int 2147483399))))
  (mRet (mOp oMod (mCB oInt (mCons (mOp oFdiv (mVar 4) (mC (.int 16))) mNil)) (mVar 1)))))))))
noncomputable def m_law_draw : List AV → Hx → R AV := fdef0 2 3 b_law_draw
noncomputable def b_law_any : MS :=
  (mRet (mOp oIx (mVar 1) (mCB m_law_draw (mCons (mVar 0) (mCons (mCB oLen (mCons (mVar 1) mNil)) mNil)))))
noncomputable def m_law_any : List AV → Hx → R AV := fdef0 2 0 b_law_any

theorem fdef0_eq {n l : Nat} {mb : MS} {xs : List AV} {A : Hx} (h : xs.length = n) : fdef0 n l mb xs A = outR (mb (xs.map some ++ List.replicate l none) A) := if_pos h
abbrev PotS (cs : List Int) : Type := {P : AO // PotO cs P}
abbrev potMd (sl : AO) (cs : List Int) : Md := ⟨PotS cs, 3, fun s => [sl, .lst (cs.map .int), s.1], fun _ => rfl, 2⟩
local macro_rules | `(tactic| walk_at "am") => `(tactic| simp [mVar_eq, oIx, oLen, Am.listOf, mutOf, setIx, atI, ixN, pow18, oMul_l, oMul_r, oMod_p, oFdiv_s, small_iff, *])
def Drawn (cs : List Int) (m : Int) (P : AO) (r : Int) (P' : AO) : Prop := (∀ sl B, m_law_draw [.loc 2, .int m] (sl :: .lst (cs.map .int) :: P :: B) = .ok (.int r) (sl :: .lst (cs.map .int) :: P' :: B)) ∧ 0 ≤ r ∧ r < m
theorem draw_ok (ns : List Int) (P : AO) (m : Int) (hP : PotO ns P) (hm : 0 < m) (hm2 : m < 2 ^ 60) : ∃ r P', Drawn ns m P r P' ∧ PotO ns P' := by
  obtain ⟨i, d, x, n, rfl, hi⟩ := hP.ex
  have sm : m < 18446744073709551616 := by omega
  have sm' : -18446744073709551616 < m := by omega
  have h1 : ∃ (v : Option AV) (i1 d1 x1 : Int), 0 ≤ i1 ∧ ∀ (s : AO) (B : Hx), (mIf (mAnd (mB (mOp oEq (mOp oIx (mVar 0) (mC (.int 2))) (mC (.int 0)))) (mB (mOp oLt (mOp oIx (mVar 0) (mC (.int 1))) (mCB oLen (mCons (mOp oIx (mVar 0) (mC (.int 0))) mNil)))))
    (mSeq (mSet 2 (mOp oIx (mOp oIx (mVar 0) (mC (.int 0))) (mOp oIx (mVar 0) (mC (.int 1)))))
    (mSeq (mPut (mOp oAdd (mOp oIx (mVar 0) (mC (.int 1))) (mC (.int 1))) (mVar 0) (mC (.int 1)))
    (mSeq (mPut (mOp oMod (mCB oInt (mCons (mOp oAdd (mOp oAdd (mOp oMul (mOp oIx (mVar 0) (mC (.int 3))) (mC (.int 69621))) (mVar 2)) (mC (.int 11))) mNil)) (mC (.int 2147483629))) (mVar 0) (mC (.int 3)))
    (mIf (mB (mOp oGe (mVar 2) (mOp oPow (mC (.int 10)) (mC (.int 18)))))
      (mPut (mVar 2) (mVar 0) (mC (.int 2)))
      mPass))))
    mPass) [some (.loc 2), some (.int m), none, none, none] (s :: .lst (ns.map .int) :: AO.lst [AV.loc 1, AV.int i, AV.int d, AV.int x, AV.int n] :: B) = .nx [some (.loc 2), some (.int m), v, none, none] (s :: .lst (ns.map .int) :: AO.lst [AV.loc 1, AV.int i1, AV.int d1, AV.int x1, AV.int n] :: B) := by
    by_cases hd : d = 0
    · by_cases hl : i < (ns.length : Int)
      · have hz : i.toNat < ns.length := by omega
        by_cases hg : (1000000000000000000 : Int) ≤ ns[i.toNat]
        · refine ⟨some (.int ns[i.toNat]), i + 1, ns[i.toNat], (x * 69621 + ns[i.toNat] + 11) % 2147483629, by omega, fun s B => ?_⟩
          walk_at "am"
        · refine ⟨some (.int ns[i.toNat]), i + 1, d, (x * 69621 + ns[i.toNat] + 11) % 2147483629, by omega, fun s B => ?_⟩
          walk_at "am"
      · refine ⟨none, i, d, x, hi, fun s B => ?_⟩
        walk_at "am"
    · refine ⟨none, i, d, x, hi, fun s B => ?_⟩
      walk_at "am"
  obtain ⟨v, i1, d1, x1, hi1, e1⟩ := h1
  by_cases hd : 0 < d1
  · refine ⟨d1 % m, .lst [.loc 1, .int i1, .int (d1 / m), .int x1, .int n], ⟨fun s B => ?_, Int.emod_nonneg _ (by omega), Int.emod_lt_of_pos _ hm⟩, ⟨i1, _, x1, n, rfl, hi1⟩⟩
    unfold m_law_draw
    refine (fdef0_eq rfl).trans ?_
    have e2 : b_law_draw [some (.loc 2), some (.int m), none, none, none] (s :: .lst (ns.map .int) :: AO.lst [AV.loc 1, AV.int i, AV.int d, AV.int x, AV.int n] :: B) = .rt (.int (d1 % m)) (s :: .lst (ns.map .int) :: .lst [.loc 1, .int i1, .int (d1 / m), .int x1, .int n] :: B) := by
      unfold b_law_draw
      rw [seq_of (e := _) (A1 := _) (e1 s B)]
      walk_at "am"
    show outR (b_law_draw [some (.loc 2), some (.int m), none, none, none] _) = _
    rw [e2]
    rfl
  · have e2 : ∀ q : Int, -18446744073709551616 < q % 2147483647 := fun q => by omega
    have e3 : ∀ q : Int, q % 2147483647 < 18446744073709551616 := fun q => by omega
    let xa : Int := (x1 + 7919 * (n + 1)) * 48271 % 2147483647
    let xb : Int := xa * (xa / 1009 + 69621) % 2147483647
    let xc : Int := xb * (xb / 2003 + 40692) % 2147483399
    refine ⟨xc / 16 % m, .lst [.loc 1, .int i1, .int d1, .int x1, .int (n + 1)], ⟨fun s B => ?_, Int.emod_nonneg _ (by omega), Int.emod_lt_of_pos _ hm⟩, ⟨i1, _, x1, _, rfl, hi1⟩⟩
    unfold m_law_draw
    refine (fdef0_eq rfl).trans ?_
    have e4 : b_law_draw [some (.loc 2), some (.int m), none, none, none] (s :: .lst (ns.map .int) :: AO.lst [AV.loc 1, AV.int i, AV.int d, AV.int x, AV.int n] :: B) = .rt (.int (xc / 16 % m)) (s :: .lst (ns.map .int) :: .lst [.loc 1, .int i1, .int d1, .int x1, .int (n + 1)] :: B) := by
      unfold b_law_draw
      rw [seq_of (e := _) (A1 := _) (e1 s B)]
      walk_at "am"
      rfl
    show outR (b_law_draw [some (.loc 2), some (.int m), none, none, none] _) = _
    rw [e4]
    rfl
open Classical in
/-- a number drawn -/
noncomputable def drawM (cs : List Int) (n : Int) : M (PotS cs) Int := fun s => if h : ∃ r, ∃ s' : PotS cs, Drawn cs n s.1 r s'.1 then .ok h.choose h.choose_spec.choose else .bad
theorem drawM_of {cs : List Int} {n r : Int} {s s' : PotS cs} (h : drawM cs n s = .ok r s') : Drawn cs n s.1 r s'.1 := by
  unfold drawM at h
  split at h
  · rename_i q
    cases h
    exact q.choose_spec.choose_spec
  · cases h
theorem drawM_spec {cs : List Int} {n : Int} (h : 0 < n) (h2 : n < 2 ^ 60) (s : PotS cs) : ∃ r s', drawM cs n s = .ok r s' ∧ 0 ≤ r ∧ r < n := by
  obtain ⟨r, P', h1, h3⟩ := draw_ok cs s.1 n s.2 h h2
  have q : ∃ r, ∃ s' : PotS cs, Drawn cs n s.1 r s'.1 := ⟨r, ⟨P', h3⟩, h1⟩
  refine ⟨q.choose, q.choose_spec.choose, ?_, q.choose_spec.choose_spec.2⟩
  unfold drawM
  rw [dif_pos q]
theorem drawM_noex {cs : List Int} {n : Int} {s s' : PotS cs} {z : XT} : drawM cs n s ≠ .ex z s' := by
  unfold drawM
  split <;> intro h <;> cases h
section
variable {sl : AO} {cs : List Int} {α : Type} {e : α → TV}
theorem gr_pot {s s' : PotS cs} {B : Hx} : Gr (potMd sl cs) (sl :: .lst (cs.map .int) :: s.1 :: B) (sl :: .lst (cs.map .int) :: s'.1 :: B) := ⟨by simp, fun n h1 h2 => by
  match n, h2 with
  | n + 3, _ => rfl⟩
theorem t_law_draw : FnS (potMd sl cs) m_law_draw (fun n : Int => [TV.int n]) TV.int (drawM cs) := fun F A xs n s hf hp inv hx => by
  obtain ⟨x, rfl, h⟩ := ts1 hx
  rw [tInt h]
  obtain ⟨B, rfl⟩ := inv
  cases q : drawM cs n s with
  | ok r s' =>
    obtain ⟨h1, h2⟩ := drawM_of q
    exact ⟨.int r, _, h1 sl B, gr_pot, ⟨B, rfl⟩, .int r⟩
  | ex z s' => exact absurd q drawM_noex
  | bad => trivial
/-- a thing drawn of some -/
noncomputable def anyM (cs : List Int) (xs : List α) : M (PotS cs) α := (drawM cs xs.length).bind fun k => lift (atM xs k)
theorem any_go {x : AV} {zs : List AV} {A : Hx} {s s' : PotS cs} {k : Int} {v : AV} (inv : (potMd sl cs).inv s A) (hx : x = .tup zs ∨ ∃ n, 3 ≤ n ∧ x = .loc n ∧ A[n]? = some (.lst zs)) (h : drawM cs zs.length s = .ok k s') (hv : atI zs k = some v) :
    ∃ A', m_law_any [.loc 2, x] A = .ok v A' ∧ Gr (potMd sl cs) A A' ∧ (potMd sl cs).inv s' A' := by
  obtain ⟨B, rfl⟩ := inv
  obtain ⟨h1, h2⟩ := drawM_of h
  refine ⟨_, ?_, gr_pot (s' := s') (B := B), ⟨B, rfl⟩⟩
  have hl : oLen [x] (sl :: .lst (cs.map .int) :: s.1 :: B) = .ok (.int zs.length) (sl :: .lst (cs.map .int) :: s.1 :: B) := by
    rcases hx with rfl | ⟨n, hn, rfl, e⟩
    · rfl
    · simp only [oLen, Am.listOf]
      rw [show (sl :: .lst (cs.map .int) :: s.1 :: B) = (potMd sl cs).hd s ++ B from rfl, e]
  have hi : oIx x (.int k) (sl :: .lst (cs.map .int) :: s'.1 :: B) = .ok v (sl :: .lst (cs.map .int) :: s'.1 :: B) := by
    rcases hx with rfl | ⟨n, hn, rfl, e⟩
    · exact oIx_tup hv
    · refine oIx_loc (xs := zs) ?_ hv
      match n, hn with
      | n + 3, _ => exact e
  have e2 : b_law_any [some (.loc 2), some x] (sl :: .lst (cs.map .int) :: s.1 :: B) = .rt v (sl :: .lst (cs.map .int) :: s'.1 :: B) := by
    unfold b_law_any
    simp only [mRet_eq, mOp_eq, mCB_eq, mCons_eq, mNil_eq, mVar_eq, List.getElem?_cons_zero, List.getElem?_cons_succ, Option.join_some, optR_some, R.bind_ok, hl, h1 sl B, hi, R.st_ok]
  unfold m_law_any
  refine (fdef0_eq rfl).trans ?_
  show outR (b_law_any [some (.loc 2), some x] _) = _
  have e3 : (potMd sl cs).hd s ++ B = sl :: .lst (cs.map .int) :: s.1 :: B := rfl
  rw [e3, e2]
  rfl
theorem any_out {x : AV} {zs : List AV} {A : Hx} {s : PotS cs} {xs : List α} {F G : Nat → Prop} (hp : ∀ n, n < 3 → ¬ F n) (hG : ∀ n, F n → G n) (inv : (potMd sl cs).inv s A) (hx : x = .tup zs ∨ ∃ n, 3 ≤ n ∧ x = .loc n ∧ A[n]? = some (.lst zs)) (ht : Ts F A zs (xs.map e)) :
    OutR (potMd sl cs) A (PE_ e G) (TX G) (m_law_any [.loc 2, x] A) (anyM cs xs s) := by
  have hl : zs.length = xs.length := by rw [ht.length, List.length_map]
  unfold anyM M.bind
  cases q : drawM cs xs.length s with
  | bad => trivial
  | ex z s' => exact absurd q drawM_noex
  | ok k s' =>
    dsimp only
    rw [lift_eq]
    unfold atM
    cases c : atI xs k with
    | none => trivial
    | some a =>
      have q5 : atI (xs.map e) k = some (e a) := by rw [atI_map, c]; rfl
      obtain ⟨v, h1, h2⟩ := atI_T ht q5
      obtain ⟨A', e1, g, i⟩ := any_go inv hx (by rw [hl]; exact q) h1
      refine ⟨v, A', e1, g, i, T.up (fun n o f w => ⟨hG n f, ?_⟩) h2⟩
      rw [g.st n (some_lt w) (Nat.le_of_not_lt fun z => hp n z f)]
      exact w
theorem t_law_anyL : FnS (potMd sl cs) m_law_any (fun xs : List α => [eL e xs]) e (anyM cs) := fun F A xs n s hf hp inv hx => by
  obtain ⟨x, rfl, h⟩ := ts1 hx
  obtain ⟨m, zs, rfl, f, q, ht, l⟩ := tLoc h
  exact any_out hp (fun _ h => h) inv (.inr ⟨m, Nat.le_of_not_lt fun z => hp m z f, rfl, q⟩) ht
theorem t_law_anyT : FnS (potMd sl cs) m_law_any (fun xs : List α => [eT e xs]) e (anyM cs) := fun F A xs n s hf hp inv hx => by
  obtain ⟨x, rfl, h⟩ := ts1 hx
  obtain ⟨zs, rfl, ht, l⟩ := tTup h
  exact any_out hp (fun _ h => h) inv (.inl rfl) ht
theorem w_any {Γ : List Sl} {i j : Nat} {xs : List α} (hp : Γ[j]? = some .pt) (h : Γ[i]? = some (.ow (xs.map e))) : E (potMd sl cs) Γ (mCB m_law_any (mCons (mVar j) (mCons (mVar i) mNil))) e (anyM cs xs) := fun L F own env A s r inv => by
  obtain ⟨n, zs, q1, q2, q3, q4, q5⟩ := r.sl i _ h
  have hv : mVar j env A = .ok (.loc 2) A := by
    unfold mVar
    rw [r.sl j _ hp]
  have hv2 : mVar i env A = .ok (.loc n) A := by
    unfold mVar
    rw [q2]
  have e1 : mCB m_law_any (mCons (mVar j) (mCons (mVar i) mNil)) env A = m_law_any [.loc 2, .loc n] A := by
    simp only [mCB_eq, mCons_eq, mNil_eq, hv, hv2, R.bind_ok]
  rw [e1]
  exact any_out (fun k hk f => r.fp.2 k hk f.1) (fun _ h => h) inv (.inr ⟨n, r.lo (r.obd i n q1).1, rfl, q3⟩) q4
end
/-! ### where the pot is made -/
theorem filter_yes {α : Type} : ∀ xs : List α, xs.filter (fun _ => true) = xs
  | [] => rfl
  | x :: r => by simp
theorem cutA_take {xs : List AV} {i : Int} (h0 : 0 ≤ i) (h1 : i ≤ xs.length) : cutA xs none (some i) = xs.take i.toNat := by
  unfold cutA HT.sIx
  simp
  rw [if_neg (by omega)]
  omega
theorem cutA_drop {xs : List AV} {i : Int} (h0 : 0 ≤ i) (h1 : i ≤ xs.length) : cutA xs (some i) none = xs.drop i.toNat := by
  unfold cutA HT.sIx
  simp
  rw [if_neg (by omega), List.take_of_length_le (by simp), Nat.min_eq_left (by omega)]
theorem cutA_take' {xs : List AV} {i : Int} (h0 : 0 ≤ i) : cutA xs none (some i) = xs.take i.toNat := by
  by_cases h : i ≤ xs.length
  · exact cutA_take h0 h
  · unfold cutA HT.sIx
    simp
    rw [if_neg (by omega)]
    omega
def cellsOf (ns : List Int) : List Int := (ns.take 63).map fun i => (i.natAbs : Int)
theorem pot_ok (ns : List Int) : ∃ s P, m_law_pot [.cst (ns.map .int)] [] = .ok (.loc 2) ([s, .lst ((cellsOf ns).map .int), P]) ∧ PotO (cellsOf ns) P := by
  refine ⟨.lst ((ns.take 63).map .int), .lst [.loc 1, .int 0, .int 0, .int (1 + (cellsOf ns).length), .int 0], ?_, ⟨0, 0, _, 0, rfl, by decide⟩⟩
  unfold m_law_pot
  have hx : ((ns.map AV.int).take 63) = (ns.take 63).map AV.int := by rw [List.map_take]
  have hi : miSeq (mSl oSl (mVar 0) mNoPart (mPart (mC (.int 63)))) [some (.cst (ns.map .int)), none, none] [] = .ok ((ns.take 63).map .int, [(0, (ns.take 63).map .int)]) [.lst ((ns.take 63).map .int)] := by
    have e1 : oSl (.cst (ns.map .int)) none (some 63) [] = .ok (.loc 0) [.lst ((ns.take 63).map .int)] := by
      simp only [oSl, Am.listOf, cutA_take' (show (0:Int) ≤ 63 by decide)]
      rw [show ((63 : Int).toNat) = 63 from rfl, hx]
      rfl
    simp only [miSeq, mSl_eq, mVar_eq, List.getElem?_cons_zero, Option.join_some, optR_some, R.bind_ok, mNoPart_eq, mPart_eq, mC_eq, toI?_int, e1]
    rfl
  have hc : mLc (miSeq (mSl oSl (mVar 0) mNoPart (mPart (mC (.int 63))))) (gNm 2) mYes (mCB oAbs (mCons (mCB oInt (mCons (mVar 2) mNil)) mNil)) [2] [some (.cst (ns.map .int)), none, none] [] = .ok (.loc 1) [.lst ((ns.take 63).map .int), .lst ((cellsOf ns).map .int)] := by
    unfold mLc
    rw [hi, R.bind_ok]
    refine (comp_pure (A := [.lst ((ns.take 63).map .int)]) (c := fun _ => true) (f := fun x => match x with | .int i => .int i.natAbs | _ => .non) rfl (by simp [Am.listOf]) ((ns.take 63).map .int) [] ?_ (by rw [sizeLine_eq]; simp <;> omega)).trans ?_
    · intro x hx
      obtain ⟨i, -, rfl⟩ := List.mem_map.mp hx
      refine ⟨[some (.cst (ns.map .int)), none, some (.int i)], by simp [wipeE], fun acc => ⟨rfl, fun _ => ?_⟩⟩
      simp [mVar_eq, oAbs]
      split <;> omega
    · rw [filter_yes, List.map_map, List.nil_append, cellsOf, List.map_map]
      rfl
  have ee : b_law_pot [some (.cst (ns.map .int)), none, none] [] = .rt (.loc 2) [.lst ((ns.take 63).map .int), .lst ((cellsOf ns).map .int), .lst [.loc 1, .int 0, .int 0, .int (1 + (cellsOf ns).length), .int 0]] := by
    unfold b_law_pot
    refine Eq.trans (seq_of (e := [some (.cst (ns.map .int)), some (.loc 1), none]) (A1 := [.lst ((ns.take 63).map .int), .lst ((cellsOf ns).map .int)]) ?_) ?_
    · rw [mSet_eq, hc]
      rfl
    · have e2 : oLen [.loc 1] [.lst ((ns.take 63).map .int), .lst ((cellsOf ns).map .int)] = .ok (.int (cellsOf ns).length) [.lst ((ns.take 63).map .int), .lst ((cellsOf ns).map .int)] := by
        rw [oLen_loc (xs := (cellsOf ns).map .int) rfl, List.length_map]
      have l5 : (5 : Nat) ≤ sizeLine := by rw [sizeLine_eq]; simp
      simp only [mRet_eq, mLst_eq, mCons_eq, mNil_eq, mVar_eq, mC_eq, mOp_eq, mCB_eq, List.getElem?_cons_zero, List.getElem?_cons_succ, Option.join_some, optR_some, R.bind_ok, e2, oAdd_int, List.length_cons, List.length_nil, Nat.zero_add, Nat.reduceAdd, if_pos l5, R.st_ok]
      rfl
  refine (fdef0_eq rfl).trans ?_
  show outR (b_law_pot [some (.cst (ns.map .int)), none, none] []) = _
  rw [ee]
  rfl

/-- the law's own call -/
theorem law_end {ns : List Int} {l : Nat} {rest : MS} (o : ∀ (sl : AO) (cs : List Int), M (PotS cs) Bool) (h : ∀ sl cs, SR (potMd sl cs) (.no :: .pt :: List.replicate l .no) rest TV.bl (o sl cs)) (ht : ∀ sl cs s, ∃ s', o sl cs s = .ok true s') :
    ∃ A, fdef0 1 (l + 1) (mSeq (mSet 1 (mCB m_law_pot (mCons (mVar 0) mNil))) rest) [.cst (ns.map .int)] [] = .ok (.bl true) A := by
  obtain ⟨sl, P, e, hP⟩ := pot_ok ns
  have r : Rl (potMd sl (cellsOf ns)) 3 (fun n => 3 ≤ n) (List.replicate (l + 2) none) (.no :: .pt :: List.replicate l .no) (some (.cst (ns.map .int)) :: some (.loc 2) :: List.replicate l none) [sl, .lst ((cellsOf ns).map .int), P] := {
    elen := by simp
    olen := by simp
    hL := by simp
    up := fun n h => h
    fp := ⟨Nat.le_refl _, fun n h q => absurd h (Nat.not_lt.mpr q)⟩
    ond := fun i j n q => absurd ⟨i, q⟩ owned_none
    obd := fun i n q => absurd ⟨i, q⟩ owned_none
    sl := fun i g e => by
      match i, e with
      | 0, e => cases e; trivial
      | 1, e => cases e; rfl
      | i + 2, e =>
        have e' : (List.replicate l Sl.no)[i]? = some g := by simpa using e
        rw [List.getElem?_replicate] at e'
        split at e'
        · cases e'; trivial
        · cases e' }
  obtain ⟨s', hs⟩ := ht sl (cellsOf ns) ⟨P, hP⟩
  have q := h sl (cellsOf ns) 3 _ _ _ _ ⟨P, hP⟩ r ⟨[], rfl⟩
  rw [hs] at q
  obtain ⟨x, A', e1, t, -, -⟩ := q
  cases t
  refine ⟨A', ?_⟩
  refine (fdef0_eq rfl).trans ?_
  have e2 : mSeq (mSet 1 (mCB m_law_pot (mCons (mVar 0) mNil))) rest (some (.cst (ns.map .int)) :: none :: List.replicate l none) [] = .rt (.bl true) A' := by
    refine Eq.trans (seq_of (e := some (.cst (ns.map .int)) :: some (.loc 2) :: List.replicate l none) (A1 := [sl, .lst ((cellsOf ns).map .int), P]) ?_) e1
    simp only [mSet_eq, mCB_eq, mCons_eq, mNil_eq, mVar_eq, List.getElem?_cons_zero, Option.join_some, optR_some, R.bind_ok, e, R.st_ok]
    rfl
  show outR (mSeq (mSet 1 (mCB m_law_pot (mCons (mVar 0) mNil))) rest (some (.cst (ns.map .int)) :: none :: List.replicate l none) []) = _
  rw [e2]
  rfl
end Pot

set_option Elab.async false
set_option linter.all false
set_option maxRecDepth 100000
set_option maxHeartbeats 2000000
/-! Bm9: short words for what a program prints. -/
namespace Bm
open PySem PySem.Spec PyProof.Rows L2 Am
section
variable {μ : Md} {Γ Γ1 : List Sl} {α β γ δ ρ : Type} {ma mb mc : ME} {ta tb : MT} {e1 : α → TV} {e2 : β → TV} {e3 : γ → TV} {e : γ → TV} {er : ρ → TV}
theorem e_opT {f : AV → AV → Hx → R AV} {h : α → β → γ} {a : α} {b : β} (H : Fn2 f e1 e2 e (fun a b => .pure (h a b))) (ha : E μ Γ ma e1 (.pure a)) (hb : E μ Γ mb e2 (.pure b)) : E μ Γ (mOp f ma mb) e (.pure (h a b)) := e_op H ha hb
theorem e_unT {f : AV → Hx → R AV} {h : α → γ} {a : α} (H : Fn1 f e1 e (fun a => .pure (h a))) (ha : E μ Γ ma e1 (.pure a)) : E μ Γ (mUn f ma) e (.pure (h a)) := e_un H ha
theorem a_cons1 {el : β → List TV} {mr : MA} {a : α} {b : β} (ha : E μ Γ ma e1 (.pure a)) (hb : EA μ Γ mr el (.pure b)) : EA μ Γ (mCons ma mr) (fun p : α × β => e1 p.1 :: el p.2) (.pure (a, b)) := a_cons ha hb
theorem e_callT {f : List AV → Hx → R AV} {el : α → List TV} {mr : MA} {h : α → γ} {t : α} (H : FnL f el e (fun a => .pure (h a))) (ha : EA μ Γ mr el (.pure t)) : E μ Γ (mCB f mr) e (.pure (h t)) := e_call H ha
theorem e_callP {f : List AV → Hx → R AV} {el : α → List TV} {mr : MA} {g : α → M Unit γ} {t : α} (H : FnL f el e g) (ha : EA μ Γ mr el (.pure t)) : E μ Γ (mCB f mr) e (lift (g t)) := e_call H ha
theorem e_call0 {f : List AV → Hx → R AV} {g : Unit → M Unit γ} (H : FnL f (fun _ : Unit => []) e g) : E μ Γ (mCB f mNil) e (lift (g ())) := e_callP H a_nil
theorem e_callSP {f : List AV → Hx → R AV} {el : α → List TV} {mr : MA} {g : α → M μ.σ γ} {t : α} {i : Nat} (H : FnS μ f el e g) (hp : Γ[i]? = some .pt) (ha : EA μ Γ mr el (.pure t)) : E μ Γ (mCB f (mCons (mVar i) mr)) e (g t) := e_callS H hp ha
theorem ef_callT {f : List AV → Hx → R AV} {el : α → List TV} {mr : MA} {h : α → List γ} {t : α} (H : FnF f el e (fun a => .pure (h a))) (ha : EA μ Γ mr el (.pure t)) : EF μ Γ (mCB f mr) e (.pure (h t)) := ef_call H ha
theorem ef_lst0 : EF μ Γ (mLst mNil) e (.pure []) := ef_lst (el := fun _ : Unit => []) (fun _ : Unit => []) (fun _ => rfl) 0 (fun _ => rfl) (Nat.zero_le _) a_nil
theorem ef_lstT {mr : MA} {el : α → List TV} {t : α} (f : α → List γ) (n : Nat) (h : ∀ a, el a = (f a).map e) (hl : ∀ a, (f a).length = n) (hn : n ≤ 1000) (ha : EA μ Γ mr el (.pure t)) : EF μ Γ (mLst mr) e (.pure (f t)) :=
  ef_lst f h n hl (by rw [sizeLine_eq]; omega) ha
theorem ef_lstM {mr : MA} {el : α → List TV} {oa : M μ.σ α} (f : α → List γ) (n : Nat) (h : ∀ a, el a = (f a).map e) (hl : ∀ a, (f a).length = n) (hn : n ≤ 1000) (ha : EA μ Γ mr el oa) : EF μ Γ (mLst mr) e (oa.bind fun a => .pure (f a)) :=
  ef_lst f h n hl (by rw [sizeLine_eq]; omega) ha
/-- a tuple's display as a value of another kind -/
theorem e_tupT {mr : MA} {el : α → List TV} {t : α} (f : α → γ) (n : Nat) (h : ∀ a, TV.tup (el a) = e (f a)) (hl : ∀ a, (el a).length = n) (hn : n ≤ 1000) (ha : EA μ Γ mr el (.pure t)) : E μ Γ (mTup mr) e (.pure (f t)) :=
  e_coe1 h (e_tup n hl (by rw [sizeLine_eq]; omega) ha)
theorem e_tupM {mr : MA} {el : α → List TV} {oa : M μ.σ α} (f : α → γ) (n : Nat) (h : ∀ a, TV.tup (el a) = e (f a)) (hl : ∀ a, (el a).length = n) (hn : n ≤ 1000) (ha : EA μ Γ mr el oa) : E μ Γ (mTup mr) e (oa.bind fun a => .pure (f a)) :=
  e_coe h (e_tup n hl (by rw [sizeLine_eq]; omega) ha)
theorem b_truP {a : α} (ha : E μ Γ ma e1 (.pure a)) : EB μ Γ (mTru ma) (lift (truT (e1 a))) := b_tru ha
theorem b_truI {a : Int} (ha : E μ Γ ma TV.int (.pure a)) : EB μ Γ (mTru ma) (.pure (a != 0)) := b_tru ha
theorem b_truT {a : List α} (ha : E μ Γ ma (eT e1) (.pure a)) : EB μ Γ (mTru ma) (.pure (!a.isEmpty)) := by
  have := b_tru ha
  cases a <;> exact this
theorem b_truL {a : List α} (ha : E μ Γ ma (eL e1) (.pure a)) : EB μ Γ (mTru ma) (.pure (!a.isEmpty)) := by
  have := b_tru ha
  cases a <;> exact this
/-- a <= b <= c -/
theorem e_chain {f g : AV → AV → Hx → R AV} {p : α → β → M Unit Bool} {q : β → γ → M Unit Bool} {oa : M μ.σ α} {ob : M μ.σ β} {oc : M μ.σ γ} (Hf : Fn2 f e1 e2 TV.bl p) (Hg : Fn2 g e2 e3 TV.bl q) (ha : E μ Γ ma e1 oa) (hb : E μ Γ mb e2 ob) (hc : E μ Γ mc e3 oc) :
    E μ Γ (mChain f g ma mb mc) TV.bl (oa.bind fun a => ob.bind fun b => (lift (p a b)).bind fun k => if k then (oc.bind fun c => lift (q b c)) else .pure false) := fun L F own env A s r inv => by
  refine OutR.bind (ha L F own env A s r inv) fun x A1 a s1 g1 i1 p1 => ?_
  have r1 := r.gr g1
  refine OutR.bind (hb L F own env A1 s1 r1 i1) fun y A2 b s2 g2 i2 p2 => ?_
  have r2 := r1.gr g2
  refine OutR.bind (P := PE_ TV.bl (Cl F own)) (Res.out (m := p a b) (Hf _ _ _ _ _ _ r2.newF (T.up (r1.stayG g2) p1) p2) i2) fun z A3 k s3 g3 i3 p3 => ?_
  have r3 := r2.gr g3
  rw [tBl p3]
  rw [isB_bl, R.bind_ok]
  cases k with
  | false => exact OutR.pur i3 (.bl _)
  | true =>
    show OutR μ A3 _ _ ((mc env A3).bind fun w A5 => g y w A5) ((oc.bind fun c => lift (q b c)) s3)
    refine OutR.bind (hc L F own env A3 s3 r3 i3) fun w A4 c s4 g4 i4 p4 => ?_
    exact Res.out (m := q b c) (Hg _ _ _ _ _ _ (r3.gr g4).newF (T.up (r3.stayG g4) (T.up (r2.stayG g3) p2)) p4) i4
theorem e_chainT {f g : AV → AV → Hx → R AV} {p : α → β → Bool} {q : β → γ → Bool} {a : α} {b : β} {c : γ} (Hf : Fn2 f e1 e2 TV.bl fun a b => .pure (p a b)) (Hg : Fn2 g e2 e3 TV.bl fun a b => .pure (q a b)) (ha : E μ Γ ma e1 (.pure a)) (hb : E μ Γ mb e2 (.pure b)) (hc : E μ Γ mc e3 (.pure c)) :
    E μ Γ (mChain f g ma mb mc) TV.bl (.pure (p a b && q b c)) := by
  have h := e_chain Hf Hg ha hb hc
  rw [show ((M.pure a : M μ.σ α).bind fun a => (M.pure b : M μ.σ β).bind fun b => (lift (M.pure (p a b) : M Unit Bool) : M μ.σ Bool).bind fun k => if k then ((M.pure c : M μ.σ γ).bind fun c => lift (M.pure (q b c) : M Unit Bool)) else .pure false) = .pure (p a b && q b c) from by
    simp only [M.pure_bind, lift_pure]
    cases p a b <;> rfl] at h
  exact h
/-- comprehensions that read -/
theorem ef_compM {mi : MI} {g : MG} {me : ME} {vs : List Nat} {Γb : α → List Sl} {oi : M μ.σ (List α)} {f : α → γ} (hi : EI μ Γ mi e1 oi) (hg : ∀ x, GT μ g (e1 x) (wipeG Γ vs) (Γb x)) (he : ∀ x, E μ (Γb x) me e (.pure (f x))) : EF μ Γ (mLc mi g mYes me vs) e (oi.bind fun xs => .pure (xs.map f)) := by
  have h := ef_comp hi hg (oc := fun _ => .pure true) (fun x => t_yes) he
  simp only [compM_map] at h
  exact h
theorem ef_compF {mi : MI} {g : MG} {mt : MT} {me : ME} {vs : List Nat} {Γb : α → List Sl} {oi : M μ.σ (List α)} {c : α → Bool} {f : α → γ} (hi : EI μ Γ mi e1 oi) (hg : ∀ x, GT μ g (e1 x) (wipeG Γ vs) (Γb x)) (ht : ∀ x, EB μ (Γb x) mt (.pure (c x))) (he : ∀ x, E μ (Γb x) me e (.pure (f x))) : EF μ Γ (mLc mi g mt me vs) e (oi.bind fun xs => .pure ((xs.filter c).map f)) := by
  have h := ef_comp hi hg ht he
  simp only [compM_pure] at h
  exact h
theorem ef_compMT {mi : MI} {g : MG} {me : ME} {vs : List Nat} {Γb : α → List Sl} {xs : List α} {f : α → γ} (hi : EI μ Γ mi e1 (.pure xs)) (hg : ∀ x, GT μ g (e1 x) (wipeG Γ vs) (Γb x)) (he : ∀ x, E μ (Γb x) me e (.pure (f x))) : EF μ Γ (mLc mi g mYes me vs) e (.pure (xs.map f)) := ef_compM hi hg he
theorem ef_compFT {mi : MI} {g : MG} {mt : MT} {me : ME} {vs : List Nat} {Γb : α → List Sl} {xs : List α} {c : α → Bool} {f : α → γ} (hi : EI μ Γ mi e1 (.pure xs)) (hg : ∀ x, GT μ g (e1 x) (wipeG Γ vs) (Γb x)) (ht : ∀ x, EB μ (Γb x) mt (.pure (c x))) (he : ∀ x, E μ (Γb x) me e (.pure (f x))) : EF μ Γ (mLc mi g mt me vs) e (.pure ((xs.filter c).map f)) := ef_compF hi hg ht he
theorem ef_compA {mi : MI} {g : MG} {me : ME} {vs : List Nat} {Γb : α → List Sl} {oi : M μ.σ (List α)} {of : α → M μ.σ γ} (hi : EI μ Γ mi e1 oi) (hg : ∀ x, GT μ g (e1 x) (wipeG Γ vs) (Γb x)) (he : ∀ x, E μ (Γb x) me e (of x)) : EF μ Γ (mLc mi g mYes me vs) e (oi.bind fun xs => compM (fun _ => .pure true) of xs) := ef_comp hi hg (fun _ => t_yes) he
theorem i_lst1 {a : List α} (ha : E μ Γ ma (eL e1) (.pure a)) : EI μ Γ (miSeq ma) e1 (.pure a) := i_lst ha
theorem i_tup1 {a : List α} (ha : E μ Γ ma (eT e1) (.pure a)) : EI μ Γ (miSeq ma) e1 (.pure a) := i_tup ha
theorem i_any1 {a : TV} (ha : E μ Γ ma eA (.pure a)) : EI μ Γ (miSeq ma) eA (lift (seqM a)) := i_any ha
theorem i_enumL1 {ms : MA} {a : List α} (ha : EA μ Γ ms (fun xs => [eL e1 xs]) (.pure a)) : EI μ Γ (miEnum ms) (eP TV.int e1) (.pure (enumI 0 a)) := i_enumL ha
theorem i_enumT1 {ms : MA} {a : List α} (ha : EA μ Γ ms (fun xs => [eT e1 xs]) (.pure a)) : EI μ Γ (miEnum ms) (eP TV.int e1) (.pure (enumI 0 a)) := i_enumT ha
theorem i_enumA1 {ms : MA} {a : TV} (ha : EA μ Γ ms (fun t => [eA t]) (.pure a)) : EI μ Γ (miEnum ms) (eP TV.int eA) ((lift (seqM a)).bind fun xs => .pure (enumI 0 xs)) := i_enumA ha
theorem i_zipT1 {ms : MA} {t : List α × List β} (ha : EA μ Γ ms (fun p => [eT e1 p.1, eT e2 p.2]) (.pure t)) : EI μ Γ (miZip ms) (eP e1 e2) (.pure (t.1.zip t.2)) := i_zipT ha
theorem i_zipL1 {ms : MA} {t : List α × List β} (ha : EA μ Γ ms (fun p => [eL e1 p.1, eL e2 p.2]) (.pure t)) : EI μ Γ (miZip ms) (eP e1 e2) (.pure (t.1.zip t.2)) := i_zipL ha
theorem i_rangeP {i : Int} (ha : EA μ Γ (mCons ma mNil) (fun i => [TV.int i]) (.pure i)) : EI μ Γ (miRange1 (mCons ma mNil)) TV.int (lift (rngM 0 i)) := i_range ha
theorem i_range2P {ms : MA} {p : Int × Int} (ha : EA μ Γ ms (fun p => [TV.int p.1, TV.int p.2]) (.pure p)) : EI μ Γ (miRange2 ms) TV.int (lift (rngM p.1 p.2)) := i_range2 ha
theorem e_slT1 {a : List α} {l h : Option Int} {ml mh : MO} (ha : E μ Γ ma (eT e1) (.pure a)) (hl : EO μ Γ ml (.pure l)) (hh : EO μ Γ mh (.pure h)) : E μ Γ (mSl oSl ma ml mh) (eT e1) (.pure (cutL a l h)) := e_slT ha hl hh
theorem ef_slL1 {a : List α} {l h : Option Int} {ml mh : MO} (ha : E μ Γ ma (eL e1) (.pure a)) (hl : EO μ Γ ml (.pure l)) (hh : EO μ Γ mh (.pure h)) : EF μ Γ (mSl oSl ma ml mh) e1 (.pure (cutL a l h)) := ef_slL ha hl hh
theorem e_revT1 {a : List α} (ha : E μ Γ ma (eT e1) (.pure a)) : E μ Γ (mRev ma) (eT e1) (.pure a.reverse) := e_revT ha
theorem ef_revL1 {a : List α} (ha : E μ Γ ma (eL e1) (.pure a)) : EF μ Γ (mRev ma) e1 (.pure a.reverse) := ef_revL ha
theorem w_ix1 {i : Nat} {xs : List α} {mi : ME} {k : Int} (h : Γ[i]? = some (.ow (xs.map e1))) (hi : E μ Γ mi TV.int (.pure k)) : E μ Γ (mOp oIx (mVar i) mi) e1 (lift (atM xs k)) := w_ix h hi
/-! statements that never end well -/
theorem s_badN {Γ' : β → List Sl} : SN μ Γ mBad Γ' .bad := fun L F own env A s r i => trivial
theorem s_badR : SR μ Γ mBad er .bad := fun L F own env A s r i => trivial
theorem s_badC {Γ' : β → List Sl} : SC μ Γ mBad Γ' er .bad := fun L F own env A s r i => trivial
/-- without one that is new -/
theorem Rl.exc {L : Nat} {F : Nat → Prop} {own : List (Option Nat)} {env : Ev} {A A' : Hx} {n : Nat} (r : Rl μ L F own Γ env A) (g : Gr μ A A') (h1 : A.length ≤ n) (h2 : n < A'.length) : Rl μ A'.length (fun k => F k ∧ k ≠ n) own Γ env A' := by
  have hcl : ∀ k o, Cl F own k → A[k]? = some o → Cl (fun k => F k ∧ k ≠ n) own k ∧ A'[k]? = some o := fun k o hk e =>
    ⟨⟨⟨hk.1, Nat.ne_of_lt (Nat.lt_of_lt_of_le (some_lt e) h1)⟩, hk.2⟩, (r.stayG g k o hk e).2⟩
  exact {
    elen := r.elen
    olen := r.olen
    hL := Nat.le_refl _
    up := fun k h => ⟨r.up k (by have := r.hL; have := g.len; omega), by omega⟩
    fp := ⟨by have := r.fp.1; have := r.hL; have := g.len; omega, fun k h q => r.fp.2 k h q.1⟩
    ond := r.ond
    obd := fun i k h => ⟨⟨(r.obd i k h).1, by have := (r.obd i k h).2; omega⟩, by have := (r.obd i k h).2; have := g.len; omega⟩
    sl := fun i g' h => by
      have q := r.sl i g' h
      cases g' with
      | no => trivial
      | va t =>
        obtain ⟨x, q1, q2⟩ := q
        exact ⟨x, q1, q2.up hcl⟩
      | ow ts =>
        obtain ⟨m, xs, q1, q2, q3, q4, q5⟩ := q
        have hb := r.obd i m q1
        refine ⟨m, xs, q1, q2, ?_, q4.up hcl, q5⟩
        rw [g.st m hb.2 (r.lo hb.1)]
        exact q3
      | pt => exact q }
/-- two names, the first one a list of its own -/
theorem s_parO {i j : Nat} {mr : MA} {oa : M μ.σ (List α)} {ob : M μ.σ β} (hi : (decide (i < Γ.length)) = true) (hij : (decide (i ≠ j)) = true) (ha : EF μ Γ ma e1 oa) (hb : EA μ Γ mr (fun b => [e2 b]) ob) :
    SN μ Γ (mPar i j (mCons ma mr)) (fun p : List α × β => (Γ.set i (.ow (p.1.map e1))).set j (.va (e2 p.2))) (oa.bind fun a => ob.bind fun b => .pure (a, b)) := fun L F own env A s r inv => by
  have hi := of_decide_eq_true hi
  have hij := of_decide_eq_true hij
  have h := ha L F own env A s r inv
  unfold mPar mCons M.bind
  cases e : oa s with
  | ok xs s1 =>
    rw [e] at h
    obtain ⟨x, A', q1, g, i1, n, zs, rfl, h2, h3, h4, h5⟩ := h
    rw [q1, R.bind_ok]
    have r1 := r.gr g
    have rx := r.exc g h2 (some_lt h3)
    have q := hb A'.length _ own env A' s1 rx i1
    dsimp only
    cases e2' : ob s1 with
    | ok b s2 =>
      rw [e2'] at q
      obtain ⟨ys, A2, q2, g2, i2, p2⟩ := q
      rw [q2]
      obtain ⟨y, rfl, py⟩ := ts1 p2
      rw [R.bind_ok, R.st_ok]
      dsimp only
      have hb1 := (some_lt h3)
      have hlo : μ.lo ≤ n := Nat.le_trans (Nat.le_trans r.fp.1 r.hL) h2
      have h3' : A2[n]? = some (.lst zs) := by rw [g2.st n hb1 hlo]; exact h3
      have hst : ∀ k o, (Cl F own k ∧ k ≠ n) → A'[k]? = some o → (Cl F own k ∧ k ≠ n) ∧ A2[k]? = some o := fun k o hk e => ⟨hk, (r1.stayG g2 k o hk.1 e).2⟩
      have ro := (r1.gr g2).setO i hi r (g.trans g2) h2 h3' (h4.up hst) (by simpa using h5)
      refine ⟨_, A2, rfl, ⟨own.set i (some n), ?_, fun m ⟨k, hm⟩ => ?_⟩, i2, (g.trans g2).ch⟩
      · have hcl : ∀ k o, Cl (fun k => F k ∧ k ≠ n) own k → A2[k]? = some o → Cl F (own.set i (some n)) k ∧ A2[k]? = some o := fun k o hk e => ⟨⟨hk.1.1, fun ⟨m, hm⟩ => by
          by_cases hj : i = m
          · subst hj
            rw [List.getElem?_set_self (by rw [r.olen]; exact hi)] at hm
            cases hm
            exact hk.1.2 rfl
          · rw [List.getElem?_set_ne hj] at hm
            exact hk.2 ⟨m, hm⟩⟩, e⟩
        exact ro.set j (py.up hcl)
      · by_cases hj : i = k
        · subst hj
          rw [List.getElem?_set_self (by rw [r.olen]; exact hi)] at hm
          cases hm
          exact .inr h2
        · rw [List.getElem?_set_ne hj] at hm
          exact .inl ⟨k, hm⟩
    | ex z s2 =>
      rw [e2'] at q
      obtain ⟨x, A2, q2, g2, i2, p2⟩ := q
      rw [q2]
      exact ⟨x, env, A2, rfl, p2.up fun k o hk e => ⟨hk.1.1, e⟩, i2, (g.trans g2).ch⟩
    | bad => trivial
  | ex z s1 =>
    rw [e] at h
    obtain ⟨x, A', q1, g, i1, p⟩ := h
    rw [q1]
    exact ⟨x, env, A', rfl, p.toF, i1, g.ch⟩
  | bad => trivial
end
end Bm

set_option Elab.async false
set_option linter.all false
set_option maxRecDepth 100000
set_option maxHeartbeats 2000000
/-! Bm10: more words. -/
namespace Bm
open PySem PySem.Spec PyProof.Rows L2 Am
section
variable {μ : Md} {Γ Γ1 : List Sl} {α β γ δ ρ : Type} {ma mb mc : ME} {ta tb : MT} {e1 : α → TV} {e : γ → TV} {er : ρ → TV}
theorem f_isi2 {n : String} : FnL oIsi (fun p : TV × Unit => [eA p.1, TV.ty n]) TV.bl (fun p => isiM n p.1) := fun F A xs a hf hx => f_isi F A xs a.1 hf hx
theorem e_isi {n : String} {a : TV} (ha : E μ Γ ma eA (.pure a)) : E μ Γ (mCB oIsi (mCons ma (mCons (mC (.ty n)) mNil))) TV.bl (lift (isiM n a)) :=
  e_callP (t := (a, ())) f_isi2 (a_cons1 ha (a_one (e_const (e1 := fun _ : Unit => TV.ty n) (a := ()) fun _ _ => .ty _)))
theorem e_isiM {n : String} {oa : M μ.σ TV} (ha : E μ Γ ma eA oa) : E μ Γ (mCB oIsi (mCons ma (mCons (mC (.ty n)) mNil))) TV.bl (oa.bind fun a => lift (isiM n a)) := by
  have h := e_call f_isi2 (a_cons ha (a_one (e_const (μ := μ) (Γ := Γ) (x := .ty n) (e1 := fun _ : Unit => TV.ty n) (a := ()) fun _ _ => .ty _)))
  simp only [M.pure_bind, M.bind_assoc] at h
  exact h
theorem s_augA {i : Nat} {x : Int} {oa : M μ.σ Int} (h : Γ[i]? = some (.va (TV.int x))) (ha : E μ Γ ma TV.int oa) : SN μ Γ (mAug i aAdd ma) (fun z => Γ.set i (.va (TV.int z))) (oa.bind fun a => .pure (x + a)) := fun L F own env A s r inv => by
  obtain ⟨v, h1, h2⟩ := r.sl i _ h
  have hv := tInt h2
  subst hv
  unfold mAug
  rw [h1]
  refine OutS.st (ha L F own env A s r inv) fun y A1 a s1 g i1 p => ?_
  rw [tInt p]
  exact ⟨_, A1, rfl, (After.refl ((r.gr g).set i (.int _)) i1).of g⟩
theorem s_augS {i : Nat} {x : Int} {oa : M μ.σ Int} (h : Γ[i]? = some (.va (TV.int x))) (ha : E μ Γ ma TV.int oa) : SN μ Γ (mAug i oSub ma) (fun z => Γ.set i (.va (TV.int z))) (oa.bind fun a => .pure (x - a)) := fun L F own env A s r inv => by
  obtain ⟨v, h1, h2⟩ := r.sl i _ h
  have hv := tInt h2
  subst hv
  unfold mAug
  rw [h1]
  refine OutS.st (ha L F own env A s r inv) fun y A1 a s1 g i1 p => ?_
  rw [tInt p]
  exact ⟨_, A1, rfl, (After.refl ((r.gr g).set i (.int _)) i1).of g⟩
noncomputable def exM {σ : Type} (xs ys : List α) : M σ (List α) := chk (xs.length + ys.length ≤ sizeLine) (.pure (xs ++ ys))
theorem s_extend {i : Nat} {xs : List α} {oa : M μ.σ (List α)} (h : Γ[i]? = some (.ow (xs.map e1))) (ha : E μ Γ ma (eL e1) oa) : SN μ Γ (mDrop (mBM "list" tyL oExtend (mVar i) (mCons ma mNil))) (fun ys : List α => Γ.set i (.ow (ys.map e1))) (oa.bind fun a => exM xs a) := fun L F own env A s r inv => by
  obtain ⟨n, zs, q1, q2, q3, q4, q5⟩ := r.sl i _ h
  have hv : mVar i env A = .ok (.loc n) A := by
    unfold mVar
    rw [q2]
  have ht : tyL (.loc n) A = true := by
    unfold tyL Am.listOf
    dsimp only
    rw [q3]
    rfl
  have e : mDrop (mBM "list" tyL oExtend (mVar i) (mCons ma mNil)) env A = (ma env A).st env fun x A1 => (oExtend (.loc n) [x] A1).st env fun _ A2 => .nx env A2 := by
    unfold mDrop mBM
    rw [hv, R.bind_ok, if_pos ht]
    unfold mCons
    cases ma env A <;> rfl
  rw [e]
  refine OutS.st (ha L F own env A s r inv) fun x A1 a s1 g i1 p => ?_
  have r1 := r.gr g
  have hb := r.obd i n q1
  have q3' : A1[n]? = some (.lst zs) := by rw [g.st n hb.2 (r.lo hb.1)]; exact q3
  have q4' := q4.up (r.stayG g)
  have hzl := q4.length
  obtain ⟨m, ws, rfl, -, w1, w2, w3⟩ := tLoc p
  have hwl := w2.length
  unfold exM oExtend
  rw [chk_ite]
  have hm : mutOf A1 (.loc n) = some (n, zs) := by simp [mutOf, q3']
  have hm2 : mutOf A1 (.loc m) = some (m, ws) := by simp [mutOf, w1]
  rw [List.length_map] at hzl hwl
  dsimp only
  rw [hm, hm2]
  dsimp only
  rw [hzl, hwl]
  split
  · rename_i hlt
    refine ⟨env, _, rfl, ⟨own, r1.mut h q1 q2 q3' (zs := zs ++ ws) (ts := (xs ++ a).map e1) ?_ (by simpa using hlt), fun m hm => .inl hm⟩, inv_mut r1 q1 i1, g.ch.trans Ow.refl (ch_mut q1)⟩
    rw [List.map_append]
    exact q4'.app w2
  · trivial
section
variable [DecidableEq α] {n : Nat} {d : α → PyData}
theorem w_in {i : Nat} {xs : List α} {a : α} (D : Dat n e1 d) (h : Γ[i]? = some (.ow (xs.map e1))) (ha : E μ Γ ma e1 (.pure a)) (hn : n ≤ 58 := by decide) : E μ Γ (mOp oIn ma (mVar i)) TV.bl (.pure (decide (a ∈ xs))) := fun L F own env A s r inv => by
  have h0 := ha L F own env A s r inv
  obtain ⟨x, A1, e1', g1, i1, p⟩ := h0
  rw [mOp_eq, e1', R.bind_ok]
  have r1 := r.gr g1
  obtain ⟨m, zs, e3, q, ht, l⟩ := own_at r1 h
  rw [e3, R.bind_ok]
  have tt : T (fun _ => True) A1 (.loc m) (eL e1 xs) := .loc trivial q (ht.up fun _ _ _ e => ⟨trivial, e⟩) l
  have tp : T (fun _ => True) A1 x (e1 a) := T.up (fun _ _ _ e => ⟨trivial, e⟩) p
  have z := inD_T tp tt
  have e4 : inT (e1 a) (eL e1 xs) = .pure (decide (a ∈ xs)) := by
    unfold inT
    rw [D.to a 60 (by omega)]
    exact anyT_dat D hn a xs
  rw [e4] at z
  have z' : inD A1 x (.loc m) = .ok (decide (a ∈ xs)) A1 := z
  unfold oIn
  rw [z']
  exact (OutR.pur i1 (.bl _)).base g1
theorem w_nin {i : Nat} {xs : List α} {a : α} (D : Dat n e1 d) (h : Γ[i]? = some (.ow (xs.map e1))) (ha : E μ Γ ma e1 (.pure a)) (hn : n ≤ 58 := by decide) : E μ Γ (mOp oNotIn ma (mVar i)) TV.bl (.pure (!decide (a ∈ xs))) := fun L F own env A s r inv => by
  have h0 := ha L F own env A s r inv
  obtain ⟨x, A1, e1', g1, i1, p⟩ := h0
  rw [mOp_eq, e1', R.bind_ok]
  have r1 := r.gr g1
  obtain ⟨m, zs, e3, q, ht, l⟩ := own_at r1 h
  rw [e3, R.bind_ok]
  have tt : T (fun _ => True) A1 (.loc m) (eL e1 xs) := .loc trivial q (ht.up fun _ _ _ e => ⟨trivial, e⟩) l
  have tp : T (fun _ => True) A1 x (e1 a) := T.up (fun _ _ _ e => ⟨trivial, e⟩) p
  have z := inD_T tp tt
  have e4 : inT (e1 a) (eL e1 xs) = .pure (decide (a ∈ xs)) := by
    unfold inT
    rw [D.to a 60 (by omega)]
    exact anyT_dat D hn a xs
  rw [e4] at z
  have z' : inD A1 x (.loc m) = .ok (decide (a ∈ xs)) A1 := z
  unfold oNotIn
  rw [z']
  exact (OutR.pur i1 (.bl _)).base g1
end
/-- two names by a tuple are two names -/
theorem asg_par {i j : Nat} : mAsg (gTp (gCs (gNm i) (gCs (gNm j) gNl))) (mTup (mCons ma (mCons mb mNil))) = mPar i j (mCons ma (mCons mb mNil)) := by
  funext env A
  simp only [mAsg_eq, mPar_eq, mTup_eq, mCons_eq, mNil_eq, R.bind_ok]
  cases ma env A with
  | ok x A1 =>
    simp only [R.bind_ok]
    cases mb env A1 with
    | ok y A2 =>
      simp only [R.bind_ok]
      have h : [x, y].length ≤ sizeLine := by rw [sizeLine_eq]; simp
      rw [if_pos h]
      rfl
    | _ => rfl
  | _ => rfl
theorem s_asgO {i j : Nat} {e2 : β → TV} {oa : M μ.σ (List α)} {ob : M μ.σ β} (hi : (decide (i < Γ.length)) = true) (hij : (decide (i ≠ j)) = true) (ha : EF μ Γ ma e1 oa) (hb : EA μ Γ (mCons mb mNil) (fun b => [e2 b]) ob) :
    SN μ Γ (mAsg (gTp (gCs (gNm i) (gCs (gNm j) gNl))) (mTup (mCons ma (mCons mb mNil)))) (fun p : List α × β => (Γ.set i (.ow (p.1.map e1))).set j (.va (e2 p.2))) (oa.bind fun a => ob.bind fun b => .pure (a, b)) := by
  rw [asg_par]
  exact s_parO hi hij ha hb
end
end Bm

set_option Elab.async false
set_option linter.all false
set_option maxRecDepth 100000
set_option maxHeartbeats 1000000
/-! Bm11: reckoning with what defs do. -/
namespace Bm
open PySem PySem.Spec PyProof.Rows L2 Am
section
variable {σ α β γ ρ : Type}
/-- it ends well, and what it tells is so -/
def Ok (m : M σ α) (P : α → Prop) : Prop := ∀ s, ∃ a s', m s = .ok a s' ∧ P a
theorem Ok.pure {a : α} {P : α → Prop} (h : P a) : Ok (M.pure a : M σ α) P := fun s => ⟨a, s, rfl, h⟩
theorem Ok.bind {m : M σ α} {k : α → M σ β} {P : α → Prop} {Q : β → Prop} (h : Ok m P) (hk : ∀ a, P a → Ok (k a) Q) : Ok (m.bind k) Q := fun s => by
  obtain ⟨a, s1, e, p⟩ := h s
  obtain ⟨b, s2, e2, q⟩ := hk a p s1
  exact ⟨b, s2, by rw [M.bind_ok e]; exact e2, q⟩
theorem Ok.mono {m : M σ α} {P Q : α → Prop} (h : Ok m P) (w : ∀ a, P a → Q a) : Ok m Q := fun s => by
  obtain ⟨a, s1, e, p⟩ := h s
  exact ⟨a, s1, e, w a p⟩
theorem Ok.eq {m : M σ α} {a : α} {P : α → Prop} (e : m = .pure a) (h : P a) : Ok m P := e ▸ Ok.pure h
theorem Ok.lift {m : M Unit α} {P : α → Prop} (h : Ok m P) : Ok (lift m : M σ α) P := fun s => by
  obtain ⟨a, u, e, p⟩ := h ()
  exact ⟨a, s, by rw [lift_eq', e], p⟩
where lift_eq' {m : M Unit α} {s : σ} : Bm.lift m s = match m () with
    | .ok a _ => .ok a s
    | .ex e _ => .ex e s
    | .bad => .bad := rfl
theorem Ok.draw {cs : List Int} {n : Int} (h : 0 < n) (h2 : n < 1000000000000) : Ok (Pot.drawM cs n) (fun r => 0 ≤ r ∧ r < n) := fun s => by
  obtain ⟨r, s', e, q⟩ := Pot.drawM_spec (cs := cs) h (by omega) s
  exact ⟨r, s', e, q⟩
theorem ixN_of {n : Nat} {i : Int} (h0 : 0 ≤ i) (h : i < n) : ixN n i = some i.toNat := by
  have e : i = ((i.toNat : Nat) : Int) := by omega
  rw [e]
  exact ixN_nat (by omega)
theorem atM_of {xs : List α} {i : Int} (h0 : 0 ≤ i) (h : i < xs.length) : ∃ a, xs[i.toNat]? = some a ∧ a ∈ xs ∧ atM xs i = .pure a := by
  have hl : i.toNat < xs.length := by omega
  refine ⟨xs[i.toNat], List.getElem?_eq_getElem hl, List.getElem_mem hl, ?_⟩
  unfold atM atI
  rw [ixN_of h0 h]
  show (match xs[i.toNat]? with
    | some a => M.pure a
    | none => M.bad) = _
  rw [List.getElem?_eq_getElem hl]
theorem atM_nat {xs : List α} {i : Nat} {a : α} (h : xs[i]? = some a) : atM xs (i : Int) = .pure a := by
  unfold atM atI
  rw [ixN_nat (List.getElem?_eq_some_iff.mp h).1]
  show (match xs[i]? with
    | some a => M.pure a
    | none => M.bad) = _
  rw [h]
theorem atM_zero {x : α} {xs : List α} : atM (x :: xs) 0 = .pure x := atM_nat (i := 0) rfl
theorem Ok.any {cs : List Int} {xs : List α} (h : xs ≠ []) (h2 : xs.length < 1000000) : Ok (Pot.anyM cs xs) (fun a => a ∈ xs) := by
  have hl : 0 < xs.length := List.length_pos_iff.mpr h
  refine Ok.bind (Ok.draw (n := xs.length) (by omega) (by omega)) fun k hk => ?_
  obtain ⟨a, h1, h3, h4⟩ := atM_of hk.1 hk.2
  rw [h4, lift_pure]
  exact Ok.pure h3
theorem Ok.ite {c : Bool} {m n : M σ α} {P : α → Prop} (h1 : c = true → Ok m P) (h2 : c = false → Ok n P) : Ok (if c then m else n) P := by
  cases c with
  | true => exact h1 rfl
  | false => exact h2 rfl
theorem Ok.forL {I : List α → β → Prop} {b : β → α → M σ β} (h : ∀ x r st, I (x :: r) st → Ok (b st x) (I r)) : ∀ xs st, I xs st → Ok (forL b xs st) (I [])
  | [], st, hI => Ok.pure hI
  | x :: r, st, hI => Ok.bind (h x r st hI) fun st' h' => Ok.forL h r st' h'
theorem Ok.forC {I : List α → β → Prop} {b : β → α → M σ (Ctl β ρ)} (h : ∀ x r st, I (x :: r) st → Ok (b st x) (fun c => ∃ st', c = .nx st' ∧ I r st')) : ∀ xs st, I xs st → Ok (forC b xs st) (fun c => ∃ st', c = .nx st' ∧ I [] st')
  | [], st, hI => Ok.pure ⟨st, rfl, hI⟩
  | x :: r, st, hI => Ok.bind (h x r st hI) fun c ⟨st', e, h'⟩ => by
    subst e
    exact Ok.forC h r st' h'
theorem Ok.thenR {o : M σ (Ctl α ρ)} {ob : α → M σ ρ} {I : α → Prop} {P : ρ → Prop} (h : Ok o (fun c => ∃ st, c = .nx st ∧ I st)) (hk : ∀ st, I st → Ok (ob st) P) : Ok (thenR o ob) P := Ok.bind h fun c ⟨st, e, h'⟩ => by
  subst e
  exact hk st h'
theorem Ok.thenC {o : M σ (Ctl α ρ)} {ob : α → M σ (Ctl β ρ)} {I : α → Prop} {P : Ctl β ρ → Prop} (h : Ok o (fun c => ∃ st, c = .nx st ∧ I st)) (hk : ∀ st, I st → Ok (ob st) P) : Ok (thenC o ob) P := Ok.bind h fun c ⟨st, e, h'⟩ => by
  subst e
  exact hk st h'
/-- each item in a relation to what it is made of -/
inductive All2 {α β : Type} (P : α → β → Prop) : List α → List β → Prop where
  | nil : All2 P [] []
  | cons {x : α} {y : β} {xs : List α} {ys : List β} (h : P x y) (r : All2 P xs ys) : All2 P (x :: xs) (y :: ys)
theorem All2.length {P : α → β → Prop} : ∀ {xs : List α} {ys : List β}, All2 P xs ys → ys.length = xs.length
  | _, _, .nil => rfl
  | _, _, .cons _ r => by simp [r.length]
theorem All2.get {P : α → β → Prop} : ∀ {xs : List α} {ys : List β} {i : Nat} {y : β}, All2 P xs ys → ys[i]? = some y → ∃ x, xs[i]? = some x ∧ P x y
  | _, _, i, y, .nil, e => by simp at e
  | _, _, 0, y, .cons h _, e => by
    simp at e
    subst e
    exact ⟨_, rfl, h⟩
  | _, _, i + 1, y, .cons _ r, e => All2.get (i := i) r (by simpa using e)
theorem All2.mem {P : α → β → Prop} : ∀ {xs : List α} {ys : List β} {y : β}, All2 P xs ys → y ∈ ys → ∃ x, x ∈ xs ∧ P x y
  | _, _, y, .nil, h => nomatch h
  | _, _, y, .cons h r, m => by
    rcases List.mem_cons.mp m with rfl | m
    · exact ⟨_, List.mem_cons_self, h⟩
    · obtain ⟨x, h1, h2⟩ := All2.mem r m
      exact ⟨x, List.mem_cons_of_mem _ h1, h2⟩
theorem noex_ok {m : M σ α} {P : α → Prop} (h : Ok m P) : Ok m.noex P := fun s => by
  obtain ⟨a, s1, e, p⟩ := h s
  exact ⟨a, s1, by unfold M.noex; rw [e], p⟩
theorem Ok.comp {P : α → γ → Prop} {of : α → M σ γ} : ∀ xs : List α, (∀ x, x ∈ xs → Ok (of x) (P x)) → Ok (compM (fun _ => .pure true) of xs) (All2 P xs)
  | [], _ => Ok.pure .nil
  | x :: r, h => by
    unfold compM
    rw [M.noex_pure, M.pure_bind]
    refine Ok.bind (noex_ok (h x List.mem_cons_self)) fun y hy => ?_
    refine Ok.bind (Ok.comp r fun z hz => h z (List.mem_cons_of_mem x hz)) fun ys hys => ?_
    exact Ok.pure (.cons hy hys)
/-! ### exactly -/
theorem forL_eq {g : β → α → β} {I : List α → β → Prop} {b : β → α → M σ β} (h : ∀ x r st, I (x :: r) st → b st x = .pure (g st x) ∧ I r (g st x)) : ∀ xs st, I xs st → forL b xs st = .pure (xs.foldl g st)
  | [], st, _ => rfl
  | x :: r, st, hI => by
    obtain ⟨e, h'⟩ := h x r st hI
    unfold forL
    rw [e, M.pure_bind, forL_eq h r _ h']
    rfl
theorem compM_eq {c : α → Bool} {f : α → γ} {oc : α → M σ Bool} {of : α → M σ γ} : ∀ xs : List α, (∀ x, x ∈ xs → oc x = .pure (c x) ∧ (c x = true → of x = .pure (f x))) → compM oc of xs = .pure ((xs.filter c).map f)
  | [], _ => rfl
  | x :: r, h => by
    obtain ⟨h1, h2⟩ := h x List.mem_cons_self
    unfold compM
    rw [h1, M.noex_pure, M.pure_bind, compM_eq r fun z hz => h z (List.mem_cons_of_mem x hz)]
    cases hc : c x with
    | false => simp [hc]
    | true =>
      rw [h2 hc]
      simp [hc]
theorem compM_all {f : α → γ} {of : α → M σ γ} (xs : List α) (h : ∀ x, x ∈ xs → of x = .pure (f x)) : compM (fun _ => .pure true) of xs = .pure (xs.map f) := by
  rw [compM_eq (c := fun _ => true) (f := f) xs fun x hx => ⟨rfl, fun _ => h x hx⟩]
  rw [List.filter_eq_self.mpr fun _ _ => rfl]
theorem rngM_of {lo hi : Int} (h1 : -1000000 ≤ lo) (h2 : lo ≤ 1000000) (h3 : -1000000 ≤ hi) (h4 : hi ≤ 1000000) : rngM lo hi = .pure (rng lo hi) := by
  unfold rngM
  rw [chk_pos]
  refine ⟨⟨by omega, by omega⟩, ⟨by omega, by omega⟩, ?_⟩
  have : sizeLine = 16777216 := by rw [sizeLine_eq]
  omega
theorem mulM_of {a b : Int} (h : small b) : mulM a b = .pure (a * b) := chk_pos (.inr (.inl h))
theorem mulM_ofl {a b : Int} (h : small a) : mulM a b = .pure (a * b) := chk_pos (.inl h)
theorem fdivM_of {a b : Int} (h : 0 < b) (h2 : b < 1000000000000) : fdivM a b = .pure (a / b) := chk_pos ⟨h, wide_small ⟨by omega, by omega⟩⟩
theorem modM_of {a b : Int} (h : 0 < b) : modM a b = .pure (a % b) := chk_pos h
theorem catM_of {xs ys : List α} (h : xs.length + ys.length ≤ 1000000) : catM xs ys = .pure (xs ++ ys) := chk_pos (by rw [sizeLine_eq]; omega)
theorem apM_of {xs : List α} {a : α} (h : xs.length ≤ 1000000) : (apM xs a : M σ (List α)) = .pure (xs ++ [a]) := chk_pos (by rw [sizeLine_eq]; omega)
theorem exM_of {xs ys : List α} (h : xs.length + ys.length ≤ 1000000) : (exM xs ys : M σ (List α)) = .pure (xs ++ ys) := chk_pos (by rw [sizeLine_eq]; omega)
theorem rng_nil {a b : Int} (h : b ≤ a) : rng a b = [] := by
  unfold rng
  rw [show (b - a).toNat = 0 by omega]
  rfl
theorem rng_cons {a b : Int} (h : a < b) : rng a b = a :: rng (a + 1) b := by
  unfold rng
  obtain ⟨k, hk⟩ : ∃ k : Nat, (b - a).toNat = k + 1 := ⟨(b - a).toNat - 1, by omega⟩
  rw [hk, show (b - (a + 1)).toNat = k by omega, List.range_succ_eq_map, List.map_cons, List.map_map]
  congr 1
  · simp
  · apply List.map_congr_left
    intro x _
    simp
    omega
theorem rng_get {a b : Int} {k : Nat} (h : (k : Int) < b - a) : (rng a b)[k]? = some (a + k) := by
  unfold rng
  rw [List.getElem?_map, List.getElem?_range (by omega)]
  rfl
theorem enumI_get : ∀ {k : Int} {xs : List α} {i : Nat} {p : Int × α}, (enumI k xs)[i]? = some p → ∃ y, xs[i]? = some y ∧ p = (k + i, y)
  | k, [], i, p, h => by simp [enumI] at h
  | k, y :: r, 0, p, h => by
    simp [enumI] at h
    exact ⟨y, rfl, by rw [← h]; simp⟩
  | k, y :: r, i + 1, p, h => by
    simp only [enumI, List.getElem?_cons_succ] at h
    obtain ⟨z, h1, h2⟩ := enumI_get h
    exact ⟨z, h1, by rw [h2]; congr 1; omega⟩
theorem mem_enumI {k : Int} {xs : List α} {p : Int × α} (h : p ∈ enumI k xs) : ∃ i : Nat, xs[i]? = some p.2 ∧ p.1 = k + i := by
  obtain ⟨i, hi⟩ := List.getElem?_of_mem h
  obtain ⟨y, h1, rfl⟩ := enumI_get hi
  exact ⟨i, h1, rfl⟩
end
end Bm

set_option Elab.async false
set_option linter.all false
set_option maxRecDepth 100000
set_option maxHeartbeats 1000000
namespace Bm
open PySem PySem.Spec PyProof.Rows L2 Am
section
variable {μ : Md} {Γ : List Sl} {α : Type}
theorem s_par3 {i j l : Nat} {ms : MA} {oa : M μ.σ α} {e1 e2 e3 : α → TV} (ha : EA μ Γ ms (fun a => [e1 a, e2 a, e3 a]) oa) : SN μ Γ (mPar3 i j l ms) (fun a => ((Γ.set i (.va (e1 a))).set j (.va (e2 a))).set l (.va (e3 a))) oa := fun L F own env A s r inv => by
  have h := OutS.st (env := env) (k := fun xs A1 => match xs with
    | [x, y, z] => .nx (((env.set i (some x)).set j (some y)).set l (some z)) A1
    | _ => .bad) (ob := M.pure) (Q := QN μ L F own A fun a => ((Γ.set i (.va (e1 a))).set j (.va (e2 a))).set l (.va (e3 a))) (ha L F own env A s r inv) fun xs A1 a s1 gr i1 p => by
      have p' : Ts (Cl F own) A1 xs [e1 a, e2 a, e3 a] := p
      cases p' with
      | cons p1 p2 =>
        cases p2 with
        | cons p2 p3 =>
          cases p3 with
          | cons p3 p4 =>
            cases p4
            exact ⟨_, A1, rfl, (After.refl ((((r.gr gr).set i p1).set j p2).set l p3) i1).of gr⟩
  rw [M.bind_pure] at h
  exact h
end
/-! ### words -/
theorem shaped_str {a : Str} (h : PyData.strOk a = true) : SeqAt.shaped (.str a) = true := by
  simp [SeqAt.shaped, PyData.canLay0, h, PyData.depth]
theorem eqv_strD {a b : Str} : PyData.eqv (.str a) (.str b) = decide (a = b) := by
  rw [PyData.eqv]
  by_cases h : a = b
  · simp [h]
  · simp [h]
theorem eqT_str {a b : Str} (ha : PyData.strOk a = true) (hb : PyData.strOk b = true) : eqT (.str a) (.str b) = .pure (decide (a = b)) := by
  unfold eqT
  simp only [toDT]
  rw [if_pos ⟨shaped_str ha, shaped_str hb⟩, eqv_strD]
theorem canLayAll_str : ∀ {ws : List Str}, (∀ w, w ∈ ws → PyData.strOk w = true) → PyData.canLayAll0 (ws.map .str) = true
  | [], _ => by simp [PyData.canLayAll0]
  | w :: r, h => by
    simp only [List.map_cons, PyData.canLayAll0, PyData.canLay0, h w List.mem_cons_self, canLayAll_str fun v hv => h v (List.mem_cons_of_mem w hv), Bool.true_and]
theorem depthAll_str : ∀ {ws : List Str}, PyData.depthAll (ws.map .str) = 0
  | [] => by simp [PyData.depthAll]
  | w :: r => by
    rw [List.map_cons, PyData.depthAll, depthAll_str (ws := r)]
    simp [PyData.depth]
theorem allDT_str {k : Nat} : ∀ {ws : List Str}, allDT (toDT k) (ws.map TV.str) = some (ws.map PyData.str)
  | [] => rfl
  | w :: r => by
    rw [List.map_cons, allDT, allDT_str]
    cases k <;> simp [toDT]
theorem inT_str {a : Str} {ws : List Str} (ha : PyData.strOk a = true) (hw : ∀ w, w ∈ ws → PyData.strOk w = true) : inT (.str a) (eT TV.str ws) = .pure (decide (a ∈ ws)) := by
  unfold inT
  simp only [toDT]
  unfold anyT
  rw [allDT_str]
  dsimp only
  have hd : PyData.depthAll (ws.map PyData.str) ≤ 1 := by rw [depthAll_str]; omega
  rw [if_pos ⟨shaped_str ha, by simp [SeqAt.shaped, PyData.canLay0, canLayAll_str hw, PyData.depth]; omega, by simp [SeqAt.shaped, PyData.canLay0, canLayAll_str hw, PyData.depth]; omega⟩, List.any_map]
  congr 1
  rw [Bool.eq_iff_iff, List.any_eq_true, decide_eq_true_iff]
  constructor
  · rintro ⟨w, h1, h2⟩
    have : PyData.eqv (.str w) (.str a) = true := h2
    rw [eqv_strD, decide_eq_true_iff] at this
    exact this ▸ h1
  · intro h
    refine ⟨a, h, ?_⟩
    show PyData.eqv (.str a) (.str a) = true
    rw [eqv_strD]
    simp
end Bm

set_option Elab.async false
set_option linter.all false
set_option maxRecDepth 100000
set_option maxHeartbeats 1000000
/-! Bm13: raise and try. -/
namespace Bm
open PySem PySem.Spec PyProof.Rows L2 Am
section
variable {σ α β : Type}
noncomputable def tryM (c : Value) (m h : M σ α) : M σ α := fun s => match m s with
  | .ex z s' => @ite _ (z.cls = c ∧ z.fs = []) (Classical.propDecidable _) (h.noex s') .bad
  | o => o
theorem tryM_pure {c : Value} {a : α} {h : M σ α} : tryM c (.pure a) h = .pure a := rfl
theorem tryM_throw {c : Value} {h : M σ α} : tryM c (.throw ⟨c, []⟩) h = h.noex := by
  funext s
  unfold tryM M.throw
  dsimp only
  rw [if_pos ⟨rfl, rfl⟩]
end
section
variable {μ : Md} {Γ : List Sl} {β ρ : Type} {er : ρ → TV} {c : Value}
theorem s_throwN {Γ' : β → List Sl} : SN μ Γ (mRaise c) Γ' (.throw ⟨c, []⟩) := fun L F own env A s r i => ⟨_, _, _, rfl, ⟨rfl, .nil⟩, i, Ch.refl⟩
theorem s_throwR : SR μ Γ (mRaise c) er (.throw ⟨c, []⟩) := fun L F own env A s r i => ⟨_, _, _, rfl, ⟨rfl, .nil⟩, i, Ch.refl⟩
theorem s_throwC {Γ' : β → List Sl} : SC μ Γ (mRaise c) Γ' er (.throw ⟨c, []⟩) := fun L F own env A s r i => ⟨_, _, _, rfl, ⟨rfl, .nil⟩, i, Ch.refl⟩
theorem s_tryR {i : Nat} {me : ME} {mh : MS} {o oh : M μ.σ ρ} (ha : E μ Γ me er o) (hh : SR μ Γ mh er oh) : SR μ Γ (mTry1 i c (mRet me) mh) er (tryM c o oh) := fun L F own env A s r inv => by
  have h := ha L F own env A s r inv
  unfold mTry1 tryM mRet
  cases e : o s with
  | ok a s1 =>
    rw [e] at h
    obtain ⟨x, A1, e1, g, i1, p⟩ := h
    rw [e1]
    exact ⟨x, A1, rfl, p.toF, i1, g.ch⟩
  | ex z s1 =>
    rw [e] at h
    obtain ⟨x, A1, e1, g, i1, p⟩ := h
    rw [e1]
    dsimp only [R.st]
    by_cases hz : z.cls = c ∧ z.fs = []
    · have hx : x.cls = c ∧ x.fs = [] := by
        refine ⟨p.cls.trans hz.1, ?_⟩
        have := p.fs
        rw [hz.2] at this
        generalize x.fs = fs at this
        cases this
        rfl
      rw [if_pos hz, if_pos hx]
      have q := hh L F own env A1 s1 (r.gr g) i1
      unfold M.noex
      cases e2 : oh s1 with
      | ok b s2 =>
        rw [e2] at q
        obtain ⟨y, A2, e3, t, i2, c2⟩ := q
        rw [e3]
        exact ⟨y, A2, rfl, t, i2, g.ch.trans Ow.refl c2⟩
      | ex z2 s2 => trivial
      | bad => trivial
    · rw [if_neg hz]
      trivial
  | bad => trivial
end
end Bm

set_option Elab.async false
set_option linter.all false
set_option maxRecDepth 100000
set_option maxHeartbeats 1000000
/-! Bm14: comprehensions of two clauses; dicts of one pair. -/
namespace Bm
open PySem PySem.Spec PyProof.Rows L2 Am
noncomputable def compM2 {σ α β γ : Type} (oc : α → M σ Bool) (oi : α → M σ (List β)) (oc1 : α → β → M σ Bool) (of : α → β → M σ γ) : Nat → List α → M σ (List γ)
  | _, [] => .pure []
  | k, x :: r => (oc x).noex.bind fun c => if c then ((oi x).noex.bind fun ys => chk (k + ys.length ≤ sizeLine) ((compM (oc1 x) (of x) ys).bind fun zs => (compM2 oc oi oc1 of (k + zs.length) r).bind fun ws => .pure (zs ++ ws))) else compM2 oc oi oc1 of k r
section
variable {μ : Md} {Γ : List Sl} {α β γ : Type}
theorem Rl.chg {L : Nat} {F : Nat → Prop} {own : List (Option Nat)} {env : Ev} {A A' : Hx} {n : Nat} (r : Rl μ L (Fx F n) own Γ env A) (hno : ¬ Owned own n) (hl : A.length ≤ A'.length) (h : ∀ k, k < A.length → μ.lo ≤ k → k ≠ n → A'[k]? = A[k]?) :
    Rl μ L (Fx F n) own Γ env A' ∧ ∀ k o, Cl (Fx F n) own k → A[k]? = some o → Cl (Fx F n) own k ∧ A'[k]? = some o := by
  have st : ∀ k o, Cl (Fx F n) own k → A[k]? = some o → Cl (Fx F n) own k ∧ A'[k]? = some o := fun k o hk e => ⟨hk, by rw [h k (some_lt e) (r.lo hk.1) hk.1.2]; exact e⟩
  refine ⟨{
    elen := r.elen
    olen := r.olen
    hL := Nat.le_trans r.hL hl
    up := r.up
    fp := r.fp
    ond := r.ond
    obd := fun i m q => ⟨(r.obd i m q).1, Nat.lt_of_lt_of_le (r.obd i m q).2 hl⟩
    sl := fun i g q => by
      have z := r.sl i g q
      cases g with
      | no => trivial
      | va t =>
        obtain ⟨x, z1, z2⟩ := z
        exact ⟨x, z1, z2.up st⟩
      | ow ts =>
        obtain ⟨m, xs, z1, z2, z3, z4, z5⟩ := z
        have hb := r.obd i m z1
        refine ⟨m, xs, z1, z2, ?_, z4.up st, z5⟩
        rw [h m hb.2 (r.lo hb.1) fun e => hno ⟨i, by rw [← e]; exact z1⟩]
        exact z3
      | pt => exact z }, st⟩
theorem comp2_ok {gd : Gd} {n : Nat} {g g1 : MG} {mt mt1 : MT} {mi1 : MI} {me : ME} {e : α → TV} {e1 : β → TV} {e2 : γ → TV} {vs vs1 : List Nat} {Γb : α → List Sl} {Γc : α → β → List Sl} {oc : α → M μ.σ Bool} {oi : α → M μ.σ (List β)} {oc1 : α → β → M μ.σ Bool} {of : α → β → M μ.σ γ} (hg : ∀ x, GT μ g (e x) (wipeG Γ vs) (Γb x)) (ht : ∀ x, EB μ (Γb x) mt (oc x)) (hi : ∀ x, EI μ (Γb x) mi1 e1 (oi x)) (hg1 : ∀ x y, GT μ g1 (e1 y) (wipeG (Γb x) vs1) (Γc x y)) (ht1 : ∀ x y, EB μ (Γc x y) mt1 (oc1 x y)) (he : ∀ x y, E μ (Γc x y) me e2 (of x y)) {L : Nat} {F : Nat → Prop} {own : List (Option Nat)} {env : Ev} :
    ∀ (us : List AV) (xs : List α) (acc : List AV) (accs : List TV) (A : Hx) (s : μ.σ), Rl μ L (Fx F n) own Γ env A → μ.inv s A → Ts (Cl (Fx F n) own) A us (xs.map e) → GdO (Cl (Fx F n) own) A gd → A[n]? = some (.lst acc) → μ.lo ≤ n → ¬ Owned own n → Ts (Cl (Fx F n) own) A acc accs → accs.length ≤ sizeLine →
    match compM2 oc oi oc1 of accs.length xs s with
    | .ok ys s' => ∃ A' zs, compV2 gd n g mt mi1 g1 mt1 me env vs vs1 us A = .ok (.loc n) A' ∧ A'[n]? = some (.lst zs) ∧ Ts (Cl (Fx F n) own) A' zs (accs ++ ys.map e2) ∧ accs.length + ys.length ≤ sizeLine ∧ μ.inv s' A' ∧ A.length ≤ A'.length ∧ ∀ k, k < A.length → μ.lo ≤ k → k ≠ n → A'[k]? = A[k]?
    | .ex _ _ => False
    | .bad => True
  | [], [], acc, accs, A, s, r, inv, _, hgd, ha, _, _, hacc, hl => by
    unfold compM2 compV2
    rw [if_pos hgd.ok]
    exact ⟨A, acc, rfl, ha, by simpa using hacc, by simpa using hl, inv, Nat.le_refl _, fun _ _ _ _ => rfl⟩
  | [], _ :: _, _, _, _, _, _, _, h, _, _, _, _, _, _ => nomatch h
  | _ :: _, [], _, _, _, _, _, _, h, _, _, _, _, _, _ => nomatch h
  | u :: us, x :: xs, acc, accs, A, s, r, inv, .cons h1 h2, hgd, ha, hlo, hno, hacc, hl => by
    unfold compM2 compV2
    rw [if_pos hgd.ok]
    obtain ⟨env1, q, r1⟩ := hg x L (Fx F n) own (wipeE env vs) A u (r.wipe vs) h1
    rw [q]
    dsimp only
    have h := ht x L (Fx F n) own env1 A s r1 inv
    have hnl := some_lt ha
    cases e' : oc x s with
    | ex z s1 => simp only [M.bind, M.noex, e']
    | bad => simp only [M.bind, M.noex, e']
    | ok c s1 =>
      rw [e'] at h
      obtain ⟨b, A1, ee1, gr1, i1, rfl⟩ := h
      rw [ee1, R.noex_ok, R.bind_ok]
      have ha1 : A1[n]? = some (.lst acc) := by rw [gr1.st n hnl hlo]; exact ha
      have st1 := r.stayG gr1
      have r1' := r1.gr gr1
      cases b with
      | false =>
        rw [if_neg Bool.false_ne_true]
        have ih := comp2_ok hg ht hi hg1 ht1 he us xs acc accs A1 s1 (r.gr gr1) i1 (h2.up st1) (hgd.up st1) ha1 hlo hno (hacc.up st1) hl
        have eqM : (M.bind (M.noex (oc x)) fun c => if c = true then M.bind (M.noex (oi x)) fun ys => chk (accs.length + ys.length ≤ sizeLine) (M.bind (compM (oc1 x) (of x) ys) fun zs => M.bind (compM2 oc oi oc1 of (accs.length + zs.length) xs) fun ws => M.pure (zs ++ ws)) else compM2 oc oi oc1 of accs.length xs) s = compM2 oc oi oc1 of accs.length xs s1 := by
          unfold M.bind M.noex
          rw [e']
          rfl
        rw [eqM]
        cases e3 : compM2 oc oi oc1 of accs.length xs s1 with
        | ok ys s3 =>
          rw [e3] at ih
          obtain ⟨A', zs, a1, a2, a3, a4, a5, a6, a7⟩ := ih
          exact ⟨A', zs, a1, a2, a3, a4, a5, Nat.le_trans gr1.len a6, fun k k1 k2 k3 => (a7 k (Nat.lt_of_lt_of_le k1 gr1.len) k2 k3).trans (gr1.st k k1 k2)⟩
        | ex z s3 => rw [e3] at ih; exact ih
        | bad => trivial
      | true =>
        rw [if_pos rfl]
        have hI := hi x L (Fx F n) own env1 A1 s1 r1' i1
        have eqM : (M.bind (M.noex (oc x)) fun c => if c = true then M.bind (M.noex (oi x)) fun ys => chk (accs.length + ys.length ≤ sizeLine) (M.bind (compM (oc1 x) (of x) ys) fun zs => M.bind (compM2 oc oi oc1 of (accs.length + zs.length) xs) fun ws => M.pure (zs ++ ws)) else compM2 oc oi oc1 of accs.length xs) s = (M.bind (M.noex (oi x)) fun ys => chk (accs.length + ys.length ≤ sizeLine) (M.bind (compM (oc1 x) (of x) ys) fun zs => M.bind (compM2 oc oi oc1 of (accs.length + zs.length) xs) fun ws => M.pure (zs ++ ws))) s1 := by
          conv => lhs; unfold M.bind M.noex
          rw [e']
          rfl
        rw [eqM]
        cases e2' : oi x s1 with
        | ex z s2 => simp only [M.bind, M.noex, e2']
        | bad => simp only [M.bind, M.noex, e2']
        | ok ys s2 =>
          rw [e2'] at hI
          obtain ⟨p, A2, ee2, gr2, i2, pp⟩ := hI
          rw [ee2, R.noex_ok, R.bind_ok]
          have eqM2 : (M.bind (M.noex (oi x)) fun ys => chk (accs.length + ys.length ≤ sizeLine) (M.bind (compM (oc1 x) (of x) ys) fun zs => M.bind (compM2 oc oi oc1 of (accs.length + zs.length) xs) fun ws => M.pure (zs ++ ws))) s1 = chk (accs.length + ys.length ≤ sizeLine) (M.bind (compM (oc1 x) (of x) ys) fun zs => M.bind (compM2 oc oi oc1 of (accs.length + zs.length) xs) fun ws => M.pure (zs ++ ws)) s2 := M.bind_ok (by unfold M.noex; rw [e2'])
          rw [eqM2]
          by_cases hsz : accs.length + ys.length ≤ sizeLine
          · rw [chk_pos hsz]
            have ha2 : A2[n]? = some (.lst acc) := by rw [gr2.st n (some_lt ha1) hlo]; exact ha1
            have st2 := r1'.stayG gr2
            have hin := comp_ok (n := n) (hg1 x) (ht1 x) (he x) (L := L) (F := F) (own := own) (env := env1) p.1 ys acc accs A2 s2 (r1'.gr gr2) i2 pp.ts pp.gd ha2 hlo hno ((hacc.up st1).up st2) hsz
            conv => simp only [M.bind]
            cases e3 : compM (oc1 x) (of x) ys s2 with
            | ex z s3 => rw [e3] at hin; exact hin.elim
            | bad => trivial
            | ok zs s3 =>
              rw [e3] at hin
              obtain ⟨A3, zv, b1, b2, b3, b4, b5, b6, b7⟩ := hin
              rw [b1, R.noex_ok, R.bind_ok]
              obtain ⟨r3, st3⟩ := Rl.chg ((r.gr gr1).gr gr2) hno b6 b7
              have ih := comp2_ok hg ht hi hg1 ht1 he us xs zv (accs ++ zs.map e2) A3 s3 r3 b5 (((h2.up st1).up st2).up st3) (((hgd.up st1).up st2).up st3) b2 hlo hno b3 (by simpa using b4)
              have hlen : (accs ++ zs.map e2).length = accs.length + zs.length := by simp
              rw [hlen] at ih
              dsimp only
              cases e4 : compM2 oc oi oc1 of (accs.length + zs.length) xs s3 with
              | ex z s4 => rw [e4] at ih; exact ih.elim
              | bad => trivial
              | ok ws s4 =>
                rw [e4] at ih
                obtain ⟨A', zs', a1, a2, a3, a4, a5, a6, a7⟩ := ih
                have hle : A.length ≤ A2.length := Nat.le_trans gr1.len gr2.len
                refine ⟨A', zs', a1, a2, by simpa using a3, by simp at a4 ⊢; omega, a5, by omega, fun k k1 k2 k3 => ?_⟩
                rw [a7 k (by omega) k2 k3, b7 k (by omega) k2 k3, gr2.st k (Nat.lt_of_lt_of_le k1 gr1.len) k2, gr1.st k k1 k2]
          · rw [chk_neg hsz]
            trivial
theorem ef_comp2 {mi mi1 : MI} {g g1 : MG} {mt mt1 : MT} {me : ME} {e : α → TV} {e1 : β → TV} {e2 : γ → TV} {vs vs1 : List Nat} {Γb : α → List Sl} {Γc : α → β → List Sl} {ox : M μ.σ (List α)} {oc : α → M μ.σ Bool} {oi : α → M μ.σ (List β)} {oc1 : α → β → M μ.σ Bool} {of : α → β → M μ.σ γ} (hx : EI μ Γ mi e ox) (hg : ∀ x, GT μ g (e x) (wipeG Γ vs) (Γb x)) (ht : ∀ x, EB μ (Γb x) mt (oc x)) (hi : ∀ x, EI μ (Γb x) mi1 e1 (oi x)) (hg1 : ∀ x y, GT μ g1 (e1 y) (wipeG (Γb x) vs1) (Γc x y)) (ht1 : ∀ x y, EB μ (Γc x y) mt1 (oc1 x y)) (he : ∀ x y, E μ (Γc x y) me e2 (of x y)) :
    EF μ Γ (mLc2 mi g mt mi1 g1 mt1 me vs vs1) e2 (ox.bind fun xs => compM2 oc oi oc1 of 0 xs) := fun L F own env A s r inv => by
  refine OutR.bind (hx L F own env A s r inv) fun p A1 xs s1 gr1 i1 q => ?_
  have r1 := r.gr gr1
  have hlo : μ.lo ≤ A1.length := Nat.le_trans r1.fp.1 r1.hL
  have hno : ¬ Owned own A1.length := fun ⟨i, h⟩ => Nat.lt_irrefl _ (r1.obd i _ h).2
  have hcl : ∀ n o', Cl F own n → A1[n]? = some o' → Cl (Fx F A1.length) own n ∧ (A1 ++ [AO.lst []])[n]? = some o' := fun n o' h e =>
    ⟨⟨⟨h.1, Nat.ne_of_lt (some_lt e)⟩, h.2⟩, by rw [List.getElem?_append_left (some_lt e)]; exact e⟩
  have h := comp2_ok (n := A1.length) hg ht hi hg1 ht1 he p.1 xs [] [] (A1 ++ [.lst []]) s1 r1.fx (Md.inv_gr i1) (q.ts.up hcl) (q.gd.up hcl) (by simp) hlo hno .nil (by simp)
  cases e3 : compM2 oc oi oc1 of 0 xs s1 with
  | ok ys s3 =>
    simp only [List.length_nil, e3] at h
    obtain ⟨A', zs, a1, a2, a3, a4, a5, a6, a7⟩ := h
    refine ⟨.loc A1.length, A', a1, ⟨by simp at a6; omega, fun k k1 k2 => ?_⟩, a5, A1.length, zs, rfl, gr1.len, a2, ?_, by simpa using a4⟩
    · rw [a7 k (by simp; omega) k2 (Nat.ne_of_lt k1), List.getElem?_append_left k1]
    · have a3' : Ts (Cl (Fx F A1.length) own) A' zs (ys.map e2) := by simpa using a3
      exact a3'.up fun k o hk hk2 => ⟨⟨⟨hk.1.1, hk.2⟩, hk.1.2⟩, hk2⟩
  | ex z s3 => simp only [List.length_nil, e3] at h
  | bad => trivial
/-! ### dicts -/
def kT : Key → TV
  | .inl i => .int i
  | .inr x => .str x
theorem T.key {F : Nat → Prop} {A : Hx} (k : Key) : T F A (keyA k) (kT k) := by
  cases k with
  | inl i => exact .int i
  | inr x => exact .str x
theorem e_dnew : E μ Γ mDnew (fun _ : Unit => TV.dct []) (.pure ()) := fun L F own env A s r i =>
  ⟨_, _, rfl, Gr.app _, Md.inv_gr i, .dct (r.newF _ (Nat.le_refl _)) (by simp) .nil⟩
theorem e_dispC {k : Key} {x : AV} {a : α} {e : α → TV} (h : ∀ F A, T F A x (e a)) : E μ Γ (mDispC k x) (fun a => TV.dct [(kT k, e a)]) (.pure a) := fun L F own env A s r i =>
  ⟨_, _, rfl, Gr.app _, Md.inv_gr i, .dct (r.newF _ (Nat.le_refl _)) (by simp) (.cons (T.key k) (h _ _) .nil)⟩
theorem e_dispV {k : Key} {i : Nat} {a : α} {e : α → TV} (h : Γ[i]? = some (.va (e a))) : E μ Γ (mDispV k i) (fun a => TV.dct [(kT k, e a)]) (.pure a) := fun L F own env A s r inv => by
  obtain ⟨x, h1, h2⟩ := r.sl i _ h
  unfold mDispV
  rw [h1]
  exact ⟨_, _, rfl, Gr.app _, Md.inv_gr inv, .dct (r.newF _ (Nat.le_refl _)) (by simp) (.cons (T.key k) (h2.up (r.stayG (Gr.app _))) .nil)⟩
/-- what is a tuple, as a row -/
def asT : TV → M Unit (List TV)
  | .tup ts => .pure ts
  | _ => .bad
theorem e_asT {m : ME} {oa : M μ.σ TV} (ha : E μ Γ m eA oa) : E μ Γ m (eT eA) (oa.bind fun a => lift (asT a)) := fun L F own env A s r inv => by
  have h := ha L F own env A s r inv
  unfold M.bind
  cases e : oa s with
  | ok a s1 =>
    rw [e] at h
    obtain ⟨x, A1, h1, h2, h3, h4⟩ := h
    cases a with
    | tup ts => exact ⟨x, A1, h1, h2, h3, by
        show T _ _ x (.tup (ts.map eA))
        rw [show ts.map eA = ts from List.map_id ts]
        exact h4⟩
    | _ => trivial
  | ex z s1 => rw [e] at h; exact h
  | bad => trivial
theorem e_asT1 {m : ME} {a : TV} (ha : E μ Γ m eA (.pure a)) : E μ Γ m (eT eA) (lift (asT a)) := e_asT ha
/-- a new list, of any things -/
theorem ef_coeA {m : ME} {e : α → TV} {o : M μ.σ (List α)} (h : EF μ Γ m e o) : EF μ Γ m eA (o.bind fun xs => .pure (xs.map e)) := fun L F own env A s r inv => by
  have q := h L F own env A s r inv
  unfold M.bind
  cases c : o s with
  | ok xs s1 =>
    rw [c] at q
    obtain ⟨x, A', h1, h2, h3, n, zs, p1, p2, p3, p4, p5⟩ := q
    exact ⟨x, A', h1, h2, h3, n, zs, p1, p2, p3, by rw [show (xs.map e).map eA = xs.map e from List.map_id _]; exact p4, by rw [List.length_map]; exact p5⟩
  | ex z s1 => rw [c] at q; exact q
  | bad => trivial
theorem w_slL {i : Nat} {xs : List α} {e : α → TV} {ml mh : MO} {ol oh : M μ.σ (Option Int)} (h : Γ[i]? = some (.ow (xs.map e))) (hl : EO μ Γ ml ol) (hh : EO μ Γ mh oh) : EF μ Γ (mSl oSl (mVar i) ml mh) e (ol.bind fun l => oh.bind fun u => .pure (cutL xs l u)) := fun L F own env A s r inv => by
  obtain ⟨n, zs, q1, q2, q3, q4, q5⟩ := r.sl i _ h
  have e1 : mVar i env A = .ok (.loc n) A := by
    unfold mVar
    rw [q2]
  rw [mSl_eq, e1, R.bind_ok]
  refine OutR.bind (hl L F own env A s r inv) fun l A2 l' s2 g2 i2 p2 => ?_
  cases p2
  refine OutR.bind (hh L F own env A2 s2 (r.gr g2) i2) fun u A3 u' s3 g3 i3 p3 => ?_
  cases p3
  have r3 := (r.gr g2).gr g3
  obtain ⟨n', us, t1, t2, t3, t4, t5⟩ := r3.sl i _ h
  rw [q1] at t1
  cases t1
  have e2 : oSl (.loc n) l u A3 = .ok (.loc A3.length) (A3 ++ [.lst (cutA us l u)]) := by
    unfold oSl
    simp [Am.listOf, t3]
  rw [e2]
  refine ⟨.loc A3.length, A3 ++ [.lst (cutA us l u)], rfl, Gr.app _, Md.inv_gr i3, A3.length, cutA us l u, rfl, ?_, by simp, ?_, ?_⟩
  · exact Nat.le_trans g2.len g3.len
  · rw [← cutL_map]
    refine (cut_T t4 _ _).up fun n o f q => ⟨⟨f, Nat.ne_of_lt (some_lt q)⟩, ?_⟩
    rw [List.getElem?_append_left (some_lt q)]
    exact q
  · have := cutL_len (xs := xs) (lo := l) (hi := u)
    rw [List.length_map] at t5
    omega
theorem w_slL1 {i : Nat} {xs : List α} {e : α → TV} {ml mh : MO} {l u : Option Int} (h : Γ[i]? = some (.ow (xs.map e))) (hl : EO μ Γ ml (.pure l)) (hh : EO μ Γ mh (.pure u)) : EF μ Γ (mSl oSl (mVar i) ml mh) e (.pure (cutL xs l u)) := w_slL h hl hh
theorem w_lst {i : Nat} {xs : List α} {e : α → TV} (h : Γ[i]? = some (.ow (xs.map e))) : EF μ Γ (mCB oList (mCons (mVar i) mNil)) e (.pure xs) := fun L F own env A s r inv => by
  obtain ⟨n, zs, e1, q, ht, l⟩ := own_at r h
  have : mCB oList (mCons (mVar i) mNil) env A = .ok (.loc A.length) (A ++ [.lst zs]) := by
    rw [mCB_eq, mCons_eq, e1]
    simp [oList, Am.listOf, q]
  rw [this]
  refine ⟨_, _, rfl, Gr.app _, Md.inv_gr inv, A.length, zs, rfl, Nat.le_refl _, by simp, ?_, by simpa using l⟩
  refine ht.up fun n o f q => ⟨⟨f, Nat.ne_of_lt (some_lt q)⟩, ?_⟩
  rw [List.getElem?_append_left (some_lt q)]
  exact q
theorem eT_A {e : α → TV} {xs : List α} : eT e xs = eT eA (xs.map e) := by
  show TV.tup _ = TV.tup _
  rw [show (xs.map e).map eA = xs.map e from List.map_id _]
theorem eL_A {e : α → TV} {xs : List α} : eL e xs = eL eA (xs.map e) := by
  show TV.lst _ = TV.lst _
  rw [show (xs.map e).map eA = xs.map e from List.map_id _]
end
end Bm

set_option Elab.async false
set_option linter.all false
set_option maxRecDepth 100000
set_option maxHeartbeats 1000000
namespace Cm
open PySem PySem.Spec PyProof.Rows L2 Am Bm
noncomputable def f_is_integer (p : TV) : M Unit Bool :=
  (M.bind (lift (isiM "int" p)) fun c => if c then (M.bind (lift (isiM "bool" p)) fun c => M.pure (!c)) else M.pure false)
noncomputable def f_is_number (p : TV × Int × Int) : M Unit Bool :=
  (M.bind (lift (f_is_integer p.1)) fun c => if c then (M.bind (M.pure (TV.int p.2.1)) fun a1 => M.bind (M.pure p.1) fun b2 => M.bind (lift (cmpA (fun i j => decide (i ≤ j)) a1 b2)) fun k4 => if k4 then (M.bind (M.pure (TV.int p.2.2)) fun c3 => lift (cmpA (fun i j => decide (i ≤ j)) b2 c3)) else M.pure false) else M.pure false)
noncomputable def f_is_other (p : TV × Int × Int) : M Unit Bool :=
  (M.bind (lift (f_is_number (p.1, ((0 : Int), (p.2.2 - (1 : Int)))))) fun c => if c then (lift (M.bind (eqT p.1 (TV.int p.2.1)) fun c => M.pure (!c))) else M.pure false)
noncomputable def f_is_turn (p : TV × Int) : M Unit Bool :=
  (M.bind (M.bind (M.bind (lift (isiM "tuple" p.1)) fun c => M.pure (!c)) fun c => if c then M.pure true else (M.bind (lift (lenM p.1)) fun a1 => M.bind (M.pure p.2) fun b2 => lift (M.pure (!decide (a1 = b2))))) fun c => if c then (M.pure false) else (M.bind (M.bind (M.bind (lift (seqM p.1)) fun xs => M.pure (enumI 0 xs)) fun xs => compM (fun x3 : (Int × TV) => (M.pure true)) (fun x3 => (M.bind (M.pure (isNonT x3.2)) fun c => if c then M.pure true else (lift (f_is_other (x3.2, (x3.1, p.2)))))) xs) fun t4 => lift (M.pure (List.all t4 id))))
noncomputable def f_power (p : Int × Int) : M Unit Int :=
  (M.bind (M.pure (1 : Int)) fun v1 => (M.bind (M.bind (lift (rngM 0 p.2)) fun xs => forL (fun (st2 : Int) (x3 : Int) => (M.bind (lift (mulM st2 p.1)) fun v4 => M.pure v4)) xs v1) fun v5 => (M.pure v5)))
noncomputable def f_figures_of (p : Int × Int × Int) : M Unit (List Int) :=
  (M.bind (M.pure []) fun v1 => (M.bind (M.bind (lift (rngM 0 p.2.2)) fun xs => forL (fun (st2 : Int × List Int) (x3 : Int) => (M.bind (lift (divmodM (st2.1, p.2.1))) fun v5 => (M.bind (M.bind (M.pure v5.2) fun a6 => apM st2.2 a6) fun v7 => M.pure (v5.1, v7)))) xs (p.1, v1)) fun v8 => (M.pure (List.reverse v8.2))))
noncomputable def f_check_number (p : TV × Int × Int) : M Unit Unit :=
  (M.bind (M.bind (M.bind (M.bind (lift (f_is_number (p.1, (p.2.1, p.2.2)))) fun c => M.pure (!c)) fun c => if c then M.bad else (M.bind (M.pure ()) fun v2 => M.pure ())) fun v3 => M.pure ()) fun _ => M.pure ())
noncomputable def f_check_machine (p : TV × Int) : M Unit Unit :=
  (M.bind (M.bind (M.bind (M.bind (lift (f_is_number (p.1, ((0 : Int), (p.2 - (1 : Int)))))) fun c => M.pure (!c)) fun c => if c then M.bad else (M.bind (M.pure ()) fun v2 => M.pure ())) fun v3 => M.pure ()) fun _ => M.pure ())
noncomputable def f_is_pattern_of (p : TV × Int × Int × Int) : M Unit Bool :=
  (M.bind (M.bind (M.bind (lift (isiM "tuple" p.1)) fun c => M.pure (!c)) fun c => if c then M.pure true else (M.bind (M.bind (M.pure p.2.2.1) fun a1 => M.bind (lift (lenM p.1)) fun b2 => M.bind (lift (M.pure (decide (a1 ≤ b2)))) fun k4 => if k4 then (M.bind (M.pure p.2.2.2) fun c3 => lift (M.pure (decide (b2 ≤ c3)))) else M.pure false) fun c => M.pure (!c))) fun c => if c then (M.pure false) else (M.bind (M.bind (lift (seqM p.1)) fun xs => compM (fun x5 : TV => (M.pure true)) (fun x5 => (lift (f_is_turn (x5, p.2.1)))) xs) fun t6 => lift (M.pure (List.all t6 id))))
noncomputable def f_check_pattern (p : TV × Int × Int × Int) : M Unit Unit :=
  (M.bind (M.bind (M.bind (M.bind (lift (f_is_pattern_of (p.1, (p.2.1, (p.2.2.1, p.2.2.2))))) fun c => M.pure (!c)) fun c => if c then M.bad else (M.bind (M.pure ()) fun v2 => M.pure ())) fun v3 => M.pure ()) fun _ => M.pure ())
noncomputable def f_check_size (p : TV × TV) : M Unit Unit :=
  (M.bind (M.bind (M.bind (lift (f_check_number (p.1, ((3 : Int), (5 : Int))))) fun _ => M.pure ()) fun v1 => (M.bind (M.bind (lift (f_check_number (p.2, ((0 : Int), (30 : Int))))) fun _ => M.pure ()) fun v2 => M.pure ())) fun _ => M.pure ())
noncomputable def f_shut_out (p : Int × Int × Int) : M Unit (List (List (Option Int))) :=
  (M.bind (M.bind (lift (f_check_size ((TV.int p.1), (TV.int p.2.1)))) fun _ => M.pure ()) fun v1 => (M.bind (M.bind (lift (f_check_machine ((TV.int p.2.2), p.1))) fun _ => M.pure ()) fun v2 => (M.bind (M.bind (M.bind (M.bind (lift (rngM 0 p.1)) fun xs => M.pure (List.map (fun x3 : Int => (if (decide (x3 = p.2.2)) then ((fun _ => none) ()) else (some p.2.2))) xs)) fun t4 => lift (M.pure (t4))) fun p => M.pure [p]) fun a5 => M.bind (M.pure p.2.1) fun b6 => lift (repM a5 b6))))
noncomputable def f_chain_at (p : Int × (List (List (Option Int))) × (List (List (Option Int))) × Int) : M Unit (List (List (Option Int))) :=
  (M.bind (M.bind (lift (f_check_number ((TV.int p.1), ((3 : Int), (5 : Int))))) fun _ => M.pure ()) fun v1 => (M.bind (M.bind (lift (f_check_pattern (((eT (eT (eO TV.int))) p.2.1), (p.1, ((0 : Int), (30 : Int)))))) fun _ => M.pure ()) fun v2 => (M.bind (M.pure ((List.length p.2.1 : Int))) fun v3 => (M.bind (M.bind (lift (f_check_pattern (((eT (eT (eO TV.int))) p.2.2.1), (p.1, (v3, v3))))) fun _ => M.pure ()) fun v4 => (M.bind (M.bind (M.bind (M.bind (M.pure (TV.int p.2.2.2)) fun a9 => M.bind (M.bind (M.pure (0 : Int)) fun a7 => M.bind (M.bind (lift (f_power ((p.1 + (1 : Int)), v3))) fun a5 => M.bind (M.pure (1 : Int)) fun b6 => lift (M.pure (a5 - b6))) fun b8 => M.pure (a7, b8)) fun b10 => M.pure (a9, b10)) fun t11 => lift (f_check_number t11)) fun _ => M.pure ()) fun v12 => (M.bind (M.pure []) fun v13 => (M.bind (M.bind (M.bind (lift (f_figures_of (p.2.2.2, ((p.1 + (1 : Int)), v3)))) fun xs => M.pure (enumI 0 xs)) fun xs => forL (fun (st14 : List (List (Option Int)) × (List (List (Option Int))) × (List (List (Option Int)))) (x15 : (Int × Int)) => (M.bind (M.bind (M.bind (M.bind (lift (atM st14.2.2 x15.1)) fun a16 => M.bind (M.pure none) fun l17 => M.bind (M.pure (some x15.2)) fun h18 => M.pure (cutL a16 l17 h18)) fun a22 => M.bind (M.bind (lift (atM st14.2.1 x15.1)) fun a19 => M.bind (M.pure (some x15.2)) fun l20 => M.bind (M.pure none) fun h21 => M.pure (cutL a19 l20 h21)) fun b23 => lift (catM a22 b23)) fun a24 => apM st14.1 a24) fun v25 => (M.bind (M.bind (M.pure (decide (x15.2 > (0 : Int)))) fun c => if c then (M.bind (lift (f_shut_out (p.1, (v3, (x15.2 - (1 : Int)))))) fun v27 => M.pure v27) else (M.bind (M.pure ()) fun v28 => M.pure st14.2.1)) fun v29 => (M.bind (M.bind (M.pure (decide (x15.2 < p.1))) fun c => if c then (M.bind (lift (f_shut_out (p.1, (v3, x15.2)))) fun v31 => M.pure v31) else (M.bind (M.pure ()) fun v32 => M.pure st14.2.2)) fun v33 => M.pure (v25, v29, v33))))) xs (v13, p.2.1, p.2.2.1)) fun v34 => (M.pure (v34.1)))))))))
noncomputable def f_law_entry (cs : List Int) (p : Int × Int × Int) : M (Pot.PotS cs) (Option Int) :=
  (M.bind (M.bind (Pot.drawM cs p.2.2) fun a1 => M.bind (M.pure (0 : Int)) fun b2 => lift (M.pure (decide (a1 > b2)))) fun c => if c then (M.pure ((fun _ => none) ())) else (M.bind (M.bind (M.bind (lift (rngM 0 p.1)) fun xs => M.pure (List.map (fun x3 : Int => x3) (List.filter (fun x3 : Int => (!decide (x3 = p.2.1))) xs))) (Pot.anyM cs)) fun a => M.pure (some a)))
noncomputable def f_law_pattern (cs : List Int) (p : Int × Int) : M (Pot.PotS cs) (List (List (Option Int))) :=
  (M.bind (M.bind (M.pure []) fun a1 => M.bind (Pot.anyM cs [(1 : Int), (2 : Int), (2 : Int), (5 : Int)]) fun b2 => M.pure (a1, b2)) fun v3 => (M.bind (M.bind (lift (rngM 0 p.2)) fun xs => forL (fun (st4 : List (List (Option Int))) (x5 : Int) => (M.bind (M.bind (M.bind (Pot.drawM cs (4 : Int)) fun a6 => M.bind (M.pure (0 : Int)) fun b7 => lift (M.pure (decide (a6 = b7)))) fun c => if c then (M.bind (Pot.drawM cs p.1) fun v9 => (M.bind (M.bind (M.bind (M.bind (lift (rngM 0 p.1)) fun xs => M.pure (List.map (fun x10 : Int => (if (decide (x10 = v9)) then ((fun _ => none) ()) else (some v9))) xs)) fun t11 => lift (M.pure (t11))) fun a12 => apM st4 a12) fun v13 => M.pure v13)) else (M.bind (M.bind (M.bind (M.bind (lift (rngM 0 p.1)) fun xs => compM (fun x14 : Int => (M.pure true)) (fun x14 => (f_law_entry cs (p.1, (x14, v3.2)))) xs) fun t15 => lift (M.pure (t15))) fun a16 => apM st4 a16) fun v17 => M.pure v17)) fun v18 => M.pure v18)) xs v3.1) fun v19 => (M.pure (v19))))
noncomputable def f_law_shut (p : Int × Int × Int) : M Unit (List (List (Option Int))) :=
  (M.bind (M.bind (lift (rngM 0 p.2.1)) fun xs => compM (fun x1 : Int => (M.pure true)) (fun x1 => (M.bind (M.bind (lift (rngM 0 p.1)) fun xs => M.pure (List.map (fun x2 : Int => (if (decide (x2 = p.2.2)) then ((fun _ => none) ()) else (some p.2.2))) xs)) fun t3 => lift (M.pure (t3)))) xs) fun t4 => lift (M.pure (t4)))
end Cm

set_option Elab.async false
set_option linter.all false
set_option maxRecDepth 100000
set_option maxHeartbeats 1000000
namespace Cm
open PySem PySem.Spec PyProof.Rows L2 Am Bm
def num (n : Int) (a : Int) (fs : List Int) : Int := fs.foldl (fun x f => x * n + f) a
theorem num_app (n a : Int) (fs gs : List Int) : num n a (fs ++ gs) = num n (num n a fs) gs := by simp [num]
/-- figures, each from 0 below b -/
def Fig (b : Int) (fs : List Int) : Prop := ∀ f, f ∈ fs → 0 ≤ f ∧ f < b
theorem num_pow (n : Int) : ∀ (fs : List Int) (a : Int), num n a fs = a * n ^ fs.length + num n 0 fs
  | [], a => by simp [num]
  | f :: r, a => by
    show num n (a * n + f) r = a * n ^ (r.length + 1) + num n (0 * n + f) r
    rw [num_pow n r (a * n + f), num_pow n r (0 * n + f), Int.pow_succ, Int.add_mul, Int.zero_mul, Int.zero_add, Int.mul_assoc, Int.mul_comm n (n ^ r.length)]
    omega
theorem num_bound {n : Int} (hn : 0 < n) : ∀ {fs : List Int}, Fig n fs → 0 ≤ num n 0 fs ∧ num n 0 fs < n ^ fs.length
  | [], _ => by simp [num]
  | f :: r, h => by
    have h1 := h f List.mem_cons_self
    obtain ⟨h2, h3⟩ := num_bound hn (fs := r) fun g hg => h g (List.mem_cons_of_mem f hg)
    have e : num n 0 (f :: r) = f * n ^ r.length + num n 0 r := by
      show num n (0 * n + f) r = _
      rw [num_pow n r (0 * n + f), Int.zero_mul, Int.zero_add]
    have hp : 0 < n ^ r.length := Int.pow_pos hn
    have h4 : 0 ≤ f * n ^ r.length := Int.mul_nonneg h1.1 (by omega)
    have h5 : f * n ^ r.length ≤ (n - 1) * n ^ r.length := Int.mul_le_mul_of_nonneg_right (by omega) (by omega)
    have h6 : n ^ (f :: r).length = n * n ^ r.length := by
      rw [List.length_cons, Int.pow_succ, Int.mul_comm]
    have h7 : (n - 1) * n ^ r.length = n * n ^ r.length - n ^ r.length := by rw [Int.sub_mul, Int.one_mul]
    rw [e, h6]
    omega
def lsd (b : Int) : Nat → Int → List Int
  | 0, _ => []
  | k + 1, x => x % b :: lsd b k (x / b)
theorem lsd_len (b : Int) : ∀ (k : Nat) (x : Int), (lsd b k x).length = k
  | 0, _ => rfl
  | k + 1, x => by simp [lsd, lsd_len b k]
theorem lsd_fig {b : Int} (hb : 0 < b) : ∀ (k : Nat) (x : Int), Fig b (lsd b k x)
  | 0, _, f, h => by simp [lsd] at h
  | k + 1, x, f, h => by
    rcases List.mem_cons.mp h with rfl | h
    · exact ⟨Int.emod_nonneg _ (by omega), Int.emod_lt_of_pos _ hb⟩
    · exact lsd_fig hb k _ f h
/-- the figures of a number are these -/
theorem digs_num {b : Int} (hb : 0 < b) : ∀ (ds : List Int), Fig b ds.reverse → (lsd b ds.length (num b 0 ds.reverse)) = ds
  | [], _ => rfl
  | d :: r, h => by
    rw [List.reverse_cons, num_app, List.length_cons]
    have hd := h d (by simp)
    have hr : Fig b r.reverse := fun f hf => h f (by rw [List.reverse_cons]; exact List.mem_append_left _ hf)
    have e : num b (num b 0 r.reverse) [d] = num b 0 r.reverse * b + d := rfl
    rw [e, lsd]
    have e1 : (num b 0 r.reverse * b + d) % b = d := by
      rw [Int.add_comm, Int.add_mul_emod_self_right]
      exact Int.emod_eq_of_lt hd.1 hd.2
    have e2 : (num b 0 r.reverse * b + d) / b = num b 0 r.reverse := by
      rw [Int.add_comm, Int.add_mul_ediv_right _ _ (by omega), Int.ediv_eq_zero_of_lt hd.1 hd.2, Int.zero_add]
    rw [e1, e2, digs_num hb r hr]
theorem digs_eq {b : Int} (hb : 0 < b) {fs : List Int} (h : Fig b fs) : (lsd b fs.length (num b 0 fs)).reverse = fs := by
  have := digs_num hb fs.reverse (by rw [List.reverse_reverse]; exact h)
  rw [List.length_reverse, List.reverse_reverse] at this
  rw [this, List.reverse_reverse]
/-- rows of figures, as one list, are a number by rows -/
theorem num_rows (n : Int) (m : Nat) : ∀ (fr : List (List Int)) (a : Int), (∀ row, row ∈ fr → row.length = m) → num n a fr.flatten = num (n ^ m) a (fr.map (num n 0))
  | [], a, _ => rfl
  | row :: r, a, h => by
    rw [List.flatten_cons, num_app, List.map_cons]
    have hm := h row List.mem_cons_self
    have e : num (n ^ m) a (num n 0 row :: r.map (num n 0)) = num (n ^ m) (a * n ^ m + num n 0 row) (r.map (num n 0)) := rfl
    rw [e, num_rows n m r _ fun x hx => h x (List.mem_cons_of_mem row hx), num_pow n row a, hm]
theorem chunk (m : Nat) : ∀ (k : Nat) (fs : List Int), fs.length = m * k → ∃ fr : List (List Int), fr.flatten = fs ∧ fr.length = k ∧ ∀ row, row ∈ fr → row.length = m
  | 0, fs, h => ⟨[], by simp at h; simp [h], rfl, fun _ h => nomatch h⟩
  | k + 1, fs, h => by
    rw [Nat.mul_succ] at h
    obtain ⟨fr, e, hl, hr⟩ := chunk m k (fs.drop m) (by simp; omega)
    refine ⟨fs.take m :: fr, by rw [List.flatten_cons, e, List.take_append_drop], by simp [hl], fun row hrow => ?_⟩
    rcases List.mem_cons.mp hrow with rfl | h1
    · simp
      omega
    · exact hr row h1
/-! ### integers, patterns -/
abbrev Rw := List (Option Int)
abbrev Pat := List Rw
abbrev ePat : Pat → TV := eT (eT (eO TV.int))
theorem is_integer_int (n : Int) : f_is_integer (.int n) = .pure true := rfl
theorem is_number_int (n lo hi : Int) : f_is_number (.int n, lo, hi) = .pure (decide (lo ≤ n) && decide (n ≤ hi)) := by
  unfold f_is_number
  rw [is_integer_int]
  simp only [lift_pure, M.pure_bind, if_true, cmpA]
  cases decide (lo ≤ n) <;> rfl
theorem check_number_int {n lo hi : Int} (h1 : lo ≤ n) (h2 : n ≤ hi) : f_check_number (.int n, lo, hi) = .pure () := by
  unfold f_check_number
  simp only [is_number_int, lift_pure, M.pure_bind, decide_eq_true h1, decide_eq_true h2]
  rfl
theorem check_machine_int {n m : Int} (h1 : 0 ≤ n) (h2 : n < m) : f_check_machine (.int n, m) = .pure () := by
  unfold f_check_machine
  simp only [is_number_int, lift_pure, M.pure_bind, decide_eq_true h1, decide_eq_true (show n ≤ m - 1 by omega)]
  rfl
theorem check_size_int {n r : Int} (h1 : 3 ≤ n) (h2 : n ≤ 5) (h3 : 0 ≤ r) (h4 : r ≤ 30) : f_check_size (.int n, .int r) = .pure () := by
  unfold f_check_size
  simp only [check_number_int h1 h2, check_number_int h3 h4, lift_pure, M.pure_bind]
def entOk (many me : Int) : Option Int → Bool
  | none => true
  | some q => decide (0 ≤ q) && decide (q ≤ many - 1) && !decide (q = me)
theorem eqT_int (a b : Int) : eqT (.int a) (.int b) = .pure (decide (a = b)) := eqT_dat Dat.int (by decide) a b
theorem is_other_int (q me many : Int) : f_is_other (.int q, me, many) = .pure (entOk many me (some q)) := by
  unfold f_is_other
  simp only [is_number_int, lift_pure, M.pure_bind, eqT_int]
  unfold entOk
  dsimp only
  cases decide (0 ≤ q) <;> cases decide (q ≤ many - 1) <;> simp
def rowOk (many : Int) (row : Rw) : Bool := decide ((row.length : Int) = many) && (enumI 0 row).all fun p => entOk many p.1 p.2
theorem enumI_map {α β : Type} {f : α → β} : ∀ (k : Int) (xs : List α), enumI k (xs.map f) = (enumI k xs).map fun p => (p.1, f p.2)
  | _, [] => rfl
  | k, x :: r => by simp [enumI, enumI_map (k + 1) r]
theorem is_turn_row (many : Int) (row : Rw) : f_is_turn (eT (eO TV.int) row, many) = .pure (rowOk many row) := by
  unfold f_is_turn
  have e1 : isiM "tuple" (eT (eO TV.int) row) = .pure true := rfl
  have e2 : lenM (eT (eO TV.int) row) = .pure (row.length : Int) := by
    show M.pure (((row.map (eO TV.int)).length : Nat) : Int) = _
    rw [List.length_map]
  have e3 : seqM (eT (eO TV.int) row) = .pure (row.map (eO TV.int)) := rfl
  simp only [e1, e2, e3, lift_pure, M.pure_bind, Bool.not_true]
  have e4 : (if false = true then (M.pure true : M Unit Bool) else M.pure (!decide ((row.length : Int) = many))) = M.pure (!decide ((row.length : Int) = many)) := rfl
  rw [e4, M.pure_bind]
  unfold rowOk
  by_cases h : (row.length : Int) = many
  · rw [decide_eq_true h]
    have e5 : ∀ x ∈ enumI 0 (row.map (eO TV.int)), ((if isNonT x.2 = true then (M.pure true : M Unit Bool) else lift (f_is_other (x.2, x.1, many)))) = .pure ((fun x : Int × TV => match x.2 with
        | .int q => entOk many x.1 (some q)
        | _ => true) x) := fun x hx => by
      rw [enumI_map] at hx
      obtain ⟨p, hp, rfl⟩ := List.mem_map.mp hx
      obtain ⟨k, v⟩ := p
      cases v with
      | none => rfl
      | some q =>
        show lift (f_is_other (.int q, k, many)) = _
        rw [is_other_int, lift_pure]
        rfl
    rw [compM_all _ e5, M.pure_bind]
    show M.pure _ = M.pure _
    congr 1
    rw [enumI_map, List.map_map, List.all_map, Bool.true_and]
    congr 1
    funext p
    obtain ⟨k, v⟩ := p
    cases v <;> rfl
  · rw [decide_eq_false h]
    rfl
def patOk (many : Int) (p : Pat) : Prop := ∀ row, row ∈ p → rowOk many row = true
theorem is_pattern_pat {many lo hi : Int} {p : Pat} (h : patOk many p) (h1 : lo ≤ p.length) (h2 : (p.length : Int) ≤ hi) : f_is_pattern_of (ePat p, many, lo, hi) = .pure true := by
  unfold f_is_pattern_of
  have e1 : isiM "tuple" (ePat p) = .pure true := rfl
  have e2 : lenM (ePat p) = .pure (p.length : Int) := by
    show M.pure (((p.map (eT (eO TV.int))).length : Nat) : Int) = _
    rw [List.length_map]
  have e3 : seqM (ePat p) = .pure (p.map (eT (eO TV.int))) := rfl
  simp only [e1, e2, e3, lift_pure, M.pure_bind, Bool.not_true, decide_eq_true h1, decide_eq_true h2]
  have e4 : ∀ x ∈ p.map (eT (eO TV.int)), lift (f_is_turn (x, many)) = (.pure true : M Unit Bool) := fun x hx => by
    obtain ⟨row, hr, rfl⟩ := List.mem_map.mp hx
    rw [is_turn_row, lift_pure, h row hr]
  have e5 := compM_all (σ := Unit) (f := fun _ => true) (p.map (eT (eO TV.int))) e4
  show (compM (fun x5 => M.pure true) (fun x5 => lift (f_is_turn (x5, many))) (p.map (eT (eO TV.int)))).bind _ = _
  rw [e5, M.pure_bind]
  congr 1
  simp
theorem check_pattern_pat {many lo hi : Int} {p : Pat} (h : patOk many p) (h1 : lo ≤ p.length) (h2 : (p.length : Int) ≤ hi) : f_check_pattern (ePat p, many, lo, hi) = .pure () := by
  unfold f_check_pattern
  simp only [is_pattern_pat h h1 h2, lift_pure, M.pure_bind]
  rfl
/-! ### powers, figures -/
theorem power_eq {b : Int} {k : Int} (hb : small b) (h0 : 0 ≤ k) (h1 : k ≤ 1000) : f_power (b, k) = .pure (b ^ k.toNat) := by
  unfold f_power
  dsimp only
  rw [M.pure_bind, rngM_of (by omega) (by omega) (by omega) (by omega), lift_pure, M.pure_bind]
  have h : ∀ (xs : List Int) (a : Int), forL (fun (st2 : Int) (x3 : Int) => M.bind (lift (mulM st2 b)) fun v4 => (M.pure v4 : M Unit Int)) xs a = .pure (a * b ^ xs.length) := by
    intro xs
    induction xs with
    | nil => intro a; simp [Bm.forL]
    | cons x r ih =>
      intro a
      unfold Bm.forL
      rw [mulM_of hb, lift_pure, M.pure_bind, M.pure_bind, ih, List.length_cons, Int.pow_succ, Int.mul_assoc, Int.mul_comm b]
  rw [h, M.pure_bind, rng_len, Int.one_mul, Int.sub_zero]
theorem divmodM_of {a b : Int} (h : 0 < b) (h2 : b < 1000000000) : divmodM (a, b) = .pure (a / b, a % b) := chk_pos ⟨h, by omega⟩
theorem figures_eq {x b k : Int} (hb : 0 < b) (hb2 : b < 1000000) (h0 : 0 ≤ k) (h1 : k ≤ 1000) : f_figures_of (x, b, k) = .pure (lsd b k.toNat x).reverse := by
  unfold f_figures_of
  dsimp only
  rw [M.pure_bind, rngM_of (by omega) (by omega) (by omega) (by omega), lift_pure, M.pure_bind]
  have h : ∀ (xs : List Int) (y : Int) (acc : List Int), acc.length + xs.length ≤ 1000 → forL (fun (st2 : Int × List Int) (x3 : Int) => M.bind (lift (divmodM (st2.1, b))) fun v5 => M.bind (M.bind (M.pure v5.2) fun a6 => apM st2.2 a6) fun v7 => (M.pure (v5.1, v7) : M Unit (Int × List Int))) xs (y, acc) = .pure ((lsd b xs.length y).foldl (fun p _ => p / b) y, acc ++ lsd b xs.length y) := by
    intro xs
    induction xs with
    | nil => intro y acc _; simp [Bm.forL, lsd]
    | cons x r ih =>
      intro y acc hl
      simp only [List.length_cons] at hl
      unfold Bm.forL
      dsimp only
      rw [divmodM_of hb (by omega), lift_pure, M.pure_bind, M.pure_bind, apM_of (by omega), M.pure_bind, M.pure_bind, ih _ _ (by simp; omega)]
      simp [lsd]
  have e := h (rng 0 k) x [] (by simp [rng_len]; omega)
  rw [e, M.pure_bind]
  simp [rng_len]
/-! ### the chain -/
def shutRow (n i : Int) : Rw := (rng 0 n).map fun me => if me = i then none else some i
theorem shutRow_len (n i : Int) : (shutRow n i).length = n.toNat := by simp [shutRow, rng_len]
theorem row_shape {n : Int} {row : Rw} (h : rowOk n row = true) : (row.length : Int) = n := by
  unfold rowOk at h
  simp at h
  exact h.1
theorem shutRow_ok {n i : Int} (hn : 0 ≤ n) (i0 : 0 ≤ i) (i1 : i < n) : rowOk n (shutRow n i) = true := by
  unfold rowOk
  rw [decide_eq_true (by rw [shutRow_len]; omega), Bool.true_and, List.all_eq_true]
  intro p hp
  obtain ⟨k, h1, h2⟩ := mem_enumI hp
  unfold shutRow at h1
  rw [List.getElem?_map] at h1
  obtain ⟨me, h3, h4⟩ := Option.map_eq_some_iff.mp h1
  have hk : (k : Int) < n := by
    have := (List.getElem?_eq_some_iff.mp h3).1
    rw [rng_len] at this
    omega
  rw [rng_get (by omega)] at h3
  cases h3
  obtain ⟨p1, p2⟩ := p
  dsimp only at h2 h4 ⊢
  subst h2
  by_cases h : (0 + (k : Int)) = i
  · rw [if_pos h] at h4
    subst h4
    rfl
  · rw [if_neg h] at h4
    subst h4
    simp [entOk]
    omega
theorem shut_out_eq {n r i : Int} (n1 : 3 ≤ n) (n2 : n ≤ 5) (r0 : 0 ≤ r) (r1 : r ≤ 30) (i0 : 0 ≤ i) (i1 : i < n) : f_shut_out (n, r, i) = .pure (List.replicate r.toNat (shutRow n i)) := by
  unfold f_shut_out
  simp only [check_size_int n1 n2 r0 r1, check_machine_int i0 i1, lift_pure, M.pure_bind, rngM_of (show -1000000 ≤ (0:Int) by omega) (by omega) (show -1000000 ≤ n by omega) (by omega)]
  unfold repM
  rw [chk_pos (by simp; omega), lift_pure]
  congr 1
  have : ∀ k : Nat, (List.replicate k [shutRow n i]).flatten = List.replicate k (shutRow n i) := by
    intro k
    induction k with
    | zero => rfl
    | succ k ih => rw [List.replicate_succ, List.flatten_cons, ih]; rfl
  rw [← this]
  simp [shutRow]
/-- the pattern with these figures, from the rest of the one to the rest of the other -/
def mix (l f : Rw) (d : Int) : Rw := l.take d.toNat ++ f.drop d.toNat
def chainP (n : Int) : List Int → Pat → Pat → Pat
  | [], _, _ => []
  | d :: ds, f, l => mix (l.headD []) (f.headD []) d :: chainP n ds (if 0 < d then List.replicate ds.length (shutRow n (d - 1)) else f.tail) (if d < n then List.replicate ds.length (shutRow n d) else l.tail)
theorem chainP_len (n : Int) : ∀ (ds : List Int) (f l : Pat), (chainP n ds f l).length = ds.length
  | [], _, _ => rfl
  | d :: ds, f, l => by simp [chainP, chainP_len n ds]
theorem sIx_nat {L : Nat} {d : Nat} {i : Int} (h0 : 0 ≤ i) (h : i ≤ L) : HT.sIx L d (some i) = i.toNat := by
  unfold HT.sIx
  dsimp only
  rw [if_neg (by omega)]
  omega
theorem cutL_take {α : Type} {xs : List α} {i : Int} (h0 : 0 ≤ i) (h : i ≤ xs.length) : cutL xs none (some i) = xs.take i.toNat := by
  unfold cutL
  rw [sIx_nat h0 h]
  simp [HT.sIx]
theorem cutL_drop {α : Type} {xs : List α} {i : Int} (h0 : 0 ≤ i) (h : i ≤ xs.length) : cutL xs (some i) none = xs.drop i.toNat := by
  unfold cutL
  rw [sIx_nat h0 h]
  have : HT.sIx xs.length xs.length none = xs.length := by simp [HT.sIx]
  rw [this, List.take_of_length_le (by simp)]

theorem head_drop {α : Type} {xs : List α} {k : Nat} {x d : α} (h : xs[k]? = some x) : (xs.drop k).headD d = x := by
  rw [List.headD_eq_head?_getD, List.head?_drop, h]
  rfl
theorem tail_drop {α : Type} {xs : List α} {k : Nat} : (xs.drop k).tail = xs.drop (k + 1) := by simp
theorem patOk_rep {n i : Int} {k : Nat} (hn : 0 ≤ n) (i0 : 0 ≤ i) (i1 : i < n) : patOk n (List.replicate k (shutRow n i)) := fun row h => by
  rw [(List.mem_replicate.mp h).2]
  exact shutRow_ok hn i0 i1
def chG (n r : Int) (st : Pat × Pat × Pat) (x : Int × Int) : Pat × Pat × Pat :=
  (st.1 ++ [mix (st.2.2.getD x.1.toNat []) (st.2.1.getD x.1.toNat []) x.2], if 0 < x.2 then List.replicate r.toNat (shutRow n (x.2 - 1)) else st.2.1, if x.2 < n then List.replicate r.toNat (shutRow n x.2) else st.2.2)
structure ChI (n r : Int) (rest : List (Int × Int)) (st : Pat × Pat × Pat) : Prop where
  ex : ∃ (k : Nat) (ds : List Int), rest = enumI (k : Int) ds ∧ Fig (n + 1) ds ∧ k + ds.length = r.toNat ∧ st.1.length = k
  fl : st.2.1.length = r.toNat
  ll : st.2.2.length = r.toNat
  fo : patOk n st.2.1
  lo : patOk n st.2.2
theorem chG_fold {n r : Int} : ∀ (ds : List Int) (k : Nat) (turns f l : Pat), k + ds.length = r.toNat → f.length = r.toNat → l.length = r.toNat → ((enumI (k : Int) ds).foldl (chG n r) (turns, f, l)).1 = turns ++ chainP n ds (f.drop k) (l.drop k)
  | [], k, turns, f, l, _, _, _ => by simp [enumI, chainP]
  | d :: ds, k, turns, f, l, hk, fl, ll => by
    simp only [List.length_cons] at hk
    have fk : k < f.length := by omega
    have lk : k < l.length := by omega
    have e1 : ∀ xs : Pat, xs.getD k [] = (xs.drop k).headD [] := fun xs => by
      simp [List.headD_eq_head?_getD, List.head?_drop]
    rw [enumI, List.foldl_cons]
    have e2 : chG n r (turns, f, l) ((k : Int), d) = (turns ++ [mix ((l.drop k).headD []) ((f.drop k).headD []) d], if 0 < d then List.replicate r.toNat (shutRow n (d - 1)) else f, if d < n then List.replicate r.toNat (shutRow n d) else l) := by
      simp only [chG, Int.toNat_natCast, e1]
    rw [e2]
    have ih := chG_fold (n := n) (r := r) ds (k + 1) (turns ++ [mix ((l.drop k).headD []) ((f.drop k).headD []) d]) (if 0 < d then List.replicate r.toNat (shutRow n (d - 1)) else f) (if d < n then List.replicate r.toNat (shutRow n d) else l) (by omega) (by split <;> simp [fl]) (by split <;> simp [ll])
    have ek : (k : Int) + 1 = ((k + 1 : Nat) : Int) := by omega
    rw [ek, ih, List.append_assoc]
    congr 1
    rw [chainP, tail_drop, tail_drop]
    have d1 : ∀ (c : Prop) [Decidable c] (w : Rw) (g : Pat), (if c then List.replicate r.toNat w else g).drop (k + 1) = if c then List.replicate ds.length w else g.drop (k + 1) := fun c _ w g => by
      split
      · rw [List.drop_replicate]
        congr 1
        omega
      · rfl
    rw [d1, d1]
    rfl
theorem mix_eq {l f : Rw} {d : Int} (h0 : 0 ≤ d) (hl : d ≤ l.length) (hf : d ≤ f.length) (h : (l.length : Int) ≤ 100) (h2 : (f.length : Int) ≤ 100) : catM (cutL l none (some d)) (cutL f (some d) none) = .pure (mix l f d) := by
  rw [cutL_take h0 hl, cutL_drop h0 hf, catM_of (by simp; omega)]
  rfl
theorem pow_pos' {n : Int} (hn : 0 < n) (k : Nat) : 0 < n ^ k := Int.pow_pos hn
theorem chain_at_eq {n x : Int} {f l : Pat} (n1 : 3 ≤ n) (n2 : n ≤ 5) (hr : f.length ≤ 30) (hl : l.length = f.length) (fo : patOk n f) (lo : patOk n l) (x0 : 0 ≤ x) (x1 : x < (n + 1) ^ f.length) :
    f_chain_at (n, f, l, x) = .pure (chainP n (lsd (n + 1) f.length x).reverse f l) := by
  unfold f_chain_at
  have c1 := check_number_int n1 n2
  have c2 := check_pattern_pat (lo := 0) (hi := 30) fo (by omega) (by omega)
  have c3 := check_pattern_pat (lo := (f.length : Int)) (hi := (f.length : Int)) lo (by omega) (by omega)
  have c4 : f_power (n + 1, (f.length : Int)) = .pure ((n + 1) ^ f.length) := by
    rw [power_eq ⟨by omega, by omega⟩ (by omega) (by omega)]
    simp
  have c5 := figures_eq (x := x) (b := n + 1) (k := (f.length : Int)) (by omega) (by omega) (by omega) (by omega)
  have c6 : f_check_number (.int x, 0, (n + 1) ^ f.length - 1) = .pure () := check_number_int x0 (by omega)
  rw [Int.toNat_natCast] at c5
  simp only [c1, c2, c3, c4, c5, c6, lift_pure, M.pure_bind]
  have hds : (lsd (n + 1) f.length x).reverse.length = f.length := by simp [lsd_len]
  have hfig : Fig (n + 1) (lsd (n + 1) f.length x).reverse := fun d hd => lsd_fig (by omega) _ _ d (List.mem_reverse.mp hd)
  generalize (lsd (n + 1) f.length x).reverse = ds at hds hfig
  rw [forL_eq (g := chG n (f.length : Int)) (I := ChI n (f.length : Int)) ?h (enumI 0 ds) ([], f, l) ⟨⟨0, ds, rfl, hfig, by simpa using hds, rfl⟩, by simp, by simpa using hl, fo, lo⟩, M.pure_bind]
  · rw [show (0 : Int) = ((0 : Nat) : Int) from rfl, chG_fold ds 0 [] f l (by simpa using hds) (by simp) (by simpa using hl)]
    rfl
  · rintro y rest ⟨turns, f1, l1⟩ hI
    obtain ⟨⟨k, ds, hrest, hf, hk, ht⟩, h1, h2, h3, h4⟩ := hI
    cases ds with
    | nil => cases hrest
    | cons d ds =>
      rw [enumI] at hrest
      obtain ⟨rfl, rfl⟩ := List.cons.inj hrest
      simp only [List.length_cons] at hk
      dsimp only at ht h1 h2 h3 h4 ⊢
      have hd0 := hf d List.mem_cons_self
      have fk : k < f1.length := by omega
      have lk : k < l1.length := by omega
      have gf : f1[k]? = some f1[k] := List.getElem?_eq_getElem fk
      have gl : l1[k]? = some l1[k] := List.getElem?_eq_getElem lk
      have hfr := row_shape (h3 _ (List.getElem_mem fk))
      have hlr := row_shape (h4 _ (List.getElem_mem lk))
      have m1 := mix_eq (l := l1[k]) (f := f1[k]) hd0.1 (by omega) (by omega) (by omega) (by omega)
      have s1 : ∀ i, 0 ≤ i → i < n → f_shut_out (n, (f.length : Int), i) = .pure (List.replicate (f.length : Int).toNat (shutRow n i)) := fun i i0 i1 => shut_out_eq n1 n2 (by omega) (by omega) i0 i1
      have e1 : (if decide (d > 0) = true then (M.bind (lift (f_shut_out (n, (f.length : Int), d - 1))) fun v => (M.pure v : M Unit Pat)) else M.pure f1) = .pure (if 0 < d then List.replicate (f.length : Int).toNat (shutRow n (d - 1)) else f1) := by
        by_cases h : 0 < d
        · rw [decide_eq_true h, if_pos rfl, if_pos h, s1 _ (by omega) (by omega)]
          rfl
        · rw [decide_eq_false h, if_neg (by simp), if_neg h]
      have e2 : (if decide (d < n) = true then (M.bind (lift (f_shut_out (n, (f.length : Int), d))) fun v => (M.pure v : M Unit Pat)) else M.pure l1) = .pure (if d < n then List.replicate (f.length : Int).toNat (shutRow n d) else l1) := by
        by_cases h : d < n
        · rw [decide_eq_true h, if_pos rfl, if_pos h, s1 _ (by omega) (by omega)]
          rfl
        · rw [decide_eq_false h, if_neg (by simp), if_neg h]
      constructor
      · simp only [atM_nat gf, atM_nat gl, lift_pure, M.pure_bind, m1, apM_of (show turns.length ≤ 1000000 by omega), e1, e2]
        simp [chG, gf, gl]
      · refine ⟨⟨k + 1, ds, by rw [show ((k + 1 : Nat) : Int) = (k : Int) + 1 by omega], fun g hg => hf g (List.mem_cons_of_mem d hg), by omega, by simp [chG, ht]⟩, ?_, ?_, ?_, ?_⟩
        · simp only [chG]; split <;> simp [h1]
        · simp only [chG]; split <;> simp [h2]
        · simp only [chG]
          split
          · exact patOk_rep (by omega) (by omega) (by omega)
          · exact h3
        · simp only [chG]
          split
          · exact patOk_rep (by omega) (by omega) (by omega)
          · exact h4
/-! ### drawn patterns -/
theorem entry_ok {cs : List Int} {n p d : Int} (n1 : 3 ≤ n) (n2 : n ≤ 5) (hd : 0 < d) (hd2 : d < 1000) : Ok (f_law_entry cs (n, p, d)) (fun e => entOk n p e = true) := by
  unfold f_law_entry
  dsimp only
  refine Ok.bind (P := fun _ => True) (Ok.bind (Ok.draw hd (by omega)) fun a ha => Ok.pure trivial) fun c _ => Ok.ite (fun _ => Ok.pure rfl) fun _ => ?_
  rw [rngM_of (by omega) (by omega) (by omega) (by omega), lift_pure, M.pure_bind, M.pure_bind]
  have hm : ∀ q, q ∈ List.map (fun x3 : Int => x3) (List.filter (fun x3 : Int => !decide (x3 = p)) (rng 0 n)) ↔ 0 ≤ q ∧ q < n ∧ q ≠ p := fun q => by
    simp [mem_rng]
    omega
  have hne : List.map (fun x3 : Int => x3) (List.filter (fun x3 : Int => !decide (x3 = p)) (rng 0 n)) ≠ [] := fun e => by
    by_cases h0 : p = 0
    · have := (hm 1).mpr ⟨by omega, by omega, by omega⟩
      rw [e] at this
      cases this
    · have := (hm 0).mpr ⟨by omega, by omega, fun z => h0 z.symm⟩
      rw [e] at this
      cases this
  have hl : (List.map (fun x3 : Int => x3) (List.filter (fun x3 : Int => !decide (x3 = p)) (rng 0 n))).length < 1000000 := by
    have h1 := List.length_filter_le (fun x3 : Int => !decide (x3 = p)) (rng 0 n)
    rw [rng_len] at h1
    rw [List.length_map]
    omega
  refine Ok.bind (Ok.any hne hl) fun a ha => Ok.pure ?_
  obtain ⟨h1, h2, h3⟩ := (hm a).mp ha
  simp [entOk]
  omega
theorem all2_row {n : Int} {row : Rw} (hn : 0 ≤ n) (h : All2 (fun p e => entOk n p e = true) (rng 0 n) row) : rowOk n row = true := by
  unfold rowOk
  rw [decide_eq_true (by rw [h.length, rng_len]; omega), Bool.true_and, List.all_eq_true]
  intro p hp
  obtain ⟨k, h1, h2⟩ := mem_enumI hp
  obtain ⟨x, h3, h4⟩ := h.get h1
  have hk := (List.getElem?_eq_some_iff.mp h3).1
  rw [rng_len] at hk
  rw [rng_get (by omega)] at h3
  cases h3
  rw [h2]
  exact h4
theorem pattern_ok {cs : List Int} {n r : Int} (n1 : 3 ≤ n) (n2 : n ≤ 5) (r0 : 0 ≤ r) (r1 : r ≤ 30) : Ok (f_law_pattern cs (n, r)) (fun p => patOk n p ∧ p.length = r.toNat) := by
  unfold f_law_pattern
  dsimp only
  rw [M.pure_bind]
  refine Ok.bind (P := fun v : Pat × Int => v.1 = [] ∧ 0 < v.2 ∧ v.2 < 1000) ?_ fun v hv => ?_
  · refine Ok.bind (Ok.any (by simp) (by simp)) fun b hb => Ok.pure ⟨rfl, ?_⟩
    simp at hb
    dsimp only
    omega
  obtain ⟨hv1, hv2, hv3⟩ := hv
  rw [rngM_of (by omega) (by omega) (by omega) (by omega), lift_pure, M.pure_bind, hv1]
  refine Ok.bind (P := fun p => patOk n p ∧ p.length = r.toNat) ?_ fun p hp => Ok.pure hp
  refine (Ok.forL (I := fun rest p => patOk n p ∧ p.length + rest.length = r.toNat) ?_ (rng 0 r) [] ⟨fun _ h => (nomatch h), by simp [rng_len]⟩).mono fun p hp => ⟨hp.1, by simpa using hp.2⟩
  rintro x rest p ⟨hp, hl⟩
  simp only [List.length_cons] at hl
  have add : ∀ row : Rw, rowOk n row = true → Ok (apM p row : M (Pot.PotS cs) Pat) (fun q => patOk n q ∧ q.length + rest.length = r.toNat) := fun row hr => by
    rw [apM_of (by omega)]
    refine Ok.pure ⟨fun w hw => ?_, by simp; omega⟩
    rcases List.mem_append.mp hw with h | h
    · exact hp w h
    · rw [List.mem_singleton.mp h]
      exact hr
  have e1 : rngM 0 n = .pure (rng 0 n) := rngM_of (by omega) (by omega) (by omega) (by omega)
  simp only [e1, lift_pure, M.pure_bind, M.bind_assoc]
  refine Ok.bind (Ok.draw (by omega) (by omega)) fun a ha => Ok.bind (Ok.ite (fun _ => ?_) fun _ => ?_) fun q hq => Ok.pure hq
  · refine Ok.bind (Ok.draw (by omega) (by omega)) fun i hi => ?_
    have e2 : List.map (fun x10 : Int => if decide (x10 = i) = true then (none : Option Int) else some i) (rng 0 n) = shutRow n i := by simp [shutRow]
    rw [e2]
    refine Ok.bind (add _ (shutRow_ok (by omega) hi.1 hi.2)) fun q hq => Ok.pure hq
  · refine Ok.bind (Ok.comp (P := fun p e => entOk n p e = true) (rng 0 n) fun x _ => entry_ok n1 n2 hv2 hv3) fun row hrow => ?_
    refine Ok.bind (add _ (all2_row (by omega) hrow)) fun q hq => Ok.pure hq
end Cm

set_option Elab.async false
set_option linter.all false
set_option maxRecDepth 100000
set_option maxHeartbeats 4000000
namespace K50
open PySem PySem.Spec PyProof.Rows L2 Am Bm Cm
def top (i : Nat) : Stmt := PySem.Challenge.pw_onesilent_k50_sparing_patterns_judged.main.body.getD i (.Pass ⟨0, 0, 0, 0⟩)
abbrev s_is_integer : Stmt := top 7
abbrev N_is_integer : List Str := ["thing"]
theorem sc_is_integer : FnScope N_is_integer ["thing"] (defScope s_is_integer) := ⟨rfl, rfl, rfl, by decide +kernel, rfl, by decide +kernel, by decide +kernel⟩
abbrev s_is_number : Stmt := top 8
abbrev N_is_number : List Str := ["thing", "least", "most"]
theorem sc_is_number : FnScope N_is_number ["thing", "least", "most"] (defScope s_is_number) := ⟨rfl, rfl, rfl, by decide +kernel, rfl, by decide +kernel, by decide +kernel⟩
abbrev s_is_integers : Stmt := top 9
abbrev N_is_integers : List Str := ["thing", "least", "most", "item"]
theorem sc_is_integers : FnScope N_is_integers ["thing", "least", "most"] (defScope s_is_integers) := ⟨rfl, rfl, rfl, by decide +kernel, rfl, by decide +kernel, by decide +kernel⟩
abbrev s_is_turn : Stmt := top 10
abbrev N_is_turn : List Str := ["thing", "many", "me", "missed"]
theorem sc_is_turn : FnScope N_is_turn ["thing", "many"] (defScope s_is_turn) := ⟨rfl, rfl, rfl, by decide +kernel, rfl, by decide +kernel, by decide +kernel⟩
abbrev s_is_other : Stmt := top 11
abbrev N_is_other : List Str := ["thing", "me", "many"]
theorem sc_is_other : FnScope N_is_other ["thing", "me", "many"] (defScope s_is_other) := ⟨rfl, rfl, rfl, by decide +kernel, rfl, by decide +kernel, by decide +kernel⟩
abbrev s_is_ascending : Stmt := top 12
abbrev N_is_ascending : List Str := ["things", "one", "other"]
theorem sc_is_ascending : FnScope N_is_ascending ["things"] (defScope s_is_ascending) := ⟨rfl, rfl, rfl, by decide +kernel, rfl, by decide +kernel, by decide +kernel⟩
abbrev s_is_pattern_of : Stmt := top 14
abbrev N_is_pattern_of : List Str := ["thing", "many", "least", "most", "turn"]
theorem sc_is_pattern_of : FnScope N_is_pattern_of ["thing", "many", "least", "most"] (defScope s_is_pattern_of) := ⟨rfl, rfl, rfl, by decide +kernel, rfl, by decide +kernel, by decide +kernel⟩
abbrev s_is_any_pattern : Stmt := top 15
abbrev N_is_any_pattern : List Str := ["thing", "many"]
theorem sc_is_any_pattern : FnScope N_is_any_pattern ["thing"] (defScope s_is_any_pattern) := ⟨rfl, rfl, rfl, by decide +kernel, rfl, by decide +kernel, by decide +kernel⟩
abbrev s_is_sparing : Stmt := top 17
abbrev N_is_sparing : List Str := ["some", "thing", "turn", "missed"]
theorem sc_is_sparing : FnScope N_is_sparing ["some", "thing"] (defScope s_is_sparing) := ⟨rfl, rfl, rfl, by decide +kernel, rfl, by decide +kernel, by decide +kernel⟩
abbrev s_is_lot_below : Stmt := top 18
abbrev N_is_lot_below : List Str := ["thing", "many", "i"]
theorem sc_is_lot_below : FnScope N_is_lot_below ["thing", "many"] (defScope s_is_lot_below) := ⟨rfl, rfl, rfl, by decide +kernel, rfl, by decide +kernel, by decide +kernel⟩
abbrev s_law_pot : Stmt := top 20
abbrev N_law_pot : List Str := ["script", "cells", "cell"]
theorem sc_law_pot : FnScope N_law_pot ["script"] (defScope s_law_pot) := ⟨rfl, rfl, rfl, by decide +kernel, rfl, by decide +kernel, by decide +kernel⟩
abbrev s_law_draw : Stmt := top 21
abbrev N_law_draw : List Str := ["pot", "many", "cell", "digit", "number"]
theorem sc_law_draw : FnScope N_law_draw ["pot", "many"] (defScope s_law_draw) := ⟨rfl, rfl, rfl, by decide +kernel, rfl, by decide +kernel, by decide +kernel⟩
abbrev s_law_any : Stmt := top 22
abbrev N_law_any : List Str := ["pot", "things"]
theorem sc_law_any : FnScope N_law_any ["pot", "things"] (defScope s_law_any) := ⟨rfl, rfl, rfl, by decide +kernel, rfl, by decide +kernel, by decide +kernel⟩
abbrev s_law_deep : Stmt := top 23
abbrev N_law_deep : List Str := ["pot", "found", "turn"]
theorem sc_law_deep : FnScope N_law_deep ["pot"] (defScope s_law_deep) := ⟨rfl, rfl, rfl, by decide +kernel, rfl, by decide +kernel, by decide +kernel⟩
abbrev s_law_some : Stmt := top 24
abbrev N_law_some : List Str := ["pot", "machine"]
theorem sc_law_some : FnScope N_law_some ["pot"] (defScope s_law_some) := ⟨rfl, rfl, rfl, by decide +kernel, rfl, by decide +kernel, by decide +kernel⟩
abbrev s_law_entry : Stmt := top 25
abbrev N_law_entry : List Str := ["pot", "many", "me", "some", "others", "machine"]
theorem sc_law_entry : FnScope N_law_entry ["pot", "many", "me", "some"] (defScope s_law_entry) := ⟨rfl, rfl, rfl, by decide +kernel, rfl, by decide +kernel, by decide +kernel⟩
abbrev s_law_pattern : Stmt := top 26
abbrev N_law_pattern : List Str := ["pot", "many", "rounds", "some", "found", "r", "me"]
theorem sc_law_pattern : FnScope N_law_pattern ["pot", "many", "rounds", "some"] (defScope s_law_pattern) := ⟨rfl, rfl, rfl, by decide +kernel, rfl, by decide +kernel, by decide +kernel⟩
abbrev s_law_bent : Stmt := top 27
abbrev N_law_bent : List Str := ["pot", "many", "pattern", "more", "things", "r", "me", "row", "kind", "other", "longer"]
theorem sc_law_bent : FnScope N_law_bent ["pot", "many", "pattern"] (defScope s_law_bent) := ⟨rfl, rfl, rfl, by decide +kernel, rfl, by decide +kernel, by decide +kernel⟩
abbrev s_law_is_int : Stmt := top 28
abbrev N_law_is_int : List Str := ["thing", "least", "most"]
theorem sc_law_is_int : FnScope N_law_is_int ["thing", "least", "most"] (defScope s_law_is_int) := ⟨rfl, rfl, rfl, by decide +kernel, rfl, by decide +kernel, by decide +kernel⟩
abbrev s_law_is_lot : Stmt := top 29
abbrev N_law_is_lot : List Str := ["thing", "item", "one", "other"]
theorem sc_law_is_lot : FnScope N_law_is_lot ["thing"] (defScope s_law_is_lot) := ⟨rfl, rfl, rfl, by decide +kernel, rfl, by decide +kernel, by decide +kernel⟩
abbrev s_law_is_row : Stmt := top 30
abbrev N_law_is_row : List Str := ["thing", "many", "some", "me", "missed"]
theorem sc_law_is_row : FnScope N_law_is_row ["thing", "many", "some"] (defScope s_law_is_row) := ⟨rfl, rfl, rfl, by decide +kernel, rfl, by decide +kernel, by decide +kernel⟩
abbrev s_law_is_sparing : Stmt := top 31
abbrev N_law_is_sparing : List Str := ["some", "thing", "many", "row"]
theorem sc_law_is_sparing : FnScope N_law_is_sparing ["some", "thing"] (defScope s_law_is_sparing) := ⟨rfl, rfl, rfl, by decide +kernel, rfl, by decide +kernel, by decide +kernel⟩
abbrev s_law_told : Stmt := top 32
abbrev N_law_told : List Str := ["some", "thing", "e"]
theorem sc_law_told : FnScope N_law_told ["some", "thing"] (defScope s_law_told) := ⟨rfl, rfl, rfl, by decide +kernel, rfl, by decide +kernel, by decide +kernel⟩
abbrev s_law : Stmt := top 33
abbrev N_law : List Str := ["script", "pot", "turn", "many", "rounds", "some", "thing", "again", "bent", "odd", "due"]
theorem sc_law : FnScope N_law ["script"] (defScope s_law) := ⟨rfl, rfl, rfl, by decide +kernel, rfl, by decide +kernel, by decide +kernel⟩
structure Ad where
  f_is_integer : Addr
  f_is_number : Addr
  f_is_integers : Addr
  f_is_turn : Addr
  f_is_other : Addr
  f_is_ascending : Addr
  f_is_pattern_of : Addr
  f_is_any_pattern : Addr
  f_is_sparing : Addr
  f_is_lot_below : Addr
  f_law_pot : Addr
  f_law_draw : Addr
  f_law_any : Addr
  f_law_deep : Addr
  f_law_some : Addr
  f_law_entry : Addr
  f_law_pattern : Addr
  f_law_bent : Addr
  f_law_is_int : Addr
  f_law_is_lot : Addr
  f_law_is_row : Addr
  f_law_is_sparing : Addr
  f_law_told : Addr
  f_law : Addr
  C_SilentError : Addr
  C_NoMachine : Addr
  C_NoLot : Addr
  C_NoPattern : Addr
structure Txt (K : PySem.W.Frag) (mg : Str → Option Value) (a : Ad) : Prop where
  g_is_integer : mg "is_integer" = some (.ref a.f_is_integer)
  fn_is_integer : ∃ fd, Fun K "is_integer" "is_integer" s_is_integer a.f_is_integer fd
  g_is_number : mg "is_number" = some (.ref a.f_is_number)
  fn_is_number : ∃ fd, Fun K "is_number" "is_number" s_is_number a.f_is_number fd
  g_is_integers : mg "is_integers" = some (.ref a.f_is_integers)
  fn_is_integers : ∃ fd, Fun K "is_integers" "is_integers" s_is_integers a.f_is_integers fd
  g_is_turn : mg "is_turn" = some (.ref a.f_is_turn)
  fn_is_turn : ∃ fd, Fun K "is_turn" "is_turn" s_is_turn a.f_is_turn fd
  g_is_other : mg "_is_other" = some (.ref a.f_is_other)
  fn_is_other : ∃ fd, Fun K "_is_other" "_is_other" s_is_other a.f_is_other fd
  g_is_ascending : mg "is_ascending" = some (.ref a.f_is_ascending)
  fn_is_ascending : ∃ fd, Fun K "is_ascending" "is_ascending" s_is_ascending a.f_is_ascending fd
  g_is_pattern_of : mg "is_pattern_of" = some (.ref a.f_is_pattern_of)
  fn_is_pattern_of : ∃ fd, Fun K "is_pattern_of" "is_pattern_of" s_is_pattern_of a.f_is_pattern_of fd
  g_is_any_pattern : mg "is_any_pattern" = some (.ref a.f_is_any_pattern)
  fn_is_any_pattern : ∃ fd, Fun K "is_any_pattern" "is_any_pattern" s_is_any_pattern a.f_is_any_pattern fd
  g_is_sparing : mg "is_sparing" = some (.ref a.f_is_sparing)
  fn_is_sparing : ∃ fd, Fun K "is_sparing" "is_sparing" s_is_sparing a.f_is_sparing fd
  g_is_lot_below : mg "_is_lot_below" = some (.ref a.f_is_lot_below)
  fn_is_lot_below : ∃ fd, Fun K "_is_lot_below" "_is_lot_below" s_is_lot_below a.f_is_lot_below fd
  g_law_pot : mg "_law_pot" = some (.ref a.f_law_pot)
  fn_law_pot : ∃ fd, Fun K "_law_pot" "_law_pot" s_law_pot a.f_law_pot fd
  g_law_draw : mg "_law_draw" = some (.ref a.f_law_draw)
  fn_law_draw : ∃ fd, Fun K "_law_draw" "_law_draw" s_law_draw a.f_law_draw fd
  g_law_any : mg "_law_any" = some (.ref a.f_law_any)
  fn_law_any : ∃ fd, Fun K "_law_any" "_law_any" s_law_any a.f_law_any fd
  g_law_deep : mg "_law_deep" = some (.ref a.f_law_deep)
  fn_law_deep : ∃ fd, Fun K "_law_deep" "_law_deep" s_law_deep a.f_law_deep fd
  g_law_some : mg "_law_some" = some (.ref a.f_law_some)
  fn_law_some : ∃ fd, Fun K "_law_some" "_law_some" s_law_some a.f_law_some fd
  g_law_entry : mg "_law_entry" = some (.ref a.f_law_entry)
  fn_law_entry : ∃ fd, Fun K "_law_entry" "_law_entry" s_law_entry a.f_law_entry fd
  g_law_pattern : mg "_law_pattern" = some (.ref a.f_law_pattern)
  fn_law_pattern : ∃ fd, Fun K "_law_pattern" "_law_pattern" s_law_pattern a.f_law_pattern fd
  g_law_bent : mg "_law_bent" = some (.ref a.f_law_bent)
  fn_law_bent : ∃ fd, Fun K "_law_bent" "_law_bent" s_law_bent a.f_law_bent fd
  g_law_is_int : mg "_law_is_int" = some (.ref a.f_law_is_int)
  fn_law_is_int : ∃ fd, Fun K "_law_is_int" "_law_is_int" s_law_is_int a.f_law_is_int fd
  g_law_is_lot : mg "_law_is_lot" = some (.ref a.f_law_is_lot)
  fn_law_is_lot : ∃ fd, Fun K "_law_is_lot" "_law_is_lot" s_law_is_lot a.f_law_is_lot fd
  g_law_is_row : mg "_law_is_row" = some (.ref a.f_law_is_row)
  fn_law_is_row : ∃ fd, Fun K "_law_is_row" "_law_is_row" s_law_is_row a.f_law_is_row fd
  g_law_is_sparing : mg "_law_is_sparing" = some (.ref a.f_law_is_sparing)
  fn_law_is_sparing : ∃ fd, Fun K "_law_is_sparing" "_law_is_sparing" s_law_is_sparing a.f_law_is_sparing fd
  g_law_told : mg "_law_told" = some (.ref a.f_law_told)
  fn_law_told : ∃ fd, Fun K "_law_told" "_law_told" s_law_told a.f_law_told fd
  g_law : mg "law" = some (.ref a.f_law)
  fn_law : ∃ fd, Fun K "law" "law" s_law a.f_law fd
  b_isinstance : mg "isinstance" = none
  b_bool : mg "bool" = none
  b_int : mg "int" = none
  b_all : mg "all" = none
  b_len : mg "len" = none
  b_tuple : mg "tuple" = none
  b_enumerate : mg "enumerate" = none
  b_zip : mg "zip" = none
  b_any : mg "any" = none
  b_abs : mg "abs" = none
  b_range : mg "range" = none
  b_list : mg "list" = none
  b_ValueError : mg "ValueError" = none
  b_repr : mg "repr" = none
  c_MOST_ROUNDS : ∃ t, mg "MOST_ROUNDS" = some (.int 30 t)
  e_NoLot : ExcT K mg "NoLot" a.C_NoLot
  e_NoMachine : ExcT K mg "NoMachine" a.C_NoMachine
  e_NoPattern : ExcT K mg "NoPattern" a.C_NoPattern
  x_NoLot : ExcC K a.C_NoLot
  y_NoLot : PySem.W.exmOne K (.ref a.C_NoLot) (.ref a.C_NoLot) = some true
  i_NoLot_ValueError : PySem.W.kitOne K (.ref a.C_NoLot) (.type "ValueError") = some true
  i_NoLot_NoMachine_NoPattern : PySem.W.kitAny K (.ref a.C_NoLot) [.ref a.C_NoMachine, .ref a.C_NoPattern] = some false
/-! ### what the defs do -/
noncomputable def b_is_integer : MS :=
  (mRet (mAndV (mCB oIsi (mCons (mVar 0) (mCons (mC (.ty "int")) mNil))) (mNotV (mCB oIsi (mCons (mVar 0) (mCons (mC (.ty "bool")) mNil))))))
noncomputable def m_is_integer : List AV → Hx → R AV := fdef0 1 0 b_is_integer
noncomputable def b_is_number : MS :=
  (mRet (mAndV (mCB m_is_integer (mCons (mVar 0) mNil)) (mChain oLe oLe (mVar 1) (mVar 0) (mVar 2))))
noncomputable def m_is_number : List AV → Hx → R AV := fdef0 3 0 b_is_number
noncomputable def b_is_integers : MS :=
  (mRet (mAndV (mCB oIsi (mCons (mVar 0) (mCons (mC (.ty "tuple")) mNil))) (mAndV (mChain oLe oLe (mVar 1) (mCB oLen (mCons (mVar 0) mNil)) (mVar 2)) (mCB oAll (mCons (mLc (miSeq (mVar 0)) (gNm 3) mYes (mCB m_is_integer (mCons (mVar 3) mNil)) [3]) mNil)))))
noncomputable def m_is_integers : List AV → Hx → R AV := fdef0 3 1 b_is_integers
noncomputable def b_is_other : MS :=
  (mRet (mAndV (mCB m_is_number (mCons (mVar 0) (mCons (mC (.int 0)) (mCons (mOp oSub (mVar 2) (mC (.int 1))) mNil)))) (mOp oNe (mVar 0) (mVar 1))))
noncomputable def m_is_other : List AV → Hx → R AV := fdef0 3 0 b_is_other
noncomputable def b_is_turn : MS :=
  (mSeq (mIf (mOr (mNot (mTru (mCB oIsi (mCons (mVar 0) (mCons (mC (.ty "tuple")) mNil))))) (mB (mOp oNe (mCB oLen (mCons (mVar 0) mNil)) (mVar 1))))
    (mRet (mC (.bl false)))
    mPass)
  (mRet (mCB oAll (mCons (mLc (miEnum (mCons (mVar 0) mNil)) (gTp (gCs (gNm 2) (gCs (gNm 3) gNl))) mYes (mOrV (mOp oIs (mVar 3) (mC .non)) (mCB m_is_other (mCons (mVar 3) (mCons (mVar 2) (mCons (mVar 1) mNil))))) [2, 3]) mNil))))
noncomputable def m_is_turn : List AV → Hx → R AV := fdef0 2 2 b_is_turn
noncomputable def b_is_ascending : MS :=
  (mRet (mCB oAll (mCons (mLc (miZip (mCons (mVar 0) (mCons (mSl oSl (mVar 0) (mPart (mC (.int 1))) mNoPart) mNil))) (gTp (gCs (gNm 1) (gCs (gNm 2) gNl))) mYes (mOp oLt (mVar 1) (mVar 2)) [1, 2]) mNil)))
noncomputable def m_is_ascending : List AV → Hx → R AV := fdef0 1 2 b_is_ascending
noncomputable def b_is_pattern_of : MS :=
  (mSeq (mIf (mOr (mNot (mTru (mCB oIsi (mCons (mVar 0) (mCons (mC (.ty "tuple")) mNil))))) (mNot (mB (mChain oLe oLe (mVar 2) (mCB oLen (mCons (mVar 0) mNil)) (mVar 3)))))
    (mRet (mC (.bl false)))
    mPass)
  (mRet (mCB oAll (mCons (mLc (miSeq (mVar 0)) (gNm 4) mYes (mCB m_is_turn (mCons (mVar 4) (mCons (mVar 1) mNil))) [4]) mNil))))
noncomputable def m_is_pattern_of : List AV → Hx → R AV := fdef0 4 1 b_is_pattern_of
noncomputable def b_is_any_pattern : MS :=
  (mRet (mCB oAny (mCons (mLc (miSeq (mTup (mCons (mC (.int 3)) (mCons (mC (.int 4)) (mCons (mC (.int 5)) mNil))))) (gNm 1) mYes (mCB m_is_pattern_of (mCons (mVar 0) (mCons (mVar 1) (mCons (mC (.int 0)) (mCons (mC (.int 30)) mNil))))) [1]) mNil)))
noncomputable def m_is_any_pattern : List AV → Hx → R AV := fdef0 1 1 b_is_any_pattern
noncomputable def b_is_lot_below : MS :=
  (mRet (mAndV (mCB m_is_integers (mCons (mVar 0) (mCons (mC (.int 0)) (mCons (mVar 1) mNil)))) (mAndV (mCB m_is_ascending (mCons (mVar 0) mNil)) (mCB oAll (mCons (mLc (miSeq (mVar 0)) (gNm 2) mYes (mCB m_is_number (mCons (mVar 2) (mCons (mC (.int 0)) (mCons (mOp oSub (mVar 1) (mC (.int 1))) mNil)))) [2]) mNil)))))
noncomputable def m_is_lot_below : List AV → Hx → R AV := fdef0 2 1 b_is_lot_below
noncomputable def b_is_sparing (mg : Str → Option Value) : MS :=
  (mSeq (mIf (mNot (mTru (mCB m_is_lot_below (mCons (mVar 0) (mCons (mC (.int 5)) mNil)))))
    (mRaise (clsOf mg "NoLot"))
    mPass)
  (mSeq (mIf (mNot (mTru (mCB m_is_any_pattern (mCons (mVar 1) mNil))))
    (mRet (mC (.bl false)))
    mPass)
  (mRet (mCB oAll (mCons (mLc2 (miSeq (mVar 1)) (gNm 2) mYes (miSeq (mVar 2)) (gNm 3) mYes (mOrV (mOp oIs (mVar 3) (mC .non)) (mOp oIn (mVar 3) (mVar 0))) [2, 3] [3]) mNil)))))
noncomputable def m_is_sparing (mg : Str → Option Value) : List AV → Hx → R AV := fdef0 2 2 (b_is_sparing mg)
noncomputable abbrev b_law_pot : MS := Pot.b_law_pot
noncomputable abbrev m_law_pot : List AV → Hx → R AV := Pot.m_law_pot
noncomputable abbrev b_law_draw : MS := Pot.b_law_draw
noncomputable abbrev m_law_draw : List AV → Hx → R AV := Pot.m_law_draw
noncomputable abbrev b_law_any : MS := Pot.b_law_any
noncomputable abbrev m_law_any : List AV → Hx → R AV := Pot.m_law_any
noncomputable def b_law_deep : MS :=
  (mSeq (mSet 1 (mCB m_law_any (mCons (mVar 0) (mCons (mLst (mCons (mTup mNil) (mCons (mC (.int 0)) (mCons (mC .non) (mCons (mC (.str (Str.ofString "a"))) mNil))))) mNil))))
  (mSeq (mFor (miRange1 (mCons (mOp oAdd (mC (.int 1)) (mCB m_law_draw (mCons (mVar 0) (mCons (mC (.int 25)) mNil)))) mNil)) (gNm 2)
    (mSet 1 (mOp oIx (mLst (mCons (mTup (mCons (mVar 1) mNil)) (mCons (mLst (mCons (mVar 1) mNil)) (mCons (mDispV (.inr (Str.ofString "a")) 1) mNil)))) (mCB m_law_draw (mCons (mVar 0) (mCons (mC (.int 3)) mNil))))))
  (mRet (mVar 1))))
noncomputable def m_law_deep : List AV → Hx → R AV := fdef0 1 2 b_law_deep
noncomputable def b_law_some : MS :=
  (mRet (mCB oTuple (mCons (mLc (miRange1 (mCons (mC (.int 5)) mNil)) (gNm 1) (mB (mOp oEq (mCB m_law_draw (mCons (mVar 0) (mCons (mC (.int 2)) mNil))) (mC (.int 0)))) (mVar 1) [1]) mNil)))
noncomputable def m_law_some : List AV → Hx → R AV := fdef0 1 1 b_law_some
noncomputable def b_law_entry : MS :=
  (mSeq (mSet 4 (mLc (miSeq (mVar 3)) (gNm 5) (mAnd (mB (mOp oLt (mVar 5) (mVar 1))) (mB (mOp oNe (mVar 5) (mVar 2)))) (mVar 5) [5]))
  (mRet (mIfE (mOr (mB (mOp oEq (mCB oLen (mCons (mVar 4) mNil)) (mC (.int 0)))) (mB (mOp oEq (mCB m_law_draw (mCons (mVar 0) (mCons (mC (.int 2)) mNil))) (mC (.int 0))))) (mC .non) (mCB m_law_any (mCons (mVar 0) (mCons (mVar 4) mNil))))))
noncomputable def m_law_entry : List AV → Hx → R AV := fdef0 4 2 b_law_entry
noncomputable def b_law_pattern : MS :=
  (mSeq (mSet 4 (mLst mNil))
  (mSeq (mFor (miRange1 (mCons (mVar 2) mNil)) (gNm 5)
    (mDrop (mBM "list" tyL oAppend (mVar 4) (mCons (mCB oTuple (mCons (mLc (miRange1 (mCons (mVar 1) mNil)) (gNm 6) mYes (mCB m_law_entry (mCons (mVar 0) (mCons (mVar 1) (mCons (mVar 6) (mCons (mVar 3) mNil))))) [6]) mNil)) mNil))))
  (mRet (mCB oTuple (mCons (mVar 4) mNil)))))
noncomputable def m_law_pattern : List AV → Hx → R AV := fdef0 4 3 b_law_pattern
noncomputable def b_law_bent : MS :=
  (mSeq (mIf (mB (mOp oEq (mCB oLen (mCons (mVar 2) mNil)) (mC (.int 0))))
    (mSeq (mSet 3 (mOp oMul (mTup (mCons (mC .non) mNil)) (mVar 1)))
    (mSeq (mSet 4 (mLst (mCons (mLst mNil) (mCons (mC .non) (mCons (mC (.str (Str.ofString ""))) (mCons (mC (.int 0)) (mCons mDnew (mCons (mTup (mCons (mTup mNil) mNil)) (mCons (mTup (mCons (mC .non) mNil)) (mCons (mTup (mCons (mSl oSl (mVar 3) mNoPart (mPart (mC (.int 2)))) mNil)) (mCons (mTup (mCons (mVar 3) (mCons (mVar 3) mNil))) (mCons (mTup (mCons (mCB oList (mCons (mVar 3) mNil)) mNil)) (mCons (mTup (mCons (mTup (mCons (mVar 3) mNil)) mNil)) mNil)))))))))))))
    (mRet (mCB m_law_any (mCons (mVar 0) (mCons (mVar 4) mNil))))))
    mPass)
  (mSeq (mPar 5 6 (mCons (mCB m_law_draw (mCons (mVar 0) (mCons (mCB oLen (mCons (mVar 2) mNil)) mNil))) (mCons (mCB m_law_draw (mCons (mVar 0) (mCons (mVar 1) mNil))) mNil)))
  (mSeq (mPar 7 8 (mCons (mCB oList (mCons (mOp oIx (mVar 2) (mVar 5)) mNil)) (mCons (mCB m_law_draw (mCons (mVar 0) (mCons (mC (.int 9)) mNil))) mNil)))
  (mSeq (mIf (mB (mOp oLt (mVar 8) (mC (.int 4))))
    (mPut (mOp oMod (mCB oInt (mCons (mOp oAdd (mOp oAdd (mVar 6) (mC (.int 1))) (mCB m_law_draw (mCons (mVar 0) (mCons (mOp oSub (mVar 1) (mC (.int 1))) mNil)))) mNil)) (mVar 1)) (mVar 7) (mVar 6))
    (mIf (mB (mOp oEq (mVar 8) (mC (.int 4))))
      (mPut (mCB m_law_any (mCons (mVar 0) (mCons (mLst (mCons (mVar 6) (mCons (mVar 1) (mCons (mC (.int 7)) (mCons (mUn oNeg (mC (.int 1))) (mCons (mC (.bl true)) (mCons (mC (.bl false)) (mCons (mC (.str (Str.ofString "0"))) (mCons (mTup (mCons (mC (.int 0)) mNil)) (mCons (mLst (mCons (mC (.int 0)) mNil)) (mCons mDnew (mCons (mOp oPow (mC (.int 10)) (mC (.int 50))) (mCons (mCB m_law_deep (mCons (mVar 0) mNil)) mNil))))))))))))) mNil))) (mVar 7) (mVar 6))
      (mIf (mB (mOp oEq (mVar 8) (mC (.int 5))))
        (mSeq (mSet 9 (mCB m_law_any (mCons (mVar 0) (mCons (mLst (mCons (mCB oTuple (mCons (mSl oSl (mVar 7) (mPart (mC (.int 1))) mNoPart) mNil)) (mCons (mOp oAdd (mCB oTuple (mCons (mVar 7) mNil)) (mTup (mCons (mC .non) mNil))) (mCons (mCB oList (mCons (mVar 7) mNil)) (mCons (mC .non) (mCons (mTup mNil) (mCons (mOp oMul (mCB oTuple (mCons (mVar 7) mNil)) (mC (.int 2))) (mCons (mC (.str (Str.ofString "abc"))) mNil)))))))) mNil))))
        (mRet (mOp oAdd (mOp oAdd (mSl oSl (mVar 2) mNoPart (mPart (mVar 5))) (mTup (mCons (mVar 9) mNil))) (mSl oSl (mVar 2) (mPart (mOp oAdd (mVar 5) (mC (.int 1)))) mNoPart))))
        (mIf (mB (mOp oEq (mVar 8) (mC (.int 6))))
          (mSeq (mSet 10 (mOp oAdd (mVar 2) (mTup (mCons (mOp oMul (mTup (mCons (mC .non) mNil)) (mOp oAdd (mVar 1) (mC (.int 1)))) mNil))))
          (mRet (mCB m_law_any (mCons (mVar 0) (mCons (mLst (mCons (mCB oList (mCons (mVar 2) mNil)) (mCons (mOp oAdd (mVar 2) (mTup (mCons (mC .non) mNil))) (mCons (mVar 10) (mCons (mTup (mCons (mVar 2) mNil)) (mCons (mOp oIx (mVar 2) (mC (.int 0))) mNil)))))) mNil)))))
          (mIf (mB (mOp oEq (mVar 8) (mC (.int 7))))
            (mRet (mSl oSl (mOp oMul (mVar 2) (mC (.int 31))) mNoPart (mPart (mOp oAdd (mC (.int 30)) (mCB m_law_draw (mCons (mVar 0) (mCons (mC (.int 2)) mNil)))))))
            (mRet (mOp oAdd (mRev (mVar 2)) (mSl oSl (mVar 2) mNoPart (mPart (mC (.int 1)))))))))))
  (mRet (mOp oAdd (mOp oAdd (mSl oSl (mVar 2) mNoPart (mPart (mVar 5))) (mTup (mCons (mCB oTuple (mCons (mVar 7) mNil)) mNil))) (mSl oSl (mVar 2) (mPart (mOp oAdd (mVar 5) (mC (.int 1)))) mNoPart)))))))
noncomputable def m_law_bent : List AV → Hx → R AV := fdef0 3 8 b_law_bent
noncomputable def b_law_is_int : MS :=
  (mRet (mAndV (mCB oIsi (mCons (mVar 0) (mCons (mC (.ty "int")) mNil))) (mAndV (mNotV (mCB oIsi (mCons (mVar 0) (mCons (mC (.ty "bool")) mNil)))) (mChain oLe oLe (mVar 1) (mVar 0) (mVar 2)))))
noncomputable def m_law_is_int : List AV → Hx → R AV := fdef0 3 0 b_law_is_int
noncomputable def b_law_is_lot : MS :=
  (mSeq (mIf (mOr (mNot (mTru (mCB oIsi (mCons (mVar 0) (mCons (mC (.ty "tuple")) mNil))))) (mNot (mTru (mCB oAll (mCons (mLc (miSeq (mVar 0)) (gNm 1) mYes (mCB m_law_is_int (mCons (mVar 1) (mCons (mC (.int 0)) (mCons (mC (.int 4)) mNil)))) [1]) mNil)))))
    (mRet (mC (.bl false)))
    mPass)
  (mRet (mCB oAll (mCons (mLc (miZip (mCons (mVar 0) (mCons (mSl oSl (mVar 0) (mPart (mC (.int 1))) mNoPart) mNil))) (gTp (gCs (gNm 2) (gCs (gNm 3) gNl))) mYes (mOp oLt (mVar 2) (mVar 3)) [2, 3]) mNil))))
noncomputable def m_law_is_lot : List AV → Hx → R AV := fdef0 1 3 b_law_is_lot
noncomputable def b_law_is_row : MS :=
  (mSeq (mIf (mOr (mNot (mTru (mCB oIsi (mCons (mVar 0) (mCons (mC (.ty "tuple")) mNil))))) (mB (mOp oNe (mCB oLen (mCons (mVar 0) mNil)) (mVar 1))))
    (mRet (mC (.bl false)))
    mPass)
  (mSeq (mFor (miRange1 (mCons (mVar 1) mNil)) (gNm 3)
    (mIf (mAnd (mB (mOp oIsNot (mOp oIx (mVar 0) (mVar 3)) (mC .non))) (mOr (mNot (mTru (mCB m_law_is_int (mCons (mOp oIx (mVar 0) (mVar 3)) (mCons (mC (.int 0)) (mCons (mOp oSub (mVar 1) (mC (.int 1))) mNil)))))) (mB (mOp oEq (mOp oIx (mVar 0) (mVar 3)) (mVar 3)))))
      (mRet (mC (.bl false)))
      mPass))
  (mRet (mCB oAll (mCons (mLc (miSeq (mVar 0)) (gNm 4) mYes (mOrV (mOp oIs (mVar 4) (mC .non)) (mOp oIn (mVar 4) (mVar 2))) [4]) mNil)))))
noncomputable def m_law_is_row : List AV → Hx → R AV := fdef0 3 2 b_law_is_row
noncomputable def b_law_is_sparing : MS :=
  (mSeq (mIf (mOr (mNot (mTru (mCB oIsi (mCons (mVar 1) (mCons (mC (.ty "tuple")) mNil))))) (mB (mOp oGt (mCB oLen (mCons (mVar 1) mNil)) (mC (.int 30)))))
    (mRet (mC (.bl false)))
    mPass)
  (mSeq (mFor (miSeq (mLst (mCons (mC (.int 3)) (mCons (mC (.int 4)) (mCons (mC (.int 5)) mNil))))) (gNm 2)
    (mIf (mTru (mCB oAll (mCons (mLc (miSeq (mVar 1)) (gNm 3) mYes (mCB m_law_is_row (mCons (mVar 3) (mCons (mVar 2) (mCons (mVar 0) mNil)))) [3]) mNil)))
      (mRet (mC (.bl true)))
      mPass))
  (mRet (mC (.bl false)))))
noncomputable def m_law_is_sparing : List AV → Hx → R AV := fdef0 2 2 b_law_is_sparing
noncomputable def b_law_told (mg : Str → Option Value) : MS :=
  (mTry1 2 (clsOf mg "NoLot")
    (mRet (mTup (mCons (mC (.str (Str.ofString "let"))) (mCons (mCB (m_is_sparing mg) (mCons (mVar 0) (mCons (mVar 1) mNil))) mNil))))
    (mRet (mTup (mCons (mIfE (mAnd (mNot (mTru (mC (.bl false)))) (mTru (mC (.bl true)))) (mC (.str (Str.ofString "lot"))) (mC (.str (Str.ofString "other")))) (mCons (mC .non) mNil)))))
noncomputable def m_law_told (mg : Str → Option Value) : List AV → Hx → R AV := fdef0 2 1 (b_law_told mg)
noncomputable def b_law1 (mg : Str → Option Value) : MS :=
  (mSeq (mFor (miRange1 (mCons (mC (.int 10)) mNil)) (gNm 2)
    (mSeq (mPar3 3 4 5 (mCons (mOp oAdd (mC (.int 3)) (mCB m_law_draw (mCons (mVar 1) (mCons (mC (.int 3)) mNil)))) (mCons (mCB m_law_any (mCons (mVar 1) (mCons (mLst (mCons (mC (.int 0)) (mCons (mC (.int 1)) (mCons (mC (.int 2)) (mCons (mC (.int 2)) (mCons (mC (.int 5)) (mCons (mC (.int 30)) mNil))))))) mNil))) (mCons (mCB m_law_some (mCons (mVar 1) mNil)) mNil))))
    (mSeq (mSet 6 (mCB m_law_pattern (mCons (mVar 1) (mCons (mVar 3) (mCons (mVar 4) (mCons (mVar 5) mNil))))))
    (mSeq (mIf (mB (mOp oNe (mCB oRepr (mCons (mCB (m_law_told mg) (mCons (mVar 5) (mCons (mVar 6) mNil))) mNil)) (mCB oRepr (mCons (mTup (mCons (mC (.str (Str.ofString "let"))) (mCons (mC (.bl true)) mNil))) mNil))))
      (mRet (mC (.bl false)))
      mPass)
    (mSeq (mFor (miRange1 (mCons (mCB m_law_draw (mCons (mVar 1) (mCons (mC (.int 3)) mNil))) mNil)) (gNm 7)
      (mSeq (mSet 8 (mCB m_law_bent (mCons (mVar 1) (mCons (mVar 3) (mCons (mVar 6) mNil)))))
      (mIf (mB (mOp oNe (mCB oRepr (mCons (mCB (m_law_told mg) (mCons (mVar 5) (mCons (mVar 8) mNil))) mNil)) (mCB oRepr (mCons (mTup (mCons (mC (.str (Str.ofString "let"))) (mCons (mCB m_law_is_sparing (mCons (mVar 5) (mCons (mVar 8) mNil))) mNil))) mNil))))
        (mRet (mC (.bl false)))
        mPass)))
    (mSeq (mSet 9 (mLst (mCons (mRev (mVar 5)) (mCons (mOp oAdd (mVar 5) (mTup (mCons (mC (.int 5)) mNil))) (mCons (mOp oAdd (mVar 5) (mSl oSl (mVar 5) (mPart (mUn oNeg (mC (.int 1)))) mNoPart)) (mCons (mCB oList (mCons (mVar 5) mNil)) (mCons (mOp oAdd (mTup (mCons (mUn oNeg (mC (.int 1))) mNil)) (mVar 5)) (mCons (mTup (mCons (mC (.bl true)) mNil)) (mCons (mTup (mCons (mC (.bl false)) (mCons (mC (.int 1)) mNil))) (mCons (mTup (mCons (mC (.str (Str.ofString "0"))) mNil)) mNil))))))))))
    (mSeq (mSet 9 (mCB m_law_any (mCons (mVar 1) (mCons (mOp oAdd (mVar 9) (mLst (mCons (mC .non) (mCons (mC (.int 3)) (mCons (mC (.str (Str.ofString ""))) (mCons (mC (.str (Str.ofString "01"))) (mCons mDnew (mCons (mDispC (.inl 0) (.int 1)) (mCons (mTup (mCons (mTup (mCons (mC (.int 0)) mNil)) mNil)) (mCons (mTup (mCons (mC (.int 0)) (mCons (mC .non) mNil))) (mCons (mCB m_law_deep (mCons (mVar 1) mNil)) (mCons (mTup (mCons (mOp oPow (mC (.int 10)) (mC (.int 30))) mNil)) mNil)))))))))))) mNil))))
    (mSeq (mSet 10 (mIfE (mTru (mCB m_law_is_lot (mCons (mVar 9) mNil))) (mTup (mCons (mC (.str (Str.ofString "let"))) (mCons (mCB m_law_is_sparing (mCons (mVar 9) (mCons (mVar 6) mNil))) mNil))) (mTup (mCons (mC (.str (Str.ofString "lot"))) (mCons (mC .non) mNil)))))
    (mSeq (mIf (mB (mOp oNe (mCB oRepr (mCons (mCB (m_law_told mg) (mCons (mVar 9) (mCons (mVar 6) mNil))) mNil)) (mCB oRepr (mCons (mVar 10) mNil))))
      (mRet (mC (.bl false)))
      mPass)
    (mIf (mAnd (mNot (mTru (mCB m_law_is_lot (mCons (mVar 9) mNil)))) (mB (mOp oNe (mCB (m_law_told mg) (mCons (mVar 9) (mCons (mCB m_law_bent (mCons (mVar 1) (mCons (mVar 3) (mCons (mVar 6) mNil)))) mNil))) (mTup (mCons (mC (.str (Str.ofString "lot"))) (mCons (mC .non) mNil))))))
      (mRet (mC (.bl false)))
      mPass))))))))))
  (mRet (mC (.bl true))))
noncomputable def b_law (mg : Str → Option Value) : MS := mSeq (mSet 1 (mCB m_law_pot (mCons (mVar 0) mNil))) (b_law1 mg)
noncomputable def m_law (mg : Str → Option Value) : List AV → Hx → R AV := fdef0 1 10 (b_law mg)
end K50

set_option Elab.async false
set_option linter.all false
set_option maxRecDepth 100000
set_option maxHeartbeats 4000000
namespace K50
open PySem PySem.Spec PyProof.Rows L2 Am Bm Cm
section
variable {P : Program} {w : World} {K : PySem.W.Frag} {mg : Str → Option Value} {base : Heap} {a : Ad}
theorem ok_is_integer (T : Txt K mg a) : OkA P w K mg base 1 a.f_is_integer ["thing"] m_is_integer := by
  exact ok_def0 T.fn_is_integer sc_is_integer rfl rfl (fun _ _ _ _ _ _ us hl => match us, hl with | [_], _ => rfl) (fun cdv A outer s H E hr =>
    (jss_one (js_ret (je_andV (je_callB ca_isi (by rfl) T.b_isinstance (by decide +kernel) (ja_cons (je_var (pv 0)) (ja_cons (je_of (x := .ty "int") (pe_bltn (v := .ty "int") (u := .type "int") (by rfl) T.b_int (by decide +kernel) rfl) fun _ _ => .ty _) ja_nil))) (je_one (je_notV (je_callB ca_isi (by rfl) T.b_isinstance (by decide +kernel) (ja_cons (je_var (pv 0)) (ja_cons (je_of (x := .ty "bool") (pe_bltn (v := .ty "bool") (u := .type "bool") (by rfl) T.b_bool (by decide +kernel) rfl) fun _ _ => .ty _) ja_nil)))))))))
theorem ok_is_number (T : Txt K mg a) : OkA P w K mg base 2 a.f_is_number ["thing", "least", "most"] m_is_number := by
  exact ok_def0 T.fn_is_number sc_is_number rfl rfl (fun _ _ _ _ _ _ us hl => match us, hl with | [_, _, _], _ => rfl) (fun cdv A outer s H E hr =>
    (jss_one (js_ret (je_andV (je_call (ok_is_integer T) (hr.mono (by decide)) rfl T.g_is_integer (takes_of rfl rfl rfl rfl) (ja_cons (je_var (pv 0)) ja_nil)) (je_one (je_chain oa_le oa_le (je_var (pv 1)) (je_var (pv 0)) (je_var (pv 2))))))))
theorem ok_is_integers (T : Txt K mg a) : OkA P w K mg base 2 a.f_is_integers ["thing", "least", "most"] m_is_integers := by
  exact ok_def0 T.fn_is_integers sc_is_integers rfl rfl (fun _ _ _ _ _ _ us hl => match us, hl with | [_, _, _], _ => rfl) (fun cdv A outer s H E hr =>
    (jss_one (js_ret (je_andV (je_callB ca_isi (by rfl) T.b_isinstance (by decide +kernel) (ja_cons (je_var (pv 0)) (ja_cons (je_of (x := .ty "tuple") (pe_bltn (v := .ty "tuple") (u := .type "tuple") (by rfl) T.b_tuple (by decide +kernel) rfl) fun _ _ => .ty _) ja_nil))) (je_andV (je_chain oa_le oa_le (je_var (pv 1)) (je_callB ca_len (by rfl) T.b_len (by decide +kernel) (ja_cons (je_var (pv 0)) ja_nil)) (je_var (pv 2))) (je_one (je_callB (ca_all rfl) (by rfl) T.b_all (by decide +kernel) (ja_cons (je_lc (own := [("item", 3)]) rfl sc_is_integers.nd (ji_seq (je_var (pv 0))) (blkOk_by (own := [("item", 3)]) (N := N_is_integers) (sc := defScope s_is_integers) (by decide +kernel)) (fun _ _ _ _ _ => (jg_name (i := 3) sc_is_integers.nd rfl (Or.inl rfl))) (fun _ _ _ _ _ => jts_nil) (fun _ _ _ _ _ => (je_call (ok_is_integer T) (hr.mono (by decide)) rfl T.g_is_integer takesF (ja_cons (je_var (pv 3)) ja_nil)))) ja_nil))))))))
theorem ok_is_other (T : Txt K mg a) : OkA P w K mg base 3 a.f_is_other ["thing", "me", "many"] m_is_other := by
  exact ok_def0 T.fn_is_other sc_is_other rfl rfl (fun _ _ _ _ _ _ us hl => match us, hl with | [_, _, _], _ => rfl) (fun cdv A outer s H E hr =>
    (jss_one (js_ret (je_andV (je_call (ok_is_number T) (hr.mono (by decide)) rfl T.g_is_number (takes_of rfl rfl rfl rfl) (ja_cons (je_var (pv 0)) (ja_cons (je_of (x := .int 0) pe_int fun _ _ => .int _) (ja_cons (je_op oa_sub (je_var (pv 2)) (je_of (x := .int 1) pe_int fun _ _ => .int _)) ja_nil)))) (je_one (je_cmp (oa_ne hr.u64) (je_var (pv 0)) (je_var (pv 1)) (nomark _)))))))
theorem ok_is_turn (T : Txt K mg a) : OkA P w K mg base 4 a.f_is_turn ["thing", "many"] m_is_turn := by
  exact ok_def0 T.fn_is_turn sc_is_turn rfl rfl (fun _ _ _ _ _ _ us hl => match us, hl with | [_, _], _ => rfl) (fun cdv A outer s H E hr =>
    (jss_cons (js_if (PW.pt (jw_or (jt_not (jt_val (je_callB ca_isi (by rfl) T.b_isinstance (by decide +kernel) (ja_cons (je_var (pv 0)) (ja_cons (je_of (x := .ty "tuple") (pe_bltn (v := .ty "tuple") (u := .type "tuple") (by rfl) T.b_tuple (by decide +kernel) rfl) fun _ _ => .ty _) ja_nil))))) (jw_or1 (jt_cmp (oa_ne hr.u64) (je_callB ca_len (by rfl) T.b_len (by decide +kernel) (ja_cons (je_var (pv 0)) ja_nil)) (je_var (pv 1)) (nomark _)))))
    (jss_one (js_ret (je_of (x := .bl false) pe_bl fun _ _ => .bl _)))
    jss_nil)
  (jss_one (js_ret (je_callB (ca_all rfl) (by rfl) T.b_all (by decide +kernel) (ja_cons (je_lc (own := [("me", 2), ("missed", 3)]) rfl sc_is_turn.nd (ji_enum (by rfl) T.b_enumerate (ja_cons (je_var (pv 0)) ja_nil)) (blkOk_by (own := [("me", 2), ("missed", 3)]) (N := N_is_turn) (sc := defScope s_is_turn) (by decide +kernel)) (fun _ _ _ _ _ => (jg_tup (n := 2) rfl (jgs_cons (jg_name (i := 2) sc_is_turn.nd rfl (Or.inl rfl)) (jgs_cons (jg_name (i := 3) sc_is_turn.nd rfl (Or.inl rfl)) jgs_nil)) (fun _ _ _ h => gCs_len (fun _ _ _ h => gCs_len (fun _ _ _ h => gNl_len h) h) h))) (fun _ _ _ _ _ => jts_nil) (fun _ _ _ _ _ => (je_orV (je_cmp oa_is (je_var (pv 3)) (je_of (x := .non) pe_non fun _ _ => .non) (nomark _)) (je_one (je_call (ok_is_other T) (hr.mono (by decide)) rfl T.g_is_other takesF (ja_cons (je_var (pv 3)) (ja_cons (je_var (pv 2)) (ja_cons (je_var (pv 1)) ja_nil)))))))) ja_nil))))))
theorem ok_is_ascending (T : Txt K mg a) : OkA P w K mg base 1 a.f_is_ascending ["things"] m_is_ascending := by
  exact ok_def0 T.fn_is_ascending sc_is_ascending rfl rfl (fun _ _ _ _ _ _ us hl => match us, hl with | [_], _ => rfl) (fun cdv A outer s H E hr =>
    (jss_one (js_ret (je_callB (ca_all rfl) (by rfl) T.b_all (by decide +kernel) (ja_cons (je_lc (own := [("one", 1), ("other", 2)]) rfl sc_is_ascending.nd (ji_zip (by rfl) T.b_zip (ja_cons (je_var (pv 0)) (ja_cons (je_slice sla (je_var (pv 0)) (jo_some (je_of (x := .int 1) pe_int fun _ _ => .int _)) jo_none) ja_nil))) (blkOk_by (own := [("one", 1), ("other", 2)]) (N := N_is_ascending) (sc := defScope s_is_ascending) (by decide +kernel)) (fun _ _ _ _ _ => (jg_tup (n := 2) rfl (jgs_cons (jg_name (i := 1) sc_is_ascending.nd rfl (Or.inl rfl)) (jgs_cons (jg_name (i := 2) sc_is_ascending.nd rfl (Or.inl rfl)) jgs_nil)) (fun _ _ _ h => gCs_len (fun _ _ _ h => gCs_len (fun _ _ _ h => gNl_len h) h) h))) (fun _ _ _ _ _ => jts_nil) (fun _ _ _ _ _ => (je_cmp oa_lt (je_var (pv 1)) (je_var (pv 2)) (nomark _)))) ja_nil)))))
theorem ok_is_pattern_of (T : Txt K mg a) : OkA P w K mg base 5 a.f_is_pattern_of ["thing", "many", "least", "most"] m_is_pattern_of := by
  exact ok_def0 T.fn_is_pattern_of sc_is_pattern_of rfl rfl (fun _ _ _ _ _ _ us hl => match us, hl with | [_, _, _, _], _ => rfl) (fun cdv A outer s H E hr =>
    (jss_cons (js_if (PW.pt (jw_or (jt_not (jt_val (je_callB ca_isi (by rfl) T.b_isinstance (by decide +kernel) (ja_cons (je_var (pv 0)) (ja_cons (je_of (x := .ty "tuple") (pe_bltn (v := .ty "tuple") (u := .type "tuple") (by rfl) T.b_tuple (by decide +kernel) rfl) fun _ _ => .ty _) ja_nil))))) (jw_or1 (jt_not (jt_chain oa_le oa_le (je_var (pv 2)) (je_callB ca_len (by rfl) T.b_len (by decide +kernel) (ja_cons (je_var (pv 0)) ja_nil)) (je_var (pv 3)))))))
    (jss_one (js_ret (je_of (x := .bl false) pe_bl fun _ _ => .bl _)))
    jss_nil)
  (jss_one (js_ret (je_callB (ca_all rfl) (by rfl) T.b_all (by decide +kernel) (ja_cons (je_lc (own := [("turn", 4)]) rfl sc_is_pattern_of.nd (ji_seq (je_var (pv 0))) (blkOk_by (own := [("turn", 4)]) (N := N_is_pattern_of) (sc := defScope s_is_pattern_of) (by decide +kernel)) (fun _ _ _ _ _ => (jg_name (i := 4) sc_is_pattern_of.nd rfl (Or.inl rfl))) (fun _ _ _ _ _ => jts_nil) (fun _ _ _ _ _ => (je_call (ok_is_turn T) (hr.mono (by decide)) rfl T.g_is_turn takesF (ja_cons (je_var (pv 4)) (ja_cons (je_var (pv 1)) ja_nil))))) ja_nil))))))
theorem ok_is_any_pattern (T : Txt K mg a) : OkA P w K mg base 6 a.f_is_any_pattern ["thing"] m_is_any_pattern := by
  obtain ⟨_, cn_MOST_ROUNDS⟩ := T.c_MOST_ROUNDS
  exact ok_def0 T.fn_is_any_pattern sc_is_any_pattern rfl rfl (fun _ _ _ _ _ _ us hl => match us, hl with | [_], _ => rfl) (fun cdv A outer s H E hr =>
    (jss_one (js_ret (je_callB (ca_any rfl) (by rfl) T.b_any (by decide +kernel) (ja_cons (je_lc (own := [("many", 1)]) rfl sc_is_any_pattern.nd (ji_seq (je_tup (ja_cons (je_of (x := .int 3) pe_int fun _ _ => .int _) (ja_cons (je_of (x := .int 4) pe_int fun _ _ => .int _) (ja_cons (je_of (x := .int 5) pe_int fun _ _ => .int _) ja_nil))))) (blkOk_by (own := [("many", 1)]) (N := N_is_any_pattern) (sc := defScope s_is_any_pattern) (by decide +kernel)) (fun _ _ _ _ _ => (jg_name (i := 1) sc_is_any_pattern.nd rfl (Or.inl rfl))) (fun _ _ _ _ _ => jts_nil) (fun _ _ _ _ _ => (je_call (ok_is_pattern_of T) (hr.mono (by decide)) rfl T.g_is_pattern_of takesF (ja_cons (je_var (pv 0)) (ja_cons (je_var (pv 1)) (ja_cons (je_of (x := .int 0) pe_int fun _ _ => .int _) (ja_cons (je_of (x := .int 30) (pe_glob (v := .int 30) rfl cn_MOST_ROUNDS ⟨_, rfl⟩) fun _ _ => .int _) ja_nil))))))) ja_nil)))))
theorem ok_is_lot_below (T : Txt K mg a) : OkA P w K mg base 3 a.f_is_lot_below ["thing", "many"] m_is_lot_below := by
  exact ok_def0 T.fn_is_lot_below sc_is_lot_below rfl rfl (fun _ _ _ _ _ _ us hl => match us, hl with | [_, _], _ => rfl) (fun cdv A outer s H E hr =>
    (jss_one (js_ret (je_andV (je_call (ok_is_integers T) (hr.mono (by decide)) rfl T.g_is_integers (takes_of rfl rfl rfl rfl) (ja_cons (je_var (pv 0)) (ja_cons (je_of (x := .int 0) pe_int fun _ _ => .int _) (ja_cons (je_var (pv 1)) ja_nil)))) (je_andV (je_call (ok_is_ascending T) (hr.mono (by decide)) rfl T.g_is_ascending (takes_of rfl rfl rfl rfl) (ja_cons (je_var (pv 0)) ja_nil)) (je_one (je_callB (ca_all rfl) (by rfl) T.b_all (by decide +kernel) (ja_cons (je_lc (own := [("i", 2)]) rfl sc_is_lot_below.nd (ji_seq (je_var (pv 0))) (blkOk_by (own := [("i", 2)]) (N := N_is_lot_below) (sc := defScope s_is_lot_below) (by decide +kernel)) (fun _ _ _ _ _ => (jg_name (i := 2) sc_is_lot_below.nd rfl (Or.inl rfl))) (fun _ _ _ _ _ => jts_nil) (fun _ _ _ _ _ => (je_call (ok_is_number T) (hr.mono (by decide)) rfl T.g_is_number takesF (ja_cons (je_var (pv 2)) (ja_cons (je_of (x := .int 0) pe_int fun _ _ => .int _) (ja_cons (je_op oa_sub (je_var (pv 1)) (je_of (x := .int 1) pe_int fun _ _ => .int _)) ja_nil)))))) ja_nil))))))))
theorem ok_is_sparing (T : Txt K mg a) : OkA P w K mg base 7 a.f_is_sparing ["some", "thing"] (m_is_sparing mg) := by
  exact ok_def0 T.fn_is_sparing sc_is_sparing rfl rfl (fun _ _ _ _ _ _ us hl => match us, hl with | [_, _], _ => rfl) (fun cdv A outer s H E hr =>
    (jss_cons (js_if (jt_not (jt_val (je_call (ok_is_lot_below T) (hr.mono (by decide)) rfl T.g_is_lot_below (takes_of rfl rfl rfl rfl) (ja_cons (je_var (pv 0)) (ja_cons (je_of (x := .int 5) pe_int fun _ _ => .int _) ja_nil)))))
    (jss_one (js_raise rfl (takes_of rfl rfl rfl rfl) T.e_NoLot (by rfl)))
    jss_nil)
  (jss_cons (js_if (jt_not (jt_val (je_call (ok_is_any_pattern T) (hr.mono (by decide)) rfl T.g_is_any_pattern (takes_of rfl rfl rfl rfl) (ja_cons (je_var (pv 1)) ja_nil))))
    (jss_one (js_ret (je_of (x := .bl false) pe_bl fun _ _ => .bl _)))
    jss_nil)
  (jss_one (js_ret (je_callB (ca_all rfl) (by rfl) T.b_all (by decide +kernel) (ja_cons (je_lc2 (own := [("turn", 2), ("missed", 3)]) (vs1 := [3]) rfl sc_is_sparing.nd (ji_seq (je_var (pv 1))) (blkOk_by (own := [("turn", 2), ("missed", 3)]) (N := N_is_sparing) (sc := defScope s_is_sparing) (by decide +kernel)) (by decide) (fun _ _ _ _ _ => (jg_name (i := 2) sc_is_sparing.nd rfl (Or.inl rfl))) (fun _ _ _ _ _ => jts_nil) (fun _ _ _ _ _ => (ji_seq (je_var (pv 2)))) (fun _ _ _ _ _ => (jg_name (i := 3) sc_is_sparing.nd rfl (Or.inl rfl))) (fun _ _ _ _ _ => jts_nil) (fun _ _ _ _ _ => (je_orV (je_cmp oa_is (je_var (pv 3)) (je_of (x := .non) pe_non fun _ _ => .non) (nomark _)) (je_one (je_cmp (oa_in hr.u65) (je_var (pv 3)) (je_var (pv 0)) (by rfl)))))) ja_nil)))))))
theorem ok_law_pot (T : Txt K mg a) : OkA P w K mg base 1 a.f_law_pot ["script"] m_law_pot := by
  exact ok_def0 T.fn_law_pot sc_law_pot rfl rfl (fun _ _ _ _ _ _ us hl => match us, hl with | [_], _ => rfl) (fun cdv A outer s H E hr =>
    (jss_cons (js_setLc (i := 1) (own := [("cell", 2)]) rfl sc_law_pot.nd rfl rfl (sw_true rfl rfl rfl (by decide +kernel)) (ji_seq (je_slice sla (je_var (pv 0)) jo_none (jo_some (je_of (x := .int 63) pe_int fun _ _ => .int _)))) (blkOk_by (own := [("cell", 2)]) (N := N_law_pot) (sc := defScope s_law_pot) (by decide +kernel)) (fun _ _ _ _ _ => (jg_name (i := 2) sc_law_pot.nd rfl (Or.inl rfl))) (fun _ _ _ _ _ => jts_nil) (fun _ _ _ _ _ => (je_callB ca_abs (by rfl) T.b_abs (by decide +kernel) (ja_cons (je_callTy ca_int (by rfl) T.b_int (by decide +kernel) (ja_cons (je_var (pv 2)) ja_nil)) ja_nil))))
  (jss_one (js_ret (je_lst (ja_cons (je_var (pv 1)) (ja_cons (je_of (x := .int 0) pe_int fun _ _ => .int _) (ja_cons (je_of (x := .int 0) pe_int fun _ _ => .int _) (ja_cons (je_op oa_add (je_of (x := .int 1) pe_int fun _ _ => .int _) (je_callB ca_len (by rfl) T.b_len (by decide +kernel) (ja_cons (je_var (pv 1)) ja_nil))) (ja_cons (je_of (x := .int 0) pe_int fun _ _ => .int _) ja_nil))))))))))
theorem ok_law_draw (T : Txt K mg a) : OkA P w K mg base 1 a.f_law_draw ["pot", "many"] m_law_draw := by
  exact ok_def0 T.fn_law_draw sc_law_draw rfl rfl (fun _ _ _ _ _ _ us hl => match us, hl with | [_, _], _ => rfl) (fun cdv A outer s H E hr =>
    (jss_cons (js_if (PW.pt (jw_and (jt_cmp (oa_eq hr.u64) (je_ix ixa (je_var (pv 0)) (je_of (x := .int 2) pe_int fun _ _ => .int _)) (je_of (x := .int 0) pe_int fun _ _ => .int _) (nomark _)) (jw_and1 (jt_cmp oa_lt (je_ix ixa (je_var (pv 0)) (je_of (x := .int 1) pe_int fun _ _ => .int _)) (je_callB ca_len (by rfl) T.b_len (by decide +kernel) (ja_cons (je_ix ixa (je_var (pv 0)) (je_of (x := .int 0) pe_int fun _ _ => .int _)) ja_nil)) (nomark _)))))
    (jss_cons (js_set (i := 2) sc_law_draw.nd rfl (by first | exact Or.inl rfl | exact Or.inr rfl) (je_ix ixa (je_ix ixa (je_var (pv 0)) (je_of (x := .int 0) pe_int fun _ _ => .int _)) (je_ix ixa (je_var (pv 0)) (je_of (x := .int 1) pe_int fun _ _ => .int _))))
    (jss_cons (js_put (je_op oa_add (je_ix ixa (je_var (pv 0)) (je_of (x := .int 1) pe_int fun _ _ => .int _)) (je_of (x := .int 1) pe_int fun _ _ => .int _)) (je_var (pv 0)) (je_of (x := .int 1) pe_int fun _ _ => .int _))
    (jss_cons (js_put (je_op oa_mod (je_callTy ca_int (by rfl) T.b_int (by decide +kernel) (ja_cons (je_op oa_add (je_op oa_add (je_op oa_mul (je_ix ixa (je_var (pv 0)) (je_of (x := .int 3) pe_int fun _ _ => .int _)) (je_of (x := .int 69621) pe_int fun _ _ => .int _)) (je_var (pv 2))) (je_of (x := .int 11) pe_int fun _ _ => .int _)) ja_nil)) (je_of (x := .int 2147483629) pe_int fun _ _ => .int _)) (je_var (pv 0)) (je_of (x := .int 3) pe_int fun _ _ => .int _))
    (jss_one (js_if (jt_cmp oa_ge (je_var (pv 2)) (je_op oa_pow (je_of (x := .int 10) pe_int fun _ _ => .int _) (je_of (x := .int 18) pe_int fun _ _ => .int _)) (nomark _))
      (jss_one (js_put (je_var (pv 2)) (je_var (pv 0)) (je_of (x := .int 2) pe_int fun _ _ => .int _)))
      jss_nil)))))
    jss_nil)
  (jss_cons (js_if (jt_cmp oa_gt (je_ix ixa (je_var (pv 0)) (je_of (x := .int 2) pe_int fun _ _ => .int _)) (je_of (x := .int 0) pe_int fun _ _ => .int _) (nomark _))
    (jss_cons (js_set (i := 3) sc_law_draw.nd rfl (by first | exact Or.inl rfl | exact Or.inr rfl) (je_op oa_mod (je_callTy ca_int (by rfl) T.b_int (by decide +kernel) (ja_cons (je_ix ixa (je_var (pv 0)) (je_of (x := .int 2) pe_int fun _ _ => .int _)) ja_nil)) (je_var (pv 1))))
    (jss_cons (js_put (je_op oa_fdiv (je_ix ixa (je_var (pv 0)) (je_of (x := .int 2) pe_int fun _ _ => .int _)) (je_var (pv 1))) (je_var (pv 0)) (je_of (x := .int 2) pe_int fun _ _ => .int _))
    (jss_one (js_ret (je_var (pv 3))))))
    jss_nil)
  (jss_cons (js_put (je_op oa_add (je_ix ixa (je_var (pv 0)) (je_of (x := .int 4) pe_int fun _ _ => .int _)) (je_of (x := .int 1) pe_int fun _ _ => .int _)) (je_var (pv 0)) (je_of (x := .int 4) pe_int fun _ _ => .int _))
  (jss_cons (js_set (i := 4) sc_law_draw.nd rfl (by first | exact Or.inl rfl | exact Or.inr rfl) (je_op oa_mod (je_callTy ca_int (by rfl) T.b_int (by decide +kernel) (ja_cons (je_op oa_mul (je_callTy ca_int (by rfl) T.b_int (by decide +kernel) (ja_cons (je_op oa_add (je_ix ixa (je_var (pv 0)) (je_of (x := .int 3) pe_int fun _ _ => .int _)) (je_op oa_mul (je_of (x := .int 7919) pe_int fun _ _ => .int _) (je_ix ixa (je_var (pv 0)) (je_of (x := .int 4) pe_int fun _ _ => .int _)))) ja_nil)) (je_of (x := .int 48271) pe_int fun _ _ => .int _)) ja_nil)) (je_of (x := .int 2147483647) pe_int fun _ _ => .int _)))
  (jss_cons (js_set (i := 4) sc_law_draw.nd rfl (by first | exact Or.inl rfl | exact Or.inr rfl) (je_op oa_mod (je_callTy ca_int (by rfl) T.b_int (by decide +kernel) (ja_cons (je_op oa_mul (je_var (pv 4)) (je_op oa_add (je_op oa_fdiv (je_var (pv 4)) (je_of (x := .int 1009) pe_int fun _ _ => .int _)) (je_of (x := .int 69621) pe_int fun _ _ => .int _))) ja_nil)) (je_of (x := .int 2147483647) pe_int fun _ _ => .int _)))
  (jss_cons (js_set (i := 4) sc_law_draw.nd rfl (by first | exact Or.inl rfl | exact Or.inr rfl) (je_op oa_mod (je_callTy ca_int (by rfl) T.b_int (by decide +kernel) (ja_cons (je_op oa_mul (je_var (pv 4)) (je_op oa_add (je_op oa_fdiv (je_var (pv 4)) (je_of (x := .int 2003) pe_int fun _ _ => .int _)) (je_of (x := .int 40692) pe_int fun _ _ => .int _))) ja_nil)) (je_of (x := .int 2147483399) pe_int fun _ _ => .int _)))
  (jss_one (js_ret (je_op oa_mod (je_callTy ca_int (by rfl) T.b_int (by decide +kernel) (ja_cons (je_op oa_fdiv (je_var (pv 4)) (je_of (x := .int 16) pe_int fun _ _ => .int _)) ja_nil)) (je_var (pv 1))))))))))))
theorem ok_law_any (T : Txt K mg a) : OkA P w K mg base 2 a.f_law_any ["pot", "things"] m_law_any := by
  exact ok_def0 T.fn_law_any sc_law_any rfl rfl (fun _ _ _ _ _ _ us hl => match us, hl with | [_, _], _ => rfl) (fun cdv A outer s H E hr =>
    (jss_one (js_ret (je_ix ixa (je_var (pv 1)) (je_call (ok_law_draw T) (hr.mono (by decide)) rfl T.g_law_draw (takes_of rfl rfl rfl rfl) (ja_cons (je_var (pv 0)) (ja_cons (je_callB ca_len (by rfl) T.b_len (by decide +kernel) (ja_cons (je_var (pv 1)) ja_nil)) ja_nil)))))))
theorem ok_law_deep (T : Txt K mg a) : OkA P w K mg base 3 a.f_law_deep ["pot"] m_law_deep := by
  exact ok_def0 T.fn_law_deep sc_law_deep rfl rfl (fun _ _ _ _ _ _ us hl => match us, hl with | [_], _ => rfl) (fun cdv A outer s H E hr =>
    (jss_cons (js_set (i := 1) sc_law_deep.nd rfl (by first | exact Or.inl rfl | exact Or.inr rfl) (je_call (ok_law_any T) (hr.mono (by decide)) rfl T.g_law_any (takes_of rfl rfl rfl rfl) (ja_cons (je_var (pv 0)) (ja_cons (je_lst (ja_cons (je_tup ja_nil) (ja_cons (je_of (x := .int 0) pe_int fun _ _ => .int _) (ja_cons (je_of (x := .non) pe_non fun _ _ => .non) (ja_cons (je_of (x := .str (Str.ofString "a")) pe_str fun _ _ => .str _) ja_nil))))) ja_nil))))
  (jss_cons (js_for (passes_of rfl) rfl (ji_range1 (by rfl) T.b_range (ja_cons (je_op oa_add (je_of (x := .int 1) pe_int fun _ _ => .int _) (je_call (ok_law_draw T) (hr.mono (by decide)) rfl T.g_law_draw (takes_of rfl rfl rfl rfl) (ja_cons (je_var (pv 0)) (ja_cons (je_of (x := .int 25) pe_int fun _ _ => .int _) ja_nil)))) ja_nil)) (jg_name (i := 2) sc_law_deep.nd rfl (by first | exact Or.inl rfl | exact Or.inr rfl))
    (jss_one (js_set (i := 1) sc_law_deep.nd rfl (by first | exact Or.inl rfl | exact Or.inr rfl) (je_ix ixa (je_lst (ja_cons (je_tup (ja_cons (je_var (pv 1)) ja_nil)) (ja_cons (je_lst (ja_cons (je_var (pv 1)) ja_nil)) (ja_cons (je_dispV (k := (.inr (Str.ofString "a"))) (i := 1) pe_str (pv 1)) ja_nil)))) (je_call (ok_law_draw T) (hr.mono (by decide)) rfl T.g_law_draw (takes_of rfl rfl rfl rfl) (ja_cons (je_var (pv 0)) (ja_cons (je_of (x := .int 3) pe_int fun _ _ => .int _) ja_nil)))))))
  (jss_one (js_ret (je_var (pv 1)))))))
theorem ok_law_some (T : Txt K mg a) : OkA P w K mg base 2 a.f_law_some ["pot"] m_law_some := by
  exact ok_def0 T.fn_law_some sc_law_some rfl rfl (fun _ _ _ _ _ _ us hl => match us, hl with | [_], _ => rfl) (fun cdv A outer s H E hr =>
    (jss_one (js_ret (je_callTy ca_tuple (by rfl) T.b_tuple (by decide +kernel) (ja_cons (je_lc (own := [("machine", 1)]) rfl sc_law_some.nd (ji_range1 (by rfl) T.b_range (ja_cons (je_of (x := .int 5) pe_int fun _ _ => .int _) ja_nil)) (blkOk_by (own := [("machine", 1)]) (N := N_law_some) (sc := defScope s_law_some) (by decide +kernel)) (fun _ _ _ _ _ => (jg_name (i := 1) sc_law_some.nd rfl (Or.inl rfl))) (fun _ _ _ _ _ => (jts_one (jt_cmp (oa_eq hr.u64) (je_call (ok_law_draw T) (hr.mono (by decide)) rfl T.g_law_draw takesF (ja_cons (je_var (pv 0)) (ja_cons (je_of (x := .int 2) pe_int fun _ _ => .int _) ja_nil))) (je_of (x := .int 0) pe_int fun _ _ => .int _) (nomark _)))) (fun _ _ _ _ _ => (je_var (pv 1)))) ja_nil)))))
theorem ok_law_entry (T : Txt K mg a) : OkA P w K mg base 3 a.f_law_entry ["pot", "many", "me", "some"] m_law_entry := by
  exact ok_def0 T.fn_law_entry sc_law_entry rfl rfl (fun _ _ _ _ _ _ us hl => match us, hl with | [_, _, _, _], _ => rfl) (fun cdv A outer s H E hr =>
    (jss_cons (js_setLc (i := 4) (own := [("machine", 5)]) rfl sc_law_entry.nd rfl rfl (sw_true rfl rfl rfl (by decide +kernel)) (ji_seq (je_var (pv 3))) (blkOk_by (own := [("machine", 5)]) (N := N_law_entry) (sc := defScope s_law_entry) (by decide +kernel)) (fun _ _ _ _ _ => (jg_name (i := 5) sc_law_entry.nd rfl (Or.inl rfl))) (fun _ _ _ _ _ => (jts_one (PW.pt (jw_and (jt_cmp oa_lt (je_var (pv 5)) (je_var (pv 1)) (nomark _)) (jw_and1 (jt_cmp (oa_ne hr.u64) (je_var (pv 5)) (je_var (pv 2)) (nomark _))))))) (fun _ _ _ _ _ => (je_var (pv 5))))
  (jss_one (js_ret (je_ifE (PW.pt (jw_or (jt_cmp (oa_eq hr.u64) (je_callB ca_len (by rfl) T.b_len (by decide +kernel) (ja_cons (je_var (pv 4)) ja_nil)) (je_of (x := .int 0) pe_int fun _ _ => .int _) (nomark _)) (jw_or1 (jt_cmp (oa_eq hr.u64) (je_call (ok_law_draw T) (hr.mono (by decide)) rfl T.g_law_draw (takes_of rfl rfl rfl rfl) (ja_cons (je_var (pv 0)) (ja_cons (je_of (x := .int 2) pe_int fun _ _ => .int _) ja_nil))) (je_of (x := .int 0) pe_int fun _ _ => .int _) (nomark _))))) (je_of (x := .non) pe_non fun _ _ => .non) (je_call (ok_law_any T) (hr.mono (by decide)) rfl T.g_law_any (takes_of rfl rfl rfl rfl) (ja_cons (je_var (pv 0)) (ja_cons (je_var (pv 4)) ja_nil))))))))
theorem ok_law_pattern (T : Txt K mg a) : OkA P w K mg base 4 a.f_law_pattern ["pot", "many", "rounds", "some"] m_law_pattern := by
  exact ok_def0 T.fn_law_pattern sc_law_pattern rfl rfl (fun _ _ _ _ _ _ us hl => match us, hl with | [_, _, _, _], _ => rfl) (fun cdv A outer s H E hr =>
    (jss_cons (js_set (i := 4) sc_law_pattern.nd rfl (by first | exact Or.inl rfl | exact Or.inr rfl) (je_lst ja_nil))
  (jss_cons (js_for (passes_of rfl) rfl (ji_range1 (by rfl) T.b_range (ja_cons (je_var (pv 2)) ja_nil)) (jg_name (i := 5) sc_law_pattern.nd rfl (by first | exact Or.inl rfl | exact Or.inr rfl))
    (jss_one (js_drop (je_bm PySem.F.plainAttrs_list PySem.F.slot_list_append PySem.F.type_list_append ma_append (je_var (pv 4)) (ja_cons (je_callTy ca_tuple (by rfl) T.b_tuple (by decide +kernel) (ja_cons (je_lc (own := [("me", 6)]) rfl sc_law_pattern.nd (ji_range1 (by rfl) T.b_range (ja_cons (je_var (pv 1)) ja_nil)) (blkOk_by (own := [("me", 6)]) (N := N_law_pattern) (sc := defScope s_law_pattern) (by decide +kernel)) (fun _ _ _ _ _ => (jg_name (i := 6) sc_law_pattern.nd rfl (Or.inl rfl))) (fun _ _ _ _ _ => jts_nil) (fun _ _ _ _ _ => (je_call (ok_law_entry T) (hr.mono (by decide)) rfl T.g_law_entry takesF (ja_cons (je_var (pv 0)) (ja_cons (je_var (pv 1)) (ja_cons (je_var (pv 6)) (ja_cons (je_var (pv 3)) ja_nil))))))) ja_nil)) ja_nil) tyL_ok))))
  (jss_one (js_ret (je_callTy ca_tuple (by rfl) T.b_tuple (by decide +kernel) (ja_cons (je_var (pv 4)) ja_nil)))))))
theorem ok_law_bent (T : Txt K mg a) : OkA P w K mg base 4 a.f_law_bent ["pot", "many", "pattern"] m_law_bent := by
  exact ok_def0 T.fn_law_bent sc_law_bent rfl rfl (fun _ _ _ _ _ _ us hl => match us, hl with | [_, _, _], _ => rfl) (fun cdv A outer s H E hr =>
    (jss_cons (js_if (jt_cmp (oa_eq hr.u64) (je_callB ca_len (by rfl) T.b_len (by decide +kernel) (ja_cons (je_var (pv 2)) ja_nil)) (je_of (x := .int 0) pe_int fun _ _ => .int _) (nomark _))
    (jss_cons (js_set (i := 3) sc_law_bent.nd rfl (by first | exact Or.inl rfl | exact Or.inr rfl) (je_op oa_mul (je_tup (ja_cons (je_of (x := .non) pe_non fun _ _ => .non) ja_nil)) (je_var (pv 1))))
    (jss_cons (js_set (i := 4) sc_law_bent.nd rfl (by first | exact Or.inl rfl | exact Or.inr rfl) (je_lst (ja_cons (je_lst ja_nil) (ja_cons (je_of (x := .non) pe_non fun _ _ => .non) (ja_cons (je_of (x := .str (Str.ofString "")) pe_str fun _ _ => .str _) (ja_cons (je_of (x := .int 0) pe_int fun _ _ => .int _) (ja_cons je_dnew (ja_cons (je_tup (ja_cons (je_tup ja_nil) ja_nil)) (ja_cons (je_tup (ja_cons (je_of (x := .non) pe_non fun _ _ => .non) ja_nil)) (ja_cons (je_tup (ja_cons (je_slice sla (je_var (pv 3)) jo_none (jo_some (je_of (x := .int 2) pe_int fun _ _ => .int _))) ja_nil)) (ja_cons (je_tup (ja_cons (je_var (pv 3)) (ja_cons (je_var (pv 3)) ja_nil))) (ja_cons (je_tup (ja_cons (je_callTy ca_list (by rfl) T.b_list (by decide +kernel) (ja_cons (je_var (pv 3)) ja_nil)) ja_nil)) (ja_cons (je_tup (ja_cons (je_tup (ja_cons (je_var (pv 3)) ja_nil)) ja_nil)) ja_nil)))))))))))))
    (jss_one (js_ret (je_call (ok_law_any T) (hr.mono (by decide)) rfl T.g_law_any (takes_of rfl rfl rfl rfl) (ja_cons (je_var (pv 0)) (ja_cons (je_var (pv 4)) ja_nil)))))))
    jss_nil)
  (jss_cons (js_par (i := 5) (j := 6) rfl sc_law_bent.nd rfl rfl (by decide) rfl rfl (ja_cons (je_call (ok_law_draw T) (hr.mono (by decide)) rfl T.g_law_draw (takes_of rfl rfl rfl rfl) (ja_cons (je_var (pv 0)) (ja_cons (je_callB ca_len (by rfl) T.b_len (by decide +kernel) (ja_cons (je_var (pv 2)) ja_nil)) ja_nil))) (ja_cons (je_call (ok_law_draw T) (hr.mono (by decide)) rfl T.g_law_draw (takes_of rfl rfl rfl rfl) (ja_cons (je_var (pv 0)) (ja_cons (je_var (pv 1)) ja_nil))) ja_nil)) (by rfl))
  (jss_cons (js_par (i := 7) (j := 8) rfl sc_law_bent.nd rfl rfl (by decide) rfl rfl (ja_cons (je_callTy ca_list (by rfl) T.b_list (by decide +kernel) (ja_cons (je_ix ixa (je_var (pv 2)) (je_var (pv 5))) ja_nil)) (ja_cons (je_call (ok_law_draw T) (hr.mono (by decide)) rfl T.g_law_draw (takes_of rfl rfl rfl rfl) (ja_cons (je_var (pv 0)) (ja_cons (je_of (x := .int 9) pe_int fun _ _ => .int _) ja_nil))) ja_nil)) (by rfl))
  (jss_cons (js_if (jt_cmp oa_lt (je_var (pv 8)) (je_of (x := .int 4) pe_int fun _ _ => .int _) (nomark _))
    (jss_one (js_put (je_op oa_mod (je_callTy ca_int (by rfl) T.b_int (by decide +kernel) (ja_cons (je_op oa_add (je_op oa_add (je_var (pv 6)) (je_of (x := .int 1) pe_int fun _ _ => .int _)) (je_call (ok_law_draw T) (hr.mono (by decide)) rfl T.g_law_draw (takes_of rfl rfl rfl rfl) (ja_cons (je_var (pv 0)) (ja_cons (je_op oa_sub (je_var (pv 1)) (je_of (x := .int 1) pe_int fun _ _ => .int _)) ja_nil)))) ja_nil)) (je_var (pv 1))) (je_var (pv 7)) (je_var (pv 6))))
    (jss_one (js_if (jt_cmp (oa_eq hr.u64) (je_var (pv 8)) (je_of (x := .int 4) pe_int fun _ _ => .int _) (nomark _))
      (jss_one (js_put (je_call (ok_law_any T) (hr.mono (by decide)) rfl T.g_law_any (takes_of rfl rfl rfl rfl) (ja_cons (je_var (pv 0)) (ja_cons (je_lst (ja_cons (je_var (pv 6)) (ja_cons (je_var (pv 1)) (ja_cons (je_of (x := .int 7) pe_int fun _ _ => .int _) (ja_cons (je_un ua_neg (je_of (x := .int 1) pe_int fun _ _ => .int _)) (ja_cons (je_of (x := .bl true) pe_bl fun _ _ => .bl _) (ja_cons (je_of (x := .bl false) pe_bl fun _ _ => .bl _) (ja_cons (je_of (x := .str (Str.ofString "0")) pe_str fun _ _ => .str _) (ja_cons (je_tup (ja_cons (je_of (x := .int 0) pe_int fun _ _ => .int _) ja_nil)) (ja_cons (je_lst (ja_cons (je_of (x := .int 0) pe_int fun _ _ => .int _) ja_nil)) (ja_cons je_dnew (ja_cons (je_op oa_pow (je_of (x := .int 10) pe_int fun _ _ => .int _) (je_of (x := .int 50) pe_int fun _ _ => .int _)) (ja_cons (je_call (ok_law_deep T) (hr.mono (by decide)) rfl T.g_law_deep (takes_of rfl rfl rfl rfl) (ja_cons (je_var (pv 0)) ja_nil)) ja_nil))))))))))))) ja_nil))) (je_var (pv 7)) (je_var (pv 6))))
      (jss_one (js_if (jt_cmp (oa_eq hr.u64) (je_var (pv 8)) (je_of (x := .int 5) pe_int fun _ _ => .int _) (nomark _))
        (jss_cons (js_set (i := 9) sc_law_bent.nd rfl (by first | exact Or.inl rfl | exact Or.inr rfl) (je_call (ok_law_any T) (hr.mono (by decide)) rfl T.g_law_any (takes_of rfl rfl rfl rfl) (ja_cons (je_var (pv 0)) (ja_cons (je_lst (ja_cons (je_callTy ca_tuple (by rfl) T.b_tuple (by decide +kernel) (ja_cons (je_slice sla (je_var (pv 7)) (jo_some (je_of (x := .int 1) pe_int fun _ _ => .int _)) jo_none) ja_nil)) (ja_cons (je_op oa_add (je_callTy ca_tuple (by rfl) T.b_tuple (by decide +kernel) (ja_cons (je_var (pv 7)) ja_nil)) (je_tup (ja_cons (je_of (x := .non) pe_non fun _ _ => .non) ja_nil))) (ja_cons (je_callTy ca_list (by rfl) T.b_list (by decide +kernel) (ja_cons (je_var (pv 7)) ja_nil)) (ja_cons (je_of (x := .non) pe_non fun _ _ => .non) (ja_cons (je_tup ja_nil) (ja_cons (je_op oa_mul (je_callTy ca_tuple (by rfl) T.b_tuple (by decide +kernel) (ja_cons (je_var (pv 7)) ja_nil)) (je_of (x := .int 2) pe_int fun _ _ => .int _)) (ja_cons (je_of (x := .str (Str.ofString "abc")) pe_str fun _ _ => .str _) ja_nil)))))))) ja_nil))))
        (jss_one (js_ret (je_op oa_add (je_op oa_add (je_slice sla (je_var (pv 2)) jo_none (jo_some (je_var (pv 5)))) (je_tup (ja_cons (je_var (pv 9)) ja_nil))) (je_slice sla (je_var (pv 2)) (jo_some (je_op oa_add (je_var (pv 5)) (je_of (x := .int 1) pe_int fun _ _ => .int _))) jo_none)))))
        (jss_one (js_if (jt_cmp (oa_eq hr.u64) (je_var (pv 8)) (je_of (x := .int 6) pe_int fun _ _ => .int _) (nomark _))
          (jss_cons (js_set (i := 10) sc_law_bent.nd rfl (by first | exact Or.inl rfl | exact Or.inr rfl) (je_op oa_add (je_var (pv 2)) (je_tup (ja_cons (je_op oa_mul (je_tup (ja_cons (je_of (x := .non) pe_non fun _ _ => .non) ja_nil)) (je_op oa_add (je_var (pv 1)) (je_of (x := .int 1) pe_int fun _ _ => .int _))) ja_nil))))
          (jss_one (js_ret (je_call (ok_law_any T) (hr.mono (by decide)) rfl T.g_law_any (takes_of rfl rfl rfl rfl) (ja_cons (je_var (pv 0)) (ja_cons (je_lst (ja_cons (je_callTy ca_list (by rfl) T.b_list (by decide +kernel) (ja_cons (je_var (pv 2)) ja_nil)) (ja_cons (je_op oa_add (je_var (pv 2)) (je_tup (ja_cons (je_of (x := .non) pe_non fun _ _ => .non) ja_nil))) (ja_cons (je_var (pv 10)) (ja_cons (je_tup (ja_cons (je_var (pv 2)) ja_nil)) (ja_cons (je_ix ixa (je_var (pv 2)) (je_of (x := .int 0) pe_int fun _ _ => .int _)) ja_nil)))))) ja_nil))))))
          (jss_one (js_if (jt_cmp (oa_eq hr.u64) (je_var (pv 8)) (je_of (x := .int 7) pe_int fun _ _ => .int _) (nomark _))
            (jss_one (js_ret (je_slice sla (je_op oa_mul (je_var (pv 2)) (je_of (x := .int 31) pe_int fun _ _ => .int _)) jo_none (jo_some (je_op oa_add (je_of (x := .int 30) pe_int fun _ _ => .int _) (je_call (ok_law_draw T) (hr.mono (by decide)) rfl T.g_law_draw (takes_of rfl rfl rfl rfl) (ja_cons (je_var (pv 0)) (ja_cons (je_of (x := .int 2) pe_int fun _ _ => .int _) ja_nil))))))))
            (jss_one (js_ret (je_op oa_add (je_rev (je_var (pv 2))) (je_slice sla (je_var (pv 2)) jo_none (jo_some (je_of (x := .int 1) pe_int fun _ _ => .int _)))))))))))))))
  (jss_one (js_ret (je_op oa_add (je_op oa_add (je_slice sla (je_var (pv 2)) jo_none (jo_some (je_var (pv 5)))) (je_tup (ja_cons (je_callTy ca_tuple (by rfl) T.b_tuple (by decide +kernel) (ja_cons (je_var (pv 7)) ja_nil)) ja_nil))) (je_slice sla (je_var (pv 2)) (jo_some (je_op oa_add (je_var (pv 5)) (je_of (x := .int 1) pe_int fun _ _ => .int _))) jo_none)))))))))
theorem ok_law_is_int (T : Txt K mg a) : OkA P w K mg base 1 a.f_law_is_int ["thing", "least", "most"] m_law_is_int := by
  exact ok_def0 T.fn_law_is_int sc_law_is_int rfl rfl (fun _ _ _ _ _ _ us hl => match us, hl with | [_, _, _], _ => rfl) (fun cdv A outer s H E hr =>
    (jss_one (js_ret (je_andV (je_callB ca_isi (by rfl) T.b_isinstance (by decide +kernel) (ja_cons (je_var (pv 0)) (ja_cons (je_of (x := .ty "int") (pe_bltn (v := .ty "int") (u := .type "int") (by rfl) T.b_int (by decide +kernel) rfl) fun _ _ => .ty _) ja_nil))) (je_andV (je_notV (je_callB ca_isi (by rfl) T.b_isinstance (by decide +kernel) (ja_cons (je_var (pv 0)) (ja_cons (je_of (x := .ty "bool") (pe_bltn (v := .ty "bool") (u := .type "bool") (by rfl) T.b_bool (by decide +kernel) rfl) fun _ _ => .ty _) ja_nil)))) (je_one (je_chain oa_le oa_le (je_var (pv 1)) (je_var (pv 0)) (je_var (pv 2)))))))))
theorem ok_law_is_lot (T : Txt K mg a) : OkA P w K mg base 2 a.f_law_is_lot ["thing"] m_law_is_lot := by
  exact ok_def0 T.fn_law_is_lot sc_law_is_lot rfl rfl (fun _ _ _ _ _ _ us hl => match us, hl with | [_], _ => rfl) (fun cdv A outer s H E hr =>
    (jss_cons (js_if (PW.pt (jw_or (jt_not (jt_val (je_callB ca_isi (by rfl) T.b_isinstance (by decide +kernel) (ja_cons (je_var (pv 0)) (ja_cons (je_of (x := .ty "tuple") (pe_bltn (v := .ty "tuple") (u := .type "tuple") (by rfl) T.b_tuple (by decide +kernel) rfl) fun _ _ => .ty _) ja_nil))))) (jw_or1 (jt_not (jt_val (je_callB (ca_all rfl) (by rfl) T.b_all (by decide +kernel) (ja_cons (je_lc (own := [("item", 1)]) rfl sc_law_is_lot.nd (ji_seq (je_var (pv 0))) (blkOk_by (own := [("item", 1)]) (N := N_law_is_lot) (sc := defScope s_law_is_lot) (by decide +kernel)) (fun _ _ _ _ _ => (jg_name (i := 1) sc_law_is_lot.nd rfl (Or.inl rfl))) (fun _ _ _ _ _ => jts_nil) (fun _ _ _ _ _ => (je_call (ok_law_is_int T) (hr.mono (by decide)) rfl T.g_law_is_int takesF (ja_cons (je_var (pv 1)) (ja_cons (je_of (x := .int 0) pe_int fun _ _ => .int _) (ja_cons (je_of (x := .int 4) pe_int fun _ _ => .int _) ja_nil)))))) ja_nil)))))))
    (jss_one (js_ret (je_of (x := .bl false) pe_bl fun _ _ => .bl _)))
    jss_nil)
  (jss_one (js_ret (je_callB (ca_all rfl) (by rfl) T.b_all (by decide +kernel) (ja_cons (je_lc (own := [("one", 2), ("other", 3)]) rfl sc_law_is_lot.nd (ji_zip (by rfl) T.b_zip (ja_cons (je_var (pv 0)) (ja_cons (je_slice sla (je_var (pv 0)) (jo_some (je_of (x := .int 1) pe_int fun _ _ => .int _)) jo_none) ja_nil))) (blkOk_by (own := [("one", 2), ("other", 3)]) (N := N_law_is_lot) (sc := defScope s_law_is_lot) (by decide +kernel)) (fun _ _ _ _ _ => (jg_tup (n := 2) rfl (jgs_cons (jg_name (i := 2) sc_law_is_lot.nd rfl (Or.inl rfl)) (jgs_cons (jg_name (i := 3) sc_law_is_lot.nd rfl (Or.inl rfl)) jgs_nil)) (fun _ _ _ h => gCs_len (fun _ _ _ h => gCs_len (fun _ _ _ h => gNl_len h) h) h))) (fun _ _ _ _ _ => jts_nil) (fun _ _ _ _ _ => (je_cmp oa_lt (je_var (pv 2)) (je_var (pv 3)) (nomark _)))) ja_nil))))))
theorem ok_law_is_row (T : Txt K mg a) : OkA P w K mg base 2 a.f_law_is_row ["thing", "many", "some"] m_law_is_row := by
  exact ok_def0 T.fn_law_is_row sc_law_is_row rfl rfl (fun _ _ _ _ _ _ us hl => match us, hl with | [_, _, _], _ => rfl) (fun cdv A outer s H E hr =>
    (jss_cons (js_if (PW.pt (jw_or (jt_not (jt_val (je_callB ca_isi (by rfl) T.b_isinstance (by decide +kernel) (ja_cons (je_var (pv 0)) (ja_cons (je_of (x := .ty "tuple") (pe_bltn (v := .ty "tuple") (u := .type "tuple") (by rfl) T.b_tuple (by decide +kernel) rfl) fun _ _ => .ty _) ja_nil))))) (jw_or1 (jt_cmp (oa_ne hr.u64) (je_callB ca_len (by rfl) T.b_len (by decide +kernel) (ja_cons (je_var (pv 0)) ja_nil)) (je_var (pv 1)) (nomark _)))))
    (jss_one (js_ret (je_of (x := .bl false) pe_bl fun _ _ => .bl _)))
    jss_nil)
  (jss_cons (js_for (passes_of rfl) rfl (ji_range1 (by rfl) T.b_range (ja_cons (je_var (pv 1)) ja_nil)) (jg_name (i := 3) sc_law_is_row.nd rfl (by first | exact Or.inl rfl | exact Or.inr rfl))
    (jss_one (js_if (PW.pt (jw_and (jt_cmp oa_isNot (je_ix ixa (je_var (pv 0)) (je_var (pv 3))) (je_of (x := .non) pe_non fun _ _ => .non) (nomark _)) (jw_and1 (PW.pt (jw_or (jt_not (jt_val (je_call (ok_law_is_int T) (hr.mono (by decide)) rfl T.g_law_is_int (takes_of rfl rfl rfl rfl) (ja_cons (je_ix ixa (je_var (pv 0)) (je_var (pv 3))) (ja_cons (je_of (x := .int 0) pe_int fun _ _ => .int _) (ja_cons (je_op oa_sub (je_var (pv 1)) (je_of (x := .int 1) pe_int fun _ _ => .int _)) ja_nil)))))) (jw_or1 (jt_cmp (oa_eq hr.u64) (je_ix ixa (je_var (pv 0)) (je_var (pv 3))) (je_var (pv 3)) (nomark _))))))))
      (jss_one (js_ret (je_of (x := .bl false) pe_bl fun _ _ => .bl _)))
      jss_nil)))
  (jss_one (js_ret (je_callB (ca_all rfl) (by rfl) T.b_all (by decide +kernel) (ja_cons (je_lc (own := [("missed", 4)]) rfl sc_law_is_row.nd (ji_seq (je_var (pv 0))) (blkOk_by (own := [("missed", 4)]) (N := N_law_is_row) (sc := defScope s_law_is_row) (by decide +kernel)) (fun _ _ _ _ _ => (jg_name (i := 4) sc_law_is_row.nd rfl (Or.inl rfl))) (fun _ _ _ _ _ => jts_nil) (fun _ _ _ _ _ => (je_orV (je_cmp oa_is (je_var (pv 4)) (je_of (x := .non) pe_non fun _ _ => .non) (nomark _)) (je_one (je_cmp (oa_in hr.u65) (je_var (pv 4)) (je_var (pv 2)) (by rfl)))))) ja_nil)))))))
theorem ok_law_is_sparing (T : Txt K mg a) : OkA P w K mg base 3 a.f_law_is_sparing ["some", "thing"] m_law_is_sparing := by
  exact ok_def0 T.fn_law_is_sparing sc_law_is_sparing rfl rfl (fun _ _ _ _ _ _ us hl => match us, hl with | [_, _], _ => rfl) (fun cdv A outer s H E hr =>
    (jss_cons (js_if (PW.pt (jw_or (jt_not (jt_val (je_callB ca_isi (by rfl) T.b_isinstance (by decide +kernel) (ja_cons (je_var (pv 1)) (ja_cons (je_of (x := .ty "tuple") (pe_bltn (v := .ty "tuple") (u := .type "tuple") (by rfl) T.b_tuple (by decide +kernel) rfl) fun _ _ => .ty _) ja_nil))))) (jw_or1 (jt_cmp oa_gt (je_callB ca_len (by rfl) T.b_len (by decide +kernel) (ja_cons (je_var (pv 1)) ja_nil)) (je_of (x := .int 30) pe_int fun _ _ => .int _) (nomark _)))))
    (jss_one (js_ret (je_of (x := .bl false) pe_bl fun _ _ => .bl _)))
    jss_nil)
  (jss_cons (js_for (passes_of rfl) rfl (ji_seq (je_lst (ja_cons (je_of (x := .int 3) pe_int fun _ _ => .int _) (ja_cons (je_of (x := .int 4) pe_int fun _ _ => .int _) (ja_cons (je_of (x := .int 5) pe_int fun _ _ => .int _) ja_nil))))) (jg_name (i := 2) sc_law_is_sparing.nd rfl (by first | exact Or.inl rfl | exact Or.inr rfl))
    (jss_one (js_if (jt_val (je_callB (ca_all rfl) (by rfl) T.b_all (by decide +kernel) (ja_cons (je_lc (own := [("row", 3)]) rfl sc_law_is_sparing.nd (ji_seq (je_var (pv 1))) (blkOk_by (own := [("row", 3)]) (N := N_law_is_sparing) (sc := defScope s_law_is_sparing) (by decide +kernel)) (fun _ _ _ _ _ => (jg_name (i := 3) sc_law_is_sparing.nd rfl (Or.inl rfl))) (fun _ _ _ _ _ => jts_nil) (fun _ _ _ _ _ => (je_call (ok_law_is_row T) (hr.mono (by decide)) rfl T.g_law_is_row takesF (ja_cons (je_var (pv 3)) (ja_cons (je_var (pv 2)) (ja_cons (je_var (pv 0)) ja_nil)))))) ja_nil)))
      (jss_one (js_ret (je_of (x := .bl true) pe_bl fun _ _ => .bl _)))
      jss_nil)))
  (jss_one (js_ret (je_of (x := .bl false) pe_bl fun _ _ => .bl _))))))
theorem ok_law_told (T : Txt K mg a) : OkA P w K mg base 8 a.f_law_told ["some", "thing"] (m_law_told mg) := by
  exact ok_def0 T.fn_law_told sc_law_told rfl rfl (fun _ _ _ _ _ _ us hl => match us, hl with | [_, _], _ => rfl) (fun cdv A outer s H E hr =>
    (jss_one (js_try (mha := fun a => (mRet (mTup (mCons (mIfE (mAnd (mNot (mTru (mIsE 2 a false))) (mTru (mIsE 2 a true))) (mC (.str (Str.ofString "lot"))) (mC (.str (Str.ofString "other")))) (mCons (mC .non) mNil))))) T.e_NoLot rfl rfl sc_law_told.nd rfl rfl (by rfl) T.y_NoLot (fun W pn xe htk =>
    (jss_one (js_ret (je_tup (ja_cons (je_of (x := .str (Str.ofString "let")) pe_str fun _ _ => .str _) (ja_cons (je_call (ok_is_sparing T) (hr.mono (by decide)) rfl T.g_is_sparing htk (ja_cons (je_var (pv 0)) (ja_cons (je_var (pv 1)) ja_nil))) ja_nil)))))) (fun ea oe pn zc hv =>
    (jss_one (js_ret (je_tup (ja_cons (je_ifE (PW.pt (jw_and (jt_not (jt_val (je_isEt (vs := [.ref a.C_NoMachine, .ref a.C_NoPattern]) T.x_NoLot zc hv (by rfl) T.b_isinstance (by decide +kernel) (pv 2) (pa_cons (pe_glob (v := .ref a.C_NoMachine) (by rfl) T.e_NoMachine.g rfl) (pa_cons (pe_glob (v := .ref a.C_NoPattern) (by rfl) T.e_NoPattern.g rfl) pa_nil)) (fun _ _ _ q => q) (by simp [sizeLine_eq]) (.cons Cls1.ref (.cons Cls1.ref .nil)) T.i_NoLot_NoMachine_NoPattern))) (jw_and1 (jt_val (je_isE T.x_NoLot zc hv (by rfl) T.b_isinstance (by decide +kernel) (pv 2) (pe_bltn (v := .ty "ValueError") (u := .type "ValueError") (by rfl) T.b_ValueError (by decide +kernel) rfl) Cls1.ty T.i_NoLot_ValueError))))) (je_of (x := .str (Str.ofString "lot")) pe_str fun _ _ => .str _) (je_of (x := .str (Str.ofString "other")) pe_str fun _ _ => .str _)) (ja_cons (je_of (x := .non) pe_non fun _ _ => .non) ja_nil)))))) (by intro ea env A h; simp [mRet, mTup, mCons, mNil, mIfE, mAnd, mOr, mNot, mTru, mB, mC, mSeq, mPass, mIsE_at h, mAndV, mOrV, mNotV, truth, sizeLine_eq]))))
theorem ok_law (T : Txt K mg a) : OkA P w K mg base 9 a.f_law ["script"] (m_law mg) := by
  exact ok_def0 T.fn_law sc_law rfl rfl (fun _ _ _ _ _ _ us hl => match us, hl with | [_], _ => rfl) (fun cdv A outer s H E hr =>
    (jss_cons (js_set (i := 1) sc_law.nd rfl (by first | exact Or.inl rfl | exact Or.inr rfl) (je_call (ok_law_pot T) (hr.mono (by decide)) rfl T.g_law_pot (takes_of rfl rfl rfl rfl) (ja_cons (je_var (pv 0)) ja_nil)))
  (jss_cons (js_for (passes_of rfl) rfl (ji_range1 (by rfl) T.b_range (ja_cons (je_of (x := .int 10) pe_int fun _ _ => .int _) ja_nil)) (jg_name (i := 2) sc_law.nd rfl (by first | exact Or.inl rfl | exact Or.inr rfl))
    (jss_cons (js_par3 (i := 3) (j := 4) (l := 5) rfl sc_law.nd rfl rfl rfl (by decide) (by decide) (by decide) rfl rfl rfl (ja_cons (je_op oa_add (je_of (x := .int 3) pe_int fun _ _ => .int _) (je_call (ok_law_draw T) (hr.mono (by decide)) rfl T.g_law_draw (takes_of rfl rfl rfl rfl) (ja_cons (je_var (pv 1)) (ja_cons (je_of (x := .int 3) pe_int fun _ _ => .int _) ja_nil)))) (ja_cons (je_call (ok_law_any T) (hr.mono (by decide)) rfl T.g_law_any (takes_of rfl rfl rfl rfl) (ja_cons (je_var (pv 1)) (ja_cons (je_lst (ja_cons (je_of (x := .int 0) pe_int fun _ _ => .int _) (ja_cons (je_of (x := .int 1) pe_int fun _ _ => .int _) (ja_cons (je_of (x := .int 2) pe_int fun _ _ => .int _) (ja_cons (je_of (x := .int 2) pe_int fun _ _ => .int _) (ja_cons (je_of (x := .int 5) pe_int fun _ _ => .int _) (ja_cons (je_of (x := .int 30) pe_int fun _ _ => .int _) ja_nil))))))) ja_nil))) (ja_cons (je_call (ok_law_some T) (hr.mono (by decide)) rfl T.g_law_some (takes_of rfl rfl rfl rfl) (ja_cons (je_var (pv 1)) ja_nil)) ja_nil))) (by rfl))
    (jss_cons (js_set (i := 6) sc_law.nd rfl (by first | exact Or.inl rfl | exact Or.inr rfl) (je_call (ok_law_pattern T) (hr.mono (by decide)) rfl T.g_law_pattern (takes_of rfl rfl rfl rfl) (ja_cons (je_var (pv 1)) (ja_cons (je_var (pv 3)) (ja_cons (je_var (pv 4)) (ja_cons (je_var (pv 5)) ja_nil))))))
    (jss_cons (js_if (jt_cmp (oa_ne hr.u64) (je_callB (ca_repr hr.g hr.u64) (by rfl) T.b_repr (by decide +kernel) (ja_cons (je_call (ok_law_told T) (hr.mono (by decide)) rfl T.g_law_told (takes_of rfl rfl rfl rfl) (ja_cons (je_var (pv 5)) (ja_cons (je_var (pv 6)) ja_nil))) ja_nil)) (je_callB (ca_repr hr.g hr.u64) (by rfl) T.b_repr (by decide +kernel) (ja_cons (je_tup (ja_cons (je_of (x := .str (Str.ofString "let")) pe_str fun _ _ => .str _) (ja_cons (je_of (x := .bl true) pe_bl fun _ _ => .bl _) ja_nil))) ja_nil)) (nomark _))
      (jss_one (js_ret (je_of (x := .bl false) pe_bl fun _ _ => .bl _)))
      jss_nil)
    (jss_cons (js_for (passes_of rfl) rfl (ji_range1 (by rfl) T.b_range (ja_cons (je_call (ok_law_draw T) (hr.mono (by decide)) rfl T.g_law_draw (takes_of rfl rfl rfl rfl) (ja_cons (je_var (pv 1)) (ja_cons (je_of (x := .int 3) pe_int fun _ _ => .int _) ja_nil))) ja_nil)) (jg_name (i := 7) sc_law.nd rfl (by first | exact Or.inl rfl | exact Or.inr rfl))
      (jss_cons (js_set (i := 8) sc_law.nd rfl (by first | exact Or.inl rfl | exact Or.inr rfl) (je_call (ok_law_bent T) (hr.mono (by decide)) rfl T.g_law_bent (takes_of rfl rfl rfl rfl) (ja_cons (je_var (pv 1)) (ja_cons (je_var (pv 3)) (ja_cons (je_var (pv 6)) ja_nil)))))
      (jss_one (js_if (jt_cmp (oa_ne hr.u64) (je_callB (ca_repr hr.g hr.u64) (by rfl) T.b_repr (by decide +kernel) (ja_cons (je_call (ok_law_told T) (hr.mono (by decide)) rfl T.g_law_told (takes_of rfl rfl rfl rfl) (ja_cons (je_var (pv 5)) (ja_cons (je_var (pv 8)) ja_nil))) ja_nil)) (je_callB (ca_repr hr.g hr.u64) (by rfl) T.b_repr (by decide +kernel) (ja_cons (je_tup (ja_cons (je_of (x := .str (Str.ofString "let")) pe_str fun _ _ => .str _) (ja_cons (je_call (ok_law_is_sparing T) (hr.mono (by decide)) rfl T.g_law_is_sparing (takes_of rfl rfl rfl rfl) (ja_cons (je_var (pv 5)) (ja_cons (je_var (pv 8)) ja_nil))) ja_nil))) ja_nil)) (nomark _))
        (jss_one (js_ret (je_of (x := .bl false) pe_bl fun _ _ => .bl _)))
        jss_nil))))
    (jss_cons (js_set (i := 9) sc_law.nd rfl (by first | exact Or.inl rfl | exact Or.inr rfl) (je_lst (ja_cons (je_rev (je_var (pv 5))) (ja_cons (je_op oa_add (je_var (pv 5)) (je_tup (ja_cons (je_of (x := .int 5) pe_int fun _ _ => .int _) ja_nil))) (ja_cons (je_op oa_add (je_var (pv 5)) (je_slice sla (je_var (pv 5)) (jo_some (je_un ua_neg (je_of (x := .int 1) pe_int fun _ _ => .int _))) jo_none)) (ja_cons (je_callTy ca_list (by rfl) T.b_list (by decide +kernel) (ja_cons (je_var (pv 5)) ja_nil)) (ja_cons (je_op oa_add (je_tup (ja_cons (je_un ua_neg (je_of (x := .int 1) pe_int fun _ _ => .int _)) ja_nil)) (je_var (pv 5))) (ja_cons (je_tup (ja_cons (je_of (x := .bl true) pe_bl fun _ _ => .bl _) ja_nil)) (ja_cons (je_tup (ja_cons (je_of (x := .bl false) pe_bl fun _ _ => .bl _) (ja_cons (je_of (x := .int 1) pe_int fun _ _ => .int _) ja_nil))) (ja_cons (je_tup (ja_cons (je_of (x := .str (Str.ofString "0")) pe_str fun _ _ => .str _) ja_nil)) ja_nil))))))))))
    (jss_cons (js_set (i := 9) sc_law.nd rfl (by first | exact Or.inl rfl | exact Or.inr rfl) (je_call (ok_law_any T) (hr.mono (by decide)) rfl T.g_law_any (takes_of rfl rfl rfl rfl) (ja_cons (je_var (pv 1)) (ja_cons (je_op oa_add (je_var (pv 9)) (je_lst (ja_cons (je_of (x := .non) pe_non fun _ _ => .non) (ja_cons (je_of (x := .int 3) pe_int fun _ _ => .int _) (ja_cons (je_of (x := .str (Str.ofString "")) pe_str fun _ _ => .str _) (ja_cons (je_of (x := .str (Str.ofString "01")) pe_str fun _ _ => .str _) (ja_cons je_dnew (ja_cons (je_dispC (k := (.inl 0)) (v := .int 1) (x := .int 1) pe_int pe_int fun _ _ => .int _) (ja_cons (je_tup (ja_cons (je_tup (ja_cons (je_of (x := .int 0) pe_int fun _ _ => .int _) ja_nil)) ja_nil)) (ja_cons (je_tup (ja_cons (je_of (x := .int 0) pe_int fun _ _ => .int _) (ja_cons (je_of (x := .non) pe_non fun _ _ => .non) ja_nil))) (ja_cons (je_call (ok_law_deep T) (hr.mono (by decide)) rfl T.g_law_deep (takes_of rfl rfl rfl rfl) (ja_cons (je_var (pv 1)) ja_nil)) (ja_cons (je_tup (ja_cons (je_op oa_pow (je_of (x := .int 10) pe_int fun _ _ => .int _) (je_of (x := .int 30) pe_int fun _ _ => .int _)) ja_nil)) ja_nil)))))))))))) ja_nil))))
    (jss_cons (js_set (i := 10) sc_law.nd rfl (by first | exact Or.inl rfl | exact Or.inr rfl) (je_ifE (jt_val (je_call (ok_law_is_lot T) (hr.mono (by decide)) rfl T.g_law_is_lot (takes_of rfl rfl rfl rfl) (ja_cons (je_var (pv 9)) ja_nil))) (je_tup (ja_cons (je_of (x := .str (Str.ofString "let")) pe_str fun _ _ => .str _) (ja_cons (je_call (ok_law_is_sparing T) (hr.mono (by decide)) rfl T.g_law_is_sparing (takes_of rfl rfl rfl rfl) (ja_cons (je_var (pv 9)) (ja_cons (je_var (pv 6)) ja_nil))) ja_nil))) (je_tup (ja_cons (je_of (x := .str (Str.ofString "lot")) pe_str fun _ _ => .str _) (ja_cons (je_of (x := .non) pe_non fun _ _ => .non) ja_nil)))))
    (jss_cons (js_if (jt_cmp (oa_ne hr.u64) (je_callB (ca_repr hr.g hr.u64) (by rfl) T.b_repr (by decide +kernel) (ja_cons (je_call (ok_law_told T) (hr.mono (by decide)) rfl T.g_law_told (takes_of rfl rfl rfl rfl) (ja_cons (je_var (pv 9)) (ja_cons (je_var (pv 6)) ja_nil))) ja_nil)) (je_callB (ca_repr hr.g hr.u64) (by rfl) T.b_repr (by decide +kernel) (ja_cons (je_var (pv 10)) ja_nil)) (nomark _))
      (jss_one (js_ret (je_of (x := .bl false) pe_bl fun _ _ => .bl _)))
      jss_nil)
    (jss_one (js_if (PW.pt (jw_and (jt_not (jt_val (je_call (ok_law_is_lot T) (hr.mono (by decide)) rfl T.g_law_is_lot (takes_of rfl rfl rfl rfl) (ja_cons (je_var (pv 9)) ja_nil)))) (jw_and1 (jt_cmp (oa_ne hr.u64) (je_call (ok_law_told T) (hr.mono (by decide)) rfl T.g_law_told (takes_of rfl rfl rfl rfl) (ja_cons (je_var (pv 9)) (ja_cons (je_call (ok_law_bent T) (hr.mono (by decide)) rfl T.g_law_bent (takes_of rfl rfl rfl rfl) (ja_cons (je_var (pv 1)) (ja_cons (je_var (pv 3)) (ja_cons (je_var (pv 6)) ja_nil)))) ja_nil))) (je_tup (ja_cons (je_of (x := .str (Str.ofString "lot")) pe_str fun _ _ => .str _) (ja_cons (je_of (x := .non) pe_non fun _ _ => .non) ja_nil))) (nomark _)))))
      (jss_one (js_ret (je_of (x := .bl false) pe_bl fun _ _ => .bl _)))
      jss_nil)))))))))))
  (jss_one (js_ret (je_of (x := .bl true) pe_bl fun _ _ => .bl _))))))
theorem okfn_law (T : Txt K mg a) {fd : FuncData} (F : Fun K "law" "law" s_law a.f_law fd) : FnG P w K mg base (L2.CX P w) 9 a.f_law fd ["script"] (spA K 1 (m_law mg)) := by
  exact (ok_defF0 F sc_law rfl rfl (fun _ _ _ _ _ _ us hl => match us, hl with | [_], _ => rfl) (fun cdv A outer s H E hr =>
    (jss_cons (js_set (i := 1) sc_law.nd rfl (by first | exact Or.inl rfl | exact Or.inr rfl) (je_call (ok_law_pot T) (hr.mono (by decide)) rfl T.g_law_pot (takes_of rfl rfl rfl rfl) (ja_cons (je_var (pv 0)) ja_nil)))
  (jss_cons (js_for (passes_of rfl) rfl (ji_range1 (by rfl) T.b_range (ja_cons (je_of (x := .int 10) pe_int fun _ _ => .int _) ja_nil)) (jg_name (i := 2) sc_law.nd rfl (by first | exact Or.inl rfl | exact Or.inr rfl))
    (jss_cons (js_par3 (i := 3) (j := 4) (l := 5) rfl sc_law.nd rfl rfl rfl (by decide) (by decide) (by decide) rfl rfl rfl (ja_cons (je_op oa_add (je_of (x := .int 3) pe_int fun _ _ => .int _) (je_call (ok_law_draw T) (hr.mono (by decide)) rfl T.g_law_draw (takes_of rfl rfl rfl rfl) (ja_cons (je_var (pv 1)) (ja_cons (je_of (x := .int 3) pe_int fun _ _ => .int _) ja_nil)))) (ja_cons (je_call (ok_law_any T) (hr.mono (by decide)) rfl T.g_law_any (takes_of rfl rfl rfl rfl) (ja_cons (je_var (pv 1)) (ja_cons (je_lst (ja_cons (je_of (x := .int 0) pe_int fun _ _ => .int _) (ja_cons (je_of (x := .int 1) pe_int fun _ _ => .int _) (ja_cons (je_of (x := .int 2) pe_int fun _ _ => .int _) (ja_cons (je_of (x := .int 2) pe_int fun _ _ => .int _) (ja_cons (je_of (x := .int 5) pe_int fun _ _ => .int _) (ja_cons (je_of (x := .int 30) pe_int fun _ _ => .int _) ja_nil))))))) ja_nil))) (ja_cons (je_call (ok_law_some T) (hr.mono (by decide)) rfl T.g_law_some (takes_of rfl rfl rfl rfl) (ja_cons (je_var (pv 1)) ja_nil)) ja_nil))) (by rfl))
    (jss_cons (js_set (i := 6) sc_law.nd rfl (by first | exact Or.inl rfl | exact Or.inr rfl) (je_call (ok_law_pattern T) (hr.mono (by decide)) rfl T.g_law_pattern (takes_of rfl rfl rfl rfl) (ja_cons (je_var (pv 1)) (ja_cons (je_var (pv 3)) (ja_cons (je_var (pv 4)) (ja_cons (je_var (pv 5)) ja_nil))))))
    (jss_cons (js_if (jt_cmp (oa_ne hr.u64) (je_callB (ca_repr hr.g hr.u64) (by rfl) T.b_repr (by decide +kernel) (ja_cons (je_call (ok_law_told T) (hr.mono (by decide)) rfl T.g_law_told (takes_of rfl rfl rfl rfl) (ja_cons (je_var (pv 5)) (ja_cons (je_var (pv 6)) ja_nil))) ja_nil)) (je_callB (ca_repr hr.g hr.u64) (by rfl) T.b_repr (by decide +kernel) (ja_cons (je_tup (ja_cons (je_of (x := .str (Str.ofString "let")) pe_str fun _ _ => .str _) (ja_cons (je_of (x := .bl true) pe_bl fun _ _ => .bl _) ja_nil))) ja_nil)) (nomark _))
      (jss_one (js_ret (je_of (x := .bl false) pe_bl fun _ _ => .bl _)))
      jss_nil)
    (jss_cons (js_for (passes_of rfl) rfl (ji_range1 (by rfl) T.b_range (ja_cons (je_call (ok_law_draw T) (hr.mono (by decide)) rfl T.g_law_draw (takes_of rfl rfl rfl rfl) (ja_cons (je_var (pv 1)) (ja_cons (je_of (x := .int 3) pe_int fun _ _ => .int _) ja_nil))) ja_nil)) (jg_name (i := 7) sc_law.nd rfl (by first | exact Or.inl rfl | exact Or.inr rfl))
      (jss_cons (js_set (i := 8) sc_law.nd rfl (by first | exact Or.inl rfl | exact Or.inr rfl) (je_call (ok_law_bent T) (hr.mono (by decide)) rfl T.g_law_bent (takes_of rfl rfl rfl rfl) (ja_cons (je_var (pv 1)) (ja_cons (je_var (pv 3)) (ja_cons (je_var (pv 6)) ja_nil)))))
      (jss_one (js_if (jt_cmp (oa_ne hr.u64) (je_callB (ca_repr hr.g hr.u64) (by rfl) T.b_repr (by decide +kernel) (ja_cons (je_call (ok_law_told T) (hr.mono (by decide)) rfl T.g_law_told (takes_of rfl rfl rfl rfl) (ja_cons (je_var (pv 5)) (ja_cons (je_var (pv 8)) ja_nil))) ja_nil)) (je_callB (ca_repr hr.g hr.u64) (by rfl) T.b_repr (by decide +kernel) (ja_cons (je_tup (ja_cons (je_of (x := .str (Str.ofString "let")) pe_str fun _ _ => .str _) (ja_cons (je_call (ok_law_is_sparing T) (hr.mono (by decide)) rfl T.g_law_is_sparing (takes_of rfl rfl rfl rfl) (ja_cons (je_var (pv 5)) (ja_cons (je_var (pv 8)) ja_nil))) ja_nil))) ja_nil)) (nomark _))
        (jss_one (js_ret (je_of (x := .bl false) pe_bl fun _ _ => .bl _)))
        jss_nil))))
    (jss_cons (js_set (i := 9) sc_law.nd rfl (by first | exact Or.inl rfl | exact Or.inr rfl) (je_lst (ja_cons (je_rev (je_var (pv 5))) (ja_cons (je_op oa_add (je_var (pv 5)) (je_tup (ja_cons (je_of (x := .int 5) pe_int fun _ _ => .int _) ja_nil))) (ja_cons (je_op oa_add (je_var (pv 5)) (je_slice sla (je_var (pv 5)) (jo_some (je_un ua_neg (je_of (x := .int 1) pe_int fun _ _ => .int _))) jo_none)) (ja_cons (je_callTy ca_list (by rfl) T.b_list (by decide +kernel) (ja_cons (je_var (pv 5)) ja_nil)) (ja_cons (je_op oa_add (je_tup (ja_cons (je_un ua_neg (je_of (x := .int 1) pe_int fun _ _ => .int _)) ja_nil)) (je_var (pv 5))) (ja_cons (je_tup (ja_cons (je_of (x := .bl true) pe_bl fun _ _ => .bl _) ja_nil)) (ja_cons (je_tup (ja_cons (je_of (x := .bl false) pe_bl fun _ _ => .bl _) (ja_cons (je_of (x := .int 1) pe_int fun _ _ => .int _) ja_nil))) (ja_cons (je_tup (ja_cons (je_of (x := .str (Str.ofString "0")) pe_str fun _ _ => .str _) ja_nil)) ja_nil))))))))))
    (jss_cons (js_set (i := 9) sc_law.nd rfl (by first | exact Or.inl rfl | exact Or.inr rfl) (je_call (ok_law_any T) (hr.mono (by decide)) rfl T.g_law_any (takes_of rfl rfl rfl rfl) (ja_cons (je_var (pv 1)) (ja_cons (je_op oa_add (je_var (pv 9)) (je_lst (ja_cons (je_of (x := .non) pe_non fun _ _ => .non) (ja_cons (je_of (x := .int 3) pe_int fun _ _ => .int _) (ja_cons (je_of (x := .str (Str.ofString "")) pe_str fun _ _ => .str _) (ja_cons (je_of (x := .str (Str.ofString "01")) pe_str fun _ _ => .str _) (ja_cons je_dnew (ja_cons (je_dispC (k := (.inl 0)) (v := .int 1) (x := .int 1) pe_int pe_int fun _ _ => .int _) (ja_cons (je_tup (ja_cons (je_tup (ja_cons (je_of (x := .int 0) pe_int fun _ _ => .int _) ja_nil)) ja_nil)) (ja_cons (je_tup (ja_cons (je_of (x := .int 0) pe_int fun _ _ => .int _) (ja_cons (je_of (x := .non) pe_non fun _ _ => .non) ja_nil))) (ja_cons (je_call (ok_law_deep T) (hr.mono (by decide)) rfl T.g_law_deep (takes_of rfl rfl rfl rfl) (ja_cons (je_var (pv 1)) ja_nil)) (ja_cons (je_tup (ja_cons (je_op oa_pow (je_of (x := .int 10) pe_int fun _ _ => .int _) (je_of (x := .int 30) pe_int fun _ _ => .int _)) ja_nil)) ja_nil)))))))))))) ja_nil))))
    (jss_cons (js_set (i := 10) sc_law.nd rfl (by first | exact Or.inl rfl | exact Or.inr rfl) (je_ifE (jt_val (je_call (ok_law_is_lot T) (hr.mono (by decide)) rfl T.g_law_is_lot (takes_of rfl rfl rfl rfl) (ja_cons (je_var (pv 9)) ja_nil))) (je_tup (ja_cons (je_of (x := .str (Str.ofString "let")) pe_str fun _ _ => .str _) (ja_cons (je_call (ok_law_is_sparing T) (hr.mono (by decide)) rfl T.g_law_is_sparing (takes_of rfl rfl rfl rfl) (ja_cons (je_var (pv 9)) (ja_cons (je_var (pv 6)) ja_nil))) ja_nil))) (je_tup (ja_cons (je_of (x := .str (Str.ofString "lot")) pe_str fun _ _ => .str _) (ja_cons (je_of (x := .non) pe_non fun _ _ => .non) ja_nil)))))
    (jss_cons (js_if (jt_cmp (oa_ne hr.u64) (je_callB (ca_repr hr.g hr.u64) (by rfl) T.b_repr (by decide +kernel) (ja_cons (je_call (ok_law_told T) (hr.mono (by decide)) rfl T.g_law_told (takes_of rfl rfl rfl rfl) (ja_cons (je_var (pv 9)) (ja_cons (je_var (pv 6)) ja_nil))) ja_nil)) (je_callB (ca_repr hr.g hr.u64) (by rfl) T.b_repr (by decide +kernel) (ja_cons (je_var (pv 10)) ja_nil)) (nomark _))
      (jss_one (js_ret (je_of (x := .bl false) pe_bl fun _ _ => .bl _)))
      jss_nil)
    (jss_one (js_if (PW.pt (jw_and (jt_not (jt_val (je_call (ok_law_is_lot T) (hr.mono (by decide)) rfl T.g_law_is_lot (takes_of rfl rfl rfl rfl) (ja_cons (je_var (pv 9)) ja_nil)))) (jw_and1 (jt_cmp (oa_ne hr.u64) (je_call (ok_law_told T) (hr.mono (by decide)) rfl T.g_law_told (takes_of rfl rfl rfl rfl) (ja_cons (je_var (pv 9)) (ja_cons (je_call (ok_law_bent T) (hr.mono (by decide)) rfl T.g_law_bent (takes_of rfl rfl rfl rfl) (ja_cons (je_var (pv 1)) (ja_cons (je_var (pv 3)) (ja_cons (je_var (pv 6)) ja_nil)))) ja_nil))) (je_tup (ja_cons (je_of (x := .str (Str.ofString "lot")) pe_str fun _ _ => .str _) (ja_cons (je_of (x := .non) pe_non fun _ _ => .non) ja_nil))) (nomark _)))))
      (jss_one (js_ret (je_of (x := .bl false) pe_bl fun _ _ => .bl _)))
      jss_nil)))))))))))
  (jss_one (js_ret (je_of (x := .bl true) pe_bl fun _ _ => .bl _))))))).1
end
end K50

set_option Elab.async false
set_option linter.all false
set_option maxRecDepth 100000
set_option maxHeartbeats 4000000
namespace K50
open PySem PySem.Spec PyProof.Rows L2 Am Bm Cm
theorem t_is_integer : FnL m_is_integer (fun p : TV => [eA p]) TV.bl f_is_integer :=
  def_of (fun _ => rfl) (fun p => (s_ret (e_andB (e_isi (e_var (i := 0) (e1 := eA) (a := p) rfl)) (e_notB (e_isi (e_var (i := 0) (e1 := eA) (a := p) rfl))))))
theorem t_is_number : FnL m_is_number (fun p : TV × Int × Int => [eA p.1, TV.int p.2.1, TV.int p.2.2]) TV.bl f_is_number :=
  def_of (fun _ => rfl) (fun p => (s_ret (e_andB (e_callP t_is_integer (a_one (e_var (i := 0) (e1 := eA) (a := p.1) rfl))) (e_chain a_le a_le (e_coe1 (e1 := TV.int) (e := eA) (f := TV.int) (a := p.2.1) (fun _ => rfl) (e_var (i := 1) (e1 := TV.int) (a := p.2.1) rfl)) (e_var (i := 0) (e1 := eA) (a := p.1) rfl) (e_coe1 (e1 := TV.int) (e := eA) (f := TV.int) (a := p.2.2) (fun _ => rfl) (e_var (i := 2) (e1 := TV.int) (a := p.2.2) rfl))))))
noncomputable def f_is_integers (p : TV × Int × Int) : M Unit Bool :=
  (M.bind (lift (isiM "tuple" p.1)) fun c => if c then (M.bind (M.bind (M.pure p.2.1) fun a1 => M.bind (lift (lenM p.1)) fun b2 => M.bind (lift (M.pure (decide (a1 ≤ b2)))) fun k4 => if k4 then (M.bind (M.pure p.2.2) fun c3 => lift (M.pure (decide (b2 ≤ c3)))) else M.pure false) fun c => if c then (M.bind (M.bind (lift (seqM p.1)) fun xs => compM (fun x5 : TV => (M.pure true)) (fun x5 => (lift (f_is_integer x5))) xs) fun t6 => lift (M.pure (List.all t6 id))) else M.pure false) else M.pure false)
theorem t_is_integers : FnL m_is_integers (fun p : TV × Int × Int => [eA p.1, TV.int p.2.1, TV.int p.2.2]) TV.bl f_is_integers :=
  def_of (fun _ => rfl) (fun p => (s_ret (e_andB (e_isi (e_var (i := 0) (e1 := eA) (a := p.1) rfl)) (e_andB (e_chain i_le i_le (e_var (i := 1) (e1 := TV.int) (a := p.2.1) rfl) (e_callP (g := fun t => lenM t) (t := p.1) f_len (a_one (e_var (i := 0) (e1 := eA) (a := p.1) rfl))) (e_var (i := 2) (e1 := TV.int) (a := p.2.2) rfl)) (e_call f_all (a_one (ef_of (ef_comp (i_any1 (e_var (i := 0) (e1 := eA) (a := p.1) rfl)) (fun x5 => (g_name (i := 3))) (fun x5 => t_yes) (fun x5 => (e_callP t_is_integer (a_one (e_var (i := 3) (e1 := eA) (a := x5) rfl))))))))))))
theorem t_is_other : FnL m_is_other (fun p : TV × Int × Int => [eA p.1, TV.int p.2.1, TV.int p.2.2]) TV.bl f_is_other :=
  def_of (fun _ => rfl) (fun p => (s_ret (e_andB (e_callP t_is_number (a_cons1 (e_var (i := 0) (e1 := eA) (a := p.1) rfl) (a_cons1 (e_const (e1 := TV.int) (a := (0 : Int)) fun _ _ => .int _) (a_one (e_opT (h := fun a b => a - b) (a := p.2.2) (b := (1 : Int)) i_sub (e_var (i := 2) (e1 := TV.int) (a := p.2.2) rfl) (e_const (e1 := TV.int) (a := (1 : Int)) fun _ _ => .int _)))))) (e_op1 (g := fun a b => M.bind (eqT a b) fun c => M.pure (!c)) (a := p.1) (b := (TV.int p.2.1)) f_ne (e_var (i := 0) (e1 := eA) (a := p.1) rfl) (e_coe1 (e1 := TV.int) (e := eA) (f := TV.int) (a := p.2.1) (fun _ => rfl) (e_var (i := 1) (e1 := TV.int) (a := p.2.1) rfl))))))
theorem t_is_turn : FnL m_is_turn (fun p : TV × Int => [eA p.1, TV.int p.2]) TV.bl f_is_turn :=
  def_of (fun _ => rfl) (fun p => (s_guardR (b_or (b_not (b_truB (e_isi (e_var (i := 0) (e1 := eA) (a := p.1) rfl)))) (b_of (e_op (f_neD Dat.int) (e_callP (g := fun t => lenM t) (t := p.1) f_len (a_one (e_var (i := 0) (e1 := eA) (a := p.1) rfl))) (e_var (i := 1) (e1 := TV.int) (a := p.2) rfl)))) (s_ret (e_const (e1 := TV.bl) (a := false) fun _ _ => .bl _)) (s_ret (e_call f_all (a_one (ef_of (ef_comp (i_enumA1 (a_one (e_var (i := 0) (e1 := eA) (a := p.1) rfl))) (fun x3 => (g_tup (gs_cons (g_name (i := 2)) (gs_cons (g_name (i := 3)) gs_nil)))) (fun x3 => t_yes) (fun x3 => (e_orB (e_opT (h := fun a b => isNonT a) (a := x3.2) (b := ()) f_isA (e_var (i := 3) (e1 := eA) (a := x3.2) rfl) (e_const (e1 := eN) (a := ()) fun _ _ => .non)) (e_callP t_is_other (a_cons1 (e_var (i := 3) (e1 := eA) (a := x3.2) rfl) (a_cons1 (e_var (i := 2) (e1 := TV.int) (a := x3.1) rfl) (a_one (e_var (i := 1) (e1 := TV.int) (a := p.2) rfl))))))))))))))
noncomputable def f_is_ascending (p : (List TV)) : M Unit Bool :=
  (M.bind (M.bind (M.pure (List.zip p (cutL p (some (1 : Int)) none))) fun xs => compM (fun x1 : (TV × TV) => (M.pure true)) (fun x1 => (lift (cmpA (fun i j => decide (i < j)) x1.1 x1.2))) xs) fun t2 => lift (M.pure (List.all t2 id)))
theorem t_is_ascending : FnL m_is_ascending (fun p : (List TV) => [(eT eA) p]) TV.bl f_is_ascending :=
  def_of (fun _ => rfl) (fun p => (s_ret (e_call f_all (a_one (ef_of (ef_comp (i_zipT1 (e1 := eA) (e2 := eA) (t := (p, (cutL p (some (1 : Int)) none))) (a_cons1 (e_var (i := 0) (e1 := (eT eA)) (a := p) rfl) (a_one (e_slT1 (e_var (i := 0) (e1 := (eT eA)) (a := p) rfl) (o_some1 (e_const (e1 := TV.int) (a := (1 : Int)) fun _ _ => .int _)) o_none)))) (fun x1 => (g_tup (gs_cons (g_name (i := 1)) (gs_cons (g_name (i := 2)) gs_nil)))) (fun x1 => t_yes) (fun x1 => (e_op1 (g := fun a b => cmpA (fun i j => decide (i < j)) a b) (a := x1.1) (b := x1.2) a_lt (e_var (i := 1) (e1 := eA) (a := x1.1) rfl) (e_var (i := 2) (e1 := eA) (a := x1.2) rfl)))))))))
theorem t_is_pattern_of : FnL m_is_pattern_of (fun p : TV × Int × Int × Int => [eA p.1, TV.int p.2.1, TV.int p.2.2.1, TV.int p.2.2.2]) TV.bl f_is_pattern_of :=
  def_of (fun _ => rfl) (fun p => (s_guardR (b_or (b_not (b_truB (e_isi (e_var (i := 0) (e1 := eA) (a := p.1) rfl)))) (b_not (b_of (e_chain i_le i_le (e_var (i := 2) (e1 := TV.int) (a := p.2.2.1) rfl) (e_callP (g := fun t => lenM t) (t := p.1) f_len (a_one (e_var (i := 0) (e1 := eA) (a := p.1) rfl))) (e_var (i := 3) (e1 := TV.int) (a := p.2.2.2) rfl))))) (s_ret (e_const (e1 := TV.bl) (a := false) fun _ _ => .bl _)) (s_ret (e_call f_all (a_one (ef_of (ef_comp (i_any1 (e_var (i := 0) (e1 := eA) (a := p.1) rfl)) (fun x5 => (g_name (i := 4))) (fun x5 => t_yes) (fun x5 => (e_callP t_is_turn (a_cons1 (e_var (i := 4) (e1 := eA) (a := x5) rfl) (a_one (e_var (i := 1) (e1 := TV.int) (a := p.2.1) rfl))))))))))))
noncomputable def f_is_any_pattern (p : TV) : M Unit Bool :=
  (M.bind (M.bind (M.pure ((fun p : (Int × Int × Int) => [p.1, p.2.1, p.2.2]) ((3 : Int), ((4 : Int), (5 : Int))))) fun xs => compM (fun x1 : Int => (M.pure true)) (fun x1 => (lift (f_is_pattern_of (p, (x1, ((0 : Int), (30 : Int))))))) xs) fun t2 => lift (M.pure (List.any t2 id)))
theorem t_is_any_pattern : FnL m_is_any_pattern (fun p : TV => [eA p]) TV.bl f_is_any_pattern :=
  def_of (fun _ => rfl) (fun p => (s_ret (e_call f_any (a_one (ef_of (ef_comp (i_tup1 (e_coe1 (e1 := (eP3 TV.int TV.int TV.int)) (e := (eT TV.int)) (f := (fun p : (Int × Int × Int) => [p.1, p.2.1, p.2.2])) (a := ((3 : Int), ((4 : Int), (5 : Int)))) (fun _ => rfl) (e_tupT (e := (eP3 TV.int TV.int TV.int)) (t := ((3 : Int), ((4 : Int), (5 : Int)))) (fun p => p) 3 (fun _ => rfl) (fun _ => rfl) (by decide) (a_cons1 (e_const (e1 := TV.int) (a := (3 : Int)) fun _ _ => .int _) (a_cons1 (e_const (e1 := TV.int) (a := (4 : Int)) fun _ _ => .int _) (a_one (e_const (e1 := TV.int) (a := (5 : Int)) fun _ _ => .int _))))))) (fun x1 => (g_name (i := 1))) (fun x1 => t_yes) (fun x1 => (e_callP t_is_pattern_of (a_cons1 (e_var (i := 0) (e1 := eA) (a := p) rfl) (a_cons1 (e_var (i := 1) (e1 := TV.int) (a := x1) rfl) (a_cons1 (e_const (e1 := TV.int) (a := (0 : Int)) fun _ _ => .int _) (a_one (e_const (e1 := TV.int) (a := (30 : Int)) fun _ _ => .int _)))))))))))))
noncomputable def f_is_lot_below (p : TV × Int) : M Unit Bool :=
  (M.bind (lift (f_is_integers (p.1, ((0 : Int), p.2)))) fun c => if c then (M.bind (M.bind (lift (asT p.1)) fun t1 => lift (f_is_ascending t1)) fun c => if c then (M.bind (M.bind (lift (seqM p.1)) fun xs => compM (fun x2 : TV => (M.pure true)) (fun x2 => (lift (f_is_number (x2, ((0 : Int), (p.2 - (1 : Int))))))) xs) fun t3 => lift (M.pure (List.all t3 id))) else M.pure false) else M.pure false)
theorem t_is_lot_below : FnL m_is_lot_below (fun p : TV × Int => [eA p.1, TV.int p.2]) TV.bl f_is_lot_below :=
  def_of (fun _ => rfl) (fun p => (s_ret (e_andB (e_callP t_is_integers (a_cons1 (e_var (i := 0) (e1 := eA) (a := p.1) rfl) (a_cons1 (e_const (e1 := TV.int) (a := (0 : Int)) fun _ _ => .int _) (a_one (e_var (i := 1) (e1 := TV.int) (a := p.2) rfl))))) (e_andB (e_call t_is_ascending (a_one (e_asT1 (a := p.1) (e_var (i := 0) (e1 := eA) (a := p.1) rfl)))) (e_call f_all (a_one (ef_of (ef_comp (i_any1 (e_var (i := 0) (e1 := eA) (a := p.1) rfl)) (fun x2 => (g_name (i := 2))) (fun x2 => t_yes) (fun x2 => (e_callP t_is_number (a_cons1 (e_var (i := 2) (e1 := eA) (a := x2) rfl) (a_cons1 (e_const (e1 := TV.int) (a := (0 : Int)) fun _ _ => .int _) (a_one (e_opT (h := fun a b => a - b) (a := p.2) (b := (1 : Int)) i_sub (e_var (i := 1) (e1 := TV.int) (a := p.2) rfl) (e_const (e1 := TV.int) (a := (1 : Int)) fun _ _ => .int _)))))))))))))))
noncomputable def f_is_sparing (mg : Str → Option Value) (p : TV × TV) : M Unit Bool :=
  (M.bind (M.bind (M.bind (lift (f_is_lot_below (p.1, (5 : Int)))) fun c => M.pure (!c)) fun c => if c then (M.throw ⟨clsOf mg "NoLot", []⟩) else (M.bind (M.pure ()) fun v2 => M.pure ())) fun v3 => (M.bind (M.bind (lift (f_is_any_pattern p.2)) fun c => M.pure (!c)) fun c => if c then (M.pure false) else (M.bind (M.bind (lift (seqM p.2)) fun xs => compM2 (fun x4 : TV => (M.pure true)) (fun x4 => (lift (seqM x4))) (fun (x4 : TV) (y5 : TV) => (M.pure true)) (fun x4 y5 => (M.bind (M.pure (isNonT y5)) fun c => if c then M.pure true else (lift (inT y5 p.1)))) 0 xs) fun t6 => lift (M.pure (List.all t6 id)))))
theorem t_is_sparing {mg : Str → Option Value} : FnL (m_is_sparing mg) (fun p : TV × TV => [eA p.1, eA p.2]) TV.bl (f_is_sparing mg) :=
  def_of (fun _ => rfl) (fun p => (s_seqR (s_ifN (Γ' := fun z1 : Unit => [.va (eA p.1), .va (eA p.2), .no, .no]) (b_not (b_truB (e_callP t_is_lot_below (a_cons1 (e_var (i := 0) (e1 := eA) (a := p.1) rfl) (a_one (e_const (e1 := TV.int) (a := (5 : Int)) fun _ _ => .int _)))))) s_throwN (s_map (fun v2 => ()) s_pass (fun v2 => (.keep (.keep (.keep (.keep .nil))))))) (fun v3 => (s_guardR (b_not (b_truB (e_callP t_is_any_pattern (a_one (e_var (i := 1) (e1 := eA) (a := p.2) rfl))))) (s_ret (e_const (e1 := TV.bl) (a := false) fun _ _ => .bl _)) (s_ret (e_call f_all (a_one (ef_of (ef_comp2 (i_any1 (e_var (i := 1) (e1 := eA) (a := p.2) rfl)) (fun x4 => (g_name (i := 2))) (fun x4 => t_yes) (fun x4 => (i_any1 (e_var (i := 2) (e1 := eA) (a := x4) rfl))) (fun x4 y5 => (g_name (i := 3))) (fun x4 y5 => t_yes) (fun x4 y5 => (e_orB (e_opT (h := fun a b => isNonT a) (a := y5) (b := ()) f_isA (e_var (i := 3) (e1 := eA) (a := y5) rfl) (e_const (e1 := eN) (a := ()) fun _ _ => .non)) (e_op1 (g := fun a b => inT a b) (a := y5) (b := p.1) f_in (e_var (i := 3) (e1 := eA) (a := y5) rfl) (e_var (i := 0) (e1 := eA) (a := p.1) rfl)))))))))))))
noncomputable def f_law_deep (cs : List Int) (p : Unit) : M (Pot.PotS cs) TV :=
  (M.bind (Pot.anyM cs [((eT TV.int) []), (TV.int (0 : Int)), (eN ()), (TV.str (Str.ofString "a"))]) fun v1 => (M.bind (M.bind (M.bind (M.bind (M.pure (1 : Int)) fun a2 => M.bind (Pot.drawM cs (25 : Int)) fun b3 => lift (M.pure (a2 + b3))) fun t4 => lift (rngM 0 t4)) fun xs => forL (fun (st5 : TV) (x6 : Int) => (M.bind (M.bind (M.pure [((eT eA) [st5]), ((eL eA) [st5]), ((fun a : TV => TV.dct [(kT (.inr (Str.ofString "a")), eA a)]) st5)]) fun a7 => M.bind (Pot.drawM cs (3 : Int)) fun b8 => lift (atM a7 b8)) fun v9 => M.pure v9)) xs v1) fun v10 => (M.pure v10)))
theorem t_law_deep {sl : AO} {cs : List Int} : FnS (Pot.potMd sl cs) m_law_deep (fun p : Unit => []) eA (f_law_deep cs) :=
  def_ofS (fun _ => rfl) (fun p => (s_seqR (s_set (i := 1) (e_callSP (Pot.t_law_anyL (e := eA)) (rfl : _ = some Sl.pt) (a_one (ef_of (ef_lstT (e := eA) (t := (((eT TV.int) []), ((TV.int (0 : Int)), ((eN ()), (TV.str (Str.ofString "a")))))) (fun p : TV × TV × TV × TV => [p.1, p.2.1, p.2.2.1, p.2.2.2]) 4 (fun _ => rfl) (fun _ => rfl) (by decide) (a_cons1 (e_coe1 (e1 := (eT TV.int)) (e := eA) (f := (eT TV.int)) (a := []) (fun _ => rfl) (e_tupT (e := (eT TV.int)) (fun _ : Unit => []) 0 (fun _ => rfl) (fun _ => rfl) (by decide) a_nil)) (a_cons1 (e_coe1 (e1 := TV.int) (e := eA) (f := TV.int) (a := (0 : Int)) (fun _ => rfl) (e_const (e1 := TV.int) (a := (0 : Int)) fun _ _ => .int _)) (a_cons1 (e_coe1 (e1 := eN) (e := eA) (f := eN) (a := ()) (fun _ => rfl) (e_const (e1 := eN) (a := ()) fun _ _ => .non)) (a_one (e_coe1 (e1 := TV.str) (e := eA) (f := TV.str) (a := (Str.ofString "a")) (fun _ => rfl) (e_const (e1 := TV.str) (a := (Str.ofString "a")) fun _ _ => .str _))))))))))) (fun v1 => (s_seqR (s_for (Γl := fun st5 : TV => [.pt, .va (eA st5), .no]) v1 (i_range (a_one (e_op i_add (e_const (e1 := TV.int) (a := (1 : Int)) fun _ _ => .int _) (e_callSP Pot.t_law_draw (rfl : _ = some Sl.pt) (a_one (e_const (e1 := TV.int) (a := (25 : Int)) fun _ _ => .int _)))))) (.keep (.keep (.keep .nil))) (fun st5 x6 => (g_name (i := 2))) (fun st5 x6 => (s_map (fun v9 => v9) (s_set (i := 1) (e_op f_ixL (ef_of (ef_lstT (e := eA) (t := (((eT eA) [st5]), (((eL eA) [st5]), ((fun a : TV => TV.dct [(kT (.inr (Str.ofString "a")), eA a)]) st5)))) (fun p : TV × TV × TV => [p.1, p.2.1, p.2.2]) 3 (fun _ => rfl) (fun _ => rfl) (by decide) (a_cons1 (e_coe1 (e1 := (eT eA)) (e := eA) (f := (eT eA)) (a := [st5]) (fun _ => rfl) (e_tupT (e := (eT eA)) (t := st5) (fun p : TV => [p]) 1 (fun _ => rfl) (fun _ => rfl) (by decide) (a_one (e_var (i := 1) (e1 := eA) (a := st5) rfl)))) (a_cons1 (e_coe1 (e1 := (eL eA)) (e := eA) (f := (eL eA)) (a := [st5]) (fun _ => rfl) (ef_of (ef_lstT (e := eA) (t := st5) (fun p : TV => [p]) 1 (fun _ => rfl) (fun _ => rfl) (by decide) (a_one (e_var (i := 1) (e1 := eA) (a := st5) rfl))))) (a_one (e_coe1 (e1 := (fun a : TV => TV.dct [(kT (.inr (Str.ofString "a")), eA a)])) (e := eA) (f := (fun a : TV => TV.dct [(kT (.inr (Str.ofString "a")), eA a)])) (a := st5) (fun _ => rfl) (e_dispV (k := (.inr (Str.ofString "a"))) (i := 1) (e := eA) rfl))))))) (e_callSP Pot.t_law_draw (rfl : _ = some Sl.pt) (a_one (e_const (e1 := TV.int) (a := (3 : Int)) fun _ _ => .int _))))) (fun v9 => (.keep (.keep (.drop .nil))))))) (fun v10 => (s_ret (e_var (i := 1) (e1 := eA) (a := v10) rfl)))))))
noncomputable def f_law_some (cs : List Int) (p : Unit) : M (Pot.PotS cs) (List Int) :=
  (M.bind (M.bind (lift (rngM 0 (5 : Int))) fun xs => compM (fun x1 : Int => (M.bind (Pot.drawM cs (2 : Int)) fun a2 => M.bind (M.pure (0 : Int)) fun b3 => lift (M.pure (decide (a2 = b3))))) (fun x1 => (M.pure x1)) xs) fun t4 => lift (M.pure (t4)))
theorem t_law_some {sl : AO} {cs : List Int} : FnS (Pot.potMd sl cs) m_law_some (fun p : Unit => []) (eT TV.int) (f_law_some cs) :=
  def_ofS (fun _ => rfl) (fun p => (s_ret (e_call f_tupL (a_one (ef_of (ef_comp (i_rangeP (i := (5 : Int)) (a_one (e_const (e1 := TV.int) (a := (5 : Int)) fun _ _ => .int _))) (fun x1 => (g_name (i := 1))) (fun x1 => (b_of (e_op (f_eqD Dat.int) (e_callSP Pot.t_law_draw (rfl : _ = some Sl.pt) (a_one (e_const (e1 := TV.int) (a := (2 : Int)) fun _ _ => .int _))) (e_const (e1 := TV.int) (a := (0 : Int)) fun _ _ => .int _)))) (fun x1 => (e_var (i := 1) (e1 := TV.int) (a := x1) rfl))))))))
noncomputable def f_law_entry (cs : List Int) (p : Int × Int × (List Int)) : M (Pot.PotS cs) (Option Int) :=
  (M.bind (M.pure (List.map (fun x1 : Int => x1) (List.filter (fun x1 : Int => ((decide (x1 < p.1)) && (!decide (x1 = p.2.1)))) p.2.2))) fun v2 => (M.bind (M.bind (M.pure (decide (((List.length v2 : Int)) = (0 : Int)))) fun c => if c then M.pure true else (M.bind (Pot.drawM cs (2 : Int)) fun a3 => M.bind (M.pure (0 : Int)) fun b4 => lift (M.pure (decide (a3 = b4))))) fun c => if c then (M.pure ((fun _ => none) ())) else (M.bind (Pot.anyM cs v2) fun a => M.pure (some a))))
theorem t_law_entry {sl : AO} {cs : List Int} : FnS (Pot.potMd sl cs) m_law_entry (fun p : Int × Int × (List Int) => [TV.int p.1, TV.int p.2.1, (eT TV.int) p.2.2]) (eO TV.int) (f_law_entry cs) :=
  def_ofS (fun _ => rfl) (fun p => (s_seqR (s_set (i := 4) (ef_of (ef_compFT (i_tup1 (e_var (i := 3) (e1 := (eT TV.int)) (a := p.2.2) rfl)) (fun x1 => (g_name (i := 5))) (fun x1 => (b_and1 (b_of (e_opT (h := fun a b => decide (a < b)) (a := x1) (b := p.1) i_lt (e_var (i := 5) (e1 := TV.int) (a := x1) rfl) (e_var (i := 1) (e1 := TV.int) (a := p.1) rfl))) (b_of (e_opT (h := fun a b => !decide (a = b)) (a := x1) (b := p.2.1) (f_neD Dat.int) (e_var (i := 5) (e1 := TV.int) (a := x1) rfl) (e_var (i := 2) (e1 := TV.int) (a := p.2.1) rfl))))) (fun x1 => (e_var (i := 5) (e1 := TV.int) (a := x1) rfl))))) (fun v2 => (s_ret (e_ifE (b_or (b_of (e_opT (h := fun a b => decide (a = b)) (a := ((List.length v2 : Int))) (b := (0 : Int)) (f_eqD Dat.int) (e_callT (h := fun t => (List.length t : Int)) (t := v2) f_lenL (a_one (e_var (i := 4) (e1 := (eL TV.int)) (a := v2) rfl))) (e_const (e1 := TV.int) (a := (0 : Int)) fun _ _ => .int _))) (b_of (e_op (f_eqD Dat.int) (e_callSP Pot.t_law_draw (rfl : _ = some Sl.pt) (a_one (e_const (e1 := TV.int) (a := (2 : Int)) fun _ _ => .int _))) (e_const (e1 := TV.int) (a := (0 : Int)) fun _ _ => .int _)))) (e_coe1 (e1 := eN) (e := (eO TV.int)) (f := (fun _ => none)) (a := ()) (fun _ => rfl) (e_const (e1 := eN) (a := ()) fun _ _ => .non)) (e_coe (e1 := TV.int) (e := (eO TV.int)) (f := some) (fun _ => rfl) (e_callSP (Pot.t_law_anyL (e := TV.int)) (rfl : _ = some Sl.pt) (a_one (e_var (i := 4) (e1 := (eL TV.int)) (a := v2) rfl)))))))))
noncomputable def f_law_pattern (cs : List Int) (p : Int × Int × (List Int)) : M (Pot.PotS cs) (List (List (Option Int))) :=
  (M.bind (M.pure []) fun v1 => (M.bind (M.bind (lift (rngM 0 p.2.1)) fun xs => forL (fun (st2 : List (List (Option Int))) (x3 : Int) => (M.bind (M.bind (M.bind (M.bind (lift (rngM 0 p.1)) fun xs => compM (fun x4 : Int => (M.pure true)) (fun x4 => (f_law_entry cs (p.1, (x4, p.2.2)))) xs) fun t5 => lift (M.pure (t5))) fun a6 => apM st2 a6) fun v7 => M.pure v7)) xs v1) fun v8 => (M.pure (v8))))
theorem t_law_pattern {sl : AO} {cs : List Int} : FnS (Pot.potMd sl cs) m_law_pattern (fun p : Int × Int × (List Int) => [TV.int p.1, TV.int p.2.1, (eT TV.int) p.2.2]) (eT (eT (eO TV.int))) (f_law_pattern cs) :=
  def_ofS (fun _ => rfl) (fun p => (s_seqR (s_setO (i := 4) rfl (ef_lst0 (e := (eT (eO TV.int))))) (fun v1 => (s_seqR (s_for (Γl := fun st2 : List (List (Option Int)) => [.pt, .va (TV.int p.1), .va (TV.int p.2.1), .va ((eT TV.int) p.2.2), .ow (List.map (eT (eO TV.int)) st2), .no, .no]) v1 (i_rangeP (i := p.2.1) (a_one (e_var (i := 2) (e1 := TV.int) (a := p.2.1) rfl))) (.keep (.keep (.keep (.keep (.keep (.keep (.keep .nil))))))) (fun st2 x3 => (g_name (i := 5))) (fun st2 x3 => (s_map (fun v7 => v7) (s_append (i := 4) (e1 := (eT (eO TV.int))) (xs := st2) rfl (e_call f_tupL (a_one (ef_of (ef_comp (i_rangeP (i := p.1) (a_one (e_var (i := 1) (e1 := TV.int) (a := p.1) rfl))) (fun x4 => (g_name (i := 6))) (fun x4 => t_yes) (fun x4 => (e_callSP t_law_entry (rfl : _ = some Sl.pt) (a_cons1 (e_var (i := 1) (e1 := TV.int) (a := p.1) rfl) (a_cons1 (e_var (i := 6) (e1 := TV.int) (a := x4) rfl) (a_one (e_var (i := 3) (e1 := (eT TV.int)) (a := p.2.2) rfl))))))))))) (fun v7 => (.keep (.keep (.keep (.keep (.keep (.drop (.keep .nil))))))))))) (fun v8 => (s_frzR (i := 4) rfl (s_ret (e_callT (h := fun t => t) (t := v8) f_tupL (a_one (e_var (i := 4) (e1 := (eL (eT (eO TV.int)))) (a := v8) rfl))))))))))
noncomputable def f_law_bent (cs : List Int) (p : Int × (List (List (Option Int)))) : M (Pot.PotS cs) TV :=
  (M.bind (M.pure (decide (((List.length p.2 : Int)) = (0 : Int)))) fun c => if c then (M.bind (lift (repM [()] p.1)) fun v1 => (M.bind (M.pure [((eL TV.int) []), (eN ()), (TV.str (Str.ofString "")), (TV.int (0 : Int)), (TV.dct []), ((eT (eT TV.int)) [[]]), ((eT eN) [()]), ((eT (eT eN)) [(cutL v1 none (some (2 : Int)))]), ((eP (eT eN) (eT eN)) (v1, v1)), ((eT (eL eN)) [v1]), ((eT (eT (eT eN))) [[v1]])]) fun v2 => (Pot.anyM cs v2))) else (M.bind (M.bind (Pot.drawM cs ((List.length p.2 : Int))) fun a3 => M.bind (Pot.drawM cs p.1) fun b4 => M.pure (a3, b4)) fun v5 => (M.bind (M.bind (M.bind (M.bind (lift (atM p.2 v5.1)) fun t6 => lift (M.pure t6)) fun xs => M.pure (List.map (eO TV.int) xs)) fun a7 => M.bind (Pot.drawM cs (9 : Int)) fun b8 => M.pure (a7, b8)) fun v9 => (thenR (M.bind (M.pure (decide (v9.2 < (4 : Int)))) fun c => if c then (M.bind (M.bind (M.bind (M.bind (M.bind (M.bind (M.bind (M.pure (v5.2 + (1 : Int))) fun a11 => M.bind (Pot.drawM cs (p.1 - (1 : Int))) fun b12 => lift (M.pure (a11 + b12))) fun t13 => lift (M.pure (t13))) fun a14 => M.bind (M.pure p.1) fun b15 => lift (modM a14 b15)) fun a => M.pure (TV.int a)) fun a16 => M.bind (M.pure v5.2) fun k17 => putM v9.1 k17 a16) fun v18 => M.pure v18) fun b => M.pure (Ctl.nx b)) else (M.bind (M.pure (decide (v9.2 = (4 : Int)))) fun c => if c then (M.bind (M.bind (M.bind (M.bind (M.bind (M.bind (M.pure (TV.int v5.2)) fun a39 => M.bind (M.bind (M.pure (TV.int p.1)) fun a37 => M.bind (M.bind (M.pure (TV.int (7 : Int))) fun a35 => M.bind (M.bind (M.pure (TV.int (-(1 : Int)))) fun a33 => M.bind (M.bind (M.pure (TV.bl true)) fun a31 => M.bind (M.bind (M.pure (TV.bl false)) fun a29 => M.bind (M.bind (M.pure (TV.str (Str.ofString "0"))) fun a27 => M.bind (M.bind (M.pure ((eT TV.int) [(0 : Int)])) fun a25 => M.bind (M.bind (M.pure ((eL TV.int) [(0 : Int)])) fun a23 => M.bind (M.bind (M.pure (TV.dct [])) fun a21 => M.bind (M.bind (M.bind (lift (powM (10 : Int) (50 : Int))) fun a => M.pure (TV.int a)) fun a19 => M.bind (f_law_deep cs ()) fun b20 => M.pure (a19, b20)) fun b22 => M.pure (a21, b22)) fun b24 => M.pure (a23, b24)) fun b26 => M.pure (a25, b26)) fun b28 => M.pure (a27, b28)) fun b30 => M.pure (a29, b30)) fun b32 => M.pure (a31, b32)) fun b34 => M.pure (a33, b34)) fun b36 => M.pure (a35, b36)) fun b38 => M.pure (a37, b38)) fun b40 => M.pure (a39, b40)) fun p => M.pure [p.1, p.2.1, p.2.2.1, p.2.2.2.1, p.2.2.2.2.1, p.2.2.2.2.2.1, p.2.2.2.2.2.2.1, p.2.2.2.2.2.2.2.1, p.2.2.2.2.2.2.2.2.1, p.2.2.2.2.2.2.2.2.2.1, p.2.2.2.2.2.2.2.2.2.2.1, p.2.2.2.2.2.2.2.2.2.2.2]) (Pot.anyM cs)) fun a41 => M.bind (M.pure v5.2) fun k42 => putM v9.1 k42 a41) fun v43 => M.pure v43) fun b => M.pure (Ctl.nx b)) else (M.bind (M.pure (decide (v9.2 = (5 : Int)))) fun c => if c then (M.bind (M.bind (M.bind (M.bind (M.pure ((eT eA) ((cutL v9.1 (some (1 : Int)) none)))) fun a54 => M.bind (M.bind (M.bind (lift (catM v9.1 [(eN ())])) fun a => M.pure ((eT eA) a)) fun a52 => M.bind (M.bind (M.pure ((eL eA) v9.1)) fun a50 => M.bind (M.bind (M.pure (eN ())) fun a48 => M.bind (M.bind (M.pure ((eT TV.int) [])) fun a46 => M.bind (M.bind (M.bind (lift (repM v9.1 (2 : Int))) fun a => M.pure ((eT eA) a)) fun a44 => M.bind (M.pure (TV.str (Str.ofString "abc"))) fun b45 => M.pure (a44, b45)) fun b47 => M.pure (a46, b47)) fun b49 => M.pure (a48, b49)) fun b51 => M.pure (a50, b51)) fun b53 => M.pure (a52, b53)) fun b55 => M.pure (a54, b55)) fun p => M.pure [p.1, p.2.1, p.2.2.1, p.2.2.2.1, p.2.2.2.2.1, p.2.2.2.2.2.1, p.2.2.2.2.2.2]) (Pot.anyM cs)) fun v56 => (M.bind (M.bind (M.bind (lift (catM ((List.map (eT (eO TV.int))) (cutL p.2 none (some v5.1))) [v56])) fun a57 => M.bind (M.pure ((List.map (eT (eO TV.int))) (cutL p.2 (some (v5.1 + (1 : Int))) none))) fun b58 => lift (catM a57 b58)) fun a => M.pure ((eT eA) a)) fun v => M.pure (Ctl.rt v))) else (M.bind (M.pure (decide (v9.2 = (6 : Int)))) fun c => if c then (M.bind (M.bind (M.pure ((List.map (eT (eO TV.int))) p.2)) fun a59 => M.bind (M.bind (M.bind (lift (repM [()] (p.1 + (1 : Int)))) fun a => M.pure ((eT eN) a)) fun p => M.pure [p]) fun b60 => lift (catM a59 b60)) fun v61 => (M.bind (M.bind (M.bind (M.bind (M.pure ((eL (eT (eO TV.int))) p.2)) fun a68 => M.bind (M.bind (M.bind (lift (catM ((List.map (eT (eO TV.int))) p.2) [(eN ())])) fun a => M.pure ((eT eA) a)) fun a66 => M.bind (M.bind (M.pure ((eT eA) v61)) fun a64 => M.bind (M.bind (M.pure ((eT (eT (eT (eO TV.int)))) [p.2])) fun a62 => M.bind (M.bind (lift (atM p.2 (0 : Int))) fun a => M.pure ((eT (eO TV.int)) a)) fun b63 => M.pure (a62, b63)) fun b65 => M.pure (a64, b65)) fun b67 => M.pure (a66, b67)) fun b69 => M.pure (a68, b69)) fun p => M.pure [p.1, p.2.1, p.2.2.1, p.2.2.2.1, p.2.2.2.2]) (Pot.anyM cs)) fun v => M.pure (Ctl.rt v))) else (M.bind (M.pure (decide (v9.2 = (7 : Int)))) fun c => if c then (M.bind (M.bind (M.bind (lift (repM p.2 (31 : Int))) fun a72 => M.bind (M.pure none) fun l73 => M.bind (M.bind (M.bind (M.pure (30 : Int)) fun a70 => M.bind (Pot.drawM cs (2 : Int)) fun b71 => lift (M.pure (a70 + b71))) fun i => M.pure (some i)) fun h74 => M.pure (cutL a72 l73 h74)) fun a => M.pure ((eT (eT (eO TV.int))) a)) fun v => M.pure (Ctl.rt v)) else (M.bind (M.bind (lift (catM (List.reverse p.2) (cutL p.2 none (some (1 : Int))))) fun a => M.pure ((eT (eT (eO TV.int))) a)) fun v => M.pure (Ctl.rt v))))))) fun z10 => (M.bind (M.bind (lift (catM ((List.map (eT (eO TV.int))) (cutL p.2 none (some v5.1))) [((eT eA) (z10))])) fun a75 => M.bind (M.pure ((List.map (eT (eO TV.int))) (cutL p.2 (some (v5.1 + (1 : Int))) none))) fun b76 => lift (catM a75 b76)) fun a => M.pure ((eT eA) a))))))
theorem t_law_bent {sl : AO} {cs : List Int} : FnS (Pot.potMd sl cs) m_law_bent (fun p : Int × (List (List (Option Int))) => [TV.int p.1, (eT (eT (eO TV.int))) p.2]) eA (f_law_bent cs) :=
  def_ofS (fun _ => rfl) (fun p => (s_guardR (b_of (e_opT (h := fun a b => decide (a = b)) (a := ((List.length p.2 : Int))) (b := (0 : Int)) (f_eqD Dat.int) (e_callT (h := fun t => (List.length t : Int)) (t := p.2) f_lenT (a_one (e_var (i := 2) (e1 := (eT (eT (eO TV.int)))) (a := p.2) rfl))) (e_const (e1 := TV.int) (a := (0 : Int)) fun _ _ => .int _))) (s_seqR (s_set (i := 3) (e_op1 (g := fun a b => repM a b) (a := [()]) (b := p.1) t_rep (e_tupT (e := (eT eN)) (t := ()) (fun p : Unit => [p]) 1 (fun _ => rfl) (fun _ => rfl) (by decide) (a_one (e_const (e1 := eN) (a := ()) fun _ _ => .non))) (e_var (i := 1) (e1 := TV.int) (a := p.1) rfl))) (fun v1 => (s_seqR (s_set (i := 4) (ef_of (ef_lstT (e := eA) (t := (((eL TV.int) []), ((eN ()), ((TV.str (Str.ofString "")), ((TV.int (0 : Int)), ((TV.dct []), (((eT (eT TV.int)) [[]]), (((eT eN) [()]), (((eT (eT eN)) [(cutL v1 none (some (2 : Int)))]), (((eP (eT eN) (eT eN)) (v1, v1)), (((eT (eL eN)) [v1]), ((eT (eT (eT eN))) [[v1]])))))))))))) (fun p : TV × TV × TV × TV × TV × TV × TV × TV × TV × TV × TV => [p.1, p.2.1, p.2.2.1, p.2.2.2.1, p.2.2.2.2.1, p.2.2.2.2.2.1, p.2.2.2.2.2.2.1, p.2.2.2.2.2.2.2.1, p.2.2.2.2.2.2.2.2.1, p.2.2.2.2.2.2.2.2.2.1, p.2.2.2.2.2.2.2.2.2.2]) 11 (fun _ => rfl) (fun _ => rfl) (by decide) (a_cons1 (e_coe1 (e1 := (eL TV.int)) (e := eA) (f := (eL TV.int)) (a := []) (fun _ => rfl) (ef_of (ef_lst0 (e := TV.int)))) (a_cons1 (e_coe1 (e1 := eN) (e := eA) (f := eN) (a := ()) (fun _ => rfl) (e_const (e1 := eN) (a := ()) fun _ _ => .non)) (a_cons1 (e_coe1 (e1 := TV.str) (e := eA) (f := TV.str) (a := (Str.ofString "")) (fun _ => rfl) (e_const (e1 := TV.str) (a := (Str.ofString "")) fun _ _ => .str _)) (a_cons1 (e_coe1 (e1 := TV.int) (e := eA) (f := TV.int) (a := (0 : Int)) (fun _ => rfl) (e_const (e1 := TV.int) (a := (0 : Int)) fun _ _ => .int _)) (a_cons1 (e_coe1 (e1 := fun _ : Unit => TV.dct []) (e := eA) (f := fun _ => TV.dct []) (a := ()) (fun _ => rfl) e_dnew) (a_cons1 (e_coe1 (e1 := (eT (eT TV.int))) (e := eA) (f := (eT (eT TV.int))) (a := [[]]) (fun _ => rfl) (e_tupT (e := (eT (eT TV.int))) (t := []) (fun p : (List Int) => [p]) 1 (fun _ => rfl) (fun _ => rfl) (by decide) (a_one (e_tupT (e := (eT TV.int)) (fun _ : Unit => []) 0 (fun _ => rfl) (fun _ => rfl) (by decide) a_nil)))) (a_cons1 (e_coe1 (e1 := (eT eN)) (e := eA) (f := (eT eN)) (a := [()]) (fun _ => rfl) (e_tupT (e := (eT eN)) (t := ()) (fun p : Unit => [p]) 1 (fun _ => rfl) (fun _ => rfl) (by decide) (a_one (e_const (e1 := eN) (a := ()) fun _ _ => .non)))) (a_cons1 (e_coe1 (e1 := (eT (eT eN))) (e := eA) (f := (eT (eT eN))) (a := [(cutL v1 none (some (2 : Int)))]) (fun _ => rfl) (e_tupT (e := (eT (eT eN))) (t := (cutL v1 none (some (2 : Int)))) (fun p : (List Unit) => [p]) 1 (fun _ => rfl) (fun _ => rfl) (by decide) (a_one (e_slT1 (e_var (i := 3) (e1 := (eT eN)) (a := v1) rfl) o_none (o_some1 (e_const (e1 := TV.int) (a := (2 : Int)) fun _ _ => .int _)))))) (a_cons1 (e_coe1 (e1 := (eP (eT eN) (eT eN))) (e := eA) (f := (eP (eT eN) (eT eN))) (a := (v1, v1)) (fun _ => rfl) (e_tupT (e := (eP (eT eN) (eT eN))) (t := (v1, v1)) (fun p => p) 2 (fun _ => rfl) (fun _ => rfl) (by decide) (a_cons1 (e_var (i := 3) (e1 := (eT eN)) (a := v1) rfl) (a_one (e_var (i := 3) (e1 := (eT eN)) (a := v1) rfl))))) (a_cons1 (e_coe1 (e1 := (eT (eL eN))) (e := eA) (f := (eT (eL eN))) (a := [v1]) (fun _ => rfl) (e_tupT (e := (eT (eL eN))) (t := v1) (fun p : (List Unit) => [p]) 1 (fun _ => rfl) (fun _ => rfl) (by decide) (a_one (ef_of (ef_callT (t := v1) (f_lstT (e := eN)) (a_one (e_var (i := 3) (e1 := (eT eN)) (a := v1) rfl))))))) (a_one (e_coe1 (e1 := (eT (eT (eT eN)))) (e := eA) (f := (eT (eT (eT eN)))) (a := [[v1]]) (fun _ => rfl) (e_tupT (e := (eT (eT (eT eN)))) (t := [v1]) (fun p : (List (List Unit)) => [p]) 1 (fun _ => rfl) (fun _ => rfl) (by decide) (a_one (e_tupT (e := (eT (eT eN))) (t := v1) (fun p : (List Unit) => [p]) 1 (fun _ => rfl) (fun _ => rfl) (by decide) (a_one (e_var (i := 3) (e1 := (eT eN)) (a := v1) rfl)))))))))))))))))))) (fun v2 => (s_ret (e_callSP (Pot.t_law_anyL (e := eA)) (rfl : _ = some Sl.pt) (a_one (e_var (i := 4) (e1 := (eL eA)) (a := v2) rfl)))))))) (s_seqR (s_par (i := 5) (j := 6) (e1 := fun p : Int × Int => TV.int p.1) (e2 := fun p => TV.int p.2) (a_cons (e_callSP Pot.t_law_draw (rfl : _ = some Sl.pt) (a_one (e_callT (h := fun t => (List.length t : Int)) (t := p.2) f_lenT (a_one (e_var (i := 2) (e1 := (eT (eT (eO TV.int)))) (a := p.2) rfl))))) (a_one (e_callSP Pot.t_law_draw (rfl : _ = some Sl.pt) (a_one (e_var (i := 1) (e1 := TV.int) (a := p.1) rfl)))))) (fun v5 => (s_seqR (s_parO (i := 7) (j := 8) rfl rfl (ef_coeA (ef_call f_lstT (a_one (e_op1 (g := fun a b => atM a b) (a := p.2) (b := v5.1) f_ixT (e_var (i := 2) (e1 := (eT (eT (eO TV.int)))) (a := p.2) rfl) (e_var (i := 5) (e1 := TV.int) (a := v5.1) rfl))))) (a_one (e_callSP Pot.t_law_draw (rfl : _ = some Sl.pt) (a_one (e_const (e1 := TV.int) (a := (9 : Int)) fun _ _ => .int _))))) (fun v9 => (s_thenR (s_ifC (Γ' := fun z10 : List TV => [.pt, .va (TV.int p.1), .va ((eT (eT (eO TV.int))) p.2), .no, .no, .va (TV.int v5.1), .va (TV.int v5.2), .ow (List.map eA z10), .va (TV.int v9.2), .no, .no]) (b_of (e_opT (h := fun a b => decide (a < b)) (a := v9.2) (b := (4 : Int)) i_lt (e_var (i := 8) (e1 := TV.int) (a := v9.2) rfl) (e_const (e1 := TV.int) (a := (4 : Int)) fun _ _ => .int _))) (s_toC (s_map (fun v18 => v18) (s_put (i := 7) (e1 := eA) (xs := v9.1) rfl (e_coe (e1 := TV.int) (e := eA) (f := TV.int) (fun _ => rfl) (e_op i_mod (e_call f_int (a_one (e_op i_add (e_opT (h := fun a b => a + b) (a := v5.2) (b := (1 : Int)) i_add (e_var (i := 6) (e1 := TV.int) (a := v5.2) rfl) (e_const (e1 := TV.int) (a := (1 : Int)) fun _ _ => .int _)) (e_callSP Pot.t_law_draw (rfl : _ = some Sl.pt) (a_one (e_opT (h := fun a b => a - b) (a := p.1) (b := (1 : Int)) i_sub (e_var (i := 1) (e1 := TV.int) (a := p.1) rfl) (e_const (e1 := TV.int) (a := (1 : Int)) fun _ _ => .int _))))))) (e_var (i := 1) (e1 := TV.int) (a := p.1) rfl))) (e_var (i := 6) (e1 := TV.int) (a := v5.2) rfl)) (fun v18 => (.keep (.keep (.keep (.keep (.keep (.keep (.keep (.keep (.keep (.keep (.keep .nil)))))))))))))) (s_ifC (b_of (e_opT (h := fun a b => decide (a = b)) (a := v9.2) (b := (4 : Int)) (f_eqD Dat.int) (e_var (i := 8) (e1 := TV.int) (a := v9.2) rfl) (e_const (e1 := TV.int) (a := (4 : Int)) fun _ _ => .int _))) (s_toC (s_map (fun v43 => v43) (s_put (i := 7) (e1 := eA) (xs := v9.1) rfl (e_callS (Pot.t_law_anyL (e := eA)) (rfl : _ = some Sl.pt) (a_one (ef_of (ef_lstM (e := eA) (fun p : TV × TV × TV × TV × TV × TV × TV × TV × TV × TV × TV × TV => [p.1, p.2.1, p.2.2.1, p.2.2.2.1, p.2.2.2.2.1, p.2.2.2.2.2.1, p.2.2.2.2.2.2.1, p.2.2.2.2.2.2.2.1, p.2.2.2.2.2.2.2.2.1, p.2.2.2.2.2.2.2.2.2.1, p.2.2.2.2.2.2.2.2.2.2.1, p.2.2.2.2.2.2.2.2.2.2.2]) 12 (fun _ => rfl) (fun _ => rfl) (by decide) (a_cons (e_coe1 (e1 := TV.int) (e := eA) (f := TV.int) (a := v5.2) (fun _ => rfl) (e_var (i := 6) (e1 := TV.int) (a := v5.2) rfl)) (a_cons (e_coe1 (e1 := TV.int) (e := eA) (f := TV.int) (a := p.1) (fun _ => rfl) (e_var (i := 1) (e1 := TV.int) (a := p.1) rfl)) (a_cons (e_coe1 (e1 := TV.int) (e := eA) (f := TV.int) (a := (7 : Int)) (fun _ => rfl) (e_const (e1 := TV.int) (a := (7 : Int)) fun _ _ => .int _)) (a_cons (e_coe1 (e1 := TV.int) (e := eA) (f := TV.int) (a := (-(1 : Int))) (fun _ => rfl) (e_unT (h := fun a => -a) (a := (1 : Int)) i_neg (e_const (e1 := TV.int) (a := (1 : Int)) fun _ _ => .int _))) (a_cons (e_coe1 (e1 := TV.bl) (e := eA) (f := TV.bl) (a := true) (fun _ => rfl) (e_const (e1 := TV.bl) (a := true) fun _ _ => .bl _)) (a_cons (e_coe1 (e1 := TV.bl) (e := eA) (f := TV.bl) (a := false) (fun _ => rfl) (e_const (e1 := TV.bl) (a := false) fun _ _ => .bl _)) (a_cons (e_coe1 (e1 := TV.str) (e := eA) (f := TV.str) (a := (Str.ofString "0")) (fun _ => rfl) (e_const (e1 := TV.str) (a := (Str.ofString "0")) fun _ _ => .str _)) (a_cons (e_coe1 (e1 := (eT TV.int)) (e := eA) (f := (eT TV.int)) (a := [(0 : Int)]) (fun _ => rfl) (e_tupT (e := (eT TV.int)) (t := (0 : Int)) (fun p : Int => [p]) 1 (fun _ => rfl) (fun _ => rfl) (by decide) (a_one (e_const (e1 := TV.int) (a := (0 : Int)) fun _ _ => .int _)))) (a_cons (e_coe1 (e1 := (eL TV.int)) (e := eA) (f := (eL TV.int)) (a := [(0 : Int)]) (fun _ => rfl) (ef_of (ef_lstT (e := TV.int) (t := (0 : Int)) (fun p : Int => [p]) 1 (fun _ => rfl) (fun _ => rfl) (by decide) (a_one (e_const (e1 := TV.int) (a := (0 : Int)) fun _ _ => .int _))))) (a_cons (e_coe1 (e1 := fun _ : Unit => TV.dct []) (e := eA) (f := fun _ => TV.dct []) (a := ()) (fun _ => rfl) e_dnew) (a_cons (e_coe (e1 := TV.int) (e := eA) (f := TV.int) (fun _ => rfl) (e_op1 (g := fun a b => powM a b) (a := (10 : Int)) (b := (50 : Int)) i_pow (e_const (e1 := TV.int) (a := (10 : Int)) fun _ _ => .int _) (e_const (e1 := TV.int) (a := (50 : Int)) fun _ _ => .int _))) (a_one (e_callSP t_law_deep (rfl : _ = some Sl.pt) a_nil))))))))))))))))) (e_var (i := 6) (e1 := TV.int) (a := v5.2) rfl)) (fun v43 => (.keep (.keep (.keep (.keep (.keep (.keep (.keep (.keep (.keep (.keep (.keep .nil)))))))))))))) (s_ifC (b_of (e_opT (h := fun a b => decide (a = b)) (a := v9.2) (b := (5 : Int)) (f_eqD Dat.int) (e_var (i := 8) (e1 := TV.int) (a := v9.2) rfl) (e_const (e1 := TV.int) (a := (5 : Int)) fun _ _ => .int _))) (s_seqC (s_set (i := 9) (e_callS (Pot.t_law_anyL (e := eA)) (rfl : _ = some Sl.pt) (a_one (ef_of (ef_lstM (e := eA) (fun p : TV × TV × TV × TV × TV × TV × TV => [p.1, p.2.1, p.2.2.1, p.2.2.2.1, p.2.2.2.2.1, p.2.2.2.2.2.1, p.2.2.2.2.2.2]) 7 (fun _ => rfl) (fun _ => rfl) (by decide) (a_cons (e_coe1 (e1 := (eT eA)) (e := eA) (f := (eT eA)) (a := ((cutL v9.1 (some (1 : Int)) none))) (fun _ => rfl) (e_callT (h := fun t => t) (t := (cutL v9.1 (some (1 : Int)) none)) f_tupL (a_one (ef_of (w_slL1 (i := 7) (e := eA) (xs := v9.1) rfl (o_some1 (e_const (e1 := TV.int) (a := (1 : Int)) fun _ _ => .int _)) o_none))))) (a_cons (e_coe (e1 := (eT eA)) (e := eA) (f := (eT eA)) (fun _ => rfl) (e_op1 (g := fun a b => catM a b) (a := v9.1) (b := [(eN ())]) t_cat (w_tup (i := 7) (e := eA) (xs := v9.1) rfl) (e_tupT (e := (eT eA)) (t := (eN ())) (fun p : TV => [p]) 1 (fun _ => rfl) (fun _ => rfl) (by decide) (a_one (e_coe1 (e1 := eN) (e := eA) (f := eN) (a := ()) (fun _ => rfl) (e_const (e1 := eN) (a := ()) fun _ _ => .non)))))) (a_cons (e_coe1 (e1 := (eL eA)) (e := eA) (f := (eL eA)) (a := v9.1) (fun _ => rfl) (ef_of (w_lst (i := 7) (e := eA) (xs := v9.1) rfl))) (a_cons (e_coe1 (e1 := eN) (e := eA) (f := eN) (a := ()) (fun _ => rfl) (e_const (e1 := eN) (a := ()) fun _ _ => .non)) (a_cons (e_coe1 (e1 := (eT TV.int)) (e := eA) (f := (eT TV.int)) (a := []) (fun _ => rfl) (e_tupT (e := (eT TV.int)) (fun _ : Unit => []) 0 (fun _ => rfl) (fun _ => rfl) (by decide) a_nil)) (a_cons (e_coe (e1 := (eT eA)) (e := eA) (f := (eT eA)) (fun _ => rfl) (e_op1 (g := fun a b => repM a b) (a := v9.1) (b := (2 : Int)) t_rep (w_tup (i := 7) (e := eA) (xs := v9.1) rfl) (e_const (e1 := TV.int) (a := (2 : Int)) fun _ _ => .int _))) (a_one (e_coe1 (e1 := TV.str) (e := eA) (f := TV.str) (a := (Str.ofString "abc")) (fun _ => rfl) (e_const (e1 := TV.str) (a := (Str.ofString "abc")) fun _ _ => .str _)))))))))))))) (fun v56 => (s_rtC (s_ret (e_coe (e1 := (eT eA)) (e := eA) (f := (eT eA)) (fun _ => rfl) (e_op t_cat (e_op1 (g := fun a b => catM a b) (a := ((List.map (eT (eO TV.int))) (cutL p.2 none (some v5.1)))) (b := [v56]) t_cat (e_coe1 (e1 := (eT (eT (eO TV.int)))) (e := (eT eA)) (f := (List.map (eT (eO TV.int)))) (a := (cutL p.2 none (some v5.1))) (fun _ => eT_A) (e_slT1 (e_var (i := 2) (e1 := (eT (eT (eO TV.int)))) (a := p.2) rfl) o_none (o_some1 (e_var (i := 5) (e1 := TV.int) (a := v5.1) rfl)))) (e_tupT (e := (eT eA)) (t := v56) (fun p : TV => [p]) 1 (fun _ => rfl) (fun _ => rfl) (by decide) (a_one (e_var (i := 9) (e1 := eA) (a := v56) rfl)))) (e_coe1 (e1 := (eT (eT (eO TV.int)))) (e := (eT eA)) (f := (List.map (eT (eO TV.int)))) (a := (cutL p.2 (some (v5.1 + (1 : Int))) none)) (fun _ => eT_A) (e_slT1 (e_var (i := 2) (e1 := (eT (eT (eO TV.int)))) (a := p.2) rfl) (o_some1 (e_opT (h := fun a b => a + b) (a := v5.1) (b := (1 : Int)) i_add (e_var (i := 5) (e1 := TV.int) (a := v5.1) rfl) (e_const (e1 := TV.int) (a := (1 : Int)) fun _ _ => .int _))) o_none)))))))) (s_ifC (b_of (e_opT (h := fun a b => decide (a = b)) (a := v9.2) (b := (6 : Int)) (f_eqD Dat.int) (e_var (i := 8) (e1 := TV.int) (a := v9.2) rfl) (e_const (e1 := TV.int) (a := (6 : Int)) fun _ _ => .int _))) (s_seqC (s_set (i := 10) (e_op t_cat (e_coe1 (e1 := (eT (eT (eO TV.int)))) (e := (eT eA)) (f := (List.map (eT (eO TV.int)))) (a := p.2) (fun _ => eT_A) (e_var (i := 2) (e1 := (eT (eT (eO TV.int)))) (a := p.2) rfl)) (e_tupM (e := (eT eA)) (fun p : TV => [p]) 1 (fun _ => rfl) (fun _ => rfl) (by decide) (a_one (e_coe (e1 := (eT eN)) (e := eA) (f := (eT eN)) (fun _ => rfl) (e_op1 (g := fun a b => repM a b) (a := [()]) (b := (p.1 + (1 : Int))) t_rep (e_tupT (e := (eT eN)) (t := ()) (fun p : Unit => [p]) 1 (fun _ => rfl) (fun _ => rfl) (by decide) (a_one (e_const (e1 := eN) (a := ()) fun _ _ => .non))) (e_opT (h := fun a b => a + b) (a := p.1) (b := (1 : Int)) i_add (e_var (i := 1) (e1 := TV.int) (a := p.1) rfl) (e_const (e1 := TV.int) (a := (1 : Int)) fun _ _ => .int _)))))))) (fun v61 => (s_rtC (s_ret (e_callS (Pot.t_law_anyL (e := eA)) (rfl : _ = some Sl.pt) (a_one (ef_of (ef_lstM (e := eA) (fun p : TV × TV × TV × TV × TV => [p.1, p.2.1, p.2.2.1, p.2.2.2.1, p.2.2.2.2]) 5 (fun _ => rfl) (fun _ => rfl) (by decide) (a_cons (e_coe1 (e1 := (eL (eT (eO TV.int)))) (e := eA) (f := (eL (eT (eO TV.int)))) (a := p.2) (fun _ => rfl) (ef_of (ef_callT (t := p.2) (f_lstT (e := (eT (eO TV.int)))) (a_one (e_var (i := 2) (e1 := (eT (eT (eO TV.int)))) (a := p.2) rfl))))) (a_cons (e_coe (e1 := (eT eA)) (e := eA) (f := (eT eA)) (fun _ => rfl) (e_op1 (g := fun a b => catM a b) (a := ((List.map (eT (eO TV.int))) p.2)) (b := [(eN ())]) t_cat (e_coe1 (e1 := (eT (eT (eO TV.int)))) (e := (eT eA)) (f := (List.map (eT (eO TV.int)))) (a := p.2) (fun _ => eT_A) (e_var (i := 2) (e1 := (eT (eT (eO TV.int)))) (a := p.2) rfl)) (e_tupT (e := (eT eA)) (t := (eN ())) (fun p : TV => [p]) 1 (fun _ => rfl) (fun _ => rfl) (by decide) (a_one (e_coe1 (e1 := eN) (e := eA) (f := eN) (a := ()) (fun _ => rfl) (e_const (e1 := eN) (a := ()) fun _ _ => .non)))))) (a_cons (e_coe1 (e1 := (eT eA)) (e := eA) (f := (eT eA)) (a := v61) (fun _ => rfl) (e_var (i := 10) (e1 := (eT eA)) (a := v61) rfl)) (a_cons (e_coe1 (e1 := (eT (eT (eT (eO TV.int))))) (e := eA) (f := (eT (eT (eT (eO TV.int))))) (a := [p.2]) (fun _ => rfl) (e_tupT (e := (eT (eT (eT (eO TV.int))))) (t := p.2) (fun p : (List (List (Option Int))) => [p]) 1 (fun _ => rfl) (fun _ => rfl) (by decide) (a_one (e_var (i := 2) (e1 := (eT (eT (eO TV.int)))) (a := p.2) rfl)))) (a_one (e_coe (e1 := (eT (eO TV.int))) (e := eA) (f := (eT (eO TV.int))) (fun _ => rfl) (e_op1 (g := fun a b => atM a b) (a := p.2) (b := (0 : Int)) f_ixT (e_var (i := 2) (e1 := (eT (eT (eO TV.int)))) (a := p.2) rfl) (e_const (e1 := TV.int) (a := (0 : Int)) fun _ _ => .int _)))))))))))))))) (s_ifC (b_of (e_opT (h := fun a b => decide (a = b)) (a := v9.2) (b := (7 : Int)) (f_eqD Dat.int) (e_var (i := 8) (e1 := TV.int) (a := v9.2) rfl) (e_const (e1 := TV.int) (a := (7 : Int)) fun _ _ => .int _))) (s_rtC (s_ret (e_coe (e1 := (eT (eT (eO TV.int)))) (e := eA) (f := (eT (eT (eO TV.int)))) (fun _ => rfl) (e_slT (e_op1 (g := fun a b => repM a b) (a := p.2) (b := (31 : Int)) t_rep (e_var (i := 2) (e1 := (eT (eT (eO TV.int)))) (a := p.2) rfl) (e_const (e1 := TV.int) (a := (31 : Int)) fun _ _ => .int _)) o_none (o_some (e_op i_add (e_const (e1 := TV.int) (a := (30 : Int)) fun _ _ => .int _) (e_callSP Pot.t_law_draw (rfl : _ = some Sl.pt) (a_one (e_const (e1 := TV.int) (a := (2 : Int)) fun _ _ => .int _))))))))) (s_rtC (s_ret (e_coe (e1 := (eT (eT (eO TV.int)))) (e := eA) (f := (eT (eT (eO TV.int)))) (fun _ => rfl) (e_op1 (g := fun a b => catM a b) (a := (List.reverse p.2)) (b := (cutL p.2 none (some (1 : Int)))) t_cat (e_revT1 (e_var (i := 2) (e1 := (eT (eT (eO TV.int)))) (a := p.2) rfl)) (e_slT1 (e_var (i := 2) (e1 := (eT (eT (eO TV.int)))) (a := p.2) rfl) o_none (o_some1 (e_const (e1 := TV.int) (a := (1 : Int)) fun _ _ => .int _)))))))))))) (fun z10 => (s_frzR (i := 7) rfl (s_ret (e_coe (e1 := (eT eA)) (e := eA) (f := (eT eA)) (fun _ => rfl) (e_op t_cat (e_op1 (g := fun a b => catM a b) (a := ((List.map (eT (eO TV.int))) (cutL p.2 none (some v5.1)))) (b := [((eT eA) (z10))]) t_cat (e_coe1 (e1 := (eT (eT (eO TV.int)))) (e := (eT eA)) (f := (List.map (eT (eO TV.int)))) (a := (cutL p.2 none (some v5.1))) (fun _ => eT_A) (e_slT1 (e_var (i := 2) (e1 := (eT (eT (eO TV.int)))) (a := p.2) rfl) o_none (o_some1 (e_var (i := 5) (e1 := TV.int) (a := v5.1) rfl)))) (e_tupT (e := (eT eA)) (t := ((eT eA) (z10))) (fun p : TV => [p]) 1 (fun _ => rfl) (fun _ => rfl) (by decide) (a_one (e_coe1 (e1 := (eT eA)) (e := eA) (f := (eT eA)) (a := (z10)) (fun _ => rfl) (e_callT (h := fun t => t) (t := z10) f_tupL (a_one (e_var (i := 7) (e1 := (eL eA)) (a := z10) rfl))))))) (e_coe1 (e1 := (eT (eT (eO TV.int)))) (e := (eT eA)) (f := (List.map (eT (eO TV.int)))) (a := (cutL p.2 (some (v5.1 + (1 : Int))) none)) (fun _ => eT_A) (e_slT1 (e_var (i := 2) (e1 := (eT (eT (eO TV.int)))) (a := p.2) rfl) (o_some1 (e_opT (h := fun a b => a + b) (a := v5.1) (b := (1 : Int)) i_add (e_var (i := 5) (e1 := TV.int) (a := v5.1) rfl) (e_const (e1 := TV.int) (a := (1 : Int)) fun _ _ => .int _))) o_none))))))))))))))
noncomputable def f_law_is_int (p : TV × Int × Int) : M Unit Bool :=
  (M.bind (lift (isiM "int" p.1)) fun c => if c then (M.bind (M.bind (lift (isiM "bool" p.1)) fun c => M.pure (!c)) fun c => if c then (M.bind (M.pure (TV.int p.2.1)) fun a1 => M.bind (M.pure p.1) fun b2 => M.bind (lift (cmpA (fun i j => decide (i ≤ j)) a1 b2)) fun k4 => if k4 then (M.bind (M.pure (TV.int p.2.2)) fun c3 => lift (cmpA (fun i j => decide (i ≤ j)) b2 c3)) else M.pure false) else M.pure false) else M.pure false)
theorem t_law_is_int : FnL m_law_is_int (fun p : TV × Int × Int => [eA p.1, TV.int p.2.1, TV.int p.2.2]) TV.bl f_law_is_int :=
  def_of (fun _ => rfl) (fun p => (s_ret (e_andB (e_isi (e_var (i := 0) (e1 := eA) (a := p.1) rfl)) (e_andB (e_notB (e_isi (e_var (i := 0) (e1 := eA) (a := p.1) rfl))) (e_chain a_le a_le (e_coe1 (e1 := TV.int) (e := eA) (f := TV.int) (a := p.2.1) (fun _ => rfl) (e_var (i := 1) (e1 := TV.int) (a := p.2.1) rfl)) (e_var (i := 0) (e1 := eA) (a := p.1) rfl) (e_coe1 (e1 := TV.int) (e := eA) (f := TV.int) (a := p.2.2) (fun _ => rfl) (e_var (i := 2) (e1 := TV.int) (a := p.2.2) rfl)))))))
noncomputable def f_law_is_lot (p : TV) : M Unit Bool :=
  (M.bind (M.bind (M.bind (lift (isiM "tuple" p)) fun c => M.pure (!c)) fun c => if c then M.pure true else (M.bind (M.bind (M.bind (lift (seqM p)) fun xs => compM (fun x1 : TV => (M.pure true)) (fun x1 => (lift (f_law_is_int (x1, ((0 : Int), (4 : Int)))))) xs) fun t2 => lift (M.pure (List.all t2 id))) fun c => M.pure (!c))) fun c => if c then (M.pure false) else (M.bind (M.bind (M.bind (M.bind (lift (asT p)) fun a6 => M.bind (M.bind (lift (asT p)) fun a3 => M.bind (M.pure (some (1 : Int))) fun l4 => M.bind (M.pure none) fun h5 => M.pure (cutL a3 l4 h5)) fun b7 => M.pure (a6, b7)) fun p => M.pure (List.zip p.1 p.2)) fun xs => compM (fun x8 : (TV × TV) => (M.pure true)) (fun x8 => (lift (cmpA (fun i j => decide (i < j)) x8.1 x8.2))) xs) fun t9 => lift (M.pure (List.all t9 id))))
theorem t_law_is_lot : FnL m_law_is_lot (fun p : TV => [eA p]) TV.bl f_law_is_lot :=
  def_of (fun _ => rfl) (fun p => (s_guardR (b_or (b_not (b_truB (e_isi (e_var (i := 0) (e1 := eA) (a := p) rfl)))) (b_not (b_truB (e_call f_all (a_one (ef_of (ef_comp (i_any1 (e_var (i := 0) (e1 := eA) (a := p) rfl)) (fun x1 => (g_name (i := 1))) (fun x1 => t_yes) (fun x1 => (e_callP t_law_is_int (a_cons1 (e_var (i := 1) (e1 := eA) (a := x1) rfl) (a_cons1 (e_const (e1 := TV.int) (a := (0 : Int)) fun _ _ => .int _) (a_one (e_const (e1 := TV.int) (a := (4 : Int)) fun _ _ => .int _))))))))))))) (s_ret (e_const (e1 := TV.bl) (a := false) fun _ _ => .bl _)) (s_ret (e_call f_all (a_one (ef_of (ef_comp (i_zipT (a_cons (e_asT1 (a := p) (e_var (i := 0) (e1 := eA) (a := p) rfl)) (a_one (e_slT (e_asT1 (a := p) (e_var (i := 0) (e1 := eA) (a := p) rfl)) (o_some1 (e_const (e1 := TV.int) (a := (1 : Int)) fun _ _ => .int _)) o_none)))) (fun x8 => (g_tup (gs_cons (g_name (i := 2)) (gs_cons (g_name (i := 3)) gs_nil)))) (fun x8 => t_yes) (fun x8 => (e_op1 (g := fun a b => cmpA (fun i j => decide (i < j)) a b) (a := x8.1) (b := x8.2) a_lt (e_var (i := 2) (e1 := eA) (a := x8.1) rfl) (e_var (i := 3) (e1 := eA) (a := x8.2) rfl))))))))))
noncomputable def f_law_is_row (p : TV × Int × TV) : M Unit Bool :=
  (M.bind (M.bind (M.bind (lift (isiM "tuple" p.1)) fun c => M.pure (!c)) fun c => if c then M.pure true else (M.bind (lift (lenM p.1)) fun a1 => M.bind (M.pure p.2.1) fun b2 => lift (M.pure (!decide (a1 = b2))))) fun c => if c then (M.pure false) else (thenR (M.bind (lift (rngM 0 p.2.1)) fun xs => forC (fun (st3 : Unit) (x4 : Int) => (M.bind (M.bind (M.bind (lift (ixT p.1 (TV.int x4))) fun a5 => M.bind (M.pure ()) fun b6 => lift (M.pure (!isNonT a5))) fun c => if c then (M.bind (M.bind (M.bind (M.bind (lift (ixT p.1 (TV.int x4))) fun a7 => M.bind (M.pure ((0 : Int), (p.2.1 - (1 : Int)))) fun b8 => M.pure (a7, b8)) fun t9 => lift (f_law_is_int t9)) fun c => M.pure (!c)) fun c => if c then M.pure true else (M.bind (lift (ixT p.1 (TV.int x4))) fun a10 => M.bind (M.pure (TV.int x4)) fun b11 => lift (eqT a10 b11))) else M.pure false) fun c => if c then (M.bind (M.pure false) fun v => M.pure (Ctl.rt v)) else (M.bind (M.bind (M.pure ()) fun v12 => M.pure ()) fun b => M.pure (Ctl.nx b)))) xs ()) fun v13 => (M.bind (M.bind (lift (seqM p.1)) fun xs => compM (fun x14 : TV => (M.pure true)) (fun x14 => (M.bind (M.pure (isNonT x14)) fun c => if c then M.pure true else (lift (inT x14 p.2.2)))) xs) fun t15 => lift (M.pure (List.all t15 id)))))
theorem t_law_is_row : FnL m_law_is_row (fun p : TV × Int × TV => [eA p.1, TV.int p.2.1, eA p.2.2]) TV.bl f_law_is_row :=
  def_of (fun _ => rfl) (fun p => (s_guardR (b_or (b_not (b_truB (e_isi (e_var (i := 0) (e1 := eA) (a := p.1) rfl)))) (b_of (e_op (f_neD Dat.int) (e_callP (g := fun t => lenM t) (t := p.1) f_len (a_one (e_var (i := 0) (e1 := eA) (a := p.1) rfl))) (e_var (i := 1) (e1 := TV.int) (a := p.2.1) rfl)))) (s_ret (e_const (e1 := TV.bl) (a := false) fun _ _ => .bl _)) (s_thenR (s_forC (Γl := fun st3 : Unit => [.va (eA p.1), .va (TV.int p.2.1), .va (eA p.2.2), .no, .no]) () (i_rangeP (i := p.2.1) (a_one (e_var (i := 1) (e1 := TV.int) (a := p.2.1) rfl))) (.keep (.keep (.keep (.keep (.keep .nil))))) (fun st3 x4 => (g_name (i := 3))) (fun st3 x4 => (s_ifC (b_and (b_of (e_op f_isNotA (e_op1 (g := fun a b => ixT a b) (a := p.1) (b := (TV.int x4)) f_ix (e_var (i := 0) (e1 := eA) (a := p.1) rfl) (e_coe1 (e1 := TV.int) (e := eA) (f := TV.int) (a := x4) (fun _ => rfl) (e_var (i := 3) (e1 := TV.int) (a := x4) rfl))) (e_const (e1 := eN) (a := ()) fun _ _ => .non))) (b_or (b_not (b_truB (e_call t_law_is_int (a_cons (e_op1 (g := fun a b => ixT a b) (a := p.1) (b := (TV.int x4)) f_ix (e_var (i := 0) (e1 := eA) (a := p.1) rfl) (e_coe1 (e1 := TV.int) (e := eA) (f := TV.int) (a := x4) (fun _ => rfl) (e_var (i := 3) (e1 := TV.int) (a := x4) rfl))) (a_cons1 (e_const (e1 := TV.int) (a := (0 : Int)) fun _ _ => .int _) (a_one (e_opT (h := fun a b => a - b) (a := p.2.1) (b := (1 : Int)) i_sub (e_var (i := 1) (e1 := TV.int) (a := p.2.1) rfl) (e_const (e1 := TV.int) (a := (1 : Int)) fun _ _ => .int _)))))))) (b_of (e_op f_eq (e_op1 (g := fun a b => ixT a b) (a := p.1) (b := (TV.int x4)) f_ix (e_var (i := 0) (e1 := eA) (a := p.1) rfl) (e_coe1 (e1 := TV.int) (e := eA) (f := TV.int) (a := x4) (fun _ => rfl) (e_var (i := 3) (e1 := TV.int) (a := x4) rfl))) (e_coe1 (e1 := TV.int) (e := eA) (f := TV.int) (a := x4) (fun _ => rfl) (e_var (i := 3) (e1 := TV.int) (a := x4) rfl)))))) (s_rtC (s_ret (e_const (e1 := TV.bl) (a := false) fun _ _ => .bl _))) (s_toC (s_map (fun v12 => ()) s_pass (fun v12 => (.keep (.keep (.keep (.drop (.keep .nil))))))))))) (fun v13 => (s_ret (e_call f_all (a_one (ef_of (ef_comp (i_any1 (e_var (i := 0) (e1 := eA) (a := p.1) rfl)) (fun x14 => (g_name (i := 4))) (fun x14 => t_yes) (fun x14 => (e_orB (e_opT (h := fun a b => isNonT a) (a := x14) (b := ()) f_isA (e_var (i := 4) (e1 := eA) (a := x14) rfl) (e_const (e1 := eN) (a := ()) fun _ _ => .non)) (e_op1 (g := fun a b => inT a b) (a := x14) (b := p.2.2) f_in (e_var (i := 4) (e1 := eA) (a := x14) rfl) (e_var (i := 2) (e1 := eA) (a := p.2.2) rfl)))))))))))))
noncomputable def f_law_is_sparing (p : TV × TV) : M Unit Bool :=
  (M.bind (M.bind (M.bind (lift (isiM "tuple" p.2)) fun c => M.pure (!c)) fun c => if c then M.pure true else (M.bind (lift (lenM p.2)) fun a1 => M.bind (M.pure (30 : Int)) fun b2 => lift (M.pure (decide (a1 > b2))))) fun c => if c then (M.pure false) else (thenR (M.bind (M.pure [(3 : Int), (4 : Int), (5 : Int)]) fun xs => forC (fun (st3 : Unit) (x4 : Int) => (M.bind (M.bind (M.bind (lift (seqM p.2)) fun xs => compM (fun x5 : TV => (M.pure true)) (fun x5 => (lift (f_law_is_row (x5, (x4, p.1))))) xs) fun t6 => lift (M.pure (List.all t6 id))) fun c => if c then (M.bind (M.pure true) fun v => M.pure (Ctl.rt v)) else (M.bind (M.bind (M.pure ()) fun v7 => M.pure ()) fun b => M.pure (Ctl.nx b)))) xs ()) fun v8 => (M.pure false)))
theorem t_law_is_sparing : FnL m_law_is_sparing (fun p : TV × TV => [eA p.1, eA p.2]) TV.bl f_law_is_sparing :=
  def_of (fun _ => rfl) (fun p => (s_guardR (b_or (b_not (b_truB (e_isi (e_var (i := 1) (e1 := eA) (a := p.2) rfl)))) (b_of (e_op i_gt (e_callP (g := fun t => lenM t) (t := p.2) f_len (a_one (e_var (i := 1) (e1 := eA) (a := p.2) rfl))) (e_const (e1 := TV.int) (a := (30 : Int)) fun _ _ => .int _)))) (s_ret (e_const (e1 := TV.bl) (a := false) fun _ _ => .bl _)) (s_thenR (s_forC (Γl := fun st3 : Unit => [.va (eA p.1), .va (eA p.2), .no, .no]) () (i_lst1 (ef_of (ef_lstT (e := TV.int) (t := ((3 : Int), ((4 : Int), (5 : Int)))) (fun p : Int × Int × Int => [p.1, p.2.1, p.2.2]) 3 (fun _ => rfl) (fun _ => rfl) (by decide) (a_cons1 (e_const (e1 := TV.int) (a := (3 : Int)) fun _ _ => .int _) (a_cons1 (e_const (e1 := TV.int) (a := (4 : Int)) fun _ _ => .int _) (a_one (e_const (e1 := TV.int) (a := (5 : Int)) fun _ _ => .int _))))))) (.keep (.keep (.keep (.keep .nil)))) (fun st3 x4 => (g_name (i := 2))) (fun st3 x4 => (s_ifC (b_truB (e_call f_all (a_one (ef_of (ef_comp (i_any1 (e_var (i := 1) (e1 := eA) (a := p.2) rfl)) (fun x5 => (g_name (i := 3))) (fun x5 => t_yes) (fun x5 => (e_callP t_law_is_row (a_cons1 (e_var (i := 3) (e1 := eA) (a := x5) rfl) (a_cons1 (e_var (i := 2) (e1 := TV.int) (a := x4) rfl) (a_one (e_var (i := 0) (e1 := eA) (a := p.1) rfl))))))))))) (s_rtC (s_ret (e_const (e1 := TV.bl) (a := true) fun _ _ => .bl _))) (s_toC (s_map (fun v7 => ()) s_pass (fun v7 => (.keep (.keep (.drop (.keep .nil)))))))))) (fun v8 => (s_ret (e_const (e1 := TV.bl) (a := false) fun _ _ => .bl _))))))
noncomputable def f_law_told (mg : Str → Option Value) (p : TV × TV) : M Unit (Str × (Option Bool)) :=
  (tryM (clsOf mg "NoLot") (M.bind (M.bind (M.pure (Str.ofString "let")) fun a1 => M.bind (M.bind (lift (f_is_sparing mg (p.1, p.2))) fun a => M.pure (some a)) fun b2 => M.pure (a1, b2)) fun p => M.pure p) (M.pure ((if ((!false) && true) then (Str.ofString "lot") else (Str.ofString "other")), ((fun _ => none) ()))))
theorem t_law_told {mg : Str → Option Value} : FnL (m_law_told mg) (fun p : TV × TV => [eA p.1, eA p.2]) (eP TV.str (eO TV.bl)) (f_law_told mg) :=
  def_of (fun _ => rfl) (fun p => (s_tryR (e_tupM (e := (eP TV.str (eO TV.bl))) (fun p => p) 2 (fun _ => rfl) (fun _ => rfl) (by decide) (a_cons (e_const (e1 := TV.str) (a := (Str.ofString "let")) fun _ _ => .str _) (a_one (e_coe (e1 := TV.bl) (e := (eO TV.bl)) (f := some) (fun _ => rfl) (e_callP t_is_sparing (a_cons1 (e_var (i := 0) (e1 := eA) (a := p.1) rfl) (a_one (e_var (i := 1) (e1 := eA) (a := p.2) rfl)))))))) (s_ret (e_tupT (e := (eP TV.str (eO TV.bl))) (t := ((if ((!false) && true) then (Str.ofString "lot") else (Str.ofString "other")), ((fun _ => none) ()))) (fun p => p) 2 (fun _ => rfl) (fun _ => rfl) (by decide) (a_cons1 (e_ifE1 (b_and1 (b_not1 (b_truB (e_const (e1 := TV.bl) (a := false) fun _ _ => .bl _))) (b_truB (e_const (e1 := TV.bl) (a := true) fun _ _ => .bl _))) (e_const (e1 := TV.str) (a := (Str.ofString "lot")) fun _ _ => .str _) (e_const (e1 := TV.str) (a := (Str.ofString "other")) fun _ _ => .str _)) (a_one (e_coe1 (e1 := eN) (e := (eO TV.bl)) (f := (fun _ => none)) (a := ()) (fun _ => rfl) (e_const (e1 := eN) (a := ()) fun _ _ => .non))))))))
noncomputable def f_law (mg : Str → Option Value) (cs : List Int) : M (Pot.PotS cs) Bool :=
  (thenR (M.bind (lift (rngM 0 (10 : Int))) fun xs => forC (fun (st1 : Unit) (x2 : Int) => (M.bind (M.bind (M.bind (M.pure (3 : Int)) fun a3 => M.bind (Pot.drawM cs (3 : Int)) fun b4 => lift (M.pure (a3 + b4))) fun a7 => M.bind (M.bind (Pot.anyM cs [(0 : Int), (1 : Int), (2 : Int), (2 : Int), (5 : Int), (30 : Int)]) fun a5 => M.bind (f_law_some cs ()) fun b6 => M.pure (a5, b6)) fun b8 => M.pure (a7, b8)) fun v9 => (M.bind (f_law_pattern cs (v9.1, (v9.2.1, v9.2.2))) fun v10 => (M.bind (M.bind (M.bind (M.bind (lift (f_law_told mg (((eT TV.int) v9.2.2), ((eT (eT (eO TV.int))) v10)))) fun t11 => lift (reprM ((eP TV.str (eO TV.bl)) t11))) fun a => M.pure (TV.str a)) fun a12 => M.bind (M.bind (lift (reprM ((eP TV.str TV.bl) ((Str.ofString "let"), true)))) fun a => M.pure (TV.str a)) fun b13 => lift (M.bind (eqT a12 b13) fun c => M.pure (!c))) fun c => if c then (M.bind (M.pure false) fun v => M.pure (Ctl.rt v)) else (thenC (M.bind (M.bind (Pot.drawM cs (3 : Int)) fun t14 => lift (rngM 0 t14)) fun xs => forC (fun (st15 : Unit) (x16 : Int) => (M.bind (f_law_bent cs (v9.1, v10)) fun v17 => (M.bind (M.bind (M.bind (M.bind (lift (f_law_told mg (((eT TV.int) v9.2.2), v17))) fun t18 => lift (reprM ((eP TV.str (eO TV.bl)) t18))) fun a => M.pure (TV.str a)) fun a22 => M.bind (M.bind (M.bind (M.bind (M.bind (M.pure (Str.ofString "let")) fun a19 => M.bind (lift (f_law_is_sparing (((eT TV.int) v9.2.2), v17))) fun b20 => M.pure (a19, b20)) fun p => M.pure p) fun t21 => lift (reprM ((eP TV.str TV.bl) t21))) fun a => M.pure (TV.str a)) fun b23 => lift (M.bind (eqT a22 b23) fun c => M.pure (!c))) fun c => if c then (M.bind (M.pure false) fun v => M.pure (Ctl.rt v)) else (M.bind (M.bind (M.pure ()) fun v24 => M.pure ()) fun b => M.pure (Ctl.nx b))))) xs ()) fun v25 => (M.bind (M.bind (M.bind (M.pure ((eT TV.int) (List.reverse v9.2.2))) fun a34 => M.bind (M.bind (M.bind (lift (catM v9.2.2 [(5 : Int)])) fun a => M.pure ((eT TV.int) a)) fun a32 => M.bind (M.bind (M.bind (lift (catM v9.2.2 (cutL v9.2.2 (some (-(1 : Int))) none))) fun a => M.pure ((eT TV.int) a)) fun a30 => M.bind (M.bind (M.pure ((eL TV.int) v9.2.2)) fun a28 => M.bind (M.bind (M.bind (lift (catM [(-(1 : Int))] v9.2.2)) fun a => M.pure ((eT TV.int) a)) fun a26 => M.bind (M.pure (((eT TV.bl) [true]), (((eP TV.bl TV.int) (false, (1 : Int))), ((eT TV.str) [(Str.ofString "0")])))) fun b27 => M.pure (a26, b27)) fun b29 => M.pure (a28, b29)) fun b31 => M.pure (a30, b31)) fun b33 => M.pure (a32, b33)) fun b35 => M.pure (a34, b35)) fun p => M.pure [p.1, p.2.1, p.2.2.1, p.2.2.2.1, p.2.2.2.2.1, p.2.2.2.2.2.1, p.2.2.2.2.2.2.1, p.2.2.2.2.2.2.2]) fun v36 => (M.bind (M.bind (M.bind (M.pure v36) fun a55 => M.bind (M.bind (M.bind (M.pure (eN ())) fun a53 => M.bind (M.bind (M.pure (TV.int (3 : Int))) fun a51 => M.bind (M.bind (M.pure (TV.str (Str.ofString ""))) fun a49 => M.bind (M.bind (M.pure (TV.str (Str.ofString "01"))) fun a47 => M.bind (M.bind (M.pure (TV.dct [])) fun a45 => M.bind (M.bind (M.pure ((fun a : Int => TV.dct [(kT (.inl 0), TV.int a)]) (1 : Int))) fun a43 => M.bind (M.bind (M.pure ((eT (eT TV.int)) [[(0 : Int)]])) fun a41 => M.bind (M.bind (M.pure ((eP TV.int eN) ((0 : Int), ()))) fun a39 => M.bind (M.bind (f_law_deep cs ()) fun a37 => M.bind (M.bind (M.bind (lift (powM (10 : Int) (30 : Int))) fun p => M.pure [p]) fun a => M.pure ((eT TV.int) a)) fun b38 => M.pure (a37, b38)) fun b40 => M.pure (a39, b40)) fun b42 => M.pure (a41, b42)) fun b44 => M.pure (a43, b44)) fun b46 => M.pure (a45, b46)) fun b48 => M.pure (a47, b48)) fun b50 => M.pure (a49, b50)) fun b52 => M.pure (a51, b52)) fun b54 => M.pure (a53, b54)) fun p => M.pure [p.1, p.2.1, p.2.2.1, p.2.2.2.1, p.2.2.2.2.1, p.2.2.2.2.2.1, p.2.2.2.2.2.2.1, p.2.2.2.2.2.2.2.1, p.2.2.2.2.2.2.2.2.1, p.2.2.2.2.2.2.2.2.2]) fun b56 => lift (catM a55 b56)) (Pot.anyM cs)) fun v57 => (M.bind (M.bind (lift (f_law_is_lot v57)) fun c => if c then (M.bind (M.bind (M.bind (M.pure (Str.ofString "let")) fun a58 => M.bind (lift (f_law_is_sparing (v57, ((eT (eT (eO TV.int))) v10)))) fun b59 => M.pure (a58, b59)) fun p => M.pure p) fun a => M.pure ((eP TV.str TV.bl) a)) else (M.pure ((eP TV.str eN) ((Str.ofString "lot"), ())))) fun v60 => (M.bind (M.bind (M.bind (M.bind (lift (f_law_told mg (v57, ((eT (eT (eO TV.int))) v10)))) fun t61 => lift (reprM ((eP TV.str (eO TV.bl)) t61))) fun a => M.pure (TV.str a)) fun a62 => M.bind (M.bind (lift (reprM (eA v60))) fun a => M.pure (TV.str a)) fun b63 => lift (M.bind (eqT a62 b63) fun c => M.pure (!c))) fun c => if c then (M.bind (M.pure false) fun v => M.pure (Ctl.rt v)) else (M.bind (M.bind (M.bind (lift (f_law_is_lot v57)) fun c => M.pure (!c)) fun c => if c then (M.bind (M.bind (M.bind (M.bind (M.pure v57) fun a64 => M.bind (f_law_bent cs (v9.1, v10)) fun b65 => M.pure (a64, b65)) fun t66 => lift (f_law_told mg t66)) fun a => M.pure ((eP TV.str (eO TV.bl)) a)) fun a67 => M.bind (M.pure ((eP TV.str eN) ((Str.ofString "lot"), ()))) fun b68 => lift (M.bind (eqT a67 b68) fun c => M.pure (!c))) else M.pure false) fun c => if c then (M.bind (M.pure false) fun v => M.pure (Ctl.rt v)) else (M.bind (M.bind (M.pure ()) fun v69 => M.pure ()) fun b => M.pure (Ctl.nx b)))))))))))) xs ()) fun v70 => (M.pure true))
theorem t_law {mg : Str → Option Value} {sl : AO} {cs : List Int} : SR (Pot.potMd sl cs) (.no :: .pt :: List.replicate 9 .no) (b_law1 mg) TV.bl (f_law mg cs) :=
  (s_thenR (s_forC (Γl := fun st1 : Unit => [.no, .pt, .no, .no, .no, .no, .no, .no, .no, .no, .no]) () (i_rangeP (i := (10 : Int)) (a_one (e_const (e1 := TV.int) (a := (10 : Int)) fun _ _ => .int _))) (.keep (.keep (.keep (.keep (.keep (.keep (.keep (.keep (.keep (.keep (.keep .nil))))))))))) (fun st1 x2 => (g_name (i := 2))) (fun st1 x2 => (s_seqC (s_par3 (i := 3) (j := 4) (l := 5) (e1 := fun p : Int × Int × (List Int) => TV.int p.1) (e2 := fun p => TV.int p.2.1) (e3 := fun p => (eT TV.int) p.2.2) (a_cons (e_op i_add (e_const (e1 := TV.int) (a := (3 : Int)) fun _ _ => .int _) (e_callSP Pot.t_law_draw (rfl : _ = some Sl.pt) (a_one (e_const (e1 := TV.int) (a := (3 : Int)) fun _ _ => .int _)))) (a_cons (e_callSP (Pot.t_law_anyL (e := TV.int)) (rfl : _ = some Sl.pt) (a_one (ef_of (ef_lstT (e := TV.int) (t := ((0 : Int), ((1 : Int), ((2 : Int), ((2 : Int), ((5 : Int), (30 : Int))))))) (fun p : Int × Int × Int × Int × Int × Int => [p.1, p.2.1, p.2.2.1, p.2.2.2.1, p.2.2.2.2.1, p.2.2.2.2.2]) 6 (fun _ => rfl) (fun _ => rfl) (by decide) (a_cons1 (e_const (e1 := TV.int) (a := (0 : Int)) fun _ _ => .int _) (a_cons1 (e_const (e1 := TV.int) (a := (1 : Int)) fun _ _ => .int _) (a_cons1 (e_const (e1 := TV.int) (a := (2 : Int)) fun _ _ => .int _) (a_cons1 (e_const (e1 := TV.int) (a := (2 : Int)) fun _ _ => .int _) (a_cons1 (e_const (e1 := TV.int) (a := (5 : Int)) fun _ _ => .int _) (a_one (e_const (e1 := TV.int) (a := (30 : Int)) fun _ _ => .int _))))))))))) (a_one (e_callSP t_law_some (rfl : _ = some Sl.pt) a_nil))))) (fun v9 => (s_seqC (s_set (i := 6) (e_callSP t_law_pattern (rfl : _ = some Sl.pt) (a_cons1 (e_var (i := 3) (e1 := TV.int) (a := v9.1) rfl) (a_cons1 (e_var (i := 4) (e1 := TV.int) (a := v9.2.1) rfl) (a_one (e_var (i := 5) (e1 := (eT TV.int)) (a := v9.2.2) rfl)))))) (fun v10 => (s_guardC (b_of (e_op f_ne (e_coe (e1 := TV.str) (e := eA) (f := TV.str) (fun _ => rfl) (e_call (FnL.of1 f_repr (eP TV.str (eO TV.bl))) (a_one (e_callP t_law_told (a_cons1 (e_coe1 (e1 := (eT TV.int)) (e := eA) (f := (eT TV.int)) (a := v9.2.2) (fun _ => rfl) (e_var (i := 5) (e1 := (eT TV.int)) (a := v9.2.2) rfl)) (a_one (e_coe1 (e1 := (eT (eT (eO TV.int)))) (e := eA) (f := (eT (eT (eO TV.int)))) (a := v10) (fun _ => rfl) (e_var (i := 6) (e1 := (eT (eT (eO TV.int)))) (a := v10) rfl)))))))) (e_coe (e1 := TV.str) (e := eA) (f := TV.str) (fun _ => rfl) (e_callP (g := fun t => reprM ((eP TV.str TV.bl) t)) (t := ((Str.ofString "let"), true)) (FnL.of1 f_repr (eP TV.str TV.bl)) (a_one (e_tupT (e := (eP TV.str TV.bl)) (t := ((Str.ofString "let"), true)) (fun p => p) 2 (fun _ => rfl) (fun _ => rfl) (by decide) (a_cons1 (e_const (e1 := TV.str) (a := (Str.ofString "let")) fun _ _ => .str _) (a_one (e_const (e1 := TV.bl) (a := true) fun _ _ => .bl _))))))))) (s_ret (e_const (e1 := TV.bl) (a := false) fun _ _ => .bl _)) (s_thenC (s_forC (Γl := fun st15 : Unit => [.no, .pt, .va (TV.int x2), .va (TV.int v9.1), .va (TV.int v9.2.1), .va ((eT TV.int) v9.2.2), .va ((eT (eT (eO TV.int))) v10), .no, .no, .no, .no]) () (i_range (a_one (e_callSP Pot.t_law_draw (rfl : _ = some Sl.pt) (a_one (e_const (e1 := TV.int) (a := (3 : Int)) fun _ _ => .int _))))) (.keep (.keep (.keep (.keep (.keep (.keep (.keep (.keep (.keep (.keep (.keep .nil))))))))))) (fun st15 x16 => (g_name (i := 7))) (fun st15 x16 => (s_seqC (s_set (i := 8) (e_callSP t_law_bent (rfl : _ = some Sl.pt) (a_cons1 (e_var (i := 3) (e1 := TV.int) (a := v9.1) rfl) (a_one (e_var (i := 6) (e1 := (eT (eT (eO TV.int)))) (a := v10) rfl))))) (fun v17 => (s_ifC (b_of (e_op f_ne (e_coe (e1 := TV.str) (e := eA) (f := TV.str) (fun _ => rfl) (e_call (FnL.of1 f_repr (eP TV.str (eO TV.bl))) (a_one (e_callP t_law_told (a_cons1 (e_coe1 (e1 := (eT TV.int)) (e := eA) (f := (eT TV.int)) (a := v9.2.2) (fun _ => rfl) (e_var (i := 5) (e1 := (eT TV.int)) (a := v9.2.2) rfl)) (a_one (e_var (i := 8) (e1 := eA) (a := v17) rfl))))))) (e_coe (e1 := TV.str) (e := eA) (f := TV.str) (fun _ => rfl) (e_call (FnL.of1 f_repr (eP TV.str TV.bl)) (a_one (e_tupM (e := (eP TV.str TV.bl)) (fun p => p) 2 (fun _ => rfl) (fun _ => rfl) (by decide) (a_cons (e_const (e1 := TV.str) (a := (Str.ofString "let")) fun _ _ => .str _) (a_one (e_callP t_law_is_sparing (a_cons1 (e_coe1 (e1 := (eT TV.int)) (e := eA) (f := (eT TV.int)) (a := v9.2.2) (fun _ => rfl) (e_var (i := 5) (e1 := (eT TV.int)) (a := v9.2.2) rfl)) (a_one (e_var (i := 8) (e1 := eA) (a := v17) rfl)))))))))))) (s_rtC (s_ret (e_const (e1 := TV.bl) (a := false) fun _ _ => .bl _))) (s_toC (s_map (fun v24 => ()) s_pass (fun v24 => (.keep (.keep (.keep (.keep (.keep (.keep (.keep (.drop (.drop (.keep (.keep .nil))))))))))))))))))) (fun v25 => (s_seqC (s_set (i := 9) (ef_of (ef_lstM (e := eA) (fun p : TV × TV × TV × TV × TV × TV × TV × TV => [p.1, p.2.1, p.2.2.1, p.2.2.2.1, p.2.2.2.2.1, p.2.2.2.2.2.1, p.2.2.2.2.2.2.1, p.2.2.2.2.2.2.2]) 8 (fun _ => rfl) (fun _ => rfl) (by decide) (a_cons (e_coe1 (e1 := (eT TV.int)) (e := eA) (f := (eT TV.int)) (a := (List.reverse v9.2.2)) (fun _ => rfl) (e_revT1 (e_var (i := 5) (e1 := (eT TV.int)) (a := v9.2.2) rfl))) (a_cons (e_coe (e1 := (eT TV.int)) (e := eA) (f := (eT TV.int)) (fun _ => rfl) (e_op1 (g := fun a b => catM a b) (a := v9.2.2) (b := [(5 : Int)]) t_cat (e_var (i := 5) (e1 := (eT TV.int)) (a := v9.2.2) rfl) (e_tupT (e := (eT TV.int)) (t := (5 : Int)) (fun p : Int => [p]) 1 (fun _ => rfl) (fun _ => rfl) (by decide) (a_one (e_const (e1 := TV.int) (a := (5 : Int)) fun _ _ => .int _))))) (a_cons (e_coe (e1 := (eT TV.int)) (e := eA) (f := (eT TV.int)) (fun _ => rfl) (e_op1 (g := fun a b => catM a b) (a := v9.2.2) (b := (cutL v9.2.2 (some (-(1 : Int))) none)) t_cat (e_var (i := 5) (e1 := (eT TV.int)) (a := v9.2.2) rfl) (e_slT1 (e_var (i := 5) (e1 := (eT TV.int)) (a := v9.2.2) rfl) (o_some1 (e_unT (h := fun a => -a) (a := (1 : Int)) i_neg (e_const (e1 := TV.int) (a := (1 : Int)) fun _ _ => .int _))) o_none))) (a_cons (e_coe1 (e1 := (eL TV.int)) (e := eA) (f := (eL TV.int)) (a := v9.2.2) (fun _ => rfl) (ef_of (ef_callT (t := v9.2.2) (f_lstT (e := TV.int)) (a_one (e_var (i := 5) (e1 := (eT TV.int)) (a := v9.2.2) rfl))))) (a_cons (e_coe (e1 := (eT TV.int)) (e := eA) (f := (eT TV.int)) (fun _ => rfl) (e_op1 (g := fun a b => catM a b) (a := [(-(1 : Int))]) (b := v9.2.2) t_cat (e_tupT (e := (eT TV.int)) (t := (-(1 : Int))) (fun p : Int => [p]) 1 (fun _ => rfl) (fun _ => rfl) (by decide) (a_one (e_unT (h := fun a => -a) (a := (1 : Int)) i_neg (e_const (e1 := TV.int) (a := (1 : Int)) fun _ _ => .int _)))) (e_var (i := 5) (e1 := (eT TV.int)) (a := v9.2.2) rfl))) (a_cons1 (e_coe1 (e1 := (eT TV.bl)) (e := eA) (f := (eT TV.bl)) (a := [true]) (fun _ => rfl) (e_tupT (e := (eT TV.bl)) (t := true) (fun p : Bool => [p]) 1 (fun _ => rfl) (fun _ => rfl) (by decide) (a_one (e_const (e1 := TV.bl) (a := true) fun _ _ => .bl _)))) (a_cons1 (e_coe1 (e1 := (eP TV.bl TV.int)) (e := eA) (f := (eP TV.bl TV.int)) (a := (false, (1 : Int))) (fun _ => rfl) (e_tupT (e := (eP TV.bl TV.int)) (t := (false, (1 : Int))) (fun p => p) 2 (fun _ => rfl) (fun _ => rfl) (by decide) (a_cons1 (e_const (e1 := TV.bl) (a := false) fun _ _ => .bl _) (a_one (e_const (e1 := TV.int) (a := (1 : Int)) fun _ _ => .int _))))) (a_one (e_coe1 (e1 := (eT TV.str)) (e := eA) (f := (eT TV.str)) (a := [(Str.ofString "0")]) (fun _ => rfl) (e_tupT (e := (eT TV.str)) (t := (Str.ofString "0")) (fun p : Str => [p]) 1 (fun _ => rfl) (fun _ => rfl) (by decide) (a_one (e_const (e1 := TV.str) (a := (Str.ofString "0")) fun _ _ => .str _))))))))))))))) (fun v36 => (s_seqC (s_set (i := 9) (e_callS (Pot.t_law_anyL (e := eA)) (rfl : _ = some Sl.pt) (a_one (l_cat (e_var (i := 9) (e1 := (eL eA)) (a := v36) rfl) (ef_of (ef_lstM (e := eA) (fun p : TV × TV × TV × TV × TV × TV × TV × TV × TV × TV => [p.1, p.2.1, p.2.2.1, p.2.2.2.1, p.2.2.2.2.1, p.2.2.2.2.2.1, p.2.2.2.2.2.2.1, p.2.2.2.2.2.2.2.1, p.2.2.2.2.2.2.2.2.1, p.2.2.2.2.2.2.2.2.2]) 10 (fun _ => rfl) (fun _ => rfl) (by decide) (a_cons (e_coe1 (e1 := eN) (e := eA) (f := eN) (a := ()) (fun _ => rfl) (e_const (e1 := eN) (a := ()) fun _ _ => .non)) (a_cons (e_coe1 (e1 := TV.int) (e := eA) (f := TV.int) (a := (3 : Int)) (fun _ => rfl) (e_const (e1 := TV.int) (a := (3 : Int)) fun _ _ => .int _)) (a_cons (e_coe1 (e1 := TV.str) (e := eA) (f := TV.str) (a := (Str.ofString "")) (fun _ => rfl) (e_const (e1 := TV.str) (a := (Str.ofString "")) fun _ _ => .str _)) (a_cons (e_coe1 (e1 := TV.str) (e := eA) (f := TV.str) (a := (Str.ofString "01")) (fun _ => rfl) (e_const (e1 := TV.str) (a := (Str.ofString "01")) fun _ _ => .str _)) (a_cons (e_coe1 (e1 := fun _ : Unit => TV.dct []) (e := eA) (f := fun _ => TV.dct []) (a := ()) (fun _ => rfl) e_dnew) (a_cons (e_coe1 (e1 := (fun a : Int => TV.dct [(kT (.inl 0), TV.int a)])) (e := eA) (f := (fun a : Int => TV.dct [(kT (.inl 0), TV.int a)])) (a := (1 : Int)) (fun _ => rfl) (e_dispC (k := (.inl 0)) (e := TV.int) fun _ _ => .int _)) (a_cons (e_coe1 (e1 := (eT (eT TV.int))) (e := eA) (f := (eT (eT TV.int))) (a := [[(0 : Int)]]) (fun _ => rfl) (e_tupT (e := (eT (eT TV.int))) (t := [(0 : Int)]) (fun p : (List Int) => [p]) 1 (fun _ => rfl) (fun _ => rfl) (by decide) (a_one (e_tupT (e := (eT TV.int)) (t := (0 : Int)) (fun p : Int => [p]) 1 (fun _ => rfl) (fun _ => rfl) (by decide) (a_one (e_const (e1 := TV.int) (a := (0 : Int)) fun _ _ => .int _)))))) (a_cons (e_coe1 (e1 := (eP TV.int eN)) (e := eA) (f := (eP TV.int eN)) (a := ((0 : Int), ())) (fun _ => rfl) (e_tupT (e := (eP TV.int eN)) (t := ((0 : Int), ())) (fun p => p) 2 (fun _ => rfl) (fun _ => rfl) (by decide) (a_cons1 (e_const (e1 := TV.int) (a := (0 : Int)) fun _ _ => .int _) (a_one (e_const (e1 := eN) (a := ()) fun _ _ => .non))))) (a_cons (e_callSP t_law_deep (rfl : _ = some Sl.pt) a_nil) (a_one (e_coe (e1 := (eT TV.int)) (e := eA) (f := (eT TV.int)) (fun _ => rfl) (e_tupM (e := (eT TV.int)) (fun p : Int => [p]) 1 (fun _ => rfl) (fun _ => rfl) (by decide) (a_one (e_op1 (g := fun a b => powM a b) (a := (10 : Int)) (b := (30 : Int)) i_pow (e_const (e1 := TV.int) (a := (10 : Int)) fun _ _ => .int _) (e_const (e1 := TV.int) (a := (30 : Int)) fun _ _ => .int _))))))))))))))))))))) (fun v57 => (s_seqC (s_set (i := 10) (e_ifE (b_truB (e_callP t_law_is_lot (a_one (e_var (i := 9) (e1 := eA) (a := v57) rfl)))) (e_coe (e1 := (eP TV.str TV.bl)) (e := eA) (f := (eP TV.str TV.bl)) (fun _ => rfl) (e_tupM (e := (eP TV.str TV.bl)) (fun p => p) 2 (fun _ => rfl) (fun _ => rfl) (by decide) (a_cons (e_const (e1 := TV.str) (a := (Str.ofString "let")) fun _ _ => .str _) (a_one (e_callP t_law_is_sparing (a_cons1 (e_var (i := 9) (e1 := eA) (a := v57) rfl) (a_one (e_coe1 (e1 := (eT (eT (eO TV.int)))) (e := eA) (f := (eT (eT (eO TV.int)))) (a := v10) (fun _ => rfl) (e_var (i := 6) (e1 := (eT (eT (eO TV.int)))) (a := v10) rfl))))))))) (e_coe1 (e1 := (eP TV.str eN)) (e := eA) (f := (eP TV.str eN)) (a := ((Str.ofString "lot"), ())) (fun _ => rfl) (e_tupT (e := (eP TV.str eN)) (t := ((Str.ofString "lot"), ())) (fun p => p) 2 (fun _ => rfl) (fun _ => rfl) (by decide) (a_cons1 (e_const (e1 := TV.str) (a := (Str.ofString "lot")) fun _ _ => .str _) (a_one (e_const (e1 := eN) (a := ()) fun _ _ => .non))))))) (fun v60 => (s_guardC (b_of (e_op f_ne (e_coe (e1 := TV.str) (e := eA) (f := TV.str) (fun _ => rfl) (e_call (FnL.of1 f_repr (eP TV.str (eO TV.bl))) (a_one (e_callP t_law_told (a_cons1 (e_var (i := 9) (e1 := eA) (a := v57) rfl) (a_one (e_coe1 (e1 := (eT (eT (eO TV.int)))) (e := eA) (f := (eT (eT (eO TV.int)))) (a := v10) (fun _ => rfl) (e_var (i := 6) (e1 := (eT (eT (eO TV.int)))) (a := v10) rfl)))))))) (e_coe (e1 := TV.str) (e := eA) (f := TV.str) (fun _ => rfl) (e_callP (g := fun t => reprM (eA t)) (t := v60) (FnL.of1 f_repr eA) (a_one (e_var (i := 10) (e1 := eA) (a := v60) rfl)))))) (s_ret (e_const (e1 := TV.bl) (a := false) fun _ _ => .bl _)) (s_ifC (b_and (b_not (b_truB (e_callP t_law_is_lot (a_one (e_var (i := 9) (e1 := eA) (a := v57) rfl))))) (b_of (e_op f_ne (e_coe (e1 := (eP TV.str (eO TV.bl))) (e := eA) (f := (eP TV.str (eO TV.bl))) (fun _ => rfl) (e_call t_law_told (a_cons (e_var (i := 9) (e1 := eA) (a := v57) rfl) (a_one (e_callSP t_law_bent (rfl : _ = some Sl.pt) (a_cons1 (e_var (i := 3) (e1 := TV.int) (a := v9.1) rfl) (a_one (e_var (i := 6) (e1 := (eT (eT (eO TV.int)))) (a := v10) rfl)))))))) (e_coe1 (e1 := (eP TV.str eN)) (e := eA) (f := (eP TV.str eN)) (a := ((Str.ofString "lot"), ())) (fun _ => rfl) (e_tupT (e := (eP TV.str eN)) (t := ((Str.ofString "lot"), ())) (fun p => p) 2 (fun _ => rfl) (fun _ => rfl) (by decide) (a_cons1 (e_const (e1 := TV.str) (a := (Str.ofString "lot")) fun _ _ => .str _) (a_one (e_const (e1 := eN) (a := ()) fun _ _ => .non)))))))) (s_rtC (s_ret (e_const (e1 := TV.bl) (a := false) fun _ _ => .bl _))) (s_toC (s_map (fun v69 => ()) s_pass (fun v69 => (.keep (.keep (.drop (.drop (.drop (.drop (.drop (.keep (.keep (.drop (.drop .nil))))))))))))))))))))))))))))))) (fun v70 => (s_ret (e_const (e1 := TV.bl) (a := true) fun _ _ => .bl _))))
end K50

set_option Elab.async false
set_option linter.all false
set_option maxRecDepth 100000
set_option maxHeartbeats 1000000
namespace K50
open PySem PySem.Spec PyProof.Rows L2 Am Bm Cm
/-! ### what is asked, as flags -/
def isIntB : TV → Bool
  | .int _ => true
  | _ => false
def numB (t : TV) (lo hi : Int) : Bool := match t with
  | .int i => decide (lo ≤ i) && decide (i ≤ hi)
  | _ => false
def isI (t : TV) (k : Int) : Bool := match t with
  | .int i => decide (i = k)
  | _ => false
def entB (n me : Int) (u : TV) : Bool := isNonT u || (numB u 0 (n - 1) && !isI u me)
def turnB (n : Int) : TV → Bool
  | .tup us => decide ((us.length : Int) = n) && (enumI 0 us).all fun p => entB n p.1 p.2
  | _ => false
def patB (n : Int) : TV → Bool
  | .tup ts => decide (ts.length ≤ 30) && ts.all (turnB n)
  | _ => false
def inB (os : List Int) (u : TV) : Bool := isNonT u || match u with
  | .int i => decide (i ∈ os)
  | _ => false
def rowIn (os : List Int) : TV → Bool
  | .tup us => us.all (inB os)
  | _ => false
def allIn (os : List Int) : TV → Bool
  | .tup ts => ts.all (rowIn os)
  | _ => false
def sparB (os : List Int) (t : TV) : Bool := (patB 3 t || patB 4 t || patB 5 t) && allIn os t
/-- things whose kind is known, to the depth that is asked -/
def Kn0 (t : TV) : Prop := (tyT t).isSome = true
def Kn1 (t : TV) : Prop := Kn0 t ∧ ∀ us, t = .tup us → ∀ u, u ∈ us → Kn0 u
def Kn2 (t : TV) : Prop := Kn0 t ∧ ∀ us, t = .tup us → ∀ u, u ∈ us → Kn1 u
theorem int_eq {t : TV} (h : Kn0 t) : f_is_integer t = .pure (isIntB t) := by
  cases t with
  | ty n => cases h
  | st a => cases h
  | _ => rfl
theorem num_eq {t : TV} {lo hi : Int} (h : Kn0 t) : f_is_number (t, lo, hi) = .pure (numB t lo hi) := by
  unfold f_is_number
  dsimp only
  rw [int_eq h]
  cases t with
  | int i =>
    show (if decide (lo ≤ i) then _ else _) = _
    cases h1 : decide (lo ≤ i) <;> simp [numB, h1, cmpA]
  | _ => rfl
theorem lint_eq {t : TV} {lo hi : Int} (h : Kn0 t) : f_law_is_int (t, lo, hi) = .pure (numB t lo hi) := by
  have e := num_eq (lo := lo) (hi := hi) h
  unfold f_is_number f_is_integer at e
  unfold f_law_is_int
  dsimp only at e ⊢
  rw [← e]
  cases t with
  | ty n => cases h
  | st a => cases h
  | _ => rfl
theorem eqI {i k : Int} : eqT (.int i) (.int k) = .pure (decide (i = k)) := eqT_dat Dat.int (by decide) i k
theorem other_eq {t : TV} {me n : Int} (h : Kn0 t) : f_is_other (t, me, n) = .pure (numB t 0 (n - 1) && !isI t me) := by
  unfold f_is_other
  dsimp only
  rw [num_eq h]
  cases t with
  | int i =>
    have : eqT (.int i) (.int me) = .pure (decide (i = me)) := eqI
    cases h1 : numB (.int i) 0 (n - 1) <;> simp [this, isI]
  | _ => rfl
theorem ent_eq {u : TV} {me n : Int} (h : Kn0 u) : (M.bind (M.pure (isNonT u)) fun c => if c then M.pure true else (lift (f_is_other (u, me, n)) : M Unit Bool)) = .pure (entB n me u) := by
  rw [M.pure_bind, other_eq h]
  unfold entB
  cases isNonT u <;> simp
theorem turn_eq {t : TV} {n : Int} (h : Kn1 t) : f_is_turn (t, n) = .pure (turnB n t) := by
  unfold f_is_turn
  dsimp only
  have h0 := h.1
  cases t with
  | tup us =>
    have e1 : isiM "tuple" (.tup us) = .pure true := rfl
    have e2 : lenM (.tup us) = .pure (us.length : Int) := rfl
    have e3 : seqM (.tup us) = .pure us := rfl
    rw [e1, e2, e3]
    simp only [lift_pure, M.pure_bind, Bool.not_true, if_false, Bool.false_eq_true]
    unfold turnB
    by_cases hl : (us.length : Int) = n
    · simp only [hl, decide_true, Bool.not_true, if_false, Bool.false_eq_true, Bool.true_and]
      rw [compM_all (f := fun p : Int × TV => entB n p.1 p.2) (enumI 0 us) fun p hp => by
        obtain ⟨i, hi, _⟩ := mem_enumI hp
        exact ent_eq (h.2 us rfl _ (List.mem_of_getElem? hi))]
      simp only [M.pure_bind, lift_pure, List.all_map]
      congr 1
    · simp [hl]
  | ty n => cases h0
  | st a => cases h0
  | _ => rfl
theorem pat_eq {t : TV} {n : Int} (h : Kn2 t) : f_is_pattern_of (t, n, 0, 30) = .pure (patB n t) := by
  unfold f_is_pattern_of
  dsimp only
  have h0 := h.1
  cases t with
  | tup us =>
    have e1 : isiM "tuple" (.tup us) = .pure true := rfl
    have e2 : lenM (.tup us) = .pure (us.length : Int) := rfl
    have e3 : seqM (.tup us) = .pure us := rfl
    rw [e1, e2, e3]
    simp only [lift_pure, M.pure_bind, Bool.not_true, if_false, Bool.false_eq_true]
    unfold patB
    have h1 : (0 : Int) ≤ us.length := by omega
    by_cases hl : us.length ≤ 30
    · have hl2 : ((us.length : Nat) : Int) ≤ 30 := by omega
      simp only [h1, hl, hl2, decide_true, if_true, M.pure_bind, Bool.not_true, if_false, Bool.false_eq_true, Bool.true_and]
      rw [compM_all (f := turnB n) us fun u hu => by rw [turn_eq (h.2 us rfl u hu), lift_pure]]
      simp only [M.pure_bind, lift_pure, List.all_map]
      congr 1
    · have hl2 : ¬ ((us.length : Nat) : Int) ≤ 30 := by omega
      simp [h1, hl, hl2]
  | ty n => cases h0
  | st a => cases h0
  | _ => rfl
theorem any_eq {t : TV} (h : Kn2 t) : f_is_any_pattern t = .pure (patB 3 t || patB 4 t || patB 5 t) := by
  unfold f_is_any_pattern
  simp only [M.pure_bind]
  rw [compM_all (f := fun n => patB n t) [3, 4, 5] fun n _ => by rw [pat_eq h, lift_pure]]
  simp [Bool.or_assoc]
theorem in_eq {os : List Int} {u : TV} (h : isNonT u = true ∨ isIntB u = true) : (M.bind (M.pure (isNonT u)) fun c => if c then M.pure true else (lift (inT u (eT TV.int os)) : M Unit Bool)) = .pure (inB os u) := by
  rw [M.pure_bind]
  unfold inB
  cases u with
  | non => rfl
  | int i =>
    show lift (inT (.int i) (eT TV.int os)) = _
    have : inT (.int i) (eT TV.int os) = .pure (decide (i ∈ os)) := by
      unfold inT
      rw [Dat.int.to i 60 (by omega)]
      exact anyT_dat Dat.int (by decide) i os
    rw [this, lift_pure]
    rfl
  | _ => rcases h with h | h <;> cases h
theorem ent_kind {n me : Int} {u : TV} (h : entB n me u = true) : isNonT u = true ∨ isIntB u = true := by
  unfold entB at h
  cases u with
  | non => exact .inl rfl
  | int i => exact .inr rfl
  | _ => simp [numB, isNonT] at h
theorem turn_kind {n : Int} {us : List TV} (h : turnB n (.tup us) = true) : ∀ u, u ∈ us → isNonT u = true ∨ isIntB u = true := fun u hu => by
  unfold turnB at h
  rw [Bool.and_eq_true] at h
  obtain ⟨i, hi⟩ := List.getElem?_of_mem hu
  have hm : ((0 : Int) + i, u) ∈ enumI 0 us := by
    have : ∀ (xs : List TV) (k : Int) (i : Nat), xs[i]? = some u → (k + i, u) ∈ enumI k xs := by
      intro xs
      induction xs with
      | nil => intro k i h; simp at h
      | cons x r ih =>
        intro k i h
        cases i with
        | zero =>
          simp at h
          subst h
          simp [enumI]
        | succ i =>
          have := ih (k + 1) i (by simpa using h)
          rw [enumI]
          refine List.mem_cons_of_mem _ ?_
          have e : k + ((i + 1 : Nat) : Int) = k + 1 + (i : Int) := by omega
          rw [e]
          exact this
    exact this us 0 i hi
  exact ent_kind (List.all_eq_true.mp h.2 _ hm)
theorem pat_rows {n : Int} {t : TV} (h : patB n t = true) : ∃ ts, t = .tup ts ∧ ts.length ≤ 30 ∧ ∀ r, r ∈ ts → turnB n r = true := by
  cases t with
  | tup ts =>
    unfold patB at h
    rw [Bool.and_eq_true] at h
    exact ⟨ts, rfl, of_decide_eq_true h.1, List.all_eq_true.mp h.2⟩
  | _ => cases h
theorem turn_tup {n : Int} {r : TV} (h : turnB n r = true) : ∃ us, r = .tup us ∧ (us.length : Int) = n := by
  cases r with
  | tup us =>
    unfold turnB at h
    rw [Bool.and_eq_true] at h
    exact ⟨us, rfl, of_decide_eq_true h.1⟩
  | _ => cases h
/-- a comprehension of two clauses, of what is known -/
theorem comp2_eq {α β γ : Type} {f : α → List β} {g : α → β → γ} {oi : α → M Unit (List β)} {of : α → β → M Unit γ} {m : Nat} : ∀ (xs : List α) (k : Nat), (∀ x, x ∈ xs → oi x = .pure (f x) ∧ (f x).length ≤ m ∧ ∀ y, y ∈ f x → of x y = .pure (g x y)) → k + xs.length * m ≤ 1000000 →
    compM2 (fun _ => .pure true) oi (fun _ _ => .pure true) of k xs = .pure (xs.map fun x => (f x).map (g x)).flatten
  | [], _, _, _ => rfl
  | x :: r, k, h, hk => by
    obtain ⟨h1, h2, h3⟩ := h x List.mem_cons_self
    rw [List.length_cons, Nat.succ_mul] at hk
    unfold compM2
    rw [M.noex_pure, M.pure_bind, if_pos rfl, h1, M.noex_pure, M.pure_bind, chk_pos (by rw [sizeLine_eq]; omega), compM_all (f := g x) (f x) h3, M.pure_bind, comp2_eq r _ (fun y hy => h y (List.mem_cons_of_mem x hy)) (by rw [List.length_map]; omega), M.pure_bind]
    simp
/-! ### lots -/
def upB : List Int → Bool
  | [] => true
  | [_] => true
  | a :: b :: r => decide (a < b) && upB (b :: r)
def lotB (os : List Int) : Bool := os.all (fun i => decide (0 ≤ i) && decide (i ≤ 4)) && upB os
theorem up_len : ∀ {os : List Int} {a : Int}, upB (a :: os) = true → (∀ i, i ∈ os → i ≤ 4) → a ≤ 4 → (os.length : Int) ≤ 4 - a
  | [], a, _, _, h => by simp; omega
  | b :: r, a, h, hm, ha => by
    unfold upB at h
    rw [Bool.and_eq_true] at h
    have h1 := of_decide_eq_true h.1
    have := up_len (os := r) (a := b) h.2 (fun i hi => hm i (List.mem_cons_of_mem b hi)) (hm b List.mem_cons_self)
    simp only [List.length_cons]
    omega
theorem lot_len {os : List Int} (h : lotB os = true) : os.length ≤ 5 := by
  unfold lotB at h
  rw [Bool.and_eq_true] at h
  cases os with
  | nil => simp
  | cons a r =>
    have hm : ∀ i, i ∈ a :: r → 0 ≤ i ∧ i ≤ 4 := fun i hi => by
      have := List.all_eq_true.mp h.1 i hi
      rw [Bool.and_eq_true] at this
      exact ⟨of_decide_eq_true this.1, of_decide_eq_true this.2⟩
    have := up_len h.2 (fun i hi => (hm i (List.mem_cons_of_mem a hi)).2) (hm a List.mem_cons_self).2
    have := (hm a List.mem_cons_self).1
    simp only [List.length_cons]
    omega
end K50

set_option Elab.async false
set_option linter.all false
set_option maxRecDepth 100000
set_option maxHeartbeats 1000000
namespace K50
open PySem PySem.Spec PyProof.Rows L2 Am Bm Cm
def intsO : List TV → Option (List Int)
  | [] => some []
  | .int i :: r => (intsO r).map (i :: ·)
  | _ :: _ => none
theorem intsO_map : ∀ os : List Int, intsO (os.map TV.int) = some os
  | [] => rfl
  | i :: r => by rw [List.map_cons, intsO, intsO_map r]; rfl
theorem ints_some : ∀ {us : List TV} {os : List Int}, intsO us = some os → us = os.map TV.int
  | [], os, h => by cases h; rfl
  | u :: r, os, h => by
    cases u with
    | int i =>
      rw [intsO] at h
      cases hr : intsO r with
      | none => rw [hr] at h; cases h
      | some q =>
        rw [hr] at h
        cases h
        rw [List.map_cons, ← ints_some hr]
    | _ => cases h
theorem ints_all : ∀ us : List TV, us.all isIntB = (intsO us).isSome
  | [] => rfl
  | u :: r => by
    rw [List.all_cons, ints_all r]
    cases u with
    | int i =>
      rw [intsO]
      cases intsO r <;> rfl
    | _ => rfl
def lotOf : TV → Option (List Int)
  | .tup us => (intsO us).filter lotB
  | _ => none
theorem lotOf_some {t : TV} {os : List Int} (h : lotOf t = some os) : t = eT TV.int os ∧ lotB os = true := by
  cases t with
  | tup us =>
    unfold lotOf at h
    rw [Option.filter_eq_some_iff] at h
    exact ⟨by rw [ints_some h.1], h.2⟩
  | _ => cases h
theorem lotOf_of {os : List Int} (h : lotB os = true) : lotOf (eT TV.int os) = some os := by
  show (intsO (os.map TV.int)).filter lotB = _
  rw [intsO_map, Option.filter_eq_some_iff]
  exact ⟨rfl, h⟩
theorem cut1 {α : Type} (xs : List α) : cutL xs (some 1) none = xs.tail := by
  cases xs with
  | nil => rfl
  | cons a r =>
    rw [cutL_drop (by omega) (by simp; omega)]
    rfl
theorem asc_all : ∀ os : List Int, ((os.map TV.int).zip (os.map TV.int).tail).all (fun p => match p with | (.int a, .int b) => decide (a < b) | _ => false) = upB os
  | [] => rfl
  | [a] => rfl
  | a :: b :: r => by
    have := asc_all (b :: r)
    simp only [List.map_cons, List.tail_cons, List.zip_cons_cons, List.all_cons] at this ⊢
    rw [this]
    rfl
theorem lotOf_b (os : List Int) : (lotOf (.tup (os.map TV.int))).isSome = lotB os := by
  show ((intsO (os.map TV.int)).filter lotB).isSome = _
  rw [intsO_map]
  unfold Option.filter
  dsimp only
  cases lotB os <;> rfl
def ltP (p : TV × TV) : Bool := match p with
  | (.int a, .int b) => decide (a < b)
  | _ => false
theorem asc_comp (os : List Int) : compM (fun _ : TV × TV => (M.pure true : M Unit Bool)) (fun x => lift (cmpA (fun i j => decide (i < j)) x.1 x.2)) ((os.map TV.int).zip (os.map TV.int).tail) = .pure (((os.map TV.int).zip (os.map TV.int).tail).map ltP) := by
  apply compM_all
  intro p hp
  obtain ⟨a, b⟩ := p
  have h1 := List.of_mem_zip hp
  obtain ⟨i, _, rfl⟩ := List.mem_map.mp h1.1
  obtain ⟨j, _, rfl⟩ := List.mem_map.mp (List.mem_of_mem_tail h1.2)
  rfl
theorem asc_eq (os : List Int) : f_is_ascending (os.map TV.int) = .pure (upB os) := by
  unfold f_is_ascending
  rw [M.pure_bind, cut1, asc_comp, M.pure_bind, lift_pure, List.all_map, ← asc_all os]
  rfl
theorem lotb_eq {t : TV} (h : Kn1 t) : f_is_lot_below (t, 5) = .pure (lotOf t).isSome := by
  unfold f_is_lot_below f_is_integers
  dsimp only
  have h0 := h.1
  cases t with
  | tup us =>
    have e1 : isiM "tuple" (.tup us) = .pure true := rfl
    have e2 : lenM (.tup us) = .pure (us.length : Int) := rfl
    have e3 : seqM (.tup us) = .pure us := rfl
    have e4 : asT (.tup us) = .pure us := rfl
    have hp : decide ((0 : Int) ≤ us.length) = true := decide_eq_true (by omega)
    rw [e1, e2, e3, e4]
    simp only [lift_pure, M.pure_bind, if_true, hp]
    rw [compM_all (f := isIntB) us fun u hu => by rw [int_eq (h.2 us rfl u hu), lift_pure]]
    simp only [M.pure_bind, lift_pure, List.all_map]
    have hc : (us.all (id ∘ isIntB)) = (intsO us).isSome := ints_all us
    rw [hc]
    cases hi : intsO us with
    | none =>
      unfold lotOf
      by_cases hl : (us.length : Int) ≤ 5 <;> simp [hl, hi]
    | some os =>
      have hu := ints_some hi
      subst hu
      rw [asc_eq]
      rw [compM_all (f := fun u => numB u 0 (5 - 1)) (os.map TV.int) fun u hu => by rw [num_eq (h.2 _ rfl u hu), lift_pure]]
      have hr : (os.map TV.int).all (fun u => numB u 0 (5 - 1)) = os.all (fun i => decide (0 ≤ i) && decide (i ≤ 4)) := by
        rw [List.all_map]
        rfl
      by_cases hl : ((os.map TV.int).length : Int) ≤ 5
      · simp only [hl, decide_true, if_true, M.pure_bind, Option.isSome_some, lift_pure, List.all_map]
        have hr' : os.all ((id ∘ fun u => numB u 0 (5 - 1)) ∘ TV.int) = os.all (fun i => decide (0 ≤ i) && decide (i ≤ 4)) := rfl
        rw [hr']
        rw [lotOf_b]
        unfold lotB
        cases upB os <;> cases os.all (fun i => decide (0 ≤ i) && decide (i ≤ 4)) <;> rfl
      · have hn : lotB os = false := by
          cases hb : lotB os with
          | false => rfl
          | true =>
            have := lot_len hb
            rw [List.length_map] at hl
            omega
        rw [lotOf_b, hn]
        simp only [hl, decide_false, if_false, Bool.false_eq_true, M.pure_bind, lift_pure]
  | ty n => cases h0
  | st a => cases h0
  | _ => rfl
theorem llot_eq {t : TV} (h : Kn1 t) : f_law_is_lot t = .pure (lotOf t).isSome := by
  unfold f_law_is_lot
  have h0 := h.1
  cases t with
  | tup us =>
    have e1 : isiM "tuple" (.tup us) = .pure true := rfl
    have e3 : seqM (.tup us) = .pure us := rfl
    have e4 : asT (.tup us) = .pure us := rfl
    rw [e1, e3, e4]
    simp only [lift_pure, M.pure_bind, Bool.not_true, if_false, Bool.false_eq_true, cut1]
    rw [compM_all (f := fun u => numB u 0 4) us fun u hu => by rw [lint_eq (h.2 us rfl u hu), lift_pure]]
    simp only [M.pure_bind, lift_pure]
    cases hi : intsO us with
    | none =>
      unfold lotOf
      have hc : (List.map (fun u => numB u 0 4) us).all id = false := by
        cases hb : (List.map (fun u => numB u 0 4) us).all id with
        | false => rfl
        | true =>
          have : us.all isIntB = true := by
            rw [List.all_map] at hb
            refine List.all_eq_true.mpr fun u hu => ?_
            have := List.all_eq_true.mp hb u hu
            cases u with
            | int i => rfl
            | _ => cases this
          rw [ints_all, hi] at this
          cases this
      simp [hc, hi]
    | some os =>
      have hu := ints_some hi
      subst hu
      rw [asc_comp]
      simp only [M.pure_bind, lift_pure, List.all_map]
      have hr' : os.all ((id ∘ fun u => numB u 0 4) ∘ TV.int) = os.all (fun i => decide (0 ≤ i) && decide (i ≤ 4)) := rfl
      have ha : (List.zip (os.map TV.int) (os.map TV.int).tail).all (id ∘ ltP) = upB os := asc_all os
      rw [hr', ha]
      rw [lotOf_b]
      unfold lotB
      cases upB os <;> cases os.all (fun i => decide (0 ≤ i) && decide (i ≤ 4)) <;> rfl
  | ty n => cases h0
  | st a => cases h0
  | _ => rfl
/-! ### what is told -/
theorem spar_eq {mg : Str → Option Value} {s t : TV} {os : List Int} (hs : Kn1 s) (h : lotOf s = some os) (ht : Kn2 t) : f_is_sparing mg (s, t) = .pure (sparB os t) := by
  unfold f_is_sparing
  dsimp only
  rw [lotb_eq hs, h, any_eq ht]
  obtain ⟨rfl, _⟩ := lotOf_some h
  simp only [lift_pure, M.pure_bind, Option.isSome_some, Bool.not_true, if_false, Bool.false_eq_true]
  unfold sparB
  cases hp : (patB 3 t || patB 4 t || patB 5 t) with
  | false => simp
  | true =>
    obtain ⟨n, hn⟩ : ∃ n, patB n t = true ∧ n ≤ 5 := by
      rw [Bool.or_eq_true, Bool.or_eq_true] at hp
      rcases hp with (h | h) | h
      · exact ⟨3, h, by omega⟩
      · exact ⟨4, h, by omega⟩
      · exact ⟨5, h, by omega⟩
    obtain ⟨ts, rfl, hl, hr⟩ := pat_rows hn.1
    have e3 : seqM (.tup ts) = .pure ts := rfl
    simp only [e3, lift_pure, M.pure_bind, Bool.not_true, if_false, Bool.false_eq_true]
    have hrow : ∀ r, r ∈ ts → ∃ us, r = .tup us ∧ us.length ≤ 5 ∧ ∀ u, u ∈ us → isNonT u = true ∨ isIntB u = true := fun r hrm => by
      obtain ⟨us, rfl, hu⟩ := turn_tup (hr r hrm)
      have := hn.2
      exact ⟨us, rfl, by omega, turn_kind (hr _ hrm)⟩
    rw [comp2_eq (f := fun r => match r with | .tup us => us | _ => []) (g := fun _ u => inB os u) (m := 5) ts 0 (fun r hrm => by
      obtain ⟨us, rfl, h1, h2⟩ := hrow r hrm
      have e3 : seqM (.tup us) = .pure us := rfl
      exact ⟨by rw [e3, lift_pure], h1, fun u hu => in_eq (h2 u hu)⟩) (by omega)]
    rw [M.pure_bind]
    congr 1
    rw [Bool.true_and]
    unfold allIn
    have key : ∀ xs : List TV, (∀ r, r ∈ xs → ∃ us, r = TV.tup us) → (xs.map fun r => ((match r with | .tup us => us | _ => []) : List TV).map fun u => inB os u).flatten.all id = xs.all (rowIn os) := by
      intro xs
      induction xs with
      | nil => intro _; rfl
      | cons r q ih =>
        intro hx
        obtain ⟨us, rfl⟩ := hx r List.mem_cons_self
        rw [List.map_cons, List.flatten_cons, List.all_append, ih fun z hz => hx z (List.mem_cons_of_mem _ hz), List.all_cons, List.all_map]
        rfl
    exact key ts fun r hrm => by
      obtain ⟨us, e, _⟩ := hrow r hrm
      exact ⟨us, e⟩
theorem spar_no {mg : Str → Option Value} {s t : TV} (hs : Kn1 s) (h : lotOf s = none) : f_is_sparing mg (s, t) = .throw ⟨clsOf mg "NoLot", []⟩ := by
  unfold f_is_sparing
  dsimp only
  rw [lotb_eq hs, h]
  rfl
abbrev wLet : Str := Str.ofString "let"
abbrev wLot : Str := Str.ofString "lot"
theorem told_yes {mg : Str → Option Value} {s t : TV} {os : List Int} (hs : Kn1 s) (h : lotOf s = some os) (ht : Kn2 t) : f_law_told mg (s, t) = .pure (wLet, some (sparB os t)) := by
  unfold f_law_told
  rw [spar_eq hs h ht]
  rfl
theorem told_no {mg : Str → Option Value} {s t : TV} (hs : Kn1 s) (h : lotOf s = none) : f_law_told mg (s, t) = .pure (wLot, none) := by
  unfold f_law_told
  rw [spar_no hs h]
  simp only [lift_throw, M.throw_bind, M.pure_bind]
  rw [tryM_throw]
  rfl
end K50

set_option Elab.async false
set_option linter.all false
set_option maxRecDepth 100000
set_option maxHeartbeats 1000000
namespace K50
open PySem PySem.Spec PyProof.Rows L2 Am Bm Cm
theorem forC_all {α ρ : Type} {c : α → Bool} {b : Unit → α → M Unit (Ctl Unit ρ)} {v : ρ} : ∀ xs : List α, (∀ x, x ∈ xs → b () x = .pure (if c x then .nx () else .rt v)) → forC b xs () = .pure (if xs.all c then .nx () else .rt v)
  | [], _ => rfl
  | x :: r, h => by
    unfold forC
    rw [h x List.mem_cons_self, M.pure_bind]
    cases hc : c x with
    | true =>
      rw [List.all_cons, hc, Bool.true_and, if_pos rfl]
      exact forC_all r fun y hy => h y (List.mem_cons_of_mem x hy)
    | false => simp [hc]
theorem enum_get {xs : List TV} {u : TV} : ∀ (k : Int) (i : Nat), xs[i]? = some u → (k + i, u) ∈ enumI k xs := by
  induction xs with
  | nil => intro k i h; simp at h
  | cons x r ih =>
    intro k i h
    cases i with
    | zero =>
      simp at h
      subst h
      simp [enumI]
    | succ i =>
      have := ih (k + 1) i (by simpa using h)
      rw [enumI]
      refine List.mem_cons_of_mem _ ?_
      have e : k + ((i + 1 : Nat) : Int) = k + 1 + (i : Int) := by omega
      rw [e]
      exact this
theorem all_rng {n : Int} {us : List TV} (hl : (us.length : Int) = n) (g : Int → TV → Bool) : (rng 0 n).all (fun x => g x (us.getD x.toNat .non)) = (enumI 0 us).all fun p => g p.1 p.2 := by
  rw [Bool.eq_iff_iff, List.all_eq_true, List.all_eq_true]
  constructor
  · intro h p hp
    obtain ⟨i, hi, he⟩ := mem_enumI hp
    have hlt := (List.getElem?_eq_some_iff.mp hi).1
    have := h p.1 (mem_rng.mpr ⟨by omega, by omega⟩)
    have e : p.1.toNat = i := by omega
    rw [e, List.getD_eq_getElem?_getD, hi] at this
    exact this
  · intro h x hx
    obtain ⟨h0, h1⟩ := mem_rng.mp hx
    have hlt : x.toNat < us.length := by omega
    have := h _ (enum_get 0 x.toNat (List.getElem?_eq_getElem hlt))
    rw [List.getD_eq_getElem?_getD, List.getElem?_eq_getElem hlt]
    have e : (0 : Int) + (x.toNat : Int) = x := by omega
    rw [e] at this
    exact this
theorem turnB_tup (n : Int) (us : List TV) : turnB n (.tup us) = (decide ((us.length : Int) = n) && (enumI 0 us).all fun p => entB n p.1 p.2) := rfl
theorem patB_tup (n : Int) (ts : List TV) : patB n (.tup ts) = (decide (ts.length ≤ 30) && ts.all (turnB n)) := rfl
theorem in_eq1 {os : List Int} {u : TV} (h : isNonT u = true ∨ isIntB u = true) : (if isNonT u = true then M.pure true else (lift (inT u (eT TV.int os)) : M Unit Bool)) = .pure (inB os u) := in_eq h
theorem row_eq {r : TV} {n : Int} {os : List Int} (h : Kn1 r) (n1 : 0 ≤ n) (n2 : n ≤ 100) : f_law_is_row (r, n, eT TV.int os) = .pure (turnB n r && rowIn os r) := by
  unfold f_law_is_row
  dsimp only
  have h0 := h.1
  cases r with
  | tup us =>
    have e1 : isiM "tuple" (.tup us) = .pure true := rfl
    have e2 : lenM (.tup us) = .pure (us.length : Int) := rfl
    have e3 : seqM (.tup us) = .pure us := rfl
    rw [e1, e2, e3]
    simp only [lift_pure, M.pure_bind, Bool.not_true, if_false, Bool.false_eq_true]
    by_cases hl : (us.length : Int) = n
    · simp only [hl, decide_true, Bool.not_true, if_false, Bool.false_eq_true]
      rw [rngM_of (by omega) (by omega) (by omega) (by omega), lift_pure, M.pure_bind]
      rw [forC_all (c := fun x => entB n x (us.getD x.toNat .non)) (v := false) (rng 0 n) fun x hx => by
        obtain ⟨x0, x1⟩ := mem_rng.mp hx
        obtain ⟨u, q1, q2, q3⟩ := atM_of (xs := us) x0 (by omega)
        have e4 : ixT (.tup us) (.int x) = .pure u := q3
        have hg : us.getD x.toNat .non = u := by rw [List.getD_eq_getElem?_getD, q1]; rfl
        have hk := h.2 us rfl u q2
        simp only [e4, lift_pure, M.pure_bind, hg, lint_eq hk]
        unfold entB
        cases u with
        | int i =>
          have eqi : eqT (.int i) (.int x) = .pure (decide (i = x)) := eqI
          rw [eqi]
          cases hn : numB (.int i) 0 (n - 1) with
          | false => simp [isNonT]
          | true =>
            by_cases hix : i = x
            · simp [isNonT, isI, hix]
            · simp [isNonT, isI, hix]
        | non => simp [isNonT]
        | ty n => cases hk
        | st a => cases hk
        | _ => simp [isNonT, numB]]
      rw [all_rng hl (entB n)]
      have ht : turnB n (.tup us) = (enumI 0 us).all fun p => entB n p.1 p.2 := by
        rw [turnB_tup, decide_eq_true hl, Bool.true_and]
      cases hb : (enumI 0 us).all fun p => entB n p.1 p.2 with
      | false => rw [ht, hb]; rfl
      | true =>
        rw [if_pos rfl, thenR_nx]
        have hk := turn_kind (n := n) (us := us) (by rw [ht, hb])
        rw [compM_all (f := inB os) us fun u hu => in_eq1 (hk u hu), M.pure_bind, ht, hb]
        simp only [List.all_map, rowIn]
        rfl
    · have ht : turnB n (.tup us) = false := by
        rw [turnB_tup, decide_eq_false hl, Bool.false_and]
      simp [hl, ht]
  | ty n => cases h0
  | st a => cases h0
  | _ => rfl
theorem lspar_eq {t : TV} {os : List Int} (h : Kn2 t) : f_law_is_sparing (eT TV.int os, t) = .pure (sparB os t) := by
  unfold f_law_is_sparing
  dsimp only
  have h0 := h.1
  cases t with
  | tup ts =>
    have e1 : isiM "tuple" (.tup ts) = .pure true := rfl
    have e2 : lenM (.tup ts) = .pure (ts.length : Int) := rfl
    have e3 : seqM (.tup ts) = .pure ts := rfl
    rw [e1, e2, e3]
    simp only [lift_pure, M.pure_bind, Bool.not_true, if_false, Bool.false_eq_true]
    by_cases hl : ts.length ≤ 30
    · have hl2 : ¬ ((ts.length : Nat) : Int) > 30 := by omega
      simp only [hl2, decide_false, if_false, Bool.false_eq_true]
      rw [forC_all (c := fun n => !(ts.all fun r => turnB n r && rowIn os r)) (v := true) [3, 4, 5] fun n hn => by
        have hn2 : 0 ≤ n ∧ n ≤ 100 := by
          simp only [List.mem_cons, List.not_mem_nil, or_false] at hn
          omega
        rw [compM_all (f := fun r => turnB n r && rowIn os r) ts fun r hr => by rw [row_eq (h.2 ts rfl r hr) hn2.1 hn2.2, lift_pure]]
        simp only [M.pure_bind, lift_pure, List.all_map]
        have e : (ts.all (id ∘ fun r => turnB n r && rowIn os r)) = ts.all fun r => turnB n r && rowIn os r := rfl
        rw [e]
        cases ts.all fun r => turnB n r && rowIn os r <;> rfl]
      have hp : ∀ n, patB n (.tup ts) = ts.all (turnB n) := fun n => by
        rw [patB_tup, decide_eq_true hl, Bool.true_and]
      have ha : ∀ n, (ts.all fun r => turnB n r && rowIn os r) = (ts.all (turnB n) && allIn os (.tup ts)) := fun n => by
        unfold allIn
        induction ts with
        | nil => rfl
        | cons r q ih => 
          simp only [List.all_cons]
          have : ∀ q : List TV, (q.all fun r => turnB n r && rowIn os r) = (q.all (turnB n) && q.all (rowIn os)) := by
            intro q
            induction q with
            | nil => rfl
            | cons r q ih =>
              simp only [List.all_cons, ih]
              cases turnB n r <;> cases rowIn os r <;> cases q.all (turnB n) <;> cases q.all (rowIn os) <;> rfl
          rw [this]
          cases turnB n r <;> cases rowIn os r <;> cases q.all (turnB n) <;> cases q.all (rowIn os) <;> rfl
      unfold sparB
      rw [hp, hp, hp]
      simp only [List.all_cons, List.all_nil, ha]
      cases ts.all (turnB 3) <;> cases ts.all (turnB 4) <;> cases ts.all (turnB 5) <;> cases allIn os (.tup ts) <;> rfl
    · have hl2 : ((ts.length : Nat) : Int) > 30 := by omega
      have hp : ∀ n, patB n (.tup ts) = false := fun n => by
        rw [patB_tup, decide_eq_false hl, Bool.false_and]
      simp [hl2, sparB, hp]
  | ty n => cases h0
  | st a => cases h0
  | _ => rfl
/-! ### texts -/
def dLet (b : Bool) : PyData := .tuple [.str wLet, .bool b]
def dLot : PyData := .tuple [.str wLot, .none]
theorem rep_let (b : Bool) : reprM (eP TV.str (eO TV.bl) (wLet, some b)) = .pure (dLet b).shown := by
  unfold reprM
  have e : toDT 60 (eP TV.str (eO TV.bl) (wLet, some b)) = some (dLet b) := by
    simp [toDT, allDT, eO, dLet]
  rw [e]
  dsimp only
  rw [chk_pos]
  cases b <;> refine ⟨?_, ?_, ?_, ?_⟩ <;> decide +kernel
theorem rep_let2 (b : Bool) : reprM (eP TV.str TV.bl (wLet, b)) = .pure (dLet b).shown := rep_let b
theorem rep_lot : reprM (eP TV.str (eO TV.bl) (wLot, none)) = .pure dLot.shown := by
  unfold reprM
  have e : toDT 60 (eP TV.str (eO TV.bl) (wLot, none)) = some dLot := by
    simp [toDT, allDT, eO, dLot]
  rw [e]
  dsimp only
  rw [chk_pos]
  refine ⟨?_, ?_, ?_, ?_⟩ <;> decide +kernel
theorem ok_let (b : Bool) : PyData.strOk (dLet b).shown = true := by cases b <;> decide +kernel
theorem ok_lot : PyData.strOk dLot.shown = true := by decide +kernel
theorem same_let (b : Bool) : eqT (.str (dLet b).shown) (.str (dLet b).shown) = .pure true := by rw [eqT_str (ok_let b) (ok_let b), decide_eq_true rfl]
theorem same_lot : eqT (.str dLot.shown) (.str dLot.shown) = .pure true := by rw [eqT_str ok_lot ok_lot, decide_eq_true rfl]
end K50

set_option Elab.async false
set_option linter.all false
set_option maxRecDepth 100000
set_option maxHeartbeats 1000000
namespace K50
open PySem PySem.Spec PyProof.Rows L2 Am Bm Cm
mutual
def knB : TV → Bool
  | .ty _ => false
  | .st _ => false
  | .tup ts => knsB ts
  | _ => true
def knsB : List TV → Bool
  | [] => true
  | t :: r => knB t && knsB r
end
theorem knsB_iff : ∀ {ts : List TV}, knsB ts = true ↔ ∀ t, t ∈ ts → knB t = true
  | [] => by simp [knsB]
  | t :: r => by
    rw [knsB, Bool.and_eq_true, knsB_iff]
    simp
theorem knB_tup {ts : List TV} : knB (.tup ts) = true ↔ ∀ t, t ∈ ts → knB t = true := by
  rw [knB]
  exact knsB_iff
theorem kn0 {t : TV} (h : knB t = true) : Kn0 t := by
  cases t with
  | ty n => simp [knB] at h
  | st a => simp [knB] at h
  | _ => rfl
theorem kn1 {t : TV} (h : knB t = true) : Kn1 t := ⟨kn0 h, fun us e u hu => by
  subst e
  exact kn0 (knB_tup.mp h u hu)⟩
theorem kn2 {t : TV} (h : knB t = true) : Kn2 t := ⟨kn0 h, fun us e u hu => by
  subst e
  exact kn1 (knB_tup.mp h u hu)⟩
theorem kn_ints (os : List Int) : knB (eT TV.int os) = true := knB_tup.mpr fun t ht => by
  obtain ⟨i, _, rfl⟩ := List.mem_map.mp ht
  simp [knB]
theorem kn_opt (o : Option Int) : knB (eO TV.int o) = true := by cases o <;> simp [eO, knB]
theorem kn_row (row : List (Option Int)) : knB (eT (eO TV.int) row) = true := knB_tup.mpr fun t ht => by
  obtain ⟨o, _, rfl⟩ := List.mem_map.mp ht
  exact kn_opt o
theorem kn_rows (p : List (List (Option Int))) : ∀ t, t ∈ List.map (eT (eO TV.int)) p → knB t = true := fun t ht => by
  obtain ⟨o, _, rfl⟩ := List.mem_map.mp ht
  exact kn_row o
theorem kn_pat (p : List (List (Option Int))) : knB (eT (eT (eO TV.int)) p) = true := knB_tup.mpr (kn_rows p)
theorem kn_nons (us : List Unit) : knB (eT eN us) = true := knB_tup.mpr fun t ht => by
  obtain ⟨o, _, rfl⟩ := List.mem_map.mp ht
  simp [knB]
theorem kn_any {ts : List TV} (h : ∀ t, t ∈ ts → knB t = true) : knB (eT eA ts) = true := by
  rw [show eT eA ts = .tup ts from congrArg TV.tup (List.map_id ts)]
  exact knB_tup.mpr h
theorem kn_app {xs ys : List TV} (h : ∀ t, t ∈ xs → knB t = true) (h2 : ∀ t, t ∈ ys → knB t = true) : ∀ t, t ∈ xs ++ ys → knB t = true := fun t ht => (List.mem_append.mp ht).elim (h t) (h2 t)
theorem catS {α : Type} {xs ys : List α} (h : xs.length ≤ 100000) (h2 : ys.length ≤ 100000) : catM xs ys = .pure (xs ++ ys) := catM_of (by omega)
theorem cut_len {α : Type} (xs : List α) (l h : Option Int) : (cutL xs l h).length ≤ xs.length := cutL_len
/-! ### what is drawn -/
theorem up_pair : ∀ {os : List Int}, os.Pairwise (· < ·) → upB os = true
  | [], _ => rfl
  | [_], _ => rfl
  | a :: b :: r, h => by
    rw [List.pairwise_cons] at h
    rw [upB, decide_eq_true (h.1 b List.mem_cons_self), up_pair h.2]
    rfl
theorem comp_sub {σ α : Type} {oc : α → M σ Bool} (hc : ∀ x, Ok (oc x) fun _ => True) : ∀ xs : List α, Ok (compM oc (fun x => .pure x) xs) (fun ys => ys.Sublist xs)
  | [] => Ok.pure .slnil
  | x :: r => by
    unfold compM
    refine Ok.bind (noex_ok (hc x)) fun c _ => ?_
    refine Ok.ite (fun _ => ?_) fun _ => ?_
    · rw [M.noex_pure, M.pure_bind]
      exact Ok.bind (comp_sub hc r) fun ys h => Ok.pure (h.cons₂ x)
    · exact (comp_sub hc r).mono fun ys h => h.cons x
theorem some_ok {cs : List Int} : Ok (f_law_some cs ()) (fun os => lotB os = true) := by
  unfold f_law_some
  rw [rngM_of (by omega) (by omega) (by omega) (by omega), lift_pure, M.pure_bind]
  refine Ok.bind (comp_sub (fun x => ?_) (rng 0 5)) fun os h => ?_
  · refine Ok.bind (Ok.draw (by omega) (by omega)) fun a _ => ?_
    rw [M.pure_bind, lift_pure]
    exact Ok.pure trivial
  · rw [lift_pure]
    refine Ok.pure ?_
    have hp : (rng 0 5).Pairwise (· < ·) := by
      have : rng 0 5 = [0, 1, 2, 3, 4] := by decide
      rw [this]
      decide
    unfold lotB
    rw [up_pair (hp.sublist h), Bool.and_true, List.all_eq_true]
    intro i hi
    have := mem_rng.mp (h.subset hi)
    rw [decide_eq_true this.1, decide_eq_true (show i ≤ 4 by omega)]
    rfl
theorem deep_ok {cs : List Int} : Ok (f_law_deep cs ()) (fun t => knB t = true) := by
  unfold f_law_deep
  refine Ok.bind (P := fun t => knB t = true) ((Ok.any (by simp) (by simp)).mono fun t ht => ?_) fun t0 h0 => ?_
  · simp only [List.mem_cons, List.not_mem_nil, or_false] at ht
    rcases ht with rfl | rfl | rfl | rfl <;> simp [knB, knsB]
  · refine Ok.bind (P := fun t => knB t = true) ?_ fun t ht => Ok.pure ht
    rw [M.pure_bind, M.bind_assoc, M.bind_assoc]
    refine Ok.bind (Ok.draw (by omega) (by omega)) fun k hk => ?_
    rw [lift_pure, M.pure_bind, rngM_of (by omega) (by omega) (by omega) (by omega), lift_pure, M.pure_bind]
    refine Ok.forL (I := fun _ st => knB st = true) (fun x r st hst => ?_) _ _ h0
    rw [M.pure_bind, M.bind_assoc]
    refine Ok.bind (Ok.draw (by omega) (by omega)) fun j hj => ?_
    obtain ⟨a, _, ha, e⟩ := atM_of (xs := [eT eA [st], eL eA [st], (fun a : TV => TV.dct [(kT (.inr (Str.ofString "a")), eA a)]) st]) hj.1 (by simpa using hj.2)
    rw [e, lift_pure, M.pure_bind]
    refine Ok.pure ?_
    simp only [List.mem_cons, List.not_mem_nil, or_false] at ha
    rcases ha with rfl | rfl | rfl
    · exact kn_any fun t ht => by
        simp at ht
        exact ht ▸ hst
    · simp [knB]
    · simp [knB]
def entOk (n me : Int) (os : List Int) (o : Option Int) : Prop := ∀ q, o = some q → (0 ≤ q ∧ q < n) ∧ q ≠ me ∧ q ∈ os
theorem entry_ok {cs : List Int} {n me : Int} {os : List Int} (h : lotB os = true) : Ok (f_law_entry cs (n, me, os)) (entOk n me os) := by
  unfold f_law_entry
  dsimp only
  rw [M.pure_bind]
  have hl : (List.map (fun x1 : Int => x1) (List.filter (fun x1 : Int => ((decide (x1 < n)) && (!decide (x1 = me)))) os)).length ≤ 5 := by
    rw [List.length_map]
    exact Nat.le_trans (List.length_filter_le _ _) (lot_len h)
  have hm : ∀ q, q ∈ List.map (fun x1 : Int => x1) (List.filter (fun x1 : Int => ((decide (x1 < n)) && (!decide (x1 = me)))) os) → (0 ≤ q ∧ q < n) ∧ q ≠ me ∧ q ∈ os := fun q hq => by
    rw [show List.map (fun x1 : Int => x1) (List.filter (fun x1 : Int => ((decide (x1 < n)) && (!decide (x1 = me)))) os) = List.filter (fun x1 : Int => ((decide (x1 < n)) && (!decide (x1 = me)))) os from List.map_id _] at hq
    obtain ⟨h1, h2⟩ := List.mem_filter.mp hq
    rw [Bool.and_eq_true] at h2
    have h3 := of_decide_eq_true h2.1
    unfold lotB at h
    rw [Bool.and_eq_true] at h
    have h4 := List.all_eq_true.mp h.1 q h1
    rw [Bool.and_eq_true] at h4
    exact ⟨⟨of_decide_eq_true h4.1, h3⟩, by simpa using h2.2, h1⟩
  generalize List.map (fun x1 : Int => x1) (List.filter (fun x1 : Int => ((decide (x1 < n)) && (!decide (x1 = me)))) os) = others at hl hm
  refine Ok.bind (P := fun c => c = false → others ≠ []) ?_ fun c hc => ?_
  · rw [M.pure_bind]
    refine Ok.ite (fun _ => Ok.pure fun z => by cases z) fun hf => ?_
    refine Ok.bind (Ok.draw (by omega) (by omega)) fun k _ => ?_
    rw [M.pure_bind, lift_pure]
    refine Ok.pure fun _ e => ?_
    subst e
    simp at hf
  · refine Ok.ite (fun _ => Ok.pure fun q e => by cases e) fun hf => ?_
    refine Ok.bind (Ok.any (hc hf) (by omega)) fun a ha => Ok.pure fun q e => ?_
    cases e
    exact hm _ ha
def rowOk (n : Int) (os : List Int) (row : List (Option Int)) : Prop := (row.length : Int) = n ∧ ∀ (i : Nat) (o : Option Int), row[i]? = some o → entOk n i os o
theorem pattern_ok' {cs : List Int} {n r : Int} {os : List Int} (h : lotB os = true) (n1 : 0 ≤ n) (n2 : n ≤ 5) (r1 : 0 ≤ r) (r2 : r ≤ 30) : Ok (f_law_pattern cs (n, r, os)) (fun p => (p.length : Int) = r ∧ ∀ row, row ∈ p → rowOk n os row) := by
  unfold f_law_pattern
  dsimp only
  rw [M.pure_bind, rngM_of (by omega) (by omega) (by omega) (by omega), rngM_of (by omega) (by omega) (by omega) (by omega)]
  simp only [lift_pure, M.pure_bind]
  refine Ok.bind (P := fun p => (p.length : Int) = r ∧ ∀ row, row ∈ p → rowOk n os row) ?_ fun p hp => Ok.pure hp
  refine (Ok.forL (I := fun rest st => (st.length : Int) + rest.length = r ∧ ∀ row, row ∈ st → rowOk n os row) (fun x rest st ⟨h1, h2⟩ => ?_) (rng 0 r) [] ⟨by rw [rng_len]; simp; omega, fun row h => by cases h⟩).mono fun p hp => ⟨by have := hp.1; simp at this; exact this, hp.2⟩
  simp only [List.length_cons] at h1
  rw [M.bind_assoc, M.bind_assoc]
  refine Ok.bind (Ok.comp (P := fun i o => entOk n i os o) (rng 0 n) fun i _ => entry_ok h) fun row hrow => ?_
  simp only [M.pure_bind]
  rw [apM_of (by omega), M.pure_bind]
  refine Ok.pure ⟨by simp; omega, fun w hw => ?_⟩
  rcases List.mem_append.mp hw with hw | hw
  · exact h2 w hw
  · simp at hw
    subst hw
    refine ⟨by rw [hrow.length, rng_len]; omega, fun i o e => ?_⟩
    obtain ⟨k, hk, q⟩ := hrow.get e
    have hlt := (List.getElem?_eq_some_iff.mp hk).1
    rw [rng_len] at hlt
    rw [rng_get (by omega)] at hk
    cases hk
    simpa using q
/-- a drawn pattern is sparing -/
theorem pat_spar {n : Int} {os : List Int} {p : List (List (Option Int))} (hn : n = 3 ∨ n = 4 ∨ n = 5) (hl : p.length ≤ 30) (h : ∀ row, row ∈ p → rowOk n os row) : sparB os (eT (eT (eO TV.int)) p) = true := by
  have hp : patB n (eT (eT (eO TV.int)) p) = true := by
    rw [patB_tup, decide_eq_true (by rw [List.length_map]; exact hl), Bool.true_and, List.all_eq_true]
    intro t ht
    obtain ⟨row, hr, rfl⟩ := List.mem_map.mp ht
    obtain ⟨h1, h2⟩ := h row hr
    rw [turnB_tup, decide_eq_true (by rw [List.length_map]; exact h1), Bool.true_and, List.all_eq_true]
    intro q hq
    obtain ⟨i, hi, he⟩ := mem_enumI hq
    rw [List.getElem?_map] at hi
    cases ho : row[i]? with
    | none => rw [ho] at hi; cases hi
    | some o =>
      rw [ho, Option.map_some] at hi
      have e2 : eO TV.int o = q.2 := by simpa using hi
      unfold entB
      rw [← e2]
      cases o with
      | none => rfl
      | some k =>
        obtain ⟨⟨k0, k1⟩, k2, _⟩ := h2 i _ ho k rfl
        have hne : k ≠ q.1 := by omega
        simp [eO, numB, isI, isNonT, hne]
        omega
  have ha : allIn os (eT (eT (eO TV.int)) p) = true := by
    show (p.map (eT (eO TV.int))).all (rowIn os) = true
    rw [List.all_eq_true]
    intro t ht
    obtain ⟨row, hr, rfl⟩ := List.mem_map.mp ht
    show (row.map (eO TV.int)).all (inB os) = true
    rw [List.all_eq_true]
    intro u hu
    obtain ⟨o, ho, rfl⟩ := List.mem_map.mp hu
    obtain ⟨i, hi⟩ := List.getElem?_of_mem ho
    cases o with
    | none => rfl
    | some k =>
      have := ((h row hr).2 i _ hi k rfl).2.2
      simp [eO, inB, this]
  unfold sparB
  rw [ha, Bool.and_true]
  rcases hn with rfl | rfl | rfl
  · rw [hp]; rfl
  · rw [hp]; cases patB 3 _ <;> rfl
  · rw [hp]; cases patB 3 _ <;> cases patB 4 _ <;> rfl
end K50

set_option Elab.async false
set_option linter.all false
set_option maxRecDepth 100000
set_option maxHeartbeats 1000000
namespace K50
open PySem PySem.Spec PyProof.Rows L2 Am Bm Cm
theorem pow_eq {k : Int} (h0 : 0 ≤ k) (h1 : k ≤ 1000) : powM 10 k = .pure (10 ^ k.toNat) := chk_pos ⟨h0, h1, small_iff.mpr ⟨by omega, by omega⟩⟩
theorem rep_eq {α : Type} {xs : List α} {k : Int} (h0 : -1000 ≤ k) (h1 : k ≤ 1000) (h : xs.length ≤ 1000) : repM xs k = .pure (List.replicate k.toNat xs).flatten := chk_pos ⟨h0, h1, h⟩
theorem put_ok {σ α : Type} {xs : List α} {i : Int} {a : α} (h0 : 0 ≤ i) (h1 : i < xs.length) : (putM xs i a : M σ (List α)) = .pure (xs.set i.toNat a) := by
  unfold putM
  rw [ixN_of h0 h1]
theorem kn_mem_flat {xs : List TV} {k : Nat} (h : ∀ t, t ∈ xs → knB t = true) : ∀ t, t ∈ (List.replicate k xs).flatten → knB t = true := fun t ht => by
  obtain ⟨ys, hy, hm⟩ := List.mem_flatten.mp ht
  rw [(List.mem_replicate.mp hy).2] at hm
  exact h t hm
theorem cut_mem {α : Type} {xs : List α} {l h : Option Int} {x : α} (hx : x ∈ cutL xs l h) : x ∈ xs := by
  unfold cutL at hx
  exact List.mem_of_mem_drop (List.mem_of_mem_take hx)
theorem bent_ok {cs : List Int} {n : Int} {p : List (List (Option Int))} (n1 : 3 ≤ n) (n2 : n ≤ 5) (hl : p.length ≤ 30) (hr : ∀ row, row ∈ p → (row.length : Int) = n) : Ok (f_law_bent cs (n, p)) (fun t => knB t = true) := by
  unfold f_law_bent
  dsimp only
  rw [M.pure_bind]
  refine Ok.ite (fun _ => ?_) fun hne => ?_
  · rw [rep_eq (by omega) (by omega) (by simp), lift_pure, M.pure_bind, M.pure_bind]
    generalize (List.replicate n.toNat [()]).flatten = more
    refine (Ok.any (by simp) (by simp)).mono fun t ht => ?_
    simp only [List.mem_cons, List.not_mem_nil, or_false] at ht
    rcases ht with rfl | rfl | rfl | rfl | rfl | rfl | rfl | rfl | rfl | rfl | rfl
    · simp [knB]
    · simp [knB]
    · simp [knB]
    · simp [knB]
    · simp [knB]
    · simp [knB, knsB]
    · simp [knB, knsB]
    · exact knB_tup.mpr fun t ht => by
        simp at ht
        subst ht
        exact kn_nons _
    · exact knB_tup.mpr fun t ht => by
        simp only [List.mem_cons, List.not_mem_nil, or_false] at ht
        rcases ht with rfl | rfl <;> exact kn_nons _
    · exact knB_tup.mpr fun t ht => by
        simp at ht
        subst ht
        simp [knB]
    · exact knB_tup.mpr fun t ht => by
        simp at ht
        subst ht
        exact knB_tup.mpr fun t ht => by
          simp at ht
          subst ht
          exact kn_nons _
  · have hpl : 0 < p.length := by
      have h1 := of_decide_eq_false hne
      omega
    refine Ok.bind (P := fun q : Int × Int => (0 ≤ q.1 ∧ q.1 < p.length) ∧ 0 ≤ q.2 ∧ q.2 < n) (Ok.bind (Ok.draw (by omega) (by omega)) fun a ha => Ok.bind (Ok.draw (by omega) (by omega)) fun b hb => Ok.pure ⟨ha, hb⟩) fun ⟨r, me⟩ ⟨⟨r0, r1⟩, m0, m1⟩ => ?_
    dsimp only at r0 r1 m0 m1 ⊢
    obtain ⟨row, _, hrow, er⟩ := atM_of (xs := p) r0 r1
    have hrl := hr row hrow
    rw [er]
    simp only [lift_pure, M.pure_bind]
    refine Ok.bind (P := fun q : List TV × Int => ((q.1.length : Int) = n ∧ ∀ t, t ∈ q.1 → knB t = true) ∧ 0 ≤ q.2 ∧ q.2 < 9) (Ok.bind (Ok.draw (by omega) (by omega)) fun k hk => Ok.pure ⟨⟨by simpa using hrl, fun t ht => by
      obtain ⟨o, _, rfl⟩ := List.mem_map.mp ht
      exact kn_opt o⟩, hk⟩) fun ⟨rw0, kind⟩ ⟨⟨hw1, hw2⟩, k0, k9⟩ => ?_
    dsimp only at hw1 hw2 k0 k9 ⊢
    have hset : ∀ {x : TV}, knB x = true → ((((rw0.set me.toNat x).length : Nat) : Int) = n ∧ ∀ t, t ∈ rw0.set me.toNat x → knB t = true) := fun hx => ⟨by simpa using hw1, fun t ht => by
      rcases List.mem_or_eq_of_mem_set ht with h | rfl
      · exact hw2 t h
      · exact hx⟩
    have hput : ∀ x : TV, (putM rw0 me x : M (Pot.PotS cs) (List TV)) = .pure (rw0.set me.toNat x) := fun x => put_ok m0 (by omega)
    -- what is told of a row put in
    have hfin : ∀ x : TV, knB x = true → (catM (List.map (eT (eO TV.int)) (cutL p none (some r))) [x]).bind (fun a => catM a (List.map (eT (eO TV.int)) (cutL p (some (r + 1)) none))) = .pure ((List.map (eT (eO TV.int)) (cutL p none (some r)) ++ [x]) ++ List.map (eT (eO TV.int)) (cutL p (some (r + 1)) none)) ∧ ∀ t, t ∈ (List.map (eT (eO TV.int)) (cutL p none (some r)) ++ [x]) ++ List.map (eT (eO TV.int)) (cutL p (some (r + 1)) none) → knB t = true := fun x hx => by
      have c1 := cut_len p none (some r)
      have c2 := cut_len p (some (r + 1)) none
      refine ⟨?_, kn_app (kn_app (kn_rows _) fun t ht => ?_) (kn_rows _)⟩
      · rw [catS (by rw [List.length_map]; omega) (by simp), M.pure_bind, catS (by rw [List.length_append, List.length_map]; simp; omega) (by rw [List.length_map]; omega)]
      · simp at ht
        exact ht ▸ hx
    have hfinL : ∀ x : TV, knB x = true → ∃ ts, (∀ t, t ∈ ts → knB t = true) ∧ ∀ {β : Type} (k : List TV → M (Pot.PotS cs) β), (M.bind (lift (catM (List.map (eT (eO TV.int)) (cutL p none (some r))) [x])) fun a => M.bind (lift (catM a (List.map (eT (eO TV.int)) (cutL p (some (r + 1)) none)))) k) = k ts := fun x hx => by
      obtain ⟨h1, h2⟩ := hfin x hx
      refine ⟨_, h2, fun k => ?_⟩
      have c1 := cut_len p none (some r)
      have c2 := cut_len p (some (r + 1)) none
      rw [catS (by rw [List.length_map]; omega) (by simp), lift_pure, M.pure_bind, catS (by rw [List.length_append, List.length_map]; simp; omega) (by rw [List.length_map]; omega), lift_pure, M.pure_bind]
    refine Ok.bind (P := fun c : Ctl (List TV) TV => (∃ w, c = .nx w ∧ ∀ t, t ∈ w → knB t = true) ∨ ∃ t, c = .rt t ∧ knB t = true) ?_ fun c hc => ?_
    · refine Ok.ite (fun _ => ?_) fun _ => ?_
      · simp only [M.bind_assoc]
        refine Ok.bind (Ok.draw (by omega) (by omega)) fun a ha => ?_
        rw [M.pure_bind, M.pure_bind, modM_of (by omega), lift_pure]
        simp only [M.pure_bind, hput]
        exact Ok.pure (.inl ⟨_, rfl, (hset (by simp [knB])).2⟩)
      refine Ok.ite (fun _ => ?_) fun _ => ?_
      · simp only [M.bind_assoc, M.pure_bind, pow_eq (k := 50) (by omega) (by omega), lift_pure]
        refine Ok.bind deep_ok fun d hd => ?_
        refine Ok.bind (P := fun t => knB t = true) ((Ok.any (by simp) (by simp)).mono fun t ht => ?_) fun x hx => ?_
        · simp only [List.mem_cons, List.not_mem_nil, or_false] at ht
          rcases ht with rfl | rfl | rfl | rfl | rfl | rfl | rfl | rfl | rfl | rfl | rfl | rfl <;> first | exact hd | simp [knB, knsB]
        · simp only [M.pure_bind, hput]
          exact Ok.pure (.inl ⟨_, rfl, (hset hx).2⟩)
      refine Ok.ite (fun _ => ?_) fun _ => ?_
      · have hw3 : rw0.length ≤ 5 := by omega
        simp only [M.bind_assoc, M.pure_bind, catS (show rw0.length ≤ 100000 by omega) (show [eN ()].length ≤ 100000 by simp), rep_eq (xs := rw0) (k := 2) (by omega) (by omega) (by omega), lift_pure]
        refine Ok.bind (P := fun t => knB t = true) ((Ok.any (by simp) (by simp)).mono fun t ht => ?_) fun x hx => ?_
        · simp only [List.mem_cons, List.not_mem_nil, or_false] at ht
          rcases ht with rfl | rfl | rfl | rfl | rfl | rfl | rfl
          · exact kn_any fun t ht => hw2 t (cut_mem ht)
          · exact kn_any (kn_app hw2 fun t ht => by
              simp at ht
              subst ht
              simp [knB])
          · simp [knB]
          · simp [knB]
          · simp [knB, knsB]
          · exact kn_any (kn_mem_flat hw2)
          · simp [knB]
        · obtain ⟨ts, h1, h2⟩ := hfinL x hx
          rw [h2]
          exact Ok.pure (.inr ⟨_, rfl, kn_any h1⟩)
      refine Ok.ite (fun _ => ?_) fun _ => ?_
      · have e1 : repM [()] (n + 1) = .pure (List.replicate (n + 1).toNat [()]).flatten := rep_eq (by omega) (by omega) (by simp)
        obtain ⟨row0, _, hrow0, er0⟩ := atM_of (xs := p) (i := 0) (by omega) (by omega)
        have c1 : ∀ x : TV, catM (List.map (eT (eO TV.int)) p) [x] = .pure (List.map (eT (eO TV.int)) p ++ [x]) := fun x => catS (by rw [List.length_map]; omega) (by simp)
        simp only [M.bind_assoc, M.pure_bind, e1, er0, c1, lift_pure]
        refine Ok.bind (P := fun t => knB t = true) ((Ok.any (by simp) (by simp)).mono fun t ht => ?_) fun x hx => Ok.pure (.inr ⟨_, rfl, hx⟩)
        simp only [List.mem_cons, List.not_mem_nil, or_false] at ht
        rcases ht with rfl | rfl | rfl | rfl | rfl
        · simp [knB]
        · exact kn_any (kn_app (kn_rows _) fun t ht => by
            simp at ht
            subst ht
            simp [knB])
        · exact kn_any (kn_app (kn_rows _) fun t ht => by
            simp at ht
            subst ht
            exact kn_nons _)
        · exact knB_tup.mpr fun t ht => by
            simp at ht
            subst ht
            exact kn_pat _
        · exact kn_row _
      refine Ok.ite (fun _ => ?_) fun _ => ?_
      · simp only [M.bind_assoc, M.pure_bind, rep_eq (xs := p) (k := 31) (by omega) (by omega) (by omega), lift_pure]
        refine Ok.bind (Ok.draw (by omega) (by omega)) fun a ha => ?_
        exact Ok.pure (.inr ⟨_, rfl, kn_pat _⟩)
      · have c2 := cut_len p none (some 1)
        rw [catS (by rw [List.length_reverse]; omega) (by omega), lift_pure]
        simp only [M.pure_bind]
        exact Ok.pure (.inr ⟨_, rfl, kn_pat _⟩)
    · rcases hc with ⟨w, rfl, hw⟩ | ⟨t, rfl, ht⟩
      · dsimp only
        obtain ⟨ts, h1, h2⟩ := hfinL (eT eA w) (kn_any hw)
        simp only [M.bind_assoc, M.pure_bind, h2]
        exact Ok.pure (kn_any h1)
      · exact Ok.pure ht
end K50

set_option Elab.async false
set_option linter.all false
set_option maxRecDepth 100000
set_option maxHeartbeats 1000000
namespace K50
open PySem PySem.Spec PyProof.Rows L2 Am Bm Cm
theorem rep_anyL (b : Bool) : reprM (eA (eP TV.str TV.bl (wLet, b))) = .pure (dLet b).shown := rep_let b
theorem rep_anyN : reprM (eA (eP TV.str eN (wLot, ()))) = .pure dLot.shown := rep_lot
theorem same_no : eqT (eP TV.str (eO TV.bl) (wLot, none)) (eP TV.str eN (wLot, ())) = .pure true := by
  have e : toDT 60 (eP TV.str (eO TV.bl) (wLot, none)) = some dLot := by
    simp [toDT, allDT, eO, dLot]
  have e2 : toDT 60 (eP TV.str eN (wLot, ())) = some dLot := by
    simp [toDT, allDT, dLot]
  unfold Bm.eqT
  rw [e, e2]
  dsimp only
  rw [if_pos (by decide +kernel)]
  congr 1
theorem law_ok (mg : Str → Option Value) (cs : List Int) : Ok (f_law mg cs) (fun b => b = true) := by
  unfold f_law
  refine Ok.thenR (I := fun _ => True) ?_ fun _ _ => Ok.pure rfl
  rw [rngM_of (by omega) (by omega) (by omega) (by omega), lift_pure, M.pure_bind]
  refine (Ok.forC (I := fun _ _ => True) ?_ _ _ trivial).mono fun c ⟨st, e, _⟩ => ⟨st, e, trivial⟩
  intro x rest st _
  refine Ok.bind (P := fun p : Int × Int × List Int => (p.1 = 3 ∨ p.1 = 4 ∨ p.1 = 5) ∧ (0 ≤ p.2.1 ∧ p.2.1 ≤ 30) ∧ lotB p.2.2 = true) ?_ fun ⟨n, r, os⟩ ⟨hn, ⟨r1, r2⟩, hos⟩ => ?_
  · refine Ok.bind (P := fun n => n = 3 ∨ n = 4 ∨ n = 5) ?_ fun n hn => ?_
    · rw [M.pure_bind]
      refine Ok.bind (Ok.draw (by omega) (by omega)) fun a ha => ?_
      rw [lift_pure]
      exact Ok.pure (by omega)
    · refine Ok.bind (P := fun p : Int × List Int => (0 ≤ p.1 ∧ p.1 ≤ 30) ∧ lotB p.2 = true) (Ok.bind (P := fun r => 0 ≤ r ∧ r ≤ 30) ((Ok.any (by simp) (by simp)).mono fun r hr => ?_) fun r hr => Ok.bind some_ok fun os hos => Ok.pure ⟨hr, hos⟩) fun p hp => Ok.pure ⟨hn, hp.1, hp.2⟩
      simp only [List.mem_cons, List.not_mem_nil, or_false] at hr
      omega
  dsimp only at hn r1 r2 hos ⊢
  refine Ok.bind (pattern_ok' hos (by omega) (by omega) r1 r2) fun p ⟨pl, pr⟩ => ?_
  have hpl : p.length ≤ 30 := by omega
  have hs1 : lotOf (eT TV.int os) = some os := lotOf_of hos
  have ks : Kn1 (eT TV.int os) := kn1 (kn_ints os)
  have kp : Kn2 (eT (eT (eO TV.int)) p) := kn2 (kn_pat p)
  have hsp := pat_spar hn hpl pr
  have hrow : ∀ row, row ∈ p → (row.length : Int) = n := fun row h => (pr row h).1
  rw [told_yes ks hs1 kp, hsp, lift_pure, M.pure_bind, rep_let, lift_pure, M.pure_bind, M.pure_bind]
  rw [show (reprM (eP TV.str TV.bl (Str.ofString "let", true))) = .pure (dLet true).shown from rep_let2 true]
  simp only [lift_pure, M.pure_bind, same_let, Bool.not_true, if_false, Bool.false_eq_true]
  refine Ok.thenC (I := fun _ => True) ?_ fun _ _ => ?_
  · simp only [M.bind_assoc]
    refine Ok.bind (Ok.draw (by omega) (by omega)) fun k hk => ?_
    rw [rngM_of (by omega) (by omega) (by omega) (by omega), lift_pure, M.pure_bind]
    refine (Ok.forC (I := fun _ _ => True) ?_ _ _ trivial).mono fun c ⟨st, e, _⟩ => ⟨st, e, trivial⟩
    intro x rest st _
    refine Ok.bind (bent_ok (by omega) (by omega) hpl hrow) fun t ht => ?_
    rw [told_yes ks hs1 (kn2 ht), lspar_eq (kn2 ht)]
    simp only [lift_pure, M.pure_bind, rep_let]
    rw [show (reprM (eP TV.str TV.bl (Str.ofString "let", sparB os t))) = .pure (dLet (sparB os t)).shown from rep_let2 _]
    simp only [lift_pure, M.pure_bind, same_let, Bool.not_true, if_false, Bool.false_eq_true]
    exact Ok.pure ⟨_, rfl, trivial⟩
  have hol := lot_len hos
  have c1 : catM os [(5 : Int)] = .pure (os ++ [5]) := catS (by omega) (by simp)
  have c2 : catM os (cutL os (some (-(1 : Int))) none) = .pure (os ++ cutL os (some (-(1 : Int))) none) := catS (by omega) (by have := cut_len os (some (-1)) none; omega)
  have c3 : catM [(-(1 : Int))] os = .pure ([-(1 : Int)] ++ os) := catS (by simp) (by omega)
  simp only [c1, c2, c3, lift_pure, M.pure_bind, M.bind_assoc, pow_eq (k := 30) (by omega) (by omega)]
  refine Ok.bind deep_ok fun d hd => ?_
  rw [catS (by simp) (by simp), lift_pure, M.pure_bind]
  refine Ok.bind (P := fun t => knB t = true) ((Ok.any (by simp) (by simp)).mono fun t ht => ?_) fun o ho => ?_
  · simp only [List.cons_append, List.nil_append, List.mem_cons, List.not_mem_nil, or_false] at ht
    rcases ht with rfl | rfl | rfl | rfl | rfl | rfl | rfl | rfl | rfl | rfl | rfl | rfl | rfl | rfl | rfl | rfl | rfl | rfl <;> first | exact hd | exact kn_ints _ | simp [knB, knsB]
  have ko : Kn1 o := kn1 ho
  cases hlot : lotOf o with
  | some qs =>
    obtain ⟨rfl, hq⟩ := lotOf_some hlot
    simp only [llot_eq ko, hlot, Option.isSome_some, lift_pure, M.pure_bind, if_true, lspar_eq kp, told_yes ko hlot kp, rep_let, rep_anyL, Bool.not_true, if_false, Bool.false_eq_true]
    simp only [lift_pure, M.pure_bind, same_let, Bool.not_true, if_false, Bool.false_eq_true]
    exact Ok.pure ⟨_, rfl, trivial⟩
  | none =>
    simp only [llot_eq ko, hlot, Option.isSome_none, lift_pure, M.pure_bind, told_no ko hlot, rep_lot, Bool.not_false, if_true, if_false, Bool.false_eq_true]
    have e0 : reprM (eA (eP TV.str eN (Str.ofString "lot", ()))) = .pure dLot.shown := rep_lot
    simp only [e0, lift_pure, M.pure_bind, same_lot, Bool.not_true, if_false, Bool.false_eq_true, M.bind_assoc]
    refine Ok.bind (bent_ok (by omega) (by omega) hpl hrow) fun t ht => ?_
    have e : eqT (eP TV.str (eO TV.bl) (wLot, none)) (eP TV.str eN (Str.ofString "lot", ())) = .pure true := same_no
    simp only [told_no ko hlot, lift_pure, M.pure_bind, e, Bool.not_true, if_false, Bool.false_eq_true]
    exact Ok.pure ⟨_, rfl, trivial⟩
theorem law_true (mg : Str → Option Value) (ns : List Int) (hn : ns.length ≤ 63) : ∃ A, m_law mg [.cst (ns.map .int)] [] = .ok (.bl true) A :=
  Pot.law_end (o := fun _ cs => f_law mg cs) (fun sl cs => t_law) fun sl cs s => by
    obtain ⟨a, s', e, rfl⟩ := law_ok mg cs s
    exact ⟨s', e⟩
end K50

set_option Elab.async false
set_option linter.all false
set_option maxRecDepth 100000
set_option maxHeartbeats 4000000
namespace K50
open PySem PySem.Spec PyProof.Rows L2 Am Bm Cm
theorem lawAt {l : PySem.W.OpenLaw} {w : World} {h : Heap} {K : PySem.W.Frag} {mg : Str → Option Value} {fa : Addr} (X : K.In h) (G : h.Ns mainGlobals mg) (hfa : mg "law" = some (.ref fa))
    {f_is_integer f_is_number f_is_integers f_is_turn f_is_other f_is_ascending f_is_pattern_of f_is_any_pattern f_is_sparing f_is_lot_below f_law_pot f_law_draw f_law_any f_law_deep f_law_some f_law_entry f_law_pattern f_law_bent f_law_is_int f_law_is_lot f_law_is_row f_law_is_sparing f_law_told f_law C_SilentError C_NoMachine C_NoLot C_NoPattern : Addr}
    {od_is_integer an_is_integer : Option Addr} {sl_is_integer : Array (Option Value)} {oc_is_integer kV_is_integer dc_is_integer pm_is_integer cd_is_integer ct_is_integer : Value}
    {od_is_number an_is_number : Option Addr} {sl_is_number : Array (Option Value)} {oc_is_number kV_is_number dc_is_number pm_is_number cd_is_number ct_is_number : Value}
    {od_is_integers an_is_integers : Option Addr} {sl_is_integers : Array (Option Value)} {oc_is_integers kV_is_integers dc_is_integers pm_is_integers cd_is_integers ct_is_integers : Value}
    {od_is_turn an_is_turn : Option Addr} {sl_is_turn : Array (Option Value)} {oc_is_turn kV_is_turn dc_is_turn pm_is_turn cd_is_turn ct_is_turn : Value}
    {od_is_other an_is_other : Option Addr} {sl_is_other : Array (Option Value)} {oc_is_other kV_is_other dc_is_other pm_is_other cd_is_other ct_is_other : Value}
    {od_is_ascending an_is_ascending : Option Addr} {sl_is_ascending : Array (Option Value)} {oc_is_ascending kV_is_ascending dc_is_ascending pm_is_ascending cd_is_ascending ct_is_ascending : Value}
    {od_is_pattern_of an_is_pattern_of : Option Addr} {sl_is_pattern_of : Array (Option Value)} {oc_is_pattern_of kV_is_pattern_of dc_is_pattern_of pm_is_pattern_of cd_is_pattern_of ct_is_pattern_of : Value}
    {od_is_any_pattern an_is_any_pattern : Option Addr} {sl_is_any_pattern : Array (Option Value)} {oc_is_any_pattern kV_is_any_pattern dc_is_any_pattern pm_is_any_pattern cd_is_any_pattern ct_is_any_pattern : Value}
    {od_is_sparing an_is_sparing : Option Addr} {sl_is_sparing : Array (Option Value)} {oc_is_sparing kV_is_sparing dc_is_sparing pm_is_sparing cd_is_sparing ct_is_sparing : Value}
    {od_is_lot_below an_is_lot_below : Option Addr} {sl_is_lot_below : Array (Option Value)} {oc_is_lot_below kV_is_lot_below dc_is_lot_below pm_is_lot_below cd_is_lot_below ct_is_lot_below : Value}
    {od_law_pot an_law_pot : Option Addr} {sl_law_pot : Array (Option Value)} {oc_law_pot kV_law_pot dc_law_pot pm_law_pot cd_law_pot ct_law_pot : Value}
    {od_law_draw an_law_draw : Option Addr} {sl_law_draw : Array (Option Value)} {oc_law_draw kV_law_draw dc_law_draw pm_law_draw cd_law_draw ct_law_draw : Value}
    {od_law_any an_law_any : Option Addr} {sl_law_any : Array (Option Value)} {oc_law_any kV_law_any dc_law_any pm_law_any cd_law_any ct_law_any : Value}
    {od_law_deep an_law_deep : Option Addr} {sl_law_deep : Array (Option Value)} {oc_law_deep kV_law_deep dc_law_deep pm_law_deep cd_law_deep ct_law_deep : Value}
    {od_law_some an_law_some : Option Addr} {sl_law_some : Array (Option Value)} {oc_law_some kV_law_some dc_law_some pm_law_some cd_law_some ct_law_some : Value}
    {od_law_entry an_law_entry : Option Addr} {sl_law_entry : Array (Option Value)} {oc_law_entry kV_law_entry dc_law_entry pm_law_entry cd_law_entry ct_law_entry : Value}
    {od_law_pattern an_law_pattern : Option Addr} {sl_law_pattern : Array (Option Value)} {oc_law_pattern kV_law_pattern dc_law_pattern pm_law_pattern cd_law_pattern ct_law_pattern : Value}
    {od_law_bent an_law_bent : Option Addr} {sl_law_bent : Array (Option Value)} {oc_law_bent kV_law_bent dc_law_bent pm_law_bent cd_law_bent ct_law_bent : Value}
    {od_law_is_int an_law_is_int : Option Addr} {sl_law_is_int : Array (Option Value)} {oc_law_is_int kV_law_is_int dc_law_is_int pm_law_is_int cd_law_is_int ct_law_is_int : Value}
    {od_law_is_lot an_law_is_lot : Option Addr} {sl_law_is_lot : Array (Option Value)} {oc_law_is_lot kV_law_is_lot dc_law_is_lot pm_law_is_lot cd_law_is_lot ct_law_is_lot : Value}
    {od_law_is_row an_law_is_row : Option Addr} {sl_law_is_row : Array (Option Value)} {oc_law_is_row kV_law_is_row dc_law_is_row pm_law_is_row cd_law_is_row ct_law_is_row : Value}
    {od_law_is_sparing an_law_is_sparing : Option Addr} {sl_law_is_sparing : Array (Option Value)} {oc_law_is_sparing kV_law_is_sparing dc_law_is_sparing pm_law_is_sparing cd_law_is_sparing ct_law_is_sparing : Value}
    {od_law_told an_law_told : Option Addr} {sl_law_told : Array (Option Value)} {oc_law_told kV_law_told dc_law_told pm_law_told cd_law_told ct_law_told : Value}
    {od_law an_law : Option Addr} {sl_law : Array (Option Value)} {oc_law kV_law dc_law pm_law cd_law ct_law : Value}
    {t_MOST_ROUNDS : Tok}
    (a_is_integer : PySem.W.nsIn K mainGlobals "is_integer" = some (some (.ref f_is_integer)))
    (l_is_integer : K.lookup f_is_integer = some ⟨oc_is_integer, od_is_integer, .func (PySem.W.fnOf "is_integer" "is_integer" (defArgs s_is_integer) (defBody s_is_integer) (defScope s_is_integer) .none kV_is_integer dc_is_integer pm_is_integer an_is_integer cd_is_integer ct_is_integer), sl_is_integer⟩)
    (c_is_integer : PySem.W.codeIn K cd_is_integer "is_integer" = true)
    (k_is_integer : PySem.W.keepIn K (.ref f_is_integer) = true)
    (a_is_number : PySem.W.nsIn K mainGlobals "is_number" = some (some (.ref f_is_number)))
    (l_is_number : K.lookup f_is_number = some ⟨oc_is_number, od_is_number, .func (PySem.W.fnOf "is_number" "is_number" (defArgs s_is_number) (defBody s_is_number) (defScope s_is_number) .none kV_is_number dc_is_number pm_is_number an_is_number cd_is_number ct_is_number), sl_is_number⟩)
    (c_is_number : PySem.W.codeIn K cd_is_number "is_number" = true)
    (k_is_number : PySem.W.keepIn K (.ref f_is_number) = true)
    (a_is_integers : PySem.W.nsIn K mainGlobals "is_integers" = some (some (.ref f_is_integers)))
    (l_is_integers : K.lookup f_is_integers = some ⟨oc_is_integers, od_is_integers, .func (PySem.W.fnOf "is_integers" "is_integers" (defArgs s_is_integers) (defBody s_is_integers) (defScope s_is_integers) .none kV_is_integers dc_is_integers pm_is_integers an_is_integers cd_is_integers ct_is_integers), sl_is_integers⟩)
    (c_is_integers : PySem.W.codeIn K cd_is_integers "is_integers" = true)
    (k_is_integers : PySem.W.keepIn K (.ref f_is_integers) = true)
    (a_is_turn : PySem.W.nsIn K mainGlobals "is_turn" = some (some (.ref f_is_turn)))
    (l_is_turn : K.lookup f_is_turn = some ⟨oc_is_turn, od_is_turn, .func (PySem.W.fnOf "is_turn" "is_turn" (defArgs s_is_turn) (defBody s_is_turn) (defScope s_is_turn) .none kV_is_turn dc_is_turn pm_is_turn an_is_turn cd_is_turn ct_is_turn), sl_is_turn⟩)
    (c_is_turn : PySem.W.codeIn K cd_is_turn "is_turn" = true)
    (k_is_turn : PySem.W.keepIn K (.ref f_is_turn) = true)
    (a_is_other : PySem.W.nsIn K mainGlobals "_is_other" = some (some (.ref f_is_other)))
    (l_is_other : K.lookup f_is_other = some ⟨oc_is_other, od_is_other, .func (PySem.W.fnOf "_is_other" "_is_other" (defArgs s_is_other) (defBody s_is_other) (defScope s_is_other) .none kV_is_other dc_is_other pm_is_other an_is_other cd_is_other ct_is_other), sl_is_other⟩)
    (c_is_other : PySem.W.codeIn K cd_is_other "_is_other" = true)
    (k_is_other : PySem.W.keepIn K (.ref f_is_other) = true)
    (a_is_ascending : PySem.W.nsIn K mainGlobals "is_ascending" = some (some (.ref f_is_ascending)))
    (l_is_ascending : K.lookup f_is_ascending = some ⟨oc_is_ascending, od_is_ascending, .func (PySem.W.fnOf "is_ascending" "is_ascending" (defArgs s_is_ascending) (defBody s_is_ascending) (defScope s_is_ascending) .none kV_is_ascending dc_is_ascending pm_is_ascending an_is_ascending cd_is_ascending ct_is_ascending), sl_is_ascending⟩)
    (c_is_ascending : PySem.W.codeIn K cd_is_ascending "is_ascending" = true)
    (k_is_ascending : PySem.W.keepIn K (.ref f_is_ascending) = true)
    (a_is_pattern_of : PySem.W.nsIn K mainGlobals "is_pattern_of" = some (some (.ref f_is_pattern_of)))
    (l_is_pattern_of : K.lookup f_is_pattern_of = some ⟨oc_is_pattern_of, od_is_pattern_of, .func (PySem.W.fnOf "is_pattern_of" "is_pattern_of" (defArgs s_is_pattern_of) (defBody s_is_pattern_of) (defScope s_is_pattern_of) .none kV_is_pattern_of dc_is_pattern_of pm_is_pattern_of an_is_pattern_of cd_is_pattern_of ct_is_pattern_of), sl_is_pattern_of⟩)
    (c_is_pattern_of : PySem.W.codeIn K cd_is_pattern_of "is_pattern_of" = true)
    (k_is_pattern_of : PySem.W.keepIn K (.ref f_is_pattern_of) = true)
    (a_is_any_pattern : PySem.W.nsIn K mainGlobals "is_any_pattern" = some (some (.ref f_is_any_pattern)))
    (l_is_any_pattern : K.lookup f_is_any_pattern = some ⟨oc_is_any_pattern, od_is_any_pattern, .func (PySem.W.fnOf "is_any_pattern" "is_any_pattern" (defArgs s_is_any_pattern) (defBody s_is_any_pattern) (defScope s_is_any_pattern) .none kV_is_any_pattern dc_is_any_pattern pm_is_any_pattern an_is_any_pattern cd_is_any_pattern ct_is_any_pattern), sl_is_any_pattern⟩)
    (c_is_any_pattern : PySem.W.codeIn K cd_is_any_pattern "is_any_pattern" = true)
    (k_is_any_pattern : PySem.W.keepIn K (.ref f_is_any_pattern) = true)
    (a_is_sparing : PySem.W.nsIn K mainGlobals "is_sparing" = some (some (.ref f_is_sparing)))
    (l_is_sparing : K.lookup f_is_sparing = some ⟨oc_is_sparing, od_is_sparing, .func (PySem.W.fnOf "is_sparing" "is_sparing" (defArgs s_is_sparing) (defBody s_is_sparing) (defScope s_is_sparing) .none kV_is_sparing dc_is_sparing pm_is_sparing an_is_sparing cd_is_sparing ct_is_sparing), sl_is_sparing⟩)
    (c_is_sparing : PySem.W.codeIn K cd_is_sparing "is_sparing" = true)
    (k_is_sparing : PySem.W.keepIn K (.ref f_is_sparing) = true)
    (a_is_lot_below : PySem.W.nsIn K mainGlobals "_is_lot_below" = some (some (.ref f_is_lot_below)))
    (l_is_lot_below : K.lookup f_is_lot_below = some ⟨oc_is_lot_below, od_is_lot_below, .func (PySem.W.fnOf "_is_lot_below" "_is_lot_below" (defArgs s_is_lot_below) (defBody s_is_lot_below) (defScope s_is_lot_below) .none kV_is_lot_below dc_is_lot_below pm_is_lot_below an_is_lot_below cd_is_lot_below ct_is_lot_below), sl_is_lot_below⟩)
    (c_is_lot_below : PySem.W.codeIn K cd_is_lot_below "_is_lot_below" = true)
    (k_is_lot_below : PySem.W.keepIn K (.ref f_is_lot_below) = true)
    (a_law_pot : PySem.W.nsIn K mainGlobals "_law_pot" = some (some (.ref f_law_pot)))
    (l_law_pot : K.lookup f_law_pot = some ⟨oc_law_pot, od_law_pot, .func (PySem.W.fnOf "_law_pot" "_law_pot" (defArgs s_law_pot) (defBody s_law_pot) (defScope s_law_pot) .none kV_law_pot dc_law_pot pm_law_pot an_law_pot cd_law_pot ct_law_pot), sl_law_pot⟩)
    (c_law_pot : PySem.W.codeIn K cd_law_pot "_law_pot" = true)
    (k_law_pot : PySem.W.keepIn K (.ref f_law_pot) = true)
    (a_law_draw : PySem.W.nsIn K mainGlobals "_law_draw" = some (some (.ref f_law_draw)))
    (l_law_draw : K.lookup f_law_draw = some ⟨oc_law_draw, od_law_draw, .func (PySem.W.fnOf "_law_draw" "_law_draw" (defArgs s_law_draw) (defBody s_law_draw) (defScope s_law_draw) .none kV_law_draw dc_law_draw pm_law_draw an_law_draw cd_law_draw ct_law_draw), sl_law_draw⟩)
    (c_law_draw : PySem.W.codeIn K cd_law_draw "_law_draw" = true)
    (k_law_draw : PySem.W.keepIn K (.ref f_law_draw) = true)
    (a_law_any : PySem.W.nsIn K mainGlobals "_law_any" = some (some (.ref f_law_any)))
    (l_law_any : K.lookup f_law_any = some ⟨oc_law_any, od_law_any, .func (PySem.W.fnOf "_law_any" "_law_any" (defArgs s_law_any) (defBody s_law_any) (defScope s_law_any) .none kV_law_any dc_law_any pm_law_any an_law_any cd_law_any ct_law_any), sl_law_any⟩)
    (c_law_any : PySem.W.codeIn K cd_law_any "_law_any" = true)
    (k_law_any : PySem.W.keepIn K (.ref f_law_any) = true)
    (a_law_deep : PySem.W.nsIn K mainGlobals "_law_deep" = some (some (.ref f_law_deep)))
    (l_law_deep : K.lookup f_law_deep = some ⟨oc_law_deep, od_law_deep, .func (PySem.W.fnOf "_law_deep" "_law_deep" (defArgs s_law_deep) (defBody s_law_deep) (defScope s_law_deep) .none kV_law_deep dc_law_deep pm_law_deep an_law_deep cd_law_deep ct_law_deep), sl_law_deep⟩)
    (c_law_deep : PySem.W.codeIn K cd_law_deep "_law_deep" = true)
    (k_law_deep : PySem.W.keepIn K (.ref f_law_deep) = true)
    (a_law_some : PySem.W.nsIn K mainGlobals "_law_some" = some (some (.ref f_law_some)))
    (l_law_some : K.lookup f_law_some = some ⟨oc_law_some, od_law_some, .func (PySem.W.fnOf "_law_some" "_law_some" (defArgs s_law_some) (defBody s_law_some) (defScope s_law_some) .none kV_law_some dc_law_some pm_law_some an_law_some cd_law_some ct_law_some), sl_law_some⟩)
    (c_law_some : PySem.W.codeIn K cd_law_some "_law_some" = true)
    (k_law_some : PySem.W.keepIn K (.ref f_law_some) = true)
    (a_law_entry : PySem.W.nsIn K mainGlobals "_law_entry" = some (some (.ref f_law_entry)))
    (l_law_entry : K.lookup f_law_entry = some ⟨oc_law_entry, od_law_entry, .func (PySem.W.fnOf "_law_entry" "_law_entry" (defArgs s_law_entry) (defBody s_law_entry) (defScope s_law_entry) .none kV_law_entry dc_law_entry pm_law_entry an_law_entry cd_law_entry ct_law_entry), sl_law_entry⟩)
    (c_law_entry : PySem.W.codeIn K cd_law_entry "_law_entry" = true)
    (k_law_entry : PySem.W.keepIn K (.ref f_law_entry) = true)
    (a_law_pattern : PySem.W.nsIn K mainGlobals "_law_pattern" = some (some (.ref f_law_pattern)))
    (l_law_pattern : K.lookup f_law_pattern = some ⟨oc_law_pattern, od_law_pattern, .func (PySem.W.fnOf "_law_pattern" "_law_pattern" (defArgs s_law_pattern) (defBody s_law_pattern) (defScope s_law_pattern) .none kV_law_pattern dc_law_pattern pm_law_pattern an_law_pattern cd_law_pattern ct_law_pattern), sl_law_pattern⟩)
    (c_law_pattern : PySem.W.codeIn K cd_law_pattern "_law_pattern" = true)
    (k_law_pattern : PySem.W.keepIn K (.ref f_law_pattern) = true)
    (a_law_bent : PySem.W.nsIn K mainGlobals "_law_bent" = some (some (.ref f_law_bent)))
    (l_law_bent : K.lookup f_law_bent = some ⟨oc_law_bent, od_law_bent, .func (PySem.W.fnOf "_law_bent" "_law_bent" (defArgs s_law_bent) (defBody s_law_bent) (defScope s_law_bent) .none kV_law_bent dc_law_bent pm_law_bent an_law_bent cd_law_bent ct_law_bent), sl_law_bent⟩)
    (c_law_bent : PySem.W.codeIn K cd_law_bent "_law_bent" = true)
    (k_law_bent : PySem.W.keepIn K (.ref f_law_bent) = true)
    (a_law_is_int : PySem.W.nsIn K mainGlobals "_law_is_int" = some (some (.ref f_law_is_int)))
    (l_law_is_int : K.lookup f_law_is_int = some ⟨oc_law_is_int, od_law_is_int, .func (PySem.W.fnOf "_law_is_int" "_law_is_int" (defArgs s_law_is_int) (defBody s_law_is_int) (defScope s_law_is_int) .none kV_law_is_int dc_law_is_int pm_law_is_int an_law_is_int cd_law_is_int ct_law_is_int), sl_law_is_int⟩)
    (c_law_is_int : PySem.W.codeIn K cd_law_is_int "_law_is_int" = true)
    (k_law_is_int : PySem.W.keepIn K (.ref f_law_is_int) = true)
    (a_law_is_lot : PySem.W.nsIn K mainGlobals "_law_is_lot" = some (some (.ref f_law_is_lot)))
    (l_law_is_lot : K.lookup f_law_is_lot = some ⟨oc_law_is_lot, od_law_is_lot, .func (PySem.W.fnOf "_law_is_lot" "_law_is_lot" (defArgs s_law_is_lot) (defBody s_law_is_lot) (defScope s_law_is_lot) .none kV_law_is_lot dc_law_is_lot pm_law_is_lot an_law_is_lot cd_law_is_lot ct_law_is_lot), sl_law_is_lot⟩)
    (c_law_is_lot : PySem.W.codeIn K cd_law_is_lot "_law_is_lot" = true)
    (k_law_is_lot : PySem.W.keepIn K (.ref f_law_is_lot) = true)
    (a_law_is_row : PySem.W.nsIn K mainGlobals "_law_is_row" = some (some (.ref f_law_is_row)))
    (l_law_is_row : K.lookup f_law_is_row = some ⟨oc_law_is_row, od_law_is_row, .func (PySem.W.fnOf "_law_is_row" "_law_is_row" (defArgs s_law_is_row) (defBody s_law_is_row) (defScope s_law_is_row) .none kV_law_is_row dc_law_is_row pm_law_is_row an_law_is_row cd_law_is_row ct_law_is_row), sl_law_is_row⟩)
    (c_law_is_row : PySem.W.codeIn K cd_law_is_row "_law_is_row" = true)
    (k_law_is_row : PySem.W.keepIn K (.ref f_law_is_row) = true)
    (a_law_is_sparing : PySem.W.nsIn K mainGlobals "_law_is_sparing" = some (some (.ref f_law_is_sparing)))
    (l_law_is_sparing : K.lookup f_law_is_sparing = some ⟨oc_law_is_sparing, od_law_is_sparing, .func (PySem.W.fnOf "_law_is_sparing" "_law_is_sparing" (defArgs s_law_is_sparing) (defBody s_law_is_sparing) (defScope s_law_is_sparing) .none kV_law_is_sparing dc_law_is_sparing pm_law_is_sparing an_law_is_sparing cd_law_is_sparing ct_law_is_sparing), sl_law_is_sparing⟩)
    (c_law_is_sparing : PySem.W.codeIn K cd_law_is_sparing "_law_is_sparing" = true)
    (k_law_is_sparing : PySem.W.keepIn K (.ref f_law_is_sparing) = true)
    (a_law_told : PySem.W.nsIn K mainGlobals "_law_told" = some (some (.ref f_law_told)))
    (l_law_told : K.lookup f_law_told = some ⟨oc_law_told, od_law_told, .func (PySem.W.fnOf "_law_told" "_law_told" (defArgs s_law_told) (defBody s_law_told) (defScope s_law_told) .none kV_law_told dc_law_told pm_law_told an_law_told cd_law_told ct_law_told), sl_law_told⟩)
    (c_law_told : PySem.W.codeIn K cd_law_told "_law_told" = true)
    (k_law_told : PySem.W.keepIn K (.ref f_law_told) = true)
    (a_law : PySem.W.nsIn K mainGlobals "law" = some (some (.ref f_law)))
    (l_law : K.lookup f_law = some ⟨oc_law, od_law, .func (PySem.W.fnOf "law" "law" (defArgs s_law) (defBody s_law) (defScope s_law) .none kV_law dc_law pm_law an_law cd_law ct_law), sl_law⟩)
    (c_law : PySem.W.codeIn K cd_law "law" = true)
    (k_law : PySem.W.keepIn K (.ref f_law) = true)
    (gC_SilentError : PySem.W.nsIn K mainGlobals "SilentError" = some (some (.ref C_SilentError)))
    (gC_NoMachine : PySem.W.nsIn K mainGlobals "NoMachine" = some (some (.ref C_NoMachine)))
    (gC_NoLot : PySem.W.nsIn K mainGlobals "NoLot" = some (some (.ref C_NoLot)))
    (gC_NoPattern : PySem.W.nsIn K mainGlobals "NoPattern" = some (some (.ref C_NoPattern)))
    (z_isinstance : PySem.W.nsIn K mainGlobals "isinstance" = some none)
    (z_bool : PySem.W.nsIn K mainGlobals "bool" = some none)
    (z_int : PySem.W.nsIn K mainGlobals "int" = some none)
    (z_all : PySem.W.nsIn K mainGlobals "all" = some none)
    (z_len : PySem.W.nsIn K mainGlobals "len" = some none)
    (z_tuple : PySem.W.nsIn K mainGlobals "tuple" = some none)
    (z_enumerate : PySem.W.nsIn K mainGlobals "enumerate" = some none)
    (z_zip : PySem.W.nsIn K mainGlobals "zip" = some none)
    (z_any : PySem.W.nsIn K mainGlobals "any" = some none)
    (z_abs : PySem.W.nsIn K mainGlobals "abs" = some none)
    (z_range : PySem.W.nsIn K mainGlobals "range" = some none)
    (z_list : PySem.W.nsIn K mainGlobals "list" = some none)
    (z_ValueError : PySem.W.nsIn K mainGlobals "ValueError" = some none)
    (z_repr : PySem.W.nsIn K mainGlobals "repr" = some none)
    (v_MOST_ROUNDS : PySem.W.nsIn K mainGlobals "MOST_ROUNDS" = some (some (.int 30 t_MOST_ROUNDS)))
    (e1_NoLot : PySem.W.excIn K C_NoLot [.type "ValueError", .type "Exception", .type "BaseException", .type "object"] "ValueError.__new__" = true)
    (e2_NoLot : PySem.W.keepIn K (.ref C_NoLot) = true)
    (e3_NoLot : PySem.W.subIn K (.ref C_NoLot) (.type "BaseException") = some true)
    (e4_NoLot : PySem.W.typeIn K (.ref C_NoLot) = some (.type "type"))
    (e1_NoMachine : PySem.W.excIn K C_NoMachine [.type "ValueError", .type "Exception", .type "BaseException", .type "object"] "ValueError.__new__" = true)
    (e2_NoMachine : PySem.W.keepIn K (.ref C_NoMachine) = true)
    (e3_NoMachine : PySem.W.subIn K (.ref C_NoMachine) (.type "BaseException") = some true)
    (e4_NoMachine : PySem.W.typeIn K (.ref C_NoMachine) = some (.type "type"))
    (e1_NoPattern : PySem.W.excIn K C_NoPattern [.type "ValueError", .type "Exception", .type "BaseException", .type "object"] "ValueError.__new__" = true)
    (e2_NoPattern : PySem.W.keepIn K (.ref C_NoPattern) = true)
    (e3_NoPattern : PySem.W.subIn K (.ref C_NoPattern) (.type "BaseException") = some true)
    (e4_NoPattern : PySem.W.typeIn K (.ref C_NoPattern) = some (.type "type"))
    (x0_NoLot : PySem.W.findIn K (.ref C_NoLot) "__getattribute__" = some (some (.builtin "BaseException.__getattribute__")))
    (x1_NoLot : PySem.W.findIn K (.ref C_NoLot) "__getattr__" = some none)
    (x2_NoLot : PySem.W.subIn K (.ref C_NoLot) (.type "BaseException") = some true)
    (x3_NoLot : PySem.W.hasDictIn K C_NoLot = true)
    (x4_NoLot : PySem.W.findIn K (.ref C_NoLot) "__class__" = some (some (.builtin "object.__class__")))
    (x5_NoLot : PySem.W.specialIn K (.builtin "object.__class__") "__get__" = some (some (.builtin "getset_descriptor.__get__")))
    (x6_NoLot : PySem.W.takesIn K (.builtin "object.__class__") = some true)
    (x7_NoLot : PySem.W.mroIn K C_NoLot (.type "object") = some true)
    (y_NoLot : PySem.W.exmOne K (.ref C_NoLot) (.ref C_NoLot) = some true)
    (i_NoLot_ValueError : PySem.W.kitOne K (.ref C_NoLot) (.type "ValueError") = some true)
    (i_NoLot_NoMachine_NoPattern : PySem.W.kitAny K (.ref C_NoLot) [.ref C_NoMachine, .ref C_NoPattern] = some false) :
    ∃ fd : FuncData, (∀ (s : Shared) (v : Value), BindsTo s fd ⟨[v], []⟩ [("script", v)]) ∧ ∀ base : Heap, K.In base → base.Ns mainGlobals mg → FnG l.prog w K mg base (L2.CX l.prog w) 9 fa fd ["script"] (spA K 1 (m_law mg)) := by
  have T : Txt K mg ⟨f_is_integer, f_is_number, f_is_integers, f_is_turn, f_is_other, f_is_ascending, f_is_pattern_of, f_is_any_pattern, f_is_sparing, f_is_lot_below, f_law_pot, f_law_draw, f_law_any, f_law_deep, f_law_some, f_law_entry, f_law_pattern, f_law_bent, f_law_is_int, f_law_is_lot, f_law_is_row, f_law_is_sparing, f_law_told, f_law, C_SilentError, C_NoMachine, C_NoLot, C_NoPattern⟩ := {
    g_is_integer := PySem.W.mg_of X G a_is_integer
    fn_is_integer := ⟨_, fun_mk (st := s_is_integer) l_is_integer c_is_integer k_is_integer⟩
    g_is_number := PySem.W.mg_of X G a_is_number
    fn_is_number := ⟨_, fun_mk (st := s_is_number) l_is_number c_is_number k_is_number⟩
    g_is_integers := PySem.W.mg_of X G a_is_integers
    fn_is_integers := ⟨_, fun_mk (st := s_is_integers) l_is_integers c_is_integers k_is_integers⟩
    g_is_turn := PySem.W.mg_of X G a_is_turn
    fn_is_turn := ⟨_, fun_mk (st := s_is_turn) l_is_turn c_is_turn k_is_turn⟩
    g_is_other := PySem.W.mg_of X G a_is_other
    fn_is_other := ⟨_, fun_mk (st := s_is_other) l_is_other c_is_other k_is_other⟩
    g_is_ascending := PySem.W.mg_of X G a_is_ascending
    fn_is_ascending := ⟨_, fun_mk (st := s_is_ascending) l_is_ascending c_is_ascending k_is_ascending⟩
    g_is_pattern_of := PySem.W.mg_of X G a_is_pattern_of
    fn_is_pattern_of := ⟨_, fun_mk (st := s_is_pattern_of) l_is_pattern_of c_is_pattern_of k_is_pattern_of⟩
    g_is_any_pattern := PySem.W.mg_of X G a_is_any_pattern
    fn_is_any_pattern := ⟨_, fun_mk (st := s_is_any_pattern) l_is_any_pattern c_is_any_pattern k_is_any_pattern⟩
    g_is_sparing := PySem.W.mg_of X G a_is_sparing
    fn_is_sparing := ⟨_, fun_mk (st := s_is_sparing) l_is_sparing c_is_sparing k_is_sparing⟩
    g_is_lot_below := PySem.W.mg_of X G a_is_lot_below
    fn_is_lot_below := ⟨_, fun_mk (st := s_is_lot_below) l_is_lot_below c_is_lot_below k_is_lot_below⟩
    g_law_pot := PySem.W.mg_of X G a_law_pot
    fn_law_pot := ⟨_, fun_mk (st := s_law_pot) l_law_pot c_law_pot k_law_pot⟩
    g_law_draw := PySem.W.mg_of X G a_law_draw
    fn_law_draw := ⟨_, fun_mk (st := s_law_draw) l_law_draw c_law_draw k_law_draw⟩
    g_law_any := PySem.W.mg_of X G a_law_any
    fn_law_any := ⟨_, fun_mk (st := s_law_any) l_law_any c_law_any k_law_any⟩
    g_law_deep := PySem.W.mg_of X G a_law_deep
    fn_law_deep := ⟨_, fun_mk (st := s_law_deep) l_law_deep c_law_deep k_law_deep⟩
    g_law_some := PySem.W.mg_of X G a_law_some
    fn_law_some := ⟨_, fun_mk (st := s_law_some) l_law_some c_law_some k_law_some⟩
    g_law_entry := PySem.W.mg_of X G a_law_entry
    fn_law_entry := ⟨_, fun_mk (st := s_law_entry) l_law_entry c_law_entry k_law_entry⟩
    g_law_pattern := PySem.W.mg_of X G a_law_pattern
    fn_law_pattern := ⟨_, fun_mk (st := s_law_pattern) l_law_pattern c_law_pattern k_law_pattern⟩
    g_law_bent := PySem.W.mg_of X G a_law_bent
    fn_law_bent := ⟨_, fun_mk (st := s_law_bent) l_law_bent c_law_bent k_law_bent⟩
    g_law_is_int := PySem.W.mg_of X G a_law_is_int
    fn_law_is_int := ⟨_, fun_mk (st := s_law_is_int) l_law_is_int c_law_is_int k_law_is_int⟩
    g_law_is_lot := PySem.W.mg_of X G a_law_is_lot
    fn_law_is_lot := ⟨_, fun_mk (st := s_law_is_lot) l_law_is_lot c_law_is_lot k_law_is_lot⟩
    g_law_is_row := PySem.W.mg_of X G a_law_is_row
    fn_law_is_row := ⟨_, fun_mk (st := s_law_is_row) l_law_is_row c_law_is_row k_law_is_row⟩
    g_law_is_sparing := PySem.W.mg_of X G a_law_is_sparing
    fn_law_is_sparing := ⟨_, fun_mk (st := s_law_is_sparing) l_law_is_sparing c_law_is_sparing k_law_is_sparing⟩
    g_law_told := PySem.W.mg_of X G a_law_told
    fn_law_told := ⟨_, fun_mk (st := s_law_told) l_law_told c_law_told k_law_told⟩
    g_law := PySem.W.mg_of X G a_law
    fn_law := ⟨_, fun_mk (st := s_law) l_law c_law k_law⟩
    b_isinstance := PySem.W.mg_none_of X G z_isinstance
    b_bool := PySem.W.mg_none_of X G z_bool
    b_int := PySem.W.mg_none_of X G z_int
    b_all := PySem.W.mg_none_of X G z_all
    b_len := PySem.W.mg_none_of X G z_len
    b_tuple := PySem.W.mg_none_of X G z_tuple
    b_enumerate := PySem.W.mg_none_of X G z_enumerate
    b_zip := PySem.W.mg_none_of X G z_zip
    b_any := PySem.W.mg_none_of X G z_any
    b_abs := PySem.W.mg_none_of X G z_abs
    b_range := PySem.W.mg_none_of X G z_range
    b_list := PySem.W.mg_none_of X G z_list
    b_ValueError := PySem.W.mg_none_of X G z_ValueError
    b_repr := PySem.W.mg_none_of X G z_repr
    c_MOST_ROUNDS := ⟨_, PySem.W.mg_of X G v_MOST_ROUNDS⟩
    e_NoLot := ⟨e1_NoLot, PySem.W.mg_of X G gC_NoLot, e2_NoLot, e3_NoLot, e4_NoLot⟩
    e_NoMachine := ⟨e1_NoMachine, PySem.W.mg_of X G gC_NoMachine, e2_NoMachine, e3_NoMachine, e4_NoMachine⟩
    e_NoPattern := ⟨e1_NoPattern, PySem.W.mg_of X G gC_NoPattern, e2_NoPattern, e3_NoPattern, e4_NoPattern⟩
    x_NoLot := ⟨x0_NoLot, x1_NoLot, x2_NoLot, x3_NoLot, x4_NoLot, x5_NoLot, x6_NoLot, x7_NoLot⟩
    y_NoLot := y_NoLot
    i_NoLot_ValueError := i_NoLot_ValueError
    i_NoLot_NoMachine_NoPattern := i_NoLot_NoMachine_NoPattern }
  have e := hfa.symm.trans T.g_law
  cases e
  refine ⟨_, ?_, fun base _ _ => okfn_law T (fun_mk (st := s_law) l_law c_law k_law)⟩
  exact fun s v => .of_eq rfl

end K50
open PySem PySem.W PyProof.Rows
set_option maxRecDepth 100000 in
set_option maxHeartbeats 0 in
theorem PySem.Challenge.cw_onesilent_k50_sparing_patterns_judged_holds : PySem.Challenge.rw_onesilent_k50_sparing_patterns_judged.Holds := by
  w_on; o_law; k_head; (case hw => w_witness2)
  k_fill
  refine Am.walkG (l := PySem.Challenge.rw_onesilent_k50_sparing_patterns_judged) (n := 63) (k := 9) (x := "script") (m := fun _ mg => K50.m_law mg) rfl (by decide) rfl ⟨⟨rfl, by decide, by decide⟩, rfl⟩ (fun w h Y => PySem.W.kIn_of Y) ?F fun _ mg ns hn => K50.law_true mg ns hn
  case F =>
    intro w mg fa h KX G hmg
    refine' K50.lawAt KX G hmg ?a_is_integer ?l_is_integer ?c_is_integer ?k_is_integer ?a_is_number ?l_is_number ?c_is_number ?k_is_number ?a_is_integers ?l_is_integers ?c_is_integers ?k_is_integers ?a_is_turn ?l_is_turn ?c_is_turn ?k_is_turn ?a_is_other ?l_is_other ?c_is_other ?k_is_other ?a_is_ascending ?l_is_ascending ?c_is_ascending ?k_is_ascending ?a_is_pattern_of ?l_is_pattern_of ?c_is_pattern_of ?k_is_pattern_of ?a_is_any_pattern ?l_is_any_pattern ?c_is_any_pattern ?k_is_any_pattern ?a_is_sparing ?l_is_sparing ?c_is_sparing ?k_is_sparing ?a_is_lot_below ?l_is_lot_below ?c_is_lot_below ?k_is_lot_below ?a_law_pot ?l_law_pot ?c_law_pot ?k_law_pot ?a_law_draw ?l_law_draw ?c_law_draw ?k_law_draw ?a_law_any ?l_law_any ?c_law_any ?k_law_any ?a_law_deep ?l_law_deep ?c_law_deep ?k_law_deep ?a_law_some ?l_law_some ?c_law_some ?k_law_some ?a_law_entry ?l_law_entry ?c_law_entry ?k_law_entry ?a_law_pattern ?l_law_pattern ?c_law_pattern ?k_law_pattern ?a_law_bent ?l_law_bent ?c_law_bent ?k_law_bent ?a_law_is_int ?l_law_is_int ?c_law_is_int ?k_law_is_int ?a_law_is_lot ?l_law_is_lot ?c_law_is_lot ?k_law_is_lot ?a_law_is_row ?l_law_is_row ?c_law_is_row ?k_law_is_row ?a_law_is_sparing ?l_law_is_sparing ?c_law_is_sparing ?k_law_is_sparing ?a_law_told ?l_law_told ?c_law_told ?k_law_told ?a_law ?l_law ?c_law ?k_law ?gC_SilentError ?gC_NoMachine ?gC_NoLot ?gC_NoPattern ?z_isinstance ?z_bool ?z_int ?z_all ?z_len ?z_tuple ?z_enumerate ?z_zip ?z_any ?z_abs ?z_range ?z_list ?z_ValueError ?z_repr ?v_MOST_ROUNDS ?e1_NoLot ?e2_NoLot ?e3_NoLot ?e4_NoLot ?e1_NoMachine ?e2_NoMachine ?e3_NoMachine ?e4_NoMachine ?e1_NoPattern ?e2_NoPattern ?e3_NoPattern ?e4_NoPattern ?x0_NoLot ?x1_NoLot ?x2_NoLot ?x3_NoLot ?x4_NoLot ?x5_NoLot ?x6_NoLot ?x7_NoLot ?y_NoLot ?i_NoLot_ValueError ?i_NoLot_NoMachine_NoPattern
    (case a_is_integer => k_is)
    (case l_is_integer => k_is)
    (case c_is_integer => k_is)
    (case k_is_integer => k_is)
    (case a_is_number => k_is)
    (case l_is_number => k_is)
    (case c_is_number => k_is)
    (case k_is_number => k_is)
    (case a_is_integers => k_is)
    (case l_is_integers => k_is)
    (case c_is_integers => k_is)
    (case k_is_integers => k_is)
    (case a_is_turn => k_is)
    (case l_is_turn => k_is)
    (case c_is_turn => k_is)
    (case k_is_turn => k_is)
    (case a_is_other => k_is)
    (case l_is_other => k_is)
    (case c_is_other => k_is)
    (case k_is_other => k_is)
    (case a_is_ascending => k_is)
    (case l_is_ascending => k_is)
    (case c_is_ascending => k_is)
    (case k_is_ascending => k_is)
    (case a_is_pattern_of => k_is)
    (case l_is_pattern_of => k_is)
    (case c_is_pattern_of => k_is)
    (case k_is_pattern_of => k_is)
    (case a_is_any_pattern => k_is)
    (case l_is_any_pattern => k_is)
    (case c_is_any_pattern => k_is)
    (case k_is_any_pattern => k_is)
    (case a_is_sparing => k_is)
    (case l_is_sparing => k_is)
    (case c_is_sparing => k_is)
    (case k_is_sparing => k_is)
    (case a_is_lot_below => k_is)
    (case l_is_lot_below => k_is)
    (case c_is_lot_below => k_is)
    (case k_is_lot_below => k_is)
    (case a_law_pot => k_is)
    (case l_law_pot => k_is)
    (case c_law_pot => k_is)
    (case k_law_pot => k_is)
    (case a_law_draw => k_is)
    (case l_law_draw => k_is)
    (case c_law_draw => k_is)
    (case k_law_draw => k_is)
    (case a_law_any => k_is)
    (case l_law_any => k_is)
    (case c_law_any => k_is)
    (case k_law_any => k_is)
    (case a_law_deep => k_is)
    (case l_law_deep => k_is)
    (case c_law_deep => k_is)
    (case k_law_deep => k_is)
    (case a_law_some => k_is)
    (case l_law_some => k_is)
    (case c_law_some => k_is)
    (case k_law_some => k_is)
    (case a_law_entry => k_is)
    (case l_law_entry => k_is)
    (case c_law_entry => k_is)
    (case k_law_entry => k_is)
    (case a_law_pattern => k_is)
    (case l_law_pattern => k_is)
    (case c_law_pattern => k_is)
    (case k_law_pattern => k_is)
    (case a_law_bent => k_is)
    (case l_law_bent => k_is)
    (case c_law_bent => k_is)
    (case k_law_bent => k_is)
    (case a_law_is_int => k_is)
    (case l_law_is_int => k_is)
    (case c_law_is_int => k_is)
    (case k_law_is_int => k_is)
    (case a_law_is_lot => k_is)
    (case l_law_is_lot => k_is)
    (case c_law_is_lot => k_is)
    (case k_law_is_lot => k_is)
    (case a_law_is_row => k_is)
    (case l_law_is_row => k_is)
    (case c_law_is_row => k_is)
    (case k_law_is_row => k_is)
    (case a_law_is_sparing => k_is)
    (case l_law_is_sparing => k_is)
    (case c_law_is_sparing => k_is)
    (case k_law_is_sparing => k_is)
    (case a_law_told => k_is)
    (case l_law_told => k_is)
    (case c_law_told => k_is)
    (case k_law_told => k_is)
    (case a_law => k_is)
    (case l_law => k_is)
    (case c_law => k_is)
    (case k_law => k_is)
    (case gC_SilentError => k_is)
    (case gC_NoMachine => k_is)
    (case gC_NoLot => k_is)
    (case gC_NoPattern => k_is)
    (case z_isinstance => k_is)
    (case z_bool => k_is)
    (case z_int => k_is)
    (case z_all => k_is)
    (case z_len => k_is)
    (case z_tuple => k_is)
    (case z_enumerate => k_is)
    (case z_zip => k_is)
    (case z_any => k_is)
    (case z_abs => k_is)
    (case z_range => k_is)
    (case z_list => k_is)
    (case z_ValueError => k_is)
    (case z_repr => k_is)
    (case v_MOST_ROUNDS => k_is)
    (case e1_NoLot => first | k_is | kernel_rfl)
    (case e2_NoLot => first | k_is | kernel_rfl)
    (case e3_NoLot => first | k_is | kernel_rfl)
    (case e4_NoLot => first | k_is | kernel_rfl)
    (case e1_NoMachine => first | k_is | kernel_rfl)
    (case e2_NoMachine => first | k_is | kernel_rfl)
    (case e3_NoMachine => first | k_is | kernel_rfl)
    (case e4_NoMachine => first | k_is | kernel_rfl)
    (case e1_NoPattern => first | k_is | kernel_rfl)
    (case e2_NoPattern => first | k_is | kernel_rfl)
    (case e3_NoPattern => first | k_is | kernel_rfl)
    (case e4_NoPattern => first | k_is | kernel_rfl)
    (case x0_NoLot => first | k_is | kernel_rfl)
    (case x1_NoLot => first | k_is | kernel_rfl)
    (case x2_NoLot => first | k_is | kernel_rfl)
    (case x3_NoLot => first | k_is | kernel_rfl)
    (case x4_NoLot => first | k_is | kernel_rfl)
    (case x5_NoLot => first | k_is | kernel_rfl)
    (case x6_NoLot => first | k_is | kernel_rfl)
    (case x7_NoLot => first | k_is | kernel_rfl)
    (case y_NoLot => first | k_is | kernel_rfl)
    (case i_NoLot_ValueError => first | k_is | kernel_rfl)
    (case i_NoLot_NoMachine_NoPattern => first | k_is | kernel_rfl)

