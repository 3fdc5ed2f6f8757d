import PyProof.Rows.All
import Wide.All
import OpenK.AllK
import Wide.FinOn
import HandS.ForMost
import HandS.IsInst
import HandS.ExcIs
import HandS.ExcValue
import HandS.Zip
import HandS.TupAny
import HandS.TupLe
import HandS.Deep
import HandS.TupMul
import KE.GoesMore
import KE.GoesEnum
import PyProof.InstNe
import KE.KFmtOwn
import PyProof.FactsAll.enumerate_1
import KE.KRevSl
import HandS.TupSets
import HandS.Exc
import HandS.ExcField
import HandS.TryOnly
import HandS.Lambda
import HandS.ForExc
import HandS.ExcInit
import PySem.Challenge.RW_onesilent_k01_tasks_built_and_refused
import PyProof.P3Eq
import HandS.EndTab
import KE.KNestM
import KE.KLam
set_option Elab.async false
set_option linter.all false
set_option maxRecDepth 100000
set_option maxHeartbeats 4000000
namespace Kb
open PySem PySem.Spec PyProof.Rows L2

/-! ### one step of a reading -/
def wB (x : V) (R : Bool → Prop) : Prop := ∃ k, x = .bl k ∧ R k
theorem go_wB {b : Bool} {R : Bool → Prop} (h : R b) : wB (.bl b) R := ⟨b, rfl, h⟩
def w2 (vs : List V) (R : V → V → Prop) : Prop := ∃ v w, vs = [v, w] ∧ R v w
theorem go_w2 {v w : V} {R : V → V → Prop} (h : R v w) : w2 [v, w] R := ⟨v, w, rfl, h⟩
def rInt1 : List V → Hp → VK → Prop := fun xs H Q => (∃ i, xs = [.int i] ∧ Q (.int i) H) ∨ ∃ k, xs = [.bl k] ∧ Q (.int (if k then 1 else 0)) H
def rAbs1 : List V → Hp → VK → Prop := fun xs H Q => ∃ i, xs = [.int i] ∧ Q (.int (if i < 0 then -i else i)) H
def rLen1 (K : PySem.W.Frag) : List V → Hp → VK → Prop := fun xs H Q => ∃ x n, xs = [x] ∧ LenV K x H n ∧ Q (.int (n : Nat)) H
section
variable {D : Ends} {σ : L2.St} {H : Hp} {Q : VK}
theorem go_seq {t u : TS} (h : t { D with nx := u D } σ H) : tSeq t u D σ H := h
/-- what follows is told once, then not looked at -/
theorem go_cut {t u : TS} (C : (L2.St → Hp → Prop) → Prop) (h2 : C (u D)) (h1 : ∀ X, C X → t { D with nx := X } σ H) : tSeq t u D σ H := h1 _ h2
theorem go_asg {te : TE} {g : TG} (h : te σ H fun x H1 => g x σ H1 D.nx) : tAsg te g D σ H := h
theorem go_name {i : Nat} {v : V} {Q : L2.St → Hp → Prop} (h : Q (σ.set i (some v)) H) : gName i v σ H Q := h
theorem go_if {c : TT} {t u : TS} (h : c σ H fun b H1 => if b = true then t D σ H1 else u D σ H1) : tIfS c t u D σ H := h
theorem go_ret {te : TE} (h : te σ H D.rt) : tRet te D σ H := h
theorem go_retN (h : D.rt .non H) : tRetN D σ H := h
theorem go_next (h : D.nx σ H) : tNext D σ H := h
theorem go_drop {te : TE} (h : te σ H fun _ H1 => D.nx σ H1) : tDrop te D σ H := h
theorem go_test {t : TE} {Q : Bool → Hp → Prop} (h : t σ H fun x H' => wB x fun k => Q k H') : tTest t σ H Q := h
theorem go_B {t : TE} {Q : Bool → Hp → Prop} (h : t σ H fun x H' => wB x fun k => Q k H') : tB t σ H Q := h
theorem go_and {t u : TT} {Q : Bool → Hp → Prop} (h : t σ H fun c H1 => if c = true then u σ H1 Q else Q false H1) : tAnd t u σ H Q := h
theorem go_or {t u : TT} {Q : Bool → Hp → Prop} (h : t σ H fun c H1 => if c = true then Q true H1 else u σ H1 Q) : tOr t u σ H Q := h
theorem go_not {t : TT} {Q : Bool → Hp → Prop} (h : t σ H fun c H1 => Q (!c) H1) : tNot t σ H Q := h
theorem go_andV {ta tb : TE} (h : ta σ H fun x H1 => wB x fun c => if c = true then tb σ H1 Q else Q (.bl false) H1) : tAndV ta tb σ H Q := h
theorem go_orV {ta tb : TE} (h : ta σ H fun x H1 => wB x fun c => if c = true then Q (.bl true) H1 else tb σ H1 Q) : tOrV ta tb σ H Q := h
theorem go_notV {ta : TE} (h : ta σ H fun x H1 => wB x fun c => Q (.bl (!c)) H1) : tNotV ta σ H Q := h
theorem go_ifE {t : TT} {ta tb : TE} (h : t σ H fun c H1 => if c = true then ta σ H1 Q else tb σ H1 Q) : tIf t ta tb σ H Q := h
theorem go_op {r : R2} {ta tb : TE} (h : ta σ H fun x H1 => tb σ H1 fun y H2 => r x y H2 Q) : tOp r ta tb σ H Q := h
theorem go_un {r : V → Hp → VK → Prop} {ta : TE} (h : ta σ H fun x H1 => r x H1 Q) : tUn r ta σ H Q := h
theorem go_var {i : Nat} {v : V} (e : σ[i]? = some (some v)) (h : Q v H) : tVar i σ H Q := ⟨v, e, h⟩
theorem go_c {v : V} (h : Q v H) : tC v σ H Q := h
theorem go_cons {ta : TE} {tr : TA} {Q : List V → Hp → Prop} (h : ta σ H fun x H1 => tr σ H1 fun xs H2 => Q (x :: xs) H2) : tCons ta tr σ H Q := h
theorem go_nil {Q : List V → Hp → Prop} (h : Q [] H) : tNil σ H Q := h
theorem go_cb {r : List V → Hp → VK → Prop} {t : TA} (h : t σ H fun vs H1 => r vs H1 Q) : tCB r t σ H Q := h
theorem go_call {sp : Sp} {E : XK} {t : TA} (h : t σ H fun vs H1 => sp vs H1 Q E) : tCall sp [] E t σ H Q := by
  show t σ H fun vs H1 => sp (vs ++ []) H1 Q E
  have e : (fun vs H1 => sp (vs ++ []) H1 Q E) = fun vs H1 => sp vs H1 Q E := by
    funext vs H1
    rw [List.append_nil]
  rw [e]
  exact h
theorem go_I0 {g : Int → Int → V} {i j : Int} (h : Q (g i j) H) : rI0 g (.int i) (.int j) H Q := ⟨i, j, rfl, rfl, h⟩
theorem go_I {C : Int → Int → Prop} {g : Int → Int → V} {i j : Int} (hc : C i j) (h : Q (g i j) H) : rI C g (.int i) (.int j) H Q := ⟨i, j, rfl, rfl, hc, h⟩
theorem go_neg {g : Int → V} {i : Int} (h : Q (g i) H) : rU g (.int i) H Q := ⟨i, rfl, h⟩
theorem same_at {G G' : Hp} {b : Addr} {o : HO} (s : Same G G') (h : G b = some o) : G' b = some o := s b o h
theorem go_mod {g : Int → Int → V} {i j : Int} (hc : j ≠ 0) (h : Q (g i j) H) : rI (fun _ j => j ≠ 0) g (.int i) (.int j) H Q := ⟨i, j, rfl, rfl, hc, h⟩
theorem go_fdiv {g : Int → Int → V} {i j : Int} (hc : j ≠ 0 ∧ j.natAbs < 1073741824) (h : Q (g i j) H) : rI CDivN g (.int i) (.int j) H Q := ⟨i, j, rfl, rfl, hc, h⟩
theorem go_mul {g : Int → Int → V} {i j : Int} (hc : (-(2 ^ 64) < i ∧ i < 2 ^ 64) ∨ (-(2 ^ 64) < j ∧ j < 2 ^ 64)) (h : Q (g i j) H) : rI CMul g (.int i) (.int j) H Q := ⟨i, j, rfl, rfl, hc, h⟩
theorem go_pow {g : Int → Int → V} {i j : Int} (hc : 0 ≤ j ∧ j ≤ 1000000 ∧ i.natAbs < 2 ^ 64) (h : Q (g i j) H) : rI CPow g (.int i) (.int j) H Q := ⟨i, j, rfl, rfl, hc, h⟩
theorem go_eqI {i j : Int} (h : Q (.bl (decide (i = j))) H) : rEq (.int i) (.int j) H Q := ⟨rfl, by
  have e : decide (V.int i = V.int j) = decide (i = j) := by
    by_cases c : i = j
    · rw [c]; simp
    · rw [decide_eq_false c, decide_eq_false (fun e => c (by injection e))]
  rw [e]; exact h⟩
theorem go_neI {i j : Int} (h : Q (.bl (!decide (i = j))) H) : rNe (.int i) (.int j) H Q := ⟨rfl, by
  have e : decide (V.int i = V.int j) = decide (i = j) := by
    by_cases c : i = j
    · rw [c]; simp
    · rw [decide_eq_false c, decide_eq_false (fun e => c (by injection e))]
  rw [e]; exact h⟩
theorem go_ixL {K : PySem.W.Frag} {p : Addr} {xs : List V} {i : Int} {v : V} (hp : SqL K H p xs) (e : atI xs i = some v) (h : Q v H) : rIxL K (.ref p) (.int i) H Q := ⟨p, xs, i, v, rfl, rfl, hp, e, h⟩
theorem go_ixT {K : PySem.W.Frag} {p : Addr} {xs : List V} {i : Int} {v : V} (hp : SqT K H p xs) (e : atI xs i = some v) (h : Q v H) : rIxT K (.ref p) (.int i) H Q := ⟨p, xs, i, v, rfl, rfl, hp, e, h⟩
theorem go_sub {to ti : TE} {t : TSet} {v : V} {Q : L2.St → Hp → Prop} (h : to σ H fun o H1 => ti σ H1 fun i H2 => t o i v H2 fun H3 => Q σ H3) : gSub to ti t v σ H Q := h
theorem go_setL {p : Addr} {xs : List V} {k : Int} {j : Nat} {v : V} {Q : Hp → Prop} (hp : H p = some (.lst xs)) (e : ixN xs.length k = some j) (h : Q (upd H p (.lst (xs.set j v)))) : rSetL (.ref p) (.int k) v H Q := ⟨p, xs, k, j, rfl, rfl, hp, e, h⟩
theorem go_par {i j : Nat} {ta : TA} (h : ta σ H fun vs H1 => w2 vs fun v w => D.nx ((σ.set i (some v)).set j (some w)) H1) : tPar i j ta D σ H := h
theorem go_cbInt {t : TA} (h : t σ H fun vs H1 => rInt1 vs H1 Q) : tCB (fun xs H Q => (∃ i, xs = [V.int i] ∧ Q (V.int i) H) ∨ ∃ k, xs = [V.bl k] ∧ Q (V.int (if k then 1 else 0)) H) t σ H Q := h
theorem go_cbAbs {t : TA} (h : t σ H fun vs H1 => rAbs1 vs H1 Q) : tCB (fun xs H Q => ∃ i, xs = [V.int i] ∧ Q (.int (if i < 0 then -i else i)) H) t σ H Q := h
theorem go_cbLen {K : PySem.W.Frag} {t : TA} (h : t σ H fun vs H1 => rLen1 K vs H1 Q) : tCB (fun xs H Q => ∃ x n, xs = [x] ∧ LenV K x H n ∧ Q (V.int (n : Nat)) H) t σ H Q := h
theorem go_int {i : Int} (h : Q (.int i) H) : rInt1 [.int i] H Q := .inl ⟨i, rfl, h⟩
theorem go_abs {i : Int} (h : Q (.int (if i < 0 then -i else i)) H) : rAbs1 [.int i] H Q := ⟨i, rfl, h⟩
theorem go_lenL {K : PySem.W.Frag} {p : Addr} {xs : List V} (hp : SqL K H p xs) (h : Q (.int (xs.length : Nat)) H) : rLen1 K [.ref p] H Q := ⟨_, _, rfl, .inl ⟨xs, hp, rfl⟩, h⟩
theorem go_lenT {K : PySem.W.Frag} {p : Addr} {xs : List V} (hp : SqT K H p xs) (h : Q (.int (xs.length : Nat)) H) : rLen1 K [.ref p] H Q := ⟨_, _, rfl, .inr ⟨xs, hp, rfl⟩, h⟩
section
variable {p : Addr} {a b c d e v : V} {Q : Hp → Prop}
theorem keep_ne {H H' : Hp} {q b : Addr} {o : HO} (k : ∀ c, c ≠ q → H' c = H c) (h : H b = some o) (n : b ≠ q) : H' b = some o := (k b n).trans h
theorem go_set1 (hp : H p = some (.lst [a, b, c, d, e])) (h : ∀ H', H' p = some (.lst [a, v, c, d, e]) → (∀ q, q ≠ p → H' q = H q) → Q H') : rSetL (.ref p) (.int 1) v H Q :=
  ⟨p, _, 1, 1, rfl, rfl, hp, rfl, h _ upd_same fun _ n => upd_ne n⟩
theorem go_set2 (hp : H p = some (.lst [a, b, c, d, e])) (h : ∀ H', H' p = some (.lst [a, b, v, d, e]) → (∀ q, q ≠ p → H' q = H q) → Q H') : rSetL (.ref p) (.int 2) v H Q :=
  ⟨p, _, 2, 2, rfl, rfl, hp, rfl, h _ upd_same fun _ n => upd_ne n⟩
theorem go_set3 (hp : H p = some (.lst [a, b, c, d, e])) (h : ∀ H', H' p = some (.lst [a, b, c, v, e]) → (∀ q, q ≠ p → H' q = H q) → Q H') : rSetL (.ref p) (.int 3) v H Q :=
  ⟨p, _, 3, 3, rfl, rfl, hp, rfl, h _ upd_same fun _ n => upd_ne n⟩
theorem go_set4 (hp : H p = some (.lst [a, b, c, d, e])) (h : ∀ H', H' p = some (.lst [a, b, c, d, v]) → (∀ q, q ≠ p → H' q = H q) → Q H') : rSetL (.ref p) (.int 4) v H Q :=
  ⟨p, _, 4, 4, rfl, rfl, hp, rfl, h _ upd_same fun _ n => upd_ne n⟩
end
theorem ite_split {c : Prop} [Decidable c] {A B : Prop} (h1 : c → A) (h2 : ¬ c → B) : if decide c = true then A else B := by
  by_cases h : c
  · rw [decide_eq_true h, if_pos rfl]; exact h1 h
  · rw [decide_eq_false h, if_neg Bool.false_ne_true]; exact h2 h
theorem ite_b {b : Bool} {A B : Prop} (h1 : b = true → A) (h2 : b = false → B) : if b = true then A else B := by
  cases b with
  | true => exact iteT (h1 rfl)
  | false => exact iteF (h2 rfl)
theorem ite_nb {b : Bool} {A B : Prop} (h1 : b = false → A) (h2 : b = true → B) : if (!b) = true then A else B := by
  cases b with
  | true => exact iteF (h2 rfl)
  | false => exact iteT (h1 rfl)
theorem len2 {α : Type} : ∀ {xs : List α}, xs.length = 2 → ∃ x y, xs = [x, y]
  | [x, y], _ => ⟨x, y, rfl⟩
theorem ite_splitN {c : Prop} [Decidable c] {A B : Prop} (h1 : ¬ c → A) (h2 : c → B) : if (!decide c) = true then A else B := by
  by_cases h : c
  · rw [decide_eq_true h]; exact iteF (h2 h)
  · rw [decide_eq_false h]; exact iteT (h1 h)
end

/-! ### the pot, and the ghost heap of what never changes -/
structure OkD (P : Program) (w : World) (K : PySem.W.Frag) (mg : Str → Option Value) (base : Heap) (CX : CXT) (k : Nat) (f : Addr) (ps : List Str) (sp : Sp) : Prop where
  ex : ∃ fd, FnOk P w K mg base CX k f fd ps sp ∧ Binds K fd ps []
  kp : PySem.W.keepIn K (.ref f) = true
/-- the pot at p, its cells at c -/
def PotAt (H : Hp) (p c : Addr) : Prop := ∃ (i d x n : Int), H p = some (.lst [.ref c, .int i, .int d, .int x, .int n]) ∧ 0 ≤ i
theorem pot_ne {H : Hp} {p c : Addr} {ns : List Int} {i d x n : Int} (h : H p = some (.lst [.ref c, .int i, .int d, .int x, .int n])) (hc : H c = some (.lst (ns.map V.int))) : c ≠ p := by
  intro e
  subst e
  rw [h] at hc
  cases ns with
  | nil => cases hc
  | cons a r => cases hc
def spDraw : Sp := fun vs H Q _ => ∃ (p c : Addr) (ns : List Int) (m : Int), vs = [.ref p, .int m] ∧ 0 < m ∧ m < 1000000 ∧ PotAt H p c ∧ H c = some (.lst (ns.map V.int)) ∧ ∀ (r : Int) H', 0 ≤ r → r < m → PotAt H' p c → (∀ b, b ≠ p → H' b = H b) → Q (.int r) H'
def spAny : Sp := fun vs H Q _ => ∃ (p c l : Addr) (ns : List Int) (xs : List V), vs = [.ref p, .ref l] ∧ PotAt H p c ∧ H c = some (.lst (ns.map V.int)) ∧ l ≠ p ∧ (H l = some (.lst xs) ∨ H l = some (.tup xs)) ∧ xs ≠ [] ∧ xs.length < 1000000 ∧
  ∀ (x : V) H', x ∈ xs → PotAt H' p c → (∀ b, b ≠ p → H' b = H b) → Q x H'
/-- the pot, and what never changes -/
structure W (p : Addr) (G H : Hp) : Prop where
  pot : ∃ (c : Addr) (ns : List Int), PotAt H p c ∧ G c = some (.lst (ns.map V.int))
  gp : G p = none
  sub : ∀ b o, G b = some o → H b = some o
theorem W.at {p : Addr} {G H : Hp} (w : W p G H) : ∃ o, H p = some o := by
  obtain ⟨c, ns, ⟨i, d, x, n, h, _⟩, _⟩ := w.pot
  exact ⟨_, h⟩
theorem W.ne {p l : Addr} {G H : Hp} (w : W p G H) (n : H l = none) : l ≠ p := by
  obtain ⟨o, h⟩ := w.at
  intro e
  rw [e, h] at n
  cases n
theorem W.mk' {p : Addr} {G H G' H' : Hp} (w : W p G H) (k : H' p = H p) (g : Same G G') (gp : G' p = none) (sub : ∀ b o, G' b = some o → H' b = some o) : W p G' H' := by
  obtain ⟨c, ns, ⟨i, d, x, n, h, hi⟩, hc⟩ := w.pot
  exact ⟨⟨c, ns, ⟨i, d, x, n, k.trans h, hi⟩, g _ _ hc⟩, gp, sub⟩
structure Stp (p : Addr) (G H G' H' : Hp) : Prop where
  w : W p G' H'
  g : Same G G'
  e : ∀ b o, b ≠ p → H b = some o → H' b = some o
  n : ∀ b o, H b = some o → G b = none → G' b = none
theorem Stp.refl {p : Addr} {G H : Hp} (w : W p G H) : Stp p G H G H := ⟨w, fun _ _ h => h, fun _ _ _ h => h, fun _ _ _ h => h⟩
theorem Stp.trans {p : Addr} {G H G1 H1 G2 H2 : Hp} (a : Stp p G H G1 H1) (b : Stp p G1 H1 G2 H2) : Stp p G H G2 H2 :=
  ⟨b.w, a.g.trans b.g, fun c o n h => b.e c o n (a.e c o n h), fun c o h n => by
    by_cases e : c = p
    · rw [e]; exact b.w.gp
    · exact b.n c o (a.e c o e h) (a.n c o h n)⟩
/-- a new thing that never changes -/
theorem Stp.lay {p q : Addr} {G0 H0 G H : Hp} {o : HO} (s : Stp p G0 H0 G H) (h : H q = none) : Stp p G0 H0 (upd G q o) (upd H q o) := by
  have gq : Same G (upd G q o) := fun b u e => by
    rw [upd_ne (ne_of_none (s.w.sub b u e) h)]
    exact e
  refine s.trans ⟨s.w.mk' (by rw [upd_ne (s.w.ne h).symm]) gq (by rw [upd_ne (s.w.ne h).symm]; exact s.w.gp) fun b u e => ?_, gq, fun b u _ e => by rw [upd_ne (ne_of_none e h)]; exact e, fun b u e n => by rw [upd_ne (ne_of_none e h)]; exact n⟩
  by_cases hb : b = q
  · rw [hb, upd_same] at e
    cases e
    rw [hb, upd_same]
  · rw [upd_ne hb] at e ⊢
    exact s.w.sub b u e
/-- a new thing that may change -/
theorem Stp.new {p q : Addr} {G0 H0 G H : Hp} {o : HO} (s : Stp p G0 H0 G H) (h : H q = none) : Stp p G0 H0 G (upd H q o) :=
  s.trans ⟨s.w.mk' (by rw [upd_ne (s.w.ne h).symm]) (Same.refl _) s.w.gp fun b u e => by rw [upd_ne (ne_of_none (s.w.sub b u e) h)]; exact s.w.sub b u e, fun _ _ e => e, fun b u _ e => by rw [upd_ne (ne_of_none e h)]; exact e, fun _ _ _ n => n⟩
theorem Stp.fresh {p l : Addr} {G0 H0 G H : Hp} (s : Stp p G0 H0 G H) (w0 : W p G0 H0) (h : H l = none) : H0 l = none ∧ G l = none := by
  have lp : l ≠ p := s.w.ne h
  constructor
  · cases e : H0 l with
    | none => rfl
    | some o => rw [s.e l o lp e] at h; cases h
  · cases e : G l with
    | none => rfl
    | some o => rw [s.w.sub l o e] at h; cases h
/-- a thing of one's own changes -/
theorem Stp.mut {p l : Addr} {G0 H0 G H : Hp} {o : HO} (s : Stp p G0 H0 G H) (h0 : H0 l = none) (gl : G l = none) (lp : l ≠ p) : Stp p G0 H0 G (upd H l o) :=
  ⟨s.w.mk' (by rw [upd_ne lp.symm]) (Same.refl _) s.w.gp fun b v e => by rw [upd_ne (fun z => by rw [z, gl] at e; cases e)]; exact s.w.sub b v e, s.g, fun b v n e => by rw [upd_ne (ne_of_none e h0)]; exact s.e b v n e, s.n⟩
/-- a thing of one's own changes no more -/
theorem Stp.frz {p l : Addr} {G0 H0 G H : Hp} {o : HO} (s : Stp p G0 H0 G H) (h0 : H0 l = none) (gl : G l = none) (lp : l ≠ p) (hl : H l = some o) : Stp p G0 H0 (upd G l o) H := by
  have gq : Same G (upd G l o) := fun b u e => by
    rw [upd_ne (ne_of_none e gl)]
    exact e
  refine ⟨s.w.mk' rfl gq (by rw [upd_ne lp.symm]; exact s.w.gp) fun b u e => ?_, s.g.trans gq, s.e, fun b u e n => by rw [upd_ne (ne_of_none e h0)]; exact s.n b u e n⟩
  by_cases hb : b = l
  · rw [hb, upd_same] at e
    cases e
    rw [hb]
    exact hl
  · rw [upd_ne hb] at e
    exact s.w.sub b u e
/-- the draw -/
theorem Stp.draw {p : Addr} {G0 H0 G H H' : Hp} {c : Addr} {ns : List Int} (s : Stp p G0 H0 G H) (hc : G c = some (.lst (ns.map V.int))) (h : PotAt H' p c) (k : ∀ b, b ≠ p → H' b = H b) : Stp p G0 H0 G H' := by
  have ne : ∀ b o, G b = some o → b ≠ p := fun b o e z => by
    rw [z, s.w.gp] at e
    cases e
  exact ⟨⟨⟨c, ns, h, hc⟩, s.w.gp, fun b o e => (k b (ne b o e)).trans (s.w.sub b o e)⟩, s.g, fun b o n e => (k b n).trans (s.e b o n e), s.n⟩
/-- only new things -/
theorem Stp.more {p : Addr} {G0 H0 G H H' : Hp} (s : Stp p G0 H0 G H) (k : Same H H') : Stp p G0 H0 G H' := by
  obtain ⟨o, ho⟩ := s.w.at
  exact ⟨s.w.mk' ((k _ _ ho).trans ho.symm) (Same.refl _) s.w.gp fun b o e => k b o (s.w.sub b o e), s.g, fun b o n e => k b o (s.e b o n e), s.n⟩
def spPot (K : PySem.W.Frag) : Sp := fun vs H Q _ => ∃ (a : Addr) (ns : List Int), vs = [.ref a] ∧ SqL K H a (ns.map V.int) ∧ ns.length ≤ 63 ∧ ∀ p G H', W p G H' → Same H H' → Q (.ref p) H'
theorem go_any {p l : Addr} {G0 H0 G H : Hp} {xs : List V} {Q : VK} {E : XK} (s : Stp p G0 H0 G H) (hl : H l = some (.lst xs) ∨ H l = some (.tup xs)) (lp : l ≠ p) (h0 : xs ≠ []) (h1 : xs.length < 1000000) (h : ∀ (x : V) H', x ∈ xs → Stp p G0 H0 G H' → (∀ b, b ≠ p → H' b = H b) → Q x H') : spAny [.ref p, .ref l] H Q E := by
  obtain ⟨c, ns, hp, hc⟩ := s.w.pot
  exact ⟨p, c, l, ns, xs, rfl, hp, s.w.sub _ _ hc, lp, hl, h0, h1, fun x H' a q k => h x H' a (s.draw hc q k) k⟩
theorem go_ixS {K : PySem.W.Frag} {H : Hp} {Q : VK} {p : Addr} {xs : List V} {i : Int} {v : V} (hp : H p = some (.lst xs) ∨ H p = some (.tup xs)) (e : atI xs i = some v) (h : Q v H) : rIx K (.ref p) (.int i) H Q := by
  rcases hp with hp | hp
  · exact .inl ⟨p, xs, i, v, rfl, rfl, .inl (.inl hp), e, h⟩
  · exact .inr (.inl ⟨p, xs, i, v, rfl, rfl, .inl (.inl hp), e, h⟩)
theorem go_lenS {K : PySem.W.Frag} {H : Hp} {Q : VK} {p : Addr} {xs : List V} (hp : H p = some (.lst xs) ∨ H p = some (.tup xs)) (h : Q (.int (xs.length : Nat)) H) : rLen1 K [.ref p] H Q := by
  rcases hp with hp | hp
  · exact ⟨_, _, rfl, .inl ⟨xs, .inl (.inl hp), rfl⟩, h⟩
  · exact ⟨_, _, rfl, .inr ⟨xs, .inl (.inl hp), rfl⟩, h⟩
theorem at_mem {xs : List V} {r : Int} (h0 : 0 ≤ r) (h1 : r < xs.length) : ∃ x, x ∈ xs ∧ atI xs r = some x := by
  obtain ⟨q, rfl⟩ := Int.eq_ofNat_of_zero_le h0
  have hq : q < xs.length := by omega
  exact ⟨xs[q], List.getElem_mem hq, atI_nat (List.getElem?_eq_getElem hq)⟩
/-- how _law_draw is called where a state is told -/
theorem go_draw {p : Addr} {G0 H0 G H : Hp} {m : Int} {Q : VK} {E : XK} (s : Stp p G0 H0 G H) (h0 : 0 < m) (h1 : m < 1000000) (h : ∀ (r : Int) H', 0 ≤ r → r < m → Stp p G0 H0 G H' → (∀ b, b ≠ p → H' b = H b) → Q (.int r) H') : spDraw [.ref p, .int m] H Q E := by
  obtain ⟨c, ns, hp, hc⟩ := s.w.pot
  exact ⟨p, c, ns, m, rfl, h0, h1, hp, s.w.sub _ _ hc, fun r H' a b q k => h r H' a b (s.draw hc q k) k⟩

/-! ### fields -/
def wFld (K : PySem.W.Frag) (f : Str) (x : V) (H : Hp) (R : V → Prop) : Prop := ∃ a C dx fs v, x = .ref a ∧ H a = some (.ins C dx fs) ∧ Cls K C ∧ NoAttr K C f ∧ fs.lookup f = some v ∧ R v
theorem go_fld {K : PySem.W.Frag} {ta : TE} {f : Str} {σ : L2.St} {H : Hp} {Q : VK} (h : ta σ H fun x H1 => wFld K f x H1 fun v => Q v H1) : tFld K ta f σ H Q := h
/-! ### loops -/
def ForL (J : It) (g : TG) (tb : TS) (D : Ends) (σ : L2.St) (H : Hp) : Prop :=
  ∃ W : Nat → Nat → L2.St → Hp → Prop, (∃ m, W 0 m σ H) ∧ ∀ i m σ H, W i m σ H →
    (J.stop i H ∧ D.nx σ H) ∨ (J.go i H ∧ ∃ N : L2.St → Hp → Prop, (∀ σ' H', N σ' H' → ∃ m', m' < m ∧ W (i + 1) m' σ' H') ∧ ∀ x H', J.yld i H x H' → g x σ H' fun σ2 H2 => tb { D with nx := N, ct := N, bk := D.nx } σ2 H2)
theorem go_for {wi : TI} {g : TG} {tb : TS} {D : Ends} {σ : L2.St} {H : Hp} (h : wi σ H fun J H1 => ForL J g tb D σ H1) : tFor wi g tb D σ H := h
theorem fl_list {K : PySem.W.Frag} {a : Addr} {xs : List V} {j : Nat} {tb : TS} {D : Ends} {σ : L2.St} {H : Hp} (Pv : Nat → L2.St → Hp → Prop) (h0 : Pv 0 σ H) (hl : ∀ i σ H, i ≤ xs.length → Pv i σ H → SqL K H a xs)
    (hs : ∀ i x σ H, xs[i]? = some x → Pv i σ H → tb { D with nx := Pv (i + 1), ct := Pv (i + 1), bk := D.nx } (σ.set j (some x)) H) (hd : ∀ σ H, Pv xs.length σ H → D.nx σ H) : ForL (Itl K a) (gName j) tb D σ H := for_list Pv h0 hl (fun i x σ H hx p => hs i x σ H hx p) hd
theorem fl_range {lo : Int} {n j : Nat} {tb : TS} {D : Ends} {σ : L2.St} {H : Hp} (Pv : Nat → L2.St → Hp → Prop) (h0 : Pv 0 σ H)
    (hs : ∀ i σ H, i < n → Pv i σ H → tb { D with nx := Pv (i + 1), ct := Pv (i + 1), bk := D.nx } (σ.set j (some (.int (lo + i)))) H) (hd : ∀ σ H, Pv n σ H → D.nx σ H) : ForL (Itr lo n) (gName j) tb D σ H := for_range Pv h0 (fun i σ H hi p => hs i σ H hi p) hd
theorem go_gTup2 {K : PySem.W.Frag} {σ : L2.St} {i j : Nat} {x y : V} {T : Addr} {H : Hp} {Q : L2.St → Hp → Prop} (hT : H T = some (.tup [x, y])) (h : Q ((σ.set i (some x)).set j (some y)) H) : gTup K 2 (gCons (gName i) (gCons (gName j) gNil)) (.ref T) σ H Q :=
  ⟨T, [x, y], rfl, .inl (.inl hT), rfl, x, [y], rfl, y, [], rfl, rfl, h⟩
/-! ### comprehensions -/
/-- what a comprehension over J asks, D its list -/
def LcL (J : It) (g : TG) (tt : TT) (te : TE) (vs : List Nat) (σ : L2.St) (H1 : Hp) (D : Addr) (Qd : Hp → Prop) : Prop :=
  ∃ W : Nat → Nat → Hp → Prop, (∃ m, W 0 m (upd H1 D (.lst []))) ∧ ∀ i m H, W i m H →
    (J.stop i H ∧ Qd H) ∨ (J.go i H ∧ ∃ Nx : Hp → Prop, (∀ H', Nx H' → ∃ m', m' < m ∧ W (i + 1) m' H') ∧ ∀ x H', J.yld i H x H' → g x (wipe σ vs) H' fun σ2 H2 => wipe σ2 vs = wipe σ vs ∧ tt σ2 H2 fun b H3 =>
      if b = true then te σ2 H3 fun y H4 => ∃ acc, H4 D = some (.lst acc) ∧ acc.length < sizeLine ∧ Nx (upd H4 D (.lst (acc ++ [y]))) else Nx H3)
theorem go_lc {wi : TI} {g : TG} {tt : TT} {te : TE} {vs : List Nat} {σ : L2.St} {H : Hp} {Q : VK} (h : wi σ H fun J H1 => ∀ D, H1 D = none → LcL J g tt te vs σ H1 D fun H2 => Q (.ref D) H2) : tLc wi g tt te vs σ H Q := h
/-- what is made so far, and the rest -/
def Acc (D : Addr) (Pv : Nat → List V → Hp → Prop) (i : Nat) (H : Hp) : Prop := ∃ acc, H D = some (.lst acc) ∧ Pv i acc H
def AccQ (D : Addr) (Pv : Nat → List V → Hp → Prop) (i : Nat) (y : V) (H : Hp) : Prop := ∃ acc, H D = some (.lst acc) ∧ acc.length < sizeLine ∧ Acc D Pv i (upd H D (.lst (acc ++ [y])))
theorem accQ {D : Addr} {Pv : Nat → List V → Hp → Prop} {i : Nat} {y : V} {H : Hp} {acc : List V} (h : H D = some (.lst acc)) (hz : acc.length < 100000) (p : Pv i (acc ++ [y]) (upd H D (.lst (acc ++ [y])))) : AccQ D Pv i y H :=
  ⟨acc, h, Nat.lt_of_lt_of_le hz (by decide), _, upd_same, p⟩
theorem set_wipe {σ : L2.St} {j : Nat} {x : V} : wipe ((wipe σ [j]).set j (some x)) [j] = wipe σ [j] := by
  show ((σ.set j none).set j (some x)).set j none = σ.set j none
  rw [List.set_set, List.set_set]
theorem gset {σ : L2.St} {j : Nat} {x : V} {H : Hp} {R : L2.St → Hp → Prop} (h : R (σ.set j (some x)) H) : gName j x (wipe σ [j]) H fun σ2 H2 => wipe σ2 [j] = wipe σ [j] ∧ R σ2 H2 := by
  refine ⟨set_wipe, ?_⟩
  rw [show (wipe σ [j]).set j (some x) = σ.set j (some x) from List.set_set ..]
  exact h
theorem tyes {σ : L2.St} {H : Hp} {A : Prop} {B : Hp → Prop} (h : A) : tYes σ H fun b H3 => if b = true then A else B H3 := by
  show if true = true then A else B H
  rw [if_pos rfl]
  exact h
section
variable {K : PySem.W.Frag} {σ : L2.St} {H1 : Hp} {D a : Addr} {xs : List V} {te : TE} {Qd : Hp → Prop} {j : Nat} {tt : TT}
theorem lcl_list (Pv : Nat → List V → Hp → Prop) (h0 : Pv 0 [] (upd H1 D (.lst []))) (hl : ∀ i acc H, i ≤ xs.length → H D = some (.lst acc) → Pv i acc H → SqL K H a xs)
    (hs : ∀ i x acc H, xs[i]? = some x → H D = some (.lst acc) → Pv i acc H → te (σ.set j (some x)) H fun y H4 => AccQ D Pv (i + 1) y H4)
    (hd : ∀ acc H, H D = some (.lst acc) → Pv xs.length acc H → Qd H) : LcL (Itl K a) (gName j) tYes te [j] σ H1 D Qd :=
  lc_list (K := K) (a := a) (xs := xs) (Acc D Pv) ⟨[], upd_same, h0⟩ (fun i H hi ⟨acc, h1, h2⟩ => hl i acc H hi h1 h2) (fun i x H hx ⟨acc, h1, h2⟩ => gset (tyes (σ := σ.set j (some x)) (hs i x acc H hx h1 h2))) fun H ⟨acc, h1, h2⟩ => hd acc H h1 h2
theorem lcl_tup (Pv : Nat → List V → Hp → Prop) (h0 : Pv 0 [] (upd H1 D (.lst []))) (hl : ∀ i acc H, i ≤ xs.length → H D = some (.lst acc) → Pv i acc H → SqT K H a xs)
    (hs : ∀ i x acc H, xs[i]? = some x → H D = some (.lst acc) → Pv i acc H → te (σ.set j (some x)) H fun y H4 => AccQ D Pv (i + 1) y H4)
    (hd : ∀ acc H, H D = some (.lst acc) → Pv xs.length acc H → Qd H) : LcL (Itt K a) (gName j) tYes te [j] σ H1 D Qd :=
  lc_tup (K := K) (a := a) (xs := xs) (Acc D Pv) ⟨[], upd_same, h0⟩ (fun i H hi ⟨acc, h1, h2⟩ => hl i acc H hi h1 h2) (fun i x H hx ⟨acc, h1, h2⟩ => gset (tyes (σ := σ.set j (some x)) (hs i x acc H hx h1 h2))) fun H ⟨acc, h1, h2⟩ => hd acc H h1 h2
theorem lcl_range {lo : Int} {n : Nat} (Pv : Nat → List V → Hp → Prop) (h0 : Pv 0 [] (upd H1 D (.lst [])))
    (hs : ∀ i acc H, i < n → H D = some (.lst acc) → Pv i acc H → te (σ.set j (some (.int (lo + i)))) H fun y H4 => AccQ D Pv (i + 1) y H4)
    (hd : ∀ acc H, H D = some (.lst acc) → Pv n acc H → Qd H) : LcL (Itr lo n) (gName j) tYes te [j] σ H1 D Qd :=
  lc_range (Acc D Pv) ⟨[], upd_same, h0⟩ (fun i H hi ⟨acc, h1, h2⟩ => gset (tyes (σ := σ.set j (some (.int (lo + i)))) (hs i acc H hi h1 h2))) fun H ⟨acc, h1, h2⟩ => hd acc H h1 h2
end
/-! ### what is walked -/
def wIL (K : PySem.W.Frag) (x : V) (H : Hp) (R : It → Prop) : Prop := ∃ a, x = .ref a ∧ (∃ xs, SqL K H a xs) ∧ R (Itl K a)
def wIT (K : PySem.W.Frag) (x : V) (H : Hp) (R : It → Prop) : Prop := ∃ a, x = .ref a ∧ (∃ xs, SqT K H a xs) ∧ R (Itt K a)
def wIR (vs : List V) (R : It → Prop) : Prop := ∃ j : Int, vs = [.int j] ∧ -(2 ^ 62) ≤ j ∧ j < 2 ^ 62 ∧ R (Itr 0 j.toNat)
def wIR2 (vs : List V) (R : It → Prop) : Prop := ∃ i j : Int, vs = [.int i, .int j] ∧ (-(2 ^ 62) ≤ i ∧ i < 2 ^ 62 ∧ -(2 ^ 62) ≤ j ∧ j < 2 ^ 62) ∧ R (Itr i (j - i).toNat)
theorem go_iL {K : PySem.W.Frag} {te : TE} {σ : L2.St} {H : Hp} {R : It → Hp → Prop} (h : te σ H fun x H1 => wIL K x H1 fun J => R J H1) : iList K te σ H R := h
theorem go_iT {K : PySem.W.Frag} {te : TE} {σ : L2.St} {H : Hp} {R : It → Hp → Prop} (h : te σ H fun x H1 => wIT K x H1 fun J => R J H1) : iTup K te σ H R := h
theorem go_iR {ta : TA} {σ : L2.St} {H : Hp} {R : It → Hp → Prop} (h : ta σ H fun vs H1 => wIR vs fun J => R J H1) : iRng1 ta σ H R := h
theorem go_iR2 {ta : TA} {σ : L2.St} {H : Hp} {R : It → Hp → Prop} (h : ta σ H fun vs H1 => wIR2 vs fun J => R J H1) : iRng2 ta σ H R := h
theorem go_wIL {K : PySem.W.Frag} {a : Addr} {xs : List V} {H : Hp} {R : It → Prop} (h : SqL K H a xs) (r : R (Itl K a)) : wIL K (.ref a) H R := ⟨a, rfl, ⟨xs, h⟩, r⟩
theorem go_wIT {K : PySem.W.Frag} {a : Addr} {xs : List V} {H : Hp} {R : It → Prop} (h : SqT K H a xs) (r : R (Itt K a)) : wIT K (.ref a) H R := ⟨a, rfl, ⟨xs, h⟩, r⟩
theorem go_wIR {n : Int} {R : It → Prop} (h0 : -(2 ^ 62) ≤ n) (h1 : n < 2 ^ 62) (r : R (Itr 0 n.toNat)) : wIR [.int n] R := ⟨n, rfl, h0, h1, r⟩
theorem go_wIR2 {n m : Int} {R : It → Prop} (h0 : -(2 ^ 62) ≤ n) (h1 : n < 2 ^ 62) (h2 : -(2 ^ 62) ≤ m) (h3 : m < 2 ^ 62) (r : R (Itr n (m - n).toNat)) : wIR2 [.int n, .int m] R := ⟨n, m, rfl, ⟨h0, h1, h2, h3⟩, r⟩
theorem go_sl {r : V → Option Int → Option Int → Hp → VK → Prop} {te : TE} {tl th : TO} {σ : L2.St} {H : Hp} {Q : VK} (h : te σ H fun x H1 => tl σ H1 fun l H2 => th σ H2 fun u H3 => r x l u H3 Q) : tSl r te tl th σ H Q := h
theorem go_noPart {σ : L2.St} {H : Hp} {Q : Option Int → Hp → Prop} (h : Q none H) : tNoPart σ H Q := h
def wI (x : V) (R : Int → Prop) : Prop := ∃ i, x = .int i ∧ R i
theorem go_wI {i : Int} {R : Int → Prop} (h : R i) : wI (.int i) R := ⟨i, rfl, h⟩
theorem go_part {t : TE} {σ : L2.St} {H : Hp} {Q : Option Int → Hp → Prop} (h : t σ H fun x H1 => wI x fun i => Q (some i) H1) : tPart t σ H Q := h
theorem go_slL {K : PySem.W.Frag} {H : Hp} {Q : VK} {a : Addr} {xs : List V} {lo hi : Option Int} (hp : SqL K H a xs) (h : ∀ p, H p = none → Q (.ref p) (upd H p (.lst (cutV xs lo hi)))) : rSlL K (.ref a) lo hi H Q := ⟨a, xs, rfl, hp, h⟩
theorem cutV_ints (ns : List Int) (lo hi : Option Int) : ∃ ms : List Int, cutV (ns.map V.int) lo hi = ms.map V.int ∧ ms.length ≤ ns.length := by
  unfold cutV
  rw [List.length_map, ← List.map_drop, ← List.map_take]
  refine ⟨_, rfl, ?_⟩
  rw [List.length_take, List.length_drop]
  omega
theorem go_tupL {K : PySem.W.Frag} {H : Hp} {Q : VK} {p : Addr} {ys : List V} (hp : SqL K H p ys) (h : ∀ l, H l = none → Q (.ref l) (upd H l (.tup ys))) : ∃ p' ys, [V.ref p] = [.ref p'] ∧ ((SqL K H p' ys ∧ ∀ l, H l = none → Q (.ref l) (upd H l (.tup ys))) ∨ (SqT K H p' ys ∧ Q (.ref p') H)) := ⟨p, ys, rfl, .inl ⟨hp, h⟩⟩
/-- a new thing -/
def wNew (o : HO) (H : Hp) (R : Addr → Hp → Prop) : Prop := ∀ q, H q = none → R q (upd H q o)
def wNewS (n : Nat) (o : HO) (H : Hp) (R : Addr → Hp → Prop) : Prop := n ≤ sizeLine ∧ wNew o H R
theorem go_tup {t : TA} {σ : L2.St} {H : Hp} {Q : VK} (h : t σ H fun xs H1 => wNewS xs.length (.tup xs) H1 fun q H' => Q (.ref q) H') : tTup t σ H Q := h
theorem go_lst {t : TA} {σ : L2.St} {H : Hp} {Q : VK} (h : t σ H fun xs H1 => wNewS xs.length (.lst xs) H1 fun q H' => Q (.ref q) H') : tLst t σ H Q := h
theorem go_dnew {σ : L2.St} {H : Hp} {Q : VK} (h : wNew (.dK []) H fun q H' => Q (.ref q) H') : tDNewK σ H Q := h
section
variable {p : Addr} {G0 H0 G H : Hp} {o : HO} {n : Nat} {R : Addr → Hp → Prop}
/-- what a new thing leaves -/
structure Grow (G H G' H' : Hp) : Prop where
  h : Same H H'
  n : ∀ b o, H b = some o → G b = none → G' b = none
theorem Grow.refl (G H : Hp) : Grow G H G H := ⟨Same.refl H, fun _ _ _ h => h⟩
theorem new_lay (s : Stp p G0 H0 G H) (k : ∀ q G' H', Stp p G0 H0 G' H' → Same G G' → Grow G H G' H' → G' q = some o → R q H') : wNew o H R := fun q hq =>
  k q (upd G q o) (upd H q o) (s.lay hq) (fun b u e => by rw [upd_ne (ne_of_none (s.w.sub b u e) hq)]; exact e) ⟨fun b u e => by rw [upd_ne (ne_of_none e hq)]; exact e, fun b u e n => by rw [upd_ne (ne_of_none e hq)]; exact n⟩ upd_same
theorem newS_lay (s : Stp p G0 H0 G H) (hn : n ≤ 100000) (k : ∀ q G' H', Stp p G0 H0 G' H' → Same G G' → Grow G H G' H' → G' q = some o → R q H') : wNewS n o H R := ⟨Nat.le_trans hn (by decide), new_lay s k⟩
/-- one that may change -/
structure Mine (p : Addr) (G0 H0 G H : Hp) (l : Addr) (o : HO) : Prop where
  h0 : H0 l = none
  g : G l = none
  ne : l ≠ p
  at_ : H l = some o
theorem Mine.grow {G' H' : Hp} {l : Addr} (m : Mine p G0 H0 G H l o) (g : Grow G H G' H') : Mine p G0 H0 G' H' l o := ⟨m.h0, g.n l o m.at_ m.g, m.ne, g.h _ _ m.at_⟩
theorem Mine.step {G' H' : Hp} {l : Addr} (m : Mine p G0 H0 G H l o) (s : Stp p G H G' H') : Mine p G0 H0 G' H' l o := ⟨m.h0, s.n l o m.at_ m.g, m.ne, s.e l o m.ne m.at_⟩
theorem Mine.same {H' : Hp} {l : Addr} (m : Mine p G0 H0 G H l o) (k : H' l = H l) : Mine p G0 H0 G H' l o := ⟨m.h0, m.g, m.ne, k.trans m.at_⟩
theorem Mine.set {l : Addr} {u : HO} (m : Mine p G0 H0 G H l u) (s : Stp p G0 H0 G H) (k : ∀ H', Stp p G0 H0 G H' → Mine p G0 H0 G H' l o → (∀ b, b ≠ l → H' b = H b) → R l H') : R l (upd H l o) :=
  k _ (s.mut m.h0 m.g m.ne) ⟨m.h0, m.g, m.ne, upd_same⟩ fun b n => upd_ne n
theorem Mine.froz {l : Addr} (m : Mine p G0 H0 G H l o) (s : Stp p G0 H0 G H) : Stp p G0 H0 (upd G l o) H := s.frz m.h0 m.g m.ne m.at_
theorem new_own (s : Stp p G0 H0 G H) (w0 : W p G0 H0) (k : ∀ q H', Stp p G0 H0 G H' → Same H H' → Mine p G0 H0 G H' q o → R q H') : wNew o H R := fun q hq =>
  k q (upd H q o) (s.new hq) (fun b u e => by rw [upd_ne (ne_of_none e hq)]; exact e) ⟨(s.fresh w0 hq).1, (s.fresh w0 hq).2, s.w.ne hq, upd_same⟩
theorem newS_own (s : Stp p G0 H0 G H) (w0 : W p G0 H0) (hn : n ≤ 100000) (k : ∀ q H', Stp p G0 H0 G H' → Same H H' → Mine p G0 H0 G H' q o → R q H') : wNewS n o H R := ⟨Nat.le_trans hn (by decide), new_own s w0 k⟩
theorem newS_own2 (s : Stp p G0 H0 G H) (w0 : W p G0 H0) (hn : n ≤ 100000) (k : ∀ q H', H q = none → Stp p G0 H0 G H' → Same H H' → Mine p G0 H0 G H' q o → R q H') : wNewS n o H R := ⟨Nat.le_trans hn (by decide), fun q hq =>
  k q (upd H q o) hq (s.new hq) (fun b u e => by rw [upd_ne (ne_of_none e hq)]; exact e) ⟨(s.fresh w0 hq).1, (s.fresh w0 hq).2, s.w.ne hq, upd_same⟩⟩
end
theorem small {n : Nat} (h : n ≤ 100000) : n ≤ sizeLine := Nat.le_trans h (by decide)
theorem same_new {H : Hp} {p : Addr} {o : HO} (h : H p = none) : Same H (upd H p o) := fun b u e => by
  rw [upd_ne (ne_of_none e h)]
  exact e
theorem same_mut {H H' : Hp} {p : Addr} {o : HO} (s : Same H H') (h : H p = none) : Same H (upd H' p o) := fun b u e => by
  rw [upd_ne (ne_of_none e h)]
  exact s b u e
/-! ### a method call -/
theorem go_bm {K : PySem.W.Frag} {T : String} {r : V → List V → Hp → VK → Prop} {to : TE} {t : TA} {σ : L2.St} {H : Hp} {Q : VK} (h : to σ H fun x H1 => tyV K T x H1 ∧ t σ H1 fun xs H2 => r x xs H2 Q) : tBM K T r to t σ H Q := h
theorem tyL {K : PySem.W.Frag} {l : Addr} {H : Hp} {xs : List V} (h : H l = some (.lst xs)) : tyV K "list" (.ref l) H := .inl ⟨rfl, _, .inl (.inl h)⟩
theorem app_own {p : Addr} {G0 H0 G H : Hp} {l : Addr} {xs : List V} {v : V} {Q : VK} (s : Stp p G0 H0 G H) (m : Mine p G0 H0 G H l (.lst xs)) (hz : xs.length < 100000) (k : ∀ H', Stp p G0 H0 G H' → Mine p G0 H0 G H' l (.lst (xs ++ [v])) → (∀ b, b ≠ l → H' b = H b) → Q .non H') : rAppend (.ref l) [v] H Q :=
  ⟨l, xs, v, rfl, rfl, m.at_, Nat.lt_of_lt_of_le hz (by decide), m.set (R := fun _ H' => Q .non H') s k⟩
end Kb

set_option Elab.async false
set_option linter.all false
set_option maxRecDepth 100000
set_option maxHeartbeats 4000000
namespace Kb
open PySem PySem.Spec PyProof.Rows L2 RZ
/-! ### data: what never changes, by its content (an object of the class N is a dict of one pair here) -/
mutual
inductive Dr (N : Addr) (G : Hp) : V → PyData → Prop
  | non : Dr N G .non .none
  | bl (b : Bool) : Dr N G (.bl b) (.bool b)
  | int (i : Int) : Dr N G (.int i) (.int i)
  | str (x : Str) : Dr N G (.str x) (.str x)
  | lst {a : Addr} {xs : List V} {ds : List PyData} : G a = some (.lst xs) → Drs N G xs ds → Dr N G (.ref a) (.list ds)
  | tup {a : Addr} {xs : List V} {ds : List PyData} : G a = some (.tup xs) → Drs N G xs ds → Dr N G (.ref a) (.tuple ds)
  | dic {a : Addr} : G a = some (.dK []) → Dr N G (.ref a) (.dict [])
  | exo {a : Addr} : G a = some (ExO (.ref N) a) → Dr N G (.ref a) (.dict [(.none, .none)])
inductive Drs (N : Addr) (G : Hp) : List V → List PyData → Prop
  | nil : Drs N G [] []
  | cons {v : V} {vs : List V} {d : PyData} {ds : List PyData} : Dr N G v d → Drs N G vs ds → Drs N G (v :: vs) (d :: ds)
end
section
variable {N : Addr} {G G' : Hp}
mutual
theorem Dr.same (s : Same G G') : ∀ {v : V} {d : PyData}, Dr N G v d → Dr N G' v d
  | _, _, .non => .non
  | _, _, .bl b => .bl b
  | _, _, .int i => .int i
  | _, _, .str x => .str x
  | _, _, .lst h r => .lst (s _ _ h) (Drs.same s r)
  | _, _, .tup h r => .tup (s _ _ h) (Drs.same s r)
  | _, _, .dic h => .dic (s _ _ h)
  | _, _, .exo h => .exo (s _ _ h)
theorem Drs.same (s : Same G G') : ∀ {vs : List V} {ds : List PyData}, Drs N G vs ds → Drs N G' vs ds
  | _, _, .nil => .nil
  | _, _, .cons h r => .cons (Dr.same s h) (Drs.same s r)
end
theorem Drs.length : ∀ {vs : List V} {ds : List PyData}, Drs N G vs ds → vs.length = ds.length
  | _, _, .nil => rfl
  | _, _, .cons _ r => congrArg (· + 1) (Drs.length r)
theorem Drs.get : ∀ {vs : List V} {ds : List PyData} {i : Nat} {v : V}, Drs N G vs ds → vs[i]? = some v → ∃ d, ds[i]? = some d ∧ Dr N G v d
  | _, _, i, v, .nil, e => by simp at e
  | _, _, 0, v, .cons h _, e => by
    obtain rfl := Option.some.inj e
    exact ⟨_, rfl, h⟩
  | _, _, i + 1, v, .cons _ r, e => Drs.get (i := i) r e
theorem Drs.getD : ∀ {vs : List V} {ds : List PyData} {i : Nat} {d : PyData}, Drs N G vs ds → ds[i]? = some d → ∃ v, vs[i]? = some v ∧ Dr N G v d
  | _, _, i, v, .nil, e => by simp at e
  | _, _, 0, v, .cons h _, e => by
    obtain rfl := Option.some.inj e
    exact ⟨_, rfl, h⟩
  | _, _, i + 1, v, .cons _ r, e => Drs.getD (i := i) r e
theorem Drs.app : ∀ {vs ws : List V} {ds es : List PyData}, Drs N G vs ds → Drs N G ws es → Drs N G (vs ++ ws) (ds ++ es)
  | _, _, _, _, .nil, s => s
  | _, _, _, _, .cons h r, s => .cons h (Drs.app r s)
theorem Drs.take : ∀ {vs : List V} {ds : List PyData} (n : Nat), Drs N G vs ds → Drs N G (vs.take n) (ds.take n)
  | _, _, 0, _ => .nil
  | _, _, _ + 1, .nil => .nil
  | _, _, n + 1, .cons h r => .cons h (Drs.take n r)
theorem Drs.drop : ∀ {vs : List V} {ds : List PyData} (n : Nat), Drs N G vs ds → Drs N G (vs.drop n) (ds.drop n)
  | _, _, 0, r => r
  | _, _, _ + 1, .nil => .nil
  | _, _, n + 1, .cons _ r => Drs.drop n r
theorem Drs.rev : ∀ {vs : List V} {ds : List PyData}, Drs N G vs ds → Drs N G vs.reverse ds.reverse
  | _, _, .nil => .nil
  | _, _, .cons h r => by
    rw [List.reverse_cons, List.reverse_cons]
    exact (Drs.rev r).app (.cons h .nil)
theorem Drs.mem : ∀ {vs : List V} {ds : List PyData} {v : V}, Drs N G vs ds → v ∈ vs → ∃ d, d ∈ ds ∧ Dr N G v d
  | _, _, _, .nil, h => by cases h
  | _, _, _, .cons h r, hm => by
    rcases List.mem_cons.mp hm with rfl | hm
    · exact ⟨_, List.mem_cons_self, h⟩
    · obtain ⟨d, h1, h2⟩ := Drs.mem r hm
      exact ⟨d, List.mem_cons_of_mem _ h1, h2⟩
theorem Drs.two {x y : V} {ds : List PyData} (h : Drs N G [x, y] ds) : ∃ d e, Dr N G x d ∧ Dr N G y e ∧ ds = [d, e] := by
  cases h with
  | cons h1 r =>
    cases r with
    | cons h2 r =>
      cases r
      exact ⟨_, _, h1, h2, rfl⟩
theorem Drs.ints : ∀ (ns : List Int), Drs N G (ns.map V.int) (ns.map PyData.int)
  | [] => .nil
  | n :: r => .cons (.int n) (Drs.ints r)
mutual
/-- holds no other thing than the layer's deep data -/
def plainD : PyData → Bool
  | .dict _ => false
  | .list ds => plainDs ds
  | .tuple ds => plainDs ds
  | _ => true
def plainDs : List PyData → Bool
  | [] => true
  | d :: r => plainD d && plainDs r
end
variable {K : PySem.W.Frag} {H : Hp}
mutual
theorem Dr.dp (s : ∀ b o, G b = some o → H b = some o) : ∀ {v : V} {d : PyData}, Dr N G v d → plainD d = true → Dp K H v d
  | _, _, .non, _ => .non
  | _, _, .bl b, _ => .bl b
  | _, _, .int i, _ => .int i
  | _, _, .str x, _ => .str x
  | _, _, .lst h r, p => .lst (.inl (.inl (s _ _ h))) (Drs.dp s r (by unfold plainD at p; exact p))
  | _, _, .tup h r, p => .tup (.inl (.inl (s _ _ h))) (Drs.dp s r (by unfold plainD at p; exact p))
  | _, _, .dic h, p => by cases p
  | _, _, .exo h, p => by cases p
theorem Drs.dp (s : ∀ b o, G b = some o → H b = some o) : ∀ {vs : List V} {ds : List PyData}, Drs N G vs ds → plainDs ds = true → DpAll K H vs ds
  | _, _, .nil, _ => .nil
  | _, _, .cons h r, p => by
    unfold plainDs at p
    rw [Bool.and_eq_true] at p
    exact .cons (Dr.dp s h p.1) (Drs.dp s r p.2)
end
end
/-! ### isinstance of data -/
def tyD (N : Addr) : PyData → Value
  | .none => .type "NoneType"
  | .bool _ => .type "bool"
  | .int _ => .type "int"
  | .str _ => .type "str"
  | .list _ => .type "list"
  | .tuple _ => .type "tuple"
  | .dict [] => .type "dict"
  | .dict (_ :: _) => .ref N
/-- what is known of the class N -/
structure NoR (K : PySem.W.Frag) (N : Addr) : Prop where
  ex : ExcC K N
  tup : PySem.W.kitOne K (.ref N) (.type "tuple") = some false
  lst : PySem.W.kitOne K (.ref N) (.type "list") = some false
  int : PySem.W.kitOne K (.ref N) (.type "int") = some false
  bool : PySem.W.kitOne K (.ref N) (.type "bool") = some false
def isTup : PyData → Bool
  | .tuple _ => true
  | _ => false
def isLst : PyData → Bool
  | .list _ => true
  | _ => false
def isInt : PyData → Bool
  | .int _ => true
  | .bool _ => true
  | _ => false
def isBool : PyData → Bool
  | .bool _ => true
  | _ => false
section
variable {K : PySem.W.Frag} {N : Addr}
theorem kit_tup (R : NoR K N) : ∀ d : PyData, PySem.W.kitOne K (tyD N d) (.type "tuple") = some (isTup d)
  | .none => kit_ty (show kitB "NoneType" "tuple" = some false by decide +kernel)
  | .bool _ => kit_ty (show kitB "bool" "tuple" = some false by decide +kernel)
  | .int _ => kit_ty (show kitB "int" "tuple" = some false by decide +kernel)
  | .str _ => kit_ty (show kitB "str" "tuple" = some false by decide +kernel)
  | .list _ => kit_ty (show kitB "list" "tuple" = some false by decide +kernel)
  | .tuple _ => kit_ty (show kitB "tuple" "tuple" = some true by decide +kernel)
  | .dict [] => kit_ty (show kitB "dict" "tuple" = some false by decide +kernel)
  | .dict (_ :: _) => R.tup
theorem kit_lst (R : NoR K N) : ∀ d : PyData, PySem.W.kitOne K (tyD N d) (.type "list") = some (isLst d)
  | .none => kit_ty (show kitB "NoneType" "list" = some false by decide +kernel)
  | .bool _ => kit_ty (show kitB "bool" "list" = some false by decide +kernel)
  | .int _ => kit_ty (show kitB "int" "list" = some false by decide +kernel)
  | .str _ => kit_ty (show kitB "str" "list" = some false by decide +kernel)
  | .list _ => kit_ty (show kitB "list" "list" = some true by decide +kernel)
  | .tuple _ => kit_ty (show kitB "tuple" "list" = some false by decide +kernel)
  | .dict [] => kit_ty (show kitB "dict" "list" = some false by decide +kernel)
  | .dict (_ :: _) => R.lst
theorem kit_int (R : NoR K N) : ∀ d : PyData, PySem.W.kitOne K (tyD N d) (.type "int") = some (isInt d)
  | .none => kit_ty (show kitB "NoneType" "int" = some false by decide +kernel)
  | .bool _ => kit_ty (show kitB "bool" "int" = some true by decide +kernel)
  | .int _ => kit_ty (show kitB "int" "int" = some true by decide +kernel)
  | .str _ => kit_ty (show kitB "str" "int" = some false by decide +kernel)
  | .list _ => kit_ty (show kitB "list" "int" = some false by decide +kernel)
  | .tuple _ => kit_ty (show kitB "tuple" "int" = some false by decide +kernel)
  | .dict [] => kit_ty (show kitB "dict" "int" = some false by decide +kernel)
  | .dict (_ :: _) => R.int
theorem kit_bool (R : NoR K N) : ∀ d : PyData, PySem.W.kitOne K (tyD N d) (.type "bool") = some (isBool d)
  | .none => kit_ty (show kitB "NoneType" "bool" = some false by decide +kernel)
  | .bool _ => kit_ty (show kitB "bool" "bool" = some true by decide +kernel)
  | .int _ => kit_ty (show kitB "int" "bool" = some false by decide +kernel)
  | .str _ => kit_ty (show kitB "str" "bool" = some false by decide +kernel)
  | .list _ => kit_ty (show kitB "list" "bool" = some false by decide +kernel)
  | .tuple _ => kit_ty (show kitB "tuple" "bool" = some false by decide +kernel)
  | .dict [] => kit_ty (show kitB "dict" "bool" = some false by decide +kernel)
  | .dict (_ :: _) => R.bool
end
def rIsD (K : PySem.W.Frag) (N : Addr) : List V → Hp → VK → Prop := fun xs H Q => ∃ (G : Hp) (v c : V) (d : PyData) (u : Value) (b : Bool), xs = [v, c] ∧ ClsV c u ∧ (∀ b o, G b = some o → H b = some o) ∧ Dr N G v d ∧ PySem.W.kitOne K (tyD N d) u = some b ∧ Q (.bl b) H
theorem Dr.kit {X : Cx} {pins : List (Addr × Obj)} {σ : L2.St} {H G : Hp} {s : Shared} {N : Addr} {v : V} {d : PyData} {u : Value} (C : ExcC X.K N) (I : Inv X pins σ H s) (r : RelV v u) (sub : ∀ b o, G b = some o → H b = some o) (h : Dr N G v d) :
    ∃ P : Heap → Prop, PySem.W.KitX X.K u (tyD N d) P ∧ P s.heap ∧ u ≠ .builtin "__main__.__loader__#opaque" := by
  cases h with
  | non => exact kit_of I r (.base .non)
  | bl b => exact kit_of I r (.base (.bl b))
  | int i => exact kit_of I r (.base (.int i))
  | str x => exact kit_of I r (.base (.str x))
  | lst h _ => exact kit_of I r (.base (.lst (sub _ _ h)))
  | tup h _ => exact kit_of I r (.base (.tup (sub _ _ h)))
  | dic h => exact kit_of I r (.base (.dK (sub _ _ h)))
  | @exo a h =>
    cases (show u = Value.ref a from r)
    obtain ⟨⟨oe, vs, hget, hz, hv, _⟩, _, _⟩ := I.hok a _ (sub _ _ h)
    have J : PySem.W.InstAt s.heap a oe N none := by
      obtain ⟨oc, od, oda, osl⟩ := oe
      obtain ⟨h1, h2⟩ := hz
      dsimp only at h1 h2 hv
      subst h1 h2 hv
      exact ⟨hget, rfl, rfl, trivial⟩
    exact ⟨_, PySem.W.handS_kitx_exc C.hg C.hk C.hs C.hd C.ha C.hn C.ht C.hm, J, fun z => nomatch z⟩
theorem call_isD {X : Cx} {N : Addr} (C : ExcC X.K N) : CallR X (.builtin "isinstance") (rIsD X.K N) := by
  intro pins s σ H xs us Q I r h
  obtain ⟨G, v, c, d, u, b, rfl, k, sub, hd, e, q⟩ := h
  obtain ⟨u1, u2, rfl, r1, r2⟩ := vals2 r
  have e2 := k.eq r2
  subst e2
  obtain ⟨P, Z, p, hx⟩ := hd.kit C I r1 sub
  exact PySem.W.kia_one Z I.kIn p e hx fun tk => ⟨.bl b, H, I.tok tk, rfl, q⟩
/-! the ways in which a reading asks it -/
section
variable {K : PySem.W.Frag} {N : Addr} {G H : Hp} {v : V} {d : PyData} {Q : VK}
theorem go_isTup (R : NoR K N) (sub : ∀ b o, G b = some o → H b = some o) (h : Dr N G v d) (q : Q (.bl (isTup d)) H) : rIsD K N [v, .ty "tuple"] H Q := ⟨G, v, _, d, _, _, rfl, .ty _, sub, h, kit_tup R d, q⟩
theorem go_isLst (R : NoR K N) (sub : ∀ b o, G b = some o → H b = some o) (h : Dr N G v d) (q : Q (.bl (isLst d)) H) : rIsD K N [v, .ty "list"] H Q := ⟨G, v, _, d, _, _, rfl, .ty _, sub, h, kit_lst R d, q⟩
theorem go_isInt (R : NoR K N) (sub : ∀ b o, G b = some o → H b = some o) (h : Dr N G v d) (q : Q (.bl (isInt d)) H) : rIsD K N [v, .ty "int"] H Q := ⟨G, v, _, d, _, _, rfl, .ty _, sub, h, kit_int R d, q⟩
theorem go_isBool (R : NoR K N) (sub : ∀ b o, G b = some o → H b = some o) (h : Dr N G v d) (q : Q (.bl (isBool d)) H) : rIsD K N [v, .ty "bool"] H Q := ⟨G, v, _, d, _, _, rfl, .ty _, sub, h, kit_bool R d, q⟩
end

/-! ### the rules by a named written part (in a comprehension it may not hang on the block) -/
section
variable {X : Cx} {K : PySem.W.Frag}
def rTupOf (K : PySem.W.Frag) : List V → Hp → VK → Prop := fun xs H Q => ∃ p ys, xs = [.ref p] ∧ ((SqL K H p ys ∧ ∀ l, H l = none → Q (.ref l) (upd H l (.tup ys))) ∨ (SqT K H p ys ∧ Q (.ref p) H))
def rLstOf (K : PySem.W.Frag) : List V → Hp → VK → Prop := fun xs H Q => ∃ p ys, xs = [.ref p] ∧ (SqL K H p ys ∨ SqT K H p ys) ∧ ∀ l, H l = none → Q (.ref l) (upd H l (.lst ys))
theorem kIxL (e : X.K = K) : IxR X (rIxL K) := e ▸ ix_list
theorem kIxT (e : X.K = K) : IxR X (rIxT K) := e ▸ ix_tup
theorem kIxS (e : X.K = K) : IxR X (rIx K) := e ▸ ix_seq
theorem kLen (e : X.K = K) : CallR X (.builtin "len") (rLen1 K) := e ▸ call_len
theorem kIsD {N : Addr} (C : NoR K N) (e : X.K = K) : CallR X (.builtin "isinstance") (rIsD K N) := by
  subst e
  exact call_isD C.ex
theorem kIsi (e : X.K = K) : CallR X (.builtin "isinstance") (rIsi K) := e ▸ call_isi
theorem kTupOf (e : X.K = K) : CallR X (.type "tuple") (rTupOf K) := e ▸ call_tuple_of
theorem kLstOf (e : X.K = K) : CallR X (.type "list") (rLstOf K) := e ▸ call_list_of
theorem kAll (hc : X.calm = true) (e : X.K = K) : CallR X (.builtin "all") (rAll K) := e ▸ cr_all hc
theorem kAny (hc : X.calm = true) (e : X.K = K) : CallR X (.builtin "any") (rAny K) := e ▸ cr_any hc
theorem kLtT {k : Nat} (hr : Room k X.A) (e : X.K = K) : OpR X (compareOp .Lt) (rLtT K) := e ▸ op_ltT hr.units0
theorem kLeT {k : Nat} (hr : Room k X.A) (e : X.K = K) : OpR X (compareOp .LtE) (rLeT K) := e ▸ op_leT hr.units0
theorem kEqD {k : Nat} (hr : Room k X.A) (e : X.K = K) : OpR X (compareOp .Eq) (rEqD K) := e ▸ op_eqD hr.units
theorem kNeD {k : Nat} (hr : Room k X.A) (e : X.K = K) : OpR X (compareOp .NotEq) (rNeD K) := e ▸ op_neD hr.units
theorem kInD {k : Nat} (hr : Room k X.A) (e : X.K = K) : OpR X (compareOp .In) (rInD K) := by
  subst e
  exact op_inD (by have := hr.un; omega)
theorem kNotInD {k : Nat} (hr : Room k X.A) (e : X.K = K) : OpR X (compareOp .NotIn) (rNotInD K) := by
  subst e
  exact op_notInD (by have := hr.un; omega)
theorem kCatA (e : X.K = K) : OpR X (binaryOp .Add) (rCatA K) := e ▸ op_catA
theorem kSlA (e : X.K = K) : SlR X (rSlA K) := e ▸ sl_tupA
theorem kSlL (e : X.K = K) : SlR X (rSlL K) := e ▸ sl_list
theorem kpList {tg l : Expr} {tl : TE} (hl : PE X l tl) (e : X.K = K) : PI X tg l (iList K tl) := e ▸ pi_list hl
theorem kpTup {tg l : Expr} {tl : TE} (hl : PE X l tl) (e : X.K = K) : PI X tg l (iTup K tl) := e ▸ pi_tup hl
theorem kpZip {e e2 : Expr} {ta : TA} {p pos tpos : Pos} {elts : List Expr} {kk : Nat} (hg : Gl X "zip") (hm : X.mg "zip" = none) (ha : PA X [e, e2] ta) (ek : X.K = K)
    (hs : starEach [e, e2] X.env = (false, eval e X.env) :: starEach [e2] X.env := by rfl) (hpl : (backTo pos (starEach [e2] X.env)).any (·.1) = false := by rfl) : PI X (.Tuple elts kk tpos) (.Call (.Name "zip" p) [e, e2] [] pos) (iZipA K ta) := ek ▸ pi_zipA hg hm ha hs hpl
theorem kgTup {es : List Expr} {x1 : Nat} {pos : Pos} {t : TGs} {n : Nat} (h : PG X (.Tuple es x1 pos) (gTup X.K n t)) (e : X.K = K) : PG X (.Tuple es x1 pos) (gTup K n t) := e ▸ h
end
/-! ### isinstance of data, with (tuple, list) -/
def rIsDT (K : PySem.W.Frag) (N : Addr) : List V → Hp → VK → Prop := fun xs H Q => ∃ (G : Hp) (v : V) (tp : Addr) (d : PyData), xs = [v, .ref tp] ∧ H tp = some (.tup [.ty "tuple", .ty "list"]) ∧ (∀ b o, G b = some o → H b = some o) ∧ Dr N G v d ∧ Q (.bl (isTup d || isLst d)) H
theorem kIsDT {X : Cx} {K : PySem.W.Frag} {N : Addr} (C : NoR K N) (e : X.K = K) : CallR X (.builtin "isinstance") (rIsDT K N) := by
  subst e
  intro pins s σ H xs us Q I r h
  obtain ⟨G, v, tp, d, rfl, hT, sub, hd, q⟩ := h
  obtain ⟨u1, u2, rfl, r1, r2⟩ := vals2 r
  cases (show u2 = Value.ref tp from r2)
  obtain ⟨P, Z, p, hx⟩ := hd.kit C.ex I r1 sub
  obtain ⟨_, its, rv, o, h1, h2, n, h3⟩ := (show ObjOk X.prog X.w H s.heap tp (.tup [.ty "tuple", .ty "list"]) from I.hok tp _ hT)
  have e3 := ClsV.all (Paired.cons (ClsV.ty "tuple") (Paired.cons (ClsV.ty "list") Paired.nil)) rv
  subst e3
  obtain ⟨oc, od, dt, sl⟩ := o
  simp only at h2 h3
  subst h2 h3
  have ka : PySem.W.kitAny X.K (tyD N d) [.type "tuple", .type "list"] = some (isTup d || isLst d) := by
    cases ht : isTup d with
    | true => exact kitAny_cons (b := true) (by rw [kit_tup C d, ht]) (fun z => by cases z) (fun _ => rfl)
    | false =>
      refine kitAny_cons (b := false) (by rw [kit_tup C d, ht]) (fun _ => ?_) (fun z => by cases z)
      cases hl : isLst d with
      | true => exact kitAny_cons (b := true) (by rw [kit_lst C d, hl]) (fun z => by cases z) (fun _ => rfl)
      | false => exact kitAny_cons (b := false) (by rw [kit_lst C d, hl]) (fun _ => kitAny_nil) (fun z => by cases z)
  exact PySem.W.kia_tup Z I.kIn p h1 ka hx fun tk => ⟨.bl _, H, I.tok tk, rfl, q⟩
theorem go_isDT {K : PySem.W.Frag} {N : Addr} {G H : Hp} {v : V} {tp : Addr} {d : PyData} {Q : VK} (hT : H tp = some (.tup [.ty "tuple", .ty "list"])) (sub : ∀ b o, G b = some o → H b = some o) (h : Dr N G v d) (q : Q (.bl (isTup d || isLst d)) H) : rIsDT K N [v, .ref tp] H Q := ⟨G, v, tp, d, rfl, hT, sub, h, q⟩
/-! ### zip of two tuples, in a comprehension of two names -/
theorem gset2 {K : PySem.W.Frag} {σ : L2.St} {i j : Nat} {x y : V} {T : Addr} {H : Hp} {R : L2.St → Hp → Prop} (hij : i ≠ j) (hT : H T = some (.tup [x, y])) (h : R ((σ.set i (some x)).set j (some y)) H) :
    gTup K 2 (gCons (gName i) (gCons (gName j) gNil)) (.ref T) (wipe σ [i, j]) H fun σ2 H2 => wipe σ2 [i, j] = wipe σ [i, j] ∧ R σ2 H2 := by
  have e : ((((σ.set j none).set i none).set i (some x)).set j (some y)) = (σ.set i (some x)).set j (some y) := by
    rw [List.set_set, List.set_comm _ _ hij, List.set_set, List.set_comm _ _ hij.symm]
  refine ⟨T, [x, y], rfl, .inl (.inl hT), rfl, x, [y], rfl, y, [], rfl, rfl, ?_, ?_⟩
  · show ((((((σ.set j none).set i none).set i (some x)).set j (some y)).set j none).set i none) = (σ.set j none).set i none
    rw [e, List.set_set, List.set_comm _ _ hij, List.set_set, List.set_comm _ _ hij.symm]
  · show R ((((σ.set j none).set i none).set i (some x)).set j (some y)) H
    rw [e]
    exact h
theorem lcl_zipT {K : PySem.W.Frag} {σ : L2.St} {H1 : Hp} {D a b : Addr} {xs ys : List V} {te : TE} {Qd : Hp → Prop} {i1 i2 : Nat} (hij : i1 ≠ i2) (Pv : Nat → List V → Hp → Prop) (h0 : Pv 0 [] (upd H1 D (.lst [])))
    (hl : ∀ i acc H, H D = some (.lst acc) → Pv i acc H → SqT K H a xs ∧ SqT K H b ys)
    (hs : ∀ i x y T acc H, xs[i]? = some x → ys[i]? = some y → H D = some (.lst acc) → Pv i acc H → H T = none → te ((σ.set i1 (some x)).set i2 (some y)) (upd H T (.tup [x, y])) fun y H4 => AccQ D Pv (i + 1) y H4)
    (hd : ∀ acc H, H D = some (.lst acc) → Pv (min xs.length ys.length) acc H → Qd H) : LcL (ItzT K a b) (gTup K 2 (gCons (gName i1) (gCons (gName i2) gNil))) tYes te [i1, i2] σ H1 D Qd := by
  refine ⟨fun i m H => m = min xs.length ys.length - i ∧ i ≤ min xs.length ys.length ∧ Acc D Pv i H, ⟨_, rfl, Nat.zero_le _, [], upd_same, h0⟩, ?_⟩
  rintro i m H ⟨rfl, hi, acc, ha, p⟩
  obtain ⟨qx, qy⟩ := hl i acc H ha p
  by_cases hlt : i < min xs.length ys.length
  · have h1 : i < xs.length := by omega
    have h2 : i < ys.length := by omega
    refine .inr ⟨⟨xs, ys, _, _, qx, qy, List.getElem?_eq_getElem h1, List.getElem?_eq_getElem h2⟩, Acc D Pv (i + 1), fun H' p' => ⟨_, (by omega : min xs.length ys.length - (i + 1) < _), rfl, hlt, p'⟩, fun v H' y => ?_⟩
    obtain ⟨T, x', y', rfl, hT, rfl, f1, f2⟩ := y
    exact gset2 hij upd_same (tyes (σ := (σ.set i1 (some x')).set i2 (some y')) (hs i x' y' T acc H (f1 xs qx) (f2 ys qy) ha p hT))
  · have e : i = min xs.length ys.length := by omega
    subst e
    exact .inl ⟨⟨xs, ys, qx, qy, by omega⟩, hd acc H ha p⟩
/-! ### the program's own looks -/
def intD : PyData → Bool
  | .int _ => true
  | _ => false
def numD (d : PyData) (lo hi : Int) : Bool := match d with
  | .int i => decide (lo ≤ i) && decide (i ≤ hi)
  | _ => false
def rowD (many : Int) (d : PyData) : Bool := match d with
  | .tuple ds => decide ((ds.length : Int) = many) && ds.all fun x => numD x 0 9999
  | _ => false
def ascI : List (List Int) → Bool
  | x :: y :: r => HT.lexLt x y && ascI (y :: r)
  | _ => true
def rowT (ns : List Int) : PyData := .tuple (ns.map PyData.int)
def spIsInt (N : Addr) : Sp := fun vs H Q _ => ∃ (G : Hp) (v : V) (d : PyData), vs = [v] ∧ (∀ b o, G b = some o → H b = some o) ∧ Dr N G v d ∧ Q (.bl (intD d)) H
def spIsNum (N : Addr) : Sp := fun vs H Q _ => ∃ (G : Hp) (v : V) (d : PyData) (lo hi : Int), vs = [v, .int lo, .int hi] ∧ (∀ b o, G b = some o → H b = some o) ∧ Dr N G v d ∧ Q (.bl (numD d lo hi)) H
def spIsRow (N : Addr) : Sp := fun vs H Q _ => ∃ (G : Hp) (v : V) (d : PyData) (many : Int), vs = [.int many, v] ∧ many ≤ 1000 ∧ (∀ b o, G b = some o → H b = some o) ∧ Dr N G v d ∧ ∀ H', Same H H' → Q (.bl (rowD many d)) H'
def spIsAsc (N : Addr) : Sp := fun vs H Q _ => ∃ (G : Hp) (a : Addr) (xs : List V) (rows : List (List Int)), vs = [.ref a] ∧ (∀ b o, G b = some o → H b = some o) ∧ G a = some (.tup xs) ∧ Drs N G xs (rows.map rowT) ∧ rows.length ≤ 1000 ∧ ∀ H', Same H H' → Q (.bl (ascI rows)) H'
theorem go_cons1 {ta : TE} {tr : TA} {σ : L2.St} {H : Hp} {Q : List V → Hp → Prop} (h : ta σ H fun x H1 => tr σ H1 fun xs H2 => Q (x :: xs) H2) : tCons ta tr σ H Q := h
theorem go_chain {r r' : R2} {ta tb tc : TE} {σ : L2.St} {H : Hp} {Q : VK} (h : ta σ H fun x H1 => tb σ H1 fun y H2 => r x y H2 fun z H3 => wB z fun k => if k = true then tc σ H3 fun w' H4 => r' y w' H4 Q else Q (.bl false) H3) : tChain r r' ta tb tc σ H Q := h
theorem go_all {K : PySem.W.Frag} {H : Hp} {Q : VK} {a : Addr} {bs : List Bool} (h : SqL K H a (bs.map V.bl)) (q : Q (.bl (bs.all id)) H) : rAll K [.ref a] H Q := ⟨a, bs, rfl, h, q⟩
theorem Drs.row {N : Addr} {G : Hp} {xs : List V} {ns : List Int} (h : Drs N G xs (ns.map PyData.int)) : xs = ns.map V.int := by
  induction ns generalizing xs with
  | nil => cases h; rfl
  | cons n r ih =>
    cases h with
    | cons h1 h2 =>
      cases h1
      rw [ih h2]
      rfl
theorem go_tupOfL {K : PySem.W.Frag} {H : Hp} {Q : VK} {p : Addr} {ys : List V} (hp : SqL K H p ys) (h : ∀ l, H l = none → Q (.ref l) (upd H l (.tup ys))) : rTupOf K [.ref p] H Q := ⟨p, ys, rfl, .inl ⟨hp, h⟩⟩
theorem go_tupOfT {K : PySem.W.Frag} {H : Hp} {Q : VK} {p : Addr} {ys : List V} (hp : SqT K H p ys) (h : Q (.ref p) H) : rTupOf K [.ref p] H Q := ⟨p, ys, rfl, .inr ⟨hp, h⟩⟩
theorem go_lstOfL {K : PySem.W.Frag} {H : Hp} {Q : VK} {p : Addr} {ys : List V} (hp : SqL K H p ys) (h : ∀ l, H l = none → Q (.ref l) (upd H l (.lst ys))) : rLstOf K [.ref p] H Q := ⟨p, ys, rfl, .inl hp, h⟩
theorem go_lstOfT {K : PySem.W.Frag} {H : Hp} {Q : VK} {p : Addr} {ys : List V} (hp : SqT K H p ys) (h : ∀ l, H l = none → Q (.ref l) (upd H l (.lst ys))) : rLstOf K [.ref p] H Q := ⟨p, ys, rfl, .inr hp, h⟩
def wZip (K : PySem.W.Frag) (vs : List V) (H : Hp) (R : It → Prop) : Prop := ∃ a b xs ys, vs = [.ref a, .ref b] ∧ ((SqL K H a xs ∧ SqL K H b ys ∧ R (Itz K a b)) ∨ (SqT K H a xs ∧ SqT K H b ys ∧ R (ItzT K a b)))
theorem go_zipT {K : PySem.W.Frag} {H : Hp} {R : It → Prop} {a b : Addr} {xs ys : List V} (ha : SqT K H a xs) (hb : SqT K H b ys) (h : R (ItzT K a b)) : wZip K [.ref a, .ref b] H R := ⟨a, b, xs, ys, rfl, .inr ⟨ha, hb, h⟩⟩
theorem go_zipL {K : PySem.W.Frag} {H : Hp} {R : It → Prop} {a b : Addr} {xs ys : List V} (ha : SqL K H a xs) (hb : SqL K H b ys) (h : R (Itz K a b)) : wZip K [.ref a, .ref b] H R := ⟨a, b, xs, ys, rfl, .inl ⟨ha, hb, h⟩⟩
theorem go_izip {K : PySem.W.Frag} {ta : TA} {σ : L2.St} {H : Hp} {R : It → Hp → Prop} (h : ta σ H fun vs H1 => wZip K vs H1 fun J => R J H1) : iZipA K ta σ H R := h
theorem go_slA {K : PySem.W.Frag} {H : Hp} {Q : VK} {a : Addr} {xs : List V} {lo hi : Option Int} (h : H a = some (.tup xs)) (k : ∀ q H', Same H H' → H' q = some (.tup (cutV xs lo hi)) → (H' = H ∨ (H q = none ∧ H' = upd H q (.tup (cutV xs lo hi)))) → Q (.ref q) H') : rSlA K (.ref a) lo hi H Q := by
  refine ⟨a, xs, rfl, .inl (.inl h), fun e => ?_, fun _ p hp => k p _ (same_new hp) upd_same (.inr ⟨hp, rfl⟩)⟩
  refine k a H (Same.refl H) ?_ (.inl rfl)
  rw [h]
  unfold cutV
  rw [e.1, e.2, List.drop_zero, Nat.sub_zero, List.take_length]
theorem cut_from (xs : List V) (n : Nat) : cutV xs (some (n : Int)) none = xs.drop n := by
  unfold cutV
  rw [HT.sIx_nat, HT.sIx_none]
  by_cases h : n ≤ xs.length
  · rw [Nat.min_eq_left h, show xs.length - n = (xs.drop n).length from (List.length_drop ..).symm, List.take_length]
  · have e : xs.length ≤ n := by omega
    rw [Nat.min_eq_right e, List.drop_of_length_le (Nat.le_refl _), List.drop_of_length_le e]
    simp
theorem cut_to (xs : List V) (n : Nat) : cutV xs none (some (n : Int)) = xs.take n := by
  unfold cutV
  rw [HT.sIx_nat, HT.sIx_none, Nat.sub_zero, List.drop_zero]
  by_cases h : n ≤ xs.length
  · rw [Nat.min_eq_left h]
  · have e : xs.length ≤ n := by omega
    rw [Nat.min_eq_right e, List.take_of_length_le (Nat.le_refl _), List.take_of_length_le e]
theorem take_snoc {α : Type} {l : List α} {i : Nat} {x : α} (h : l[i]? = some x) : l.take (i + 1) = l.take i ++ [x] := by
  rw [List.take_add_one, h]
  rfl
theorem ascI_all : ∀ rows : List (List Int), (List.zipWith HT.lexLt rows (rows.drop 1)).all id = ascI rows
  | [] => rfl
  | [_] => rfl
  | x :: y :: r => by
    have ih := ascI_all (y :: r)
    show (HT.lexLt x y && (List.zipWith HT.lexLt (y :: r) ((y :: r).drop 1)).all id) = (HT.lexLt x y && ascI (y :: r))
    rw [ih]
theorem row_of {N : Addr} {G : Hp} {v : V} {ns : List Int} (h : Dr N G v (rowT ns)) : ∃ t, v = .ref t ∧ G t = some (.tup (ns.map V.int)) := by
  unfold rowT at h
  cases h with
  | @tup a xs _ h r =>
    refine ⟨a, rfl, ?_⟩
    rw [Drs.row r] at h
    exact h
def intOf : PyData → Int
  | .int i => i
  | _ => 0
def intsOf : PyData → List Int
  | .tuple ds => ds.map intOf
  | _ => []
theorem rowD_eq {many : Int} {d : PyData} (h : rowD many d = true) : d = rowT (intsOf d) ∧ ((intsOf d).length : Int) = many ∧ ∀ z ∈ intsOf d, 0 ≤ z ∧ z ≤ 9999 := by
  cases d with
  | tuple ds =>
    have h' : (decide ((ds.length : Int) = many) && ds.all fun x => numD x 0 9999) = true := h
    rw [Bool.and_eq_true, decide_eq_true_eq, List.all_eq_true] at h'
    have key : ∀ x ∈ ds, x = PyData.int (intOf x) ∧ 0 ≤ intOf x ∧ intOf x ≤ 9999 := fun x hx => by
      have q := h'.2 x hx
      cases x with
      | int i =>
        have q' : (decide (0 ≤ i) && decide (i ≤ 9999)) = true := q
        rw [Bool.and_eq_true, decide_eq_true_eq, decide_eq_true_eq] at q'
        exact ⟨rfl, q'⟩
      | _ => cases q
    refine ⟨?_, by show ((ds.map intOf).length : Int) = many; rw [List.length_map]; exact h'.1, fun z hz => ?_⟩
    · show PyData.tuple ds = .tuple ((ds.map intOf).map PyData.int)
      congr 1
      rw [List.map_map]
      refine Eq.trans (List.map_id ds).symm (List.map_congr_left fun x hx => (key x hx).1)
    · obtain ⟨x, hx, rfl⟩ := List.mem_map.mp (show z ∈ ds.map intOf from hz)
      exact (key x hx).2
  | _ => cases h
def lotD (many : Int) (d : PyData) : Bool := match d with
  | .tuple rs => decide (1 ≤ rs.length) && decide (rs.length ≤ 60) && (rs.all (rowD many) && ascI (rs.map intsOf))
  | _ => false
def pairD (many : Int) (d : PyData) : Bool := match d with
  | .tuple [i, l] => rowD many i && lotD many l
  | _ => false
def spIsPair (N : Addr) : Sp := fun vs H Q _ => ∃ (G : Hp) (v : V) (d : PyData) (many : Int), vs = [.int many, v] ∧ many ≤ 1000 ∧ (∀ b o, G b = some o → H b = some o) ∧ Dr N G v d ∧ ∀ H', Same H H' → Q (.bl (pairD many d)) H'
theorem rows_of {many : Int} {rs : List PyData} (h : rs.all (rowD many) = true) : rs = (rs.map intsOf).map rowT := by
  rw [List.map_map]
  rw [List.all_eq_true] at h
  exact Eq.trans (List.map_id rs).symm (List.map_congr_left fun x hx => (rowD_eq (h x hx)).1)
/-- n ≤ m of rows is not m < n -/
theorem lexAt_shift (x y : Int) (ns ms : List Int) (z : Bool) : ∀ (k i : Nat), Ob.lexAt (fun j => decide ((x :: ns).getD j 0 = (y :: ms).getD j 0)) (fun j => decide ((x :: ns).getD j 0 ≤ (y :: ms).getD j 0)) z (i + 1) k = Ob.lexAt (fun j => decide (ns.getD j 0 = ms.getD j 0)) (fun j => decide (ns.getD j 0 ≤ ms.getD j 0)) z i k
  | 0, i => rfl
  | k + 1, i => by
    rw [Ob.lexAt_succ, Ob.lexAt_succ, lexAt_shift x y ns ms z k (i + 1)]
    rfl
theorem lexLe : ∀ ns ms : List Int, ns.length = ms.length → Ob.lexAt (fun j => decide (ns.getD j 0 = ms.getD j 0)) (fun j => decide (ns.getD j 0 ≤ ms.getD j 0)) (decide (ns.length ≤ ms.length)) 0 (min ns.length ms.length) = !HT.lexLt ms ns
  | [], [], _ => rfl
  | x :: ns, y :: ms, h => by
    have h' : ns.length = ms.length := by simpa using h
    have ih := lexLe ns ms h'
    rw [show min (x :: ns).length (y :: ms).length = min ns.length ms.length + 1 by simp [h'], Ob.lexAt_succ, lexAt_shift]
    rw [show decide ((x :: ns).length ≤ (y :: ms).length) = decide (ns.length ≤ ms.length) by simp, ih]
    show (if decide (x = y) = true then _ else decide (x ≤ y)) = !(if y = x then HT.lexLt ms ns else decide (y < x))
    by_cases c : x = y
    · rw [decide_eq_true c, if_pos rfl, if_pos c.symm]
    · rw [decide_eq_false c, if_neg Bool.false_ne_true, if_neg (fun e => c e.symm)]
      by_cases d : x ≤ y
      · rw [decide_eq_true d, decide_eq_false (show ¬ y < x by omega)]; rfl
      · rw [decide_eq_false d, decide_eq_true (show y < x by omega)]; rfl
theorem go_neB {b c : Bool} {H : Hp} {Q : VK} (h : Q (.bl (b != c)) H) : rNe (.bl b) (.bl c) H Q := ⟨rfl, by
  have e : (!decide (V.bl b = V.bl c)) = (b != c) := by cases b <;> cases c <;> decide
  rw [e]; exact h⟩
theorem go_eqB {b c : Bool} {H : Hp} {Q : VK} (h : Q (.bl (b == c)) H) : rEq (.bl b) (.bl c) H Q := ⟨rfl, by
  have e : decide (V.bl b = V.bl c) = (b == c) := by cases b <;> cases c <;> decide
  rw [e]; exact h⟩
/-- lists and tuples of ints, at most n deep -/
inductive Nest : Nat → PyData → Prop
  | int {n : Nat} (i : Int) : Nest n (.int i)
  | tup {n : Nat} {ds : List PyData} : ds.length ≤ 1000 → (∀ d, d ∈ ds → Nest n d) → Nest (n + 1) (.tuple ds)
  | lst {n : Nat} {ds : List PyData} : ds.length ≤ 1000 → (∀ d, d ∈ ds → Nest n d) → Nest (n + 1) (.list ds)
/-- _law_is of two things alike -/
def spIs (N : Addr) (n : Nat) : Sp := fun vs H Q _ => ∃ (G : Hp) (v u : V) (d : PyData), vs = [v, u] ∧ (∀ b o, G b = some o → H b = some o) ∧ Dr N G v d ∧ Dr N G u d ∧ Nest n d ∧ ∀ H', Same H H' → Q (.bl true) H'
/-- _law_row -/
def spRow : Sp := fun vs H Q _ => ∃ (p : Addr) (G : Hp) (many most : Int), vs = [.ref p, .int many, .int most] ∧ W p G H ∧ 0 ≤ many ∧ many ≤ 1000 ∧ 0 < most ∧ most < 1000000 ∧
  ∀ (t : Addr) (G' H' : Hp) (ns : List Int), Stp p G H G' H' → G' t = some (.tup (ns.map V.int)) → (ns.length : Int) = many → (∀ z ∈ ns, 0 ≤ z ∧ z < most) → Q (.ref t) H'
/-- _law_odd: one of these -/
def oddDs : List PyData := [.none, .bool true, .bool false, .int 3, .str "3", .list [], .tuple [], .dict [], .tuple [.tuple []], .dict [(.none, .none)], .int (10 ^ 30), .list [.list [.int 1, .int 2]]]
def spOdd (N : Addr) : Sp := fun vs H Q _ => ∃ (p : Addr) (G : Hp), vs = [.ref p] ∧ W p G H ∧ ∀ (v : V) (d : PyData) (G' H' : Hp), Stp p G H G' H' → Dr N G' v d → d ∈ oddDs → Q v H'
/-! ### operations in a state -/
section
variable {K : PySem.W.Frag} {p : Addr} {G0 H0 G H : Hp} {Q : VK} {a b : Addr} {xs ys : List V}
theorem catT_lay (s : Stp p G0 H0 G H) (ha : G a = some (.tup xs)) (hb : G b = some (.tup ys)) (hl : xs.length + ys.length ≤ 100000) (k : ∀ q G' H', Stp p G0 H0 G' H' → Same G G' → Grow G H G' H' → G' q = some (.tup (xs ++ ys)) → Q (.ref q) H') : rCatA K (.ref a) (.ref b) H Q := by
  refine ⟨a, b, xs, ys, rfl, rfl, .inl (.inl (s.w.sub _ _ ha)), .inl (.inl (s.w.sub _ _ hb)), Nat.le_trans hl (by decide), fun e => ?_, fun _ e => ?_, fun _ _ => new_lay s k⟩
  · subst e
    exact k b G H s (Same.refl G) (Grow.refl G H) hb
  · subst e
    exact k a G H s (Same.refl G) (Grow.refl G H) (by rw [List.append_nil]; exact ha)
theorem slA_lay {lo hi : Option Int} (s : Stp p G0 H0 G H) (ha : G a = some (.tup xs)) (k : ∀ q G' H', Stp p G0 H0 G' H' → Same G G' → Grow G H G' H' → G' q = some (.tup (cutV xs lo hi)) → Q (.ref q) H') : rSlA K (.ref a) lo hi H Q := by
  refine ⟨a, xs, rfl, .inl (.inl (s.w.sub _ _ ha)), fun e => ?_, fun _ => new_lay s k⟩
  refine k a G H s (Same.refl G) (Grow.refl G H) ?_
  rw [ha]
  unfold cutV
  rw [e.1, e.2, List.drop_zero, Nat.sub_zero, List.take_length]
theorem cat_lay (s : Stp p G0 H0 G H) (ha : H a = some (.lst xs)) (hb : H b = some (.lst ys)) (hl : xs.length + ys.length ≤ 100000) (k : ∀ q G' H', Stp p G0 H0 G' H' → Same G G' → Grow G H G' H' → G' q = some (.lst (xs ++ ys)) → Q (.ref q) H') : rCat (.ref a) (.ref b) H Q :=
  ⟨a, b, xs, ys, rfl, rfl, ha, hb, Nat.le_trans hl (by decide), new_lay s k⟩
theorem lstOf_lay (s : Stp p G0 H0 G H) (ha : SqL K H a xs ∨ SqT K H a xs) (k : ∀ q G' H', Stp p G0 H0 G' H' → Same G G' → Grow G H G' H' → G' q = some (.lst xs) → Q (.ref q) H') : rLstOf K [.ref a] H Q := ⟨a, xs, rfl, ha, new_lay s k⟩
theorem tupOf_lay (s : Stp p G0 H0 G H) (ha : SqL K H a xs) (k : ∀ q G' H', Stp p G0 H0 G' H' → Same G G' → Grow G H G' H' → G' q = some (.tup xs) → Q (.ref q) H') : rTupOf K [.ref a] H Q := ⟨a, xs, rfl, .inl ⟨ha, new_lay s k⟩⟩
theorem Stp.tl (s : Stp p G0 H0 G H) (ha : G a = some (.lst xs)) : a ≠ p := fun z => by
  rw [z, s.w.gp] at ha
  cases ha
end
theorem odd_row {m : Int} (h : 3 ≤ m) {d : PyData} (hd : d ∈ oddDs) : rowD m d = false := by
  unfold oddDs at hd
  simp only [List.mem_cons, List.not_mem_nil, or_false] at hd
  rcases hd with rfl | rfl | rfl | rfl | rfl | rfl | rfl | rfl | rfl | rfl | rfl | rfl <;> try rfl
  · show (decide (((0 : Nat) : Int) = m) && _) = false
    rw [decide_eq_false (by omega)]; rfl
  · show (decide (((1 : Nat) : Int) = m) && _) = false
    rw [decide_eq_false (by omega)]; rfl
/-- _law_no_row -/
def spNoRow (N : Addr) : Sp := fun vs H Q _ => ∃ (p t : Addr) (G : Hp) (ns : List Int), vs = [.ref p, .ref t] ∧ W p G H ∧ G t = some (.tup (ns.map V.int)) ∧ 3 ≤ ns.length ∧ ns.length ≤ 5 ∧ ∀ (v : V) (d : PyData) (G' H' : Hp), Stp p G H G' H' → Dr N G' v d → rowD ns.length d = false → Q v H'
theorem rowD_len {m : Int} {ds : List PyData} (h : (ds.length : Int) ≠ m) : rowD m (.tuple ds) = false := by
  show (decide ((ds.length : Int) = m) && _) = false
  rw [decide_eq_false h]; rfl
theorem rowD_head {m : Int} {d : PyData} {ds : List PyData} (h : numD d 0 9999 = false) : rowD m (.tuple (d :: ds)) = false := by
  show (decide (((d :: ds).length : Int) = m) && ((d :: ds).all fun x => numD x 0 9999)) = false
  rw [List.all_cons, h]; simp
end Kb

set_option Elab.async false
set_option linter.all false
set_option maxRecDepth 100000
set_option maxHeartbeats 4000000
namespace PySem
open Sem (wp)
open AutoSeq1 (wpAny_loadPart')
/-! enumerate of a tuple: how it is made -/
theorem kbEnumNew (tp : Addr) (its : Array Value) (nn : Nat) (dc : Option Addr) (slx : Array (Option Value)) :
    Meets (Builtin.«enumerate.__new__» ⟨[.type "enumerate", .ref tp], []⟩) (fun _ R s => s.heap.get? tp = some { cls := .type "tuple", dict := dc, data := .seq its nn, slots := slx } ∧
      R (.ok (.ret (.ref (s.heap.push { cls := .type "tuple_iterator", data := .fields #[.ref tp, .int 0 0] }).objs.size)))
        { s with heap := (s.heap.push { cls := .type "tuple_iterator", data := .fields #[.ref tp, .int 0 0] }).push { cls := .type "enumerate", data := .fields #[.none, .bool false, .ref s.heap.objs.size, rawInt 0, .none, .none] } }) :=
  .of_wp fun prog w A R s hyp => by
    obtain ⟨hp0, g0, d0, tk0, os0⟩ := s; obtain ⟨hget, hend⟩ := hyp
    have hsub0 := sub_enumerate
    have hTup : Heap.IsTuple (Shared.heap ⟨hp0, g0, d0, tk0, os0⟩) tp its := ⟨_, hget, rfl, nn, rfl⟩
    wp_walk using wpAny_loadPart' hget
    refine wpAny_stack_any fun stk => wpAny_pure ?_
    split
    · rename_i cc _ _ _ _ _
      cases (cc == Value.type "enumerate")
      · wp_walk using wpAny_loadPart' hget, wpAny_pyIter_tuple hTup
        exact ⟨_, rfl, hend⟩
      · wp_walk using wpAny_loadPart' hget, wpAny_pyIter_tuple hTup
        exact ⟨_, rfl, hend⟩
    · wp_walk using wpAny_loadPart' hget, wpAny_pyIter_tuple hTup
      exact ⟨_, rfl, hend⟩
end PySem
namespace PySem
section
variable {prog : Program} {w : World} {A : Around} {E : Value → Shared → Prop} {s : Shared}
theorem kbEnumCall {tp : Addr} {its : Array Value} {Q : Value → Shared → Prop} (hT : s.heap.IsTuple tp its)
    (fin : ∀ h1, IsEnum h1 (s.heap.objs.size + 1) s.heap.objs.size 0 .none → h1.IsTupleIter s.heap.objs.size tp 0 → h1.objs.size = s.heap.objs.size + 2 → (∀ q u, s.heap.get? q = some u → h1.get? q = some u) → Q (.ref (s.heap.objs.size + 1)) { s with heap := h1 }) :
    wpAny (model prog w) A (call (.type "enumerate") [.ref tp]) Q E s := by
  obtain ⟨⟨cc, dc, dd, slx⟩, hget, hcc, nn, hdd⟩ := hT
  obtain rfl : cc = .type "tuple" := hcc
  obtain rfl : dd = .seq its nn := hdd
  refine callType_new F.called_enumerate (by decide) (F.typeCall_enumerate_1 _) (F.newCall_enumerate_1 _) (fun ob => F.args_object_init_2 ob _) F.entry_enumerate_new (kbEnumNew tp its nn dc slx) ⟨hget, ?_⟩
  have size1 : (s.heap.push { cls := .type "tuple_iterator", data := .fields #[.ref tp, .int 0 0] }).objs.size = s.heap.objs.size + 1 := Heap.size_push ..
  show _ ∧ _
  rw [size1]
  have isE : IsEnum ((s.heap.push { cls := .type "tuple_iterator", data := .fields #[.ref tp, .int 0 0] }).push { cls := .type "enumerate", data := .fields #[.none, .bool false, .ref s.heap.objs.size, rawInt 0, .none, .none] }) (s.heap.objs.size + 1) s.heap.objs.size 0 .none := by
    have z := Heap.get?_push_size (s.heap.push { cls := .type "tuple_iterator", data := .fields #[.ref tp, .int 0 0] }) (o := { cls := .type "enumerate", data := .fields #[.none, .bool false, .ref s.heap.objs.size, rawInt 0, .none, .none] }) rfl
    rw [size1] at z
    exact z
  exact ⟨⟨_, isE, rfl⟩, fin _ isE ⟨_, Heap.get?_push_of_some _ (Heap.get?_push_size _ rfl), rfl, rfl⟩ (by rw [Heap.size_push, size1]) fun q u x => Heap.get?_push_of_some _ (Heap.get?_push_of_some _ x)⟩
theorem kbEnumEnd {e it tp : Addr} {i : Nat} {its : Array Value} {old : Value} {Q : Option Value → Shared → Prop} (hh : A.handled = none) (isE : IsEnum s.heap e it i old) (isI : s.heap.IsTupleIter it tp i) (isT : s.heap.IsTuple tp its) (over : its[i]? = none)
    (fin : ∀ h1, Heap.ExtBut it s.heap h1 → Q none { s with heap := h1 }) : wpAny (model prog w) A (pyNext (.ref e)) Q E s := by
  have ty : s.TypeIs (.ref e) "enumerate" := ⟨_, isE, rfl⟩
  unfold pyNext
  refine wpAny_bind (wpAny_attempt (wpAny_callSpecial?_slot (name := Str.ofString "__next__") ty F.slot_enumerate_next (wpAny_call_entry F.slot_enumerate_next ty F.entry_enumerate_next ?_ (F.args_enumerate_next_1 _))))
  show wpAny _ _ (field (.ref e) 2 >>= _) _ _ _
  refine wpAny_bind (wpAny_field isE rfl (x := .ref it) rfl ?_)
  refine wpAny_bind (wpAny_nextOf_tuple_end (A := A.in1) hh isI isT over fun h1 x eb ⟨o, ho, hc⟩ => ?_)
  refine wpAny_bind (wpAny_isInstance (T := "StopIteration") (b := true) ⟨o, ho, hc⟩ isSubtype_stop ?_)
  exact wpAny_pure (fin _ eb)
end
end PySem
namespace Kb
open PySem PySem.Spec PyProof.Rows L2 RZ
/-- the tuple at a, each item in a new pair with its number -/
def ItEn (K : PySem.W.Frag) (a : Addr) : It :=
  ⟨fun i H => ∃ (xs : List V) (x : V), SqT K H a xs ∧ xs[i]? = some x, fun i H v H' => ∃ T x, v = .ref T ∧ H T = none ∧ H' = upd H T (.tup [.int (i : Nat), x]) ∧ ∀ xs, SqT K H a xs → xs[i]? = some x, fun i H => ∃ xs : List V, SqT K H a xs ∧ xs.length ≤ i⟩
theorem turnEn {P : Program} {w : World} {K : PySem.W.Frag} {elts : List Expr} {kk : Nat} {tpos : Pos} (a e it : Addr) :
    Turn P w K (.Tuple elts kk tpos) (ItEn K a) [e, it] e (fun i h => (∃ old, IsEnum h e it ((i : Nat) : Int) old) ∧ h.IsTupleIter it a i ∧ e ≠ it ∧ e ≠ a ∧ it ≠ a) where
  mem := by simp
  obj := fun i h st b hb => by
    obtain ⟨⟨old, he⟩, ⟨o, ho, hc, hd⟩, _⟩ := st
    have cases2 : b = e ∨ b = it := by simpa using hb
    rcases cases2 with rfl | rfl
    · exact ⟨_, he, fun v q => nomatch q⟩
    · exact ⟨o, ho, fun v q => by rw [hd] at q; cases q⟩
  keep := fun i h h' st k => by
    obtain ⟨⟨old, he⟩, hi, hne⟩ := st
    exact ⟨⟨old, k e (by simp) _ he⟩, hi.at fun o q => k it (by simp) o q, hne⟩
  item := by
    intro X hP hw hK hc i pins s σ H E I hf st hg
    subst hP hw hK
    obtain ⟨⟨old, he⟩, hit, hne, hea, hia⟩ := st
    obtain ⟨xs, x, hq, hx⟩ := hg
    obtain ⟨its, rv, p, hz⟩ := I.tuple hq
    obtain ⟨u, hu, ru⟩ := rv.get hx
    have hlt : i < its.toArray.size := by
      have h1 := (List.getElem?_eq_some_iff.mp hu).1
      simpa using h1
    have hel : e < s.heap.objs.size := Heap.lt_size he
    have hil : it < s.heap.objs.size := by obtain ⟨_, q, _⟩ := hit; exact Heap.lt_size q
    refine wpAny_pyNext_enum_itemD (Draws.tuple (A := X.A.in1) (show X.A.in1.handled = none from I.ok.hd hc) it a hia.symm its.toArray) he ⟨hit, p⟩ hlt hne (by simp [hne, hea]) fun v h1 tk hv ho hit1 hT hsz hk => ?_
    have ev : v = u := by
      have z : its.toArray[i]? = some v := hv
      rw [List.getElem?_toArray, hu] at z
      exact (Option.some.inj z).symm
    subst ev
    refine ⟨_, rfl, wpAny_letOwnedTupleGo_enum (s := { s with heap := h1, toks := tk + 1 }) ho fun h2 he2 sb => ?_⟩
    have hT2 : h2.get? s.heap.objs.size = some { cls := .type "tuple", data := .seq #[.int i tk, v] } := (sb.2 _ (Nat.ne_of_gt hel)).trans hT
    have new : ObjOk X.prog X.w (upd H s.heap.objs.size (.tup [.int (i : Nat), x])) h2 s.heap.objs.size (.tup [.int (i : Nat), x]) :=
      ⟨by show 2 ≤ sizeLine; decide, [.int i tk, v], .cons ⟨_, rfl⟩ (.cons ru .nil), ⟨_, hT2, rfl, _, rfl⟩⟩
    have J : Inv X pins σ (upd H s.heap.objs.size (.tup [.int (i : Nat), x])) { s with heap := h2, toks := tk + 1 } :=
      I.turnedNew (ch := [e, it]) (fun b ob hb q => (sb.2 b (fun z => hb (by simp [z]))).trans (hk b ob (fun z => hb (by simp [z])) (fun z => hb (by simp [z])) q)) hf (Nat.le_refl _) new
    refine ⟨.ref s.heap.objs.size, _, J, rfl, ⟨_, x, rfl, I.hok.fresh (Nat.le_refl _), rfl, fun ys hy => by rw [I.tuple_inj hy hq]; exact hx⟩, ⟨⟨v, ?_⟩, hit1.1.at fun o q => (sb.2 it (Ne.symm hne)).trans q, hne, hea, hia⟩, fun b hb => ?_⟩
    · have step : ((i + 1 : Nat) : Int) = (i : Int) + 1 := by omega
      rw [step]; exact he2
    · have small : b < s.heap.objs.size := by
        have cases2 : b = e ∨ b = it := by simpa using hb
        rcases cases2 with rfl | rfl
        · exact hel
        · exact hil
      rw [upd_ne (Nat.ne_of_lt small)]
      exact (hf b hb).1
  done := by
    intro X hP hw hK hc i pins s σ H E I hf st hg
    subst hP hw hK
    obtain ⟨⟨old, he⟩, hit, hne, hea, hia⟩ := st
    obtain ⟨xs, hq, hx⟩ := hg
    obtain ⟨its, rv, p, hz⟩ := I.tuple hq
    obtain ⟨f0, f1, f2, f3, f4, f5⟩ := hf it (by simp)
    have hl := rv.length
    have hT : s.TypeIs (.ref e) "enumerate" := ⟨_, he, rfl⟩
    refine kbEnumEnd (I.ok.hd hc) he hit p (by simp; omega) fun h1 eb => ⟨rfl, I.turned (t' := s.toks) (fun b o hb q => eb b o hb q) f0 f1 f3 f4 f5⟩
  self := fun A i s Q E st h => let ⟨⟨_, he⟩, _⟩ := st; wpAny_pyIter_enum he h
def iEn (K : PySem.W.Frag) (ta : TA) : TI := fun σ H R => ta σ H fun vs H1 => ∃ a xs, vs = [.ref a] ∧ SqT K H1 a xs ∧ R (ItEn K a) H1
theorem pi_en {X : Cx} {e : Expr} {ta : TA} {p pos tpos : Pos} {elts : List Expr} {kk : Nat} (hg : Gl X "enumerate") (hm : X.mg "enumerate" = none) (ha : PA X [e] ta) (hs : starEach [e] X.env = [(false, eval e X.env)] := by rfl) :
    PI X (.Tuple elts kk tpos) (.Call (.Name "enumerate" p) [e] [] pos) (iEn X.K ta) := by
  refine ⟨fun pins s σ H R I h => ?_⟩
  refine Call_ (ld_blt I hg hm boot_enumerate (PyProof.Rows.callWith_type1 (thn (ha.run pos pins s σ H _ I h) fun us s1 ⟨vs, H1, I1, r1, q1⟩ => ?_) hs rfl))
  obtain ⟨a, xs, ex, hq, q⟩ := q1
  subst ex
  cases r1 with
  | cons r rr =>
    cases rr
    cases r
    obtain ⟨its, rv, pt, hz⟩ := I1.tuple hq
    have hal : a < s1.heap.objs.size := by obtain ⟨_, z, _⟩ := pt; exact Heap.lt_size z
    refine kbEnumCall pt fun h1 he hit hsz hk => wpAny_pyIter_enum he ?_
    have J : Inv X pins σ H1 { s1 with heap := h1 } := I1.kept (t' := s1.toks) hk
    refine ⟨s1.heap.objs.size + 1, [s1.heap.objs.size + 1, s1.heap.objs.size], _, _, H1, rfl, J, turnEn a (s1.heap.objs.size + 1) s1.heap.objs.size, ⟨⟨.none, he⟩, hit, Nat.succ_ne_self _, Nat.ne_of_gt (Nat.lt_succ_of_lt hal), Nat.ne_of_gt hal⟩, fun b hb => ?_, q⟩
    have cases2 : b = s1.heap.objs.size + 1 ∨ b = s1.heap.objs.size := by simpa using hb
    have big : s1.heap.objs.size ≤ b := by
      rcases cases2 with rfl | rfl
      · exact Nat.le_add_right _ _
      · exact Nat.le_refl _
    exact I1.fpOk big (I1.hok.fresh big)
theorem kpEn {X : Cx} {K : PySem.W.Frag} {e : Expr} {ta : TA} {p pos tpos : Pos} {elts : List Expr} {kk : Nat} (hg : Gl X "enumerate") (hm : X.mg "enumerate" = none) (ha : PA X [e] ta) (ek : X.K = K) (hs : starEach [e] X.env = [(false, eval e X.env)] := by rfl) :
    PI X (.Tuple elts kk tpos) (.Call (.Name "enumerate" p) [e] [] pos) (iEn K ta) := ek ▸ pi_en hg hm ha hs
def wEn (K : PySem.W.Frag) (vs : List V) (H : Hp) (R : It → Prop) : Prop := ∃ a xs, vs = [.ref a] ∧ SqT K H a xs ∧ R (ItEn K a)
theorem go_iEn {K : PySem.W.Frag} {ta : TA} {σ : L2.St} {H : Hp} {R : It → Hp → Prop} (h : ta σ H fun vs H1 => wEn K vs H1 fun J => R J H1) : iEn K ta σ H R := h
theorem go_wEn {K : PySem.W.Frag} {H : Hp} {R : It → Prop} {a : Addr} {xs : List V} (ha : SqT K H a xs) (h : R (ItEn K a)) : wEn K [.ref a] H R := ⟨a, xs, rfl, ha, h⟩
/-- a for over it -/
theorem for_en {K : PySem.W.Frag} {a : Addr} {xs : List V} {g : TG} {tb : TS} {D : Ends} {σ : L2.St} {H : Hp} (Pv : Nat → L2.St → Hp → Prop) (h0 : Pv 0 σ H) (hl : ∀ i σ H, i ≤ xs.length → Pv i σ H → SqT K H a xs)
    (hs : ∀ i x T σ H, xs[i]? = some x → Pv i σ H → H T = none → g (.ref T) σ (upd H T (.tup [.int (i : Nat), x])) fun σ2 H2 => tb { D with nx := Pv (i + 1), ct := Pv (i + 1), bk := D.nx } σ2 H2) (hd : ∀ σ H, Pv xs.length σ H → D.nx σ H) :
    ForL (ItEn K a) g tb D σ H := by
  refine ⟨fun i m σ H => m = xs.length - i ∧ i ≤ xs.length ∧ Pv i σ H, ⟨xs.length, by simp, Nat.zero_le _, h0⟩, ?_⟩
  rintro i m σ H ⟨rfl, hi, p⟩
  have q := hl i σ H hi p
  by_cases hlt : i < xs.length
  · refine .inr ⟨⟨xs, xs[i], q, by simp [hlt]⟩, Pv (i + 1), fun σ' H' p' => ⟨xs.length - (i + 1), by omega, rfl, hlt, p'⟩, fun v H' y => ?_⟩
    obtain ⟨T, x, rfl, hT, rfl, f⟩ := y
    exact hs i x T σ H (f xs q) p hT
  · have e : i = xs.length := by omega
    subst e
    exact .inl ⟨⟨xs, q, Nat.le_refl _⟩, hd σ H p⟩
end Kb

set_option Elab.async false
set_option linter.all false
set_option maxRecDepth 100000
set_option maxHeartbeats 4000000
namespace PySem.W
open PySem Builtin
section
variable {prog : Program} {w : World} {A : Around} {E : Value → Shared → Prop} {s : Shared} {K : Frag} {x C f L : Addr} {h₀ : Heap} {m : Str → Option Value} {ox : Obj} {od : Option Obj}
/-- a special method that is a built-in's, if it is bound -/
theorem kbIfBound {M : Model} {name : Str} {id : String} {args : List Value} {Q : Option Value → Shared → Prop} (X : K.In s.heap) (I : InstAt s.heap x ox C od) (hs : findIn K (.ref C) name = some (some (.builtin id)))
    (hb : ∀ self, bindSpecial (.builtin id) self = pure (.builtin id, [self])) (h : wpAny M A (call (.builtin id) (.ref x :: args)) (fun v => Q (some v)) E s) : wpAny M A (callSpecialIfBound? (.ref x) name args) Q E s := by
  simp only [callSpecialIfBound?, bindSpecialIfBound?]
  refine wpAny_holding (wpAny_bind (wpAny_bind (wpAny_bind (I.type.here ((looks_findIn X hs).here ?_)))))
  refine wpAny_bind (wpAny_askSetting (wpAny_ite ?_))
  have fin : wpAny M A (call (.builtin id) ([.ref x] ++ args) >>= fun v => pure (some v)) Q E s := wpAny_bind (wpAny_mono h (fun v s' z => wpAny_pure z) fun _ _ z => z)
  split
  · exact wpAny_bind ((Looks.of_pure (hb _)).here (wpAny_pure (by exact fin)))
  · exact wpAny_tryCatch (wpAny_bind ((Looks.of_pure (hb _)).here (wpAny_pure (by exact fin))))
/-- object's != by an own == that hands back a flag -/
theorem kbObjNe {b : Value} {Q : Value → Shared → Prop} (hu : A.in1.units < cLine) (X : K.In s.heap) (I : InstAt s.heap x ox C od) (hm : mroIn K C (.type "object") = some true) (he : findIn K (.ref C) "__eq__" = some (some (.ref f))) (hf : isFn K (.ref f) = true)
    (h : wpAny (model prog w) A.in1 (call (.ref f) [.ref x, b]) (fun v s' => ∃ k, v = .bool k ∧ Q (.bool (!k)) s') E s) : wpAny (model prog w) A (call (.builtin "object.__ne__") [.ref x, b]) Q E s := by
  refine wpAny_call (codeAny_call_builtin PySem.F.slot_enumerate_ne.plain PySem.F.cmpEntry_ne (check_slot (i := "object.__ne__") (owner := "object") (n := "__ne__") PySem.F.cmpKind_ne PySem.F.cmpSplit_ne (I.type.andThen (looks_mroIn X hm)) (PySem.F.cmpArgs_ne _ _) ?_))
  unfold Builtin.«object.__ne__»
  refine wpAny_bind (m := slotArgs "__ne__" 1 _) (wpAny_pure ?_)
  refine wpAny_bind (m := cRoomFor _ _) (wpAny_cRoomFor hu ?_)
  refine wpAny_bind (m := callSpecialIfBound? (.ref x) (Str.ofString "__eq__") _) (ifBound_K X I he hf (wpAny_mono h (fun r s' hq => ?_) fun _ _ y => y))
  obtain ⟨k, rfl, q⟩ := hq
  exact wpAny_bind (m := truthy (.bool _)) (wpAny_truthy_bool (wpAny_pure q))
theorem kbNe {b tb : Value} {Q : Value → Shared → Prop} (hu : A.in1.units < cLine) (X : K.In s.heap) (I : InstAt s.heap x ox C od) (hb : Looks (model prog w) s.heap (typeOf b) tb) (hn : notFirst K C tb = true)
    (hs : findIn K (.ref C) "__ne__" = some (some (.builtin "object.__ne__"))) (hm : mroIn K C (.type "object") = some true) (he : findIn K (.ref C) "__eq__" = some (some (.ref f))) (hf : isFn K (.ref f) = true)
    (h : wpAny (model prog w) A.in1 (call (.ref f) [.ref x, b]) (fun v s' => ∃ k, v = .bool k ∧ Q (.bool (!k)) s') E s) : wpAny (model prog w) A (richCompare .NotEq (.ref x) b) Q E s := by

  have hu0 : A.units < cLine := Nat.lt_of_succ_lt hu
  have one : wpAny (model prog w) A (tryCompare (.ref x) "__ne__" b) (fun r s' => ∃ v, r = some v ∧ Q v s') E s := by
    unfold tryCompare
    refine wpAny_bind (kbIfBound X I hs PySem.F.slot_enumerate_ne.bind (kbObjNe hu X I hm he hf (wpAny_mono h (fun v s' hv => ?_) fun _ _ e => e)))
    obtain ⟨k, rfl, q⟩ := hv
    exact ⟨k, rfl, wpAny_pure ⟨_, rfl, q⟩⟩
  unfold richCompare
  simp only [oneThing_ref]
  refine wpAny_holding (wpAny_bind (wpAny_cRoomFor hu0 ?_))
  refine wpAny_bind (I.type.here (wpAny_bind (hb.here ?_)))
  split
  · rename_i q
    have e : subIn K tb (.ref C) = some false := by
      rcases Bool.or_eq_true_iff.mp hn with e | e
      · rw [beq_iff_eq.mp e] at q; simp at q
      · exact beq_iff_eq.mp e
    refine wpAny_bind ((looks_subIn X e).here ?_)
    simp only [Bool.false_eq_true, if_false]
    refine wpAny_bind (wpAny_mono one (fun r s' ⟨v, hv, hq⟩ => ?_) fun _ _ e => e)
    subst hv
    exact wpAny_pure hq
  · refine wpAny_bind (wpAny_pure ?_)
    simp only [Bool.false_eq_true, if_false]
    refine wpAny_bind (wpAny_mono one (fun r s' ⟨v, hv, hq⟩ => ?_) fun _ _ e => e)
    subst hv
    exact wpAny_pure hq
end
end PySem.W
namespace Kb
open PySem PySem.Spec PyProof.Rows L2 RZ
/-- what is told of a class with an own == -/
structure OwnEqC (K : PySem.W.Frag) (C f : Addr) : Prop where
  eq : PySem.W.findIn K (.ref C) "__eq__" = some (some (.ref f))
  fn : PySem.W.isFn K (.ref f) = true
  ne : PySem.W.findIn K (.ref C) "__ne__" = some (some (.builtin "object.__ne__"))
  ob : PySem.W.mroIn K C (.type "object") = some true
  tup : PySem.W.subIn K (.type "tuple") (.ref C) = some false
/-- what isinstance asks of a class and its instances -/
structure InsC (K : PySem.W.Frag) (C : Addr) : Prop where
  ha : PySem.W.findIn K (.ref C) "__class__" = some (some (.builtin "object.__class__"))
  hn : PySem.W.specialIn K (.builtin "object.__class__") "__get__" = some (some (.builtin "getset_descriptor.__get__"))
  ht : PySem.W.takesIn K (.builtin "object.__class__") = some true
  hm : PySem.W.mroIn K C (.type "object") = some true
  ic : PySem.W.isClsIn K C = true
  ty : PySem.W.typeIn K (.ref C) = some (.type "type")
  tup : PySem.W.subIn K (.type "tuple") (.ref C) = some false
theorem kit_same {K : PySem.W.Frag} {C : Addr} : PySem.W.kitOne K (.ref C) (.ref C) = some true := by
  unfold PySem.W.kitOne
  rw [if_pos (by simp)]
theorem InsC.kit {K : PySem.W.Frag} {C : Addr} (I : InsC K C) : PySem.W.kitOne K (.type "tuple") (.ref C) = some false := by
  unfold PySem.W.kitOne
  rw [if_neg (by simp)]
  have ic : (PySem.W.clsIn K C).isSome = true := I.ic
  show (if ((PySem.W.clsIn K C).isSome && PySem.W.typeIn K (.ref C) == some (.type "type")) = true then PySem.W.subIn K (.type "tuple") (.ref C) else none) = some false
  rw [ic, I.ty, if_pos (by rfl)]
  exact I.tup
/-- the right side of an own ==: an instance of the same class, or a tuple -/
def RSide (C : Addr) (H : Hp) (y : V) : Prop := (∃ b dy gs, y = .ref b ∧ H b = some (.ins C dy gs)) ∨ ∃ b xs, y = .ref b ∧ H b = some (.tup xs)
def rOwnEq (C : Addr) (sp : Sp) (neg : Bool) : R2 := fun x y H Q => ∃ a dx fs, x = .ref a ∧ H a = some (.ins C dx fs) ∧ RSide C H y ∧ sp [x, y] H (fun v H' => ∃ k, v = .bl k ∧ Q (.bl (if neg then !k else k)) H') (fun _ _ _ => False)
section
variable {X : Cx} {C f : Addr} {fd : FuncData} {ps : List Str} {sp : Sp} {n : Nat}
theorem rside {pins : List (Addr × Obj)} {σ : L2.St} {H : Hp} {s : Shared} {y : V} {u : Value} (O : OwnEqC X.K C f) (I : Inv X pins σ H s) (ry : RelV y u) (h : RSide C H y) :
    ∃ tb, PySem.W.Looks (model X.prog X.w) s.heap (typeOf u) tb ∧ PySem.W.notFirst X.K C tb = true := by
  rcases h with ⟨b, dy, gs, rfl, hb⟩ | ⟨b, xs, rfl, hb⟩
  · cases ry
    obtain ⟨mB, J, _⟩ := ins_get I.hok hb
    obtain ⟨od, J, _⟩ := J.look
    exact ⟨_, J.type, by simp [PySem.W.notFirst]⟩
  · cases ry
    obtain ⟨_, its, _, o, h1, h2, _⟩ := (show ObjOk X.prog X.w H s.heap b (.tup xs) from I.hok b _ hb)
    refine ⟨.type "tuple", fun A Q E s k q => wpAny_typeOf_ref (k _ _ h1) (by rw [h2]; exact q), by simp [PySem.W.notFirst, O.tup]⟩
theorem eq_run {A : Around} {pins : List (Addr × Obj)} {σ : L2.St} {H : Hp} {s : Shared} {x y : V} {u v : Value} {neg : Bool} {Q : VK} {R : Value → Shared → Prop} (F : FnOk X.prog X.w X.K X.mg X.base CX0 n f fd ps sp) (hb : Binds X.K fd ps []) (hr : Room n A) (hA : A.frames = X.A.frames)
    (I : Inv X pins σ H s) (rx : RelV x u) (ry : RelV y v) (hsp : sp [x, y] H (fun z H' => ∃ k, z = .bl k ∧ Q (.bl (if neg then !k else k)) H') (fun _ _ _ => False)) (hR : ∀ k s', EP X pins σ Q (.bool (if neg then !k else k)) s' → R (.bool k) s') :
    wpAny (model X.prog X.w) A (call (.ref f) [u, v]) R X.xe s := by
  have e0 : Env0 X.prog X.w X.K X.mg X.base A X.stack s H := by
    have e := I.env0
    exact ⟨by rw [hA]; exact e.frames, e.mod, e.bs, e.bsz, e.funs, e.frf, e.hok, e.bare⟩
  have hl := F.len _ _ _ _ hsp
  have r2 : Vals [x, y] [u, v] := .cons rx (.cons ry .nil)
  refine wpAny_call (codeAny_mono (F.run A X.stack s H ⟨[u, v], []⟩ [u, v] [x, y] _ (fun _ _ _ => False) hr e0 (by
    have z := hb s [u, v] I.kIn (by simpa using hl)
    simpa using z) r2 hsp) fun r s' hq => ?_)
  cases r with
  | error e => exact hq.elim
  | ok fl =>
    cases fl with
    | ret w =>
      obtain ⟨z, H', I', rz, k, ez, q⟩ := I.after hq
      subst ez
      cases rz
      exact hR k s' ⟨V.bl (if neg then !k else k), H', I', rfl, q⟩
    | next => exact False.elim hq
    | brk => exact False.elim hq
    | cont => exact False.elim hq
theorem op_ownEq (O : OwnEqC X.K C f) (F : FnOk X.prog X.w X.K X.mg X.base CX0 n f fd ps sp) (hb : Binds X.K fd ps []) (hr : Room (n + 1) X.A) : OpR X (compareOp .Eq) (rOwnEq C sp false) := by
  intro pins s σ H x y u v Q I rx ry h
  obtain ⟨a, dx, fs, rfl, ha, hy, hsp⟩ := h
  obtain ⟨tb, hty, hn⟩ := rside O I ry hy
  obtain ⟨mA, J, _⟩ := ins_get I.hok ha
  obtain ⟨od, J, _⟩ := J.look
  obtain ⟨m, hF⟩ := I.fr
  cases (show u = Value.ref a from rx)
  refine PySem.W.cmp_K (op := .Eq) hr.units0 hF I.ok.mod.kin J hty hn O.eq O.fn ?_
  exact eq_run F hb (hr.mono (Nat.le_succ n)) rfl I (x := .ref a) rfl ry hsp fun k s' q => q
theorem op_ownNe (O : OwnEqC X.K C f) (F : FnOk X.prog X.w X.K X.mg X.base CX0 n f fd ps sp) (hb : Binds X.K fd ps []) (hr : Room (n + 1) X.A) : OpR X (compareOp .NotEq) (rOwnEq C sp true) := by
  intro pins s σ H x y u v Q I rx ry h
  obtain ⟨a, dx, fs, rfl, ha, hy, hsp⟩ := h
  obtain ⟨tb, hty, hn⟩ := rside O I ry hy
  obtain ⟨mA, J, _⟩ := ins_get I.hok ha
  obtain ⟨od, J, _⟩ := J.look
  cases (show u = Value.ref a from rx)
  refine PySem.W.kbNe (by have := hr.un; show X.A.units + 1 < _; omega) I.kIn J hty hn O.ne O.ob O.eq O.fn ?_
  exact eq_run F hb hr.in1 rfl I (x := .ref a) rfl ry hsp fun k s' q => ⟨k, rfl, q⟩
end
/-- X(), an own exception class without own __init__: a new exception object -/
theorem pe_exc0 {X : Cx} {C : Addr} {bmB : List Value} {B newId initId : String} {x : Str} {p pos : Pos} (F : ExcBaseFacts B newId initId bmB) (q : PySem.W.excIn X.K C bmB newId = true) (gC : X.mg x = some (.ref C)) (kC : PySem.W.keepIn X.K (.ref C) = true) (hg : Gl X x) (hdb : (x == ("__debug__" : Str)) = false := by decide) :
    PE X (.Call (.Name x p) [] [] pos) (fun _ H Q => ∀ a, H a = none → Q (.ref a) (upd H a (ExO (.ref C) a))) := by
  refine ⟨fun pins s σ H Q I h => ?_⟩
  refine wpAny_Call_Name_kw (ld_glob I hg gC ?_ hdb)
  refine PySem.W.callWith_K0 I.kIn kC ?_
  show wpAny _ _ (call (.ref C) []) _ _ _
  obtain ⟨bm, N, nm, qn, bs, hdct, sn, sub, ab, col, dd, k0, k1, k2, k3, k5, mN, hC, hN, hni, T⟩ := exc_obj I.kIn q
  refine wpAny_call_exc_subT F T hC hN hni (fun h' a hm => ?_) (by show 0 ≤ sizeLine; exact Nat.zero_le _)
  have hn : H a = none := I.hok.gone hm.new
  obtain ⟨t, ht, _, _⟩ := hm.there
  exact ⟨.ref a, upd H a (ExO (.ref C) a), I.laidN hm.keeps hm.new hn (exO_ok ht ⟨rfl, rfl⟩ rfl rfl rfl (show 4 < 6 by decide)), rfl, h a hn⟩
end Kb

set_option Elab.async false
set_option linter.all false
set_option maxRecDepth 100000
set_option maxHeartbeats 4000000
namespace HT
open PySem PySem.Spec PyProof.Rows
section
variable {prog : Program} {w : World} {A : Around} {E : Value → Shared → Prop} {s : Shared}
theorem kbAdjust (n : Nat) : Builtin.Slice.sliceAdjust none none (-1) (n : Int) = ((n : Int) - 1, -1) := by
  unfold Builtin.Slice.sliceAdjust
  simp
theorem kbPlaces (n : Nat) : Builtin.Slice.slicePlaces ((n : Int) - 1) (-1) (-1) = n := by
  unfold Builtin.Slice.slicePlaces
  have h1 : ¬ ((-1 : Int) > 0) := by decide
  simp only [h1, if_false]
  by_cases h : (n : Int) - 1 > -1
  · rw [if_pos h, show (-(-1 : Int)) = 1 by decide, Int.ediv_one]
    omega
  · rw [if_neg h]
    have : n = 0 := by omega
    subst this
    rfl
theorem kbApplied {sl : Addr} {n : Nat} {t : Tok} {Q : Int × Int × Nat → Shared → Prop} (hs : s.heap.IsSliceOf sl .none .none (.int (-1) t)) (h : Q ((n : Int) - 1, -1, n) s) : wpAny (model prog w) A (Builtin.Slice.sliceApplied (.ref sl) (pure (n : Int))) Q E s := by
  obtain ⟨os, hos, hcs, hds⟩ := id hs
  unfold Builtin.Slice.sliceApplied Builtin.Slice.sliceFields
  refine wpAny_bind (wpAny_bind (wpAny_field hos hds (x := .none) rfl (wpAny_bind (wpAny_field hos hds (x := .none) rfl (wpAny_bind (wpAny_field hos hds (x := .int (-1) t) rfl (wpAny_pure ?_)))))))
  refine wpAny_bind (slicePart_ (IsPart.int (-1) t) ?_)
  show wpAny _ _ (if ((-1 : Int) == 0) = true then _ else _) _ _ s
  rw [if_neg (by decide)]
  refine wpAny_bind (slicePart_ IsPart.none (wpAny_bind (slicePart_ IsPart.none (wpAny_bind (wpAny_pure ?_)))))
  show wpAny _ _ (match Builtin.Slice.sliceAdjust none none (-1) (n : Int) with | (lo, hi) => pure (lo, (-1 : Int), Builtin.Slice.slicePlaces lo hi (-1))) _ _ s
  rw [kbAdjust n]
  show wpAny _ _ (pure ((n : Int) - 1, (-1 : Int), Builtin.Slice.slicePlaces ((n : Int) - 1) (-1) (-1))) _ _ s
  rw [kbPlaces]
  exact wpAny_pure h
theorem kbFmc {α β : Type} {f g : α → Option β} : ∀ {l : List α}, (∀ x, x ∈ l → f x = g x) → l.filterMap f = l.filterMap g
  | [], _ => rfl
  | x :: r, h => by
    rw [List.filterMap_cons, List.filterMap_cons, h x List.mem_cons_self, kbFmc fun y hy => h y (List.mem_cons_of_mem _ hy)]
theorem kbPick (xs : Array Value) : ((List.range xs.size).filterMap fun (k : Nat) => xs[(((xs.size : Int) - 1) + (k : Int) * (-1)).toNat]?).toArray = xs.toList.reverse.toArray := by
  have e : (List.range xs.size).filterMap (fun (k : Nat) => xs[(((xs.size : Int) - 1) + (k : Int) * (-1)).toNat]?) = ((List.range xs.size).map fun k => xs.size - 1 - k).filterMap (xs[·]?) := by
    rw [List.filterMap_map]
    refine kbFmc fun k hk => ?_
    have hk' := List.mem_range.mp hk
    have z : (((xs.size : Int) - 1) + (k : Int) * (-1)).toNat = xs.size - 1 - k := by omega
    show xs[_]? = xs[_]?
    rw [z]
  rw [e, PySem.W.krv_range, List.filterMap_reverse, PySem.W.krv_all]
theorem kbRevTup {t sl : Addr} {items : Array Value} {tk : Tok} {Q : Value → Shared → Prop} (ht : IsTup s.heap t items) (hs : s.heap.IsSliceOf sl .none .none (.int (-1) tk))
    (h : Q (.ref s.heap.objs.size) { s with heap := s.heap.push { cls := .type "tuple", data := .seq items.toList.reverse.toArray } }) (hsz : items.size ≤ sizeLine) : wpAny (model prog w) A (getItem (.ref t) (.ref sl)) Q E s := by
  have hfit : sizeOk (.seq items.toList.reverse.toArray) := by
    show items.toList.reverse.toArray.size ≤ sizeLine
    rw [List.size_toArray, List.length_reverse, Array.length_toList]
    exact hsz
  obtain ⟨os, hos, hcs, hds⟩ := id hs
  have hTs : s.TypeIs (.ref sl) "slice" := ⟨os, hos, hcs⟩
  unfold getItem
  try with_reducible refine wpAny_holding ?_
  first | refine wpAny_bind (wpAny_pure ?_) | skip
  refine wpAny_bind (wpAny_sequenceKey ht.typeIs (by decide) ?_)
  refine wpAny_bind (wpAny_callSpecial?_slot (name := Str.ofString "__getitem__") ht.typeIs PyProof.Rows.slot_tuple_getitem (wpAny_call_entry PyProof.Rows.slot_tuple_getitem ht.typeIs entry_tuple_getitem ?_ (args_tuple_getitem _ _)))
  show wpAny _ _ (Builtin.Tuple.tupleItemsOf (.ref t) >>= _) _ _ s
  refine wpAny_bind (tupleItemsOf_ ht (wpAny_bind (wpAny_typeOf hTs ?_)))
  rw [if_pos (by decide)]
  refine wpAny_bind (kbApplied hs ?_)
  have no : ¬ ((((items.size : Int) - 1) == 0 && (-1 : Int) == 1 && items.size == items.size) = true) := by
    intro q
    rw [Bool.and_eq_true, Bool.and_eq_true] at q
    exact absurd q.1.2 (by decide)
  show wpAny _ _ (if (((items.size : Int) - 1) == 0 && (-1 : Int) == 1 && items.size == items.size) = true then _ else _) _ _ s
  rw [if_neg no, kbPick]
  first
    | exact wpAny_bind (m := Builtin.Tuple.tupleExact _) (wpAny_newObj_type (wpAny_pure ⟨_, rfl, wpAny_pure h⟩) hfit)
    | exact wpAny_bind (m := Builtin.Tuple.tupleExact _) (wpAny_newObj_type (wpAny_bind (wpAny_pure (wpAny_pure ⟨_, rfl, wpAny_pure h⟩))) hfit)
    | exact wpAny_bind (wpAny_bind (m := Builtin.Tuple.tupleExact _) (wpAny_newObj_type (wpAny_pure (wpAny_pure ⟨_, rfl, wpAny_pure h⟩)) hfit))
    | exact wpAny_bind (wpAny_bind (m := Builtin.Tuple.tupleExact _) (wpAny_newObj_type (wpAny_pure ⟨_, rfl, wpAny_pure h⟩) hfit))
end
end HT
namespace Kb
open PySem PySem.Spec PyProof.Rows L2 RZ
/-- t[::-1] of a tuple -/
def tRevT (K : PySem.W.Frag) (te : TE) : TE := fun σ H Q => te σ H fun x H1 => ∃ a xs, x = .ref a ∧ SqT K H1 a xs ∧ wNew (.tup xs.reverse) H1 fun q H' => Q (.ref q) H'
theorem pe_revT {X : Cx} {e : Expr} {te : TE} {k : Nat} {p1 p2 p3 pos : Pos} (he : PE X e te) : PE X (.Subscript e (.Slice none none (some (.UnaryOp .USub (.Constant (.int 1) k p1) p2)) p3) pos) (tRevT X.K te) := by
  refine ⟨fun pins s σ H Q I h => ?_⟩
  refine Subscript_ (thn (he.run pins s σ H _ I h) fun v s1 ⟨x, H1, I1, r1, q1⟩ => ?_)
  obtain ⟨a, xs, ex, hx, q⟩ := q1
  subst ex
  cases r1
  have part : PO X (some (.UnaryOp .USub (.Constant (.int 1) k p1) p2)) (tPart (tUn (rU fun i => .int (-i)) (tC (.int 1)))) := po_some (pe_un un_neg pe_int)
  refine wpAny_Slice (thn (po_none.run pins s1 σ H1 (fun o H2 => o = none ∧ H2 = H1) I1 ⟨rfl, rfl⟩) fun vl s2 ⟨l, H2, I2, pl, el, e2⟩ => ?_)
  subst el e2
  refine thn (po_none.run pins s2 σ H2 (fun o H3 => o = none ∧ H3 = H2) I2 ⟨rfl, rfl⟩) fun vu s3 ⟨u, H3, I3, pu, eu, e3⟩ => ?_
  subst eu e3
  refine thn (part.run pins s3 σ H3 (fun o H4 => o = some (-1) ∧ H4 = H3) I3 ⟨1, rfl, -1, rfl, rfl, rfl⟩) fun vs s4 ⟨o, H4, I4, ps, eo, e4⟩ => ?_
  subst eo e4
  have I5 : Inv X pins σ H4 { s4 with heap := s4.heap.push { cls := .type "slice", data := .fields #[vl, vu, vs] } } := I4.kept (t' := s4.toks) fun b ob q => Heap.get?_push_of_some _ q
  obtain ⟨its, r, ht, hz⟩ := I5.tuple hx
  have hlen := r.length
  cases pl
  cases pu
  cases ps
  show wpAny (model X.prog X.w) X.A (subscriptTail e (.Slice none none (some (.UnaryOp .USub (.Constant (.int 1) k p1) p2)) p3) (.ref a) (.ref s4.heap.objs.size)) (EP X pins σ Q) X.xe _
  refine tail_any (ops := [.ref a, .ref s4.heap.objs.size]) ht.typeIs PyProof.Rows.slot_tuple_getitem.lookup ?_ (by with_unfolding_all rfl)
  refine HT.kbRevTup ht (Heap.IsSliceOf.new _ _ _ _) ?_ (by rw [List.size_toArray]; omega)
  refine ⟨.ref _, _, I5.laid (t' := s4.toks) (o := .tup xs.reverse) (fun b ob q => Heap.get?_push_of_some _ q) (Nat.le_refl _) ?_, rfl, q _ (I5.hok.fresh (Nat.le_refl _))⟩
  exact ⟨by rw [List.length_reverse]; exact hz, _, r.reverse, ⟨_, Heap.get?_push_size _ rfl, rfl, 0, rfl⟩⟩
def wRevT (K : PySem.W.Frag) (x : V) (H : Hp) (R : Addr → Hp → Prop) : Prop := ∃ a xs, x = .ref a ∧ SqT K H a xs ∧ wNew (.tup xs.reverse) H R
theorem go_revT {K : PySem.W.Frag} {te : TE} {σ : L2.St} {H : Hp} {Q : VK} (h : te σ H fun x H1 => wRevT K x H1 fun q H' => Q (.ref q) H') : tRevT K te σ H Q := h
theorem revT_lay {K : PySem.W.Frag} {p : Addr} {G0 H0 G H : Hp} {a : Addr} {xs : List V} {R : Addr → Hp → Prop} (s : Stp p G0 H0 G H) (ha : G a = some (.tup xs)) (k : ∀ q G' H', Stp p G0 H0 G' H' → Same G G' → Grow G H G' H' → G' q = some (.tup xs.reverse) → R q H') : wRevT K (.ref a) H R :=
  ⟨a, xs, rfl, .inl (.inl (s.w.sub _ _ ha)), new_lay s k⟩
theorem kRevT {X : Cx} {K : PySem.W.Frag} {e : Expr} {te : TE} {k : Nat} {p1 p2 p3 pos : Pos} (he : PE X e te) (ek : X.K = K) : PE X (.Subscript e (.Slice none none (some (.UnaryOp .USub (.Constant (.int 1) k p1) p2)) p3) pos) (tRevT K te) := ek ▸ pe_revT he
/-! ### lots that are none -/
theorem lexLt_irrefl : ∀ ns : List Int, HT.lexLt ns ns = false
  | [] => rfl
  | x :: r => by rw [HT.lexLt_cons, if_pos rfl, lexLt_irrefl r]
theorem lexLt_asymm : ∀ {ns ms : List Int}, HT.lexLt ns ms = true → HT.lexLt ms ns = false
  | [], _ :: _, _ => rfl
  | x :: ns, y :: ms, h => by
    rw [HT.lexLt_cons] at h ⊢
    by_cases c : x = y
    · rw [if_pos c] at h
      rw [if_pos c.symm]
      exact lexLt_asymm h
    · rw [if_neg c, decide_eq_true_eq] at h
      rw [if_neg (fun e => c e.symm), decide_eq_false (by omega)]
theorem ascI_two {a b : List Int} : ∀ {l : List (List Int)}, ascI (l ++ [a, b]) = true → HT.lexLt a b = true
  | [], h => by
    have h' : (HT.lexLt a b && true) = true := h
    rw [Bool.and_true] at h'
    exact h'
  | [x], h => by
    have h' : (HT.lexLt x a && ascI [a, b]) = true := h
    rw [Bool.and_eq_true] at h'
    exact ascI_two (l := []) h'.2
  | x :: y :: r, h => by
    have h' : (HT.lexLt x y && ascI (y :: r ++ [a, b])) = true := h
    rw [Bool.and_eq_true] at h'
    exact ascI_two (l := y :: r) h'.2
theorem ascI_dup {l : List (List Int)} {a : List Int} : ascI (l ++ [a, a]) = false := by
  cases h : ascI (l ++ [a, a]) with
  | false => rfl
  | true =>
    have q := ascI_two h
    rw [lexLt_irrefl] at q
    cases q
theorem ascI_rev {l : List (List Int)} (h : ascI l = true) (hl : 1 < l.length) : ascI l.reverse = false := by
  match l, h, hl with
  | x :: y :: r, h, _ =>
    have h' : (HT.lexLt x y && ascI (y :: r)) = true := h
    rw [Bool.and_eq_true] at h'
    cases q : ascI (x :: y :: r).reverse with
    | false => rfl
    | true =>
      rw [List.reverse_cons, List.reverse_cons, List.append_assoc] at q
      have z := ascI_two q
      rw [lexLt_asymm h'.1] at z
      cases z
theorem lotD_asc {m : Int} {rs : List PyData} (h : ascI (rs.map intsOf) = false) : lotD m (.tuple rs) = false := by
  show (decide (1 ≤ rs.length) && decide (rs.length ≤ 60) && (rs.all (rowD m) && ascI (rs.map intsOf))) = false
  rw [h, Bool.and_false, Bool.and_false]
theorem lotD_row {m : Int} {d : PyData} {rs : List PyData} (h : rowD m d = false) : lotD m (.tuple (d :: rs)) = false := by
  show (decide (1 ≤ (d :: rs).length) && decide ((d :: rs).length ≤ 60) && ((d :: rs).all (rowD m) && ascI ((d :: rs).map intsOf))) = false
  rw [List.all_cons, h, Bool.false_and, Bool.false_and, Bool.and_false]
theorem odd_lot {m : Int} (h : 3 ≤ m) {d : PyData} (hd : d ∈ oddDs) : lotD m d = false := by
  unfold oddDs at hd
  simp only [List.mem_cons, List.not_mem_nil, or_false] at hd
  rcases hd with rfl | rfl | rfl | rfl | rfl | rfl | rfl | rfl | rfl | rfl | rfl | rfl <;> try rfl
  exact lotD_row (rowD_len (by show ((0 : Nat) : Int) ≠ m; omega))
theorem lotD_parts {m : Int} {d : PyData} (h : lotD m d = true) : ∃ rs, d = .tuple rs ∧ 1 ≤ rs.length ∧ rs.length ≤ 60 ∧ rs.all (rowD m) = true ∧ ascI (rs.map intsOf) = true := by
  cases d with
  | tuple rs =>
    have h' : (decide (1 ≤ rs.length) && decide (rs.length ≤ 60) && (rs.all (rowD m) && ascI (rs.map intsOf))) = true := h
    rw [Bool.and_eq_true, Bool.and_eq_true, Bool.and_eq_true, decide_eq_true_eq, decide_eq_true_eq] at h'
    exact ⟨rs, rfl, h'.1.1, h'.1.2, h'.2.1, h'.2.2⟩
  | _ => cases h
/-- _law_no_lot -/
def spNoLot (N : Addr) : Sp := fun vs H Q _ => ∃ (p t : Addr) (G : Hp) (ls : List V) (rs : List PyData) (m : Int), vs = [.ref p, .ref t] ∧ W p G H ∧ G t = some (.tup ls) ∧ Drs N G ls rs ∧ 3 ≤ m ∧ m ≤ 5 ∧ lotD m (.tuple rs) = true ∧
  ∀ (v : V) (d : PyData) (G' H' : Hp), Stp p G H G' H' → Dr N G' v d → lotD m d = false → Q v H'
theorem cut_last (l : List V) (x : V) : cutV (l ++ [x]) (some (-1)) none = [x] := by
  have hl : (l ++ [x]).length = l.length + 1 := by rw [List.length_append]; rfl
  have e : HT.sIx (l ++ [x]).length 0 (some (-1)) = l.length := by
    show (if (-1 : Int) < 0 then ((-1 : Int) + ((l ++ [x]).length : Int)).toNat else min (-1 : Int).toNat (l ++ [x]).length) = l.length
    rw [if_pos (by decide), hl]
    omega
  unfold cutV
  rw [e, HT.sIx_none, hl, show l.length + 1 - l.length = 1 by omega, List.drop_left]
  rfl
theorem Drs.snoc {N : Addr} {G : Hp} {ls : List V} {ds : List PyData} (h : Drs N G ls ds) (hl : 1 ≤ ds.length) : ∃ l x es d, ls = l ++ [x] ∧ ds = es ++ [d] ∧ Drs N G l es ∧ Dr N G x d := by
  induction ds generalizing ls with
  | nil => simp at hl
  | cons d r ih =>
    cases h with
    | cons h1 h2 =>
      cases r with
      | nil =>
        cases h2
        exact ⟨[], _, [], d, rfl, rfl, .nil, h1⟩
      | cons e r =>
        obtain ⟨l, x, es, d', e1, e2, h3, h4⟩ := ih h2 (by simp)
        exact ⟨_ :: l, x, d :: es, d', by rw [e1]; rfl, by rw [e2]; rfl, .cons h1 h3, h4⟩
end Kb

set_option Elab.async false
set_option linter.all false
set_option maxRecDepth 100000
set_option maxHeartbeats 4000000
namespace Kb
open PySem PySem.Spec PyProof.Rows L2 RZ
/-! ### sorted rows -/
theorem code_mono {B : Int} : ∀ {x y : List Int}, x.length = y.length → TS.Bd B x → TS.Bd B y → HT.lexLt x y = true → TS.code B x < TS.code B y
  | [], [], _, _, _, h => by cases h
  | a :: x, b :: y, hl, hx, hy, h => by
    have hl' : x.length = y.length := by simpa using hl
    rw [HT.lexLt_cons] at h
    by_cases c : a = b
    · subst c
      rw [if_pos rfl] at h
      have ih := code_mono hl' hx.tail hy.tail h
      show a * B ^ x.length + TS.code B x < a * B ^ y.length + TS.code B y
      rw [hl']
      omega
    · rw [if_neg c, decide_eq_true_eq] at h
      exact TS.code_lt hl' hx.tail hy.tail h
theorem lexLt_total : ∀ {x y : List Int}, x ≠ y → HT.lexLt x y = true ∨ HT.lexLt y x = true
  | [], [], h => absurd rfl h
  | [], _ :: _, _ => .inl rfl
  | _ :: _, [], _ => .inr rfl
  | a :: x, b :: y, h => by
    rw [HT.lexLt_cons, HT.lexLt_cons]
    by_cases c : a = b
    · subst c
      rw [if_pos rfl, if_pos rfl]
      exact lexLt_total fun e => h (by rw [e])
    · rw [if_neg c, if_neg (fun e => c e.symm), decide_eq_true_eq, decide_eq_true_eq]
      omega
theorem asc_of {B : Int} {d : Nat} : ∀ {rows : List (List Int)}, (∀ r ∈ rows, r.length = d ∧ TS.Bd B r) → rows.Nodup → rows.Pairwise (fun x y => TS.code B x ≤ TS.code B y) → ascI rows = true
  | [], _, _, _ => rfl
  | [_], _, _, _ => rfl
  | x :: y :: r, hb, hn, hp => by
    obtain ⟨hx1, hx2⟩ := hb x List.mem_cons_self
    obtain ⟨hy1, hy2⟩ := hb y (List.mem_cons_of_mem _ List.mem_cons_self)
    have hle := (List.pairwise_cons.mp hp).1 y List.mem_cons_self
    have hne : x ≠ y := fun e => (List.nodup_cons.mp hn).1 (by rw [e]; exact List.mem_cons_self)
    have hlt : HT.lexLt x y = true := by
      rcases lexLt_total hne with h | h
      · exact h
      · have z := code_mono (by omega) hy2 hx2 h
        omega
    show (HT.lexLt x y && ascI (y :: r)) = true
    rw [hlt, asc_of (fun r' h' => hb r' (List.mem_cons_of_mem _ h')) (List.nodup_cons.mp hn).2 (List.pairwise_cons.mp hp).2]
    rfl
theorem Drs.perm {N : Addr} {G : Hp} {xs ys : List V} (h : ys.Perm xs) : ∀ {ds : List PyData}, Drs N G xs ds → ∃ es, es.Perm ds ∧ Drs N G ys es := by
  induction h with
  | nil => exact fun h => ⟨_, List.Perm.refl _, h⟩
  | cons x _ ih =>
    intro ds h
    cases h with
    | cons h1 h2 =>
      obtain ⟨es, p, h3⟩ := ih h2
      exact ⟨_ :: es, p.cons _, .cons h1 h3⟩
  | swap x y l =>
    intro ds h
    cases h with
    | cons h1 h2 =>
      cases h2 with
      | cons h2 h3 => exact ⟨_, List.Perm.swap .., .cons h2 (.cons h1 h3)⟩
  | trans _ _ ih1 ih2 =>
    intro ds h
    obtain ⟨es, p, h1⟩ := ih2 h
    obtain ⟨fs, p2, h2⟩ := ih1 h1
    exact ⟨fs, p2.trans p, h2⟩
theorem perm_rows {rows : List (List Int)} {es : List PyData} (h : es.Perm (rows.map rowT)) : ∃ rows' : List (List Int), rows'.Perm rows ∧ es = rows'.map rowT := by
  have inv : ∀ r : List Int, intsOf (rowT r) = r := fun r => by
    show (r.map PyData.int).map intOf = r
    rw [List.map_map]
    exact List.map_id r
  refine ⟨es.map intsOf, ?_, ?_⟩
  · have z := h.map intsOf
    rw [List.map_map, show (intsOf ∘ rowT) = id from funext inv, List.map_id] at z
    exact z
  · rw [List.map_map]
    refine Eq.trans (List.map_id es).symm (List.map_congr_left fun e he => ?_)
    obtain ⟨r, _, rfl⟩ := List.mem_map.mp (h.mem_iff.mp he)
    show rowT r = rowT (intsOf (rowT r))
    rw [inv]
theorem Drs.pair {N : Addr} {G : Hp} {K : PySem.W.Frag} {H : Hp} {R : List Int → List Int → Prop} (s : ∀ b o, G b = some o → H b = some o) : ∀ {ys : List V} {rows : List (List Int)}, Drs N G ys (rows.map rowT) → ys.Pairwise (fun x y => ∀ n m, TupI K H x n → TupI K H y m → R n m) → rows.Pairwise R
  | [], [], _, _ => .nil
  | y :: ys, r :: rows, .cons h1 h2, p => by
    rw [List.pairwise_cons] at p ⊢
    have tu : ∀ {v : V} {q : List Int}, Dr N G v (rowT q) → TupI K H v q := fun {v q} h => by
      obtain ⟨t, rfl, g⟩ := row_of h
      exact ⟨t, rfl, .inl (.inl (s _ _ g))⟩
    refine ⟨fun q hq => ?_, Drs.pair s h2 p.2⟩
    obtain ⟨i, hi⟩ := List.mem_iff_getElem?.mp hq
    obtain ⟨v, hv, hd⟩ := h2.getD (i := i) (d := rowT q) (by rw [List.getElem?_map, hi]; rfl)
    exact p.1 v (List.mem_of_getElem? hv) r q (tu h1) (tu hd)
/-- sorted of rows that are unlike, in a state -/
def rSortR (K : PySem.W.Frag) (N : Addr) (d : Nat) (B : Int) : List V → Hp → VK → Prop := rSortU K d B
theorem kSortT {X : Cx} {K : PySem.W.Frag} {d : Nat} {B : Int} (hd : 1 ≤ d) (e : X.K = K) : CallR X (.builtin "sorted") (rSortU K d B) := e ▸ cr_sortT hd
theorem sort_lay {K : PySem.W.Frag} {N : Addr} {p : Addr} {G0 H0 G H : Hp} {a : Addr} {xs : List V} {rows : List (List Int)} {d : Nat} {B : Int} {Q : VK} (s : Stp p G0 H0 G H) (ha : H a = some (.lst xs)) (hd : Drs N G xs (rows.map rowT)) (h64 : rows.length < 64) (hn : rows.Nodup) (hb : ∀ r ∈ rows, r.length = d ∧ TS.Bd B r)
    (k : ∀ q G' H' ys rows', Stp p G0 H0 G' H' → Same G G' → Grow G H G' H' → G' q = some (.lst ys) → Drs N G' ys (rows'.map rowT) → rows'.Perm rows → ascI rows' = true → Q (.ref q) H') : rSortU K d B [.ref a] H Q := by
  refine ⟨a, xs, rfl, .inl (.inl ha), by rw [hd.length, List.length_map]; exact h64, fun x hx => ?_, fun ys q hp hpw hq => ?_⟩
  · obtain ⟨d', h1, h2⟩ := hd.mem hx
    obtain ⟨r, hr, rfl⟩ := List.mem_map.mp h1
    obtain ⟨t, rfl, g⟩ := row_of h2
    exact ⟨r, ⟨t, rfl, .inl (.inl (s.w.sub _ _ g))⟩, hb r hr⟩
  · obtain ⟨es, pe, he⟩ := hd.perm hp
    obtain ⟨rows', pr, rfl⟩ := perm_rows pe
    have asc : ascI rows' = true := asc_of (fun r hr => hb r (pr.mem_iff.mp hr)) (pr.nodup_iff.mpr hn) (Drs.pair s.w.sub he hpw)
    refine new_lay (R := fun q H' => Q (.ref q) H') s (o := .lst ys) (fun q' G' H' s' g' gr e' => k q' G' H' ys rows' s' g' gr e' (he.same g') pr asc) q hq
theorem eqv_row : ∀ a b : List Int, PyData.eqv (rowT a) (rowT b) = decide (a = b) := by
  intro a b
  show PyData.eqvAll (a.map PyData.int) (b.map PyData.int) = decide (a = b)
  induction a generalizing b with
  | nil => cases b <;> rfl
  | cons x r ih =>
    cases b with
    | nil => rfl
    | cons y q =>
      show (PyData.eqv (.int x) (.int y) && PyData.eqvAll (r.map PyData.int) (q.map PyData.int)) = _
      rw [ih q]
      show ((x == y) && decide (r = q)) = decide (x :: r = y :: q)
      by_cases c : x = y
      · subst c
        by_cases d : r = q
        · subst d; simp
        · rw [decide_eq_false d, decide_eq_false (fun e => d (List.cons.inj e).2)]; simp
      · rw [decide_eq_false (fun e => c (List.cons.inj e).1), beq_eq_false_iff_ne.mpr c]; rfl
theorem any_row {rows : List (List Int)} {r : List Int} : ((rows.map rowT).any fun z => PyData.eqv z (rowT r)) = decide (r ∈ rows) := by
  rw [List.any_map]
  have e : ((fun z => PyData.eqv z (rowT r)) ∘ rowT) = fun q => decide (q = r) := funext fun q => eqv_row q r
  rw [e]
  by_cases h : r ∈ rows
  · rw [decide_eq_true h, List.any_eq_true]
    exact ⟨r, h, by simp⟩
  · rw [decide_eq_false h, Bool.eq_false_iff]
    intro z
    rw [List.any_eq_true] at z
    obtain ⟨q, h1, h2⟩ := z
    rw [decide_eq_true_eq] at h2
    subst h2
    exact h h1
theorem Nest.ok : ∀ {n : Nat} {d : PyData}, Nest n d → d.canLay0 = true ∧ d.depth ≤ n ∧ plainD d = true := by
  have all : ∀ (n : Nat) (ds : List PyData), (∀ d ∈ ds, d.canLay0 = true ∧ d.depth ≤ n ∧ plainD d = true) → PyData.canLayAll0 ds = true ∧ PyData.depthAll ds ≤ n ∧ plainDs ds = true := fun n ds => by
    induction ds with
    | nil => exact fun _ => ⟨by simp only [PyData.canLayAll0], by simp only [PyData.depthAll]; exact Nat.zero_le _, by simp only [plainDs]⟩
    | cons d r ih =>
      intro h
      obtain ⟨h1, h2, h3⟩ := h d List.mem_cons_self
      obtain ⟨i1, i2, i3⟩ := ih fun e he => h e (List.mem_cons_of_mem _ he)
      refine ⟨by simp only [PyData.canLayAll0]; rw [h1, i1]; rfl, ?_, by simp only [plainDs]; rw [h3, i3]; rfl⟩
      simp only [PyData.depthAll]
      omega
  intro n d h
  induction h with
  | int i => exact ⟨by simp only [PyData.canLay0], by simp only [PyData.depth]; exact Nat.zero_le _, by simp only [plainD]⟩
  | tup _ _ ih =>
    obtain ⟨h1, h2, h3⟩ := all _ _ ih
    exact ⟨by simp only [PyData.canLay0]; exact h1, by simp only [PyData.depth]; omega, by simp only [plainD]; exact h3⟩
  | lst _ _ ih =>
    obtain ⟨h1, h2, h3⟩ := all _ _ ih
    exact ⟨by simp only [PyData.canLay0]; exact h1, by simp only [PyData.depth]; omega, by simp only [plainD]; exact h3⟩
theorem Nest.shaped {n : Nat} {d : PyData} (h : Nest n d) (hn : n ≤ 64) : SeqAt.shaped d = true := by
  obtain ⟨h1, h2, _⟩ := h.ok
  show (d.canLay0 && decide (d.depth ≤ 64)) = true
  rw [h1, decide_eq_true (by omega)]
  rfl
theorem nest_row {r : List Int} (h : r.length ≤ 1000) : Nest 1 (rowT r) := .tup (by rw [List.length_map]; exact h) fun d hd => by
  obtain ⟨i, _, rfl⟩ := List.mem_map.mp hd
  exact .int i
theorem nest_rows {rows : List (List Int)} (h : rows.length ≤ 1000) (hr : ∀ r ∈ rows, r.length ≤ 1000) : Nest 2 (.list (rows.map rowT)) := .lst (by rw [List.length_map]; exact h) fun d hd => by
  obtain ⟨r, h1, rfl⟩ := List.mem_map.mp hd
  exact nest_row (hr r h1)
/-- row not in rows, in a state -/
theorem notIn_rows {K : PySem.W.Frag} {N : Addr} {G H : Hp} {t l : Addr} {r : List Int} {xs : List V} {rows : List (List Int)} {Q : VK} (s : ∀ b o, G b = some o → H b = some o) (ht : G t = some (.tup (r.map V.int))) (hl : H l = some (.lst xs)) (hd : Drs N G xs (rows.map rowT)) (h1 : r.length ≤ 1000) (h2 : rows.length ≤ 1000) (h3 : ∀ q ∈ rows, q.length ≤ 1000)
    (k : Q (.bl (!decide (r ∈ rows))) H) : rNotInD K (.ref t) (.ref l) H Q := by
  have d1 : Dr N G (.ref t) (rowT r) := .tup ht (Drs.ints r)
  refine ⟨rowT r, rows.map rowT, d1.dp s (nest_row h1).ok.2.2, .lst (.inl (.inl hl)) (hd.dp s ?_), (nest_row h1).shaped (by decide), (nest_rows h2 h3).shaped (by decide), ?_⟩
  · have z := (nest_rows h2 h3).ok.2.2
    unfold plainD at z
    exact z
  · rw [any_row]
    exact k
/-- a right lot: rows that ascend -/
theorem lotD_of {many : Int} {rows : List (List Int)} (h1 : 1 ≤ rows.length) (h2 : rows.length ≤ 60) (hr : ∀ r ∈ rows, (r.length : Int) = many ∧ ∀ z ∈ r, 0 ≤ z ∧ z ≤ 9999) (ha : ascI rows = true) : lotD many (.tuple (rows.map rowT)) = true := by
  have inv : ∀ r : List Int, intsOf (rowT r) = r := fun r => by
    show (r.map PyData.int).map intOf = r
    rw [List.map_map]
    exact List.map_id r
  show (decide (1 ≤ (rows.map rowT).length) && decide ((rows.map rowT).length ≤ 60) && ((rows.map rowT).all (rowD many) && ascI ((rows.map rowT).map intsOf))) = true
  rw [List.length_map, decide_eq_true h1, decide_eq_true h2, List.map_map, show (intsOf ∘ rowT) = id from funext inv, List.map_id, ha, Bool.and_true, Bool.true_and, Bool.and_true, List.all_map, List.all_eq_true]
  intro r hr'
  obtain ⟨e, hz⟩ := hr r hr'
  show (decide (((r.map PyData.int).length : Int) = many) && (r.map PyData.int).all fun x => numD x 0 9999) = true
  rw [List.length_map, decide_eq_true e, Bool.true_and, List.all_map, List.all_eq_true]
  intro z hz'
  show (decide (0 ≤ z) && decide (z ≤ 9999)) = true
  rw [decide_eq_true (hz z hz').1, decide_eq_true (hz z hz').2]
  rfl
theorem rowD_of {many : Int} {r : List Int} (e : (r.length : Int) = many) (hz : ∀ z ∈ r, 0 ≤ z ∧ z ≤ 9999) : rowD many (rowT r) = true := by
  show (decide (((r.map PyData.int).length : Int) = many) && (r.map PyData.int).all fun x => numD x 0 9999) = true
  rw [List.length_map, decide_eq_true e, Bool.true_and, List.all_map, List.all_eq_true]
  intro z hz'
  show (decide (0 ≤ z) && decide (z ≤ 9999)) = true
  rw [decide_eq_true (hz z hz').1, decide_eq_true (hz z hz').2]
  rfl
theorem inv_row (r : List Int) : intsOf (rowT r) = r := by
  show (r.map PyData.int).map intOf = r
  rw [List.map_map]
  exact List.map_id r
theorem ascI_get : ∀ {rows : List (List Int)} {j : Nat} {x y : List Int}, ascI rows = true → rows[j]? = some x → rows[j + 1]? = some y → HT.lexLt x y = true
  | [], _, _, _, _, h, _ => by simp at h
  | [_], _, _, _, _, _, h => by simp at h
  | a :: b :: r, 0, x, y, h, h1, h2 => by
    have h' : (HT.lexLt a b && ascI (b :: r)) = true := h
    rw [Bool.and_eq_true] at h'
    obtain rfl := Option.some.inj h1
    obtain rfl := Option.some.inj h2
    exact h'.1
  | a :: b :: r, j + 1, x, y, h, h1, h2 => by
    have h' : (HT.lexLt a b && ascI (b :: r)) = true := h
    rw [Bool.and_eq_true] at h'
    exact ascI_get (rows := b :: r) (j := j) h'.2 h1 h2
end Kb

set_option Elab.async false
set_option linter.all false
set_option maxRecDepth 100000
set_option maxHeartbeats 4000000
/-! Tr: a try whose first clause, 'except x as n', takes all that the body lets out; whatever stands behind it. -/
namespace Tr
open PySem PySem.Spec PyProof.Rows L2
/-- the exception at a lies still, its class and dict known; z: the state ahead of it -/
structure Lain (X : Cx) (pins : List (Addr × Obj)) (σ : L2.St) (H : Hp) (cls : Value) (d : Option Addr) (a : Addr) (B : Heap) (z s : Shared) : Prop where
  inv : Inv X pins σ H z
  gr : ∀ b o, z.heap.get? b = some o → b ∉ frs X.stack → B.get? b = some o
  up : z.heap.UpToSlots s.heap
  fl : HandSPX.FlyingZ B (X.env :: X.outer) a (Zc cls d) s.heap
  na : H a = none
  os : s.os = z.os
  ag : AllBare s.gens
section
variable {X : Cx} {pins : List (Addr × Obj)} {σ : L2.St} {H : Hp} {cls : Value} {d : Option Addr} {a : Addr} {B : Heap} {z s : Shared}
theorem Lain.again (l : Lain X pins σ H cls d a B z s) {h : Heap} (up : s.heap.UpToSlots h) (fl : HandSPX.FlyingZ B (X.env :: X.outer) a (Zc cls d) h) : Lain X pins σ H cls d a B z { s with heap := h } :=
  ⟨l.inv, l.gr, l.up.trans up, fl, l.na, l.os, l.ag⟩
theorem Lain.here (l : Lain X pins σ H cls d a B z s) : Inv X pins σ H s := l.inv.landed l.gr l.fl.1 l.up l.os l.ag
theorem Lain.suite (l : Lain X pins σ H cls d a B z s) (hf : X.env.frame = some X.env.locals) : ∃ oe, s.heap.get? a = some oe ∧ Zc cls d oe ∧ (∃ us, oe.data = .fields us) ∧ Inv (X.suite a ((a, oe) :: (X.pn ++ pins))) [] σ H s := by
  obtain ⟨oe, us, at_, zc, da⟩ := l.fl.there
  have off : a ∉ frs (X.env :: X.outer) := by
    intro m
    obtain ⟨_, o, e, q⟩ := l.fl.2.2.1.mem m
    rw [at_] at e
    cases e
    exact q _ da
  refine ⟨oe, at_, zc, ⟨us, da⟩, l.here.suite at_ da l.na (fun q => off ?_) fun m => off ?_⟩
  · exact List.mem_filterMap.mpr ⟨X.env, by simp, by rw [hf, q]⟩
  · obtain ⟨e, m1, m2⟩ := List.mem_filterMap.mp m
    exact List.mem_filterMap.mpr ⟨e, by simp [m1], m2⟩
/-- the clause's class is looked up in the suite's context -/
theorem named {x : Str} {c : Value} {p : Pos} {oe : Obj} {Q E : Value → Shared → Prop} (nm : Names X x c) (S : Inv (X.suite a ((a, oe) :: (X.pn ++ pins))) [] σ H s) (q : Q c s) :
    wpAny (model X.prog X.w) (X.A.mark (some (.ref a))) (eval (.Name x p) X.env) Q E s := by
  obtain ⟨g, nd, w⟩ := nm
  rcases w with m | ⟨m, v, n⟩
  · exact ld_glob S g m q nd
  · exact ld_blt S g m v q n nd
end
/-- behind the suite the name is gone -/
def gone (i : Nat) (D : Ends) : Ends := { nx := fun σ H => D.nx (σ.set i none) H, rt := D.rt, bk := fun σ H => D.bk (σ.set i none) H, ct := fun σ H => D.ct (σ.set i none) H }
def wFirst (K : PySem.W.Frag) (n : Nat) (c : Value) (i : Nat) (ts : Addr → Value → Option Addr → TS) (D : Ends) : WX := fun cls d σ H =>
  PySem.W.exmOne K cls c = some true ∧ ∀ a, H a = none → σ.length = n → ts a cls d (gone i D) (σ.set i (some (.ref a))) H
theorem ps_try_first {X : Cx} {x n : Str} {c : Value} {i : Nat} {body suite : List Stmt} {b : Stmt} {p1 p2 p3 : Pos} {more : List ExceptHandler} {tb : WX → TS} {ts : Addr → Value → Option Addr → TS}
    (st : X.stack = X.env :: X.outer) (hf : X.env.frame = some X.env.locals) (nd : X.N.Nodup) (hi : X.N[i]? = some n) (kn : X.env.kindOf n = some .local) (nm : Names X x c)
    (hb : ∀ (W : WX) (pn : List (Addr × Obj)) (xe : Value → Shared → Prop), Takes (X.tr pn xe) W → PSs (X.tr pn xe) body (tb W))
    (hu : ∀ (a : Addr) (oe : Obj) (cls : Value) (d : Option Addr) (pn : List (Addr × Obj)), Zc cls d oe → (∃ us, oe.data = .fields us) → PSs (X.suite a ((a, oe) :: pn)) (b :: suite) (ts a cls d)) :
    PS X (.Try body (.ExceptHandler (some (.Name x p1)) (some n) (b :: suite) p2 :: more) [] [] p3) (fun D σ H => tb (wFirst X.K X.N.length c i ts D) D σ H) := by
  refine ⟨fun pins s σ H D I told => ?_⟩
  have ok := I.ok
  have fr : X.A.frames = some (X.env :: X.outer) := ok.frames.trans (congrArg some st)
  refine wpAny_Try_except (wpAny_mono ((hb (wFirst X.K X.N.length c i ts D) (X.pn ++ pins) _ (fun u s1 out => ?_)).run [] s σ H D (I.toTry _) told) (fun f s1 end1 => ?_) fun _ _ q => q)
  · obtain ⟨a, B, z, pins1, σ1, H1, cls, d, rfl, J0, gr, up, sky, na, os, ag, yes, k⟩ := out
    have J : Inv X pins σ1 H1 z := J0.ofTry ok
    have sky1 : Sky B (X.env :: X.outer) a (Zc cls d) X.env.locals s1.heap := st ▸ sky
    show wpAny (model X.prog X.w) X.A (noteFrame (.ref a) X.env) _ _ _
    refine Sky.land Zc.steady fr hf sky1 fun h2 fl2 up2 => ?_
    have L : Lain X pins σ1 H1 cls d a B z { s1 with heap := h2 } := ⟨J, gr, up.trans up2, fl2, na, os, ag⟩
    obtain ⟨oe, at_, zc, _, S⟩ := L.suite hf
    refine wpAny_handleBy_cons (codeAny_handlers_test (named nm S ?_)) (by intro q; cases q)
    have ty : PySem.W.Looks (model X.prog X.w) h2 (typeOf (.ref a)) cls := fun _ _ _ _ keep q => wpAny_typeOf_ref (keep _ _ at_) (zc.1.symm ▸ q)
    refine (PySem.W.exm_one (M := model X.prog X.w) L.here.kIn ty yes).here (codeAny_handlers_suite_as (HandSPX.lands_againZ fl2 fun h3 fl3 up3 => ?_))
    obtain ⟨oe3, _, zc3, da3, S3⟩ := (L.again up3 fl3).suite hf
    refine store_ok (X := X.suite a ((a, oe3) :: (X.pn ++ pins))) (v := .ref a) S3 nd hi (.inl kn) rfl (fun s4 S4 => ?_) (.inr kn)
    refine wpAny_mono ((hu a oe3 cls d (X.pn ++ pins) zc3 da3).run [] s4 _ H1 _ S4 (k a na J.len)) (fun f s5 end5 => ?_) fun _ _ q => q.elim
    have left : ∀ {σ5 : L2.St} {H5 : Hp} {Q : Shared → Prop}, Inv (X.suite a ((a, oe3) :: (X.pn ++ pins))) [] σ5 H5 s5 → (∀ s6, Inv X pins (σ5.set i none) H5 s6 → Q s6) →
        wpAny (model X.prog X.w) X.A (do bindName X.env n .none; unbindBehindTheSuite X.env n p2) (fun _ s6 => Q s6) X.xe s5 := fun {σ5 H5 Q} S5 q => gone_ok (S5.unsuite ok) nd hi kn q
    cases f with
    | ret u =>
      obtain ⟨v, σ5, H5, S5, r, q⟩ := end5
      exact left S5 fun s6 J6 => ⟨v, _, H5, J6, r, q⟩
    | next =>
      obtain ⟨σ5, H5, S5, q⟩ := end5
      exact left S5 fun s6 J6 => ⟨_, H5, J6, q⟩
    | brk =>
      obtain ⟨σ5, H5, S5, q⟩ := end5
      exact left S5 fun s6 J6 => ⟨_, H5, J6, q⟩
    | cont =>
      obtain ⟨σ5, H5, S5, q⟩ := end5
      exact left S5 fun s6 J6 => ⟨_, H5, J6, q⟩
  · cases f with
    | next =>
      obtain ⟨σ2, H2, J2, q⟩ := end1
      exact wpAny_execs_nil ⟨σ2, H2, J2.ofTry ok, q⟩
    | ret u =>
      obtain ⟨v, σ2, H2, J2, r, q⟩ := end1
      exact ⟨v, σ2, H2, J2.ofTry ok, r, q⟩
    | brk =>
      obtain ⟨σ2, H2, J2, q⟩ := end1
      exact ⟨σ2, H2, J2.ofTry ok, q⟩
    | cont =>
      obtain ⟨σ2, H2, J2, q⟩ := end1
      exact ⟨σ2, H2, J2.ofTry ok, q⟩
end Tr

set_option Elab.async false
set_option linter.all false
set_option maxRecDepth 100000
set_option maxHeartbeats 4000000
local macro_rules | `(tactic| walk_at "sub") => `(tactic| first | assumption | exact W.sub (by assumption) | exact W.sub (Stp.w (by assumption)))
local macro_rules | `(tactic| walk_at "dr") => `(tactic| first | assumption | exact Dr.int _ | exact Dr.bl _ | exact Dr.str _ | exact Dr.non)
local macro_rules | `(tactic| walk_at "hp") => `(tactic| first | assumption | exact upd_same | (refine Kb.keep_ne ‹_› ?_ ?_ <;> assumption))
local macro_rules | `(tactic| walk_at "sq") => `(tactic| first | assumption | exact .inl (.inl (by walk_at "hp")))
local macro_rules | `(tactic| walk_at "side") => `(tactic| (first | decide | assumption | omega | exact Or.inr ⟨by decide, by decide⟩ | exact Or.inl ⟨by omega, by omega⟩ | exact Or.inr ⟨by omega, by omega⟩ | exact ⟨by omega, by omega⟩ | exact ⟨by decide, by decide, by decide⟩ | exact Or.inl ⟨by decide, by decide⟩))
local macro_rules | `(tactic| walk_at "go1") => `(tactic| first
  | with_reducible first
    | refine Kb.go_seq ?_ | refine Kb.go_asg ?_ | refine Kb.go_name ?_ | refine Kb.go_if ?_ | refine Kb.go_ret ?_ | refine Kb.go_retN ?_ | refine Kb.go_next ?_ | refine Kb.go_drop ?_
    | refine Kb.go_test ?_ | refine Kb.go_B ?_ | refine Kb.go_and ?_ | refine Kb.go_or ?_ | refine Kb.go_not ?_ | refine Kb.go_andV ?_ | refine Kb.go_orV ?_ | refine Kb.go_notV ?_ | refine Kb.go_ifE ?_
    | refine Kb.go_op ?_ | refine Kb.go_un ?_ | refine Kb.go_c ?_ | refine Kb.go_cons ?_ | refine Kb.go_nil ?_ | refine Kb.go_cbInt ?_ | refine Kb.go_cbAbs ?_ | refine Kb.go_cbLen ?_ | refine Kb.go_cb ?_ | refine Kb.go_call ?_
    | refine Kb.go_lc ?_ | refine Kb.go_bm ?_ | refine Kb.go_fld ?_ | refine Kb.go_for ?_ | refine Kb.go_izip ?_ | refine Kb.go_revT ?_ | refine Kb.go_iEn ?_ | refine Kb.go_iL ?_ | refine Kb.go_iT ?_ | refine Kb.go_iR ?_ | refine Kb.go_iR2 ?_ | refine Kb.go_sl ?_ | refine Kb.go_noPart ?_ | refine Kb.go_part ?_ | refine Kb.go_wI ?_ | refine Kb.go_chain ?_ | refine Kb.go_tup ?_ | refine Kb.go_lst ?_ | refine Kb.go_dnew ?_
    | refine Kb.go_I0 ?_ | refine Kb.go_neg ?_ | refine Kb.go_eqI ?_ | refine Kb.go_neI ?_ | refine Kb.go_neB ?_ | refine Kb.go_eqB ?_ | refine Kb.go_wB ?_ | refine L2.iteF ?_ | refine L2.iteT ?_ | refine Kb.go_sub ?_ | refine Kb.go_par ?_ | refine Kb.go_w2 ?_ | refine Kb.go_int ?_ | refine Kb.go_abs ?_
  | ((with_reducible refine' Kb.go_var ?goe ?_); (case goe => rfl))
  | ((with_reducible refine' Kb.go_ixL ?gp ?ge ?_); (case gp => walk_at "sq"); (case ge => rfl))
  | ((with_reducible refine' Kb.go_isTup ?gr ?gs ?gd ?_); (case gr => assumption); (case gs => walk_at "sub"); (case gd => walk_at "dr"))
  | ((with_reducible refine' Kb.go_isLst ?gr ?gs ?gd ?_); (case gr => assumption); (case gs => walk_at "sub"); (case gd => walk_at "dr"))
  | ((with_reducible refine' Kb.go_isInt ?gr ?gs ?gd ?_); (case gr => assumption); (case gs => walk_at "sub"); (case gd => walk_at "dr"))
  | ((with_reducible refine' Kb.go_isBool ?gr ?gs ?gd ?_); (case gr => assumption); (case gs => walk_at "sub"); (case gd => walk_at "dr"))
  | ((with_reducible refine' Kb.go_mod ?gc ?_); (case gc => walk_at "side"))
  | ((with_reducible refine' Kb.go_fdiv ?gc ?_); (case gc => walk_at "side"))
  | ((with_reducible refine' Kb.go_mul ?gc ?_); (case gc => walk_at "side"))
  | ((with_reducible refine' Kb.go_pow ?gc ?_); (case gc => walk_at "side"))
  | ((with_reducible refine' Kb.go_lenL ?gp ?_); (case gp => walk_at "sq")))
local macro_rules | `(tactic| walk_at "go") => `(tactic| repeat walk_at "go1")
local macro_rules | `(tactic| walk_at "len") => `(tactic| (simp only [List.length_cons, List.length_nil]; omega))
local macro_rules | `(tactic| walk_at "gs") => `(tactic| first | assumption | ((refine' Kb.same_at ?gq ?gh); (case gq => assumption); (case gh => walk_at "gs")))
local macro_rules | `(tactic| walk_at "hs") => `(tactic| first | assumption | exact W.sub (Stp.w (by assumption)) _ _ (by walk_at "gs"))
namespace K01
open PySem PySem.Spec PyProof.Rows L2 Kb
def top (i : Nat) : Stmt := PySem.Challenge.pw_onesilent_k01_tasks_built_and_refused.main.body.getD i (.Pass ⟨0, 0, 0, 0⟩)
abbrev s_BadTask___init__ : Stmt := inClass (top 3) 0
abbrev N_BadTask___init__ : List Str := ["self", "part"]
theorem sc_BadTask___init__ : FnScope N_BadTask___init__ ["self", "part"] (defScope s_BadTask___init__) := ⟨rfl, rfl, rfl, by decide +kernel, rfl, by decide +kernel, by decide +kernel⟩
abbrev s_is_integer : Stmt := top 5
abbrev N_is_integer : List Str := ["thing"]
theorem sc_is_integer : FnScope N_is_integer ["thing"] (defScope s_is_integer) := ⟨rfl, rfl, rfl, by decide +kernel, rfl, by decide +kernel, by decide +kernel⟩
abbrev s_is_number : Stmt := top 6
abbrev N_is_number : List Str := ["thing", "least", "most"]
theorem sc_is_number : FnScope N_is_number ["thing", "least", "most"] (defScope s_is_number) := ⟨rfl, rfl, rfl, by decide +kernel, rfl, by decide +kernel, by decide +kernel⟩
abbrev s_is_ascending : Stmt := top 7
abbrev N_is_ascending : List Str := ["things", "one", "other"]
theorem sc_is_ascending : FnScope N_is_ascending ["things"] (defScope s_is_ascending) := ⟨rfl, rfl, rfl, by decide +kernel, rfl, by decide +kernel, by decide +kernel⟩
abbrev s_Task___init__ : Stmt := inClass (top 11) 0
abbrev N_Task___init__ : List Str := ["self", "many", "lots", "number", "pair"]
theorem sc_Task___init__ : FnScope N_Task___init__ ["self", "many", "lots"] (defScope s_Task___init__) := ⟨rfl, rfl, rfl, by decide +kernel, rfl, by decide +kernel, by decide +kernel⟩
abbrev s_Task___eq__ : Stmt := inClass (top 11) 1
abbrev N_Task___eq__ : List Str := ["self", "other"]
theorem sc_Task___eq__ : FnScope N_Task___eq__ ["self", "other"] (defScope s_Task___eq__) := ⟨rfl, rfl, rfl, by decide +kernel, rfl, by decide +kernel, by decide +kernel⟩
abbrev s_is_pair : Stmt := top 12
abbrev N_is_pair : List Str := ["many", "thing", "inputs", "lot", "row"]
theorem sc_is_pair : FnScope N_is_pair ["many", "thing"] (defScope s_is_pair) := ⟨rfl, rfl, rfl, by decide +kernel, rfl, by decide +kernel, by decide +kernel⟩
abbrev s_is_task_row : Stmt := top 13
abbrev N_is_task_row : List Str := ["many", "thing", "item"]
theorem sc_is_task_row : FnScope N_is_task_row ["many", "thing"] (defScope s_is_task_row) := ⟨rfl, rfl, rfl, by decide +kernel, rfl, by decide +kernel, by decide +kernel⟩
abbrev s_law_pot : Stmt := top 15
abbrev N_law_pot : List Str := ["script", "cells", "cell"]
theorem sc_law_pot : FnScope N_law_pot ["script"] (defScope s_law_pot) := ⟨rfl, rfl, rfl, by decide +kernel, rfl, by decide +kernel, by decide +kernel⟩
abbrev s_law_draw : Stmt := top 16
abbrev N_law_draw : List Str := ["pot", "many", "cell", "digit", "number"]
theorem sc_law_draw : FnScope N_law_draw ["pot", "many"] (defScope s_law_draw) := ⟨rfl, rfl, rfl, by decide +kernel, rfl, by decide +kernel, by decide +kernel⟩
abbrev s_law_any : Stmt := top 17
abbrev N_law_any : List Str := ["pot", "things"]
theorem sc_law_any : FnScope N_law_any ["pot", "things"] (defScope s_law_any) := ⟨rfl, rfl, rfl, by decide +kernel, rfl, by decide +kernel, by decide +kernel⟩
abbrev s_law_is : Stmt := top 18
abbrev N_law_is : List Str := ["told", "due", "k"]
theorem sc_law_is : FnScope N_law_is ["told", "due"] (defScope s_law_is) := ⟨rfl, rfl, rfl, by decide +kernel, rfl, by decide +kernel, by decide +kernel⟩
abbrev s_law_row : Stmt := top 19
abbrev N_law_row : List Str := ["pot", "many", "most", "k"]
theorem sc_law_row : FnScope N_law_row ["pot", "many", "most"] (defScope s_law_row) := ⟨rfl, rfl, rfl, by decide +kernel, rfl, by decide +kernel, by decide +kernel⟩
abbrev s_law_lots : Stmt := top 20
abbrev N_law_lots : List Str := ["pot", "many", "size", "some", "most", "turn", "row", "found", "lot", "answers"]
theorem sc_law_lots : FnScope N_law_lots ["pot", "many", "size"] (defScope s_law_lots) := ⟨rfl, rfl, rfl, by decide +kernel, rfl, by decide +kernel, by decide +kernel⟩
abbrev s_law_odd : Stmt := top 21
abbrev N_law_odd : List Str := ["pot"]
theorem sc_law_odd : FnScope N_law_odd ["pot"] (defScope s_law_odd) := ⟨rfl, rfl, rfl, by decide +kernel, rfl, by decide +kernel, by decide +kernel⟩
abbrev s_law_no_row : Stmt := top 22
abbrev N_law_no_row : List Str := ["pot", "row", "things"]
theorem sc_law_no_row : FnScope N_law_no_row ["pot", "row"] (defScope s_law_no_row) := ⟨rfl, rfl, rfl, by decide +kernel, rfl, by decide +kernel, by decide +kernel⟩
abbrev s_law_no_lot : Stmt := top 23
abbrev N_law_no_lot : List Str := ["pot", "lot", "things"]
theorem sc_law_no_lot : FnScope N_law_no_lot ["pot", "lot"] (defScope s_law_no_lot) := ⟨rfl, rfl, rfl, by decide +kernel, rfl, by decide +kernel, by decide +kernel⟩
abbrev s_law_part : Stmt := top 24
abbrev N_law_part : List Str := ["ask", "e"]
theorem sc_law_part : FnScope N_law_part ["ask"] (defScope s_law_part) := ⟨rfl, rfl, rfl, by decide +kernel, rfl, by decide +kernel, by decide +kernel⟩
abbrev s_law : Stmt := top 25
abbrev N_law : List Str := ["script", "pot", "turn", "many", "lots", "task", "k", "row", "lot", "bent", "words", "thing", "odd", "great"]
theorem sc_law : FnScope N_law ["script"] (defScope s_law) := ⟨rfl, rfl, rfl, by decide +kernel, rfl, by decide +kernel, by decide +kernel⟩
structure Ad where
  f_BadTask___init__ : Addr
  f_is_integer : Addr
  f_is_number : Addr
  f_is_ascending : Addr
  f_Task___init__ : Addr
  f_Task___eq__ : Addr
  f_is_pair : Addr
  f_is_task_row : Addr
  f_law_pot : Addr
  f_law_draw : Addr
  f_law_any : Addr
  f_law_is : Addr
  f_law_row : Addr
  f_law_lots : Addr
  f_law_odd : Addr
  f_law_no_row : Addr
  f_law_no_lot : Addr
  f_law_part : Addr
  f_law : Addr
  C_SilentError : Addr
  C_NoRow : Addr
  C_BadTask : Addr
  C_Task : Addr
structure Txt (K : PySem.W.Frag) (mg : Str → Option Value) (a : Ad) : Prop where
  fn_BadTask___init__ : ∃ fd, Fun K "__init__" "BadTask.__init__" s_BadTask___init__ a.f_BadTask___init__ fd
  g_is_integer : mg "is_integer" = some (.ref a.f_is_integer)
  fn_is_integer : ∃ fd, Fun K "is_integer" "is_integer" s_is_integer a.f_is_integer fd
  g_is_number : mg "is_number" = some (.ref a.f_is_number)
  fn_is_number : ∃ fd, Fun K "is_number" "is_number" s_is_number a.f_is_number fd
  g_is_ascending : mg "is_ascending" = some (.ref a.f_is_ascending)
  fn_is_ascending : ∃ fd, Fun K "is_ascending" "is_ascending" s_is_ascending a.f_is_ascending fd
  fn_Task___init__ : ∃ fd, Fun K "__init__" "Task.__init__" s_Task___init__ a.f_Task___init__ fd
  fn_Task___eq__ : ∃ fd, Fun K "__eq__" "Task.__eq__" s_Task___eq__ a.f_Task___eq__ fd
  g_is_pair : mg "_is_pair" = some (.ref a.f_is_pair)
  fn_is_pair : ∃ fd, Fun K "_is_pair" "_is_pair" s_is_pair a.f_is_pair fd
  g_is_task_row : mg "_is_task_row" = some (.ref a.f_is_task_row)
  fn_is_task_row : ∃ fd, Fun K "_is_task_row" "_is_task_row" s_is_task_row a.f_is_task_row fd
  g_law_pot : mg "_law_pot" = some (.ref a.f_law_pot)
  fn_law_pot : ∃ fd, Fun K "_law_pot" "_law_pot" s_law_pot a.f_law_pot fd
  g_law_draw : mg "_law_draw" = some (.ref a.f_law_draw)
  fn_law_draw : ∃ fd, Fun K "_law_draw" "_law_draw" s_law_draw a.f_law_draw fd
  g_law_any : mg "_law_any" = some (.ref a.f_law_any)
  fn_law_any : ∃ fd, Fun K "_law_any" "_law_any" s_law_any a.f_law_any fd
  g_law_is : mg "_law_is" = some (.ref a.f_law_is)
  fn_law_is : ∃ fd, Fun K "_law_is" "_law_is" s_law_is a.f_law_is fd
  g_law_row : mg "_law_row" = some (.ref a.f_law_row)
  fn_law_row : ∃ fd, Fun K "_law_row" "_law_row" s_law_row a.f_law_row fd
  g_law_lots : mg "_law_lots" = some (.ref a.f_law_lots)
  fn_law_lots : ∃ fd, Fun K "_law_lots" "_law_lots" s_law_lots a.f_law_lots fd
  g_law_odd : mg "_law_odd" = some (.ref a.f_law_odd)
  fn_law_odd : ∃ fd, Fun K "_law_odd" "_law_odd" s_law_odd a.f_law_odd fd
  g_law_no_row : mg "_law_no_row" = some (.ref a.f_law_no_row)
  fn_law_no_row : ∃ fd, Fun K "_law_no_row" "_law_no_row" s_law_no_row a.f_law_no_row fd
  g_law_no_lot : mg "_law_no_lot" = some (.ref a.f_law_no_lot)
  fn_law_no_lot : ∃ fd, Fun K "_law_no_lot" "_law_no_lot" s_law_no_lot a.f_law_no_lot fd
  g_law_part : mg "_law_part" = some (.ref a.f_law_part)
  fn_law_part : ∃ fd, Fun K "_law_part" "_law_part" s_law_part a.f_law_part fd
  g_law : mg "law" = some (.ref a.f_law)
  fn_law : ∃ fd, Fun K "law" "law" s_law a.f_law fd
  b_isinstance : mg "isinstance" = none
  b_bool : mg "bool" = none
  b_int : mg "int" = none
  b_all : mg "all" = none
  b_zip : mg "zip" = none
  b_len : mg "len" = none
  b_tuple : mg "tuple" = none
  b_enumerate : mg "enumerate" = none
  b_abs : mg "abs" = none
  b_list : mg "list" = none
  b_range : mg "range" = none
  b_sorted : mg "sorted" = none
  c_MOST_ROWS : ∃ t, mg "MOST_ROWS" = some (.int 60 t)
  c_MOST_NUMBER : ∃ t, mg "MOST_NUMBER" = some (.int 9999 t)
  nr : NoR K a.C_NoRow
  o_BadTask : OexC K a.C_BadTask
  i_BadTask : PySem.W.findIn K (.ref a.C_BadTask) "__init__" = some (some (.ref a.f_BadTask___init__))
  t_BadTask : PySem.W.typeIn K (.ref a.f_BadTask___init__) = some (.type "function")
  p_BadTask : PySem.W.findIn K (.ref a.C_BadTask) "part" = some none
  g_BadTask : mg "BadTask" = some (.ref a.C_BadTask)
  x_NoRow : PySem.W.excIn K a.C_NoRow [.type "ValueError", .type "Exception", .type "BaseException", .type "object"] "ValueError.__new__" = true
  g_NoRow : mg "NoRow" = some (.ref a.C_NoRow)
  k_NoRow : PySem.W.keepIn K (.ref a.C_NoRow) = true
  cl_Task : Cls K a.C_Task
  nMany : NoAttr K a.C_Task "many"
  nLots : NoAttr K a.C_Task "lots"
  g_Task : mg "Task" = some (.ref a.C_Task)
  in_Task : InsC K a.C_Task
  own_Task : OwnEqC K a.C_Task a.f_Task___eq__
  mk_Task : Mk K a.C_Task a.f_Task___init__
  xm_BadTask : PySem.W.exmOne K (.ref a.C_BadTask) (.ref a.C_BadTask) = some true
  xf_BadTask : XfC K a.C_BadTask

section
variable {P : Program} {w : World} {K : PySem.W.Frag} {mg : Str → Option Value} {base : Heap} {a : Ad}
theorem ok_law_draw (T : Txt K mg a) : OkD P w K mg base CX0 1 a.f_law_draw ["pot", "many"] spDraw := by
  obtain ⟨fd, F⟩ := T.fn_law_draw
  refine ⟨⟨fd, ?_, F.binds fun _ _ _ _ _ _ us hl => match us, hl with | [_, _], _ => rfl⟩, F.kp⟩
  refine F.ok sc_law_draw (fun vs H Q E h => ?_) (fun cdv A outer s H vs Q E hr h => ?_)
  · obtain ⟨p, c, ns, m, rfl, _⟩ := h
    rfl
  · obtain ⟨p, c, ns, m, rfl, hm, hm2, ⟨i, d, x, n, hp, hi⟩, hc, k⟩ := h
    refine ⟨_, (pss_cons (ps_if (PW.pt (pw_and (pt_cmpR op_eq (pe_ix (kIxL (K := K) rfl) (pv 0) pe_int (fun _ _ => rfl)) pe_int (nomark _)) (pw_and1 (pt_cmpR op_lt (pe_ix (kIxL (K := K) rfl) (pv 0) pe_int (fun _ _ => rfl)) (pe_callB (kLen (K := K) rfl) (by rfl) T.b_len (by decide +kernel) (pa_cons (pe_ix (kIxL (K := K) rfl) (pv 0) pe_int (fun _ _ => rfl)) pa_nil)) (nomark _)))))
      (pss_cons (ps_set (i := 2) sc_law_draw.nd rfl (by first | exact Or.inl rfl | exact Or.inr rfl) (pe_ix (kIxL (K := K) rfl) (pe_ix (kIxL (K := K) rfl) (pv 0) pe_int (fun _ _ => rfl)) (pe_ix (kIxL (K := K) rfl) (pv 0) pe_int (fun _ _ => rfl)) (fun _ _ => rfl)))
      (pss_cons (ps_asg (pe_op op_add (pe_ix (kIxL (K := K) rfl) (pv 0) pe_int (fun _ _ => rfl)) pe_int) (pg_sub (pv 0) pe_int set_list))
      (pss_cons (ps_asg (pe_op op_modN (pe_callTy call_int1 (by rfl) T.b_int (by decide +kernel) (pa_cons (pe_op op_add (pe_op op_add (pe_op op_mul (pe_ix (kIxL (K := K) rfl) (pv 0) pe_int (fun _ _ => rfl)) pe_int) (pv 2)) pe_int) pa_nil)) pe_int) (pg_sub (pv 0) pe_int set_list))
      (pss_one (ps_if (pt_cmpR op_ge (pv 2) (pe_op op_pow pe_int pe_int) (nomark _))
        (pss_one (ps_asg (pv 2) (pg_sub (pv 0) pe_int set_list)))
        pss_nil)))))
      pss_nil)
    (pss_cons (ps_if (pt_cmpR op_gt (pe_ix (kIxL (K := K) rfl) (pv 0) pe_int (fun _ _ => rfl)) pe_int (nomark _))
      (pss_cons (ps_set (i := 3) sc_law_draw.nd rfl (by first | exact Or.inl rfl | exact Or.inr rfl) (pe_op op_modN (pe_callTy call_int1 (by rfl) T.b_int (by decide +kernel) (pa_cons (pe_ix (kIxL (K := K) rfl) (pv 0) pe_int (fun _ _ => rfl)) pa_nil)) (pv 1)))
      (pss_cons (ps_asg (pe_op op_fdivN (pe_ix (kIxL (K := K) rfl) (pv 0) pe_int (fun _ _ => rfl)) (pv 1)) (pg_sub (pv 0) pe_int set_list))
      (pss_one (ps_ret (pv 3)))))
      pss_nil)
    (pss_cons (ps_asg (pe_op op_add (pe_ix (kIxL (K := K) rfl) (pv 0) pe_int (fun _ _ => rfl)) pe_int) (pg_sub (pv 0) pe_int set_list))
    (pss_cons (ps_set (i := 4) sc_law_draw.nd rfl (by first | exact Or.inl rfl | exact Or.inr rfl) (pe_op op_modN (pe_callTy call_int1 (by rfl) T.b_int (by decide +kernel) (pa_cons (pe_op op_mul (pe_callTy call_int1 (by rfl) T.b_int (by decide +kernel) (pa_cons (pe_op op_add (pe_ix (kIxL (K := K) rfl) (pv 0) pe_int (fun _ _ => rfl)) (pe_op op_mul pe_int (pe_ix (kIxL (K := K) rfl) (pv 0) pe_int (fun _ _ => rfl)))) pa_nil)) pe_int) pa_nil)) pe_int))
    (pss_cons (ps_set (i := 4) sc_law_draw.nd rfl (by first | exact Or.inl rfl | exact Or.inr rfl) (pe_op op_modN (pe_callTy call_int1 (by rfl) T.b_int (by decide +kernel) (pa_cons (pe_op op_mul (pv 4) (pe_op op_add (pe_op op_fdivN (pv 4) pe_int) pe_int)) pa_nil)) pe_int))
    (pss_cons (ps_set (i := 4) sc_law_draw.nd rfl (by first | exact Or.inl rfl | exact Or.inr rfl) (pe_op op_modN (pe_callTy call_int1 (by rfl) T.b_int (by decide +kernel) (pa_cons (pe_op op_mul (pv 4) (pe_op op_add (pe_op op_fdivN (pv 4) pe_int) pe_int)) pa_nil)) pe_int))
    (pss_one (ps_ret (pe_op op_modN (pe_callTy call_int1 (by rfl) T.b_int (by decide +kernel) (pa_cons (pe_op op_fdivN (pv 4) pe_int) pa_nil)) (pv 1)))))))))), ?_⟩
    rw [show L2.start N_law_draw [V.ref p, V.int m] = [some (.ref p), some (.int m), none, none, none] from rfl]
    have hcp := pot_ne hp hc
    refine Kb.go_cut (fun X => ∀ (v : Option V) (H' : Hp) (i d x n : Int), H' p = some (.lst [.ref c, .int i, .int d, .int x, .int n]) → (∀ b, b ≠ p → H' b = H b) → 0 ≤ i → X [some (.ref p), some (.int m), v, none, none] H') ?_ ?_
    · intro v H1 i d x n hp1 hk1 hi
      walk_at "go"
      apply Kb.ite_split <;> intro hd
      · walk_at "go"
        refine Kb.go_set2 hp1 fun H2 hp2 hk2 => ?_
        walk_at "go"
        exact k _ H2 (Int.fmod_nonneg_of_pos _ hm) (Int.fmod_lt_of_pos _ hm) ⟨i, _, x, n, hp2, hi⟩ fun b n => by rw [hk2 b n, hk1 b n]
      · walk_at "go"
        refine Kb.go_set4 hp1 fun H2 hp2 hk2 => ?_
        walk_at "go"
        have y1 := Int.fmod_nonneg_of_pos ((x + 7919 * (n + 1)) * 48271) (show (0 : Int) < 2147483647 by decide)
        have y2 := Int.fmod_lt_of_pos ((x + 7919 * (n + 1)) * 48271) (show (0 : Int) < 2147483647 by decide)
        generalize ((x + 7919 * (n + 1)) * 48271).fmod 2147483647 = y at y1 y2 ⊢
        walk_at "go"
        have z1 := Int.fmod_nonneg_of_pos (y * (y.fdiv 1009 + 69621)) (show (0 : Int) < 2147483647 by decide)
        have z2 := Int.fmod_lt_of_pos (y * (y.fdiv 1009 + 69621)) (show (0 : Int) < 2147483647 by decide)
        generalize (y * (y.fdiv 1009 + 69621)).fmod 2147483647 = z at z1 z2 ⊢
        walk_at "go"
        exact k _ H2 (Int.fmod_nonneg_of_pos _ hm) (Int.fmod_lt_of_pos _ hm) ⟨i, d, x, _, hp2, hi⟩ fun b n => by rw [hk2 b n, hk1 b n]
    · intro X hX
      walk_at "go"
      apply Kb.ite_split <;> intro hd
      · walk_at "go"
        apply Kb.ite_split <;> intro hl
        · walk_at "go"
          have hl2 : i < (ns.length : Int) := by simpa using hl
          have hz : atI (ns.map V.int) i = some (.int (ns.getD i.toNat 0)) := by
            obtain ⟨q, rfl⟩ := Int.eq_ofNat_of_zero_le hi
            refine atI_nat ?_
            have hq : q < ns.length := by omega
            simp [List.getD_eq_getElem?_getD, hq]
          refine Kb.go_ixL (.inl (.inl hc)) hz ?_
          walk_at "go"
          refine Kb.go_set1 hp fun H2 hp2 hk2 => ?_
          walk_at "go"
          refine Kb.go_set3 hp2 fun H3 hp3 hk3 => ?_
          walk_at "go"
          have hk : ∀ b, b ≠ p → H3 b = H b := fun b n => by rw [hk3 b n, hk2 b n]
          apply Kb.ite_split <;> intro hg
          · walk_at "go"
            refine Kb.go_set2 hp3 fun H4 hp4 hk4 => ?_
            walk_at "go"
            exact hX _ _ _ _ _ _ hp4 (fun b n => by rw [hk4 b n, hk b n]) (by omega)
          · walk_at "go"
            exact hX _ _ _ _ _ _ hp3 hk (by omega)
        · walk_at "go"
          exact hX _ _ _ _ _ _ hp (fun _ _ => rfl) hi
      · walk_at "go"
        exact hX _ _ _ _ _ _ hp (fun _ _ => rfl) hi
theorem ok_law_any (T : Txt K mg a) : OkD P w K mg base CX0 2 a.f_law_any ["pot", "things"] spAny := by
  obtain ⟨fd, F⟩ := T.fn_law_any
  obtain ⟨⟨fd_law_draw, G_law_draw, b_law_draw⟩, kp_law_draw⟩ := ok_law_draw (P := P) (w := w) (base := base) T
  refine ⟨⟨fd, ?_, F.binds fun _ _ _ _ _ _ us hl => match us, hl with | [_, _], _ => rfl⟩, F.kp⟩
  refine F.ok sc_law_any (fun vs H Q E h => ?_) (fun cdv A outer s H vs Q E hr h => ?_)
  · obtain ⟨p, c, l, ns, xs, rfl, _⟩ := h
    rfl
  · obtain ⟨p, c, l, ns, xs, rfl, hp, hc, lp, hl, hn, hm, k⟩ := h
    refine ⟨_, (pss_one (ps_ret (pe_ix (kIxS (K := K) rfl) (pv 1) (pe_call G_law_draw (hr.mono (by first | decide | omega)) rfl T.g_law_draw kp_law_draw b_law_draw .nil pass0 (pa_cons (pv 0) (pa_cons (pe_callB (kLen (K := K) rfl) (by rfl) T.b_len (by decide +kernel) (pa_cons (pv 1) pa_nil)) pa_nil))) (fun _ _ => rfl)))), ?_⟩
    rw [show L2.start N_law_any [V.ref p, V.ref l] = [some (.ref p), some (.ref l)] from rfl]
    have hx : 0 < xs.length := List.length_pos_iff.mpr hn
    walk_at "go"
    refine go_lenS hl ?_
    walk_at "go"
    refine ⟨p, c, ns, _, rfl, by omega, by omega, hp, hc, fun r H' h0 h1 q kk => ?_⟩
    obtain ⟨x, hx, e⟩ := at_mem (xs := xs) h0 (by omega)
    refine go_ixS (xs := xs) (by rw [kk l lp]; exact hl) e ?_
    exact k x H' hx q kk
theorem ok_law_pot (T : Txt K mg a) : OkD P w K mg base CX0 1 a.f_law_pot ["script"] (spPot K) := by
  obtain ⟨fd, F⟩ := T.fn_law_pot
  refine ⟨⟨fd, ?_, F.binds fun _ _ _ _ _ _ us hl => match us, hl with | [_], _ => rfl⟩, F.kp⟩
  refine F.ok sc_law_pot (fun vs H Q E h => ?_) (fun cdv A outer s H vs Q E hr h => ?_)
  · obtain ⟨c, ns, rfl, _⟩ := h
    rfl
  · obtain ⟨a0, ns, rfl, hS, hn, k⟩ := h
    refine ⟨_, (pss_cons (ps_setLc (i := 1) (own := [("cell", 2)]) (by rfl) sc_law_pot.nd rfl rfl (sw_true rfl rfl rfl (by decide +kernel)) (kpList (K := K) (pe_slice (kSlL (K := K) rfl) (pv 0) po_none (po_some pe_int)) rfl) (blkOk_by (own := [("cell", 2)]) (N := N_law_pot) (sc := defScope s_law_pot) (by decide +kernel)) (fun _ _ _ _ _ => (pg_name (i := 2) sc_law_pot.nd rfl (Or.inl rfl))) (fun _ _ _ _ _ => pts_nil) (fun _ _ _ _ _ => (pe_callB call_abs (by rfl) T.b_abs (by decide +kernel) (pa_cons (pe_callTy call_int1 (by rfl) T.b_int (by decide +kernel) (pa_cons (pv 2) pa_nil)) pa_nil))))
    (pss_one (ps_ret (pe_lst (pa_cons (pv 1) (pa_cons pe_int (pa_cons pe_int (pa_cons (pe_op op_add pe_int (pe_callB (kLen (K := K) rfl) (by rfl) T.b_len (by decide +kernel) (pa_cons (pv 1) pa_nil))) (pa_cons pe_int pa_nil))))))))), ?_⟩
    rw [show L2.start N_law_pot [V.ref a0] = [some (.ref a0), none, none] from rfl]
    walk_at "go"
    refine go_slL hS fun b hb => ?_
    obtain ⟨ms, em, hm⟩ := cutV_ints ns none (some 63)
    rw [em]
    refine ⟨b, rfl, ⟨_, .inl (.inl upd_same)⟩, fun D hD => ?_⟩
    have sb : Same H (upd H b (.lst (ms.map V.int))) := same_new hb
    refine lcl_list (xs := ms.map V.int) (fun i acc H' => Same (upd H b (.lst (ms.map V.int))) H' ∧ i = acc.length ∧ ∃ ks : List Int, acc = ks.map V.int) ⟨same_new hD, rfl, [], rfl⟩ (fun i acc H' _ _ h => .inl (.inl (h.1 _ _ upd_same))) ?_ ?_
    · rintro i x acc H' hx hacc ⟨s1, hi, ks, rfl⟩
      obtain ⟨z, hz, rfl⟩ : ∃ z, ms[i]? = some z ∧ x = V.int z := by
        rw [List.getElem?_map] at hx
        cases e : ms[i]? with
        | none => rw [e] at hx; cases hx
        | some z => rw [e] at hx; exact ⟨z, rfl, (Option.some.inj hx).symm⟩
      walk_at "go"
      refine accQ hacc ?_ ⟨same_mut s1 hD, by rw [List.length_append, hi]; rfl, ks ++ [_], (by rw [List.map_append]; rfl)⟩
      have hlt := (List.getElem?_eq_some_iff.mp hz).1
      rw [← hi]
      omega
    · rintro acc H' hacc ⟨s1, hi, ks, rfl⟩
      walk_at "go"
      refine ⟨small (by show 5 ≤ 100000; decide), fun p hp => ?_⟩
      have hDp : D ≠ p := ne_of_none hacc hp
      refine k p (fun q => if q = D then some (.lst (ks.map V.int)) else none) _ ⟨⟨D, ks, ⟨_, _, _, _, upd_same, by decide⟩, if_pos rfl⟩, if_neg hDp.symm, fun q o e => ?_⟩ ((sb.trans s1).trans (same_new hp))
      by_cases hq : q = D
      · subst hq
        rw [if_pos rfl] at e
        cases e
        rw [upd_ne hDp]
        exact hacc
      · rw [if_neg hq] at e
        cases e
end
end K01

set_option Elab.async false
set_option linter.all false
set_option maxRecDepth 100000
set_option maxHeartbeats 4000000
namespace K01
open PySem PySem.Spec PyProof.Rows L2 Kb
section
variable {P : Program} {w : World} {K : PySem.W.Frag} {mg : Str → Option Value} {base : Heap} {a : Ad}
theorem ok_is_integer (T : Txt K mg a) : OkD P w K mg base CX0 1 a.f_is_integer ["thing"] (spIsInt a.C_NoRow) := by
  obtain ⟨fd, F⟩ := T.fn_is_integer
  refine ⟨⟨fd, ?_, F.binds fun _ _ _ _ _ _ us hl => match us, hl with | [_], _ => rfl⟩, F.kp⟩
  refine F.ok sc_is_integer (fun vs H Q E h => ?_) (fun cdv A outer s H vs Q E hr h => ?_)
  · obtain ⟨G, v, d, rfl, _⟩ := h
    rfl
  · obtain ⟨G, v, d, rfl, hs, hd, k⟩ := h
    have R := T.nr
    refine ⟨_, (pss_one (ps_ret (pe_and (pe_callB (kIsD (K := K) T.nr rfl) (by rfl) T.b_isinstance (by decide +kernel) (pa_cons (pv 0) (pa_cons (pe_bltn (v := .ty "int") (u := .type "int") (by rfl) T.b_int (by decide +kernel) rfl) pa_nil))) (pe_one (pe_not (pe_callB (kIsD (K := K) T.nr rfl) (by rfl) T.b_isinstance (by decide +kernel) (pa_cons (pv 0) (pa_cons (pe_bltn (v := .ty "bool") (u := .type "bool") (by rfl) T.b_bool (by decide +kernel) rfl) pa_nil)))))))), ?_⟩
    rw [show L2.start N_is_integer [v] = [some v] from rfl]
    walk_at "go"
    cases d with
    | int i => refine iteT ?_; walk_at "go"; exact k
    | bool i => refine iteT ?_; walk_at "go"; exact k
    | _ => exact iteF k
theorem ok_is_number (T : Txt K mg a) : OkD P w K mg base CX0 2 a.f_is_number ["thing", "least", "most"] (spIsNum a.C_NoRow) := by
  obtain ⟨fd, F⟩ := T.fn_is_number
  obtain ⟨⟨fd_is_integer, G_is_integer, b_is_integer⟩, kp_is_integer⟩ := ok_is_integer (P := P) (w := w) (base := base) T
  refine ⟨⟨fd, ?_, F.binds fun _ _ _ _ _ _ us hl => match us, hl with | [_, _, _], _ => rfl⟩, F.kp⟩
  refine F.ok sc_is_number (fun vs H Q E h => ?_) (fun cdv A outer s H vs Q E hr h => ?_)
  · obtain ⟨G, v, d, lo, hi, rfl, _⟩ := h
    rfl
  · obtain ⟨G, v, d, lo, hi, rfl, hs, hd, k⟩ := h
    refine ⟨_, (pss_one (ps_ret (pe_and (pe_call G_is_integer (hr.mono (by first | decide | omega)) rfl T.g_is_integer kp_is_integer b_is_integer .nil pass0 (pa_cons (pv 0) pa_nil)) (pe_one (pe_chain op_le op_le (pv 1) (pv 0) (pv 2)))))), ?_⟩
    rw [show L2.start N_is_number [v, .int lo, .int hi] = [some v, some (.int lo), some (.int hi)] from rfl]
    walk_at "go"
    refine ⟨G, v, d, rfl, hs, hd, ?_⟩
    walk_at "go"
    cases hd with
    | int i =>
      refine iteT ?_
      walk_at "go"
      apply Kb.ite_split <;> intro h1
      · walk_at "go"
        have e : numD (.int i) lo hi = decide (i ≤ hi) := by
          show (decide (lo ≤ i) && decide (i ≤ hi)) = _
          rw [decide_eq_true h1]; rfl
        rw [← e]
        exact k
      · walk_at "go"
        have e : numD (.int i) lo hi = false := by
          show (decide (lo ≤ i) && decide (i ≤ hi)) = _
          rw [decide_eq_false h1]; rfl
        rw [e] at k
        exact k
    | _ => exact iteF k
theorem ok_is_ascending (T : Txt K mg a) : OkD P w K mg base CX0 1 a.f_is_ascending ["things"] (spIsAsc a.C_NoRow) := by
  obtain ⟨fd, F⟩ := T.fn_is_ascending
  refine ⟨⟨fd, ?_, F.binds fun _ _ _ _ _ _ us hl => match us, hl with | [_], _ => rfl⟩, F.kp⟩
  refine F.ok sc_is_ascending (fun vs H Q E h => ?_) (fun cdv A outer s H vs Q E hr h => ?_)
  · obtain ⟨G, p, xs, rows, rfl, _⟩ := h
    rfl
  · obtain ⟨G, p, xs, rows, rfl, hs, hp, hd, hn, k⟩ := h
    refine ⟨_, (pss_one (ps_ret (pe_callB (kAll (K := K) rfl rfl) (by rfl) T.b_all (by decide +kernel) (pa_cons (pe_lc (own := [("one", 1), ("other", 2)]) (by rfl) sc_is_ascending.nd (kpZip (K := K) (by rfl) T.b_zip (pa_cons (pv 0) (pa_cons (pe_slice (kSlA (K := K) rfl) (pv 0) (po_some pe_int) po_none) pa_nil)) rfl) (blkOk_by (own := [("one", 1), ("other", 2)]) (N := N_is_ascending) (sc := defScope s_is_ascending) (by decide +kernel)) (fun _ _ _ _ _ => (kgTup (K := K) (pg_tup (n := 2) rfl (pgs_cons (pg_name (i := 1) sc_is_ascending.nd rfl (Or.inl rfl)) (pgs_cons (pg_name (i := 2) sc_is_ascending.nd rfl (Or.inl rfl)) pgs_nil))) rfl)) (fun _ _ _ _ _ => pts_nil) (fun _ _ _ _ _ => (pe_cmpR (kLtT (K := K) hr rfl) (pv 1) (pv 2) (nomark _)))) pa_nil)))), ?_⟩
    rw [show L2.start N_is_ascending [.ref p] = [some (.ref p), none, none] from rfl]
    walk_at "go"
    refine go_slA (hs _ _ hp) fun q H1 s1 hq _ => ?_
    rw [show (1 : Int) = ((1 : Nat) : Int) from rfl, cut_from] at hq
    walk_at "go"
    refine go_zipT (.inl (.inl (s1 _ _ (hs _ _ hp)))) (.inl (.inl hq)) ?_
    intro D hD
    have el : xs.length = rows.length := by rw [hd.length, List.length_map]
    have key : ∀ (i : Nat) (x : V), xs[i]? = some x → ∃ (ns : List Int) (t : Addr), rows[i]? = some ns ∧ x = V.ref t ∧ G t = some (.tup (ns.map V.int)) := fun i x hx => by
      obtain ⟨d, h1, h2⟩ := hd.get hx
      rw [List.getElem?_map] at h1
      cases e : rows[i]? with
      | none => rw [e] at h1; cases h1
      | some ns =>
        rw [e] at h1
        obtain rfl := Option.some.inj h1
        obtain ⟨t, h3, h4⟩ := row_of h2
        exact ⟨ns, t, rfl, h3, h4⟩
    refine lcl_zipT (xs := xs) (ys := xs.drop 1) (by decide) (fun i acc H' => Same H1 H' ∧ acc = ((List.zipWith HT.lexLt rows (rows.drop 1)).take i).map V.bl) ⟨same_new hD, rfl⟩ (fun i acc H' _ h => ⟨.inl (.inl (h.1 _ _ (s1 _ _ (hs _ _ hp)))), .inl (.inl (h.1 _ _ hq))⟩) ?_ ?_
    · rintro i x y T acc H' hx hy hacc ⟨s2, rfl⟩ hT
      obtain ⟨ns, t, e1, rfl, g1⟩ := key i x hx
      rw [List.getElem?_drop, Nat.add_comm] at hy
      obtain ⟨ms, u, e2, rfl, g2⟩ := key (i + 1) y hy
      have sT : Same H' (upd H' T (.tup [.ref t, .ref u])) := same_new hT
      have st := (s1.trans s2).trans sT
      walk_at "go"
      refine ⟨t, u, ns, ms, rfl, rfl, .inl (.inl (st _ _ (hs _ _ g1))), .inl (.inl (st _ _ (hs _ _ g2))), ?_⟩
      have ez : (List.zipWith HT.lexLt rows (rows.drop 1))[i]? = some (HT.lexLt ns ms) := by
        rw [List.getElem?_zipWith, e1, List.getElem?_drop, Nat.add_comm, e2]
      have hlt := (List.getElem?_eq_some_iff.mp ez).1
      have hlz : (List.zipWith HT.lexLt rows (rows.drop 1)).length ≤ rows.length := by rw [List.length_zipWith]; omega
      refine accQ (sT _ _ hacc) ?_ ⟨same_mut (s2.trans sT) hD, ?_⟩
      · rw [List.length_map, List.length_take]; omega
      · rw [take_snoc ez, List.map_append]; rfl
    · rintro acc H' hacc ⟨s2, rfl⟩
      walk_at "go"
      have e : (List.zipWith HT.lexLt rows (rows.drop 1)).take (min xs.length (xs.drop 1).length) = List.zipWith HT.lexLt rows (rows.drop 1) := by
        apply List.take_of_length_le
        rw [List.length_zipWith, List.length_drop, List.length_drop, el]
        exact Nat.le_refl _
      rw [e] at hacc
      refine go_all (.inl (.inl hacc)) ?_
      rw [ascI_all]
      exact k _ (s1.trans s2)
theorem ok_is_task_row (T : Txt K mg a) : OkD P w K mg base CX0 3 a.f_is_task_row ["many", "thing"] (spIsRow a.C_NoRow) := by
  obtain ⟨fd, F⟩ := T.fn_is_task_row
  obtain ⟨⟨fd_is_number, G_is_number, b_is_number⟩, kp_is_number⟩ := ok_is_number (P := P) (w := w) (base := base) T
  refine ⟨⟨fd, ?_, F.binds fun _ _ _ _ _ _ us hl => match us, hl with | [_, _], _ => rfl⟩, F.kp⟩
  refine F.ok sc_is_task_row (fun vs H Q E h => ?_) (fun cdv A outer s H vs Q E hr h => ?_)
  · obtain ⟨G, v, d, many, rfl, _⟩ := h
    rfl
  · obtain ⟨G, v, d, many, rfl, hm, hs, hd, k⟩ := h
    have R := T.nr
    obtain ⟨_, cn_MOST_NUMBER⟩ := T.c_MOST_NUMBER
    refine ⟨_, (pss_one (ps_ret (pe_and (pe_callB (kIsD (K := K) T.nr rfl) (by rfl) T.b_isinstance (by decide +kernel) (pa_cons (pv 1) (pa_cons (pe_bltn (v := .ty "tuple") (u := .type "tuple") (by rfl) T.b_tuple (by decide +kernel) rfl) pa_nil))) (pe_and (pe_cmpR op_eq (pe_callB (kLen (K := K) rfl) (by rfl) T.b_len (by decide +kernel) (pa_cons (pv 1) pa_nil)) (pv 0) (nomark _)) (pe_one (pe_callB (kAll (K := K) rfl rfl) (by rfl) T.b_all (by decide +kernel) (pa_cons (pe_lc (own := [("item", 2)]) (by rfl) sc_is_task_row.nd (kpTup (K := K) (pv 1) rfl) (blkOk_by (own := [("item", 2)]) (N := N_is_task_row) (sc := defScope s_is_task_row) (by decide +kernel)) (fun _ _ _ _ _ => (pg_name (i := 2) sc_is_task_row.nd rfl (Or.inl rfl))) (fun _ _ _ _ _ => pts_nil) (fun _ _ _ _ _ => (pe_call G_is_number (hr.mono (by first | decide | omega)) rfl T.g_is_number kp_is_number b_is_number .nil pass0 (pa_cons (pv 2) (pa_cons pe_int (pa_cons (pe_glob (v := .int 9999) rfl cn_MOST_NUMBER ⟨_, rfl⟩) pa_nil)))))) pa_nil))))))), ?_⟩
    rw [show L2.start N_is_task_row [.int many, v] = [some (.int many), some v, none] from rfl]
    walk_at "go"
    cases hd with
    | @tup p xs ds hp hds =>
      refine iteT ?_
      walk_at "go"
      refine go_lenT (.inl (.inl (hs _ _ hp))) ?_
      walk_at "go"
      have el := hds.length
      apply Kb.ite_split <;> intro hl
      · walk_at "go"
        refine go_wIT (.inl (.inl (hs _ _ hp))) ?_
        intro D hD
        refine lcl_tup (xs := xs) (fun i acc H' => Same H H' ∧ acc = ((ds.map fun x => numD x 0 9999).take i).map V.bl) ⟨same_new hD, rfl⟩ (fun i acc H' _ _ h => .inl (.inl (h.1 _ _ (hs _ _ hp)))) ?_ ?_
        · rintro i x acc H' hx hacc ⟨s2, rfl⟩
          obtain ⟨d, e1, hd⟩ := hds.get hx
          walk_at "go"
          refine ⟨G, x, d, 0, 9999, rfl, fun b o e => s2 _ _ (hs b o e), hd, ?_⟩
          have ez : (ds.map fun x => numD x 0 9999)[i]? = some (numD d 0 9999) := by
            rw [List.getElem?_map, e1]; rfl
          refine accQ hacc ?_ ⟨same_mut s2 hD, ?_⟩
          · rw [List.length_map, List.length_take, List.length_map]; omega
          · rw [take_snoc ez, List.map_append]; rfl
        · rintro acc H' hacc ⟨s2, rfl⟩
          walk_at "go"
          rw [List.take_of_length_le (by rw [List.length_map, el]; exact Nat.le_refl _)] at hacc
          refine go_all (.inl (.inl hacc)) ?_
          have e : (List.map (fun x => numD x 0 9999) ds).all id = rowD many (.tuple ds) := by
            show _ = (decide ((ds.length : Int) = many) && ds.all fun x => numD x 0 9999)
            rw [decide_eq_true (by rw [← el]; exact hl), List.all_map]
            rfl
          rw [e]
          exact k _ s2
      · walk_at "go"
        have e : rowD many (.tuple ds) = false := by
          show (decide ((ds.length : Int) = many) && _) = false
          rw [decide_eq_false (by rw [← el]; exact hl)]; rfl
        rw [e] at k
        exact k _ (Same.refl H)
    | _ => exact iteF (k _ (Same.refl H))
theorem ok_is_pair (T : Txt K mg a) : OkD P w K mg base CX0 4 a.f_is_pair ["many", "thing"] (spIsPair a.C_NoRow) := by
  obtain ⟨fd, F⟩ := T.fn_is_pair
  obtain ⟨⟨fd_is_task_row, G_is_task_row, b_is_task_row⟩, kp_is_task_row⟩ := ok_is_task_row (P := P) (w := w) (base := base) T
  obtain ⟨⟨fd_is_ascending, G_is_ascending, b_is_ascending⟩, kp_is_ascending⟩ := ok_is_ascending (P := P) (w := w) (base := base) T
  refine ⟨⟨fd, ?_, F.binds fun _ _ _ _ _ _ us hl => match us, hl with | [_, _], _ => rfl⟩, F.kp⟩
  refine F.ok sc_is_pair (fun vs H Q E h => ?_) (fun cdv A outer s H vs Q E hr h => ?_)
  · obtain ⟨G, v, d, many, rfl, _⟩ := h
    rfl
  · obtain ⟨G, v, d, many, rfl, hm, hs, hd, k⟩ := h
    have R := T.nr
    obtain ⟨_, cn_MOST_ROWS⟩ := T.c_MOST_ROWS
    refine ⟨_, (pss_cons (ps_if (PW.pt (pw_or (pt_not (pt_val (pe_callB (kIsD (K := K) T.nr rfl) (by rfl) T.b_isinstance (by decide +kernel) (pa_cons (pv 1) (pa_cons (pe_bltn (v := .ty "tuple") (u := .type "tuple") (by rfl) T.b_tuple (by decide +kernel) rfl) pa_nil))))) (pw_or1 (pt_cmpR op_ne (pe_callB (kLen (K := K) rfl) (by rfl) T.b_len (by decide +kernel) (pa_cons (pv 1) pa_nil)) pe_int (nomark _)))))
      (pss_one (ps_ret pe_bl))
      pss_nil)
    (pss_cons (ps_asg (pv 1) (kgTup (K := K) (pg_tup (n := 2) rfl (pgs_cons (pg_name (i := 2) sc_is_pair.nd rfl (by first | exact Or.inl rfl | exact Or.inr rfl)) (pgs_cons (pg_name (i := 3) sc_is_pair.nd rfl (by first | exact Or.inl rfl | exact Or.inr rfl)) pgs_nil))) rfl))
    (pss_cons (ps_if (PW.pt (pw_or (pt_not (pt_val (pe_call G_is_task_row (hr.mono (by first | decide | omega)) rfl T.g_is_task_row kp_is_task_row b_is_task_row .nil pass0 (pa_cons (pv 0) (pa_cons (pv 2) pa_nil))))) (pw_or (pt_not (pt_val (pe_callB (kIsD (K := K) T.nr rfl) (by rfl) T.b_isinstance (by decide +kernel) (pa_cons (pv 3) (pa_cons (pe_bltn (v := .ty "tuple") (u := .type "tuple") (by rfl) T.b_tuple (by decide +kernel) rfl) pa_nil))))) (pw_or1 (pt_not (pt_chain op_le op_le pe_int (pe_callB (kLen (K := K) rfl) (by rfl) T.b_len (by decide +kernel) (pa_cons (pv 3) pa_nil)) (pe_glob (v := .int 60) rfl cn_MOST_ROWS ⟨_, rfl⟩)))))))
      (pss_one (ps_ret pe_bl))
      pss_nil)
    (pss_one (ps_ret (pe_and (pe_callB (kAll (K := K) rfl rfl) (by rfl) T.b_all (by decide +kernel) (pa_cons (pe_lc (own := [("row", 4)]) (by rfl) sc_is_pair.nd (kpTup (K := K) (pv 3) rfl) (blkOk_by (own := [("row", 4)]) (N := N_is_pair) (sc := defScope s_is_pair) (by decide +kernel)) (fun _ _ _ _ _ => (pg_name (i := 4) sc_is_pair.nd rfl (Or.inl rfl))) (fun _ _ _ _ _ => pts_nil) (fun _ _ _ _ _ => (pe_call G_is_task_row (hr.mono (by first | decide | omega)) rfl T.g_is_task_row kp_is_task_row b_is_task_row .nil pass0 (pa_cons (pv 0) (pa_cons (pv 4) pa_nil))))) pa_nil)) (pe_one (pe_call G_is_ascending (hr.mono (by first | decide | omega)) rfl T.g_is_ascending kp_is_ascending b_is_ascending .nil pass0 (pa_cons (pv 3) pa_nil))))))))), ?_⟩
    rw [show L2.start N_is_pair [.int many, v] = [some (.int many), some v, none, none, none] from rfl]
    walk_at "go"
    cases hd with
    | @tup p xs ds hp hds =>
      refine iteF ?_
      walk_at "go"
      refine go_lenT (.inl (.inl (hs _ _ hp))) ?_
      walk_at "go"
      have el := hds.length
      apply Kb.ite_splitN <;> intro hl
      · walk_at "go"
        have e : pairD many (.tuple ds) = false := by
          match ds, el with
          | [], _ => rfl
          | [_], _ => rfl
          | [_, _], el => exact absurd (show ((xs.length : Nat) : Int) = 2 by rw [el]; rfl) hl
          | _ :: _ :: _ :: _, _ => rfl
        rw [e] at k
        exact k _ (Same.refl H)
      · walk_at "go"
        have hl' : xs.length = 2 := by omega
        obtain ⟨vi, vl, rfl⟩ := len2 hl'
        obtain ⟨di, dl, hi, hll, rfl⟩ := hds.two
        refine ⟨p, _, rfl, .inl (.inl (hs _ _ hp)), rfl, vi, [vl], rfl, vl, [], rfl, rfl, ?_⟩
        walk_at "go"
        refine ⟨G, vi, di, many, rfl, hm, hs, hi, fun H1 s1 => ?_⟩
        walk_at "go"
        have hs1 : ∀ b o, G b = some o → H1 b = some o := fun b o e => s1 _ _ (hs b o e)
        apply Kb.ite_nb <;> intro hri
        · walk_at "go"
          have e : pairD many (.tuple [di, dl]) = false := by
            show (rowD many di && lotD many dl) = false
            rw [hri]; rfl
          rw [e] at k
          exact k _ s1
        have ep : pairD many (.tuple [di, dl]) = lotD many dl := by
          show (rowD many di && lotD many dl) = _
          rw [hri]; rfl
        rw [ep] at k
        walk_at "go"
        apply Kb.ite_nb <;> intro hrt
        · walk_at "go"
          cases dl with
          | tuple rs => cases hrt
          | _ => exact k _ s1
        cases hll with
        | @tup pl ls rs hpl hrs =>
          walk_at "go"
          refine go_lenT (.inl (.inl (hs1 _ _ hpl))) ?_
          have ell := hrs.length
          walk_at "go"
          have fin0 : ¬ (1 ≤ rs.length ∧ rs.length ≤ 60) → lotD many (.tuple rs) = false := fun hh => by
            show (decide (1 ≤ rs.length) && decide (rs.length ≤ 60) && _) = false
            by_cases h1 : 1 ≤ rs.length
            · rw [decide_eq_false (show ¬ rs.length ≤ 60 from fun h2 => hh ⟨h1, h2⟩), Bool.and_false]; rfl
            · rw [decide_eq_false h1]; rfl
          apply Kb.ite_split <;> intro h1
          · walk_at "go"
            apply Kb.ite_splitN <;> intro h2
            · walk_at "go"
              rw [fin0 (fun hh => by omega)] at k
              exact k _ s1
            walk_at "go"
            refine go_wIT (.inl (.inl (hs1 _ _ hpl))) ?_
            intro D hD
            refine lcl_tup (xs := ls) (fun i acc H' => Same H1 H' ∧ acc = ((rs.map (rowD many)).take i).map V.bl) ⟨same_new hD, rfl⟩ (fun i acc H' _ _ h => .inl (.inl (h.1 _ _ (hs1 _ _ hpl)))) ?_ ?_
            · rintro i x acc H' hx hacc ⟨s2, rfl⟩
              obtain ⟨d, e1, hd⟩ := hrs.get hx
              walk_at "go"
              refine ⟨G, x, d, many, rfl, hm, fun b o e => s2 _ _ (hs1 b o e), hd, fun H2 s3 => ?_⟩
              have ez : (rs.map (rowD many))[i]? = some (rowD many d) := by
                rw [List.getElem?_map, e1]; rfl
              refine accQ (s3 _ _ hacc) ?_ ⟨same_mut (s2.trans s3) hD, ?_⟩
              · rw [List.length_map, List.length_take, List.length_map]; omega
              · rw [take_snoc ez, List.map_append]; rfl
            · rintro acc H' hacc ⟨s2, rfl⟩
              walk_at "go"
              rw [List.take_of_length_le (by rw [List.length_map, ell]; exact Nat.le_refl _)] at hacc
              refine go_all (.inl (.inl hacc)) ?_
              walk_at "go"
              have el2 : lotD many (.tuple rs) = (rs.all (rowD many) && ascI (rs.map intsOf)) := by
                show (decide (1 ≤ rs.length) && decide (rs.length ≤ 60) && (rs.all (rowD many) && ascI (rs.map intsOf))) = _
                rw [decide_eq_true (show 1 ≤ rs.length by omega), decide_eq_true (show rs.length ≤ 60 by omega)]; rfl
              rw [el2] at k
              rw [List.all_map]
              show if rs.all (rowD many) = true then _ else _
              apply Kb.ite_b <;> intro ha
              · walk_at "go"
                rw [ha] at k
                refine ⟨G, pl, ls, rs.map intsOf, rfl, fun b o e => s2 _ _ (hs1 b o e), hpl, by rw [← rows_of ha]; exact hrs, by rw [List.length_map]; omega, fun H3 s4 => ?_⟩
                exact k _ (s1.trans (s2.trans s4))
              · rw [ha] at k
                exact k _ (s1.trans s2)
          · walk_at "go"
            rw [fin0 (fun hh => by omega)] at k
            exact k _ s1
        | _ => cases hrt
    | _ => exact iteT (iteT (k _ (Same.refl H)))
end
end K01

set_option Elab.async false
set_option linter.all false
set_option maxRecDepth 100000
set_option maxHeartbeats 4000000
namespace K01
open PySem PySem.Spec PyProof.Rows L2 Kb
def insD : PyData → List Int
  | .tuple [i, _] => intsOf i
  | _ => []
/-- the j-th of the pairs is right, behind the one ahead of it -/
def Good (many : Int) (ds : List PyData) (j : Nat) : Prop := pairD many (ds.getD j .none) = true ∧ (0 < j → HT.lexLt (insD (ds.getD (j - 1) .none)) (insD (ds.getD j .none)) = true)
theorem pair_of {N : Addr} {G : Hp} {m : Int} {v : V} {d : PyData} (h : Dr N G v d) (p : pairD m d = true) : ∃ (q ti : Addr) (vl : V), v = V.ref q ∧ G q = some (.tup [.ref ti, vl]) ∧ G ti = some (.tup ((insD d).map V.int)) ∧ ((insD d).length : Int) = m := by
  match d, p with
  | .tuple [di, dl], p =>
    have p' : (rowD m di && lotD m dl) = true := p
    rw [Bool.and_eq_true] at p'
    obtain ⟨e, hl, _⟩ := rowD_eq p'.1
    cases h with
    | @tup q xs _ hq hr =>
      cases hr with
      | cons h1 r =>
        cases r with
        | cons h2 r =>
          cases r
          rw [e] at h1
          obtain ⟨ti, rfl, g⟩ := row_of h1
          exact ⟨q, ti, _, rfl, hq, g, hl⟩
def lenOk (dl : PyData) : Bool := match dl with
  | .tuple ds => decide (1 ≤ ds.length) && decide (ds.length ≤ 60)
  | _ => false
def spBadInit (C : Addr) : Sp := fun vs H Q _ => ∃ (x : Addr) (v : V), vs = [.ref x, v] ∧ H x = some (exo x C none) ∧ ∀ dx, H dx = none → dx ≠ x → Q .non (upd (upd H dx (exd dx [("part", v)])) x (exo x C (some dx)))
/-- a BadTask with this part goes out, all that stood stands -/
def BadOut (C : Addr) (H : Hp) (E : XK) (v : V) : Prop := ∀ d H', Same H H' → H d = none → H' d = some (.xd [("part", v)]) → E (.ref C) (some d) H'
def spTaskInit (N CB CT : Addr) : Sp := fun vs H Q E => ∃ (G : Hp) (x dx : Addr) (vm vl : V) (dm dl : PyData), vs = [.ref x, vm, vl] ∧ (∀ b o, G b = some o → H b = some o) ∧ Dr N G vm dm ∧ Dr N G vl dl ∧ H x = some (.ins CT dx []) ∧ G x = none ∧
  (numD dm 3 5 = false → BadOut CB H E (.str "many")) ∧
  (numD dm 3 5 = true → lenOk dl = false → BadOut CB H E (.str "lots")) ∧
  (∀ m ds, dm = .int m → 3 ≤ m → m ≤ 5 → dl = .tuple ds → lenOk dl = true → ∀ k, k < ds.length → (∀ j, j < k → Good m ds j) → ¬ Good m ds k → BadOut CB H E (.int k)) ∧
  (∀ m ds, dm = .int m → 3 ≤ m → m ≤ 5 → dl = .tuple ds → lenOk dl = true → (∀ j, j < ds.length → Good m ds j) → ∀ H', (∀ b o, b ≠ x → H b = some o → H' b = some o) → H' x = some (.ins CT dx [("many", vm), ("lots", vl)]) → Q .non H')
def BadQ (C : Addr) (H1 : Hp) (E : XK) (v : V) : Prop := [v].length ≤ 1000 ∧ ∀ q, H1 q = none → spBadInit C (.ref q :: ([v] ++ [])) (upd H1 q (exo q C none))
  (fun u H2 => u = .non ∧ ∃ (d : Addr) (fs : List (Str × V)), H2 q = some (exo q C (some d)) ∧ H2 d = some (exd d fs) ∧ H1 d = none ∧ E (.ref C) (some d) (upd (del H2 q) d (.xd fs))) (fun _ _ _ => False)
theorem go_bad {C : Addr} {te : TE} {σ : L2.St} {H : Hp} {E : XK} (h : te σ H fun v H1 => BadQ C H1 E v) : tMkO C (spBadInit C) [] (tCons te tNil) σ H (fun cls d H' => E cls d H') := h
theorem badQ {C : Addr} {H1 : Hp} {E : XK} {v : V} (hb : BadOut C H1 E v) : BadQ C H1 E v := by
  refine ⟨by show 1 ≤ 1000; decide, fun q hq => ⟨q, v, rfl, upd_same, fun d hd hn => ⟨rfl, d, [("part", v)], upd_same, by rw [upd_ne hn, upd_same], by rw [upd_ne hn] at hd; exact hd, ?_⟩⟩⟩
  rw [upd_ne hn] at hd
  refine hb d _ (fun b o e => ?_) hd upd_same
  have b1 : b ≠ d := ne_of_none e hd
  have b2 : b ≠ q := ne_of_none e hq
  rw [upd_ne b1, del_ne b2, upd_ne b2, upd_ne b1, upd_ne b2]
  exact e
theorem BadOut.back {C : Addr} {H H1 : Hp} {E : XK} {v : V} (s : Same H H1) (h : BadOut C H E v) : BadOut C H1 E v := fun d H' s' hd hx => h d H' (s.trans s') (s.free hd) hx
section
variable {P : Program} {w : World} {K : PySem.W.Frag} {mg : Str → Option Value} {base : Heap} {a : Ad}
theorem ok_BadTask___init__ (T : Txt K mg a) : OkD P w K mg base CX0 1 a.f_BadTask___init__ ["self", "part"] (spBadInit a.C_BadTask) := by
  obtain ⟨fd, F⟩ := T.fn_BadTask___init__
  refine ⟨⟨fd, ?_, F.binds fun _ _ _ _ _ _ us hl => match us, hl with | [_, _], _ => rfl⟩, F.kp⟩
  refine F.ok sc_BadTask___init__ (fun vs H Q E h => ?_) (fun cdv A outer s H vs Q E hr h => ?_)
  · obtain ⟨x, v, rfl, _⟩ := h
    rfl
  · obtain ⟨x, v, rfl, hx, k⟩ := h
    refine ⟨_, (pss_one (ps_ost (pv 0) (pv 1))), ?_⟩
    exact ⟨v, rfl, .ref x, rfl, x, a.C_BadTask, rfl, T.o_BadTask, T.p_BadTask, .inl ⟨hx, fun dx hd hn => k dx hd hn⟩⟩
theorem ok_Task___init__ (T : Txt K mg a) : OkD P w K mg base (L2.CX P w) 5 a.f_Task___init__ ["self", "many", "lots"] (spTaskInit a.C_NoRow a.C_BadTask a.C_Task) := by
  obtain ⟨fd, F⟩ := T.fn_Task___init__
  obtain ⟨⟨fd_is_number, G_is_number, b_is_number⟩, kp_is_number⟩ := ok_is_number (P := P) (w := w) (base := base) T
  obtain ⟨⟨fd_is_pair, G_is_pair, b_is_pair⟩, kp_is_pair⟩ := ok_is_pair (P := P) (w := w) (base := base) T
  obtain ⟨⟨fd_BadTask___init__, G_BadTask___init__, b_BadTask___init__⟩, kp_BadTask___init__⟩ := ok_BadTask___init__ (P := P) (w := w) (base := base) T
  refine ⟨⟨fd, ?_, F.binds fun _ _ _ _ _ _ us hl => match us, hl with | [_, _, _], _ => rfl⟩, F.kp⟩
  refine F.okX sc_Task___init__ (fun vs H Q E h => ?_) (fun cdv A outer s H vs Q E hr h => ?_)
  · obtain ⟨G, x, dx, vm, vl, dm, dl, rfl, _⟩ := h
    rfl
  · obtain ⟨G, x, dx, vm, vl, dm, dl, rfl, hs, hdm, hdl, hx, hgx, k1, k2, k3, k4⟩ := h
    have R := T.nr
    obtain ⟨_, cn_MOST_ROWS⟩ := T.c_MOST_ROWS
    refine ⟨_, (pss_cons (ps_if (pt_not (pt_val (pe_call G_is_number (hr.mono (by first | decide | omega)) rfl T.g_is_number kp_is_number b_is_number .nil pass0 (pa_cons (pv 1) (pa_cons pe_int (pa_cons pe_int pa_nil))))))
      (pss_one (ps_raise rfl (takes_of rfl rfl rfl rfl) (by exact (pmk_oex T.o_BadTask T.i_BadTask T.t_BadTask G_BadTask___init__ (hr.mono (by first | decide | omega)) b_BadTask___init__ .nil pass0 rfl T.g_BadTask (pa_cons pe_str pa_nil)))))
      pss_nil)
    (pss_cons (ps_if (PW.pt (pw_or (pt_not (pt_val (pe_callB (kIsD (K := K) T.nr rfl) (by rfl) T.b_isinstance (by decide +kernel) (pa_cons (pv 2) (pa_cons (pe_bltn (v := .ty "tuple") (u := .type "tuple") (by rfl) T.b_tuple (by decide +kernel) rfl) pa_nil))))) (pw_or1 (pt_not (pt_chain op_le op_le pe_int (pe_callB (kLen (K := K) rfl) (by rfl) T.b_len (by decide +kernel) (pa_cons (pv 2) pa_nil)) (pe_glob (v := .int 60) rfl cn_MOST_ROWS ⟨_, rfl⟩))))))
      (pss_one (ps_raise rfl (takes_of rfl rfl rfl rfl) (by exact (pmk_oex T.o_BadTask T.i_BadTask T.t_BadTask G_BadTask___init__ (hr.mono (by first | decide | omega)) b_BadTask___init__ .nil pass0 rfl T.g_BadTask (pa_cons pe_str pa_nil)))))
      pss_nil)
    (pss_cons (ps_for (passes_of rfl) rfl (kpEn (K := K) (by rfl) T.b_enumerate (pa_cons (pv 2) pa_nil) rfl) (kgTup (K := K) (pg_tup (n := 2) rfl (pgs_cons (pg_name (i := 3) sc_Task___init__.nd rfl (by first | exact Or.inl rfl | exact Or.inr rfl)) (pgs_cons (pg_name (i := 4) sc_Task___init__.nd rfl (by first | exact Or.inl rfl | exact Or.inr rfl)) pgs_nil))) rfl)
      (pss_one (ps_if (PW.pt (pw_or (pt_not (pt_val (pe_call G_is_pair (hr.mono (by first | decide | omega)) rfl T.g_is_pair kp_is_pair b_is_pair .nil pass0 (pa_cons (pv 1) (pa_cons (pv 4) pa_nil))))) (pw_or1 (PW.pt (pw_and (pt_cmpR op_gt (pv 3) pe_int (nomark _)) (pw_and1 (pt_cmpR (kLeT (K := K) hr rfl) (pe_ix (kIxT (K := K) rfl) (pv 4) pe_int (fun _ _ => rfl)) (pe_ix (kIxT (K := K) rfl) (pe_ix (kIxT (K := K) rfl) (pv 2) (pe_op op_sub (pv 3) pe_int) (fun _ _ => rfl)) pe_int (fun _ _ => rfl)) (nomark _))))))))
        (pss_one (ps_raise rfl (takes_of rfl rfl rfl rfl) (by exact (pmk_oex T.o_BadTask T.i_BadTask T.t_BadTask G_BadTask___init__ (hr.mono (by first | decide | omega)) b_BadTask___init__ .nil pass0 rfl T.g_BadTask (pa_cons (pv 3) pa_nil)))))
        pss_nil)))
    (pss_cons (ps_fld (pv 0) (pv 1) rfl)
    (pss_one (ps_fld (pv 0) (pv 2) rfl)))))), ?_⟩
    rw [show L2.start N_Task___init__ [.ref x, vm, vl] = [some (.ref x), some vm, some vl, none, none] from rfl]
    walk_at "go"
    refine ⟨G, vm, dm, 3, 5, rfl, hs, hdm, ?_⟩
    walk_at "go"
    apply Kb.ite_nb <;> intro hnum
    · refine go_bad ?_
      walk_at "go"
      exact badQ (k1 hnum)
    obtain ⟨m, rfl, hm3, hm5⟩ : ∃ m, dm = .int m ∧ 3 ≤ m ∧ m ≤ 5 := by
      cases dm with
      | int m =>
        have q : (decide (3 ≤ m) && decide (m ≤ 5)) = true := hnum
        rw [Bool.and_eq_true, decide_eq_true_eq, decide_eq_true_eq] at q
        exact ⟨m, rfl, q⟩
      | _ => cases hnum
    obtain rfl : vm = .int m := by cases hdm; rfl
    walk_at "go"
    apply Kb.ite_nb <;> intro htup
    · walk_at "go"
      refine go_bad ?_
      walk_at "go"
      refine badQ (k2 hnum ?_)
      cases dl with
      | tuple ds => cases htup
      | _ => rfl
    cases hdl with
    | @tup pl ls ds hpl hds =>
      walk_at "go"
      refine go_lenT (.inl (.inl (hs _ _ hpl))) ?_
      have el := hds.length
      walk_at "go"
      have fin0 : ¬ (1 ≤ ds.length ∧ ds.length ≤ 60) → lenOk (.tuple ds) = false := fun hh => by
        show (decide (1 ≤ ds.length) && decide (ds.length ≤ 60)) = false
        by_cases h1 : 1 ≤ ds.length
        · rw [decide_eq_false (show ¬ ds.length ≤ 60 from fun h2 => hh ⟨h1, h2⟩), Bool.and_false]
        · rw [decide_eq_false h1]; rfl
      apply Kb.ite_split <;> intro h1
      · walk_at "go"
        apply Kb.ite_splitN <;> intro h2
        · refine go_bad ?_
          walk_at "go"
          exact badQ (k2 hnum (fin0 (fun hh => by omega)))
        walk_at "go"
        have hok : lenOk (.tuple ds) = true := by
          show (decide (1 ≤ ds.length) && decide (ds.length ≤ 60)) = true
          rw [decide_eq_true (show 1 ≤ ds.length by omega), decide_eq_true (show ds.length ≤ 60 by omega)]; rfl
        refine go_wEn (xs := ls) (.inl (.inl (hs _ _ hpl))) ?_
        refine for_en (xs := ls) (fun i σ H' => ∃ s3 s4, σ = [some (.ref x), some (.int m), some (.ref pl), s3, s4] ∧ Same H H' ∧ ∀ j, j < i → Good m ds j) ⟨none, none, rfl, Same.refl H, fun j hj => absurd hj (Nat.not_lt_zero j)⟩ (fun i σ H' _ ⟨_, _, _, s2, _⟩ => .inl (.inl (s2 _ _ (hs _ _ hpl)))) ?_ ?_
        · rintro i v T' σ H' hv ⟨s3, s4, rfl, s2, hgood⟩ hT'
          have hi : i < ds.length := by rw [← el]; exact (List.getElem?_eq_some_iff.mp hv).1
          obtain ⟨d, hd, hdr⟩ := hds.get hv
          have hD : ds.getD i .none = d := by rw [List.getD_eq_getElem?_getD, hd]; rfl
          refine go_gTup2 upd_same ?_
          have sT : Same H (upd H' T' (.tup [.int (i : Nat), v])) := s2.trans (same_new hT')
          generalize upd H' T' (.tup [.int (i : Nat), v]) = H1 at sT ⊢
          have hs1 : ∀ b o, G b = some o → H1 b = some o := fun b o e => sT _ _ (hs b o e)
          walk_at "go"
          refine ⟨G, v, d, m, rfl, by omega, hs1, hdr, fun H2 s3' => ?_⟩
          have sT2 := sT.trans s3'
          have hs2 : ∀ b o, G b = some o → H2 b = some o := fun b o e => sT2 _ _ (hs b o e)
          walk_at "go"
          apply Kb.ite_nb <;> intro hp
          · walk_at "go"
            refine go_bad ?_
            walk_at "go"
            refine badQ (BadOut.back sT2 (k3 m ds rfl hm3 hm5 rfl hok i hi hgood fun g => ?_))
            have g1 := g.1
            rw [hD, hp] at g1
            cases g1
          obtain ⟨q, ti, vl', rfl, hq, hti, hlen⟩ := pair_of hdr hp
          walk_at "go"
          apply Kb.ite_split <;> intro hpos
          · have hpos' : 0 < i := by omega
            have hgp := hgood (i - 1) (by omega)
            obtain ⟨v', hv'⟩ : ∃ v', ls[i - 1]? = some v' := ⟨ls[i - 1]'(by omega), List.getElem?_eq_getElem _⟩
            obtain ⟨d', hd', hdr'⟩ := hds.get hv'
            have hD' : ds.getD (i - 1) .none = d' := by rw [List.getD_eq_getElem?_getD, hd']; rfl
            have hgp1 := hgp.1
            rw [hD'] at hgp1
            obtain ⟨q', ti', vl'', rfl, hq', hti', hlen'⟩ := pair_of hdr' hgp1
            walk_at "go"
            refine go_ixT (.inl (.inl (hs2 _ _ hq))) (v := .ref ti) (by rfl) ?_
            walk_at "go"
            refine go_ixT (.inl (.inl (hs2 _ _ hpl))) (v := .ref q') (by rw [show ((i : Nat) : Int) - 1 = ((i - 1 : Nat) : Int) by omega]; exact atI_nat hv') ?_
            walk_at "go"
            refine go_ixT (.inl (.inl (hs2 _ _ hq'))) (v := .ref ti') (by rfl) ?_
            walk_at "go"
            refine ⟨ti, ti', insD d, insD d', rfl, rfl, .inl (.inl (hs2 _ _ hti)), .inl (.inl (hs2 _ _ hti')), ?_⟩
            rw [lexLe _ _ (by omega)]
            walk_at "go"
            apply Kb.ite_nb <;> intro hlex
            · refine go_bad ?_
              walk_at "go"
              refine badQ (BadOut.back sT2 (k3 m ds rfl hm3 hm5 rfl hok i hi hgood fun g => ?_))
              have g2 := g.2 hpos'
              rw [hD, hD', hlex] at g2
              cases g2
            · walk_at "go"
              refine ⟨_, _, rfl, sT2, fun j hj => ?_⟩
              by_cases e : j = i
              · subst e
                refine ⟨by rw [hD]; exact hp, fun _ => by rw [hD, hD']; exact hlex⟩
              · exact hgood j (by omega)
          · walk_at "go"
            refine ⟨_, _, rfl, sT2, fun j hj => ?_⟩
            by_cases e : j = i
            · subst e
              exact ⟨by rw [hD]; exact hp, fun h => absurd h (by omega)⟩
            · exact hgood j (by omega)
        · rintro σ H' ⟨s3, s4, rfl, s2, hgood⟩
          walk_at "go"
          have hx' : H' x = some (.ins a.C_Task dx []) := s2 _ _ hx
          have e1 : putF "many" (.int m) ([] : List (Str × V)) = [(("many" : Str), V.int m)] := rfl
          have e2 : putF "lots" (.ref pl) ([(("many" : Str), V.int m)] : List (Str × V)) = ([("many", V.int m), ("lots", V.ref pl)] : List (Str × V)) := by
            show (if ("many" : Str) = "lots" then _ else (("many" : Str), V.int m) :: putF "lots" (V.ref pl) []) = _
            rw [if_neg (by decide +kernel)]
            rfl
          refine ⟨.int m, rfl, .ref x, rfl, x, a.C_Task, dx, [], rfl, hx', T.cl_Task, T.nMany, by show 0 < 1000; decide, ?_⟩
          refine ⟨.ref pl, rfl, .ref x, rfl, x, a.C_Task, dx, _, rfl, upd_same, T.cl_Task, T.nLots, by show 1 < 1000; decide, ?_⟩
          rw [e1, e2]
          rw [el] at hgood
          refine k4 m ds rfl hm3 hm5 rfl hok hgood _ (fun b o hb e => ?_) upd_same
          rw [upd_ne hb, upd_ne hb]
          exact s2 _ _ e
      · walk_at "go"
        refine go_bad ?_
        walk_at "go"
        exact badQ (k2 hnum (fin0 (fun hh => by omega)))
    | _ => cases htup
/-- a Task at p -/
def TaskAt (C : Addr) (H : Hp) (p : Addr) (m : Int) (vl : V) : Prop := ∃ dx, H p = some (.ins C dx [("many", .int m), ("lots", vl)])
def spTaskEq (N C : Addr) : Sp := fun vs H Q _ => ∃ (G : Hp) (p : Addr) (m : Int) (vl : V) (dl : PyData) (y : V), vs = [.ref p, y] ∧ (∀ b o, G b = some o → H b = some o) ∧ TaskAt C H p m vl ∧ Dr N G vl dl ∧ plainD dl = true ∧ SeqAt.shaped dl = true ∧
  ((∃ (b : Addr) (m' : Int) (vl' : V) (dl' : PyData), y = .ref b ∧ TaskAt C H b m' vl' ∧ Dr N G vl' dl' ∧ plainD dl' = true ∧ SeqAt.shaped dl' = true ∧ Q (.bl (decide (m = m') && PyData.eqv dl dl')) H) ∨
    ∃ (b : Addr) (xs : List V), y = .ref b ∧ H b = some (.tup xs) ∧ Q (.bl false) H)
theorem look_many (m : Int) (vl : V) : ([("many", V.int m), ("lots", vl)] : List (Str × V)).lookup ("many" : Str) = some (V.int m) := by
  rw [List.lookup_cons]
  rw [show (("many" : Str) == "many") = true by decide +kernel]
theorem look_lots (m : Int) (vl : V) : ([("many", V.int m), ("lots", vl)] : List (Str × V)).lookup ("lots" : Str) = some vl := by
  rw [List.lookup_cons, show (("lots" : Str) == "many") = false by decide +kernel]
  show List.lookup ("lots" : Str) [(("lots" : Str), vl)] = some vl
  rw [List.lookup_cons, show (("lots" : Str) == "lots") = true by decide +kernel]
theorem ok_Task___eq__ (T : Txt K mg a) : OkD P w K mg base CX0 1 a.f_Task___eq__ ["self", "other"] (spTaskEq a.C_NoRow a.C_Task) := by
  obtain ⟨fd, F⟩ := T.fn_Task___eq__
  refine ⟨⟨fd, ?_, F.binds fun _ _ _ _ _ _ us hl => match us, hl with | [_, _], _ => rfl⟩, F.kp⟩
  refine F.ok sc_Task___eq__ (fun vs H Q E h => ?_) (fun cdv A outer s H vs Q E hr h => ?_)
  · obtain ⟨G, p, m, vl, dl, y, rfl, _⟩ := h
    rfl
  · obtain ⟨G, p, m, vl, dl, y, rfl, hs, ⟨dx, hp⟩, hd, hpl, hsh, k⟩ := h
    have J := T.in_Task
    refine ⟨_, (pss_one (ps_ret (pe_and (pe_callB (kIsi (K := K) rfl) (by rfl) T.b_isinstance (by decide +kernel) (pa_cons (pv 1) (pa_cons (pe_glob (v := .ref a.C_Task) rfl T.g_Task rfl) pa_nil))) (pe_and (pe_cmpR op_eq (pe_fld (pv 0) rfl) (pe_fld (pv 1) rfl) (nomark _)) (pe_one (pe_cmpR (kEqD (K := K) hr rfl) (pe_fld (pv 0) rfl) (pe_fld (pv 1) rfl) (nomark _))))))), ?_⟩
    rw [show L2.start N_Task___eq__ [.ref p, y] = [some (.ref p), some y] from rfl]
    walk_at "go"
    rcases k with ⟨b, m', vl', dl', rfl, ⟨dy, hb⟩, hd', hpl', hsh', k⟩ | ⟨b, xs, rfl, hb, k⟩
    · refine ⟨.ref b, .ref a.C_Task, _, _, true, rfl, .own _, .base (.ins hb T.cl_Task J.ha J.hn J.ht J.hm), kit_same, ?_⟩
      walk_at "go"
      refine ⟨p, a.C_Task, dx, _, _, rfl, hp, T.cl_Task, T.nMany, look_many _ _, ?_⟩
      walk_at "go"
      refine ⟨b, a.C_Task, dy, _, _, rfl, hb, T.cl_Task, T.nMany, look_many _ _, ?_⟩
      walk_at "go"
      apply Kb.ite_split <;> intro hm
      · walk_at "go"
        refine ⟨p, a.C_Task, dx, _, _, rfl, hp, T.cl_Task, T.nLots, look_lots _ _, ?_⟩
        walk_at "go"
        refine ⟨b, a.C_Task, dy, _, _, rfl, hb, T.cl_Task, T.nLots, look_lots _ _, ?_⟩
        refine ⟨dl, dl', hd.dp hs hpl, hd'.dp hs hpl', hsh, hsh', ?_⟩
        rw [decide_eq_true hm] at k
        exact k
      · walk_at "go"
        rw [decide_eq_false hm] at k
        exact k
    · refine ⟨.ref b, .ref a.C_Task, _, _, false, rfl, .own _, .base (.tup hb), J.kit, ?_⟩
      walk_at "go"
      exact k
end
end K01

set_option Elab.async false
set_option linter.all false
set_option maxRecDepth 100000
set_option maxHeartbeats 4000000
namespace K01
open PySem PySem.Spec PyProof.Rows L2 Kb
section
variable {P : Program} {w : World} {K : PySem.W.Frag} {mg : Str → Option Value} {base : Heap} {a : Ad}
def spR (N : Addr) : Nat → Sp
  | 0 => fun _ _ _ _ => False
  | n + 1 => spIs N n
theorem law_is_level (T : Txt K mg a) {fd : FuncData} (F : Fun K "_law_is" "_law_is" s_law_is a.f_law_is fd) (bd : Binds K fd ["told", "due"] []) : ∀ n : Nat, FnOk P w K mg base CX0 n a.f_law_is fd ["told", "due"] (spR a.C_NoRow n)
  | 0 => ⟨fun _ _ _ _ h => h.elim, fun _ _ _ _ _ _ _ _ _ _ _ _ _ h => h.elim⟩
  | n + 1 => by
    have R := T.nr
    have G_law_is := law_is_level T F bd n
    have b_law_is := bd
    have kp_law_is := F.kp
    refine F.ok sc_law_is (fun vs H Q E h => ?_) (fun cdv A outer s H vs Q E hr h => ?_)
    · obtain ⟨G, v, u, d, rfl, _⟩ := h
      rfl
    · obtain ⟨G, v, u, d, rfl, hs, hv, hu, hn, k⟩ := h
      refine ⟨_, (pss_cons (ps_if (pt_val (pe_callB (kIsDT (K := K) T.nr rfl) (by rfl) T.b_isinstance (by decide +kernel) (pa_cons (pv 1) (pa_cons (pe_tup (pa_cons (pe_bltn (v := .ty "tuple") (u := .type "tuple") (by rfl) T.b_tuple (by decide +kernel) rfl) (pa_cons (pe_bltn (v := .ty "list") (u := .type "list") (by rfl) T.b_list (by decide +kernel) rfl) pa_nil))) pa_nil))))
      (pss_cons (ps_if (PW.pt (pw_or (pt_cmpR op_ne (pe_callB (kIsD (K := K) T.nr rfl) (by rfl) T.b_isinstance (by decide +kernel) (pa_cons (pv 0) (pa_cons (pe_bltn (v := .ty "tuple") (u := .type "tuple") (by rfl) T.b_tuple (by decide +kernel) rfl) pa_nil))) (pe_callB (kIsD (K := K) T.nr rfl) (by rfl) T.b_isinstance (by decide +kernel) (pa_cons (pv 1) (pa_cons (pe_bltn (v := .ty "tuple") (u := .type "tuple") (by rfl) T.b_tuple (by decide +kernel) rfl) pa_nil))) (nomark _)) (pw_or1 (pt_cmpR op_ne (pe_callB (kIsD (K := K) T.nr rfl) (by rfl) T.b_isinstance (by decide +kernel) (pa_cons (pv 0) (pa_cons (pe_bltn (v := .ty "list") (u := .type "list") (by rfl) T.b_list (by decide +kernel) rfl) pa_nil))) (pe_callB (kIsD (K := K) T.nr rfl) (by rfl) T.b_isinstance (by decide +kernel) (pa_cons (pv 1) (pa_cons (pe_bltn (v := .ty "list") (u := .type "list") (by rfl) T.b_list (by decide +kernel) rfl) pa_nil))) (nomark _)))))
        (pss_one (ps_ret pe_bl))
        pss_nil)
      (pss_one (ps_ret (pe_and (pe_cmpR op_eq (pe_callB (kLen (K := K) rfl) (by rfl) T.b_len (by decide +kernel) (pa_cons (pv 0) pa_nil)) (pe_callB (kLen (K := K) rfl) (by rfl) T.b_len (by decide +kernel) (pa_cons (pv 1) pa_nil)) (nomark _)) (pe_one (pe_callB (kAll (K := K) rfl rfl) (by rfl) T.b_all (by decide +kernel) (pa_cons (pe_lc (own := [("k", 2)]) (by rfl) sc_law_is.nd (pi_range1 (by rfl) T.b_range (pa_cons (pe_callB (kLen (K := K) rfl) (by rfl) T.b_len (by decide +kernel) (pa_cons (pv 1) pa_nil)) pa_nil)) (blkOk_by (own := [("k", 2)]) (N := N_law_is) (sc := defScope s_law_is) (by decide +kernel)) (fun _ _ _ _ _ => (pg_name (i := 2) sc_law_is.nd rfl (Or.inl rfl))) (fun _ _ _ _ _ => pts_nil) (fun _ _ _ _ _ => (pe_call G_law_is (hr.mono (by first | decide | omega)) rfl T.g_law_is kp_law_is b_law_is .nil pass0 (pa_cons (pe_ix (kIxS (K := K) rfl) (pv 0) (pv 2) (fun _ _ => rfl)) (pa_cons (pe_ix (kIxS (K := K) rfl) (pv 1) (pv 2) (fun _ _ => rfl)) pa_nil))))) pa_nil)))))))
      pss_nil)
    (pss_one (ps_ret (pe_and (pe_cmpR op_eq (pe_callB (kIsD (K := K) T.nr rfl) (by rfl) T.b_isinstance (by decide +kernel) (pa_cons (pv 0) (pa_cons (pe_bltn (v := .ty "bool") (u := .type "bool") (by rfl) T.b_bool (by decide +kernel) rfl) pa_nil))) (pe_callB (kIsD (K := K) T.nr rfl) (by rfl) T.b_isinstance (by decide +kernel) (pa_cons (pv 1) (pa_cons (pe_bltn (v := .ty "bool") (u := .type "bool") (by rfl) T.b_bool (by decide +kernel) rfl) pa_nil))) (nomark _)) (pe_one (pe_cmpR op_eq (pv 0) (pv 1) (nomark _))))))), ?_⟩
      rw [show L2.start N_law_is [v, u] = [some v, some u, none] from rfl]
      walk_at "go"
      refine ⟨small (by show 2 ≤ 100000; decide), fun q hq => ?_⟩
      have sq : Same H (upd H q (.tup [.ty "tuple", .ty "list"])) := same_new hq
      walk_at "go"
      have hs1 : ∀ b o, G b = some o → (upd H q (.tup [.ty "tuple", .ty "list"])) b = some o := fun b o e => sq _ _ (hs b o e)
      refine go_isDT upd_same hs1 hu ?_
      generalize upd H q (.tup [.ty "tuple", .ty "list"]) = H1 at sq hs1 ⊢
      walk_at "go"
      have body : ∀ (ds : List PyData) (pv pu : Addr) (xs ys : List V), (H1 pv = some (.lst xs) ∨ H1 pv = some (.tup xs)) → (H1 pu = some (.lst ys) ∨ H1 pu = some (.tup ys)) → Drs a.C_NoRow G xs ds → Drs a.C_NoRow G ys ds → ds.length ≤ 1000 → (∀ d, d ∈ ds → ∃ m, n = m + 1 ∧ Nest m d) →
          ∀ D, H1 D = none → LcL (Itr 0 ((ys.length : Int)).toNat) (gName 2) tYes (tCall (spR a.C_NoRow n) [] E0 (tCons (tOp (rIx K) (tVar 0) (tVar 2)) (tCons (tOp (rIx K) (tVar 1) (tVar 2)) tNil))) [2] [some (.ref pv), some (.ref pu), none] H1 D (fun H2 => tNil [some (.ref pv), some (.ref pu), none] H2 fun xs H2 => rAll K (.ref D :: xs) H2 Q) := by
        intro ds pv pu xs ys hpv hpu hxs hys hl hk D hD
        have e1 := hxs.length
        have e2 := hys.length
        refine lcl_range (fun i acc H' => Same H1 H' ∧ acc = List.replicate i (V.bl true)) ⟨same_new hD, rfl⟩ ?_ ?_
        · rintro i acc H' hi hacc ⟨s2, rfl⟩
          have hi' : i < ds.length := by omega
          obtain ⟨d, hd⟩ : ∃ d, ds[i]? = some d := ⟨ds[i], List.getElem?_eq_getElem hi'⟩
          obtain ⟨x, hx, hdx⟩ := hxs.getD hd
          obtain ⟨y, hy, hdy⟩ := hys.getD hd
          obtain ⟨m, rfl, hm⟩ := hk d (List.mem_of_getElem? hd)
          walk_at "go"
          rw [show (0 : Int) + (i : Int) = (i : Int) by omega]
          refine go_ixS (v := x) (by rcases hpv with h | h; exact .inl (s2 _ _ h); exact .inr (s2 _ _ h)) (atI_nat hx) ?_
          walk_at "go"
          refine go_ixS (v := y) (by rcases hpu with h | h; exact .inl (s2 _ _ h); exact .inr (s2 _ _ h)) (atI_nat hy) ?_
          walk_at "go"
          refine ⟨G, x, y, d, rfl, fun b o e => s2 _ _ (hs1 b o e), hdx, hdy, hm, fun H3 s3 => ?_⟩
          refine accQ (s3 _ _ hacc) ?_ ⟨same_mut (s2.trans s3) hD, ?_⟩
          · rw [List.length_replicate]; omega
          · rw [List.replicate_succ']
        · rintro acc H' hacc ⟨s2, rfl⟩
          walk_at "go"
          rw [show List.replicate (ys.length : Int).toNat (V.bl true) = (List.replicate (ys.length : Int).toNat true).map V.bl by rw [List.map_replicate]] at hacc
          refine go_all (.inl (.inl hacc)) ?_
          rw [show (List.replicate (ys.length : Int).toNat true).all id = true by rw [List.all_replicate]; split <;> rfl]
          exact k _ (sq.trans s2)
      cases hn with
      | int i =>
        refine iteF ?_
        walk_at "go"
        cases hv with
        | int i =>
        cases hu with
        | int i =>
        refine iteT ?_
        walk_at "go"
        rw [decide_eq_true rfl]
        exact k _ sq
      | @tup n0 ds hl hk =>
        refine iteT ?_
        walk_at "go"
        refine iteF ?_
        walk_at "go"
        refine iteF ?_
        walk_at "go"
        cases hv with
        | @tup pv xs _ hpv hxs =>
        cases hu with
        | @tup pu ys _ hpu hys =>
        refine go_lenT (.inl (.inl (hs1 _ _ hpv))) ?_
        walk_at "go"
        refine go_lenT (.inl (.inl (hs1 _ _ hpu))) ?_
        walk_at "go"
        rw [decide_eq_true (by rw [hxs.length, hys.length])]
        walk_at "go"
        refine go_lenT (.inl (.inl (hs1 _ _ hpu))) ?_
        walk_at "go"
        have e2 := hys.length
        refine go_wIR (by omega) (by omega) ?_
        intro D hD
        exact body ds pv pu xs ys (.inr (hs1 _ _ hpv)) (.inr (hs1 _ _ hpu)) hxs hys hl (fun d hd => ⟨_, rfl, hk d hd⟩) D hD
      | @lst n0 ds hl hk =>
        refine iteT ?_
        walk_at "go"
        refine iteF ?_
        walk_at "go"
        refine iteF ?_
        walk_at "go"
        cases hv with
        | @lst pv xs _ hpv hxs =>
        cases hu with
        | @lst pu ys _ hpu hys =>
        refine go_lenL (.inl (.inl (hs1 _ _ hpv))) ?_
        walk_at "go"
        refine go_lenL (.inl (.inl (hs1 _ _ hpu))) ?_
        walk_at "go"
        rw [decide_eq_true (by rw [hxs.length, hys.length])]
        walk_at "go"
        refine go_lenL (.inl (.inl (hs1 _ _ hpu))) ?_
        walk_at "go"
        have e2 := hys.length
        refine go_wIR (by omega) (by omega) ?_
        intro D hD
        exact body ds pv pu xs ys (.inl (hs1 _ _ hpv)) (.inl (hs1 _ _ hpu)) hxs hys hl (fun d hd => ⟨_, rfl, hk d hd⟩) D hD
theorem ok_law_is (T : Txt K mg a) (n : Nat) : OkD P w K mg base CX0 (n + 1) a.f_law_is ["told", "due"] (spIs a.C_NoRow n) := by
  obtain ⟨fd, F⟩ := T.fn_law_is
  have bd : Binds K fd ["told", "due"] [] := F.binds fun _ _ _ _ _ _ us hl => match us, hl with | [_, _], _ => rfl
  exact ⟨⟨fd, law_is_level T F bd (n + 1), bd⟩, F.kp⟩
end
end K01

set_option Elab.async false
set_option linter.all false
set_option maxRecDepth 100000
set_option maxHeartbeats 4000000
namespace K01
open PySem PySem.Spec PyProof.Rows L2 Kb
section
variable {P : Program} {w : World} {K : PySem.W.Frag} {mg : Str → Option Value} {base : Heap} {a : Ad}
theorem ok_law_row (T : Txt K mg a) : OkD P w K mg base CX0 2 a.f_law_row ["pot", "many", "most"] spRow := by
  obtain ⟨fd, F⟩ := T.fn_law_row
  obtain ⟨⟨fd_law_draw, G_law_draw, b_law_draw⟩, kp_law_draw⟩ := ok_law_draw (P := P) (w := w) (base := base) T
  refine ⟨⟨fd, ?_, F.binds fun _ _ _ _ _ _ us hl => match us, hl with | [_, _, _], _ => rfl⟩, F.kp⟩
  refine F.ok sc_law_row (fun vs H Q E h => ?_) (fun cdv A outer s H vs Q E hr h => ?_)
  · obtain ⟨p, G, many, most, rfl, _⟩ := h
    rfl
  · obtain ⟨p, G, many, most, rfl, w0, h0, h1, h2, h3, k⟩ := h
    refine ⟨_, (pss_one (ps_ret (pe_callTy (kTupOf (K := K) rfl) (by rfl) T.b_tuple (by decide +kernel) (pa_cons (pe_lc (own := [("k", 3)]) (by rfl) sc_law_row.nd (pi_range1 (by rfl) T.b_range (pa_cons (pv 1) pa_nil)) (blkOk_by (own := [("k", 3)]) (N := N_law_row) (sc := defScope s_law_row) (by decide +kernel)) (fun _ _ _ _ _ => (pg_name (i := 3) sc_law_row.nd rfl (Or.inl rfl))) (fun _ _ _ _ _ => pts_nil) (fun _ _ _ _ _ => (pe_call G_law_draw (hr.mono (by first | decide | omega)) rfl T.g_law_draw kp_law_draw b_law_draw .nil pass0 (pa_cons (pv 0) (pa_cons (pv 2) pa_nil))))) pa_nil)))), ?_⟩
    rw [show L2.start N_law_row [.ref p, .int many, .int most] = [some (.ref p), some (.int many), some (.int most), none] from rfl]
    walk_at "go"
    refine go_wIR (by omega) (by omega) ?_
    intro D hD
    have hDp : D ≠ p := w0.ne hD
    have s0 : Stp p G H G (upd H D (.lst [])) := (Stp.refl w0).new hD
    have fr := (Stp.refl w0).fresh w0 hD
    refine lcl_range (fun i acc H' => Stp p G H G H' ∧ ∃ ns : List Int, acc = ns.map V.int ∧ ns.length = i ∧ ∀ z ∈ ns, 0 ≤ z ∧ z < most) ⟨s0, [], rfl, rfl, fun z hz => by cases hz⟩ ?_ ?_
    · rintro i acc H' hi hacc ⟨s1, ns, rfl, hl, hz⟩
      walk_at "go"
      refine go_draw s1 h2 h3 fun r H2 r0 r1 s2 kk => ?_
      have hacc2 : H2 D = some (.lst (ns.map V.int)) := (kk D hDp).trans hacc
      refine accQ hacc2 (by rw [List.length_map]; omega) ⟨s2.mut hD fr.2 hDp, ns ++ [r], by rw [List.map_append]; rfl, by rw [List.length_append, hl]; rfl, fun z hm => ?_⟩
      rcases List.mem_append.mp hm with hm | hm
      · exact hz z hm
      · obtain rfl := List.mem_singleton.mp hm
        exact ⟨r0, r1⟩
    · rintro acc H' hacc ⟨s1, ns, rfl, hl, hz⟩
      walk_at "go"
      refine go_tupOfL (.inl (.inl hacc)) fun t ht => ?_
      exact k t _ _ ns (s1.lay ht) upd_same (by omega) hz
theorem ok_law_odd (T : Txt K mg a) : OkD P w K mg base CX0 3 a.f_law_odd ["pot"] (spOdd a.C_NoRow) := by
  obtain ⟨fd, F⟩ := T.fn_law_odd
  obtain ⟨⟨fd_law_any, G_law_any, b_law_any⟩, kp_law_any⟩ := ok_law_any (P := P) (w := w) (base := base) T
  refine ⟨⟨fd, ?_, F.binds fun _ _ _ _ _ _ us hl => match us, hl with | [_], _ => rfl⟩, F.kp⟩
  refine F.ok sc_law_odd (fun vs H Q E h => ?_) (fun cdv A outer s H vs Q E hr h => ?_)
  · obtain ⟨p, G, rfl, _⟩ := h
    rfl
  · obtain ⟨p, G, rfl, w0, k⟩ := h
    refine ⟨_, (pss_one (ps_ret (pe_call G_law_any (hr.mono (by first | decide | omega)) rfl T.g_law_any kp_law_any b_law_any .nil pass0 (pa_cons (pv 0) (pa_cons (pe_lst (pa_cons pe_non (pa_cons pe_bl (pa_cons pe_bl (pa_cons pe_int (pa_cons pe_str (pa_cons (pe_lst pa_nil) (pa_cons (pe_tup pa_nil) (pa_cons pe_dnewK (pa_cons (pe_tup (pa_cons (pe_tup pa_nil) pa_nil)) (pa_cons (pe_exc0 PySem.F.excBase_ValueError T.x_NoRow T.g_NoRow T.k_NoRow rfl) (pa_cons (pe_op op_pow pe_int pe_int) (pa_cons (pe_lst (pa_cons (pe_lst (pa_cons pe_int (pa_cons pe_int pa_nil))) pa_nil)) pa_nil))))))))))))) pa_nil))))), ?_⟩
    rw [show L2.start N_law_odd [.ref p] = [some (.ref p)] from rfl]
    walk_at "go"
    have s0 := Stp.refl w0
    refine newS_lay s0 (by walk_at "len") fun q1 G1 H1 s1 g1 _ e1 => ?_
    walk_at "go"
    refine newS_lay s1 (by walk_at "len") fun q2 G2 H2 s2 g2 _ e2 => ?_
    walk_at "go"
    refine new_lay s2 fun q3 G3 H3 s3 g3 _ e3 => ?_
    walk_at "go"
    refine newS_lay s3 (by walk_at "len") fun q4 G4 H4 s4 g4 _ e4 => ?_
    walk_at "go"
    refine newS_lay s4 (by walk_at "len") fun q5 G5 H5 s5 g5 _ e5 => ?_
    walk_at "go"
    intro q6 h6
    have s6 := s5.lay (o := ExO (.ref a.C_NoRow) q6) h6
    have g6 : Same G5 (upd G5 q6 (ExO (.ref a.C_NoRow) q6)) := fun b u e => by rw [upd_ne (ne_of_none (s5.w.sub b u e) h6)]; exact e
    have e6 : (upd G5 q6 (ExO (.ref a.C_NoRow) q6)) q6 = some (ExO (.ref a.C_NoRow) q6) := upd_same
    generalize upd G5 q6 (ExO (.ref a.C_NoRow) q6) = G6 at s6 g6 e6
    generalize upd H5 q6 (ExO (.ref a.C_NoRow) q6) = H6 at s6 ⊢
    walk_at "go"
    refine newS_lay s6 (by walk_at "len") fun q7 G7 H7 s7 g7 _ e7 => ?_
    walk_at "go"
    refine newS_lay s7 (by walk_at "len") fun q8 G8 H8 s8 g8 _ e8 => ?_
    walk_at "go"
    refine newS_lay s8 (by walk_at "len") fun q9 G9 H9 s9 g9 _ e9 => ?_
    walk_at "go"
    have f9 : H9 q9 = some _ := s9.w.sub _ _ e9
    refine go_any s9 (.inl f9) (fun z => by rw [z, s9.w.gp] at e9; cases e9) (by simp) (by walk_at "len") fun v H' hv s10 _ => ?_
    have ds : Drs a.C_NoRow G9 _ oddDs := .cons .non (.cons (.bl true) (.cons (.bl false) (.cons (.int 3) (.cons (.str "3")
      (.cons (.lst ((g2.trans (g3.trans (g4.trans (g5.trans (g6.trans (g7.trans (g8.trans g9))))))) _ _ e1) .nil)
      (.cons (.tup ((g3.trans (g4.trans (g5.trans (g6.trans (g7.trans (g8.trans g9)))))) _ _ e2) .nil)
      (.cons (.dic ((g4.trans (g5.trans (g6.trans (g7.trans (g8.trans g9))))) _ _ e3))
      (.cons (.tup ((g6.trans (g7.trans (g8.trans g9))) _ _ e5) (.cons (.tup ((g5.trans (g6.trans (g7.trans (g8.trans g9)))) _ _ e4) .nil) .nil))
      (.cons (.exo ((g7.trans (g8.trans g9)) _ _ e6))
      (.cons (.int (10 ^ 30))
      (.cons (.lst (g9 _ _ e8) (.cons (.lst ((g8.trans g9) _ _ e7) (.cons (.int 1) (.cons (.int 2) .nil))) .nil)) .nil)))))))))))
    obtain ⟨d, hd, hdr⟩ := ds.mem hv
    exact k v d G9 H' s10 hdr hd
theorem ok_law_no_row (T : Txt K mg a) : OkD P w K mg base CX0 4 a.f_law_no_row ["pot", "row"] (spNoRow a.C_NoRow) := by
  obtain ⟨fd, F⟩ := T.fn_law_no_row
  obtain ⟨⟨fd_law_any, G_law_any, b_law_any⟩, kp_law_any⟩ := ok_law_any (P := P) (w := w) (base := base) T
  obtain ⟨⟨fd_law_odd, G_law_odd, b_law_odd⟩, kp_law_odd⟩ := ok_law_odd (P := P) (w := w) (base := base) T
  refine ⟨⟨fd, ?_, F.binds fun _ _ _ _ _ _ us hl => match us, hl with | [_, _], _ => rfl⟩, F.kp⟩
  refine F.ok sc_law_no_row (fun vs H Q E h => ?_) (fun cdv A outer s H vs Q E hr h => ?_)
  · obtain ⟨p, t, G, ns, rfl, _⟩ := h
    rfl
  · obtain ⟨p, t, G, ns, rfl, w0, ht, hn3, hn5, k⟩ := h
    refine ⟨_, (pss_cons (ps_set (i := 2) sc_law_no_row.nd rfl (by first | exact Or.inl rfl | exact Or.inr rfl) (pe_lst (pa_cons (pe_slice (kSlA (K := K) rfl) (pv 1) (po_some pe_int) po_none) (pa_cons (pe_op (kCatA (K := K) rfl) (pv 1) (pe_tup (pa_cons pe_int pa_nil))) (pa_cons (pe_callTy (kLstOf (K := K) rfl) (by rfl) T.b_list (by decide +kernel) (pa_cons (pv 1) pa_nil)) (pa_cons (pe_op (kCatA (K := K) rfl) (pe_tup (pa_cons pe_bl pa_nil)) (pe_slice (kSlA (K := K) rfl) (pv 1) (po_some pe_int) po_none)) (pa_cons (pe_op (kCatA (K := K) rfl) (pe_tup (pa_cons (pe_un un_neg pe_int) pa_nil)) (pe_slice (kSlA (K := K) rfl) (pv 1) (po_some pe_int) po_none)) (pa_cons (pe_op (kCatA (K := K) rfl) (pe_tup (pa_cons pe_int pa_nil)) (pe_slice (kSlA (K := K) rfl) (pv 1) (po_some pe_int) po_none)) (pa_cons (pe_op (kCatA (K := K) rfl) (pe_tup (pa_cons pe_str pa_nil)) (pe_slice (kSlA (K := K) rfl) (pv 1) (po_some pe_int) po_none)) pa_nil)))))))))
    (pss_one (ps_ret (pe_call G_law_any (hr.mono (by first | decide | omega)) rfl T.g_law_any kp_law_any b_law_any .nil pass0 (pa_cons (pv 0) (pa_cons (pe_op op_cat (pv 2) (pe_lst (pa_cons (pe_call G_law_odd (hr.mono (by first | decide | omega)) rfl T.g_law_odd kp_law_odd b_law_odd .nil pass0 (pa_cons (pv 0) pa_nil)) pa_nil))) pa_nil)))))), ?_⟩
    rw [show L2.start N_law_no_row [.ref p, .ref t] = [some (.ref p), some (.ref t), none] from rfl]
    have s0 := Stp.refl w0
    have el : (ns.map V.int).length = ns.length := List.length_map ..
    have cut1 : cutV (ns.map V.int) (some 1) none = (ns.drop 1).map V.int := by
      rw [show (1 : Int) = ((1 : Nat) : Int) from rfl, cut_from, List.map_drop]
    have el1 : ((ns.drop 1).map V.int).length ≤ 5 := by rw [List.length_map, List.length_drop]; omega
    walk_at "go"
    refine slA_lay s0 ht fun q1 G1 H1 s1 g1 _ e1 => ?_
    rw [cut1] at e1
    walk_at "go"
    refine newS_lay s1 (by walk_at "len") fun q2 G2 H2 s2 g2 _ e2 => ?_
    walk_at "go"
    refine catT_lay s2 ((g1.trans g2) _ _ ht) e2 (by walk_at "len") fun q3 G3 H3 s3 g3 _ e3 => ?_
    walk_at "go"
    refine lstOf_lay s3 (.inr (.inl (.inl (s3.w.sub _ _ ((g1.trans (g2.trans g3)) _ _ ht))))) fun q4 G4 H4 s4 g4 _ e4 => ?_
    walk_at "go"
    refine newS_lay s4 (by walk_at "len") fun q5 G5 H5 s5 g5 _ e5 => ?_
    walk_at "go"
    refine slA_lay s5 ((g1.trans (g2.trans (g3.trans (g4.trans g5)))) _ _ ht) fun q6 G6 H6 s6 g6 _ e6 => ?_
    rw [cut1] at e6
    walk_at "go"
    refine catT_lay s6 (g6 _ _ e5) e6 (by walk_at "len") fun q7 G7 H7 s7 g7 _ e7 => ?_
    walk_at "go"
    refine newS_lay s7 (by walk_at "len") fun q8 G8 H8 s8 g8 _ e8 => ?_
    walk_at "go"
    refine slA_lay s8 (by walk_at "gs") fun q9 G9 H9 s9 g9 _ e9 => ?_
    rw [cut1] at e9
    walk_at "go"
    refine catT_lay s9 (by walk_at "gs") e9 (by walk_at "len") fun q10 G10 H10 s10 g10 _ e10 => ?_
    walk_at "go"
    refine newS_lay s10 (by walk_at "len") fun q11 G11 H11 s11 g11 _ e11 => ?_
    walk_at "go"
    refine slA_lay s11 (by walk_at "gs") fun q12 G12 H12 s12 g12 _ e12 => ?_
    rw [cut1] at e12
    walk_at "go"
    refine catT_lay s12 (by walk_at "gs") e12 (by walk_at "len") fun q13 G13 H13 s13 g13 _ e13 => ?_
    walk_at "go"
    refine newS_lay s13 (by walk_at "len") fun q14 G14 H14 s14 g14 _ e14 => ?_
    walk_at "go"
    refine slA_lay s14 (by walk_at "gs") fun q15 G15 H15 s15 g15 _ e15 => ?_
    rw [cut1] at e15
    walk_at "go"
    refine catT_lay s15 (by walk_at "gs") e15 (by walk_at "len") fun q16 G16 H16 s16 g16 _ e16 => ?_
    walk_at "go"
    refine newS_lay s16 (by walk_at "len") fun q17 G17 H17 s17 g17 _ e17 => ?_
    walk_at "go"
    refine ⟨p, G17, rfl, s17.w, fun v d G18 H18 s18' hdr hdo => ?_⟩
    have g18 := s18'.g
    have s18 := s17.trans s18'
    walk_at "go"
    refine newS_lay s18 (by walk_at "len") fun q19 G19 H19 s19 g19 _ e19 => ?_
    walk_at "go"
    refine cat_lay s19 (s19.w.sub _ _ (show G19 q17 = _ by walk_at "gs")) (s19.w.sub _ _ e19) (by walk_at "len") fun q20 G20 H20 s20 g20 _ e20 => ?_
    walk_at "go"
    refine go_any s20 (.inl (s20.w.sub _ _ e20)) (s20.tl e20) (by simp) (by simp) fun v' H' hv s21 _ => ?_
    have ri : ∀ (t' : Addr) (ms : List Int), G20 t' = some (.tup (ms.map V.int)) → Dr a.C_NoRow G20 (.ref t') (rowT ms) := fun t' ms h => .tup h (Drs.ints ms)
    have ds : Drs a.C_NoRow G20 [V.ref q1, V.ref q3, V.ref q4, V.ref q7, V.ref q10, V.ref q13, V.ref q16, v] [rowT (ns.drop 1), .tuple (ns.map PyData.int ++ [.int 1]), .list (ns.map PyData.int), .tuple (.bool true :: (ns.drop 1).map PyData.int), .tuple (.int (-1) :: (ns.drop 1).map PyData.int), .tuple (.int 10000 :: (ns.drop 1).map PyData.int), .tuple (.str "0" :: (ns.drop 1).map PyData.int), d] :=
      .cons (ri _ _ (by walk_at "gs")) (.cons (.tup (show G20 q3 = _ by walk_at "gs") ((Drs.ints ns).app (.cons (.int 1) .nil))) (.cons (.lst (show G20 q4 = _ by walk_at "gs") (Drs.ints ns))
        (.cons (.tup (show G20 q7 = _ by walk_at "gs") (.cons (.bl true) (Drs.ints _))) (.cons (.tup (show G20 q10 = _ by walk_at "gs") (.cons (.int (-1)) (Drs.ints _))) (.cons (.tup (show G20 q13 = _ by walk_at "gs") (.cons (.int 10000) (Drs.ints _)))
        (.cons (.tup (show G20 q16 = _ by walk_at "gs") (.cons (.str "0") (Drs.ints _))) (.cons (hdr.same (g19.trans g20)) .nil)))))))
    obtain ⟨d', hd', hdr'⟩ := ds.mem hv
    refine k v' d' G20 H' s21 hdr' ?_
    simp only [List.mem_cons, List.not_mem_nil, or_false] at hd'
    rcases hd' with rfl | rfl | rfl | rfl | rfl | rfl | rfl | rfl
    · exact rowD_len (by rw [List.length_map, List.length_drop]; omega)
    · exact rowD_len (by rw [List.length_append, List.length_map]; show ((ns.length + 1 : Nat) : Int) ≠ _; omega)
    · rfl
    · exact rowD_head rfl
    · exact rowD_head rfl
    · exact rowD_head rfl
    · exact rowD_head rfl
    · exact odd_row (by omega) hdo
end
end K01

set_option Elab.async false
set_option linter.all false
set_option maxRecDepth 100000
set_option maxHeartbeats 4000000
namespace K01
open PySem PySem.Spec PyProof.Rows L2 Kb
section
variable {P : Program} {w : World} {K : PySem.W.Frag} {mg : Str → Option Value} {base : Heap} {a : Ad}
theorem ok_law_no_lot (T : Txt K mg a) : OkD P w K mg base CX0 5 a.f_law_no_lot ["pot", "lot"] (spNoLot a.C_NoRow) := by
  obtain ⟨fd, F⟩ := T.fn_law_no_lot
  obtain ⟨⟨fd_law_any, G_law_any, b_law_any⟩, kp_law_any⟩ := ok_law_any (P := P) (w := w) (base := base) T
  obtain ⟨⟨fd_law_odd, G_law_odd, b_law_odd⟩, kp_law_odd⟩ := ok_law_odd (P := P) (w := w) (base := base) T
  obtain ⟨⟨fd_law_no_row, G_law_no_row, b_law_no_row⟩, kp_law_no_row⟩ := ok_law_no_row (P := P) (w := w) (base := base) T
  refine ⟨⟨fd, ?_, F.binds fun _ _ _ _ _ _ us hl => match us, hl with | [_, _], _ => rfl⟩, F.kp⟩
  refine F.ok sc_law_no_lot (fun vs H Q E h => ?_) (fun cdv A outer s H vs Q E hr h => ?_)
  · obtain ⟨p, t, G, ls, rs, m, rfl, _⟩ := h
    rfl
  · obtain ⟨p, t, G, ls, rs, m, rfl, w0, ht, hds, hm3, hm5, hlot, k⟩ := h
    refine ⟨_, (pss_cons (ps_set (i := 2) sc_law_no_lot.nd rfl (by first | exact Or.inl rfl | exact Or.inr rfl) (pe_lst (pa_cons (pe_tup pa_nil) (pa_cons (pe_callTy (kLstOf (K := K) rfl) (by rfl) T.b_list (by decide +kernel) (pa_cons (pv 1) pa_nil)) (pa_cons (pe_op (kCatA (K := K) rfl) (pv 1) (pe_slice (kSlA (K := K) rfl) (pv 1) (po_some (pe_un un_neg pe_int)) po_none)) (pa_cons (pe_op (kCatA (K := K) rfl) (pe_tup (pa_cons (pe_call G_law_no_row (hr.mono (by first | decide | omega)) rfl T.g_law_no_row kp_law_no_row b_law_no_row .nil pass0 (pa_cons (pv 0) (pa_cons (pe_ix (kIxT (K := K) rfl) (pv 1) pe_int (fun _ _ => rfl)) pa_nil))) pa_nil)) (pe_slice (kSlA (K := K) rfl) (pv 1) (po_some pe_int) po_none)) (pa_cons (pe_call G_law_odd (hr.mono (by first | decide | omega)) rfl T.g_law_odd kp_law_odd b_law_odd .nil pass0 (pa_cons (pv 0) pa_nil)) pa_nil)))))))
    (pss_cons (ps_if (pt_cmpR op_gt (pe_callB (kLen (K := K) rfl) (by rfl) T.b_len (by decide +kernel) (pa_cons (pv 1) pa_nil)) pe_int (nomark _))
      (pss_one (ps_expr (pe_bm PySem.F.plainAttrs_list PySem.F.slot_list_append PySem.F.type_list_append mt_append (pv 2) (pa_cons (kRevT (K := K) (pv 1) rfl) pa_nil))))
      pss_nil)
    (pss_one (ps_ret (pe_call G_law_any (hr.mono (by first | decide | omega)) rfl T.g_law_any kp_law_any b_law_any .nil pass0 (pa_cons (pv 0) (pa_cons (pv 2) pa_nil))))))), ?_⟩
    rw [show L2.start N_law_no_lot [.ref p, .ref t] = [some (.ref p), some (.ref t), none] from rfl]
    have s0 := Stp.refl w0
    have el := hds.length
    obtain ⟨rs', e0, hl1, hl60, hall, hasc⟩ := lotD_parts hlot
    cases e0
    obtain ⟨l, x, es, dx, els, ers, hl, hdx⟩ := hds.snoc hl1
    walk_at "go"
    refine newS_lay s0 (by walk_at "len") fun q1 G1 H1 s1 g1 _ e1 => ?_
    walk_at "go"
    refine lstOf_lay s1 (.inr (.inl (.inl (s1.w.sub _ _ (by walk_at "gs"))))) fun q2 G2 H2 s2 g2 _ e2 => ?_
    walk_at "go"
    refine slA_lay s2 (by walk_at "gs") fun q3 G3 H3 s3 g3 _ e3 => ?_
    rw [els, cut_last l x] at e3
    walk_at "go"
    refine catT_lay s3 (by walk_at "gs") e3 (by simp only [List.length_cons, List.length_nil]; omega) fun q4 G4 H4 s4 g4 _ e4 => ?_
    walk_at "go"
    obtain ⟨x0, d0, ls1, rs1, eh, erh, hx0, hls1⟩ : ∃ x0 d0 ls1 rs1, ls = x0 :: ls1 ∧ rs = d0 :: rs1 ∧ Dr a.C_NoRow G x0 d0 ∧ Drs a.C_NoRow G ls1 rs1 := by
      cases hds with
      | nil => simp at hl1
      | cons h1 h2 => exact ⟨_, _, _, _, rfl, rfl, h1, h2⟩
    have hrow0 : rowD m d0 = true := by
      rw [erh, List.all_cons, Bool.and_eq_true] at hall
      exact hall.1
    obtain ⟨er0, hlen0, hbd0⟩ := rowD_eq hrow0
    rw [er0] at hx0
    obtain ⟨t0, rfl, ht0⟩ := row_of hx0
    refine go_ixT (.inl (.inl (s4.w.sub _ _ (show G4 t = _ by walk_at "gs")))) (v := .ref t0) (by rw [eh]; exact atI_nat (xs := .ref t0 :: ls1) (j := 0) rfl) ?_
    walk_at "go"
    refine ⟨p, t0, G4, intsOf d0, rfl, s4.w, by walk_at "gs", by omega, by omega, fun vb db G5 H5 s5' hdb hbad => ?_⟩
    have g5 := s5'.g
    have s5 := s4.trans s5'
    walk_at "go"
    refine newS_lay s5 (by walk_at "len") fun q6 G6 H6 s6 g6 _ e6 => ?_
    walk_at "go"
    refine slA_lay s6 (by walk_at "gs") fun q7 G7 H7 s7 g7 _ e7 => ?_
    rw [show (1 : Int) = ((1 : Nat) : Int) from rfl, cut_from] at e7
    walk_at "go"
    refine catT_lay s7 (by walk_at "gs") e7 (by rw [List.length_drop]; simp only [List.length_cons, List.length_nil]; omega) fun q8 G8 H8 s8 g8 _ e8 => ?_
    walk_at "go"
    refine ⟨p, G8, rfl, s8.w, fun vo do_ G9 H9 s9' hdo hodd => ?_⟩
    have g9 := s9'.g
    have s9 := s8.trans s9'
    walk_at "go"
    refine newS_own s9 w0 (by walk_at "len") fun q10 H10 s10 k10 m10 => ?_
    walk_at "go"
    refine go_lenT (.inl (.inl (s10.w.sub _ _ (show G9 t = _ by walk_at "gs")))) ?_
    walk_at "go"
    have hds9 : Drs a.C_NoRow G9 [V.ref q1, V.ref q2, V.ref q4, V.ref q8, vo] [.tuple [], .list rs, .tuple (rs ++ [dx]), .tuple (db :: rs.drop 1), do_] :=
      .cons (.tup (show G9 q1 = _ by walk_at "gs") .nil) (.cons (.lst (show G9 q2 = _ by walk_at "gs") (hds.same s9.g)) (.cons (.tup (show G9 q4 = _ by walk_at "gs") ((hds.same s9.g).app (.cons (hdx.same s9.g) .nil)))
        (.cons (.tup (show G9 q8 = _ by walk_at "gs") (.cons (hdb.same (g6.trans (g7.trans (g8.trans g9)))) ((hds.same s9.g).drop 1))) (.cons hdo .nil))))
    have bad : ∀ d', d' ∈ ([.tuple [], .list rs, .tuple (rs ++ [dx]), .tuple (db :: rs.drop 1), do_] : List PyData) → lotD m d' = false := fun d' hd' => by
      simp only [List.mem_cons, List.not_mem_nil, or_false] at hd'
      rcases hd' with rfl | rfl | rfl | rfl | rfl
      · rfl
      · rfl
      · refine lotD_asc ?_
        rw [ers, List.append_assoc, List.map_append]
        exact ascI_dup
      · refine lotD_row ?_
        rw [hlen0] at hbad
        exact hbad
      · exact odd_lot hm3 hodd
    have fin : ∀ (H' : Hp) (xs : List V) (dd : List PyData) (G' : Hp), Stp p G H G' H' → H' q10 = some (.lst xs) → q10 ≠ p → Drs a.C_NoRow G' xs dd → xs ≠ [] → xs.length < 1000000 → (∀ d', d' ∈ dd → lotD m d' = false) → spAny [.ref p, .ref q10] H' Q E0 := fun H' xs dd G' s hx hp hdd hne hlt hbd => by
      refine go_any s (.inl hx) hp hne hlt fun v H2 hv s2 _ => ?_
      obtain ⟨d', h1, h2⟩ := hdd.mem hv
      exact k v d' G' H2 s2 h2 (hbd d' h1)
    apply Kb.ite_split <;> intro hlong
    · walk_at "go"
      refine ⟨tyL m10.at_, ?_⟩
      walk_at "go"
      refine revT_lay s10 (by walk_at "gs") fun q11 G11 H11 s11 g11 gr11 e11 => ?_
      walk_at "go"
      refine app_own s11 (m10.grow gr11) (by walk_at "len") fun H12 s12 m12 _ => ?_
      walk_at "go"
      refine fin _ _ ([.tuple [], .list rs, .tuple (rs ++ [dx]), .tuple (db :: rs.drop 1), do_] ++ [.tuple rs.reverse]) G11 s12 m12.at_ m12.ne ((hds9.same g11).app (.cons (.tup e11 (hds.same s11.g).rev) .nil)) (by simp) (by simp) fun d' hd' => ?_
      rcases List.mem_append.mp hd' with hd' | hd'
      · exact bad d' hd'
      · obtain rfl := List.mem_singleton.mp hd'
        refine lotD_asc ?_
        rw [List.map_reverse]
        exact ascI_rev hasc (by rw [List.length_map]; omega)
    · walk_at "go"
      exact fin _ _ _ G9 s10 m10.at_ m10.ne hds9 (by simp) (by simp) bad
end
end K01

set_option Elab.async false
set_option linter.all false
set_option maxRecDepth 100000
set_option maxHeartbeats 4000000
namespace K01
open PySem PySem.Spec PyProof.Rows L2 Kb
/-- rows that are unlike, of so many numbers below 10000 -/
structure Rows (many : Int) (rows : List (List Int)) : Prop where
  nd : rows.Nodup
  ok : ∀ r ∈ rows, (r.length : Int) = many ∧ ∀ z ∈ r, 0 ≤ z ∧ z ≤ 9999
theorem Rows.more {many : Int} {rows : List (List Int)} (h : Rows many rows) {r : List Int} (hn : r ∉ rows) (hl : (r.length : Int) = many) (hz : ∀ z ∈ r, 0 ≤ z ∧ z ≤ 9999) : Rows many (rows ++ [r]) := by
  refine ⟨List.nodup_append.mpr ⟨h.nd, by simp, fun x hx y hy => ?_⟩, fun q hq => ?_⟩
  · obtain rfl := List.mem_singleton.mp hy
    exact fun e => hn (e ▸ hx)
  · rcases List.mem_append.mp hq with hq | hq
    · exact h.ok q hq
    · obtain rfl := List.mem_singleton.mp hq
      exact ⟨hl, hz⟩
theorem Rows.perm {many : Int} {rows rows' : List (List Int)} (h : Rows many rows) (p : rows'.Perm rows) : Rows many rows' := ⟨p.nodup_iff.mpr h.nd, fun r hr => h.ok r (p.mem_iff.mp hr)⟩
theorem Rows.bd {many : Int} {rows : List (List Int)} (h : Rows many rows) (hm : 0 ≤ many) : ∀ r ∈ rows, r.length = many.toNat ∧ TS.Bd 10000 r := fun r hr => by
  obtain ⟨h1, h2⟩ := h.ok r hr
  refine ⟨by omega, fun z hz => ?_⟩
  have := h2 z hz
  omega
def spLots (N : Addr) : Sp := fun vs H Q _ => ∃ (p : Addr) (G : Hp) (many size : Int), vs = [.ref p, .int many, .int size] ∧ W p G H ∧ 3 ≤ many ∧ many ≤ 5 ∧ 1 ≤ size ∧ size ≤ 60 ∧
  ∀ (t : Addr) (G' H' : Hp) (fs : List V) (ds : List PyData), Stp p G H G' H' → G' t = some (.tup fs) → Drs N G' fs ds → (∀ j, j < ds.length → Good many ds j) → 1 ≤ ds.length → ds.length ≤ 60 → Q (.ref t) H'
section
variable {P : Program} {w : World} {K : PySem.W.Frag} {mg : Str → Option Value} {base : Heap} {a : Ad}
theorem ok_law_lots (T : Txt K mg a) : OkD P w K mg base CX0 3 a.f_law_lots ["pot", "many", "size"] (spLots a.C_NoRow) := by
  obtain ⟨fd, F⟩ := T.fn_law_lots
  obtain ⟨⟨fd_law_any, G_law_any, b_law_any⟩, kp_law_any⟩ := ok_law_any (P := P) (w := w) (base := base) T
  obtain ⟨⟨fd_law_draw, G_law_draw, b_law_draw⟩, kp_law_draw⟩ := ok_law_draw (P := P) (w := w) (base := base) T
  obtain ⟨⟨fd_law_row, G_law_row, b_law_row⟩, kp_law_row⟩ := ok_law_row (P := P) (w := w) (base := base) T
  refine ⟨⟨fd, ?_, F.binds fun _ _ _ _ _ _ us hl => match us, hl with | [_, _, _], _ => rfl⟩, F.kp⟩
  refine F.ok sc_law_lots (fun vs H Q E h => ?_) (fun cdv A outer s H vs Q E hr h => ?_)
  · obtain ⟨p, G, many, size, rfl, _⟩ := h
    rfl
  · obtain ⟨p, G, many, size, rfl, w0, hm3, hm5, hs1, hs60, k⟩ := h
    have hd1 : 1 ≤ many.toNat := by omega
    refine ⟨_, (pss_cons (ps_par (i := 3) (j := 4) (by rfl) sc_law_lots.nd rfl rfl (by decide) rfl rfl (pa_cons (pe_lst pa_nil) (pa_cons (pe_call G_law_any (hr.mono (by first | decide | omega)) rfl T.g_law_any kp_law_any b_law_any .nil pass0 (pa_cons (pv 0) (pa_cons (pe_lst (pa_cons pe_int (pa_cons pe_int (pa_cons pe_int pa_nil)))) pa_nil))) pa_nil)) (by rfl))
    (pss_cons (ps_for PassesOwn.never rfl (pi_range1 (by rfl) T.b_range (pa_cons (pv 2) pa_nil)) (pg_name (i := 5) sc_law_lots.nd rfl (by first | exact Or.inl rfl | exact Or.inr rfl))
      (pss_cons (ps_set (i := 6) sc_law_lots.nd rfl (by first | exact Or.inl rfl | exact Or.inr rfl) (pe_call G_law_row (hr.mono (by first | decide | omega)) rfl T.g_law_row kp_law_row b_law_row .nil pass0 (pa_cons (pv 0) (pa_cons (pv 1) (pa_cons (pv 4) pa_nil)))))
      (pss_one (ps_if (pt_cmpR (kNotInD (K := K) hr rfl) (pv 6) (pv 3) (by rfl))
        (pss_one (ps_expr (pe_bm PySem.F.plainAttrs_list PySem.F.slot_list_append PySem.F.type_list_append mt_append (pv 3) (pa_cons (pv 6) pa_nil))))
        pss_nil))))
    (pss_cons (ps_set (i := 7) sc_law_lots.nd rfl (by first | exact Or.inl rfl | exact Or.inr rfl) (pe_lst pa_nil))
    (pss_cons (ps_for PassesOwn.never rfl (kpList (K := K) (pe_callB (kSortT (K := K) (d := many.toNat) (B := 10000) hd1 rfl) (by rfl) T.b_sorted (by decide +kernel) (pa_cons (pv 3) pa_nil)) rfl) (pg_name (i := 6) sc_law_lots.nd rfl (by first | exact Or.inl rfl | exact Or.inr rfl))
      (pss_cons (ps_set (i := 8) sc_law_lots.nd rfl (by first | exact Or.inl rfl | exact Or.inr rfl) (pe_lst pa_nil))
      (pss_cons (ps_for PassesOwn.never rfl (pi_range1 (by rfl) T.b_range (pa_cons (pe_op op_add pe_int (pe_call G_law_draw (hr.mono (by first | decide | omega)) rfl T.g_law_draw kp_law_draw b_law_draw .nil pass0 (pa_cons (pv 0) (pa_cons pe_int pa_nil)))) pa_nil)) (pg_name (i := 5) sc_law_lots.nd rfl (by first | exact Or.inl rfl | exact Or.inr rfl))
        (pss_cons (ps_set (i := 9) sc_law_lots.nd rfl (by first | exact Or.inl rfl | exact Or.inr rfl) (pe_call G_law_row (hr.mono (by first | decide | omega)) rfl T.g_law_row kp_law_row b_law_row .nil pass0 (pa_cons (pv 0) (pa_cons (pv 1) (pa_cons (pe_call G_law_any (hr.mono (by first | decide | omega)) rfl T.g_law_any kp_law_any b_law_any .nil pass0 (pa_cons (pv 0) (pa_cons (pe_lst (pa_cons pe_int (pa_cons pe_int pa_nil))) pa_nil))) pa_nil)))))
        (pss_one (ps_if (pt_cmpR (kNotInD (K := K) hr rfl) (pv 9) (pv 8) (by rfl))
          (pss_one (ps_expr (pe_bm PySem.F.plainAttrs_list PySem.F.slot_list_append PySem.F.type_list_append mt_append (pv 8) (pa_cons (pv 9) pa_nil))))
          pss_nil))))
      (pss_one (ps_expr (pe_bm PySem.F.plainAttrs_list PySem.F.slot_list_append PySem.F.type_list_append mt_append (pv 7) (pa_cons (pe_tup (pa_cons (pv 6) (pa_cons (pe_callTy (kTupOf (K := K) rfl) (by rfl) T.b_tuple (by decide +kernel) (pa_cons (pe_callB (kSortT (K := K) (d := many.toNat) (B := 10000) hd1 rfl) (by rfl) T.b_sorted (by decide +kernel) (pa_cons (pv 8) pa_nil)) pa_nil)) pa_nil))) pa_nil)))))))
    (pss_one (ps_ret (pe_callTy (kTupOf (K := K) rfl) (by rfl) T.b_tuple (by decide +kernel) (pa_cons (pv 7) pa_nil)))))))), ?_⟩
    rw [show L2.start N_law_lots [.ref p, .int many, .int size] = [some (.ref p), some (.int many), some (.int size), none, none, none, none, none, none, none] from rfl]
    have s0 := Stp.refl w0
    walk_at "go"
    refine newS_own s0 w0 (by walk_at "len") fun l1 H1 s1 k1 m1 => ?_
    walk_at "go"
    refine newS_lay s1 (by walk_at "len") fun q2 G2 H2 s2 g2 gr2 e2 => ?_
    walk_at "go"
    refine go_any s2 (.inl (s2.w.sub _ _ e2)) (s2.tl e2) (by simp) (by walk_at "len") fun v3 H3 hv3 s3 kk3 => ?_
    have m3 := (m1.grow gr2).same (kk3 l1 m1.ne)
    obtain ⟨most, rfl, hmost⟩ : ∃ most : Int, v3 = .int most ∧ (most = 2 ∨ most = 4 ∨ most = 10000) := by
      simp only [List.mem_cons, List.not_mem_nil, or_false] at hv3
      rcases hv3 with rfl | rfl | rfl
      · exact ⟨2, rfl, .inl rfl⟩
      · exact ⟨4, rfl, .inr (.inl rfl)⟩
      · exact ⟨10000, rfl, .inr (.inr rfl)⟩
    walk_at "go"
    have most0 : 0 < most ∧ most ≤ 10000 := by rcases hmost with rfl | rfl | rfl <;> omega
    refine go_wIR (by omega) (by omega) ?_
    refine fl_range (fun i σ H' => ∃ G' s5 s6 xs rows, σ = [some (.ref p), some (.int many), some (.int size), some (.ref l1), some (.int most), s5, s6, none, none, none] ∧ Stp p G H G' H' ∧ Mine p G H G' H' l1 (.lst xs) ∧ Drs a.C_NoRow G' xs (rows.map rowT) ∧ Rows many rows ∧ rows.length ≤ i ∧ (0 < i → rows ≠ []))
      ⟨G2, none, none, [], [], rfl, s3, m3, .nil, ⟨List.nodup_nil, fun r hr => by cases hr⟩, Nat.zero_le _, fun h => absurd h (Nat.lt_irrefl 0)⟩ ?_ ?_
    · rintro i σ H4 hi ⟨G4, s5, s6, xs, rows, rfl, s4, m4, hxs, hR, hle, hne⟩
      walk_at "go"
      refine ⟨p, G4, many, most, rfl, s4.w, by omega, by omega, by omega, by omega, fun t G5 H5 ns s5' ht hl hz => ?_⟩
      have s5 := s4.trans s5'
      have m5 := m4.step s5'
      have hx5 := hxs.same s5'.g
      have hz' : ∀ z ∈ ns, 0 ≤ z ∧ z ≤ 9999 := fun z hm => by have := hz z hm; omega
      walk_at "go"
      refine notIn_rows s5.w.sub ht m5.at_ hx5 (by omega) (by omega) (fun q hq => by have := (hR.ok q hq).1; omega) ?_
      walk_at "go"
      apply Kb.ite_splitN <;> intro hin
      · walk_at "go"
        refine ⟨tyL m5.at_, ?_⟩
        walk_at "go"
        have lx : xs.length = rows.length := by rw [hx5.length, List.length_map]
        refine app_own s5 m5 (by omega) fun H6 s6 m6 _ => ?_
        walk_at "go"
        refine ⟨G5, _, _, _, rows ++ [ns], rfl, s6, m6, ?_, hR.more hin hl hz', by rw [List.length_append]; simp only [List.length_cons, List.length_nil]; omega, fun _ => by simp⟩
        rw [List.map_append]
        exact hx5.app (.cons (.tup ht (Drs.ints ns)) .nil)
      · walk_at "go"
        refine ⟨G5, _, _, xs, rows, rfl, s5, m5, hx5, hR, by omega, fun _ e => ?_⟩
        rw [e] at hin
        cases hin
    · rintro σ H4 ⟨G4, s5, s6, xs, rows, rfl, s4, m4, hxs, hR, hle, hne⟩
      have hne' := hne (by omega)
      have lx : xs.length = rows.length := by rw [hxs.length, List.length_map]
      walk_at "go"
      refine newS_own s4 w0 (by walk_at "len") fun l2 H5 s5 k5 m5 => ?_
      have m45 : Mine p G H G4 H5 l1 (.lst xs) := ⟨m4.h0, m4.g, m4.ne, k5 _ _ m4.at_⟩
      walk_at "go"
      refine sort_lay s5 m45.at_ hxs (by omega) hR.nd (hR.bd (by omega)) fun q6 G6 H6 ys rows' s6 g6 gr6 e6 hys hperm hasc => ?_
      have m6 := m5.grow gr6
      have hR' := hR.perm hperm
      have ly : ys.length = rows'.length := by rw [hys.length, List.length_map]
      have lr : rows'.length = rows.length := hperm.length_eq
      walk_at "go"
      refine go_wIL (xs := ys) (.inl (.inl (s6.w.sub _ _ e6))) ?_
      refine fl_list (xs := ys) (fun i σ H' => ∃ G' s5 s6 s8 s9 fs ds, σ = [some (.ref p), some (.int many), some (.int size), some (.ref l1), some (.int most), s5, s6, some (.ref l2), s8, s9] ∧ Stp p G H G' H' ∧ Same G6 G' ∧ Mine p G H G' H' l2 (.lst fs) ∧ Drs a.C_NoRow G' fs ds ∧ ds.length = i ∧ (∀ j, j < i → pairD many (ds.getD j .none) = true ∧ rows'[j]? = some (insD (ds.getD j .none))))
        ⟨G6, _, _, none, none, [], [], rfl, s6, Same.refl _, m6, .nil, rfl, fun j hj => absurd hj (Nat.not_lt_zero j)⟩ (fun i σ H' _ ⟨G', _, _, _, _, _, _, _, s', g', _⟩ => .inl (.inl (s'.w.sub _ _ (g' _ _ e6)))) ?_ ?_
      · rintro i x σ H7 hx ⟨G7, s5', s6', s8', s9', fs, ds, rfl, s7, g7, m7, hfs, hdl, hgood⟩
        obtain ⟨d, hd, hdr⟩ := hys.get hx
        obtain ⟨ns, hns, rfl⟩ : ∃ ns, rows'[i]? = some ns ∧ d = rowT ns := by
          rw [List.getElem?_map] at hd
          cases e : rows'[i]? with
          | none => rw [e] at hd; cases hd
          | some ns => rw [e] at hd; exact ⟨ns, rfl, (Option.some.inj hd).symm⟩
        obtain ⟨t, rfl, ht6⟩ := row_of hdr
        have hmem : ns ∈ rows' := List.mem_of_getElem? hns
        obtain ⟨hnl, hnz⟩ := hR'.ok ns hmem
        walk_at "go"
        refine newS_own2 s7 w0 (by walk_at "len") fun l3 H8 h3 s8 k8 m8 => ?_
        have m78 : Mine p G H G7 H8 l2 (.lst fs) := ⟨m7.h0, m7.g, m7.ne, k8 _ _ m7.at_⟩
        walk_at "go"
        refine go_draw s8 (by decide) (by decide) fun r H9 r0 r1 s9 kk9 => ?_
        have m9 := m8.same (kk9 l3 m8.ne)
        have m79 := m78.same (kk9 l2 m78.ne)
        walk_at "go"
        refine go_wIR (by omega) (by omega) ?_
        refine fl_range (fun j σ H' => ∃ G' s5 s9 ls ans, σ = [some (.ref p), some (.int many), some (.int size), some (.ref l1), some (.int most), s5, some (.ref t), some (.ref l2), some (.ref l3), s9] ∧ Stp p G H G' H' ∧ Same G7 G' ∧ Mine p G H G' H' l2 (.lst fs) ∧ Mine p G H G' H' l3 (.lst ls) ∧ Drs a.C_NoRow G' ls (ans.map rowT) ∧ Rows many ans ∧ ans.length ≤ j ∧ (0 < j → ans ≠ []))
          ⟨G7, _, _, [], [], rfl, s9, Same.refl _, m79, m9, .nil, ⟨List.nodup_nil, fun r hr => by cases hr⟩, Nat.zero_le _, fun h => absurd h (Nat.lt_irrefl 0)⟩ ?_ ?_
        · rintro j σ HA hj ⟨GA, s5'', s9'', ls, ans, rfl, sA, gA, mA, nA, hls, hRa, hle', hne''⟩
          walk_at "go"
          refine newS_lay sA (by walk_at "len") fun qB GB HB sB gB grB eB => ?_
          walk_at "go"
          refine go_any sB (.inl (sB.w.sub _ _ eB)) (sB.tl eB) (by simp) (by walk_at "len") fun v HC hv sC kkC => ?_
          have mC := (mA.grow grB).same (kkC l2 mA.ne)
          have nC := (nA.grow grB).same (kkC l3 nA.ne)
          obtain ⟨bo, rfl, hbo⟩ : ∃ bo : Int, v = .int bo ∧ (bo = 2 ∨ bo = 10000) := by
            simp only [List.mem_cons, List.not_mem_nil, or_false] at hv
            rcases hv with rfl | rfl
            · exact ⟨2, rfl, .inl rfl⟩
            · exact ⟨10000, rfl, .inr rfl⟩
          have hb0 : 0 < bo ∧ bo ≤ 10000 := by rcases hbo with rfl | rfl <;> omega
          walk_at "go"
          refine ⟨p, GB, many, bo, rfl, sC.w, by omega, by omega, by omega, by omega, fun u GD HD qs sD' hu hul huz => ?_⟩
          have sD := sC.trans sD'
          have mD := mC.step sD'
          have nD := nC.step sD'
          have hlsD := (hls.same gB).same sD'.g
          have huz' : ∀ z ∈ qs, 0 ≤ z ∧ z ≤ 9999 := fun z hm => by have := huz z hm; omega
          walk_at "go"
          refine notIn_rows sD.w.sub hu nD.at_ hlsD (by omega) (by omega) (fun q hq => by have := (hRa.ok q hq).1; omega) ?_
          walk_at "go"
          apply Kb.ite_splitN <;> intro hin
          · walk_at "go"
            refine ⟨tyL nD.at_, ?_⟩
            walk_at "go"
            have lx : ls.length = ans.length := by rw [hlsD.length, List.length_map]
            refine app_own sD nD (by omega) fun HE sE nE kE => ?_
            walk_at "go"
            have l23 : l2 ≠ l3 := ne_of_none m7.at_ h3
            refine ⟨GD, _, _, _, ans ++ [qs], rfl, sE, gA.trans (gB.trans sD'.g), mD.same (kE l2 l23), nE, ?_, hRa.more hin hul huz', by rw [List.length_append]; simp only [List.length_cons, List.length_nil]; omega, fun _ => by simp⟩
            rw [List.map_append]
            exact hlsD.app (.cons (.tup hu (Drs.ints qs)) .nil)
          · walk_at "go"
            refine ⟨GD, _, _, ls, ans, rfl, sD, gA.trans (gB.trans sD'.g), mD, nD, hlsD, hRa, by omega, fun _ e => ?_⟩
            rw [e] at hin
            cases hin
        · rintro σ HA ⟨GA, s5'', s9'', ls, ans, rfl, sA, gA, mA, nA, hls, hRa, hle', hne''⟩
          have hans := hne'' (by omega)
          have lx : ls.length = ans.length := by rw [hls.length, List.length_map]
          walk_at "go"
          refine ⟨tyL mA.at_, ?_⟩
          walk_at "go"
          refine sort_lay sA nA.at_ hls (by omega) hRa.nd (hRa.bd (by omega)) fun qB GB HB zs ans' sB gB grB eB hzs hpa hasca => ?_
          walk_at "go"
          refine tupOf_lay sB (.inl (.inl (sB.w.sub _ _ eB))) fun qC GC HC sC gC grC eC => ?_
          walk_at "go"
          refine newS_lay sC (by walk_at "len") fun qD GD HD sD gD grD eD => ?_
          walk_at "go"
          have mD := ((mA.grow grB).grow grC).grow grD
          have lf : fs.length = ds.length := by rw [hfs.length]
          have hi60 : i < 60 := by have := (List.getElem?_eq_some_iff.mp hns).1; omega
          refine app_own sD mD (by omega) fun HE sE mE kE => ?_
          walk_at "go"
          have hRa' := hRa.perm hpa
          have hpos : 1 ≤ ans'.length := by
            rw [hpa.length_eq]
            exact List.length_pos_iff.mpr hans
          have hlot : lotD many (.tuple (ans'.map rowT)) = true := lotD_of hpos (by rw [hpa.length_eq]; omega) hRa'.ok hasca
          have hpair : pairD many (.tuple [rowT ns, .tuple (ans'.map rowT)]) = true := by
            show (rowD many (rowT ns) && lotD many (.tuple (ans'.map rowT))) = true
            rw [rowD_of hnl hnz, hlot]; rfl
          have htD : GD t = some (.tup (ns.map V.int)) := gD _ _ (gC _ _ (gB _ _ (gA _ _ (g7 _ _ ht6))))
          refine ⟨GD, _, _, _, _, _, ds ++ [.tuple [rowT ns, .tuple (ans'.map rowT)]], rfl, sE, g7.trans (gA.trans (gB.trans (gC.trans gD))), mE, ?_, by rw [List.length_append, hdl]; rfl, fun j hj => ?_⟩
          · exact ((((hfs.same gA).same gB).same gC).same gD).app (.cons (.tup eD (.cons (.tup htD (Drs.ints ns)) (.cons (.tup (gD _ _ eC) ((hzs.same gC).same gD)) .nil))) .nil)
          · by_cases e : j = i
            · subst e
              have eg : (ds ++ [PyData.tuple [rowT ns, .tuple (ans'.map rowT)]]).getD j .none = .tuple [rowT ns, .tuple (ans'.map rowT)] := by
                rw [List.getD_eq_getElem?_getD, List.getElem?_append_right (by omega), hdl, Nat.sub_self]; rfl
              rw [eg]
              refine ⟨hpair, ?_⟩
              show rows'[j]? = some (intsOf (rowT ns))
              rw [inv_row]
              exact hns
            · have eg : (ds ++ [PyData.tuple [rowT ns, .tuple (ans'.map rowT)]]).getD j .none = ds.getD j .none := by
                rw [List.getD_eq_getElem?_getD, List.getElem?_append_left (by omega), List.getD_eq_getElem?_getD]
              rw [eg]
              exact hgood j (by omega)
      · rintro σ H7 ⟨G7, s5', s6', s8', s9', fs, ds, rfl, s7, g7, m7, hfs, hdl, hgood⟩
        walk_at "go"
        refine tupOf_lay s7 (.inl (.inl m7.at_)) fun qC GC HC sC gC grC eC => ?_
        have hpos : 1 ≤ rows.length := List.length_pos_iff.mpr hne'
        refine k qC GC HC fs ds sC eC (hfs.same gC) (fun j hj => ⟨(hgood j (by omega)).1, fun h0 => ?_⟩) (by omega) (by omega)
        have e1 := (hgood j (by omega)).2
        have e2 := (hgood (j - 1) (by omega)).2
        exact ascI_get hasc e2 (by rw [show j - 1 + 1 = j by omega]; exact e1)
end
end K01

set_option Elab.async false
set_option linter.all false
set_option maxRecDepth 100000
set_option maxHeartbeats 4000000
namespace K01
open PySem PySem.Spec PyProof.Rows L2 Kb
/-- what _law_part makes of the lambda that it calls: the part, or "let" -/
def TTpart (CB : Addr) : (XK → Hp → VK → Prop) → Hp → VK → Prop := fun tl H Q => tl (fun cls d H' => ∃ (dd : Addr) (v : V), cls = .ref CB ∧ d = some dd ∧ H' dd = some (.xd [("part", v)]) ∧ Q v H') H fun _ H' => Q (.str "let") H'
section
variable {K : PySem.W.Frag} {a : Ad}
theorem part_gives {X : Cx} (T : Txt X.K X.mg a) (g : Addr) (cdv : Value) (q : Str) : LamX.GivesTo X N_law_part "_law_part" (defScope s_law_part) g cdv (defBody s_law_part) "ask" q (TTpart a.C_BadTask) := by
  intro f c' s H Q tl act hc h
  have gl : Gl (cxOf C8.CX0 X.prog X.w X.K X.mg X.base N_law_part "_law_part" (defScope s_law_part) g cdv X.A X.stack s H C8.E0).nox "BadTask" := rfl
  refine ⟨_, pss_cons (Tr.ps_try_first (c := .ref a.C_BadTask) (i := 1) (n := "e")
      (tb := fun W D σ H => ∃ Ech : XK, (∀ cls d σ' H', Ech cls d H' → W cls d σ' H') ∧ σ[0]? = some (some (.ref f)) ∧ H c' = some (LamX.CodeO c' q) ∧ tl Ech H fun _ H' => D.nx σ H')
      rfl rfl sc_law_part.nd rfl rfl ⟨gl, by decide, .inl T.g_BadTask⟩ (fun W pn xe tk => ?_) (fun b oe cls d pn hz hf => pss_one (ps_ret (pe_xf T.xf_BadTask T.p_BadTask hz hf (pv 1))))) (pss_one (ps_ret pe_str)), ?_⟩
  · refine ⟨fun pins s' σ H' D I h' => ?_⟩
    obtain ⟨Ech, hW, h1, h2, h3⟩ := h'
    exact (pss_one (ps_expr (act W pn xe Ech _ _ tk hW))).run pins s' σ H' D I ⟨h1, h2, h3⟩
  · refine ⟨_, fun cls d σ' H' h' => ?_, rfl, hc, h⟩
    obtain ⟨dd, v, rfl, rfl, hd, hq⟩ := h'
    exact ⟨T.xm_BadTask, fun b hb hl => ⟨.ref b, List.getElem?_set_self (by rw [hl]; show (1 : Nat) < 2; decide), rfl, rfl, dd, _, v, rfl, hd, rfl, hq⟩⟩
theorem pe_part {X : Cx} (T : Txt X.K X.mg a) {c PT : Addr} (gl : Gl X "_law_part") (hr : Room 8 X.A) (TB : LamX.TabB X.base X.mg c PT) (hcode : X.env.code = .ref c) {params : Arguments} {body : Expr} {scope : Scope} {p lpos pos : Pos} {t : XK → TE}
    (L : LamX.LamS X.env.scope scope) (hdef : defaultsOf params X.env = ([], []))
    (hbind : ∀ (q : Str) (cl : List (Str × Addr)) (pm cv ctv : Value), bindArgs (PySem.W.kla_fn "<lambda>" q params body scope cl pm cv ctv) ⟨[], []⟩ = pure [])
    (hbody : ∀ (A : Around) (outer : List Env) (s : Shared) (H : Hp) (E : XK) (f c' : Addr), Room 6 (A.deeper (LamX.lamEnv X scope s.heap.objs.size f c')) → PE (LamX.lamCx X A outer s H E scope f c') body (t E)) :
    PE X (.Call (.Name "_law_part" p) [.Lambda params body scope lpos] [] pos) (LamX.tLam [(PT, X.env.qual ++ "<lambda>")] (TTpart a.C_BadTask) t) := by
  obtain ⟨fd, F⟩ := T.fn_law_part
  have kp := F.kp
  have bd := F.binds (ps := ["ask"]) fun _ _ _ _ _ _ us hl => match us, hl with | [_], _ => rfl
  obtain ⟨oc, od, kV, doc, pm, an, cdv, ct, osl, rfl, lk, hcd⟩ := F.ex
  exact LamX.pe_lamcall (k := 6) (Ng := N_law_part) gl T.g_law_part kp lk hcd bd sc_law_part rfl (Or.inl rfl) (part_gives T a.f_law_part cdv _) TB hcode List.mem_cons_self
    (fun q (hq : q ∈ [(PT, X.env.qual ++ "<lambda>")]) _ => by
      cases hq with
      | head => rfl
      | tail _ h => cases h) hr L hdef hbind hbody
end
end K01

set_option Elab.async false
set_option linter.all false
set_option maxRecDepth 100000
set_option maxHeartbeats 4000000
namespace K01
open PySem PySem.Spec PyProof.Rows L2 Kb
/-! ### a Task is made -/
abbrev born (H : Hp) (CT x dx : Addr) : Hp := upd (upd H dx (.own x)) x (.ins CT dx [])
def NewT (C : Addr) (sp : Sp) (E : XK) (Q : VK) (vs : List V) (H : Hp) : Prop := ∀ x dx, H x = none → H dx = none → dx ≠ x → sp (.ref x :: (vs ++ [])) (born H C x dx) (fun v H2 => v = .non ∧ Q (.ref x) H2) E
theorem go_mk {C : Addr} {sp : Sp} {E : XK} {t : TA} {σ : L2.St} {H : Hp} {Q : VK} (h : t σ H fun vs H1 => NewT C sp E Q vs H1) : tMake C sp [] E t σ H Q := h
/-- what a part that is told leads to -/
abbrev Epart (CB : Addr) (Q : VK) : XK := fun cls d H' => ∃ (dd : Addr) (v : V), cls = .ref CB ∧ d = some dd ∧ H' dd = some (.xd [("part", v)]) ∧ Q v H'
theorem go_tt {CB : Addr} {tl : XK → Hp → VK → Prop} {H : Hp} {Q : VK} (h : tl (Epart CB Q) H fun _ H' => Q (.str "let") H') : TTpart CB tl H Q := h
theorem trues_snoc {ws : List V} {b : Bool} (h : ∀ x ∈ ws, x = V.bl true) (e : b = true) : ∀ x ∈ ws ++ [V.bl b], x = V.bl true := fun x hx => by
  rcases List.mem_append.mp hx with z | z
  · exact h x z
  · rw [List.mem_singleton.mp z, e]
/-- the part that is due -/
def Due (dm dl : PyData) (v : V) : Prop :=
  (numD dm 3 5 = false ∧ v = .str "many") ∨ (numD dm 3 5 = true ∧ lenOk dl = false ∧ v = .str "lots") ∨
    ∃ (m : Int) (ds : List PyData) (k : Nat), dm = .int m ∧ 3 ≤ m ∧ m ≤ 5 ∧ dl = .tuple ds ∧ lenOk dl = true ∧ k < ds.length ∧ (∀ j, j < k → Good m ds j) ∧ ¬ Good m ds k ∧ v = .int k
section
variable {N CB CT : Addr} {G H : Hp} {vm vl v : V} {dm dl : PyData} {m : Int} {ds : List PyData} {E : XK} {Q R : VK}
theorem born_same {x dx : Addr} (hx : H x = none) (hd : H dx = none) : Same H (born H CT x dx) := fun b u e => by
  show upd (upd H dx (.own x)) x (.ins CT dx []) b = some u
  rw [upd_ne (ne_of_none e hx), upd_ne (ne_of_none e hd)]
  exact e
theorem numD_int {m : Int} (h1 : 3 ≤ m) (h2 : m ≤ 5) : numD (.int m) 3 5 = true := by
  show (decide (3 ≤ m) && decide (m ≤ 5)) = true
  rw [decide_eq_true h1, decide_eq_true h2]; rfl
theorem mk_out (hs : ∀ b o, G b = some o → H b = some o) (hm : Dr N G vm dm) (hl : Dr N G vl dl) (due : Due dm dl v) (q : ∀ H', Same H H' → Q v H') : NewT CT (spTaskInit N CB CT) (Epart CB Q) R [vm, vl] H := by
  intro x dx hx hd hn
  have sb := born_same (CT := CT) hx hd
  have gx : G x = none := by
    cases e : G x with
    | none => rfl
    | some o => rw [hs _ _ e] at hx; cases hx
  have out : BadOut CB (born H CT x dx) (Epart CB Q) v := fun d H' s' _ e => ⟨d, v, rfl, rfl, e, q _ (sb.trans s')⟩
  refine ⟨G, x, dx, vm, vl, dm, dl, rfl, fun b o e => sb _ _ (hs _ _ e), hm, hl, upd_same, gx, fun h => ?_, fun h1 h2 => ?_, fun m ds em a1 a2 el ok k hk lo hi => ?_, fun m ds em a1 a2 el ok lo H' _ _ => ?_⟩
  · rcases due with ⟨_, e⟩ | ⟨h', _, _⟩ | ⟨m, ds, k, rfl, a1, a2, _⟩
    · exact e ▸ out
    · rw [h] at h'; cases h'
    · rw [numD_int a1 a2] at h; cases h
  · rcases due with ⟨h', _⟩ | ⟨_, _, e⟩ | ⟨m, ds, k, _, _, _, _, ok, _⟩
    · rw [h1] at h'; cases h'
    · exact e ▸ out
    · rw [h2] at ok; cases ok
  · subst em
    rcases due with ⟨h', _⟩ | ⟨_, h', _⟩ | ⟨m', ds', k', e1, _, _, e2, _, hk', lo', hi', e⟩
    · rw [numD_int a1 a2] at h'; cases h'
    · rw [ok] at h'; cases h'
    · cases e1
      rw [el] at e2
      cases e2
      have ek : k = k' := by
        rcases Nat.lt_trichotomy k k' with z | z | z
        · exact absurd (lo' k z) hi
        · exact z
        · exact absurd (lo k' z) hi'
      subst ek
      exact e ▸ out
  · subst em
    rcases due with ⟨h', _⟩ | ⟨_, h', _⟩ | ⟨m', ds', k', e1, _, _, e2, _, hk', lo', hi', e⟩
    · rw [numD_int a1 a2] at h'; cases h'
    · rw [ok] at h'; cases h'
    · cases e1
      rw [el] at e2
      cases e2
      exact absurd (lo k' hk') hi'
theorem mk_good (hs : ∀ b o, G b = some o → H b = some o) (hm : Dr N G vm (.int m)) (hl : Dr N G vl (.tuple ds)) (a1 : 3 ≤ m) (a2 : m ≤ 5) (ok : lenOk (.tuple ds) = true) (lo : ∀ j, j < ds.length → Good m ds j)
    (q : ∀ x H', H x = none → Same H H' → TaskAt CT H' x m vl → Q (.ref x) H') : NewT CT (spTaskInit N CB CT) E Q [vm, vl] H := by
  intro x dx hx hd hn
  have sb := born_same (CT := CT) hx hd
  have gx : G x = none := by
    cases e : G x with
    | none => rfl
    | some o => rw [hs _ _ e] at hx; cases hx
  refine ⟨G, x, dx, vm, vl, .int m, .tuple ds, rfl, fun b o e => sb _ _ (hs _ _ e), hm, hl, upd_same, gx, fun h => ?_, fun h1 h2 => ?_, fun m' ds' em b1 b2 el ok' k hk lo' hi => ?_, fun m' ds' em b1 b2 el ok' lo' H' e1 e2 => ?_⟩
  · rw [numD_int a1 a2] at h; cases h
  · rw [ok] at h2; cases h2
  · cases em
    cases el
    exact absurd (lo k hk) hi
  · cases hm
    exact ⟨rfl, q x H' hx (fun b o e => e1 b o (ne_of_none e hx) (sb _ _ e)) ⟨dx, e2⟩⟩
end
/-! ### what lies still, but for tables -/
def SameN (G G' : Hp) : Prop := ∀ b u, G b = some u → (∀ ps, u ≠ .tbl ps) → G' b = some u
section
variable {N : Addr} {G G' : Hp}
theorem exO_ne {C : Value} {b : Addr} (ps : Array Value) : ExO C b ≠ .tbl ps := fun z => by
  unfold ExO at z
  cases z
theorem SameN.tup (s : SameN G G') {b : Addr} {xs : List V} (e : G b = some (.tup xs)) : G' b = some (.tup xs) := s _ _ e fun _ z => by cases z
mutual
theorem Dr.sameN (s : SameN G G') : ∀ {v : V} {d : PyData}, Dr N G v d → Dr N G' v d
  | _, _, .dic h => .dic (s _ _ h fun _ z => by cases z)
  | _, _, .exo h => .exo (s _ _ h exO_ne)
  | _, _, .tup h r => .tup (s.tup h) (Drs.sameN s r)
  | _, _, .lst h r => .lst (s _ _ h fun _ z => by cases z) (Drs.sameN s r)
  | _, _, .str x => .str x
  | _, _, .int i => .int i
  | _, _, .bl b => .bl b
  | _, _, .non => .non
theorem Drs.sameN (s : SameN G G') : ∀ {vs : List V} {ds : List PyData}, Drs N G vs ds → Drs N G' vs ds
  | _, _, .cons h r => .cons (Dr.sameN s h) (Drs.sameN s r)
  | _, _, .nil => .nil
end
end
/-! ### the law's own state -/
structure LW (p PT : Addr) (q : Str) (G H : Hp) : Prop where
  w : W p G H
  tab : LamX.TabS H PT q
  gt : G PT = none
/-- a list of the law's own -/
structure Own (p : Addr) (G H : Hp) (l : Addr) (xs : List V) : Prop where
  at_ : H l = some (.lst xs)
  g : G l = none
  ne : l ≠ p
section
variable {p PT l l' : Addr} {q : Str} {G H G' H' : Hp} {xs ys : List V}
theorem tab_keep (t : LamX.TabS H PT q) (k : ∀ b u, H b = some u → (∀ ys, u ≠ .lst ys) → H' b = some u) : LamX.TabS H' PT q := by
  obtain ⟨ps, h1, h2, h3⟩ := t
  refine ⟨ps, k _ _ h1 (fun _ z => by cases z), h2, fun pos cv hc => ?_⟩
  obtain ⟨c, e1, e2⟩ := h3 pos cv hc
  exact ⟨c, e1, k _ _ e2 fun ys z => by unfold LamX.CodeO at z; cases z⟩
theorem LW.step (L : LW p PT q G H) (s : Stp p G H G' H') : LW p PT q G' H' := by
  have tab := L.tab
  obtain ⟨ps, h1, _⟩ := tab
  refine ⟨s.w, tab_keep L.tab fun b u e n => s.e b u (fun z => ?_) e, s.n _ _ h1 L.gt⟩
  obtain ⟨c, ns, ⟨i, d, x, k, hp, _⟩, _⟩ := L.w.pot
  rw [z, hp] at e
  exact n _ (Option.some.inj e).symm
theorem LW.init (w : W p G H) (t : LamX.TabS H PT q) : ∃ G', LW p PT q G' H := by
  obtain ⟨c, ns, hp, hc⟩ := w.pot
  have nc : PT ≠ c := fun z => by
    obtain ⟨ps, h1, _⟩ := t
    rw [z, w.sub _ _ hc] at h1
    cases h1
  have np : p ≠ c := fun z => by rw [← z, w.gp] at hc; cases hc
  refine ⟨fun b => if b = c then G c else none, ⟨⟨c, ns, hp, ?_⟩, ?_, fun b o e => ?_⟩, t, ?_⟩
  · show (if c = c then G c else none) = _
    rw [if_pos rfl, hc]
  · show (if p = c then G c else none) = _
    rw [if_neg np]
  · have e' : (if b = c then G c else none) = some o := e
    by_cases z : b = c
    · rw [if_pos z] at e'
      rw [z]
      exact w.sub _ _ e'
    · rw [if_neg z] at e'; cases e'
  · show (if PT = c then G c else none) = _
    rw [if_neg nc]
theorem LW.tabs (L : LW p PT q G H) : LamX.Tabs [(PT, q)] H := fun r hr => by
  cases hr with
  | head => exact L.tab
  | tail _ h => cases h
theorem Own.step (o : Own p G H l xs) (s : Stp p G H G' H') : Own p G' H' l xs := ⟨s.e _ _ o.ne o.at_, s.n _ _ o.at_ o.g, o.ne⟩
theorem Mine.own {G0 H0 : Hp} (m : Mine p G0 H0 G H l (.lst xs)) : Own p G H l xs := ⟨m.at_, m.g, m.ne⟩
/-- behind the making of a lambda -/
theorem LW.lam (L : LW p PT q G H) (e : LamX.ExtN H H') (t : LamX.Tabs [(PT, q)] H') : ∃ G', LW p PT q G' H' ∧ SameN G G' ∧ (∀ b, G b = none → G' b = none) := by
  let G1 : Hp := fun b => match G b with
    | some (.tbl _) => none
    | o => o
  have s1 : SameN G G1 := fun b u h n => by
    show (match G b with
      | some (.tbl _) => none
      | o => o) = some u
    rw [h]
    cases u with
    | tbl ps => exact absurd rfl (n ps)
    | _ => rfl
  have s2 : ∀ b, G b = none → G1 b = none := fun b h => by
    show (match G b with
      | some (.tbl _) => none
      | o => o) = none
    rw [h]
  have s3 : ∀ b u, G1 b = some u → G b = some u ∧ ∀ ps, u ≠ .tbl ps := fun b u h => by
    have h' : (match G b with
      | some (.tbl _) => none
      | o => o) = some u := h
    cases g : G b with
    | none => rw [g] at h'; cases h'
    | some o =>
      rw [g] at h'
      cases o with
      | tbl ps => cases h'
      | _ =>
        cases h'
        exact ⟨rfl, fun _ z => by cases z⟩
  refine ⟨G1, ⟨⟨?_, s2 _ L.w.gp, fun b u h => ?_⟩, t _ List.mem_cons_self, s2 _ L.gt⟩, s1, s2⟩
  · obtain ⟨c, ns, ⟨i, d, x, n, hp, h0⟩, hc⟩ := L.w.pot
    exact ⟨c, ns, ⟨i, d, x, n, e _ _ hp (fun _ z => by cases z), h0⟩, s1 _ _ hc (fun _ z => by cases z)⟩
  · obtain ⟨h1, h2⟩ := s3 b u h
    exact e _ _ (L.w.sub _ _ h1) h2
theorem Own.lam (o : Own p G H l xs) (e : LamX.ExtN H H') (k : ∀ b, G b = none → G' b = none) : Own p G' H' l xs := ⟨e _ _ o.at_ (fun _ z => by cases z), k _ o.g, o.ne⟩
theorem LW.set (L : LW p PT q G H) (o : Own p G H l xs) : LW p PT q G (upd H l (.lst ys)) := by
  have k : ∀ b u, H b = some u → b ≠ l → upd H l (.lst ys) b = some u := fun b u e n => by rw [upd_ne n]; exact e
  obtain ⟨c, ns, ⟨i, d, x, n, hp, h0⟩, hc⟩ := L.w.pot
  refine ⟨⟨⟨c, ns, ⟨i, d, x, n, k _ _ hp (Ne.symm o.ne), h0⟩, hc⟩, L.w.gp, fun b u e => k _ _ (L.w.sub _ _ e) fun z => ?_⟩, tab_keep L.tab fun b u e n => k _ _ e fun z => ?_, L.gt⟩
  · rw [z, o.g] at e; cases e
  · rw [z, o.at_] at e
    exact n _ (Option.some.inj e).symm
theorem Own.set (o : Own p G H l xs) : Own p G (upd H l (.lst ys)) l ys := ⟨upd_same, o.g, o.ne⟩
theorem Own.other (o : Own p G H l xs) (n : l ≠ l') {u : HO} : Own p G (upd H l' u) l xs := ⟨by rw [upd_ne n]; exact o.at_, o.g, o.ne⟩
/-- one more -/
theorem app_law {v : V} {Q : VK} (L : LW p PT q G H) (o : Own p G H l xs) (hz : xs.length < 100000) (k : LW p PT q G (upd H l (.lst (xs ++ [v]))) → Own p G (upd H l (.lst (xs ++ [v]))) l (xs ++ [v]) → Q .non (upd H l (.lst (xs ++ [v])))) : rAppend (.ref l) [v] H Q :=
  ⟨l, xs, v, rfl, rfl, o.at_, Nat.lt_of_lt_of_le hz (by decide), k (L.set o) o.set⟩
/-- both ways of an 'if' make one value -/
theorem ifE_join {c : Prop} [Decidable c] {ta tb : TE} {σ : L2.St} {H : Hp} {Q : VK} (v : V) (h1 : c → ∀ Q' : VK, Q' v H → ta σ H Q') (h2 : ¬ c → ∀ Q' : VK, Q' v H → tb σ H Q') (k : Q v H) : if c then ta σ H Q else tb σ H Q := by
  by_cases h : c
  · rw [if_pos h]
    exact h1 h Q k
  · rw [if_neg h]
    exact h2 h Q k
theorem go_eqSelf {v : V} {H : Hp} {Q : VK} (hs : scal v v = true) (h : Q (.bl true) H) : rEq v v H Q := ⟨hs, by rw [decide_eq_true rfl]; exact h⟩
/-- both ways of an 'and' end alike -/
theorem and_join {c : Prop} [Decidable c] {t u : TT} {σ : L2.St} {H : Hp} {Q : Bool → Hp → Prop} (P : Hp → Prop) (k : ∀ H', P H' → Q false H') (p0 : ¬ c → P H) (p1 : c → ∀ Q' : Bool → Hp → Prop, (∀ H', P H' → Q' false H') → tOr t u σ H Q') :
    if c then tOr t u σ H Q else Q false H := by
  by_cases h : c
  · rw [if_pos h]
    exact p1 h Q k
  · rw [if_neg h]
    exact k _ (p0 h)
/-- only flags that are True -/
def Trues (xs : List V) : Prop := xs.length ≤ 100 ∧ ∀ x ∈ xs, x = .bl true
end
end K01

set_option Elab.async false
set_option linter.all false
set_option maxRecDepth 100000
set_option maxHeartbeats 4000000
namespace K01
open PySem PySem.Spec PyProof.Rows L2 Kb
/-! ### data of lots -/
section
variable {m : Int} {ds : List PyData} {d e f : PyData} {k : Nat}
theorem lenOk_of (h1 : 1 ≤ ds.length) (h2 : ds.length ≤ 60) : lenOk (.tuple ds) = true := by
  show (decide (1 ≤ ds.length) && decide (ds.length ≤ 60)) = true
  rw [decide_eq_true h1, decide_eq_true h2]; rfl
theorem row_nest (h5 : m ≤ 1000) (h : rowD m d = true) : Nest 1 d := by
  obtain ⟨e, hl, _⟩ := rowD_eq h
  rw [e]
  exact nest_row (by omega)
theorem nest_up {n : Nat} (h : Nest n d) : Nest (n + 1) d := by
  induction h with
  | int i => exact .int i
  | tup h _ ih => exact .tup h ih
  | lst h _ ih => exact .lst h ih
theorem pair_nest (h5 : m ≤ 1000) (h : pairD m d = true) : Nest 3 d := by
  match d, h with
  | .tuple [di, dl], h =>
    have h' : (rowD m di && lotD m dl) = true := h
    rw [Bool.and_eq_true] at h'
    obtain ⟨rs, rfl, h1, h2, h3, _⟩ := lotD_parts h'.2
    rw [List.all_eq_true] at h3
    refine .tup (by show 2 ≤ 1000; decide) fun z hz => ?_
    simp only [List.mem_cons, List.not_mem_nil, or_false] at hz
    rcases hz with rfl | rfl
    · exact nest_up (row_nest h5 h'.1)
    · exact .tup (by omega) fun r hr => row_nest h5 (h3 r hr)
theorem pair_split {N : Addr} {G : Hp} {v : V} (h : Dr N G v d) (hp : pairD m d = true) : ∃ (q ti tl : Addr) (ls : List V) (rs : List PyData) (ns : List Int), v = .ref q ∧ d = .tuple [rowT ns, .tuple rs] ∧ G q = some (.tup [.ref ti, .ref tl]) ∧
    G ti = some (.tup (ns.map V.int)) ∧ (ns.length : Int) = m ∧ G tl = some (.tup ls) ∧ Drs N G ls rs ∧ lotD m (.tuple rs) = true := by
  match d, hp with
  | .tuple [di, dl], hp =>
    have hp' : (rowD m di && lotD m dl) = true := hp
    rw [Bool.and_eq_true] at hp'
    obtain ⟨e, hl, _⟩ := rowD_eq hp'.1
    obtain ⟨rs, rfl, _⟩ := lotD_parts hp'.2
    cases h with
    | @tup q xs _ hq hr =>
      obtain ⟨d1, d2, rfl, h1, h2⟩ : ∃ v1 v2, xs = [v1, v2] ∧ Dr N G v1 di ∧ Dr N G v2 (.tuple rs) := by
        cases hr with
        | cons a r =>
          cases r with
          | cons b r =>
            cases r
            exact ⟨_, _, rfl, a, b⟩
      rw [e] at h1
      obtain ⟨ti, rfl, g⟩ := row_of h1
      cases h2 with
      | @tup tl ls _ hl2 hr2 => exact ⟨q, ti, tl, ls, rs, intsOf di, rfl, by rw [← e], hq, g, hl, hl2, hr2, hp'.2⟩
theorem getD_of (hk : k < ds.length) : ds.getD k .none = ds[k] := by
  rw [List.getD_eq_getElem?_getD, List.getElem?_eq_getElem hk]; rfl
theorem lots_nest (h5 : m ≤ 1000) (h60 : ds.length ≤ 60) (g : ∀ j, j < ds.length → Good m ds j) : Nest 4 (.tuple ds) := .tup (by omega) fun z hz => by
  obtain ⟨j, hj, rfl⟩ := List.getElem_of_mem hz
  have q := (g j hj).1
  rw [getD_of hj] at q
  exact pair_nest h5 q
theorem drop_good (g : ∀ j, j < ds.length → Good m ds j) : ∀ j, j < (ds.drop 1).length → Good m (ds.drop 1) j := by
  intro j hj
  rw [List.length_drop] at hj
  have e : ∀ i, (ds.drop 1).getD i .none = ds.getD (1 + i) .none := fun i => by rw [List.getD_eq_getElem?_getD, List.getD_eq_getElem?_getD, List.getElem?_drop]
  have q := g (1 + j) (by omega)
  refine ⟨by rw [e]; exact q.1, fun h0 => ?_⟩
  have q2 := q.2 (by omega)
  rw [e, e]
  rw [show 1 + (j - 1) = 1 + j - 1 by omega]
  exact q2
theorem eqv_len {xs ys : List PyData} (h : xs.length ≠ ys.length) : PyData.eqv (.tuple xs) (.tuple ys) = false := by
  show PyData.eqvAll xs ys = false
  induction xs generalizing ys with
  | nil =>
    cases ys with
    | nil => exact absurd rfl h
    | cons y r => rfl
  | cons x r ih =>
    cases ys with
    | nil => rfl
    | cons y q =>
      show (PyData.eqv x y && PyData.eqvAll r q) = false
      rw [ih (fun z => h (by rw [List.length_cons, List.length_cons, z])), Bool.and_false]
/-- one of them is none -/
theorem bent_at (g : ∀ j, j < ds.length → Good m ds j) (hk : k < ds.length) (hb : pairD m d = false) :
    (ds.take k ++ [d] ++ ds.drop (k + 1)).length = ds.length ∧ (∀ j, j < k → Good m (ds.take k ++ [d] ++ ds.drop (k + 1)) j) ∧ ¬ Good m (ds.take k ++ [d] ++ ds.drop (k + 1)) k := by
  have lt : (ds.take k).length = k := by rw [List.length_take]; omega
  have e : ∀ i, i < k → (ds.take k ++ [d] ++ ds.drop (k + 1)).getD i .none = ds.getD i .none := fun i hi => by
    rw [List.append_assoc, List.getD_eq_getElem?_getD, List.getElem?_append_left (by omega), List.getElem?_take_of_lt hi, List.getD_eq_getElem?_getD]
  refine ⟨?_, fun j hj => ?_, fun h => ?_⟩
  · rw [List.length_append, List.length_append, lt, List.length_drop]
    simp only [List.length_cons, List.length_nil]
    omega
  · have q := g j (by omega)
    refine ⟨by rw [e j hj]; exact q.1, fun h0 => ?_⟩
    rw [e j hj, e (j - 1) (by omega)]
    exact q.2 h0
  · have h1 := h.1
    rw [List.append_assoc, List.getD_eq_getElem?_getD, List.getElem?_append_right (by omega), lt, Nat.sub_self] at h1
    have h1' : pairD m d = true := h1
    rw [hb] at h1'
    cases h1'
theorem lex_irr : ∀ l : List Int, HT.lexLt l l = false
  | [] => rfl
  | x :: r => by
    unfold HT.lexLt
    simp [lex_irr r]
/-- one of them twice -/
theorem twice_at (g : ∀ j, j < ds.length → Good m ds j) (hk : k < ds.length) :
    (ds.take (k + 1) ++ ds.drop k).length = ds.length + 1 ∧ (∀ j, j < k + 1 → Good m (ds.take (k + 1) ++ ds.drop k) j) ∧ ¬ Good m (ds.take (k + 1) ++ ds.drop k) (k + 1) := by
  have lt : (ds.take (k + 1)).length = k + 1 := by rw [List.length_take]; omega
  have e : ∀ i, i < k + 1 → (ds.take (k + 1) ++ ds.drop k).getD i .none = ds.getD i .none := fun i hi => by
    rw [List.getD_eq_getElem?_getD, List.getElem?_append_left (by omega), List.getElem?_take_of_lt hi, List.getD_eq_getElem?_getD]
  refine ⟨?_, fun j hj => ?_, fun h => ?_⟩
  · rw [List.length_append, lt, List.length_drop]
    omega
  · have q := g j (by omega)
    refine ⟨by rw [e j hj]; exact q.1, fun h0 => ?_⟩
    rw [e j hj, e (j - 1) (by omega)]
    exact q.2 h0
  · have h1 := h.2 (Nat.succ_pos k)
    rw [Nat.add_sub_cancel, e k (by omega), List.getD_eq_getElem?_getD (i := k + 1), List.getElem?_append_right (by omega), lt, Nat.sub_self, List.getElem?_drop, Nat.add_zero, ← List.getD_eq_getElem?_getD, lex_irr] at h1
    cases h1
theorem pair_row (h : rowD m d = false) : pairD m (.tuple [d, e]) = false := by
  show (rowD m d && lotD m e) = false
  rw [h, Bool.false_and]
theorem pair_lot (h : lotD m e = false) : pairD m (.tuple [d, e]) = false := by
  show (rowD m d && lotD m e) = false
  rw [h, Bool.and_false]
theorem odd_pair (hd : d ∈ oddDs) : pairD m d = false := by
  unfold oddDs at hd
  simp only [List.mem_cons, List.not_mem_nil, or_false] at hd
  rcases hd with rfl | rfl | rfl | rfl | rfl | rfl | rfl | rfl | rfl | rfl | rfl | rfl <;> rfl
end
end K01

set_option Elab.async false
set_option linter.all false
set_option maxRecDepth 100000
set_option maxHeartbeats 8000000
namespace K01
open PySem PySem.Spec PyProof.Rows L2 Kb
def spLaw (K : PySem.W.Frag) (PT : Addr) (q : Str) : Sp := fun vs H Q _ => ∃ (l : Addr) (ns : List Int), vs = [.ref l] ∧ SqL K H l (ns.map V.int) ∧ ns.length ≤ 63 ∧ LamX.TabS H PT q ∧ ∀ H', Q (.bl true) H'
abbrev qLam : Str := ("law" : Str) ++ ".<locals>." ++ "<lambda>"
theorem kRepT {X : Cx} {K : PySem.W.Frag} (e : X.K = K) : OpR X (binaryOp .Mult) (rRepT K) := e ▸ op_repT
theorem go_repT {K : PySem.W.Frag} {H : Hp} {Q : VK} {l : Addr} {k : Int} {xs : List V} (h : SqT K H l xs) (hx : xs ≠ []) (k2 : 2 ≤ k) (k3 : k ≤ 1000) (hl : xs.length ≤ 1000) (q : wNew (.tup (List.replicate k.toNat xs).flatten) H fun p H' => Q (.ref p) H') : rRepT K (.ref l) (.int k) H Q :=
  ⟨l, k, xs, rfl, rfl, h, hx, k2, k3, hl, q⟩
section
variable {P : Program} {w : World} {K : PySem.W.Frag} {mg : Str → Option Value} {base : Heap} {a : Ad}
theorem ok_law (T : Txt K mg a) {c PT : Addr} (TB : LamX.TabB base mg c PT) {oc kV doc pm ct : Value} {od an : Option Addr} {osl : Array (Option Value)}
    (lk : K.lookup a.f_law = some ⟨oc, od, .func (PySem.W.fnOf "law" "law" (defArgs s_law) (defBody s_law) (defScope s_law) .none kV doc pm an (.ref c) ct), osl⟩) (hcd : PySem.W.codeIn K (.ref c) "law" = true) :
    FnOk P w K mg base CX0 9 a.f_law (PySem.W.fnOf "law" "law" (defArgs s_law) (defBody s_law) (defScope s_law) .none kV doc pm an (.ref c) ct) ["script"] (spLaw K PT qLam) := by
  obtain ⟨⟨fd_law_pot, G_law_pot, b_law_pot⟩, kp_law_pot⟩ := ok_law_pot (P := P) (w := w) (base := base) T
  obtain ⟨⟨fd_law_draw, G_law_draw, b_law_draw⟩, kp_law_draw⟩ := ok_law_draw (P := P) (w := w) (base := base) T
  obtain ⟨⟨fd_law_any, G_law_any, b_law_any⟩, kp_law_any⟩ := ok_law_any (P := P) (w := w) (base := base) T
  obtain ⟨⟨fd_law_lots, G_law_lots, b_law_lots⟩, kp_law_lots⟩ := ok_law_lots (P := P) (w := w) (base := base) T
  obtain ⟨⟨fd_law_odd, G_law_odd, b_law_odd⟩, kp_law_odd⟩ := ok_law_odd (P := P) (w := w) (base := base) T
  obtain ⟨⟨fd_law_no_row, G_law_no_row, b_law_no_row⟩, kp_law_no_row⟩ := ok_law_no_row (P := P) (w := w) (base := base) T
  obtain ⟨⟨fd_law_no_lot, G_law_no_lot, b_law_no_lot⟩, kp_law_no_lot⟩ := ok_law_no_lot (P := P) (w := w) (base := base) T
  obtain ⟨⟨fd_law_is, G_law_is, b_law_is⟩, kp_law_is⟩ := ok_law_is (P := P) (w := w) (base := base) T 4
  obtain ⟨⟨fd_Task___init__, G_Task___init__, b_Task___init__⟩, kp_Task___init__⟩ := ok_Task___init__ (P := P) (w := w) (base := base) T
  obtain ⟨⟨fd_Task___eq__, G_Task___eq__, b_Task___eq__⟩, kp_Task___eq__⟩ := ok_Task___eq__ (P := P) (w := w) (base := base) T
  refine fn_of lk hcd sc_law (fun vs H Q E h => ?_) (fun A outer s H vs Q E hr h => ?_)
  · obtain ⟨l, ns, rfl, _⟩ := h
    rfl
  suffices hh : ∃ t, PSs (cxOf CX0 P w K mg base N_law "law" (defScope s_law) a.f_law (.ref c) A outer s H E).nox (defBody s_law) t ∧ t { nx := fun _ H' => Q .non H', rt := Q } (L2.start N_law vs) H by
    obtain ⟨t, h1, h2⟩ := hh
    exact ⟨t, h1.nox, h2⟩
  obtain ⟨l, ns, rfl, hl, hn, htab, fin⟩ := h
  have R := T.nr
  have lam : ∀ {params : Arguments} {body : Expr} {scope : Scope} {p lpos pos : Pos} {t : XK → TE} (L : LamX.LamS (defScope s_law) scope) (hdef : defaultsOf params (envOfC "law" (defScope s_law) s.heap.objs.size a.f_law (.ref c)) = ([], []))
      (hbind : ∀ (q : Str) (cl : List (Str × Addr)) (pm cv ctv : Value), bindArgs (PySem.W.kla_fn "<lambda>" q params body scope cl pm cv ctv) ⟨[], []⟩ = pure [])
      (hbody : ∀ (A' : Around) (outer' : List Env) (s' : Shared) (H' : Hp) (E' : XK) (f c' : Addr), Room 6 (A'.deeper (LamX.lamEnv (cxOf CX0 P w K mg base N_law "law" (defScope s_law) a.f_law (.ref c) A outer s H E).nox scope s'.heap.objs.size f c')) →
        PE (LamX.lamCx (cxOf CX0 P w K mg base N_law "law" (defScope s_law) a.f_law (.ref c) A outer s H E).nox A' outer' s' H' E' scope f c') body (t E')),
      PE (cxOf CX0 P w K mg base N_law "law" (defScope s_law) a.f_law (.ref c) A outer s H E).nox (.Call (.Name "_law_part" p) [.Lambda params body scope lpos] [] pos) (LamX.tLam [(PT, qLam)] (TTpart a.C_BadTask) t) :=
    fun L hdef hbind hbody => pe_part (X := (cxOf CX0 P w K mg base N_law "law" (defScope s_law) a.f_law (.ref c) A outer s H E).nox) (a := a) T rfl (hr.mono (by decide)) TB rfl L hdef hbind hbody
  refine ⟨_, (pss_cons (ps_set (i := 1) sc_law.nd rfl (by first | exact Or.inl rfl | exact Or.inr rfl) (pe_call G_law_pot (hr.mono (by first | decide | omega)) rfl T.g_law_pot kp_law_pot b_law_pot .nil pass0 (pa_cons (pv 0) pa_nil)))
    (pss_cons (ps_for PassesOwn.never rfl (pi_range1 (by rfl) T.b_range (pa_cons pe_int pa_nil)) (pg_name (i := 2) sc_law.nd rfl (by first | exact Or.inl rfl | exact Or.inr rfl))
      (pss_cons (ps_set (i := 3) sc_law.nd rfl (by first | exact Or.inl rfl | exact Or.inr rfl) (pe_op op_add pe_int (pe_call G_law_draw (hr.mono (by first | decide | omega)) rfl T.g_law_draw kp_law_draw b_law_draw .nil pass0 (pa_cons (pv 1) (pa_cons pe_int pa_nil)))))
      (pss_cons (ps_set (i := 4) sc_law.nd rfl (by first | exact Or.inl rfl | exact Or.inr rfl) (pe_call G_law_lots (hr.mono (by first | decide | omega)) rfl T.g_law_lots kp_law_lots b_law_lots .nil pass0 (pa_cons (pv 1) (pa_cons (pv 3) (pa_cons (pe_call G_law_any (hr.mono (by first | decide | omega)) rfl T.g_law_any kp_law_any b_law_any .nil pass0 (pa_cons (pv 1) (pa_cons (pe_lst (pa_cons pe_int (pa_cons pe_int (pa_cons pe_int (pa_cons pe_int pa_nil))))) pa_nil))) pa_nil)))))
      (pss_cons (ps_set (i := 5) sc_law.nd rfl (by first | exact Or.inl rfl | exact Or.inr rfl) (pe_make T.mk_Task G_Task___init__ (hr.mono (by first | decide | omega)) rfl T.g_Task b_Task___init__ .nil (passes_call LamX.takes0 (fun _ _ _ _ h => h)) (pa_cons (pv 3) (pa_cons (pv 4) pa_nil))))
      (pss_cons (ps_if (PW.pt (pw_or (pt_not (pt_val (pe_call G_law_is (hr.mono (by first | decide | omega)) rfl T.g_law_is kp_law_is b_law_is .nil pass0 (pa_cons (pe_fld (pv 5) rfl) (pa_cons (pv 4) pa_nil))))) (pw_or (pt_not (pt_val (pe_call G_law_is (hr.mono (by first | decide | omega)) rfl T.g_law_is kp_law_is b_law_is .nil pass0 (pa_cons (pe_fld (pv 5) rfl) (pa_cons (pv 3) pa_nil))))) (pw_or (pt_cmpR (op_ownNe T.own_Task G_Task___eq__ b_Task___eq__ (hr.mono (by first | decide | omega))) (pv 5) (pe_make T.mk_Task G_Task___init__ (hr.mono (by first | decide | omega)) rfl T.g_Task b_Task___init__ .nil (passes_call LamX.takes0 (fun _ _ _ _ h => h)) (pa_cons (pv 3) (pa_cons (pv 4) pa_nil))) (nomark _)) (pw_or1 (pt_cmpR (op_ownEq T.own_Task G_Task___eq__ b_Task___eq__ (hr.mono (by first | decide | omega))) (pv 5) (pv 4) (nomark _)))))))
        (pss_one (ps_ret pe_bl))
        pss_nil)
      (pss_cons (ps_if (PW.pt (pw_and (pt_cmpR op_gt (pe_callB (kLen (K := K) rfl) (by rfl) T.b_len (by decide +kernel) (pa_cons (pv 4) pa_nil)) pe_int (nomark _)) (pw_and1 (PW.pt (pw_or (pt_cmpR (op_ownEq T.own_Task G_Task___eq__ b_Task___eq__ (hr.mono (by first | decide | omega))) (pv 5) (pe_make T.mk_Task G_Task___init__ (hr.mono (by first | decide | omega)) rfl T.g_Task b_Task___init__ .nil (passes_call LamX.takes0 (fun _ _ _ _ h => h)) (pa_cons (pv 3) (pa_cons (pe_slice (kSlA (K := K) rfl) (pv 4) (po_some pe_int) po_none) pa_nil))) (nomark _)) (pw_or1 (pt_cmpR (op_ownEq T.own_Task G_Task___eq__ b_Task___eq__ (hr.mono (by first | decide | omega))) (pv 5) (pe_tup (pa_cons (pv 3) (pa_cons (pv 4) pa_nil))) (nomark _))))))))
        (pss_one (ps_ret pe_bl))
        pss_nil)
      (pss_cons (ps_set (i := 6) sc_law.nd rfl (by first | exact Or.inl rfl | exact Or.inr rfl) (pe_call G_law_draw (hr.mono (by first | decide | omega)) rfl T.g_law_draw kp_law_draw b_law_draw .nil pass0 (pa_cons (pv 1) (pa_cons (pe_callB (kLen (K := K) rfl) (by rfl) T.b_len (by decide +kernel) (pa_cons (pv 4) pa_nil)) pa_nil))))
      (pss_cons (ps_asg (pe_ix (kIxT (K := K) rfl) (pv 4) (pv 6) (fun _ _ => rfl)) (kgTup (K := K) (pg_tup (n := 2) rfl (pgs_cons (pg_name (i := 7) sc_law.nd rfl (by first | exact Or.inl rfl | exact Or.inr rfl)) (pgs_cons (pg_name (i := 8) sc_law.nd rfl (by first | exact Or.inl rfl | exact Or.inr rfl)) pgs_nil))) rfl))
      (pss_cons (ps_set (i := 9) sc_law.nd rfl (by first | exact Or.inl rfl | exact Or.inr rfl) (pe_lst (pa_cons (pe_tup (pa_cons (pe_call G_law_no_row (hr.mono (by first | decide | omega)) rfl T.g_law_no_row kp_law_no_row b_law_no_row .nil pass0 (pa_cons (pv 1) (pa_cons (pv 7) pa_nil))) (pa_cons (pv 8) pa_nil))) (pa_cons (pe_tup (pa_cons (pv 7) (pa_cons (pe_call G_law_no_lot (hr.mono (by first | decide | omega)) rfl T.g_law_no_lot kp_law_no_lot b_law_no_lot .nil pass0 (pa_cons (pv 1) (pa_cons (pv 8) pa_nil))) pa_nil))) (pa_cons (pe_lst (pa_cons (pv 7) (pa_cons (pv 8) pa_nil))) (pa_cons (pe_tup (pa_cons (pv 7) pa_nil)) (pa_cons (pe_tup (pa_cons (pv 7) (pa_cons (pv 8) (pa_cons (pv 8) pa_nil)))) pa_nil)))))))
      (pss_cons (ps_expr (pe_bm PySem.F.plainAttrs_list PySem.F.slot_list_append PySem.F.type_list_append mt_append (pv 9) (pa_cons (pe_call G_law_odd (hr.mono (by first | decide | omega)) rfl T.g_law_odd kp_law_odd b_law_odd .nil pass0 (pa_cons (pv 1) pa_nil)) pa_nil)))
      (pss_cons (ps_set (i := 10) sc_law.nd rfl (by first | exact Or.inl rfl | exact Or.inr rfl) (pe_lst pa_nil))
      (pss_cons (ps_for PassesOwn.never rfl (kpList (K := K) (pv 9) rfl) (pg_name (i := 11) sc_law.nd rfl (by first | exact Or.inl rfl | exact Or.inr rfl))
        (pss_one (ps_expr (pe_bm PySem.F.plainAttrs_list PySem.F.slot_list_append PySem.F.type_list_append mt_append (pv 10) (pa_cons (pe_cmpR op_eq (lam (LamX.lamS_by (by decide +kernel)) rfl (fun _ _ _ _ _ => rfl) (fun _ _ _ _ _ _ _ hrL => (pe_make T.mk_Task G_Task___init__ (hrL.mono (by first | decide | omega)) rfl T.g_Task b_Task___init__ .nil (passes_call (takes_of rfl rfl rfl rfl) (fun _ _ _ _ h => h)) (pa_cons (pv 3) (pa_cons (pe_op (kCatA (K := K) rfl) (pe_op (kCatA (K := K) rfl) (pe_slice (kSlA (K := K) rfl) (pv 4) po_none (po_some (pv 6))) (pe_tup (pa_cons (pv 11) pa_nil))) (pe_slice (kSlA (K := K) rfl) (pv 4) (po_some (pe_op op_add (pv 6) pe_int)) po_none)) pa_nil))))) (pv 6) (nomark _)) pa_nil)))))
      (pss_cons (ps_expr (pe_bm PySem.F.plainAttrs_list PySem.F.slot_list_append PySem.F.type_list_append mt_append (pv 10) (pa_cons (pe_cmpR op_eq (lam (LamX.lamS_by (by decide +kernel)) rfl (fun _ _ _ _ _ => rfl) (fun _ _ _ _ _ _ _ hrL => (pe_make T.mk_Task G_Task___init__ (hrL.mono (by first | decide | omega)) rfl T.g_Task b_Task___init__ .nil (passes_call (takes_of rfl rfl rfl rfl) (fun _ _ _ _ h => h)) (pa_cons (pv 3) (pa_cons (pe_op (kCatA (K := K) rfl) (pe_slice (kSlA (K := K) rfl) (pv 4) po_none (po_some (pe_op op_add (pv 6) pe_int))) (pe_slice (kSlA (K := K) rfl) (pv 4) (po_some (pv 6)) po_none)) pa_nil))))) (pe_ifExp (pt_cmpR op_lt (pe_callB (kLen (K := K) rfl) (by rfl) T.b_len (by decide +kernel) (pa_cons (pv 4) pa_nil)) pe_int (nomark _)) (pe_op op_add (pv 6) pe_int) pe_str) (nomark _)) pa_nil)))
      (pss_cons (ps_for PassesOwn.never rfl (kpList (K := K) (pe_lst (pa_cons (pe_tup pa_nil) (pa_cons (pe_callTy (kLstOf (K := K) rfl) (by rfl) T.b_list (by decide +kernel) (pa_cons (pv 4) pa_nil)) (pa_cons pe_non (pa_cons pe_dnewK (pa_cons pe_str (pa_cons pe_int (pa_cons (pe_op (kRepT (K := K) rfl) (pe_tup (pa_cons (pe_ix (kIxT (K := K) rfl) (pv 4) pe_int (fun _ _ => rfl)) pa_nil)) pe_int) pa_nil)))))))) rfl) (pg_name (i := 12) sc_law.nd rfl (by first | exact Or.inl rfl | exact Or.inr rfl))
        (pss_one (ps_expr (pe_bm PySem.F.plainAttrs_list PySem.F.slot_list_append PySem.F.type_list_append mt_append (pv 10) (pa_cons (pe_cmpR op_eq (lam (LamX.lamS_by (by decide +kernel)) rfl (fun _ _ _ _ _ => rfl) (fun _ _ _ _ _ _ _ hrL => (pe_make T.mk_Task G_Task___init__ (hrL.mono (by first | decide | omega)) rfl T.g_Task b_Task___init__ .nil (passes_call (takes_of rfl rfl rfl rfl) (fun _ _ _ _ h => h)) (pa_cons (pv 3) (pa_cons (pv 12) pa_nil))))) pe_str (nomark _)) pa_nil)))))
      (pss_cons (ps_for PassesOwn.never rfl (kpList (K := K) (pe_lst (pa_cons pe_int (pa_cons pe_int (pa_cons pe_bl (pa_cons pe_non (pa_cons pe_str (pa_cons (pe_tup (pa_cons pe_int pa_nil)) (pa_cons (pe_op op_pow pe_int pe_int) (pa_cons (pe_un un_neg pe_int) pa_nil))))))))) rfl) (pg_name (i := 12) sc_law.nd rfl (by first | exact Or.inl rfl | exact Or.inr rfl))
        (pss_one (ps_expr (pe_bm PySem.F.plainAttrs_list PySem.F.slot_list_append PySem.F.type_list_append mt_append (pv 10) (pa_cons (pe_cmpR op_eq (lam (LamX.lamS_by (by decide +kernel)) rfl (fun _ _ _ _ _ => rfl) (fun _ _ _ _ _ _ _ hrL => (pe_make T.mk_Task G_Task___init__ (hrL.mono (by first | decide | omega)) rfl T.g_Task b_Task___init__ .nil (passes_call (takes_of rfl rfl rfl rfl) (fun _ _ _ _ h => h)) (pa_cons (pv 12) (pa_cons (pe_call G_law_any (hrL.mono (by first | decide | omega)) rfl T.g_law_any kp_law_any b_law_any .nil pass0 (pa_cons (pv 1) (pa_cons (pe_lst (pa_cons (pv 4) (pa_cons pe_non pa_nil))) pa_nil))) pa_nil))))) pe_str (nomark _)) pa_nil)))))
      (pss_cons (ps_set (i := 13) sc_law.nd rfl (by first | exact Or.inl rfl | exact Or.inr rfl) (pe_callTy (kTupOf (K := K) rfl) (by rfl) T.b_tuple (by decide +kernel) (pa_cons (pe_lc (own := [("k", 6)]) (by rfl) sc_law.nd (pi_range1 (by rfl) T.b_range (pa_cons pe_int pa_nil)) (blkOk_by (own := [("k", 6)]) (N := N_law) (sc := defScope s_law) (by decide +kernel)) (fun _ _ _ _ _ => (pg_name (i := 6) sc_law.nd rfl (Or.inl rfl))) (fun _ _ _ _ _ => pts_nil) (fun _ _ _ _ _ => (pe_tup (pa_cons pe_int (pa_cons pe_int (pa_cons (pv 6) pa_nil)))))) pa_nil)))
      (pss_cons (ps_expr (pe_bm PySem.F.plainAttrs_list PySem.F.slot_list_append PySem.F.type_list_append mt_append (pv 10) (pa_cons (pe_cmpR op_eq (lam (LamX.lamS_by (by decide +kernel)) rfl (fun _ _ _ _ _ => rfl) (fun _ _ _ _ _ _ _ hrL => (pe_make T.mk_Task G_Task___init__ (hrL.mono (by first | decide | omega)) rfl T.g_Task b_Task___init__ .nil (passes_call (takes_of rfl rfl rfl rfl) (fun _ _ _ _ h => h)) (pa_cons pe_int (pa_cons (pe_tup (pa_cons (pe_tup (pa_cons (pe_tup (pa_cons pe_int (pa_cons pe_int (pa_cons pe_int pa_nil)))) (pa_cons (pv 13) pa_nil))) pa_nil)) pa_nil))))) pe_int (nomark _)) pa_nil)))
      (pss_cons (ps_expr (pe_bm PySem.F.plainAttrs_list PySem.F.slot_list_append PySem.F.type_list_append mt_append (pv 10) (pa_cons (pe_cmpR op_eq (lam (LamX.lamS_by (by decide +kernel)) rfl (fun _ _ _ _ _ => rfl) (fun _ _ _ _ _ _ _ hrL => (pe_make T.mk_Task G_Task___init__ (hrL.mono (by first | decide | omega)) rfl T.g_Task b_Task___init__ .nil (passes_call (takes_of rfl rfl rfl rfl) (fun _ _ _ _ h => h)) (pa_cons pe_int (pa_cons (pe_tup (pa_cons (pe_tup (pa_cons (pe_tup (pa_cons pe_int (pa_cons pe_int (pa_cons pe_int pa_nil)))) (pa_cons (pe_slice (kSlA (K := K) rfl) (pv 13) po_none (po_some pe_int)) pa_nil))) pa_nil)) pa_nil))))) pe_str (nomark _)) pa_nil)))
      (pss_one (ps_if (pt_cmpR op_in_seq pe_bl (pv 10) (by rfl))
        (pss_one (ps_ret pe_bl))
        pss_nil))))))))))))))))))))
    (pss_one (ps_ret pe_bl)))), ?_⟩
  rw [show L2.start N_law [.ref l] = [some (.ref l), none, none, none, none, none, none, none, none, none, none, none, none, none] from rfl]
  walk_at "go"
  refine ⟨l, ns, rfl, hl, hn, fun p Gp H1 wp sp1 => ?_⟩
  obtain ⟨G0, L0⟩ := LW.init wp (tab_keep htab fun b u e _ => sp1 _ _ e)
  walk_at "go"
  refine go_wIR (by omega) (by omega) ?_
  refine fl_range (fun i σ H' => ∃ G' s2 s3 s4 s5 s6 s7 s8 s9 s10 s11 s12 s13, σ = [some (.ref l), some (.ref p), s2, s3, s4, s5, s6, s7, s8, s9, s10, s11, s12, s13] ∧ LW p PT qLam G' H')
    ⟨G0, _, _, _, _, _, _, _, _, _, _, _, _, rfl, L0⟩ ?_ ?_
  · rintro turn σ H2 hturn ⟨G2, s2, s3, s4, s5, s6, s7, s8, s9, s10, s11, s12, s13, rfl, L2⟩
    walk_at "go"
    refine go_draw (Stp.refl L2.w) (by decide) (by decide) fun r H3 r0 r1 st3 _ => ?_
    have L3 := L2.step st3
    obtain ⟨many, hmany⟩ : ∃ many : Int, many = 3 + r := ⟨_, rfl⟩
    have m3 : 3 ≤ many := by omega
    have m5 : many ≤ 5 := by omega
    walk_at "go"
    rw [← hmany]
    walk_at "go"
    refine newS_lay (Stp.refl L3.w) (by walk_at "len") fun q4 G4 H4 s4 g4 gr4 e4 => ?_
    walk_at "go"
    refine go_any s4 (.inl (s4.w.sub _ _ e4)) (s4.tl e4) (by simp) (by walk_at "len") fun v5 H5 hv5 s5 kk5 => ?_
    obtain ⟨size, rfl, hz1, hz60⟩ : ∃ size : Int, v5 = .int size ∧ 1 ≤ size ∧ size ≤ 60 := by
      simp only [List.mem_cons, List.not_mem_nil, or_false] at hv5
      rcases hv5 with rfl | rfl | rfl | rfl
      all_goals exact ⟨_, rfl, by decide, by decide⟩
    walk_at "go"
    refine ⟨p, G4, many, size, rfl, s5.w, m3, m5, hz1, hz60, fun t G6 H6 fs ds s6' ht hds hgood hd1 hd60 => ?_⟩
    have L6 := (L3.step s5).step s6'
    walk_at "go"
    refine go_mk ?_
    walk_at "go"
    refine mk_good L6.w.sub (.int many) (.tup ht hds) m3 m5 (lenOk_of hd1 hd60) hgood fun x1 H7 hx1 sm7 ht7 => ?_
    have L7 := L6.step ((Stp.refl L6.w).more sm7)
    obtain ⟨dx1, hx7⟩ := ht7
    have hN := lots_nest (by omega) hd60 hgood
    walk_at "go"
    refine ⟨x1, a.C_Task, dx1, _, _, rfl, hx7, T.cl_Task, T.nLots, look_lots _ _, ?_⟩
    walk_at "go"
    refine ⟨G6, .ref t, .ref t, _, rfl, L7.w.sub, .tup ht hds, .tup ht hds, hN, fun H8 sm8 => ?_⟩
    have L8 := L7.step ((Stp.refl L7.w).more sm8)
    walk_at "go"
    refine iteF ?_
    walk_at "go"
    refine ⟨x1, a.C_Task, dx1, _, _, rfl, sm8 _ _ hx7, T.cl_Task, T.nMany, look_many _ _, ?_⟩
    walk_at "go"
    refine ⟨G6, .int many, .int many, _, rfl, L8.w.sub, .int many, .int many, .int many, fun H9 sm9 => ?_⟩
    have L9 := L8.step ((Stp.refl L8.w).more sm9)
    walk_at "go"
    refine iteF ?_
    walk_at "go"
    refine go_mk ?_
    walk_at "go"
    refine mk_good L9.w.sub (.int many) (.tup ht hds) m3 m5 (lenOk_of hd1 hd60) hgood fun x2 HA hx2 smA htA => ?_
    have LA := L9.step ((Stp.refl L9.w).more smA)
    have hxA := smA _ _ (sm9 _ _ (sm8 _ _ hx7))
    walk_at "go"
    obtain ⟨dx2, hx2A⟩ := htA
    have hpl := hN.ok.2.2
    have hsh := hN.shaped (by decide)
    have hself : (decide (many = many) && PyData.eqv (.tuple ds) (.tuple ds)) = true := by rw [decide_eq_true rfl, SeqAt.eqv_refl _ hN.ok.1]; rfl
    refine ⟨x1, dx1, _, rfl, hxA, .inl ⟨x2, dx2, _, rfl, hx2A⟩, G6, x1, many, .ref t, _, .ref x2, rfl, LA.w.sub, ⟨dx1, hxA⟩, .tup ht hds, hpl, hsh, .inl ⟨x2, many, .ref t, _, rfl, ⟨dx2, hx2A⟩, .tup ht hds, hpl, hsh, true, congrArg V.bl hself, ?_⟩⟩
    walk_at "go"
    refine iteF ?_
    walk_at "go"
    refine ⟨x1, dx1, _, rfl, hxA, .inr ⟨t, fs, rfl, LA.w.sub _ _ ht⟩, G6, x1, many, .ref t, _, .ref t, rfl, LA.w.sub, ⟨dx1, hxA⟩, .tup ht hds, hpl, hsh, .inr ⟨t, fs, rfl, LA.w.sub _ _ ht, false, rfl, ?_⟩⟩
    walk_at "go"
    have el := hds.length
    refine iteF ?_
    walk_at "go"
    refine go_lenT (.inl (.inl (LA.w.sub _ _ ht))) ?_
    walk_at "go"
    refine and_join (fun H' => ∃ G', LW p PT qLam G' H' ∧ Same G6 G') ?_ (fun _ => ⟨G6, LA, Same.refl _⟩) ?_
    rotate_left
    · intro hlen Q' kQ
      have hl2 : 1 < ds.length := by
        have := of_decide_eq_true hlen
        omega
      walk_at "go"
      refine go_mk ?_
      walk_at "go"
      refine slA_lay (Stp.refl LA.w) ht fun qB GB HB sB gB _ eB => ?_
      have LB := LA.step sB
      rw [show (1 : Int) = ((1 : Nat) : Int) from rfl, cut_from] at eB
      have hdB := hds.same gB
      have hdl : (ds.drop 1).length = ds.length - 1 := List.length_drop
      have hN1 := lots_nest (m := many) (ds := ds.drop 1) (by omega) (by omega) (drop_good hgood)
      walk_at "go"
      refine mk_good LB.w.sub (.int many) (.tup eB (hdB.drop 1)) m3 m5 (lenOk_of (by omega) (by omega)) (drop_good hgood) fun x3 HC hx3 smC htC => ?_
      have LC := LB.step ((Stp.refl LB.w).more smC)
      obtain ⟨dx3, hx3C⟩ := htC
      have hxC := smC _ _ (sB.e _ _ (fun z => by
        rw [z] at hxA
        obtain ⟨_, _, ⟨_, _, _, _, hp, _⟩, _⟩ := LA.w.pot
        rw [hp] at hxA
        cases hxA) hxA)
      have hne : (decide (many = many) && PyData.eqv (.tuple ds) (.tuple (ds.drop 1))) = false := by rw [eqv_len (by omega), Bool.and_false]
      walk_at "go"
      refine ⟨x1, dx1, _, rfl, hxC, .inl ⟨x3, dx3, _, rfl, hx3C⟩, GB, x1, many, .ref t, _, .ref x3, rfl, LC.w.sub, ⟨dx1, hxC⟩, .tup (gB _ _ ht) hdB, hpl, hsh, .inl ⟨x3, many, .ref qB, _, rfl, ⟨dx3, hx3C⟩, .tup eB (hdB.drop 1), hN1.ok.2.2, hN1.shaped (by decide), false, congrArg V.bl hne, ?_⟩⟩
      walk_at "go"
      refine iteF ?_
      walk_at "go"
      refine newS_lay (Stp.refl LC.w) (by show (2 : Nat) ≤ 100000; decide) fun qD GD HD sD gD grD eD => ?_
      have LD := LC.step sD
      have hxD := sD.e _ _ (fun z => by
        rw [z] at hxC
        obtain ⟨_, _, ⟨_, _, _, _, hp, _⟩, _⟩ := LC.w.pot
        rw [hp] at hxC
        cases hxC) hxC
      walk_at "go"
      refine ⟨x1, dx1, _, rfl, hxD, .inr ⟨qD, _, rfl, LD.w.sub _ _ eD⟩, GD, x1, many, .ref t, _, .ref qD, rfl, LD.w.sub, ⟨dx1, hxD⟩, .tup (gD _ _ (gB _ _ ht)) (hdB.same gD), hpl, hsh, .inr ⟨qD, _, rfl, LD.w.sub _ _ eD, false, rfl, ?_⟩⟩
      walk_at "go"
      try refine iteF ?_
      exact kQ _ ⟨GD, LD, gB.trans gD⟩
    rintro HE ⟨GE, LE, gE⟩
    have htE := gE _ _ ht
    have hdE := hds.same gE
    walk_at "go"
    refine go_lenT (.inl (.inl (LE.w.sub _ _ htE))) ?_
    walk_at "go"
    refine go_draw (Stp.refl LE.w) (by omega) (by omega) fun kk HF kk0 kk1 sF _ => ?_
    have LF := LE.step sF
    obtain ⟨k, rfl⟩ : ∃ n : Nat, kk = (n : Int) := ⟨kk.toNat, by omega⟩
    have hk : k < ds.length := by omega
    walk_at "go"
    obtain ⟨vk, hvk, hdk⟩ := hdE.getD (List.getElem?_eq_getElem hk)
    have hgk := (hgood k hk).1
    rw [getD_of hk] at hgk
    obtain ⟨q, ti, tl, ls, rs, ns', rfl, edk, hq, hti, hnl, htl, hrs, hlot⟩ := pair_split hdk hgk
    refine go_ixT (.inl (.inl (LF.w.sub _ _ htE))) (v := .ref q) (atI_nat hvk) ?_
    walk_at "go"
    refine go_gTup2 (LF.w.sub _ _ hq) ?_
    walk_at "go"
    refine ⟨p, ti, GE, ns', rfl, LF.w, hti, by omega, by omega, fun v1 d1 J1 I1 u1 hdd1 hr1 => ?_⟩
    walk_at "go"
    refine newS_lay u1 (by show (2 : Nat) ≤ 100000; decide) fun b1 J2 I2 u2 g2 _ e1 => ?_
    walk_at "go"
    refine ⟨p, tl, J2, ls, rs, many, rfl, u2.w, u2.g _ _ htl, hrs.same u2.g, m3, m5, hlot, fun v2 d2 J3 I3 u3' hd2 hl2' => ?_⟩
    have u3 := u2.trans u3'
    walk_at "go"
    refine newS_lay u3 (by show (2 : Nat) ≤ 100000; decide) fun b2 J4 I4 u4 g4 _ e2 => ?_
    walk_at "go"
    refine newS_lay u4 (by show (2 : Nat) ≤ 100000; decide) fun b3 J5 I5 u5 g5 _ e3 => ?_
    walk_at "go"
    refine newS_lay u5 (by show (1 : Nat) ≤ 100000; decide) fun b4 J6 I6 u6 g6 _ e4' => ?_
    walk_at "go"
    refine newS_lay u6 (by show (3 : Nat) ≤ 100000; decide) fun b5 J7 I7 u7 g7 _ e5' => ?_
    walk_at "go"
    refine newS_own u7 LF.w (by show (5 : Nat) ≤ 100000; decide) fun lb I8 u8 k8 mb8 => ?_
    have L8' := LF.step u8
    have o8 := K01.Mine.own mb8
    walk_at "go"
    refine ⟨tyL o8.at_, ?_⟩
    walk_at "go"
    refine ⟨p, J7, rfl, L8'.w, fun v6 d6 J8 I9 u9 hd6 hin6 => ?_⟩
    have L9' := L8'.step u9
    have o9 := o8.step u9
    have n68 := g7.trans u9.g
    have n58 := g6.trans n68
    have n48 := g5.trans n58
    have n38 := g4.trans n48
    have n28 := u3'.g.trans n38
    have n18 := g2.trans n28
    have nE8 := u1.g.trans n18
    have drow : Dr a.C_NoRow J8 (.ref ti) (rowT ns') := .tup (nE8 _ _ hti) (Drs.ints ns')
    have dlot : Dr a.C_NoRow J8 (.ref tl) (.tuple rs) := .tup (nE8 _ _ htl) (hrs.same nE8)
    have hes : Drs a.C_NoRow J8 [.ref b1, .ref b2, .ref b3, .ref b4, .ref b5, v6] [.tuple [d1, .tuple rs], .tuple [rowT ns', d2], .list [rowT ns', .tuple rs], .tuple [rowT ns'], .tuple [rowT ns', .tuple rs, .tuple rs], d6] :=
      .cons (.tup (n28 _ _ e1) (.cons (hdd1.same n18) (.cons dlot .nil))) (.cons (.tup (n48 _ _ e2) (.cons drow (.cons (hd2.same n38) .nil))) (.cons (.lst (n58 _ _ e3) (.cons drow (.cons dlot .nil))) (.cons (.tup (n68 _ _ e4') (.cons drow .nil))
        (.cons (.tup (u9.g _ _ e5') (.cons drow (.cons dlot (.cons dlot .nil)))) (.cons hd6 .nil)))))
    obtain ⟨es, hes', hbad⟩ : ∃ es, Drs a.C_NoRow J8 [.ref b1, .ref b2, .ref b3, .ref b4, .ref b5, v6] es ∧ ∀ d ∈ es, pairD many d = false := by
      refine ⟨_, hes, fun d hd => ?_⟩
      rw [hnl] at hr1
      simp only [List.mem_cons, List.not_mem_nil, or_false] at hd
      rcases hd with rfl | rfl | rfl | rfl | rfl | rfl
      · exact pair_row hr1
      · exact pair_lot hl2'
      · rfl
      · rfl
      · rfl
      · exact odd_pair hin6
    clear hes
    have hd8 := hdE.same nE8
    have ht8 := nE8 _ _ htE
    walk_at "go"
    refine app_law L9' o9 (by show (5 : Nat) < 100000; decide) fun LB oB => ?_
    walk_at "go"
    refine newS_own2 (Stp.refl LB.w) LB.w (by show (0 : Nat) ≤ 100000; decide) fun lw IB hw0 uB _ mB => ?_
    have LC := LB.step uB
    have oC := oB.step uB
    have wC := K01.Mine.own mB
    have nbw : lb ≠ lw := ne_of_none oB.at_ hw0
    have hdC := hd8.same uB.g
    have htC := uB.g _ _ ht8
    have hesC := hes'.same uB.g
    walk_at "go"
    refine go_wIL (.inl (.inl oC.at_)) ?_
    refine fl_list (xs := [V.ref b1, .ref b2, .ref b3, .ref b4, .ref b5] ++ [v6]) (fun i σ H' => ∃ G' z2 z11 z12 z13 ws, σ = [some (.ref l), some (.ref p), z2, some (.int many), some (.ref t), some (.ref x1), some (.int k), some (.ref ti), some (.ref tl), some (.ref lb), some (.ref lw), z11, z12, z13] ∧
        LW p PT qLam G' H' ∧ Own p G' H' lb ([V.ref b1, .ref b2, .ref b3, .ref b4, .ref b5] ++ [v6]) ∧ Own p G' H' lw ws ∧ ws.length = i ∧ (∀ x ∈ ws, x = V.bl true) ∧ Drs a.C_NoRow G' ([V.ref b1, .ref b2, .ref b3, .ref b4, .ref b5] ++ [v6]) es ∧ Drs a.C_NoRow G' fs ds ∧ G' t = some (.tup fs))
      ⟨_, _, _, _, _, [], rfl, LC, oC, wC, rfl, (fun x hx => by cases hx), hesC, hdC, htC⟩ (fun i σ H' _ ⟨G', _, _, _, _, _, _, _, o', _⟩ => .inl (.inl o'.at_)) ?_ ?_
    · rintro i x σ K1 hx ⟨G', z2, z11, z12, z13, ws, rfl, Lx, ox, wx, hwl, hws, hesx, hdx, htx⟩
      obtain ⟨d, hd, hdr⟩ := hesx.get hx
      have hbd := hbad d (List.mem_of_getElem? hd)
      have hi6 : i < 6 := by
        have := (List.getElem?_eq_some_iff.mp hx).1
        exact this
      walk_at "go"
      refine ⟨tyL wx.at_, ?_⟩
      walk_at "go"
      refine ⟨Lx.tabs, fun K2 eN T2 => go_tt (go_mk ?_)⟩
      obtain ⟨M1, L1, sN, kn⟩ := Lx.lam eN T2
      have o1 := ox.lam eN kn
      have w1 := wx.lam eN kn
      have hd1' := Drs.sameN sN hdx
      have ht1 := sN.tup htx
      have hes1 := Drs.sameN sN hesx
      have hdr1 := Dr.sameN sN hdr
      have elx := hd1'.length
      walk_at "go"
      refine slA_lay (Stp.refl L1.w) ht1 fun q1 A1 K3 y1 ga1 _ ea1 => ?_
      rw [cut_to] at ea1
      walk_at "go"
      refine newS_lay y1 (by show (1 : Nat) ≤ 100000; decide) fun q2 A2 K4 y2 ga2 _ ea2 => ?_
      walk_at "go"
      refine catT_lay y2 (ga2 _ _ ea1) ea2 (by rw [List.length_take]; simp only [List.length_cons, List.length_nil]; omega) fun q3 A3 K5 y3 ga3 _ ea3 => ?_
      walk_at "go"
      refine slA_lay y3 (y3.g _ _ ht1) fun q4 A4 K6 y4 ga4 _ ea4 => ?_
      rw [show (k : Int) + 1 = ((k + 1 : Nat) : Int) by omega, cut_from] at ea4
      walk_at "go"
      refine catT_lay y4 (ga4 _ _ ea3) ea4 (by rw [List.length_append, List.length_take, List.length_drop]; simp only [List.length_cons, List.length_nil]; omega) fun q5 A5 K7 y5 ga5 _ ea5 => ?_
      have L5 := L1.step y5
      obtain ⟨bl, bg, bb⟩ := bent_at (d := d) hgood hk hbd
      walk_at "go"
      refine mk_out L5.w.sub (.int many) (.tup ea5 (((hd1'.take k).app (.cons hdr1 .nil)).app (hd1'.drop (k + 1)) |>.same y5.g)) (.inr (.inr ⟨many, _, k, rfl, m3, m5, rfl, lenOk_of (by rw [bl]; exact hd1) (by rw [bl]; exact hd60), by rw [bl]; exact hk, bg, bb, rfl⟩)) fun K8 y6 => ?_
      have L6' := L5.step ((Stp.refl L5.w).more y6)
      have o6 := (o1.step y5).step ((Stp.refl L5.w).more y6)
      have w6 := (w1.step y5).step ((Stp.refl L5.w).more y6)
      walk_at "go"
      refine app_law L6' w6 (by omega) fun LY wY => ?_
      walk_at "go"
      exact ⟨A5, _, _, _, _, _, rfl, LY, o6.other nbw, wY, by rw [List.length_append, hwl]; rfl, trues_snoc hws (decide_eq_true rfl), hes1.same y5.g, hd1'.same y5.g, y5.g _ _ ht1⟩
    rintro σ K1 ⟨G', z2, z11, z12, z13, ws, rfl, Lx, _, wx, hwl, hws, _, hdx, htx⟩
    have hwl6 : ws.length = 6 := hwl
    clear hwl
    walk_at "go"
    refine ⟨tyL wx.at_, ?_⟩
    walk_at "go"
    refine ⟨Lx.tabs, fun K2 eN T2 => go_tt (go_mk ?_)⟩
    obtain ⟨M1, L1, sN, kn⟩ := Lx.lam eN T2
    have w1 := wx.lam eN kn
    have hd1' := Drs.sameN sN hdx
    have ht1 := sN.tup htx
    have elx := hd1'.length
    walk_at "go"
    refine slA_lay (Stp.refl L1.w) ht1 fun q1 A1 K3 y1 ga1 _ ea1 => ?_
    rw [show (k : Int) + 1 = ((k + 1 : Nat) : Int) by omega, cut_to] at ea1
    walk_at "go"
    refine slA_lay y1 (y1.g _ _ ht1) fun q2 A2 K4 y2 ga2 _ ea2 => ?_
    rw [cut_from] at ea2
    walk_at "go"
    refine catT_lay y2 (ga2 _ _ ea1) ea2 (by rw [List.length_take, List.length_drop]; omega) fun q3 A3 K5 y3 ga3 _ ea3 => ?_
    have L3' := L1.step y3
    obtain ⟨bl, bg, bb⟩ := twice_at hgood hk
    obtain ⟨v0, hv0⟩ : ∃ v0, v0 = if ds.length < 60 then V.int ((k + 1 : Nat) : Int) else V.str "lots" := ⟨_, rfl⟩
    have due : Due (.int many) (.tuple (ds.take (k + 1) ++ ds.drop k)) v0 := by
      by_cases h60 : ds.length < 60
      · rw [if_pos h60] at hv0
        exact .inr (.inr ⟨many, _, k + 1, rfl, m3, m5, rfl, lenOk_of (by rw [bl]; omega) (by rw [bl]; omega), by rw [bl]; omega, bg, bb, hv0⟩)
      · rw [if_neg h60] at hv0
        refine .inr (.inl ⟨numD_int m3 m5, ?_, hv0⟩)
        show (decide (1 ≤ (ds.take (k + 1) ++ ds.drop k).length) && decide ((ds.take (k + 1) ++ ds.drop k).length ≤ 60)) = false
        rw [bl, decide_eq_false (by omega : ¬ ds.length + 1 ≤ 60), Bool.and_false]
    walk_at "go"
    refine mk_out L3'.w.sub (.int many) (.tup ea3 ((hd1'.take (k + 1)).app (hd1'.drop k) |>.same y3.g)) due fun K6 y4 => ?_
    have L4 := L3'.step ((Stp.refl L3'.w).more y4)
    have w4 := (w1.step y3).step ((Stp.refl L3'.w).more y4)
    have ht4 := L4.w.sub _ _ (y3.g _ _ ht1)
    walk_at "go"
    refine go_lenT (.inl (.inl ht4)) ?_
    walk_at "go"
    refine ifE_join v0 (fun h Q' q => ?_) (fun h Q' q => ?_) ?_
    · rw [if_pos (by have := of_decide_eq_true h; omega)] at hv0
      walk_at "go"
      rw [show (k : Int) + 1 = ((k + 1 : Nat) : Int) by omega, ← hv0]
      exact q
    · rw [if_neg (fun z => h (decide_eq_true (by omega)))] at hv0
      walk_at "go"
      rw [← hv0]
      exact q
    refine go_eqSelf (by rw [hv0]; split <;> rfl) ?_
    walk_at "go"
    refine app_law L4 w4 (by omega) fun L5 w5 => ?_
    have hd5 := hd1'.same y3.g
    have ht5 := y3.g _ _ ht1
    have hws5 := trues_snoc hws (b := true) rfl
    have hl5 : (ws ++ [V.bl true]).length = 7 := by rw [List.length_append, hwl6]; rfl
    generalize ws ++ [V.bl true] = ws5 at *
    generalize upd K6 lw (.lst ws5) = K7 at *
    walk_at "go"
    refine newS_lay (Stp.refl L5.w) (by show (0 : Nat) ≤ 100000; decide) fun q1 A4 K8 y1 ga1 _ ea1 => ?_
    walk_at "go"
    refine lstOf_lay y1 (.inr (.inl (.inl (y1.w.sub _ _ (ga1 _ _ ht5))))) fun q2 A5 K9 y2 ga2 _ ea2 => ?_
    walk_at "go"
    refine new_lay y2 fun q3 A6 K10 y3 ga3 _ ea3 => ?_
    walk_at "go"
    have elE := hd5.length
    obtain ⟨d0, dr0, ed0⟩ : ∃ d0 dr0, ds = d0 :: dr0 := by
      cases hds0 : ds with
      | nil => rw [hds0] at hd1; simp at hd1
      | cons d0 dr0 => exact ⟨_, _, rfl⟩
    obtain ⟨f0, fr0, ef0⟩ : ∃ f0 fr0, fs = f0 :: fr0 := by
      cases hfs0 : fs with
      | nil => rw [hfs0, ed0] at elE; simp at elE
      | cons d0 dr0 => exact ⟨_, _, rfl⟩
    have n46 := (ga1.trans ga2).trans ga3
    have ht6 := n46 _ _ ht5
    refine go_ixT (.inl (.inl (y3.w.sub _ _ ht6))) (v := f0) (by rw [ef0]; exact atI_nat (j := 0) rfl) ?_
    walk_at "go"
    refine newS_lay y3 (by show (1 : Nat) ≤ 100000; decide) fun q4 A7 K11 y4 ga4 _ ea4 => ?_
    walk_at "go"
    refine go_repT (.inl (.inl (y4.w.sub _ _ ea4))) (by simp) (by decide) (by decide) (by simp) (new_lay y4 fun q5 A8 K12 y5 ga5 _ ea5 => ?_)
    walk_at "go"
    refine newS_lay y5 (by show (7 : Nat) ≤ 100000; decide) fun q6 A9 K13 y6 ga6 _ ea6 => ?_
    walk_at "go"
    have n79 := (ga4.trans ga5).trans ga6
    have n69 := n79
    have n59 := ga3.trans n69
    have n49 := ga2.trans n59
    have n39 := ga1.trans n49
    have L6 := L5.step y6
    have w6 := w5.step y6
    have hd9 := hd5.same n39
    have ht9 := n39 _ _ ht5
    have hrep : (List.replicate (61 : Int).toNat [f0]).flatten = List.replicate 61 f0 := rfl
    rw [hrep] at ea5
    have hf0 : Dr a.C_NoRow A9 f0 d0 := by
      rw [ef0, ed0] at hd9
      cases hd9 with
      | cons h _ => exact h
    have hrepD : Drs a.C_NoRow A9 (List.replicate 61 f0) (List.replicate 61 d0) := by
      generalize 61 = n
      induction n with
      | zero => exact .nil
      | succ n ih => exact .cons hf0 ih
    obtain ⟨es, hes', hbadl⟩ : ∃ es, Drs a.C_NoRow A9 [.ref q1, .ref q2, .non, .ref q3, .str "lots", .int 5, .ref q5] es ∧ ∀ d ∈ es, lenOk d = false := by
      refine ⟨[.tuple [], .list ds, .none, .dict [], .str "lots", .int 5, .tuple (List.replicate 61 d0)], .cons (.tup (n49 _ _ ea1) .nil) (.cons (.lst (n59 _ _ ea2) hd9) (.cons .non (.cons (.dic (n69 _ _ ea3)) (.cons (.str _) (.cons (.int _) (.cons (.tup (ga6 _ _ ea5) hrepD) .nil)))))), fun d hd => ?_⟩
      simp only [List.mem_cons, List.not_mem_nil, or_false] at hd
      rcases hd with rfl | rfl | rfl | rfl | rfl | rfl | rfl <;> rfl
    refine go_wIL (.inl (.inl (y6.w.sub _ _ ea6))) ?_
    refine fl_list (xs := [V.ref q1, .ref q2, .non, .ref q3, .str "lots", .int 5, .ref q5]) (fun i σ H' => ∃ G' z11 z12 z13 ws, σ = [some (.ref l), some (.ref p), z2, some (.int many), some (.ref t), some (.ref x1), some (.int k), some (.ref ti), some (.ref tl), some (.ref lb), some (.ref lw), z11, z12, z13] ∧
        LW p PT qLam G' H' ∧ Own p G' H' lw ws ∧ ws.length = 7 + i ∧ (∀ x ∈ ws, x = V.bl true) ∧ Drs a.C_NoRow G' [V.ref q1, .ref q2, .non, .ref q3, .str "lots", .int 5, .ref q5] es ∧ Drs a.C_NoRow G' fs ds ∧ G' t = some (.tup fs) ∧ G' q6 = some (.lst [V.ref q1, .ref q2, .non, .ref q3, .str "lots", .int 5, .ref q5]))
      ⟨_, _, _, _, _, rfl, L6, w6, by rw [hl5], hws5, hes', hd9, ht9, ea6⟩ (fun i σ H' _ ⟨G', _, _, _, _, _, L', _, _, _, _, _, _, e'⟩ => .inl (.inl (L'.w.sub _ _ e'))) ?_ ?_
    · rintro i x σ K1 hx ⟨G', _, _, _, ws, rfl, Lx, wx, hwl, hws, hesx, hdx, htx, hqx⟩
      obtain ⟨d, hd, hdr⟩ := hesx.get hx
      have hbd := hbadl d (List.mem_of_getElem? hd)
      have hi7 : i < 7 := (List.getElem?_eq_some_iff.mp hx).1
      walk_at "go"
      refine ⟨tyL wx.at_, ?_⟩
      walk_at "go"
      refine ⟨Lx.tabs, fun K2 eN T2 => go_tt (go_mk ?_)⟩
      obtain ⟨M1, L1, sN, kn⟩ := Lx.lam eN T2
      have w1 := wx.lam eN kn
      have hd1' := Drs.sameN sN hdx
      have ht1 := sN.tup htx
      have hes1 := Drs.sameN sN hesx
      have hdr1 := Dr.sameN sN hdr
      have hq1 := sN _ _ hqx (fun _ z => by cases z)
      walk_at "go"
      refine mk_out L1.w.sub (.int many) hdr1 (.inr (.inl ⟨numD_int m3 m5, hbd, rfl⟩)) fun K7 y6 => ?_
      have L6' := L1.step ((Stp.refl L1.w).more y6)
      have w6' := w1.step ((Stp.refl L1.w).more y6)
      walk_at "go"
      refine go_eqSelf rfl ?_
      walk_at "go"
      refine app_law L6' w6' (by omega) fun LY wY => ?_
      walk_at "go"
      exact ⟨M1, _, _, _, _, rfl, LY, wY, by rw [List.length_append, hwl]; rfl, trues_snoc hws rfl, hes1, hd1', ht1, hq1⟩
    rintro σ K1 ⟨G', y11, y12, y13, ws, rfl, Lx, wx, hwl14, hws14, _, hdx, htx, _⟩
    clear hes' hbadl
    walk_at "go"
    refine newS_lay (Stp.refl Lx.w) (by show (1 : Nat) ≤ 100000; decide) fun r1 B1 J1 x1' gb1 _ eb1 => ?_
    walk_at "go"
    refine newS_lay x1' (by show (8 : Nat) ≤ 100000; decide) fun r2 B2 J2 x2' gb2 _ eb2 => ?_
    have M6 := Lx.step x2'
    have o6 := wx.step x2'
    have hd6 := hdx.same (gb1.trans gb2)
    have ht6' := (gb1.trans gb2) _ _ htx
    obtain ⟨es, hes', hbadm⟩ : ∃ es, Drs a.C_NoRow B2 [.int 2, .int 6, .bl true, .non, .str "3", .ref r1, .int (10 ^ (30 : Int).toNat), .int (-3)] es ∧ ∀ d ∈ es, numD d 3 5 = false := by
      refine ⟨[.int 2, .int 6, .bool true, .none, .str "3", .tuple [.int 3], .int (10 ^ (30 : Int).toNat), .int (-3)], .cons (.int _) (.cons (.int _) (.cons (.bl _) (.cons .non (.cons (.str _) (.cons (.tup (gb2 _ _ eb1) (.cons (.int _) .nil)) (.cons (.int _) (.cons (.int _) .nil))))))), fun d hd => ?_⟩
      simp only [List.mem_cons, List.not_mem_nil, or_false] at hd
      rcases hd with rfl | rfl | rfl | rfl | rfl | rfl | rfl | rfl <;> rfl
    walk_at "go"
    refine go_wIL (.inl (.inl (x2'.w.sub _ _ eb2))) ?_
    generalize hitems : [V.int 2, .int 6, .bl true, .non, .str "3", .ref r1, .int (10 ^ (30 : Int).toNat), .int (-3)] = items at *
    have il : items.length = 8 := by rw [← hitems]; rfl
    refine fl_list (xs := items) (fun i σ H' => ∃ G' z11 z12 z13 ws, σ = [some (.ref l), some (.ref p), z2, some (.int many), some (.ref t), some (.ref x1), some (.int k), some (.ref ti), some (.ref tl), some (.ref lb), some (.ref lw), z11, z12, z13] ∧
        LW p PT qLam G' H' ∧ Own p G' H' lw ws ∧ ws.length = 14 + i ∧ (∀ x ∈ ws, x = V.bl true) ∧ Drs a.C_NoRow G' items es ∧ Drs a.C_NoRow G' fs ds ∧ G' t = some (.tup fs) ∧ G' r2 = some (.lst items))
      ⟨_, _, _, _, _, rfl, M6, o6, by rw [hwl14]; rfl, hws14, hes', hd6, ht6', eb2⟩ (fun i σ H' _ ⟨G', _, _, _, _, _, L', _, _, _, _, _, _, e'⟩ => .inl (.inl (L'.w.sub _ _ e'))) ?_ ?_
    · rintro i x σ K1 hx ⟨G', _, _, _, ws, rfl, Lx, wx, hwl, hws, hesx, hdx, htx, hqx⟩
      obtain ⟨d, hd, hdr⟩ := hesx.get hx
      have hbd := hbadm d (List.mem_of_getElem? hd)
      have hi8 : i < 8 := by rw [← il]; exact (List.getElem?_eq_some_iff.mp hx).1
      walk_at "go"
      refine ⟨tyL wx.at_, ?_⟩
      walk_at "go"
      refine ⟨Lx.tabs, fun K2 eN T2 => go_tt (go_mk ?_)⟩
      obtain ⟨M1, L1, sN, kn⟩ := Lx.lam eN T2
      have w1 := wx.lam eN kn
      have hd1' := Drs.sameN sN hdx
      have ht1 := sN.tup htx
      have hes1 := Drs.sameN sN hesx
      have hdr1 := Dr.sameN sN hdr
      have hq1 := sN _ _ hqx (fun _ z => by cases z)
      walk_at "go"
      refine newS_lay (Stp.refl L1.w) (by show (2 : Nat) ≤ 100000; decide) fun u1 M2 K3 v1 gm1 _ em1 => ?_
      walk_at "go"
      refine go_any v1 (.inl (v1.w.sub _ _ em1)) (v1.tl em1) (by simp) (by walk_at "len") fun v5 K4 hv5 v2 _ => ?_
      have hd2' := hd1'.same gm1
      have ht2 := gm1 _ _ ht1
      obtain ⟨d5, hd5'⟩ : ∃ d5, Dr a.C_NoRow M2 v5 d5 := by
        simp only [List.mem_cons, List.not_mem_nil, or_false] at hv5
        rcases hv5 with rfl | rfl
        · exact ⟨_, .tup ht2 hd2'⟩
        · exact ⟨_, .non⟩
      have L2' := L1.step v2
      have w2' := w1.step v2
      walk_at "go"
      refine mk_out L2'.w.sub (hdr1.same gm1) hd5' (.inl ⟨hbd, rfl⟩) fun K7 y6 => ?_
      have L6' := L2'.step ((Stp.refl L2'.w).more y6)
      have w6' := w2'.step ((Stp.refl L2'.w).more y6)
      walk_at "go"
      refine go_eqSelf rfl ?_
      walk_at "go"
      refine app_law L6' w6' (by omega) fun LY wY => ?_
      walk_at "go"
      exact ⟨M2, _, _, _, _, rfl, LY, wY, by rw [List.length_append, hwl]; rfl, trues_snoc hws rfl, hes1.same gm1, hd2', ht2, gm1 _ _ hq1⟩
    rw [il]
    rintro σ K1 ⟨G', y11, y12, y13, ws, rfl, Lx, wx, hwl22, hws22, _, _, _, _⟩
    clear hes' hbadm
    walk_at "go"
    refine go_wIR (by decide) (by decide) ?_
    intro D hD
    have fD := (Stp.refl Lx.w).fresh Lx.w hD
    have nD : lw ≠ D := ne_of_none wx.at_ hD
    refine lcl_range (fun i acc H' => ∃ G', LW p PT qLam G' H' ∧ Own p G' H' lw ws ∧ G' D = none ∧ Drs a.C_NoRow G' acc ((List.range i).map fun k : Nat => rowT [0, 0, 0 + (k : Int)])) ⟨G', Lx.step ((Stp.refl Lx.w).new hD), wx.other nD, fD.2, .nil⟩ ?_ ?_
    · rintro i acc H' hi hacc ⟨G2, Ly, wy, gD, hdr⟩
      have oD : Own p G2 H' D acc := ⟨hacc, gD, Lx.w.ne hD⟩
      walk_at "go"
      refine newS_lay (Stp.refl Ly.w) (by show (3 : Nat) ≤ 100000; decide) fun q3 B3 J3 x3' gb3 _ eb3 => ?_
      have L2 := Ly.step x3'
      have o2 := oD.step x3'
      have w2 := wy.step x3'
      refine accQ o2.at_ ?_ ⟨B3, L2.set o2, w2.other nD, o2.g, ?_⟩
      · rw [hdr.length, List.length_map, List.length_range]
        have : i < 61 := hi
        omega
      · rw [List.range_succ, List.map_append]
        exact (hdr.same gb3).app (.cons (.tup eb3 (Drs.ints [0, 0, 0 + (i : Int)])) .nil)
    rintro acc H' hacc ⟨G2, Ly, wy, gD, hdr⟩
    rw [show (61 : Int).toNat = 61 from rfl] at hdr
    obtain ⟨gs, hgs⟩ : ∃ gs : List PyData, gs = (List.range 61).map fun k : Nat => rowT [0, 0, 0 + (k : Int)] := ⟨_, rfl⟩
    rw [← hgs] at hdr
    walk_at "go"
    refine tupOf_lay (Stp.refl Ly.w) (.inl (.inl hacc)) fun tg B4 J4 x4' gb4 _ eb4 => ?_
    have L3 := Ly.step x4'
    have w3 := wy.step x4'
    have hdg := hdr.same gb4
    have hgl : acc.length = 61 := by rw [hdg.length, hgs, List.length_map, List.length_range]
    walk_at "go"
    refine ⟨tyL w3.at_, ?_⟩
    walk_at "go"
    refine ⟨L3.tabs, fun K2 eN T2 => go_tt (go_mk ?_)⟩
    obtain ⟨M1, L4, sN, kn⟩ := L3.lam eN T2
    have w4 := w3.lam eN kn
    have hdg1 := Drs.sameN sN hdg
    have htg1 := sN.tup eb4
    walk_at "go"
    refine newS_lay (Stp.refl L4.w) (by show (3 : Nat) ≤ 100000; decide) fun q1 A1 K3 y1 ga1 _ ea1 => ?_
    walk_at "go"
    refine newS_lay y1 (by show (2 : Nat) ≤ 100000; decide) fun q2 A2 K4 y2 ga2 _ ea2 => ?_
    walk_at "go"
    refine newS_lay y2 (by show (1 : Nat) ≤ 100000; decide) fun q3 A3 K5 y3 ga3 _ ea3 => ?_
    have L5 := L4.step y3
    have w5 := w4.step y3
    have n13 := (ga1.trans ga2).trans ga3
    have drow : Dr a.C_NoRow A3 (.ref q1) (rowT [0, 0, 0]) := .tup ((ga2.trans ga3) _ _ ea1) (Drs.ints [0, 0, 0])
    have dgr : Dr a.C_NoRow A3 (.ref tg) (.tuple gs) := .tup (n13 _ _ htg1) (hdg1.same n13)
    walk_at "go"
    refine mk_out (v := V.int 0) L5.w.sub (.int 3) (.tup ea3 (.cons (.tup (ga3 _ _ ea2) (.cons drow (.cons dgr .nil))) .nil)) (.inr (.inr ⟨3, _, 0, rfl, by decide, by decide, rfl, rfl, Nat.zero_lt_one, fun j h => absurd h (Nat.not_lt_zero j), fun h => ?_, rfl⟩)) fun K7 y6 => ?_
    · have h1 : pairD 3 (.tuple [rowT [0, 0, 0], .tuple gs]) = true := h.1
      rw [hgs] at h1
      exact absurd h1 (by decide +kernel)
    have L6' := L5.step ((Stp.refl L5.w).more y6)
    have w6' := w5.step ((Stp.refl L5.w).more y6)
    walk_at "go"
    rw [show decide ((0 : Int) = 0) = true from rfl]
    refine app_law L6' w6' (by omega) fun LY wY => ?_
    have hws1 := trues_snoc hws22 (b := true) rfl
    have hl1 : (ws ++ [V.bl true]).length = 23 := by rw [List.length_append, hwl22]; rfl
    have hdg3 := hdg1.same n13
    have htg3 := n13 _ _ htg1
    generalize ws ++ [V.bl true] = ws1 at *
    generalize upd K7 lw (.lst ws1) = K8 at *
    walk_at "go"
    refine ⟨tyL wY.at_, ?_⟩
    walk_at "go"
    refine ⟨LY.tabs, fun K2' eN' T2' => go_tt (go_mk ?_)⟩
    obtain ⟨M2, L7, sN', kn'⟩ := LY.lam eN' T2'
    have w7 := wY.lam eN' kn'
    have hdg4 := Drs.sameN sN' hdg3
    have htg4 := sN'.tup htg3
    walk_at "go"
    refine newS_lay (Stp.refl L7.w) (by show (3 : Nat) ≤ 100000; decide) fun q1' A1' K3' y1' ga1' _ ea1' => ?_
    walk_at "go"
    refine slA_lay y1' (ga1' _ _ htg4) fun q0' A0' K0' y0' ga0' _ ea0' => ?_
    rw [show (60 : Int) = ((60 : Nat) : Int) from rfl, cut_to] at ea0'
    walk_at "go"
    refine newS_lay y0' (by show (2 : Nat) ≤ 100000; decide) fun q2' A2' K4' y2' ga2' _ ea2' => ?_
    walk_at "go"
    refine newS_lay y2' (by show (1 : Nat) ≤ 100000; decide) fun q3' A3' K5' y3' ga3' _ ea3' => ?_
    have L8 := L7.step y3'
    have w8 := w7.step y3'
    have drow' : Dr a.C_NoRow A3' (.ref q1') (rowT [0, 0, 0]) := .tup (((ga0'.trans ga2').trans ga3') _ _ ea1') (Drs.ints [0, 0, 0])
    have dgr' : Dr a.C_NoRow A3' (.ref q0') (.tuple (gs.take 60)) := .tup ((ga2'.trans ga3') _ _ ea0') ((hdg4.same (((ga1'.trans ga0').trans ga2').trans ga3')).take 60)
    walk_at "go"
    refine mk_good L8.w.sub (.int 3) (.tup ea3' (.cons (.tup (ga3' _ _ ea2') (.cons drow' (.cons dgr' .nil))) .nil)) (by decide) (by decide) rfl (fun j hj => ?_) fun xz KZ _ yz _ => ?_
    · have j0 : j = 0 := by
        have : j < 1 := hj
        omega
      subst j0
      refine ⟨?_, fun h => absurd h (Nat.lt_irrefl _)⟩
      show pairD 3 (.tuple [rowT [0, 0, 0], .tuple (gs.take 60)]) = true
      rw [hgs]
      decide +kernel
    have L9 := L8.step ((Stp.refl L8.w).more yz)
    have w9 := w8.step ((Stp.refl L8.w).more yz)
    walk_at "go"
    refine go_eqSelf rfl ?_
    walk_at "go"
    refine app_law L9 w9 (by omega) fun LZ wZ => ?_
    have hws2 := trues_snoc hws1 (b := true) rfl
    walk_at "go"
    refine ⟨lw, _, rfl, .inl (.inl (.inl wZ.at_)), rfl, ?_, ?_⟩
    · rw [List.all_eq_true]
      intro x hx
      rw [hws2 x hx]
      rfl
    have hin : inV (.bl false) (ws1 ++ [V.bl true]) = false := by
      show (ws1 ++ [V.bl true]).any (fun y => eqV y (.bl false)) = false
      rw [List.any_eq_false]
      intro x hx
      rw [hws2 x hx]
      decide
    rw [hin]
    walk_at "go"
    rw [show (if false = true then !false else false) = false from rfl]
    walk_at "go"
    exact ⟨_, _, _, _, _, _, _, _, _, _, _, _, _, rfl, LZ⟩
  · rintro σ H2 ⟨G2, s2, s3, s4, s5, s6, s7, s8, s9, s10, s11, s12, s13, rfl, L2⟩
    walk_at "go"
    exact fin _
end
end K01

set_option Elab.async false
set_option linter.all false
set_option maxRecDepth 100000
set_option maxHeartbeats 8000000
namespace K01
open PySem PySem.Spec PyProof.Rows L2 Kb
theorem mkT {h : Heap} {K : PySem.W.Frag} {mg : Str → Option Value} (X : K.In h) (G : h.Ns mainGlobals mg) {c : Addr}
    {f_BadTask___init__ f_is_integer f_is_number f_is_ascending f_Task___init__ f_Task___eq__ f_is_pair f_is_task_row f_law_pot f_law_draw f_law_any f_law_is f_law_row f_law_lots f_law_odd f_law_no_row f_law_no_lot f_law_part f_law C_SilentError C_NoRow C_BadTask C_Task : Addr}
    {od_BadTask___init__ an_BadTask___init__ : Option Addr} {sl_BadTask___init__ : Array (Option Value)} {oc_BadTask___init__ kV_BadTask___init__ dc_BadTask___init__ pm_BadTask___init__ cd_BadTask___init__ ct_BadTask___init__ : Value}
    {od_is_integer an_is_integer : Option Addr} {sl_is_integer : Array (Option Value)} {oc_is_integer kV_is_integer dc_is_integer pm_is_integer cd_is_integer ct_is_integer : Value}
    {od_is_number an_is_number : Option Addr} {sl_is_number : Array (Option Value)} {oc_is_number kV_is_number dc_is_number pm_is_number cd_is_number ct_is_number : Value}
    {od_is_ascending an_is_ascending : Option Addr} {sl_is_ascending : Array (Option Value)} {oc_is_ascending kV_is_ascending dc_is_ascending pm_is_ascending cd_is_ascending ct_is_ascending : Value}
    {od_Task___init__ an_Task___init__ : Option Addr} {sl_Task___init__ : Array (Option Value)} {oc_Task___init__ kV_Task___init__ dc_Task___init__ pm_Task___init__ cd_Task___init__ ct_Task___init__ : Value}
    {od_Task___eq__ an_Task___eq__ : Option Addr} {sl_Task___eq__ : Array (Option Value)} {oc_Task___eq__ kV_Task___eq__ dc_Task___eq__ pm_Task___eq__ cd_Task___eq__ ct_Task___eq__ : Value}
    {od_is_pair an_is_pair : Option Addr} {sl_is_pair : Array (Option Value)} {oc_is_pair kV_is_pair dc_is_pair pm_is_pair cd_is_pair ct_is_pair : Value}
    {od_is_task_row an_is_task_row : Option Addr} {sl_is_task_row : Array (Option Value)} {oc_is_task_row kV_is_task_row dc_is_task_row pm_is_task_row cd_is_task_row ct_is_task_row : Value}
    {od_law_pot an_law_pot : Option Addr} {sl_law_pot : Array (Option Value)} {oc_law_pot kV_law_pot dc_law_pot pm_law_pot cd_law_pot ct_law_pot : Value}
    {od_law_draw an_law_draw : Option Addr} {sl_law_draw : Array (Option Value)} {oc_law_draw kV_law_draw dc_law_draw pm_law_draw cd_law_draw ct_law_draw : Value}
    {od_law_any an_law_any : Option Addr} {sl_law_any : Array (Option Value)} {oc_law_any kV_law_any dc_law_any pm_law_any cd_law_any ct_law_any : Value}
    {od_law_is an_law_is : Option Addr} {sl_law_is : Array (Option Value)} {oc_law_is kV_law_is dc_law_is pm_law_is cd_law_is ct_law_is : Value}
    {od_law_row an_law_row : Option Addr} {sl_law_row : Array (Option Value)} {oc_law_row kV_law_row dc_law_row pm_law_row cd_law_row ct_law_row : Value}
    {od_law_lots an_law_lots : Option Addr} {sl_law_lots : Array (Option Value)} {oc_law_lots kV_law_lots dc_law_lots pm_law_lots cd_law_lots ct_law_lots : Value}
    {od_law_odd an_law_odd : Option Addr} {sl_law_odd : Array (Option Value)} {oc_law_odd kV_law_odd dc_law_odd pm_law_odd cd_law_odd ct_law_odd : Value}
    {od_law_no_row an_law_no_row : Option Addr} {sl_law_no_row : Array (Option Value)} {oc_law_no_row kV_law_no_row dc_law_no_row pm_law_no_row cd_law_no_row ct_law_no_row : Value}
    {od_law_no_lot an_law_no_lot : Option Addr} {sl_law_no_lot : Array (Option Value)} {oc_law_no_lot kV_law_no_lot dc_law_no_lot pm_law_no_lot cd_law_no_lot ct_law_no_lot : Value}
    {od_law_part an_law_part : Option Addr} {sl_law_part : Array (Option Value)} {oc_law_part kV_law_part dc_law_part pm_law_part cd_law_part ct_law_part : Value}
    {od_law an_law : Option Addr} {sl_law : Array (Option Value)} {oc_law kV_law dc_law pm_law ct_law : Value}
    {t_MOST_ROWS : Tok}
    {t_MOST_NUMBER : Tok}
    {nm_b q_b : Str} {bs_b bm_b sub_b : List Value} {N_b : Addr} {sn_b : List Str} {ab_b : Bool} {col_b : Option Bool} {dd_b : Option Addr} {k0_b k1_b k2_b k3_b k5_b : Option Value}
    (gC_SilentError : PySem.W.nsIn K mainGlobals "SilentError" = some (some (.ref C_SilentError)))
    (gC_NoRow : PySem.W.nsIn K mainGlobals "NoRow" = some (some (.ref C_NoRow)))
    (gC_BadTask : PySem.W.nsIn K mainGlobals "BadTask" = some (some (.ref C_BadTask)))
    (gC_Task : PySem.W.nsIn K mainGlobals "Task" = some (some (.ref C_Task)))
    (a_BadTask___init__ : PySem.W.findIn K (.ref C_BadTask) "__init__" = some (some (.ref f_BadTask___init__)))
    (l_BadTask___init__ : K.lookup f_BadTask___init__ = some ⟨oc_BadTask___init__, od_BadTask___init__, .func (PySem.W.fnOf "__init__" "BadTask.__init__" (defArgs s_BadTask___init__) (defBody s_BadTask___init__) (defScope s_BadTask___init__) .none kV_BadTask___init__ dc_BadTask___init__ pm_BadTask___init__ an_BadTask___init__ cd_BadTask___init__ ct_BadTask___init__), sl_BadTask___init__⟩)
    (c_BadTask___init__ : PySem.W.codeIn K cd_BadTask___init__ "BadTask.__init__" = true)
    (k_BadTask___init__ : PySem.W.keepIn K (.ref f_BadTask___init__) = true)
    (a_is_integer : PySem.W.nsIn K mainGlobals "is_integer" = some (some (.ref f_is_integer)))
    (l_is_integer : K.lookup f_is_integer = some ⟨oc_is_integer, od_is_integer, .func (PySem.W.fnOf "is_integer" "is_integer" (defArgs s_is_integer) (defBody s_is_integer) (defScope s_is_integer) .none kV_is_integer dc_is_integer pm_is_integer an_is_integer cd_is_integer ct_is_integer), sl_is_integer⟩)
    (c_is_integer : PySem.W.codeIn K cd_is_integer "is_integer" = true)
    (k_is_integer : PySem.W.keepIn K (.ref f_is_integer) = true)
    (a_is_number : PySem.W.nsIn K mainGlobals "is_number" = some (some (.ref f_is_number)))
    (l_is_number : K.lookup f_is_number = some ⟨oc_is_number, od_is_number, .func (PySem.W.fnOf "is_number" "is_number" (defArgs s_is_number) (defBody s_is_number) (defScope s_is_number) .none kV_is_number dc_is_number pm_is_number an_is_number cd_is_number ct_is_number), sl_is_number⟩)
    (c_is_number : PySem.W.codeIn K cd_is_number "is_number" = true)
    (k_is_number : PySem.W.keepIn K (.ref f_is_number) = true)
    (a_is_ascending : PySem.W.nsIn K mainGlobals "is_ascending" = some (some (.ref f_is_ascending)))
    (l_is_ascending : K.lookup f_is_ascending = some ⟨oc_is_ascending, od_is_ascending, .func (PySem.W.fnOf "is_ascending" "is_ascending" (defArgs s_is_ascending) (defBody s_is_ascending) (defScope s_is_ascending) .none kV_is_ascending dc_is_ascending pm_is_ascending an_is_ascending cd_is_ascending ct_is_ascending), sl_is_ascending⟩)
    (c_is_ascending : PySem.W.codeIn K cd_is_ascending "is_ascending" = true)
    (k_is_ascending : PySem.W.keepIn K (.ref f_is_ascending) = true)
    (a_Task___init__ : PySem.W.findIn K (.ref C_Task) "__init__" = some (some (.ref f_Task___init__)))
    (l_Task___init__ : K.lookup f_Task___init__ = some ⟨oc_Task___init__, od_Task___init__, .func (PySem.W.fnOf "__init__" "Task.__init__" (defArgs s_Task___init__) (defBody s_Task___init__) (defScope s_Task___init__) .none kV_Task___init__ dc_Task___init__ pm_Task___init__ an_Task___init__ cd_Task___init__ ct_Task___init__), sl_Task___init__⟩)
    (c_Task___init__ : PySem.W.codeIn K cd_Task___init__ "Task.__init__" = true)
    (k_Task___init__ : PySem.W.keepIn K (.ref f_Task___init__) = true)
    (a_Task___eq__ : PySem.W.findIn K (.ref C_Task) "__eq__" = some (some (.ref f_Task___eq__)))
    (l_Task___eq__ : K.lookup f_Task___eq__ = some ⟨oc_Task___eq__, od_Task___eq__, .func (PySem.W.fnOf "__eq__" "Task.__eq__" (defArgs s_Task___eq__) (defBody s_Task___eq__) (defScope s_Task___eq__) .none kV_Task___eq__ dc_Task___eq__ pm_Task___eq__ an_Task___eq__ cd_Task___eq__ ct_Task___eq__), sl_Task___eq__⟩)
    (c_Task___eq__ : PySem.W.codeIn K cd_Task___eq__ "Task.__eq__" = true)
    (k_Task___eq__ : PySem.W.keepIn K (.ref f_Task___eq__) = true)
    (a_is_pair : PySem.W.nsIn K mainGlobals "_is_pair" = some (some (.ref f_is_pair)))
    (l_is_pair : K.lookup f_is_pair = some ⟨oc_is_pair, od_is_pair, .func (PySem.W.fnOf "_is_pair" "_is_pair" (defArgs s_is_pair) (defBody s_is_pair) (defScope s_is_pair) .none kV_is_pair dc_is_pair pm_is_pair an_is_pair cd_is_pair ct_is_pair), sl_is_pair⟩)
    (c_is_pair : PySem.W.codeIn K cd_is_pair "_is_pair" = true)
    (k_is_pair : PySem.W.keepIn K (.ref f_is_pair) = true)
    (a_is_task_row : PySem.W.nsIn K mainGlobals "_is_task_row" = some (some (.ref f_is_task_row)))
    (l_is_task_row : K.lookup f_is_task_row = some ⟨oc_is_task_row, od_is_task_row, .func (PySem.W.fnOf "_is_task_row" "_is_task_row" (defArgs s_is_task_row) (defBody s_is_task_row) (defScope s_is_task_row) .none kV_is_task_row dc_is_task_row pm_is_task_row an_is_task_row cd_is_task_row ct_is_task_row), sl_is_task_row⟩)
    (c_is_task_row : PySem.W.codeIn K cd_is_task_row "_is_task_row" = true)
    (k_is_task_row : PySem.W.keepIn K (.ref f_is_task_row) = true)
    (a_law_pot : PySem.W.nsIn K mainGlobals "_law_pot" = some (some (.ref f_law_pot)))
    (l_law_pot : K.lookup f_law_pot = some ⟨oc_law_pot, od_law_pot, .func (PySem.W.fnOf "_law_pot" "_law_pot" (defArgs s_law_pot) (defBody s_law_pot) (defScope s_law_pot) .none kV_law_pot dc_law_pot pm_law_pot an_law_pot cd_law_pot ct_law_pot), sl_law_pot⟩)
    (c_law_pot : PySem.W.codeIn K cd_law_pot "_law_pot" = true)
    (k_law_pot : PySem.W.keepIn K (.ref f_law_pot) = true)
    (a_law_draw : PySem.W.nsIn K mainGlobals "_law_draw" = some (some (.ref f_law_draw)))
    (l_law_draw : K.lookup f_law_draw = some ⟨oc_law_draw, od_law_draw, .func (PySem.W.fnOf "_law_draw" "_law_draw" (defArgs s_law_draw) (defBody s_law_draw) (defScope s_law_draw) .none kV_law_draw dc_law_draw pm_law_draw an_law_draw cd_law_draw ct_law_draw), sl_law_draw⟩)
    (c_law_draw : PySem.W.codeIn K cd_law_draw "_law_draw" = true)
    (k_law_draw : PySem.W.keepIn K (.ref f_law_draw) = true)
    (a_law_any : PySem.W.nsIn K mainGlobals "_law_any" = some (some (.ref f_law_any)))
    (l_law_any : K.lookup f_law_any = some ⟨oc_law_any, od_law_any, .func (PySem.W.fnOf "_law_any" "_law_any" (defArgs s_law_any) (defBody s_law_any) (defScope s_law_any) .none kV_law_any dc_law_any pm_law_any an_law_any cd_law_any ct_law_any), sl_law_any⟩)
    (c_law_any : PySem.W.codeIn K cd_law_any "_law_any" = true)
    (k_law_any : PySem.W.keepIn K (.ref f_law_any) = true)
    (a_law_is : PySem.W.nsIn K mainGlobals "_law_is" = some (some (.ref f_law_is)))
    (l_law_is : K.lookup f_law_is = some ⟨oc_law_is, od_law_is, .func (PySem.W.fnOf "_law_is" "_law_is" (defArgs s_law_is) (defBody s_law_is) (defScope s_law_is) .none kV_law_is dc_law_is pm_law_is an_law_is cd_law_is ct_law_is), sl_law_is⟩)
    (c_law_is : PySem.W.codeIn K cd_law_is "_law_is" = true)
    (k_law_is : PySem.W.keepIn K (.ref f_law_is) = true)
    (a_law_row : PySem.W.nsIn K mainGlobals "_law_row" = some (some (.ref f_law_row)))
    (l_law_row : K.lookup f_law_row = some ⟨oc_law_row, od_law_row, .func (PySem.W.fnOf "_law_row" "_law_row" (defArgs s_law_row) (defBody s_law_row) (defScope s_law_row) .none kV_law_row dc_law_row pm_law_row an_law_row cd_law_row ct_law_row), sl_law_row⟩)
    (c_law_row : PySem.W.codeIn K cd_law_row "_law_row" = true)
    (k_law_row : PySem.W.keepIn K (.ref f_law_row) = true)
    (a_law_lots : PySem.W.nsIn K mainGlobals "_law_lots" = some (some (.ref f_law_lots)))
    (l_law_lots : K.lookup f_law_lots = some ⟨oc_law_lots, od_law_lots, .func (PySem.W.fnOf "_law_lots" "_law_lots" (defArgs s_law_lots) (defBody s_law_lots) (defScope s_law_lots) .none kV_law_lots dc_law_lots pm_law_lots an_law_lots cd_law_lots ct_law_lots), sl_law_lots⟩)
    (c_law_lots : PySem.W.codeIn K cd_law_lots "_law_lots" = true)
    (k_law_lots : PySem.W.keepIn K (.ref f_law_lots) = true)
    (a_law_odd : PySem.W.nsIn K mainGlobals "_law_odd" = some (some (.ref f_law_odd)))
    (l_law_odd : K.lookup f_law_odd = some ⟨oc_law_odd, od_law_odd, .func (PySem.W.fnOf "_law_odd" "_law_odd" (defArgs s_law_odd) (defBody s_law_odd) (defScope s_law_odd) .none kV_law_odd dc_law_odd pm_law_odd an_law_odd cd_law_odd ct_law_odd), sl_law_odd⟩)
    (c_law_odd : PySem.W.codeIn K cd_law_odd "_law_odd" = true)
    (k_law_odd : PySem.W.keepIn K (.ref f_law_odd) = true)
    (a_law_no_row : PySem.W.nsIn K mainGlobals "_law_no_row" = some (some (.ref f_law_no_row)))
    (l_law_no_row : K.lookup f_law_no_row = some ⟨oc_law_no_row, od_law_no_row, .func (PySem.W.fnOf "_law_no_row" "_law_no_row" (defArgs s_law_no_row) (defBody s_law_no_row) (defScope s_law_no_row) .none kV_law_no_row dc_law_no_row pm_law_no_row an_law_no_row cd_law_no_row ct_law_no_row), sl_law_no_row⟩)
    (c_law_no_row : PySem.W.codeIn K cd_law_no_row "_law_no_row" = true)
    (k_law_no_row : PySem.W.keepIn K (.ref f_law_no_row) = true)
    (a_law_no_lot : PySem.W.nsIn K mainGlobals "_law_no_lot" = some (some (.ref f_law_no_lot)))
    (l_law_no_lot : K.lookup f_law_no_lot = some ⟨oc_law_no_lot, od_law_no_lot, .func (PySem.W.fnOf "_law_no_lot" "_law_no_lot" (defArgs s_law_no_lot) (defBody s_law_no_lot) (defScope s_law_no_lot) .none kV_law_no_lot dc_law_no_lot pm_law_no_lot an_law_no_lot cd_law_no_lot ct_law_no_lot), sl_law_no_lot⟩)
    (c_law_no_lot : PySem.W.codeIn K cd_law_no_lot "_law_no_lot" = true)
    (k_law_no_lot : PySem.W.keepIn K (.ref f_law_no_lot) = true)
    (a_law_part : PySem.W.nsIn K mainGlobals "_law_part" = some (some (.ref f_law_part)))
    (l_law_part : K.lookup f_law_part = some ⟨oc_law_part, od_law_part, .func (PySem.W.fnOf "_law_part" "_law_part" (defArgs s_law_part) (defBody s_law_part) (defScope s_law_part) .none kV_law_part dc_law_part pm_law_part an_law_part cd_law_part ct_law_part), sl_law_part⟩)
    (c_law_part : PySem.W.codeIn K cd_law_part "_law_part" = true)
    (k_law_part : PySem.W.keepIn K (.ref f_law_part) = true)
    (a_law : PySem.W.nsIn K mainGlobals "law" = some (some (.ref f_law)))
    (l_law : K.lookup f_law = some ⟨oc_law, od_law, .func (PySem.W.fnOf "law" "law" (defArgs s_law) (defBody s_law) (defScope s_law) .none kV_law dc_law pm_law an_law (.ref c) ct_law), sl_law⟩)
    (c_law : PySem.W.codeIn K (.ref c) "law" = true)
    (k_law : PySem.W.keepIn K (.ref f_law) = true)
    (z_isinstance : PySem.W.nsIn K mainGlobals "isinstance" = some none)
    (z_bool : PySem.W.nsIn K mainGlobals "bool" = some none)
    (z_int : PySem.W.nsIn K mainGlobals "int" = some none)
    (z_all : PySem.W.nsIn K mainGlobals "all" = some none)
    (z_zip : PySem.W.nsIn K mainGlobals "zip" = some none)
    (z_len : PySem.W.nsIn K mainGlobals "len" = some none)
    (z_tuple : PySem.W.nsIn K mainGlobals "tuple" = some none)
    (z_enumerate : PySem.W.nsIn K mainGlobals "enumerate" = some none)
    (z_abs : PySem.W.nsIn K mainGlobals "abs" = some none)
    (z_list : PySem.W.nsIn K mainGlobals "list" = some none)
    (z_range : PySem.W.nsIn K mainGlobals "range" = some none)
    (z_sorted : PySem.W.nsIn K mainGlobals "sorted" = some none)
    (v_MOST_ROWS : PySem.W.nsIn K mainGlobals "MOST_ROWS" = some (some (.int 60 t_MOST_ROWS)))
    (v_MOST_NUMBER : PySem.W.nsIn K mainGlobals "MOST_NUMBER" = some (some (.int 9999 t_MOST_NUMBER)))
    (n_ga : PySem.W.findIn K (.ref C_NoRow) "__getattribute__" = some (some (.builtin "BaseException.__getattribute__")))
    (n_gg : PySem.W.findIn K (.ref C_NoRow) "__getattr__" = some none)
    (n_exC : PySem.W.subIn K (.ref C_NoRow) (.type "BaseException") = some true)
    (n_hdC : PySem.W.hasDictIn K C_NoRow = true)
    (n_ha : PySem.W.findIn K (.ref C_NoRow) "__class__" = some (some (.builtin "object.__class__")))
    (n_hn : PySem.W.specialIn K (.builtin "object.__class__") "__get__" = some (some (.builtin "getset_descriptor.__get__")))
    (n_ht : PySem.W.takesIn K (.builtin "object.__class__") = some true)
    (n_hm : PySem.W.mroIn K C_NoRow (.type "object") = some true)
    (n_tup : PySem.W.kitOne K (.ref C_NoRow) (.type "tuple") = some false)
    (n_lst : PySem.W.kitOne K (.ref C_NoRow) (.type "list") = some false)
    (n_int : PySem.W.kitOne K (.ref C_NoRow) (.type "int") = some false)
    (n_bool : PySem.W.kitOne K (.ref C_NoRow) (.type "bool") = some false)
    (b_ga : PySem.W.findIn K (.ref C_BadTask) "__getattribute__" = some (some (.builtin "BaseException.__getattribute__")))
    (b_gg : PySem.W.findIn K (.ref C_BadTask) "__getattr__" = some none)
    (b_exC : PySem.W.subIn K (.ref C_BadTask) (.type "BaseException") = some true)
    (b_hdC : PySem.W.hasDictIn K C_BadTask = true)
    (b_lk : K.lookup C_BadTask = some (excClassObj nm_b q_b C_BadTask N_b bs_b bm_b true sn_b sub_b ab_b col_b dd_b k0_b k1_b k2_b k3_b k5_b "ValueError.__new__"))
    (b_bm : PySem.HandSPX.refsVE bm_b = true)
    (b_sa : PySem.W.findIn K (.ref C_BadTask) "__setattr__" = some (some (.builtin "object.__setattr__")))
    (b_tyC : PySem.W.typeIn K (.ref C_BadTask) = some (.type "type"))
    (b_kC : PySem.W.keepIn K (.ref C_BadTask) = true)
    (b_ti : PySem.W.typeIn K (.ref f_BadTask___init__) = some (.type "function"))
    (b_p : PySem.W.findIn K (.ref C_BadTask) "part" = some none)
    (n_x : PySem.W.excIn K C_NoRow [.type "ValueError", .type "Exception", .type "BaseException", .type "object"] "ValueError.__new__" = true)
    (n_k : PySem.W.keepIn K (.ref C_NoRow) = true)
    (t_pg : PySem.W.plainGet K C_Task Str.empty = true)
    (t_hd : PySem.W.hasDictIn K C_Task = true)
    (t_po : PySem.W.plainOver K C_Task = true)
    (t_sa : PySem.W.findIn K (.ref C_Task) "__setattr__" = some (some (.builtin "object.__setattr__")))
    (t_nM : PySem.W.findIn K (.ref C_Task) "many" = some none)
    (t_nL : PySem.W.findIn K (.ref C_Task) "lots" = some none)
    (t_ha : PySem.W.findIn K (.ref C_Task) "__class__" = some (some (.builtin "object.__class__")))
    (t_hn : PySem.W.specialIn K (.builtin "object.__class__") "__get__" = some (some (.builtin "getset_descriptor.__get__")))
    (t_ht : PySem.W.takesIn K (.builtin "object.__class__") = some true)
    (t_hm : PySem.W.mroIn K C_Task (.type "object") = some true)
    (t_ic : PySem.W.isClsIn K C_Task = true)
    (t_ty : PySem.W.typeIn K (.ref C_Task) = some (.type "type"))
    (t_tup : PySem.W.subIn K (.type "tuple") (.ref C_Task) = some false)
    (t_fe : PySem.W.isFn K (.ref f_Task___eq__) = true)
    (t_ne : PySem.W.findIn K (.ref C_Task) "__ne__" = some (some (.builtin "object.__ne__")))
    (t_mk : PySem.W.makesIn K C_Task = true)
    (t_fi : PySem.W.isFn K (.ref f_Task___init__) = true)
    (t_kp : PySem.W.keepIn K (.ref C_Task) = true)
    (b_xm : PySem.W.exmOne K (.ref C_BadTask) (.ref C_BadTask) = some true) :
    Txt K mg ⟨f_BadTask___init__, f_is_integer, f_is_number, f_is_ascending, f_Task___init__, f_Task___eq__, f_is_pair, f_is_task_row, f_law_pot, f_law_draw, f_law_any, f_law_is, f_law_row, f_law_lots, f_law_odd, f_law_no_row, f_law_no_lot, f_law_part, f_law, C_SilentError, C_NoRow, C_BadTask, C_Task⟩ :=
  { fn_BadTask___init__ := ⟨_, fun_mk (st := s_BadTask___init__) l_BadTask___init__ c_BadTask___init__ k_BadTask___init__⟩
    g_is_integer := PySem.W.mg_of X G a_is_integer
    fn_is_integer := ⟨_, fun_mk (st := s_is_integer) l_is_integer c_is_integer k_is_integer⟩
    g_is_number := PySem.W.mg_of X G a_is_number
    fn_is_number := ⟨_, fun_mk (st := s_is_number) l_is_number c_is_number k_is_number⟩
    g_is_ascending := PySem.W.mg_of X G a_is_ascending
    fn_is_ascending := ⟨_, fun_mk (st := s_is_ascending) l_is_ascending c_is_ascending k_is_ascending⟩
    fn_Task___init__ := ⟨_, fun_mk (st := s_Task___init__) l_Task___init__ c_Task___init__ k_Task___init__⟩
    fn_Task___eq__ := ⟨_, fun_mk (st := s_Task___eq__) l_Task___eq__ c_Task___eq__ k_Task___eq__⟩
    g_is_pair := PySem.W.mg_of X G a_is_pair
    fn_is_pair := ⟨_, fun_mk (st := s_is_pair) l_is_pair c_is_pair k_is_pair⟩
    g_is_task_row := PySem.W.mg_of X G a_is_task_row
    fn_is_task_row := ⟨_, fun_mk (st := s_is_task_row) l_is_task_row c_is_task_row k_is_task_row⟩
    g_law_pot := PySem.W.mg_of X G a_law_pot
    fn_law_pot := ⟨_, fun_mk (st := s_law_pot) l_law_pot c_law_pot k_law_pot⟩
    g_law_draw := PySem.W.mg_of X G a_law_draw
    fn_law_draw := ⟨_, fun_mk (st := s_law_draw) l_law_draw c_law_draw k_law_draw⟩
    g_law_any := PySem.W.mg_of X G a_law_any
    fn_law_any := ⟨_, fun_mk (st := s_law_any) l_law_any c_law_any k_law_any⟩
    g_law_is := PySem.W.mg_of X G a_law_is
    fn_law_is := ⟨_, fun_mk (st := s_law_is) l_law_is c_law_is k_law_is⟩
    g_law_row := PySem.W.mg_of X G a_law_row
    fn_law_row := ⟨_, fun_mk (st := s_law_row) l_law_row c_law_row k_law_row⟩
    g_law_lots := PySem.W.mg_of X G a_law_lots
    fn_law_lots := ⟨_, fun_mk (st := s_law_lots) l_law_lots c_law_lots k_law_lots⟩
    g_law_odd := PySem.W.mg_of X G a_law_odd
    fn_law_odd := ⟨_, fun_mk (st := s_law_odd) l_law_odd c_law_odd k_law_odd⟩
    g_law_no_row := PySem.W.mg_of X G a_law_no_row
    fn_law_no_row := ⟨_, fun_mk (st := s_law_no_row) l_law_no_row c_law_no_row k_law_no_row⟩
    g_law_no_lot := PySem.W.mg_of X G a_law_no_lot
    fn_law_no_lot := ⟨_, fun_mk (st := s_law_no_lot) l_law_no_lot c_law_no_lot k_law_no_lot⟩
    g_law_part := PySem.W.mg_of X G a_law_part
    fn_law_part := ⟨_, fun_mk (st := s_law_part) l_law_part c_law_part k_law_part⟩
    g_law := PySem.W.mg_of X G a_law
    fn_law := ⟨_, fun_mk (st := s_law) l_law c_law k_law⟩
    b_isinstance := PySem.W.mg_none_of X G z_isinstance
    b_bool := PySem.W.mg_none_of X G z_bool
    b_int := PySem.W.mg_none_of X G z_int
    b_all := PySem.W.mg_none_of X G z_all
    b_zip := PySem.W.mg_none_of X G z_zip
    b_len := PySem.W.mg_none_of X G z_len
    b_tuple := PySem.W.mg_none_of X G z_tuple
    b_enumerate := PySem.W.mg_none_of X G z_enumerate
    b_abs := PySem.W.mg_none_of X G z_abs
    b_list := PySem.W.mg_none_of X G z_list
    b_range := PySem.W.mg_none_of X G z_range
    b_sorted := PySem.W.mg_none_of X G z_sorted
    c_MOST_ROWS := ⟨_, PySem.W.mg_of X G v_MOST_ROWS⟩
    c_MOST_NUMBER := ⟨_, PySem.W.mg_of X G v_MOST_NUMBER⟩
    nr := ⟨⟨n_ga, n_gg, n_exC, n_hdC, n_ha, n_hn, n_ht, n_hm⟩, n_tup, n_lst, n_int, n_bool⟩
    o_BadTask := ⟨⟨_, _, _, _, _, _, _, _, _, _, _, _, _, _, _, b_lk, b_bm⟩, b_sa, b_exC, b_tyC, b_kC⟩
    i_BadTask := a_BadTask___init__
    t_BadTask := b_ti
    p_BadTask := b_p
    g_BadTask := PySem.W.mg_of X G gC_BadTask
    x_NoRow := n_x
    g_NoRow := PySem.W.mg_of X G gC_NoRow
    k_NoRow := n_k
    cl_Task := ⟨t_pg, t_hd, t_po, t_sa⟩
    nMany := t_nM
    nLots := t_nL
    g_Task := PySem.W.mg_of X G gC_Task
    in_Task := ⟨t_ha, t_hn, t_ht, t_hm, t_ic, t_ty, t_tup⟩
    own_Task := ⟨a_Task___eq__, t_fe, t_ne, t_hm, t_tup⟩
    mk_Task := ⟨t_mk, a_Task___init__, t_fi, t_kp⟩
    xm_BadTask := b_xm
    xf_BadTask := ⟨b_ga, b_gg, b_exC, b_hdC⟩ }
theorem lawAt {l : PySem.W.OpenLaw} {w : World} {K : PySem.W.Frag} {mg : Str → Option Value} {a : Ad} {h : Heap} {fa c PT : Addr} {oc kV doc pm ct : Value} {od an : Option Addr} {osl : Array (Option Value)} (X : K.In h) (hmg : mg "law" = some (.ref fa)) (T : Txt K mg a)
    (lk : K.lookup a.f_law = some ⟨oc, od, .func (PySem.W.fnOf "law" "law" (defArgs s_law) (defBody s_law) (defScope s_law) .none kV doc pm an (.ref c) ct), osl⟩) (hcd : PySem.W.codeIn K (.ref c) "law" = true)
    (ht : PySem.W.codeHdIn K c PT = true) (hP : h.get? PT = some (PySem.W.tabObj #[])) (nP : K.lookup PT = none) : LamX.LawAtS l w K CX0 9 63 "script" mg fa h := by
  have e := hmg.symm.trans T.g_law
  cases e
  refine ⟨_, [(c, PT)], spLaw K PT qLam, ?_, ?_, ?_, ?_, ?_, fun base _ _ TB => ok_law T (TB _ List.mem_cons_self) lk hcd⟩
  · intro p hp
    rw [List.mem_singleton.mp hp]
    exact hP
  · intro p hp
    rw [List.mem_singleton.mp hp]
    exact nP
  · intro p hp
    rw [List.mem_singleton.mp hp]
    exact PySem.W.codeHd_of_K X ht
  · intro s u
    exact .of_eq rfl
  · intro H b ns hn _ hT hS
    exact ⟨b, ns, rfl, hS, hn, LamX.TabS.nil (hT _ List.mem_cons_self), fun _ => rfl⟩
end K01
open PySem PySem.W PyProof.Rows
set_option maxRecDepth 100000 in
set_option maxHeartbeats 0 in
theorem PySem.Challenge.cw_onesilent_k01_tasks_built_and_refused_holds : PySem.Challenge.rw_onesilent_k01_tasks_built_and_refused.Holds := by
  w_on; o_law; k_head; (case hw => w_witness2)
  k_fill
  refine LamX.walk_ofTs (l := PySem.Challenge.rw_onesilent_k01_tasks_built_and_refused) (n := 63) (k := 9) (x := "script") (CX := fun _ => L2.CX0) rfl (by decide) rfl ⟨rfl, by decide, by decide⟩ (fun w h Y => PySem.W.km_in_of Y) ?F fun _ _ _ _ _ z => z
  case F =>
    intro w mg fa h Y KX G hmg
    have hT := PySem.W.km_tabs_of Y
    refine' K01.lawAt (PT := 181) KX hmg (K01.mkT KX G ?gC_SilentError ?gC_NoRow ?gC_BadTask ?gC_Task ?a_BadTask___init__ ?l_BadTask___init__ ?c_BadTask___init__ ?k_BadTask___init__ ?a_is_integer ?l_is_integer ?c_is_integer ?k_is_integer ?a_is_number ?l_is_number ?c_is_number ?k_is_number ?a_is_ascending ?l_is_ascending ?c_is_ascending ?k_is_ascending ?a_Task___init__ ?l_Task___init__ ?c_Task___init__ ?k_Task___init__ ?a_Task___eq__ ?l_Task___eq__ ?c_Task___eq__ ?k_Task___eq__ ?a_is_pair ?l_is_pair ?c_is_pair ?k_is_pair ?a_is_task_row ?l_is_task_row ?c_is_task_row ?k_is_task_row ?a_law_pot ?l_law_pot ?c_law_pot ?k_law_pot ?a_law_draw ?l_law_draw ?c_law_draw ?k_law_draw ?a_law_any ?l_law_any ?c_law_any ?k_law_any ?a_law_is ?l_law_is ?c_law_is ?k_law_is ?a_law_row ?l_law_row ?c_law_row ?k_law_row ?a_law_lots ?l_law_lots ?c_law_lots ?k_law_lots ?a_law_odd ?l_law_odd ?c_law_odd ?k_law_odd ?a_law_no_row ?l_law_no_row ?c_law_no_row ?k_law_no_row ?a_law_no_lot ?l_law_no_lot ?c_law_no_lot ?k_law_no_lot ?a_law_part ?l_law_part ?c_law_part ?k_law_part ?a_law ?l_law ?c_law ?k_law ?z_isinstance ?z_bool ?z_int ?z_all ?z_zip ?z_len ?z_tuple ?z_enumerate ?z_abs ?z_list ?z_range ?z_sorted ?v_MOST_ROWS ?v_MOST_NUMBER ?n_ga ?n_gg ?n_exC ?n_hdC ?n_ha ?n_hn ?n_ht ?n_hm ?n_tup ?n_lst ?n_int ?n_bool ?b_ga ?b_gg ?b_exC ?b_hdC ?b_lk ?b_bm ?b_sa ?b_tyC ?b_kC ?b_ti ?b_p ?n_x ?n_k ?t_pg ?t_hd ?t_po ?t_sa ?t_nM ?t_nL ?t_ha ?t_hn ?t_ht ?t_hm ?t_ic ?t_ty ?t_tup ?t_fe ?t_ne ?t_mk ?t_fi ?t_kp ?b_xm) ?lk ?hcd ?ht ?hP ?nP
    (case gC_SilentError => k_is)
    (case gC_NoRow => k_is)
    (case gC_BadTask => k_is)
    (case gC_Task => k_is)
    (case a_BadTask___init__ => k_is)
    (case l_BadTask___init__ => k_is)
    (case c_BadTask___init__ => k_is)
    (case k_BadTask___init__ => k_is)
    (case a_is_integer => k_is)
    (case l_is_integer => k_is)
    (case c_is_integer => k_is)
    (case k_is_integer => k_is)
    (case a_is_number => k_is)
    (case l_is_number => k_is)
    (case c_is_number => k_is)
    (case k_is_number => k_is)
    (case a_is_ascending => k_is)
    (case l_is_ascending => k_is)
    (case c_is_ascending => k_is)
    (case k_is_ascending => k_is)
    (case a_Task___init__ => k_is)
    (case l_Task___init__ => k_is)
    (case c_Task___init__ => k_is)
    (case k_Task___init__ => k_is)
    (case a_Task___eq__ => k_is)
    (case l_Task___eq__ => k_is)
    (case c_Task___eq__ => k_is)
    (case k_Task___eq__ => k_is)
    (case a_is_pair => k_is)
    (case l_is_pair => k_is)
    (case c_is_pair => k_is)
    (case k_is_pair => k_is)
    (case a_is_task_row => k_is)
    (case l_is_task_row => k_is)
    (case c_is_task_row => k_is)
    (case k_is_task_row => k_is)
    (case a_law_pot => k_is)
    (case l_law_pot => k_is)
    (case c_law_pot => k_is)
    (case k_law_pot => k_is)
    (case a_law_draw => k_is)
    (case l_law_draw => k_is)
    (case c_law_draw => k_is)
    (case k_law_draw => k_is)
    (case a_law_any => k_is)
    (case l_law_any => k_is)
    (case c_law_any => k_is)
    (case k_law_any => k_is)
    (case a_law_is => k_is)
    (case l_law_is => k_is)
    (case c_law_is => k_is)
    (case k_law_is => k_is)
    (case a_law_row => k_is)
    (case l_law_row => k_is)
    (case c_law_row => k_is)
    (case k_law_row => k_is)
    (case a_law_lots => k_is)
    (case l_law_lots => k_is)
    (case c_law_lots => k_is)
    (case k_law_lots => k_is)
    (case a_law_odd => k_is)
    (case l_law_odd => k_is)
    (case c_law_odd => k_is)
    (case k_law_odd => k_is)
    (case a_law_no_row => k_is)
    (case l_law_no_row => k_is)
    (case c_law_no_row => k_is)
    (case k_law_no_row => k_is)
    (case a_law_no_lot => k_is)
    (case l_law_no_lot => k_is)
    (case c_law_no_lot => k_is)
    (case k_law_no_lot => k_is)
    (case a_law_part => k_is)
    (case l_law_part => k_is)
    (case c_law_part => k_is)
    (case k_law_part => k_is)
    (case a_law => k_is)
    (case l_law => k_is)
    (case c_law => k_is)
    (case k_law => k_is)
    (case z_isinstance => k_is)
    (case z_bool => k_is)
    (case z_int => k_is)
    (case z_all => k_is)
    (case z_zip => k_is)
    (case z_len => k_is)
    (case z_tuple => k_is)
    (case z_enumerate => k_is)
    (case z_abs => k_is)
    (case z_list => k_is)
    (case z_range => k_is)
    (case z_sorted => k_is)
    (case v_MOST_ROWS => k_is)
    (case v_MOST_NUMBER => k_is)
    (case n_ga => k_is)
    (case n_gg => k_is)
    (case n_exC => k_is)
    (case n_hdC => k_is)
    (case n_ha => k_is)
    (case n_hn => k_is)
    (case n_ht => k_is)
    (case n_hm => k_is)
    (case n_tup => kernel_rfl)
    (case n_lst => kernel_rfl)
    (case n_int => kernel_rfl)
    (case n_bool => kernel_rfl)
    (case b_ga => k_is)
    (case b_gg => k_is)
    (case b_exC => k_is)
    (case b_hdC => k_is)
    (case b_lk => k_is)
    (case b_bm => decide +kernel)
    (case b_sa => k_is)
    (case b_tyC => k_is)
    (case b_kC => k_is)
    (case b_ti => k_is)
    (case b_p => k_is)
    (case n_x => k_exc)
    (case n_k => k_is)
    (case t_pg => k_is)
    (case t_hd => k_is)
    (case t_po => k_is)
    (case t_sa => k_is)
    (case t_nM => k_is)
    (case t_nL => k_is)
    (case t_ha => k_is)
    (case t_hn => k_is)
    (case t_ht => k_is)
    (case t_hm => k_is)
    (case t_ic => k_is)
    (case t_ty => k_is)
    (case t_tup => k_is)
    (case t_fe => k_is)
    (case t_ne => k_is)
    (case t_mk => k_is)
    (case t_fi => k_is)
    (case t_kp => k_is)
    (case b_xm => kernel_rfl)
    (case lk => k_is); (case hcd => k_is); (case ht => kernel_rfl); (case hP => exact hT _ List.mem_cons_self); (case nP => kernel_rfl)

