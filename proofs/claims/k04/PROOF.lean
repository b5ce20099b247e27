import PyProof.Rows.All
import Wide.All
import OpenK.AllK
import Wide.FinOn
import HandS.ForMost
import HandS.Property
import HandS.Wide
import HandS.WideBits
import HandS.DictComp
import HandS.More
import PyProof.StrBlock2
import HandS.IsInst
import HandS.Style
import HandS.Deep
import HandS.RaiseMore
import HandS.Defaults
import HandS.Zip
import HandS.Flow
import HandS.OwnEq
import HandS.MakeKwOnly
import HandS.ForSpec
import HandS.ExcIs
import KE.KExcIs
import KE.GoesMore
import KE.GoesNew
import PySem.Challenge.RW_figurebooks_k04_equal_books
set_option Elab.async false
set_option linter.all false
set_option maxRecDepth 100000
set_option maxHeartbeats 4000000
namespace Fb
open PySem PySem.Spec PyProof.Rows L2
/-! Figurebooks: what every law's proof shares: readings in steps, pools, reprs. -/

/-! ### readings in steps -/
section
variable {σ : L2.St} {H : Hp} {Q : VK} {D : Ends} {ta tb te : TE} {r : R2} {t : TT} {QB : Bool → Hp → Prop} {tA : TA} {QA : List V → Hp → Prop}
theorem r_var {i : Nat} {v : V} (h : σ[i]? = some (some v)) (q : Q v H) : tVar i σ H Q := ⟨v, h, q⟩
theorem r_var0 {i : Nat} (q : ∃ v, σ[i]? = some (some v) ∧ Q v H) : tVar i σ H Q := q
theorem r_c {v : V} (q : Q v H) : tC v σ H Q := q
theorem r_op (q : ta σ H fun x H1 => tb σ H1 fun y H2 => r x y H2 Q) : tOp r ta tb σ H Q := q
theorem r_un {r : V → Hp → VK → Prop} (q : ta σ H fun x H1 => r x H1 Q) : tUn r ta σ H Q := q
theorem r_U {g : Int → V} {i : Int} (q : Q (g i) H) : rU g (.int i) H Q := ⟨i, rfl, q⟩
theorem r_I0 {g : Int → Int → V} {i j : Int} (q : Q (g i j) H) : rI0 g (.int i) (.int j) H Q := ⟨i, j, rfl, rfl, q⟩
theorem r_I {C : Int → Int → Prop} {g : Int → Int → V} {i j : Int} (hc : C i j) (q : Q (g i j) H) : rI C g (.int i) (.int j) H Q := ⟨i, j, rfl, rfl, hc, q⟩
theorem r_eq {x y : V} (h : scal x y = true) (q : Q (.bl (decide (x = y))) H) : rEq x y H Q := ⟨h, q⟩
theorem r_ne {x y : V} (h : scal x y = true) (q : Q (.bl (!decide (x = y))) H) : rNe x y H Q := ⟨h, q⟩
theorem r_test (q : te σ H fun x H' => ∃ k, x = .bl k ∧ QB k H') : tTest te σ H QB := q
theorem r_B (q : te σ H fun x H' => ∃ k, x = .bl k ∧ QB k H') : tB te σ H QB := q
theorem r_bl {b : Bool} {P : Bool → Prop} (q : P b) : ∃ c, V.bl b = V.bl c ∧ P c := ⟨b, rfl, q⟩
theorem r_seq {t u : TS} (q : t { D with nx := u D } σ H) : tSeq t u D σ H := q
theorem r_next (q : D.nx σ H) : tNext D σ H := q
theorem r_asg {g : TG} (q : te σ H fun x H1 => g x σ H1 D.nx) : tAsg te g D σ H := q
theorem r_gname {i : Nat} {v : V} {P : L2.St → Hp → Prop} (q : P (σ.set i (some v)) H) : gName i v σ H P := q
theorem r_ret (q : te σ H D.rt) : tRet te D σ H := q
theorem r_drop (q : te σ H fun _ H1 => D.nx σ H1) : tDrop te D σ H := q
theorem r_ifS {t u : TS} {c : TT} (q : c σ H fun b H1 => if b = true then t D σ H1 else u D σ H1) : tIfS c t u D σ H := q
theorem r_if {c : TT} (q : c σ H fun b H1 => if b = true then ta σ H1 Q else tb σ H1 Q) : tIf c ta tb σ H Q := q
theorem r_and {t u : TT} (q : t σ H fun c H1 => if c = true then u σ H1 QB else QB false H1) : tAnd t u σ H QB := q
theorem r_or {t u : TT} (q : t σ H fun c H1 => if c = true then QB true H1 else u σ H1 QB) : tOr t u σ H QB := q
theorem r_not (q : t σ H fun c H1 => QB (!c) H1) : tNot t σ H QB := q
theorem r_yes (q : QB true H) : tYes σ H QB := q
theorem r_andV (q : ta σ H fun x H1 => ∃ c, x = .bl c ∧ if c = true then tb σ H1 Q else Q (.bl false) H1) : tAndV ta tb σ H Q := q
theorem r_orV (q : ta σ H fun x H1 => ∃ c, x = .bl c ∧ if c = true then Q (.bl true) H1 else tb σ H1 Q) : tOrV ta tb σ H Q := q
theorem r_notV (q : ta σ H fun x H1 => ∃ c, x = .bl c ∧ Q (.bl (!c)) H1) : tNotV ta σ H Q := q
theorem r_nil (q : QA [] H) : tNil σ H QA := q
theorem r_cons (q : ta σ H fun x H1 => tA σ H1 fun xs H2 => QA (x :: xs) H2) : tCons ta tA σ H QA := q
theorem r_call {sp : Sp} {dvs : List V} {E : XK} (q : tA σ H fun vs H1 => sp (vs ++ dvs) H1 Q E) : tCall sp dvs E tA σ H Q := q
theorem r_make {C : Addr} {sp : Sp} {dvs : List V} {E : XK} (q : tA σ H fun vs H1 => ∀ x dx, H1 x = none → H1 dx = none → dx ≠ x → sp (.ref x :: (vs ++ dvs)) (upd (upd H1 dx (.own x)) x (.ins C dx [])) (fun v H2 => v = .non ∧ Q (.ref x) H2) E) : tMake C sp dvs E tA σ H Q := q
theorem r_for1 {ta : TA} {g : TG} {tb : TS} (q : ta σ H fun vs H1 => ∃ j : Int, vs = [.int j] ∧ -(2 ^ 62) ≤ j ∧ j < 2 ^ 62 ∧ ∃ W : Nat → Nat → L2.St → Hp → Prop, (∃ m, W 0 m σ H1) ∧ ∀ i m σ H, W i m σ H →
    ((Itr 0 j.toNat).stop i H ∧ D.nx σ H) ∨ ((Itr 0 j.toNat).go i H ∧ ∃ N : L2.St → Hp → Prop, (∀ σ' H', N σ' H' → ∃ m', m' < m ∧ W (i + 1) m' σ' H') ∧ ∀ x H', (Itr 0 j.toNat).yld i H x H' → g x σ H' fun σ2 H2 => tb { D with nx := N, ct := N, bk := D.nx } σ2 H2)) : tFor (iRng1 ta) g tb D σ H := q
theorem r_CB {r : List V → Hp → VK → Prop} (q : tA σ H fun vs H1 => r vs H1 Q) : tCB r tA σ H Q := q
theorem r_tup (q : tA σ H fun xs H1 => xs.length ≤ sizeLine ∧ ∀ p, H1 p = none → Q (.ref p) (upd H1 p (.tup xs))) : tTup tA σ H Q := q
theorem r_lst (q : tA σ H fun xs H1 => xs.length ≤ sizeLine ∧ ∀ p, H1 p = none → Q (.ref p) (upd H1 p (.lst xs))) : tLst tA σ H Q := q
theorem r_mk {α : Type} {xs : List α} {P : Prop} (h : Nat.ble xs.length 1000 = true) (q : P) : xs.length ≤ sizeLine ∧ P :=
  ⟨Nat.le_trans (Nat.le_of_ble_eq_true h) (by decide), q⟩
theorem r_fld {K : PySem.W.Frag} {f : Str} (q : ta σ H fun x H1 => ∃ a C dx fs v, x = .ref a ∧ H1 a = some (.ins C dx fs) ∧ Cls K C ∧ NoAttr K C f ∧ fs.lookup f = some v ∧ Q v H1) : tFld K ta f σ H Q := q
theorem r_meth {C : Addr} {m : Str} {sp : Sp} {dvs : List V} {E : XK} (q : ta σ H fun x H1 => ∃ a dx fs, x = .ref a ∧ H1 a = some (.ins C dx fs) ∧ fs.lookup m = none ∧ tA σ H1 fun vs H2 => sp (x :: (vs ++ dvs)) H2 Q E) : tMeth C m sp dvs E ta tA σ H Q := q
theorem r_bm {K : PySem.W.Frag} {T : String} {r : V → List V → Hp → VK → Prop} (q : te σ H fun x H1 => tyV K T x H1 ∧ tA σ H1 fun xs H2 => r x xs H2 Q) : tBM K T r te tA σ H Q := q
theorem r_bm0 {K : PySem.W.Frag} {T : String} {r : V → List V → Hp → VK → Prop} (q : te σ H fun x H1 => tyV K T x H1 ∧ r x [] H1 Q) : tBM0 K T r te σ H Q := q
theorem r_prop {C : Addr} {sp : Sp} {dvs : List V} {E : XK} (q : ta σ H fun x H1 => ∃ a dx fs, x = .ref a ∧ H1 a = some (.ins C dx fs) ∧ sp (.ref a :: dvs) H1 Q E) : tProp C sp dvs E ta σ H Q := q
theorem r_gsub {to ti : TE} {t : TSet} {v : V} {P : L2.St → Hp → Prop} (q : to σ H fun o H1 => ti σ H1 fun i H2 => t o i v H2 fun H3 => P σ H3) : gSub to ti t v σ H P := q
theorem r_sl {r : V → Option Int → Option Int → Hp → VK → Prop} {tl th : TO} (q : te σ H fun x H1 => tl σ H1 fun l H2 => th σ H2 fun u H3 => r x l u H3 Q) : tSl r te tl th σ H Q := q
theorem r_nopart {P : Option Int → Hp → Prop} (q : P none H) : tNoPart σ H P := q
theorem r_part {P : Option Int → Hp → Prop} (q : te σ H fun x H1 => ∃ i, x = .int i ∧ P (some i) H1) : tPart te σ H P := q
theorem r_in {i : Int} {P : Int → Prop} (q : P i) : ∃ c, V.int i = V.int c ∧ P c := ⟨i, rfl, q⟩
theorem r_par {i j : Nat} (q : tA σ H fun vs H1 => ∃ v w, vs = [v, w] ∧ D.nx ((σ.set i (some v)).set j (some w)) H1) : tPar i j tA D σ H := q
theorem r_two {v w : V} {P : V → V → Prop} (q : P v w) : ∃ x y, [v, w] = [x, y] ∧ P x y := ⟨v, w, rfl, q⟩
theorem r_gtup {K : PySem.W.Frag} {n : Nat} {t : TGs} {a : Addr} {xs : List V} {P : L2.St → Hp → Prop} (h : SqT K H a xs) (hl : xs.length = n) (q : t xs σ H P) : gTup K n t (.ref a) σ H P := ⟨a, xs, rfl, h, hl, q⟩
theorem r_gcons {t : TG} {u : TGs} {v : V} {vs : List V} {P : L2.St → Hp → Prop} (q : t v σ H fun σ' H' => u vs σ' H' P) : gCons t u (v :: vs) σ H P := ⟨v, vs, rfl, q⟩
theorem r_gnil {P : L2.St → Hp → Prop} (q : P σ H) : gNil [] σ H P := ⟨rfl, q⟩
end
section
variable {H : Hp} {Q : VK} {K : PySem.W.Frag} {a p q : Addr} {o : HO} {xs : List V}
theorem r_i1 {i : Int} {P : Int → Prop} (q : P i) : ∃ j, [V.int i] = [V.int j] ∧ P j := ⟨i, rfl, q⟩
theorem r_i1o {i : Int} {P : Int → Prop} {R : Prop} (q : P i) : (∃ j, [V.int i] = [V.int j] ∧ P j) ∨ R := .inl ⟨i, rfl, q⟩
theorem r_b1o {k : Bool} {P : Bool → Prop} {R : Prop} (q : P k) : R ∨ ∃ j, [V.bl k] = [V.bl j] ∧ P j := .inr ⟨k, rfl, q⟩
theorem r_i2 {i j : Int} {P : Int → Int → Prop} (q : P i j) : ∃ c d, [V.int i, V.int j] = [V.int c, V.int d] ∧ P c d := ⟨i, j, rfl, q⟩
theorem r_len {P : List V → Prop} (h : SqL K H a xs) (q : P xs) : ∃ p ys, [V.ref a] = [V.ref p] ∧ (SqL K H p ys ∨ SqT K H p ys) ∧ P ys := ⟨a, xs, rfl, .inl h, q⟩
theorem r_len0 {P : List V → Prop} (q : ∃ xs, SqL K H a xs ∧ P xs) : ∃ p ys, [V.ref a] = [V.ref p] ∧ (SqL K H p ys ∨ SqT K H p ys) ∧ P ys := let ⟨xs, h, q⟩ := q; ⟨a, xs, rfl, .inl h, q⟩
theorem r_ixL0 {i : Int} (q : ∃ xs v, SqL K H a xs ∧ atI xs i = some v ∧ Q v H) : rIxL K (.ref a) (.int i) H Q := let ⟨xs, v, h, hv, q⟩ := q; ⟨a, xs, i, v, rfl, rfl, h, hv, q⟩
theorem r_ixT0 {i : Int} (q : ∃ xs v, SqT K H a xs ∧ atI xs i = some v ∧ Q v H) : rIxT K (.ref a) (.int i) H Q := let ⟨xs, v, h, hv, q⟩ := q; ⟨a, xs, i, v, rfl, rfl, h, hv, q⟩
theorem r_gtup0 {σ : L2.St} {n : Nat} {t : TGs} {P : L2.St → Hp → Prop} (q : ∃ xs, SqT K H a xs ∧ xs.length = n ∧ t xs σ H P) : gTup K n t (.ref a) σ H P := let ⟨xs, h, hl, q⟩ := q; ⟨a, xs, rfl, h, hl, q⟩
theorem r_app0 {y : V} (q : ∃ xs, H a = some (.lst xs) ∧ xs.length < sizeLine ∧ Q .non (upd H a (.lst (xs ++ [y])))) : rAppend (.ref a) [y] H Q := let ⟨xs, h, hl, q⟩ := q; ⟨a, xs, y, rfl, rfl, h, hl, q⟩
theorem r_tyL0 {P : Prop} (q : (∃ xs, H a = some (.lst xs)) ∧ P) : tyV K "list" (.ref a) H ∧ P := let ⟨⟨xs, h⟩, q⟩ := q; ⟨.inl ⟨rfl, _, .inl (.inl h)⟩, q⟩
theorem r_ixL {i : Int} {v : V} (h : SqL K H a xs) (hv : atI xs i = some v) (q : Q v H) : rIxL K (.ref a) (.int i) H Q := ⟨a, xs, i, v, rfl, rfl, h, hv, q⟩
theorem r_ixT {i : Int} {v : V} (h : SqT K H a xs) (hv : atI xs i = some v) (q : Q v H) : rIxT K (.ref a) (.int i) H Q := ⟨a, xs, i, v, rfl, rfl, h, hv, q⟩
theorem r_tyL {P : Prop} (h : H a = some (.lst xs)) (q : P) : tyV K "list" (.ref a) H ∧ P := ⟨.inl ⟨rfl, _, .inl (.inl h)⟩, q⟩
theorem r_setL {i : Int} {v : V} {j : Nat} {P : Hp → Prop} (h : H a = some (.lst xs)) (hj : ixN xs.length i = some j) (q : P (upd H a (.lst (xs.set j v)))) : rSetL (.ref a) (.int i) v H P := ⟨a, xs, i, j, rfl, rfl, h, hj, q⟩
theorem r_app {y : V} (h : H a = some (.lst xs)) (hl : xs.length < sizeLine) (q : Q .non (upd H a (.lst (xs ++ [y])))) : rAppend (.ref a) [y] H Q := ⟨a, xs, y, rfl, rfl, h, hl, q⟩
theorem upd_old {x : HO} (np : H p = none) (h : H a = some x) : upd H p o a = some x := (upd_ne (ne_of_none h np)).trans h
theorem upd_oth {x : HO} (n : a ≠ p) (h : H a = some x) : upd H p o a = some x := (upd_ne n).trans h
theorem same_new (np : H p = none) : Same H (upd H p o) := fun b u e => upd_old np e
theorem rd_oth {u : HO} (n : a ≠ p) (h : Rd H a u) : Rd (upd H p o) a u := h.elim (fun z => .inl (upd_oth n z)) fun ⟨w, z⟩ => .inr ⟨w, upd_oth n z⟩
theorem sq_new (np : H p = none) (h : SqL K H a xs) : SqL K (upd H p o) a xs := (same_new np).seq h
theorem sq_oth (n : a ≠ p) (h : SqL K H a xs) : SqL K (upd H p o) a xs := h.elim (fun z => .inl (rd_oth n z)) .inr
theorem sq_of (h : H a = some (.lst xs)) : SqL K H a xs := .inl (.inl h)
theorem st_new (np : H p = none) (h : SqT K H a xs) : SqT K (upd H p o) a xs := h.elim (fun z => .inl (z.elim (fun z => .inl (upd_old np z)) fun ⟨w, z⟩ => .inr ⟨w, upd_old np z⟩)) .inr
theorem st_oth (n : a ≠ p) (h : SqT K H a xs) : SqT K (upd H p o) a xs := h.elim (fun z => .inl (rd_oth n z)) .inr
theorem st_of (h : H a = some (.tup xs)) : SqT K H a xs := .inl (.inl h)
theorem nat_at {α : Type} {xs : List α} {i : Int} {v : α} (h0 : 0 ≤ i) (h : xs[i.toNat]? = some v) : atI xs i = some v := by
  have e : i = ((i.toNat : Nat) : Int) := by omega
  rw [e]
  exact atI_nat h
end
/-! ### readings by name -/
abbrev rAddI : R2 := rI0 fun i j => .int (i + j)
abbrev rSubI : R2 := rI0 fun i j => .int (i - j)
abbrev rMulX : R2 := rI CMulX fun i j => .int (i * j)
abbrev rModI : R2 := rI (fun _ j => 0 < j) fun i j => .int (i % j)
abbrev rDivW : R2 := rI CDivW fun i j => .int (i / j)
abbrev rNegI : V → Hp → VK → Prop := rU fun i => .int (-i)
abbrev rLtI : R2 := rI0 fun i j => .bl (decide (i < j))
abbrev rGtI : R2 := rI0 fun i j => .bl (decide (j < i))
abbrev rLeI : R2 := rI0 fun i j => .bl (decide (i ≤ j))
abbrev rGeI : R2 := rI0 fun i j => .bl (decide (j ≤ i))
abbrev rListOf (K : PySem.W.Frag) : List V → Hp → VK → Prop := fun xs H Q => ∃ p ys, xs = [.ref p] ∧ (SqL K H p ys ∨ SqT K H p ys) ∧ ∀ l, H l = none → Q (.ref l) (upd H l (.lst ys))
abbrev rLen (K : PySem.W.Frag) : List V → Hp → VK → Prop := fun xs H Q => ∃ p ys, xs = [.ref p] ∧ (SqL K H p ys ∨ SqT K H p ys) ∧ Q (.int ys.length) H
abbrev rInt1 : List V → Hp → VK → Prop := fun xs H Q => (∃ i, xs = [.int i] ∧ Q (.int i) H) ∨ ∃ k, xs = [.bl k] ∧ Q (.int (if k then 1 else 0)) H
abbrev rAbs : List V → Hp → VK → Prop := fun xs H Q => ∃ i, xs = [.int i] ∧ Q (.int (if i < 0 then -i else i)) H
/-! ### powers of great ints; pools -/
def CPowW (i j : Int) : Prop := 0 ≤ j ∧ (Builtin.Int.intBits i : Int) * j ≤ 2 ^ 27
section
variable {X : Cx}
theorem op_powW : OpR X (binaryOp .Pow) (rI CPowW fun i j => .int (i ^ j.toNat)) := opI fun _ _ _ _ _ _ _ hc q => pow_int hc.1 hc.2 q
end
theorem bits_le {i : Int} {n : Nat} (h : i.natAbs < 2 ^ n) : Builtin.Int.intBits i ≤ n := by
  unfold Builtin.Int.intBits
  split
  · exact Nat.zero_le _
  · rename_i h0
    have h1 : i.natAbs ≠ 0 := fun z => h0 (by simpa using z)
    exact (Nat.log2_lt h1).mpr h
theorem cpow3 {i : Int} {n : Nat} (h : i.natAbs < 2 ^ n) (hn : n ≤ 1000000) : CPowW i 3 := by
  have h1 := bits_le h
  refine ⟨by decide, ?_⟩
  have : (Builtin.Int.intBits i : Int) ≤ 1000000 := by omega
  omega
/-- a pool: the drawn number, the seed, the count, with f draws left -/
def PoolO (f : Nat) (o : HO) : Prop := ∃ a b c : Int, o = .lst [.int a, .int b, .int c] ∧ 0 ≤ a ∧ 0 ≤ b ∧ b < 2 ^ 62 ∧ 0 ≤ c ∧ c + f ≤ 1000000
def PoolAt (H : Hp) (p : Addr) (f : Nat) : Prop := ∃ o, H p = some o ∧ PoolO f o
/-- all but p is as it was -/
def Keep (p : Addr) (H H' : Hp) : Prop := ∀ b o, H b = some o → b ≠ p → H' b = some o
theorem Keep.refl {p : Addr} {H : Hp} : Keep p H H := fun _ _ e _ => e
theorem Keep.trans {p : Addr} {H H1 H2 : Hp} (a : Keep p H H1) (b : Keep p H1 H2) : Keep p H H2 := fun c o e n => b c o (a c o e n) n
theorem Keep.upd {p : Addr} {H : Hp} {o : HO} : Keep p H (upd H p o) := fun b u e n => by rw [upd_ne n]; exact e
theorem Keep.new {p q : Addr} {H : Hp} {o : HO} (h : H q = none) : Keep p H (L2.upd H q o) := fun b u e _ => by
  rw [upd_ne (ne_of_none e h)]
  exact e
theorem Keep.free {p q : Addr} {H H' : Hp} (k : Keep p H H') (h : H' q = none) (hp : H p ≠ none) (hp' : H' p ≠ none) : H q = none := by
  cases e : H q with
  | none => rfl
  | some o =>
    by_cases n : q = p
    · rw [n] at h; exact absurd h hp'
    · rw [k q o e n] at h; cases h
theorem Keep.of_same {p : Addr} {H H' : Hp} (s : Same H H') : Keep p H H' := fun b o e _ => s b o e
theorem PoolAt.ne {H : Hp} {p : Addr} {f : Nat} (h : PoolAt H p f) : H p ≠ none := by
  obtain ⟨o, e, _⟩ := h
  rw [e]
  exact fun z => by cases z
theorem PoolO.less {f g : Nat} {o : HO} (h : PoolO f o) (l : g ≤ f) : PoolO g o := by
  obtain ⟨a, b, c, e, h1, h2, h3, h4, h5⟩ := h
  exact ⟨a, b, c, e, h1, h2, h3, h4, by omega⟩
theorem PoolAt.less {H : Hp} {p : Addr} {f g : Nat} (h : PoolAt H p f) (l : g ≤ f) : PoolAt H p g := by
  obtain ⟨o, e, x⟩ := h
  exact ⟨o, e, x.less l⟩
def spPool (K : PySem.W.Frag) : Sp := fun vs H Q _ => ∃ (a : Addr) (ns : List Int) (k : Nat), vs = [.ref a, .int (k : Int)] ∧ SqL K H a (ns.map V.int) ∧ k ≤ 5 ∧
  ∀ o p, PoolO 1000000 o → H p = none → Q (.ref p) (upd H p o)
/-- a draw: some number below many; the pool has one draw less -/
def spDraw : Sp := fun vs H Q _ => ∃ (p : Addr) (m : Int) (f : Nat), vs = [.ref p, .int m] ∧ PoolAt H p (f + 1) ∧ 0 < m ∧ m < 2 ^ 200 ∧
  ∀ (d : Int) (o : HO), 0 ≤ d → d < m → PoolO f o → Q (.int d) (upd H p o)
theorem c_draw {H : Hp} {Q : VK} {E : XK} {p : Addr} {m : Int} (f : Nat) (h : PoolAt H p (f + 1)) (h1 : 0 < m) (h2 : m < 2 ^ 200)
    (q : ∀ (d : Int) (o : HO), 0 ≤ d → d < m → PoolO f o → Q (.int d) (upd H p o)) : spDraw [.ref p, .int m] H Q E := ⟨p, m, f, rfl, h, h1, h2, q⟩

/-! Figurebooks: data in heaps, comprehensions that only make. -/

/-! ### heaps -/
theorem Same.mut {H H' : Hp} {p : Addr} {o : HO} (e : Same H H') (h : H p = none) : Same H (upd H' p o) := fun a u ha => by
  rw [upd_ne (ne_of_none ha h)]
  exact e a u ha
theorem Same.new {H H' : Hp} {p : Addr} {o : HO} (e : Same H H') (h : H' p = none) : Same H (upd H' p o) := fun a u ha => upd_old h (e a u ha)
/-- H without p -/
def hid (p : Addr) (H : Hp) : Hp := fun a => if a = p then none else H a
theorem hid_le {p : Addr} {H : Hp} : Same (hid p H) H := fun a u e => by
  unfold hid at e
  split at e
  · cases e
  · exact e
theorem hid_at {p a : Addr} {H : Hp} {o : HO} (h : H a = some o) (n : a ≠ p) : hid p H a = some o := by
  unfold hid
  rw [if_neg n]
  exact h
theorem hid_of {p a : Addr} {H : Hp} {o : HO} (h : hid p H a = some o) : H a = some o ∧ a ≠ p := by
  unfold hid at h
  split at h
  · cases h
  · exact ⟨h, ‹_›⟩
theorem Keep.hid {p : Addr} {H H' : Hp} (k : Keep p H H') : Same (hid p H) (Fb.hid p H') := fun a u e => by
  obtain ⟨h, n⟩ := hid_of e
  exact hid_at (k a u h n) n
theorem hid_same {p : Addr} {H H' : Hp} (k : Same H H') : Same (hid p H) (hid p H') := (Keep.of_same k).hid
def fixedO : HO → Bool
  | .tup _ => true
  | .frz _ _ => true
  | _ => false
/-- what of H' is new beside H, and what of H never changes -/
def nw (H H' : Hp) : Hp := fun a => match H a with
  | none => H' a
  | some o => if fixedO o = true then H' a else none
theorem nw_new {H H' : Hp} {a : Addr} (h : H a = none) : nw H H' a = H' a := by unfold nw; rw [h]
theorem nw_fix {H H' : Hp} {a : Addr} {o : HO} (h : H a = some o) (f : fixedO o = true) : nw H H' a = H' a := by unfold nw; rw [h]; exact if_pos f
theorem nw_le {H H' : Hp} : Same (nw H H') H' := fun a u e => by
  unfold nw at e
  split at e
  · exact e
  · split at e
    · exact e
    · cases e
theorem nw_mono {H H1 H2 : Hp} (s : Same H1 H2) : Same (nw H H1) (nw H H2) := fun a u e => by
  unfold nw at e ⊢
  split at e
  · exact s a u e
  · split at e
    · rw [if_pos ‹_›]
      exact s a u e
    · cases e
theorem nw_back {H0 H H' : Hp} (s : Same H0 H) : Same (nw H H') (nw H0 H') := fun a u e => by
  cases h0 : H0 a with
  | none =>
    rw [nw_new h0]
    exact nw_le a u e
  | some o =>
    have h := s a o h0
    by_cases f : fixedO o = true
    · rw [nw_fix h0 f]
      exact nw_le a u e
    · unfold nw at e
      rw [h] at e
      exact absurd ((if_neg f).symm.trans e) (fun z => by cases z)
theorem sqt_nw {K : PySem.W.Frag} {H H' : Hp} {a : Addr} {xs : List V} (s : Same H H') (h : SqT K H a xs) : SqT K (nw H H') a xs := by
  rcases h with (h | ⟨o, h⟩) | h
  · exact .inl (.inl ((nw_fix h rfl).trans (s _ _ h)))
  · exact .inl (.inr ⟨o, (nw_fix h rfl).trans (s _ _ h)⟩)
  · exact .inr h
theorem sqt_same {K : PySem.W.Frag} {H H' : Hp} {a : Addr} {xs : List V} (e : Same H H') (h : SqT K H a xs) : SqT K H' a xs := by
  rcases h with (h | ⟨o, h⟩) | h
  · exact .inl (.inl (e _ _ h))
  · exact .inl (.inr ⟨o, e _ _ h⟩)
  · exact .inr h

/-! ### data -/
mutual
theorem dp_same {K : PySem.W.Frag} {H H' : Hp} (e : Same H H') : ∀ {v : V} {d : PyData}, Dp K H v d → Dp K H' v d
  | _, _, .non => .non
  | _, _, .bl b => .bl b
  | _, _, .int i => .int i
  | _, _, .str x => .str x
  | _, _, .lst h r => .lst (e.seq h) (dpa_same e r)
  | _, _, .tup h r => .tup (sqt_same e h) (dpa_same e r)
theorem dpa_same {K : PySem.W.Frag} {H H' : Hp} (e : Same H H') : ∀ {vs : List V} {ds : List PyData}, DpAll K H vs ds → DpAll K H' vs ds
  | _, _, .nil => .nil
  | _, _, .cons h r => .cons (dp_same e h) (dpa_same e r)
end
theorem dpa_len {K : PySem.W.Frag} {H : Hp} : ∀ {vs : List V} {ds : List PyData}, DpAll K H vs ds → vs.length = ds.length
  | _, _, .nil => rfl
  | _, _, .cons _ r => congrArg (· + 1) (dpa_len r)
theorem dpa_get {K : PySem.W.Frag} {H : Hp} : ∀ {vs : List V} {ds : List PyData} {i : Nat} {v : V}, DpAll K H vs ds → vs[i]? = some v → ∃ d, ds[i]? = some d ∧ Dp K H v d
  | _, _, _, _, .nil, e => by simp at e
  | _, _, 0, _, .cons h _, e => by
    simp at e
    subst e
    exact ⟨_, rfl, h⟩
  | _, _, i + 1, v, .cons _ r, e => by
    obtain ⟨d, h1, h2⟩ := dpa_get (i := i) (v := v) r (by simpa using e)
    exact ⟨d, by simpa using h1, h2⟩
theorem dpa_of {K : PySem.W.Frag} {H : Hp} : ∀ {vs : List V} {ds : List PyData}, vs.length = ds.length → (∀ (i : Nat) (v : V) (d : PyData), vs[i]? = some v → ds[i]? = some d → Dp K H v d) → DpAll K H vs ds
  | [], [], _, _ => .nil
  | v :: vs, d :: ds, hl, h => .cons (h 0 v d rfl rfl) (dpa_of (by simpa using hl) fun i x y h1 h2 => h (i + 1) x y (by simpa using h1) (by simpa using h2))
  | [], _ :: _, hl, _ => by simp at hl
  | _ :: _, [], hl, _ => by simp at hl
theorem dpa_append {K : PySem.W.Frag} {H : Hp} : ∀ {vs ws : List V} {ds es : List PyData}, DpAll K H vs ds → DpAll K H ws es → DpAll K H (vs ++ ws) (ds ++ es)
  | _, _, _, _, .nil, h => h
  | _, _, _, _, .cons a r, h => .cons a (dpa_append r h)
theorem dp_list {K : PySem.W.Frag} {H : Hp} {v : V} {ds : List PyData} (h : Dp K H v (.list ds)) : ∃ a xs, v = .ref a ∧ SqL K H a xs ∧ DpAll K H xs ds := by
  cases h with
  | lst h r => exact ⟨_, _, rfl, h, r⟩
theorem dp_tuple {K : PySem.W.Frag} {H : Hp} {v : V} {ds : List PyData} (h : Dp K H v (.tuple ds)) : ∃ a xs, v = .ref a ∧ SqT K H a xs ∧ DpAll K H xs ds := by
  cases h with
  | tup h r => exact ⟨_, _, rfl, h, r⟩
theorem dp_int {K : PySem.W.Frag} {H : Hp} {v : V} {i : Int} (h : Dp K H v (.int i)) : v = .int i := by cases h; rfl
theorem dp_str {K : PySem.W.Frag} {H : Hp} {v : V} {x : Str} (h : Dp K H v (.str x)) : v = .str x := by cases h; rfl
theorem dpa_ints {K : PySem.W.Frag} {H : Hp} : ∀ ns : List Int, DpAll K H (ns.map V.int) (ns.map PyData.int)
  | [] => .nil
  | n :: ns => .cons (.int n) (dpa_ints ns)
theorem dpa_strs {K : PySem.W.Frag} {H : Hp} : ∀ ns : List Str, DpAll K H (ns.map V.str) (ns.map PyData.str)
  | [] => .nil
  | n :: ns => .cons (.str n) (dpa_strs ns)

/-! ### books as data -/
abbrev Term := Int × Str
abbrev Line := Str × Int × List (List Term)
def dTerm (t : Term) : PyData := .tuple [.int t.1, .str t.2]
def dForm (f : List Term) : PyData := .list (f.map dTerm)
def dForms (f : List (List Term)) : PyData := .list (f.map dForm)
def dLine (l : Line) : PyData := .tuple [.str l.1, .int l.2.1, dForms l.2.2]
def dRows (L : List Line) : PyData := .list (L.map dLine)
theorem dp_term {K : PySem.W.Frag} {H : Hp} {v : V} {t : Term} (h : Dp K H v (dTerm t)) : ∃ a, v = .ref a ∧ SqT K H a [.int t.1, .str t.2] := by
  obtain ⟨a, xs, e, s, r⟩ := dp_tuple h
  cases r with
  | cons h1 r =>
    cases r with
    | cons h2 r =>
      cases r
      cases h1
      cases h2
      exact ⟨a, e, s⟩
theorem dp_form {K : PySem.W.Frag} {H : Hp} {v : V} {f : List Term} (h : Dp K H v (dForm f)) : ∃ a xs, v = .ref a ∧ SqL K H a xs ∧ DpAll K H xs (f.map dTerm) := dp_list h
theorem dp_forms {K : PySem.W.Frag} {H : Hp} {v : V} {f : List (List Term)} (h : Dp K H v (dForms f)) : ∃ a xs, v = .ref a ∧ SqL K H a xs ∧ DpAll K H xs (f.map dForm) := dp_list h
theorem dp_line {K : PySem.W.Frag} {H : Hp} {v : V} {l : Line} (h : Dp K H v (dLine l)) : ∃ a b, v = .ref a ∧ SqT K H a [.str l.1, .int l.2.1, .ref b] ∧ Dp K H (.ref b) (dForms l.2.2) := by
  obtain ⟨a, xs, e, s, r⟩ := dp_tuple h
  cases r with
  | cons h1 r =>
    cases r with
    | cons h2 r =>
      cases r with
      | cons h3 r =>
        cases r
        cases h1
        cases h2
        obtain ⟨b, ys, e3, _, _⟩ := dp_forms h3
        subst e3
        exact ⟨a, b, e, s, h3⟩
/-- the i-th of a list of data -/
theorem dpa_at {α : Type} {K : PySem.W.Frag} {H : Hp} {f : α → PyData} {xs : List V} {l : List α} {i : Nat} {v : V} (h : DpAll K H xs (l.map f)) (e : xs[i]? = some v) : ∃ x, l[i]? = some x ∧ Dp K H v (f x) := by
  obtain ⟨d, h1, h2⟩ := dpa_get h e
  rw [List.getElem?_map] at h1
  cases q : l[i]? with
  | none => rw [q] at h1; cases h1
  | some x =>
    rw [q] at h1
    cases h1
    exact ⟨x, rfl, h2⟩

/-! ### a comprehension that only makes -/
theorem nw_hid {H1 H H4 : Hp} {D : Addr} {acc : List V} (s : Same H1 H) (e : H D = some (.lst acc)) : Same (nw H H4) (nw H1 (hid D H4)) := fun a u z => by
  have nD : a ≠ D := fun q => by
    subst q
    unfold nw at z
    rw [e] at z
    exact absurd ((if_neg (fun f : false = true => by cases f)).symm.trans z) (fun q => by cases q)
  cases h1 : H1 a with
  | none =>
    rw [nw_new h1]
    exact hid_at (nw_le a u z) nD
  | some o =>
    have h := s a o h1
    by_cases f : fixedO o = true
    · rw [nw_fix h1 f]
      exact hid_at (nw_le a u z) nD
    · unfold nw at z
      rw [h] at z
      exact absurd ((if_neg f).symm.trans z) (fun q => by cases q)
theorem hid_upd {H : Hp} {D : Addr} {o : HO} : hid D (upd H D o) = hid D H := by
  funext a
  unfold hid
  split
  · rfl
  · rw [upd_ne ‹_›]
abbrev LcTurn (g : TG) (tt : TT) (te : TE) (vs : List Nat) (σ : L2.St) (x : V) (H : Hp) (Q : VK) : Prop :=
  g x (wipe σ vs) H fun σ2 H2 => wipe σ2 vs = wipe σ vs ∧ tt σ2 H2 fun b H3 => if b = true then te σ2 H3 Q else False
theorem lc_pure {K : PySem.W.Frag} {a : Addr} {xs : List V} {g : TG} {tt : TT} {te : TE} {vs : List Nat} {σ : L2.St} {H1 : Hp} {D : Addr} {Qd : Hp → Prop} (R : Nat → V → Hp → Prop) (hR : ∀ i y H H', R i y H → Same H H' → R i y H')
    (hS : SqL K H1 a xs) (hD : H1 D = none) (hl : xs.length ≤ 1000)
    (gm : ∀ x H (P P' : L2.St → Hp → Prop), (∀ σ H, P σ H → P' σ H) → g x (wipe σ vs) H P → g x (wipe σ vs) H P') (tm : ∀ σ H (P P' : Bool → Hp → Prop), (∀ b H, P b H → P' b H) → tt σ H P → tt σ H P')
    (hs : ∀ i x H (Q : VK), xs[i]? = some x → Same H1 H → H D ≠ none → (∀ y H4, Same H H4 → R i y (nw H H4) → Q y H4) → LcTurn g tt te vs σ x H Q)
    (hd : ∀ H ys, ys.length = xs.length → (∀ i y, ys[i]? = some y → R i y (nw H1 H)) → Same H1 H → H D = some (.lst ys) → Qd H) :
    ∃ W : Nat → Nat → Hp → Prop, (∃ m, W 0 m (upd H1 D (.lst []))) ∧ ∀ i m H, W i m H →
      ((Itl K a).stop i H ∧ Qd H) ∨ ((Itl K a).go i H ∧ ∃ Nx : Hp → Prop, (∀ H', Nx H' → ∃ m', m' < m ∧ W (i + 1) m' H') ∧ ∀ x H', (Itl K a).yld i H x H' → g x (wipe σ vs) H' fun σ2 H2 => wipe σ2 vs = wipe σ vs ∧ tt σ2 H2 fun b H3 =>
        if b = true then te σ2 H3 fun y H4 => ∃ acc, H4 D = some (.lst acc) ∧ acc.length < sizeLine ∧ Nx (upd H4 D (.lst (acc ++ [y]))) else Nx H3) := by
  refine lc_list (K := K) (a := a) (xs := xs) (fun i H => Same H1 H ∧ ∃ ys, H D = some (.lst ys) ∧ ys.length = i ∧ ∀ j y, ys[j]? = some y → R j y (nw H1 (hid D H)))
    ⟨same_new hD, [], upd_same, rfl, fun j y e => by simp at e⟩ (fun i H _ ⟨s, _⟩ => s.seq hS) ?_ ?_
  · rintro i x H hx ⟨s, ys, e, hlen, hy⟩
    have hil : i < xs.length := (List.getElem?_eq_some_iff.mp hx).1
    refine gm x H _ _ ?_ (hs i x H (fun y H4 => ∃ acc, H4 D = some (.lst acc) ∧ acc.length < sizeLine ∧ (Same H1 (upd H4 D (.lst (acc ++ [y]))) ∧ ∃ zs, (upd H4 D (.lst (acc ++ [y]))) D = some (.lst zs) ∧ zs.length = i + 1 ∧ ∀ j z, zs[j]? = some z → R j z (nw H1 (hid D (upd H4 D (.lst (acc ++ [y]))))))) hx s (by rw [e]; exact fun z => by cases z) ?_)
    · rintro σ2 H2 ⟨w, h⟩
      refine ⟨w, tm _ _ _ _ ?_ h⟩
      intro b H3 h
      cases b with
      | true =>
        rw [if_pos rfl] at h ⊢
        exact h
      | false =>
        rw [if_neg Bool.false_ne_true] at h
        exact h.elim
    · intro y H4 s4 r4
      refine ⟨ys, s4 _ _ e, Nat.lt_of_le_of_lt (show ys.length ≤ 1000 by omega) (by decide), Fb.Same.mut (s.trans s4) hD, ys ++ [y], upd_same, by simp [hlen], fun j z hz => ?_⟩
      rw [hid_upd]
      by_cases hj : j < ys.length
      · rw [List.getElem?_append_left hj] at hz
        exact hR _ _ _ _ (hy j z hz) (nw_mono (hid_same s4))
      · have ej : j = i := by
          have := (List.getElem?_eq_some_iff.mp hz).1
          simp at this
          omega
        subst ej
        rw [List.getElem?_append_right (by omega)] at hz
        have e0 : j - ys.length = 0 := by omega
        rw [e0] at hz
        have ez : y = z := Option.some.inj hz
        subst ez
        exact hR _ _ _ _ r4 (nw_hid s e)
  · rintro H ⟨s, ys, e, hlen, hy⟩
    exact hd H ys hlen (fun i y h => hR _ _ _ _ (hy i y h) (nw_mono hid_le)) s e
theorem gm_name {i : Nat} {x : V} {σ : L2.St} {H : Hp} {P P' : L2.St → Hp → Prop} (h : ∀ σ H, P σ H → P' σ H) (q : gName i x σ H P) : gName i x σ H P' := h _ _ q
theorem gm_tup2 {K : PySem.W.Frag} {i j : Nat} {x : V} {σ : L2.St} {H : Hp} {P P' : L2.St → Hp → Prop} (h : ∀ σ H, P σ H → P' σ H) (q : gTup K 2 (gCons (gName i) (gCons (gName j) gNil)) x σ H P) : gTup K 2 (gCons (gName i) (gCons (gName j) gNil)) x σ H P' := by
  obtain ⟨a, xs, e, s, l, v, r, e1, v2, r2, e2, e3, q⟩ := q
  exact ⟨a, xs, e, s, l, v, r, e1, v2, r2, e2, e3, h _ _ q⟩
theorem gm_tup3 {K : PySem.W.Frag} {i j k : Nat} {x : V} {σ : L2.St} {H : Hp} {P P' : L2.St → Hp → Prop} (h : ∀ σ H, P σ H → P' σ H) (q : gTup K 3 (gCons (gName i) (gCons (gName j) (gCons (gName k) gNil))) x σ H P) : gTup K 3 (gCons (gName i) (gCons (gName j) (gCons (gName k) gNil))) x σ H P' := by
  obtain ⟨a, xs, e, s, l, v, r, e1, v2, r2, e2, v3, r3, e4, e3, q⟩ := q
  exact ⟨a, xs, e, s, l, v, r, e1, v2, r2, e2, v3, r3, e4, e3, h _ _ q⟩
theorem dp_term_nw {K : PySem.W.Frag} {H H' : Hp} {v : V} {t : Term} (s : Same H H') (h : Dp K H v (dTerm t)) : Dp K (nw H H') v (dTerm t) := by
  obtain ⟨a, rfl, q⟩ := dp_term h
  exact .tup (sqt_nw s q) (.cons (.int _) (.cons (.str _) .nil))
theorem dpa_terms_nw {K : PySem.W.Frag} {H H' : Hp} (s : Same H H') : ∀ {vs : List V} {f : List Term}, DpAll K H vs (f.map dTerm) → DpAll K (nw H H') vs (f.map dTerm)
  | [], [], _ => .nil
  | v :: vs, t :: f, .cons h r => .cons (dp_term_nw s h) (dpa_terms_nw s r)
theorem dpa_map {α : Type} {K : PySem.W.Frag} {H : Hp} {f : α → PyData} {ys : List V} {l : List α} (hl : ys.length = l.length) (h : ∀ (i : Nat) (y : V) (x : α), ys[i]? = some y → l[i]? = some x → Dp K H y (f x)) : DpAll K H ys (l.map f) :=
  dpa_of (by simpa using hl) fun i v d h1 h2 => by
    rw [List.getElem?_map] at h2
    cases q : l[i]? with
    | none => rw [q] at h2; cases h2
    | some x =>
      rw [q] at h2
      cases h2
      exact h i v x h1 q
theorem dpa_map_len {α : Type} {K : PySem.W.Frag} {H : Hp} {f : α → PyData} {ys : List V} {l : List α} (h : DpAll K H ys (l.map f)) : ys.length = l.length := by
  have := dpa_len h
  simpa using this
def dKnown (q : List Line × Str) : PyData := .tuple [dRows q.1, .str q.2]
def dKind (b : Int) (L : List Line) : PyData := .tuple [.int b, dRows L]
theorem dp_pair {K : PySem.W.Frag} {H : Hp} {v : V} {d e : PyData} (h : Dp K H v (.tuple [d, e])) : ∃ a x y, v = .ref a ∧ SqT K H a [x, y] ∧ Dp K H x d ∧ Dp K H y e := by
  obtain ⟨a, xs, ev, s, r⟩ := dp_tuple h
  cases r with
  | cons h1 r =>
    cases r with
    | cons h2 r =>
      cases r
      exact ⟨a, _, _, ev, s, h1, h2⟩

/-! Figurebooks: comprehensions over two loops, dicts made by comprehensions, names. -/

/-- a dict by a comprehension over a list -/
theorem dc_list {K : PySem.W.Frag} {a : Addr} {xs : List V} {g : TG} {tt : TT} {tk tv : TE} {vs : List Nat} {σ : L2.St} {H1 : Hp} {D : Addr} {Qd : Hp → Prop} (Pv : Nat → Hp → Prop) (h0 : Pv 0 (upd H1 D (.dK []))) (hl : ∀ i H, i ≤ xs.length → Pv i H → SqL K H a xs)
    (hs : ∀ i x H, xs[i]? = some x → Pv i H → g x (wipe σ vs) H fun σ2 H2 => wipe σ2 vs = wipe σ vs ∧ tt σ2 H2 fun b H3 =>
      if b = true then tk σ2 H3 fun y H4 => tv σ2 H4 fun z H5 => ∃ kvs k, y = kV k ∧ H5 D = some (.dK kvs) ∧ kvs.length < sizeLine ∧ Pv (i + 1) (upd H5 D (.dK (putK kvs k z))) else Pv (i + 1) H3) (hd : ∀ H, Pv xs.length H → Qd H) :
    ∃ W : Nat → Nat → Hp → Prop, (∃ m, W 0 m (upd H1 D (.dK []))) ∧ ∀ i m H, W i m H →
      ((Itl K a).stop i H ∧ Qd H) ∨ ((Itl K a).go i H ∧ ∃ Nx : Hp → Prop, (∀ H', Nx H' → ∃ m', m' < m ∧ W (i + 1) m' H') ∧ ∀ x H', (Itl K a).yld i H x H' → g x (wipe σ vs) H' fun σ2 H2 => wipe σ2 vs = wipe σ vs ∧ tt σ2 H2 fun b H3 =>
        if b = true then tk σ2 H3 fun y H4 => tv σ2 H4 fun z H5 => ∃ kvs k, y = kV k ∧ H5 D = some (.dK kvs) ∧ kvs.length < sizeLine ∧ Nx (upd H5 D (.dK (putK kvs k z))) else Nx H3) := by
  refine ⟨fun i m H => m = xs.length - i ∧ i ≤ xs.length ∧ Pv i H, ⟨xs.length, by simp, Nat.zero_le _, h0⟩, ?_⟩
  rintro i m H ⟨rfl, hi, p⟩
  have q := hl i H hi p
  by_cases hlt : i < xs.length
  · refine .inr ⟨⟨xs, xs[i], q, by simp [hlt]⟩, Pv (i + 1), fun H' p' => ⟨xs.length - (i + 1), by omega, rfl, hlt, p'⟩, fun x H' y => ?_⟩
    obtain ⟨e, y⟩ := y
    subst e
    exact hs i x _ (y xs q) p
  · have e : i = xs.length := by omega
    subst e
    exact .inl ⟨⟨xs, q, Nat.le_refl _⟩, hd H p⟩
/-- the inner loop of a comprehension of two, over a list -/
theorem lc2_in {K : PySem.W.Frag} {b : Addr} {ys : List V} {g1 : TG} {tt1 : TT} {te : TE} {vs1 : List Nat} {σ2 : L2.St} {H4 : Hp} {D : Addr} {Nx : Hp → Prop} (Pv : Nat → Hp → Prop) (h0 : Pv 0 H4) (hl : ∀ j H, j ≤ ys.length → Pv j H → SqL K H b ys)
    (hs : ∀ j y H, ys[j]? = some y → Pv j H → g1 y (wipe σ2 vs1) H fun σ3 H5 => wipe σ3 vs1 = wipe σ2 vs1 ∧ tt1 σ3 H5 fun b H6 =>
      if b = true then te σ3 H6 fun y H7 => ∃ acc, H7 D = some (.lst acc) ∧ acc.length < sizeLine ∧ Pv (j + 1) (upd H7 D (.lst (acc ++ [y]))) else Pv (j + 1) H6) (hd : ∀ H, Pv ys.length H → Nx H) :
    ∃ W1 : Nat → Nat → Hp → Prop, (∃ m, W1 0 m H4) ∧ ∀ j k H, W1 j k H →
      ((Itl K b).stop j H ∧ Nx H) ∨ ((Itl K b).go j H ∧ ∃ Nx1 : Hp → Prop, (∀ H', Nx1 H' → ∃ k', k' < k ∧ W1 (j + 1) k' H') ∧ ∀ x H', (Itl K b).yld j H x H' → g1 x (wipe σ2 vs1) H' fun σ3 H5 => wipe σ3 vs1 = wipe σ2 vs1 ∧ tt1 σ3 H5 fun b H6 =>
        if b = true then te σ3 H6 fun y H7 => ∃ acc, H7 D = some (.lst acc) ∧ acc.length < sizeLine ∧ Nx1 (upd H7 D (.lst (acc ++ [y]))) else Nx1 H6) := by
  refine ⟨fun j k H => k = ys.length - j ∧ j ≤ ys.length ∧ Pv j H, ⟨ys.length, by simp, Nat.zero_le _, h0⟩, ?_⟩
  rintro j k H ⟨rfl, hj, p⟩
  have q := hl j H hj p
  by_cases hlt : j < ys.length
  · refine .inr ⟨⟨ys, ys[j], q, by simp [hlt]⟩, Pv (j + 1), fun H' p' => ⟨ys.length - (j + 1), by omega, rfl, hlt, p'⟩, fun x H' y => ?_⟩
    obtain ⟨e, y⟩ := y
    subst e
    exact hs j x _ (y ys q) p
  · have e : j = ys.length := by omega
    subst e
    exact .inl ⟨⟨ys, q, Nat.le_refl _⟩, hd H p⟩
/-- the outer one -/
theorem lc2_out {K : PySem.W.Frag} {a : Addr} {xs : List V} {g : TG} {tt : TT} {wi1 : TI} {g1 : TG} {tt1 : TT} {te : TE} {vs vs1 : List Nat} {σ : L2.St} {H1 : Hp} {D : Addr} {Qd : Hp → Prop} (Pv : Nat → Hp → Prop) (h0 : Pv 0 (upd H1 D (.lst []))) (hl : ∀ i H, i ≤ xs.length → Pv i H → SqL K H a xs)
    (hs : ∀ i x H, xs[i]? = some x → Pv i H → g x (wipe σ vs) H fun σ2 H2 => wipe σ2 vs = wipe σ vs ∧ tt σ2 H2 fun b H3 =>
      if b = true then wi1 σ2 H3 fun J1 H4 => ∃ W1 : Nat → Nat → Hp → Prop, (∃ m, W1 0 m H4) ∧ ∀ j k H, W1 j k H →
        (J1.stop j H ∧ Pv (i + 1) H) ∨ (J1.go j H ∧ ∃ Nx1 : Hp → Prop, (∀ H', Nx1 H' → ∃ k', k' < k ∧ W1 (j + 1) k' H') ∧ ∀ x H', J1.yld j H x H' → g1 x (wipe σ2 vs1) H' fun σ3 H5 => wipe σ3 vs1 = wipe σ2 vs1 ∧ tt1 σ3 H5 fun b H6 =>
          if b = true then te σ3 H6 fun y H7 => ∃ acc, H7 D = some (.lst acc) ∧ acc.length < sizeLine ∧ Nx1 (upd H7 D (.lst (acc ++ [y]))) else Nx1 H6)
      else Pv (i + 1) H3) (hd : ∀ H, Pv xs.length H → Qd H) :
    ∃ W : Nat → Nat → Hp → Prop, (∃ m, W 0 m (upd H1 D (.lst []))) ∧ ∀ i m H, W i m H →
      ((Itl K a).stop i H ∧ Qd H) ∨ ((Itl K a).go i H ∧ ∃ Nx : Hp → Prop, (∀ H', Nx H' → ∃ m', m' < m ∧ W (i + 1) m' H') ∧ ∀ x H', (Itl K a).yld i H x H' → g x (wipe σ vs) H' fun σ2 H2 => wipe σ2 vs = wipe σ vs ∧ tt σ2 H2 fun b H3 =>
        if b = true then wi1 σ2 H3 fun J1 H4 => ∃ W1 : Nat → Nat → Hp → Prop, (∃ m, W1 0 m H4) ∧ ∀ j k H, W1 j k H →
          (J1.stop j H ∧ Nx H) ∨ (J1.go j H ∧ ∃ Nx1 : Hp → Prop, (∀ H', Nx1 H' → ∃ k', k' < k ∧ W1 (j + 1) k' H') ∧ ∀ x H', J1.yld j H x H' → g1 x (wipe σ2 vs1) H' fun σ3 H5 => wipe σ3 vs1 = wipe σ2 vs1 ∧ tt1 σ3 H5 fun b H6 =>
            if b = true then te σ3 H6 fun y H7 => ∃ acc, H7 D = some (.lst acc) ∧ acc.length < sizeLine ∧ Nx1 (upd H7 D (.lst (acc ++ [y]))) else Nx1 H6)
        else Nx H3) := by
  refine ⟨fun i m H => m = xs.length - i ∧ i ≤ xs.length ∧ Pv i H, ⟨xs.length, by simp, Nat.zero_le _, h0⟩, ?_⟩
  rintro i m H ⟨rfl, hi, p⟩
  have q := hl i H hi p
  by_cases hlt : i < xs.length
  · refine .inr ⟨⟨xs, xs[i], q, by simp [hlt]⟩, Pv (i + 1), fun H' p' => ⟨xs.length - (i + 1), by omega, rfl, hlt, p'⟩, fun x H' y => ?_⟩
    obtain ⟨e, y⟩ := y
    subst e
    exact hs i x _ (y xs q) p
  · have e : i = xs.length := by omega
    subst e
    exact .inl ⟨⟨xs, q, Nat.le_refl _⟩, hd H p⟩

/-! ### names -/
theorem all_flat_strs : ∀ ns : List Str, (ns.map V.str).all flatV = true
  | [] => rfl
  | _ :: r => by
    rw [List.map_cons, List.all_cons, all_flat_strs r]
    rfl
theorem inV_strs (x : Str) : ∀ ns : List Str, inV (.str x) (ns.map V.str) = decide (x ∈ ns)
  | [] => rfl
  | n :: r => by
    have ih := inV_strs x r
    show (eqV (.str n) (.str x) || inV (.str x) (r.map V.str)) = decide (x ∈ n :: r)
    rw [ih]
    show ((n == x) || decide (x ∈ r)) = decide (x ∈ n :: r)
    by_cases e : n = x
    · subst e
      simp
    · have e2 : (n == x) = false := by simpa using e
      have e3 : x ≠ n := fun z => e z.symm
      simp [e2, e3]
theorem idx_at {x : Str} : ∀ {ns : List Str}, x ∈ ns → (ns.map V.str)[ns.idxOf x]? = some (.str x) := fun {ns} h => by
  have h1 : ns.idxOf x < ns.length := List.idxOf_lt_length_iff.mpr h
  rw [List.getElem?_map, List.getElem?_eq_getElem h1, List.getElem_idxOf h1]
  rfl
theorem idx_first {x : Str} {ns : List Str} {m : Nat} {z : V} (h : m < ns.idxOf x) (e : (ns.map V.str)[m]? = some z) : eqV z (.str x) = false := by
  rw [List.getElem?_map] at e
  cases q : ns[m]? with
  | none => rw [q] at e; cases e
  | some y =>
    rw [q] at e
    cases e
    show (y == x) = false
    have hm : m < ns.length := (List.getElem?_eq_some_iff.mp q).1
    have hy : ns[m] = y := by
      have := (List.getElem?_eq_some_iff.mp q).2
      exact this
    have := List.not_of_lt_findIdx (p := (· == x)) (xs := ns) (i := m) (by simpa [List.idxOf] using h)
    rw [hy] at this
    simpa using this
/-- one letter from a to z, as the program asks it -/
def letterB (n : Str) : Bool := decide (V.int (n.length : Int) = V.int 1) && (!decide (n.cps.toList < ("a" : Str).cps.toList) && !decide (("z" : Str).cps.toList < n.cps.toList))
def names (L : List Line) : List Str := L.map (·.1)
def starts (L : List Line) : List Int := L.map (·.2.1)
/-- a term's number where the names are worth vals -/
def worth (ns : List Str) (vals : List Int) (x : Str) : Int := vals.getD (ns.idxOf x) 0
def sumF (ns : List Str) (vals : List Int) (f : List Term) : Int := (f.map fun t => t.1 * worth ns vals t.2).sum
/-- a sound book, of a size that the laws draw -/
structure Sound (b : Int) (L : List Line) : Prop where
  base : b = 2 ∨ b = 3 ∨ b = 4
  many : L.length ≤ 26
  letters : ∀ l ∈ L, letterB l.1 = true ∧ l.1.length ≤ 1000
  nd : (names L).Nodup
  forms : ∀ l ∈ L, (l.2.2.length : Int) = b
  small : ∀ l ∈ L, ∀ f ∈ l.2.2, f.length ≤ 100
  known : ∀ l ∈ L, ∀ f ∈ l.2.2, ∀ t ∈ f, t.2 ∈ names L
  coefs : ∀ l ∈ L, ∀ f ∈ l.2.2, ∀ t ∈ f, t.1.natAbs < 2 ^ 10
  begins : ∀ l ∈ L, l.2.1.natAbs < 2 ^ 20
  sound : ∀ l ∈ L, ∀ f, l.2.2[0]? = some f → l.2.1 = sumF (names L) (starts L) f
theorem ext_map {α : Type} {ys : List V} {l : List α} {g : α → V} (hl : ys.length = l.length) (h : ∀ (i : Nat) (y : V) (x : α), ys[i]? = some y → l[i]? = some x → y = g x) : ys = l.map g := by
  refine List.ext_getElem? fun i => ?_
  rw [List.getElem?_map]
  by_cases hi : i < l.length
  · have h2 : i < ys.length := by omega
    rw [List.getElem?_eq_getElem h2, List.getElem?_eq_getElem hi]
    exact congrArg some (h i _ _ (List.getElem?_eq_getElem h2) (List.getElem?_eq_getElem hi))
  · rw [List.getElem?_eq_none (by omega), List.getElem?_eq_none (by omega)]
    rfl
theorem worth_at : ∀ {ns : List Str} {vals : List Int} {x : Str} {v : Int}, ns.length = vals.length → x ∈ ns → vals[ns.idxOf x]? = some v → worth ns vals x = v := fun {ns vals x v} _ _ h => by
  unfold worth
  rw [List.getD_eq_getElem?_getD, h]
  rfl
theorem val_line {x : Str} : ∀ {L : List Line}, x ∈ names L → valV (L.map fun l => ((Sum.inr l.1 : Key), V.int l.2.1)) (Sum.inr x) = some (.int (worth (names L) (starts L) x))
  | [], h => by simp [names] at h
  | l :: r, h => by
    by_cases e : l.1 = x
    · rw [List.map_cons, valV_pos (p := ((Sum.inr l.1 : Key), V.int l.2.1)) (by rw [e])]
      have : (names (l :: r)).idxOf x = 0 := by
        show (l.1 :: names r).idxOf x = 0
        rw [e, List.idxOf_cons_self]
      unfold worth
      rw [this]
      rfl
    · have h2 : x ∈ names r := by
        have h' : x ∈ l.1 :: names r := h
        rcases List.mem_cons.mp h' with z | z
        · exact absurd z.symm e
        · exact z
      rw [List.map_cons, valV_neg (p := ((Sum.inr l.1 : Key), V.int l.2.1)) (fun z => e (Sum.inr.inj z)), val_line h2]
      have : (names (l :: r)).idxOf x = (names r).idxOf x + 1 := by
        show (l.1 :: names r).idxOf x = _
        simp [List.idxOf_cons, beq_eq_false_iff_ne.mpr e]
      unfold worth
      rw [this]
      rfl
theorem put_line {L : List Line} {i : Nat} {l : Line} (nd : (names L).Nodup) (h : L[i]? = some l) :
    putK ((L.take i).map fun l => ((Sum.inr l.1 : Key), V.int l.2.1)) (Sum.inr l.1) (V.int l.2.1) = (L.take (i + 1)).map fun l => ((Sum.inr l.1 : Key), V.int l.2.1) := by
  have hn : valV ((L.take i).map fun l => ((Sum.inr l.1 : Key), V.int l.2.1)) (Sum.inr l.1) = none := by
    cases e : valV ((L.take i).map fun l => ((Sum.inr l.1 : Key), V.int l.2.1)) (Sum.inr l.1) with
    | none => rfl
    | some v =>
      have h1 := valV_in e
      obtain ⟨y, hy, ey⟩ := List.mem_map.mp h1
      obtain ⟨z, hz, ez⟩ := List.mem_map.mp hy
      obtain ⟨j, hj, ej⟩ := List.getElem_of_mem hz
      have hj' : j < i := by
        rw [List.length_take] at hj
        omega
      rw [List.getElem_take] at ej
      have hjl : j < L.length := by
        have := (List.getElem?_eq_some_iff.mp h).1
        omega
      have q1 : (names L)[j]? = some l.1 := by
        unfold names
        rw [List.getElem?_map, List.getElem?_eq_getElem hjl, ej]
        subst ez
        exact congrArg some (Sum.inr.inj ey)
      have q2 : (names L)[i]? = some l.1 := by unfold names; rw [List.getElem?_map, h]; rfl
      have := nd_ix nd q1 q2
      omega
  rw [putK_new _ hn, List.take_add_one, h, List.map_append]
  rfl
theorem worth_small {L : List Line} {b : Int} (S : Sound b L) {x : Str} (h : x ∈ names L) : (worth (names L) (starts L) x).natAbs < 2 ^ 20 := by
  have h1 : (names L).idxOf x < (names L).length := List.idxOf_lt_length_iff.mpr h
  have hn : (names L).length = L.length := List.length_map ..
  have h2 : (names L).idxOf x < L.length := by omega
  unfold worth
  rw [List.getD_eq_getElem?_getD, show (starts L)[(names L).idxOf x]? = some (L[(names L).idxOf x]).2.1 from by unfold starts; rw [List.getElem?_map, List.getElem?_eq_getElem h2]; rfl]
  exact S.begins _ (List.getElem_mem h2)
theorem mulx2 {i j : Int} {a b : Nat} (hi : i.natAbs < 2 ^ a) (hj : j.natAbs < 2 ^ b) (h : a + b ≤ 1000000) : CMulX i j := mulx_ok hi hj (by omega)
def dStep (ns : List Str) (f : List Term) : PyData := .list (f.map fun t => .tuple [.int t.1, .int (ns.idxOf t.2 : Nat)])
def dSteps (ns : List Str) (L : List Line) (k : Nat) : PyData := .list (L.map fun l => dStep ns (l.2.2.getD k []))
section
variable {σ : L2.St} {H : Hp} {D : Ends} {ta tv : TE}
theorem r_sfld {K : PySem.W.Frag} {f : Str} (q : tv σ H fun y H1 => ta σ H1 fun x H2 => ∃ a C dx fs, x = .ref a ∧ H2 a = some (.ins C dx fs) ∧ Cls K C ∧ NoAttr K C f ∧ fs.length < 1000 ∧ D.nx σ (upd H2 a (.ins C dx (putF f y fs)))) : sFld K ta tv f D σ H := q
end
theorem nw_in {H0 H H4 : Hp} {x : Addr} {o : HO} (s : Same H0 H) (e : H x = some o) (f : fixedO o = false) : Same (nw H H4) (nw H0 (hid x H4)) := fun a u z => by
  have nD : a ≠ x := fun q => by
    subst q
    unfold nw at z
    rw [e] at z
    exact absurd ((if_neg (fun g : fixedO o = true => by rw [f] at g; cases g)).symm.trans z) (fun q => by cases q)
  cases h1 : H0 a with
  | none =>
    rw [nw_new h1]
    exact hid_at (nw_le a u z) nD
  | some o' =>
    have h := s a o' h1
    by_cases g : fixedO o' = true
    · rw [nw_fix h1 g]
      exact hid_at (nw_le a u z) nD
    · unfold nw at z
      rw [h] at z
      exact absurd ((if_neg g).symm.trans z) (fun q => by cases q)
theorem keep_same {x : Addr} {H H' : Hp} (k : Keep x H H') : Same (hid x H) H' := fun a u e => k a u (hid_of e).1 (hid_of e).2
theorem hid_back {x : Addr} {H H' : Hp} (k : Keep x H H') : Same (hid x H) (hid x H') := k.hid
def bkF (b : Int) (nm st fm sp : Addr) : List (Str × V) := [("_base", .int b), ("_names", .ref nm), ("_starts", .ref st), ("_formulas", .ref fm), ("_system", .ref sp)]
theorem bk_put (b : Int) (nm st fm sp : Addr) : putF "_system" (.ref sp) (putF "_formulas" (.ref fm) (putF "_starts" (.ref st) (putF "_names" (.ref nm) (putF "_base" (.int b) [])))) = bkF b nm st fm sp := by
  have h1 : ¬ (("_base" : Str) = "_names") := by decide +kernel
  have h2 : ¬ (("_base" : Str) = "_starts") := by decide +kernel
  have h3 : ¬ (("_base" : Str) = "_formulas") := by decide +kernel
  have h4 : ¬ (("_base" : Str) = "_system") := by decide +kernel
  have h5 : ¬ (("_names" : Str) = "_starts") := by decide +kernel
  have h6 : ¬ (("_names" : Str) = "_formulas") := by decide +kernel
  have h7 : ¬ (("_names" : Str) = "_system") := by decide +kernel
  have h8 : ¬ (("_starts" : Str) = "_formulas") := by decide +kernel
  have h9 : ¬ (("_starts" : Str) = "_system") := by decide +kernel
  have h10 : ¬ (("_formulas" : Str) = "_system") := by decide +kernel
  simp only [putF, if_neg h1, if_neg h2, if_neg h3, if_neg h4, if_neg h5, if_neg h6, if_neg h7, if_neg h8, if_neg h9, if_neg h10, bkF]
theorem bk_base {b : Int} {nm st fm sp : Addr} : (bkF b nm st fm sp).lookup ("_base" : Str) = some (.int b) := by
  rw [← bk_put]
  rw [lookup_putF, if_neg (by decide +kernel), lookup_putF, if_neg (by decide +kernel), lookup_putF, if_neg (by decide +kernel), lookup_putF, if_neg (by decide +kernel), lookup_putF, if_pos rfl]
theorem bk_names {b : Int} {nm st fm sp : Addr} : (bkF b nm st fm sp).lookup ("_names" : Str) = some (.ref nm) := by
  rw [← bk_put]
  rw [lookup_putF, if_neg (by decide +kernel), lookup_putF, if_neg (by decide +kernel), lookup_putF, if_neg (by decide +kernel), lookup_putF, if_pos rfl]
theorem bk_starts {b : Int} {nm st fm sp : Addr} : (bkF b nm st fm sp).lookup ("_starts" : Str) = some (.ref st) := by
  rw [← bk_put]
  rw [lookup_putF, if_neg (by decide +kernel), lookup_putF, if_neg (by decide +kernel), lookup_putF, if_pos rfl]
theorem bk_formulas {b : Int} {nm st fm sp : Addr} : (bkF b nm st fm sp).lookup ("_formulas" : Str) = some (.ref fm) := by
  rw [← bk_put]
  rw [lookup_putF, if_neg (by decide +kernel), lookup_putF, if_pos rfl]
theorem bk_system {b : Int} {nm st fm sp : Addr} : (bkF b nm st fm sp).lookup ("_system" : Str) = some (.ref sp) := by
  rw [← bk_put]
  rw [lookup_putF, if_pos rfl]
theorem bk_no {b : Int} {nm st fm sp : Addr} {m : Str} (h : m ∉ ([("_base" : Str), "_names", "_starts", "_formulas", "_system"] : List Str)) : (bkF b nm st fm sp).lookup m = none := by
  simp only [List.mem_cons, not_or, List.not_mem_nil] at h
  obtain ⟨h1, h2, h3, h4, h5, _⟩ := h
  rw [← bk_put]
  rw [lookup_putF, if_neg h5, lookup_putF, if_neg h4, lookup_putF, if_neg h3, lookup_putF, if_neg h2, lookup_putF, if_neg h1]
  rfl
/-! ### systems: rows without names -/
abbrev Tm := Int × Nat
abbrev Sys := List Int × List (List (List Tm))
def dTm (t : Tm) : PyData := .tuple [.int t.1, .int (t.2 : Int)]
def dTms (f : List Tm) : PyData := .tuple (f.map dTm)
def dStT (r : List (List Tm)) : PyData := .tuple (r.map dTms)
def dSt (S : Sys) : PyData := .tuple (S.2.map dStT)
def ixT (ns : List Str) (f : List Term) : List Tm := f.map fun t => (t.1, ns.idxOf t.2)
def rowsT (ns : List Str) (L : List Line) (k : Nat) : List (List Tm) := L.map fun l => ixT ns (l.2.2.getD k [])
def sysOf (b : Int) (L : List Line) : Sys := (starts L, (List.range b.toNat).map (rowsT (names L) L))
def syF (a c : Addr) : List (Str × V) := [("_starts", .ref a), ("_steps", .ref c)]
theorem sy_put (a c : Addr) : putF "_steps" (.ref c) (putF "_starts" (.ref a) []) = syF a c := by
  have h1 : ¬ (("_starts" : Str) = "_steps") := by decide +kernel
  simp only [putF, if_neg h1, syF]
theorem sy_starts {a c : Addr} : (syF a c).lookup ("_starts" : Str) = some (.ref a) := by
  rw [← sy_put, lookup_putF, if_neg (by decide +kernel), lookup_putF, if_pos rfl]
theorem sy_steps {a c : Addr} : (syF a c).lookup ("_steps" : Str) = some (.ref c) := by
  rw [← sy_put, lookup_putF, if_pos rfl]
theorem sy_no {a c : Addr} {m : Str} (h : m ∉ ([("_starts" : Str), "_steps"] : List Str)) : (syF a c).lookup m = none := by
  simp only [List.mem_cons, not_or, List.not_mem_nil] at h
  obtain ⟨h1, h2, _⟩ := h
  rw [← sy_put, lookup_putF, if_neg h2, lookup_putF, if_neg h1]
  rfl
/-- a system of the class at C stands at y -/
structure SysC (C : Addr) (K : PySem.W.Frag) (H : Hp) (y : Addr) (S : Sys) : Prop where
  ex : ∃ dx a c, H y = some (.ins C dx (syF a c)) ∧ SqT K H a (S.1.map V.int) ∧ Dp K H (.ref c) (dSt S)
theorem SysC.same {C : Addr} {K : PySem.W.Frag} {H H' : Hp} {y : Addr} {S : Sys} (e : Same H H') (h : SysC C K H y S) : SysC C K H' y S := by
  obtain ⟨dx, a, c, h1, h2, h3⟩ := h.ex
  exact ⟨dx, a, c, e _ _ h1, sqt_same e h2, dp_same e h3⟩
/-- a book of the class at C.1 stands at x, its system of the class at C.2 -/
structure BookC (C : Addr × Addr) (K : PySem.W.Frag) (H : Hp) (x : Addr) (b : Int) (L : List Line) : Prop where
  ex : ∃ dx nm st fm sp, H x = some (.ins C.1 dx (bkF b nm st fm sp)) ∧ H nm = some (.lst ((names L).map V.str)) ∧ H st = some (.lst ((starts L).map V.int)) ∧
    Dp K H (.ref fm) (.list (L.map fun l => dForms l.2.2)) ∧ SysC C.2 K H sp (sysOf b L)
theorem BookC.same {C : Addr × Addr} {K : PySem.W.Frag} {H H' : Hp} {x : Addr} {b : Int} {L : List Line} (e : Same H H') (h : BookC C K H x b L) : BookC C K H' x b L := by
  obtain ⟨dx, nm, st, fm, sp, h1, h2, h3, h4, h5⟩ := h.ex
  exact ⟨dx, nm, st, fm, sp, e _ _ h1, e _ _ h2, e _ _ h3, dp_same e h4, h5.same e⟩
theorem lr_pure {n : Nat} {g : TG} {tt : TT} {te : TE} {vs : List Nat} {σ : L2.St} {H1 : Hp} {D : Addr} {Qd : Hp → Prop} (R : Nat → V → Hp → Prop) (hR : ∀ i y H H', R i y H → Same H H' → R i y H')
    (hD : H1 D = none) (hl : n ≤ 1000)
    (gm : ∀ x H (P P' : L2.St → Hp → Prop), (∀ σ H, P σ H → P' σ H) → g x (wipe σ vs) H P → g x (wipe σ vs) H P') (tm : ∀ σ H (P P' : Bool → Hp → Prop), (∀ b H, P b H → P' b H) → tt σ H P → tt σ H P')
    (hs : ∀ i H (Q : VK), i < n → Same H1 H → H D ≠ none → (∀ y H4, Same H H4 → R i y (nw H H4) → Q y H4) → LcTurn g tt te vs σ (.int (0 + (i : Int))) H Q)
    (hd : ∀ H ys, ys.length = n → (∀ i y, ys[i]? = some y → R i y (nw H1 H)) → Same H1 H → H D = some (.lst ys) → Qd H) :
    ∃ W : Nat → Nat → Hp → Prop, (∃ m, W 0 m (upd H1 D (.lst []))) ∧ ∀ i m H, W i m H →
      ((Itr 0 n).stop i H ∧ Qd H) ∨ ((Itr 0 n).go i H ∧ ∃ Nx : Hp → Prop, (∀ H', Nx H' → ∃ m', m' < m ∧ W (i + 1) m' H') ∧ ∀ x H', (Itr 0 n).yld i H x H' → g x (wipe σ vs) H' fun σ2 H2 => wipe σ2 vs = wipe σ vs ∧ tt σ2 H2 fun b H3 =>
        if b = true then te σ2 H3 fun y H4 => ∃ acc, H4 D = some (.lst acc) ∧ acc.length < sizeLine ∧ Nx (upd H4 D (.lst (acc ++ [y]))) else Nx H3) := by
  refine lc_range (lo := 0) (n := n) (fun i H => Same H1 H ∧ ∃ ys, H D = some (.lst ys) ∧ ys.length = i ∧ ∀ j y, ys[j]? = some y → R j y (nw H1 (hid D H)))
    ⟨same_new hD, [], upd_same, rfl, fun j y e => by simp at e⟩ ?_ ?_
  · rintro i H hx ⟨s, ys, e, hlen, hy⟩
    refine gm _ H _ _ ?_ (hs i H (fun y H4 => ∃ acc, H4 D = some (.lst acc) ∧ acc.length < sizeLine ∧ (Same H1 (upd H4 D (.lst (acc ++ [y]))) ∧ ∃ zs, (upd H4 D (.lst (acc ++ [y]))) D = some (.lst zs) ∧ zs.length = i + 1 ∧ ∀ j z, zs[j]? = some z → R j z (nw H1 (hid D (upd H4 D (.lst (acc ++ [y]))))))) hx s (by rw [e]; exact fun z => by cases z) ?_)
    · rintro σ2 H2 ⟨w, h⟩
      refine ⟨w, tm _ _ _ _ ?_ h⟩
      intro b H3 h
      cases b with
      | true =>
        rw [if_pos rfl] at h ⊢
        exact h
      | false =>
        rw [if_neg Bool.false_ne_true] at h
        exact h.elim
    · intro y H4 s4 r4
      refine ⟨ys, s4 _ _ e, Nat.lt_of_le_of_lt (show ys.length ≤ 1000 by omega) (by decide), Fb.Same.mut (s.trans s4) hD, ys ++ [y], upd_same, by simp [hlen], fun j z hz => ?_⟩
      rw [hid_upd]
      by_cases hj : j < ys.length
      · rw [List.getElem?_append_left hj] at hz
        exact hR _ _ _ _ (hy j z hz) (nw_mono (hid_same s4))
      · have ej : j = i := by
          have := (List.getElem?_eq_some_iff.mp hz).1
          simp at this
          omega
        subst ej
        rw [List.getElem?_append_right (by omega)] at hz
        have e0 : j - ys.length = 0 := by omega
        rw [e0] at hz
        have ez : y = z := Option.some.inj hz
        subst ez
        exact hR _ _ _ _ r4 (nw_hid s e)
  · rintro H ⟨s, ys, e, hlen, hy⟩
    exact hd H ys hlen (fun i y h => hR _ _ _ _ (hy i y h) (nw_mono hid_le)) s e

/-! Figurebooks: zip in a comprehension; figures; values. -/
/-- a comprehension over zip of two lists of one length, whose items are ints worked out of the pair -/
theorem lz_ints {K : PySem.W.Frag} {a b : Addr} {xs ys : List V} {g : TG} {tt : TT} {te : TE} {vs : List Nat} {σ : L2.St} {H1 : Hp} {D : Addr} {Qd : Hp → Prop} (φ : Nat → Int) (hl : xs.length = ys.length) (hS : SqL K H1 a xs) (hS2 : SqL K H1 b ys) (hD : H1 D = none) (hz : xs.length ≤ 1000)
    (gm : ∀ x H (P P' : L2.St → Hp → Prop), (∀ σ H, P σ H → P' σ H) → g x (wipe σ vs) H P → g x (wipe σ vs) H P') (tm : ∀ σ H (P P' : Bool → Hp → Prop), (∀ b H, P b H → P' b H) → tt σ H P → tt σ H P')
    (hs : ∀ i x y (T : Addr) H (Q : VK), xs[i]? = some x → ys[i]? = some y → Same H1 H → SqT K H T [x, y] → (Q (.int (φ i)) H) → LcTurn g tt te vs σ (.ref T) H Q)
    (hd : ∀ H, Same H1 H → H D = some (.lst ((List.range xs.length).map fun i => V.int (φ i))) → Qd H) :
    ∃ W : Nat → Nat → Hp → Prop, (∃ m, W 0 m (upd H1 D (.lst []))) ∧ ∀ i m H, W i m H →
      ((Itz K a b).stop i H ∧ Qd H) ∨ ((Itz K a b).go i H ∧ ∃ Nx : Hp → Prop, (∀ H', Nx H' → ∃ m', m' < m ∧ W (i + 1) m' H') ∧ ∀ x H', (Itz K a b).yld i H x H' → g x (wipe σ vs) H' fun σ2 H2 => wipe σ2 vs = wipe σ vs ∧ tt σ2 H2 fun b H3 =>
        if b = true then te σ2 H3 fun y H4 => ∃ acc, H4 D = some (.lst acc) ∧ acc.length < sizeLine ∧ Nx (upd H4 D (.lst (acc ++ [y]))) else Nx H3) := by
  let Pv : Nat → Hp → Prop := fun i H => Same H1 H ∧ H D = some (.lst ((List.range i).map fun i => V.int (φ i)))
  refine ⟨fun i m H => m = xs.length - i ∧ i ≤ xs.length ∧ Pv i H, ⟨xs.length, by simp, Nat.zero_le _, same_new hD, upd_same⟩, ?_⟩
  rintro i m H ⟨rfl, hi, s, e⟩
  have qx := s.seq hS
  have qy := s.seq hS2
  by_cases hlt : i < xs.length
  · have hx : xs[i]? = some xs[i] := List.getElem?_eq_getElem hlt
    have hlt2 : i < ys.length := by omega
    have hy : ys[i]? = some ys[i] := List.getElem?_eq_getElem hlt2
    refine .inr ⟨⟨xs, ys, _, _, qx, qy, hx, hy⟩, Pv (i + 1), fun H' p' => ⟨xs.length - (i + 1), by omega, rfl, hlt, p'⟩, fun v H' y => ?_⟩
    obtain ⟨T, x', y', rfl, hT, rfl, f1, f2⟩ := y
    have ex : x' = xs[i] := Option.some.inj ((f1 _ qx).symm.trans hx)
    have ey : y' = ys[i] := Option.some.inj ((f2 _ qy).symm.trans hy)
    subst ex
    subst ey
    refine gm _ _ _ _ ?_ (hs i _ _ T _ (fun y H4 => ∃ acc, H4 D = some (.lst acc) ∧ acc.length < sizeLine ∧ Pv (i + 1) (upd H4 D (.lst (acc ++ [y])))) hx hy (Fb.Same.new s hT) (st_of upd_same) ?_)
    · rintro σ2 H2 ⟨w, h⟩
      refine ⟨w, tm _ _ _ _ ?_ h⟩
      intro b H3 h
      cases b with
      | true =>
        rw [if_pos rfl] at h ⊢
        exact h
      | false =>
        rw [if_neg Bool.false_ne_true] at h
        exact h.elim
    · refine ⟨_, upd_old hT e, ?_, Fb.Same.mut (Fb.Same.new s hT) hD, ?_⟩
      · rw [List.length_map, List.length_range]
        exact small1000 (by omega)
      · rw [upd_same, List.range_succ, List.map_append]
        rfl
  · have e' : i = xs.length := by omega
    subst e'
    exact .inl ⟨⟨xs, ys, qx, qy, .inl (Nat.le_refl _)⟩, hd H s e⟩

/-! ### values -/
def stepV (L : List Line) (vals : List Int) (k : Nat) : List Int := L.map fun l => sumF (names L) vals (l.2.2.getD k [])
/-- the figures, the last one first -/
def digs (b : Nat) (n : Nat) : List Nat := if h : n = 0 ∨ b < 2 then [] else (n % b) :: digs b (n / b)
termination_by n
decreasing_by
  have h1 : n ≠ 0 := fun z => h (.inl z)
  have h2 : ¬ b < 2 := fun z => h (.inr z)
  exact Nat.div_lt_self (by omega) (by omega)
theorem digs_zero {b : Nat} : digs b 0 = [] := by
  rw [digs]
  simp
theorem digs_pos {b n : Nat} (h : 0 < n) (hb : 2 ≤ b) : digs b n = (n % b) :: digs b (n / b) := by
  rw [digs]
  rw [dif_neg (by omega)]
def vec (b : Nat) (L : List Line) (n : Nat) : List Int := (digs b n).reverse.foldl (stepV L) (starts L)
theorem vec_zero {b : Nat} {L : List Line} : vec b L 0 = starts L := by
  unfold vec
  rw [digs_zero]
  rfl
theorem vec_pos {b n : Nat} {L : List Line} (h : 0 < n) (hb : 2 ≤ b) : vec b L n = stepV L (vec b L (n / b)) (n % b) := by
  unfold vec
  rw [digs_pos h hb, List.reverse_cons, List.foldl_append]
  rfl
theorem step_len {L : List Line} {vals : List Int} {k : Nat} : (stepV L vals k).length = L.length := List.length_map ..
theorem vec_len {b n : Nat} {L : List Line} (hb : 2 ≤ b) : (vec b L n).length = L.length := by
  by_cases h : 0 < n
  · rw [vec_pos h hb, step_len]
  · have e : n = 0 := by omega
    rw [e, vec_zero]
    exact List.length_map ..
theorem sum_le {l : List Int} {M : Nat} (h : ∀ x ∈ l, x.natAbs ≤ M) : l.sum.natAbs ≤ l.length * M := by
  induction l with
  | nil => simp
  | cons x r ih =>
    have h1 := h x List.mem_cons_self
    have h2 := ih fun y hy => h y (List.mem_cons_of_mem _ hy)
    rw [List.sum_cons, List.length_cons, Nat.add_mul]
    have h3 := Int.natAbs_add_le x r.sum
    omega
theorem worth_le {ns : List Str} {vals : List Int} {x : Str} {M : Nat} (h : ∀ v ∈ vals, v.natAbs ≤ M) : (worth ns vals x).natAbs ≤ M := by
  unfold worth
  rw [List.getD_eq_getElem?_getD]
  cases e : vals[ns.idxOf x]? with
  | none => exact Nat.zero_le _
  | some v => exact h v (List.mem_of_getElem? e)
theorem sumF_le {ns : List Str} {vals : List Int} {f : List Term} {M : Nat} (h : ∀ v ∈ vals, v.natAbs ≤ M) (hf : f.length ≤ 100) (hc : ∀ t ∈ f, t.1.natAbs < 2 ^ 10) : (sumF ns vals f).natAbs ≤ 2 ^ 17 * M := by
  have h1 : (sumF ns vals f).natAbs ≤ (f.map fun t => t.1 * worth ns vals t.2).length * (2 ^ 10 * M) := sum_le fun x hx => by
    obtain ⟨t, ht, e⟩ := List.mem_map.mp hx
    subst e
    rw [Int.natAbs_mul]
    exact Nat.mul_le_mul (Nat.le_of_lt (hc t ht)) (worth_le h)
  rw [List.length_map] at h1
  have h2 : f.length * (2 ^ 10 * M) ≤ 128 * (2 ^ 10 * M) := Nat.mul_le_mul_right _ (by omega)
  have h3 : 128 * (2 ^ 10 * M) = 2 ^ 17 * M := by rw [← Nat.mul_assoc]
  omega
theorem step_le {b : Int} {L : List Line} (S : Sound b L) {vals : List Int} {k M : Nat} (h : ∀ v ∈ vals, v.natAbs ≤ M) : ∀ v ∈ stepV L vals k, v.natAbs ≤ 2 ^ 17 * M := fun v hv => by
  obtain ⟨l, hl, e⟩ := List.mem_map.mp hv
  subst e
  by_cases hk : k < l.2.2.length
  · have hm : l.2.2.getD k [] ∈ l.2.2 := by
      rw [List.getD_eq_getElem?_getD, List.getElem?_eq_getElem hk]
      exact List.getElem_mem hk
    exact sumF_le h (S.small l hl _ hm) (S.coefs l hl _ hm)
  · have hm : l.2.2.getD k [] = [] := by
      rw [List.getD_eq_getElem?_getD, List.getElem?_eq_none (by omega)]
      rfl
    rw [hm]
    exact Nat.zero_le _
theorem vec_le {b : Int} {L : List Line} (S : Sound b L) {c : Nat} (hc : 2 ≤ c) : ∀ (m n : Nat), n < 2 ^ m → ∀ v ∈ vec c L n, v.natAbs ≤ 2 ^ (20 + 17 * m)
  | 0, n, h, v, hv => by
    have e : n = 0 := by omega
    rw [e, vec_zero] at hv
    obtain ⟨l, hl, e2⟩ := List.mem_map.mp hv
    subst e2
    exact Nat.le_of_lt (S.begins l hl)
  | m + 1, n, h, v, hv => by
    by_cases hp : 0 < n
    · rw [vec_pos hp hc] at hv
      have h1 : n / c < 2 ^ m := by
        rw [Nat.div_lt_iff_lt_mul (by omega)]
        have h2 : 2 ^ m * 2 ≤ 2 ^ m * c := Nat.mul_le_mul_left _ hc
        have h3 : 2 ^ (m + 1) = 2 ^ m * 2 := rfl
        omega
      have h4 := step_le S (vec_le S hc m (n / c) h1) v hv
      have h5 : 2 ^ 17 * 2 ^ (20 + 17 * m) = 2 ^ (20 + 17 * (m + 1)) := by
        rw [← Nat.pow_add]
        congr 1
        omega
      omega
    · have e : n = 0 := by omega
      rw [e, vec_zero] at hv
      obtain ⟨l, hl, e2⟩ := List.mem_map.mp hv
      subst e2
      exact Nat.le_trans (Nat.le_of_lt (S.begins l hl)) (Nat.pow_le_pow_right (by decide) (by omega))
/-- the value at b n + k, by the formulas -/
theorem vec_step {b : Int} {L : List Line} (S : Sound b L) {m k : Nat} (hk : k < b.toNat) : vec b.toNat L (b.toNat * m + k) = stepV L (vec b.toNat L m) k := by
  have hb := S.base
  have h2 : 2 ≤ b.toNat := by omega
  by_cases h : 0 < b.toNat * m + k
  · rw [vec_pos h h2]
    congr 1
    · congr 1
      rw [Nat.mul_add_div (by omega), Nat.div_eq_of_lt hk, Nat.add_zero]
    · rw [Nat.mul_add_mod, Nat.mod_eq_of_lt hk]
  · have hk0 : k = 0 := by omega
    have hm0 : m = 0 := by
      have : b.toNat * m = 0 := by omega
      rcases Nat.mul_eq_zero.mp this with z | z <;> omega
    subst hk0
    subst hm0
    rw [Nat.mul_zero, vec_zero]
    unfold stepV starts
    refine List.map_congr_left fun l hl => ?_
    have hf := S.forms l hl
    have h0 : 0 < l.2.2.length := by omega
    have e : l.2.2[0]? = some l.2.2[0] := List.getElem?_eq_getElem h0
    rw [List.getD_eq_getElem?_getD, e]
    exact S.sound l hl _ e
def dot (cs vals : List Int) : Int := ((cs.zip vals).map fun p => p.1 * p.2).sum
theorem dot_range {cs vals : List Int} (h : cs.length = vals.length) : dot cs vals = ((List.range cs.length).map fun i => cs.getD i 0 * vals.getD i 0).sum := by
  unfold dot
  congr 1
  refine List.ext_getElem? fun i => ?_
  rw [List.getElem?_map, List.getElem?_map]
  by_cases hi : i < cs.length
  · have hi2 : i < vals.length := by omega
    rw [List.getElem?_range hi, List.getElem?_eq_getElem (l := cs.zip vals) (by rw [List.length_zip]; omega), List.getElem_zip]
    simp only [Option.map_some]
    rw [List.getD_eq_getElem?_getD, List.getD_eq_getElem?_getD, List.getElem?_eq_getElem hi, List.getElem?_eq_getElem hi2]
    rfl
  · rw [List.getElem?_eq_none (by rw [List.length_zip]; omega), List.getElem?_eq_none (by rw [List.length_range]; omega)]
    rfl
theorem dot_le {cs vals : List Int} {A M : Nat} (h : cs.length = vals.length) (hA : ∀ c ∈ cs, c.natAbs ≤ A) (hM : ∀ v ∈ vals, v.natAbs ≤ M) : (dot cs vals).natAbs ≤ cs.length * (A * M) := by
  have h1 : (dot cs vals).natAbs ≤ ((cs.zip vals).map fun p => p.1 * p.2).length * (A * M) := sum_le fun x hx => by
    obtain ⟨p, hp, e⟩ := List.mem_map.mp hx
    subst e
    rw [Int.natAbs_mul]
    exact Nat.mul_le_mul (hA _ (List.of_mem_zip hp).1) (hM _ (List.of_mem_zip hp).2)
  rw [List.length_map, List.length_zip] at h1
  have h2 : min cs.length vals.length = cs.length := by omega
  rw [h2] at h1
  exact h1
/-- a number as a value -/
def dv (d : Nat) : V := V.int (d : Int)
/-- the number in a slot -/
def slotN (o : Option (Option V)) : Nat := match o with
  | some (some (V.int i)) => i.toNat
  | _ => 0
theorem fold_le {b : Int} {L : List Line} (S : Sound b L) : ∀ (ds : List Nat) (vals : List Int) (m : Nat), (∀ v ∈ vals, v.natAbs ≤ 2 ^ m) → ∀ v ∈ ds.foldl (stepV L) vals, v.natAbs ≤ 2 ^ (m + 17 * ds.length)
  | [], vals, m, h, v, hv => h v hv
  | d :: ds, vals, m, h, v, hv => by
    have h1 : ∀ v ∈ stepV L vals d, v.natAbs ≤ 2 ^ (m + 17) := fun v hv => by
      have := step_le S h v hv
      rw [← Nat.pow_add] at this
      rw [show m + 17 = 17 + m by omega]
      exact this
    have := fold_le S ds (stepV L vals d) (m + 17) h1 v hv
    rw [show m + 17 * (d :: ds).length = m + 17 + 17 * ds.length by rw [List.length_cons]; omega]
    exact this
theorem fold_len {L : List Line} : ∀ (ds : List Nat) (vals : List Int), vals.length = L.length → (ds.foldl (stepV L) vals).length = L.length
  | [], _, h => h
  | d :: ds, vals, _ => fold_len ds (stepV L vals d) step_len
def rwF (x c : Addr) : List (Str × V) := [("_book", .ref x), ("_coefficients", .ref c)]
theorem rw_put (x c : Addr) : putF "_coefficients" (.ref c) (putF "_book" (.ref x) []) = rwF x c := by
  have h1 : ¬ (("_book" : Str) = "_coefficients") := by decide +kernel
  simp only [putF, if_neg h1, rwF]
theorem rw_book {x c : Addr} : (rwF x c).lookup ("_book" : Str) = some (.ref x) := by
  rw [← rw_put, lookup_putF, if_neg (by decide +kernel), lookup_putF, if_pos rfl]
theorem rw_coefs {x c : Addr} : (rwF x c).lookup ("_coefficients" : Str) = some (.ref c) := by
  rw [← rw_put, lookup_putF, if_pos rfl]
theorem rw_no {x c : Addr} {m : Str} (h : m ∉ ([("_book" : Str), "_coefficients"] : List Str)) : (rwF x c).lookup m = none := by
  simp only [List.mem_cons, not_or, List.not_mem_nil] at h
  obtain ⟨h1, h2, _⟩ := h
  rw [← rw_put, lookup_putF, if_neg h2, lookup_putF, if_neg h1]
  rfl
/-- a row of the class at C stands at y, of the book of the class at CB at x -/
structure RowC (C : Addr) (CB : Addr × Addr) (K : PySem.W.Frag) (H : Hp) (y x : Addr) (b : Int) (L : List Line) (cs : List Int) : Prop where
  ex : ∃ dx c, H y = some (.ins C dx (rwF x c)) ∧ H c = some (.lst (cs.map V.int))
  book : BookC CB K H x b L
  len : cs.length = L.length
theorem RowC.same {C : Addr} {CB : Addr × Addr} {K : PySem.W.Frag} {H H' : Hp} {y x : Addr} {b : Int} {L : List Line} {cs : List Int} (e : Same H H') (h : RowC C CB K H y x b L cs) : RowC C CB K H' y x b L cs := by
  obtain ⟨dx, c, h1, h2⟩ := h.ex
  exact ⟨⟨dx, c, e _ _ h1, e _ _ h2⟩, h.book.same e, h.len⟩
/-- a new instance whose __init__ kept all but it: what stood before stands -/
theorem made_same {x dx C : Addr} {H H' : Hp} (nx : H x = none) (ndx : H dx = none) (k : Keep x (upd (upd H dx (.own x)) x (.ins C dx [])) H') : Same H H' := fun a o e =>
  k a o (upd_oth (ne_of_none e nx) (upd_old ndx e)) (ne_of_none e nx)
theorem made_hid {x dx C : Addr} {H : Hp} (nx : H x = none) (ndx : H dx = none) : Same H (hid x (upd (upd H dx (.own x)) x (.ins C dx []))) := fun a o e =>
  hid_at (upd_oth (ne_of_none e nx) (upd_old ndx e)) (ne_of_none e nx)
def unitV (n j : Nat) : List Int := (List.replicate n 0).set j 1
theorem digs_lt {b : Nat} (hb : 2 ≤ b) : ∀ (n d : Nat), d ∈ digs b n → d < b := fun n => by
  induction n using Nat.strongRecOn with
  | _ n ih =>
    intro d hd
    by_cases hp : 0 < n
    · rw [digs_pos hp hb] at hd
      rcases List.mem_cons.mp hd with e | e
      · subst e
        exact Nat.mod_lt _ (by omega)
      · exact ih (n / b) (Nat.div_lt_self hp (by omega)) d e
    · have e : n = 0 := by omega
      rw [e, digs_zero] at hd
      exact absurd hd List.not_mem_nil

/-! Figurebooks: written data. -/
/-- te makes data d, of new objects and what stood, apart from P -/
def DE (K : PySem.W.Frag) (P : Addr) (σ : L2.St) (H : Hp) (te : TE) (d : PyData) : Prop := ∀ H1, Same H H1 → ∀ Q : VK, (∀ v H2, Same H1 H2 → Dp K (hid P H2) v d → Q v H2) → te σ H1 Q
def DEs (K : PySem.W.Frag) (P : Addr) (σ : L2.St) (H : Hp) (ta : TA) (ds : List PyData) : Prop := ∀ H1, Same H H1 → ∀ Q : List V → Hp → Prop, (∀ vs H2, Same H1 H2 → DpAll K (hid P H2) vs ds → Q vs H2) → ta σ H1 Q
/-- a new list -/
def DL (K : PySem.W.Frag) (P : Addr) (σ : L2.St) (H : Hp) (te : TE) (ds : List PyData) : Prop := ∀ H1, Same H H1 → ∀ Q : VK, (∀ p xs H2, Same H1 H2 → H2 p = some (.lst xs) → p ≠ P → DpAll K (hid P H2) xs ds → Q (.ref p) H2) → te σ H1 Q
section
variable {K : PySem.W.Frag} {P : Addr} {σ : L2.St} {H : Hp} {te : TE} {ta : TA} {d : PyData} {ds : List PyData}
theorem de_int {i : Int} : DE K P σ H (tC (.int i)) (.int i) := fun H1 _ Q q => q _ H1 (Same.refl _) (.int i)
theorem de_str {x : Str} : DE K P σ H (tC (.str x)) (.str x) := fun H1 _ Q q => q _ H1 (Same.refl _) (.str x)
theorem de_neg {i : Int} : DE K P σ H (tUn rNegI (tC (.int i))) (.int (-i)) := fun H1 _ Q q => ⟨i, rfl, q _ H1 (Same.refl _) (.int _)⟩
theorem de_var {i : Nat} {v : V} (h : σ[i]? = some (some v)) (hd : Dp K (hid P H) v d) : DE K P σ H (tVar i) d := fun H1 s Q q => ⟨v, h, q _ H1 (Same.refl _) (dp_same (hid_same s) hd)⟩
theorem des_nil : DEs K P σ H tNil [] := fun H1 _ Q q => q _ H1 (Same.refl _) .nil
theorem des_cons (h : DE K P σ H te d) (r : DEs K P σ H ta ds) : DEs K P σ H (tCons te ta) (d :: ds) := fun H1 s Q q =>
  h H1 s _ fun v H2 s2 dv => r H2 (s.trans s2) _ fun vs H3 s3 dvs => q _ H3 (s2.trans s3) (.cons (dp_same (hid_same s3) dv) dvs)
theorem hid_new {p P : Addr} {H : Hp} {o : HO} (hP : H P ≠ none) (np : H p = none) : hid P (upd H p o) p = some o := hid_at upd_same fun z => hP (z ▸ np)
theorem de_tup (hP : H P ≠ none) (r : DEs K P σ H ta ds) (hl : Nat.ble ds.length 1000 = true) : DE K P σ H (tTup ta) (.tuple ds) := fun H1 s Q q =>
  r H1 s _ fun vs H2 s2 dvs => ⟨Nat.le_trans (dpa_len dvs ▸ Nat.le_of_ble_eq_true hl) (by decide), fun p np => q _ _ (s2.trans (same_new np)) (by
    have h2 : H2 P ≠ none := fun z => by
      cases e : H P with
      | none => exact hP e
      | some o => rw [(s.trans s2) _ _ e] at z; cases z
    exact .tup (st_of (hid_new h2 np)) (dpa_same (hid_same (same_new np)) dvs))⟩
theorem dl_lst (hP : H P ≠ none) (r : DEs K P σ H ta ds) (hl : Nat.ble ds.length 1000 = true) : DL K P σ H (tLst ta) ds := fun H1 s Q q =>
  r H1 s _ fun vs H2 s2 dvs => ⟨Nat.le_trans (dpa_len dvs ▸ Nat.le_of_ble_eq_true hl) (by decide), fun p np => by
    have h2 : H2 P ≠ none := fun z => by
      cases e : H P with
      | none => exact hP e
      | some o => rw [(s.trans s2) _ _ e] at z; cases z
    exact q p vs _ (s2.trans (same_new np)) upd_same (fun z => h2 (z ▸ np)) (dpa_same (hid_same (same_new np)) dvs)⟩
theorem de_lst (hP : H P ≠ none) (r : DEs K P σ H ta ds) (hl : Nat.ble ds.length 1000 = true) : DE K P σ H (tLst ta) (.list ds) := fun H1 s Q q =>
  dl_lst hP r hl H1 s Q fun p xs H2 s2 e n dx => q _ H2 s2 (.lst (sq_of (hid_at e n)) dx)
end
/-! ### the rows that are known by name -/
def kE : Line := ("e", 1, [[(1, "e")], [(1, "e")]])
def kZ : Line := ("z", 1, [[(1, "z")], []])
def kO : Line := ("o", 0, [[(1, "o")], [(1, "o"), (1, "e")]])
def kS : Line := ("s", 0, [[(1, "s")], [(1, "s"), (1, "t")]])
def kT : Line := ("t", 1, [[(1, "s"), (1, "t")], [(1, "t")]])
def kJ : Line := ("j", 1, [[(2, "j"), (-1, "e")], [(2, "j"), (1, "e"), (-2, "z")]])
def kI : Line := ("i", 0, [[(2, "i")], [(2, "i"), (1, "e")]])
def kP : Line := ("p", 0, [[(2, "p")], [(2, "p"), (1, "z")]])
def kG : Line := ("g", 1, [[(1, "g")], [(2, "g")]])
def knowns : List (List Line × Str) := [([kO, kE], "o"), ([kS, kT], "s"), ([kZ, kJ, kE], "j"), ([kI, kE], "i"), ([kP, kZ], "p"), ([kG], "g"), ([kZ], "z"), ([kE], "e")]
def soundB (b : Int) (L : List Line) : Bool :=
  (decide (b = 2) || decide (b = 3) || decide (b = 4)) && Nat.ble L.length 26 && L.all (fun l => letterB l.1 && Nat.ble l.1.length 1000) && decide (names L).Nodup && L.all (fun l => decide ((l.2.2.length : Int) = b)) &&
  L.all (fun l => l.2.2.all fun f => Nat.ble f.length 100 && f.all fun t => decide (t.2 ∈ names L) && Nat.ble (t.1.natAbs + 1) 1024) && L.all (fun l => Nat.ble (l.2.1.natAbs + 1) 1048576) &&
  L.all (fun l => match l.2.2 with | f :: _ => decide (l.2.1 = sumF (names L) (starts L) f) | [] => true)
theorem sound_of {b : Int} {L : List Line} (h : soundB b L = true) : Sound b L := by
  unfold soundB at h
  simp only [Bool.and_eq_true, List.all_eq_true, Bool.or_eq_true, decide_eq_true_eq, Nat.ble_eq] at h
  obtain ⟨⟨⟨⟨⟨⟨⟨h1, h2⟩, h3⟩, h4⟩, h5⟩, h6⟩, h7⟩, h8⟩ := h
  refine ⟨?_, h2, fun l hl => h3 l hl, h4, h5, fun l hl f hf => (h6 l hl f hf).1, fun l hl f hf t ht => ((h6 l hl f hf).2 t ht).1, fun l hl f hf t ht => Nat.lt_of_succ_le ((h6 l hl f hf).2 t ht).2, fun l hl => Nat.lt_of_succ_le (h7 l hl), fun l hl f hf => ?_⟩
  · rcases h1 with (h | h) | h
    · exact .inl h
    · exact .inr (.inl h)
    · exact .inr (.inr h)
  · have q := h8 l hl
    cases e : l.2.2 with
    | nil => rw [e] at hf; cases hf
    | cons g r =>
      rw [e] at q hf
      have eg : g = f := Option.some.inj hf
      subst eg
      exact of_decide_eq_true q
theorem knowns_sound : ∀ p ∈ knowns, Sound 2 p.1 := fun p hp => sound_of (by
  have h : (knowns.all fun p => soundB 2 p.1) = true := by decide +kernel
  exact List.all_eq_true.mp h p hp)

/-! Figurebooks: what the known rows mean. -/
def lenD (n : Nat) : Nat := (digs 2 n).length
def sumD (n : Nat) : Nat := (digs 2 n).sum
def greatD (n : Nat) : Int := 2 ^ (lenD n - 1)
def oftenD (n : Nat) : Int := 2 ^ sumD n
theorem lenD_pos {n : Nat} (h : 0 < n) : lenD n = lenD (n / 2) + 1 := by unfold lenD; rw [digs_pos h (by decide), List.length_cons]
theorem sumD_pos {n : Nat} (h : 0 < n) : sumD n = n % 2 + sumD (n / 2) := by unfold sumD; rw [digs_pos h (by decide), List.sum_cons]
theorem lenD_zero : lenD 0 = 0 := by unfold lenD; rw [digs_zero]; rfl
theorem sumD_zero : sumD 0 = 0 := by unfold sumD; rw [digs_zero]; rfl
theorem great_one : greatD 1 = 1 := by
  unfold greatD
  rw [lenD_pos (by decide), show (1 : Nat) / 2 = 0 from rfl, lenD_zero]
  rfl
theorem great_two {n : Nat} (h : 2 ≤ n) : greatD n = 2 * greatD (n / 2) := by
  unfold greatD
  have h1 := lenD_pos (n := n) (by omega)
  have h2 := lenD_pos (n := n / 2) (by omega)
  rw [h1, show lenD (n / 2) + 1 - 1 = (lenD (n / 2) - 1) + 1 by omega, Int.pow_succ, Int.mul_comm]
theorem often_pos {n : Nat} (h : 0 < n) : oftenD n = (if n % 2 = 0 then 1 else 2) * oftenD (n / 2) := by
  unfold oftenD
  rw [sumD_pos h]
  have h2 : n % 2 = 0 ∨ n % 2 = 1 := by omega
  rcases h2 with e | e
  · rw [e, if_pos rfl, Nat.zero_add, Int.one_mul]
  · rw [e, if_neg (by decide), Nat.add_comm, Int.pow_succ, Int.mul_comm]
def zedD (n : Nat) : Int := if n = 0 then 1 else 0
def lastD (n : Nat) : Int := if n = 0 then 1 else 2 * ((n : Int) - greatD n) + 1
def powD (n : Nat) : Int := if n = 0 then 0 else greatD n
theorem half {n : Nat} : n % 2 = 0 ∨ n % 2 = 1 := by omega
theorem vec_e : ∀ n, vec 2 [kE] n = [1] := fun n => by
  induction n using Nat.strongRecOn with
  | _ n ih =>
    by_cases h : 0 < n
    · rw [vec_pos h (by decide), ih (n / 2) (by omega)]
      rcases half (n := n) with e | e <;> rw [e] <;> rfl
    · have e : n = 0 := by omega
      subst e
      rw [vec_zero]
      rfl
theorem vec_z : ∀ n, vec 2 [kZ] n = [zedD n] := fun n => by
  induction n using Nat.strongRecOn with
  | _ n ih =>
    by_cases h : 0 < n
    · rw [vec_pos h (by decide), ih (n / 2) (by omega)]
      have hz : zedD n = 0 := if_neg (by omega)
      rw [hz]
      rcases half (n := n) with e | e <;> rw [e]
      · have : zedD (n / 2) = 0 := if_neg (by omega)
        rw [this]
        rfl
      · rfl
    · have e : n = 0 := by omega
      subst e
      rw [vec_zero]
      rfl
theorem vec_g : ∀ n, vec 2 [kG] n = [oftenD n] := fun n => by
  induction n using Nat.strongRecOn with
  | _ n ih =>
    by_cases h : 0 < n
    · rw [vec_pos h (by decide), ih (n / 2) (by omega), often_pos h]
      rcases half (n := n) with e | e <;> rw [e]
      · rw [if_pos rfl]
        show [1 * oftenD (n / 2) + 0] = _
        rw [Int.add_zero]
      · rw [if_neg (by decide)]
        show [2 * oftenD (n / 2) + 0] = _
        rw [Int.add_zero]
    · have e : n = 0 := by omega
      subst e
      rw [vec_zero]
      unfold oftenD
      rw [sumD_zero]
      rfl
theorem vec_o : ∀ n, vec 2 [kO, kE] n = [(sumD n : Int), 1] := fun n => by
  induction n using Nat.strongRecOn with
  | _ n ih =>
    by_cases h : 0 < n
    · rw [vec_pos h (by decide), ih (n / 2) (by omega), sumD_pos h]
      rcases half (n := n) with e | e <;> rw [e]
      · show [1 * (sumD (n / 2) : Int) + 0, 1 * 1 + 0] = _
        congr 1
        simp
      · show [1 * (sumD (n / 2) : Int) + (1 * 1 + 0), 1 * 1 + 0] = _
        congr 1
        omega
    · have e : n = 0 := by omega
      subst e
      rw [vec_zero, sumD_zero]
      rfl
theorem vec_i : ∀ n, vec 2 [kI, kE] n = [(n : Int), 1] := fun n => by
  induction n using Nat.strongRecOn with
  | _ n ih =>
    by_cases h : 0 < n
    · rw [vec_pos h (by decide), ih (n / 2) (by omega)]
      rcases half (n := n) with e | e <;> rw [e]
      · show [2 * ((n / 2 : Nat) : Int) + 0, 1 * 1 + 0] = _
        congr 1
        omega
      · show [2 * ((n / 2 : Nat) : Int) + (1 * 1 + 0), 1 * 1 + 0] = _
        congr 1
        omega
    · have e : n = 0 := by omega
      subst e
      rw [vec_zero]
      rfl
theorem vec_p : ∀ n, vec 2 [kP, kZ] n = [powD n, zedD n] := fun n => by
  induction n using Nat.strongRecOn with
  | _ n ih =>
    by_cases h : 0 < n
    · rw [vec_pos h (by decide), ih (n / 2) (by omega)]
      have hz : zedD n = 0 := if_neg (by omega)
      have hp : powD n = greatD n := if_neg (by omega)
      rw [hz, hp]
      by_cases h2 : 2 ≤ n
      · have hz2 : zedD (n / 2) = 0 := if_neg (by omega)
        have hp2 : powD (n / 2) = greatD (n / 2) := if_neg (by omega)
        rw [hz2, hp2, great_two h2]
        rcases half (n := n) with e | e <;> rw [e]
        · show [2 * greatD (n / 2) + 0, 1 * 0 + 0] = _
          congr 1
        · show [2 * greatD (n / 2) + (1 * 0 + 0), 0] = _
          congr 1
      · have e1 : n = 1 := by omega
        subst e1
        rw [great_one]
        rfl
    · have e : n = 0 := by omega
      subst e
      rw [vec_zero]
      rfl
theorem vec_j : ∀ n, vec 2 [kZ, kJ, kE] n = [zedD n, lastD n, 1] := fun n => by
  induction n using Nat.strongRecOn with
  | _ n ih =>
    by_cases h : 0 < n
    · rw [vec_pos h (by decide), ih (n / 2) (by omega)]
      have hz : zedD n = 0 := if_neg (by omega)
      have hp : lastD n = 2 * ((n : Int) - greatD n) + 1 := if_neg (by omega)
      rw [hz, hp]
      by_cases h2 : 2 ≤ n
      · have hz2 : zedD (n / 2) = 0 := if_neg (by omega)
        have hp2 : lastD (n / 2) = 2 * (((n / 2 : Nat) : Int) - greatD (n / 2)) + 1 := if_neg (by omega)
        rw [hz2, hp2, great_two h2]
        rcases half (n := n) with e | e <;> rw [e]
        · show [1 * 0 + 0, 2 * (2 * (((n / 2 : Nat) : Int) - greatD (n / 2)) + 1) + (-1 * 1 + 0), 1 * 1 + 0] = _
          congr 1
          congr 1
          omega
        · show [0, 2 * (2 * (((n / 2 : Nat) : Int) - greatD (n / 2)) + 1) + (1 * 1 + (-2 * 0 + 0)), 1 * 1 + 0] = _
          congr 1
          congr 1
          omega
      · have e1 : n = 1 := by omega
        subst e1
        rw [great_one]
        rfl
    · have e : n = 0 := by omega
      subst e
      rw [vec_zero]
      rfl
/-- Stern's row and its mate -/
def sternS (n : Nat) : Int := (vec 2 [kS, kT] n).getD 0 0
def sternT (n : Nat) : Int := (vec 2 [kS, kT] n).getD 1 0
theorem vec_s (n : Nat) : vec 2 [kS, kT] n = [sternS n, sternT n] := by
  have h := vec_len (b := 2) (n := n) (L := [kS, kT]) (by decide)
  unfold sternS sternT
  match hv : vec 2 [kS, kT] n with
  | [a, b] => rfl
  | [] => rw [hv] at h; cases h
  | [a] => rw [hv] at h; cases h
  | a :: b :: c :: r => rw [hv] at h; cases h
theorem kS_sound : Sound 2 [kS, kT] := knowns_sound ([kS, kT], "s") (by unfold knowns; exact List.mem_cons_of_mem _ List.mem_cons_self)
theorem stern_even (m : Nat) : sternS (2 * m) = sternS m ∧ sternT (2 * m) = sternS m + sternT m := by
  have h := vec_step kS_sound (m := m) (k := 0) (by decide)
  rw [show (2 : Int).toNat = 2 from rfl, Nat.add_zero, vec_s m, vec_s (2 * m)] at h
  have h2 : stepV [kS, kT] [sternS m, sternT m] 0 = [1 * sternS m + 0, 1 * sternS m + (1 * sternT m + 0)] := rfl
  rw [h2] at h
  simp at h
  exact ⟨by omega, by omega⟩
theorem stern_odd (m : Nat) : sternS (2 * m + 1) = sternS m + sternT m ∧ sternT (2 * m + 1) = sternT m := by
  have h := vec_step kS_sound (m := m) (k := 1) (by decide)
  rw [show (2 : Int).toNat = 2 from rfl, vec_s m, vec_s (2 * m + 1)] at h
  have h2 : stepV [kS, kT] [sternS m, sternT m] 1 = [1 * sternS m + (1 * sternT m + 0), 1 * sternT m + 0] := rfl
  rw [h2] at h
  simp at h
  exact ⟨by omega, by omega⟩
theorem stern_mate : ∀ n, sternT n = sternS (n + 1) := fun n => by
  induction n using Nat.strongRecOn with
  | _ n ih =>
    rcases half (n := n) with e | e
    · obtain ⟨m, rfl⟩ : ∃ m, n = 2 * m := ⟨n / 2, by omega⟩
      rw [(stern_even m).2, (stern_odd m).1]
    · obtain ⟨m, rfl⟩ : ∃ m, n = 2 * m + 1 := ⟨n / 2, by omega⟩
      rw [(stern_odd m).2, show 2 * m + 1 + 1 = 2 * (m + 1) by omega, (stern_even (m + 1)).1, ih m (by omega)]
def meantV (letter : Str) (n : Nat) : Int :=
  if letter = "o" then (sumD n : Int) else if letter = "j" then lastD n else if letter = "p" then powD n else if letter = "i" then (n : Int) else if letter = "g" then oftenD n else if letter = "z" then zedD n else 1
/-- each known row but Stern's is what it means -/
theorem known_meant (n : Nat) : ∀ p ∈ knowns, p.2 ≠ "s" → dot (unitV p.1.length ((names p.1).idxOf p.2)) (vec 2 p.1 n) = meantV p.2 n := fun p hp hs => by
  unfold knowns at hp
  simp only [List.mem_cons, List.not_mem_nil, or_false] at hp
  rcases hp with rfl | rfl | rfl | rfl | rfl | rfl | rfl | rfl
  · rw [vec_o]
    show 1 * (sumD n : Int) + (0 * 1 + 0) = (sumD n : Int)
    omega
  · exact absurd rfl hs
  · rw [vec_j]
    show 0 * zedD n + (1 * lastD n + (0 * 1 + 0)) = lastD n
    omega
  · rw [vec_i]
    show 1 * (n : Int) + (0 * 1 + 0) = (n : Int)
    omega
  · rw [vec_p]
    show 1 * powD n + (0 * zedD n + 0) = powD n
    omega
  · rw [vec_g]
    show 1 * oftenD n + 0 = oftenD n
    omega
  · rw [vec_z]
    show 1 * zedD n + 0 = zedD n
    omega
  · rw [vec_e]
    show 1 * 1 + 0 = (1 : Int)
    omega
/-- a comprehension over a tuple of items, each an int worked out -/
theorem lt_ints {K : PySem.W.Frag} {a : Addr} {xs : List V} {g : TG} {tt : TT} {te : TE} {vs : List Nat} {σ : L2.St} {H1 : Hp} {D : Addr} {Qd : Hp → Prop} (φ : Nat → Int) (hS : SqT K H1 a xs) (hD : H1 D = none) (hl : xs.length ≤ 1000)
    (gm : ∀ x H (P P' : L2.St → Hp → Prop), (∀ σ H, P σ H → P' σ H) → g x (wipe σ vs) H P → g x (wipe σ vs) H P') (tm : ∀ σ H (P P' : Bool → Hp → Prop), (∀ b H, P b H → P' b H) → tt σ H P → tt σ H P')
    (hs : ∀ i x H (Q : VK), xs[i]? = some x → Same H1 H → (∀ H4, Same H H4 → Q (.int (φ i)) H4) → LcTurn g tt te vs σ x H Q)
    (hd : ∀ H, Same H1 H → H D = some (.lst ((List.range xs.length).map fun i => V.int (φ i))) → Qd H) :
    ∃ W : Nat → Nat → Hp → Prop, (∃ m, W 0 m (upd H1 D (.lst []))) ∧ ∀ i m H, W i m H →
      ((Itt K a).stop i H ∧ Qd H) ∨ ((Itt K a).go i H ∧ ∃ Nx : Hp → Prop, (∀ H', Nx H' → ∃ m', m' < m ∧ W (i + 1) m' H') ∧ ∀ x H', (Itt K a).yld i H x H' → g x (wipe σ vs) H' fun σ2 H2 => wipe σ2 vs = wipe σ vs ∧ tt σ2 H2 fun b H3 =>
        if b = true then te σ2 H3 fun y H4 => ∃ acc, H4 D = some (.lst acc) ∧ acc.length < sizeLine ∧ Nx (upd H4 D (.lst (acc ++ [y]))) else Nx H3) := by
  refine lc_tup (K := K) (a := a) (xs := xs) (fun i H => Same H1 H ∧ H D = some (.lst ((List.range i).map fun i => V.int (φ i)))) ⟨same_new hD, upd_same⟩ (fun i H _ ⟨s, _⟩ => sqt_same s hS) ?_ ?_
  · rintro i x H hx ⟨s, e⟩
    have hil : i < xs.length := (List.getElem?_eq_some_iff.mp hx).1
    refine gm x H _ _ ?_ (hs i x H (fun y H4 => ∃ acc, H4 D = some (.lst acc) ∧ acc.length < sizeLine ∧ (Same H1 (upd H4 D (.lst (acc ++ [y]))) ∧ (upd H4 D (.lst (acc ++ [y]))) D = some (.lst ((List.range (i + 1)).map fun i => V.int (φ i))))) hx s ?_)
    · rintro σ2 H2 ⟨w, h⟩
      refine ⟨w, tm _ _ _ _ ?_ h⟩
      intro b H3 h
      cases b with
      | true =>
        rw [if_pos rfl] at h ⊢
        exact h
      | false =>
        rw [if_neg Bool.false_ne_true] at h
        exact h.elim
    · intro H4 s4
      refine ⟨_, s4 _ _ e, ?_, Fb.Same.mut (s.trans s4) hD, ?_⟩
      · rw [List.length_map, List.length_range]
        exact small1000 (by omega)
      · rw [upd_same, List.range_succ, List.map_append]
        rfl
  · rintro H ⟨s, e⟩
    exact hd H s e
theorem Same.of_keep {p : Addr} {H H1 H2 : Hp} (s : Same H H1) (k : Keep p H1 H2) (hp : H p = none) : Same H H2 := fun a o e => k a o (s a o e) (ne_of_none e hp)
theorem sum_dv (l : List Nat) : (l.map fun d : Nat => (d : Int)).sum = ((l.sum : Nat) : Int) := by
  induction l with
  | nil => rfl
  | cons x r ih =>
    rw [List.map_cons, List.sum_cons, List.sum_cons, ih]
    simp
theorem sum_rev (l : List Nat) : l.reverse.sum = l.sum := by
  induction l with
  | nil => rfl
  | cons x r ih =>
    rw [List.reverse_cons, List.sum_append, ih, List.sum_cons, List.sum_cons]
    simp
    omega
theorem eqv_ints3 (a b c : Int) : PyData.eqv (.list [.int a, .int b, .int c]) (.list [.int a, .int b, .int c]) = true := SeqAt.eqv_refl _ (by simp [PyData.canLay0, PyData.canLayAll0])
theorem shaped_ints3 (a b c : Int) : SeqAt.shaped (.list [.int a, .int b, .int c]) = true := by
  unfold SeqAt.shaped
  simp [PyData.canLay0, PyData.canLayAll0, PyData.depth, PyData.depthAll]
abbrev OkL (P : Program) (w : World) (K : PySem.W.Frag) (mg : Str → Option Value) (base : Heap) (k : Nat) (f : Addr) (fd : FuncData) (ps : List Str) (sp : Sp) : Prop := FnOk P w K mg base CX0 k f fd ps sp
/-- law's: the script is handed in, True comes out -/
def spLaw (K : PySem.W.Frag) : Sp := fun vs H Q _ => ∃ (a : Addr) (ns : List Int), vs = [.ref a] ∧ SqL K H a (ns.map V.int) ∧ ns.length ≤ 63 ∧ ∀ H', Q (.bl true) H'
theorem walk_L {l : PySem.W.OpenLaw} {n k : Nat} {q : Program} {loose : List Str} {XP : (Str → Option Value) → Heap → Prop} {YP : World → Heap → Prop} {d : DefRec} {K : Params → PySem.W.Frag} {sp : World → Sp} {x : Str}
    (hn : l.most = some n) (hn2 : n ≤ sizeLine) (hdf : d.params.defaults = []) (hr : Room k callerA)
    (hY : ∀ (w : World) (h : Heap), YP w h → (K w.params).In h)
    (F : ∀ (w : World) (mg : Str → Option Value) (fa : Addr) (h : Heap), (K w.params).In h → h.Ns mainGlobals mg → mg d.name = some (.ref fa) →
      ∃ fd : FuncData, (∀ (s : Shared) (u : Value), BindsTo s fd ⟨[u], []⟩ [(x, u)]) ∧
        ∀ base : Heap, (K w.params).In base → base.Ns mainGlobals mg → OkL l.prog w (K w.params) mg base k fa fd [x] (sp w))
    (hsp : ∀ (w : World) (H : Hp) (a : Addr) (ns : List Int), ns.length ≤ n → Only H → SqL (K w.params) H a (ns.map V.int) → sp w [.ref a] H (fun v _ => v = .bl true) fun _ _ _ => False) :
    PySem.W.WalkO q loose XP YP l.row.toRowW d [] (fun f vs => PySem.call f vs) := L2.walk_of (CX := fun _ => CX0) hn hn2 hdf hr hY F hsp fun _ _ _ _ _ h => h

/-! Figurebooks: systems: values by figures, bounds, data that is passed to one. -/
abbrev rTupOf (K : PySem.W.Frag) : List V → Hp → VK → Prop := fun xs H Q => ∃ p ys, xs = [.ref p] ∧ ((SqL K H p ys ∧ ∀ l, H l = none → Q (.ref l) (upd H l (.tup ys))) ∨ (SqT K H p ys ∧ Q (.ref p) H))
def sumT (vals : List Int) (f : List Tm) : Int := (f.map fun t => t.1 * vals.getD t.2 0).sum
def stepT (S : Sys) (vals : List Int) (k : Nat) : List Int := (S.2.getD k []).map (sumT vals)
def vecS (S : Sys) (n : Nat) : List Int := (digs S.2.length n).reverse.foldl (stepT S) S.1
structure SOK (S : Sys) : Prop where
  base : 2 ≤ S.2.length ∧ S.2.length ≤ 4
  many : S.1.length ≤ 900
  rows : ∀ r ∈ S.2, r.length = S.1.length
  small : ∀ r ∈ S.2, ∀ f ∈ r, f.length ≤ 900
  known : ∀ r ∈ S.2, ∀ f ∈ r, ∀ t ∈ f, t.2 < S.1.length
  coefs : ∀ r ∈ S.2, ∀ f ∈ r, ∀ t ∈ f, t.1.natAbs < 2 ^ 10
  begins : ∀ v ∈ S.1, v.natAbs < 2 ^ 20
theorem sumT_ix (ns : List Str) (vals : List Int) (f : List Term) : sumT vals (ixT ns f) = sumF ns vals f := by
  unfold sumT ixT sumF
  rw [List.map_map]
  rfl
theorem stepT_sys {b : Int} {L : List Line} {vals : List Int} {k : Nat} (hk : k < b.toNat) : stepT (sysOf b L) vals k = stepV L vals k := by
  unfold stepT sysOf stepV
  rw [List.getD_eq_getElem?_getD, List.getElem?_map, List.getElem?_range hk]
  show ((rowsT (names L) L k).map (sumT vals)) = _
  unfold rowsT
  rw [List.map_map]
  exact List.map_congr_left fun l _ => sumT_ix _ _ _
theorem foldl_mem {α β : Type} {f g : α → β → α} : ∀ (ds : List β) (a : α), (∀ d ∈ ds, ∀ v, f v d = g v d) → ds.foldl f a = ds.foldl g a
  | [], _, _ => rfl
  | d :: ds, a, h => by
    rw [List.foldl_cons, List.foldl_cons, h d List.mem_cons_self]
    exact foldl_mem ds _ fun e he => h e (List.mem_cons_of_mem _ he)
theorem sys_base {b : Int} {L : List Line} : (sysOf b L).2.length = b.toNat := by
  unfold sysOf
  rw [List.length_map, List.length_range]
theorem vecS_sys {b : Int} {L : List Line} (hb : 2 ≤ b.toNat) (n : Nat) : vecS (sysOf b L) n = vec b.toNat L n := by
  unfold vecS vec
  rw [sys_base]
  exact foldl_mem _ _ fun d hd v => stepT_sys (digs_lt hb n d (List.mem_reverse.mp hd))
theorem sok_sys {b : Int} {L : List Line} (S : Sound b L) : SOK (sysOf b L) := by
  have hb := S.base
  have hm := S.many
  have hst : (starts L).length = L.length := List.length_map ..
  have hns : (names L).length = L.length := List.length_map ..
  have key : ∀ r ∈ (sysOf b L).2, ∃ k, k < b.toNat ∧ r = rowsT (names L) L k := fun r hr => by
    obtain ⟨k, hk, e⟩ := List.mem_map.mp hr
    exact ⟨k, List.mem_range.mp hk, e.symm⟩
  have key2 : ∀ r ∈ (sysOf b L).2, ∀ f ∈ r, ∃ l ∈ L, ∃ g ∈ l.2.2, f = ixT (names L) g := fun r hr f hf => by
    obtain ⟨k, hk, e⟩ := key r hr
    subst e
    obtain ⟨l, hl, e⟩ := List.mem_map.mp hf
    have h1 := S.forms l hl
    have h2 : k < l.2.2.length := by omega
    refine ⟨l, hl, l.2.2.getD k [], ?_, e.symm⟩
    rw [List.getD_eq_getElem?_getD, List.getElem?_eq_getElem h2]
    exact List.getElem_mem h2
  refine ⟨?_, ?_, ?_, ?_, ?_, ?_, ?_⟩
  · rw [sys_base]
    omega
  · show (starts L).length ≤ 900
    omega
  · intro r hr
    obtain ⟨k, hk, e⟩ := key r hr
    subst e
    show (L.map _).length = (starts L).length
    rw [List.length_map, hst]
  · intro r hr f hf
    obtain ⟨l, hl, g, hg, e⟩ := key2 r hr f hf
    subst e
    have := S.small l hl g hg
    unfold ixT
    rw [List.length_map]
    omega
  · intro r hr f hf t ht
    obtain ⟨l, hl, g, hg, e⟩ := key2 r hr f hf
    subst e
    obtain ⟨u, hu, e⟩ := List.mem_map.mp ht
    subst e
    have h1 := S.known l hl g hg u hu
    have h2 := List.idxOf_lt_length_iff.mpr h1
    show (names L).idxOf u.2 < (starts L).length
    omega
  · intro r hr f hf t ht
    obtain ⟨l, hl, g, hg, e⟩ := key2 r hr f hf
    subst e
    obtain ⟨u, hu, e⟩ := List.mem_map.mp ht
    subst e
    exact S.coefs l hl g hg u hu
  · intro v hv
    obtain ⟨l, hl, e⟩ := List.mem_map.mp hv
    subst e
    exact S.begins l hl
theorem getD_le' {vals : List Int} {M i : Nat} (h : ∀ y ∈ vals, y.natAbs ≤ M) : (vals.getD i 0).natAbs ≤ M := by
  rw [List.getD_eq_getElem?_getD]
  cases e : vals[i]? with
  | none => exact Nat.zero_le _
  | some v => exact h v (List.mem_of_getElem? e)
theorem sumT_le {vals : List Int} {f : List Tm} {M : Nat} (h : ∀ v ∈ vals, v.natAbs ≤ M) (hf : f.length ≤ 900) (hc : ∀ t ∈ f, t.1.natAbs < 2 ^ 10) : (sumT vals f).natAbs ≤ 2 ^ 20 * M := by
  have h1 : (sumT vals f).natAbs ≤ (f.map fun t => t.1 * vals.getD t.2 0).length * (2 ^ 10 * M) := sum_le fun x hx => by
    obtain ⟨t, ht, e⟩ := List.mem_map.mp hx
    subst e
    rw [Int.natAbs_mul]
    exact Nat.mul_le_mul (Nat.le_of_lt (hc t ht)) (getD_le' h)
  rw [List.length_map] at h1
  have h2 : f.length * (2 ^ 10 * M) ≤ 1024 * (2 ^ 10 * M) := Nat.mul_le_mul_right _ (by omega)
  have h3 : 1024 * (2 ^ 10 * M) = 2 ^ 20 * M := by rw [← Nat.mul_assoc]
  omega
theorem stepT_mem {S : Sys} {vals : List Int} {k : Nat} {v : Int} (hv : v ∈ stepT S vals k) : ∃ r ∈ S.2, ∃ f ∈ r, v = sumT vals f := by
  unfold stepT at hv
  rw [List.getD_eq_getElem?_getD] at hv
  cases e : S.2[k]? with
  | none => rw [e] at hv; cases hv
  | some r =>
    rw [e] at hv
    obtain ⟨f, hf, e2⟩ := List.mem_map.mp hv
    exact ⟨r, List.mem_of_getElem? e, f, hf, e2.symm⟩
theorem stepT_le {S : Sys} (O : SOK S) {vals : List Int} {k M : Nat} (h : ∀ v ∈ vals, v.natAbs ≤ M) : ∀ v ∈ stepT S vals k, v.natAbs ≤ 2 ^ 20 * M := fun v hv => by
  obtain ⟨r, hr, f, hf, e⟩ := stepT_mem hv
  subst e
  exact sumT_le h (O.small r hr f hf) (O.coefs r hr f hf)
theorem stepT_len {S : Sys} (O : SOK S) {vals : List Int} {k : Nat} (hk : k < S.2.length) : (stepT S vals k).length = S.1.length := by
  unfold stepT
  rw [List.length_map, List.getD_eq_getElem?_getD, List.getElem?_eq_getElem hk]
  exact O.rows _ (List.getElem_mem hk)
theorem foldT_le {S : Sys} (O : SOK S) : ∀ (ds : List Nat) (vals : List Int) (m : Nat), (∀ v ∈ vals, v.natAbs ≤ 2 ^ m) → ∀ v ∈ ds.foldl (stepT S) vals, v.natAbs ≤ 2 ^ (m + 20 * ds.length)
  | [], vals, m, h, v, hv => h v hv
  | d :: ds, vals, m, h, v, hv => by
    have h1 : ∀ v ∈ stepT S vals d, v.natAbs ≤ 2 ^ (m + 20) := fun v hv => by
      have := stepT_le O h v hv
      rw [← Nat.pow_add] at this
      rw [show m + 20 = 20 + m by omega]
      exact this
    have := foldT_le O ds (stepT S vals d) (m + 20) h1 v hv
    rw [show m + 20 * (d :: ds).length = m + 20 + 20 * ds.length by rw [List.length_cons]; omega]
    exact this
theorem foldT_len {S : Sys} (O : SOK S) : ∀ (ds : List Nat) (vals : List Int), (∀ d ∈ ds, d < S.2.length) → vals.length = S.1.length → (ds.foldl (stepT S) vals).length = S.1.length
  | [], _, _, h => h
  | d :: ds, vals, hd, _ => foldT_len O ds (stepT S vals d) (fun e he => hd e (List.mem_cons_of_mem _ he)) (stepT_len O (hd d List.mem_cons_self))
theorem begins_le {S : Sys} (O : SOK S) : ∀ v ∈ S.1, v.natAbs ≤ 2 ^ 20 := fun v hv => Nat.le_of_lt (O.begins v hv)
theorem digs_len' {b : Nat} (hb : 2 ≤ b) : ∀ (m n : Nat), n < 2 ^ m → (digs b n).length ≤ m
  | 0, n, h => by
    have e : n = 0 := by omega
    rw [e, digs_zero]
    exact Nat.le_refl _
  | m + 1, n, h => by
    by_cases hp : 0 < n
    · have h1 : n / b < 2 ^ m := by
        rw [Nat.div_lt_iff_lt_mul (by omega)]
        have h2 : 2 ^ m * 2 ≤ 2 ^ m * b := Nat.mul_le_mul_left _ hb
        have h3 : 2 ^ (m + 1) = 2 ^ m * 2 := rfl
        omega
      rw [digs_pos hp hb, List.length_cons]
      have := digs_len' hb m (n / b) h1
      omega
    · have e : n = 0 := by omega
      rw [e, digs_zero]
      exact Nat.zero_le _
theorem vecS_le {S : Sys} (O : SOK S) {m n : Nat} (hn : n < 2 ^ m) : ∀ v ∈ vecS S n, v.natAbs ≤ 2 ^ (20 + 20 * m) := fun v hv => by
  have h1 := foldT_le O _ S.1 20 (begins_le O) v hv
  rw [List.length_reverse] at h1
  have h2 := digs_len' O.base.1 m n hn
  exact Nat.le_trans h1 (Nat.pow_le_pow_right (by decide) (by omega))
theorem vecS_len {S : Sys} (O : SOK S) (n : Nat) : (vecS S n).length = S.1.length :=
  foldT_len O _ _ (fun d hd => digs_lt O.base.1 n d (List.mem_reverse.mp hd)) rfl
theorem vecS_zero {S : Sys} : vecS S 0 = S.1 := by
  unfold vecS
  rw [digs_zero]
  rfl
theorem vecS_pos {S : Sys} (O : SOK S) {n : Nat} (h : 0 < n) : vecS S n = stepT S (vecS S (n / S.2.length)) (n % S.2.length) := by
  unfold vecS
  rw [digs_pos h O.base.1, List.reverse_cons, List.foldl_append]
  rfl
/-! ### what is passed to a system -/
def TermsAt (K : PySem.W.Frag) (H : Hp) (v : V) (f : List Tm) : Prop := ∃ r zs, v = .ref r ∧ (SqL K H r zs ∨ SqT K H r zs) ∧ DpAll K H zs (f.map dTm)
def StepAt (K : PySem.W.Frag) (H : Hp) (v : V) (row : List (List Tm)) : Prop := ∃ r ys, v = .ref r ∧ SqL K H r ys ∧ ys.length = row.length ∧ ∀ (j : Nat) (y : V) (f : List Tm), ys[j]? = some y → row[j]? = some f → TermsAt K H y f
def StepsAt (K : PySem.W.Frag) (H : Hp) (v : V) (steps : List (List (List Tm))) : Prop := ∃ r xs, v = .ref r ∧ SqL K H r xs ∧ xs.length = steps.length ∧ ∀ (i : Nat) (x : V) (row : List (List Tm)), xs[i]? = some x → steps[i]? = some row → StepAt K H x row
theorem TermsAt.same {K : PySem.W.Frag} {H H' : Hp} {v : V} {f : List Tm} (e : Same H H') (h : TermsAt K H v f) : TermsAt K H' v f := by
  obtain ⟨r, zs, h1, h2, h3⟩ := h
  exact ⟨r, zs, h1, h2.elim (fun z => .inl (e.seq z)) (fun z => .inr (sqt_same e z)), dpa_same e h3⟩
theorem StepAt.same {K : PySem.W.Frag} {H H' : Hp} {v : V} {f : List (List Tm)} (e : Same H H') (h : StepAt K H v f) : StepAt K H' v f := by
  obtain ⟨r, zs, h1, h2, h3, h4⟩ := h
  exact ⟨r, zs, h1, e.seq h2, h3, fun j y f a b => (h4 j y f a b).same e⟩
theorem StepsAt.same {K : PySem.W.Frag} {H H' : Hp} {v : V} {f : List (List (List Tm))} (e : Same H H') (h : StepsAt K H v f) : StepsAt K H' v f := by
  obtain ⟨r, zs, h1, h2, h3, h4⟩ := h
  exact ⟨r, zs, h1, e.seq h2, h3, fun j y f a b => (h4 j y f a b).same e⟩
theorem dp_tm_nw {K : PySem.W.Frag} {H H' : Hp} {v : V} {t : Tm} (s : Same H H') (h : Dp K H v (dTm t)) : Dp K (nw H H') v (dTm t) := by
  obtain ⟨a, x, y, rfl, q, h1, h2⟩ := dp_pair h
  cases h1
  cases h2
  exact .tup (sqt_nw s q) (.cons (.int _) (.cons (.int _) .nil))
theorem dpa_tms_nw {K : PySem.W.Frag} {H H' : Hp} (s : Same H H') : ∀ {vs : List V} {f : List Tm}, DpAll K H vs (f.map dTm) → DpAll K (nw H H') vs (f.map dTm)
  | [], [], _ => .nil
  | v :: vs, t :: f, .cons h r => .cons (dp_tm_nw s h) (dpa_tms_nw s r)
/-- what a formula with places in the place of names is as data, passed -/
theorem steps_of_dp {K : PySem.W.Frag} {H : Hp} {r : Addr} {b : Int} {ns : List Str} {L : List Line} (h : Dp K H (.ref r) (.list ((List.range b.toNat).map (dSteps ns L)))) : StepsAt K H (.ref r) ((List.range b.toNat).map (rowsT ns L)) := by
  obtain ⟨a, xs, e, s, A⟩ := dp_list h
  cases e
  refine ⟨r, xs, rfl, s, ?_, fun i x row h1 h2 => ?_⟩
  · have := dpa_map_len A
    simpa using this
  · obtain ⟨k, hk, hd⟩ := dpa_at A h1
    rw [List.getElem?_map, hk] at h2
    have e := Option.some.inj h2
    subst e
    obtain ⟨a2, ys, e2, s2, A2⟩ := dp_list hd
    refine ⟨a2, ys, e2, s2, ?_, fun j y f h3 h4 => ?_⟩
    · have := dpa_map_len A2
      unfold rowsT
      rw [List.length_map]
      exact this
    · obtain ⟨l, hl, hdl⟩ := dpa_at A2 h3
      unfold rowsT at h4
      rw [List.getElem?_map, hl] at h4
      have e := Option.some.inj h4
      subst e
      obtain ⟨a3, zs, e3, s3, A3⟩ := dp_list hdl
      refine ⟨a3, zs, e3, .inl s3, ?_⟩
      unfold ixT
      rw [List.map_map]
      exact A3
/-- a tuple of tuples, an item of it -/
theorem sys_row {K : PySem.W.Frag} {H : Hp} {c : Addr} {S : Sys} (h : Dp K H (.ref c) (dSt S)) {k : Nat} (hk : k < S.2.length) : ∃ xs g ys, SqT K H c xs ∧ xs.length = S.2.length ∧ xs[k]? = some (.ref g) ∧ SqT K H g ys ∧ DpAll K H ys ((S.2.getD k []).map dTms) := by
  obtain ⟨c', xs, e, s, A⟩ := dp_tuple h
  cases e
  have hl := dpa_map_len A
  have hkx : k < xs.length := by omega
  obtain ⟨row, hr, hd⟩ := dpa_at A (List.getElem?_eq_getElem hkx)
  obtain ⟨g, ys, eg, sg, Ag⟩ := dp_tuple hd
  refine ⟨xs, g, ys, s, hl, by rw [List.getElem?_eq_getElem hkx, eg], sg, ?_⟩
  rw [List.getD_eq_getElem?_getD, hr]
  exact Ag

/-! Figurebooks: zip of a list with a list or a tuple. -/
/-- the list at a and the tuple at b, side by side -/
def ItzM (K : PySem.W.Frag) (a b : Addr) : It where
  go := fun n H => ∃ (ls ts : List V) (l t : V), SqL K H a ls ∧ SqT K H b ts ∧ ls[n]? = some l ∧ ts[n]? = some t
  yld := fun n H v H' => ∃ T l t, v = .ref T ∧ H T = none ∧ H' = upd H T (.tup [l, t]) ∧ (∀ ls, SqL K H a ls → ls[n]? = some l) ∧ ∀ ts, SqT K H b ts → ts[n]? = some t
  stop := fun n H => ∃ ls ts : List V, SqL K H a ls ∧ SqT K H b ts ∧ n ≤ ls.length ∧ n ≤ ts.length ∧ (n = ls.length ∨ n = ts.length)
theorem sepM {z p q c d a b : Addr} (D : ZipApart z p q c d a b) : ZipSep2 z p q c d [c, a] [d, b] where
  TIz := D.TIz
  TOz := D.TOz
  TITO := D.TITO
  TIi1 := D.TIi1
  mem1 := by simp
  zf1 := by simpa using ⟨D.i1z.symm, D.l1z.symm⟩
  Tf1 := by simpa using ⟨D.TOi1, D.l1TO.symm⟩
  TIi2 := D.TIi2
  mem2 := by simp
  zf2 := by simpa using ⟨D.i2z.symm, D.l2z.symm⟩
  Tf2 := by simpa using ⟨D.TOi2, D.l2TO.symm⟩
  sep1_2 := by simpa using ⟨D.i12, D.l2i1.symm⟩
  sep2_1 := by simpa using ⟨D.i12.symm, D.l1i2.symm⟩
def stM (a b z p q c d : Addr) (n : Nat) (h : Heap) : Prop :=
  IsZip h z p q .none ∧ IsTupOf2 h p (.ref c) (.ref d) ∧ (∃ x y, IsTupOf2 h q x y) ∧ h.IsListIter c a n ∧ h.IsTupleIter d b n
theorem stM_lt {a b z p q c d : Addr} {n : Nat} {h : Heap} (st : stM a b z p q c d n h) {e : Addr} (he : e ∈ [z, p, q, c, d]) : ∃ o, h.get? e = some o ∧ ∀ v, o.data ≠ .cell v := by
  obtain ⟨e1, e2, ⟨x, y, e3⟩, ⟨o4, e4, _, d4⟩, ⟨o5, e5, _, d5⟩⟩ := st
  simp only [List.mem_cons, List.not_mem_nil, or_false] at he
  rcases he with r | r | r | r | r <;> subst r
  · exact ⟨_, e1, fun v g => by cases g⟩
  · exact ⟨_, e2, fun v g => by cases g⟩
  · exact ⟨_, e3, fun v g => by cases g⟩
  · exact ⟨_, e4, fun v g => by rw [d4] at g; cases g⟩
  · exact ⟨_, e5, fun v g => by rw [d5] at g; cases g⟩
theorem turnM {P : Program} {w : World} {K : PySem.W.Frag} {els : List Expr} {kx : Nat} {tp : Pos} {a b z p q c d : Addr} (D : ZipApart z p q c d a b) :
    Turn P w K (.Tuple els kx tp) (ItzM K a b) [z, p, q, c, d] z (stM a b z p q c d) where
  mem := List.mem_cons_self
  obj := fun n h st e he => stM_lt st he
  keep := fun n h h' ⟨e1, e2, ⟨x, y, e3⟩, e4, e5⟩ k =>
    ⟨k z (by simp) _ e1, k p (by simp) _ e2, ⟨x, y, k q (by simp) _ e3⟩, e4.at fun o g => k c (by simp) o g, e5.at fun o g => k d (by simp) o g⟩
  item := by
    rintro X rfl rfl rfl hc n pins s σ H E I hf st ⟨ls, ts, l, t, hl, ht, el, et⟩
    obtain ⟨us, ru, pl, _⟩ := I.list hl
    obtain ⟨ws, rt, pt, _⟩ := I.tuple ht
    obtain ⟨u, hu, lu⟩ := ru.get el
    obtain ⟨w2, hw2, tw⟩ := rt.get et
    have hd : X.A.in1.handled = none := I.ok.hd hc
    have hlive := fun e he => stM_lt st (e := e) he
    obtain ⟨g1, g2, g3, g4, g5⟩ := st
    have W := GoesN.ofWalksT (elts := els) (k := kx) (pos := tp) (WalksT.zipD2 (prog := X.prog) (w := X.w) (A := X.A) (sepM D) (Draws.list hd c a D.l1i1 us.toArray) (Draws.tuple hd d b D.l2i2 ws.toArray))
    have n1 : n < us.toArray.size := by
      have := (List.getElem?_eq_some_iff.mp hu).1
      simpa using this
    have n2 : n < ws.toArray.size := by
      have := (List.getElem?_eq_some_iff.mp hw2).1
      simpa using this
    refine W.goes n s (fun u s2 => ∃ x H', Inv X pins σ H' s2 ∧ RelV x u ∧ (ItzM X.K a b).yld n H x H' ∧ stM a b z p q c d (n + 1) s2.heap ∧ ∀ b ∈ [z, p, q, c, d], H' b = none) E (by omega) ⟨g1, g2, g3, ⟨g4, pl.isList⟩, g5, pt⟩ ?_
    rintro v h' tk ⟨T, vals, rfl, hT, ⟨x1, x2, hx1, hx2, rfl⟩, hTup⟩ ⟨k1, k2, k3, ⟨k4, _⟩, k5, _⟩ hk _
    have q1 : x1 = u := Option.some.inj (hx1.symm.trans (by simpa using hu))
    have q2 : x2 = w2 := Option.some.inj (hx2.symm.trans (by simpa using hw2))
    subst q1
    subst q2
    have ob : ObjOk X.prog X.w (upd H T (.tup [l, t])) h' T (.tup [l, t]) := ⟨Nat.le_of_ble_eq_true rfl, [x1, x2], .cons lu (.cons tw .nil), hTup⟩
    have I2 := I.turnedNew (t' := tk) (ch := [z, p, q, c, d]) (fun e o ne g => hk e o (fun m => ne (by
      simp only [List.mem_cons, List.not_mem_nil, or_false] at m ⊢
      rcases m with r | r | r | r <;> simp [r])) g) hf hT ob
    refine ⟨.ref T, _, I2, rfl, ⟨T, l, t, rfl, I.hok.fresh hT, rfl, fun l2 h2 => ?_, fun t2 h2 => ?_⟩, ⟨k1, k2, k3, k4, k5⟩, fun e he => ?_⟩
    · rw [I.list_inj h2 hl]
      exact el
    · rw [I.tuple_inj h2 ht]
      exact et
    · obtain ⟨o, ho, _⟩ := hlive e he
      have := Heap.lt_size ho
      rw [upd_ne (show e ≠ T from fun r => by subst r; exact absurd hT (Nat.not_le.mpr this))]
      exact (hf e he).1
  done := by
    rintro X rfl rfl rfl hc n pins s σ H E I hf ⟨g1, g2, g3, g4, g5⟩ ⟨ls, ts, hl, ht, b1, b2, b3⟩
    obtain ⟨us, ru, pl, _⟩ := I.list hl
    obtain ⟨ws, rt, pt, _⟩ := I.tuple ht
    have r1 := ru.length
    have r2 := rt.length
    have hd : X.A.in1.handled = none := I.ok.hd hc
    have W := GoesN.ofWalksT (elts := els) (k := kx) (pos := tp) (WalksT.zipD2 (prog := X.prog) (w := X.w) (A := X.A) (sepM D) (Draws.list hd c a D.l1i1 us.toArray) (Draws.tuple hd d b D.l2i2 ws.toArray))
    have en : n = min us.toArray.size ws.toArray.size := by
      simp
      omega
    refine W.stops s (fun s1 => Inv X pins σ H s1) E (en ▸ ⟨g1, g2, g3, ⟨g4, pl.isList⟩, g5, pt⟩) fun h' tk hk _ => ?_
    exact I.turnedL (t' := tk) (ch := [z, p, q, c, d]) (fun e o ne g => hk e o (fun m => ne (by
      simp only [List.mem_cons, List.not_mem_nil, or_false] at m ⊢
      rcases m with r | r | r | r <;> simp [r])) g) hf
  self := fun A n s Q E st h => wpAny_pyIter_zip st.1 h
/-- zip of a list with a list or a tuple -/
def iZipE (K : PySem.W.Frag) (ta : TA) : TI := fun σ H R => ta σ H fun vs H1 => ∃ a b, vs = [.ref a, .ref b] ∧ ∃ ls ms, SqL K H1 a ls ∧ ((SqL K H1 b ms ∧ R (Itz K a b) H1) ∨ (SqT K H1 b ms ∧ R (ItzM K a b) H1))
theorem pi_zipE {X : Cx} {e1 e2 : Expr} {ta : TA} {p0 p1 p2 : Pos} {els : List Expr} {kx : Nat} (hg : Gl X "zip") (hm : X.mg "zip" = none) (ha : PA X [e1, e2] ta)
    (hs : starEach [e1, e2] X.env = (false, eval e1 X.env) :: starEach [e2] X.env := by rfl) (hpl : (backTo p1 (starEach [e2] X.env)).any (·.1) = false := by rfl) :
    PI X (.Tuple els kx p2) (.Call (.Name "zip" p0) [e1, e2] [] p1) (iZipE X.K ta) := by
  constructor
  intro pins s σ H R I h
  refine Call_ (ld_blt I hg hm boot_zip (callWith_type1 (thn (ha.run p1 pins s σ H _ I h) ?_) hs hpl))
  intro us s1 ⟨vs, H1, I1, r1, q1⟩
  obtain ⟨a, b, rfl, ls, ms, hl, q1⟩ := q1
  rcases r1 with _ | ⟨ra, _ | ⟨rb, _ | _⟩⟩
  cases ra
  cases rb
  have hnew : ∀ c ∈ [s1.heap.objs.size + 4, s1.heap.objs.size + 2, s1.heap.objs.size + 3, s1.heap.objs.size, s1.heap.objs.size + 1], FpOk X pins H1 c := by
    intro c hcm
    have hle : s1.heap.objs.size ≤ c := by
      simp only [List.mem_cons, List.not_mem_nil, or_false] at hcm
      have : ∀ k : Nat, s1.heap.objs.size ≤ s1.heap.objs.size + k := fun k => Nat.le_add_right _ k
      rcases hcm with r | r | r | r | r <;> rw [r] <;> first | exact this _ | exact Nat.le_refl _
    exact I1.fpOk hle (I1.hok.fresh hle)
  obtain ⟨us, ru, pl, _⟩ := I1.list hl
  rcases q1 with ⟨hm2, q⟩ | ⟨hm2, q⟩
  · obtain ⟨ws, rw2, pt, _⟩ := I1.list hm2
    refine call_zip_2 pl.isList pt.isList fun h' z1 z2 z3 z4 z5 _ hk => ?_
    have tz := turn_zip (P := X.prog) (w := X.w) (K := X.K) (elts := els) (kk := kx) (tpos := p2) (PySem.W.ktu_apart s1.heap.objs.size a b pl.lt pt.lt)
    exact wpAny_pyIter_zip z1 ⟨_, _, _, _, _, rfl, I1.kept (t' := s1.toks) hk, tz, ⟨z1, z2, ⟨_, _, z3⟩, z4, z5⟩, hnew, q⟩
  · obtain ⟨ws, rw2, pt, _⟩ := I1.tuple hm2
    refine zip_begins2 (begins_list a us.toArray) (begins_tuple b ws.toArray) pl.isList pt fun h' z1 z2 z3 z4 z5 _ hk => ?_
    obtain ⟨ob, hob, _⟩ := id pt
    have tz := turnM (P := X.prog) (w := X.w) (K := X.K) (els := els) (kx := kx) (tp := p2) (PySem.W.ktu_apart s1.heap.objs.size a b pl.lt (Heap.lt_size hob))
    exact wpAny_pyIter_zip z1 ⟨_, _, _, _, _, rfl, I1.kept (t' := s1.toks) hk, tz, ⟨z1, z2, ⟨_, _, z3⟩, ⟨_, z4, rfl, rfl⟩, ⟨_, z5, rfl, rfl⟩⟩, hnew, q⟩
/-- a comprehension over it, whose items are ints worked out of the pair -/
theorem lzE_ints {K : PySem.W.Frag} {a b : Addr} {xs ys : List V} {g : TG} {tt : TT} {te : TE} {vs : List Nat} {σ : L2.St} {H1 : Hp} {D : Addr} {Qd : Hp → Prop} (φ : Nat → Int) (hl : xs.length = ys.length) (hS : SqL K H1 a xs) (hS2 : SqT K H1 b ys) (hD : H1 D = none) (hz : xs.length ≤ 1000)
    (gm : ∀ x H (P P' : L2.St → Hp → Prop), (∀ σ H, P σ H → P' σ H) → g x (wipe σ vs) H P → g x (wipe σ vs) H P') (tm : ∀ σ H (P P' : Bool → Hp → Prop), (∀ b H, P b H → P' b H) → tt σ H P → tt σ H P')
    (hs : ∀ i x y (T : Addr) H (Q : VK), xs[i]? = some x → ys[i]? = some y → Same H1 H → SqT K H T [x, y] → (Q (.int (φ i)) H) → LcTurn g tt te vs σ (.ref T) H Q)
    (hd : ∀ H, Same H1 H → H D = some (.lst ((List.range xs.length).map fun i => V.int (φ i))) → Qd H) :
    ∃ W : Nat → Nat → Hp → Prop, (∃ m, W 0 m (upd H1 D (.lst []))) ∧ ∀ i m H, W i m H →
      ((ItzM K a b).stop i H ∧ Qd H) ∨ ((ItzM K a b).go i H ∧ ∃ Nx : Hp → Prop, (∀ H', Nx H' → ∃ m', m' < m ∧ W (i + 1) m' H') ∧ ∀ x H', (ItzM K a b).yld i H x H' → g x (wipe σ vs) H' fun σ2 H2 => wipe σ2 vs = wipe σ vs ∧ tt σ2 H2 fun b H3 =>
        if b = true then te σ2 H3 fun y H4 => ∃ acc, H4 D = some (.lst acc) ∧ acc.length < sizeLine ∧ Nx (upd H4 D (.lst (acc ++ [y]))) else Nx H3) := by
  let Pv : Nat → Hp → Prop := fun i H => Same H1 H ∧ H D = some (.lst ((List.range i).map fun i => V.int (φ i)))
  refine ⟨fun i m H => m = xs.length - i ∧ i ≤ xs.length ∧ Pv i H, ⟨xs.length, by simp, Nat.zero_le _, same_new hD, upd_same⟩, ?_⟩
  rintro i m H ⟨rfl, hi, s, e⟩
  have qx := s.seq hS
  have qy := sqt_same s hS2
  by_cases hlt : i < xs.length
  · have hx : xs[i]? = some xs[i] := List.getElem?_eq_getElem hlt
    have hlt2 : i < ys.length := by omega
    have hy : ys[i]? = some ys[i] := List.getElem?_eq_getElem hlt2
    refine .inr ⟨⟨xs, ys, _, _, qx, qy, hx, hy⟩, Pv (i + 1), fun H' p' => ⟨xs.length - (i + 1), by omega, rfl, hlt, p'⟩, fun v H' y => ?_⟩
    obtain ⟨T, x', y', rfl, hT, rfl, f1, f2⟩ := y
    have ex : x' = xs[i] := Option.some.inj ((f1 _ qx).symm.trans hx)
    have ey : y' = ys[i] := Option.some.inj ((f2 _ qy).symm.trans hy)
    subst ex
    subst ey
    refine gm _ _ _ _ ?_ (hs i _ _ T _ (fun y H4 => ∃ acc, H4 D = some (.lst acc) ∧ acc.length < sizeLine ∧ Pv (i + 1) (upd H4 D (.lst (acc ++ [y])))) hx hy (Fb.Same.new s hT) (st_of upd_same) ?_)
    · rintro σ2 H2 ⟨w, h⟩
      refine ⟨w, tm _ _ _ _ ?_ h⟩
      intro b H3 h
      cases b with
      | true =>
        rw [if_pos rfl] at h ⊢
        exact h
      | false =>
        rw [if_neg Bool.false_ne_true] at h
        exact h.elim
    · refine ⟨_, upd_old hT e, ?_, Fb.Same.mut (Fb.Same.new s hT) hD, ?_⟩
      · rw [List.length_map, List.length_range]
        exact small1000 (by omega)
      · rw [upd_same, List.range_succ, List.map_append]
        rfl
  · have e' : i = xs.length := by omega
    subst e'
    exact .inl ⟨⟨xs, ys, qx, qy, Nat.le_refl _, by omega, .inl rfl⟩, hd H s e⟩
theorem unitV_at {n j i : Nat} (h : i < n) : (unitV n j)[i]? = some (if j = i then 1 else 0) := by
  unfold unitV
  by_cases e : j = i
  · subst e
    rw [List.getElem?_set_self (by rw [List.length_replicate]; exact h), if_pos rfl]
  · rw [List.getElem?_set_ne e, if_neg e, List.getElem?_replicate, if_pos h]
theorem unitV_len {n j : Nat} : (unitV n j).length = n := by unfold unitV; rw [List.length_set, List.length_replicate]
theorem r_lcRg {ta : TA} {g : TG} {tt : TT} {te : TE} {vs : List Nat} {σ : L2.St} {H : Hp} {Q : VK} (q : ta σ H fun vs1 H1 => ∃ j : Int, vs1 = [.int j] ∧ -(2 ^ 62) ≤ j ∧ j < 2 ^ 62 ∧ ∀ D, H1 D = none → ∃ W : Nat → Nat → Hp → Prop, (∃ m, W 0 m (upd H1 D (.lst []))) ∧ ∀ i m H, W i m H →
    ((Itr 0 j.toNat).stop i H ∧ Q (.ref D) H) ∨ ((Itr 0 j.toNat).go i H ∧ ∃ Nx : Hp → Prop, (∀ H', Nx H' → ∃ m', m' < m ∧ W (i + 1) m' H') ∧ ∀ x H', (Itr 0 j.toNat).yld i H x H' → g x (wipe σ vs) H' fun σ2 H2 => wipe σ2 vs = wipe σ vs ∧ tt σ2 H2 fun b H3 =>
      if b = true then te σ2 H3 fun y H4 => ∃ acc, H4 D = some (.lst acc) ∧ acc.length < sizeLine ∧ Nx (upd H4 D (.lst (acc ++ [y]))) else Nx H3)) : tLc (iRng1 ta) g tt te vs σ H Q := q

/-! Figurebooks: drawing, comprehensions that draw. -/
theorem PoolAt.new {H : Hp} {p q : Addr} {f : Nat} {o : HO} (h : PoolAt H p f) (n : H q = none) : PoolAt (upd H q o) p f := by
  obtain ⟨o, e, po⟩ := h
  exact ⟨o, upd_old n e, po⟩
theorem PoolAt.oth {H : Hp} {p q : Addr} {f : Nat} {o : HO} (h : PoolAt H p f) (n : p ≠ q) : PoolAt (upd H q o) p f := by
  obtain ⟨o, e, po⟩ := h
  exact ⟨o, upd_oth n e, po⟩
theorem PoolAt.same {H H' : Hp} {p : Addr} {f : Nat} (h : PoolAt H p f) (s : Same H H') : PoolAt H' p f := by
  obtain ⟨o, e, po⟩ := h
  exact ⟨o, s _ _ e, po⟩
theorem PoolAt.away {H : Hp} {p q : Addr} {f : Nat} (h : PoolAt H p f) (n : H q = none) : q ≠ p := fun z => by
  subst z
  exact h.ne n
theorem PoolAt.apart {H : Hp} {p q : Addr} {f : Nat} {xs : List V} (h : PoolAt H p f) (n : H q = some (.tup xs)) : q ≠ p := fun z => by
  subst z
  obtain ⟨o, e, a, b, c, rfl, _⟩ := h
  rw [e] at n
  cases n
theorem c_drawK {H : Hp} {Q : VK} {E : XK} {p : Addr} {m : Int} (f : Nat) (h : PoolAt H p (f + 1)) (h1 : 0 < m) (h2 : m < 2 ^ 200)
    (q : ∀ (d : Int) (H' : Hp), 0 ≤ d → d < m → Keep p H H' → PoolAt H' p f → Q (.int d) H') : spDraw [.ref p, .int m] H Q E :=
  c_draw f h h1 h2 fun d o h0 h1 po => q d _ h0 h1 Keep.upd ⟨o, upd_same, po⟩
theorem Keep.at {p a : Addr} {H H' : Hp} {o : HO} (k : Keep p H H') (e : H a = some o) (n : a ≠ p) : H' a = some o := k _ _ e n
theorem Keep.mut {p q : Addr} {H H' : Hp} {o : HO} (k : Keep p H H') (h : H q = none) : Keep p H (L2.upd H' q o) := fun a u e n => by
  rw [upd_ne (ne_of_none e h)]
  exact k a u e n
theorem hid_upd_oth {H : Hp} {p D : Addr} {o : HO} (n : D ≠ p) : hid p (upd H D o) = upd (hid p H) D o := by
  funext a
  unfold hid
  by_cases h : a = D
  · subst h
    rw [if_neg n, upd_same, upd_same]
  · rw [upd_ne h]
    split
    · rw [upd_ne h, if_pos ‹_›]
    · rw [upd_ne h, if_neg ‹_›]
theorem lc_pool {p : Addr} {lo : Int} {n c f : Nat} {g : TG} {tt : TT} {te : TE} {vs : List Nat} {σ : L2.St} {H1 : Hp} {D : Addr} {Qd : Hp → Prop} (R : Nat → V → Hp → Prop) (hR : ∀ i y H H', R i y H → Same H H' → R i y H')
    (hp : PoolAt H1 p (f + c * n)) (hD : H1 D = none) (hl : n ≤ 1000)
    (gm : ∀ x H (P P' : L2.St → Hp → Prop), (∀ σ H, P σ H → P' σ H) → g x (wipe σ vs) H P → g x (wipe σ vs) H P') (tm : ∀ σ H (P P' : Bool → Hp → Prop), (∀ b H, P b H → P' b H) → tt σ H P → tt σ H P')
    (hs : ∀ i H (Q : VK), i < n → Keep p H1 H → H D ≠ none → PoolAt H p (f + c * (n - (i + 1)) + c) → (∀ y H4, Keep p H H4 → PoolAt H4 p (f + c * (n - (i + 1))) → R i y (nw (hid p H) (hid p H4)) → Q y H4) → LcTurn g tt te vs σ (.int (lo + i)) H Q)
    (hd : ∀ H ys, ys.length = n → (∀ i y, ys[i]? = some y → R i y (nw (hid p H1) (hid p H))) → Keep p H1 H → PoolAt H p f → H D = some (.lst ys) → Qd H) :
    ∃ W : Nat → Nat → Hp → Prop, (∃ m, W 0 m (upd H1 D (.lst []))) ∧ ∀ i m H, W i m H →
      ((Itr lo n).stop i H ∧ Qd H) ∨ ((Itr lo n).go i H ∧ ∃ Nx : Hp → Prop, (∀ H', Nx H' → ∃ m', m' < m ∧ W (i + 1) m' H') ∧ ∀ x H', (Itr lo n).yld i H x H' → g x (wipe σ vs) H' fun σ2 H2 => wipe σ2 vs = wipe σ vs ∧ tt σ2 H2 fun b H3 =>
        if b = true then te σ2 H3 fun y H4 => ∃ acc, H4 D = some (.lst acc) ∧ acc.length < sizeLine ∧ Nx (upd H4 D (.lst (acc ++ [y]))) else Nx H3) := by
  have nDp : D ≠ p := hp.away hD
  refine lc_range (lo := lo) (n := n) (fun i H => (Keep p H1 H ∧ PoolAt H p (f + c * (n - i))) ∧ ∃ ys, H D = some (.lst ys) ∧ ys.length = i ∧ ∀ j y, ys[j]? = some y → R j y (nw (hid p H1) (hid D (hid p H))))
    ⟨⟨Keep.new hD, hp.new hD⟩, [], upd_same, rfl, fun j y e => by simp at e⟩ ?_ ?_
  · rintro i H hil ⟨⟨s, pp⟩, ys, e, hlen, hy⟩
    have hc : f + c * (n - i) = f + c * (n - (i + 1)) + c := by
      rw [show n - i = (n - (i + 1)) + 1 by omega, Nat.mul_add, Nat.mul_one, Nat.add_assoc]
    refine gm _ H _ _ ?_ (hs i H (fun y H4 => ∃ acc, H4 D = some (.lst acc) ∧ acc.length < sizeLine ∧ ((Keep p H1 (upd H4 D (.lst (acc ++ [y]))) ∧ PoolAt (upd H4 D (.lst (acc ++ [y]))) p (f + c * (n - (i + 1)))) ∧ ∃ zs, (upd H4 D (.lst (acc ++ [y]))) D = some (.lst zs) ∧ zs.length = i + 1 ∧ ∀ j z, zs[j]? = some z → R j z (nw (hid p H1) (hid D (hid p (upd H4 D (.lst (acc ++ [y])))))))) hil s (by rw [e]; exact fun z => by cases z) (by rw [← hc]; exact pp) ?_)
    · rintro σ2 H2 ⟨w, h⟩
      refine ⟨w, tm _ _ _ _ ?_ h⟩
      intro b H3 h
      cases b with
      | true =>
        rw [if_pos rfl] at h ⊢
        exact h
      | false =>
        rw [if_neg Bool.false_ne_true] at h
        exact h.elim
    · intro y H4 s4 p4 r4
      refine ⟨ys, s4 _ _ e nDp, Nat.lt_of_le_of_lt (show ys.length ≤ 1000 by omega) (by decide), ⟨(s.trans s4).mut hD, p4.oth (Ne.symm nDp)⟩, ys ++ [y], upd_same, by simp [hlen], fun j z hz => ?_⟩
      rw [hid_upd_oth nDp, hid_upd]
      by_cases hj : j < ys.length
      · rw [List.getElem?_append_left hj] at hz
        exact hR _ _ _ _ (hy j z hz) (nw_mono (hid_same s4.hid))
      · have ej : j = i := by
          have := (List.getElem?_eq_some_iff.mp hz).1
          simp at this
          omega
        subst ej
        rw [List.getElem?_append_right (by omega)] at hz
        have e0 : j - ys.length = 0 := by omega
        rw [e0] at hz
        have ez : y = z := Option.some.inj hz
        subst ez
        exact hR _ _ _ _ r4 (nw_hid s.hid (hid_at e nDp))
  · rintro H ⟨⟨s, pp⟩, ys, e, hlen, hy⟩
    rw [Nat.sub_self, Nat.mul_zero] at pp
    exact hd H ys hlen (fun i y h => hR _ _ _ _ (hy i y h) (nw_mono hid_le)) s pp e

/-! Figurebooks: dicts of starts. -/
theorem lc_keys {d : Addr} {od : Obj} {kvs : List (Key × V)} {g : TG} {tt : TT} {te : TE} {vs : List Nat} {σ : L2.St} {H1 : Hp} {D : Addr} {Qd : Hp → Prop} (Pv : Nat → Hp → Prop) (h0 : Pv 0 (upd H1 D (.lst []))) (hl : ∀ i H, i ≤ kvs.length → Pv i H → H d = some (.frz od (.dK kvs)))
    (hs : ∀ i k v H, kvs[i]? = some (k, v) → Pv i H → g (kV k) (wipe σ vs) H fun σ2 H2 => wipe σ2 vs = wipe σ vs ∧ tt σ2 H2 fun b H3 =>
      if b = true then te σ2 H3 fun y H4 => ∃ acc, H4 D = some (.lst acc) ∧ acc.length < sizeLine ∧ Pv (i + 1) (upd H4 D (.lst (acc ++ [y]))) else Pv (i + 1) H3) (hd : ∀ H, Pv kvs.length H → Qd H) :
    ∃ W : Nat → Nat → Hp → Prop, (∃ m, W 0 m (upd H1 D (.lst []))) ∧ ∀ i m H, W i m H →
      ((Itk d od kvs).stop i H ∧ Qd H) ∨ ((Itk d od kvs).go i H ∧ ∃ Nx : Hp → Prop, (∀ H', Nx H' → ∃ m', m' < m ∧ W (i + 1) m' H') ∧ ∀ x H', (Itk d od kvs).yld i H x H' → g x (wipe σ vs) H' fun σ2 H2 => wipe σ2 vs = wipe σ vs ∧ tt σ2 H2 fun b H3 =>
        if b = true then te σ2 H3 fun y H4 => ∃ acc, H4 D = some (.lst acc) ∧ acc.length < sizeLine ∧ Nx (upd H4 D (.lst (acc ++ [y]))) else Nx H3) := by
  refine ⟨fun i m H => m = kvs.length - i ∧ i ≤ kvs.length ∧ Pv i H, ⟨kvs.length, by simp, Nat.zero_le _, h0⟩, ?_⟩
  rintro i m H ⟨rfl, hi, p⟩
  have q := hl i H hi p
  by_cases hlt : i < kvs.length
  · refine .inr ⟨⟨q, hlt⟩, Pv (i + 1), fun H' p' => ⟨kvs.length - (i + 1), by omega, rfl, hlt, p'⟩, fun x H' y => ?_⟩
    obtain ⟨e, k, v, y, ex⟩ := y
    subst e ex
    exact hs i k v _ y p
  · have e : i = kvs.length := by omega
    subst e
    exact .inl ⟨⟨q, Nat.le_refl _⟩, hd H p⟩
/-- the dict of starts -/
def sk (ks : List Str) (g : Str → Int) : List (Key × V) := ks.map fun x => ((Sum.inr x : Key), V.int (g x))
theorem sk_len {ks : List Str} {g : Str → Int} : (sk ks g).length = ks.length := List.length_map ..
theorem sk_keys {ks : List Str} {g : Str → Int} : (sk ks g).map (·.1) = ks.map Sum.inr := by
  unfold sk
  rw [List.map_map]
  rfl
theorem sk_at {ks : List Str} {g : Str → Int} {i : Nat} {k : Key} {v : V} (h : (sk ks g)[i]? = some (k, v)) : ∃ x, ks[i]? = some x ∧ k = Sum.inr x ∧ v = .int (g x) := by
  unfold sk at h
  rw [List.getElem?_map] at h
  cases e : ks[i]? with
  | none => rw [e] at h; cases h
  | some x =>
    rw [e] at h
    cases h
    exact ⟨x, rfl, rfl, rfl⟩
theorem sk_get {g : Str → Int} {x : Str} : ∀ {ks : List Str}, x ∈ ks → valV (sk ks g) (Sum.inr x : Key) = some (.int (g x))
  | y :: ks, h => by
    by_cases e : y = x
    · subst e
      exact valV_pos rfl
    · rw [show sk (y :: ks) g = ((Sum.inr y : Key), V.int (g y)) :: sk ks g from rfl, valV_neg (fun z => e (Sum.inr.inj z))]
      exact sk_get ((List.mem_cons.mp h).resolve_left (Ne.symm e))
theorem sk_put {g : Str → Int} {x : Str} {s : Int} : ∀ {ks : List Str}, x ∉ ks → putK (sk ks g) (Sum.inr x : Key) (.int s) = sk (ks ++ [x]) (fun y => if y = x then s else g y) := fun {ks} h => by
  unfold putK
  have e : ((sk ks g).any fun kv => decide (kv.1 = (Sum.inr x : Key))) = false := by
    rw [List.any_eq_false]
    intro kv hk
    unfold sk at hk
    obtain ⟨y, hy, rfl⟩ := List.mem_map.mp hk
    intro z
    have := Sum.inr.inj (of_decide_eq_true z)
    subst this
    exact h hy
  rw [if_neg (by rw [e]; decide)]
  unfold sk
  rw [List.map_append]
  congr 1
  · refine List.map_congr_left fun y hy => ?_
    show ((Sum.inr y : Key), V.int (g y)) = ((Sum.inr y : Key), V.int (if y = x then s else g y))
    rw [if_neg (fun z : y = x => h (by rw [← z]; exact hy))]
  · show [((Sum.inr x : Key), V.int s)] = [((Sum.inr x : Key), V.int (if x = x then s else g x))]
    rw [if_pos rfl]
theorem r_lock {t : TS} {D : Ends} {σ : L2.St} {H : Hp} (d : Addr) (u : HO) (h : H d = some u) (m : Mut (some u)) (q : ∀ od, t ⟨fun σ' H' => H' d = some (.frz od u) ∧ D.nx σ' (upd H' d u), fun v H' => H' d = some (.frz od u) ∧ D.rt v (upd H' d u), fun σ' H' => H' d = some (.frz od u) ∧ D.bk σ' (upd H' d u), fun σ' H' => H' d = some (.frz od u) ∧ D.ct σ' (upd H' d u)⟩ σ (upd H d (.frz od u))) : tLock t D σ H := ⟨d, u, h, m, q⟩
theorem r_lcK {td : TE} {g : TG} {tt : TT} {te : TE} {vs : List Nat} {σ : L2.St} {H : Hp} {Q : VK} (q : td σ H fun x H1 => ∃ d o kvs, x = .ref d ∧ H1 d = some (.frz o (.dK kvs)) ∧ ∀ D, H1 D = none → ∃ W : Nat → Nat → Hp → Prop, (∃ m, W 0 m (upd H1 D (.lst []))) ∧ ∀ i m H, W i m H →
    ((Itk d o kvs).stop i H ∧ Q (.ref D) H) ∨ ((Itk d o kvs).go i H ∧ ∃ Nx : Hp → Prop, (∀ H', Nx H' → ∃ m', m' < m ∧ W (i + 1) m' H') ∧ ∀ x H', (Itk d o kvs).yld i H x H' → g x (wipe σ vs) H' fun σ2 H2 => wipe σ2 vs = wipe σ vs ∧ tt σ2 H2 fun b H3 =>
      if b = true then te σ2 H3 fun y H4 => ∃ acc, H4 D = some (.lst acc) ∧ acc.length < sizeLine ∧ Nx (upd H4 D (.lst (acc ++ [y]))) else Nx H3)) (hm : ∀ (P P' : V → Hp → Prop), (∀ v H, P v H → P' v H) → td σ H P → td σ H P') : tLc (iKeys td) g tt te vs σ H Q := by
  refine hm _ _ ?_ q
  rintro v H1 ⟨d, o, kvs, e, h, q⟩
  exact ⟨d, o, e, .inl ⟨kvs, h, q⟩⟩
theorem r_dget {a : Addr} {kvs : List (Key × V)} {y : Str} {v : V} {H : Hp} {P : V → Prop} (h : Rd H a (.dK kvs)) (e : valV kvs (Sum.inr y) = some v) (q : P v) : ∃ b w, V.ref a = .ref b ∧ DGet H b (.str y) (some w) ∧ P w :=
  ⟨a, v, rfl, .inl ⟨kvs, Sum.inr y, h, rfl, e.symm⟩, q⟩
/-! ### the tuples alone -/
def tupO : HO → Bool
  | .tup _ => true
  | .frz _ (.tup _) => true
  | _ => false
theorem tupO_fixed {o : HO} (h : tupO o = true) : fixedO o = true := by
  cases o <;> first | rfl | cases h
def tu (H : Hp) : Hp := fun a => match H a with
  | some o => if tupO o = true then some o else none
  | none => none
theorem tu_at {H : Hp} {a : Addr} {o : HO} (h : H a = some o) (f : tupO o = true) : tu H a = some o := by
  unfold tu
  rw [h]
  exact if_pos f
theorem tu_of {H : Hp} {a : Addr} {o : HO} (h : tu H a = some o) : H a = some o ∧ tupO o = true := by
  unfold tu at h
  split at h
  · split at h
    · cases h
      exact ⟨‹_›, ‹_›⟩
    · cases h
  · cases h
theorem tu_le {H : Hp} : Same (tu H) H := fun a o h => (tu_of h).1
theorem tu_of_keep {H H' : Hp} (k : ∀ a o, H a = some o → tupO o = true → H' a = some o) : Same (tu H) (tu H') := fun a o h => by
  obtain ⟨h1, h2⟩ := tu_of h
  exact tu_at (k a o h1 h2) h2
theorem tu_keep {p : Addr} {H H' : Hp} {xs : List V} (e : H p = some (.lst xs)) (k : Keep p H H') : Same (tu H) (tu H') := tu_of_keep fun a o h f => k a o h fun z => by
  subst z
  rw [e] at h
  cases h
  cases f
theorem tu_new {q : Addr} {H : Hp} {o : HO} (n : H q = none) : Same (tu H) (tu (upd H q o)) := tu_of_keep fun a u h _ => upd_old n h
theorem tu_lst {q : Addr} {H : Hp} {o : HO} {xs : List V} (n : H q = some (.lst xs)) : Same (tu H) (tu (upd H q o)) := tu_of_keep fun a u h f => by
  by_cases e : a = q
  · subst e
    rw [n] at h
    cases h
    cases f
  · rw [upd_ne e]
    exact h
theorem tu_hid {p : Addr} {H : Hp} {xs : List V} (e : H p = some (.lst xs)) : Same (tu H) (hid p H) := fun a o h => by
  obtain ⟨h1, h2⟩ := tu_of h
  refine hid_at h1 fun z => ?_
  subst z
  rw [e] at h1
  cases h1
  cases h2
theorem tu_nw {p : Addr} {H H' : Hp} {xs : List V} (e : H' p = some (.lst xs)) (k : Keep p H H') : Same (tu H') (nw (hid p H) (hid p H')) := fun a o h => by
  have h1 := tu_hid e a o h
  have h2 := (tu_of h).2
  cases h0 : hid p H a with
  | none => rw [nw_new h0]; exact h1
  | some u =>
    have : hid p H' a = some u := k.hid a u h0
    rw [h1] at this
    cases this
    rw [nw_fix h0 (tupO_fixed h2)]
    exact h1
theorem sqt_tu {K : PySem.W.Frag} {H : Hp} {a : Addr} {xs : List V} (h : SqT K H a xs) : SqT K (tu H) a xs := by
  rcases h with (h | ⟨o, h⟩) | h
  · exact .inl (.inl (tu_at h rfl))
  · exact .inl (.inr ⟨o, tu_at h rfl⟩)
  · exact .inr h
theorem dp_term_tu {K : PySem.W.Frag} {H : Hp} {v : V} {t : Term} (h : Dp K H v (dTerm t)) : Dp K (tu H) v (dTerm t) := by
  obtain ⟨a, rfl, q⟩ := dp_term h
  exact .tup (sqt_tu q) (.cons (.int _) (.cons (.str _) .nil))
theorem dp_term_new {K : PySem.W.Frag} {H : Hp} {a : Addr} {c : Int} {x : Str} (h : H a = some (.tup [.int c, .str x])) : Dp K (tu H) (.ref a) (dTerm (c, x)) :=
  .tup (st_of (tu_at h rfl)) (.cons (.int _) (.cons (.str _) .nil))
/-- a step whose value is told by what it keeps -/
theorem r_seqJ {te : TE} {g : TG} {rest : TS} {D : Ends} {σ : L2.St} {H : Hp} (P : V → Hp → Prop) (h : ∀ Q : VK, (∀ v H', P v H' → Q v H') → te σ H Q) (q : ∀ v H', P v H' → g v σ H' fun σ' H2 => rest D σ' H2) : tSeq (tAsg te g) rest D σ H := h _ q
def sumG (g : Str → Int) (F : List Term) : Int := (F.map fun t => t.1 * g t.2).sum
theorem sumG_app {g : Str → Int} {F G : List Term} : sumG g (F ++ G) = sumG g F + sumG g G := by
  unfold sumG
  rw [List.map_append, List.sum_append]
theorem sumG_filter {g : Str → Int} : ∀ {F : List Term}, sumG g (F.filter fun t => !decide (t.1 = 0)) = sumG g F
  | [] => rfl
  | t :: F => by
    have ih := sumG_filter (g := g) (F := F)
    unfold sumG at ih ⊢
    by_cases h : t.1 = 0
    · rw [List.filter_cons_of_neg (by simp [h]), ih, List.map_cons, List.sum_cons, h, Int.zero_mul, Int.zero_add]
    · rw [List.filter_cons_of_pos (by simp [h]), List.map_cons, List.map_cons, List.sum_cons, List.sum_cons, ih]
theorem r_dg {td ty : TE} {σ : L2.St} {H : Hp} {Q : VK} (q : td σ H fun x H1 => ty σ H1 fun y H2 => ∃ a v, x = .ref a ∧ DGet H2 a y (some v) ∧ Q v H2) : tDGet td ty σ H Q := q
theorem upd_upd {H : Hp} {a : Addr} {u v : HO} : upd (upd H a u) a v = upd H a v := by
  funext b
  by_cases e : b = a
  · subst e
    rw [upd_same, upd_same]
  · rw [upd_ne e, upd_ne e, upd_ne e]
theorem upd_lock {H : Hp} {s D : Addr} {u z l : HO} (h : H s = some u) (n : D ≠ s) : upd (upd (upd H s z) D l) s u = upd H D l := by
  funext b
  by_cases e : b = s
  · subst e
    rw [upd_same, upd_ne (Ne.symm n), h]
  · rw [upd_ne e]
    by_cases e2 : b = D
    · subst e2
      rw [upd_same, upd_same]
    · rw [upd_ne e2, upd_ne e, upd_ne e2]
theorem shaped_strs {xs : List Str} (h : ∀ x ∈ xs, PyData.strOk x = true) : SeqAt.shaped (.list (xs.map PyData.str)) = true := by
  have h1 : ∀ xs : List Str, (∀ x ∈ xs, PyData.strOk x = true) → PyData.canLayAll0 (xs.map PyData.str) = true := fun xs => by
    induction xs with
    | nil => intro _; simp [PyData.canLayAll0]
    | cons x xs ih =>
      intro h
      simp [PyData.canLayAll0, PyData.canLay0, ih (fun y hy => h y (List.mem_cons_of_mem _ hy)), h x List.mem_cons_self]
  have h2 : ∀ xs : List Str, PyData.depthAll (xs.map PyData.str) = 0 := fun xs => by
    induction xs with
    | nil => simp [PyData.depthAll]
    | cons x xs ih => simp [PyData.depthAll, PyData.depth, ih]
  unfold SeqAt.shaped
  simp [PyData.canLay0, PyData.depth, h1 xs h, h2]
theorem eqv_strs_nil {xs : List Str} : PyData.eqv (.list (xs.map PyData.str)) (.list []) = decide (xs = []) := by
  cases xs with
  | nil => simp [PyData.eqv, PyData.eqvAll]
  | cons x xs => simp [PyData.eqv, PyData.eqvAll]
theorem r_ifJ {c : TT} {t u : TS} {D : Ends} {σ : L2.St} {H : Hp} (P : Bool → Hp → Prop) (h : ∀ Q : Bool → Hp → Prop, (∀ b H', P b H' → Q b H') → c σ H Q) (q : ∀ b H', P b H' → if b = true then t D σ H' else u D σ H') : tIfS c t u D σ H := h _ q

/-! Figurebooks: drawn books. -/
/-- what of B stands in H', of the same kind, apart from p -/
def Shp (p : Addr) (B H' : Hp) : Prop := ∀ a o, B a = some o → a ≠ p → ∃ o', H' a = some o' ∧ fixedO o' = fixedO o
theorem Shp.refl {p : Addr} {B : Hp} : Shp p B B := fun a o h _ => ⟨o, h, rfl⟩
theorem Shp.keep {p : Addr} {B H H' : Hp} (s : Shp p B H) (k : Keep p H H') : Shp p B H' := fun a o h n => by
  obtain ⟨o', h1, h2⟩ := s a o h n
  exact ⟨o', k a o' h1 n, h2⟩
theorem Shp.put {p q : Addr} {B H : Hp} {u v : HO} (s : Shp p B H) (e : H q = some u) (f : fixedO v = fixedO u) : Shp p B (upd H q v) := fun a o h n => by
  obtain ⟨o', h1, h2⟩ := s a o h n
  by_cases z : a = q
  · subst z
    rw [e] at h1
    cases h1
    exact ⟨v, upd_same, f.trans h2⟩
  · exact ⟨o', by rw [upd_ne z]; exact h1, h2⟩
theorem nw_up {p : Addr} {B Hx Hy : Hp} (s : Shp p B Hx) : Same (nw (hid p Hx) (hid p Hy)) (nw B Hy) := fun a u e => by
  have h1 := nw_le a u e
  obtain ⟨h2, n⟩ := hid_of h1
  cases h0 : B a with
  | none => rw [nw_new h0]; exact h2
  | some o =>
    obtain ⟨o', e1, e2⟩ := s a o h0 n
    by_cases f : fixedO o = true
    · rw [nw_fix h0 f]
      exact h2
    · exfalso
      unfold nw at e
      rw [hid_at e1 n] at e
      exact absurd ((if_neg (by rw [e2]; exact f)).symm.trans e) (fun z => by cases z)
theorem nw_up_hid {p q : Addr} {B Hx Hy : Hp} {xs : List V} (s : Shp p B Hx) (eq : Hx q = some (.lst xs)) (n : q ≠ p) : Same (nw (hid p Hx) (hid p Hy)) (hid q (nw B Hy)) := fun a u e => by
  refine hid_at (nw_up s a u e) fun z => ?_
  subst z
  unfold nw at e
  rw [hid_at eq n] at e
  exact absurd ((if_neg (by intro z; cases z)).symm.trans e) (fun z => by cases z)
theorem nw_step {B H H' : Hp} (k : ∀ a o, H a = some o → (∀ u, B a = some u → fixedO u = true) → H' a = some o) : Same (nw B H) (nw B H') := fun a u e => by
  cases h0 : B a with
  | none =>
    rw [nw_new h0] at e ⊢
    exact k a u e fun v h => by rw [h0] at h; cases h
  | some o =>
    by_cases f : fixedO o = true
    · rw [nw_fix h0 f] at e ⊢
      exact k a u e fun v h => by rw [h0] at h; cases h; exact f
    · unfold nw at e
      rw [h0] at e
      exact absurd ((if_neg f).symm.trans e) (fun z => by cases z)
theorem nw_stepK {p : Addr} {B H H' : Hp} {xs : List V} (e : B p = some (.lst xs)) (k : Keep p H H') : Same (nw B H) (nw B H') := nw_step fun a o h f => k a o h fun z => by
  subst z
  have := f _ e
  cases this
theorem nw_stepM {q : Addr} {B H : Hp} {o : HO} {xs : List V} (e : B q = some (.lst xs)) : Same (nw B H) (nw B (upd H q o)) := nw_step fun a u h f => by
  refine upd_oth (fun z => ?_) h
  subst z
  have := f _ e
  cases this
theorem nw_fin {p : Addr} {H B H' : Hp} {xs : List V} (k : Keep p H B) (e : B p = some (.lst xs)) : Same (nw B H') (nw (hid p H) (hid p H')) := fun a u z => by
  have n : a ≠ p := fun y => by
    subst y
    unfold nw at z
    rw [e] at z
    exact absurd ((if_neg (by intro z; cases z)).symm.trans z) (fun z => by cases z)
  have h1 := hid_at (nw_le a u z) n
  cases h0 : hid p H a with
  | none => rw [nw_new h0]; exact h1
  | some o =>
    obtain ⟨h2, _⟩ := hid_of h0
    have h3 := k a o h2 n
    by_cases f : fixedO o = true
    · rw [nw_fix h0 f]
      exact h1
    · unfold nw at z
      rw [h3] at z
      exact absurd ((if_neg f).symm.trans z) (fun z => by cases z)
theorem nw_at {B H : Hp} {a : Addr} {o : HO} (h : H a = some o) (n : B a = none) : nw B H a = some o := by
  rw [nw_new n]
  exact h
def lettersL : List Str := ["s", "d", "t", "e", "q", "z"]
theorem letters_ok : ∀ x ∈ lettersL, letterB x = true ∧ x.length ≤ 1000 ∧ PyData.strOk x = true := by decide +kernel
structure LineOk (b : Nat) (ks : List Str) (g : Str → Int) (l : Line) : Prop where
  start : l.2.1 = g l.1
  forms : l.2.2.length = b
  small : ∀ f ∈ l.2.2, f.length ≤ 5
  terms : ∀ f ∈ l.2.2, ∀ t ∈ f, t.1.natAbs ≤ 9 ∧ t.2 ∈ ks
  sound : ∀ f, l.2.2[0]? = some f → sumG g f = g l.1
/-- a drawn book -/
structure Drawn (b : Int) (m : Nat) (L : List Line) : Prop where
  sound : Sound b L
  some : 0 < L.length
  most : L.length ≤ m
  names : ∀ x ∈ names L, x ∈ lettersL
  starts : ∀ l ∈ L, l.2.1.natAbs ≤ 9
  small : ∀ l ∈ L, ∀ f ∈ l.2.2, f.length ≤ 5
  coefs : ∀ l ∈ L, ∀ f ∈ l.2.2, ∀ t ∈ f, t.1.natAbs ≤ 9
theorem worth_g {g : Str → Int} {x : Str} : ∀ {L : List Line}, (∀ l ∈ L, l.2.1 = g l.1) → x ∈ names L → worth (names L) (starts L) x = g x
  | l :: r, hg, hx => by
    by_cases e : l.1 = x
    · have : (names (l :: r)).idxOf x = 0 := by
        show (l.1 :: names r).idxOf x = 0
        rw [e, List.idxOf_cons_self]
      unfold worth
      rw [this]
      show l.2.1 = g x
      rw [hg l List.mem_cons_self, e]
    · have h2 : x ∈ names r := (List.mem_cons.mp (show x ∈ l.1 :: names r from hx)).resolve_left (Ne.symm e)
      have ih := worth_g (fun l hl => hg l (List.mem_cons_of_mem _ hl)) h2
      unfold worth at ih ⊢
      have : (names (l :: r)).idxOf x = (names r).idxOf x + 1 := by
        show (l.1 :: names r).idxOf x = _
        have hb : (l.1 == x) = false := beq_eq_false_iff_ne.mpr e
        rw [List.idxOf_cons, hb]
        rfl
      rw [this]
      exact ih
theorem drawn_of {b : Nat} {m n : Nat} {L : List Line} {g : Str → Int} (hb : b = 2 ∨ b = 3 ∨ b = 4) (hn0 : 0 < n) (hnm : n ≤ m) (hm : m ≤ 6) (hp : (names L).Perm (lettersL.take n)) (hl : ∀ l ∈ L, LineOk b (lettersL.take n) g l) (hg : ∀ x ∈ lettersL.take n, (g x).natAbs ≤ 9) : Drawn b m L := by
  have hlen : L.length = n := by
    have := hp.length_eq
    rw [List.length_take] at this
    unfold names at this
    rw [List.length_map] at this
    rw [this]
    exact Nat.min_eq_left (by show n ≤ 6; omega)
  have hin : ∀ x ∈ names L, x ∈ lettersL := fun x hx => List.mem_of_mem_take (hp.mem_iff.mp hx)
  have hname : ∀ l ∈ L, l.1 ∈ names L := fun l h => List.mem_map.mpr ⟨l, h, rfl⟩
  refine ⟨⟨?_, by omega, fun l h => ?_, hp.nodup_iff.mpr ?_, fun l h => by rw [(hl l h).forms], fun l h f hf => Nat.le_trans ((hl l h).small f hf) (by decide), fun l h f hf t ht => hp.mem_iff.mpr ((hl l h).terms f hf t ht).2, fun l h f hf t ht => Nat.lt_of_le_of_lt ((hl l h).terms f hf t ht).1 (by decide), fun l h => ?_, fun l h f hf => ?_⟩, by omega, by omega, hin, fun l h => ?_, fun l h => (hl l h).small, fun l h f hf t ht => ((hl l h).terms f hf t ht).1⟩
  · rcases hb with rfl | rfl | rfl
    · exact .inl rfl
    · exact .inr (.inl rfl)
    · exact .inr (.inr rfl)
  · have := letters_ok l.1 (hin _ (hname l h))
    exact ⟨this.1, this.2.1⟩
  · exact (List.take_sublist n lettersL).nodup (by decide +kernel)
  · rw [(hl l h).start]
    exact Nat.lt_of_le_of_lt (hg _ (hp.mem_iff.mp (hname l h))) (by decide)
  · rw [(hl l h).start, ← (hl l h).sound f hf]
    unfold sumG sumF
    congr 1
    refine List.map_congr_left fun t ht => ?_
    rw [worth_g (fun l hl' => (hl l hl').start) (hp.mem_iff.mpr ((hl l h).terms f (List.mem_of_getElem? hf) t ht).2)]
  · rw [(hl l h).start]
    exact hg _ (hp.mem_iff.mp (hname l h))
theorem Shp.none {p a : Addr} {B H : Hp} (s : Shp p B H) (n : H a = .none) (h : a ≠ p) : B a = .none := by
  cases e : B a with
  | none => rfl
  | some o =>
    obtain ⟨o', h1, _⟩ := s a o e h
    rw [n] at h1
    cases h1
theorem Shp.new {p q : Addr} {B H : Hp} {v : HO} (s : Shp p B H) (n : H q = .none) : Shp p B (upd H q v) := fun a o h m => by
  obtain ⟨o', h1, h2⟩ := s a o h m
  exact ⟨o', upd_old n h1, h2⟩
theorem nw_upd_oth {q a : Addr} {B H : Hp} {v : HO} (n : a ≠ q) : nw B (upd H q v) a = nw B H a := by
  unfold nw
  rw [upd_ne n]
theorem hid_nw_upd {q : Addr} {B H : Hp} {v : HO} : Same (hid q (nw B H)) (hid q (nw B (upd H q v))) := fun a u e => by
  obtain ⟨h, n⟩ := hid_of e
  exact hid_at (by rw [nw_upd_oth n]; exact h) n
theorem hid_nw_new {q : Addr} {B H : Hp} {v : HO} (m : H q = none) : Same (nw B H) (hid q (nw B (upd H q v))) := fun a u e => by
  have n : a ≠ q := fun z => by
    subst z
    have := nw_le a u e
    rw [m] at this
    cases this
  exact hid_at (by rw [nw_upd_oth n]; exact e) n
theorem dpa_take {K : PySem.W.Frag} {H : Hp} : ∀ {vs : List V} {ds : List PyData} (k : Nat), DpAll K H vs ds → DpAll K H (vs.take k) (ds.take k)
  | _, _, 0, _ => by rw [List.take_zero, List.take_zero]; exact .nil
  | _, _, _ + 1, .nil => .nil
  | _, _, k + 1, .cons h r => .cons h (dpa_take k r)
theorem dpa_drop {K : PySem.W.Frag} {H : Hp} : ∀ {vs : List V} {ds : List PyData} (k : Nat), DpAll K H vs ds → DpAll K H (vs.drop k) (ds.drop k)
  | _, _, 0, h => h
  | _, _, _ + 1, .nil => .nil
  | _, _, k + 1, .cons _ r => dpa_drop k r
theorem r_for2 {ta : TA} {g : TG} {tb : TS} {D : Ends} {σ : L2.St} {H : Hp} (q : ta σ H fun vs H1 => ∃ i j : Int, vs = [.int i, .int j] ∧ (-(2 ^ 62) ≤ i ∧ i < 2 ^ 62 ∧ -(2 ^ 62) ≤ j ∧ j < 2 ^ 62) ∧ ∃ W : Nat → Nat → L2.St → Hp → Prop, (∃ m, W 0 m σ H1) ∧ ∀ k m σ H, W k m σ H →
    ((Itr i (j - i).toNat).stop k H ∧ D.nx σ H) ∨ ((Itr i (j - i).toNat).go k H ∧ ∃ N : L2.St → Hp → Prop, (∀ σ' H', N σ' H' → ∃ m', m' < m ∧ W (k + 1) m' σ' H') ∧ ∀ x H', (Itr i (j - i).toNat).yld k H x H' → g x σ H' fun σ2 H2 => tb { D with nx := N, ct := N, bk := D.nx } σ2 H2)) : tFor (iRng2 ta) g tb D σ H := q

/-! Figurebooks: promises of defs that may tell texts of lists: nothing is being told when they are called. -/
/-- nothing is being told -/
def Calm (A : Around) : Prop := A.guards = some []
structure GOk (P : Program) (w : World) (K : PySem.W.Frag) (mg : Str → Option Value) (base : Heap) (CX : CXT) (k : Nat) (f : Addr) (fd : FuncData) (ps : List Str) (sp : Sp) : Prop where
  nums : ∀ vs H Q E, sp vs H Q E → vs.length = ps.length
  goes : ∀ (A : Around) (out : List Env) (s : Shared) (H : Hp) (ar : Args) (us : List Value) (vs : List V) (Q : VK) (E : XK), Room k A ∧ Calm A →
    Env0 P w K mg base A out s H → BindsTo s fd ar (ps.zip us) → Vals vs us → sp vs H Q E → codeAny (model P w) A (.call (.ref f) ar) (CR CX out P w H s Q E) s
theorem GOk.of {P : Program} {w : World} {K : PySem.W.Frag} {mg : Str → Option Value} {base : Heap} {CX : CXT} {k : Nat} {f : Addr} {fd : FuncData} {ps : List Str} {sp : Sp} (F : FnOk P w K mg base CX k f fd ps sp) : GOk P w K mg base CX k f fd ps sp :=
  ⟨F.len, fun A out s H ar us vs Q E h => F.run A out s H ar us vs Q E h.1⟩
theorem calm_deeper {A : Around} {e : Env} (h : Calm A) : Calm (A.deeper e) := h
theorem GOk.body {P : Program} {w : World} {K : PySem.W.Frag} {mg : Str → Option Value} {base : Heap} {x qual : Str} {st : Stmt} {f : Addr} {fd : FuncData} {N ps : List Str} {k : Nat} {sp : Sp} (F : Fun K x qual st f fd) (S : FnScope N ps (defScope st)) (len : ∀ vs H Q E, sp vs H Q E → vs.length = ps.length)
    (hbody : ∀ (cdv : Value) (A : Around) (outer : List Env) (s : Shared) (H : Hp) (vs : List V) (Q : VK) (E : XK), Calm (A.deeper (envOfC qual (defScope st) s.heap.objs.size f cdv)) → Room k (A.deeper (envOfC qual (defScope st) s.heap.objs.size f cdv)) → sp vs H Q E →
      ∃ t, PSs (cxOf CX0 P w K mg base N qual (defScope st) f cdv A outer s H E).nox (defBody st) t ∧ t { nx := fun _ H' => Q .non H', rt := Q } (L2.start N vs) H) : GOk P w K mg base CX0 (k + 1) f fd ps sp := by
  obtain ⟨oc, od, kV, doc, pm, an, cdv, ct, osl, rfl, lk, hcd⟩ := F.ex
  constructor
  · exact len
  rintro A out s H ar us vs Q E ⟨hr, hc⟩ e0 hb rv hsp
  have old : ∀ b o, base.get? b = some o → s.heap.get? b = some o := fun b o e => (e0.bs b o e).1
  have KX := e0.mod.kin.keeps old
  refine codeAny_call_function hr.depth (KX _ _ lk) rfl S.co S.gen rfl (PySem.W.codeRec_of KX hcd) (hb _ _ _ _ (wpAny_newFunctionEnv_cells S.kind ?_ ?_))
  · rintro ⟨n, v⟩ hy
    cases S.par n (List.of_mem_zip hy).1 with
    | inl q => exact .inl q
    | inr q => exact .inr ⟨q, PySem.W.cellsFrom_some _ _ _ (.inl q)⟩
  · rintro env rfl s1 ic
    obtain ⟨t, ht, hq⟩ := hbody cdv A out s H vs Q E (calm_deeper hc) (hr.deeper _) hsp
    have J := inv_start (CX := CX0) (E := E) S hr.hd e0 (len _ _ _ _ hsp) rv ic
    constructor
    · exact (e0.mod.nolimit.keeps old).keeps ic.toInCall.keep
    refine codeAny_func (wpAny_mono (ht.nox.run [] s1 (L2.start N vs) H _ J hq) ?_ fun e s' he => he)
    intro fl s' g
    cases fl
    case ret u =>
      obtain ⟨v, _, H2, J2, r2, q2⟩ := g
      exact ⟨v, H2, J2.os, J2.bare, J2.base, J2.hok, r2, q2⟩
    case next =>
      obtain ⟨_, H2, J2, q2⟩ := g
      exact ⟨.non, H2, J2.os, J2.bare, J2.base, J2.hok, rfl, q2⟩
    case brk =>
      obtain ⟨_, _, _, z⟩ := g
      exact z.elim
    case cont =>
      obtain ⟨_, _, _, z⟩ := g
      exact z.elim
section
variable {X : Cx} {k : Nat} {f : Addr} {fd : FuncData} {ps : List Str} {sp : Sp} {x : Str} {e : Expr} {es : List Expr} {t : TA} {p pos : Pos} {E : XK}
theorem pe_callG (F : GOk X.prog X.w X.K X.mg X.base CX0 k f fd ps sp) (hr : Room k X.A) (hc : Calm X.A) (hg : Gl X x) (hm : X.mg x = some (.ref f)) (hk : PySem.W.keepIn X.K (.ref f) = true) (hb : Binds X.K fd ps []) (hx : Passes CX0 X E)
    (ha : PA X (e :: es) t) (hdb : (x == ("__debug__" : Str)) = false := by decide) (he : starEach (e :: es) X.env = (false, eval e X.env) :: starEach es X.env := by rfl) (hpl : (backTo pos (starEach es X.env)).any (·.1) = false := by rfl) :
    PE X (.Call (.Name x p) (e :: es) [] pos) (tCall sp [] E t) := by
  constructor
  intro pins s σ H Q I h
  refine wpAny_Call_Name_kw (ld_glob I hg hm (PySem.W.callWith_K (h₀ := X.base) I.ok.mod.kin hk (thn (ha.run pos pins s σ H _ I h) ?_) he hpl) hdb)
  rintro us s1 ⟨vs, H1, J, rv, q⟩
  have rv2 : Vals (vs ++ []) (us ++ []) := rv.append .nil
  refine ⟨J.kIn, wpAny_call (codeAny_mono (F.goes X.A X.stack s1 H1 ⟨us, []⟩ (us ++ []) (vs ++ []) Q E ⟨hr, hc⟩ J.env0 (hb s1 us J.kIn (by rw [← rv2.length]; exact F.nums _ _ _ _ q)) rv2 q) ?_)⟩
  intro r s2 g
  match r, g with
  | .error e, g => exact hx pins σ H1 s1 e s2 J g
  | .ok (.ret u), g => exact J.after g
/-- repr of a thing made of lists, tuples, ints and texts -/
theorem call_reprD (hr : Room k X.A) (hc : Calm X.A) : CallR X (.builtin "repr") (fun xs H Q => ∃ (a : Addr) (d : PyData), xs = [.ref a] ∧ Dp X.K H (.ref a) d ∧ d.showable = true ∧ d.hasDict = false ∧ d.depth ≤ 64 ∧ d.shown.length ≤ sizeLine ∧ Q (.str d.shown) H) := by
  rintro pins s σ H xs us Q I r ⟨a, d, rfl, hd, h1, h2, h3, h4, q⟩
  obtain ⟨u, rfl, ru⟩ := vals1 r
  obtain ⟨as, rd⟩ := Dp.reads I d _ _ hd ru
  obtain rfl : u = Value.ref a := ru
  refine repr_of_reads' rd h1 (fun z => by rw [h2] at z; cases z) hc (by have := hr.un; omega) (fun b o e => e) (fun h' t tk hk => ?_) h4
  exact ⟨.str _, H, I.kept hk, ⟨t, rfl⟩, q⟩
end
/-- the script alone, if it isn't the module's own -/
def scriptH (K : PySem.W.Frag) (a : Addr) (O : Obj) (ns : List Int) : Hp := fun b => if b = a ∧ K.lookup a = none then some (.frz O (.lst (ns.map V.int))) else none
theorem scriptH_of {K : PySem.W.Frag} {a b : Addr} {O : Obj} {ns : List Int} {u : HO} (h : scriptH K a O ns b = some u) : b = a ∧ K.lookup a = none ∧ u = .frz O (.lst (ns.map V.int)) := by
  unfold scriptH at h
  split at h
  · rename_i q
    cases h
    exact ⟨q.1, q.2, rfl⟩
  · cases h
theorem end_G {P : Program} {w : World} {K : PySem.W.Frag} {mg mb : Str → Option Value} {k : Nat} {fa a : Addr} {fd : FuncData} {x : Str} {sp : Sp} {s : Shared} {vs : List Value} {ns : List Int} {O : Obj}
    (eO : O = { cls := .type "list", data := .seq vs.toArray }) (KX : K.In s.heap) (h1 : s.heap.Ns mainGlobals mg) (h2 : s.heap.Ns builtinsNs mb) (h3 : ∀ x : Str, x ≠ "__name__" → mb x = bootBuiltins x) (h4 : s.heap.NoLimit) (h5 : s.gens = #[])
    (ha : s.heap.get? a = some O) (hi : IntsAre vs ns) (hl : ns.length ≤ sizeLine) (hr : Room k callerA)
    (F : ∀ base : Heap, K.In base → base.Ns mainGlobals mg → GOk P w K mg base CX0 k fa fd [x] sp) (hbind : ∀ (s : Shared) (u : Value), BindsTo s fd ⟨[u], []⟩ [(x, u)])
    (hsp : ∀ H : Hp, SqL K H a (ns.map V.int) → sp [.ref a] H (fun v _ => v = .bl true) fun _ _ _ => False) :
    codeAny (model P w) callerA (.call (.ref fa) ⟨[.ref a], []⟩) (fun r s' => r = .ok (.ret (.bool true)) ∧ OldK s.heap s'.heap ∧ s'.os = s.os ∧ AllBare s'.gens) s := by
  have rv := vals_ints hi
  have no : ∀ {b : Addr} {o : Obj}, s.heap.get? b = some o → K.lookup b = some o ∨ (∀ c, o.data ≠ .seq vs.toArray c) → scriptH K a O ns b = none := fun {b o} e q => by
    cases z : scriptH K a O ns b with
    | none => rfl
    | some u =>
      obtain ⟨rfl, n, _⟩ := scriptH_of z
      rcases q with q | q
      · rw [n] at q
        cases q
      · rw [ha] at e
        cases e
        subst eO
        exact absurd rfl (q _)
  have space : ∀ {b : Addr} {m : Str → Option Value}, s.heap.Ns b m → (hidT s.heap (scriptH K a O ns)).Ns b m := fun {b m} ⟨o, es, ep, e, d, r⟩ =>
    ⟨o, es, ep, hidT_get e (no e (.inr fun c z => by rw [d] at z; cases z)), d, r⟩
  have kin : K.In (hidT s.heap (scriptH K a O ns)) := fun b o e => hidT_get (KX b o e) (no (KX b o e) (.inl e))
  have nl : (hidT s.heap (scriptH K a O ns)).NoLimit := by
    obtain ⟨mc, q1, q2⟩ := h4
    exact ⟨mc, space q1, q2⟩
  have md : L2.Mod K mg (hidT s.heap (scriptH K a O ns)) := { kin := kin, glob := space h1, blt := ⟨mb, space h2, h3⟩, nolimit := nl }
  have hok : HOk P w (scriptH K a O ns) s.heap := fun b u z => by
    obtain ⟨rfl, _, rfl⟩ := scriptH_of z
    have ha2 := ha
    rw [eO] at ha2
    exact ⟨ha, by rw [List.length_map]; exact hl, vs, _, rv, ha2⟩
  have e0 : Env0 P w K mg (hidT s.heap (scriptH K a O ns)) callerA [] s (scriptH K a O ns) :=
    { frames := rfl, mod := md, bs := fun b o e => of_hidT e, bsz := Nat.le_of_eq (hidT_size _ _), funs := trivial, frf := (fun b hb => by cases hb), hok := hok, bare := .of_eq h5 }
  have seq : SqL K (scriptH K a O ns) a (ns.map V.int) := by
    cases q : K.lookup a with
    | none => exact .inl (.inr ⟨O, if_pos ⟨rfl, q⟩⟩)
    | some o =>
      have := KX a o q
      rw [ha] at this
      cases this
      subst eO
      refine .inr ⟨_, vs.toArray, _, q, rfl, rfl, rfl, ?_, by simpa using rv⟩
      rw [List.size_toArray, hi.length]
      exact hl
  refine codeAny_mono ((F _ kin (space h1)).goes callerA [] s _ ⟨[.ref a], []⟩ [.ref a] [.ref a] _ _ ⟨hr, rfl⟩ e0 (hbind s (.ref a)) (.cons rfl .nil) (hsp _ seq)) ?_
  intro r s' g
  match r, g with
  | .error e, g => exact False.elim g
  | .ok (.ret u), ⟨v, H', os, bare, un, hok', ru, ev⟩ =>
    have ev' : v = .bl true := ev
    subst ev'
    have eu : u = Value.bool true := ru
    subst eu
    refine ⟨rfl, OldK.of_keep fun b o e => ?_, os, bare⟩
    cases z : scriptH K a O ns b with
    | none => exact un.keep b o e z (fun y => by cases y) (by simp)
    | some u =>
      obtain ⟨rfl, _, rfl⟩ := scriptH_of z
      have y := (hok' _ _ (un.frzs _ _ _ z)).1
      rw [ha] at e
      cases e
      exact y
theorem walk_G {l : PySem.W.OpenLaw} {n k : Nat} {q : Program} {loose : List Str} {XP : (Str → Option Value) → Heap → Prop} {YP : World → Heap → Prop} {d : DefRec} {K : Params → PySem.W.Frag} {sp : World → Sp} {x : Str}
    (hn : l.most = some n) (hn2 : n ≤ sizeLine) (hdf : d.params.defaults = []) (hr : Room k callerA) (hY : ∀ (w : World) (h : Heap), YP w h → (K w.params).In h)
    (F : ∀ (w : World) (mg : Str → Option Value) (fa : Addr) (h : Heap), (K w.params).In h → h.Ns mainGlobals mg → mg d.name = some (.ref fa) →
      ∃ fd : FuncData, (∀ (s : Shared) (u : Value), BindsTo s fd ⟨[u], []⟩ [(x, u)]) ∧ ∀ base : Heap, (K w.params).In base → base.Ns mainGlobals mg → GOk l.prog w (K w.params) mg base CX0 k fa fd [x] (sp w))
    (hsp : ∀ (w : World) (H : Hp) (a : Addr) (ns : List Int), ns.length ≤ n → SqL (K w.params) H a (ns.map V.int) → sp w [.ref a] H (fun v _ => v = .bl true) fun _ _ _ => False) :
    PySem.W.WalkO q loose XP YP l.row.toRowW d [] (fun f vs => PySem.call f vs) := by
  refine Att.attach_call hn hdf ?_
  intro w s₀ s mg mb fa o pm cd doc a vs ns G Y ho hd hcd hmg hobj hints hlen hg
  obtain ⟨fd, hb, hF⟩ := F w mg fa _ (hY w _ Y) G.T.g hmg
  exact end_G rfl (hY w _ Y) G.T.g G.T.b G.T.builtins G.T.nolimit hg hobj hints (Nat.le_trans hlen hn2) hr hF hb fun H hS => hsp w H a ns hlen hS

/-! Figurebooks: values far out by what is wanted, from the last figure on. -/
def wsum (N : List Str) (w v : Str → Int) : Int := (N.map fun y => w y * v y).sum
def add1 (w : Str → Int) (y : Str) (c : Int) : Str → Int := fun z => if z = y then w z + c else w z
theorem wsum_congr {N : List Str} {w w' v : Str → Int} (h : ∀ y ∈ N, w y = w' y) : wsum N w v = wsum N w' v := by
  unfold wsum
  congr 1
  exact List.map_congr_left fun y hy => by rw [h y hy]
theorem wsum_add1 {w v : Str → Int} {y : Str} {c : Int} : ∀ {N : List Str}, N.Nodup → y ∈ N → wsum N (add1 w y c) v = wsum N w v + c * v y
  | x :: N, nd, hy => by
    have nd' := List.nodup_cons.mp nd
    show add1 w y c x * v x + wsum N (add1 w y c) v = w x * v x + wsum N w v + c * v y
    by_cases e : x = y
    · subst e
      have : wsum N (add1 w x c) v = wsum N w v := wsum_congr fun z hz => if_neg fun (q : z = x) => nd'.1 (by rw [← q]; exact hz)
      rw [this, show add1 w x c x = w x + c from if_pos rfl, Int.add_mul]
      omega
    · rw [show add1 w y c x = w x from if_neg e, wsum_add1 nd'.2 ((List.mem_cons.mp hy).resolve_left (Ne.symm e))]
      omega
def addT (u : Str → Int) (c : Int) (T : List Term) : Str → Int := T.foldl (fun u t => add1 u t.2 (c * t.1)) u
theorem addT_snoc {u : Str → Int} {c : Int} {T : List Term} {t : Term} : addT u c (T ++ [t]) = add1 (addT u c T) t.2 (c * t.1) := by
  unfold addT
  rw [List.foldl_append]
  rfl
theorem wsum_addT {N : List Str} {v : Str → Int} {c : Int} (nd : N.Nodup) : ∀ {T : List Term} {u : Str → Int}, (∀ t ∈ T, t.2 ∈ N) → wsum N (addT u c T) v = wsum N u v + c * sumG v T
  | [], u, _ => by
    show wsum N u v = wsum N u v + c * 0
    rw [Int.mul_zero, Int.add_zero]
  | t :: T, u, h => by
    show wsum N (addT (add1 u t.2 (c * t.1)) c T) v = wsum N u v + c * (t.1 * v t.2 + sumG v T)
    rw [wsum_addT nd (fun s hs => h s (List.mem_cons_of_mem _ hs)), wsum_add1 nd (h t List.mem_cons_self), Int.mul_add, Int.mul_assoc]
    omega
def formAt (l : Line) (k : Nat) : List Term := l.2.2.getD k []
def addL (u w : Str → Int) (L : List Line) (k : Nat) : Str → Int := L.foldl (fun u l => addT u (w l.1) (formAt l k)) u
theorem addL_snoc {u w : Str → Int} {L : List Line} {l : Line} {k : Nat} : addL u w (L ++ [l]) k = addT (addL u w L k) (w l.1) (formAt l k) := by
  unfold addL
  rw [List.foldl_append]
  rfl
theorem wsum_addL {N : List Str} {w v : Str → Int} {k : Nat} (nd : N.Nodup) : ∀ {L : List Line} {u : Str → Int}, (∀ l ∈ L, ∀ t ∈ formAt l k, t.2 ∈ N) → wsum N (addL u w L k) v = wsum N u v + (L.map fun l => w l.1 * sumG v (formAt l k)).sum
  | [], u, _ => by
    show wsum N u v = wsum N u v + 0
    rw [Int.add_zero]
  | l :: L, u, h => by
    show wsum N (addL (addT u (w l.1) (formAt l k)) w L k) v = _
    rw [wsum_addL nd (fun s hs => h s (List.mem_cons_of_mem _ hs)), wsum_addT nd (h l List.mem_cons_self), List.map_cons, List.sum_cons]
    omega
theorem wsum_zero {N : List Str} {v : Str → Int} : wsum N (fun _ => 0) v = 0 := by
  induction N with
  | nil => rfl
  | cons x N ih =>
    show 0 * v x + wsum N (fun _ => 0) v = 0
    rw [ih, Int.zero_mul, Int.zero_add]
theorem worth_map {φ : Line → Int} {l : Line} : ∀ {L : List Line}, (names L).Nodup → l ∈ L → worth (names L) (L.map φ) l.1 = φ l
  | x :: L, nd, hl => by
    have nd' := List.nodup_cons.mp (show (x.1 :: names L).Nodup from nd)
    rcases List.mem_cons.mp hl with rfl | hl
    · unfold worth
      rw [show (names (l :: L)).idxOf l.1 = 0 from List.idxOf_cons_self]
      rfl
    · have ne : x.1 ≠ l.1 := fun e => nd'.1 (by rw [e]; exact List.mem_map.mpr ⟨l, hl, rfl⟩)
      have ih := worth_map (φ := φ) nd'.2 hl
      unfold worth at ih ⊢
      have hb : (x.1 == l.1) = false := beq_eq_false_iff_ne.mpr ne
      rw [show (names (x :: L)).idxOf l.1 = (names L).idxOf l.1 + 1 from by
        show (x.1 :: names L).idxOf l.1 = _
        rw [List.idxOf_cons, hb]
        rfl]
      exact ih
def vf (b : Nat) (L : List Line) (n : Nat) : Str → Int := fun y => worth (names L) (vec b L n) y
theorem wsum_names {L : List Line} {w v : Str → Int} : wsum (names L) w v = (L.map fun l => w l.1 * v l.1).sum := by
  unfold wsum names
  rw [List.map_map]
  rfl
theorem far_step {b : Int} {L : List Line} (S : Sound b L) {m k : Nat} (hk : k < b.toNat) (w : Str → Int) : wsum (names L) (addL (fun _ => 0) w L k) (vf b.toNat L m) = wsum (names L) w (vf b.toNat L (b.toNat * m + k)) := by
  have hin : ∀ l ∈ L, ∀ t ∈ formAt l k, t.2 ∈ names L := fun l hl t ht => by
    unfold formAt at ht
    rw [List.getD_eq_getElem?_getD] at ht
    cases e : l.2.2[k]? with
    | none => rw [e] at ht; cases ht
    | some f =>
      rw [e] at ht
      exact S.known l hl f (List.mem_of_getElem? e) t ht
  rw [wsum_addL S.nd hin, wsum_zero, Int.zero_add, wsum_names]
  congr 1
  refine List.map_congr_left fun l hl => ?_
  congr 1
  unfold vf
  rw [vec_step S hk]
  exact (worth_map (φ := fun l => sumF (names L) (vec b.toNat L m) (l.2.2.getD k [])) S.nd hl).symm
theorem far_end {b : Int} {L : List Line} (S : Sound b L) (w : Str → Int) : wsum (names L) w (vf b.toNat L 0) = (L.map fun l => w l.1 * l.2.1).sum := by
  rw [wsum_names]
  congr 1
  refine List.map_congr_left fun l hl => ?_
  congr 1
  unfold vf
  rw [vec_zero]
  exact worth_map (φ := fun l => l.2.1) S.nd hl
theorem worth_self : ∀ {N : List Str} {cs : List Int}, N.Nodup → N.length = cs.length → N.map (worth N cs) = cs
  | [], [], _, _ => rfl
  | x :: N, c :: cs, nd, h => by
    have nd' := List.nodup_cons.mp nd
    have ih := worth_self (N := N) (cs := cs) nd'.2 (Nat.succ.inj h)
    rw [List.map_cons]
    congr 1
    · unfold worth
      rw [List.idxOf_cons_self]
      rfl
    · refine Eq.trans (List.map_congr_left (g := worth N cs) fun y hy => ?_) ih
      have ne : x ≠ y := fun e => nd'.1 (by rw [e]; exact hy)
      have hb : (x == y) = false := beq_eq_false_iff_ne.mpr ne
      unfold worth
      rw [List.idxOf_cons, hb]
      rfl
theorem far_begin {N : List Str} {cs vals : List Int} (nd : N.Nodup) (h1 : N.length = cs.length) (h2 : N.length = vals.length) : wsum N (worth N cs) (worth N vals) = dot cs vals := by
  unfold wsum dot
  congr 1
  have e1 := worth_self nd h1
  have e2 := worth_self nd h2
  have : N.map (fun y => worth N cs y * worth N vals y) = ((N.map (worth N cs)).zip (N.map (worth N vals))).map fun p => p.1 * p.2 := by
    rw [List.zip_map', List.map_map]
    rfl
  rw [this, e1, e2]
theorem add1_le {w : Str → Int} {y z : Str} {c : Int} {B C : Nat} (h : (w z).natAbs ≤ B) (hc : c.natAbs ≤ C) : (add1 w y c z).natAbs ≤ B + C := by
  unfold add1
  split <;> omega
theorem addT_le {c : Int} {W : Nat} (hc : c.natAbs ≤ W) {z : Str} : ∀ {T : List Term} {u : Str → Int} {B : Nat}, (∀ t ∈ T, t.1.natAbs ≤ 9) → (u z).natAbs ≤ B → (addT u c T z).natAbs ≤ B + 9 * W * T.length
  | [], u, B, _, h => h
  | t :: T, u, B, ht, h => by
    have h1 : (c * t.1).natAbs ≤ 9 * W := by
      rw [Int.natAbs_mul, Nat.mul_comm]
      exact Nat.mul_le_mul (ht t List.mem_cons_self) hc
    have := addT_le hc (z := z) (T := T) (B := B + 9 * W) (fun s hs => ht s (List.mem_cons_of_mem _ hs)) (add1_le (y := t.2) h h1)
    rw [List.length_cons, Nat.mul_add, Nat.mul_one]
    show (addT (add1 u t.2 (c * t.1)) c T z).natAbs ≤ _
    omega
theorem addL_le {w : Str → Int} {W k : Nat} (hw : ∀ y, (w y).natAbs ≤ W) {z : Str} : ∀ {L : List Line} {u : Str → Int} {B : Nat}, (∀ l ∈ L, ∀ f ∈ l.2.2, f.length ≤ 5) → (∀ l ∈ L, ∀ f ∈ l.2.2, ∀ t ∈ f, t.1.natAbs ≤ 9) → (u z).natAbs ≤ B → (addL u w L k z).natAbs ≤ B + 45 * W * L.length
  | [], u, B, _, _, h => h
  | l :: L, u, B, h5, h9, h => by
    have hf : (formAt l k).length ≤ 5 ∧ ∀ t ∈ formAt l k, t.1.natAbs ≤ 9 := by
      unfold formAt
      rw [List.getD_eq_getElem?_getD]
      cases e : l.2.2[k]? with
      | none => exact ⟨Nat.zero_le _, fun t ht => by cases ht⟩
      | some f => exact ⟨h5 l List.mem_cons_self f (List.mem_of_getElem? e), h9 l List.mem_cons_self f (List.mem_of_getElem? e)⟩
    have h1 := addT_le (hw l.1) (z := z) hf.2 h
    have h2 : 9 * W * (formAt l k).length ≤ 9 * W * 5 := Nat.mul_le_mul_left _ hf.1
    have := addL_le hw (k := k) (z := z) (L := L) (u := addT u (w l.1) (formAt l k)) (B := B + 45 * W) (fun s hs => h5 s (List.mem_cons_of_mem _ hs)) (fun s hs => h9 s (List.mem_cons_of_mem _ hs)) (by omega)
    rw [List.length_cons, Nat.mul_add, Nat.mul_one]
    show (addL (addT u (w l.1) (formAt l k)) w L k z).natAbs ≤ _
    omega

/-! Figurebooks: dicts from lists of pairs. -/
theorem putK_new {kvs : List (Key × V)} {k : Key} {v : V} (h : k ∉ kvs.map (·.1)) : putK kvs k v = kvs ++ [(k, v)] := by
  unfold putK
  have e : (kvs.any fun kv => decide (kv.1 = k)) = false := by
    rw [List.any_eq_false]
    intro kv hk z
    have := of_decide_eq_true z
    exact h (List.mem_map.mpr ⟨kv, hk, this⟩)
  rw [if_neg (by rw [e]; decide)]
theorem merge_new : ∀ {more acc : List (Key × V)}, ((acc ++ more).map (·.1)).Nodup → mergeK acc more = acc ++ more
  | [], acc, _ => (List.append_nil acc).symm
  | kv :: more, acc, h => by
    have hn : kv.1 ∉ acc.map (·.1) := fun hm => by
      rw [List.map_append, List.nodup_append] at h
      exact h.2.2 _ hm _ (List.mem_map.mpr ⟨kv, List.mem_cons_self, rfl⟩) rfl
    have h2 : (((acc ++ [kv]) ++ more).map (·.1)).Nodup := by
      rw [List.append_assoc]
      exact h
    have ih := merge_new h2
    unfold mergeK at ih ⊢
    rw [List.foldl_cons, putK_new hn, ih, List.append_assoc]
    rfl
theorem sk_merge {ks : List Str} {g : Str → Int} (nd : ks.Nodup) : mergeK [] (sk ks g) = sk ks g :=
  merge_new (by
    rw [List.nil_append, sk_keys]
    exact List.Pairwise.map _ (fun a b h z => h (Sum.inr.inj z)) nd)
theorem lz_pure {K : PySem.W.Frag} {a b : Addr} {xs ys : List V} {g : TG} {tt : TT} {te : TE} {vs : List Nat} {σ : L2.St} {H1 : Hp} {D : Addr} {Qd : Hp → Prop} (R : Nat → V → Hp → Prop) (hR : ∀ i y H H', R i y H → Same H H' → R i y H')
    (hl : xs.length = ys.length) (hS : SqL K H1 a xs) (hS2 : SqL K H1 b ys) (hD : H1 D = none) (hz : xs.length ≤ 1000)
    (gm : ∀ x H (P P' : L2.St → Hp → Prop), (∀ σ H, P σ H → P' σ H) → g x (wipe σ vs) H P → g x (wipe σ vs) H P') (tm : ∀ σ H (P P' : Bool → Hp → Prop), (∀ b H, P b H → P' b H) → tt σ H P → tt σ H P')
    (hs : ∀ i x y (T : Addr) H (Q : VK), xs[i]? = some x → ys[i]? = some y → Same H1 H → SqT K H T [x, y] → (∀ y H4, Same H H4 → R i y (nw H H4) → Q y H4) → LcTurn g tt te vs σ (.ref T) H Q)
    (hd : ∀ H ys, ys.length = xs.length → (∀ i y, ys[i]? = some y → R i y (nw H1 H)) → Same H1 H → H D = some (.lst ys) → Qd H) :
    ∃ W : Nat → Nat → Hp → Prop, (∃ m, W 0 m (upd H1 D (.lst []))) ∧ ∀ i m H, W i m H →
      ((Itz K a b).stop i H ∧ Qd H) ∨ ((Itz K a b).go i H ∧ ∃ Nx : Hp → Prop, (∀ H', Nx H' → ∃ m', m' < m ∧ W (i + 1) m' H') ∧ ∀ x H', (Itz K a b).yld i H x H' → g x (wipe σ vs) H' fun σ2 H2 => wipe σ2 vs = wipe σ vs ∧ tt σ2 H2 fun b H3 =>
        if b = true then te σ2 H3 fun y H4 => ∃ acc, H4 D = some (.lst acc) ∧ acc.length < sizeLine ∧ Nx (upd H4 D (.lst (acc ++ [y]))) else Nx H3) := by
  let Pv : Nat → Hp → Prop := fun i H => Same H1 H ∧ ∃ zs, H D = some (.lst zs) ∧ zs.length = i ∧ ∀ j y, zs[j]? = some y → R j y (nw H1 (hid D H))
  refine ⟨fun i m H => m = xs.length - i ∧ i ≤ xs.length ∧ Pv i H, ⟨xs.length, by simp, Nat.zero_le _, same_new hD, [], upd_same, rfl, fun j y e => by simp at e⟩, ?_⟩
  rintro i m H ⟨rfl, hi, s, zs, e, hlen, hy⟩
  have qx := s.seq hS
  have qy := s.seq hS2
  by_cases hlt : i < xs.length
  · have hx : xs[i]? = some xs[i] := List.getElem?_eq_getElem hlt
    have hlt2 : i < ys.length := by omega
    have hyy : ys[i]? = some ys[i] := List.getElem?_eq_getElem hlt2
    refine .inr ⟨⟨xs, ys, _, _, qx, qy, hx, hyy⟩, Pv (i + 1), fun H' p' => ⟨xs.length - (i + 1), by omega, rfl, hlt, p'⟩, fun v H' y => ?_⟩
    obtain ⟨T, x', y', rfl, hT, rfl, f1, f2⟩ := y
    have ex : x' = xs[i] := Option.some.inj ((f1 _ qx).symm.trans hx)
    have ey : y' = ys[i] := Option.some.inj ((f2 _ qy).symm.trans hyy)
    subst ex
    subst ey
    have sT : Same H (upd H T (.tup [xs[i], ys[i]])) := Fb.Same.new (Same.refl _) hT
    have eT : (upd H T (.tup [xs[i], ys[i]])) D = some (.lst zs) := upd_old hT e
    refine gm _ _ _ _ ?_ (hs i _ _ T _ (fun y H4 => ∃ acc, H4 D = some (.lst acc) ∧ acc.length < sizeLine ∧ Pv (i + 1) (upd H4 D (.lst (acc ++ [y])))) hx hyy (s.trans sT) (st_of upd_same) ?_)
    · rintro σ2 H2 ⟨w, h⟩
      refine ⟨w, tm _ _ _ _ ?_ h⟩
      intro b H3 h
      cases b with
      | true =>
        rw [if_pos rfl] at h ⊢
        exact h
      | false =>
        rw [if_neg Bool.false_ne_true] at h
        exact h.elim
    · intro y H4 s4 r4
      refine ⟨zs, s4 _ _ eT, Nat.lt_of_le_of_lt (show zs.length ≤ 1000 by omega) (by decide), Fb.Same.mut ((s.trans sT).trans s4) hD, zs ++ [y], upd_same, by simp [hlen], fun j z hz => ?_⟩
      rw [hid_upd]
      by_cases hj : j < zs.length
      · rw [List.getElem?_append_left hj] at hz
        exact hR _ _ _ _ (hy j z hz) (nw_mono (hid_same (sT.trans s4)))
      · have ej : j = i := by
          have := (List.getElem?_eq_some_iff.mp hz).1
          simp at this
          omega
        subst ej
        rw [List.getElem?_append_right (by omega)] at hz
        have e0 : j - zs.length = 0 := by omega
        rw [e0] at hz
        have ez : y = z := Option.some.inj hz
        subst ez
        exact hR _ _ _ _ r4 (nw_hid (s.trans sT) eT)
  · have e' : i = xs.length := by omega
    subst e'
    exact .inl ⟨⟨xs, ys, qx, qy, .inl (Nat.le_refl _)⟩, hd H zs hlen (fun i y h => hR _ _ _ _ (hy i y h) (nw_mono hid_le)) s e⟩
theorem r_lcZ {K : PySem.W.Frag} {ta : TA} {g : TG} {tt : TT} {te : TE} {vs : List Nat} {σ : L2.St} {H : Hp} {Q : VK} (q : ta σ H fun vs1 H1 => ∃ a b xs ys, vs1 = [.ref a, .ref b] ∧ SqL K H1 a xs ∧ SqL K H1 b ys ∧ ∀ D, H1 D = none → ∃ W : Nat → Nat → Hp → Prop, (∃ m, W 0 m (upd H1 D (.lst []))) ∧ ∀ i m H, W i m H →
    ((Itz K a b).stop i H ∧ Q (.ref D) H) ∨ ((Itz K a b).go i H ∧ ∃ Nx : Hp → Prop, (∀ H', Nx H' → ∃ m', m' < m ∧ W (i + 1) m' H') ∧ ∀ x H', (Itz K a b).yld i H x H' → g x (wipe σ vs) H' fun σ2 H2 => wipe σ2 vs = wipe σ vs ∧ tt σ2 H2 fun b H3 =>
      if b = true then te σ2 H3 fun y H4 => ∃ acc, H4 D = some (.lst acc) ∧ acc.length < sizeLine ∧ Nx (upd H4 D (.lst (acc ++ [y]))) else Nx H3)) : tLc (iZip K ta) g tt te vs σ H Q := q
theorem r_lcL {K : PySem.W.Frag} {tl : TE} {g : TG} {tt : TT} {te : TE} {vs : List Nat} {σ : L2.St} {H : Hp} {Q : VK} (q : tl σ H fun x H1 => ∃ a, x = .ref a ∧ (∃ xs, SqL K H1 a xs) ∧ ∀ D, H1 D = none → ∃ W : Nat → Nat → Hp → Prop, (∃ m, W 0 m (upd H1 D (.lst []))) ∧ ∀ i m H, W i m H →
    ((Itl K a).stop i H ∧ Q (.ref D) H) ∨ ((Itl K a).go i H ∧ ∃ Nx : Hp → Prop, (∀ H', Nx H' → ∃ m', m' < m ∧ W (i + 1) m' H') ∧ ∀ x H', (Itl K a).yld i H x H' → g x (wipe σ vs) H' fun σ2 H2 => wipe σ2 vs = wipe σ vs ∧ tt σ2 H2 fun b H3 =>
      if b = true then te σ2 H3 fun y H4 => ∃ acc, H4 D = some (.lst acc) ∧ acc.length < sizeLine ∧ Nx (upd H4 D (.lst (acc ++ [y]))) else Nx H3)) : tLc (iList K tl) g tt te vs σ H Q := q
theorem choose_pairs {K : PySem.W.Frag} {H : Hp} {α : Type} {P : α → V → Prop} {key : α → Str} : ∀ {ys : List V} {L : List α}, ys.length = L.length → (∀ (i : Nat) (y : V) (l : α), ys[i]? = some y → L[i]? = some l → ∃ (T : Addr) (v : V), y = .ref T ∧ SqT K H T [.str (key l), v] ∧ P l v) →
    ∃ (ps : List Addr) (kvs : List (Key × V)), ys = ps.map V.ref ∧ Paired (fun p kv => SqT K H p [kV kv.1, kv.2]) ps kvs ∧ kvs.map (·.1) = L.map (fun l => (Sum.inr (key l) : Key)) ∧ ∀ (i : Nat) (l : α), L[i]? = some l → ∃ v, kvs[i]? = some (Sum.inr (key l), v) ∧ P l v
  | [], [], _, _ => ⟨[], [], rfl, .nil, rfl, (fun i l h => by simp at h)⟩
  | y :: ys, l :: L, hl, h => by
    obtain ⟨T, v, rfl, hT, hP⟩ := h 0 y l rfl rfl
    obtain ⟨ps, kvs, e, hp, hk, hv⟩ := choose_pairs (ys := ys) (L := L) (Nat.succ.inj hl) fun i z m h1 h2 => h (i + 1) z m h1 h2
    refine ⟨T :: ps, (Sum.inr (key l), v) :: kvs, by rw [e]; rfl, .cons hT hp, by rw [List.map_cons, hk]; rfl, fun i m hm => ?_⟩
    cases i with
    | zero =>
      cases hm
      exact ⟨v, rfl, hP⟩
    | succ i => exact hv i m hm
theorem valV_at : ∀ {kvs : List (Key × V)} {i : Nat} {k : Key} {v : V}, (kvs.map (·.1)).Nodup → kvs[i]? = some (k, v) → valV kvs k = some v
  | kv :: kvs, 0, k, v, _, h => by
    cases h
    exact valV_pos rfl
  | kv :: kvs, i + 1, k, v, nd, h => by
    have nd' := List.nodup_cons.mp (show (kv.1 :: kvs.map (·.1)).Nodup from nd)
    have hm : kvs[i]? = some (k, v) := h
    rw [valV_neg (fun e => nd'.1 (by rw [e]; exact List.mem_map.mpr ⟨(k, v), List.mem_of_getElem? hm, rfl⟩))]
    exact valV_at nd'.2 hm
theorem inr_nodup {ks : List Str} (nd : ks.Nodup) : (ks.map (fun x => (Sum.inr x : Key))).Nodup := List.Pairwise.map _ (fun a b h z => h (Sum.inr.inj z)) nd
theorem kvs_sk {w : Str → Int} {kvs : List (Key × V)} {L : List Line} (hk : kvs.map (·.1) = L.map (fun l => (Sum.inr l.1 : Key))) (h : ∀ (i : Nat) (l : Line), L[i]? = some l → ∃ v, kvs[i]? = some ((Sum.inr l.1 : Key), v) ∧ v = .int (w l.1)) : kvs = sk (names L) w := by
  have hl : kvs.length = L.length := by
    have := congrArg List.length hk
    rw [List.length_map, List.length_map] at this
    exact this
  refine List.ext_getElem? fun i => ?_
  unfold sk names
  rw [List.map_map, List.getElem?_map]
  cases e : L[i]? with
  | none =>
    have : L.length ≤ i := List.getElem?_eq_none_iff.mp e
    rw [List.getElem?_eq_none (by omega)]
    rfl
  | some l =>
    obtain ⟨v, h1, rfl⟩ := h i l e
    rw [h1]
    rfl
theorem paired_same {K : PySem.W.Frag} {H H' : Hp} (s : Same H H') : ∀ {ps : List Addr} {kvs : List (Key × V)}, Paired (fun p kv => SqT K H p [kV kv.1, kv.2]) ps kvs → Paired (fun p kv => SqT K H' p [kV kv.1, kv.2]) ps kvs
  | [], [], .nil => .nil
  | _ :: _, _ :: _, .cons h r => .cons (sqt_same s h) (paired_same s r)
theorem line_nodup {L : List Line} (nd : (names L).Nodup) : (L.map (fun l => (Sum.inr l.1 : Key))).Nodup := by
  have h := inr_nodup nd
  unfold names at h
  rw [List.map_map] at h
  exact h
theorem r_forL {K : PySem.W.Frag} {tl : TE} {g : TG} {tb : TS} {D : Ends} {σ : L2.St} {H : Hp} (q : tl σ H fun x H1 => ∃ a, x = .ref a ∧ (∃ xs, SqL K H1 a xs) ∧ ∃ W : Nat → Nat → L2.St → Hp → Prop, (∃ m, W 0 m σ H1) ∧ ∀ k m σ H, W k m σ H →
    ((Itl K a).stop k H ∧ D.nx σ H) ∨ ((Itl K a).go k H ∧ ∃ N : L2.St → Hp → Prop, (∀ σ' H', N σ' H' → ∃ m', m' < m ∧ W (k + 1) m' σ' H') ∧ ∀ x H', (Itl K a).yld k H x H' → g x σ H' fun σ2 H2 => tb { D with nx := N, ct := N, bk := D.nx } σ2 H2)) : tFor (iList K tl) g tb D σ H := q
theorem r_forK {td : TE} {g : TG} {tb : TS} {D : Ends} {σ : L2.St} {H : Hp} (q : td σ H fun x H1 => ∃ d o kvs, x = .ref d ∧ H1 d = some (.frz o (.dK kvs)) ∧ ∃ W : Nat → Nat → L2.St → Hp → Prop, (∃ m, W 0 m σ H1) ∧ ∀ k m σ H, W k m σ H →
    ((Itk d o kvs).stop k H ∧ D.nx σ H) ∨ ((Itk d o kvs).go k H ∧ ∃ N : L2.St → Hp → Prop, (∀ σ' H', N σ' H' → ∃ m', m' < m ∧ W (k + 1) m' σ' H') ∧ ∀ x H', (Itk d o kvs).yld k H x H' → g x σ H' fun σ2 H2 => tb { D with nx := N, ct := N, bk := D.nx } σ2 H2))
    (hm : ∀ (P P' : V → Hp → Prop), (∀ v H, P v H → P' v H) → td σ H P → td σ H P') : tFor (iKeys td) g tb D σ H := by
  refine hm _ _ ?_ q
  rintro v H1 ⟨d, o, kvs, e, h, q⟩
  exact ⟨d, o, e, .inl ⟨kvs, h, q⟩⟩
theorem for_keys {d : Addr} {od : Obj} {kvs : List (Key × V)} {g : TG} {tb : TS} {D : Ends} {σ : L2.St} {H : Hp} (Pv : Nat → L2.St → Hp → Prop) (h0 : Pv 0 σ H) (hl : ∀ i σ H, i ≤ kvs.length → Pv i σ H → H d = some (.frz od (.dK kvs)))
    (hs : ∀ i k v σ H, kvs[i]? = some (k, v) → Pv i σ H → g (kV k) σ H fun σ2 H2 => tb { D with nx := Pv (i + 1), ct := Pv (i + 1), bk := D.nx } σ2 H2) (hd : ∀ σ H, Pv kvs.length σ H → D.nx σ H) :
    ∃ W : Nat → Nat → L2.St → Hp → Prop, (∃ m, W 0 m σ H) ∧ ∀ i m σ H, W i m σ H →
      ((Itk d od kvs).stop i H ∧ D.nx σ H) ∨ ((Itk d od kvs).go i H ∧ ∃ N : L2.St → Hp → Prop, (∀ σ' H', N σ' H' → ∃ m', m' < m ∧ W (i + 1) m' σ' H') ∧ ∀ x H', (Itk d od kvs).yld i H x H' → g x σ H' fun σ2 H2 => tb { D with nx := N, ct := N, bk := D.nx } σ2 H2) := by
  refine ⟨fun i m σ H => m = kvs.length - i ∧ i ≤ kvs.length ∧ Pv i σ H, ⟨kvs.length, by simp, Nat.zero_le _, h0⟩, ?_⟩
  rintro i m σ H ⟨rfl, hi, p⟩
  have q := hl i σ H hi p
  by_cases hlt : i < kvs.length
  · refine .inr ⟨⟨q, hlt⟩, Pv (i + 1), fun σ' H' p' => ⟨kvs.length - (i + 1), by omega, rfl, hlt, p'⟩, fun x H' y => ?_⟩
    obtain ⟨e, k, v, y, ex⟩ := y
    subst e ex
    exact hs i k v σ _ y p
  · have e : i = kvs.length := by omega
    subst e
    exact .inl ⟨⟨q, Nat.le_refl _⟩, hd σ H p⟩
theorem r_rev {K : PySem.W.Frag} {te : TE} {σ : L2.St} {H : Hp} {Q : VK} (q : te σ H fun x H1 => ∃ a xs, x = .ref a ∧ SqL K H1 a xs ∧ ∀ p, H1 p = none → Q (.ref p) (upd H1 p (.lst xs.reverse))) : tRevL K te σ H Q := q
theorem unlock_same {H H' : Hp} {d : Addr} {u z : HO} (e : H d = some u) (s : Same (upd H d z) H') : Same H (upd H' d u) := fun a o h => by
  by_cases q : a = d
  · subst q
    rw [e] at h
    cases h
    exact upd_same
  · exact upd_oth q (s _ _ (upd_oth q h))
theorem sk_upd {ks : List Str} {u : Str → Int} {y : Str} {c : Int} (h : y ∈ ks) : putK (sk ks u) (Sum.inr y : Key) (.int (u y + c)) = sk ks (add1 u y c) := by
  unfold putK
  have e : ((sk ks u).any fun kv => decide (kv.1 = (Sum.inr y : Key))) = true := by
    rw [List.any_eq_true]
    exact ⟨_, List.mem_map.mpr ⟨y, h, rfl⟩, decide_eq_true rfl⟩
  rw [if_pos e]
  unfold sk
  rw [List.map_map]
  refine List.map_congr_left fun z _ => ?_
  show (if (Sum.inr z : Key) = Sum.inr y then ((Sum.inr z : Key), V.int (u y + c)) else (Sum.inr z, V.int (u z))) = (Sum.inr z, V.int (add1 u y c z))
  unfold add1
  by_cases q : z = y
  · subst q
    rw [if_pos rfl, if_pos rfl]
  · rw [if_neg (fun w => q (Sum.inr.inj w)), if_neg q]
theorem worthN_le {N : List Str} {cs : List Int} {y : Str} {B : Nat} (h : ∀ c ∈ cs, c.natAbs ≤ B) : (worth N cs y).natAbs ≤ B := by
  unfold worth
  rw [List.getD_eq_getElem?_getD]
  cases e : cs[N.idxOf y]? with
  | none => exact Nat.zero_le _
  | some c => exact h c (List.mem_of_getElem? e)
theorem digs_at {b n m i : Nat} {x : V} (hb : 2 ≤ b) (hd : (digs b n).drop i = digs b m) (hx : ((digs b n).map dv)[i]? = some x) : 0 < m ∧ x = .int ((m % b : Nat) : Int) ∧ (digs b n).drop (i + 1) = digs b (m / b) := by
  rw [List.getElem?_map] at hx
  cases e : (digs b n)[i]? with
  | none => rw [e] at hx; cases hx
  | some d =>
    rw [e] at hx
    cases hx
    obtain ⟨hi, e2⟩ := List.getElem?_eq_some_iff.mp e
    have h1 := List.drop_eq_getElem_cons hi
    rw [hd, e2] at h1
    have hm : 0 < m := by
      rcases Nat.eq_zero_or_pos m with z | z
      · rw [z, digs_zero] at h1
        cases h1
      · exact z
    rw [digs_pos hm hb] at h1
    have h2 := List.cons.inj h1
    refine ⟨hm, ?_, h2.2.symm⟩
    rw [← h2.1]
    rfl

/-! Figurebooks: methods called with keywords alone. -/
def tMethK (C : Addr) (m : Str) (sp : Sp) (n : Nat) (gV : List V → List V → List V) (E : XK) (ta : TE) (tk : TA) : TE := fun σ H Q => ta σ H fun x H1 => ∃ a dx fs, x = .ref a ∧ H1 a = some (.ins C dx fs) ∧ fs.lookup m = none ∧
  tk σ H1 fun zs H2 => zs.length = n ∧ sp (gV [x] zs) H2 Q E
section
variable {X : Cx} {CX : CXT} {k : Nat} {f C : Addr} {fd : FuncData} {ps ks : List Str} {sp : Sp} {E : XK} {m : Str} {pos apos : Pos} {o : Expr} {kws : List Keyword} {ta : TE} {tk : TA} {g : List Value → List Value → List Value} {gV : List V → List V → List V} {pl : Sem Bool}
theorem pe_methK0 (he : PE X o ta) (c : Cls X.K C) (hm : Meth X.K C m f) (F : FnOk X.prog X.w X.K X.mg X.base CX k f fd ps sp) (hr : Room k X.A) (hb : KBn X.K fd ps 1 ks g gV) (hx : Passes CX X E) (hkw : PK X kws tk)
    (hall : (backToKw pos (keywordEach kws X.env)).all (·.1.isSome) = true := by rfl) (hks : (backToKw pos (keywordEach kws X.env)).filterMap (·.1) = ks := by rfl) (hpl : ((backTo pos (starEach [] X.env)).any (·.1) || (backToKw pos (keywordEach kws X.env)).any (·.1.isNone)) = false := by rfl)
    (ht : eval (.Call (.Attribute o m apos) [] kws pos) X.env = (do
      let ov ← eval o X.env
      standAt apos.atName
      let (f, first) ← holding [ov] (getMethod ov m pl)
      callWith pos f first (backTo pos (starEach [] X.env)) (backToKw pos (keywordEach kws X.env))) := by rfl) : PE X (.Call (.Attribute o m apos) [] kws pos) (tMethK C m sp ks.length gV E ta tk) := by
  constructor
  intro pins s σ H Q I h
  refine PySem.W.methodCall_KW (pl := pl) (thn (he.run pins s σ H _ I h) ?_) ht
  rintro u s1 ⟨x, H1, J, rx, a, dx, fs, rfl, ea, l, q⟩
  obtain rfl : u = Value.ref a := rx
  refine getmeth_ok J ea c hm l (PySem.W.callWith_KW0 (h₀ := X.base) (first := [.ref a]) J.ok.mod.kin hm.kp hall (thn (hkw.run pos pins s1 σ H1 _ J q) ?_) hpl)
  rintro ws s2 ⟨zs, H2, J2, rz, hz, q2⟩
  have r1 : Vals [V.ref a] [Value.ref a] := .cons rfl .nil
  have hw : ws.length = ks.length := by rw [← rz.length]; exact hz
  rw [hks]
  refine ⟨J2.kIn, wpAny_call (codeAny_mono (F.run X.A X.stack s2 H2 ⟨[.ref a], ks.zip ws⟩ (g [.ref a] ws) (gV [.ref a] zs) Q E hr J2.env0 (hb.to s2 [.ref a] ws J2.kIn rfl hw) (hb.rel r1 rz) q2) ?_)⟩
  intro r s3 y
  match r, y with
  | .error e, y => exact hx pins σ H2 s2 e s3 J2 y
  | .ok (.ret u), y => exact J2.after y
end
theorem kbn_self {K : PySem.W.Frag} {x qual : Str} {st : Stmt} {f : Addr} {fd : FuncData} {ps ks : List Str} (F : Fun K x qual st f fd)
    (h : ∀ (kV doc pm : Value) (an : Option Addr) (cdv ct : Value) (us ws : List Value), us.length = 1 → ws.length = ks.length → bindArgs (PySem.W.fnOf x qual (defArgs st) (defBody st) (defScope st) .none kV doc pm an cdv ct) ⟨us, ks.zip ws⟩ = pure (ps.zip (us ++ ws))) :
    KBn K fd ps 1 ks (fun us ws => us ++ ws) (fun vs zs => vs ++ zs) := by
  obtain ⟨oc, od, kV, doc, pm, an, cdv, ct, osl, rfl, lk, hcd⟩ := F.ex
  exact ⟨fun s us ws _ h1 h2 => .of_eq (h kV doc pm an cdv ct us ws h1 h2), fun r1 r2 => r1.append r2⟩

/-! Figurebooks: how great values of drawn books are. -/
theorem sumN_le {B : Nat} : ∀ {l : List Int}, (∀ z ∈ l, z.natAbs ≤ B) → l.sum.natAbs ≤ l.length * B
  | [], _ => Nat.zero_le _
  | z :: l, h => by
    have h1 := h z List.mem_cons_self
    have h2 := sumN_le fun y hy => h y (List.mem_cons_of_mem _ hy)
    rw [List.sum_cons, List.length_cons, Nat.add_mul, Nat.one_mul]
    omega
theorem mul_le {a b : Int} {A B : Nat} (ha : a.natAbs ≤ A) (hb : b.natAbs ≤ B) : (a * b).natAbs ≤ A * B := by
  rw [Int.natAbs_mul]
  exact Nat.mul_le_mul ha hb
theorem step_tame {L : List Line} {vals : List Int} {k B : Nat} (h5 : ∀ l ∈ L, ∀ f ∈ l.2.2, f.length ≤ 5) (h9 : ∀ l ∈ L, ∀ f ∈ l.2.2, ∀ t ∈ f, t.1.natAbs ≤ 9) (hv : ∀ z ∈ vals, z.natAbs ≤ B) : ∀ z ∈ stepV L vals k, z.natAbs ≤ 45 * B := fun z hz => by
  unfold stepV at hz
  obtain ⟨l, hl, rfl⟩ := List.mem_map.mp hz
  have hf : (l.2.2.getD k []).length ≤ 5 ∧ ∀ t ∈ l.2.2.getD k [], t.1.natAbs ≤ 9 := by
    rw [List.getD_eq_getElem?_getD]
    cases e : l.2.2[k]? with
    | none => exact ⟨Nat.zero_le _, fun t ht => by cases ht⟩
    | some f => exact ⟨h5 l hl f (List.mem_of_getElem? e), h9 l hl f (List.mem_of_getElem? e)⟩
  unfold sumF
  have h1 := sumN_le (l := (l.2.2.getD k []).map fun t => t.1 * worth (names L) vals t.2) (B := 9 * B) fun z hz => by
    obtain ⟨t, ht, rfl⟩ := List.mem_map.mp hz
    exact mul_le (hf.2 t ht) (worthN_le hv)
  rw [List.length_map] at h1
  have h2 : (l.2.2.getD k []).length * (9 * B) ≤ 5 * (9 * B) := Nat.mul_le_mul_right _ hf.1
  omega
theorem vec_tame {b : Nat} {L : List Line} (hb : 2 ≤ b) (h5 : ∀ l ∈ L, ∀ f ∈ l.2.2, f.length ≤ 5) (h9 : ∀ l ∈ L, ∀ f ∈ l.2.2, ∀ t ∈ f, t.1.natAbs ≤ 9) (hs : ∀ l ∈ L, l.2.1.natAbs < 2 ^ 20) : ∀ (j n : Nat), n < 2 ^ j → ∀ z ∈ vec b L n, z.natAbs ≤ 2 ^ 20 * 45 ^ j
  | 0, n, hn, z, hz => by
    have e : n = 0 := by omega
    subst e
    rw [vec_zero] at hz
    unfold starts at hz
    obtain ⟨l, hl, rfl⟩ := List.mem_map.mp hz
    have := hs l hl
    omega
  | j + 1, n, hn, z, hz => by
    rcases Nat.eq_zero_or_pos n with e | e
    · subst e
      rw [vec_zero] at hz
      unfold starts at hz
      obtain ⟨l, hl, rfl⟩ := List.mem_map.mp hz
      have h1 := hs l hl
      have h2 : 1 ≤ 45 ^ (j + 1) := Nat.pow_pos (by decide)
      have h3 : 2 ^ 20 * 1 ≤ 2 ^ 20 * 45 ^ (j + 1) := Nat.mul_le_mul_left _ h2
      omega
    · rw [vec_pos e hb] at hz
      have hd : n / b < 2 ^ j := by
        have h1 : n / b ≤ n / 2 := Nat.div_le_div_left hb (by decide)
        rw [Nat.pow_succ] at hn
        omega
      have h1 := step_tame h5 h9 (vec_tame hb h5 h9 hs j (n / b) hd) z hz
      rw [Nat.pow_succ]
      have h2 : 2 ^ 20 * (45 ^ j * 45) = 45 * (2 ^ 20 * 45 ^ j) := by
        rw [Nat.mul_comm (45 ^ j) 45, ← Nat.mul_assoc, ← Nat.mul_assoc, Nat.mul_comm (2 ^ 20) 45]
      omega
theorem dotN_le {cs vals : List Int} {A B : Nat} (h1 : ∀ c ∈ cs, c.natAbs ≤ A) (h2 : ∀ v ∈ vals, v.natAbs ≤ B) : (dot cs vals).natAbs ≤ cs.length * (A * B) := by
  unfold dot
  have h := sumN_le (l := (cs.zip vals).map fun p => p.1 * p.2) (B := A * B) fun z hz => by
    obtain ⟨p, hp, rfl⟩ := List.mem_map.mp hz
    have := List.of_mem_zip hp
    exact mul_le (h1 _ this.1) (h2 _ this.2)
  rw [List.length_map, List.length_zip] at h
  exact Nat.le_trans h (Nat.mul_le_mul_right _ (Nat.min_le_left _ _))
/-- a value that a law asks for is short enough to be told -/
theorem dot_log {b : Nat} {L : List Line} {cs : List Int} {n : Nat} (hb : 2 ≤ b) (h5 : ∀ l ∈ L, ∀ f ∈ l.2.2, f.length ≤ 5) (h9 : ∀ l ∈ L, ∀ f ∈ l.2.2, ∀ t ∈ f, t.1.natAbs ≤ 9) (hs : ∀ l ∈ L, l.2.1.natAbs < 2 ^ 20)
    (hc : ∀ c ∈ cs, c.natAbs ≤ 99) (hl : cs.length ≤ 100) (hn : n < 2 ^ 110) : (dot cs (vec b L n)).natAbs.log2 < 1920 := by
  have h := dotN_le hc (vec_tame hb h5 h9 hs 110 n hn)
  have h2 : cs.length * (99 * (2 ^ 20 * 45 ^ 110)) ≤ 100 * (99 * (2 ^ 20 * 45 ^ 110)) := Nat.mul_le_mul_right _ hl
  have h3 : 100 * (99 * (2 ^ 20 * 45 ^ 110)) < 2 ^ 700 := by decide +kernel
  exact Nat.lt_trans (PySem.Flt.log2_lt_of (by decide) (Nat.lt_of_le_of_lt (Nat.le_trans h h2) h3)) (by decide)

/-! Figurebooks: lists of ints that can be told. -/
theorem shown_ints {ns : List Int} (h : ∀ i ∈ ns, i.natAbs.log2 < 1920) (hl : ns.length ≤ 4) :
    (PyData.list (ns.map PyData.int)).showable = true ∧ (PyData.list (ns.map PyData.int)).hasDict = false ∧ (PyData.list (ns.map PyData.int)).depth ≤ 64 ∧ (PyData.list (ns.map PyData.int)).shown.length ≤ sizeLine := by
  have h1 : ∀ ns : List Int, (∀ i ∈ ns, i.natAbs.log2 < 1920) → PyData.showableAll (ns.map PyData.int) = true := fun ns => by
    induction ns with
    | nil => intro _; simp [PyData.showableAll]
    | cons x xs ih =>
      intro h
      simp [PyData.showableAll, PyData.showable, ih (fun y hy => h y (List.mem_cons_of_mem _ hy)), h x List.mem_cons_self]
  have h2 : ∀ ns : List Int, PyData.hasDictAll (ns.map PyData.int) = false := fun ns => by
    induction ns with
    | nil => simp [PyData.hasDictAll]
    | cons x xs ih => simp [PyData.hasDictAll, PyData.hasDict, ih]
  have h3 : ∀ ns : List Int, PyData.depthAll (ns.map PyData.int) = 0 := fun ns => by
    induction ns with
    | nil => simp [PyData.depthAll]
    | cons x xs ih => simp [PyData.depthAll, PyData.depth, ih]
  have h4 : ∀ ns : List Int, (∀ i ∈ ns, i.natAbs.log2 < 1920) → PyData.leavesShortAll 1921 (ns.map PyData.int) = true := fun ns => by
    induction ns with
    | nil => intro _; simp [PyData.leavesShortAll]
    | cons x xs ih =>
      intro h
      have e : PyData.leavesShort 1921 (.int x) = true := by
        unfold PyData.leavesShort PyData.shown
        exact decide_eq_true (int_text_len_1921 (h x List.mem_cons_self))
      simp [PyData.leavesShortAll, e, ih (fun y hy => h y (List.mem_cons_of_mem _ hy))]
  have h5 : ∀ ns : List Int, (∀ i ∈ ns, i.natAbs.log2 < 1920) → PyData.weightAll (ns.map PyData.int) ≤ 1921 * ns.length := fun ns => by
    induction ns with
    | nil => intro _; simp [PyData.weightAll]
    | cons x xs ih =>
      intro h
      have h6 := ih fun y hy => h y (List.mem_cons_of_mem _ hy)
      have h7 := h x List.mem_cons_self
      simp only [List.map_cons, PyData.weightAll, PyData.weight, List.length_cons]
      split <;> omega
  refine ⟨by simp [PyData.showable, h1 ns h], by simp [PyData.hasDict, h2], by simp [PyData.depth, h3], ?_⟩
  have h6 := PyData.shown_le 1921 (by decide) (.list (ns.map PyData.int)) (by simp [PyData.leavesShort, h4 ns h])
  have h7 : (PyData.list (ns.map PyData.int)).weight ≤ 7684 := by
    have := h5 ns h
    simp only [PyData.weight]
    omega
  have h8 : (1921 + 2) * (PyData.list (ns.map PyData.int)).weight ≤ (1921 + 2) * 7684 := Nat.mul_le_mul_left _ h7
  rw [sizeLine_eq]
  omega
theorem r_methK {C : Addr} {m : Str} {sp : Sp} {n : Nat} {gV : List V → List V → List V} {E : XK} {ta : TE} {tk : TA} {σ : L2.St} {H : Hp} {Q : VK} (q : ta σ H fun x H1 => ∃ a dx fs, x = .ref a ∧ H1 a = some (.ins C dx fs) ∧ fs.lookup m = none ∧ tk σ H1 fun zs H2 => zs.length = n ∧ sp (gV [x] zs) H2 Q E) : tMethK C m sp n gV E ta tk σ H Q := q
theorem nw_hidp {p : Addr} {H1 H2 : Hp} {xs : List V} (e : H1 p = some (.lst xs)) : Same (nw H1 H2) (hid p H2) := fun a u z => by
  refine hid_at (nw_le a u z) fun y => ?_
  subst y
  unfold nw at z
  rw [e] at z
  exact absurd ((if_neg (by intro w; cases w)).symm.trans z) (fun w => by cases w)
theorem dot_unit : ∀ {vals : List Int} {i n : Nat}, vals.length = n → i < n → dot (unitV n i) vals = vals.getD i 0
  | [], i, n, h, hi => by
    rw [← h] at hi
    cases hi
  | v :: vals, 0, n, h, _ => by
    subst h
    have hz : ∀ {vals : List Int}, dot (List.replicate vals.length 0) vals = 0 := fun {vals} => by
      induction vals with
      | nil => rfl
      | cons x xs ih =>
        show 0 * x + dot (List.replicate xs.length 0) xs = 0
        rw [ih, Int.zero_mul, Int.zero_add]
    show 1 * v + dot (List.replicate vals.length 0) vals = v
    rw [hz]
    omega
  | v :: vals, i + 1, n, h, hi => by
    subst h
    show 0 * v + dot (unitV vals.length i) vals = vals.getD i 0
    rw [dot_unit (vals := vals) rfl (Nat.lt_of_succ_lt_succ hi), Int.zero_mul, Int.zero_add]
theorem unit_worth {L : List Line} {vals : List Int} {y : Str} (h : vals.length = L.length) (hy : y ∈ names L) : dot (unitV L.length ((names L).idxOf y)) vals = worth (names L) vals y :=
  dot_unit h (by
    have := List.idxOf_lt_length_of_mem hy
    unfold names at this ⊢
    rw [List.length_map] at this
    exact this)
theorem unit_bound {n j : Nat} : ∀ c ∈ unitV n j, c.natAbs < 2 ^ 100 := fun c hc => by
  unfold unitV at hc
  rcases List.mem_or_eq_of_mem_set hc with h | h
  · have := List.eq_of_mem_replicate h
    subst this
    decide
  · subst h
    decide
theorem worthP_lt {N : List Str} {cs : List Int} {y : Str} {B : Nat} (h : ∀ c ∈ cs, c.natAbs < 2 ^ B) : (worth N cs y).natAbs < 2 ^ B := by
  unfold worth
  rw [List.getD_eq_getElem?_getD]
  cases e : cs[N.idxOf y]? with
  | none => exact Nat.two_pow_pos B
  | some c => exact h c (List.mem_of_getElem? e)

/-! Figurebooks: dicts of lists, enumerate, values near. -/
/-- a dict of lists, one for each line -/
structure Cols (H : Hp) (kvs : List (Key × V)) (L : List Line) (f : Nat → List Int) : Prop where
  keys : kvs.map (·.1) = L.map (fun l => (Sum.inr l.1 : Key))
  at_ : ∀ (i : Nat) (l : Line), L[i]? = some l → ∃ r, kvs[i]? = some ((Sum.inr l.1 : Key), V.ref r) ∧ H r = some (.lst ((f i).map V.int))
theorem Cols.same {H H' : Hp} {kvs : List (Key × V)} {L : List Line} {f : Nat → List Int} (s : Same H H') (h : Cols H kvs L f) : Cols H' kvs L f :=
  ⟨h.keys, fun i l e => by
    obtain ⟨r, h1, h2⟩ := h.at_ i l e
    exact ⟨r, h1, s _ _ h2⟩⟩
theorem Cols.cast {H : Hp} {kvs : List (Key × V)} {L : List Line} {f g : Nat → List Int} (e : ∀ i, i < L.length → f i = g i) (h : Cols H kvs L f) : Cols H kvs L g :=
  ⟨h.keys, fun i l q => by
    obtain ⟨r, h1, h2⟩ := h.at_ i l q
    rw [e i (List.getElem?_eq_some_iff.mp q).1] at h2
    exact ⟨r, h1, h2⟩⟩
theorem names_at {L : List Line} {i : Nat} {l : Line} (h : L[i]? = some l) : (names L)[i]? = some l.1 := by
  unfold names
  rw [List.getElem?_map, h]
  rfl
theorem Cols.nd {H : Hp} {kvs : List (Key × V)} {L : List Line} {f : Nat → List Int} (h : Cols H kvs L f) (nd : (names L).Nodup) : (kvs.map (·.1)).Nodup := by
  rw [h.keys]
  exact line_nodup nd
/-- what stands under a name -/
theorem Cols.get {H : Hp} {kvs : List (Key × V)} {L : List Line} {f : Nat → List Int} (h : Cols H kvs L f) (nd : (names L).Nodup) {i : Nat} {l : Line} (e : L[i]? = some l) : ∃ r, valV kvs (Sum.inr l.1) = some (.ref r) ∧ H r = some (.lst ((f i).map V.int)) := by
  obtain ⟨r, h1, h2⟩ := h.at_ i l e
  exact ⟨r, valV_at (h.nd nd) h1, h2⟩
theorem Cols.put {H : Hp} {kvs : List (Key × V)} {L : List Line} {f : Nat → List Int} (h : Cols H kvs L f) (nd : (names L).Nodup) {i : Nat} {l : Line} {r : Addr} {xs : List Int} (e : L[i]? = some l) (hr : H r = some (.lst (xs.map V.int))) :
    Cols H (putK kvs (Sum.inr l.1) (.ref r)) L (fun j => if j = i then xs else f j) := by
  obtain ⟨r0, h1, h2⟩ := h.at_ i l e
  have ha : (kvs.any fun kv => decide (kv.1 = (Sum.inr l.1 : Key))) = true := List.any_eq_true.mpr ⟨_, List.mem_of_getElem? h1, decide_eq_true rfl⟩
  unfold putK
  rw [if_pos ha]
  refine ⟨?_, fun j m hm => ?_⟩
  · rw [← h.keys, List.map_map]
    refine List.map_congr_left fun kv _ => ?_
    show (if kv.1 = (Sum.inr l.1 : Key) then (kv.1, V.ref r) else kv).1 = kv.1
    split <;> rfl
  · obtain ⟨r1, h3, h4⟩ := h.at_ j m hm
    rw [List.getElem?_map, h3]
    by_cases hj : j = i
    · subst hj
      rw [e] at hm
      cases hm
      refine ⟨r, ?_, ?_⟩
      · show some (if (Sum.inr l.1 : Key) = Sum.inr l.1 then ((Sum.inr l.1 : Key), V.ref r) else _) = _
        rw [if_pos rfl]
      · rw [if_pos rfl]
        exact hr
    · refine ⟨r1, ?_, ?_⟩
      · have hn : ¬ ((Sum.inr m.1 : Key) = Sum.inr l.1) := fun z => hj (nd_ix nd (names_at hm) (by rw [names_at e, Sum.inr.inj z]))
        show some (if (Sum.inr m.1 : Key) = Sum.inr l.1 then ((Sum.inr m.1 : Key), V.ref r) else ((Sum.inr m.1 : Key), V.ref r1)) = _
        rw [if_neg hn]
      · rw [if_neg hj]
        exact h4
/-- the values of the i-th row at the first places -/
def colV (b : Nat) (L : List Line) (i m : Nat) : List Int := (List.range m).map fun n => (vec b L n).getD i 0
theorem colV_succ {b i m : Nat} {L : List Line} : colV b L i (m + 1) = colV b L i m ++ [(vec b L m).getD i 0] := by
  unfold colV
  rw [List.range_succ, List.map_append]
  rfl
theorem colV_at {b i m n : Nat} {L : List Line} (h : n < m) : ((colV b L i m).map V.int)[n]? = some (.int ((vec b L n).getD i 0)) := by
  unfold colV
  rw [List.map_map, List.getElem?_map, List.getElem?_range h]
  rfl
theorem vec_at {b : Int} {L : List Line} (S : Sound b L) {m k i : Nat} {l : Line} (hk : k < b.toNat) (hl : L[i]? = some l) : (vec b.toNat L (b.toNat * m + k)).getD i 0 = sumF (names L) (vec b.toNat L m) (l.2.2.getD k []) := by
  rw [vec_step S hk]
  unfold stepV
  rw [List.getD_eq_getElem?_getD, List.getElem?_map, hl]
  rfl
/-- a loop over enumerate of a list -/
theorem for_enumL {K : PySem.W.Frag} {a : Addr} {xs : List V} {g : TG} {tb : TS} {D : Ends} {σ : L2.St} {H : Hp} (Pv : Nat → L2.St → Hp → Prop) (h0 : Pv 0 σ H) (hq : ∀ i σ H, Pv i σ H → SqL K H a xs)
    (hs : ∀ (i : Nat) (x : V) (T : Addr) (σ : L2.St) (H : Hp), xs[i]? = some x → Pv i σ H → H T = none → g (.ref T) σ (upd H T (.tup [.int (i : Nat), x])) fun σ2 H2 => tb { D with nx := Pv (i + 1), ct := Pv (i + 1), bk := D.nx } σ2 H2) (hd : ∀ σ H, Pv xs.length σ H → D.nx σ H) :
    ∃ W : Nat → Nat → L2.St → Hp → Prop, (∃ m, W 0 m σ H) ∧ ∀ i m σ H, W i m σ H →
      ((Ite K a).stop i H ∧ D.nx σ H) ∨ ((Ite K a).go i H ∧ ∃ N : L2.St → Hp → Prop, (∀ σ' H', N σ' H' → ∃ m', m' < m ∧ W (i + 1) m' σ' H') ∧ ∀ v H', (Ite K a).yld i H v H' → g v σ H' fun σ2 H2 => tb { D with nx := N, ct := N, bk := D.nx } σ2 H2) := by
  refine ⟨fun i m σ H => m + i = xs.length ∧ Pv i σ H, ⟨xs.length, Nat.add_zero _, h0⟩, ?_⟩
  rintro i m σ H ⟨hm, p⟩
  have qx := hq i σ H p
  by_cases hlt : i < xs.length
  · refine .inr ⟨⟨xs, xs[i], qx, List.getElem?_eq_getElem hlt⟩, Pv (i + 1), fun σ' H' p' => ⟨m - 1, by omega, by omega, p'⟩, ?_⟩
    rintro v H' ⟨T, x, rfl, hT, rfl, fx⟩
    exact hs i x T σ H (fx xs qx) p hT
  · have e : i = xs.length := by omega
    subst e
    exact .inl ⟨⟨xs, qx, Nat.le_refl _⟩, hd σ H p⟩
theorem r_forE {K : PySem.W.Frag} {ta : TA} {g : TG} {tb : TS} {D : Ends} {σ : L2.St} {H : Hp} (q : ta σ H fun vs H1 => ∃ a xs, vs = [.ref a] ∧ SqL K H1 a xs ∧ ∃ W : Nat → Nat → L2.St → Hp → Prop, (∃ m, W 0 m σ H1) ∧ ∀ k m σ H, W k m σ H →
    ((Ite K a).stop k H ∧ D.nx σ H) ∨ ((Ite K a).go k H ∧ ∃ N : L2.St → Hp → Prop, (∀ σ' H', N σ' H' → ∃ m', m' < m ∧ W (k + 1) m' σ' H') ∧ ∀ x H', (Ite K a).yld k H x H' → g x σ H' fun σ2 H2 => tb { D with nx := N, ct := N, bk := D.nx } σ2 H2)) : tFor (iEnum K ta) g tb D σ H := q
/-- a book of a law's size -/
structure Tame (b : Int) (L : List Line) : Prop where
  sound : Sound b L
  some : 0 < L.length
  most : L.length ≤ 6
  small : ∀ l ∈ L, ∀ f ∈ l.2.2, f.length ≤ 5
  coefs : ∀ l ∈ L, ∀ f ∈ l.2.2, ∀ t ∈ f, t.1.natAbs ≤ 9
theorem knowns_tame : ∀ p ∈ knowns, Tame 2 p.1 := fun p hp => by
  have h : knowns.all (fun p => decide (0 < p.1.length) && decide (p.1.length ≤ 6) && (p.1.all fun l => l.2.2.all fun f => decide (f.length ≤ 5) && f.all fun t => decide (t.1.natAbs ≤ 9))) = true := by decide +kernel
  have := List.all_eq_true.mp h p hp
  simp only [Bool.and_eq_true, List.all_eq_true, decide_eq_true_eq] at this
  exact ⟨knowns_sound p hp, this.1.1, this.1.2, fun l hl f hf => (this.2 l hl f hf).1, fun l hl f hf t ht => (this.2 l hl f hf).2 t ht⟩
theorem drawn_tame {b : Int} {m : Nat} {L : List Line} (d : Drawn b m L) (hm : m ≤ 6) : Tame b L := ⟨d.sound, d.some, Nat.le_trans d.most hm, d.small, d.coefs⟩
/-! ### lists of many ints that can be told -/
theorem si_show {ns : List Int} (h : ∀ i ∈ ns, i.natAbs.log2 < 100) : PyData.showableAll (ns.map PyData.int) = true := by
  induction ns with
  | nil => simp [PyData.showableAll]
  | cons x xs ih =>
    have hx : x.natAbs.log2 < 1920 := Nat.lt_trans (h x List.mem_cons_self) (by decide)
    simp [PyData.showableAll, PyData.showable, ih (fun y hy => h y (List.mem_cons_of_mem _ hy)), hx]
theorem si_dict {ns : List Int} : PyData.hasDictAll (ns.map PyData.int) = false := by
  induction ns with
  | nil => simp [PyData.hasDictAll]
  | cons x xs ih => simp [PyData.hasDictAll, PyData.hasDict, ih]
theorem si_depth {ns : List Int} : PyData.depthAll (ns.map PyData.int) = 0 := by
  induction ns with
  | nil => simp [PyData.depthAll]
  | cons x xs ih => simp [PyData.depthAll, PyData.depth, ih]
theorem si_leaf {ns : List Int} (h : ∀ i ∈ ns, i.natAbs.log2 < 100) : PyData.leavesShortAll 101 (ns.map PyData.int) = true := by
  induction ns with
  | nil => simp [PyData.leavesShortAll]
  | cons x xs ih =>
    have e : PyData.leavesShort 101 (.int x) = true := by
      unfold PyData.leavesShort PyData.shown
      refine decide_eq_true ?_
      rw [PySem.ofString_length]
      exact PySem.int_text_length_le (k := 100) (by decide) (h x List.mem_cons_self)
    simp [PyData.leavesShortAll, e, ih (fun y hy => h y (List.mem_cons_of_mem _ hy))]
theorem si_weight {ns : List Int} (h : ∀ i ∈ ns, i.natAbs.log2 < 100) : PyData.weightAll (ns.map PyData.int) ≤ 101 * ns.length := by
  induction ns with
  | nil => simp [PyData.weightAll]
  | cons x xs ih =>
    have h6 := ih fun y hy => h y (List.mem_cons_of_mem _ hy)
    have h7 := h x List.mem_cons_self
    simp only [List.map_cons, PyData.weightAll, PyData.weight, List.length_cons]
    split <;> omega
/-- such data can be told -/
structure Told (d : PyData) : Prop where
  show' : d.showable = true
  dict : d.hasDict = false
  deep : d.depth ≤ 64
  short : d.shown.length ≤ sizeLine
theorem told_ints {ns : List Int} (h : ∀ i ∈ ns, i.natAbs.log2 < 100) (hl : ns.length ≤ 900) : Told (.list (ns.map PyData.int)) := by
  refine ⟨by simp [PyData.showable, si_show h], by simp [PyData.hasDict, si_dict], by simp [PyData.depth, si_depth], ?_⟩
  have h6 := PyData.shown_le 101 (by decide) (.list (ns.map PyData.int)) (by simp [PyData.leavesShort, si_leaf h])
  have h7 : (PyData.list (ns.map PyData.int)).weight ≤ 90900 := by
    have := si_weight h
    simp only [PyData.weight]
    omega
  have h8 : (101 + 2) * (PyData.list (ns.map PyData.int)).weight ≤ (101 + 2) * 90900 := Nat.mul_le_mul_left _ h7
  rw [sizeLine_eq]
  omega
theorem told_pair {ns ms : List Int} (h : ∀ i ∈ ns, i.natAbs.log2 < 100) (hl : ns.length ≤ 400) (h' : ∀ i ∈ ms, i.natAbs.log2 < 100) (hl' : ms.length ≤ 400) : Told (.list [.list (ns.map PyData.int), .list (ms.map PyData.int)]) := by
  refine ⟨by simp [PyData.showable, PyData.showableAll, si_show h, si_show h'], by simp [PyData.hasDict, PyData.hasDictAll, si_dict], by simp [PyData.depth, PyData.depthAll, si_depth], ?_⟩
  have h6 := PyData.shown_le 101 (by decide) (.list [.list (ns.map PyData.int), .list (ms.map PyData.int)]) (by simp [PyData.leavesShort, PyData.leavesShortAll, si_leaf h, si_leaf h'])
  have h7 : (PyData.list [.list (ns.map PyData.int), .list (ms.map PyData.int)]).weight ≤ 80900 := by
    have := si_weight h
    have := si_weight h'
    simp only [PyData.weight, PyData.weightAll]
    omega
  have h8 : (101 + 2) * (PyData.list [.list (ns.map PyData.int), .list (ms.map PyData.int)]).weight ≤ (101 + 2) * 80900 := Nat.mul_le_mul_left _ h7
  rw [sizeLine_eq]
  omega
theorem shaped_ints {ns : List Int} : SeqAt.shaped (.list (ns.map PyData.int)) = true := by
  have h1 : ∀ ns : List Int, PyData.canLayAll0 (ns.map PyData.int) = true := fun ns => by
    induction ns with
    | nil => simp [PyData.canLayAll0]
    | cons x xs ih => simp [PyData.canLayAll0, PyData.canLay0, ih]
  unfold SeqAt.shaped
  simp [PyData.canLay0, PyData.depth, h1 ns, si_depth]
theorem eqv_ints {ns : List Int} : PyData.eqv (.list (ns.map PyData.int)) (.list (ns.map PyData.int)) = true := SeqAt.eqv_refl _ (by
  have h1 : ∀ ns : List Int, PyData.canLayAll0 (ns.map PyData.int) = true := fun ns => by
    induction ns with
    | nil => simp [PyData.canLayAll0]
    | cons x xs ih => simp [PyData.canLayAll0, PyData.canLay0, ih]
  simp [PyData.canLay0, h1 ns])
/-- a value near is short -/
theorem dot_log7 {b : Nat} {L : List Line} {cs : List Int} {n : Nat} (hb : 2 ≤ b) (h5 : ∀ l ∈ L, ∀ f ∈ l.2.2, f.length ≤ 5) (h9 : ∀ l ∈ L, ∀ f ∈ l.2.2, ∀ t ∈ f, t.1.natAbs ≤ 9) (hs : ∀ l ∈ L, l.2.1.natAbs < 2 ^ 20)
    (hc : ∀ c ∈ cs, c.natAbs ≤ 99) (hl : cs.length ≤ 100) (hn : n < 2 ^ 7) : (dot cs (vec b L n)).natAbs.log2 < 100 := by
  have h := dotN_le hc (vec_tame hb h5 h9 hs 7 n hn)
  have h2 : cs.length * (99 * (2 ^ 20 * 45 ^ 7)) ≤ 100 * (99 * (2 ^ 20 * 45 ^ 7)) := Nat.mul_le_mul_right _ hl
  have h3 : 100 * (99 * (2 ^ 20 * 45 ^ 7)) < 2 ^ 99 := by decide +kernel
  exact Nat.lt_trans (PySem.Flt.log2_lt_of (by decide) (Nat.lt_of_le_of_lt (Nat.le_trans h h2) h3)) (by decide)
/-- the sum of products by name -/
theorem dot_named {L : List Line} {cs vals : List Int} (hc : cs.length = L.length) (hv : vals.length = L.length) : ((List.range L.length).map fun i => cs.getD i 0 * vals.getD i 0).sum = dot cs vals := by
  rw [dot_range (by omega), hc]
theorem sound_nil {b : Int} (h : b = 2 ∨ b = 3 ∨ b = 4) : Sound b [] :=
  ⟨h, Nat.zero_le _, fun _ z => (by cases z), List.nodup_nil, fun _ z => (by cases z), fun _ z => (by cases z), fun _ z => (by cases z), fun _ z => (by cases z), fun _ z => (by cases z), fun _ z => (by cases z)⟩

/-! Figurebooks: data that can be told and compared; equal books. -/
/-- data of a depth and a weight that can be told and compared -/
structure Nice (k w : Nat) (d : PyData) : Prop where
  sh : d.showable = true
  dc : d.hasDict = false
  dp : d.depth ≤ k
  lf : d.leavesShort 101 = true
  wt : d.weight ≤ w
  cl : d.canLay0 = true
theorem Nice.more {k w k' w' : Nat} {d : PyData} (h : Nice k w d) (hk : k ≤ k') (hw : w ≤ w') : Nice k' w' d := ⟨h.sh, h.dc, Nat.le_trans h.dp hk, h.lf, Nat.le_trans h.wt hw, h.cl⟩
theorem nice_int {i : Int} (h : i.natAbs.log2 < 100) : Nice 0 100 (.int i) := by
  have hx : i.natAbs.log2 < 1920 := Nat.lt_trans h (by decide)
  refine ⟨by simp [PyData.showable, hx], by simp [PyData.hasDict], by simp [PyData.depth], ?_, ?_, by simp [PyData.canLay0]⟩
  · unfold PyData.leavesShort PyData.shown
    refine decide_eq_true ?_
    rw [PySem.ofString_length]
    exact PySem.int_text_length_le (k := 100) (by decide) h
  · simp only [PyData.weight]
    split <;> omega
theorem nice_str {x : Str} (h : PyData.strOk x = true) {w : Nat} (hw : x.cps.size ≤ w) : Nice 0 w (.str x) := by
  refine ⟨by simp [PyData.showable, h], by simp [PyData.hasDict], by simp [PyData.depth], ?_, by simpa [PyData.weight] using hw, by simpa [PyData.canLay0] using h⟩
  unfold PyData.leavesShort
  unfold PyData.strOk at h
  rw [List.all_eq_true]
  intro c hc
  have := (Array.all_eq_true_iff_forall_mem.mp h) c (by simpa using hc)
  have h2 := of_decide_eq_true this
  exact decide_eq_true (by omega)
theorem nice_all {k w : Nat} : ∀ {ds : List PyData}, (∀ d ∈ ds, Nice k w d) → PyData.showableAll ds = true ∧ PyData.hasDictAll ds = false ∧ PyData.depthAll ds ≤ k ∧ PyData.leavesShortAll 101 ds = true ∧ PyData.weightAll ds ≤ ds.length * (w + 1) ∧ PyData.canLayAll0 ds = true
  | [], _ => by simp [PyData.showableAll, PyData.hasDictAll, PyData.depthAll, PyData.leavesShortAll, PyData.weightAll, PyData.canLayAll0]
  | d :: ds, h => by
    obtain ⟨h1, h2, h3, h4, h5, h6⟩ := nice_all (ds := ds) fun e he => h e (List.mem_cons_of_mem _ he)
    have g := h d List.mem_cons_self
    refine ⟨by simp [PyData.showableAll, g.sh, h1], by simp [PyData.hasDictAll, g.dc, h2], ?_, by simp [PyData.leavesShortAll, g.lf, h4], ?_, by simp [PyData.canLayAll0, g.cl, h6]⟩
    · have := g.dp
      simp only [PyData.depthAll]
      omega
    · have := g.wt
      simp only [PyData.weightAll, List.length_cons]
      rw [Nat.add_mul, Nat.one_mul]
      omega
theorem nice_list {k w n : Nat} {ds : List PyData} (h : ∀ d ∈ ds, Nice k w d) (hn : ds.length ≤ n) : Nice (k + 1) (n * (w + 1)) (.list ds) := by
  obtain ⟨h1, h2, h3, h4, h5, h6⟩ := nice_all h
  refine ⟨by simp [PyData.showable, h1], by simp [PyData.hasDict, h2], ?_, by simp [PyData.leavesShort, h4], ?_, by simp [PyData.canLay0, h6]⟩
  · simp only [PyData.depth]
    omega
  · simp only [PyData.weight]
    exact Nat.le_trans h5 (Nat.mul_le_mul_right _ hn)
theorem nice_tuple {k w n : Nat} {ds : List PyData} (h : ∀ d ∈ ds, Nice k w d) (hn : ds.length ≤ n) : Nice (k + 1) (n * (w + 1)) (.tuple ds) := by
  obtain ⟨h1, h2, h3, h4, h5, h6⟩ := nice_all h
  refine ⟨by simp [PyData.showable, h1], by simp [PyData.hasDict, h2], ?_, by simp [PyData.leavesShort, h4], ?_, by simp [PyData.canLay0, h6]⟩
  · simp only [PyData.depth]
    omega
  · simp only [PyData.weight]
    exact Nat.le_trans h5 (Nat.mul_le_mul_right _ hn)
theorem Nice.told {k w : Nat} {d : PyData} (h : Nice k w d) (hk : k ≤ 64) (hw : w ≤ 160000) : Told d := by
  refine ⟨h.sh, h.dc, Nat.le_trans h.dp hk, ?_⟩
  have h6 := PyData.shown_le 101 (by decide) d h.lf
  have h8 : (101 + 2) * d.weight ≤ (101 + 2) * 160000 := Nat.mul_le_mul_left _ (Nat.le_trans h.wt hw)
  rw [sizeLine_eq]
  omega
theorem Nice.shaped {k w : Nat} {d : PyData} (h : Nice k w d) (hk : k ≤ 64) : SeqAt.shaped d = true := by
  unfold SeqAt.shaped
  rw [h.cl, decide_eq_true (Nat.le_trans h.dp hk)]
  rfl
theorem Nice.eqv {k w : Nat} {d : PyData} (h : Nice k w d) : PyData.eqv d d = true := SeqAt.eqv_refl _ h.cl
theorem letter_ok {x : Str} (h : letterB x = true) : PyData.strOk x = true ∧ x.cps.size = 1 := by
  unfold letterB at h
  simp only [Bool.and_eq_true, Bool.not_eq_true', decide_eq_true_eq, decide_eq_false_iff_not] at h
  obtain ⟨h1, h2, h3⟩ := h
  have hl : x.length = 1 := by
    have := V.int.inj h1
    omega
  have hs : x.cps.size = 1 := hl
  refine ⟨?_, hs⟩
  obtain ⟨c, hc⟩ : ∃ c, x.cps.toList = [c] := by
    cases e : x.cps.toList with
    | nil =>
      have := congrArg List.length e
      simp at this
      rw [this] at hs
      cases hs
    | cons c r =>
      cases r with
      | nil => exact ⟨c, rfl⟩
      | cons d r =>
        have := congrArg List.length e
        simp at this
        omega
  unfold PyData.strOk
  rw [Array.all_eq_true_iff_forall_mem]
  intro d hd
  have : d ∈ x.cps.toList := by simpa using hd
  rw [hc] at this
  have ed := List.mem_singleton.mp this
  subst ed
  rw [hc] at h3
  refine decide_eq_true ?_
  have e : ("z" : Str).cps.toList = [122] := by decide +kernel
  rw [e] at h3
  by_cases g : d < 0x110000
  · exact g
  · refine absurd ?_ h3
    exact List.Lex.rel (by omega)
/-- what isinstance and == ask of an own class -/
structure IsC (K : PySem.W.Frag) (C : Addr) : Prop where
  ha : PySem.W.findIn K (.ref C) "__class__" = some (some (.builtin "object.__class__"))
  hn : PySem.W.specialIn K (.builtin "object.__class__") "__get__" = some (some (.builtin "getset_descriptor.__get__"))
  ht : PySem.W.takesIn K (.builtin "object.__class__") = some true
  hm : PySem.W.mroIn K C (.type "object") = some true
  kt : PySem.W.kitOne K (.ref C) (.ref C) = some true
theorem kbn_rev {K : PySem.W.Frag} {x qual : Str} {st : Stmt} {f : Addr} {fd : FuncData} {ps ks : List Str} (F : Fun K x qual st f fd)
    (h : ∀ (kV doc pm : Value) (an : Option Addr) (cdv ct : Value) (us ws : List Value), us.length = 1 → ws.length = ks.length → bindArgs (PySem.W.fnOf x qual (defArgs st) (defBody st) (defScope st) .none kV doc pm an cdv ct) ⟨us, ks.zip ws⟩ = pure (ps.zip (us ++ ws.reverse))) :
    KBn K fd ps 1 ks (fun us ws => us ++ ws.reverse) (fun vs zs => vs ++ zs.reverse) := by
  obtain ⟨oc, od, kV, doc, pm, an, cdv, ct, osl, rfl, lk, hcd⟩ := F.ex
  refine ⟨fun s us ws _ h1 h2 => .of_eq (h kV doc pm an cdv ct us ws h1 h2), fun {us vs ws zs} r1 r2 => r1.append ?_⟩
  have key : ∀ {vs : List V} {us : List Value}, Vals vs us → Vals vs.reverse us.reverse := fun {vs us} r => by
    induction r with
    | nil => exact .nil
    | cons a r ih =>
      rw [List.reverse_cons, List.reverse_cons]
      exact ih.append (.cons a .nil)
  exact key r2
/-- two books that say the same -/
def RBook (C : Addr × Addr) (K : PySem.W.Frag) : Addr → Addr → Hp → Prop := fun a b H => ∃ (base : Int) (L : List Line), BookC C K H a base L ∧ BookC C K H b base L ∧ Sound base L
theorem nice_term {t : Term} (h1 : t.1.natAbs < 2 ^ 10) (h2 : letterB t.2 = true) : Nice 1 202 (dTerm t) := by
  have g := letter_ok h2
  refine (nice_tuple (k := 0) (w := 100) (n := 2) (fun d hd => ?_) (Nat.le_refl _)).more (Nat.le_refl _) (Nat.le_refl _)
  rcases List.mem_cons.mp hd with rfl | hd
  · refine nice_int (Nat.lt_trans (PySem.Flt.log2_lt_of (by decide) h1) (by decide))
  · rcases List.mem_cons.mp hd with rfl | hd
    · exact nice_str g.1 (by omega)
    · cases hd
theorem nice_form {f : List Term} {n : Nat} (h : ∀ t ∈ f, t.1.natAbs < 2 ^ 10 ∧ letterB t.2 = true) (hn : f.length ≤ n) : Nice 2 (n * 203) (dForm f) :=
  nice_list (fun d hd => by
    obtain ⟨t, ht, rfl⟩ := List.mem_map.mp hd
    exact nice_term (h t ht).1 (h t ht).2) (by rw [List.length_map]; exact hn)
theorem nice_forms {F : List (List Term)} {n m : Nat} (h : ∀ f ∈ F, f.length ≤ n ∧ ∀ t ∈ f, t.1.natAbs < 2 ^ 10 ∧ letterB t.2 = true) (hm : F.length ≤ m) : Nice 3 (m * (n * 203 + 1)) (dForms F) :=
  nice_list (fun d hd => by
    obtain ⟨f, hf, rfl⟩ := List.mem_map.mp hd
    exact nice_form (h f hf).2 (h f hf).1) (by rw [List.length_map]; exact hm)
theorem sound_letters {b : Int} {L : List Line} (S : Sound b L) {x : Str} (h : x ∈ names L) : letterB x = true := by
  obtain ⟨l, hl, rfl⟩ := List.mem_map.mp h
  exact (S.letters l hl).1
theorem nice_sound {b : Int} {L : List Line} (S : Sound b L) {l : Line} (hl : l ∈ L) : Nice 3 (4 * (100 * 203 + 1)) (dForms l.2.2) :=
  nice_forms (fun f hf => ⟨S.small l hl f hf, fun t ht => ⟨S.coefs l hl f hf t ht, sound_letters S (S.known l hl f hf t ht)⟩⟩) (by
    have := S.forms l hl
    have := S.base
    omega)
/-- a loop over a text -/
theorem for_strL {x : Str} {g : TG} {tb : TS} {D : Ends} {σ : L2.St} {H : Hp} (Pv : Nat → L2.St → Hp → Prop) (h0 : Pv 0 σ H)
    (hs : ∀ (i : Nat) (c : Nat) (σ : L2.St) (H : Hp), x.cps[i]? = some c → Pv i σ H → g (.str ⟨#[c]⟩) σ H fun σ2 H2 => tb { D with nx := Pv (i + 1), ct := Pv (i + 1), bk := D.nx } σ2 H2) (hd : ∀ σ H, Pv x.cps.size σ H → D.nx σ H) :
    ∃ W : Nat → Nat → L2.St → Hp → Prop, (∃ m, W 0 m σ H) ∧ ∀ i m σ H, W i m σ H →
      ((Its x).stop i H ∧ D.nx σ H) ∨ ((Its x).go i H ∧ ∃ N : L2.St → Hp → Prop, (∀ σ' H', N σ' H' → ∃ m', m' < m ∧ W (i + 1) m' σ' H') ∧ ∀ v H', (Its x).yld i H v H' → g v σ H' fun σ2 H2 => tb { D with nx := N, ct := N, bk := D.nx } σ2 H2) := by
  refine ⟨fun i m σ H => m + i = x.cps.size ∧ Pv i σ H, ⟨x.cps.size, Nat.add_zero _, h0⟩, ?_⟩
  rintro i m σ H ⟨hm, p⟩
  by_cases hlt : i < x.cps.size
  · refine .inr ⟨hlt, Pv (i + 1), fun σ' H' p' => ⟨m - 1, by omega, by omega, p'⟩, ?_⟩
    rintro v H' ⟨rfl, c, hc, rfl⟩
    exact hs i c σ _ hc p
  · have e : i = x.cps.size := by omega
    subst e
    exact .inl ⟨Nat.le_refl _, hd σ H p⟩
theorem r_forS {tl : TE} {g : TG} {tb : TS} {D : Ends} {σ : L2.St} {H : Hp} (q : tl σ H fun v H1 => ∃ x, v = .str x ∧ ∃ W : Nat → Nat → L2.St → Hp → Prop, (∃ m, W 0 m σ H1) ∧ ∀ k m σ H, W k m σ H →
    ((Its x).stop k H ∧ D.nx σ H) ∨ ((Its x).go k H ∧ ∃ N : L2.St → Hp → Prop, (∀ σ' H', N σ' H' → ∃ m', m' < m ∧ W (k + 1) m' σ' H') ∧ ∀ x' H', (Its x).yld k H x' H' → g x' σ H' fun σ2 H2 => tb { D with nx := N, ct := N, bk := D.nx } σ2 H2)) : tFor (iStr tl) g tb D σ H := q
/-- the line of a letter, of the book that tries it -/
def oneL (n : Str) (k : Nat) : Line := (n, 3, [(1, n)] :: List.replicate k [(2, n)])
theorem one_worth (n : Str) : worth (names [oneL n 0]) (starts [oneL n 0]) n = 3 := by
  show ([3] : List Int).getD ([n].idxOf n) 0 = 3
  rw [List.idxOf_cons_self]
  rfl
theorem one_sound {b : Int} {n : Str} (hb : b = 2 ∨ b = 3 ∨ b = 4) (hn : letterB n = true) (hl : n.length ≤ 1000) : Sound b [oneL n (b - 1).toNat] := by
  have hF : ∀ f ∈ (oneL n (b - 1).toNat).2.2, f = [(1, n)] ∨ f = [(2, n)] := fun f hf => by
    rcases List.mem_cons.mp hf with e | e
    · exact .inl e
    · exact .inr (List.eq_of_mem_replicate e)
  have hone : ∀ l ∈ [oneL n (b - 1).toNat], l = oneL n (b - 1).toNat := fun l h => List.mem_singleton.mp h
  have hin : n ∈ names [oneL n (b - 1).toNat] := List.mem_singleton.mpr rfl
  refine ⟨hb, (show 1 ≤ 26 by decide), ?_, ?_, ?_, ?_, ?_, ?_, ?_, ?_⟩
  · intro l h
    rw [hone l h]
    exact ⟨hn, hl⟩
  · exact List.nodup_cons.mpr ⟨(fun h => by cases h), List.nodup_nil⟩
  · intro l h
    rw [hone l h]
    show ((([(1, n)] :: List.replicate (b - 1).toNat [(2, n)] : List (List Term)).length : Nat) : Int) = b
    rw [List.length_cons, List.length_replicate]
    omega
  · intro l h f hf
    rw [hone l h] at hf
    rcases hF f hf with e | e <;> rw [e] <;> exact (show 1 ≤ 100 by decide)
  · intro l h f hf t ht
    rw [hone l h] at hf
    rcases hF f hf with e | e <;> rw [e] at ht <;> rw [List.mem_singleton.mp ht] <;> exact hin
  · intro l h f hf t ht
    rw [hone l h] at hf
    rcases hF f hf with e | e <;> rw [e] at ht <;> rw [List.mem_singleton.mp ht]
    · exact (show (1 : Int).natAbs < 2 ^ 10 by decide)
    · exact (show (2 : Int).natAbs < 2 ^ 10 by decide)
  · intro l h
    rw [hone l h]
    show (3 : Int).natAbs < 2 ^ 20
    decide
  · intro l h f hf
    rw [hone l h] at hf ⊢
    have e : [(1, n)] = f := Option.some.inj hf
    subst e
    show (3 : Int) = 1 * worth [n] [3] n + 0
    have : worth [n] [3] n = 3 := one_worth n
    rw [this]
    rfl
theorem dpa_rep {K : PySem.W.Frag} {H : Hp} {v : V} {f : List Term} (h : Dp K H v (dForm f)) : ∀ k, DpAll K H (List.replicate k v) ((List.replicate k f).map dForm)
  | 0 => .nil
  | k + 1 => .cons h (dpa_rep h k)
/-- a list that is new, by what it says beside what stood -/
theorem nw_lst {H H' : Hp} {a : Addr} {xs : List V} (s : Same H H') (h : nw H H' a = some (.lst xs)) : H a = none := by
  cases e : H a with
  | none => rfl
  | some o =>
    have h1 := nw_le _ _ h
    rw [s _ _ e] at h1
    cases h1
    unfold nw at h
    rw [e] at h
    exact absurd ((if_neg (by intro w; cases w)).symm.trans h) (fun w => by cases w)
theorem nw_mut {H H' : Hp} {a : Addr} {o : HO} {xs : List V} (e : H a = some (.lst xs)) : Same (nw H H') (nw H (upd H' a o)) := fun c u z => by
  have n : c ≠ a := fun y => by
    subst y
    unfold nw at z
    rw [e] at z
    exact absurd ((if_neg (by intro w; cases w)).symm.trans z) (fun w => by cases w)
  cases h : H c with
  | none =>
    rw [nw_new h] at z ⊢
    rw [upd_ne n]
    exact z
  | some v =>
    by_cases f : fixedO v = true
    · rw [nw_fix h f] at z ⊢
      rw [upd_ne n]
      exact z
    · unfold nw at z
      rw [h] at z
      exact absurd ((if_neg f).symm.trans z) (fun w => by cases w)
theorem sqt_mut {K : PySem.W.Frag} {H : Hp} {a c : Addr} {o : HO} {xs ys : List V} (e : H a = some (.lst xs)) (h : SqT K H c ys) : SqT K (upd H a o) c ys :=
  sqt_same tu_le (sqt_same (tu_lst e) (sqt_tu h))

end Fb
/-! Figurebooks: own errors with what they are about. -/
namespace PySem
namespace LowX
open PySem.W PySem.Calls PyProof.Rows PySem.HandSPX
/-! ### the text of __init__ -/
def iA (p1 p2 : Pos) : Arguments := { posonlyargs := [], args := [{ arg := "self", annotation := none, pos := p1 }, { arg := "value", annotation := none, pos := p2 }], vararg := none, kwonlyargs := [], kw_defaults := [], kwarg := none, defaults := [] }
def iB (q1 q2 q3 q4 : Pos) : List Stmt := [.Assign [.Attribute (.Name "self" q1) "value" q2] (.Name "value" q3) q4]
def iS : Scope := { kind := .function, names := [(PySem.Str.ofString "self", .local), (PySem.Str.ofString "value", .local)], isGenerator := false, isCoroutine := false, more := [] }
/-- what the written part says of Low, at C, and of its __init__, at fI -/
structure LowTxt (K : Frag) (mg : Str → Option Value) (xn : Str) (C fI : Addr) : Prop where
  gC : mg xn = some (.ref C)
  cls : ∃ nm q N bs bm sn sub ab col dd k0 k1 k2 k3 k5, K.lookup C = some (excClassObj nm q C N bs bm true sn sub ab col dd k0 k1 k2 k3 k5 "ValueError.__new__") ∧ refsVE bm = true
  sa : findIn K (.ref C) "__setattr__" = some (some (.builtin "object.__setattr__"))
  ga : findIn K (.ref C) "__getattribute__" = some (some (.builtin "BaseException.__getattribute__"))
  gg : findIn K (.ref C) "__getattr__" = some none
  noN : findIn K (.ref C) "value" = some none
  iC : findIn K (.ref C) "__init__" = some (some (.ref fI))
  tC : typeIn K (.ref fI) = some (.type "function")
  kC : keepIn K (.ref C) = true
  exC : subIn K (.ref C) (.type "BaseException") = some true
  tyC : typeIn K (.ref C) = some (.type "type")
  hdC : hasDictIn K C = true
  fn : ∃ (oc : Value) (od : Option Addr) (doc pm : Value) (an : Option Addr) (cdv ct : Value) (osl : Array (Option Value)) (p1 p2 q1 q2 q3 q4 : Pos),
    K.lookup fI = some ⟨oc, od, .func (fnOf "__init__" "BookError.__init__" (iA p1 p2) (iB q1 q2 q3 q4) iS .none .none doc pm an cdv ct), osl⟩ ∧ codeIn K cdv "BookError.__init__" = true
theorem one_size (v : Value) : [v].length ≤ sizeLine := by
  rw [sizeLine_eq]
  exact (by decide : 1 ≤ 16777216)
theorem kept_but {K : Frag} {h h' : Heap} {x : Addr} (X : K.In h) (hx : K.lookup x = none) (k : ∀ b o, b ≠ x → h.get? b = some o → h'.get? b = some o) : K.In h' := fun a o e =>
  k a o (fun z => by rw [z, hx] at e; cases e) (X a o e)
theorem ldC {M : Model} {s : Shared} {name : Str} {scope : Scope} {L a : Addr} {cd : Value} {m : Str → Option Value} {x : Str} {pos : Pos} {v : Value} {Q : Value → Shared → Prop} {A : Around} {E : Value → Shared → Prop} (hn : s.heap.Ns L m) (hv : m x = some v) (h : Q v s)
    (hk : scope.kind = .function := by rfl) (hl : (envOfC name scope L a cd).kindOf x = some .local := by rfl) (hd : (x == ("__debug__" : Str)) = false := by decide) :
    wpAny M A (eval (.Name x pos) (envOfC name scope L a cd)) Q E s := wpAny_Name (wpAny_loadName_local hk hl hn hv h) hd
/-- what __init__ leaves of a fresh exception at x -/
structure InitEnd (h h' : Heap) (x C dx t1 : Addr) (v : Value) : Prop where
  keep : ∀ b o, b ≠ x → h.get? b = some o → h'.get? b = some o
  obj : h'.get? x = some { cls := .ref C, dict := some dx, data := .fields #[.ref t1, .none, .none, .none, .bool false, .none] }
  dbig : h.objs.size ≤ dx
  dne : dx ≠ x
  ns : h'.Ns1 dx (fun y => if y = "value" then some v else none)
/-- a made Low -/
structure OwnMade (h h' : Heap) (e C d : Addr) (v : Value) : Prop where
  keep : ∀ b o, h.get? b = some o → h'.get? b = some o
  new : h.objs.size ≤ e
  obj : ∃ oe vs, h'.get? e = some oe ∧ oe.cls = .ref C ∧ oe.dict = some d ∧ oe.data = .fields vs ∧ vs[1]? = some .none
  dbig : h.objs.size ≤ d
  dne : d ≠ e
  ns : h'.Ns1 d (fun y => if y = "value" then some v else none)
section
variable {prog : Program} {w : World} {A : Around} {E : Value → Shared → Prop} {R : Result → Shared → Prop} {s : Shared} {K : Frag} {mg : Str → Option Value} {xn : Str} {C fI : Addr}
theorem low_init (T : LowTxt K mg xn C fI) {x t0 : Addr} {v : Value} (X : K.In s.heap) (hlim : s.heap.NoLimit) (hx : s.heap.get? x = some (excO C t0)) (hnx : K.lookup x = none) (hroom : A.depth < recursionLimit)
    (hq : ∀ h' tk dx, InitEnd s.heap h' x C dx t0 v → R (.ok (.ret .none)) { s with heap := h', toks := tk }) :
    codeAny (model prog w) A (.call (.ref fI) ⟨[.ref x, v], []⟩) R s := by
  obtain ⟨oc, od, doc, pm, an, cdv, ct, osl, p1, p2, q1, q2, q3, q4, ho, hcd⟩ := T.fn
  obtain ⟨nm, q, N, bs, bm, sn, sub, ab, col, dd, k0, k1, k2, k3, k5, hC, hbm⟩ := T.cls
  have hcl : clsIn K C = some { name := nm, bases := bs, mro := .ref C :: bm, ns := N, qualname := q, hasDict := true, slotNames := sn, subclasses := sub, abstract := ab, collection := col, hasDel := false } := by unfold clsIn; rw [hC] <;> rfl
  refine Att.call_fn (binds := [("self", .ref x), ("value", v)]) X hlim ho hcd hroom (BindsTo.of_eq (by first | rfl | with_unfolding_all rfl)) (by first | rfl | decide | with_unfolding_all rfl) (fun s₁ IC => ?_) rfl rfl rfl
  obtain ⟨h₁, tk₁, rfl⟩ := IC.toInCall.same
  have k : ∀ b o, s.heap.get? b = some o → h₁.get? b = some o := IC.toInCall.keep
  have hn := IC.toInCall.ns
  have hxL : s.heap.objs.size ≠ x := Nat.ne_of_gt (Heap.lt_size hx)
  have X₁ : K.In h₁ := X.keeps k
  have hx₁ := k _ _ hx
  -- self.by = by
  show wpAny _ _ (execs _ _) _ _ _
  refine wpAny_execs_cons (plainObj_wpAny_Assign_Attribute ?_)
  refine ldC (v := v) hn (by first | rfl | with_unfolding_all rfl | kernel_rfl) (ldC (v := .ref x) hn (by first | rfl | with_unfolding_all rfl | kernel_rfl) ?_)
  refine set_plain X₁ (ox := excO C t0) (od := none) ⟨hx₁, rfl, rfl, trivial⟩ T.sa ?_
  refine exc_osa X₁ hx₁ hcl (show refsVE (.ref C :: bm) = true from hbm) rfl T.noN (fun h₃ tk₃ dx k₃ dn dne hx₃ hn₃ => ?_)
  show wpAny _ _ (execs _ _) _ _ _
  have z : s.heap.objs.size < h₁.objs.size := hn.lt
  exact wpAny_execs_nil (hq h₃ tk₃ dx ⟨fun b o hb e => k₃ b o hb (k b o e), hx₃, Nat.le_of_lt (Nat.lt_of_lt_of_le z dn), dne, hn₃⟩)
theorem low_made (T : LowTxt K mg xn C fI) {v : Value} (X : K.In s.heap) (hlim : s.heap.NoLimit) (hroom : A.depth + 1 < recursionLimit)
    (hq : ∀ h' tk e d, OwnMade s.heap h' e C d v → R (.ok (.ret (.ref e))) { s with heap := h', toks := tk }) :
    codeAny (model prog w) A (.call (.ref C) ⟨[v], []⟩) R s := by
  obtain ⟨nm, q, N, bs, bm, sn, sub, ab, col, dd, k0, k1, k2, k3, k5, hC, hbm⟩ := T.cls
  obtain ⟨hp, g, dr, tk, os⟩ := s
  have k : ∀ b o, hp.get? b = some o → ((hp.push (kdv_tup [v])).push (excO C hp.objs.size)).get? b = some o := fun b o e => Heap.get?_push_of_some _ (Heap.get?_push_of_some _ e)
  have hget : ((hp.push (kdv_tup [v])).push (excO C hp.objs.size)).get? (hp.objs.size + 1) = some (excO C hp.objs.size) := by heap_get
  have hnx : K.lookup (hp.objs.size + 1) = none := by
    cases e : K.lookup (hp.objs.size + 1) with
    | none => rfl
    | some o =>
      have z : hp.get? (hp.objs.size + 1) = some o := X _ _ e
      exact absurd (Nat.lt_of_succ_lt (Heap.lt_size z)) (Nat.lt_irrefl _)
  refine call_own F.excBase_ValueError (fun X => refsVE_contains X bm hbm) (X _ _ hC) (looks_findIn X T.iC) (fun self => bind_fn X self T.tC) (one_size v) ?_
  refine low_init (s := ⟨(hp.push (kdv_tup [v])).push (excO C hp.objs.size), g, dr, tk, os⟩) T (X.keeps k) (hlim.keeps k) hget hnx ?_ fun h' tk' dx ⟨k', hx, dn, dne, hns⟩ => ?_
  · show A.depth + 1 < recursionLimit
    exact hroom
  · have old : ∀ b o, hp.get? b = some o → h'.get? b = some o := fun b o e => k' b o (Nat.ne_of_lt (Nat.lt_succ_of_lt (Heap.lt_size e))) (k b o e)
    have z : hp.objs.size + 1 + 1 ≤ dx := by
      first
        | (simpa only [Heap.size_push] using dn)
        | exact dn
        | (have q := dn; rw [Heap.size_push, Heap.size_push] at q; exact q)
    exact ⟨rfl, hq h' tk' (hp.objs.size + 1) dx ⟨old, Nat.le_succ _, ⟨_, _, hx, rfl, rfl, rfl, rfl⟩, Nat.le_trans (Nat.le_trans (Nat.le_succ _) (Nat.le_succ _)) z, dne, hns⟩⟩
end
end LowX
end PySem
namespace L2
open PySem PySem.Spec PyProof.Rows
theorem relO_low {v : V} {v' : Value} (r : RelV v v') (f : Str) : RelO (List.lookup f [(("value" : Str), v)]) (if f = "value" then some v' else none) := by
  by_cases hw : f = "value"
  · subst hw
    rw [if_pos rfl]
    have q : List.lookup ("value" : Str) [(("value" : Str), v)] = some v := by simp [List.lookup]
    rw [q]
    exact r
  · rw [if_neg hw]
    have qw : (f == ("value" : Str)) = false := by simpa using hw
    have q2 : List.lookup f [(("value" : Str), v)] = none := by simp [List.lookup, qw]
    rw [q2]
    trivial
section
variable {X : Cx} {xn : Str} {C fI : Addr}
/-- Low(e) -/
def tMkLow (C : Addr) (ta : TA) : St → Hp → XK → Prop := fun σ H Q => ta σ H fun vs H1 => ∃ v, vs = [v] ∧ ∀ d, H1 d = none → Q (.ref C) (some d) (upd H1 d (.xd [(("value" : Str), v)]))
theorem pmk_low {a : Expr} {ta : TA} {p pos : Pos} {k : Nat} (T : PySem.LowX.LowTxt X.K X.mg xn C fI) (hr : Room k X.A) (ha : PA X [a] ta) (hg : Gl X xn := by rfl) (hdb : (xn == ("__debug__" : Str)) = false := by decide)
    (he : starEach (a :: []) X.env = (false, eval a X.env) :: starEach [] X.env := by rfl) (hpl : (backTo pos (starEach [] X.env)).any (·.1) = false := by rfl) :
    PMk X (.Call (.Name xn p) [a] [] pos) (tMkLow C ta) := by
  intro pins s σ H Q I h
  refine wpAny_Call_Name_kw (ld_glob I hg T.gC ?_ hdb)
  refine PySem.W.callWith_K (h₀ := X.base) I.ok.mod.kin T.kC (thn (ha.run pos pins s σ H _ I h) fun us s1 hh => ?_) he hpl
  obtain ⟨vs, H1, I1, r1, v, ev, q1⟩ := hh
  subst ev
  refine ⟨I1.kIn, ?_⟩
  cases r1 with
  | cons rv rn =>
    rename_i v' us'
    cases rn
    show wpAny _ _ (call (.ref C) [v']) _ _ _
    have hlim := I1.nolimit
    obtain ⟨hp, g, dr, tk, os⟩ := s1
    refine wpAny_call (PySem.LowX.low_made T I1.kIn hlim (by have := hr.dp; omega) fun h' tk' e d M => ?_)
    show MkP X pins σ Q (.ref e) ⟨h', g, dr, tk', os⟩
    obtain ⟨oe, fv, hoe, hc, hd, hdat, h1⟩ := M.obj
    have hns := M.ns
    obtain ⟨G', g1, g2⟩ := restrict h' fun b => decide (b ≠ e)
    have gk : ∀ b, b ≠ e → G'.get? b = h'.get? b := fun b hb => g1 b (decide_eq_true hb)
    have ge : G'.get? e = none := g2 e (by simp)
    have old : ∀ b o, hp.get? b = some o → G'.get? b = some o := fun b o q => (gk b (Nat.ne_of_lt (Nat.lt_of_lt_of_le (Heap.lt_size q) M.new))).trans (M.keep b o q)
    have ob : ObjOk X.prog X.w (upd H1 d (.xd [(("value" : Str), v)])) G' d (.xd [(("value" : Str), v)]) :=
      ⟨_, hns.at (fun o q => (gk d M.dne).trans q), fun f => relO_low rv f⟩
    have J : Inv X pins σ (upd H1 d (.xd [(("value" : Str), v)])) ⟨G', g, dr, tk', os⟩ := I1.laid (t' := tk') old M.dbig ob
    refine ⟨e, oe, fv, ⟨G', g, dr, tk', os⟩, _, .ref C, some d, rfl, J, fun b o q => ?_, ge, hoe, ⟨hc, hd⟩, hdat, h1, ?_, rfl, I1.bare, raises_own T.exC T.tyC, q1 d (I1.hok.fresh M.dbig)⟩
    · by_cases hb : b = e
      · have q' : G'.get? b = some o := q
        rw [hb, ge] at q'; cases q'
      · exact (gk b hb).symm.trans q
    · rw [upd_ne (Ne.symm M.dne)]
      exact I1.hok.fresh M.new
/-- raise Low(e) -/
def tRaiseLow (C : Addr) (W : WX) (ta : TA) : TS := fun _ σ H => tMkLow C ta σ H fun cls d H' => W cls d σ H'
theorem ps_raiseLow {a : Expr} {ta : TA} {W : WX} {p pos pos2 : Pos} {k : Nat} (hc : X.calm = true) (T : PySem.LowX.LowTxt X.K X.mg xn C fI) (hr : Room k X.A) (tk : Takes X W) (ha : PA X [a] ta) (hg : Gl X xn := by rfl) (hdb : (xn == ("__debug__" : Str)) = false := by decide)
    (he : starEach (a :: []) X.env = (false, eval a X.env) :: starEach [] X.env := by rfl) (hpl : (backTo pos (starEach [] X.env)).any (·.1) = false := by rfl) :
    PS X (.Raise (some (.Call (.Name xn p) [a] [] pos)) none pos2) (tRaiseLow C W ta) := ps_raise hc tk (pmk_low T hr ha hg hdb he hpl)
/-- low.by, low the exception that the suite holds (at a; its class cls, its dict d) -/
def tByLow (C : Addr) (a : Addr) (cls : Value) (d : Option Addr) (te : TE) : TE := fun σ H Q => te σ H fun x H1 => x = .ref a ∧ cls = .ref C ∧ ∃ (dd : Addr) (v : V), d = some dd ∧ H1 dd = some (.xd [(("value" : Str), v)]) ∧ Q v H1
theorem pe_byLow {a : Addr} {oe : Obj} {cls : Value} {d : Option Addr} {pn : List (Addr × Obj)} {e : Expr} {te : TE} {pos : Pos} (T : PySem.LowX.LowTxt X.K X.mg xn C fI) (hz : Zc cls d oe) (hf : ∃ vs, oe.data = .fields vs) (he : PE (X.suite a ((a, oe) :: pn)) e te)
    (hb : attributeBase e "value" X.env (eval e X.env) = eval e X.env := by rfl) :
    PE (X.suite a ((a, oe) :: pn)) (.Attribute e "value" pos) (tByLow C a cls d te) := by
  refine ⟨fun pins s σ H Q I h => ?_⟩
  refine attr_of hb (thn (he.run pins s σ H _ I h) fun u s1 hh => ?_)
  obtain ⟨x, H1, I1, rx, ex, ec, dd, v, ed, ea, q⟩ := hh
  subst ex
  obtain rfl : u = Value.ref a := rx
  subst ec
  subst ed
  obtain ⟨ha, _⟩ := I1.pin (a, oe) (List.mem_append_left _ List.mem_cons_self)
  obtain ⟨vs, hd⟩ := hf
  have hx : ObjOk X.prog X.w H1 s1.heap dd (.xd [(("value" : Str), v)]) := I1.hok dd _ ea
  obtain ⟨mA, hns, hr⟩ := hx
  obtain ⟨od, ho, hl⟩ := lookIn_ns hns
  have l : List.lookup ("value" : Str) [(("value" : Str), v)] = some v := by simp [List.lookup]
  obtain ⟨u, hu, ru⟩ := RelO.some_of (v := v) (o := mA "value") (by rw [← l]; exact hr "value")
  have J : PySem.W.InstAt s1.heap a oe C (some od) := ⟨ha, hz.1, by unfold PySem.W.notCls; rw [hd] <;> rfl, by rw [hz.2]; exact ho⟩
  exact HandSPX.exc_get I1.kIn J T.ga T.gg T.exC (PySem.W.findObj_own T.hdC T.noN rfl (by rw [hl, hu])) (handed_of ru) ⟨v, H1, I1.tok _, ru, q⟩
end
end L2


namespace Fb
open PySem PySem.Spec PyProof.Rows L2

/-- a method with positions, in a try: what it may let out is told at the slots -/
def tMethW (C : Addr) (m : Str) (sp : Sp) (E : L2.St → XK) (ta : TE) (t : TA) : TE := fun σ H Q => ta σ H fun x H1 => ∃ a dx fs, x = .ref a ∧ H1 a = some (.ins C dx fs) ∧ fs.lookup m = none ∧ t σ H1 fun vs H2 => sp (x :: vs) H2 Q (E σ)
def tMethKW (C : Addr) (m : Str) (sp : Sp) (n : Nat) (gV : List V → List V → List V) (E : L2.St → XK) (ta : TE) (tk : TA) : TE := fun σ H Q => ta σ H fun x H1 => ∃ a dx fs, x = .ref a ∧ H1 a = some (.ins C dx fs) ∧ fs.lookup m = none ∧
  tk σ H1 fun zs H2 => zs.length = n ∧ sp (gV [x] zs) H2 Q (E σ)
section
variable {X : Cx} {CX : CXT} {k : Nat} {f C : Addr} {fd : FuncData} {ps ks : List Str} {sp : Sp} {E : L2.St → XK} {m : Str} {pos apos : Pos} {o e : Expr} {es : List Expr} {kws : List Keyword} {ta : TE} {t tk : TA} {g : List Value → List Value → List Value} {gV : List V → List V → List V} {pl : Sem Bool}
theorem pe_methW (he : PE X o ta) (c : Cls X.K C) (hm : Meth X.K C m f) (F : FnOk X.prog X.w X.K X.mg X.base CX k f fd ps sp) (hr : Room k X.A) (hb : Binds X.K fd ps []) (hx : ∀ σ, PassesAt CX X σ (E σ)) (ha : PA X (e :: es) t)
    (hst : starEach (e :: es) X.env = (false, eval e X.env) :: starEach es X.env := by rfl) (hpl : (backTo pos (starEach es X.env)).any (·.1) = false := by rfl)
    (ht : eval (.Call (.Attribute o m apos) (e :: es) [] pos) X.env = (do
      let ov ← eval o X.env
      standAt apos.atName
      let (f, first) ← holding [ov] (getMethod ov m pl)
      callWith pos f first (backTo pos (starEach (e :: es) X.env)) (backToKw pos (keywordEach [] X.env))) := by rfl) : PE X (.Call (.Attribute o m apos) (e :: es) [] pos) (tMethW C m sp E ta t) := by
  constructor
  intro pins s σ H Q I h
  refine PySem.W.methodCall_KW (pl := pl) (thn (he.run pins s σ H _ I h) ?_) ht
  rintro u s1 ⟨x, H1, J, rx, a, dx, fs, rfl, ea, l, q⟩
  obtain rfl : u = Value.ref a := rx
  refine getmeth_ok J ea c hm l ?_
  refine PySem.W.callWith_K (h₀ := X.base) (first := [.ref a]) J.ok.mod.kin hm.kp (thn (ha.run pos pins s1 σ H1 _ J q) ?_) hst hpl
  rintro us s2 ⟨vs, H2, J2, rv, q2⟩
  have r1 : Vals (V.ref a :: vs) (Value.ref a :: us) := .cons rfl rv
  exact ⟨J2.kIn, run_fnS F hr hb (hx σ) J2 r1 q2⟩
theorem pe_methKW (he : PE X o ta) (c : Cls X.K C) (hm : Meth X.K C m f) (F : FnOk X.prog X.w X.K X.mg X.base CX k f fd ps sp) (hr : Room k X.A) (hb : KBn X.K fd ps 1 ks g gV) (hx : ∀ σ, PassesAt CX X σ (E σ)) (hkw : PK X kws tk)
    (hall : (backToKw pos (keywordEach kws X.env)).all (·.1.isSome) = true := by rfl) (hks : (backToKw pos (keywordEach kws X.env)).filterMap (·.1) = ks := by rfl) (hpl : ((backTo pos (starEach [] X.env)).any (·.1) || (backToKw pos (keywordEach kws X.env)).any (·.1.isNone)) = false := by rfl)
    (ht : eval (.Call (.Attribute o m apos) [] kws pos) X.env = (do
      let ov ← eval o X.env
      standAt apos.atName
      let (f, first) ← holding [ov] (getMethod ov m pl)
      callWith pos f first (backTo pos (starEach [] X.env)) (backToKw pos (keywordEach kws X.env))) := by rfl) : PE X (.Call (.Attribute o m apos) [] kws pos) (tMethKW C m sp ks.length gV E ta tk) := by
  constructor
  intro pins s σ H Q I h
  refine PySem.W.methodCall_KW (pl := pl) (thn (he.run pins s σ H _ I h) ?_) ht
  rintro u s1 ⟨x, H1, J, rx, a, dx, fs, rfl, ea, l, q⟩
  obtain rfl : u = Value.ref a := rx
  refine getmeth_ok J ea c hm l (PySem.W.callWith_KW0 (h₀ := X.base) (first := [.ref a]) J.ok.mod.kin hm.kp hall (thn (hkw.run pos pins s1 σ H1 _ J q) ?_) hpl)
  rintro ws s2 ⟨zs, H2, J2, rz, hz, q2⟩
  have r1 : Vals [V.ref a] [Value.ref a] := .cons rfl .nil
  have hw : ws.length = ks.length := by rw [← rz.length]; exact hz
  rw [hks]
  refine ⟨J2.kIn, wpAny_call (codeAny_mono (F.run X.A X.stack s2 H2 ⟨[.ref a], ks.zip ws⟩ (g [.ref a] ws) (gV [.ref a] zs) Q (E σ) hr J2.env0 (hb.to s2 [.ref a] ws J2.kIn rfl hw) (hb.rel r1 rz) q2) ?_)⟩
  intro r s3 y
  match r, y with
  | .error e, y => exact hx σ pins H2 s2 e s3 J2 y
  | .ok (.ret u), y => exact J2.after y
end
/-- what the class D must say, so that isinstance asks a caught error rightly -/
structure ErrC (K : PySem.W.Frag) (D : Addr) : Prop where
  hc : (PySem.W.clsIn K D).isSome = true
  hg : PySem.W.findIn K (.ref D) "__getattribute__" = some (some (.builtin "BaseException.__getattribute__"))
  hk : PySem.W.findIn K (.ref D) "__getattr__" = some none
  hs : PySem.W.subIn K (.ref D) (.type "BaseException") = some true
  ha : PySem.W.findIn K (.ref D) "__class__" = some (some (.builtin "object.__class__"))
  hn : PySem.W.specialIn K (.builtin "object.__class__") "__get__" = some (some (.builtin "getset_descriptor.__get__"))
  ht : PySem.W.takesIn K (.builtin "object.__class__") = some true
  hm : PySem.W.mroIn K D (.type "object") = some true
theorem err_inst {X : Cx} {pins : List (Addr × Obj)} {σ : L2.St} {H : Hp} {s : Shared} {a D dd : Addr} {fs : List (Str × V)} {oe : Obj} {pn : List (Addr × Obj)} (hz : Zc (.ref D) (some dd) oe) (hf : ∃ vs, oe.data = .fields vs) (I : Inv (X.suite a ((a, oe) :: pn)) pins σ H s) (hd : H dd = some (.xd fs)) :
    ∃ od : Obj, PySem.W.InstAt s.heap a oe D (some od) := by
  obtain ⟨hget, _⟩ := I.pin (a, oe) (List.mem_append.mpr (.inl List.mem_cons_self))
  obtain ⟨mA, ⟨od, es, ep, ho, _⟩, _⟩ := (show ObjOk _ _ H s.heap dd (.xd fs) from I.hok dd _ hd)
  obtain ⟨vs, hv⟩ := hf
  refine ⟨od, ⟨hget, hz.1, ?_, ?_⟩⟩
  · unfold PySem.W.notCls
    rw [hv]
  · rw [hz.2]
    exact ho
/-- isinstance(e, C), e the caught error -/
def rIsO (K : PySem.W.Frag) (a : Addr) (cls : Value) (d : Option Addr) : List V → Hp → VK → Prop := fun xs H Q => ∃ (D dd : Addr) (fs : List (Str × V)) (c : V) (u : Value) (b : Bool), ErrC K D ∧ cls = .ref D ∧ d = some dd ∧ xs = [.ref a, c] ∧ H dd = some (.xd fs) ∧ ClsV c u ∧ PySem.W.kitOne K (.ref D) u = some b ∧ Q (.bl b) H
/-- isinstance(e, (C1, C2, ..)) -/
def rIsOT (K : PySem.W.Frag) (a : Addr) (cls : Value) (d : Option Addr) : List V → Hp → VK → Prop := fun xs H Q => ∃ (D dd : Addr) (fs : List (Str × V)) (tp : Addr) (cs : List V) (us : List Value) (b : Bool), ErrC K D ∧ cls = .ref D ∧ d = some dd ∧ xs = [.ref a, .ref tp] ∧ H dd = some (.xd fs) ∧ H tp = some (.tup cs) ∧ Paired ClsV cs us ∧ PySem.W.kitAny K (.ref D) us = some b ∧ Q (.bl b) H
section
variable {X : Cx} {a : Addr} {cls : Value} {d : Option Addr} {oe : Obj} {pn : List (Addr × Obj)}
theorem call_isO (hz : Zc cls d oe) (hf : ∃ vs, oe.data = .fields vs) : CallR (X.suite a ((a, oe) :: pn)) (.builtin "isinstance") (rIsO X.K a cls d) := by
  rintro pins s σ H xs us Q I r ⟨D, dd, fs, c, u, b, C, rfl, rfl, rfl, hd, hcv, e, q⟩
  obtain ⟨od, J⟩ := err_inst hz hf I hd
  rcases r with _ | ⟨rx, _ | ⟨rt, _ | _⟩⟩
  cases rx
  cases hcv.eq rt
  exact PySem.W.kia_one (PySem.W.kitx_exc C.hc C.hg C.hk C.hs C.ha C.hn C.ht C.hm) I.kIn J e (fun z => nomatch z) fun tk => ⟨.bl b, H, I.kept (t' := tk) fun _ _ z => z, rfl, q⟩
theorem call_isOT (hz : Zc cls d oe) (hf : ∃ vs, oe.data = .fields vs) : CallR (X.suite a ((a, oe) :: pn)) (.builtin "isinstance") (rIsOT X.K a cls d) := by
  rintro pins s σ H xs us Q I r ⟨D, dd, fs, tp, cs, ws, b, C, rfl, rfl, rfl, hd, ht, hcv, e, q⟩
  obtain ⟨od, J⟩ := err_inst hz hf I hd
  rcases r with _ | ⟨rx, _ | ⟨rt, _ | _⟩⟩
  cases rx
  cases rt
  obtain ⟨_, its, rv, ⟨cls, dct, dat, sl⟩, hget, hcl, n, hdat⟩ := (show ObjOk _ _ H s.heap tp (.tup cs) from I.hok tp _ ht)
  dsimp only at hcl hdat
  subst hcl
  subst hdat
  cases ClsV.all hcv rv
  exact PySem.W.kia_tup (PySem.W.kitx_exc C.hc C.hg C.hk C.hs C.ha C.hn C.ht C.hm) I.kIn J hget e (fun z => nomatch z) fun tk => ⟨.bl b, H, I.kept (t' := tk) fun _ _ z => z, rfl, q⟩
end
theorem passE {X : Cx} {E : XK} (tk : Takes X (fun cls d _ H => E cls d H)) : Passes (L2.CX X.prog X.w) X E := passes_call tk (fun _ _ _ _ h => h)
theorem ve_own {C : Addr} : PySem.HandSPX.refsVE [.ref C, .type "ValueError", .type "Exception", .type "BaseException", .type "object"] = true := by
  show PySem.HandSPX.refsVE [.type "ValueError", .type "Exception", .type "BaseException", .type "object"] = true
  decide +kernel
/-- two rows that say the same -/
def RRow (C : Addr) (CB : Addr × Addr) (K : PySem.W.Frag) : Addr → Addr → Hp → Prop := fun a b H => ∃ (x x' : Addr) (base : Int) (L : List Line) (cs : List Int), RowC C CB K H a x base L cs ∧ RowC C CB K H b x' base L cs ∧ Sound base L ∧ ∀ c ∈ cs, c.natAbs < 2 ^ 99

end Fb
/-! Figurebooks: == and != by an own __eq__ that answers either way. -/
namespace HB
open PySem PySem.Spec PyProof.Rows PySem.SeqAt
section
variable {M : Model} {prog : Program} {w : World} {A : Around} {E : Value → Shared → Prop} {s : Shared} {K : PySem.W.Frag} {x C f L : Addr} {ox : Obj} {od : Option Obj} {h₀ : Heap} {m : Str → Option Value} {b tb : Value}

theorem objNe_K (X : K.In s.heap) (I : PySem.W.InstAt s.heap x ox C od) (hs : PySem.W.findIn K (.ref C) "__eq__" = some (some (.ref f))) (hf : PySem.W.isFn K (.ref f) = true) (hu : A.units < cLine) {Q : Fin → Shared → Prop}
    (hcall : wpAny (model prog w) A (call (.ref f) [.ref x, b]) (fun v s' => ∃ c, v = .bool c ∧ Q (.done (.ret (.bool (!c)))) s') E s) :
    wpAny (model prog w) A (Builtin.«object.__ne__» ⟨[.ref x, b], []⟩) Q E s := by
  unfold Builtin.«object.__ne__»
  repeat (first
    | with_reducible refine wpAny_cRoomFor hu ?_
    | (refine wpAny_bind (m := callSpecialIfBound? (.ref x) (Str.ofString "__eq__") [b])
        (PySem.W.ifBound_K X I hs hf (wpAny_mono hcall (fun r s' hr => by
          obtain ⟨c, rfl, hq⟩ := hr
          repeat (first | exact hq | exact wpAny_pure hq | exact wpAny_truthy_bool hq | (refine wpAny_bind (m := truthy (.bool _)) (wpAny_truthy_bool ?_)) | wp_step)) fun _ _ e => e)))
    | wp_step)
theorem call_objNe (X : K.In s.heap) (I : PySem.W.InstAt s.heap x ox C od) (hm : PySem.W.mroIn K C (.type "object") = some true) (hs : PySem.W.findIn K (.ref C) "__eq__" = some (some (.ref f))) (hf : PySem.W.isFn K (.ref f) = true) (hu : A.units + 1 < cLine) {Q : Value → Shared → Prop}
    (hcall : wpAny (model prog w) A.in1 (call (.ref f) [.ref x, b]) (fun v s' => ∃ c, v = .bool c ∧ Q (.bool (!c)) s') E s) :
    wpAny (model prog w) A (call (.builtin "object.__ne__") [.ref x, b]) Q E s :=
  wpAny_call (codeAny_call_builtin F.cmp_object.ne.plain F.cmpEntry_ne (PySem.W.check_slot F.cmpKind_ne F.cmpSplit_ne (I.type.andThen (PySem.W.looks_mroIn X hm)) (F.cmpArgs_ne _ _) (objNe_K (A := A.in1) X I hs hf hu hcall)))
theorem ifBound_objNe {args : List Value} {Q : Option Value → Shared → Prop} (X : K.In s.heap) (I : PySem.W.InstAt s.heap x ox C od) (hs : PySem.W.findIn K (.ref C) "__ne__" = some (some (.builtin "object.__ne__")))
    (h : wpAny M A (call (.builtin "object.__ne__") (.ref x :: args)) (fun v => Q (some v)) E s) : wpAny M A (callSpecialIfBound? (.ref x) "__ne__" args) Q E s := by
  simp only [callSpecialIfBound?, bindSpecialIfBound?]
  refine wpAny_holding (wpAny_bind (wpAny_bind (wpAny_bind (I.type.here ((PySem.W.looks_findIn X hs).here ?_)))))
  refine wpAny_bind (wpAny_askSetting (wpAny_ite ?_))
  have fin : wpAny M A (call (.builtin "object.__ne__") ([.ref x] ++ args) >>= fun v => pure (some v)) Q E s := wpAny_bind (wpAny_mono h (fun v s' h' => wpAny_pure h') fun _ _ h' => h')
  split
  · exact wpAny_bind (wpAny_of_eq (F.cmp_object.ne.bind _) (wpAny_pure (by exact fin)))
  · exact wpAny_tryCatch (wpAny_bind (wpAny_of_eq (F.cmp_object.ne.bind _) (wpAny_pure (by exact fin))))
theorem ne_K {Q : Value → Shared → Prop} (hu : A.units + 1 < cLine) (F : Fr h₀ L s.heap m) (X₀ : K.In h₀) (I : PySem.W.InstAt s.heap x ox C od) (hb : PySem.W.Looks (model prog w) s.heap (typeOf b) tb) (hn : PySem.W.notFirst K C tb = true)
    (hm : PySem.W.mroIn K C (.type "object") = some true) (hN : PySem.W.findIn K (.ref C) "__ne__" = some (some (.builtin "object.__ne__")))
    (hs : PySem.W.findIn K (.ref C) "__eq__" = some (some (.ref f))) (hf : PySem.W.isFn K (.ref f) = true)
    (h : wpAny (model prog w) A.in1 (call (.ref f) [.ref x, b]) (fun v s' => ∃ c, v = .bool c ∧ Q (.bool (!c)) s') E s) : wpAny (model prog w) A (richCompare .NotEq (.ref x) b) Q E s := by
  have X := X₀.keeps F.keep
  have one : wpAny (model prog w) A (tryCompare (.ref x) (cmpInfo .NotEq).2.1 b) (fun r s' => ∃ v, r = some v ∧ Q v s') E s := by
    unfold tryCompare
    refine wpAny_bind (ifBound_objNe X I hN (call_objNe X I hm hs hf hu (wpAny_mono h (fun v s' hv => ?_) fun _ _ e => e)))
    obtain ⟨c, rfl, hq⟩ := hv
    exact ⟨c, rfl, wpAny_pure ⟨_, rfl, hq⟩⟩
  unfold richCompare
  simp only [oneThing_ref]
  refine wpAny_holding (wpAny_bind (wpAny_cRoomFor (Nat.lt_of_succ_lt hu) ?_))
  refine wpAny_bind (I.type.here (wpAny_bind (hb.here ?_)))
  split
  · rename_i q
    have e : PySem.W.subIn K tb (.ref C) = some false := by
      rcases Bool.or_eq_true_iff.mp hn with e | e
      · rw [beq_iff_eq.mp e] at q; simp at q
      · exact beq_iff_eq.mp e
    refine wpAny_bind ((PySem.W.looks_subIn X e).here ?_)
    simp only [Bool.false_eq_true, if_false]
    refine wpAny_bind (wpAny_mono one (fun r s' z => ?_) fun _ _ e => e)
    obtain ⟨v, rfl, hq⟩ := z
    exact wpAny_pure hq
  · refine wpAny_bind (wpAny_pure ?_)
    simp only [Bool.false_eq_true, if_false]
    refine wpAny_bind (wpAny_mono one (fun r s' z => ?_) fun _ _ e => e)
    obtain ⟨v, rfl, hq⟩ := z
    exact wpAny_pure hq
end
end HB
namespace L2
open PySem PySem.Spec PyProof.Rows
section
variable {X : Cx} {n : Nat} {C f : Addr} {CX : CXT} {E : XK} {R : Addr → V → Bool → Hp → Prop}
/-- what an own == that answers either way promises: R a y c says that the answer to a == y is c -/
def spEqB (R : Addr → V → Bool → Hp → Prop) : Sp := fun vs H Q _ => ∃ a y c, vs = [.ref a, y] ∧ R a y c H ∧ ∀ H', Ext H H' → Q (.bl c) H'
/-- x == y or x != y, x an instance of the class at C, y any thing of a class that is not below C -/
def rEqB (K : PySem.W.Frag) (C : Addr) (R : Addr → V → Bool → Hp → Prop) (neg : Bool) : R2 := fun x y H Q => ∃ a dx fs t c, x = .ref a ∧ H a = some (.ins C dx fs) ∧ TyX K H y t ∧ PySem.W.notFirst K C t = true ∧ R a y c H ∧ ∀ H', Ext H H' → Q (.bl (if neg then !c else c)) H'
theorem op_eqB (F : FnR X.prog X.w X.K X.mg X.base CX n f (spEqB R)) (hs : PySem.W.findIn X.K (.ref C) "__eq__" = some (some (.ref f))) (hf : PySem.W.isFn X.K (.ref f) = true) (hx : Passes CX X E) (hr : Room n X.A) :
    OpR X (compareOp .Eq) (rEqB X.K C R false) := by
  intro pins s σ H x y v u Q I rx ry h
  obtain ⟨a, dx, fs, t, c, rfl, ha, ty, hn, hR, q⟩ := h
  cases (show v = Value.ref a from rx)
  obtain ⟨mA, J, _⟩ := ins_get I.hok ha
  obtain ⟨od, J, _⟩ := J.look
  obtain ⟨m, hF⟩ := I.fr
  obtain ⟨P, Z, p, _⟩ := kit_of I ry ty
  show wpAny (model X.prog X.w) X.A (richCompare .Eq (.ref a) u) (EP X pins σ Q) X.xe s
  refine PySem.W.cmp_K (op := .Eq) (tb := t) hr.units0 hF I.ok.mod.kin J (Z.ty _ _ I.kIn p) hn hs hf ?_
  have hsp : spEqB R [.ref a, y] H Q E := ⟨a, y, c, rfl, hR, fun H' e => q H' e⟩
  have hsp2 : spEqB R [.ref a, y] H (fun v H' => v = .bl c ∧ Ext H H') E := ⟨a, y, c, rfl, hR, fun H' e => ⟨rfl, e⟩⟩
  refine wpAny_mono (wpAny_call (run_fnR (us := [.ref a, u]) (vs := [.ref a, y]) F hr hx I (.cons rfl (.cons ry .nil)) hsp2)) (fun w s' z => ?_) fun _ _ x => x
  obtain ⟨z', H', I', rz, ez, ex⟩ := z
  subst ez
  cases rz
  exact ⟨.bl c, H', I', rfl, q H' ex⟩
theorem op_neB (F : FnR X.prog X.w X.K X.mg X.base CX n f (spEqB R)) (hs : PySem.W.findIn X.K (.ref C) "__eq__" = some (some (.ref f))) (hf : PySem.W.isFn X.K (.ref f) = true)
    (hm : PySem.W.mroIn X.K C (.type "object") = some true) (hN : PySem.W.findIn X.K (.ref C) "__ne__" = some (some (.builtin "object.__ne__"))) (hx : Passes CX X E) (hr : Room (n + 1) X.A) :
    OpR X (compareOp .NotEq) (rEqB X.K C R true) := by
  intro pins s σ H x y v u Q I rx ry h
  obtain ⟨a, dx, fs, t, c, rfl, ha, ty, hn, hR, q⟩ := h
  cases (show v = Value.ref a from rx)
  obtain ⟨mA, J, _⟩ := ins_get I.hok ha
  obtain ⟨od, J, _⟩ := J.look
  obtain ⟨m, hF⟩ := I.fr
  obtain ⟨P, Z, p, _⟩ := kit_of I ry ty
  have hu : X.A.units + 1 < cLine := by
    have := hr.in1.units0
    exact this
  show wpAny (model X.prog X.w) X.A (richCompare .NotEq (.ref a) u) (EP X pins σ Q) X.xe s
  refine HB.ne_K (tb := t) hu hF I.ok.mod.kin J (Z.ty _ _ I.kIn p) hn hm hN hs hf ?_
  have hsp2 : spEqB R [.ref a, y] H (fun v H' => v = .bl c ∧ Ext H H') E := ⟨a, y, c, rfl, hR, fun H' e => ⟨rfl, e⟩⟩
  refine wpAny_call (codeAny_mono (F X.A.in1 X.stack s H [.ref a, u] [.ref a, y] _ E hr.in1 I.env0.in1 (.cons rfl (.cons ry .nil)) hsp2) fun r s' hq => ?_)
  cases r with
  | error e => exact hx pins σ H s e s' I hq
  | ok fl =>
    cases fl with
    | ret w =>
      obtain ⟨z, H', I', rz, ez, ex⟩ := I.after hq
      subst ez
      cases rz
      exact ⟨c, rfl, .bl (!c), H', I', rfl, q H' ex⟩
    | next => exact False.elim hq
    | brk => exact False.elim hq
    | cont => exact False.elim hq
end
end L2
namespace L2
open PySem PySem.Spec PyProof.Rows
section
variable {X : Cx} {n : Nat} {C f : Addr} {CX : CXT} {E : XK} {R : Addr → V → Bool → Hp → Prop} {fd : FuncData} {ps : List Str}
theorem fnR_own {P : Program} {w : World} {K : PySem.W.Frag} {mg : Str → Option Value} {base : Heap} (F : FnOk P w K mg base CX n f fd ps (spEqB R)) (hb : Binds K fd ps []) : FnR P w K mg base CX n f (spEqB R) :=
  (F.raw hb .nil).imp fun vs H Q E h => by
    rw [List.append_nil]
    exact h
theorem op_eqF (F : FnOk X.prog X.w X.K X.mg X.base CX n f fd ps (spEqB R)) (hs : PySem.W.findIn X.K (.ref C) "__eq__" = some (some (.ref f))) (hf : PySem.W.isFn X.K (.ref f) = true) (hb : Binds X.K fd ps []) (hx : Passes CX X E) (hr : Room n X.A) :
    OpR X (compareOp .Eq) (rEqB X.K C R false) := op_eqB (fnR_own F hb) hs hf hx hr
theorem op_neF (F : FnOk X.prog X.w X.K X.mg X.base CX n f fd ps (spEqB R)) (hs : PySem.W.findIn X.K (.ref C) "__eq__" = some (some (.ref f))) (hf : PySem.W.isFn X.K (.ref f) = true) (hb : Binds X.K fd ps [])
    (hm : PySem.W.mroIn X.K C (.type "object") = some true) (hN : PySem.W.findIn X.K (.ref C) "__ne__" = some (some (.builtin "object.__ne__"))) (hx : Passes CX X E) (hr : Room (n + 1) X.A) :
    OpR X (compareOp .NotEq) (rEqB X.K C R true) := op_neB (fnR_own F hb) hs hf hm hN hx hr
end
end L2
namespace Fb
open PySem PySem.Spec PyProof.Rows L2

theorem eqvA_ints : ∀ xs ys : List Int, PyData.eqvAll (xs.map PyData.int) (ys.map PyData.int) = decide (xs = ys)
  | [], [] => by simp [PyData.eqvAll]
  | [], y :: ys => by simp [PyData.eqvAll]
  | x :: xs, [] => by simp [PyData.eqvAll]
  | x :: xs, y :: ys => by
    simp only [List.map_cons, PyData.eqvAll, PyData.eqv, eqvA_ints xs ys, List.cons.injEq, Bool.decide_and]
    rfl
theorem eqvD_ints (xs ys : List Int) : PyData.eqv (.list (xs.map PyData.int)) (.list (ys.map PyData.int)) = decide (xs = ys) := by
  rw [PyData.eqv]
  exact eqvA_ints xs ys
theorem eqvA_strs : ∀ xs ys : List Str, PyData.eqvAll (xs.map PyData.str) (ys.map PyData.str) = decide (xs = ys)
  | [], [] => by simp [PyData.eqvAll]
  | [], y :: ys => by simp [PyData.eqvAll]
  | x :: xs, [] => by simp [PyData.eqvAll]
  | x :: xs, y :: ys => by
    simp only [List.map_cons, PyData.eqvAll, PyData.eqv, eqvA_strs xs ys, List.cons.injEq, Bool.decide_and]
    congr 1
theorem eqvD_strs (xs ys : List Str) : PyData.eqv (.list (xs.map PyData.str)) (.list (ys.map PyData.str)) = decide (xs = ys) := by
  rw [PyData.eqv]
  exact eqvA_strs xs ys
/-- what == says of two books -/
def bookAns (b b' : Int) (L L' : List Line) : Bool := decide (b = b') && (decide (names L = names L') && (decide (starts L = starts L') && PyData.eqv (.list (L.map fun l => dForms l.2.2)) (.list (L'.map fun l => dForms l.2.2))))
/-- a thing of another class -/
def Strange (K : PySem.W.Frag) (C : Addr) (y : V) (H : Hp) : Prop := ∃ t, TyX K H y t ∧ PySem.W.kitOne K t (.ref C) = some false
def EqBook (CB : Addr × Addr) (K : PySem.W.Frag) : Addr → V → Bool → Hp → Prop := fun a y c H => ∃ b L, BookC CB K H a b L ∧ Sound b L ∧ ((∃ a' b' L', y = .ref a' ∧ BookC CB K H a' b' L' ∧ Sound b' L' ∧ c = bookAns b b' L L') ∨ (c = false ∧ Strange K CB.1 y H))
def EqRow (C : Addr) (CB : Addr × Addr) (K : PySem.W.Frag) : Addr → V → Bool → Hp → Prop := fun a y c H => ∃ x b L cs, RowC C CB K H a x b L cs ∧ Sound b L ∧ (∀ c ∈ cs, c.natAbs < 2 ^ 99) ∧
  ((∃ a' x' b' L' cs', y = .ref a' ∧ RowC C CB K H a' x' b' L' cs' ∧ Sound b' L' ∧ (∀ c ∈ cs', c.natAbs < 2 ^ 99) ∧ c = (bookAns b b' L L' && decide (cs = cs'))) ∨ (c = false ∧ Strange K C y H))

/-! Figurebooks: instances and functions made and called in a try. -/
def tMakeW (C : Addr) (sp : Sp) (E : L2.St → XK) (t : TA) : TE := fun σ H Q => t σ H fun vs H1 => ∀ x dx, H1 x = none → H1 dx = none → dx ≠ x →
  sp (.ref x :: vs) (upd (upd H1 dx (.own x)) x (.ins C dx [])) (fun v H2 => v = .non ∧ Q (.ref x) H2) (E σ)
def tMakeKW (C : Addr) (m : Nat) (sp : Sp) (gV : List V → List V → List V) (E : L2.St → XK) (tk : TA) : TE := fun σ H Q => tk σ H fun zs H2 => zs.length = m ∧ ∀ x dx, H2 x = none → H2 dx = none → dx ≠ x →
  sp (gV [.ref x] zs) (upd (upd H2 dx (.own x)) x (.ins C dx [])) (fun v H3 => v = .non ∧ Q (.ref x) H3) (E σ)
def tCallKW (sp : Sp) (m : Nat) (gV : List V → List V → List V) (E : L2.St → XK) (tk : TA) : TE := fun σ H Q => tk σ H fun zs H2 => zs.length = m ∧ sp (gV [] zs) H2 Q (E σ)
section
variable {X : Cx} {CX : CXT} {k : Nat} {f C : Addr} {fd : FuncData} {ps ks : List Str} {sp : Sp} {E : L2.St → XK} {x : Str} {p pos : Pos} {e : Expr} {es : List Expr} {kws : List Keyword} {t tk : TA} {g : List Value → List Value → List Value} {gV : List V → List V → List V}
theorem run_makeW {pins : List (Addr × Obj)} {σ : L2.St} {H : Hp} {s : Shared} {Q : VK} {us : List Value} {vs : List V} (M : Mk X.K C f) (F : FnOk X.prog X.w X.K X.mg X.base CX k f fd ps sp) (hr : Room (k + 1) X.A) (hb : Binds X.K fd ps [])
    (hx : PassesAt CX X σ (E σ)) (I : Inv X pins σ H s) (r : Vals vs us)
    (h : ∀ x dx, H x = none → H dx = none → dx ≠ x → sp (.ref x :: vs) (upd (upd H dx (.own x)) x (.ins C dx [])) (fun v H2 => v = .non ∧ Q (.ref x) H2) (E σ)) :
    wpAny (model X.prog X.w) X.A (call (.ref C) us) (EP X pins σ Q) X.xe s := by
  have hq := h (s.heap.objs.size + 1) s.heap.objs.size (I.hok.fresh (Nat.le_succ _)) (I.hok.fresh (Nat.le_refl _)) (Nat.ne_of_lt (Nat.lt_succ_self _))
  have I2 := Inv.made (C := C) I
  have r2 : Vals (V.ref (s.heap.objs.size + 1) :: vs) (Value.ref (s.heap.objs.size + 1) :: us) := .cons rfl r
  have hl : (Value.ref (s.heap.objs.size + 1) :: us ++ []).length = ps.length := by
    have e := r2.length
    rw [F.len _ _ _ _ hq] at e
    rw [List.append_nil]
    exact e.symm
  have b := hb _ (Value.ref (s.heap.objs.size + 1) :: us) I2.kIn hl
  rw [List.append_nil] at b
  refine wpAny_call (make_map (f := f) I.kIn M.makes M.init (beq_iff_eq.mp M.fn) (codeAny_mono (F.run _ X.stack _ _ ⟨Value.ref (s.heap.objs.size + 1) :: us, []⟩ (Value.ref (s.heap.objs.size + 1) :: us) _ _ (E σ) (hr.make C us [])
    (I2.env0.make C us []) b r2 hq) fun r s' hq' => ?_))
  cases r with
  | error e => exact hx pins _ _ e s' I2 hq'
  | ok fl =>
    cases fl with
    | ret u =>
      obtain ⟨v, H', I3, rv, ev, q3⟩ := I2.after hq'
      subst ev
      exact ⟨rv, ⟨V.ref (s.heap.objs.size + 1), H', I3, rfl, q3⟩⟩
    | next => exact False.elim hq'
    | brk => exact False.elim hq'
    | cont => exact False.elim hq'
theorem pe_makeW (M : Mk X.K C f) (F : FnOk X.prog X.w X.K X.mg X.base CX k f fd ps sp) (hr : Room (k + 1) X.A) (hg : Gl X x) (hm : X.mg x = some (.ref C)) (hb : Binds X.K fd ps []) (hx : ∀ σ, PassesAt CX X σ (E σ))
    (ha : PA X (e :: es) t) (hdb : (x == ("__debug__" : Str)) = false := by decide) (he : starEach (e :: es) X.env = (false, eval e X.env) :: starEach es X.env := by rfl) (hpl : (backTo pos (starEach es X.env)).any (·.1) = false := by rfl) :
    PE X (.Call (.Name x p) (e :: es) [] pos) (tMakeW C sp E t) := by
  refine ⟨fun pins s σ H Q I h => ?_⟩
  refine wpAny_Call_Name_kw (ld_glob I hg hm ?_ hdb)
  refine PySem.W.callWith_K (h₀ := X.base) I.ok.mod.kin M.kp (thn (ha.run pos pins s σ H _ I h) fun us s1 ⟨vs, H1, I1, r, q⟩ => ⟨I1.kIn, ?_⟩) he hpl
  exact run_makeW M F hr hb (hx σ) I1 r q
theorem run_makeKW {pins : List (Addr × Obj)} {σ : L2.St} {H : Hp} {s : Shared} {Q : VK} {ws : List Value} {zs : List V} (M : Mk X.K C f) (F : FnOk X.prog X.w X.K X.mg X.base CX k f fd ps sp) (hr : Room (k + 1) X.A) (hb : KBn X.K fd ps 1 ks g gV) (hx : PassesAt CX X σ (E σ))
    (I : Inv X pins σ H s) (rz : Vals zs ws) (l2 : zs.length = ks.length)
    (h : ∀ x dx, H x = none → H dx = none → dx ≠ x → sp (gV [.ref x] zs) (upd (upd H dx (.own x)) x (.ins C dx [])) (fun v H2 => v = .non ∧ Q (.ref x) H2) (E σ)) :
    wpAny (model X.prog X.w) X.A (call (.ref C) [] (ks.zip ws)) (EP X pins σ Q) X.xe s := by
  have hq := h (s.heap.objs.size + 1) s.heap.objs.size (I.hok.fresh (Nat.le_succ _)) (I.hok.fresh (Nat.le_refl _)) (Nat.ne_of_lt (Nat.lt_succ_self _))
  have I2 := Inv.made (C := C) I
  have r1 : Vals [V.ref (s.heap.objs.size + 1)] [Value.ref (s.heap.objs.size + 1)] := .cons rfl .nil
  have r2 := hb.rel r1 rz
  refine wpAny_call (make_map (f := f) I.kIn M.makes M.init (beq_iff_eq.mp M.fn) (codeAny_mono (F.run _ X.stack _ _ ⟨[Value.ref (s.heap.objs.size + 1)], ks.zip ws⟩ (g [Value.ref (s.heap.objs.size + 1)] ws) _ _ (E σ) (hr.make C [] (ks.zip ws))
    (I2.env0.make C [] (ks.zip ws)) (hb.to _ [Value.ref (s.heap.objs.size + 1)] ws I2.kIn rfl (rz.length.symm.trans l2)) r2 hq) fun r s' hq' => ?_))
  cases r with
  | error e => exact hx pins _ _ e s' I2 hq'
  | ok fl =>
    cases fl with
    | ret u =>
      obtain ⟨v, H', I3, rv, ev, q3⟩ := I2.after hq'
      subst ev
      exact ⟨rv, ⟨V.ref (s.heap.objs.size + 1), H', I3, rfl, q3⟩⟩
    | next => exact False.elim hq'
    | brk => exact False.elim hq'
    | cont => exact False.elim hq'
theorem pe_makeKW (M : Mk X.K C f) (F : FnOk X.prog X.w X.K X.mg X.base CX k f fd ps sp) (hr : Room (k + 1) X.A) (hg : Gl X x) (hm : X.mg x = some (.ref C)) (hb : KBn X.K fd ps 1 ks g gV) (hx : ∀ σ, PassesAt CX X σ (E σ)) (hkw : PK X kws tk)
    (hall : (backToKw pos (keywordEach kws X.env)).all (·.1.isSome) = true := by rfl) (hks : (backToKw pos (keywordEach kws X.env)).filterMap (·.1) = ks := by rfl) (hdb : (x == ("__debug__" : Str)) = false := by decide)
    (hpl : ((backTo pos (starEach [] X.env)).any (·.1) || (backToKw pos (keywordEach kws X.env)).any (·.1.isNone)) = false := by rfl) :
    PE X (.Call (.Name x p) [] kws pos) (tMakeKW C ks.length sp gV E tk) := by
  refine ⟨fun pins s σ H Q I h => ?_⟩
  refine wpAny_Call_Name_kw (ld_glob I hg hm ?_ hdb)
  refine PySem.W.callWith_KW0 (h₀ := X.base) I.ok.mod.kin M.kp hall ?_ hpl
  refine thn (hkw.run pos pins s σ H _ I h) fun ws s2 ⟨zs, H2, I2, rz, l2, q2⟩ => ⟨I2.kIn, ?_⟩
  rw [hks]
  exact run_makeKW M F hr hb (hx σ) I2 rz l2 q2
theorem pe_callKW (F : FnOk X.prog X.w X.K X.mg X.base CX k f fd ps sp) (hr : Room k X.A) (hg : Gl X x) (hm : X.mg x = some (.ref f)) (hk : PySem.W.keepIn X.K (.ref f) = true) (hb : KBn X.K fd ps 0 ks g gV) (hx : ∀ σ, PassesAt CX X σ (E σ)) (hkw : PK X kws tk)
    (hall : (backToKw pos (keywordEach kws X.env)).all (·.1.isSome) = true := by rfl) (hks : (backToKw pos (keywordEach kws X.env)).filterMap (·.1) = ks := by rfl) (hdb : (x == ("__debug__" : Str)) = false := by decide)
    (hpl : ((backTo pos (starEach [] X.env)).any (·.1) || (backToKw pos (keywordEach kws X.env)).any (·.1.isNone)) = false := by rfl) :
    PE X (.Call (.Name x p) [] kws pos) (tCallKW sp ks.length gV E tk) := by
  refine ⟨fun pins s σ H Q I h => ?_⟩
  refine wpAny_Call_Name_kw (ld_glob I hg hm ?_ hdb)
  refine PySem.W.callWith_KW0 (h₀ := X.base) I.ok.mod.kin hk hall ?_ hpl
  refine thn (hkw.run pos pins s σ H _ I h) fun ws s2 ⟨zs, H2, I2, rz, l2, q2⟩ => ⟨I2.kIn, ?_⟩
  rw [hks]
  refine wpAny_call (codeAny_mono (F.run X.A X.stack s2 H2 ⟨[], ks.zip ws⟩ (g [] ws) (gV [] zs) Q (E σ) hr I2.env0 (hb.to s2 [] ws I2.kIn rfl (rz.length.symm.trans l2)) (hb.rel .nil rz) q2) ?_)
  intro r s3 y
  match r, y with
  | .error e, y => exact hx σ pins H2 s2 e s3 I2 y
  | .ok (.ret u), y => exact I2.after y
end
theorem kbn_rev0 {K : PySem.W.Frag} {x qual : Str} {st : Stmt} {f : Addr} {fd : FuncData} {ps ks : List Str} (F : Fun K x qual st f fd)
    (h : ∀ (kV doc pm : Value) (an : Option Addr) (cdv ct : Value) (us ws : List Value), us.length = 0 → ws.length = ks.length → bindArgs (PySem.W.fnOf x qual (defArgs st) (defBody st) (defScope st) .none kV doc pm an cdv ct) ⟨us, ks.zip ws⟩ = pure (ps.zip (us ++ ws.reverse))) :
    KBn K fd ps 0 ks (fun us ws => us ++ ws.reverse) (fun vs zs => vs ++ zs.reverse) := by
  obtain ⟨oc, od, kV, doc, pm, an, cdv, ct, osl, rfl, lk, hcd⟩ := F.ex
  refine ⟨fun s us ws _ h1 h2 => .of_eq (h kV doc pm an cdv ct us ws h1 h2), fun {us vs ws zs} r1 r2 => r1.append ?_⟩
  have key : ∀ {vs : List V} {us : List Value}, Vals vs us → Vals vs.reverse us.reverse := fun {vs us} r => by
    induction r with
    | nil => exact .nil
    | cons a r ih =>
      rw [List.reverse_cons, List.reverse_cons]
      exact ih.append (.cons a .nil)
  exact key r2
/-- "x" * n, n 0 or 1 -/
def rRepS : R2 := fun x y H Q => ∃ (i : Str) (b : Bool), x = .str i ∧ y = .int (if b then 1 else 0) ∧ Q (.str (if b then i else Str.empty)) H
theorem op_repS {X : Cx} : OpR X (binaryOp .Mult) rRepS := by
  intro pins s σ H x y v u Q I rx ry h
  obtain ⟨i, b, rfl, rfl, q⟩ := h
  obtain ⟨t, rfl⟩ := rx
  obtain ⟨t', rfl⟩ := ry
  cases b
  · refine SB.mul ⟨by decide, fun h => absurd (by decide) h, fun h => absurd (by decide) h⟩ fun t' k => ?_
    exact ⟨.str Str.empty, H, I.tok _, ⟨_, rfl⟩, q⟩
  · refine SB.mul ⟨by decide, fun _ h => Bool.noConfusion h, fun _ h => Bool.noConfusion h⟩ fun t' k => ?_
    exact ⟨.str i, H, I.tok _, ⟨_, rfl⟩, q⟩
/-- one of two readings -/
def tEither (t u : TE) : TE := fun σ H Q => t σ H Q ∨ u σ H Q
theorem pe_either {X : Cx} {e : Expr} {t u : TE} (h1 : PE X e t) (h2 : PE X e u) : PE X e (tEither t u) := ⟨fun pins s σ H Q I h => h.elim (fun h => h1.run pins s σ H Q I h) fun h => h2.run pins s σ H Q I h⟩

/-! What stands in slots, told by what it is; the heap hidden. -/
/-- what a value is, in a heap that may grow -/
structure Ty where
  is : V → Hp → Prop
  mono : ∀ {v : V} {H H' : Hp}, Same H H' → is v H → is v H'
def TyAll : List Ty → List V → Hp → Prop
  | [], [], _ => True
  | t :: ts, v :: vs, H => t.is v H ∧ TyAll ts vs H
  | _, _, _ => False
theorem TyAll.mono {H H' : Hp} (s : Same H H') : ∀ {ts : List Ty} {vs : List V}, TyAll ts vs H → TyAll ts vs H'
  | [], [], _ => trivial
  | t :: _, _ :: _, h => ⟨t.mono s h.1, TyAll.mono s h.2⟩
  | [], _ :: _, h => h.elim
  | _ :: _, [], h => h.elim
theorem TyAll.len {H : Hp} : ∀ {ts : List Ty} {vs : List V}, TyAll ts vs H → ts.length = vs.length
  | [], [], _ => rfl
  | _ :: _, _ :: _, h => congrArg (· + 1) (TyAll.len h.2)
  | [], _ :: _, h => h.elim
  | _ :: _, [], h => h.elim
theorem TyAll.app {H : Hp} : ∀ {ts us : List Ty} {vs ws : List V}, TyAll ts vs H → TyAll us ws H → TyAll (ts ++ us) (vs ++ ws) H
  | [], _, [], _, _, h => h
  | _ :: _, _, _ :: _, _, a, h => ⟨a.1, TyAll.app a.2 h⟩
  | [], _, _ :: _, _, a, _ => a.elim
  | _ :: _, _, [], _, a, _ => a.elim
theorem TyAll.get {H : Hp} : ∀ {ts : List Ty} {vs : List V} {i : Nat} {t : Ty}, TyAll ts vs H → ts[i]? = some t → ∃ v, vs[i]? = some v ∧ t.is v H
  | t :: _, v :: _, 0, _, h, e => by
    cases e
    exact ⟨v, rfl, h.1⟩
  | _ :: ts, _ :: vs, i + 1, u, h, e => TyAll.get (ts := ts) (vs := vs) (i := i) h.2 e
  | [], [], _, _, _, e => by simp at e
  | [], _ :: _, _, _, h, _ => h.elim
  | _ :: _, [], _, _, h, _ => h.elim
theorem TyAll.getV {H : Hp} {ts : List Ty} {vs : List V} {i : Nat} {v : V} (h : TyAll ts vs H) (e : vs[i]? = some v) : ∃ t, ts[i]? = some t ∧ t.is v H := by
  have hl := h.len
  have hi : i < ts.length := by
    have := (List.getElem?_eq_some_iff.mp e).1
    omega
  obtain ⟨w, hw, ht⟩ := h.get (List.getElem?_eq_getElem hi)
  rw [e] at hw
  cases hw
  exact ⟨_, List.getElem?_eq_getElem hi, ht⟩
theorem TyAll.set {H : Hp} {t : Ty} {v : V} (ht : t.is v H) : ∀ {ts : List Ty} {vs : List V} {i : Nat}, TyAll ts vs H → TyAll (ts.set i t) (vs.set i v) H
  | [], [], _, _ => trivial
  | _ :: _, _ :: _, 0, h => ⟨ht, h.2⟩
  | _ :: _, _ :: _, i + 1, h => ⟨h.1, TyAll.set ht (i := i) h.2⟩
  | [], _ :: _, _, h => h.elim
  | _ :: _, [], _, h => h.elim
theorem TyAll.take {H : Hp} : ∀ {ts : List Ty} {vs : List V} (n : Nat), TyAll ts vs H → TyAll (ts.take n) (vs.take n) H
  | [], [], n, _ => by rw [List.take_nil, List.take_nil]; trivial
  | _ :: _, _ :: _, 0, _ => trivial
  | _ :: _, _ :: _, n + 1, h => ⟨h.1, TyAll.take n h.2⟩
  | [], _ :: _, _, h => h.elim
  | _ :: _, [], _, h => h.elim
theorem TyAll.drop {H : Hp} : ∀ {ts : List Ty} {vs : List V} (n : Nat), TyAll ts vs H → TyAll (ts.drop n) (vs.drop n) H
  | [], [], n, _ => by rw [List.drop_nil, List.drop_nil]; trivial
  | _ :: _, _ :: _, 0, h => h
  | _ :: _, _ :: _, n + 1, h => TyAll.drop n h.2
  | [], _ :: _, _, h => h.elim
  | _ :: _, [], _, h => h.elim
theorem TyAll.rev {H : Hp} : ∀ {ts : List Ty} {vs : List V}, TyAll ts vs H → TyAll ts.reverse vs.reverse H
  | [], [], _ => trivial
  | t :: ts, v :: vs, h => by
    rw [List.reverse_cons, List.reverse_cons]
    exact (TyAll.rev h.2).app ⟨h.1, trivial⟩
  | [], _ :: _, h => h.elim
  | _ :: _, [], h => h.elim
theorem TyAll.rep {H : Hp} {ts : List Ty} {vs : List V} (h : TyAll ts vs H) : ∀ n : Nat, TyAll (List.replicate n ts).flatten (List.replicate n vs).flatten H
  | 0 => trivial
  | n + 1 => by
    rw [List.replicate_succ, List.replicate_succ, List.flatten_cons, List.flatten_cons]
    exact h.app (TyAll.rep h n)
/-- data -/
def tD (K : PySem.W.Frag) (d : PyData) : Ty := ⟨fun v H => Dp K H v d, fun s h => dp_same s h⟩
/-- a list, a tuple -/
def tL (K : PySem.W.Frag) (ts : List Ty) : Ty := ⟨fun v H => ∃ a vs, v = .ref a ∧ SqL K H a vs ∧ TyAll ts vs H, fun s ⟨a, vs, e, h, g⟩ => ⟨a, vs, e, s.seq h, g.mono s⟩⟩
def tTp (K : PySem.W.Frag) (ts : List Ty) : Ty := ⟨fun v H => ∃ a vs, v = .ref a ∧ SqT K H a vs ∧ TyAll ts vs H, fun s ⟨a, vs, e, h, g⟩ => ⟨a, vs, e, sqt_same s h, g.mono s⟩⟩
/-- a dict that stays -/
def tDi (kts : List (Key × Ty)) : Ty := ⟨fun v H => ∃ (a : Addr) (kvs : List (Key × V)), v = .ref a ∧ Rd H a (.dK kvs) ∧ kvs.map Prod.fst = kts.map Prod.fst ∧ TyAll (kts.map Prod.snd) (kvs.map Prod.snd) H,
  fun s ⟨a, kvs, e, h, g, w⟩ => ⟨a, kvs, e, h.elim (fun z => .inl (s _ _ z)) (fun ⟨o, z⟩ => .inr ⟨o, s _ _ z⟩), g, w.mono s⟩⟩
/-- an instance -/
def tI (C : Addr) (fs : List (Str × Ty)) : Ty := ⟨fun v H => ∃ (a dx : Addr) (fvs : List (Str × V)), v = .ref a ∧ H a = some (.ins C dx fvs) ∧ fvs.map Prod.fst = fs.map Prod.fst ∧ TyAll (fs.map Prod.snd) (fvs.map Prod.snd) H,
  fun {v H H'} s ⟨a, dx, fvs, e, h, g, w⟩ => ⟨a, dx, fvs, e, s _ _ h, g, TyAll.mono s w⟩⟩
/-- t is at least u -/
def Sub (t u : Ty) : Prop := ∀ {v : V} {H : Hp}, t.is v H → u.is v H
theorem tyAll_data {K : PySem.W.Frag} {H : Hp} : ∀ {ds : List PyData} {vs : List V}, TyAll (ds.map (tD K)) vs H ↔ DpAll K H vs ds
  | [], [] => ⟨fun _ => .nil, fun _ => trivial⟩
  | d :: ds, v :: vs => ⟨fun h => .cons h.1 (tyAll_data.mp h.2), fun h => by cases h with | cons a b => exact ⟨a, tyAll_data.mpr b⟩⟩
  | [], _ :: _ => ⟨fun h => h.elim, fun h => by cases h⟩
  | _ :: _, [] => ⟨fun h => h.elim, fun h => by cases h⟩
/-! ### hidden addresses -/
open Classical in
noncomputable def hidP (O : Addr → Prop) (H : Hp) : Hp := fun a => if O a then none else H a
theorem hidP_at {O : Addr → Prop} {H : Hp} {a : Addr} {o : HO} (h : H a = some o) (n : ¬ O a) : hidP O H a = some o := by unfold hidP; rw [if_neg n]; exact h
theorem hidP_of {O : Addr → Prop} {H : Hp} {a : Addr} {o : HO} (h : hidP O H a = some o) : H a = some o ∧ ¬ O a := by
  unfold hidP at h
  split at h
  · cases h
  · exact ⟨h, ‹_›⟩
theorem hidP_le {O : Addr → Prop} {H : Hp} : Same (hidP O H) H := fun a o h => (hidP_of h).1
theorem hidP_mono {O O' : Addr → Prop} {H H' : Hp} (h : ∀ a o, H a = some o → ¬ O a → H' a = some o ∧ ¬ O' a) : Same (hidP O H) (hidP O' H') := fun a o e => by
  obtain ⟨h1, h2⟩ := hidP_of e
  obtain ⟨h3, h4⟩ := h a o h1 h2
  exact hidP_at h3 h4
/-! ### what a function holds -/
inductive Sh where
  | lst (ts : List Ty)
  | dic (kts : List (Key × Ty))
  | ins (C : Addr) (fs : List (Str × Ty))
def Sh.is : Sh → HO → Hp → Prop
  | .lst ts, .lst vs, H => TyAll ts vs H
  | .dic kts, .dK kvs, H => kvs.map Prod.fst = kts.map Prod.fst ∧ TyAll (kts.map Prod.snd) (kvs.map Prod.snd) H
  | .ins C fs, .ins C' _ fvs, H => C' = C ∧ fvs.map Prod.fst = fs.map Prod.fst ∧ TyAll (fs.map Prod.snd) (fvs.map Prod.snd) H
  | _, _, _ => False
theorem Sh.mono {H H' : Hp} (s : Same H H') : ∀ {h : Sh} {u : HO}, h.is u H → h.is u H' := fun {h u} x => by
  cases h <;> cases u <;> first
    | exact TyAll.mono s x
    | exact ⟨x.1, x.2.mono s⟩
    | exact ⟨x.1, x.2.1, x.2.2.mono s⟩
    | exact x.elim
@[reducible] def Sh.ty (K : PySem.W.Frag) : Sh → Ty
  | .lst ts => tL K ts
  | .dic kts => tDi kts
  | .ins C fs => tI C fs
inductive Sl where
  | any
  | ty (t : Ty)
  | own (a : Addr) (s : Sh)
  | pool
def Sl.ad : Sl → Option Addr
  | .own a _ => some a
  | _ => none
/-- a frame: the heap at its entry, what it may not look at, the pool, what stands beside the slots -/
structure Fr where
  B : Hp
  O : Addr → Prop
  p : Option Addr
  T : List (V × Ty)
def ows (Γ : List Sl) : List Addr := Γ.filterMap Sl.ad
def HS (F : Fr) (Γ : List Sl) : Addr → Prop := fun a => F.O a ∨ a ∈ ows Γ
def SlOk (F : Fr) (X : Addr → Prop) (H : Hp) : Sl → Option (Option V) → Prop
  | .any, o => ∃ x, o = some x
  | .ty t, o => ∃ v, o = some (some v) ∧ t.is v (hidP X H)
  | .own a s, o => o = some (some (.ref a)) ∧ ∃ u, H a = some u ∧ s.is u (hidP X H)
  | .pool, o => ∃ p, F.p = some p ∧ o = some (some (.ref p))
structure Ok (F : Fr) (Γ : List Sl) (f : Nat) (σ : L2.St) (H : Hp) : Prop where
  len : σ.length = Γ.length
  sl : ∀ (i : Nat) (s : Sl), Γ[i]? = some s → SlOk F (HS F Γ) H s σ[i]?
  base : ∀ a o, F.B a = some o → F.p ≠ some a → H a = some o
  out : ∀ a, F.O a → ∃ o, H a = some o ∧ fixedO o = false
  dj : ∀ a, F.O a → a ∉ ows Γ
  nd : (ows Γ).Nodup
  fresh : ∀ a ∈ ows Γ, F.B a = none
  po : ∀ p, F.p = some p → F.O p ∧ PoolAt H p f
  tmp : ∀ x ∈ F.T, x.2.is x.1 (hidP (HS F Γ) H)
def Step (F : Fr) (H H' : Hp) : Prop := ∀ a o, H a = some o → F.p ≠ some a → H' a = some o
theorem Step.refl {F : Fr} {H : Hp} : Step F H H := fun _ _ e _ => e
theorem Step.trans {F : Fr} {H H1 H2 : Hp} (a : Step F H H1) (b : Step F H1 H2) : Step F H H2 := fun c o e n => b c o (a c o e n) n
theorem Step.of {F : Fr} {H H1 : Hp} (s : Same H H1) : Step F H H1 := fun c o e _ => s c o e
/-- what comes of an expression -/
inductive Rs where
  | ty (t : Ty)
  | new (s : Sh)
def Rs.is (X : Addr → Prop) (H0 : Hp) : Rs → V → Hp → Prop
  | .ty t, v, H => t.is v (hidP X H)
  | .new s, v, H => ∃ a u, v = .ref a ∧ H0 a = none ∧ H a = some u ∧ s.is u (hidP (fun b => X b ∨ b = a) H)
@[reducible] def Rs.t (K : PySem.W.Frag) : Rs → Ty
  | .ty t => t
  | .new s => s.ty K
theorem sh_ty {K : PySem.W.Frag} {X : Addr → Prop} {H : Hp} {a : Addr} {u : HO} : ∀ {s : Sh}, H a = some u → ¬ X a → s.is u (hidP (fun b => X b ∨ b = a) H) → (s.ty K).is (.ref a) (hidP X H) := fun {s} h n g => by
  have m : Same (hidP (fun b => X b ∨ b = a) H) (hidP X H) := hidP_mono fun b o e z => ⟨e, fun y => z (.inl y)⟩
  have ha := hidP_at h n
  cases s <;> cases u <;> first
    | exact ⟨a, _, rfl, sq_of ha, TyAll.mono m g⟩
    | exact ⟨a, _, rfl, .inl ha, g.1, g.2.mono m⟩
    | exact g.elim
    | (obtain ⟨e, g1, g2⟩ := g; subst e; exact ⟨a, _, _, rfl, ha, g1, g2.mono m⟩)
section
variable {F : Fr} {Γ : List Sl} {f : Nat} {σ : L2.St} {H : Hp}
theorem Ok.liveF (k : Ok F Γ f σ H) {a : Addr} (h : HS F Γ a) : ∃ o, H a = some o ∧ fixedO o = false := by
  rcases h with h | h
  · exact k.out a h
  · unfold ows at h
    rw [List.mem_filterMap] at h
    obtain ⟨s, hs, e⟩ := h
    cases s with
    | own b s =>
      cases e
      obtain ⟨i, hi⟩ := List.getElem?_of_mem hs
      obtain ⟨_, u, hu, g⟩ := k.sl i _ hi
      refine ⟨u, hu, ?_⟩
      cases s <;> cases u <;> first | rfl | exact g.elim
    | any => cases e
    | ty t => cases e
    | pool => cases e
theorem Ok.live (k : Ok F Γ f σ H) {a : Addr} (h : HS F Γ a) : H a ≠ none := by
  obtain ⟨o, e, _⟩ := k.liveF h
  rw [e]
  exact fun z => by cases z
theorem Rs.is_ty {K : PySem.W.Frag} {v : V} {r : Rs} {H1 : Hp} (k : Ok F Γ f σ H) (h : r.is (HS F Γ) H v H1) : (r.t K).is v (hidP (HS F Γ) H1) := by
  cases r with
  | ty t => exact h
  | new s =>
    obtain ⟨a, u, rfl, h0, h1, g⟩ := h
    exact sh_ty h1 (fun z => k.live z h0) g
theorem Step.hid (s : Step F H H') (k : Ok F Γ f σ H) : Same (hidP (HS F Γ) H) (hidP (HS F Γ) H') := hidP_mono fun a o e n => ⟨s a o e fun z => n (.inl (k.po a z).1), n⟩
theorem Rs.keep {v : V} {r : Rs} {H1 H2 : Hp} (k : Ok F Γ f σ H) (k1 : Ok F Γ f' σ H1) (s : Step F H1 H2) (h : r.is (HS F Γ) H v H1) : r.is (HS F Γ) H v H2 := by
  cases r with
  | ty t => exact t.mono (s.hid k1) h
  | new x =>
    obtain ⟨a, u, rfl, h0, h1, g⟩ := h
    refine ⟨a, u, rfl, h0, s a u h1 fun z => k.live (.inl (k.po a z).1) h0, Sh.mono (hidP_mono fun b o e n => ⟨s b o e fun z => n (.inl (.inl (k.po b z).1)), n⟩) g⟩
end

/-! Rules over what stands in slots. -/
def W (K : PySem.W.Frag) (F : Fr) (Γ : List Sl) (f : Nat) (te : TE) (κ : Nat → Rs → Prop) : Prop := ∀ (σ : L2.St) (H : Hp) (Q : VK), Ok F Γ f σ H → (∀ f' r v H', κ f' r → Ok F Γ f' σ H' → Step F H H' → r.is (HS F Γ) H v H' → Q v H') → te σ H Q
def WA (K : PySem.W.Frag) (F : Fr) (Γ : List Sl) (f : Nat) (ta : TA) (κ : Nat → List Ty → Prop) : Prop := ∀ (σ : L2.St) (H : Hp) (Q : List V → Hp → Prop), Ok F Γ f σ H → (∀ f' ts vs H', κ f' ts → Ok F Γ f' σ H' → Step F H H' → TyAll ts vs (hidP (HS F Γ) H') → Q vs H') → ta σ H Q
def WT (K : PySem.W.Frag) (F : Fr) (Γ : List Sl) (f : Nat) (tt : TT) (κ : Nat → Bool → Prop) : Prop := ∀ (σ : L2.St) (H : Hp) (Q : Bool → Hp → Prop), Ok F Γ f σ H → (∀ f' b H', κ f' b → Ok F Γ f' σ H' → Step F H H' → Q b H') → tt σ H Q
/-- v of type t goes to its targets -/
def WG (K : PySem.W.Frag) (F : Fr) (Γ : List Sl) (f : Nat) (g : TG) (t : Ty) (κ : List Sl → Prop) : Prop := ∀ (v : V) (σ : L2.St) (H : Hp) (P : L2.St → Hp → Prop), Ok F Γ f σ H → t.is v (hidP (HS F Γ) H) → (∀ Γ' σ', κ Γ' → Ok F Γ' f σ' H → P σ' H) → g v σ H P
def WGs (K : PySem.W.Frag) (F : Fr) (Γ : List Sl) (f : Nat) (g : TGs) (ts : List Ty) (κ : List Sl → Prop) : Prop := ∀ (vs : List V) (σ : L2.St) (H : Hp) (P : L2.St → Hp → Prop), Ok F Γ f σ H → TyAll ts vs (hidP (HS F Γ) H) → (∀ Γ' σ', κ Γ' → Ok F Γ' f σ' H → P σ' H) → g vs σ H P
def S (K : PySem.W.Frag) (F : Fr) (Γ : List Sl) (f : Nat) (t : TS) (D : Ends) : Prop := ∀ (σ : L2.St) (H : Hp), Ok F Γ f σ H → t D σ H
def NX (K : PySem.W.Frag) (F : Fr) (Γ : List Sl) (f : Nat) (P : L2.St → Hp → Prop) : Prop := ∀ (σ : L2.St) (H : Hp), Ok F Γ f σ H → P σ H
def RT (F : Fr) (rt : VK) (ρ : Nat → Rs → Prop) : Prop := ∀ f r v H', ρ f r → (∀ a o, F.B a = some o → F.p ≠ some a → H' a = some o) → (∀ p, F.p = some p → PoolAt H' p f) → r.is F.O F.B v H' → rt v H'
/-- some Γ of I holds -/
def Inv' (F : Fr) (I : List Sl → Nat → Prop) : L2.St → Hp → Prop := fun σ H => ∃ Γ f, I Γ f ∧ Ok F Γ f σ H
section
variable {F : Fr} {Γ : List Sl} {f : Nat} {σ : L2.St} {H : Hp} {K : PySem.W.Frag} {κ : Nat → Rs → Prop} {te ta tb : TE} {D : Ends}
/-! ### slots -/
theorem ows_set_sub {s : Sl} (hs : s.ad = none) : ∀ {Γ : List Sl} {i : Nat}, (ows (Γ.set i s)).Sublist (ows Γ)
  | [], _ => by simp [ows]
  | x :: Γ, 0 => by
    unfold ows
    rw [List.set_cons_zero, List.filterMap_cons_none hs]
    cases e : x.ad with
    | none => rw [List.filterMap_cons_none e]; exact List.Sublist.refl _
    | some a => rw [List.filterMap_cons_some e]; exact List.sublist_cons_self _ _
  | x :: Γ, i + 1 => by
    have ih := ows_set_sub hs (Γ := Γ) (i := i)
    unfold ows at ih ⊢
    rw [List.set_cons_succ]
    cases e : x.ad with
    | none => rw [List.filterMap_cons_none e, List.filterMap_cons_none e]; exact ih
    | some a => rw [List.filterMap_cons_some e, List.filterMap_cons_some e]; exact ih.cons₂ a
theorem ows_set_own {a : Addr} {s : Sh} : ∀ {Γ : List Sl} {i : Nat}, (ows Γ).Nodup → a ∉ ows Γ → (ows (Γ.set i (.own a s))).Nodup ∧ ∀ b ∈ ows (Γ.set i (.own a s)), b = a ∨ b ∈ ows Γ
  | [], _, _, _ => by simp [ows]
  | x :: Γ, 0, nd, na => by
    unfold ows at nd na ⊢
    rw [List.set_cons_zero, show List.filterMap Sl.ad (.own a s :: Γ) = a :: List.filterMap Sl.ad Γ from rfl]
    cases e : x.ad with
    | none =>
      rw [List.filterMap_cons_none e] at nd na ⊢
      exact ⟨List.nodup_cons.mpr ⟨na, nd⟩, fun b hb => (List.mem_cons.mp hb).imp id id⟩
    | some c =>
      rw [List.filterMap_cons_some e] at nd na ⊢
      have h1 := List.nodup_cons.mp nd
      exact ⟨List.nodup_cons.mpr ⟨fun z => na (List.mem_cons_of_mem _ z), h1.2⟩, fun b hb => (List.mem_cons.mp hb).imp id fun z => List.mem_cons_of_mem _ z⟩
  | x :: Γ, i + 1, nd, na => by
    unfold ows at nd na
    rw [List.set_cons_succ]
    unfold ows
    cases e : x.ad with
    | none =>
      rw [List.filterMap_cons_none e] at nd na ⊢
      rw [List.filterMap_cons_none e]
      exact ows_set_own (Γ := Γ) (i := i) nd na
    | some c =>
      rw [List.filterMap_cons_some e] at nd na ⊢
      rw [List.filterMap_cons_some e]
      have h1 := List.nodup_cons.mp nd
      have hca : c ≠ a := fun z => na (z ▸ List.mem_cons_self)
      obtain ⟨g1, g2⟩ := ows_set_own (Γ := Γ) (i := i) (a := a) (s := s) h1.2 fun z => na (List.mem_cons_of_mem _ z)
      unfold ows at g1 g2
      refine ⟨List.nodup_cons.mpr ⟨fun z => ?_, g1⟩, fun b hb => ?_⟩
      · rcases g2 c z with q | q
        · exact hca q
        · exact h1.1 q
      · rcases List.mem_cons.mp hb with q | q
        · exact .inr (q ▸ List.mem_cons_self)
        · exact (g2 b q).imp id fun z => List.mem_cons_of_mem _ z
theorem ows_set_same {a : Addr} {s s' : Sh} : ∀ {Γ : List Sl} {i : Nat}, Γ[i]? = some (.own a s) → ows (Γ.set i (.own a s')) = ows Γ
  | x :: Γ, 0, h => by
    cases h
    rfl
  | x :: Γ, i + 1, h => by
    have ih := ows_set_same (s' := s') (Γ := Γ) (i := i) h
    unfold ows at ih ⊢
    rw [List.set_cons_succ]
    cases e : x.ad with
    | none => rw [List.filterMap_cons_none e, List.filterMap_cons_none e]; exact ih
    | some c => rw [List.filterMap_cons_some e, List.filterMap_cons_some e, ih]
theorem SlOk.mono {X X' : Addr → Prop} {H' : Hp} {s : Sl} {o : Option (Option V)} (m : Same (hidP X H) (hidP X' H')) (g : ∀ a x, s = .own a x → H' a = H a) (h : SlOk F X H s o) : SlOk F X' H' s o := by
  cases s with
  | any => exact h
  | ty t => obtain ⟨v, e, q⟩ := h; exact ⟨v, e, t.mono m q⟩
  | own a x => obtain ⟨e, u, h1, h2⟩ := h; exact ⟨e, u, (g a x rfl).trans h1, Sh.mono m h2⟩
  | pool => exact h
theorem get_set {α : Type} {xs : List α} {i j : Nat} {x y : α} (h : (xs.set i x)[j]? = some y) : (i = j ∧ y = x ∧ i < xs.length) ∨ (i ≠ j ∧ xs[j]? = some y) := by
  by_cases e : i = j
  · subst e
    have hi : i < xs.length := by
      have := (List.getElem?_eq_some_iff.mp h).1
      rwa [List.length_set] at this
    rw [List.getElem?_set_self hi] at h
    cases h
    exact .inl ⟨rfl, rfl, hi⟩
  · rw [List.getElem?_set_ne e] at h
    exact .inr ⟨e, h⟩
/-- a slot is set to what stays -/
theorem Ok.put (k : Ok F Γ f σ H) {i : Nat} {v : V} {t : Ty} (hv : t.is v (hidP (HS F Γ) H)) : Ok F (Γ.set i (.ty t)) f (σ.set i (some v)) H := by
  have sb : (ows (Γ.set i (.ty t))).Sublist (ows Γ) := ows_set_sub rfl
  have m : Same (hidP (HS F Γ) H) (hidP (HS F (Γ.set i (.ty t))) H) := hidP_mono fun a o e n => ⟨e, fun z => n (z.imp id fun y => sb.subset y)⟩
  refine ⟨by rw [List.length_set, List.length_set]; exact k.len, fun j s h => ?_, k.base, k.out, fun a h z => k.dj a h (sb.subset z), sb.nodup k.nd, fun a h => k.fresh a (sb.subset h), k.po, fun x hx => x.2.mono m (k.tmp x hx)⟩
  rcases get_set h with ⟨rfl, rfl, hi⟩ | ⟨ne, h⟩
  · exact ⟨v, List.getElem?_set_self (by rw [k.len]; exact hi), t.mono m hv⟩
  · rw [List.getElem?_set_ne ne]
    exact (k.sl j s h).mono m fun _ _ _ => rfl
theorem Ok.wipe1 (k : Ok F Γ f σ H) {i : Nat} : Ok F (Γ.set i .any) f (σ.set i none) H := by
  have sb : (ows (Γ.set i .any)).Sublist (ows Γ) := ows_set_sub rfl
  have m : Same (hidP (HS F Γ) H) (hidP (HS F (Γ.set i .any)) H) := hidP_mono fun a o e n => ⟨e, fun z => n (z.imp id fun y => sb.subset y)⟩
  refine ⟨by rw [List.length_set, List.length_set]; exact k.len, fun j s h => ?_, k.base, k.out, fun a h z => k.dj a h (sb.subset z), sb.nodup k.nd, fun a h => k.fresh a (sb.subset h), k.po, fun x hx => x.2.mono m (k.tmp x hx)⟩
  rcases get_set h with ⟨rfl, rfl, hi⟩ | ⟨ne, h⟩
  · exact ⟨none, List.getElem?_set_self (by rw [k.len]; exact hi)⟩
  · rw [List.getElem?_set_ne ne]
    exact (k.sl j s h).mono m fun _ _ _ => rfl
/-- a slot is forgotten -/
theorem Ok.drop (k : Ok F Γ f σ H) {i : Nat} : Ok F (Γ.set i .any) f σ H := by
  have sb : (ows (Γ.set i .any)).Sublist (ows Γ) := ows_set_sub rfl
  have m : Same (hidP (HS F Γ) H) (hidP (HS F (Γ.set i .any)) H) := hidP_mono fun a o e n => ⟨e, fun z => n (z.imp id fun y => sb.subset y)⟩
  refine ⟨by rw [List.length_set]; exact k.len, fun j s h => ?_, k.base, k.out, fun a h z => k.dj a h (sb.subset z), sb.nodup k.nd, fun a h => k.fresh a (sb.subset h), k.po, fun x hx => x.2.mono m (k.tmp x hx)⟩
  rcases get_set h with ⟨rfl, rfl, hi⟩ | ⟨ne, h⟩
  · exact ⟨_, List.getElem?_eq_getElem (by rw [k.len]; exact hi)⟩
  · exact (k.sl j s h).mono m fun _ _ _ => rfl
def wipeΓ (Γ : List Sl) : List Nat → List Sl
  | [] => Γ
  | v :: vs => (wipeΓ Γ vs).set v .any
theorem Ok.wipe (k : Ok F Γ f σ H) : ∀ vs : List Nat, Ok F (wipeΓ Γ vs) f (L2.wipe σ vs) H
  | [] => k
  | v :: vs => (Ok.wipe k vs).wipe1
theorem wipe_ows : ∀ {Γ : List Sl} (vs : List Nat), (ows (wipeΓ Γ vs)).Sublist (ows Γ)
  | _, [] => List.Sublist.refl _
  | Γ, v :: vs => (ows_set_sub (Γ := wipeΓ Γ vs) rfl).trans (wipe_ows vs)
/-- what is new is kept in a slot, to be changed -/
theorem Ok.keepNew {H1 : Hp} {f' : Nat} (k : Ok F Γ f σ H) (k1 : Ok F Γ f' σ H1) (st : Step F H H1) {i : Nat} {a : Addr} {s : Sh} {u : HO} (h0 : H a = none) (h1 : H1 a = some u) (g : s.is u (hidP (fun b => HS F Γ b ∨ b = a) H1)) (hi : i < Γ.length) :
    Ok F (Γ.set i (.own a s)) f' (σ.set i (some (.ref a))) H1 := by
  have na : ¬ HS F Γ a := fun z => k.live z h0
  obtain ⟨n1, n2⟩ := ows_set_own (i := i) (s := s) k.nd fun z => na (.inr z)
  have hB : F.B a = none := by
    cases e : F.B a with
    | none => rfl
    | some o =>
      by_cases q : F.p = some a
      · exact absurd (.inl (k.po a q).1) na
      · rw [k.base a o e q] at h0
        cases h0
  -- all that was told is told of what stood ahead
  have m : Same (hidP (HS F Γ) H) (hidP (HS F (Γ.set i (.own a s))) H1) := hidP_mono fun b o e n => by
    have hb : b ≠ a := fun z => by rw [z, h0] at e; cases e
    refine ⟨st b o e fun z => n (.inl (k.po b z).1), fun z => ?_⟩
    rcases z with z | z
    · exact n (.inl z)
    · rcases n2 b z with q | q
      · exact hb q
      · exact n (.inr q)
  have m2 : Same (hidP (fun b => HS F Γ b ∨ b = a) H1) (hidP (HS F (Γ.set i (.own a s))) H1) := hidP_mono fun b o e n => ⟨e, fun z => by
    rcases z with z | z
    · exact n (.inl (.inl z))
    · rcases n2 b z with q | q
      · exact n (.inr q)
      · exact n (.inl (.inr q))⟩
  refine ⟨by rw [List.length_set, List.length_set]; exact k.len, fun j x h => ?_, k1.base, k1.out, fun b hb z => ?_, n1, fun b hb => ?_, k1.po, fun x hx => x.2.mono m (k.tmp x hx)⟩
  · rcases get_set h with ⟨rfl, rfl, hi⟩ | ⟨ne, h⟩
    · exact ⟨List.getElem?_set_self (by rw [k.len]; exact hi), u, h1, Sh.mono m2 g⟩
    · rw [List.getElem?_set_ne ne]
      have q := k.sl j x h
      have q1 := k1.sl j x h
      cases x with
      | any => exact q1
      | ty t => obtain ⟨v, e, z⟩ := q; exact ⟨v, e, t.mono m z⟩
      | own b y =>
        obtain ⟨e, w, z1, z2⟩ := q
        exact ⟨e, w, st b w z1 fun z => by
          exact k.dj b (k.po b z).1 (List.mem_filterMap.mpr ⟨_, List.mem_of_getElem? h, rfl⟩), Sh.mono m z2⟩
      | pool => exact q1
  · rcases n2 b z with q | q
    · exact na (.inl (q ▸ hb))
    · exact k.dj b hb q
  · rcases n2 b hb with q | q
    · rw [q]; exact hB
    · exact k.fresh b q
/-- what is held is changed -/
theorem Ok.change (k : Ok F Γ f σ H) {i : Nat} {a : Addr} {s s' : Sh} {u : HO} (h : Γ[i]? = some (.own a s)) (g : s'.is u (hidP (HS F Γ) H)) : Ok F (Γ.set i (.own a s')) f σ (upd H a u) := by
  have eo : ows (Γ.set i (.own a s')) = ows Γ := ows_set_same h
  have hm : a ∈ ows Γ := List.mem_filterMap.mpr ⟨_, List.mem_of_getElem? h, rfl⟩
  have eH : HS F (Γ.set i (.own a s')) = HS F Γ := by unfold HS; rw [eo]
  have m : Same (hidP (HS F Γ) H) (hidP (HS F Γ) (upd H a u)) := hidP_mono fun b o e n => ⟨by
    rw [upd_ne (fun z : b = a => n (.inr (by rw [z]; exact hm)))]
    exact e, n⟩
  have hB := k.fresh a hm
  refine ⟨by rw [List.length_set]; exact k.len, fun j x hx => ?_, fun b o e n => ?_, fun b hb => ?_, by rw [eo]; exact k.dj, by rw [eo]; exact k.nd, by rw [eo]; exact k.fresh, fun p hp => ?_, fun x hx => ?_⟩
  · rw [eH]
    rcases get_set hx with ⟨rfl, rfl, hi⟩ | ⟨ne, hx⟩
    · exact ⟨(k.sl _ _ h).1, u, upd_same, Sh.mono m g⟩
    · have hx0 := hx
      refine (k.sl j x hx).mono m fun b y e => ?_
      subst e
      refine upd_ne fun z => ?_
      subst z
      -- two slots of one address
      have nd := k.nd
      unfold ows at nd
      have : ∀ {Γ : List Sl} {i j : Nat} {s y : Sh}, i ≠ j → Γ[i]? = some (.own b s) → Γ[j]? = some (.own b y) → ¬ (Γ.filterMap Sl.ad).Nodup := by
        intro Γ
        induction Γ with
        | nil => intro i j s y _ h1 _ _; simp at h1
        | cons z Γ ih =>
          intro i j s y ne h1 h2 nd
          cases i with
          | zero =>
            cases j with
            | zero => exact ne rfl
            | succ j =>
              cases h1
              replace nd : (b :: List.filterMap Sl.ad Γ).Nodup := nd
              exact (List.nodup_cons.mp nd).1 (List.mem_filterMap.mpr ⟨_, List.mem_of_getElem? (show Γ[j]? = some (.own b y) from h2), rfl⟩)
          | succ i =>
            cases j with
            | zero =>
              cases h2
              replace nd : (b :: List.filterMap Sl.ad Γ).Nodup := nd
              exact (List.nodup_cons.mp nd).1 (List.mem_filterMap.mpr ⟨_, List.mem_of_getElem? (show Γ[i]? = some (.own b s) from h1), rfl⟩)
            | succ j =>
              refine ih (i := i) (j := j) (s := s) (y := y) (fun e => ne (by rw [e])) h1 h2 ?_
              cases e : z.ad with
              | none => rw [List.filterMap_cons_none e] at nd; exact nd
              | some c => rw [List.filterMap_cons_some e] at nd; exact (List.nodup_cons.mp nd).2
      exact this ne h hx0 nd
  · rw [upd_ne (fun z => by rw [z, hB] at e; cases e)]
    exact k.base b o e n
  · obtain ⟨o, e, fx⟩ := k.out b hb
    exact ⟨o, by rw [upd_ne (fun z : b = a => k.dj b hb (by rw [z]; exact hm))]; exact e, fx⟩
  · obtain ⟨h1, h2⟩ := k.po p hp
    refine ⟨h1, ?_⟩
    obtain ⟨o, e, po⟩ := h2
    exact ⟨o, by rw [upd_ne (fun z : p = a => k.dj p h1 (by rw [z]; exact hm))]; exact e, po⟩
  · rw [eH]
    exact x.2.mono m (k.tmp x hx)
/-- what was held is held no more -/
theorem Ok.freeze (k : Ok F Γ f σ H) {i : Nat} {a : Addr} {s : Sh} (h : Γ[i]? = some (.own a s)) : Ok F (Γ.set i (.ty (s.ty K))) f σ H := by
  obtain ⟨e, u, h1, h2⟩ := k.sl i _ h
  have hm : a ∈ ows Γ := List.mem_filterMap.mpr ⟨_, List.mem_of_getElem? h, rfl⟩
  have sb : (ows (Γ.set i (.ty (s.ty K)))).Sublist (ows Γ) := ows_set_sub rfl
  have na : ¬ HS F (Γ.set i (.ty (s.ty K))) a := fun z => by
    rcases z with z | z
    · exact k.dj a z hm
    · have : ∀ {Γ : List Sl} {i : Nat} {s : Sh} {t : Ty}, Γ[i]? = some (.own a s) → (ows Γ).Nodup → a ∉ ows (Γ.set i (.ty t)) := by
        intro Γ
        induction Γ with
        | nil => intro i s t h1 _ _; simp at h1
        | cons z Γ ih =>
          intro i s t h1 nd hm
          unfold ows at nd hm
          cases i with
          | zero =>
            cases h1
            replace nd : (a :: List.filterMap Sl.ad Γ).Nodup := nd
            exact (List.nodup_cons.mp nd).1 hm
          | succ i =>
            rw [List.set_cons_succ] at hm
            cases e : z.ad with
            | none =>
              rw [List.filterMap_cons_none e] at nd hm
              exact ih (i := i) h1 nd hm
            | some c =>
              rw [List.filterMap_cons_some e] at nd hm
              have nd' := List.nodup_cons.mp nd
              rcases List.mem_cons.mp hm with q | q
              · subst q
                exact nd'.1 (List.mem_filterMap.mpr ⟨_, List.mem_of_getElem? (show Γ[i]? = some (.own a s) from h1), rfl⟩)
              · exact ih (i := i) h1 nd'.2 q
      exact this h k.nd z
  have m : Same (hidP (HS F Γ) H) (hidP (HS F (Γ.set i (.ty (s.ty K)))) H) := hidP_mono fun b o e n => ⟨e, fun z => n (z.imp id fun y => sb.subset y)⟩
  have m2 : Same (hidP (HS F Γ) H) (hidP (fun b => HS F (Γ.set i (.ty (s.ty K))) b ∨ b = a) H) := hidP_mono fun b o e n => ⟨e, fun z => n (by
    rcases z with z | z
    · exact z.imp id fun y => sb.subset y
    · exact .inr (z ▸ hm))⟩
  refine ⟨by rw [List.length_set]; exact k.len, fun j x hx => ?_, k.base, k.out, fun a h z => k.dj a h (sb.subset z), sb.nodup k.nd, fun b hb => k.fresh b (sb.subset hb), k.po, fun x hx => x.2.mono m (k.tmp x hx)⟩
  rcases get_set hx with ⟨rfl, rfl, hi⟩ | ⟨ne, hx⟩
  · exact ⟨_, e, sh_ty h1 na (Sh.mono m2 h2)⟩
  · exact (k.sl j x hx).mono m fun _ _ _ => rfl
end

/-! Rules over what stands in slots: expressions, statements. -/
def WR (K : PySem.W.Frag) (F : Fr) (Γ : List Sl) (f : Nat) (r : R2) (t1 t2 : Ty) (κ : Nat → Rs → Prop) : Prop := ∀ (x y : V) (σ : L2.St) (H : Hp) (Q : VK), Ok F Γ f σ H → t1.is x (hidP (HS F Γ) H) → t2.is y (hidP (HS F Γ) H) → (∀ f' r v H', κ f' r → Ok F Γ f' σ H' → Step F H H' → r.is (HS F Γ) H v H' → Q v H') → r x y H Q
def WU (K : PySem.W.Frag) (F : Fr) (Γ : List Sl) (f : Nat) (r : V → Hp → VK → Prop) (t1 : Ty) (κ : Nat → Rs → Prop) : Prop := ∀ (x : V) (σ : L2.St) (H : Hp) (Q : VK), Ok F Γ f σ H → t1.is x (hidP (HS F Γ) H) → (∀ f' r v H', κ f' r → Ok F Γ f' σ H' → Step F H H' → r.is (HS F Γ) H v H' → Q v H') → r x H Q
def WC (K : PySem.W.Frag) (F : Fr) (Γ : List Sl) (f : Nat) (r : List V → Hp → VK → Prop) (ts : List Ty) (κ : Nat → Rs → Prop) : Prop := ∀ (xs : List V) (σ : L2.St) (H : Hp) (Q : VK), Ok F Γ f σ H → TyAll ts xs (hidP (HS F Γ) H) → (∀ f' r v H', κ f' r → Ok F Γ f' σ H' → Step F H H' → r.is (HS F Γ) H v H' → Q v H') → r xs H Q
def WB (K : PySem.W.Frag) (r : Rs) (κ : Bool → Prop) : Prop := ∃ b, Sub (r.t K) (tD K (.bool b)) ∧ κ b
def IsDat (K : PySem.W.Frag) (t : Ty) (d : PyData) : Prop := Sub t (tD K d)
def IsDats (K : PySem.W.Frag) (ts : List Ty) (ds : List PyData) : Prop := ∀ {vs : List V} {H : Hp}, TyAll ts vs H → DpAll K H vs ds
def IsLst (K : PySem.W.Frag) (t : Ty) (ts : List Ty) : Prop := Sub t (tL K ts)
def IsTup (K : PySem.W.Frag) (t : Ty) (ts : List Ty) : Prop := Sub t (tTp K ts)
section
variable {F : Fr} {Γ : List Sl} {f : Nat} {σ : L2.St} {H : Hp} {K : PySem.W.Frag} {κ : Nat → Rs → Prop} {te ta tb : TE} {tA : TA} {D : Ends} {t u : Ty} {ts us : List Ty} {d : PyData} {ds : List PyData}
theorem isDat_D : IsDat K (tD K d) d := fun h => h
theorem isDats_nil : IsDats K [] [] := fun {vs H} h => by
  cases vs with
  | nil => exact .nil
  | cons _ _ => exact h.elim
theorem isDats_cons (a : IsDat K t d) (b : IsDats K ts ds) : IsDats K (t :: ts) (d :: ds) := fun {vs H} h => by
  cases vs with
  | nil => exact h.elim
  | cons _ _ => exact .cons (a h.1) (b h.2)
theorem isDats_map : IsDats K (ds.map (tD K)) ds := fun h => tyAll_data.mp h
theorem isDat_L (h : IsDats K ts ds) : IsDat K (tL K ts) (.list ds) := fun ⟨a, vs, e, q, g⟩ => by
  subst e
  exact .lst q (h g)
theorem isDat_T (h : IsDats K ts ds) : IsDat K (tTp K ts) (.tuple ds) := fun ⟨a, vs, e, q, g⟩ => by
  subst e
  exact .tup q (h g)
theorem isLst_L : IsLst K (tL K ts) ts := fun h => h
theorem isLst_D : IsLst K (tD K (.list ds)) (ds.map (tD K)) := fun h => by
  obtain ⟨a, xs, e, q, g⟩ := dp_list h
  exact ⟨a, xs, e, q, tyAll_data.mpr g⟩
theorem isTup_T : IsTup K (tTp K ts) ts := fun h => h
theorem isTup_D : IsTup K (tD K (.tuple ds)) (ds.map (tD K)) := fun h => by
  obtain ⟨a, xs, e, q, g⟩ := dp_tuple h
  exact ⟨a, xs, e, q, tyAll_data.mpr g⟩
/-! ### results -/
theorem Ok.back {f1 : Nat} {H1 : Hp} {a : Addr} (k : Ok F Γ f σ H) (k1 : Ok F Γ f1 σ H1) (s : Step F H H1) (h0 : H1 a = none) : H a = none := by
  cases e : H a with
  | none => rfl
  | some o =>
    by_cases q : F.p = some a
    · exact absurd h0 (k1.live (.inl (k1.po a q).1))
    · rw [s a o e q] at h0
      cases h0
theorem Rs.back {v : V} {r : Rs} {f1 : Nat} {H1 H2 : Hp} (k : Ok F Γ f σ H) (k1 : Ok F Γ f1 σ H1) (s : Step F H H1) (h : r.is (HS F Γ) H1 v H2) : r.is (HS F Γ) H v H2 := by
  cases r with
  | ty t => exact h
  | new x =>
    obtain ⟨a, u, rfl, h0, h1, g⟩ := h
    exact ⟨a, u, rfl, k.back k1 s h0, h1, g⟩
/-! ### expressions -/
theorem w_mono {κ' : Nat → Rs → Prop} (h : W K F Γ f te κ) (m : ∀ f r, κ f r → κ' f r) : W K F Γ f te κ' := fun σ H Q k c => h σ H Q k fun f' r v H' q => c f' r v H' (m _ _ q)
theorem w_var {i : Nat} (h : ∃ t, Γ[i]? = some (.ty t) ∧ κ f (.ty t)) : W K F Γ f (tVar i) κ := fun σ H Q k c => by
  obtain ⟨t, h, q⟩ := h
  obtain ⟨v, e, ht⟩ := k.sl i _ h
  exact ⟨v, e, c f _ v H q k Step.refl ht⟩
theorem w_int {z : Int} (q : κ f (.ty (tD K (.int z)))) : W K F Γ f (tC (.int z)) κ := fun σ H Q k c => c f _ _ H q k Step.refl (.int z)
theorem w_str {z : Str} (q : κ f (.ty (tD K (.str z)))) : W K F Γ f (tC (.str z)) κ := fun σ H Q k c => c f _ _ H q k Step.refl (.str z)
theorem w_bl {z : Bool} (q : κ f (.ty (tD K (.bool z)))) : W K F Γ f (tC (.bl z)) κ := fun σ H Q k c => c f _ _ H q k Step.refl (.bl z)
theorem w_non (q : κ f (.ty (tD K .none))) : W K F Γ f (tC .non) κ := fun σ H Q k c => c f _ _ H q k Step.refl .non
theorem w_op {r : R2} (h : W K F Γ f ta fun f1 r1 => W K F Γ f1 tb fun f2 r2 => WR K F Γ f2 r (r1.t K) (r2.t K) κ) : W K F Γ f (tOp r ta tb) κ := fun σ H Q k c =>
  h σ H _ k fun f1 r1 x H1 h1 k1 s1 g1 => h1 σ H1 _ k1 fun f2 r2 y H2 h2 k2 s2 g2 =>
    h2 x y σ H2 Q k2 ((r1.t K).mono (s2.hid k1) (Rs.is_ty k g1)) (Rs.is_ty k1 g2) fun f3 r3 v H3 h3 k3 s3 g3 => c f3 r3 v H3 h3 k3 ((s1.trans s2).trans s3) (Rs.back k k2 (s1.trans s2) g3)
theorem w_un {r : V → Hp → VK → Prop} (h : W K F Γ f ta fun f1 r1 => WU K F Γ f1 r (r1.t K) κ) : W K F Γ f (tUn r ta) κ := fun σ H Q k c =>
  h σ H _ k fun f1 r1 x H1 h1 k1 s1 g1 => h1 x σ H1 Q k1 (Rs.is_ty k g1) fun f3 r3 v H3 h3 k3 s3 g3 => c f3 r3 v H3 h3 k3 (s1.trans s3) (Rs.back k k1 s1 g3)
theorem w_cb {r : List V → Hp → VK → Prop} (h : WA K F Γ f tA fun f1 ts => WC K F Γ f1 r ts κ) : W K F Γ f (tCB r tA) κ := fun σ H Q k c =>
  h σ H _ k fun f1 ts xs H1 h1 k1 s1 g1 => h1 xs σ H1 Q k1 g1 fun f3 r3 v H3 h3 k3 s3 g3 => c f3 r3 v H3 h3 k3 (s1.trans s3) (Rs.back k k1 s1 g3)
theorem wa_nil {κ : Nat → List Ty → Prop} (q : κ f []) : WA K F Γ f tNil κ := fun σ H Q k c => c f [] [] H q k Step.refl trivial
theorem wa_cons {κ : Nat → List Ty → Prop} (h : W K F Γ f te fun f1 r1 => WA K F Γ f1 tA fun f2 ts => κ f2 (r1.t K :: ts)) : WA K F Γ f (tCons te tA) κ := fun σ H Q k c =>
  h σ H _ k fun f1 r1 x H1 h1 k1 s1 g1 => h1 σ H1 _ k1 fun f2 ts xs H2 h2 k2 s2 g2 => c f2 _ _ H2 h2 k2 (s1.trans s2) ⟨(r1.t K).mono (s2.hid k1) (Rs.is_ty k g1), g2⟩
theorem w_if {c : TT} (h : WT K F Γ f c fun f1 b => (b = true → W K F Γ f1 ta κ) ∧ (b = false → W K F Γ f1 tb κ)) : W K F Γ f (tIf c ta tb) κ := fun σ H Q k e =>
  h σ H _ k fun f1 b H1 h1 k1 s1 => by
    cases b with
    | true => exact h1.1 rfl σ H1 Q k1 fun f2 r v H2 q k2 s2 g => e f2 r v H2 q k2 (s1.trans s2) (Rs.back k k1 s1 g)
    | false => exact h1.2 rfl σ H1 Q k1 fun f2 r v H2 q k2 s2 g => e f2 r v H2 q k2 (s1.trans s2) (Rs.back k k1 s1 g)
theorem wt_test {κ : Nat → Bool → Prop} (h : W K F Γ f te fun f1 r => WB K r (κ f1)) : WT K F Γ f (tTest te) κ := fun σ H Q k c =>
  h σ H _ k fun f1 r x H1 h1 k1 s1 g1 => by
    obtain ⟨b, hb, q⟩ := h1
    have e := hb (Rs.is_ty k g1)
    cases e
    exact ⟨b, rfl, c f1 b H1 q k1 s1⟩
theorem wt_B {κ : Nat → Bool → Prop} (h : W K F Γ f te fun f1 r => WB K r (κ f1)) : WT K F Γ f (tB te) κ := wt_test h
theorem wb_D {b : Bool} {κ : Bool → Prop} (q : κ b) : WB K (.ty (tD K (.bool b))) κ := ⟨b, fun h => h, q⟩
theorem wt_yes {κ : Nat → Bool → Prop} (q : κ f true) : WT K F Γ f tYes κ := fun σ H Q k c => c f true H q k Step.refl
theorem wt_and {κ : Nat → Bool → Prop} {c e : TT} (h : WT K F Γ f c fun f1 b => (b = true → WT K F Γ f1 e κ) ∧ (b = false → κ f1 false)) : WT K F Γ f (tAnd c e) κ := fun σ H Q k z =>
  h σ H _ k fun f1 b H1 h1 k1 s1 => by
    cases b with
    | true => exact h1.1 rfl σ H1 Q k1 fun f2 b2 H2 q k2 s2 => z f2 b2 H2 q k2 (s1.trans s2)
    | false => exact z f1 false H1 (h1.2 rfl) k1 s1
theorem wt_or {κ : Nat → Bool → Prop} {c e : TT} (h : WT K F Γ f c fun f1 b => (b = true → κ f1 true) ∧ (b = false → WT K F Γ f1 e κ)) : WT K F Γ f (tOr c e) κ := fun σ H Q k z =>
  h σ H _ k fun f1 b H1 h1 k1 s1 => by
    cases b with
    | true => exact z f1 true H1 (h1.1 rfl) k1 s1
    | false => exact h1.2 rfl σ H1 Q k1 fun f2 b2 H2 q k2 s2 => z f2 b2 H2 q k2 (s1.trans s2)
theorem wt_not {κ : Nat → Bool → Prop} {c : TT} (h : WT K F Γ f c fun f1 b => κ f1 (!b)) : WT K F Γ f (tNot c) κ := fun σ H Q k z =>
  h σ H _ k fun f1 b H1 h1 k1 s1 => z f1 _ H1 h1 k1 s1
theorem w_andV (h : W K F Γ f ta fun f1 r => WB K r fun b => (b = true → W K F Γ f1 tb κ) ∧ (b = false → κ f1 (.ty (tD K (.bool false))))) : W K F Γ f (tAndV ta tb) κ := fun σ H Q k c =>
  h σ H _ k fun f1 r x H1 h1 k1 s1 g1 => by
    obtain ⟨b, hb, q⟩ := h1
    have e := hb (Rs.is_ty k g1)
    cases e
    cases b with
    | true => exact ⟨true, rfl, q.1 rfl σ H1 Q k1 fun f2 r v H2 q k2 s2 g => c f2 r v H2 q k2 (s1.trans s2) (Rs.back k k1 s1 g)⟩
    | false => exact ⟨false, rfl, c f1 _ _ H1 (q.2 rfl) k1 s1 (.bl false)⟩
theorem w_orV (h : W K F Γ f ta fun f1 r => WB K r fun b => (b = true → κ f1 (.ty (tD K (.bool true)))) ∧ (b = false → W K F Γ f1 tb κ)) : W K F Γ f (tOrV ta tb) κ := fun σ H Q k c =>
  h σ H _ k fun f1 r x H1 h1 k1 s1 g1 => by
    obtain ⟨b, hb, q⟩ := h1
    have e := hb (Rs.is_ty k g1)
    cases e
    cases b with
    | true => exact ⟨true, rfl, c f1 _ _ H1 (q.1 rfl) k1 s1 (.bl true)⟩
    | false => exact ⟨false, rfl, q.2 rfl σ H1 Q k1 fun f2 r v H2 q k2 s2 g => c f2 r v H2 q k2 (s1.trans s2) (Rs.back k k1 s1 g)⟩
theorem w_notV (h : W K F Γ f ta fun f1 r => WB K r fun b => κ f1 (.ty (tD K (.bool (!b))))) : W K F Γ f (tNotV ta) κ := fun σ H Q k c =>
  h σ H _ k fun f1 r x H1 h1 k1 s1 g1 => by
    obtain ⟨b, hb, q⟩ := h1
    have e := hb (Rs.is_ty k g1)
    cases e
    exact ⟨b, rfl, c f1 _ _ H1 q k1 s1 (.bl _)⟩
theorem not_in (k : Ok F Γ f σ H) {a : Addr} (h : H a = none) : ¬ HS F Γ a := fun z => k.live z h
theorem Ok.grow (k : Ok F Γ f σ H) {H' : Hp} (s : Same H H') : Ok F Γ f σ H' := by
  have m : Same (hidP (HS F Γ) H) (hidP (HS F Γ) H') := hidP_mono fun a o e n => ⟨s _ _ e, n⟩
  refine ⟨k.len, fun i x h => ?_, fun a o e n => s _ _ (k.base a o e n), fun a h => (let ⟨o, e, fx⟩ := k.out a h; ⟨o, s _ _ e, fx⟩), k.dj, k.nd, k.fresh, fun p hp => ⟨(k.po p hp).1, ?_⟩, fun x hx => x.2.mono m (k.tmp x hx)⟩
  · have q := k.sl i x h
    cases x with
    | any => exact q
    | ty t => obtain ⟨v, e, z⟩ := q; exact ⟨v, e, t.mono m z⟩
    | own a y => obtain ⟨e, u, z1, z2⟩ := q; exact ⟨e, u, s _ _ z1, Sh.mono m z2⟩
    | pool => exact q
  · exact (k.po p hp).2.same s
theorem new_is (k : Ok F Γ f σ H) {a : Addr} {u : HO} {s : Sh} (h : H a = none) (g : s.is u (hidP (HS F Γ) H)) : Rs.is (HS F Γ) H (.new s) (.ref a) (upd H a u) :=
  ⟨a, u, rfl, h, upd_same, Sh.mono (hidP_mono fun b o e n => ⟨upd_old h e, fun z => by
    rcases z with z | z
    · exact n z
    · rw [z, h] at e; cases e⟩) g⟩
theorem w_lst (h : WA K F Γ f tA fun f1 ts => ts.length ≤ 1000 ∧ κ f1 (.new (.lst ts))) : W K F Γ f (tLst tA) κ := fun σ H Q k c =>
  h σ H _ k fun f1 ts xs H1 h1 k1 s1 g1 => ⟨Nat.le_trans (g1.len ▸ h1.1) (by decide), fun p np => c f1 _ _ _ h1.2 (k1.grow (same_new np)) (s1.trans (Step.of (same_new np))) (Rs.back k k1 s1 (new_is k1 np g1))⟩
theorem w_tup (h : WA K F Γ f tA fun f1 ts => ts.length ≤ 1000 ∧ κ f1 (.ty (tTp K ts))) : W K F Γ f (tTup tA) κ := fun σ H Q k c =>
  h σ H _ k fun f1 ts xs H1 h1 k1 s1 g1 => ⟨Nat.le_trans (g1.len ▸ h1.1) (by decide), fun p np => c f1 _ _ _ h1.2 (k1.grow (same_new np)) (s1.trans (Step.of (same_new np))) ⟨p, xs, rfl, st_of (hidP_at upd_same (not_in k1 np)), g1.mono (hidP_mono fun b o e n => ⟨upd_old np e, n⟩)⟩⟩
/-! ### small operations -/
theorem dint {X : Hp} {v : V} {i : Int} (h : (tD K (.int i)).is v X) : v = .int i := dp_int h
theorem wr_add {i j : Int} (q : κ f (.ty (tD K (.int (i + j))))) : WR K F Γ f rAddI (tD K (.int i)) (tD K (.int j)) κ := fun x y σ H Q k g1 g2 c => by
  rw [dint g1, dint g2]
  exact ⟨i, j, rfl, rfl, c f _ _ H q k Step.refl (.int _)⟩
theorem wr_sub {i j : Int} (q : κ f (.ty (tD K (.int (i - j))))) : WR K F Γ f rSubI (tD K (.int i)) (tD K (.int j)) κ := fun x y σ H Q k g1 g2 c => by
  rw [dint g1, dint g2]
  exact ⟨i, j, rfl, rfl, c f _ _ H q k Step.refl (.int _)⟩
theorem wr_mul {i j : Int} (h : CMulX i j) (q : κ f (.ty (tD K (.int (i * j))))) : WR K F Γ f rMulX (tD K (.int i)) (tD K (.int j)) κ := fun x y σ H Q k g1 g2 c => by
  rw [dint g1, dint g2]
  exact ⟨i, j, rfl, rfl, h, c f _ _ H q k Step.refl (.int _)⟩
theorem wr_mod {i j : Int} (h : 0 < j) (q : κ f (.ty (tD K (.int (i % j))))) : WR K F Γ f rModI (tD K (.int i)) (tD K (.int j)) κ := fun x y σ H Q k g1 g2 c => by
  rw [dint g1, dint g2]
  exact ⟨i, j, rfl, rfl, h, c f _ _ H q k Step.refl (.int _)⟩
theorem wr_div {i j : Int} (h : CDivW i j) (q : κ f (.ty (tD K (.int (i / j))))) : WR K F Γ f rDivW (tD K (.int i)) (tD K (.int j)) κ := fun x y σ H Q k g1 g2 c => by
  rw [dint g1, dint g2]
  exact ⟨i, j, rfl, rfl, h, c f _ _ H q k Step.refl (.int _)⟩
theorem wr_lt {i j : Int} (q : κ f (.ty (tD K (.bool (decide (i < j)))))) : WR K F Γ f rLtI (tD K (.int i)) (tD K (.int j)) κ := fun x y σ H Q k g1 g2 c => by
  rw [dint g1, dint g2]
  exact ⟨i, j, rfl, rfl, c f _ _ H q k Step.refl (.bl _)⟩
theorem wr_gt {i j : Int} (q : κ f (.ty (tD K (.bool (decide (j < i)))))) : WR K F Γ f rGtI (tD K (.int i)) (tD K (.int j)) κ := fun x y σ H Q k g1 g2 c => by
  rw [dint g1, dint g2]
  exact ⟨i, j, rfl, rfl, c f _ _ H q k Step.refl (.bl _)⟩
theorem wr_le {i j : Int} (q : κ f (.ty (tD K (.bool (decide (i ≤ j)))))) : WR K F Γ f rLeI (tD K (.int i)) (tD K (.int j)) κ := fun x y σ H Q k g1 g2 c => by
  rw [dint g1, dint g2]
  exact ⟨i, j, rfl, rfl, c f _ _ H q k Step.refl (.bl _)⟩
theorem wr_ge {i j : Int} (q : κ f (.ty (tD K (.bool (decide (j ≤ i)))))) : WR K F Γ f rGeI (tD K (.int i)) (tD K (.int j)) κ := fun x y σ H Q k g1 g2 c => by
  rw [dint g1, dint g2]
  exact ⟨i, j, rfl, rfl, c f _ _ H q k Step.refl (.bl _)⟩
theorem wu_neg {i : Int} (q : κ f (.ty (tD K (.int (-i))))) : WU K F Γ f rNegI (tD K (.int i)) κ := fun x σ H Q k g1 c => by
  rw [dint g1]
  exact ⟨i, rfl, c f _ _ H q k Step.refl (.int _)⟩
theorem wr_eqI {i j : Int} (q : κ f (.ty (tD K (.bool (decide (i = j)))))) : WR K F Γ f rEq (tD K (.int i)) (tD K (.int j)) κ := fun x y σ H Q k g1 g2 c => by
  rw [dint g1, dint g2]
  refine ⟨rfl, ?_⟩
  have e : decide (V.int i = V.int j) = decide (i = j) := by
    by_cases h : i = j
    · rw [h, decide_eq_true rfl, decide_eq_true rfl]
    · rw [decide_eq_false h, decide_eq_false (fun z => h (by injection z))]
  rw [e]
  exact c f _ _ H q k Step.refl (.bl _)
theorem wr_neI {i j : Int} (q : κ f (.ty (tD K (.bool (!decide (i = j)))))) : WR K F Γ f rNe (tD K (.int i)) (tD K (.int j)) κ := fun x y σ H Q k g1 g2 c => by
  rw [dint g1, dint g2]
  refine ⟨rfl, ?_⟩
  have e : decide (V.int i = V.int j) = decide (i = j) := by
    by_cases h : i = j
    · rw [h, decide_eq_true rfl, decide_eq_true rfl]
    · rw [decide_eq_false h, decide_eq_false (fun z => h (by injection z))]
  rw [e]
  exact c f _ _ H q k Step.refl (.bl _)
theorem wr_eqD {t1 t2 : Ty} {d e : PyData} (h1 : IsDat K t1 d) (h2 : IsDat K t2 e) (s1 : SeqAt.shaped d = true) (s2 : SeqAt.shaped e = true) (q : κ f (.ty (tD K (.bool (PyData.eqv d e))))) : WR K F Γ f (rEqD K) t1 t2 κ := fun x y σ H Q k g1 g2 c =>
  ⟨d, e, dp_same hidP_le (h1 g1), dp_same hidP_le (h2 g2), s1, s2, c f _ _ H q k Step.refl (.bl _)⟩
theorem wr_neD {t1 t2 : Ty} {d e : PyData} (h1 : IsDat K t1 d) (h2 : IsDat K t2 e) (s1 : SeqAt.shaped d = true) (s2 : SeqAt.shaped e = true) (q : κ f (.ty (tD K (.bool (!PyData.eqv d e))))) : WR K F Γ f (rNeD K) t1 t2 κ := fun x y σ H Q k g1 g2 c =>
  ⟨d, e, dp_same hidP_le (h1 g1), dp_same hidP_le (h2 g2), s1, s2, c f _ _ H q k Step.refl (.bl _)⟩
/-- an item of a list -/
theorem wr_ixL {t1 : Ty} (n : Nat) {i : Int} (h1 : IsLst K t1 ts) (hi : i = (n : Int)) (h : ts[n]? = some u) (q : κ f (.ty u)) : WR K F Γ f (rIxL K) t1 (tD K (.int i)) κ := fun x y σ H Q k g1 g2 c => by
  rw [dint g2, hi]
  obtain ⟨a, vs, rfl, hS, hA⟩ := h1 g1
  obtain ⟨v, e, hv⟩ := hA.get h
  exact ⟨a, vs, _, v, rfl, rfl, hidP_le.seq hS, atI_nat e, c f _ _ H q k Step.refl hv⟩
theorem wr_ixT {t1 : Ty} (n : Nat) {i : Int} (h1 : IsTup K t1 ts) (hi : i = (n : Int)) (h : ts[n]? = some u) (q : κ f (.ty u)) : WR K F Γ f (rIxT K) t1 (tD K (.int i)) κ := fun x y σ H Q k g1 g2 c => by
  rw [dint g2, hi]
  obtain ⟨a, vs, rfl, hS, hA⟩ := h1 g1
  obtain ⟨v, e, hv⟩ := hA.get h
  exact ⟨a, vs, _, v, rfl, rfl, sqt_same hidP_le hS, atI_nat e, c f _ _ H q k Step.refl hv⟩
theorem wr_ix {t1 t2 : Ty} (h : WR K F Γ f (rIxL K) t1 t2 κ ∨ WR K F Γ f (rIxT K) t1 t2 κ) : WR K F Γ f (rIx K) t1 t2 κ := fun x y σ H Q k g1 g2 c =>
  h.elim (fun z => .inl (z x y σ H Q k g1 g2 c)) fun z => .inr (.inl (z x y σ H Q k g1 g2 c))
theorem wc_len {t1 : Ty} (h1 : IsLst K t1 ts ∨ IsTup K t1 ts) (q : κ f (.ty (tD K (.int (ts.length : Nat))))) : WC K F Γ f (rLen K) [t1] κ := fun xs σ H Q k g c => by
  cases xs with
  | nil => exact g.elim
  | cons x xs =>
    cases xs with
    | cons _ _ => exact g.2.elim
    | nil =>
      rcases h1 with h1 | h1
      · obtain ⟨a, vs, rfl, hS, hA⟩ := h1 g.1
        refine ⟨a, vs, rfl, .inl (hidP_le.seq hS), ?_⟩
        rw [← hA.len]
        exact c f _ _ H q k Step.refl (.int _)
      · obtain ⟨a, vs, rfl, hS, hA⟩ := h1 g.1
        refine ⟨a, vs, rfl, .inr (sqt_same hidP_le hS), ?_⟩
        rw [← hA.len]
        exact c f _ _ H q k Step.refl (.int _)
theorem wc_list {t1 : Ty} (h1 : IsLst K t1 ts ∨ IsTup K t1 ts) (q : κ f (.new (.lst ts))) : WC K F Γ f (rListOf K) [t1] κ := fun xs σ H Q k g c => by
  cases xs with
  | nil => exact g.elim
  | cons x xs =>
    cases xs with
    | cons _ _ => exact g.2.elim
    | nil =>
      rcases h1 with h1 | h1
      · obtain ⟨a, vs, rfl, hS, hA⟩ := h1 g.1
        exact ⟨a, vs, rfl, .inl (hidP_le.seq hS), fun l nl => c f _ _ _ q (k.grow (same_new nl)) (Step.of (same_new nl)) (new_is k nl hA)⟩
      · obtain ⟨a, vs, rfl, hS, hA⟩ := h1 g.1
        exact ⟨a, vs, rfl, .inr (sqt_same hidP_le hS), fun l nl => c f _ _ _ q (k.grow (same_new nl)) (Step.of (same_new nl)) (new_is k nl hA)⟩
theorem wc_sum {t1 : Ty} (ns : List Int) (h1 : IsDat K t1 (.list (ns.map PyData.int))) (q : κ f (.ty (tD K (.int ns.sum)))) : WC K F Γ f (rSum K) [t1] κ := fun xs σ H Q k g c => by
  cases xs with
  | nil => exact g.elim
  | cons x xs =>
    cases xs with
    | cons _ _ => exact g.2.elim
    | nil =>
      obtain ⟨a, vs, rfl, hS, hA⟩ := dp_list (h1 g.1)
      have e : vs = ns.map V.int := ext_map (by have := dpa_len hA; rw [List.length_map] at this; exact this) fun i v z e1 e2 => by
        obtain ⟨z', h3, h4⟩ := dpa_at hA e1
        rw [e2] at h3
        cases h3
        exact dp_int h4
      subst e
      exact ⟨a, ns, rfl, hidP_le.seq hS, c f _ _ H q k Step.refl (.int _)⟩
theorem wc_intI {i : Int} (q : κ f (.ty (tD K (.int i)))) : WC K F Γ f rInt1 [tD K (.int i)] κ := fun xs σ H Q k g c => by
  cases xs with
  | nil => exact g.elim
  | cons x xs =>
    cases xs with
    | cons _ _ => exact g.2.elim
    | nil =>
      rw [dint g.1]
      exact .inl ⟨i, rfl, c f _ _ H q k Step.refl (.int _)⟩
theorem wc_intB {b : Bool} (q : κ f (.ty (tD K (.int (if b then 1 else 0))))) : WC K F Γ f rInt1 [tD K (.bool b)] κ := fun xs σ H Q k g c => by
  cases xs with
  | nil => exact g.elim
  | cons x xs =>
    cases xs with
    | cons _ _ => exact g.2.elim
    | nil =>
      have e := g.1
      cases e
      exact .inr ⟨b, rfl, c f _ _ H q k Step.refl (.int _)⟩
end

/-! Rules over what stands in slots: targets, statements, loops, comprehensions. -/
section
variable {F : Fr} {Γ : List Sl} {f : Nat} {σ : L2.St} {H : Hp} {K : PySem.W.Frag} {κ : Nat → Rs → Prop} {te ta tb : TE} {tA : TA} {D : Ends} {t u : Ty} {ts us : List Ty} {d : PyData} {ds : List PyData}
/-! ### targets -/
theorem wg_name {i : Nat} {κ : List Sl → Prop} (q : κ (Γ.set i (.ty t))) : WG K F Γ f (gName i) t κ := fun v σ H P k h c => c _ _ q (k.put h)
def gNs : List Nat → TGs
  | [] => gNil
  | i :: is => gCons (gName i) (gNs is)
def puts (Γ : List Sl) : List Nat → List Ty → List Sl
  | i :: is, t :: ts => puts (Γ.set i (.ty t)) is ts
  | _, _ => Γ
theorem gNs_run {H : Hp} {P : L2.St → Hp → Prop} : ∀ {is : List Nat} {Γ : List Sl} {σ : L2.St} {ts : List Ty} {vs : List V}, is.length = ts.length → Ok F Γ f σ H → TyAll ts vs (hidP (HS F Γ) H) → (∀ σ', Ok F (puts Γ is ts) f σ' H → P σ' H) → gNs is vs σ H P
  | [], Γ, σ, [], [], _, k, _, c => ⟨rfl, c σ k⟩
  | i :: is, Γ, σ, t :: ts, v :: vs, hl, k, h, c => by
    refine ⟨v, vs, rfl, ?_⟩
    have sb : (ows (Γ.set i (.ty t))).Sublist (ows Γ) := ows_set_sub rfl
    exact gNs_run (is := is) (ts := ts) (by simpa using hl) (k.put h.1) (h.2.mono (hidP_mono fun a o e n => ⟨e, fun z => n (z.imp id fun y => sb.subset y)⟩)) c
  | [], _, _, _ :: _, _, hl, _, _, _ => by simp at hl
  | _ :: _, _, _, [], _, hl, _, _, _ => by simp at hl
  | _, _, _, [], _ :: _, _, _, h, _ => h.elim
  | _, _, _, _ :: _, [], _, _, h, _ => h.elim
theorem wg_tup {n : Nat} {gs : TGs} {κ : List Sl → Prop} (is : List Nat) (hg : gs = gNs is) (h : IsTup K t ts) (hn : ts.length = n) (hl : is.length = ts.length) (q : κ (puts Γ is ts)) : WG K F Γ f (gTup K n gs) t κ := fun v σ H P k hv c => by
  obtain ⟨a, vs, rfl, hS, hA⟩ := h hv
  subst hg
  exact ⟨a, vs, rfl, sqt_same hidP_le hS, by rw [← hA.len]; exact hn, gNs_run hl k hA fun σ' k' => c _ σ' q k'⟩
theorem wipe_get (σ : L2.St) : ∀ (vs : List Nat) (j : Nat), (L2.wipe σ vs)[j]? = if j ∈ vs then (if j < σ.length then some none else none) else σ[j]?
  | [], j => by simp [L2.wipe]
  | v :: vs, j => by
    unfold L2.wipe
    have ih := wipe_get σ vs j
    by_cases e : v = j
    · subst e
      rw [if_pos List.mem_cons_self]
      by_cases hl : v < σ.length
      · rw [if_pos hl, List.getElem?_set_self (by rw [L2.wipe_length]; exact hl)]
      · rw [if_neg hl, List.getElem?_eq_none (by rw [List.length_set, L2.wipe_length]; omega)]
    · rw [List.getElem?_set_ne e, ih]
      by_cases m : j ∈ vs
      · rw [if_pos m, if_pos (List.mem_cons_of_mem _ m)]
      · rw [if_neg m, if_neg (fun z => by
          rcases List.mem_cons.mp z with q | q
          · exact e q.symm
          · exact m q)]
theorem wipe_eq {σ σ2 : L2.St} {vs : List Nat} (hl : σ2.length = σ.length) (h : ∀ j, j ∉ vs → σ2[j]? = σ[j]?) : L2.wipe σ2 vs = L2.wipe σ vs := List.ext_getElem? fun j => by
  rw [wipe_get, wipe_get, hl]
  by_cases m : j ∈ vs
  · rw [if_pos m, if_pos m]
  · rw [if_neg m, if_neg m, h j m]
/-- targets of a comprehension's own names -/
def GIn (vs : List Nat) (g : TG) : Prop := ∀ (v : V) (σ : L2.St) (H : Hp) (P P' : L2.St → Hp → Prop), (∀ σ2 H2, σ2.length = σ.length → (∀ j, j ∉ vs → σ2[j]? = σ[j]?) → P σ2 H2 → P' σ2 H2) → g v σ H P → g v σ H P'
theorem gin_name {i : Nat} {vs : List Nat} (h : i ∈ vs) : GIn vs (gName i) := fun v σ H P P' c q => c _ _ (by rw [List.length_set]) (fun j hj => List.getElem?_set_ne fun z : i = j => hj (by rw [← z]; exact h)) q
theorem gin_ns {vs : List Nat} : ∀ {is : List Nat}, (∀ i ∈ is, i ∈ vs) → ∀ (xs : List V) (σ : L2.St) (H : Hp) (P P' : L2.St → Hp → Prop), (∀ σ2 H2, σ2.length = σ.length → (∀ j, j ∉ vs → σ2[j]? = σ[j]?) → P σ2 H2 → P' σ2 H2) → gNs is xs σ H P → gNs is xs σ H P'
  | [], _, xs, σ, H, P, P', c, q => ⟨q.1, c _ _ rfl (fun _ _ => rfl) q.2⟩
  | i :: is, h, xs, σ, H, P, P', c, q => by
    obtain ⟨v, r, e, q⟩ := q
    refine ⟨v, r, e, gin_ns (is := is) (fun j hj => h j (List.mem_cons_of_mem _ hj)) r (σ.set i (some v)) H P P' (fun σ2 H2 e1 e2 z => c σ2 H2 (by rw [e1, List.length_set]) (fun j hj => ?_) z) q⟩
    rw [e2 j hj, List.getElem?_set_ne fun w : i = j => hj (by rw [← w]; exact h i List.mem_cons_self)]
theorem gin_tup {K : PySem.W.Frag} {n : Nat} {gs : TGs} {vs : List Nat} (is : List Nat) (hg : gs = gNs is) (h : ∀ i ∈ is, i ∈ vs) : GIn vs (gTup K n gs) := fun v σ H P P' c q => by
  subst hg
  obtain ⟨a, xs, e, s, l, q⟩ := q
  exact ⟨a, xs, e, s, l, gin_ns h xs σ H P P' c q⟩
/-! ### statements -/
theorem s_seq {t1 t2 : TS} (h : S K F Γ f t1 { D with nx := t2 D }) : S K F Γ f (tSeq t1 t2) D := h
theorem nx_s {t2 : TS} (h : S K F Γ f t2 D) : NX K F Γ f (t2 D) := h
theorem s_next (h : NX K F Γ f D.nx) : S K F Γ f tNext D := h
theorem s_asg {g : TG} (h : W K F Γ f te fun f1 r => WG K F Γ f1 g (r.t K) fun Γ' => NX K F Γ' f1 D.nx) : S K F Γ f (tAsg te g) D := fun σ H k =>
  h σ H _ k fun f1 r v H1 h1 k1 s1 g1 => h1 v σ H1 _ k1 (Rs.is_ty k g1) fun Γ' σ' q k' => q σ' H1 k'
theorem s_own {i : Nat} (hi : Nat.blt i Γ.length = true) (h : W K F Γ f te fun f1 r => ∃ s, r = .new s ∧ ∀ a, NX K F (Γ.set i (.own a s)) f1 D.nx) : S K F Γ f (tAsg te (gName i)) D := fun σ H k =>
  h σ H _ k fun f1 r v H1 h1 k1 s1 g1 => by
    obtain ⟨s, rfl, q⟩ := h1
    obtain ⟨a, u, rfl, e0, e1, g⟩ := g1
    exact q a _ _ (k.keepNew k1 s1 e0 e1 g (Nat.le_of_ble_eq_true hi))
theorem s_drop (h : W K F Γ f te fun f1 _ => NX K F Γ f1 D.nx) : S K F Γ f (tDrop te) D := fun σ H k => h σ H _ k fun f1 r v H1 h1 k1 s1 g1 => h1 σ H1 k1
theorem s_par {i j : Nat} (h : WA K F Γ f tA fun f1 ts => ∃ t u, ts = [t, u] ∧ NX K F ((Γ.set i (.ty t)).set j (.ty u)) f1 D.nx) : S K F Γ f (tPar i j tA) D := fun σ H k =>
  h σ H _ k fun f1 ts vs H1 h1 k1 s1 g1 => by
    obtain ⟨t, u, rfl, q⟩ := h1
    match vs, g1 with
    | [v, w], g1 =>
      have sb : (ows (Γ.set i (.ty t))).Sublist (ows Γ) := ows_set_sub rfl
      exact ⟨v, w, rfl, q _ _ ((k1.put g1.1).put (u.mono (hidP_mono fun a o e n => ⟨e, fun z => n (z.imp id fun y => sb.subset y)⟩) g1.2.1))⟩
    | [], g1 => exact g1.elim
    | [_], g1 => exact g1.2.elim
    | _ :: _ :: _ :: _, g1 => exact g1.2.2.elim
theorem s_par3 {i j l : Nat} (h : WA K F Γ f tA fun f1 ts => ∃ t u w, ts = [t, u, w] ∧ NX K F (((Γ.set i (.ty t)).set j (.ty u)).set l (.ty w)) f1 D.nx) : S K F Γ f (tPar3 i j l tA) D := fun σ H k =>
  h σ H _ k fun f1 ts vs H1 h1 k1 s1 g1 => by
    obtain ⟨t, u, w, rfl, q⟩ := h1
    match vs, g1 with
    | [v, v2, v3], g1 =>
      have sb : (ows (Γ.set i (.ty t))).Sublist (ows Γ) := ows_set_sub rfl
      have sb2 : (ows ((Γ.set i (.ty t)).set j (.ty u))).Sublist (ows Γ) := (ows_set_sub rfl).trans sb
      exact ⟨v, v2, v3, rfl, q _ _ (((k1.put g1.1).put (u.mono (hidP_mono fun a o e n => ⟨e, fun z => n (z.imp id fun y => sb.subset y)⟩) g1.2.1)).put (w.mono (hidP_mono fun a o e n => ⟨e, fun z => n (z.imp id fun y => sb2.subset y)⟩) g1.2.2.1))⟩
    | [], g1 => exact g1.elim
    | [_], g1 => exact g1.2.elim
    | [_, _], g1 => exact g1.2.2.elim
    | _ :: _ :: _ :: _ :: _, g1 => exact g1.2.2.2.elim
theorem s_if {c : TT} {t1 t2 : TS} (h : WT K F Γ f c fun f1 b => (b = true → S K F Γ f1 t1 D) ∧ (b = false → S K F Γ f1 t2 D)) : S K F Γ f (tIfS c t1 t2) D := fun σ H k =>
  h σ H _ k fun f1 b H1 h1 k1 s1 => by
    cases b with
    | true => exact h1.1 rfl σ H1 k1
    | false => exact h1.2 rfl σ H1 k1
/-- two ways that meet again -/
theorem s_join {t1 : TS} (I : List Sl → Nat → Prop) (h : ∀ X : L2.St → Hp → Prop, (∀ Γ' f', I Γ' f' → NX K F Γ' f' X) → S K F Γ f t1 { D with nx := X }) (q : ∀ Γ' f', I Γ' f' → NX K F Γ' f' D.nx) : S K F Γ f t1 D := h D.nx q
theorem s_drop_slot (i : Nat) {t1 : TS} (h : S K F (Γ.set i .any) f t1 D) : S K F Γ f t1 D := fun σ H k => h σ H k.drop
theorem s_freeze {i : Nat} {a : Addr} {s : Sh} {t1 : TS} (e : Γ[i]? = some (.own a s)) (h : S K F (Γ.set i (.ty (s.ty K))) f t1 D) : S K F Γ f t1 D := fun σ H k => h σ H (k.freeze e)
theorem nx_freeze {i : Nat} {a : Addr} {s : Sh} {P : L2.St → Hp → Prop} (e : Γ[i]? = some (.own a s)) (h : NX K F (Γ.set i (.ty (s.ty K))) f P) : NX K F Γ f P := fun σ H k => h σ H (k.freeze e)
/-- a slot told otherwise -/
theorem Ok.sub (k : Ok F Γ f σ H) {i : Nat} (e : Γ[i]? = some (.ty t)) (s : Sub t u) : Ok F (Γ.set i (.ty u)) f σ H := by
  have sb : (ows (Γ.set i (.ty u))).Sublist (ows Γ) := ows_set_sub rfl
  have m : Same (hidP (HS F Γ) H) (hidP (HS F (Γ.set i (.ty u))) H) := hidP_mono fun a o e n => ⟨e, fun z => n (z.imp id fun y => sb.subset y)⟩
  refine ⟨by rw [List.length_set]; exact k.len, fun j x h => ?_, k.base, k.out, fun a h z => k.dj a h (sb.subset z), sb.nodup k.nd, fun a h => k.fresh a (sb.subset h), k.po, fun x hx => x.2.mono m (k.tmp x hx)⟩
  rcases get_set h with ⟨rfl, rfl, hi⟩ | ⟨ne, h⟩
  · obtain ⟨v, e1, e2⟩ := k.sl i _ e
    exact ⟨v, e1, u.mono m (s e2)⟩
  · exact (k.sl j x h).mono m fun _ _ _ => rfl
theorem s_sub {i : Nat} {t1 : TS} (e : Γ[i]? = some (.ty t)) (s : Sub t u) (h : S K F (Γ.set i (.ty u)) f t1 D) : S K F Γ f t1 D := fun σ H k => h σ H (k.sub e s)
theorem nx_sub {i : Nat} {P : L2.St → Hp → Prop} (e : Γ[i]? = some (.ty t)) (s : Sub t u) (h : NX K F (Γ.set i (.ty u)) f P) : NX K F Γ f P := fun σ H k => h σ H (k.sub e s)
theorem s_ret {ρ : Nat → Rs → Prop} (R : RT F D.rt ρ) (h : W K F Γ f te ρ) : S K F Γ f (tRet te) D := fun σ H k =>
  h σ H _ k fun f1 r v H1 h1 k1 s1 g1 => R f1 r v H1 h1 k1.base (fun p hp => (k1.po p hp).2) (by
    cases r with
    | ty t => exact t.mono (hidP_mono fun a o e n => ⟨e, fun z => n (.inl z)⟩) g1
    | new x =>
      obtain ⟨a, u, rfl, e0, e1, g⟩ := g1
      refine ⟨a, u, rfl, ?_, e1, Sh.mono (hidP_mono fun b o e n => ⟨e, fun z => n (z.imp .inl id)⟩) g⟩
      cases e : F.B a with
      | none => rfl
      | some o =>
        by_cases q : F.p = some a
        · exact absurd e0 (k.live (.inl (k.po a q).1))
        · rw [k.base a o e q] at e0
          cases e0)
theorem s_retOwn {ρ : Nat → Rs → Prop} (R : RT F D.rt ρ) {i : Nat} (h : ∃ a s, Γ[i]? = some (.own a s) ∧ ρ f (.new s)) : S K F Γ f (tRet (tVar i)) D := fun σ H k => by
  obtain ⟨a, s, e, h⟩ := h
  obtain ⟨e1, u, e2, g⟩ := k.sl i _ e
  have hm : a ∈ ows Γ := List.mem_filterMap.mpr ⟨_, List.mem_of_getElem? e, rfl⟩
  exact ⟨_, e1, R f _ _ H h k.base (fun p hp => (k.po p hp).2) ⟨a, u, rfl, k.fresh a hm, e2, Sh.mono (hidP_mono fun b o e n => ⟨e, fun z => n (by
    rcases z with z | z
    · exact .inl z
    · exact .inr (z ▸ hm))⟩) g⟩⟩
theorem s_append {i : Nat} (h : ∃ a ts, Γ[i]? = some (.own a (.lst ts)) ∧ ts.length < 10000 ∧ WA K F Γ f tA fun f1 us => ∃ u, us = [u] ∧ NX K F (Γ.set i (.own a (.lst (ts ++ [u])))) f1 D.nx) : S K F Γ f (tDrop (tBM K "list" rAppend (tVar i) tA)) D := fun σ H k => by
  obtain ⟨a, ts, e, hl, h⟩ := h
  obtain ⟨e1, o, e2, g⟩ := k.sl i _ e
  refine ⟨_, e1, ?_⟩
  cases o with
  | lst vs =>
    refine r_tyL e2 (h σ H _ k fun f1 us ws H1 h1 k1 s1 g1 => ?_)
    obtain ⟨u, rfl, q⟩ := h1
    match ws, g1 with
    | [w], g1 =>
      obtain ⟨_, o1, e3, g3⟩ := k1.sl i _ e
      cases o1 with
      | lst vs' => exact ⟨a, vs', w, rfl, rfl, e3, Nat.lt_of_lt_of_le (show vs'.length < 10000 by rw [← TyAll.len g3]; exact hl) (by decide), q _ _ (k1.change e (s' := .lst (ts ++ [u])) (TyAll.app g3 ⟨g1.1, trivial⟩))⟩
      | _ => exact g3.elim
    | [], g1 => exact g1.elim
    | _ :: _ :: _, g1 => exact g1.2.elim
  | _ => exact g.elim
/-! ### frames with more beside -/
abbrev Fr.push (F : Fr) (v : V) (t : Ty) : Fr := { F with T := (v, t) :: F.T }
theorem Ok.pop {v : V} (k : Ok (F.push v t) Γ f σ H) : Ok F Γ f σ H := ⟨k.len, k.sl, k.base, k.out, k.dj, k.nd, k.fresh, k.po, fun x hx => k.tmp x (List.mem_cons_of_mem _ hx)⟩
theorem Ok.push {v : V} (k : Ok F Γ f σ H) (h : t.is v (hidP (HS F Γ) H)) : Ok (F.push v t) Γ f σ H := ⟨k.len, k.sl, k.base, k.out, k.dj, k.nd, k.fresh, k.po, fun x hx => by
  rcases List.mem_cons.mp hx with e | hx
  · subst e; exact h
  · exact k.tmp x hx⟩
theorem nx_pop {v : V} {P : L2.St → Hp → Prop} (h : NX K F Γ f P) : NX K (F.push v t) Γ f P := fun σ H k => h σ H k.pop
abbrev Loop (F : Fr) (I : List Sl → Nat → Prop) (D : Ends) : Ends := { D with nx := Inv' F I, ct := Inv' F I, bk := D.nx }
theorem inv_nx {I : List Sl → Nat → Prop} (h : I Γ f) : NX K F Γ f (Inv' F I) := fun σ H k => ⟨Γ, f, h, k⟩
theorem s_break (h : NX K F Γ f D.bk) : S K F Γ f tBreak D := h
theorem s_cont (h : NX K F Γ f D.ct) : S K F Γ f tCont D := h
/-- the list at a, as it is -/
def tLx (K : PySem.W.Frag) (a : Addr) (vs : List V) (ts : List Ty) : Ty := ⟨fun v H => v = .ref a ∧ SqL K H a vs ∧ TyAll ts vs H, fun s h => ⟨h.1, s.seq h.2.1, h.2.2.mono s⟩⟩
def tTx (K : PySem.W.Frag) (a : Addr) (vs : List V) (ts : List Ty) : Ty := ⟨fun v H => v = .ref a ∧ SqT K H a vs ∧ TyAll ts vs H, fun s h => ⟨h.1, sqt_same s h.2.1, h.2.2.mono s⟩⟩
theorem Ok.top {v : V} (k : Ok (F.push v t) Γ f σ H) : t.is v (hidP (HS F Γ) H) := k.tmp (v, t) List.mem_cons_self
/-- for x in list -/
theorem s_forL {g : TG} {tB : TS} (h : W K F Γ f te fun f1 r => ∃ ts, IsLst K (r.t K) ts ∧ ∃ I : Nat → List Sl → Nat → Prop, I 0 Γ f1 ∧
    (∀ (x : V) (w : Ty) (i : Nat) (u : Ty) (Γ' : List Sl) (f' : Nat), ts[i]? = some u → I i Γ' f' → WG K (F.push x w) Γ' f' g u fun Γ2 => S K (F.push x w) Γ2 f' tB (Loop (F.push x w) (I (i + 1)) D)) ∧ ∀ Γ' f', I ts.length Γ' f' → NX K F Γ' f' D.nx) :
    S K F Γ f (tFor (iList K te) g tB) D := fun σ H k =>
  h σ H _ k fun f1 r v H1 h1 k1 s1 g1 => by
    have gt := Rs.is_ty k g1 (K := K)
    obtain ⟨ts, hL, I, i0, hs, hd⟩ := h1
    obtain ⟨a, vs, rfl, hS, hA⟩ := hL gt
    refine ⟨a, rfl, ⟨vs, hidP_le.seq hS⟩, ?_⟩
    refine for_list (K := K) (a := a) (xs := vs) (D := D) (fun i σ' H' => Inv' (F.push (.ref a) (tLx K a vs ts)) (I i) σ' H') ⟨Γ, f1, i0, k1.push ⟨rfl, hS, hA⟩⟩ (fun i σ' H' _ ⟨_, _, _, k'⟩ => hidP_le.seq k'.top.2.1) ?_ ?_
    · rintro i x σ' H' hx ⟨Γ', f', hi, k'⟩
      obtain ⟨u, hu, hux⟩ := k'.top.2.2.getV hx
      exact hs (.ref a) (tLx K a vs ts) i u Γ' f' hu hi x σ' H' _ k' hux fun Γ2 σ2 q k2 => q σ2 H' k2
    · rintro σ' H' ⟨Γ', f', hi, k'⟩
      exact hd Γ' f' (hA.len ▸ hi) σ' H' k'.pop
theorem s_forT {g : TG} {tB : TS} (h : W K F Γ f te fun f1 r => ∃ ts, IsTup K (r.t K) ts ∧ ∃ I : Nat → List Sl → Nat → Prop, I 0 Γ f1 ∧
    (∀ (x : V) (w : Ty) (i : Nat) (u : Ty) (Γ' : List Sl) (f' : Nat), ts[i]? = some u → I i Γ' f' → WG K (F.push x w) Γ' f' g u fun Γ2 => S K (F.push x w) Γ2 f' tB (Loop (F.push x w) (I (i + 1)) D)) ∧ ∀ Γ' f', I ts.length Γ' f' → NX K F Γ' f' D.nx) :
    S K F Γ f (tFor (iTup K te) g tB) D := fun σ H k =>
  h σ H _ k fun f1 r v H1 h1 k1 s1 g1 => by
    have gt := Rs.is_ty k g1 (K := K)
    obtain ⟨ts, hL, I, i0, hs, hd⟩ := h1
    obtain ⟨a, vs, rfl, hS, hA⟩ := hL gt
    refine ⟨a, rfl, ⟨vs, sqt_same hidP_le hS⟩, ?_⟩
    refine for_tup (K := K) (a := a) (xs := vs) (D := D) (fun i σ' H' => Inv' (F.push (.ref a) (tTx K a vs ts)) (I i) σ' H') ⟨Γ, f1, i0, k1.push ⟨rfl, hS, hA⟩⟩ (fun i σ' H' _ ⟨_, _, _, k'⟩ => sqt_same hidP_le k'.top.2.1) ?_ ?_
    · rintro i x σ' H' hx ⟨Γ', f', hi, k'⟩
      obtain ⟨u, hu, hux⟩ := k'.top.2.2.getV hx
      exact hs (.ref a) (tTx K a vs ts) i u Γ' f' hu hi x σ' H' _ k' hux fun Γ2 σ2 q k2 => q σ2 H' k2
    · rintro σ' H' ⟨Γ', f', hi, k'⟩
      exact hd Γ' f' (hA.len ▸ hi) σ' H' k'.pop
/-- for i in range(n) -/
theorem s_forR {g : TG} {tB : TS} (h : WA K F Γ f tA fun f1 ts => ∃ j : Int, ts = [tD K (.int j)] ∧ -(2 ^ 62) ≤ j ∧ j < 2 ^ 62 ∧ ∃ I : Nat → List Sl → Nat → Prop, I 0 Γ f1 ∧
    (∀ (i : Nat) (Γ' : List Sl) (f' : Nat), i < j.toNat → I i Γ' f' → WG K F Γ' f' g (tD K (.int (i : Nat))) fun Γ2 => S K F Γ2 f' tB (Loop F (I (i + 1)) D)) ∧ ∀ Γ' f', I j.toNat Γ' f' → NX K F Γ' f' D.nx) :
    S K F Γ f (tFor (iRng1 tA) g tB) D := fun σ H k =>
  h σ H _ k fun f1 ts vs H1 h1 k1 s1 g1 => by
    obtain ⟨j, rfl, j1, j2, I, i0, hs, hd⟩ := h1
    match vs, g1 with
    | [], g1 => exact g1.elim
    | _ :: _ :: _, g1 => exact g1.2.elim
    | [v], g1 =>
      have e := g1.1
      cases e
      refine ⟨j, rfl, j1, j2, for_range (lo := 0) (n := j.toNat) (D := D) (fun i σ' H' => Inv' F (I i) σ' H') ⟨Γ, f1, i0, k1⟩ ?_ ?_⟩
      · rintro i σ' H' hi ⟨Γ', f', hi', k'⟩
        rw [Int.zero_add]
        exact hs i Γ' f' hi hi' _ σ' H' _ k' (.int _) fun Γ2 σ2 q k2 => q σ2 H' k2
      · rintro σ' H' ⟨Γ', f', hi, k'⟩
        exact hd Γ' f' hi σ' H' k'
theorem s_forR2 {g : TG} {tB : TS} (h : WA K F Γ f tA fun f1 ts => ∃ l j : Int, ts = [tD K (.int l), tD K (.int j)] ∧ (-(2 ^ 62) ≤ l ∧ l < 2 ^ 62 ∧ -(2 ^ 62) ≤ j ∧ j < 2 ^ 62) ∧ ∃ I : Nat → List Sl → Nat → Prop, I 0 Γ f1 ∧
    (∀ (i : Nat) (Γ' : List Sl) (f' : Nat), i < (j - l).toNat → I i Γ' f' → WG K F Γ' f' g (tD K (.int (l + (i : Nat)))) fun Γ2 => S K F Γ2 f' tB (Loop F (I (i + 1)) D)) ∧ ∀ Γ' f', I (j - l).toNat Γ' f' → NX K F Γ' f' D.nx) :
    S K F Γ f (tFor (iRng2 tA) g tB) D := fun σ H k =>
  h σ H _ k fun f1 ts vs H1 h1 k1 s1 g1 => by
    obtain ⟨l, j, rfl, jj, I, i0, hs, hd⟩ := h1
    match vs, g1 with
    | [], g1 => exact g1.elim
    | [_], g1 => exact g1.2.elim
    | _ :: _ :: _ :: _, g1 => exact g1.2.2.elim
    | [v, v2], g1 =>
      have e := g1.1
      cases e
      have e := g1.2.1
      cases e
      refine ⟨l, j, rfl, jj, for_range (lo := l) (n := (j - l).toNat) (D := D) (fun i σ' H' => Inv' F (I i) σ' H') ⟨Γ, f1, i0, k1⟩ ?_ ?_⟩
      · rintro i σ' H' hi ⟨Γ', f', hi', k'⟩
        exact hs i Γ' f' hi hi' _ σ' H' _ k' (.int _) fun Γ2 σ2 q k2 => q σ2 H' k2
      · rintro σ' H' ⟨Γ', f', hi, k'⟩
        exact hd Γ' f' hi σ' H' k'
theorem tup_new (k : Ok F Γ f σ H) {T : Addr} {xs : List V} (n : H T = none) (h : TyAll ts xs (hidP (HS F Γ) H)) : (tTp K ts).is (.ref T) (hidP (HS F Γ) (upd H T (.tup xs))) :=
  ⟨T, xs, rfl, st_of (hidP_at upd_same (not_in k n)), h.mono (hidP_mono fun b o e z => ⟨upd_old n e, z⟩)⟩
/-- for i, x in enumerate(list) -/
theorem s_forE {g : TG} {tB : TS} (h : WA K F Γ f tA fun f1 us => ∃ t0 ts, us = [t0] ∧ IsLst K t0 ts ∧ ∃ I : Nat → List Sl → Nat → Prop, I 0 Γ f1 ∧
    (∀ (x : V) (w : Ty) (i : Nat) (u : Ty) (Γ' : List Sl) (f' : Nat), ts[i]? = some u → I i Γ' f' → WG K (F.push x w) Γ' f' g (tTp K [tD K (.int (i : Nat)), u]) fun Γ2 => S K (F.push x w) Γ2 f' tB (Loop (F.push x w) (I (i + 1)) D)) ∧ ∀ Γ' f', I ts.length Γ' f' → NX K F Γ' f' D.nx) :
    S K F Γ f (tFor (iEnum K tA) g tB) D := fun σ H k =>
  h σ H _ k fun f1 us vs0 H1 h1 k1 s1 g1 => by
    obtain ⟨t0, ts, rfl, hL, I, i0, hs, hd⟩ := h1
    match vs0, g1 with
    | [], g1 => exact g1.elim
    | _ :: _ :: _, g1 => exact g1.2.elim
    | [v], g1 =>
      obtain ⟨a, vs, rfl, hS, hA⟩ := hL g1.1
      refine ⟨a, vs, rfl, hidP_le.seq hS, ?_⟩
      refine for_enumL (K := K) (a := a) (xs := vs) (D := D) (fun i σ' H' => Inv' (F.push (.ref a) (tLx K a vs ts)) (I i) σ' H') ⟨Γ, f1, i0, k1.push ⟨rfl, hS, hA⟩⟩ (fun i σ' H' ⟨_, _, _, k'⟩ => hidP_le.seq k'.top.2.1) ?_ ?_
      · rintro i x T σ' H' hx ⟨Γ', f', hi, k'⟩ nT
        obtain ⟨u, hu, hux⟩ := k'.top.2.2.getV hx
        exact hs (.ref a) (tLx K a vs ts) i u Γ' f' hu hi _ σ' _ _ (k'.grow (same_new nT)) (tup_new (F := F.push (.ref a) (tLx K a vs ts)) k' nT ⟨.int _, hux, trivial⟩) fun Γ2 σ2 q k2 => q σ2 _ k2
      · rintro σ' H' ⟨Γ', f', hi, k'⟩
        exact hd Γ' f' (hA.len ▸ hi) σ' H' k'.pop
/-- a while, by a measure -/
theorem s_while {c : TT} {tB : TS} (I : Nat → List Sl → Nat → Prop) (m : Nat) (i0 : I m Γ f)
    (h : ∀ (m : Nat) (Γ' : List Sl) (f' : Nat), I m Γ' f' → WT K F Γ' f' c fun f2 b => (b = true → S K F Γ' f2 tB (Loop F (fun Γ2 f3 => ∃ m', m' < m ∧ I m' Γ2 f3) D)) ∧ (b = false → NX K F Γ' f2 D.nx)) : S K F Γ f (tWhile c tB) D := fun σ H k => by
  refine ⟨fun m σ' H' => Inv' F (I m) σ' H', ⟨m, Γ, f, i0, k⟩, ?_⟩
  rintro m σ' H' ⟨Γ', f', hi, k'⟩
  refine h m Γ' f' hi σ' H' _ k' fun f2 b H2 q k2 s2 => ?_
  cases b with
  | true => exact ⟨Inv' F (fun Γ2 f3 => ∃ m', m' < m ∧ I m' Γ2 f3), fun σ3 H3 ⟨Γ3, f3, ⟨m', hm, hi'⟩, k3⟩ => ⟨m', hm, Γ3, f3, hi', k3⟩, q.1 rfl σ' H2 k2⟩
  | false => exact q.2 rfl σ' H2 k2
end

/-! Rules over what stands in slots: comprehensions, calls, the frame's entry. -/
section
variable {F : Fr} {Γ : List Sl} {f : Nat} {σ : L2.St} {H : Hp} {K : PySem.W.Frag} {κ : Nat → Rs → Prop} {te ta tb : TE} {tA : TA} {D : Ends} {t u : Ty} {ts us : List Ty} {d : PyData} {ds : List PyData}
/-- heap stepped, slots as they were -/
theorem Ok.step {f' : Nat} {H' : Hp} (k : Ok F Γ f σ H) (s : Step F H H') (hp : ∀ p, F.p = some p → PoolAt H' p f') : Ok F Γ f' σ H' := by
  have m := s.hid k
  have live : ∀ a, F.O a → ∃ o, H' a = some o ∧ fixedO o = false := fun a h => by
    by_cases q : F.p = some a
    · obtain ⟨o, e, x, y, z, rfl, _⟩ := hp a q
      exact ⟨_, e, rfl⟩
    · obtain ⟨o, e, fx⟩ := k.out a h
      exact ⟨o, s a o e q, fx⟩
  refine ⟨k.len, fun i x h => ?_, fun a o e n => s a o (k.base a o e n) n, live, k.dj, k.nd, k.fresh, fun p h => ⟨(k.po p h).1, hp p h⟩, fun x hx => x.2.mono m (k.tmp x hx)⟩
  have q := k.sl i x h
  cases x with
  | any => exact q
  | ty t => obtain ⟨v, e, z⟩ := q; exact ⟨v, e, t.mono m z⟩
  | own a y =>
    obtain ⟨e, u, z1, z2⟩ := q
    exact ⟨e, u, s a u z1 fun z => k.dj a (k.po a z).1 (List.mem_filterMap.mpr ⟨_, List.mem_of_getElem? h, rfl⟩), Sh.mono m z2⟩
  | pool => exact q
/-- one address more hidden -/
abbrev Fr.mask (F : Fr) (D : Addr) : Fr := { F with O := fun a => F.O a ∨ a = D }
theorem hs_mask {D : Addr} : ∀ a, HS (F.mask D) Γ a ↔ (HS F Γ a ∨ a = D) := fun a => ⟨fun h => by
  rcases h with (h | h) | h
  · exact .inl (.inl h)
  · exact .inr h
  · exact .inl (.inr h), fun h => by
  rcases h with (h | h) | h
  · exact .inl (.inl h)
  · exact .inr h
  · exact .inl (.inr h)⟩
/-- what is new is masked: all was told ahead of it -/
theorem Ok.masked (k : Ok F Γ f σ H) {D : Addr} {xs : List V} (n : H D = none) : Ok (F.mask D) Γ f σ (upd H D (.lst xs)) := by
  have na := not_in k n
  have m : Same (hidP (HS F Γ) H) (hidP (HS (F.mask D) Γ) (upd H D (.lst xs))) := hidP_mono fun b u e z => ⟨upd_old n e, fun y => by
    rcases (hs_mask b).mp y with y | y
    · exact z y
    · rw [y, n] at e; cases e⟩
  refine ⟨k.len, fun i x h => ?_, fun a u e z => upd_old n (k.base a u e z), fun a h => ?_, fun a h => ?_, k.nd, k.fresh, fun p hp => ⟨.inl (k.po p hp).1, (k.po p hp).2.new n⟩, fun x hx => x.2.mono m (k.tmp x hx)⟩
  · have q := k.sl i x h
    cases x with
    | any => exact q
    | ty t => obtain ⟨v, e, z⟩ := q; exact ⟨v, e, t.mono m z⟩
    | own a y => obtain ⟨e, u, z1, z2⟩ := q; exact ⟨e, u, upd_old n z1, Sh.mono m z2⟩
    | pool => exact q
  · rcases h with h | h
    · obtain ⟨u, e, fx⟩ := k.out a h
      exact ⟨u, upd_old n e, fx⟩
    · exact ⟨_, by rw [h, upd_same], rfl⟩
  · rcases h with h | h
    · exact k.dj a h
    · exact fun z => na (.inr (h ▸ z))
theorem Ok.unmask {D : Addr} (k : Ok (F.mask D) Γ f σ H) (hp : ∀ p, F.p = some p → F.O p) : Ok F Γ f σ H := by
  have m : Same (hidP (HS (F.mask D) Γ) H) (hidP (HS F Γ) H) := hidP_mono fun b u e z => ⟨e, fun y => z ((hs_mask b).mpr (.inl y))⟩
  refine ⟨k.len, fun i x h => (k.sl i x h).mono m fun _ _ _ => rfl, k.base, fun a h => k.out a (.inl h), fun a h => k.dj a (.inl h), k.nd, k.fresh, fun p h => ⟨hp p h, (k.po p h).2⟩, fun x hx => x.2.mono m (k.tmp x hx)⟩
/-- what is masked changes -/
theorem Ok.fill {D : Addr} {xs : List V} (k : Ok (F.mask D) Γ f σ H) (n : ¬ F.p = some D) (hB : F.B D = none) (nl : D ∉ ows Γ) : Ok (F.mask D) Γ f σ (upd H D (.lst xs)) := by
  have m : Same (hidP (HS (F.mask D) Γ) H) (hidP (HS (F.mask D) Γ) (upd H D (.lst xs))) := hidP_mono fun b u e z => ⟨by
    rw [upd_ne (fun y : b = D => z ((hs_mask b).mpr (.inr y)))]
    exact e, z⟩
  refine ⟨k.len, fun i x h => ?_, fun a u e z => ?_, fun a h => ?_, k.dj, k.nd, k.fresh, fun p hp => ⟨(k.po p hp).1, ?_⟩, fun x hx => x.2.mono m (k.tmp x hx)⟩
  · have q := k.sl i x h
    cases x with
    | any => exact q
    | ty t => obtain ⟨v, e, z⟩ := q; exact ⟨v, e, t.mono m z⟩
    | own a y =>
      obtain ⟨e, u, z1, z2⟩ := q
      refine ⟨e, u, ?_, Sh.mono m z2⟩
      rw [upd_ne (fun y : a = D => nl (y ▸ List.mem_filterMap.mpr ⟨_, List.mem_of_getElem? h, rfl⟩))]
      exact z1
    | pool => exact q
  · rw [upd_ne (fun y : a = D => by rw [y, hB] at e; cases e)]
    exact k.base a u e z
  · by_cases z : a = D
    · exact ⟨_, by rw [z, upd_same], rfl⟩
    · obtain ⟨u, e, fx⟩ := k.out a h
      exact ⟨u, by rw [upd_ne z]; exact e, fx⟩
  · obtain ⟨o', e, po⟩ := (k.po p hp).2
    exact ⟨o', by rw [upd_ne (fun y : p = D => n (y ▸ hp))]; exact e, po⟩
theorem small10000 {n : Nat} (h : n ≤ 10000) : n < sizeLine := Nat.lt_of_le_of_lt h (by decide)
/-- what a turn of a comprehension reaches -/
def LcP (K : PySem.W.Frag) (F : Fr) (Γ : List Sl) (σ : L2.St) (H0 : Hp) (D : Addr) (J : Nat → Nat → List Ty → Prop) (i : Nat) (H : Hp) : Prop :=
  ∃ f acc ys, J i f acc ∧ acc.length ≤ i ∧ Ok (F.mask D) Γ f σ H ∧ (∀ a o, H0 a = some o → F.p ≠ some a → H a = some o) ∧ H D = some (.lst ys) ∧ TyAll acc ys (hidP (HS (F.mask D) Γ) H)
theorem wipe_ok (k : Ok F Γ f σ H) (vs : List Nat) : Ok F (wipeΓ Γ vs) f (L2.wipe σ vs) H := k.wipe vs
theorem hid_wipe (vs : List Nat) : Same (hidP (HS F Γ) H) (hidP (HS F (wipeΓ Γ vs)) H) := hidP_mono fun b o e n => ⟨e, fun z => n (z.imp id fun y => (wipe_ows vs).subset y)⟩
/-- one turn, whatever is walked -/
theorem lc_turn {g : TG} {tt : TT} {te : TE} {vs : List Nat} {D : Addr} {H0 H H' : Hp} {x : V} {J : Nat → Nat → List Ty → Prop} {i : Nat} {w : Ty} (n0 : H0 D = none) (hD : ¬ F.p = some D) (hB : F.B D = none) (nl : D ∉ ows Γ) (hg : GIn vs g) (hi : i < 10000)
    (hp : LcP K F Γ σ H0 D J i H) (sH : Same H H') (hx : w.is x (hidP (HS (F.mask D) Γ) H'))
    (hs : ∀ f' acc, J i f' acc → WG K (F.mask D) (wipeΓ Γ vs) f' g w fun Γ2 => ows Γ2 = ows Γ ∧ WT K (F.mask D) Γ2 f' tt fun f2 b => (b = true → W K (F.mask D) Γ2 f2 te fun f3 r => J (i + 1) f3 (acc ++ [r.t K])) ∧ (b = false → J (i + 1) f2 acc)) :
    g x (L2.wipe σ vs) H' fun σ2 H2 => L2.wipe σ2 vs = L2.wipe σ vs ∧ tt σ2 H2 fun b H3 => if b = true then te σ2 H3 fun y H4 => ∃ acc, H4 D = some (.lst acc) ∧ acc.length < sizeLine ∧ LcP K F Γ σ H0 D J (i + 1) (upd H4 D (.lst (acc ++ [y]))) else LcP K F Γ σ H0 D J (i + 1) H3 := by
  obtain ⟨f', acc, ys, hJ, hl, k, s0, eD, hA⟩ := hp
  have k' := k.grow sH
  have eD' := sH _ _ eD
  have hA' := hA.mono (hidP_mono fun a o e n => ⟨sH _ _ e, n⟩ : Same (hidP (HS (F.mask D) Γ) H) (hidP (HS (F.mask D) Γ) H'))
  have s0' : ∀ a o, H0 a = some o → F.p ≠ some a → H' a = some o := fun a o e n => sH _ _ (s0 a o e n)
  refine hg x (L2.wipe σ vs) H' _ _ (fun σ2 H2 h1 h2 h3 => ⟨wipe_eq (by rw [h1, L2.wipe_length]) fun j hj => by rw [h2 j hj, wipe_get, if_neg hj], h3⟩) (hs f' acc hJ x (L2.wipe σ vs) H' (fun σ2 H2 => tt σ2 H2 fun b H3 => if b = true then te σ2 H3 fun y H4 => ∃ acc, H4 D = some (.lst acc) ∧ acc.length < sizeLine ∧ LcP K F Γ σ H0 D J (i + 1) (upd H4 D (.lst (acc ++ [y]))) else LcP K F Γ σ H0 D J (i + 1) H3) (wipe_ok k' vs) (w.mono (hid_wipe vs) hx) ?_)
  rintro Γ2 σ2 ⟨eo, q⟩ k2
  refine q σ2 H' _ k2 fun f2 b H3 q2 k3 s3 => ?_
  have kk3 : Ok (F.mask D) Γ f2 σ H3 := k'.step s3 fun p hp => (k3.po p hp).2
  have eD3 := s3 _ _ eD' hD
  have hA3 := hA'.mono (s3.hid k')
  cases b with
  | false =>
    rw [if_neg Bool.false_ne_true]
    exact ⟨f2, acc, ys, q2.2 rfl, by omega, kk3, fun a o e n => s3 a o (s0' a o e n) n, eD3, hA3⟩
  | true =>
    rw [if_pos rfl]
    refine q2.1 rfl σ2 H3 _ k3 fun f4 r y H4 q4 k4 s4 g4 => ?_
    have kk4 : Ok (F.mask D) Γ f4 σ H4 := kk3.step s4 fun p hp => (k4.po p hp).2
    have eD4 := s4 _ _ eD3 hD
    have hA4 := hA3.mono (s4.hid kk3)
    have ry := Rs.is_ty k3 g4 (K := K)
    have eH : HS (F.mask D) Γ2 = HS (F.mask D) Γ := by unfold HS; rw [eo]
    rw [eH] at ry
    have hlen := hA4.len
    refine ⟨ys, eD4, small10000 (by omega), f4, acc ++ [r.t K], ys ++ [y], q4, by rw [List.length_append]; simp; omega, kk4.fill hD hB nl, fun a o e n => ?_, upd_same, (TyAll.app (us := [r.t K]) (ws := [y]) hA4 ⟨ry, trivial⟩).mono ?_⟩
    · by_cases z : a = D
      · rw [z, n0] at e
        cases e
      · rw [upd_ne z]
        exact s4 a o (s3 a o (s0' a o e n) n) n
    · exact hidP_mono fun b u e z => ⟨by
        rw [upd_ne (fun y : b = D => z ((hs_mask b).mpr (.inr y)))]
        exact e, z⟩
/-- the whole, whatever is walked: what is asked at its start and its end -/
theorem lc_ends {J : Nat → Nat → List Ty → Prop} {Dd : Addr} (k : Ok F Γ f σ H) (n : H Dd = none) (j0 : J 0 f []) : LcP K F Γ σ H Dd J 0 (upd H Dd (.lst [])) ∧ ¬ F.p = some Dd ∧ F.B Dd = none ∧ Dd ∉ ows Γ := by
  have na := not_in k n
  refine ⟨⟨f, [], [], j0, Nat.le_refl _, k.masked n, fun a o e _ => upd_old n e, upd_same, trivial⟩, fun z => na (.inl (k.po Dd z).1), ?_, fun z => na (.inr z)⟩
  cases e : F.B Dd with
  | none => rfl
  | some o =>
    by_cases q : F.p = some Dd
    · exact absurd (.inl (k.po Dd q).1) na
    · rw [k.base Dd o e q] at n
      cases n
theorem lc_done {J : Nat → Nat → List Ty → Prop} {Dd : Addr} {i : Nat} {H' : Hp} (k : Ok F Γ f σ H) (n : H Dd = none) (p : LcP K F Γ σ H Dd J i H') : ∃ f' acc, J i f' acc ∧ Ok F Γ f' σ H' ∧ Step F H H' ∧ Rs.is (HS F Γ) H (.new (.lst acc)) (.ref Dd) H' := by
  obtain ⟨f', acc, ys, hJ, hl, k', s, eD, hA⟩ := p
  exact ⟨f', acc, hJ, k'.unmask fun p hp => (k.po p hp).1, s, Dd, _, rfl, n, eD, TyAll.mono (show Same (hidP (HS (F.mask Dd) Γ) H') (hidP (fun b => HS F Γ b ∨ b = Dd) H') from hidP_mono fun b o e z => ⟨e, fun y => z ((hs_mask b).mpr y)⟩) hA⟩
/-- [elt for x in list if ..] -/
theorem w_lcL {g : TG} {tt : TT} {vs : List Nat} (hg : GIn vs g) (h : W K F Γ f ta fun f1 r => ∃ ts, IsLst K (r.t K) ts ∧ ts.length < 10000 ∧ ∃ J : Nat → Nat → List Ty → Prop, J 0 f1 [] ∧
    (∀ (F' : Fr) (i : Nat) (u : Ty) (f' : Nat) (acc : List Ty), F'.p = F.p → ts[i]? = some u → J i f' acc → WG K F' (wipeΓ Γ vs) f' g u fun Γ2 => ows Γ2 = ows Γ ∧ WT K F' Γ2 f' tt fun f2 b => (b = true → W K F' Γ2 f2 te fun f3 r => J (i + 1) f3 (acc ++ [r.t K])) ∧ (b = false → J (i + 1) f2 acc)) ∧
    ∀ f' acc, J ts.length f' acc → κ f' (.new (.lst acc))) : W K F Γ f (tLc (iList K ta) g tt te vs) κ := fun σ H Q k c =>
  h σ H _ k fun f1 r v H1 h1 k1 s1 g1 => by
    have gt := Rs.is_ty k g1 (K := K)
    obtain ⟨ts, hL, hn, J, j0, hs, hd⟩ := h1
    obtain ⟨a, xs, rfl, hS, hA⟩ := hL gt
    refine ⟨a, rfl, ⟨xs, hidP_le.seq hS⟩, fun Dd nD => ?_⟩
    have kp := k1.push (v := .ref a) (t := tLx K a xs ts) ⟨rfl, hS, hA⟩
    obtain ⟨p0, q1, q2, q3⟩ := lc_ends (K := K) kp nD j0
    refine lc_list (K := K) (a := a) (xs := xs) (LcP K (F.push (.ref a) (tLx K a xs ts)) Γ σ H1 Dd J) p0 (fun i H' _ ⟨_, _, _, _, _, k', _⟩ => hidP_le.seq (k'.tmp _ List.mem_cons_self).2.1) ?_ ?_
    · rintro i x H' hx hp
      obtain ⟨_, _, _, _, _, k', _⟩ := id hp
      obtain ⟨u, hu, hux⟩ := (k'.tmp _ List.mem_cons_self).2.2.getV hx
      exact lc_turn (K := K) nD q1 q2 q3 hg (by have := (List.getElem?_eq_some_iff.mp hu).1; omega) hp (Same.refl _) hux fun f' acc j => hs _ i u f' acc rfl hu j
    · intro H' hp
      rw [← hA.len] at hp
      obtain ⟨f', acc, j, k', s', g'⟩ := lc_done kp nD hp
      exact c f' _ _ H' (hd f' acc j) k'.pop (s1.trans s') (Rs.back k k1 s1 g')
theorem w_lcT {g : TG} {tt : TT} {vs : List Nat} (hg : GIn vs g) (h : W K F Γ f ta fun f1 r => ∃ ts, IsTup K (r.t K) ts ∧ ts.length < 10000 ∧ ∃ J : Nat → Nat → List Ty → Prop, J 0 f1 [] ∧
    (∀ (F' : Fr) (i : Nat) (u : Ty) (f' : Nat) (acc : List Ty), F'.p = F.p → ts[i]? = some u → J i f' acc → WG K F' (wipeΓ Γ vs) f' g u fun Γ2 => ows Γ2 = ows Γ ∧ WT K F' Γ2 f' tt fun f2 b => (b = true → W K F' Γ2 f2 te fun f3 r => J (i + 1) f3 (acc ++ [r.t K])) ∧ (b = false → J (i + 1) f2 acc)) ∧
    ∀ f' acc, J ts.length f' acc → κ f' (.new (.lst acc))) : W K F Γ f (tLc (iTup K ta) g tt te vs) κ := fun σ H Q k c =>
  h σ H _ k fun f1 r v H1 h1 k1 s1 g1 => by
    have gt := Rs.is_ty k g1 (K := K)
    obtain ⟨ts, hL, hn, J, j0, hs, hd⟩ := h1
    obtain ⟨a, xs, rfl, hS, hA⟩ := hL gt
    refine ⟨a, rfl, ⟨xs, sqt_same hidP_le hS⟩, fun Dd nD => ?_⟩
    have kp := k1.push (v := .ref a) (t := tTx K a xs ts) ⟨rfl, hS, hA⟩
    obtain ⟨p0, q1, q2, q3⟩ := lc_ends (K := K) kp nD j0
    refine lc_tup (K := K) (a := a) (xs := xs) (LcP K (F.push (.ref a) (tTx K a xs ts)) Γ σ H1 Dd J) p0 (fun i H' _ ⟨_, _, _, _, _, k', _⟩ => sqt_same hidP_le (k'.tmp _ List.mem_cons_self).2.1) ?_ ?_
    · rintro i x H' hx hp
      obtain ⟨_, _, _, _, _, k', _⟩ := id hp
      obtain ⟨u, hu, hux⟩ := (k'.tmp _ List.mem_cons_self).2.2.getV hx
      exact lc_turn (K := K) nD q1 q2 q3 hg (by have := (List.getElem?_eq_some_iff.mp hu).1; omega) hp (Same.refl _) hux fun f' acc j => hs _ i u f' acc rfl hu j
    · intro H' hp
      rw [← hA.len] at hp
      obtain ⟨f', acc, j, k', s', g'⟩ := lc_done kp nD hp
      exact c f' _ _ H' (hd f' acc j) k'.pop (s1.trans s') (Rs.back k k1 s1 g')
theorem w_lcR {g : TG} {tt : TT} {vs : List Nat} (hg : GIn vs g) (h : WA K F Γ f tA fun f1 ts => ∃ j : Int, ts = [tD K (.int j)] ∧ -(2 ^ 62) ≤ j ∧ j < 10000 ∧ ∃ J : Nat → Nat → List Ty → Prop, J 0 f1 [] ∧
    (∀ (F' : Fr) (i : Nat) (f' : Nat) (acc : List Ty), F'.p = F.p → i < j.toNat → J i f' acc → WG K F' (wipeΓ Γ vs) f' g (tD K (.int (i : Nat))) fun Γ2 => ows Γ2 = ows Γ ∧ WT K F' Γ2 f' tt fun f2 b => (b = true → W K F' Γ2 f2 te fun f3 r => J (i + 1) f3 (acc ++ [r.t K])) ∧ (b = false → J (i + 1) f2 acc)) ∧
    ∀ f' acc, J j.toNat f' acc → κ f' (.new (.lst acc))) : W K F Γ f (tLc (iRng1 tA) g tt te vs) κ := fun σ H Q k c =>
  h σ H _ k fun f1 ts xs H1 h1 k1 s1 g1 => by
    obtain ⟨j, rfl, j1, j2, J, j0, hs, hd⟩ := h1
    match xs, g1 with
    | [], g1 => exact g1.elim
    | _ :: _ :: _, g1 => exact g1.2.elim
    | [v], g1 =>
      have e := g1.1
      cases e
      refine ⟨j, rfl, j1, by omega, fun Dd nD => ?_⟩
      obtain ⟨p0, q1, q2, q3⟩ := lc_ends (K := K) k1 nD j0
      refine lc_range (lo := 0) (n := j.toNat) (LcP K F Γ σ H1 Dd J) p0 ?_ ?_
      · rintro i H' hi hp
        rw [Int.zero_add]
        exact lc_turn (K := K) (w := tD K (.int (i : Nat))) nD q1 q2 q3 hg (by omega) hp (Same.refl _) (.int _) fun f' acc j => hs _ i f' acc rfl hi j
      · intro H' hp
        obtain ⟨f', acc, j, k', s', g'⟩ := lc_done k1 nD hp
        exact c f' _ _ H' (hd f' acc j) k' (s1.trans s') (Rs.back k k1 s1 g')
/-- [elt for x, y in zip(list, list)] -/
theorem w_lcZ {g : TG} {tt : TT} {vs : List Nat} (hg : GIn vs g) (h : WA K F Γ f tA fun f1 zs => ∃ t0 t1 ts us, zs = [t0, t1] ∧ IsLst K t0 ts ∧ IsLst K t1 us ∧ ts.length = us.length ∧ ts.length < 10000 ∧ ∃ J : Nat → Nat → List Ty → Prop, J 0 f1 [] ∧
    (∀ (F' : Fr) (i : Nat) (t u : Ty) (f' : Nat) (acc : List Ty), F'.p = F.p → ts[i]? = some t → us[i]? = some u → J i f' acc → WG K F' (wipeΓ Γ vs) f' g (tTp K [t, u]) fun Γ2 => ows Γ2 = ows Γ ∧ WT K F' Γ2 f' tt fun f2 b => (b = true → W K F' Γ2 f2 te fun f3 r => J (i + 1) f3 (acc ++ [r.t K])) ∧ (b = false → J (i + 1) f2 acc)) ∧
    ∀ f' acc, J ts.length f' acc → κ f' (.new (.lst acc))) : W K F Γ f (tLc (iZip K tA) g tt te vs) κ := fun σ H Q k c => by
  refine r_lcZ (h σ H _ k fun f1 zs xs H1 h1 k1 s1 g1 => ?_)
  obtain ⟨t0, t1, ts, us, rfl, hL, hL2, hlen, hn, J, j0, hs, hd⟩ := h1
  match xs, g1 with
  | [], g1 => exact g1.elim
  | [_], g1 => exact g1.2.elim
  | _ :: _ :: _ :: _, g1 => exact g1.2.2.elim
  | [v, v2], g1 =>
    obtain ⟨a, xs, rfl, hS, hA⟩ := hL g1.1
    obtain ⟨b, ys, rfl, hS2, hA2⟩ := hL2 g1.2.1
    refine ⟨a, b, xs, ys, rfl, hidP_le.seq hS, hidP_le.seq hS2, fun Dd nD => ?_⟩
    have kp := (k1.push (v := .ref a) (t := tLx K a xs ts) ⟨rfl, hS, hA⟩).push (v := .ref b) (t := tLx K b ys us) ⟨rfl, hS2, hA2⟩
    obtain ⟨p0, q1, q2, q3⟩ := lc_ends (K := K) kp nD j0
    have e1 := hA.len
    have e2 := hA2.len
    refine ⟨fun i m H => m = xs.length - i ∧ i ≤ xs.length ∧ LcP K ((F.push (.ref a) (tLx K a xs ts)).push (.ref b) (tLx K b ys us)) Γ σ H1 Dd J i H, ⟨xs.length, by simp, Nat.zero_le _, p0⟩, ?_⟩
    rintro i m H' ⟨rfl, hi, hp⟩
    obtain ⟨_, _, _, _, _, k', _⟩ := id hp
    have fb := (k'.tmp _ List.mem_cons_self).2
    have fa := (k'.tmp _ (List.mem_cons_of_mem _ List.mem_cons_self)).2
    have qx := hidP_le.seq fa.1
    have qy := hidP_le.seq fb.1
    by_cases hlt : i < xs.length
    · have hx : xs[i]? = some xs[i] := List.getElem?_eq_getElem hlt
      have hlt2 : i < ys.length := by omega
      have hy : ys[i]? = some ys[i] := List.getElem?_eq_getElem hlt2
      refine .inr ⟨⟨xs, ys, _, _, qx, qy, hx, hy⟩, LcP K ((F.push (.ref a) (tLx K a xs ts)).push (.ref b) (tLx K b ys us)) Γ σ H1 Dd J (i + 1), fun H' p' => ⟨xs.length - (i + 1), by omega, rfl, hlt, p'⟩, fun v H2 y => ?_⟩
      obtain ⟨T, x', y', rfl, hT, rfl, f1, f2⟩ := y
      have ex : x' = xs[i] := Option.some.inj ((f1 _ qx).symm.trans hx)
      have ey : y' = ys[i] := Option.some.inj ((f2 _ qy).symm.trans hy)
      subst ex
      subst ey
      obtain ⟨t, ht, htx⟩ := fa.2.getV hx
      obtain ⟨u, hu, hux⟩ := fb.2.getV hy
      exact lc_turn (K := K) nD q1 q2 q3 hg (by omega) hp (same_new hT) (tup_new (ts := [t, u]) k' hT ⟨htx, hux, trivial⟩) fun f' acc j => hs _ i t u f' acc rfl ht hu j
    · have e' : i = xs.length := by omega
      refine .inl ⟨⟨xs, ys, qx, qy, .inl (by omega)⟩, ?_⟩
      rw [e', ← e1] at hp
      obtain ⟨f', acc, j, k2, s', g'⟩ := lc_done kp nD hp
      exact c f' _ _ H' (hd f' acc j) k2.pop.pop (s1.trans s') (Rs.back k k1 s1 g')
end

end Fb
/-! Lists side by side, whatever they are. -/
namespace L2
open PySem PySem.Spec PyProof.Rows
/-- two lists one behind the other -/
def rCatQ (K : PySem.W.Frag) : R2 := fun x y H Q => ∃ l b xs zs, x = .ref l ∧ y = .ref b ∧ SqL K H l xs ∧ SqL K H b zs ∧ xs.length + zs.length ≤ sizeLine ∧ ∀ p, H p = none → Q (.ref p) (upd H p (.lst (xs ++ zs)))
theorem op_catQ {X : Cx} : OpR X (binaryOp .Add) (rCatQ X.K) := by
  intro pins s σ H x y v u Q I rx ry h
  obtain ⟨l, b, xs, zs, rfl, rfl, hH, hB, hz, q⟩ := h
  cases rx
  cases ry
  obtain ⟨its, r, ⟨⟨cls, dd, data, sl⟩, n, e, hc, hdd, hd⟩, _⟩ := I.list hH
  obtain ⟨its2, r2, ⟨⟨cls2, dd2, data2, sl2⟩, n2, e2, hc2, hdd2, hd2⟩, _⟩ := I.list hB
  simp only at hc hd hdd hc2 hd2 hdd2
  subst hc hd hdd hc2 hd2 hdd2
  have l1 := r.length
  have l2 := r2.length
  refine concat_meets ⟨_, e, rfl⟩ ⟨_, e2, rfl⟩ noFill_list_add seq_list_add PySem.F.slot_list_add PySem.F.entry_list_add (PySem.F.args_list_add_2 _ _) (list_addW l b its.toArray its2.toArray n n2 none none sl sl2 (by rw [List.size_toArray, List.size_toArray]; omega)) ⟨e, e2, ?_⟩
  have ea : its.toArray ++ its2.toArray = (its ++ its2).toArray := by simp
  rw [ea]
  exact ⟨.ref _, _, I.lnew (t' := s.toks) (r.append r2) (by rw [List.length_append]; omega), rfl, q _ I.fresh⟩
end L2
namespace Fb
open PySem PySem.Spec PyProof.Rows L2

/-- a def told by what it makes of the types of its arguments -/
def spF (P : List Ty → (Rs → Prop) → Prop) : Sp := fun vs H Q _ => ∃ (O : Addr → Prop) (ts : List Ty) (κ : Rs → Prop), (∀ a, O a → ∃ o, H a = some o ∧ fixedO o = false) ∧ TyAll ts vs (hidP O H) ∧ P ts κ ∧ ∀ r v H', κ r → Same H H' → Rs.is O H r v H' → Q v H'
/-- one that draws n times at most of the pool that it gets first -/
def spP (n : Nat) (P : List Ty → (Rs → Prop) → Prop) : Sp := fun vs H Q _ => ∃ (p : Addr) (us : List V) (f : Nat) (O : Addr → Prop) (ts : List Ty) (κ : Rs → Prop), vs = .ref p :: us ∧ PoolAt H p (f + n) ∧ O p ∧ (∀ a, O a → ∃ o, H a = some o ∧ fixedO o = false) ∧ TyAll ts us (hidP O H) ∧ P ts κ ∧
  ∀ r v H', κ r → Keep p H H' → PoolAt H' p f → Rs.is O H r v H' → Q v H'
section
variable {F : Fr} {Γ : List Sl} {f : Nat} {σ : L2.St} {H : Hp} {K : PySem.W.Frag} {κ : Nat → Rs → Prop} {te ta tb : TE} {tA : TA} {D : Ends} {t u : Ty} {ts us : List Ty} {d : PyData} {ds : List PyData} {E : XK} {P : List Ty → (Rs → Prop) → Prop}
theorem spF_run {vs : List V} {Q : VK} {κ' : Rs → Prop} (k : Ok F Γ f σ H) (h : TyAll ts vs (hidP (HS F Γ) H)) (hP : P ts κ') (c : ∀ f' r v H', κ' r → Ok F Γ f' σ H' → Step F H H' → r.is (HS F Γ) H v H' → Q v H') : spF P vs H Q E :=
  ⟨HS F Γ, ts, κ', fun a => k.liveF, h, hP, fun r v H' q s g => c f r v H' q (k.grow s) (Step.of s) g⟩
theorem w_call {sp : Sp} (hsp : ∀ vs H Q, spF P vs H Q E → sp vs H Q E) (h : WA K F Γ f tA fun f1 ts => P ts (κ f1)) : W K F Γ f (tCall sp [] E tA) κ := fun σ H Q k c =>
  h σ H _ k fun f1 ts vs H1 h1 k1 s1 g1 => by
    rw [List.append_nil]
    refine hsp _ _ _ ⟨HS F Γ, ts, κ f1, fun a => k1.liveF, g1, h1, fun r v H' q s g => c f1 r v H' q (k1.grow s) (s1.trans (Step.of s)) (Rs.back k k1 s1 g)⟩
theorem Ok.drawn {p : Addr} {H' : Hp} {f' : Nat} (k : Ok F Γ f σ H) (hp : F.p = some p) (s : Keep p H H') (po : PoolAt H' p f') : Ok F Γ f' σ H' ∧ Step F H H' := by
  have st : Step F H H' := fun a o e n => s a o e fun z => n (by rw [hp, z])
  exact ⟨k.step st fun q hq => by rw [hp] at hq; cases hq; exact po, st⟩
theorem w_callP {sp : Sp} {i n : Nat} (hsp : ∀ vs H Q, spP n P vs H Q E → sp vs H Q E) (hi : Γ[i]? = some .pool) (h : WA K F Γ f tA fun f1 ts => ∃ g, f1 = g + n ∧ P ts (κ g)) : W K F Γ f (tCall sp [] E (tCons (tVar i) tA)) κ := fun σ H Q k c => by
  obtain ⟨p, hp, ei⟩ := k.sl i _ hi
  refine ⟨_, ei, h σ H _ k fun f1 ts vs H1 h1 k1 s1 g1 => ?_⟩
  obtain ⟨g, rfl, h1⟩ := h1
  rw [List.append_nil]
  obtain ⟨op, pa⟩ := k1.po p hp
  refine hsp _ _ _ ⟨p, vs, g, HS F Γ, ts, κ g, rfl, pa, .inl op, fun a => k1.liveF, g1, h1, fun r v H' q s po gg => ?_⟩
  obtain ⟨k2, st⟩ := k1.drawn hp s po
  exact c g r v H' q k2 (s1.trans st) (Rs.back k k1 s1 gg)
/-- a draw -/
theorem w_draw {i : Nat} (hi : Γ[i]? = some .pool) (h : W K F Γ f te fun f1 r => ∃ m : Int, Sub (r.t K) (tD K (.int m)) ∧ 0 < m ∧ m < 2 ^ 200 ∧ ∃ g, f1 = g + 1 ∧ ∀ d, 0 ≤ d → d < m → κ g (.ty (tD K (.int d)))) : W K F Γ f (tCall spDraw [] E (tCons (tVar i) (tCons te tNil))) κ := fun σ H Q k c => by
  obtain ⟨p, hp, ei⟩ := k.sl i _ hi
  refine ⟨_, ei, h σ H _ k fun f1 r v H1 h1 k1 s1 g1 => ?_⟩
  obtain ⟨m, hs, m0, m1, g, rfl, q⟩ := h1
  have e := dp_int (hs (Rs.is_ty k g1))
  subst e
  obtain ⟨op, pa⟩ := k1.po p hp
  show spDraw [.ref p, .int m] H1 Q E
  refine c_draw g pa m0 m1 fun d o h0 h1 po => ?_
  obtain ⟨k2, st⟩ := k1.drawn hp Keep.upd ⟨o, upd_same, po⟩
  exact c g _ _ _ (q d h0 h1) k2 (s1.trans st) (.int d)
/-- an object of a class, with a method's name free -/
def IsO (C : Addr) (m : Str) (t : Ty) : Prop := ∀ {v : V} {H : Hp}, t.is v H → ∃ a dx fs, v = .ref a ∧ H a = some (.ins C dx fs) ∧ fs.lookup m = none
theorem w_meth {C : Addr} {m : Str} {sp : Sp} (hsp : ∀ vs H Q, spF P vs H Q E → sp vs H Q E) (h : W K F Γ f te fun f1 r => IsO C m (r.t K) ∧ WA K F Γ f1 tA fun f2 ts => P (r.t K :: ts) (κ f2)) : W K F Γ f (tMeth C m sp [] E te tA) κ := fun σ H Q k c =>
  h σ H _ k fun f1 r v H1 h1 k1 s1 g1 => by
    have gt := Rs.is_ty k g1 (K := K)
    obtain ⟨a, dx, fs, rfl, e, l⟩ := h1.1 ((r.t K).mono hidP_le gt)
    refine ⟨a, dx, fs, rfl, e, l, h1.2 σ H1 _ k1 fun f2 ts vs H2 h2 k2 s2 g2 => ?_⟩
    rw [List.append_nil]
    exact hsp _ _ _ ⟨HS F Γ, r.t K :: ts, κ f2, fun a => k2.liveF, ⟨(r.t K).mono (s2.hid k1) gt, g2⟩, h2, fun r v H' q s g => c f2 r v H' q (k2.grow s) ((s1.trans s2).trans (Step.of s)) (Rs.back k k2 (s1.trans s2) g)⟩
theorem w_prop {C : Addr} {sp : Sp} (hsp : ∀ vs H Q, spF P vs H Q E → sp vs H Q E) (h : W K F Γ f te fun f1 r => (∀ {v : V} {H : Hp}, (r.t K).is v H → ∃ a dx fs, v = .ref a ∧ H a = some (.ins C dx fs)) ∧ P [r.t K] (κ f1)) : W K F Γ f (tProp C sp [] E te) κ := fun σ H Q k c =>
  h σ H _ k fun f1 r v H1 h1 k1 s1 g1 => by
    have gt := Rs.is_ty k g1 (K := K)
    obtain ⟨a, dx, fs, rfl, e⟩ := h1.1 ((r.t K).mono hidP_le gt)
    exact ⟨a, dx, fs, rfl, e, hsp _ _ _ ⟨HS F Γ, [r.t K], κ f1, fun a => k1.liveF, ⟨gt, trivial⟩, h1.2, fun r v H' q s g => c f1 r v H' q (k1.grow s) (s1.trans (Step.of s)) (Rs.back k k1 s1 g)⟩⟩
/-! ### a def's entry -/
theorem start_sl {N : List Str} {vs : List V} {O : Addr → Prop} {p : Option Addr} : ∀ {ts : List Ty} {vs : List V} (F : Fr) (X : Addr → Prop) (n i : Nat) (s : Sl), TyAll ts vs (hidP X H) → (ts.map Sl.ty ++ List.replicate n Sl.any)[i]? = some s → SlOk F X H s (vs.map some ++ List.replicate n none)[i]?
  | [], [], F, X, n, i, s, _, e => by
    rw [List.map_nil, List.nil_append, List.getElem?_replicate] at e
    rw [List.map_nil, List.nil_append, List.getElem?_replicate]
    split at e
    · cases e
      rw [if_pos ‹_›]
      exact ⟨none, rfl⟩
    · cases e
  | t :: ts, v :: vs, F, X, n, 0, s, h, e => by
    cases e
    exact ⟨v, rfl, h.1⟩
  | t :: ts, v :: vs, F, X, n, i + 1, s, h, e => start_sl (N := N) (vs := vs) (O := O) (p := p) (ts := ts) F X n i s h.2 e
  | [], _ :: _, _, _, _, _, _, h, _ => h.elim
  | _ :: _, [], _, _, _, _, _, h, _ => h.elim
theorem ows_ty {n : Nat} : ∀ ts : List Ty, ows (ts.map Sl.ty ++ List.replicate n Sl.any) = []
  | [] => by
    unfold ows
    rw [List.map_nil, List.nil_append, List.filterMap_eq_nil_iff]
    intro a ha
    rw [(List.mem_replicate.mp ha).2]
    rfl
  | t :: ts => by
    have ih := ows_ty (n := n) ts
    unfold ows at ih ⊢
    rw [List.map_cons, List.cons_append, List.filterMap_cons_none rfl]
    exact ih
theorem entry_ok {vs : List V} {O : Addr → Prop} {n : Nat} (live : ∀ a, O a → ∃ o, H a = some o ∧ fixedO o = false) (h : TyAll ts vs (hidP O H)) : Ok ⟨H, O, none, []⟩ (ts.map Sl.ty ++ List.replicate n Sl.any) 0 (vs.map some ++ List.replicate n none) H := by
  have eo := ows_ty (n := n) ts
  have eH : HS ⟨H, O, none, []⟩ (ts.map Sl.ty ++ List.replicate n Sl.any) = O := by
    funext a
    unfold HS
    rw [eo]
    exact propext ⟨fun z => z.elim id fun y => (by cases y), Or.inl⟩
  refine ⟨by rw [List.length_append, List.length_append, List.length_map, List.length_map, List.length_replicate, List.length_replicate, h.len], fun i s e => ?_, fun a o e _ => e, live, fun a _ => by rw [eo]; exact List.not_mem_nil, by rw [eo]; exact List.nodup_nil, fun a z => (by rw [eo] at z; cases z), fun p z => (by cases z), fun x z => (by cases z)⟩
  rw [eH]
  exact start_sl (N := []) (vs := []) (O := O) (p := none) _ O n i s h e
theorem rt_nx {rt : VK} {ρ : Nat → Rs → Prop} (R : RT F rt ρ) (q : ρ f (.ty (tD K .none))) : NX K F Γ f fun _ H' => rt .non H' := fun σ H k => R f _ _ H q k.base (fun p hp => (k.po p hp).2) (.non : Dp K _ .non .none)
/-- the whole of a def: no pool -/
theorem fn_run {N : List Str} {vs : List V} {Q : VK} {tt : TS} (hl : ∀ ts κ, P ts κ → ts.length ≤ N.length) (body : ∀ (F : Fr) (ts : List Ty) (κ : Rs → Prop), F.p = none → P ts κ → RT F Q (fun _ r => κ r) → S K F (ts.map Sl.ty ++ List.replicate (N.length - ts.length) Sl.any) 0 tt { nx := fun _ H' => Q .non H', rt := Q })
    (h : spF P vs H Q E) : tt { nx := fun _ H' => Q .non H', rt := Q } (L2.start N vs) H := by
  obtain ⟨O, ts, κ, live, hA, hP, q⟩ := h
  have := body ⟨H, O, none, []⟩ ts κ rfl hP (fun f r v H' hr hb _ g => q r v H' hr (fun a o e => hb a o e (fun z => by cases z)) g) (vs.map some ++ List.replicate (N.length - ts.length) none) H (entry_ok live hA)
  unfold L2.start
  rw [← hA.len]
  exact this
theorem entry_okP {vs : List V} {O : Addr → Prop} {n : Nat} {p : Addr} (live : ∀ a, O a → ∃ o, H a = some o ∧ fixedO o = false) (hp : O p) (pa : PoolAt H p f) (h : TyAll ts vs (hidP O H)) : Ok ⟨H, O, some p, []⟩ (Sl.pool :: (ts.map Sl.ty ++ List.replicate n Sl.any)) f (some (.ref p) :: (vs.map some ++ List.replicate n none)) H := by
  have eo : ows (Sl.pool :: (ts.map Sl.ty ++ List.replicate n Sl.any)) = [] := ows_ty (n := n) ts
  have eH : HS ⟨H, O, some p, []⟩ (Sl.pool :: (ts.map Sl.ty ++ List.replicate n Sl.any)) = O := by
    funext a
    unfold HS
    rw [eo]
    exact propext ⟨fun z => z.elim id fun y => (by cases y), Or.inl⟩
  refine ⟨by rw [List.length_cons, List.length_cons, List.length_append, List.length_append, List.length_map, List.length_map, List.length_replicate, List.length_replicate, h.len], fun i s e => ?_, fun a o e _ => e, live, fun a _ => by rw [eo]; exact List.not_mem_nil, by rw [eo]; exact List.nodup_nil, fun a z => (by rw [eo] at z; cases z), fun q z => (by cases z; exact ⟨hp, pa⟩), fun x z => (by cases z)⟩
  rw [eH]
  cases i with
  | zero => cases e; exact ⟨p, rfl, rfl⟩
  | succ i => exact start_sl (N := []) (vs := []) (O := O) (p := none) _ O n i s h e
theorem fn_runP {N : List Str} {vs : List V} {Q : VK} {tt : TS} {n : Nat} (hl : ∀ ts κ, P ts κ → ts.length + 1 ≤ N.length) (body : ∀ (F : Fr) (g : Nat) (ts : List Ty) (κ : Rs → Prop), P ts κ → RT F Q (fun f' r => g ≤ f' ∧ κ r) → S K F (Sl.pool :: (ts.map Sl.ty ++ List.replicate (N.length - (ts.length + 1)) Sl.any)) (g + n) tt { nx := fun _ H' => Q .non H', rt := Q })
    (h : spP n P vs H Q E) : tt { nx := fun _ H' => Q .non H', rt := Q } (L2.start N vs) H := by
  obtain ⟨p, us, g, O, ts, κ, rfl, pa, hp, live, hA, hP, q⟩ := h
  have := body ⟨H, O, some p, []⟩ g ts κ hP (fun f r v H' hr hb hpo gg => q r v H' hr.2 (fun a o e n => hb a o e (fun z => n (Option.some.inj z).symm)) ((hpo p rfl).less hr.1) gg) (some (.ref p) :: (us.map some ++ List.replicate (N.length - (ts.length + 1)) none)) H (entry_okP live hp pa hA)
  unfold L2.start
  rw [List.map_cons, List.length_cons, ← hA.len]
  exact this
/-! ### objects -/
def tBk (CB : Addr × Addr) (K : PySem.W.Frag) (b : Int) (L : List Line) : Ty := ⟨fun v H => ∃ x, v = .ref x ∧ BookC CB K H x b L, fun s ⟨x, e, h⟩ => ⟨x, e, h.same s⟩⟩
def tRw (C : Addr) (CB : Addr × Addr) (K : PySem.W.Frag) (b : Int) (L : List Line) (cs : List Int) : Ty := ⟨fun v H => ∃ y x, v = .ref y ∧ RowC C CB K H y x b L cs, fun s ⟨y, x, e, h⟩ => ⟨y, x, e, h.same s⟩⟩
def tSy (C : Addr) (K : PySem.W.Frag) (S : Sys) : Ty := ⟨fun v H => ∃ y, v = .ref y ∧ SysC C K H y S, fun s ⟨y, e, h⟩ => ⟨y, e, h.same s⟩⟩
theorem isO_bk {CB : Addr × Addr} {b : Int} {L : List Line} {m : Str} (hm : m ∉ ([("_base" : Str), "_names", "_starts", "_formulas", "_system"] : List Str)) : IsO CB.1 m (tBk CB K b L) := fun ⟨x, e, h⟩ => by
  obtain ⟨dx, nm, st, fm, sp, h1, _⟩ := h.ex
  exact ⟨x, dx, _, e, h1, bk_no hm⟩
theorem isO_rw {C : Addr} {CB : Addr × Addr} {b : Int} {L : List Line} {cs : List Int} {m : Str} (hm : m ∉ ([("_book" : Str), "_coefficients"] : List Str)) : IsO C m (tRw C CB K b L cs) := fun ⟨y, x, e, h⟩ => by
  obtain ⟨dx, c, h1, _⟩ := h.ex
  exact ⟨y, dx, _, e, h1, rw_no hm⟩
theorem isO_sy {C : Addr} {S : Sys} {m : Str} (hm : m ∉ ([("_starts" : Str), "_steps"] : List Str)) : IsO C m (tSy C K S) := fun ⟨y, e, h⟩ => by
  obtain ⟨dx, a, c, h1, _⟩ := h.ex
  exact ⟨y, dx, _, e, h1, sy_no hm⟩
theorem isI_of {C : Addr} {m : Str} (h : IsO C m t) : ∀ {v : V} {H : Hp}, t.is v H → ∃ a dx fs, v = .ref a ∧ H a = some (.ins C dx fs) := fun z => by
  obtain ⟨a, dx, fs, e, g, _⟩ := h z
  exact ⟨a, dx, fs, e, g⟩
/-! ### lists -/
theorem wr_cat {t1 t2 : Ty} (h1 : IsLst K t1 ts) (h2 : IsLst K t2 us) (hl : ts.length + us.length ≤ 10000) (q : κ f (.new (.lst (ts ++ us)))) : WR K F Γ f (rCatQ K) t1 t2 κ := fun x y σ H Q k g1 g2 c => by
  obtain ⟨a, vs, rfl, hS, hA⟩ := h1 g1
  obtain ⟨b, ws, rfl, hS2, hA2⟩ := h2 g2
  refine ⟨a, b, vs, ws, rfl, rfl, hidP_le.seq hS, hidP_le.seq hS2, Nat.le_of_lt (small10000 (by rw [← hA.len, ← hA2.len]; exact hl)), fun p np => c f _ _ _ q (k.grow (same_new np)) (Step.of (same_new np)) (new_is k np (hA.app hA2))⟩
theorem w_rep (h : W K F Γ f ta fun f1 r1 => ∃ ts, r1 = .new (.lst ts) ∧ W K F Γ f1 tb fun f2 r2 => ∃ n : Int, Sub (r2.t K) (tD K (.int n)) ∧ -(2 ^ 63) ≤ n ∧ n < 2 ^ 63 ∧ ts.length * n.toNat ≤ 10000 ∧ κ f2 (.new (.lst (List.replicate n.toNat ts).flatten))) : W K F Γ f (tOp rRep ta tb) κ := fun σ H Q k c =>
  h σ H _ k fun f1 r1 x H1 h1 k1 s1 g1 => by
    obtain ⟨ts, rfl, h1⟩ := h1
    refine h1 σ H1 _ k1 fun f2 r2 y H2 h2 k2 s2 g2 => ?_
    obtain ⟨n, hn, n1, n2, hl, q⟩ := h2
    obtain ⟨a, u, rfl, e0, e1, g⟩ := Rs.keep k k1 s2 g1
    have e := dp_int (hn (Rs.is_ty k1 g2))
    subst e
    cases u with
    | lst vs =>
      have g' : TyAll ts vs (hidP (HS F Γ) H2) := TyAll.mono (hidP_mono fun b o e z => ⟨e, fun y => z (.inl y)⟩) g
      refine ⟨a, n, vs, rfl, rfl, e1, n1, n2, Nat.le_of_lt (small10000 (by rw [← g'.len]; exact hl)), fun p np => c f2 _ _ _ q (k2.grow (same_new np)) ((s1.trans s2).trans (Step.of (same_new np))) (Rs.back k k2 (s1.trans s2) (new_is k2 np (g'.rep n.toNat)))⟩
    | _ => exact g.elim
def cutT (ts : List Ty) (lo hi : Option Int) : List Ty := (ts.drop (HT.sIx ts.length 0 lo)).take (HT.sIx ts.length ts.length hi - HT.sIx ts.length 0 lo)
theorem TyAll.cut {vs : List V} (h : TyAll ts vs H) (lo hi : Option Int) : TyAll (cutT ts lo hi) (cutV vs lo hi) H := by
  unfold cutT cutV
  rw [h.len]
  exact (h.drop _).take _
def WO (K : PySem.W.Frag) (F : Fr) (Γ : List Sl) (f : Nat) (to : TO) (κ : Nat → Option Int → Prop) : Prop := ∀ (σ : L2.St) (H : Hp) (Q : Option Int → Hp → Prop), Ok F Γ f σ H → (∀ f' z H', κ f' z → Ok F Γ f' σ H' → Step F H H' → Q z H') → to σ H Q
theorem wo_none {κ : Nat → Option Int → Prop} (q : κ f none) : WO K F Γ f tNoPart κ := fun σ H Q k c => c f none H q k Step.refl
theorem wo_some {κ : Nat → Option Int → Prop} (h : W K F Γ f te fun f1 r => ∃ n : Int, Sub (r.t K) (tD K (.int n)) ∧ κ f1 (some n)) : WO K F Γ f (tPart te) κ := fun σ H Q k c =>
  h σ H _ k fun f1 r v H1 h1 k1 s1 g1 => by
    obtain ⟨n, hn, q⟩ := h1
    have e := dp_int (hn (Rs.is_ty k g1))
    exact ⟨n, e, c f1 _ H1 q k1 s1⟩
theorem w_slL {tl th : TO} (h : W K F Γ f te fun f1 r => ∃ ts, IsLst K (r.t K) ts ∧ WO K F Γ f1 tl fun f2 lo => WO K F Γ f2 th fun f3 hi => κ f3 (.new (.lst (cutT ts lo hi)))) : W K F Γ f (tSl (rSlL K) te tl th) κ := fun σ H Q k c =>
  h σ H _ k fun f1 r v H1 h1 k1 s1 g1 => by
    obtain ⟨ts, hL, h1⟩ := h1
    have gt := Rs.is_ty k g1 (K := K)
    refine h1 σ H1 _ k1 fun f2 lo H2 h2 k2 s2 => h2 σ H2 _ k2 fun f3 hi H3 h3 k3 s3 => ?_
    obtain ⟨a, vs, rfl, hS, hA⟩ := hL ((r.t K).mono ((s2.trans s3).hid k1) gt)
    exact ⟨a, vs, rfl, hidP_le.seq hS, fun p np => c f3 _ _ _ h3 (k3.grow (same_new np)) ((s1.trans (s2.trans s3)).trans (Step.of (same_new np))) (Rs.back k k3 (s1.trans (s2.trans s3)) (new_is k3 np (hA.cut lo hi)))⟩
theorem w_revL (h : W K F Γ f te fun f1 r => ∃ ts, IsLst K (r.t K) ts ∧ κ f1 (.new (.lst ts.reverse))) : W K F Γ f (tRevL K te) κ := fun σ H Q k c =>
  h σ H _ k fun f1 r v H1 h1 k1 s1 g1 => by
    obtain ⟨ts, hL, q⟩ := h1
    obtain ⟨a, vs, rfl, hS, hA⟩ := hL (Rs.is_ty k g1)
    exact ⟨a, vs, rfl, hidP_le.seq hS, fun p np => c f1 _ _ _ q (k1.grow (same_new np)) (s1.trans (Step.of (same_new np))) (Rs.back k k1 s1 (new_is k1 np hA.rev))⟩
/-- repr of what is made of lists, tuples, ints and texts -/
abbrev rReprD (K : PySem.W.Frag) : List V → Hp → VK → Prop := fun xs H Q => ∃ (a : Addr) (d : PyData), xs = [.ref a] ∧ Dp K H (.ref a) d ∧ d.showable = true ∧ d.hasDict = false ∧ d.depth ≤ 64 ∧ d.shown.length ≤ sizeLine ∧ Q (.str d.shown) H
theorem wc_repr {t1 : Ty} (h1 : IsDat K t1 d) (hs : (∃ es, d = .list es) ∨ ∃ es, d = .tuple es) (T : Told d) (q : κ f (.ty (tD K (.str d.shown)))) : WC K F Γ f (rReprD K) [t1] κ := fun xs σ H Q k g c => by
  match xs, g with
  | [], g => exact g.elim
  | _ :: _ :: _, g => exact g.2.elim
  | [x], g =>
    have hd := dp_same hidP_le (h1 g.1)
    obtain ⟨a, rfl⟩ : ∃ a, x = .ref a := by
      rcases hs with ⟨es, rfl⟩ | ⟨es, rfl⟩
      · obtain ⟨a, _, e, _⟩ := dp_list hd
        exact ⟨a, e⟩
      · obtain ⟨a, _, e, _⟩ := dp_tuple hd
        exact ⟨a, e⟩
    exact ⟨a, d, rfl, hd, T.1, T.2, T.3, T.4, c f _ _ H q k Step.refl (.str _)⟩
theorem wr_neS {x y : Str} (q : κ f (.ty (tD K (.bool (!decide (x = y)))))) : WR K F Γ f rNe (tD K (.str x)) (tD K (.str y)) κ := fun v w σ H Q k g1 g2 c => by
  rw [dp_str g1, dp_str g2]
  refine ⟨rfl, ?_⟩
  have e : decide (V.str x = V.str y) = decide (x = y) := by
    by_cases h : x = y
    · rw [h, decide_eq_true rfl, decide_eq_true rfl]
    · rw [decide_eq_false h, decide_eq_false (fun z => h (by injection z))]
  rw [e]
  exact c f _ _ H q k Step.refl (.bl _)
theorem wr_eqS {x y : Str} (q : κ f (.ty (tD K (.bool (decide (x = y)))))) : WR K F Γ f rEq (tD K (.str x)) (tD K (.str y)) κ := fun v w σ H Q k g1 g2 c => by
  rw [dp_str g1, dp_str g2]
  refine ⟨rfl, ?_⟩
  have e : decide (V.str x = V.str y) = decide (x = y) := by
    by_cases h : x = y
    · rw [h, decide_eq_true rfl, decide_eq_true rfl]
    · rw [decide_eq_false h, decide_eq_false (fun z => h (by injection z))]
  rw [e]
  exact c f _ _ H q k Step.refl (.bl _)
end

end Fb
/-! Calls by keywords alone; truth; rules over what stands in slots for these. -/
namespace L2
open PySem PySem.Spec PyProof.Rows
def tCallK0 (sp : Sp) (m : Nat) (gV : List V → List V → List V) (E : XK) (tk : TA) : TE := fun σ H Q => tk σ H fun zs H2 => zs.length = m ∧ sp (gV [] zs) H2 Q E
section
variable {X : Cx} {CX : CXT} {k : Nat} {f : Addr} {fd : FuncData} {ps ks : List Str} {sp : Sp} {E : XK} {p pos : Pos} {x : Str} {kws : List Keyword} {tk : TA} {g : List Value → List Value → List Value} {gV : List V → List V → List V}
theorem pe_callK0 (F : FnOk X.prog X.w X.K X.mg X.base CX k f fd ps sp) (hr : Room k X.A) (hg : Gl X x) (hm : X.mg x = some (.ref f)) (hk : PySem.W.keepIn X.K (.ref f) = true) (hb : KBn X.K fd ps 0 ks g gV) (hx : Passes CX X E) (hkw : PK X kws tk)
    (hall : (backToKw pos (keywordEach kws X.env)).all (·.1.isSome) = true := by rfl) (hks : (backToKw pos (keywordEach kws X.env)).filterMap (·.1) = ks := by rfl) (hdb : (x == ("__debug__" : Str)) = false := by decide)
    (hpl : ((backTo pos (starEach [] X.env)).any (·.1) || (backToKw pos (keywordEach kws X.env)).any (·.1.isNone)) = false := by rfl) :
    PE X (.Call (.Name x p) [] kws pos) (tCallK0 sp ks.length gV E tk) := by
  refine ⟨fun pins s σ H Q I h => ?_⟩
  refine wpAny_Call_Name_kw (ld_glob I hg hm ?_ hdb)
  refine PySem.W.callWith_KW0 (h₀ := X.base) I.ok.mod.kin hk hall ?_ hpl
  refine thn (hkw.run pos pins s σ H _ I h) fun ws s2 ⟨zs, H2, I2, rz, l2, q2⟩ => ⟨I2.kIn, ?_⟩
  rw [hks]
  refine wpAny_call (codeAny_mono (F.run X.A X.stack s2 H2 ⟨[], ks.zip ws⟩ (g [] ws) (gV [] zs) Q E hr I2.env0 (hb.to s2 [] ws I2.kIn rfl (rz.length.symm.trans l2)) (hb.rel .nil rz) q2) ?_)
  intro r s3 y
  match r, y with
  | .error e, y => exact hx pins σ H2 s2 e s3 I2 y
  | .ok (.ret u), y => exact I2.after y
end
end L2
namespace Fb
open PySem PySem.Spec PyProof.Rows L2

section
variable {F : Fr} {Γ : List Sl} {f : Nat} {σ : L2.St} {H : Hp} {K : PySem.W.Frag} {κ : Nat → Rs → Prop} {te ta tb tc : TE} {tA : TA} {D : Ends} {t u : Ty} {ts us : List Ty} {d : PyData} {ds : List PyData} {E : XK} {P : List Ty → (Rs → Prop) → Prop}
theorem w_callK0 {sp : Sp} {n : Nat} (hsp : ∀ vs H Q, spF P vs H Q E → sp vs H Q E) (h : WA K F Γ f tA fun f1 ts => ts.length = n ∧ P ts.reverse (κ f1)) : W K F Γ f (tCallK0 sp n (fun vs zs => vs ++ zs.reverse) E tA) κ := fun σ H Q k c =>
  h σ H _ k fun f1 ts vs H1 h1 k1 s1 g1 => ⟨g1.len ▸ h1.1, hsp _ _ _ ⟨HS F Γ, ts.reverse, κ f1, fun a => k1.liveF, g1.rev, h1.2, fun r v H' q s g => c f1 r v H' q (k1.grow s) (s1.trans (Step.of s)) (Rs.back k k1 s1 g)⟩⟩
theorem wt_tru {κ : Nat → Bool → Prop} (h : W K F Γ f te fun f1 r => ∃ ts, (IsLst K (r.t K) ts ∨ IsTup K (r.t K) ts) ∧ κ f1 (!ts.isEmpty)) : WT K F Γ f (fun σ H Q => te σ H fun x H' => ∃ k, TruV K x H' k ∧ Q k H') κ := fun σ H Q k c =>
  h σ H _ k fun f1 r v H1 h1 k1 s1 g1 => by
    obtain ⟨ts, hL, q⟩ := h1
    have gt := Rs.is_ty k g1 (K := K)
    have e : ∀ {vs : List V}, TyAll ts vs (hidP (HS F Γ) H1) → vs.isEmpty = ts.isEmpty := fun {vs} hA => by
      have := hA.len
      cases ts <;> cases vs <;> first | rfl | cases this
    rcases hL with hL | hL
    · obtain ⟨a, vs, rfl, hS, hA⟩ := hL gt
      exact ⟨!ts.isEmpty, .inl ⟨vs, hidP_le.seq hS, by rw [e hA]⟩, c f1 _ H1 q k1 s1⟩
    · obtain ⟨a, vs, rfl, hS, hA⟩ := hL gt
      exact ⟨!ts.isEmpty, .inr (.inl ⟨vs, sqt_same hidP_le hS, by rw [e hA]⟩), c f1 _ H1 q k1 s1⟩
theorem w_chain {r r' : R2} (h : W K F Γ f ta fun f1 r1 => W K F Γ f1 tb fun f2 r2 => WR K F Γ f2 r (r1.t K) (r2.t K) fun f3 r3 => WB K r3 fun b => (b = true → W K F Γ f3 tc fun f4 r4 => WR K F Γ f4 r' (r2.t K) (r4.t K) κ) ∧ (b = false → κ f3 (.ty (tD K (.bool false))))) : W K F Γ f (tChain r r' ta tb tc) κ := fun σ H Q k c =>
  h σ H _ k fun f1 r1 x H1 h1 k1 s1 g1 => h1 σ H1 _ k1 fun f2 r2 y H2 h2 k2 s2 g2 => by
    have gx := (r1.t K).mono (s2.hid k1) (Rs.is_ty k g1)
    have gy := Rs.is_ty k1 g2 (K := K)
    refine h2 x y σ H2 _ k2 gx gy fun f3 r3 z H3 h3 k3 s3 g3 => ?_
    obtain ⟨b, hb, q⟩ := h3
    have e := hb (Rs.is_ty k2 g3)
    cases e
    refine ⟨b, rfl, ?_⟩
    cases b with
    | false =>
      rw [if_neg Bool.false_ne_true]
      exact c f3 _ _ H3 (q.2 rfl) k3 ((s1.trans s2).trans s3) (.bl false)
    | true =>
      rw [if_pos rfl]
      refine q.1 rfl σ H3 _ k3 fun f4 r4 w H4 h4 k4 s4 g4 => ?_
      exact h4 y w σ H4 Q k4 ((r2.t K).mono ((s3.trans s4).hid k2) gy) (Rs.is_ty k3 g4) fun f5 r5 v H5 h5 k5 s5 g5 => c f5 r5 v H5 h5 k5 (((s1.trans s2).trans (s3.trans s4)).trans s5) (Rs.back k k4 ((s1.trans s2).trans (s3.trans s4)) g5)
/-- rows compared by their own == -/
theorem wr_eqRow {C : Addr} {CB : Addr × Addr} {b b' : Int} {L L' : List Line} {cs cs' : List Int} (cl : Cls K C) (ic : IsC K C) (nf : PySem.W.notFirst K C (.ref C) = true) (S1 : Sound b L) (S2 : Sound b' L') (h1 : ∀ c ∈ cs, c.natAbs < 2 ^ 99) (h2 : ∀ c ∈ cs', c.natAbs < 2 ^ 99) (q : κ f (.ty (tD K (.bool (bookAns b b' L L' && decide (cs = cs')))))) :
    WR K F Γ f (rEqB K C (EqRow C CB K) false) (tRw C CB K b L cs) (tRw C CB K b' L' cs') κ := fun x y σ H Q k g1 g2 c => by
  obtain ⟨y1, x1, rfl, R1⟩ := g1
  obtain ⟨y2, x2, rfl, R2⟩ := g2
  have R1 := R1.same hidP_le
  have R2 := R2.same hidP_le
  obtain ⟨dx, c1, e1, _⟩ := R1.ex
  obtain ⟨dx2, c2, e2, _⟩ := R2.ex
  exact ⟨y1, dx, _, _, _, rfl, e1, .base (.ins e2 cl ic.ha ic.hn ic.ht ic.hm), nf, ⟨x1, b, L, cs, R1, S1, h1, .inl ⟨y2, x2, b', L', cs', rfl, R2, S2, h2, rfl⟩⟩, fun H' ex => by
    have ex : Same H H' := ex
    exact c f _ _ H' q (k.grow ex) (Step.of ex) (.bl _)⟩
theorem wr_eqBook {CB : Addr × Addr} {b b' : Int} {L L' : List Line} (cl : Cls K CB.1) (ic : IsC K CB.1) (nf : PySem.W.notFirst K CB.1 (.ref CB.1) = true) (S1 : Sound b L) (S2 : Sound b' L') (q : κ f (.ty (tD K (.bool (bookAns b b' L L'))))) :
    WR K F Γ f (rEqB K CB.1 (EqBook CB K) false) (tBk CB K b L) (tBk CB K b' L') κ := fun x y σ H Q k g1 g2 c => by
  obtain ⟨x1, rfl, B1⟩ := g1
  obtain ⟨x2, rfl, B2⟩ := g2
  have B1 := B1.same hidP_le
  have B2 := B2.same hidP_le
  obtain ⟨dx, _, _, _, _, e1, _⟩ := B1.ex
  obtain ⟨dx2, _, _, _, _, e2, _⟩ := B2.ex
  exact ⟨x1, dx, _, _, _, rfl, e1, .base (.ins e2 cl ic.ha ic.hn ic.ht ic.hm), nf, ⟨b, L, B1, S1, .inl ⟨x2, b', L', rfl, B2, S2, rfl⟩⟩, fun H' ex => by
    have ex : Same H H' := ex
    exact c f _ _ H' q (k.grow ex) (Step.of ex) (.bl _)⟩
theorem l1000 {α : Type} {xs : List α} {P : Prop} (h : Nat.ble xs.length 1000 = true) (q : P) : xs.length ≤ 1000 ∧ P := ⟨Nat.le_of_ble_eq_true h, q⟩
theorem ex_new {P : List Ty → Prop} (q : P ts) : ∃ us, Rs.new (.lst ts) = .new (.lst us) ∧ P us := ⟨ts, rfl, q⟩
theorem wr_pow {i j : Int} (h : CPowW i j) (q : κ f (.ty (tD K (.int (i ^ j.toNat))))) : WR K F Γ f (rI CPowW fun i j => .int (i ^ j.toNat)) (tD K (.int i)) (tD K (.int j)) κ := fun x y σ H Q k g1 g2 c => by
  rw [dint g1, dint g2]
  exact ⟨i, j, rfl, rfl, h, c f _ _ H q k Step.refl (.int _)⟩
theorem nx_go {P : L2.St → Hp → Prop} (h : NX K F Γ f P) : NX K F Γ f P := h
/-- ints as types -/
abbrev tNs (K : PySem.W.Frag) (ns : List Int) : List Ty := (ns.map PyData.int).map (tD K)
abbrev dNs (ns : List Int) : PyData := .list (ns.map PyData.int)
theorem isDat_ns {ns : List Int} : IsDat K (tL K (tNs K ns)) (dNs ns) := isDat_L isDats_map
theorem isLst_ns {ns : List Int} : IsLst K (tD K (dNs ns)) (tNs K ns) := isLst_D
theorem isLst_ns_of {ns : List Int} (h : IsDat K t (dNs ns)) : IsLst K t (tNs K ns) := fun g => isLst_ns (h g)
theorem tNs_snoc {ns : List Int} {c : Int} : tNs K ns ++ [tD K (.int c)] = tNs K (ns ++ [c]) := by
  show _ = ((ns ++ [c]).map PyData.int).map (tD K)
  rw [List.map_append, List.map_append]
  rfl
theorem tNs_range {φ : Nat → Int} {i : Nat} : tNs K ((List.range i).map φ) ++ [tD K (.int (φ i))] = tNs K ((List.range (i + 1)).map φ) := by
  rw [tNs_snoc, List.range_succ, List.map_append]
  rfl
theorem tNs_len {ns : List Int} : (tNs K ns).length = ns.length := by rw [List.length_map, List.length_map]
theorem tNs_at {ns : List Int} {i : Nat} {c : Int} (h : ns[i]? = some c) : (tNs K ns)[i]? = some (tD K (.int c)) := by rw [List.getElem?_map, List.getElem?_map, h]; rfl
theorem tNs_of {ns : List Int} {i : Nat} {w : Ty} (h : (tNs K ns)[i]? = some w) : ∃ c, ns[i]? = some c ∧ w = tD K (.int c) := by
  rw [List.getElem?_map, List.getElem?_map] at h
  cases e : ns[i]? with
  | none => rw [e] at h; cases h
  | some c => rw [e] at h; cases h; exact ⟨c, rfl, rfl⟩
theorem vals_ns {X : Hp} {ns : List Int} {vs : List V} (h : TyAll (tNs K ns) vs X) : vs = ns.map V.int := by
  have hd := tyAll_data.mp h
  have hl := dpa_len hd
  rw [List.length_map] at hl
  refine ext_map hl fun i v z e1 e2 => ?_
  obtain ⟨z', h3, h4⟩ := dpa_at hd e1
  rw [e2] at h3
  cases h3
  exact dp_int h4
theorem ns_vals {X : Hp} : ∀ ns : List Int, TyAll (tNs K ns) (ns.map V.int) X := fun ns => tyAll_data.mpr (dpa_ints ns)
/-- a list of ints, read -/
theorem ns_list {X : Hp} {v : V} {ns : List Int} (h : IsDat K t (dNs ns)) (g : t.is v X) : ∃ a, v = .ref a ∧ SqL K X a (ns.map V.int) := by
  obtain ⟨a, vs, e, hS, hA⟩ := dp_list (h g)
  have := vals_ns (K := K) (tyAll_data.mpr hA)
  subst this
  exact ⟨a, e, hS⟩
theorem new_ns {X : Addr → Prop} {H0 H1 : Hp} {r : Addr} {ns : List Int} (n : H0 r = none) (e : H1 r = some (.lst (ns.map V.int))) : Rs.is X H0 (.new (.lst (tNs K ns))) (.ref r) H1 := ⟨r, _, rfl, n, e, ns_vals ns⟩
theorem s_asgD {i : Nat} (d : PyData) (h : W K F Γ f te fun f1 r => IsDat K (r.t K) d ∧ NX K F (Γ.set i (.ty (tD K d))) f1 D.nx) : S K F Γ f (tAsg te (gName i)) D := fun σ H k =>
  h σ H _ k fun f1 r v H1 h1 k1 s1 g1 => h1.2 _ H1 (k1.put (h1.1 (Rs.is_ty k g1)))
theorem s_parD {i j : Nat} (d e : PyData) (h : WA K F Γ f tA fun f1 ts => ∃ t u, ts = [t, u] ∧ IsDat K t d ∧ IsDat K u e ∧ NX K F ((Γ.set i (.ty (tD K d))).set j (.ty (tD K e))) f1 D.nx) : S K F Γ f (tPar i j tA) D := fun σ H k =>
  h σ H _ k fun f1 ts vs H1 h1 k1 s1 g1 => by
    obtain ⟨t, u, rfl, hd, he, q⟩ := h1
    match vs, g1 with
    | [v, w], g1 =>
      have sb : (ows (Γ.set i (.ty (tD K d)))).Sublist (ows Γ) := ows_set_sub rfl
      exact ⟨v, w, rfl, q _ _ ((k1.put (t := tD K d) (hd g1.1)).put (t := tD K e) (dp_same (hidP_mono fun a o e n => ⟨e, fun z => n (z.imp id fun y => sb.subset y)⟩) (he g1.2.1)))⟩
    | [], g1 => exact g1.elim
    | [_], g1 => exact g1.2.elim
    | _ :: _ :: _ :: _, g1 => exact g1.2.2.elim
/-- an item of a list, whichever it is -/
theorem wr_ixAny {t1 : Ty} {i : Int} (h1 : IsLst K t1 ts) (h0 : 0 ≤ i) (hn : i < (ts.length : Nat)) (q : ∀ u ∈ ts, κ f (.ty u)) : WR K F Γ f (rIxL K) t1 (tD K (.int i)) κ := by
  have hl : i.toNat < ts.length := by omega
  exact wr_ixL i.toNat h1 (by omega) (List.getElem?_eq_getElem hl) (q _ (List.getElem_mem hl))
theorem wr_ixNs {t1 : Ty} {i : Int} (ns : List Int) (h1 : IsLst K t1 (tNs K ns)) (h0 : 0 ≤ i) (hn : i < (ns.length : Nat)) (q : ∀ c ∈ ns, κ f (.ty (tD K (.int c)))) : WR K F Γ f (rIxL K) t1 (tD K (.int i)) κ :=
  wr_ixAny h1 h0 (by rw [tNs_len]; exact hn) fun u hu => by
    obtain ⟨d, hd, rfl⟩ := List.mem_map.mp hu
    obtain ⟨c, hc, rfl⟩ := List.mem_map.mp hd
    exact q c hc
theorem nw_hidP {p : Addr} {O : Addr → Prop} {H H' : Hp} (op : O p) (live : ∀ a, O a → ∃ o, H a = some o ∧ fixedO o = false) : Same (nw (hid p H) (hid p H')) (hidP O H') := fun a u e => by
  obtain ⟨h1, n⟩ := hid_of (nw_le a u e)
  refine hidP_at h1 fun z => ?_
  obtain ⟨o, h2, fx⟩ := live a z
  unfold nw at e
  rw [hid_at h2 n] at e
  exact absurd ((if_neg (by rw [fx]; exact Bool.false_ne_true)).symm.trans e) (fun z => by cases z)
theorem nw_hidP0 {O : Addr → Prop} {H H' : Hp} (live : ∀ a, O a → ∃ o, H a = some o ∧ fixedO o = false) : Same (nw H H') (hidP O H') := fun a u e => by
  refine hidP_at (nw_le a u e) fun z => ?_
  obtain ⟨o, h2, fx⟩ := live a z
  unfold nw at e
  rw [h2] at e
  exact absurd ((if_neg (by rw [fx]; exact Bool.false_ne_true)).symm.trans e) (fun z => by cases z)
theorem w_dat {κ' : Nat → Rs → Prop} (h : W K F Γ f te fun f1 r => ∃ d, IsDat K (r.t K) d ∧ κ' f1 (.ty (tD K d))) : W K F Γ f te κ' := fun σ H Q k c =>
  h σ H Q k fun f1 r v H1 ⟨d, hd, q⟩ k1 s1 g1 => c f1 _ v H1 q k1 s1 (hd (Rs.is_ty k g1))
theorem s_retD {ρ : Nat → Rs → Prop} (R : RT F D.rt ρ) (h : W K F Γ f te fun f1 r => ∃ d, IsDat K (r.t K) d ∧ ρ f1 (.ty (tD K d))) : S K F Γ f (tRet te) D := s_ret R (w_dat h)
theorem bookAns_self {b : Int} {L : List Line} (S : Sound b L) : bookAns b b L L = true := by
  have h : PyData.eqv (.list (L.map fun l => dForms l.2.2)) (.list (L.map fun l => dForms l.2.2)) = true := (nice_list (k := 3) (w := 4 * (100 * 203 + 1)) (n := 26) (fun d hd => by
    obtain ⟨l, hl, rfl⟩ := List.mem_map.mp hd
    exact nice_sound S hl) (by have := S.many; rw [List.length_map]; exact this)).eqv
  unfold bookAns
  rw [decide_eq_true rfl, decide_eq_true rfl, decide_eq_true rfl, h]
  rfl
end

/-! Texts in lists, dicts by names, lists that are changed at an index; over what stands in slots. -/
section
variable {F : Fr} {Γ : List Sl} {f : Nat} {σ : L2.St} {H : Hp} {K : PySem.W.Frag} {κ : Nat → Rs → Prop} {te ta tb tc : TE} {tA : TA} {D : Ends} {t u : Ty} {ts us : List Ty} {d : PyData} {ds : List PyData} {E : XK} {P : List Ty → (Rs → Prop) → Prop}
/-! ### texts -/
abbrev tSs (K : PySem.W.Frag) (ns : List Str) : List Ty := (ns.map PyData.str).map (tD K)
abbrev dSs (ns : List Str) : PyData := .list (ns.map PyData.str)
theorem isDat_ss {ns : List Str} : IsDat K (tL K (tSs K ns)) (dSs ns) := isDat_L isDats_map
theorem isLst_ss {ns : List Str} : IsLst K (tD K (dSs ns)) (tSs K ns) := isLst_D
theorem tSs_snoc {ns : List Str} {c : Str} : tSs K ns ++ [tD K (.str c)] = tSs K (ns ++ [c]) := by
  show _ = ((ns ++ [c]).map PyData.str).map (tD K)
  rw [List.map_append, List.map_append]
  rfl
theorem tSs_app {ns ms : List Str} : tSs K ns ++ tSs K ms = tSs K (ns ++ ms) := by
  show _ = ((ns ++ ms).map PyData.str).map (tD K)
  rw [List.map_append, List.map_append]
theorem tSs_len {ns : List Str} : (tSs K ns).length = ns.length := by rw [List.length_map, List.length_map]
theorem tSs_of {ns : List Str} {i : Nat} {w : Ty} (h : (tSs K ns)[i]? = some w) : ∃ c, ns[i]? = some c ∧ w = tD K (.str c) := by
  rw [List.getElem?_map, List.getElem?_map] at h
  cases e : ns[i]? with
  | none => rw [e] at h; cases h
  | some c => rw [e] at h; cases h; exact ⟨c, rfl, rfl⟩
theorem vals_ss {X : Hp} {ns : List Str} {vs : List V} (h : DpAll K X vs (ns.map PyData.str)) : vs = ns.map V.str := by
  have hl := dpa_len h
  rw [List.length_map] at hl
  refine ext_map hl fun i v z e1 e2 => ?_
  obtain ⟨z', h3, h4⟩ := dpa_at h e1
  rw [e2] at h3
  cases h3
  exact dp_str h4
theorem ss_list {X : Hp} {v : V} {ns : List Str} (h : IsDat K t (dSs ns)) (g : t.is v X) : ∃ a, v = .ref a ∧ SqL K X a (ns.map V.str) := by
  obtain ⟨a, vs, e, hS, hA⟩ := dp_list (h g)
  have := vals_ss hA
  subst this
  exact ⟨a, e, hS⟩
theorem wr_inS {x : Str} {ns : List Str} {t2 : Ty} {neg : Bool} (h2 : IsDat K t2 (dSs ns)) (q : κ f (.ty (tD K (.bool (if neg = true then !decide (x ∈ ns) else decide (x ∈ ns)))))) : WR K F Γ f (rIn K neg) (tD K (.str x)) t2 κ := fun v w σ H Q k g1 g2 c => by
  rw [dp_str g1]
  obtain ⟨a, rfl, hS⟩ := ss_list h2 g2
  refine ⟨a, _, rfl, .inl (hidP_le.seq hS), rfl, all_flat_strs _, ?_⟩
  rw [inV_strs]
  exact c f _ _ H q k Step.refl (.bl _)
theorem inV_ints (i : Int) : ∀ ns : List Int, inV (.int i) (ns.map V.int) = decide (i ∈ ns)
  | [] => rfl
  | n :: r => by
    have ih := inV_ints i r
    show (eqV (.int n) (.int i) || inV (.int i) (r.map V.int)) = decide (i ∈ n :: r)
    rw [ih]
    by_cases h : n = i
    · subst h
      show ((n == n) || _) = _
      simp
    · show ((n == i) || _) = _
      have h' : ¬ i = n := fun z => h z.symm
      simp [h, h']
theorem all_flat_ints : ∀ ns : List Int, (ns.map V.int).all flatV = true
  | [] => rfl
  | n :: r => by
    show (flatV (.int n) && (r.map V.int).all flatV) = true
    rw [all_flat_ints r]
    rfl
theorem wr_inI {i : Int} {ns : List Int} {t2 : Ty} {neg : Bool} (h2 : IsTup K t2 (tNs K ns)) (q : κ f (.ty (tD K (.bool (if neg = true then !decide (i ∈ ns) else decide (i ∈ ns)))))) : WR K F Γ f (rIn K neg) (tD K (.int i)) t2 κ := fun v w σ H Q k g1 g2 c => by
  rw [dint g1]
  obtain ⟨a, vs, rfl, hS, hA⟩ := h2 g2
  have := vals_ns hA
  subst this
  refine ⟨a, _, rfl, .inr (sqt_same hidP_le hS), rfl, all_flat_ints _, ?_⟩
  rw [inV_ints]
  exact c f _ _ H q k Step.refl (.bl _)
theorem wr_notinZ {x y : Str} (q : κ f (.ty (tD K (.bool (!!(Builtin.Str.occurrences y x 0 y.length 1).isEmpty))))) : WR K F Γ f (fun x y H Q => ∃ i j, x = V.str i ∧ y = V.str j ∧ Q (V.bl !!(Builtin.Str.occurrences j i 0 j.length 1).isEmpty) H) (tD K (.str x)) (tD K (.str y)) κ := fun v w σ H Q k g1 g2 c => by
  rw [dp_str g1, dp_str g2]
  exact ⟨_, _, rfl, rfl, c f _ _ H q k Step.refl (.bl _)⟩
theorem wc_lenS {x : Str} (h : x.length ≤ 1000) (q : κ f (.ty (tD K (.int (x.length : Nat))))) : WC K F Γ f (fun xs H Q => ∃ z, xs = [V.str z] ∧ z.length ≤ sizeLine ∧ Q (V.int (z.length : Nat)) H) [tD K (.str x)] κ := fun xs σ H Q k g c => by
  match xs, g with
  | [], g => exact g.elim
  | _ :: _ :: _, g => exact g.2.elim
  | [v], g =>
    rw [dp_str g.1]
    exact ⟨_, rfl, Nat.le_of_lt (small1000 h), c f _ _ H q k Step.refl (.int _)⟩
theorem eqv_nil {ds : List PyData} : PyData.eqv (.list ds) (.list []) = ds.isEmpty := by
  cases ds with
  | nil => rfl
  | cons d ds => rfl
/-! ### dicts by names -/
def tDS (L : List Line) : Ty := ⟨fun v X => ∃ a, v = .ref a ∧ Rd X a (.dK (L.map fun l => ((Sum.inr l.1 : Key), V.int l.2.1))), fun {v X Y} s h => by
  obtain ⟨a, e, h⟩ := h
  exact ⟨a, e, h.elim (fun z => .inl (s _ _ z)) fun ⟨o, z⟩ => .inr ⟨o, s _ _ z⟩⟩⟩
theorem pairs_of {X : Hp} : ∀ {L : List Line} {vs : List V}, TyAll (L.map fun l => tTp K [tD K (.str l.1), tD K (.int l.2.1)]) vs X → ∃ ps : List Addr, vs = ps.map V.ref ∧ Paired (fun p (kv : Key × V) => SqT K X p [kV kv.1, kv.2]) ps (L.map fun l => ((Sum.inr l.1 : Key), V.int l.2.1))
  | [], [], _ => ⟨[], rfl, .nil⟩
  | l :: L, v :: vs, h => by
    obtain ⟨ps, e, r⟩ := pairs_of (L := L) (vs := vs) h.2
    obtain ⟨a, ws, ea, hS, hA⟩ := h.1
    match ws, hA with
    | [w1, w2], hA =>
      have e1 : w1 = .str l.1 := dp_str hA.1
      have e2 : w2 = .int l.2.1 := dp_int hA.2.1
      subst e1 e2 ea e
      exact ⟨a :: ps, rfl, .cons hS r⟩
    | [], hA => exact hA.elim
    | [_], hA => exact hA.2.elim
    | _ :: _ :: _ :: _, hA => exact hA.2.2.elim
  | [], _ :: _, h => h.elim
  | _ :: _, [], h => h.elim
theorem paired_mono {α β : Type} {R S : α → β → Prop} (h : ∀ a b, R a b → S a b) : ∀ {xs : List α} {ys : List β}, Paired R xs ys → Paired S xs ys
  | [], [], _ => .nil
  | _ :: _, _ :: _, .cons a b => .cons (h _ _ a) (paired_mono h b)
theorem wc_dictL {t1 : Ty} (L : List Line) (h1 : IsLst K t1 (L.map fun l => tTp K [tD K (.str l.1), tD K (.int l.2.1)])) (nd : (names L).Nodup) (q : κ f (.ty (tDS L))) :
    WC K F Γ f (fun xs H Q => ∃ a ps kvs, xs = [V.ref a] ∧ SqL K H a (List.map V.ref ps) ∧ Paired (fun p (kv : Key × V) => SqT K H p [kV kv.1, kv.2]) ps kvs ∧ ∀ p : Addr, H p = none → Q (V.ref p) (upd H p (HO.dK (mergeK [] kvs)))) [t1] κ := fun xs σ H Q k g c => by
  match xs, g with
  | [], g => exact g.elim
  | _ :: _ :: _, g => exact g.2.elim
  | [v], g =>
    obtain ⟨a, vs, rfl, hS, hA⟩ := h1 g.1
    obtain ⟨ps, rfl, r⟩ := pairs_of hA
    refine ⟨a, ps, _, rfl, hidP_le.seq hS, paired_mono (fun p kv h => sqt_same hidP_le h) r, fun p np => ?_⟩
    rw [merge_new (acc := []) (by
      rw [List.nil_append, List.map_map]
      have : (names L).map (Sum.inr : Str → Key) = L.map ((fun x : Key × V => x.1) ∘ fun l => ((Sum.inr l.1 : Key), V.int l.2.1)) := by
        unfold names
        rw [List.map_map]
        rfl
      rw [← this]
      exact List.Pairwise.map _ (fun a b h e => h (Sum.inr.inj e)) nd), List.nil_append]
    exact c f _ _ _ q (k.grow (same_new np)) (Step.of (same_new np)) ⟨p, rfl, .inl (hidP_at upd_same (not_in k np))⟩
theorem w_dgetS {i : Nat} (L : List Line) (hi : Γ[i]? = some (.ty (tDS L))) (h : W K F Γ f te fun f1 r => ∃ x, Sub (r.t K) (tD K (.str x)) ∧ x ∈ names L ∧ κ f1 (.ty (tD K (.int (worth (names L) (starts L) x))))) : W K F Γ f (tDGet (tVar i) te) κ := fun σ H Q k c => by
  obtain ⟨v, ev, a, rfl, hR⟩ := k.sl i _ hi
  refine ⟨_, ev, h σ H _ k fun f1 r v H1 h1 k1 s1 g1 => ?_⟩
  obtain ⟨x, hs, hx, q⟩ := h1
  have e := dp_str (hs (Rs.is_ty k g1))
  subst e
  have hR1 : Rd H1 a (.dK (L.map fun l => ((Sum.inr l.1 : Key), V.int l.2.1))) := (hR.elim (fun z => .inl (hidP_le _ _ (s1.hid k _ _ z))) fun ⟨o, z⟩ => .inr ⟨o, hidP_le _ _ (s1.hid k _ _ z)⟩)
  exact ⟨a, _, rfl, .inl ⟨_, Sum.inr x, hR1, rfl, (val_line hx).symm⟩, c f1 _ _ H1 q k1 s1 (.int _)⟩
/-! ### lists that are held -/
theorem w_ixOwn {i : Nat} (h : ∃ a ts, Γ[i]? = some (.own a (.lst ts)) ∧ W K F Γ f tb fun f1 r => ∃ (z : Int) (n : Nat) (u : Ty), Sub (r.t K) (tD K (.int z)) ∧ ixN ts.length z = some n ∧ ts[n]? = some u ∧ κ f1 (.ty u)) : W K F Γ f (tOp (rIxL K) (tVar i) tb) κ := fun σ H Q k c => by
  obtain ⟨a, ts, e, h⟩ := h
  obtain ⟨ev, _⟩ := k.sl i _ e
  refine ⟨_, ev, h σ H _ k fun f1 r v H1 h1 k1 s1 g1 => ?_⟩
  obtain ⟨z, n, u, hs, hn, hu, q⟩ := h1
  have ez := dp_int (hs (Rs.is_ty k g1))
  subst ez
  obtain ⟨_, o, e2, g⟩ := k1.sl i _ e
  cases o with
  | lst vs =>
    obtain ⟨w, hw, hg⟩ := TyAll.get (ts := ts) g hu
    refine ⟨a, vs, z, w, rfl, rfl, sq_of e2, ?_, c f1 _ _ H1 q k1 s1 hg⟩
    unfold atI
    rw [← TyAll.len (ts := ts) g, hn]
    exact hw
  | _ => exact g.elim
theorem s_parOwnI {i j : Nat} {tb : TE} (hi : Nat.blt i Γ.length = true) (h : W K F Γ f ta fun f1 r => ∃ s, r = .new s ∧ W K F Γ f1 tb fun f2 r2 => ∃ z : Int, r2 = .ty (tD K (.int z)) ∧ ∀ a, NX K F ((Γ.set i (.own a s)).set j (.ty (tD K (.int z)))) f2 D.nx) : S K F Γ f (tPar i j (tCons ta (tCons tb tNil))) D := fun σ H k =>
  h σ H _ k fun f1 r v H1 h1 k1 s1 g1 => by
    obtain ⟨s, rfl, h1⟩ := h1
    refine h1 σ H1 _ k1 fun f2 r2 w H2 h2 k2 s2 g2 => ?_
    obtain ⟨z, rfl, q⟩ := h2
    obtain ⟨a, u, rfl, e0, e1, g⟩ := Rs.keep k k1 s2 g1
    have ew : w = .int z := dp_int g2
    subst ew
    exact ⟨_, _, rfl, q a _ _ ((k.keepNew k2 (s1.trans s2) e0 e1 g (Nat.le_of_ble_eq_true hi)).put (t := tD K (.int z)) (.int z))⟩
theorem s_setL {i j : Nat} (h : W K F Γ f te fun f1 r => ∃ a ts z n d, Γ[i]? = some (.own a (.lst ts)) ∧ Γ[j]? = some (.ty (tD K (.int z))) ∧ ixN ts.length z = some n ∧ IsDat K (r.t K) d ∧ NX K F (Γ.set i (.own a (.lst (ts.set n (tD K d))))) f1 D.nx) : S K F Γ f (tAsg te (gSub (tVar i) (tVar j) rSetL)) D := fun σ H k =>
  h σ H _ k fun f1 r v H1 h1 k1 s1 g1 => by
    obtain ⟨a, ts, z, n, d, e, ej, hn, hd, q⟩ := h1
    have gd : (tD K d).is v (hidP (HS F Γ) H1) := hd (Rs.is_ty k g1)
    obtain ⟨e1, o, e2, g⟩ := k1.sl i _ e
    obtain ⟨w, ew, hw⟩ := k1.sl j _ ej
    have ew2 : w = .int z := dp_int hw
    subst ew2
    cases o with
    | lst vs =>
      refine ⟨_, e1, _, ew, a, vs, z, n, rfl, rfl, e2, ?_, ?_⟩
      · rw [← TyAll.len (ts := ts) g]
        exact hn
      · exact q _ _ (k1.change e (s' := .lst (ts.set n (tD K d))) (TyAll.set gd (i := n) (ts := ts) g))
    | _ => exact g.elim
/-! ### parts of lists -/
def cutG {α : Type} (xs : List α) (lo hi : Option Int) : List α := (xs.drop (HT.sIx xs.length 0 lo)).take (HT.sIx xs.length xs.length hi - HT.sIx xs.length 0 lo)
theorem cutT_map {α : Type} {φ : α → Ty} {xs : List α} {lo hi : Option Int} : cutT (xs.map φ) lo hi = (cutG xs lo hi).map φ := by
  unfold cutT cutG
  rw [List.length_map, List.map_take, List.map_drop]
theorem cutG_map {α β : Type} {φ : α → β} {xs : List α} {lo hi : Option Int} : cutG (xs.map φ) lo hi = (cutG xs lo hi).map φ := by
  unfold cutG
  rw [List.length_map, List.map_take, List.map_drop]
theorem cutG_mem {α : Type} {xs : List α} {lo hi : Option Int} {x : α} (h : x ∈ cutG xs lo hi) : x ∈ xs := List.mem_of_mem_drop (List.mem_of_mem_take h)
theorem cutG_pre {α : Type} {xs : List α} {n : Nat} : cutG xs none (some (n : Int)) = xs.take n := by
  unfold cutG HT.sIx
  simp only [List.drop_zero, Nat.sub_zero]
  rw [if_neg (by omega), Int.toNat_natCast]
  rcases Nat.le_total n xs.length with h | h
  · rw [Nat.min_eq_left h]
  · rw [Nat.min_eq_right h, List.take_of_length_le (Nat.le_refl _), List.take_of_length_le h]
theorem cutG_suf {α : Type} {xs : List α} {n : Nat} : cutG xs (some (n : Int)) none = xs.drop n := by
  unfold cutG HT.sIx
  simp only
  rw [if_neg (by omega), Int.toNat_natCast]
  rcases Nat.le_total n xs.length with h | h
  · rw [Nat.min_eq_left h, List.take_of_length_le (by rw [List.length_drop]; exact Nat.le_refl _)]
  · rw [Nat.min_eq_right h, List.drop_of_length_le (Nat.le_refl _), List.drop_of_length_le h, List.take_nil]
theorem cutG_last {α : Type} {xs : List α} : cutG xs none (some (-1)) = xs.take (xs.length - 1) := by
  unfold cutG HT.sIx
  simp only [List.drop_zero, Nat.sub_zero]
  rw [if_pos (by decide)]
  congr 1
  omega
theorem ix_last {n : Nat} (h : 0 < n) : ixN n (-1) = some (n - 1) := by
  unfold ixN
  rw [if_neg (by decide), if_pos (by omega)]
  congr 1
  omega
theorem ix_nat {n i : Nat} (h : i < n) : ixN n (i : Int) = some i := by
  unfold ixN
  rw [if_pos (by omega), if_pos (by omega), Int.toNat_natCast]
end

/-! What is shown tells what it is shown of: ints, texts of a few, lists, tuples. -/
def pool7 : List Str := lettersL ++ (["k"] : List Str)
def chs (d : PyData) : List Nat := d.shown.cps.toList
def NN : Nat → PyData → Prop
  | _, .int _ => True
  | _, .str x => x ∈ pool7
  | n + 1, .list ds => ∀ d ∈ ds, NN n d
  | n + 1, .tuple ds => 2 ≤ ds.length ∧ ∀ d ∈ ds, NN n d
  | _, _ => False
def Stop (X : List Nat) : Prop := ∀ c r, X = c :: r → c = 44 ∨ c = 93 ∨ c = 41
def Free (A : List Nat) : Prop := ∀ c ∈ A, ¬ (c = 44 ∨ c = 93 ∨ c = 41)
theorem free_split : ∀ {A B X Y : List Nat}, Free A → Free B → Stop X → Stop Y → A ++ X = B ++ Y → A = B ∧ X = Y
  | [], [], _, _, _, _, _, _, e => ⟨rfl, e⟩
  | [], c :: B, X, Y, _, hB, hX, _, e => absurd (hX c (B ++ Y) e) (hB c List.mem_cons_self)
  | c :: A, [], X, Y, hA, _, _, hY, e => absurd (hY c (A ++ X) e.symm) (hA c List.mem_cons_self)
  | c :: A, d :: B, X, Y, hA, hB, hX, hY, e => by
    injection e with e1 e2
    obtain ⟨h1, h2⟩ := free_split (fun x hx => hA x (List.mem_cons_of_mem _ hx)) (fun x hx => hB x (List.mem_cons_of_mem _ hx)) hX hY e2
    exact ⟨by rw [e1, h1], h2⟩
theorem chs_int (i : Int) : chs (.int i) = (toString i : String).toList.map Char.toNat := by
  unfold chs
  rw [PyData.shown_int, signs_ofString]
theorem map_inj_of {α β : Type} {f : α → β} (h : ∀ a b, f a = f b → a = b) : ∀ {xs ys : List α}, xs.map f = ys.map f → xs = ys
  | [], [], _ => rfl
  | [], _ :: _, e => by cases e
  | _ :: _, [], e => by cases e
  | x :: xs, y :: ys, e => by
    rw [List.map_cons, List.map_cons] at e
    injection e with e1 e2
    rw [h x y e1, map_inj_of h e2]
theorem chs_int_inj {i j : Int} (h : chs (.int i) = chs (.int j)) : i = j := by
  rw [chs_int, chs_int] at h
  have h2 : (toString i : String).toList = (toString j : String).toList := by
    exact map_inj_of (fun a b e => Char.toNat_inj.mp e) h
  have h3 : (toString i : String) = toString j := String.toList_inj.mp h2
  exact Int.repr_inj.mp h3
theorem chs_int_free (i : Int) : Free (chs (.int i)) := fun c hc h => by
  have := shown_int_free' (k := c) (by omega) i
  exact this hc
theorem chs_int_hd (i : Int) : ∃ c r, chs (.int i) = c :: r ∧ ((48 ≤ c ∧ c ≤ 57) ∨ c = 45) := by
  cases e : chs (.int i) with
  | nil =>
    exfalso
    rw [chs_int] at e
    have h0 : (toString i : String).toList = [] := by
      cases h : (toString i : String).toList with
      | nil => rfl
      | cons a r => rw [h] at e; cases e
    rw [Int.toString_eq_repr, Int.repr_eq_if] at h0
    split at h0
    · rw [Nat.toList_repr] at h0
      exact Nat.toDigits_ne_nil h0
    · rw [String.toList_append] at h0
      have h1 := (List.append_eq_nil_iff.mp h0).1
      revert h1
      decide
  | cons c r =>
    refine ⟨c, r, rfl, ?_⟩
    have hc : c ∈ chs (.int i) := by rw [e]; exact List.mem_cons_self
    refine Decidable.byContradiction fun z => ?_
    exact shown_int_free' (k := c) (by omega) i hc
theorem chs_strs : ∀ x ∈ pool7, Free (chs (.str x)) ∧ ∃ r, chs (.str x) = 39 :: r := by
  have h : ∀ x ∈ pool7, ((chs (.str x)).all fun c => !(c == 44) && !(c == 93) && !(c == 41)) = true ∧ (chs (.str x)).head? = some 39 := by
    unfold chs
    decide +kernel
  intro x hx
  obtain ⟨h1, h2⟩ := h x hx
  refine ⟨fun c hc => ?_, ?_⟩
  · have := List.all_eq_true.mp h1 c hc
    simp at this
    omega
  · cases e : chs (.str x) with
    | nil => rw [e] at h2; cases h2
    | cons c r => rw [e] at h2; cases h2; exact ⟨r, rfl⟩
theorem chs_str_inj : ∀ x ∈ pool7, ∀ y ∈ pool7, chs (.str x) = chs (.str y) → x = y := by
  unfold chs
  decide +kernel
def joinC : List PyData → List Nat
  | [] => []
  | [d] => chs d
  | d :: e :: r => chs d ++ 44 :: 32 :: joinC (e :: r)
theorem joinC_eq : ∀ ds : List PyData, (Str.join ", " (PyData.shownAll ds)).cps.toList = joinC ds
  | [] => rfl
  | [d] => by rw [PyData.shownAll_cons, PyData.shownAll_nil, join_one]; rfl
  | d :: e :: r => by
    have ih := joinC_eq (e :: r)
    rw [PyData.shownAll_cons, PyData.shownAll_cons, join_cons_cons, cps_toList_append, cps_toList_append, signs_sep]
    rw [PyData.shownAll_cons] at ih
    rw [ih]
    show chs d ++ [44, 32] ++ joinC (e :: r) = chs d ++ 44 :: 32 :: joinC (e :: r)
    rw [List.append_assoc]
    rfl
theorem chs_list (ds : List PyData) : chs (.list ds) = 91 :: (joinC ds ++ [93]) := by
  unfold chs
  rw [PyData.shown_list, cps_toList_append, cps_toList_append, signs_lbrack, signs_rbrack, joinC_eq]
  rfl
theorem chs_tuple {ds : List PyData} (h : 2 ≤ ds.length) : chs (.tuple ds) = 40 :: (joinC ds ++ [41]) := by
  unfold chs
  rw [PyData.shown_tuple, cps_toList_append, cps_toList_append, signs_lparen, joinC_eq]
  have e : (ds.length == 1) = false := by
    cases h2 : ds.length == 1 with
    | false => rfl
    | true => have := eq_of_beq h2; omega
  rw [e]
  rfl
/-- the first sign -/
def hdC : PyData → Nat → Prop
  | .int _, c => (48 ≤ c ∧ c ≤ 57) ∨ c = 45
  | .str _, c => c = 39
  | .list _, c => c = 91
  | .tuple _, c => c = 40
  | _, _ => False
theorem hd_of : ∀ {n : Nat} {d : PyData}, NN n d → ∃ c r, chs d = c :: r ∧ hdC d c
  | _, .int i, _ => chs_int_hd i
  | n, .str x, h => by
    have h : x ∈ pool7 := by cases n <;> exact h
    obtain ⟨r, e⟩ := (chs_strs x h).2
    exact ⟨_, r, e, rfl⟩
  | n, .list ds, _ => ⟨_, _, chs_list ds, rfl⟩
  | n + 1, .tuple ds, h => ⟨_, _, chs_tuple h.1, rfl⟩
  | 0, .tuple _, h => by cases h
  | 0, .none, h => by cases h
  | n + 1, .none, h => by cases h
  | 0, .bool _, h => by cases h
  | 0, .dict _, h => by cases h
  | n + 1, .dict _, h => by cases h
  | n + 1, .bool _, h => by cases h
theorem seq_inj {P : PyData → Prop} (hd : ∀ d, P d → ∃ c r, chs d = c :: r ∧ ¬ (c = 93 ∨ c = 41)) (cl : ∀ a b, P a → P b → ∀ X Y, Stop X → Stop Y → chs a ++ X = chs b ++ Y → a = b ∧ X = Y) {e : Nat} (he : e = 93 ∨ e = 41) :
    ∀ (as bs : List PyData), (∀ a ∈ as, P a) → (∀ b ∈ bs, P b) → ∀ X Y, joinC as ++ e :: X = joinC bs ++ e :: Y → as = bs ∧ X = Y
  | [], [], _, _, X, Y, h => by
    injection h with _ h
    exact ⟨rfl, h⟩
  | [], b :: bs, _, hB, X, Y, h => by
    obtain ⟨c, r, e1, e2⟩ := hd b (hB b List.mem_cons_self)
    cases bs with
    | nil =>
      replace h : e :: X = chs b ++ e :: Y := h
      rw [e1] at h
      injection h with h1 h2
      exact absurd (h1 ▸ he) e2
    | cons b2 bs =>
      replace h : e :: X = (chs b ++ 44 :: 32 :: joinC (b2 :: bs)) ++ e :: Y := h
      rw [e1] at h
      injection h with h1 h2
      exact absurd (h1 ▸ he) e2
  | a :: as, [], hA, _, X, Y, h => by
    obtain ⟨c, r, e1, e2⟩ := hd a (hA a List.mem_cons_self)
    cases as with
    | nil =>
      replace h : chs a ++ e :: X = e :: Y := h
      rw [e1] at h
      injection h with h1 h2
      exact absurd (h1 ▸ he) e2
    | cons b2 bs =>
      replace h : (chs a ++ 44 :: 32 :: joinC (b2 :: bs)) ++ e :: X = e :: Y := h
      rw [e1] at h
      injection h with h1 h2
      exact absurd (h1 ▸ he) e2
  | a :: as, b :: bs, hA, hB, X, Y, h => by
    have st : ∀ Z, Stop (e :: Z) := fun Z c r z => by
      injection z with z1 _
      rw [← z1]
      omega
    have sc : ∀ Z, Stop (44 :: 32 :: Z) := fun Z c r z => by
      injection z with z1 _
      exact .inl z1.symm
    have pa := hA a List.mem_cons_self
    have pb := hB b List.mem_cons_self
    cases as with
    | nil =>
      cases bs with
      | nil =>
        obtain ⟨h1, h2⟩ := cl a b pa pb (e :: X) (e :: Y) (st X) (st Y) h
        injection h2 with _ h2
        exact ⟨by rw [h1], h2⟩
      | cons b2 bs =>
        replace h : chs a ++ e :: X = (chs b ++ 44 :: 32 :: joinC (b2 :: bs)) ++ e :: Y := h
        rw [List.append_assoc] at h
        obtain ⟨h1, h2⟩ := cl a b pa pb (e :: X) _ (st X) (sc _) h
        injection h2 with h2 _
        omega
    | cons a2 as =>
      cases bs with
      | nil =>
        replace h : (chs a ++ 44 :: 32 :: joinC (a2 :: as)) ++ e :: X = chs b ++ e :: Y := h
        rw [List.append_assoc] at h
        obtain ⟨h1, h2⟩ := cl a b pa pb _ (e :: Y) (sc _) (st Y) h
        injection h2 with h2 _
        omega
      | cons b2 bs =>
        replace h : (chs a ++ 44 :: 32 :: joinC (a2 :: as)) ++ e :: X = (chs b ++ 44 :: 32 :: joinC (b2 :: bs)) ++ e :: Y := h
        rw [List.append_assoc, List.append_assoc] at h
        obtain ⟨h1, h2⟩ := cl a b pa pb _ _ (sc _) (sc _) h
        have h3 : joinC (a2 :: as) ++ e :: X = joinC (b2 :: bs) ++ e :: Y := by
          injection h2 with _ h2
          injection h2 with _ h2
        obtain ⟨h4, h5⟩ := seq_inj hd cl he (a2 :: as) (b2 :: bs) (fun x hx => hA x (List.mem_cons_of_mem _ hx)) (fun x hx => hB x (List.mem_cons_of_mem _ hx)) X Y h3
        exact ⟨by rw [h1, h4], h5⟩
theorem shown_split : ∀ (n : Nat) (a b : PyData), NN n a → NN n b → ∀ X Y, Stop X → Stop Y → chs a ++ X = chs b ++ Y → a = b ∧ X = Y := fun n => by
  induction n with
  | zero =>
    intro a b ha hb X Y hX hY h
    cases a <;> cases b <;> first
      | exact ha.elim
      | exact hb.elim
      | skip
    · obtain ⟨h1, h2⟩ := free_split (chs_int_free _) (chs_int_free _) hX hY h
      exact ⟨by rw [chs_int_inj h1], h2⟩
    · exfalso
      obtain ⟨c, r, e1, e2⟩ := hd_of ha
      obtain ⟨d, s, e3, e4⟩ := hd_of hb
      rw [e1, e3] at h
      injection h with h _
      unfold hdC at e2 e4
      omega
    · exfalso
      obtain ⟨c, r, e1, e2⟩ := hd_of ha
      obtain ⟨d, s, e3, e4⟩ := hd_of hb
      rw [e1, e3] at h
      injection h with h _
      unfold hdC at e2 e4
      omega
    · obtain ⟨h1, h2⟩ := free_split (chs_strs _ ha).1 (chs_strs _ hb).1 hX hY h
      exact ⟨by rw [chs_str_inj _ ha _ hb h1], h2⟩
  | succ n ih =>
    intro a b ha hb X Y hX hY h
    have hdp : ∀ d, NN n d → ∃ c r, chs d = c :: r ∧ ¬ (c = 93 ∨ c = 41) := fun d hd => by
      obtain ⟨c, r, e1, e2⟩ := hd_of hd
      refine ⟨c, r, e1, ?_⟩
      cases d <;> first
        | (unfold hdC at e2; omega)
        | exact e2.elim
    have far : ∀ {P : Prop}, (∀ c d, hdC a c → hdC b d → c = d → P) → P := fun k => by
      obtain ⟨c, r, e1, e2⟩ := hd_of ha
      obtain ⟨d, s, e3, e4⟩ := hd_of hb
      rw [e1, e3] at h
      injection h with h _
      exact k c d e2 e4 h
    cases a <;> cases b <;> first
      | exact ha.elim
      | exact hb.elim
      | exact far fun c d h1 h2 h3 => absurd h3 (by unfold hdC at h1 h2; omega)
      | skip
    · obtain ⟨h1, h2⟩ := free_split (chs_int_free _) (chs_int_free _) hX hY h
      exact ⟨by rw [chs_int_inj h1], h2⟩
    · obtain ⟨h1, h2⟩ := free_split (chs_strs _ ha).1 (chs_strs _ hb).1 hX hY h
      exact ⟨by rw [chs_str_inj _ ha _ hb h1], h2⟩
    · rw [chs_list, chs_list] at h
      injection h with _ h
      replace h : (joinC _ ++ [93]) ++ X = (joinC _ ++ [93]) ++ Y := h
      rw [List.append_assoc, List.append_assoc] at h
      obtain ⟨h1, h2⟩ := seq_inj hdp ih (.inl rfl) _ _ ha hb X Y h
      exact ⟨by rw [h1], h2⟩
    · rw [chs_tuple ha.1, chs_tuple hb.1] at h
      injection h with _ h
      replace h : (joinC _ ++ [41]) ++ X = (joinC _ ++ [41]) ++ Y := h
      rw [List.append_assoc, List.append_assoc] at h
      obtain ⟨h1, h2⟩ := seq_inj hdp ih (.inr rfl) _ _ ha.2 hb.2 X Y h
      exact ⟨by rw [h1], h2⟩
theorem shown_inj {n : Nat} {a b : PyData} (ha : NN n a) (hb : NN n b) (h : a.shown = b.shown) : a = b := by
  refine (shown_split n a b ha hb [] [] (fun c r z => (by cases z)) (fun c r z => (by cases z)) ?_).1
  unfold chs
  rw [h]
theorem eqvAll_of {P : PyData → Prop} (h : ∀ a b, P a → P b → (PyData.eqv a b = true ↔ a = b)) : ∀ as bs : List PyData, (∀ a ∈ as, P a) → (∀ b ∈ bs, P b) → (PyData.eqv (.list as) (.list bs) = true ↔ as = bs)
  | [], [], _, _ => ⟨fun _ => rfl, fun _ => rfl⟩
  | [], b :: bs, _, _ => ⟨fun z => (by cases z), fun z => (by cases z)⟩
  | a :: as, [], _, _ => ⟨fun z => (by cases z), fun z => (by cases z)⟩
  | a :: as, b :: bs, hA, hB => by
    have e : PyData.eqv (.list (a :: as)) (.list (b :: bs)) = (PyData.eqv a b && PyData.eqv (.list as) (.list bs)) := rfl
    rw [e, Bool.and_eq_true, h a b (hA a List.mem_cons_self) (hB b List.mem_cons_self), eqvAll_of h as bs (fun x hx => hA x (List.mem_cons_of_mem _ hx)) (fun x hx => hB x (List.mem_cons_of_mem _ hx))]
    exact ⟨fun z => (by rw [z.1, z.2]), fun z => by injection z with z1 z2; exact ⟨z1, z2⟩⟩
theorem eqv_NN : ∀ (n : Nat) (a b : PyData), NN n a → NN n b → (PyData.eqv a b = true ↔ a = b) := fun n => by
  have li : ∀ i j : Int, (PyData.eqv (.int i) (.int j) = true ↔ PyData.int i = .int j) := fun i j => by
    have e : PyData.eqv (.int i) (.int j) = (i == j) := rfl
    rw [e, beq_iff_eq]
    exact ⟨fun z => (by rw [z]), fun z => by injection z⟩
  have ls : ∀ i j : Str, (PyData.eqv (.str i) (.str j) = true ↔ PyData.str i = .str j) := fun i j => by
    have e : PyData.eqv (.str i) (.str j) = (i == j) := rfl
    rw [e, beq_iff_eq]
    exact ⟨fun z => (by rw [z]), fun z => by injection z⟩
  induction n with
  | zero =>
    intro a b ha hb
    cases a <;> cases b <;> first
      | exact ha.elim
      | exact hb.elim
      | exact li _ _
      | exact ls _ _
      | exact ⟨fun z => (by cases z), fun z => (by cases z)⟩
  | succ n ih =>
    intro a b ha hb
    cases a <;> cases b <;> first
      | exact ha.elim
      | exact hb.elim
      | exact li _ _
      | exact ls _ _
      | exact (eqvAll_of ih _ _ ha hb).trans ⟨fun z => (by rw [z]), fun z => by injection z⟩
      | exact (eqvAll_of ih _ _ ha.2 hb.2).trans ⟨fun z => (by rw [z]), fun z => by injection z⟩
      | exact ⟨fun z => (by cases z), fun z => (by cases z)⟩

/-! Lists that are held: made in a tuple, their length, turned about. Books that are changed and stay sound. -/
section
variable {F : Fr} {Γ : List Sl} {f : Nat} {σ : L2.St} {H : Hp} {K : PySem.W.Frag} {κ : Nat → Rs → Prop} {te ta tb tc : TE} {tA : TA} {D : Ends} {t u : Ty} {ts us : List Ty} {d : PyData} {ds : List PyData} {E : XK}
theorem s_tupOwn {i j n : Nat} (hij : Nat.beq i j = false) (hj : Nat.blt j Γ.length = true) (hn : n = 2) (h : W K F Γ f ta fun f1 r1 => W K F Γ f1 tb fun f2 r2 => ∃ s, r2 = .new s ∧ ∀ a, NX K F ((Γ.set i (.ty (r1.t K))).set j (.own a s)) f2 D.nx) :
    S K F Γ f (tAsg (tTup (tCons ta (tCons tb tNil))) (gTup K n (gCons (gName i) (gCons (gName j) gNil)))) D := fun σ H k =>
  h σ H _ k fun f1 r1 x H1 h1 k1 s1 g1 => h1 σ H1 _ k1 fun f2 r2 y H2 h2 k2 s2 g2 => by
    obtain ⟨s, rfl, q⟩ := h2
    obtain ⟨a, u, rfl, e0, e1, g⟩ := g2
    subst hn
    refine ⟨by rw [sizeLine_eq]; show 2 ≤ 16777216; decide, fun p np => ?_⟩
    have nij : i ≠ j := fun z => by rw [z, Nat.beq_refl] at hij; cases hij
    have s3 : Same H2 (upd H2 p (.tup [x, .ref a])) := same_new np
    have k3 := k2.grow s3
    have e3 := s3 _ _ e1
    have g3 : s.is u (hidP (fun b => HS F Γ b ∨ b = a) (upd H2 p (.tup [x, .ref a]))) := Sh.mono (hidP_mono fun b o e z => ⟨s3 _ _ e, z⟩) g
    have k4 := k1.keepNew k3 (s2.trans (Step.of s3)) e0 e3 g3 (Nat.le_of_ble_eq_true hj)
    have gx := Rs.is_ty k g1 (K := K)
    have na : ¬ HS F Γ a := fun z => k1.live z e0
    obtain ⟨n1, n2⟩ := ows_set_own (i := j) (s := s) k1.nd fun z => na (.inr z)
    have m : Same (hidP (HS F Γ) H1) (hidP (HS F (Γ.set j (.own a s))) (upd H2 p (.tup [x, .ref a]))) := hidP_mono fun b o e n => by
      have hb : b ≠ a := fun z => by rw [z, e0] at e; cases e
      refine ⟨s3 _ _ (s2 b o e fun z => n (.inl (k1.po b z).1)), fun z => ?_⟩
      rcases z with z | z
      · exact n (.inl z)
      · rcases n2 b z with q | q
        · exact hb q
        · exact n (.inr q)
    have k5 := k4.put (i := i) ((r1.t K).mono m gx)
    rw [List.set_comm _ _ (fun z => nij z.symm), List.set_comm _ _ (fun z => nij z.symm)] at k5
    exact ⟨p, [x, .ref a], rfl, st_of upd_same, rfl, x, [.ref a], rfl, .ref a, [], rfl, rfl, q a _ _ k5⟩
theorem w_lenOwn {i : Nat} (h : ∃ a ts, Γ[i]? = some (.own a (.lst ts)) ∧ κ f (.ty (tD K (.int (ts.length : Nat))))) : W K F Γ f (tCB (rLen K) (tCons (tVar i) tNil)) κ := fun σ H Q k c => by
  obtain ⟨a, ts, e, q⟩ := h
  obtain ⟨e1, o, e2, g⟩ := k.sl i _ e
  cases o with
  | lst vs =>
    refine ⟨_, e1, a, vs, rfl, .inl (sq_of e2), ?_⟩
    rw [← TyAll.len (ts := ts) g]
    exact c f _ _ H q k Step.refl (.int _)
  | _ => exact g.elim
theorem w_revOwn {i : Nat} (h : ∃ a ts, Γ[i]? = some (.own a (.lst ts)) ∧ κ f (.new (.lst ts.reverse))) : W K F Γ f (tRevL K (tVar i)) κ := fun σ H Q k c => by
  obtain ⟨a, ts, e, q⟩ := h
  obtain ⟨e1, o, e2, g⟩ := k.sl i _ e
  cases o with
  | lst vs =>
    exact ⟨_, e1, a, vs, rfl, sq_of e2, fun p np => c f _ _ _ q (k.grow (same_new np)) (Step.of (same_new np)) (new_is k np (TyAll.rev (ts := ts) g))⟩
  | _ => exact g.elim
theorem ix_lastI {n : Nat} (h : 0 < n) : ixN n (-1) = some (n - 1) := ix_last h
theorem wr_ixLast {t1 : Ty} (h1 : IsLst K t1 ts) (h : ts[ts.length - 1]? = some u) (q : κ f (.ty u)) : WR K F Γ f (rIxL K) t1 (tD K (.int (-1))) κ := fun x y σ H Q k g1 g2 c => by
  rw [dint g2]
  obtain ⟨a, vs, rfl, hS, hA⟩ := h1 g1
  obtain ⟨v, e, hv⟩ := hA.get h
  have h0 : 0 < ts.length := by
    have := (List.getElem?_eq_some_iff.mp h).1
    omega
  refine ⟨a, vs, _, v, rfl, rfl, hidP_le.seq hS, ?_, c f _ _ H q k Step.refl hv⟩
  unfold atI
  rw [← hA.len, ix_last h0]
  exact e
end
/-! ### sound books, changed -/
theorem worthOf {L : List Line} (nd : (names L).Nodup) {l : Line} (h : l ∈ L) : l.2.1 = worth (names L) (starts L) l.1 := by
  obtain ⟨i, hi⟩ := List.getElem?_of_mem h
  have h7 : (names L)[i]? = some l.1 := by unfold names; rw [List.getElem?_map, hi]; rfl
  have hn : l.1 ∈ names L := List.mem_of_getElem? h7
  have h8 : (names L).idxOf l.1 < (names L).length := List.idxOf_lt_length_iff.mpr hn
  have e : (names L).idxOf l.1 = i := nd_ix nd (by rw [List.getElem?_eq_getElem h8, List.getElem_idxOf h8]) h7
  unfold worth
  rw [e, List.getD_eq_getElem?_getD]
  unfold starts
  rw [List.getElem?_map, hi]
  rfl
theorem sum_cong {f : List Term} {g h : Str → Int} (e : ∀ t ∈ f, g t.2 = h t.2) : (f.map fun t => t.1 * g t.2).sum = (f.map fun t => t.1 * h t.2).sum := by
  congr 1
  exact List.map_congr_left fun t ht => by rw [e t ht]
theorem sumF_g {L : List Line} {g : Str → Int} (hg : ∀ l ∈ L, l.2.1 = g l.1) {f : List Term} (hk : ∀ t ∈ f, t.2 ∈ names L) : sumF (names L) (starts L) f = (f.map fun t => t.1 * g t.2).sum :=
  sum_cong fun t ht => worth_g hg (hk t ht)
/-- what a mate may be -/
structure Mate (b : Int) (L : List Line) : Prop where
  sound : Sound b L
  most : L.length ≤ 4
  names : ∀ x ∈ names L, x ∈ pool7
  small : ∀ l ∈ L, ∀ f ∈ l.2.2, f.length ≤ 7
theorem names_set {L : List Line} {n : Nat} {l : Line} {fs : List (List Term)} (h : L[n]? = some l) : names (L.set n (l.1, l.2.1, fs)) = names L ∧ starts (L.set n (l.1, l.2.1, fs)) = starts L := by
  unfold names starts
  rw [List.map_set, List.map_set]
  refine ⟨List.ext_getElem? fun i => ?_, List.ext_getElem? fun i => ?_⟩
  · by_cases e : n = i
    · subst e
      rw [List.getElem?_set_self (by rw [List.length_map]; exact (List.getElem?_eq_some_iff.mp h).1), List.getElem?_map, h]
      rfl
    · rw [List.getElem?_set_ne e]
  · by_cases e : n = i
    · subst e
      rw [List.getElem?_set_self (by rw [List.length_map]; exact (List.getElem?_eq_some_iff.mp h).1), List.getElem?_map, h]
      rfl
    · rw [List.getElem?_set_ne e]
theorem drawn_mate {b : Int} {L : List Line} (d : Drawn b 4 L) : Mate b L := ⟨d.sound, d.most, fun x hx => List.mem_append_left _ (d.names x hx), fun l hl f hf => Nat.le_trans (d.small l hl f hf) (by decide)⟩
theorem mate_set {b : Int} {L : List Line} (d : Drawn b 4 L) {n : Nat} {l : Line} (h : L[n]? = some l) {g : List Term} (hg : g.length ≤ 7) (hc : ∀ t ∈ g, t.1.natAbs ≤ 9) (hk : ∀ t ∈ g, t.2 ∈ names L) :
    Mate b (L.set n (l.1, l.2.1, l.2.2.take (l.2.2.length - 1) ++ [g])) := by
  have S := d.sound
  have hl := List.mem_of_getElem? h
  obtain ⟨en, es⟩ := names_set (fs := l.2.2.take (l.2.2.length - 1) ++ [g]) h
  have hb := S.base
  have hfl := S.forms l hl
  have mem : ∀ {x : Line}, x ∈ L.set n (l.1, l.2.1, l.2.2.take (l.2.2.length - 1) ++ [g]) → x = (l.1, l.2.1, l.2.2.take (l.2.2.length - 1) ++ [g]) ∨ x ∈ L := fun hx => (List.mem_or_eq_of_mem_set hx).symm
  have fm : ∀ {f : List Term}, f ∈ l.2.2.take (l.2.2.length - 1) ++ [g] → f = g ∨ f ∈ l.2.2 := fun hf => (List.mem_append.mp hf).elim (fun z => .inr (List.mem_of_mem_take z)) fun z => .inl (List.mem_singleton.mp z)
  have all : ∀ (P : Line → List Term → Prop), (∀ x ∈ L, ∀ f ∈ x.2.2, P x f) → P (l.1, l.2.1, l.2.2.take (l.2.2.length - 1) ++ [g]) g → (∀ f ∈ l.2.2, P (l.1, l.2.1, l.2.2.take (l.2.2.length - 1) ++ [g]) f) → ∀ x ∈ L.set n (l.1, l.2.1, l.2.2.take (l.2.2.length - 1) ++ [g]), ∀ f ∈ x.2.2, P x f := fun P h1 h2 h3 x hx f hf => by
    rcases mem hx with e | hx
    · subst e
      rcases fm hf with e | hf
      · subst e; exact h2
      · exact h3 f hf
    · exact h1 x hx f hf
  refine ⟨⟨hb, by rw [List.length_set]; exact S.many, fun x hx => ?_, by rw [en]; exact S.nd, fun x hx => ?_, ?_, ?_, ?_, fun x hx => ?_, fun x hx f hf => ?_⟩, by rw [List.length_set]; exact d.most, fun x hx => by rw [en] at hx; exact List.mem_append_left _ (d.names x hx), ?_⟩
  · rcases mem hx with e | hx
    · subst e; exact S.letters l hl
    · exact S.letters x hx
  · rcases mem hx with e | hx
    · subst e
      show ((l.2.2.take (l.2.2.length - 1) ++ [g]).length : Int) = b
      rw [List.length_append, List.length_take]
      simp only [List.length_cons, List.length_nil]
      omega
    · exact S.forms x hx
  · exact all _ S.small (show g.length ≤ 100 by omega) (S.small l hl)
  · rw [en]
    exact all _ S.known hk (S.known l hl)
  · exact all _ S.coefs (fun t ht => Nat.lt_of_le_of_lt (hc t ht) (by decide)) (S.coefs l hl)
  · rcases mem hx with e | hx
    · subst e; exact S.begins l hl
    · exact S.begins x hx
  · rw [en, es]
    rcases mem hx with e | hx
    · subst e
      refine S.sound l hl f ?_
      have h1 : 0 < l.2.2.length - 1 := by omega
      replace hf : (l.2.2.take (l.2.2.length - 1) ++ [g])[0]? = some f := hf
      rw [List.getElem?_append_left (by rw [List.length_take]; omega), List.getElem?_take_of_lt h1] at hf
      exact hf
    · exact S.sound x hx f hf
  · exact all _ (fun x hx f hf => Nat.le_trans (d.small x hx f hf) (by decide)) hg (fun f hf => Nat.le_trans (d.small l hl f hf) (by decide))
theorem names_rev {L : List Line} : names L.reverse = (names L).reverse := by unfold names; rw [List.map_reverse]
theorem mate_rev {b : Int} {L : List Line} (d : Drawn b 4 L) : Mate b L.reverse := by
  have S := d.sound
  have hm : ∀ {x : Line}, x ∈ L.reverse → x ∈ L := fun h => List.mem_reverse.mp h
  refine ⟨⟨S.base, by rw [List.length_reverse]; exact S.many, fun x hx => S.letters x (hm hx), by rw [names_rev]; exact List.pairwise_reverse.mpr (S.nd.imp fun h e => h e.symm), fun x hx => S.forms x (hm hx), fun x hx => S.small x (hm hx), fun x hx f hf t ht => by rw [names_rev]; exact List.mem_reverse.mpr (S.known x (hm hx) f hf t ht), fun x hx => S.coefs x (hm hx), fun x hx => S.begins x (hm hx), fun x hx f hf => ?_⟩, by rw [List.length_reverse]; exact d.most, fun x hx => by rw [names_rev] at hx; exact List.mem_append_left _ (d.names x (List.mem_reverse.mp hx)), fun x hx f hf => Nat.le_trans (d.small x (hm hx) f hf) (by decide)⟩
  have hx := hm hx
  rw [S.sound x hx f hf, sumF_g (g := worth (names L) (starts L)) (L := L.reverse) (fun l hl => worthOf S.nd (hm hl)) fun t ht => by rw [names_rev]; exact List.mem_reverse.mpr (S.known x hx f (List.mem_of_getElem? hf) t ht)]
  rfl
/-- another base -/
def cutL (b' : Nat) (l : Line) : Line := (l.1, l.2.1, (l.2.2 ++ [[]]).take b')
theorem names_cut {b' : Nat} {L : List Line} : names (L.map (cutL b')) = names L ∧ starts (L.map (cutL b')) = starts L := by
  unfold names starts
  rw [List.map_map, List.map_map]
  exact ⟨rfl, rfl⟩
theorem mate_cut {b : Int} {L : List Line} (d : Drawn b 4 L) {b' : Nat} (hb' : b' = 2 ∨ b' = 3) (hle : (b' : Int) ≤ b + 1) : Mate (b' : Int) (L.map (cutL b')) := by
  have S := d.sound
  have hb := S.base
  obtain ⟨en, es⟩ := names_cut (b' := b') (L := L)
  have fm : ∀ {l : Line} {f : List Term}, f ∈ (cutL b' l).2.2 → f = [] ∨ f ∈ l.2.2 := fun hf => (List.mem_append.mp (List.mem_of_mem_take hf)).elim .inr fun z => .inl (List.mem_singleton.mp z)
  refine ⟨⟨by omega, by rw [List.length_map]; exact S.many, fun x hx => ?_, by rw [en]; exact S.nd, fun x hx => ?_, fun x hx f hf => ?_, fun x hx f hf => ?_, fun x hx f hf => ?_, fun x hx => ?_, fun x hx f hf => ?_⟩, by rw [List.length_map]; exact d.most, fun x hx => by rw [en] at hx; exact List.mem_append_left _ (d.names x hx), fun x hx f hf => ?_⟩
  all_goals obtain ⟨l, hl, rfl⟩ := List.mem_map.mp hx
  · exact S.letters l hl
  · have := S.forms l hl
    show (((l.2.2 ++ [[]]).take b').length : Int) = b'
    rw [List.length_take, List.length_append]
    simp only [List.length_cons, List.length_nil]
    omega
  · rcases fm hf with e | hf
    · subst e; exact Nat.zero_le _
    · exact S.small l hl f hf
  · rcases fm hf with e | hf
    · subst e
      intro t ht
      cases ht
    · rw [en]; exact S.known l hl f hf
  · rcases fm hf with e | hf
    · subst e
      intro t ht
      cases ht
    · exact S.coefs l hl f hf
  · exact S.begins l hl
  · rw [en, es]
    refine S.sound l hl f ?_
    have := S.forms l hl
    replace hf : ((l.2.2 ++ [[]]).take b')[0]? = some f := hf
    rw [List.getElem?_take_of_lt (by omega), List.getElem?_append_left (by omega)] at hf
    exact hf
  · rcases fm hf with e | hf
    · subst e; exact Nat.zero_le _
    · exact Nat.le_trans (d.small l hl f hf) (by decide)
/-- another name -/
def ren (x : Str) (y : Str) : Str := if y = x then "k" else y
def renL (x : Str) (l : Line) : Line := (ren x l.1, l.2.1, l.2.2.map fun f => f.map fun t => (t.1, ren x t.2))
theorem ren_names {x : Str} {L : List Line} : names (L.map (renL x)) = (names L).map (ren x) := by
  unfold names
  rw [List.map_map, List.map_map]
  rfl
theorem k_not : ∀ y ∈ lettersL, ¬ y = ("k" : Str) := by decide +kernel
theorem k_letter : letterB ("k" : Str) = true ∧ ("k" : Str).length ≤ 1000 := by decide +kernel
theorem ren_inj {x : Str} {L : List Line} (h : ∀ y ∈ names L, y ∈ lettersL) : ∀ a ∈ names L, ∀ b ∈ names L, ren x a = ren x b → a = b := fun a ha b hb e => by
  unfold ren at e
  split at e <;> split at e
  · rw [‹a = x›, ‹b = x›]
  · exact absurd e.symm (k_not b (h b hb))
  · exact absurd e (k_not a (h a ha))
  · exact e
theorem mate_ren {b : Int} {L : List Line} (d : Drawn b 4 L) (w : Str) : Mate b (L.map (renL w)) := by
  have S := d.sound
  have en := ren_names (x := w) (L := L)
  have inj := ren_inj (x := w) d.names
  have p7 : ∀ y ∈ names L, ren w y ∈ pool7 := fun y hy => by
    unfold ren
    split
    · exact List.mem_append_right _ List.mem_cons_self
    · exact List.mem_append_left _ (d.names y hy)
  have fm : ∀ {l : Line} {f : List Term}, f ∈ (renL w l).2.2 → ∃ g ∈ l.2.2, f = g.map fun t => (t.1, ren w t.2) := fun hf => by
    obtain ⟨g, hg, e⟩ := List.mem_map.mp hf
    exact ⟨g, hg, e.symm⟩
  refine ⟨⟨S.base, by rw [List.length_map]; exact S.many, fun x hx => ?_, ?_, fun x hx => ?_, fun x hx f hf => ?_, fun x hx f hf t ht => ?_, fun x hx f hf t ht => ?_, fun x hx => ?_, fun x hx f hf => ?_⟩, by rw [List.length_map]; exact d.most, fun y hy => ?_, fun x hx f hf => ?_⟩
  · obtain ⟨l, hl, rfl⟩ := List.mem_map.mp hx
    show letterB (ren w l.1) = true ∧ (ren w l.1).length ≤ 1000
    unfold ren
    split
    · exact k_letter
    · exact S.letters l hl
  · rw [en]
    have nd := S.nd
    unfold List.Nodup at nd ⊢
    rw [List.pairwise_map]
    exact nd.imp_of_mem fun {a b} ha hb ne e => ne (inj a ha b hb e)
  · obtain ⟨l, hl, rfl⟩ := List.mem_map.mp hx
    show ((l.2.2.map _).length : Int) = b
    rw [List.length_map]
    exact S.forms l hl
  · obtain ⟨l, hl, rfl⟩ := List.mem_map.mp hx
    obtain ⟨g, hg, rfl⟩ := fm hf
    rw [List.length_map]
    exact S.small l hl g hg
  · obtain ⟨l, hl, rfl⟩ := List.mem_map.mp hx
    obtain ⟨g, hg, rfl⟩ := fm hf
    obtain ⟨s, hs, rfl⟩ := List.mem_map.mp ht
    rw [en]
    exact List.mem_map.mpr ⟨s.2, S.known l hl g hg s hs, rfl⟩
  · obtain ⟨l, hl, rfl⟩ := List.mem_map.mp hx
    obtain ⟨g, hg, rfl⟩ := fm hf
    obtain ⟨s, hs, rfl⟩ := List.mem_map.mp ht
    exact S.coefs l hl g hg s hs
  · obtain ⟨l, hl, rfl⟩ := List.mem_map.mp hx
    exact S.begins l hl
  · obtain ⟨l, hl, rfl⟩ := List.mem_map.mp hx
    replace hf : (l.2.2.map fun f => f.map fun t => (t.1, ren w t.2))[0]? = some f := hf
    rw [List.getElem?_map] at hf
    cases e0 : l.2.2[0]? with
    | none => rw [e0] at hf; cases hf
    | some g =>
      rw [e0] at hf
      cases hf
      have hgm := List.mem_of_getElem? e0
      have hs := S.sound l hl g e0
      show l.2.1 = _
      rw [hs]
      let gg : Str → Int := fun y => if y = "k" then worth (names L) (starts L) w else worth (names L) (starts L) y
      have gr : ∀ y ∈ names L, gg (ren w y) = worth (names L) (starts L) y := fun y hy => by
        show (if ren w y = "k" then _ else _) = _
        unfold ren
        by_cases e : y = w
        · subst e
          rw [if_pos rfl, if_pos rfl]
        · rw [if_neg e, if_neg (k_not y (d.names y hy))]
      rw [sumF_g (g := gg) (L := L.map (renL w)) (fun m hm => by
        obtain ⟨n, hn, rfl⟩ := List.mem_map.mp hm
        show n.2.1 = gg (ren w n.1)
        rw [gr _ (List.mem_map.mpr ⟨n, hn, rfl⟩)]
        exact worthOf S.nd hn) fun t ht => by
        obtain ⟨s, hs, rfl⟩ := List.mem_map.mp ht
        rw [en]
        exact List.mem_map.mpr ⟨s.2, S.known l hl g hgm s hs, rfl⟩]
      rw [List.map_map]
      show (g.map fun t => t.1 * worth (names L) (starts L) t.2).sum = _
      congr 1
      exact List.map_congr_left fun t ht => by
        show t.1 * _ = t.1 * gg (ren w t.2)
        rw [gr _ (S.known l hl g hgm t ht)]
  · rw [en] at hy
    obtain ⟨z, hz, rfl⟩ := List.mem_map.mp hy
    exact p7 z hz
  · obtain ⟨l, hl, rfl⟩ := List.mem_map.mp hx
    obtain ⟨g, hg, rfl⟩ := fm hf
    rw [List.length_map]
    exact Nat.le_trans (d.small l hl g hg) (by decide)

/-! Tuples one behind the other, books asked by == and !=, books that are shown. -/
section
variable {F : Fr} {Γ : List Sl} {f : Nat} {σ : L2.St} {H : Hp} {K : PySem.W.Frag} {κ : Nat → Rs → Prop} {te ta tb tc : TE} {tA : TA} {D : Ends} {t u : Ty} {ts us : List Ty} {d : PyData} {ds : List PyData} {E : XK}
theorem wr_catT {t1 t2 : Ty} (h1 : IsTup K t1 ts) (h2 : IsTup K t2 us) (hne : ts ≠ []) (hl : ts.length + us.length ≤ 10000) (q : κ f (.ty (tTp K (ts ++ us)))) : WR K F Γ f (rCatT K) t1 t2 κ := fun x y σ H Q k g1 g2 c => by
  obtain ⟨a, vs, rfl, hS, hA⟩ := h1 g1
  obtain ⟨b, ws, rfl, hS2, hA2⟩ := h2 g2
  refine ⟨a, b, vs, ws, rfl, rfl, sqt_same hidP_le hS, sqt_same hidP_le hS2, fun z => hne ?_, Nat.le_of_lt (small10000 (by rw [← hA.len, ← hA2.len]; exact hl)), fun z => ?_, fun _ p np => ?_⟩
  · have := hA.len
    rw [z] at this
    exact List.eq_nil_of_length_eq_zero this
  · have e : us = [] := by
      have := hA2.len
      rw [z] at this
      exact List.eq_nil_of_length_eq_zero this
    subst e
    rw [List.append_nil] at q
    exact c f _ _ H q k Step.refl ⟨a, vs, rfl, hS, hA⟩
  · exact c f _ _ _ q (k.grow (same_new np)) (Step.of (same_new np)) ⟨p, _, rfl, st_of (hidP_at upd_same (not_in k np)), (hA.app hA2).mono (hidP_mono fun b o e n => ⟨upd_old np e, n⟩)⟩
theorem wc_tuple {t1 : Ty} (h1 : IsLst K t1 ts) (q : κ f (.ty (tTp K ts))) : WC K F Γ f (rTupOf K) [t1] κ := fun xs σ H Q k g c => by
  match xs, g with
  | [], g => exact g.elim
  | _ :: _ :: _, g => exact g.2.elim
  | [x], g =>
    obtain ⟨a, vs, rfl, hS, hA⟩ := h1 g.1
    exact ⟨a, vs, rfl, .inl ⟨hidP_le.seq hS, fun p np => c f _ _ _ q (k.grow (same_new np)) (Step.of (same_new np)) ⟨p, _, rfl, st_of (hidP_at upd_same (not_in k np)), hA.mono (hidP_mono fun b o e n => ⟨upd_old np e, n⟩)⟩⟩⟩
theorem wr_neBook {CB : Addr × Addr} {b b' : Int} {L L' : List Line} (cl : Cls K CB.1) (ic : IsC K CB.1) (nf : PySem.W.notFirst K CB.1 (.ref CB.1) = true) (S1 : Sound b L) (S2 : Sound b' L') (q : κ f (.ty (tD K (.bool (!bookAns b b' L L'))))) :
    WR K F Γ f (rEqB K CB.1 (EqBook CB K) true) (tBk CB K b L) (tBk CB K b' L') κ := fun x y σ H Q k g1 g2 c => by
  obtain ⟨x1, rfl, B1⟩ := g1
  obtain ⟨x2, rfl, B2⟩ := g2
  have B1 := B1.same hidP_le
  have B2 := B2.same hidP_le
  obtain ⟨dx, _, _, _, _, e1, _⟩ := B1.ex
  obtain ⟨dx2, _, _, _, _, e2, _⟩ := B2.ex
  exact ⟨x1, dx, _, _, _, rfl, e1, .base (.ins e2 cl ic.ha ic.hn ic.ht ic.hm), nf, ⟨b, L, B1, S1, .inl ⟨x2, b', L', rfl, B2, S2, rfl⟩⟩, fun H' ex => by
    have ex : Same H H' := ex
    exact c f _ _ H' q (k.grow ex) (Step.of ex) (.bl _)⟩
/-- what kind of thing -/
def OfKind (K : PySem.W.Frag) (t : Ty) (k : Value) : Prop := ∀ {v : V} {H : Hp}, t.is v H → TyX K H v k
theorem kind_lst {H : Hp} {a : Addr} {xs : List V} (h : SqL K H a xs) : TyX K H (.ref a) (.type "list") := by
  rcases h with (h | ⟨o, h⟩) | ⟨o, its, n, h1, h2, _⟩
  · exact .base (.lst h)
  · exact .base (.frz h)
  · exact .kList h1 h2
theorem kind_tup {H : Hp} {a : Addr} {xs : List V} (h : SqT K H a xs) : TyX K H (.ref a) (.type "tuple") := by
  rcases h with (h | ⟨o, h⟩) | ⟨o, its, n, h1, h2, _⟩
  · exact .base (.tup h)
  · exact .fTuple h
  · exact .kTuple h1 h2
theorem kind_L : OfKind K (tL K ts) (.type "list") := fun ⟨a, vs, e, h, _⟩ => by
  subst e
  exact kind_lst h
theorem kind_T (h : IsTup K t ts) : OfKind K t (.type "tuple") := fun g => by
  obtain ⟨a, vs, rfl, hS, _⟩ := h g
  exact kind_tup hS
theorem kind_int {i : Int} : OfKind K (tD K (.int i)) (.type "int") := fun g => by
  rw [dp_int g]
  exact .base (.int _)
theorem kind_str {i : Str} : OfKind K (tD K (.str i)) (.type "str") := fun g => by
  rw [dp_str g]
  exact .base (.str _)
theorem kind_non : OfKind K (tD K .none) (.type "NoneType") := fun g => by
  have g : Dp K _ _ .none := g
  cases g
  exact .base .non
theorem wr_eqBookX {CB : Addr × Addr} {b : Int} {L : List Line} {t2 : Ty} {ty : Value} (S1 : Sound b L) (h2 : OfKind K t2 ty) (ki : PySem.W.kitOne K ty (.ref CB.1) = some false) (nf : PySem.W.notFirst K CB.1 ty = true) (q : κ f (.ty (tD K (.bool false)))) :
    WR K F Γ f (rEqB K CB.1 (EqBook CB K) false) (tBk CB K b L) t2 κ := fun x y σ H Q k g1 g2 c => by
  obtain ⟨x1, rfl, B1⟩ := g1
  have B1 := B1.same hidP_le
  have hy := h2 (t2.mono hidP_le g2)
  obtain ⟨dx, _, _, _, _, e1, _⟩ := B1.ex
  exact ⟨x1, dx, _, _, false, rfl, e1, hy, nf, ⟨b, L, B1, S1, .inr ⟨rfl, ty, hy, ki⟩⟩, fun H' ex => by
    have ex : Same H H' := ex
    exact c f _ _ H' q (k.grow ex) (Step.of ex) (.bl _)⟩
end
/-! ### books that are shown -/
def lineD (l : Line) : PyData := .list [.str l.1, .int l.2.1, dForms l.2.2]
def bookD (b : Int) (L : List Line) : PyData := .list (.int b :: L.map lineD)
theorem pool7_ok : ∀ x ∈ pool7, PyData.strOk x = true ∧ x.cps.size ≤ 100 := by
  intro x hx
  unfold PyData.strOk
  rw [← Array.all_toList]
  revert x hx
  decide +kernel
theorem mate_nice {b : Int} {L : List Line} (M : Mate b L) {l : Line} (hl : l ∈ L) : Nice 4 (3 * (5688 + 1)) (lineD l) := by
  have S := M.sound
  have NF : Nice 3 5688 (dForms l.2.2) := nice_list (k := 2) (w := 7 * (202 + 1)) (n := 4) (fun d hd => by
    obtain ⟨f, hf, rfl⟩ := List.mem_map.mp hd
    refine nice_list (k := 1) (w := 202) (n := 7) (fun d hd => ?_) (by rw [List.length_map]; exact M.small l hl f hf)
    obtain ⟨tm, ht, rfl⟩ := List.mem_map.mp hd
    refine nice_tuple (k := 0) (w := 100) (n := 2) (fun d hd => ?_) (Nat.le_of_ble_eq_true rfl)
    simp only [List.mem_cons, List.not_mem_nil, or_false] at hd
    rcases hd with rfl | rfl
    · exact nice_int (PySem.Flt.log2_lt_of (by decide) (Nat.lt_trans (S.coefs l hl f hf tm ht) (show 2 ^ 10 < 2 ^ 100 by decide)))
    · obtain ⟨h1, h2⟩ := pool7_ok _ (M.names _ (S.known l hl f hf tm ht))
      exact nice_str h1 h2) (by rw [List.length_map]; have := S.forms l hl; have := S.base; omega)
  refine nice_list (k := 3) (w := 5688) (n := 3) (fun d hd => ?_) (Nat.le_of_ble_eq_true rfl)
  simp only [List.mem_cons, List.not_mem_nil, or_false] at hd
  rcases hd with rfl | rfl | rfl
  · obtain ⟨h1, h2⟩ := pool7_ok _ (M.names _ (List.mem_map.mpr ⟨l, hl, rfl⟩))
    exact (nice_str h1 h2).more (by decide) (by decide)
  · exact (nice_int (PySem.Flt.log2_lt_of (by decide) (Nat.lt_trans (S.begins l hl) (show 2 ^ 20 < 2 ^ 100 by decide)))).more (by decide) (by decide)
  · exact NF
theorem mate_told {b : Int} {L : List Line} (M : Mate b L) : Told (bookD b L) := by
  refine (nice_list (k := 4) (w := 3 * (5688 + 1)) (n := 5) (fun d hd => ?_) (by rw [List.length_cons, List.length_map]; have := M.most; omega)).told (by decide) (by decide)
  rcases List.mem_cons.mp hd with rfl | hd
  · have := M.sound.base
    exact (nice_int (PySem.Flt.log2_lt_of (by decide) (Nat.lt_of_le_of_lt (show b.natAbs ≤ 4 by omega) (show 4 < 2 ^ 100 by decide)))).more (by decide) (by decide)
  · obtain ⟨l, hl, rfl⟩ := List.mem_map.mp hd
    exact mate_nice M hl
theorem forms_NN {b : Int} {L : List Line} (M : Mate b L) {l : Line} (hl : l ∈ L) : NN 3 (dForms l.2.2) := fun d hd => by
  obtain ⟨f, hf, rfl⟩ := List.mem_map.mp hd
  intro d hd
  obtain ⟨tm, ht, rfl⟩ := List.mem_map.mp hd
  refine ⟨Nat.le_of_ble_eq_true rfl, fun d hd => ?_⟩
  simp only [List.mem_cons, List.not_mem_nil, or_false] at hd
  rcases hd with rfl | rfl
  · trivial
  · exact M.names _ (M.sound.known l hl f hf tm ht)
theorem lineD_NN {b : Int} {L : List Line} (M : Mate b L) {l : Line} (hl : l ∈ L) : NN 4 (lineD l) := fun d hd => by
  simp only [List.mem_cons, List.not_mem_nil, or_false] at hd
  rcases hd with rfl | rfl | rfl
  · exact M.names _ (List.mem_map.mpr ⟨l, hl, rfl⟩)
  · trivial
  · exact forms_NN M hl
theorem bookD_NN {b : Int} {L : List Line} (M : Mate b L) : NN 5 (bookD b L) := fun d hd => by
  rcases List.mem_cons.mp hd with rfl | hd
  · trivial
  · obtain ⟨l, hl, rfl⟩ := List.mem_map.mp hd
    exact lineD_NN M hl
def z3 : List Str → List Int → List PyData → List PyData
  | x :: xs, y :: ys, z :: zs => .list [.str x, .int y, z] :: z3 xs ys zs
  | _, _, _ => []
theorem z3_eq : ∀ L : List Line, z3 (names L) (starts L) (L.map fun l => dForms l.2.2) = L.map lineD
  | [] => rfl
  | l :: L => by
    have ih := z3_eq L
    show PyData.list [.str l.1, .int l.2.1, dForms l.2.2] :: z3 (names L) (starts L) (L.map fun l => dForms l.2.2) = _
    rw [ih]
    rfl
def g1D : PyData → Str
  | .list (.str x :: _) => x
  | _ => Str.empty
def g2D : PyData → Int
  | .list (_ :: .int x :: _) => x
  | _ => 0
def g3D : PyData → PyData
  | .list (_ :: _ :: x :: _) => x
  | _ => .none
theorem book_shown {b b' : Int} {L L' : List Line} (M : Mate b L) (M' : Mate b' L') : decide ((bookD b L).shown = (bookD b' L').shown) = bookAns b b' L L' := by
  have n1 : NN 4 (.list (L.map fun l => dForms l.2.2)) := fun d hd => by
    obtain ⟨l, hl, rfl⟩ := List.mem_map.mp hd
    exact forms_NN M hl
  have n2 : NN 4 (.list (L'.map fun l => dForms l.2.2)) := fun d hd => by
    obtain ⟨l, hl, rfl⟩ := List.mem_map.mp hd
    exact forms_NN M' hl
  rw [Bool.eq_iff_iff, decide_eq_true_iff]
  unfold bookAns
  rw [Bool.and_eq_true, Bool.and_eq_true, Bool.and_eq_true, decide_eq_true_iff, decide_eq_true_iff, decide_eq_true_iff, eqv_NN 4 _ _ n1 n2]
  constructor
  · intro h
    have h := shown_inj (bookD_NN M) (bookD_NN M') h
    unfold bookD at h
    injection h with h
    injection h with h1 h2
    injection h1 with h1
    have en : ∀ L : List Line, names L = (L.map lineD).map g1D := fun L => by unfold names; rw [List.map_map]; rfl
    have es : ∀ L : List Line, starts L = (L.map lineD).map g2D := fun L => by unfold starts; rw [List.map_map]; rfl
    have ef : ∀ L : List Line, (L.map fun l => dForms l.2.2) = (L.map lineD).map g3D := fun L => by rw [List.map_map]; rfl
    refine ⟨h1, ?_, ?_, ?_⟩
    · rw [en, en, h2]
    · rw [es, es, h2]
    · rw [ef, ef, h2]
  · rintro ⟨h1, h2, h3, h4⟩
    injection h4 with h4
    unfold bookD
    rw [h1, ← z3_eq L, ← z3_eq L', h2, h3, h4]

def top (i : Nat) : Stmt := PySem.Challenge.pw_figurebooks_k04_equal_books.main.body.getD i (.Pass ⟨0, 0, 0, 0⟩)
abbrev s_f_check_base : Stmt := top 9
abbrev N_f_check_base : List Str := ["base"]
theorem sc_f_check_base : FnScope N_f_check_base ["base"] (defScope s_f_check_base) := ⟨rfl, rfl, rfl, by decide +kernel, rfl, by decide +kernel, by decide +kernel⟩
abbrev s_f_is_letter : Stmt := top 10
abbrev N_f_is_letter : List Str := ["name"]
theorem sc_f_is_letter : FnScope N_f_is_letter ["name"] (defScope s_f_is_letter) := ⟨rfl, rfl, rfl, by decide +kernel, rfl, by decide +kernel, by decide +kernel⟩
abbrev s_f_System___init__ : Stmt := inClass (top 12) 0
abbrev N_f_System___init__ : List Str := ["self", "starts", "steps", "step", "terms"]
theorem sc_f_System___init__ : FnScope N_f_System___init__ ["self", "starts", "steps"] (defScope s_f_System___init__) := ⟨rfl, rfl, rfl, by decide +kernel, rfl, by decide +kernel, by decide +kernel⟩
abbrev s_f_Book___init__ : Stmt := inClass (top 14) 0
abbrev N_f_Book___init__ : List Str := ["self", "base", "rows", "name", "_", "start", "formulas", "figure"]
theorem sc_f_Book___init__ : FnScope N_f_Book___init__ ["self", "base", "rows"] (defScope s_f_Book___init__) := ⟨rfl, rfl, rfl, by decide +kernel, rfl, by decide +kernel, by decide +kernel⟩
abbrev s_f_Book_index_of : Stmt := inClass (top 14) 4
abbrev N_f_Book_index_of : List Str := ["self", "name"]
theorem sc_f_Book_index_of : FnScope N_f_Book_index_of ["self", "name"] (defScope s_f_Book_index_of) := ⟨rfl, rfl, rfl, by decide +kernel, rfl, by decide +kernel, by decide +kernel⟩
abbrev s_f_Book_start_of : Stmt := inClass (top 14) 5
abbrev N_f_Book_start_of : List Str := ["self", "name"]
theorem sc_f_Book_start_of : FnScope N_f_Book_start_of ["self", "name"] (defScope s_f_Book_start_of) := ⟨rfl, rfl, rfl, by decide +kernel, rfl, by decide +kernel, by decide +kernel⟩
abbrev s_f_Book_formulas_of : Stmt := inClass (top 14) 6
abbrev N_f_Book_formulas_of : List Str := ["self", "name"]
theorem sc_f_Book_formulas_of : FnScope N_f_Book_formulas_of ["self", "name"] (defScope s_f_Book_formulas_of) := ⟨rfl, rfl, rfl, by decide +kernel, rfl, by decide +kernel, by decide +kernel⟩
abbrev s_f_Book___eq__ : Stmt := inClass (top 14) 7
abbrev N_f_Book___eq__ : List Str := ["self", "other"]
theorem sc_f_Book___eq__ : FnScope N_f_Book___eq__ ["self", "other"] (defScope s_f_Book___eq__) := ⟨rfl, rfl, rfl, by decide +kernel, rfl, by decide +kernel, by decide +kernel⟩
abbrev s_f_check_names : Stmt := top 15
abbrev N_f_check_names : List Str := ["rows", "earlier", "name", "_"]
theorem sc_f_check_names : FnScope N_f_check_names ["rows"] (defScope s_f_check_names) := ⟨rfl, rfl, rfl, by decide +kernel, rfl, by decide +kernel, by decide +kernel⟩
abbrev s_f_check_formulas : Stmt := top 16
abbrev N_f_check_formulas : List Str := ["base", "rows", "names", "name", "_", "formulas"]
theorem sc_f_check_formulas : FnScope N_f_check_formulas ["base", "rows"] (defScope s_f_check_formulas) := ⟨rfl, rfl, rfl, by decide +kernel, rfl, by decide +kernel, by decide +kernel⟩
abbrev s_f_are_known : Stmt := top 17
abbrev N_f_are_known : List Str := ["formulas", "names", "terms", "_", "name"]
theorem sc_f_are_known : FnScope N_f_are_known ["formulas", "names"] (defScope s_f_are_known) := ⟨rfl, rfl, rfl, by decide +kernel, rfl, by decide +kernel, by decide +kernel⟩
abbrev s_f_check_starts : Stmt := top 18
abbrev N_f_check_starts : List Str := ["rows", "starts", "name", "start", "formulas", "_", "coefficient", "other"]
theorem sc_f_check_starts : FnScope N_f_check_starts ["rows"] (defScope s_f_check_starts) := ⟨rfl, rfl, rfl, by decide +kernel, rfl, by decide +kernel, by decide +kernel⟩
abbrev s_f_copied : Stmt := top 19
abbrev N_f_copied : List Str := ["formulas", "terms"]
theorem sc_f_copied : FnScope N_f_copied ["formulas"] (defScope s_f_copied) := ⟨rfl, rfl, rfl, by decide +kernel, rfl, by decide +kernel, by decide +kernel⟩
abbrev s_f_step_of : Stmt := top 20
abbrev N_f_step_of : List Str := ["names", "formulas", "figure", "parts", "coefficient", "name"]
theorem sc_f_step_of : FnScope N_f_step_of ["names", "formulas", "figure"] (defScope s_f_step_of) := ⟨rfl, rfl, rfl, by decide +kernel, rfl, by decide +kernel, by decide +kernel⟩
abbrev s_f_law_pool : Stmt := top 22
abbrev N_f_law_pool : List Str := ["script", "spot", "cell"]
theorem sc_f_law_pool : FnScope N_f_law_pool ["script", "spot"] (defScope s_f_law_pool) := ⟨rfl, rfl, rfl, by decide +kernel, rfl, by decide +kernel, by decide +kernel⟩
abbrev s_f_law_draw : Stmt := top 23
abbrev N_f_law_draw : List Str := ["pool", "many", "drawn", "mixed"]
theorem sc_f_law_draw : FnScope N_f_law_draw ["pool", "many"] (defScope s_f_law_draw) := ⟨rfl, rfl, rfl, by decide +kernel, rfl, by decide +kernel, by decide +kernel⟩
abbrev s_f_law_factor : Stmt := top 24
abbrev N_f_law_factor : List Str := ["pool", "size"]
theorem sc_f_law_factor : FnScope N_f_law_factor ["pool"] (defScope s_f_law_factor) := ⟨rfl, rfl, rfl, by decide +kernel, rfl, by decide +kernel, by decide +kernel⟩
abbrev s_f_law_terms : Stmt := top 25
abbrev N_f_law_terms : List Str := ["pool", "letters", "many", "turn"]
theorem sc_f_law_terms : FnScope N_f_law_terms ["pool", "letters", "many"] (defScope s_f_law_terms) := ⟨rfl, rfl, rfl, by decide +kernel, rfl, by decide +kernel, by decide +kernel⟩
abbrev s_f_law_first : Stmt := top 26
abbrev N_f_law_first : List Str := ["pool", "starts", "letter", "found", "noughts", "turn", "others", "one", "two", "other", "term"]
theorem sc_f_law_first : FnScope N_f_law_first ["pool", "starts", "letter"] (defScope s_f_law_first) := ⟨rfl, rfl, rfl, by decide +kernel, rfl, by decide +kernel, by decide +kernel⟩
abbrev s_f_law_kind : Stmt := top 27
abbrev N_f_law_kind : List Str := ["pool", "many", "base_here", "letters", "starts", "lines", "letter", "formulas", "figure_here"]
theorem sc_f_law_kind : FnScope N_f_law_kind ["pool", "many"] (defScope s_f_law_kind) := ⟨rfl, rfl, rfl, by decide +kernel, rfl, by decide +kernel, by decide +kernel⟩
abbrev s_f_law_made : Stmt := top 28
abbrev N_f_law_made : List Str := ["kind", "letter", "start", "formulas", "one"]
theorem sc_f_law_made : FnScope N_f_law_made ["kind"] (defScope s_f_law_made) := ⟨rfl, rfl, rfl, by decide +kernel, rfl, by decide +kernel, by decide +kernel⟩
abbrev s_f_law_other : Stmt := top 29
abbrev N_f_law_other : List Str := ["pool", "kind", "base_here", "lines", "at", "way", "letter", "start", "formulas", "often", "other", "fresh", "one", "begun", "told", "formula"]
theorem sc_f_law_other : FnScope N_f_law_other ["pool", "kind"] (defScope s_f_law_other) := ⟨rfl, rfl, rfl, by decide +kernel, rfl, by decide +kernel, by decide +kernel⟩
abbrev s_f_law_caught : Stmt := top 30
abbrev N_f_law_caught : List Str := ["made", "letter", "which", "e", "odd"]
theorem sc_f_law_caught : FnScope N_f_law_caught ["made", "letter", "which"] (defScope s_f_law_caught) := ⟨rfl, rfl, rfl, by decide +kernel, rfl, by decide +kernel, by decide +kernel⟩
abbrev s_f_law_right : Stmt := top 31
abbrev N_f_law_right : List Str := ["pool", "kind", "mate", "one", "two", "due", "letters", "letter", "wanted", "line", "which", "thing"]
theorem sc_f_law_right : FnScope N_f_law_right ["pool"] (defScope s_f_law_right) := ⟨rfl, rfl, rfl, by decide +kernel, rfl, by decide +kernel, by decide +kernel⟩
abbrev s_f_law : Stmt := top 32
abbrev N_f_law : List Str := ["script", "spot", "pool", "turn"]
theorem sc_f_law : FnScope N_f_law ["script"] (defScope s_f_law) := ⟨rfl, rfl, rfl, by decide +kernel, rfl, by decide +kernel, by decide +kernel⟩
structure Ad where
  a_f_check_base : Addr
  d_f_check_base : FuncData
  a_f_is_letter : Addr
  d_f_is_letter : FuncData
  a_f_System___init__ : Addr
  d_f_System___init__ : FuncData
  a_f_Book___init__ : Addr
  d_f_Book___init__ : FuncData
  a_f_Book_index_of : Addr
  d_f_Book_index_of : FuncData
  a_f_Book_start_of : Addr
  d_f_Book_start_of : FuncData
  a_f_Book_formulas_of : Addr
  d_f_Book_formulas_of : FuncData
  a_f_Book___eq__ : Addr
  d_f_Book___eq__ : FuncData
  a_f_check_names : Addr
  d_f_check_names : FuncData
  a_f_check_formulas : Addr
  d_f_check_formulas : FuncData
  a_f_are_known : Addr
  d_f_are_known : FuncData
  a_f_check_starts : Addr
  d_f_check_starts : FuncData
  a_f_copied : Addr
  d_f_copied : FuncData
  a_f_step_of : Addr
  d_f_step_of : FuncData
  a_f_law_pool : Addr
  d_f_law_pool : FuncData
  a_f_law_draw : Addr
  d_f_law_draw : FuncData
  a_f_law_factor : Addr
  d_f_law_factor : FuncData
  a_f_law_terms : Addr
  d_f_law_terms : FuncData
  a_f_law_first : Addr
  d_f_law_first : FuncData
  a_f_law_kind : Addr
  d_f_law_kind : FuncData
  a_f_law_made : Addr
  d_f_law_made : FuncData
  a_f_law_other : Addr
  d_f_law_other : FuncData
  a_f_law_caught : Addr
  d_f_law_caught : FuncData
  a_f_law_right : Addr
  d_f_law_right : FuncData
  a_f_law : Addr
  d_f_law : FuncData
  C_Book : Addr
  C_System : Addr
  C_BookError : Addr
  C_InvalidName : Addr
  C_InvalidBase : Addr
  C_InvalidFormula : Addr
  C_InvalidNumber : Addr
  C_Unsound : Addr
  a_init : Addr
structure Txt (K : PySem.W.Frag) (mg : Str → Option Value) (t : Ad) : Prop where
  F_f_check_base : Fun K "check_base" "check_base" s_f_check_base t.a_f_check_base t.d_f_check_base
  b_f_check_base : Binds K t.d_f_check_base ["base"] []
  g_f_check_base : mg "check_base" = some (.ref t.a_f_check_base)
  F_f_is_letter : Fun K "is_letter" "is_letter" s_f_is_letter t.a_f_is_letter t.d_f_is_letter
  b_f_is_letter : Binds K t.d_f_is_letter ["name"] []
  g_f_is_letter : mg "is_letter" = some (.ref t.a_f_is_letter)
  F_f_System___init__ : Fun K "__init__" "System.__init__" s_f_System___init__ t.a_f_System___init__ t.d_f_System___init__
  b_f_System___init__ : Binds K t.d_f_System___init__ ["self", "starts", "steps"] []
  k_System : Mk K t.C_System t.a_f_System___init__
  F_f_Book___init__ : Fun K "__init__" "Book.__init__" s_f_Book___init__ t.a_f_Book___init__ t.d_f_Book___init__
  b_f_Book___init__ : Binds K t.d_f_Book___init__ ["self", "base", "rows"] []
  k_Book : Mk K t.C_Book t.a_f_Book___init__
  F_f_Book_index_of : Fun K "index_of" "Book.index_of" s_f_Book_index_of t.a_f_Book_index_of t.d_f_Book_index_of
  b_f_Book_index_of : Binds K t.d_f_Book_index_of ["self", "name"] []
  t_f_Book_index_of : Meth K t.C_Book "index_of" t.a_f_Book_index_of
  F_f_Book_start_of : Fun K "start_of" "Book.start_of" s_f_Book_start_of t.a_f_Book_start_of t.d_f_Book_start_of
  b_f_Book_start_of : Binds K t.d_f_Book_start_of ["self", "name"] []
  t_f_Book_start_of : Meth K t.C_Book "start_of" t.a_f_Book_start_of
  F_f_Book_formulas_of : Fun K "formulas_of" "Book.formulas_of" s_f_Book_formulas_of t.a_f_Book_formulas_of t.d_f_Book_formulas_of
  b_f_Book_formulas_of : Binds K t.d_f_Book_formulas_of ["self", "name"] []
  kb_f_Book_formulas_of : KBn K t.d_f_Book_formulas_of ["self", "name"] 1 ["name"] (fun us ws => us ++ ws) (fun vs zs => vs ++ zs)
  t_f_Book_formulas_of : Meth K t.C_Book "formulas_of" t.a_f_Book_formulas_of
  F_f_Book___eq__ : Fun K "__eq__" "Book.__eq__" s_f_Book___eq__ t.a_f_Book___eq__ t.d_f_Book___eq__
  b_f_Book___eq__ : Binds K t.d_f_Book___eq__ ["self", "other"] []
  t_f_Book___eq__ : PySem.W.findIn K (.ref t.C_Book) "__eq__" = some (some (.ref t.a_f_Book___eq__)) ∧ PySem.W.isFn K (.ref t.a_f_Book___eq__) = true
  F_f_check_names : Fun K "_check_names" "_check_names" s_f_check_names t.a_f_check_names t.d_f_check_names
  b_f_check_names : Binds K t.d_f_check_names ["rows"] []
  g_f_check_names : mg "_check_names" = some (.ref t.a_f_check_names)
  F_f_check_formulas : Fun K "_check_formulas" "_check_formulas" s_f_check_formulas t.a_f_check_formulas t.d_f_check_formulas
  b_f_check_formulas : Binds K t.d_f_check_formulas ["base", "rows"] []
  g_f_check_formulas : mg "_check_formulas" = some (.ref t.a_f_check_formulas)
  F_f_are_known : Fun K "_are_known" "_are_known" s_f_are_known t.a_f_are_known t.d_f_are_known
  b_f_are_known : Binds K t.d_f_are_known ["formulas", "names"] []
  g_f_are_known : mg "_are_known" = some (.ref t.a_f_are_known)
  F_f_check_starts : Fun K "_check_starts" "_check_starts" s_f_check_starts t.a_f_check_starts t.d_f_check_starts
  b_f_check_starts : Binds K t.d_f_check_starts ["rows"] []
  g_f_check_starts : mg "_check_starts" = some (.ref t.a_f_check_starts)
  F_f_copied : Fun K "_copied" "_copied" s_f_copied t.a_f_copied t.d_f_copied
  b_f_copied : Binds K t.d_f_copied ["formulas"] []
  g_f_copied : mg "_copied" = some (.ref t.a_f_copied)
  F_f_step_of : Fun K "_step_of" "_step_of" s_f_step_of t.a_f_step_of t.d_f_step_of
  b_f_step_of : Binds K t.d_f_step_of ["names", "formulas", "figure"] []
  g_f_step_of : mg "_step_of" = some (.ref t.a_f_step_of)
  F_f_law_pool : Fun K "_law_pool" "_law_pool" s_f_law_pool t.a_f_law_pool t.d_f_law_pool
  b_f_law_pool : Binds K t.d_f_law_pool ["script", "spot"] []
  g_f_law_pool : mg "_law_pool" = some (.ref t.a_f_law_pool)
  F_f_law_draw : Fun K "_law_draw" "_law_draw" s_f_law_draw t.a_f_law_draw t.d_f_law_draw
  b_f_law_draw : Binds K t.d_f_law_draw ["pool", "many"] []
  g_f_law_draw : mg "_law_draw" = some (.ref t.a_f_law_draw)
  F_f_law_factor : Fun K "_law_factor" "_law_factor" s_f_law_factor t.a_f_law_factor t.d_f_law_factor
  b_f_law_factor : Binds K t.d_f_law_factor ["pool"] []
  g_f_law_factor : mg "_law_factor" = some (.ref t.a_f_law_factor)
  F_f_law_terms : Fun K "_law_terms" "_law_terms" s_f_law_terms t.a_f_law_terms t.d_f_law_terms
  b_f_law_terms : Binds K t.d_f_law_terms ["pool", "letters", "many"] []
  g_f_law_terms : mg "_law_terms" = some (.ref t.a_f_law_terms)
  F_f_law_first : Fun K "_law_first" "_law_first" s_f_law_first t.a_f_law_first t.d_f_law_first
  b_f_law_first : Binds K t.d_f_law_first ["pool", "starts", "letter"] []
  g_f_law_first : mg "_law_first" = some (.ref t.a_f_law_first)
  F_f_law_kind : Fun K "_law_kind" "_law_kind" s_f_law_kind t.a_f_law_kind t.d_f_law_kind
  b_f_law_kind : Binds K t.d_f_law_kind ["pool", "many"] []
  g_f_law_kind : mg "_law_kind" = some (.ref t.a_f_law_kind)
  F_f_law_made : Fun K "_law_made" "_law_made" s_f_law_made t.a_f_law_made t.d_f_law_made
  b_f_law_made : Binds K t.d_f_law_made ["kind"] []
  g_f_law_made : mg "_law_made" = some (.ref t.a_f_law_made)
  F_f_law_other : Fun K "_law_other" "_law_other" s_f_law_other t.a_f_law_other t.d_f_law_other
  b_f_law_other : Binds K t.d_f_law_other ["pool", "kind"] []
  g_f_law_other : mg "_law_other" = some (.ref t.a_f_law_other)
  F_f_law_caught : Fun K "_law_caught" "_law_caught" s_f_law_caught t.a_f_law_caught t.d_f_law_caught
  b_f_law_caught : Binds K t.d_f_law_caught ["made", "letter", "which"] []
  g_f_law_caught : mg "_law_caught" = some (.ref t.a_f_law_caught)
  F_f_law_right : Fun K "_law_right" "_law_right" s_f_law_right t.a_f_law_right t.d_f_law_right
  b_f_law_right : Binds K t.d_f_law_right ["pool"] []
  g_f_law_right : mg "_law_right" = some (.ref t.a_f_law_right)
  F_f_law : Fun K "law" "law" s_f_law t.a_f_law t.d_f_law
  b_f_law : Binds K t.d_f_law ["script"] []
  g_f_law : mg "law" = some (.ref t.a_f_law)
  g_Book : mg "Book" = some (.ref t.C_Book)
  c_Book : Cls K t.C_Book
  e_Book : IsC K t.C_Book
  ne_Book : PySem.W.findIn K (.ref t.C_Book) "__ne__" = some (some (.builtin "object.__ne__"))
  nf_Book_Book : PySem.W.notFirst K t.C_Book (.ref t.C_Book) = true
  nf_Book_tuple : PySem.W.notFirst K t.C_Book (.type "tuple") = true
  ki_Book_tuple : PySem.W.kitOne K (.type "tuple") (.ref t.C_Book) = some false
  nf_Book_list : PySem.W.notFirst K t.C_Book (.type "list") = true
  ki_Book_list : PySem.W.kitOne K (.type "list") (.ref t.C_Book) = some false
  nf_Book_int : PySem.W.notFirst K t.C_Book (.type "int") = true
  ki_Book_int : PySem.W.kitOne K (.type "int") (.ref t.C_Book) = some false
  nf_Book_str : PySem.W.notFirst K t.C_Book (.type "str") = true
  ki_Book_str : PySem.W.kitOne K (.type "str") (.ref t.C_Book) = some false
  nf_Book_none : PySem.W.notFirst K t.C_Book (.type "NoneType") = true
  ki_Book_none : PySem.W.kitOne K (.type "NoneType") (.ref t.C_Book) = some false
  n_Book__base : NoAttr K t.C_Book "_base"
  n_Book__names : NoAttr K t.C_Book "_names"
  n_Book__starts : NoAttr K t.C_Book "_starts"
  n_Book__formulas : NoAttr K t.C_Book "_formulas"
  n_Book__system : NoAttr K t.C_Book "_system"
  g_System : mg "System" = some (.ref t.C_System)
  c_System : Cls K t.C_System
  n_System__starts : NoAttr K t.C_System "_starts"
  n_System__steps : NoAttr K t.C_System "_steps"
  g_BookError : mg "BookError" = some (.ref t.C_BookError)
  g_InvalidName : mg "InvalidName" = some (.ref t.C_InvalidName)
  g_InvalidBase : mg "InvalidBase" = some (.ref t.C_InvalidBase)
  g_InvalidFormula : mg "InvalidFormula" = some (.ref t.C_InvalidFormula)
  g_InvalidNumber : mg "InvalidNumber" = some (.ref t.C_InvalidNumber)
  g_Unsound : mg "Unsound" = some (.ref t.C_Unsound)
  low_InvalidName : PySem.LowX.LowTxt K mg "InvalidName" t.C_InvalidName t.a_init
  err_InvalidName : ErrC K t.C_InvalidName
  te_InvalidName : PySem.W.exmOne K (.ref t.C_InvalidName) (.ref t.C_BookError) = some true
  kit0 : PySem.W.kitAny K (.ref t.C_InvalidName) [.ref t.C_InvalidBase, .ref t.C_InvalidFormula, .ref t.C_InvalidNumber, .ref t.C_Unsound] = some false
  kit1 : PySem.W.kitOne K (.ref t.C_InvalidName) (.ref t.C_InvalidName) = some true
  m_abs : mg "abs" = none
  m_all : mg "all" = none
  m_int : mg "int" = none
  m_isinstance : mg "isinstance" = none
  m_len : mg "len" = none
  m_list : mg "list" = none
  m_max : mg "max" = none
  m_min : mg "min" = none
  m_range : mg "range" = none
  m_repr : mg "repr" = none
  m_sorted : mg "sorted" = none
  m_sum : mg "sum" = none
  m_tuple : mg "tuple" = none
local macro_rules | `(tactic| top_argsB) => `(tactic| repeat' (first | assumption | exact upd_same | refine upd_old (by assumption) ?_ | refine upd_oth (by first | assumption | exact Ne.symm (by assumption)) ?_))
local macro_rules | `(tactic| top_raiseB) => `(tactic| repeat' (first | assumption | exact sq_of (by top_argsB) | refine sq_new (by assumption) ?_ | refine sq_oth (by first | assumption | exact Ne.symm (by assumption)) ?_))
local macro_rules | `(tactic| top_caught0) => `(tactic| repeat' (first | assumption | exact st_of (by top_argsB) | refine st_new (by assumption) ?_ | refine st_oth (by first | assumption | exact Ne.symm (by assumption)) ?_))
local macro_rules | `(tactic| mod_arm) => `(tactic| repeat' (first | assumption | exact Same.refl _ | refine Fb.Same.new ?_ (by assumption)))
local macro_rules | `(tactic| top_caughtB) => `(tactic| repeat' (first
  | ((with_reducible refine r_var0 ?_); refine ⟨_, rfl, ?_⟩) | with_reducible refine r_c ?_ | with_reducible refine r_op ?_ | with_reducible refine r_cons ?_ | with_reducible refine r_nil ?_
  | with_reducible refine r_seq ?_ | with_reducible refine r_asg ?_ | with_reducible refine r_gname ?_ | with_reducible refine r_ret ?_ | with_reducible refine r_drop ?_ | with_reducible refine r_next ?_
  | with_reducible refine r_ifS ?_ | with_reducible refine r_if ?_ | with_reducible refine r_test ?_ | with_reducible refine r_B ?_ | with_reducible refine r_and ?_ | with_reducible refine r_or ?_ | with_reducible refine r_not ?_
  | with_reducible refine r_andV ?_ | with_reducible refine r_orV ?_ | with_reducible refine r_notV ?_ | with_reducible refine r_un ?_ | with_reducible refine r_call ?_ | with_reducible refine r_make ?_ | with_reducible refine r_for1 ?_ | with_reducible refine r_CB ?_ | with_reducible refine r_tup ?_ | with_reducible refine r_lst ?_
  | with_reducible refine r_fld ?_ | with_reducible refine r_meth ?_ | with_reducible refine r_bm ?_ | with_reducible refine r_bm0 ?_ | with_reducible refine r_prop ?_ | with_reducible refine r_gsub ?_ | with_reducible refine r_sl ?_ | with_reducible refine r_nopart ?_ | with_reducible refine r_part ?_ | with_reducible refine r_par ?_
  | with_reducible refine r_sfld ?_ | with_reducible refine r_gcons ?_ | with_reducible refine r_gnil ?_ | ((with_reducible refine r_gtup0 ?_); refine ⟨_, by top_caught0, rfl, ?_⟩)
  | with_reducible refine r_bl ?_ | with_reducible refine r_in ?_ | with_reducible refine r_two ?_ | with_reducible refine r_U ?_ | with_reducible refine r_I0 ?_ | ((with_reducible refine r_eq ?_ ?_); focus exact rfl) | ((with_reducible refine r_ne ?_ ?_); focus exact rfl)
  | ((with_reducible refine r_mk ?_ ?_); focus exact rfl)
  | with_reducible refine r_i1 ?_ | with_reducible refine r_i1o ?_ | with_reducible refine r_i2 ?_ | with_reducible refine r_b1o ?_ | ((with_reducible refine r_len0 ?_); refine ⟨_, by top_raiseB, ?_⟩)
  | ((with_reducible refine r_ixL0 ?_); refine ⟨_, _, by top_raiseB, by rfl, ?_⟩) | ((with_reducible refine r_ixT0 ?_); refine ⟨_, _, by top_caught0, by rfl, ?_⟩)
  | ((with_reducible refine r_tyL0 ?_); refine ⟨⟨_, by top_argsB⟩, ?_⟩)
  | ((with_reducible refine r_I ?_ ?_); focus ((try dsimp only); first | with_reducible assumption | decide | exact (show CPowW _ _ from ⟨by decide, by decide +kernel⟩) | exact (show CDivW _ _ from ⟨by decide, by decide +kernel⟩)))
  | with_reducible refine r_yes ?_ | with_reducible refine iteT ?_ | with_reducible refine iteF ?_
  | dsimp only [List.set, List.append_nil, List.cons_append, List.nil_append, wipe, List.map]))


abbrev sp_f_law_draw (_ : PySem.W.Frag) (_ : Ad) : Sp := spDraw
abbrev sp_f_law_pool (K : PySem.W.Frag) (_ : Ad) : Sp := spPool K
theorem pool_ok {x y k z : Int} (h0 : 0 ≤ x) (hz : z = y % 2305843009213693951 + 7368787 * (k + 1)) (hk0 : 0 ≤ k) (hk : k ≤ 5) : PoolO 1000000 (.lst [.int x, .int z, .int 0]) := by
  refine ⟨x, z, 0, rfl, h0, ?_, ?_, by decide, by decide⟩
  · have := Int.emod_nonneg y (show (2305843009213693951 : Int) ≠ 0 by decide)
    omega
  · have := Int.emod_lt_of_pos y (show (0 : Int) < 2305843009213693951 by decide)
    show z < 4611686018427387904
    omega
theorem mulx_small {i j : Int} (hi : i.natAbs < 2 ^ 200) (hj : j.natAbs < 2 ^ 200) : CMulX i j := mulx_ok hi hj (by decide)
theorem ok_f_law_pool {P : Program} {w : World} {K : PySem.W.Frag} {mg : Str → Option Value} {base : Heap} {t : Ad} (T : Txt K mg t) : FnOk P w K mg base CX0 1 t.a_f_law_pool t.d_f_law_pool ["script", "spot"] (spPool K) := by
  refine T.F_f_law_pool.ok sc_f_law_pool (fun vs H Q E h => ?_) (fun cdv A outer s H vs Q E hr h => ?_)
  · obtain ⟨a, ns, k, rfl, _⟩ := h
    rfl
  · obtain ⟨a, ns, k, rfl, hS, hk, q⟩ := h
    refine ⟨_, (pss_cons (ps_set (i := 2) sc_f_law_pool.nd rfl (Or.inl rfl) pe_int)
      (pss_cons (ps_if (pt_cmpR op_lt (pv 1) (pe_callB call_len_seq (by rfl) T.m_len (by decide +kernel) (pa_cons (pv 0) pa_nil)) (nomark _)) (pss_one (ps_set (i := 2) sc_f_law_pool.nd rfl (Or.inl rfl) (pe_ix ix_list (pv 0) (pv 1) (fun _ _ => rfl)))) pss_nil)
      (pss_one (ps_ret (pe_lst (pa_cons (pe_callB (call_max2 rfl) (by rfl) T.m_max (by decide +kernel) (pa_cons pe_int (pa_cons (pe_op op_sub (pe_callB call_abs (by rfl) T.m_abs (by decide +kernel) (pa_cons (pv 2) pa_nil)) (pe_op op_powW pe_int pe_int)) pa_nil))) (pa_cons (pe_op op_add (pe_op op_mod (pe_callTy (T := "int") call_int1 (by rfl) T.m_int (by decide +kernel) (pa_cons (pv 2) pa_nil)) pe_int) (pe_op op_mulX pe_int (pe_op op_add (pv 1) pe_int))) (pa_cons pe_int pa_nil)))))))), ?_⟩
    rw [show L2.start N_f_law_pool [V.ref a, V.int (k : Int)] = [some (V.ref a), some (V.int (k : Int)), none] from rfl]; try dsimp only [cxOf]
    top_caughtB
    have big : (200 : Nat) = 200 := rfl
    have hkk : ((k : Int) + 1).natAbs < 2 ^ 200 := Nat.lt_of_lt_of_le (show ((k : Int) + 1).natAbs < 2 ^ 3 by omega) (Nat.pow_le_pow_right (by decide) (by decide))
    refine ite2 (fun h1 => ?_) (fun h1 => ?_)
    · have h2 : k < ns.length := by
        have := of_decide_eq_true h1
        rw [List.length_map] at this
        omega
      top_caughtB
      refine r_ixL (v := .int ns[k]) hS (atI_nat (by rw [List.getElem?_map, List.getElem?_eq_getElem h2]; rfl)) ?_
      top_caughtB
      refine r_I (mulx_small (by decide) hkk) ?_
      top_caughtB
      intro p np
      exact q _ p (pool_ok (by split <;> omega) rfl (by omega) (by omega)) np
    · top_caughtB
      refine r_I (mulx_small (by decide) hkk) ?_
      top_caughtB
      intro p np
      exact q _ p (pool_ok (by split <;> omega) rfl (by omega) (by omega)) np
theorem abs_lt {i : Int} {n : Nat} (h0 : 0 ≤ i) (h : i < 2 ^ n) : i.natAbs < 2 ^ n := by
  have e : ((2 ^ n : Nat) : Int) = (2 : Int) ^ n := by simp
  omega
theorem ok_f_law_draw {P : Program} {w : World} {K : PySem.W.Frag} {mg : Str → Option Value} {base : Heap} {t : Ad} (T : Txt K mg t) : FnOk P w K mg base CX0 1 t.a_f_law_draw t.d_f_law_draw ["pool", "many"] spDraw := by
  refine T.F_f_law_draw.ok sc_f_law_draw (fun vs H Q E h => ?_) (fun cdv A outer s H vs Q E hr h => ?_)
  · obtain ⟨p, m, f, rfl, _⟩ := h
    rfl
  · obtain ⟨p, m, f, rfl, ⟨o, ho, a, b, c, rfl, h0, hb0, hb, hc0, hc⟩, hm0, hm, q⟩ := h
    refine ⟨_, (pss_cons (ps_if (pt_cmpR op_gt (pe_ix ix_list (pv 0) pe_int (fun _ _ => rfl)) pe_int (nomark _)) (pss_cons (ps_set (i := 2) sc_f_law_draw.nd rfl (Or.inl rfl) (pe_op op_mod (pe_callTy (T := "int") call_int1 (by rfl) T.m_int (by decide +kernel) (pa_cons (pe_ix ix_list (pv 0) pe_int (fun _ _ => rfl)) pa_nil)) (pv 1)))
      (pss_cons (ps_asg (pe_op op_fdivW (pe_ix ix_list (pv 0) pe_int (fun _ _ => rfl)) (pv 1)) (pg_sub (pv 0) pe_int set_list))
      (pss_one (ps_ret (pv 2))))) pss_nil)
      (pss_cons (ps_asg (pe_op op_add (pe_ix ix_list (pv 0) pe_int (fun _ _ => rfl)) pe_int) (pg_sub (pv 0) pe_int set_list))
      (pss_cons (ps_set (i := 3) sc_f_law_draw.nd rfl (Or.inl rfl) (pe_op op_mod (pe_callTy (T := "int") call_int1 (by rfl) T.m_int (by decide +kernel) (pa_cons (pe_op op_powW (pe_op op_add (pe_ix ix_list (pv 0) pe_int (fun _ _ => rfl)) (pe_op op_mulX pe_int (pe_ix ix_list (pv 0) pe_int (fun _ _ => rfl)))) pe_int) pa_nil)) pe_int))
      (pss_cons (ps_set (i := 3) sc_f_law_draw.nd rfl (Or.inl rfl) (pe_op op_mod (pe_callTy (T := "int") call_int1 (by rfl) T.m_int (by decide +kernel) (pa_cons (pe_op op_powW (pe_op op_add (pv 3) (pe_op op_mulX pe_int (pe_ix ix_list (pv 0) pe_int (fun _ _ => rfl)))) pe_int) pa_nil)) pe_int))
      (pss_one (ps_ret (pe_op op_mod (pe_callTy (T := "int") call_int1 (by rfl) T.m_int (by decide +kernel) (pa_cons (pe_op op_fdivW (pv 3) pe_int) pa_nil)) (pv 1)))))))), ?_⟩
    rw [show L2.start N_f_law_draw [V.ref p, V.int m] = [some (V.ref p), some (V.int m), none, none] from rfl]; try dsimp only [cxOf]
    have hmd : CDivW a m := wide_div hm0 (abs_lt (by omega) hm) (by decide) (by decide)
    have hb' : b < 4611686018427387904 := hb
    have r0 : 0 ≤ a % m := Int.emod_nonneg a (by omega)
    have r1 : a % m < m := Int.emod_lt_of_pos a hm0
    top_caughtB
    refine ite2 (fun h1 => ?_) (fun h1 => ?_)
    · top_caughtB
      refine r_setL (by top_argsB) (by rfl) ?_
      top_caughtB
      exact q _ _ r0 r1 ⟨a / m, b, c, rfl, Int.ediv_nonneg h0 (by omega), hb0, hb, hc0, by omega⟩
    · top_caughtB
      refine r_setL (by top_argsB) (by rfl) ?_
      top_caughtB
      refine r_I (mulx_small (by decide) (abs_lt (n := 200) (by omega) (Int.lt_of_lt_of_le (show c + 1 < 2 ^ 60 by show c + 1 < 1152921504606846976; omega) (by decide)))) ?_
      top_caughtB
      refine r_I (cpow3 (n := 64) (abs_lt (by omega) (by show b + 15485863 * (c + 1) < 18446744073709551616; omega)) (by decide)) ?_
      top_caughtB
      have t0 := Int.emod_nonneg ((b + 15485863 * (c + 1)) ^ (3 : Int).toNat) (show (162259276829213363391578010288127 : Int) ≠ 0 by decide)
      have t1 := Int.emod_lt_of_pos ((b + 15485863 * (c + 1)) ^ (3 : Int).toNat) (show (0 : Int) < 162259276829213363391578010288127 by decide)
      generalize ((b + 15485863 * (c + 1)) ^ (3 : Int).toNat) % 162259276829213363391578010288127 = x at t0 t1 ⊢
      refine r_I (mulx_small (by decide) (abs_lt (n := 200) (by omega) (Int.lt_of_lt_of_le (show c + 1 < 2 ^ 60 by show c + 1 < 1152921504606846976; omega) (by decide)))) ?_
      top_caughtB
      refine r_I (cpow3 (n := 128) (abs_lt (by omega) (by show x + 32452843 * (c + 1) < 340282366920938463463374607431768211456; omega)) (by decide)) ?_
      top_caughtB
      generalize (x + 32452843 * (c + 1)) ^ (3 : Int).toNat % 170141183460469231731687303715884105727 / 1048576 = y
      exact q _ _ (Int.emod_nonneg y (by omega)) (Int.emod_lt_of_pos y hm0) ⟨a, b, c + 1, rfl, h0, hb0, hb, by omega, by omega⟩


def knownB (f : List (List Term)) (ns : List Str) : Bool := f.all fun g => g.all fun tm => decide (tm.2 ∈ ns)
def sp_f_copied (K : PySem.W.Frag) (_ : Ad) : Sp := fun vs H Q _ => ∃ (a : Addr) (f : List (List Term)), vs = [.ref a] ∧ Dp K H (.ref a) (dForms f) ∧ f.length ≤ 1000 ∧
  ∀ H' r, H r = none → Same H H' → Dp K (nw H H') (.ref r) (dForms f) → (∃ xs, H' r = some (.lst xs) ∧ xs.length = f.length ∧ ∀ v ∈ xs, ∃ a zs, v = .ref a ∧ H a = none ∧ H' a = some (.lst zs) ∧ ∀ n, (∀ g ∈ f, g.length ≤ n) → zs.length ≤ n) → Q (.ref r) H'
theorem ok_f_copied {P : Program} {w : World} {K : PySem.W.Frag} {mg : Str → Option Value} {base : Heap} {t : Ad} (T : Txt K mg t) : FnOk P w K mg base CX0 1 t.a_f_copied t.d_f_copied ["formulas"] (sp_f_copied K t) := by
  refine T.F_f_copied.ok sc_f_copied (fun vs H Q E h => ?_) (fun cdv A outer s H vs Q E hr h => ?_)
  · obtain ⟨a, f, rfl, _⟩ := h
    rfl
  · obtain ⟨a, f, rfl, hd, hl, q⟩ := h
    refine ⟨_, (pss_one (ps_ret (pe_lc (own := [("terms", 1)]) (te := (tCB (rListOf K) (tCons (tVar 1) tNil))) (tt := tYes) (g := (gName 1)) rfl sc_f_copied.nd (pi_list (pv 0)) (blkOk_by (own := [("terms", 1)]) (N := N_f_copied) (sc := defScope s_f_copied) (by decide +kernel)) (fun _ _ _ _ _ => (pg_name (i := 1) sc_f_copied.nd rfl (Or.inl rfl))) (fun _ _ _ _ _ => pts_nil) (fun _ _ _ _ _ => (pe_callTy (T := "list") call_list_of (by rfl) T.m_list (by decide +kernel) (pa_cons (pv 1) pa_nil)))))), ?_⟩
    rw [show L2.start N_f_copied [V.ref a] = [some (V.ref a), none] from rfl]; try dsimp only [cxOf]
    obtain ⟨a', xs, e, hS, hA⟩ := dp_forms hd
    cases e
    have hn := dpa_map_len hA
    top_caughtB
    refine ⟨.ref a, rfl, a, rfl, ⟨xs, hS⟩, fun D hD => ?_⟩
    refine lc_pure (K := K) (fun i y H' => ∀ g, f[i]? = some g → Dp K H' y (dForm g) ∧ ∃ a zs, y = .ref a ∧ H a = none ∧ H' a = some (.lst zs) ∧ zs.length = g.length) (fun i y H1 H2 h s g e => ⟨dp_same s (h g e).1, let ⟨a, zs, h1, h2, h3, h4⟩ := (h g e).2; ⟨a, zs, h1, h2, s _ _ h3, h4⟩⟩) hS hD (by omega) (fun x H P P' h q => gm_name h q) (fun σ H P P' h q => h _ _ q) ?_ ?_
    · intro i x H1 QQ hx s1 nD hq
      obtain ⟨g, hg, hdg⟩ := dpa_at hA hx
      obtain ⟨b, zs, rfl, hSg, hAg⟩ := dp_form hdg
      unfold LcTurn
      top_caughtB
      refine ⟨rfl, ?_⟩
      top_caughtB
      refine ⟨b, zs, rfl, .inl (s1.seq hSg), fun l hl => ?_⟩
      refine hq _ _ (same_new hl) fun g' e' => ?_
      have eg : g = g' := Option.some.inj (hg.symm.trans e')
      subst eg
      exact ⟨.lst (sq_of ((nw_new hl).trans upd_same)) (dpa_terms_nw (same_new hl) (dpa_same s1 hAg)), l, zs, rfl, s1.free hl, (nw_new hl).trans upd_same, dpa_map_len hAg⟩
    · intro H1 ys hlen hR s1 eD
      refine q H1 D hD s1 (.lst (sq_of ((nw_new hD).trans eD)) ?_) ⟨ys, eD, by omega, fun v hv => ?_⟩
      · exact dpa_map (by omega) fun i y g h1 h2 => (hR i y h1 g h2).1
      · obtain ⟨i, hi⟩ := List.getElem?_of_mem hv
        have hif : i < f.length := by
          have := (List.getElem?_eq_some_iff.mp hi).1
          omega
        obtain ⟨_, a, zs, h1, h2, h3, h4⟩ := hR i v hi _ (List.getElem?_eq_getElem hif)
        exact ⟨a, zs, h1, h2, nw_le _ _ h3, fun n hn => by rw [h4]; exact hn _ (List.getElem_mem hif)⟩

def sp_f_check_base (_ : PySem.W.Frag) (_ : Ad) : Sp := fun vs H Q _ => ∃ b : Int, vs = [.int b] ∧ (b = 2 ∨ b = 3 ∨ b = 4) ∧ ∀ H', Same H H' → Q .non H'
theorem ok_f_check_base {P : Program} {w : World} {K : PySem.W.Frag} {mg : Str → Option Value} {base : Heap} {t : Ad} (T : Txt K mg t) : FnOk P w K mg base CX0 1 t.a_f_check_base t.d_f_check_base ["base"] (sp_f_check_base K t) := by
  refine T.F_f_check_base.ok sc_f_check_base (fun vs H Q E h => ?_) (fun cdv A outer s H vs Q E hr h => ?_)
  · obtain ⟨b, rfl, _⟩ := h
    rfl
  · obtain ⟨b, rfl, hb, q⟩ := h
    refine ⟨_, (pss_one (ps_if (pt_cmpR op_notIn_seq (pv 0) (pe_tup (pa_cons pe_int (pa_cons pe_int (pa_cons pe_int pa_nil)))) rfl) (pss_one ps_never) pss_nil)), ?_⟩
    rw [show L2.start N_f_check_base [V.int b] = [some (V.int b)] from rfl]; try dsimp only [cxOf]
    top_caughtB
    intro p np
    have e : inV (.int b) [V.int 2, V.int 3, V.int 4] = true := by
      rcases hb with rfl | rfl | rfl <;> decide
    refine ⟨p, _, rfl, .inr (st_of upd_same), rfl, rfl, false, ?_, iteF ?_⟩
    · show V.bl (!inV (.int b) [V.int 2, V.int 3, V.int 4]) = V.bl false
      rw [e]
      rfl
    · exact q _ (same_new np)
def sp_f_is_letter (_ : PySem.W.Frag) (_ : Ad) : Sp := fun vs H Q _ => ∃ n : Str, vs = [.str n] ∧ n.length ≤ 1000 ∧ Q (.bl (letterB n)) H
theorem ok_f_is_letter {P : Program} {w : World} {K : PySem.W.Frag} {mg : Str → Option Value} {base : Heap} {t : Ad} (T : Txt K mg t) : FnOk P w K mg base CX0 1 t.a_f_is_letter t.d_f_is_letter ["name"] (sp_f_is_letter K t) := by
  refine T.F_f_is_letter.ok sc_f_is_letter (fun vs H Q E h => ?_) (fun cdv A outer s H vs Q E hr h => ?_)
  · obtain ⟨n, rfl, _⟩ := h
    rfl
  · obtain ⟨n, rfl, hn, q⟩ := h
    refine ⟨_, (pss_one (ps_ret (pe_and (pe_cmpR op_eq (pe_callB call_len_str (by rfl) T.m_len (by decide +kernel) (pa_cons (pv 0) pa_nil)) pe_int (nomark _)) (pe_one (pe_chain op_le_str op_le_str pe_str (pv 0) pe_str))))), ?_⟩
    rw [show L2.start N_f_is_letter [V.str n] = [some (V.str n)] from rfl]; try dsimp only [cxOf]
    top_caughtB
    refine ⟨n, rfl, Nat.le_of_lt (small1000 hn), ?_⟩
    top_caughtB
    unfold letterB at q
    cases e : decide (V.int (n.length : Int) = V.int 1) with
    | true =>
      rw [e] at q
      refine iteT ⟨_, rfl, _, _, rfl, rfl, _, rfl, ?_⟩
      cases e2 : decide (n.cps.toList < ("a" : Str).cps.toList) with
      | true =>
        rw [e2] at q
        exact iteF q
      | false =>
        rw [e2] at q
        exact iteT ⟨_, _, rfl, rfl, q⟩
    | false =>
      rw [e] at q
      exact iteF q
def sp_f_check_names (K : PySem.W.Frag) (_ : Ad) : Sp := fun vs H Q _ => ∃ (r : Addr) (L : List Line), vs = [.ref r] ∧ Dp K H (.ref r) (dRows L) ∧ L.length ≤ 100 ∧ (∀ l ∈ L, letterB l.1 = true ∧ l.1.length ≤ 1000) ∧ (names L).Nodup ∧ ∀ H', Same H H' → Q .non H'
theorem take_names {L : List Line} {i : Nat} {l : Line} (h : L[i]? = some l) : (names L).take (i + 1) = (names L).take i ++ [l.1] := by
  unfold names
  rw [List.take_add_one, List.getElem?_map, h]
  rfl
theorem name_new {L : List Line} {i : Nat} {l : Line} (nd : (names L).Nodup) (h : L[i]? = some l) : l.1 ∉ (names L).take i := fun z => by
  have h1 : i < L.length := (List.getElem?_eq_some_iff.mp h).1
  have h2 : (names L)[i]? = some l.1 := by unfold names; rw [List.getElem?_map, h]; rfl
  obtain ⟨j, hj, e⟩ := List.getElem_of_mem z
  have hj' : j < i := by
    have := hj
    rw [List.length_take] at this
    omega
  rw [List.getElem_take] at e
  have hjn : j < (names L).length := by
    have := (List.getElem?_eq_some_iff.mp h2).1
    omega
  have h3 : (names L)[j]? = some l.1 := by rw [List.getElem?_eq_getElem hjn, e]
  have := nd_ix nd h3 h2
  omega
theorem ok_f_check_names {P : Program} {w : World} {K : PySem.W.Frag} {mg : Str → Option Value} {base : Heap} {t : Ad} (T : Txt K mg t) : FnOk P w K mg base CX0 2 t.a_f_check_names t.d_f_check_names ["rows"] (sp_f_check_names K t) := by
  refine T.F_f_check_names.ok sc_f_check_names (fun vs H Q E h => ?_) (fun cdv A outer s H vs Q E hr h => ?_)
  · obtain ⟨r, L, rfl, _⟩ := h
    rfl
  · obtain ⟨r, L, rfl, hd, hl, hn, nd, q⟩ := h
    refine ⟨_, (pss_cons (ps_set (i := 1) sc_f_check_names.nd rfl (Or.inl rfl) (pe_lst pa_nil))
      (pss_one (ps_for PassesOwn.never rfl (pi_list (pv 0)) (pg_tup rfl (pgs_cons (pg_name (i := 2) sc_f_check_names.nd rfl (Or.inl rfl)) (pgs_cons (pg_name (i := 3) sc_f_check_names.nd rfl (Or.inl rfl)) (pgs_cons (pg_name (i := 3) sc_f_check_names.nd rfl (Or.inl rfl)) pgs_nil)))) (pss_cons (ps_if (PW.pt (pw_or (pt_not (pt_val (pe_call (ok_f_is_letter T) (hr.mono (by decide)) (by rfl) T.g_f_is_letter T.F_f_is_letter.kp T.b_f_is_letter .nil pass0 (pa_cons (pv 2) pa_nil)))) (pw_or1 (pt_cmpR op_in_seq (pv 2) (pv 1) rfl)))) (pss_one ps_never) pss_nil)
      (pss_one (ps_expr (pe_bm PySem.F.plainAttrs_list PySem.F.slot_list_append PySem.F.type_list_append mt_append (pv 1) (pa_cons (pv 2) pa_nil)))))))), ?_⟩
    rw [show L2.start N_f_check_names [V.ref r] = [some (V.ref r), none, none, none] from rfl]; try dsimp only [cxOf]
    obtain ⟨r', xs, e, hS, hA⟩ := dp_list hd
    cases e
    have hx := dpa_map_len hA
    top_caughtB
    intro p np
    top_caughtB
    refine ⟨.ref r, rfl, r, rfl, ⟨xs, sq_new np hS⟩, for_list (K := K) (a := r) (xs := xs) (fun i σ H' => ∃ v w, σ = [some (.ref r), some (.ref p), v, w] ∧ Same H H' ∧ H' p = some (.lst (((names L).take i).map V.str)))
      ⟨none, none, rfl, same_new np, upd_same⟩ (fun i σ H' _ ⟨_, _, _, s, _⟩ => s.seq hS) ?_ ?_⟩
    · rintro i x σ H1 hi ⟨v, w, rfl, s1, ep⟩
      obtain ⟨l, hli, hdl⟩ := dpa_at hA hi
      obtain ⟨a, b, rfl, hT, hF⟩ := dp_line hdl
      have hT1 := sqt_same s1 hT
      obtain ⟨hlet, hlen⟩ := hn l (List.mem_of_getElem? hli)
      top_caughtB
      refine ⟨l.1, rfl, hlen, ?_⟩
      top_caughtB
      rw [hlet]
      refine iteF ?_
      top_caughtB
      refine ⟨p, _, rfl, .inl (sq_of ep), rfl, all_flat_strs _, ?_⟩
      refine ⟨false, ?_, iteF ?_⟩
      · show V.bl (inV (.str l.1) (((names L).take i).map V.str)) = V.bl false
        rw [inV_strs, decide_eq_false (name_new nd hli)]
      top_caughtB
      refine ⟨p, _, _, rfl, rfl, ep, ?_, ?_⟩
      · rw [List.length_map, List.length_take]
        exact Nat.lt_of_le_of_lt (Nat.min_le_left _ _) (small1000 (by have := (List.getElem?_eq_some_iff.mp hli).1; omega))
      · refine ⟨_, _, rfl, Fb.Same.mut s1 np, ?_⟩
        rw [upd_same, take_names hli, List.map_append]
        rfl
    · rintro σ H1 ⟨v, w, rfl, s1, ep⟩
      exact q H1 s1

def sp_f_are_known (K : PySem.W.Frag) (_ : Ad) : Sp := fun vs H Q _ => ∃ (a b : Addr) (f : List (List Term)) (ns : List Str), vs = [.ref a, .ref b] ∧ Dp K H (.ref a) (dForms f) ∧ SqL K H b (ns.map V.str) ∧ f.length ≤ 1000 ∧ (∀ g ∈ f, g.length ≤ 1000) ∧
  ∀ H', Same H H' → Q (.bl (knownB f ns)) H'
theorem bls_snoc {bs : List Bool} {c : Bool} : bs.map V.bl ++ [V.bl c] = (bs ++ [c]).map V.bl := by rw [List.map_append]; rfl
theorem all_snoc {bs : List Bool} {c : Bool} : (bs ++ [c]).all id = (bs.all id && c) := by rw [List.all_append]; simp
theorem all_take {α : Type} {p : α → Bool} {xs : List α} {i : Nat} {x : α} (h : xs[i]? = some x) : (xs.take (i + 1)).all p = ((xs.take i).all p && p x) := by rw [List.take_add_one, h, List.all_append]; simp
theorem ok_f_are_known {P : Program} {w : World} {K : PySem.W.Frag} {mg : Str → Option Value} {base : Heap} {t : Ad} (T : Txt K mg t) : FnOk P w K mg base CX0 1 t.a_f_are_known t.d_f_are_known ["formulas", "names"] (sp_f_are_known K t) := by
  refine T.F_f_are_known.ok sc_f_are_known (fun vs H Q E h => ?_) (fun cdv A outer s H vs Q E hr h => ?_)
  · obtain ⟨a, b, f, ns, rfl, _⟩ := h
    rfl
  · obtain ⟨a, b, f, ns, rfl, hd, hS2, hl, hl2, q⟩ := h
    refine ⟨_, (pss_one (ps_ret (pe_callB (cr_all rfl) (by rfl) T.m_all (by decide +kernel) (pa_cons (pe_lc2 (own := [("terms", 2), ("_", 3), ("name", 4)]) (te := (tOp (rIn K false) (tVar 4) (tVar 1))) (g := (gName 2)) (tt := tYes) (tt1 := tYes) (wi1 := (iList K (tVar 2))) (g1 := (gTup K 2 (gCons (gName 3) (gCons (gName 4) gNil)))) (vs1 := [3, 4]) rfl sc_f_are_known.nd (pi_list (pv 0)) (blkOk_by (own := [("terms", 2), ("_", 3), ("name", 4)]) (N := N_f_are_known) (sc := defScope s_f_are_known) (by decide +kernel)) (by decide) (fun _ _ _ _ _ => (pg_name (i := 2) sc_f_are_known.nd rfl (Or.inl rfl))) (fun _ _ _ _ _ => pts_nil) (fun _ _ _ _ _ => (pi_list (pv 2))) (fun _ _ _ _ _ => (pg_tup rfl (pgs_cons (pg_name (i := 3) sc_f_are_known.nd rfl (Or.inl rfl)) (pgs_cons (pg_name (i := 4) sc_f_are_known.nd rfl (Or.inl rfl)) pgs_nil)))) (fun _ _ _ _ _ => pts_nil) (fun _ _ _ _ _ => (pe_cmpR op_in_seq (pv 4) (pv 1) rfl))) pa_nil)))), ?_⟩
    rw [show L2.start N_f_are_known [V.ref a, V.ref b] = [some (V.ref a), some (V.ref b), none, none, none] from rfl]; try dsimp only [cxOf]
    obtain ⟨a', xs, e, hS, hA⟩ := dp_forms hd
    cases e
    have hx := dpa_map_len hA
    top_caughtB
    refine ⟨.ref a, rfl, a, rfl, ⟨xs, hS⟩, fun D hD => ?_⟩
    refine lc2_out (K := K) (a := a) (xs := xs) (fun i H1 => Same H H1 ∧ ∃ bs : List Bool, bs.length ≤ 1000 * i ∧ bs.all id = knownB (f.take i) ns ∧ H1 D = some (.lst (bs.map V.bl)))
      ⟨same_new hD, [], Nat.zero_le _, rfl, upd_same⟩ (fun i H1 _ ⟨s, _⟩ => s.seq hS) ?_ ?_
    · rintro i x H1 hi ⟨s1, bs, hn, hv, eD⟩
      have hil : i < xs.length := (List.getElem?_eq_some_iff.mp hi).1
      obtain ⟨g, hg, hdg⟩ := dpa_at hA hi
      have hgm := List.mem_of_getElem? hg
      obtain ⟨c, ys, rfl, hSg, hAg⟩ := dp_form hdg
      have hy := dpa_map_len hAg
      have hgl := hl2 g hgm
      top_caughtB
      refine ⟨rfl, ?_⟩
      top_caughtB
      refine ⟨.ref c, rfl, c, rfl, ⟨ys, s1.seq hSg⟩, ?_⟩
      refine lc2_in (K := K) (b := c) (ys := ys) (σ2 := [some (.ref a), some (.ref b), some (.ref c), none, none]) (vs1 := [3, 4]) (fun j H2 => Same H H2 ∧ ∃ ms : List Bool, ms.length ≤ bs.length + j ∧ ms.all id = (bs.all id && (g.take j).all fun tm => decide (tm.2 ∈ ns)) ∧ H2 D = some (.lst (ms.map V.bl))) ⟨s1, bs, by omega, by simp, eD⟩ (fun j H2 _ ⟨s, _⟩ => s.seq hSg) ?_ ?_
      · rintro j y H2 hj ⟨s2, ms, hm, hw, eD2⟩
        have hjl : j < ys.length := (List.getElem?_eq_some_iff.mp hj).1
        obtain ⟨tm, htm, hdt⟩ := dpa_at hAg hj
        obtain ⟨e, rfl, hT⟩ := dp_term hdt
        have hT2 := sqt_same s2 hT
        top_caughtB
        refine ⟨rfl, ?_⟩
        top_caughtB
        refine ⟨b, _, rfl, .inl (s2.seq hS2), rfl, all_flat_strs _, _, eD2, ?_, ?_⟩
        · rw [List.length_map]
          exact Nat.lt_of_le_of_lt (show ms.length ≤ 1001000 by omega) (by decide)
        · refine ⟨Fb.Same.mut s2 hD, ms ++ [decide (tm.2 ∈ ns)], by rw [List.length_append]; simp; omega, by rw [all_snoc, hw, all_take htm, Bool.and_assoc], ?_⟩
          rw [upd_same]
          congr 2
          show ms.map V.bl ++ [V.bl (inV (.str tm.2) (ns.map V.str))] = _
          rw [inV_strs, bls_snoc]
      · rintro H2 ⟨s2, ms, hm, hw, eD2⟩
        refine ⟨s2, ms, by omega, ?_, eD2⟩
        unfold knownB at hv ⊢
        rw [hw, List.take_of_length_le (by omega), hv, all_take hg]
    · rintro H1 ⟨s1, bs, hn, hv, eD⟩
      top_caughtB
      refine ⟨D, bs, rfl, sq_of eD, ?_⟩
      rw [hv, List.take_of_length_le (by omega)]
      exact q H1 s1
theorem known_of {f : List (List Term)} {ns : List Str} : knownB f ns = true ↔ ∀ g ∈ f, ∀ tm ∈ g, tm.2 ∈ ns := by
  unfold knownB
  simp only [List.all_eq_true, decide_eq_true_eq]
def sp_f_check_formulas (K : PySem.W.Frag) (_ : Ad) : Sp := fun vs H Q _ => ∃ (b : Int) (r : Addr) (L : List Line), vs = [.int b, .ref r] ∧ Dp K H (.ref r) (dRows L) ∧ Sound b L ∧ ∀ H', Same H H' → Q .non H'
theorem sound_len {b : Int} {L : List Line} (S : Sound b L) {l : Line} (h : l ∈ L) : l.2.2.length ≤ 4 := by
  have := S.forms l h
  have := S.base
  omega
theorem ok_f_check_formulas {P : Program} {w : World} {K : PySem.W.Frag} {mg : Str → Option Value} {base : Heap} {t : Ad} (T : Txt K mg t) : FnOk P w K mg base CX0 2 t.a_f_check_formulas t.d_f_check_formulas ["base", "rows"] (sp_f_check_formulas K t) := by
  refine T.F_f_check_formulas.ok sc_f_check_formulas (fun vs H Q E h => ?_) (fun cdv A outer s H vs Q E hr h => ?_)
  · obtain ⟨b, r, L, rfl, _⟩ := h
    rfl
  · obtain ⟨b, r, L, rfl, hd, S, q⟩ := h
    refine ⟨_, (pss_cons (ps_setLc (i := 2) (own := [("name", 3), ("_", 4)]) (te := (tVar 3)) (tt := tYes) (g := (gTup K 3 (gCons (gName 3) (gCons (gName 4) (gCons (gName 4) gNil))))) rfl sc_f_check_formulas.nd rfl rfl (sw_true rfl rfl rfl (by decide +kernel)) (pi_list (pv 1)) (blkOk_by (own := [("name", 3), ("_", 4)]) (N := N_f_check_formulas) (sc := defScope s_f_check_formulas) (by decide +kernel)) (fun _ _ _ _ _ => (pg_tup rfl (pgs_cons (pg_name (i := 3) sc_f_check_formulas.nd rfl (Or.inl rfl)) (pgs_cons (pg_name (i := 4) sc_f_check_formulas.nd rfl (Or.inl rfl)) (pgs_cons (pg_name (i := 4) sc_f_check_formulas.nd rfl (Or.inl rfl)) pgs_nil))))) (fun _ _ _ _ _ => pts_nil) (fun _ _ _ _ _ => (pv 3)))
      (pss_one (ps_for PassesOwn.never rfl (pi_list (pv 1)) (pg_tup rfl (pgs_cons (pg_name (i := 3) sc_f_check_formulas.nd rfl (Or.inl rfl)) (pgs_cons (pg_name (i := 4) sc_f_check_formulas.nd rfl (Or.inl rfl)) (pgs_cons (pg_name (i := 5) sc_f_check_formulas.nd rfl (Or.inl rfl)) pgs_nil)))) (pss_one (ps_if (PW.pt (pw_or (pt_cmpR op_ne (pe_callB call_len_seq (by rfl) T.m_len (by decide +kernel) (pa_cons (pv 5) pa_nil)) (pv 0) (nomark _)) (pw_or1 (pt_not (pt_val (pe_call (ok_f_are_known T) (hr.mono (by decide)) (by rfl) T.g_f_are_known T.F_f_are_known.kp T.b_f_are_known .nil pass0 (pa_cons (pv 5) (pa_cons (pv 2) pa_nil)))))))) (pss_one ps_never) pss_nil))))), ?_⟩
    rw [show L2.start N_f_check_formulas [V.int b, V.ref r] = [some (V.int b), some (V.ref r), none, none, none, none] from rfl]; try dsimp only [cxOf]
    obtain ⟨r', xs, e, hS, hA⟩ := dp_list hd
    cases e
    have hx := dpa_map_len hA
    have hm := S.many
    top_caughtB
    refine ⟨.ref r, rfl, r, rfl, ⟨xs, hS⟩, fun D hD => ?_⟩
    refine lc_pure (K := K) (fun i y H' => ∀ l, L[i]? = some l → y = .str l.1) (fun i y H1 H2 h s g e => h g e) hS hD (by omega) (fun x H P P' h q => gm_tup3 h q) (fun σ H P P' h q => h _ _ q) ?_ ?_
    · intro i x H1 QQ hx s1 nD hq
      obtain ⟨l, hl, hdl⟩ := dpa_at hA hx
      obtain ⟨c, d, rfl, hT, hF⟩ := dp_line hdl
      have hT1 := sqt_same s1 hT
      unfold LcTurn
      top_caughtB
      refine ⟨rfl, ?_⟩
      top_caughtB
      exact hq _ _ (Same.refl _) fun l' e' => by
        have e := Option.some.inj (hl.symm.trans e')
        subst e
        rfl
    · intro H1 ys hlen hR s1 eD
      have ey : ys = (names L).map V.str := by
        refine List.ext_getElem? fun i => ?_
        cases e : L[i]? with
        | none =>
          have h1 := List.getElem?_eq_none_iff.mp e
          rw [List.getElem?_eq_none (by omega), List.getElem?_eq_none (by unfold names; rw [List.length_map, List.length_map]; omega)]
        | some l =>
          have h1 := (List.getElem?_eq_some_iff.mp e).1
          have h2 : i < ys.length := by omega
          rw [List.getElem?_eq_getElem h2]
          have := hR i ys[i] (List.getElem?_eq_getElem h2) l e
          rw [this]
          unfold names
          rw [List.getElem?_map, List.getElem?_map, e]
          rfl
      subst ey
      top_caughtB
      refine ⟨.ref r, rfl, r, rfl, ⟨xs, s1.seq hS⟩, for_list (K := K) (a := r) (xs := xs) (fun i σ H' => ∃ u v w, σ = [some (.int b), some (.ref r), some (.ref D), u, v, w] ∧ Same H H' ∧ H' D = some (.lst ((names L).map V.str)))
        ⟨none, none, none, rfl, s1, eD⟩ (fun i σ H' _ ⟨_, _, _, _, s, _⟩ => s.seq hS) ?_ ?_⟩
      · rintro i x σ H2 hi ⟨u, v, w, rfl, s2, eD2⟩
        obtain ⟨l, hli, hdl⟩ := dpa_at hA hi
        have hlm := List.mem_of_getElem? hli
        obtain ⟨c, d, rfl, hT, hF⟩ := dp_line hdl
        have hT2 := sqt_same s2 hT
        have hF2 := dp_same s2 hF
        obtain ⟨d', zs, e, hSF, hAF⟩ := dp_forms hF2
        cases e
        have hz := dpa_map_len hAF
        have hfl := S.forms l hlm
        top_caughtB
        rw [show decide (V.int (zs.length : Int) = V.int b) = true from decide_eq_true (by rw [hz, hfl])]
        refine iteF ?_
        top_caughtB
        refine ⟨d, D, l.2.2, names L, rfl, hF2, sq_of eD2, Nat.le_trans (sound_len S hlm) (by decide), fun g hg => Nat.le_trans (S.small l hlm g hg) (by decide), fun H3 s3 => ?_⟩
        rw [known_of.mpr (S.known l hlm)]
        top_caughtB
        exact ⟨_, _, _, rfl, s2.trans s3, s3 _ _ eD2⟩
      · rintro σ H2 ⟨u, v, w, rfl, s2, eD2⟩
        exact q H2 s2

def sp_f_check_starts (K : PySem.W.Frag) (_ : Ad) : Sp := fun vs H Q _ => ∃ (b : Int) (r : Addr) (L : List Line), vs = [.ref r] ∧ Dp K H (.ref r) (dRows L) ∧ Sound b L ∧ ∀ H', Same H H' → Q .non H'
theorem ok_f_check_starts {P : Program} {w : World} {K : PySem.W.Frag} {mg : Str → Option Value} {base : Heap} {t : Ad} (T : Txt K mg t) : FnOk P w K mg base CX0 1 t.a_f_check_starts t.d_f_check_starts ["rows"] (sp_f_check_starts K t) := by
  refine T.F_f_check_starts.ok sc_f_check_starts (fun vs H Q E h => ?_) (fun cdv A outer s H vs Q E hr h => ?_)
  · obtain ⟨b, r, L, rfl, _⟩ := h
    rfl
  · obtain ⟨b, r, L, rfl, hd, S, q⟩ := h
    refine ⟨_, (pss_cons (ps_set (i := 1) sc_f_check_starts.nd rfl (Or.inr rfl) (pe_dc (own := [("name", 2), ("start", 3), ("_", 5)]) (tk := (tVar 2)) (tv := (tVar 3)) (tt := tYes) (g := (gTup K 3 (gCons (gName 2) (gCons (gName 3) (gCons (gName 5) gNil))))) rfl sc_f_check_starts.nd (pi_list (pv 0)) (blkOk_by (own := [("name", 2), ("start", 3), ("_", 5)]) (N := N_f_check_starts) (sc := defScope s_f_check_starts) (by decide +kernel)) (fun _ _ _ _ _ => (pg_tup rfl (pgs_cons (pg_name (i := 2) sc_f_check_starts.nd rfl (Or.inl rfl)) (pgs_cons (pg_name (i := 3) sc_f_check_starts.nd rfl (Or.inl rfl)) (pgs_cons (pg_name (i := 5) sc_f_check_starts.nd rfl (Or.inl rfl)) pgs_nil))))) (fun _ _ _ _ _ => pts_nil) (fun _ _ _ _ _ => (pv 2)) (fun _ _ _ _ _ => (pv 3))))
      (pss_one (ps_for PassesOwn.never rfl (pi_list (pv 0)) (pg_tup rfl (pgs_cons (pg_name (i := 2) sc_f_check_starts.nd rfl (Or.inl rfl)) (pgs_cons (pg_name (i := 3) sc_f_check_starts.nd rfl (Or.inl rfl)) (pgs_cons (pg_name (i := 4) sc_f_check_starts.nd rfl (Or.inl rfl)) pgs_nil)))) (pss_one (ps_if (pt_cmpR op_ne (pv 3) (pe_callB (cr_sum rfl) (by rfl) T.m_sum (by decide +kernel) (pa_cons (pe_lc (own := [("coefficient", 6), ("other", 7)]) (te := (tOp rMulX (tVar 6) (tDGet (tVar 1) (tVar 7)))) (tt := tYes) (g := (gTup K 2 (gCons (gName 6) (gCons (gName 7) gNil)))) rfl sc_f_check_starts.nd (pi_list (pe_ix ix_list (pv 4) pe_int (fun _ _ => rfl))) (blkOk_by (own := [("coefficient", 6), ("other", 7)]) (N := N_f_check_starts) (sc := defScope s_f_check_starts) (by decide +kernel)) (fun _ _ _ _ _ => (pg_tup rfl (pgs_cons (pg_name (i := 6) sc_f_check_starts.nd rfl (Or.inl rfl)) (pgs_cons (pg_name (i := 7) sc_f_check_starts.nd rfl (Or.inl rfl)) pgs_nil)))) (fun _ _ _ _ _ => pts_nil) (fun _ _ _ _ _ => (pe_op op_mulX (pv 6) (pe_dget (hu_of hr) (pv 1) (pv 7) (fun _ _ => rfl))))) pa_nil)) (nomark _)) (pss_one ps_never) pss_nil))))), ?_⟩
    rw [show L2.start N_f_check_starts [V.ref r] = [some (V.ref r), none, none, none, none, none, none, none] from rfl]; try dsimp only [cxOf]
    obtain ⟨r', xs, e, hS, hA⟩ := dp_list hd
    cases e
    have hx := dpa_map_len hA
    have hm := S.many
    top_caughtB
    refine ⟨.ref r, rfl, r, rfl, ⟨xs, hS⟩, fun D hD => ?_⟩
    refine dc_list (K := K) (a := r) (xs := xs) (fun i H1 => Same H H1 ∧ H1 D = some (.dK ((L.take i).map fun l => ((Sum.inr l.1 : Key), V.int l.2.1)))) ⟨same_new hD, upd_same⟩ (fun i H1 _ ⟨s, _⟩ => s.seq hS) ?_ ?_
    · rintro i x H1 hi ⟨s1, eD⟩
      obtain ⟨l, hli, hdl⟩ := dpa_at hA hi
      obtain ⟨c, d, rfl, hT, hF⟩ := dp_line hdl
      have hT1 := sqt_same s1 hT
      top_caughtB
      refine ⟨rfl, ?_⟩
      top_caughtB
      refine ⟨_, Sum.inr l.1, rfl, eD, ?_, Fb.Same.mut s1 hD, ?_⟩
      · rw [List.length_map, List.length_take]
        exact Nat.lt_of_le_of_lt (Nat.min_le_right _ _) (small1000 (by omega))
      · rw [upd_same, put_line S.nd hli]
    · rintro H1 ⟨s1, eD⟩
      rw [List.take_of_length_le (by omega)] at eD
      top_caughtB
      refine ⟨.ref r, rfl, r, rfl, ⟨xs, s1.seq hS⟩, for_list (K := K) (a := r) (xs := xs) (fun i σ H' => ∃ u v w, σ = [some (.ref r), some (.ref D), u, v, w, none, none, none] ∧ Same H1 H')
        ⟨none, none, none, rfl, Same.refl _⟩ (fun i σ H' _ ⟨_, _, _, _, s⟩ => s.seq (s1.seq hS)) ?_ ?_⟩
      · rintro i x σ H2 hi ⟨u, v, w, rfl, s2⟩
        obtain ⟨l, hli, hdl⟩ := dpa_at hA hi
        have hlm := List.mem_of_getElem? hli
        obtain ⟨c, d, rfl, hT, hF⟩ := dp_line hdl
        have s02 := s1.trans s2
        have hT2 := sqt_same s02 hT
        obtain ⟨d', zs, e, hSF, hAF⟩ := dp_forms (dp_same s02 hF)
        cases e
        have hz := dpa_map_len hAF
        have hfl := S.forms l hlm
        have hb := S.base
        have hz0 : 0 < zs.length := by omega
        have h0 : zs[0]? = some zs[0] := List.getElem?_eq_getElem hz0
        obtain ⟨f, hf0, hdf⟩ := dpa_at hAF h0
        have hfm := List.mem_of_getElem? hf0
        obtain ⟨g, ts, eg, hSG, hAG⟩ := dp_form hdf
        rw [eg] at h0
        have ht := dpa_map_len hAG
        have hsm := S.small l hlm f hfm
        top_caughtB
        refine ⟨_, rfl, ?_⟩
        top_caughtB
        refine r_ixL hSF (atI_nat (j := 0) h0) ?_
        refine ⟨g, rfl, ⟨ts, hSG⟩, fun D2 hD2 => ?_⟩
        refine lc_pure (K := K) (σ := [some (.ref r), some (.ref D), some (.str l.1), some (.int l.2.1), some (.ref d), none, none, none]) (vs := [6, 7]) (fun i y H' => ∀ tm, f[i]? = some tm → y = .int (tm.1 * worth (names L) (starts L) tm.2)) (fun i y H1 H2 h s g e => h g e) hSG hD2 (by omega) (fun x H P P' h q => gm_tup2 h q) (fun σ H P P' h q => h _ _ q) ?_ ?_
        · intro j y H3 QQ hj s3 nD hq
          obtain ⟨tm, htm, hdt⟩ := dpa_at hAG hj
          obtain ⟨e, rfl, hT3⟩ := dp_term hdt
          have hT4 := sqt_same s3 hT3
          have htmm := List.mem_of_getElem? htm
          have hkn := S.known l hlm f hfm tm htmm
          unfold LcTurn
          top_caughtB
          refine ⟨rfl, ?_⟩
          top_caughtB
          refine ⟨_, rfl, _, rfl, D, _, rfl, .inl ⟨_, Sum.inr tm.2, .inl (s3 _ _ (s2 _ _ eD)), rfl, (val_line hkn).symm⟩, ?_⟩
          refine r_I (mulx2 (S.coefs l hlm f hfm tm htmm) (worth_small S hkn) (by decide)) ?_
          refine hq _ _ (Same.refl _) fun tm' e' => ?_
          have ett := Option.some.inj (htm.symm.trans e')
          subst ett
          rfl
        · intro H3 ys hlen hR s3 eD3
          have ey : ys = (f.map fun tm => tm.1 * worth (names L) (starts L) tm.2).map V.int := by
            rw [List.map_map]
            exact ext_map (by omega) fun i y x h1 h2 => hR i y h1 x h2
          top_caughtB
          refine ⟨D2, _, rfl, sq_of (ey ▸ eD3), ?_⟩
          top_caughtB
          rw [show decide (V.int l.2.1 = V.int (f.map fun tm => tm.1 * worth (names L) (starts L) tm.2).sum) = true from decide_eq_true (congrArg V.int (S.sound l hlm f hf0))]
          refine iteF ?_
          top_caughtB
          exact ⟨_, _, _, rfl, s2.trans s3⟩
      · rintro σ H2 ⟨u, v, w, rfl, s2⟩
        exact q H2 (s1.trans s2)

def sp_f_step_of (K : PySem.W.Frag) (_ : Ad) : Sp := fun vs H Q _ => ∃ (a b : Addr) (L : List Line) (ns : List Str) (k : Nat), vs = [.ref a, .ref b, .int (k : Int)] ∧ SqL K H a (ns.map V.str) ∧ Dp K H (.ref b) (.list (L.map fun l => dForms l.2.2)) ∧ L.length ≤ 100 ∧
  (∀ l ∈ L, k < l.2.2.length ∧ ∀ f ∈ l.2.2, f.length ≤ 100 ∧ ∀ t ∈ f, t.2 ∈ ns) ∧ ∀ H' r, H r = none → Same H H' → Dp K (nw H H') (.ref r) (dSteps ns L k) → Q (.ref r) H'
theorem ok_f_step_of {P : Program} {w : World} {K : PySem.W.Frag} {mg : Str → Option Value} {base : Heap} {t : Ad} (T : Txt K mg t) : FnOk P w K mg base CX0 1 t.a_f_step_of t.d_f_step_of ["names", "formulas", "figure"] (sp_f_step_of K t) := by
  refine T.F_f_step_of.ok sc_f_step_of (fun vs H Q E h => ?_) (fun cdv A outer s H vs Q E hr h => ?_)
  · obtain ⟨a, b, L, ns, k, rfl, _⟩ := h
    rfl
  · obtain ⟨a, b, L, ns, k, rfl, hN, hd, hl, hk, q⟩ := h
    refine ⟨_, (pss_one (ps_ret (pe_lc (own := [("parts", 3)]) (te := (tLc (iList K (tOp (rIxL K) (tVar 3) (tVar 2))) (gTup K 2 (gCons (gName 4) (gCons (gName 5) gNil))) tYes (tTup (tCons (tVar 4) (tCons (tBM K "list" (rIndex K) (tVar 0) (tCons (tVar 5) tNil)) tNil))) [4, 5])) (tt := tYes) (g := (gName 3)) rfl sc_f_step_of.nd (pi_list (pv 1)) (blkOk_by (own := [("parts", 3)]) (N := N_f_step_of) (sc := defScope s_f_step_of) (by decide +kernel)) (fun _ _ _ _ _ => (pg_name (i := 3) sc_f_step_of.nd rfl (Or.inl rfl))) (fun _ _ _ _ _ => pts_nil) (fun _ _ _ _ _ => (pe_lc (own := [("coefficient", 4), ("name", 5)]) (te := (tTup (tCons (tVar 4) (tCons (tBM K "list" (rIndex K) (tVar 0) (tCons (tVar 5) tNil)) tNil)))) (tt := tYes) (g := (gTup K 2 (gCons (gName 4) (gCons (gName 5) gNil)))) rfl sc_f_step_of.nd (pi_list (pe_ix ix_list (pv 3) (pv 2) (fun _ _ => rfl))) (blkOk_by (own := [("coefficient", 4), ("name", 5)]) (N := N_f_step_of) (by rfl)) (fun _ _ _ _ _ => (pg_tup rfl (pgs_cons (pg_name (i := 4) sc_f_step_of.nd rfl (Or.inl rfl)) (pgs_cons (pg_name (i := 5) sc_f_step_of.nd rfl (Or.inl rfl)) pgs_nil)))) (fun _ _ _ _ _ => pts_nil) (fun _ _ _ _ _ => (pe_tup (pa_cons (pv 4) (pa_cons (pe_bm PySem.F.plainAttrs_list PySem.F.slot_list_index PySem.F.type_list_index mt_index (pv 0) (pa_cons (pv 5) pa_nil)) pa_nil))))))))), ?_⟩
    rw [show L2.start N_f_step_of [V.ref a, V.ref b, V.int (k : Int)] = [some (V.ref a), some (V.ref b), some (V.int (k : Int)), none, none, none] from rfl]; try dsimp only [cxOf]
    obtain ⟨b', xs, e, hS, hA⟩ := dp_list hd
    cases e
    have hx := dpa_map_len hA
    top_caughtB
    refine ⟨.ref b, rfl, b, rfl, ⟨xs, hS⟩, fun D hD => ?_⟩
    refine lc_pure (K := K) (σ := [some (.ref a), some (.ref b), some (.int (k : Int)), none, none, none]) (vs := [3]) (fun i y H' => ∀ l, L[i]? = some l → Dp K H' y (dStep ns (l.2.2.getD k []))) (fun i y H1 H2 h s g e => dp_same s (h g e)) hS hD (by omega) (fun x H P P' h q => gm_name h q) (fun σ H P P' h q => h _ _ q) ?_ ?_
    · intro i x H1 QQ hi s1 nD hq
      obtain ⟨l, hli, hdl⟩ := dpa_at hA hi
      have hlm := List.mem_of_getElem? hli
      obtain ⟨hkl, hfs⟩ := hk l hlm
      obtain ⟨c, zs, rfl, hSf, hAf⟩ := dp_forms (dp_same s1 hdl)
      have hz := dpa_map_len hAf
      have hkz : k < zs.length := by omega
      have h0 : zs[k]? = some zs[k] := List.getElem?_eq_getElem hkz
      obtain ⟨f, hf0, hdf⟩ := dpa_at hAf h0
      have hfm := List.mem_of_getElem? hf0
      obtain ⟨g, ts, eg, hSG, hAG⟩ := dp_form hdf
      rw [eg] at h0
      have ht := dpa_map_len hAG
      obtain ⟨hfl, hft⟩ := hfs f hfm
      have hgd : l.2.2.getD k [] = f := by
        rw [List.getD_eq_getElem?_getD, hf0]
        rfl
      unfold LcTurn
      top_caughtB
      refine ⟨rfl, ?_⟩
      top_caughtB
      refine ⟨_, rfl, ?_⟩
      top_caughtB
      refine r_ixL hSf (atI_nat h0) ?_
      refine ⟨g, rfl, ⟨ts, hSG⟩, fun D2 hD2 => ?_⟩
      refine lc_pure (K := K) (σ := [some (.ref a), some (.ref b), some (.int (k : Int)), some (.ref c), none, none]) (vs := [4, 5]) (fun i y H' => ∀ tm, f[i]? = some tm → Dp K H' y (.tuple [.int tm.1, .int (ns.idxOf tm.2 : Nat)])) (fun i y H1 H2 h s g e => dp_same s (h g e)) hSG hD2 (by omega) (fun x H P P' h q => gm_tup2 h q) (fun σ H P P' h q => h _ _ q) ?_ ?_
      · intro j y H3 QQ hj s3 nD hq
        obtain ⟨tm, htm, hdt⟩ := dpa_at hAG hj
        obtain ⟨e, rfl, hT3⟩ := dp_term hdt
        have hT4 := sqt_same s3 hT3
        have hkn := hft tm (List.mem_of_getElem? htm)
        have hN4 := s3.seq (s1.seq hN)
        unfold LcTurn
        top_caughtB
        refine ⟨rfl, ?_⟩
        top_caughtB
        refine ⟨.inl ⟨rfl, _, hN4⟩, ?_⟩
        top_caughtB
        refine ⟨a, ns.map V.str, .str tm.2, ns.idxOf tm.2, .str tm.2, rfl, rfl, hN4, rfl, all_flat_strs _, idx_at hkn, beq_self_eq_true tm.2, fun m z' hm e => idx_first hm e, ?_⟩
        top_caughtB
        intro p np
        refine hq _ _ (same_new np) fun tm' e' => ?_
        have ett := Option.some.inj (htm.symm.trans e')
        subst ett
        exact .tup (st_of ((nw_new np).trans upd_same)) (.cons (.int _) (.cons (.int _) .nil))
      · intro H3 ys hlen hR s3 eD3
        refine hq _ _ s3 fun l' e' => ?_
        have ell := Option.some.inj (hli.symm.trans e')
        subst ell
        rw [hgd]
        exact .lst (sq_of ((nw_new hD2).trans eD3)) (dpa_map (by omega) fun i y tm h1 h2 => hR i y h1 tm h2)
    · intro H1 ys hlen hR s1 eD
      refine q H1 D hD s1 (.lst (sq_of ((nw_new hD).trans eD)) ?_)
      exact dpa_map (by omega) fun i y g h1 h2 => hR i y h1 g h2


def sp_f_System___init__ (K : PySem.W.Frag) (t : Ad) : Sp := fun vs H Q _ => ∃ (y dx a c : Addr) (S : Sys), vs = [.ref y, .ref a, .ref c] ∧ H y = some (.ins t.C_System dx []) ∧ SqL K (hid y H) a (S.1.map V.int) ∧ StepsAt K (hid y H) (.ref c) S.2 ∧
  S.2.length ≤ 900 ∧ (∀ r ∈ S.2, r.length ≤ 900 ∧ ∀ f ∈ r, f.length ≤ 900) ∧ ∀ H', Keep y H H' → SysC t.C_System K (nw (hid y H) H') y S → Q .non H'
theorem ok_f_System___init__ {P : Program} {w : World} {K : PySem.W.Frag} {mg : Str → Option Value} {base : Heap} {t : Ad} (T : Txt K mg t) : FnOk P w K mg base CX0 1 t.a_f_System___init__ t.d_f_System___init__ ["self", "starts", "steps"] (sp_f_System___init__ K t) := by
  refine T.F_f_System___init__.ok sc_f_System___init__ (fun vs H Q E h => ?_) (fun cdv A outer s H vs Q E hr h => ?_)
  · obtain ⟨y, dx, a, c, S, rfl, _⟩ := h
    rfl
  · obtain ⟨y, dx, a, c, S, rfl, hY, hA, hC, hz, hz2, q⟩ := h
    refine ⟨_, (pss_cons (ps_fld (pv 0) (pe_callTy (T := "tuple") call_tuple_of (by rfl) T.m_tuple (by decide +kernel) (pa_cons (pv 1) pa_nil)) rfl)
      (pss_one (ps_fld (pv 0) (pe_callTy (T := "tuple") call_tuple_of (by rfl) T.m_tuple (by decide +kernel) (pa_cons (pe_lc (own := [("step", 3)]) (te := (tCB (rTupOf K) (tCons (tLc (iList K (tVar 3)) (gName 4) tYes (tCB (rTupOf K) (tCons (tVar 4) tNil)) [4]) tNil))) (tt := tYes) (g := (gName 3)) rfl sc_f_System___init__.nd (pi_list (pv 2)) (blkOk_by (own := [("step", 3)]) (N := N_f_System___init__) (sc := defScope s_f_System___init__) (by decide +kernel)) (fun _ _ _ _ _ => (pg_name (i := 3) sc_f_System___init__.nd rfl (Or.inl rfl))) (fun _ _ _ _ _ => pts_nil) (fun _ _ _ _ _ => (pe_callTy (T := "tuple") call_tuple_of (by rfl) T.m_tuple (by decide +kernel) (pa_cons (pe_lc (own := [("terms", 4)]) (te := (tCB (rTupOf K) (tCons (tVar 4) tNil))) (tt := tYes) (g := (gName 4)) rfl sc_f_System___init__.nd (pi_list (pv 3)) (blkOk_by (own := [("terms", 4)]) (N := N_f_System___init__) (by rfl)) (fun _ _ _ _ _ => (pg_name (i := 4) sc_f_System___init__.nd rfl (Or.inl rfl))) (fun _ _ _ _ _ => pts_nil) (fun _ _ _ _ _ => (pe_callTy (T := "tuple") call_tuple_of (by rfl) T.m_tuple (by decide +kernel) (pa_cons (pv 4) pa_nil)))) pa_nil)))) pa_nil)) rfl))), ?_⟩
    rw [show L2.start N_f_System___init__ [V.ref y, V.ref a, V.ref c] = [some (V.ref y), some (V.ref a), some (V.ref c), none, none] from rfl]; try dsimp only [cxOf]
    top_caughtB
    refine ⟨a, _, rfl, .inl ⟨Same.seq hid_le hA, fun l nl => ?_⟩⟩
    top_caughtB
    have nyl : y ≠ l := ne_of_none hY nl
    refine ⟨y, t.C_System, dx, [], rfl, upd_old nl hY, T.c_System, T.n_System__starts, by decide, ?_⟩
    have k1 : Keep y H (upd (upd H l (.tup (S.1.map V.int))) y (.ins t.C_System dx (putF "_starts" (.ref l) []))) := (Keep.new nl).trans Keep.upd
    have y1 : (upd (upd H l (.tup (S.1.map V.int))) y (.ins t.C_System dx (putF "_starts" (.ref l) []))) y = some (.ins t.C_System dx (putF "_starts" (.ref l) [])) := upd_same
    have l1 : (upd (upd H l (.tup (S.1.map V.int))) y (.ins t.C_System dx (putF "_starts" (.ref l) []))) l = some (.tup (S.1.map V.int)) := by
      rw [upd_ne nyl.symm, upd_same]
    generalize hH1 : (upd (upd H l (.tup (S.1.map V.int))) y (.ins t.C_System dx (putF "_starts" (.ref l) []))) = H1 at k1 y1 l1 ⊢
    have A1 := keep_same k1
    have nl0 : hid y H l = none := by
      unfold hid
      rw [if_neg nyl.symm]
      exact nl
    obtain ⟨c', xs, ec, hS, hxl, hx⟩ := hC.same A1
    cases ec
    top_caughtB
    refine ⟨.ref c, rfl, c, rfl, ⟨xs, hS⟩, fun D hD => ?_⟩
    refine lc_pure (K := K) (σ := [some (.ref y), some (.ref a), some (.ref c), none, none]) (vs := [3]) (fun i v H' => ∀ row, S.2[i]? = some row → Dp K H' v (dStT row)) (fun i v H1 H2 h s g e => dp_same s (h g e)) hS hD (by omega) (fun x H P P' h q => gm_name h q) (fun σ H P P' h q => h _ _ q) ?_ ?_
    · intro i v H2 QQ hi s2 nD hq
      have hil : i < S.2.length := by
        have := (List.getElem?_eq_some_iff.mp hi).1
        omega
      have hrow : S.2[i]? = some S.2[i] := List.getElem?_eq_getElem hil
      obtain ⟨r, ys, rfl, hSy, hyl, hy⟩ := (hx i v _ hi hrow).same s2
      have hr2 := hz2 _ (List.getElem_mem hil)
      unfold LcTurn
      top_caughtB
      refine ⟨rfl, ?_⟩
      top_caughtB
      refine ⟨.ref r, rfl, r, rfl, ⟨ys, hSy⟩, fun D2 hD2 => ?_⟩
      refine lc_pure (K := K) (σ := [some (.ref y), some (.ref a), some (.ref c), some (.ref r), none]) (vs := [4]) (fun j v H' => ∀ f, S.2[i][j]? = some f → Dp K H' v (dTms f)) (fun i v H1 H2 h s g e => dp_same s (h g e)) hSy hD2 (by omega) (fun x H P P' h q => gm_name h q) (fun σ H P P' h q => h _ _ q) ?_ ?_
      · intro j v H3 QQ2 hj s3 nD2 hq2
        have hjl : j < S.2[i].length := by
          have := (List.getElem?_eq_some_iff.mp hj).1
          omega
        have hf : S.2[i][j]? = some S.2[i][j] := List.getElem?_eq_getElem hjl
        obtain ⟨e, zs, rfl, hzs, hAz⟩ := (hy j v _ hj hf).same s3
        unfold LcTurn
        top_caughtB
        refine ⟨rfl, ?_⟩
        top_caughtB
        rcases hzs with hzs | hzs
        · refine ⟨e, zs, rfl, .inl ⟨hzs, fun l2 nl2 => ?_⟩⟩
          refine hq2 _ _ (same_new nl2) fun f ef => ?_
          have eff := Option.some.inj (hf.symm.trans ef)
          subst eff
          exact .tup (st_of ((nw_new nl2).trans upd_same)) (dpa_tms_nw (same_new nl2) hAz)
        · refine ⟨e, zs, rfl, .inr ⟨hzs, ?_⟩⟩
          refine hq2 _ _ (Same.refl _) fun f ef => ?_
          have eff := Option.some.inj (hf.symm.trans ef)
          subst eff
          exact .tup (sqt_nw (Same.refl _) hzs) (dpa_tms_nw (Same.refl _) hAz)
      · intro H3 zs hlen3 hR3 s3 eD3
        top_caughtB
        refine ⟨D2, zs, rfl, .inl ⟨sq_of eD3, fun l2 nl2 => ?_⟩⟩
        refine hq _ _ (s3.trans (same_new nl2)) fun row er => ?_
        have err := Option.some.inj (hrow.symm.trans er)
        subst err
        have nl3 : H2 l2 = none := s3.free nl2
        refine .tup (st_of ((nw_new nl3).trans upd_same)) (dpa_same (nw_mono (same_new nl2)) (dpa_map (by omega) fun j v f h1 h2 => hR3 j v h1 f h2))
    · intro H2 vs hlen2 hR2 s2 eD
      top_caughtB
      refine ⟨D, vs, rfl, .inl ⟨sq_of eD, fun l2 nl2 => ?_⟩⟩
      top_caughtB
      have y2 := s2 _ _ y1
      have ny2 : y ≠ l2 := ne_of_none y2 nl2
      refine ⟨y, t.C_System, dx, _, rfl, upd_old nl2 y2, T.c_System, T.n_System__steps, by show 1 < 1000; decide, ?_⟩
      have kk : Keep y H (upd (upd H2 l2 (.tup vs)) y (.ins t.C_System dx (putF "_steps" (.ref l2) (putF "_starts" (.ref l) [])))) := (k1.trans (Keep.of_same s2)).trans ((Keep.new nl2).trans Keep.upd)
      have n0 : hid y H y = none := by
        unfold hid
        rw [if_pos rfl]
      have nl2H : H1 l2 = none := s2.free nl2
      have nl20 : hid y H l2 = none := by
        cases e : hid y H l2 with
        | none => rfl
        | some o =>
          rw [A1 _ _ e] at nl2H
          cases nl2H
      refine q _ kk ⟨dx, l, l2, ?_, ?_, ?_⟩
      · rw [nw_new n0, upd_same, sy_put]
      · refine st_of ?_
        rw [nw_new nl0, upd_ne nyl.symm, upd_old nl2 (s2 _ _ l1)]
      · refine .tup (xs := vs) (st_of ?_) ?_
        · rw [nw_new nl20, upd_ne ny2.symm, upd_same]
        · have hd : DpAll K (nw H1 H2) vs (S.2.map dStT) := dpa_map (by omega) fun i v row h1 h2 => hR2 i v h1 row h2
          have hm1 : Same (nw H1 H2) (nw (hid y H) (hid y H2)) := nw_in A1 y1 rfl
          refine dpa_same (hm1.trans ?_) hd
          have e2 : hid y H2 = hid y (upd H2 y (.ins t.C_System dx (putF "_steps" (.ref l2) (putF "_starts" (.ref l) [])))) := (hid_upd).symm
          refine nw_mono ?_
          intro b o e
          obtain ⟨e1, nb⟩ := hid_of e
          rw [upd_ne nb]
          exact upd_old nl2 e1


def sp_f_Book___init__ (K : PySem.W.Frag) (t : Ad) : Sp := fun vs H Q _ => ∃ (x dx r : Addr) (b : Int) (L : List Line), vs = [.ref x, .int b, .ref r] ∧ H x = some (.ins t.C_Book dx []) ∧ Dp K (hid x H) (.ref r) (dRows L) ∧ Sound b L ∧
  ∀ H', Keep x H H' → BookC (t.C_Book, t.C_System) K (nw (hid x H) H') x b L → Q .non H'
theorem ok_f_Book___init__ {P : Program} {w : World} {K : PySem.W.Frag} {mg : Str → Option Value} {base : Heap} {t : Ad} (T : Txt K mg t) : FnOk P w K mg base CX0 3 t.a_f_Book___init__ t.d_f_Book___init__ ["self", "base", "rows"] (sp_f_Book___init__ K t) := by
  refine T.F_f_Book___init__.ok sc_f_Book___init__ (fun vs H Q E h => ?_) (fun cdv A outer s H vs Q E hr h => ?_)
  · obtain ⟨x, dx, r, b, L, rfl, _⟩ := h
    rfl
  · obtain ⟨x, dx, r, b, L, rfl, hX, hd, S, q⟩ := h
    refine ⟨_, (pss_cons (ps_expr (pe_call (ok_f_check_base T) (hr.mono (by decide)) (by rfl) T.g_f_check_base T.F_f_check_base.kp T.b_f_check_base .nil pass0 (pa_cons (pv 1) pa_nil)))
      (pss_cons (ps_expr (pe_call (ok_f_check_names T) (hr.mono (by decide)) (by rfl) T.g_f_check_names T.F_f_check_names.kp T.b_f_check_names .nil pass0 (pa_cons (pv 2) pa_nil)))
      (pss_cons (ps_expr (pe_call (ok_f_check_formulas T) (hr.mono (by decide)) (by rfl) T.g_f_check_formulas T.F_f_check_formulas.kp T.b_f_check_formulas .nil pass0 (pa_cons (pv 1) (pa_cons (pv 2) pa_nil))))
      (pss_cons (ps_expr (pe_call (ok_f_check_starts T) (hr.mono (by decide)) (by rfl) T.g_f_check_starts T.F_f_check_starts.kp T.b_f_check_starts .nil pass0 (pa_cons (pv 2) pa_nil)))
      (pss_cons (ps_fld (pv 0) (pv 1) rfl)
      (pss_cons (ps_fld (pv 0) (pe_lc (own := [("name", 3), ("_", 4)]) (te := (tVar 3)) (tt := tYes) (g := (gTup K 3 (gCons (gName 3) (gCons (gName 4) (gCons (gName 4) gNil))))) rfl sc_f_Book___init__.nd (pi_list (pv 2)) (blkOk_by (own := [("name", 3), ("_", 4)]) (N := N_f_Book___init__) (sc := defScope s_f_Book___init__) (by decide +kernel)) (fun _ _ _ _ _ => (pg_tup rfl (pgs_cons (pg_name (i := 3) sc_f_Book___init__.nd rfl (Or.inl rfl)) (pgs_cons (pg_name (i := 4) sc_f_Book___init__.nd rfl (Or.inl rfl)) (pgs_cons (pg_name (i := 4) sc_f_Book___init__.nd rfl (Or.inl rfl)) pgs_nil))))) (fun _ _ _ _ _ => pts_nil) (fun _ _ _ _ _ => (pv 3))) rfl)
      (pss_cons (ps_fld (pv 0) (pe_lc (own := [("_", 4), ("start", 5)]) (te := (tVar 5)) (tt := tYes) (g := (gTup K 3 (gCons (gName 4) (gCons (gName 5) (gCons (gName 4) gNil))))) rfl sc_f_Book___init__.nd (pi_list (pv 2)) (blkOk_by (own := [("_", 4), ("start", 5)]) (N := N_f_Book___init__) (sc := defScope s_f_Book___init__) (by decide +kernel)) (fun _ _ _ _ _ => (pg_tup rfl (pgs_cons (pg_name (i := 4) sc_f_Book___init__.nd rfl (Or.inl rfl)) (pgs_cons (pg_name (i := 5) sc_f_Book___init__.nd rfl (Or.inl rfl)) (pgs_cons (pg_name (i := 4) sc_f_Book___init__.nd rfl (Or.inl rfl)) pgs_nil))))) (fun _ _ _ _ _ => pts_nil) (fun _ _ _ _ _ => (pv 5))) rfl)
      (pss_cons (ps_fld (pv 0) (pe_lc (own := [("_", 4), ("formulas", 6)]) (te := (tCall (sp_f_copied K t) [] E0 (tCons (tVar 6) tNil))) (tt := tYes) (g := (gTup K 3 (gCons (gName 4) (gCons (gName 4) (gCons (gName 6) gNil))))) rfl sc_f_Book___init__.nd (pi_list (pv 2)) (blkOk_by (own := [("_", 4), ("formulas", 6)]) (N := N_f_Book___init__) (sc := defScope s_f_Book___init__) (by decide +kernel)) (fun _ _ _ _ _ => (pg_tup rfl (pgs_cons (pg_name (i := 4) sc_f_Book___init__.nd rfl (Or.inl rfl)) (pgs_cons (pg_name (i := 4) sc_f_Book___init__.nd rfl (Or.inl rfl)) (pgs_cons (pg_name (i := 6) sc_f_Book___init__.nd rfl (Or.inl rfl)) pgs_nil))))) (fun _ _ _ _ _ => pts_nil) (fun _ _ _ _ _ => (pe_call (ok_f_copied T) (hr.mono (by decide)) (by rfl) T.g_f_copied T.F_f_copied.kp T.b_f_copied .nil pass0 (pa_cons (pv 6) pa_nil)))) rfl)
      (pss_one (ps_fld (pv 0) (pe_make T.k_System (ok_f_System___init__ T) (hr.mono (by decide)) (by rfl) T.g_System T.b_f_System___init__ .nil pass0 (pa_cons (pe_fld (pv 0) rfl) (pa_cons (pe_lc (own := [("figure", 7)]) (te := (tCall (sp_f_step_of K t) [] E0 (tCons (tFld K (tVar 0) "_names") (tCons (tFld K (tVar 0) "_formulas") (tCons (tVar 7) tNil))))) (tt := tYes) (g := (gName 7)) rfl sc_f_Book___init__.nd (pi_range1 (by rfl) T.m_range (pa_cons (pv 1) pa_nil)) (blkOk_by (own := [("figure", 7)]) (N := N_f_Book___init__) (sc := defScope s_f_Book___init__) (by decide +kernel)) (fun _ _ _ _ _ => (pg_name (i := 7) sc_f_Book___init__.nd rfl (Or.inl rfl))) (fun _ _ _ _ _ => pts_nil) (fun _ _ _ _ _ => (pe_call (ok_f_step_of T) (hr.mono (by decide)) (by rfl) T.g_f_step_of T.F_f_step_of.kp T.b_f_step_of .nil pass0 (pa_cons (pe_fld (pv 0) rfl) (pa_cons (pe_fld (pv 0) rfl) (pa_cons (pv 7) pa_nil)))))) pa_nil))) rfl)))))))))), ?_⟩
    rw [show L2.start N_f_Book___init__ [V.ref x, V.int b, V.ref r] = [some (V.ref x), some (V.int b), some (V.ref r), none, none, none, none, none] from rfl]; try dsimp only [cxOf]
    obtain ⟨r', xs, e, hS, hA⟩ := dp_list hd
    cases e
    have hx := dpa_map_len hA
    have hm := S.many
    have hid0 : Same (hid x H) H := hid_le
    have hdH := dp_same hid0 hd
    have h26 : ∀ l ∈ L, letterB l.1 = true ∧ l.1.length ≤ 1000 := S.letters
    top_caughtB
    refine ⟨b, rfl, S.base, fun H1 s1 => ?_⟩
    top_caughtB
    refine ⟨r, L, rfl, dp_same s1 hdH, by omega, h26, S.nd, fun H2 s2 => ?_⟩
    have s02 := s1.trans s2
    top_caughtB
    refine ⟨b, r, L, rfl, dp_same s02 hdH, S, fun H3 s3 => ?_⟩
    have s03 := s02.trans s3
    top_caughtB
    refine ⟨b, r, L, rfl, dp_same s03 hdH, S, fun H4 s4 => ?_⟩
    have s04 := s03.trans s4
    have x4 := s04 _ _ hX
    top_caughtB
    refine ⟨x, t.C_Book, dx, [], rfl, x4, T.c_Book, T.n_Book__base, by decide, ?_⟩
    have k5 : Keep x H (upd H4 x (.ins t.C_Book dx (putF "_base" (.int b) []))) := (Keep.of_same s04).trans Keep.upd
    have x5 : (upd H4 x (.ins t.C_Book dx (putF "_base" (.int b) []))) x = some (.ins t.C_Book dx (putF "_base" (.int b) [])) := upd_same
    generalize hH5 : upd H4 x (.ins t.C_Book dx (putF "_base" (.int b) [])) = H5 at k5 x5 ⊢
    have A5 := keep_same k5
    -- the names
    top_caughtB
    refine ⟨.ref r, rfl, r, rfl, ⟨xs, A5.seq hS⟩, fun D1 hD1 => ?_⟩
    refine lc_pure (K := K) (σ := [some (.ref x), some (.int b), some (.ref r), none, none, none, none, none]) (vs := [3, 4]) (fun i y H' => ∀ l, L[i]? = some l → y = .str l.1) (fun i y H1 H2 h s g e => h g e) (A5.seq hS) hD1 (by omega) (fun x H P P' h q => gm_tup3 h q) (fun σ H P P' h q => h _ _ q) ?_ ?_
    · intro i y H' QQ hi s1 nD hq
      obtain ⟨l, hl, hdl⟩ := dpa_at hA hi
      obtain ⟨c, d, rfl, hT, hF⟩ := dp_line hdl
      have hT1 := sqt_same (A5.trans s1) hT
      unfold LcTurn
      top_caughtB
      refine ⟨rfl, ?_⟩
      top_caughtB
      exact hq _ _ (Same.refl _) fun l' e' => by
        have e := Option.some.inj (hl.symm.trans e')
        subst e
        rfl
    intro H6 ys1 hlen1 hR1 s6 eD1
    have ey1 : ys1 = (names L).map V.str := by
      unfold names
      rw [List.map_map]
      exact ext_map (by omega) fun i y l h1 h2 => hR1 i y h1 l h2
    subst ey1
    have x6 := s6 _ _ x5
    have g1 : nw (hid x H) (hid x H6) D1 = some (.lst ((names L).map V.str)) := nw_in A5 x5 rfl _ _ ((nw_new hD1).trans eD1)
    have k6 := k5.trans (Keep.of_same s6)
    top_caughtB
    refine ⟨x, t.C_Book, dx, _, rfl, x6, T.c_Book, T.n_Book__names, by show 1 < 1000; decide, ?_⟩
    have k7 : Keep x H (upd H6 x (.ins t.C_Book dx (putF "_names" (.ref D1) (putF "_base" (.int b) [])))) := k6.trans Keep.upd
    have x7 : (upd H6 x (.ins t.C_Book dx (putF "_names" (.ref D1) (putF "_base" (.int b) [])))) x = some (.ins t.C_Book dx (putF "_names" (.ref D1) (putF "_base" (.int b) []))) := upd_same
    rw [← hid_upd (D := x) (H := H6) (o := (.ins t.C_Book dx (putF "_names" (.ref D1) (putF "_base" (.int b) []))))] at g1
    generalize hH7 : upd H6 x (.ins t.C_Book dx (putF "_names" (.ref D1) (putF "_base" (.int b) []))) = H7 at k7 x7 g1 ⊢
    have A7 := keep_same k7
    -- the starts
    top_caughtB
    refine ⟨.ref r, rfl, r, rfl, ⟨xs, A7.seq hS⟩, fun D2 hD2 => ?_⟩
    refine lc_pure (K := K) (σ := [some (.ref x), some (.int b), some (.ref r), none, none, none, none, none]) (vs := [4, 5]) (fun i y H' => ∀ l, L[i]? = some l → y = .int l.2.1) (fun i y H1 H2 h s g e => h g e) (A7.seq hS) hD2 (by omega) (fun x H P P' h q => gm_tup3 h q) (fun σ H P P' h q => h _ _ q) ?_ ?_
    · intro i y H' QQ hi s1 nD hq
      obtain ⟨l, hl, hdl⟩ := dpa_at hA hi
      obtain ⟨c, d, rfl, hT, hF⟩ := dp_line hdl
      have hT1 := sqt_same (A7.trans s1) hT
      unfold LcTurn
      top_caughtB
      refine ⟨rfl, ?_⟩
      top_caughtB
      exact hq _ _ (Same.refl _) fun l' e' => by
        have e := Option.some.inj (hl.symm.trans e')
        subst e
        rfl
    intro H8 ys2 hlen2 hR2 s8 eD2
    have ey2 : ys2 = (starts L).map V.int := by
      unfold starts
      rw [List.map_map]
      exact ext_map (by omega) fun i y l h1 h2 => hR2 i y h1 l h2
    subst ey2
    have x8 := s8 _ _ x7
    have g1 := nw_mono (H := hid x H) (hid_same s8) _ _ g1
    have g2 : nw (hid x H) (hid x H8) D2 = some (.lst ((starts L).map V.int)) := nw_in A7 x7 rfl _ _ ((nw_new hD2).trans eD2)
    have k8 := k7.trans (Keep.of_same s8)
    top_caughtB
    refine ⟨x, t.C_Book, dx, _, rfl, x8, T.c_Book, T.n_Book__starts, by show 2 < 1000; decide, ?_⟩
    have k9 : Keep x H (upd H8 x (.ins t.C_Book dx (putF "_starts" (.ref D2) (putF "_names" (.ref D1) (putF "_base" (.int b) []))))) := k8.trans Keep.upd
    have x9 : (upd H8 x (.ins t.C_Book dx (putF "_starts" (.ref D2) (putF "_names" (.ref D1) (putF "_base" (.int b) []))))) x = some (.ins t.C_Book dx (putF "_starts" (.ref D2) (putF "_names" (.ref D1) (putF "_base" (.int b) [])))) := upd_same
    rw [← hid_upd (D := x) (H := H8) (o := (.ins t.C_Book dx (putF "_starts" (.ref D2) (putF "_names" (.ref D1) (putF "_base" (.int b) [])))))] at g1 g2
    generalize hH9 : upd H8 x (.ins t.C_Book dx (putF "_starts" (.ref D2) (putF "_names" (.ref D1) (putF "_base" (.int b) [])))) = H9 at k9 x9 g1 g2 ⊢
    have A9 := keep_same k9
    -- the formulas
    top_caughtB
    refine ⟨.ref r, rfl, r, rfl, ⟨xs, A9.seq hS⟩, fun D3 hD3 => ?_⟩
    refine lc_pure (K := K) (σ := [some (.ref x), some (.int b), some (.ref r), none, none, none, none, none]) (vs := [4, 6]) (fun i y H' => ∀ l, L[i]? = some l → Dp K H' y (dForms l.2.2)) (fun i y H1 H2 h s g e => dp_same s (h g e)) (A9.seq hS) hD3 (by omega) (fun x H P P' h q => gm_tup3 h q) (fun σ H P P' h q => h _ _ q) ?_ ?_
    · intro i y H' QQ hi s1 nD hq
      obtain ⟨l, hl, hdl⟩ := dpa_at hA hi
      obtain ⟨c, d, rfl, hT, hF⟩ := dp_line hdl
      have hT1 := sqt_same (A9.trans s1) hT
      unfold LcTurn
      top_caughtB
      refine ⟨rfl, ?_⟩
      top_caughtB
      refine ⟨d, l.2.2, rfl, dp_same (A9.trans s1) hF, Nat.le_trans (sound_len S (List.mem_of_getElem? hl)) (by decide), fun H'' r'' nr ss dd _ => hq _ _ ss fun l' e' => ?_⟩
      have e := Option.some.inj (hl.symm.trans e')
      subst e
      exact dd
    intro H10 ys3 hlen3 hR3 s10 eD3
    have x10 := s10 _ _ x9
    have g1 := nw_mono (H := hid x H) (hid_same s10) _ _ g1
    have g2 := nw_mono (H := hid x H) (hid_same s10) _ _ g2
    have g3 : Dp K (nw (hid x H) (hid x H10)) (.ref D3) (.list (L.map fun l => dForms l.2.2)) := dp_same (nw_in A9 x9 rfl) (.lst (sq_of ((nw_new hD3).trans eD3)) (dpa_map (by omega) fun i y l h1 h2 => hR3 i y h1 l h2))
    have k10 := k9.trans (Keep.of_same s10)
    top_caughtB
    refine ⟨x, t.C_Book, dx, _, rfl, x10, T.c_Book, T.n_Book__formulas, by show 3 < 1000; decide, ?_⟩
    have k11 : Keep x H (upd H10 x (.ins t.C_Book dx (putF "_formulas" (.ref D3) (putF "_starts" (.ref D2) (putF "_names" (.ref D1) (putF "_base" (.int b) [])))))) := k10.trans Keep.upd
    have x11 : (upd H10 x (.ins t.C_Book dx (putF "_formulas" (.ref D3) (putF "_starts" (.ref D2) (putF "_names" (.ref D1) (putF "_base" (.int b) [])))))) x = some (.ins t.C_Book dx (putF "_formulas" (.ref D3) (putF "_starts" (.ref D2) (putF "_names" (.ref D1) (putF "_base" (.int b) []))))) := upd_same
    rw [← hid_upd (D := x) (H := H10) (o := (.ins t.C_Book dx (putF "_formulas" (.ref D3) (putF "_starts" (.ref D2) (putF "_names" (.ref D1) (putF "_base" (.int b) []))))))] at g1 g2 g3
    generalize hH11 : upd H10 x (.ins t.C_Book dx (putF "_formulas" (.ref D3) (putF "_starts" (.ref D2) (putF "_names" (.ref D1) (putF "_base" (.int b) []))))) = H11 at k11 x11 g1 g2 g3 ⊢
    have A11 := keep_same k11
    -- the system
    have hb := S.base
    top_caughtB
    refine ⟨x, t.C_Book, dx, _, _, rfl, x11, T.c_Book, T.n_Book__starts, by rw [lookup_putF, if_neg (by decide +kernel), lookup_putF, if_pos rfl], ?_⟩
    top_caughtB
    refine ⟨_, rfl, b, rfl, by show -4611686018427387904 ≤ b; omega, by show b < 4611686018427387904; omega, fun D4 hD4 => ?_⟩
    refine lr_pure (σ := [some (.ref x), some (.int b), some (.ref r), none, none, none, none, none]) (vs := [7]) (fun i y H' => Dp K H' y (dSteps (names L) L i)) (fun i y H1 H2 h s => dp_same s h) hD4 (by omega) (fun x H P P' h q => gm_name h q) (fun σ H P P' h q => h _ _ q) ?_ ?_
    · intro i H' QQ hi s1 nD hq
      have xi := s1 _ _ x11
      have gi1 := nw_le _ _ (nw_mono (H := hid x H) (hid_same (p := x) s1) _ _ g1)
      have gi3 := dp_same hid_le (dp_same nw_le (dp_same (nw_mono (H := hid x H) (hid_same (p := x) s1)) g3))
      unfold LcTurn
      top_caughtB
      refine ⟨rfl, ?_⟩
      top_caughtB
      refine ⟨x, t.C_Book, dx, _, _, rfl, xi, T.c_Book, T.n_Book__names, by rw [lookup_putF, if_neg (by decide +kernel), lookup_putF, if_neg (by decide +kernel), lookup_putF, if_pos rfl], ?_⟩
      top_caughtB
      refine ⟨x, t.C_Book, dx, _, _, rfl, xi, T.c_Book, T.n_Book__formulas, by rw [lookup_putF, if_pos rfl], ?_⟩
      top_caughtB
      refine ⟨D1, D3, L, names L, i, by rw [Int.zero_add], sq_of (hid_le _ _ gi1), gi3, by omega, fun l hl => ?_, fun H'' r'' nr ss dd => hq _ _ ss dd⟩
      have h1 := S.forms l hl
      exact ⟨by omega, fun f hf => ⟨S.small l hl f hf, S.known l hl f hf⟩⟩
    intro H12 ys4 hlen4 hR4 s12 eD4
    have x12 := s12 _ _ x11
    have g1 := nw_mono (H := hid x H) (hid_same s12) _ _ g1
    have g2 := nw_mono (H := hid x H) (hid_same s12) _ _ g2
    have g3 := dp_same (nw_mono (H := hid x H) (hid_same s12)) g3
    have d4 : Dp K H12 (.ref D4) (.list ((List.range b.toNat).map (dSteps (names L) L))) := .lst (sq_of eD4) (dpa_map (by rw [List.length_range]; omega) fun i y j h1 h2 => by
      have h3 := dp_same nw_le (hR4 i y h1)
      have e : i = j := by
        have := (List.getElem?_eq_some_iff.mp h2).2
        simpa using this
      subst e
      exact h3)
    have k12 := k11.trans (Keep.of_same s12)
    have O := sok_sys S
    top_caughtB
    intro y dy ny ndy ney
    have xny : x ≠ y := ne_of_none x12 ny
    refine ⟨y, dy, D2, D4, sysOf b L, rfl, upd_same, sq_of (made_hid ny ndy _ _ (hid_le _ _ (nw_le _ _ g2))), (steps_of_dp d4).same (made_hid ny ndy), by have := O.base; omega, fun r hr => ⟨by rw [O.rows r hr]; exact O.many, O.small r hr⟩, fun H13 k13 Y => ⟨rfl, ?_⟩⟩
    have s13 := made_same ny ndy k13
    have x13 := s13 _ _ x12
    have g1 := nw_mono (H := hid x H) (hid_same s13) _ _ g1
    have g2 := nw_mono (H := hid x H) (hid_same s13) _ _ g2
    have g3 := dp_same (nw_mono (H := hid x H) (hid_same s13)) g3
    have A12 := keep_same k12
    have g4 : SysC t.C_System K (nw (hid x H) (hid x H13)) y (sysOf b L) := (Y.same (nw_back (made_hid ny ndy))).same (nw_in A12 x12 rfl)
    have k13 := k12.trans (Keep.of_same s13)
    top_caughtB
    refine ⟨x, t.C_Book, dx, _, rfl, x13, T.c_Book, T.n_Book__system, by show 4 < 1000; decide, ?_⟩
    have hz : ∀ o : HO, Same (nw (hid x H) (hid x H13)) (nw (hid x H) (upd H13 x o)) := fun o => by
      rw [← hid_upd (D := x) (H := H13) (o := o)]
      exact nw_mono hid_le
    refine q _ (k13.trans Keep.upd) ⟨dx, D1, D2, D3, y, ?_, hz _ _ _ g1, hz _ _ _ g2, dp_same (hz _) g3, g4.same (hz _)⟩
    rw [nw_new (by unfold hid; rw [if_pos rfl]), upd_same, bk_put]




theorem nice_names {b : Int} {L : List Line} (S : Sound b L) : Nice 1 (26 * 2) (.list ((names L).map PyData.str)) := nice_list (fun d hd => by
  obtain ⟨x, hx, rfl⟩ := List.mem_map.mp hd
  have g := letter_ok (sound_letters S hx)
  exact nice_str g.1 (by omega)) (by have := S.many; unfold names; rw [List.length_map, List.length_map]; exact this)
theorem nice_starts {b : Int} {L : List Line} (S : Sound b L) : Nice 1 (26 * 101) (.list ((starts L).map PyData.int)) := nice_list (fun d hd => by
  obtain ⟨x, hx, rfl⟩ := List.mem_map.mp hd
  obtain ⟨l, hl, rfl⟩ := List.mem_map.mp hx
  exact nice_int (Nat.lt_trans (PySem.Flt.log2_lt_of (by decide) (S.begins l hl)) (by decide))) (by have := S.many; unfold starts; rw [List.length_map, List.length_map]; exact this)
theorem nice_formsS {b : Int} {L : List Line} (S : Sound b L) : Nice 4 (26 * (4 * (100 * 203 + 1) + 1)) (.list (L.map fun l => dForms l.2.2)) := nice_list (fun d hd => by
  obtain ⟨l, hl, rfl⟩ := List.mem_map.mp hd
  exact nice_sound S hl) (by have := S.many; rw [List.length_map]; exact this)
theorem nice_coefs {cs : List Int} (hm : cs.length ≤ 26) (hc : ∀ c ∈ cs, c.natAbs < 2 ^ 99) : Nice 1 (26 * 101) (.list (cs.map PyData.int)) := nice_list (fun d hd => by
  obtain ⟨z, hz, rfl⟩ := List.mem_map.mp hd
  exact nice_int (Nat.lt_trans (PySem.Flt.log2_lt_of (by decide) (hc z hz)) (by decide))) (by rw [List.length_map]; exact hm)
def sp_f_Book___eq__ (K : PySem.W.Frag) (t : Ad) : Sp := spEqB (EqBook (t.C_Book, t.C_System) K)
theorem ok_f_Book___eq__ {P : Program} {w : World} {K : PySem.W.Frag} {mg : Str → Option Value} {base : Heap} {t : Ad} (T : Txt K mg t) : FnOk P w K mg base CX0 1 t.a_f_Book___eq__ t.d_f_Book___eq__ ["self", "other"] (sp_f_Book___eq__ K t) := by
  refine T.F_f_Book___eq__.ok sc_f_Book___eq__ (fun vs H Q E h => ?_) (fun cdv A outer s H vs Q E hr h => ?_)
  · obtain ⟨x, y, c, rfl, _⟩ := h
    rfl
  · obtain ⟨x, y, c, rfl, ⟨b, L, B, S, hy⟩, q⟩ := h
    obtain ⟨dx, nm, st, fm, sp, h1, h2, h3, h4, h5⟩ := B.ex
    refine ⟨_, (pss_one (ps_ret (pe_and (pe_callB call_isi (by rfl) T.m_isinstance (by decide +kernel) (pa_cons (pv 1) (pa_cons (pe_glob (v := .ref t.C_Book) (by rfl) T.g_Book rfl) pa_nil))) (pe_and (pe_cmpR op_eq (pe_fld (pv 0) rfl) (pe_fld (pv 1) rfl) (nomark _)) (pe_and (pe_cmpR (op_eqD hr.units) (pe_fld (pv 0) rfl) (pe_fld (pv 1) rfl) (nomark _)) (pe_and (pe_cmpR (op_eqD hr.units) (pe_fld (pv 0) rfl) (pe_fld (pv 1) rfl) (nomark _)) (pe_one (pe_cmpR (op_eqD hr.units) (pe_fld (pv 0) rfl) (pe_fld (pv 1) rfl) (nomark _))))))))), ?_⟩
    rw [show L2.start N_f_Book___eq__ [V.ref x, (y)] = [some (V.ref x), some ((y))] from rfl]; try dsimp only [cxOf]
    rcases hy with ⟨a', b', L', rfl, B', S', hc⟩ | ⟨rfl, ty, hty, hk⟩
    · obtain ⟨dx', nm', st', fm', sp', g1, g2, g3, g4, g5⟩ := B'.ex
      have N1 := (nice_names S).shaped (by decide)
      have N2 := (nice_starts S).shaped (by decide)
      have N3 := (nice_formsS S).shaped (by decide)
      have M1 := (nice_names S').shaped (by decide)
      have M2 := (nice_starts S').shaped (by decide)
      have M3 := (nice_formsS S').shaped (by decide)
      have q := q H Ext.rfl'
      rw [hc] at q
      unfold bookAns at q
      top_caughtB
      refine ⟨_, _, _, _, true, rfl, .own _, .base (.ins g1 T.c_Book T.e_Book.ha T.e_Book.hn T.e_Book.ht T.e_Book.hm), T.e_Book.kt, ?_⟩
      top_caughtB
      refine ⟨x, t.C_Book, dx, _, _, rfl, h1, T.c_Book, T.n_Book__base, bk_base, ?_⟩
      top_caughtB
      refine ⟨a', t.C_Book, dx', _, _, rfl, g1, T.c_Book, T.n_Book__base, bk_base, ?_⟩
      refine ⟨rfl, _, rfl, ?_⟩
      refine ite2 (fun z => ?_) (fun z => ?_)
      rotate_left
      · have e1 : ¬ b = b' := fun e => z (by rw [e]; exact decide_eq_true rfl)
        rw [decide_eq_false e1] at q
        exact q
      have e1 : b = b' := by
        have := of_decide_eq_true z
        injection this
      rw [decide_eq_true e1, Bool.true_and] at q
      top_caughtB
      refine ⟨x, t.C_Book, dx, _, _, rfl, h1, T.c_Book, T.n_Book__names, bk_names, ?_⟩
      top_caughtB
      refine ⟨a', t.C_Book, dx', _, _, rfl, g1, T.c_Book, T.n_Book__names, bk_names, ?_⟩
      refine ⟨_, _, .lst (sq_of h2) (dpa_strs _), .lst (sq_of g2) (dpa_strs _), N1, M1, ?_⟩
      rw [eqvD_strs]
      refine ⟨_, rfl, ?_⟩
      refine ite2 (fun z => ?_) (fun z => ?_)
      rotate_left
      · have e2 : decide (names L = names L') = false := Bool.eq_false_iff.mpr z
        rw [e2] at q
        exact q
      rw [z, Bool.true_and] at q
      top_caughtB
      refine ⟨x, t.C_Book, dx, _, _, rfl, h1, T.c_Book, T.n_Book__starts, bk_starts, ?_⟩
      top_caughtB
      refine ⟨a', t.C_Book, dx', _, _, rfl, g1, T.c_Book, T.n_Book__starts, bk_starts, ?_⟩
      refine ⟨_, _, .lst (sq_of h3) (dpa_ints _), .lst (sq_of g3) (dpa_ints _), N2, M2, ?_⟩
      rw [eqvD_ints]
      refine ⟨_, rfl, ?_⟩
      refine ite2 (fun z => ?_) (fun z => ?_)
      rotate_left
      · have e2 : decide (starts L = starts L') = false := Bool.eq_false_iff.mpr z
        rw [e2] at q
        exact q
      rw [z, Bool.true_and] at q
      top_caughtB
      refine ⟨x, t.C_Book, dx, _, _, rfl, h1, T.c_Book, T.n_Book__formulas, bk_formulas, ?_⟩
      top_caughtB
      refine ⟨a', t.C_Book, dx', _, _, rfl, g1, T.c_Book, T.n_Book__formulas, bk_formulas, ?_⟩
      exact ⟨_, _, h4, g4, N3, M3, q⟩
    · top_caughtB
      refine ⟨_, _, _, _, false, rfl, .own _, hty, hk, ?_⟩
      exact ⟨_, rfl, q H Ext.rfl'⟩


def sp_f_Book_index_of (K : PySem.W.Frag) (t : Ad) : Sp := fun vs H Q E => ∃ (x : Addr) (b : Int) (L : List Line) (n : Str), vs = [.ref x, .str n] ∧ BookC (t.C_Book, t.C_System) K H x b L ∧ (n ∉ names L → ∀ d : Addr, H d = none → E (.ref t.C_InvalidName) (some d) (upd H d (.xd [(("value" : Str), .str n)]))) ∧ (n ∈ names L → Q (.int ((names L).idxOf n : Nat)) H)
theorem ok_f_Book_index_of {P : Program} {w : World} {K : PySem.W.Frag} {mg : Str → Option Value} {base : Heap} {t : Ad} (T : Txt K mg t) : FnOk P w K mg base (L2.CX P w) 3 t.a_f_Book_index_of t.d_f_Book_index_of ["self", "name"] (sp_f_Book_index_of K t) := by
  refine T.F_f_Book_index_of.okX sc_f_Book_index_of (fun vs H Q E h => ?_) (fun cdv A outer s H vs Q E hr h => ?_)
  · obtain ⟨x, b, L, n, rfl, _⟩ := h
    rfl
  · obtain ⟨x, b, L, n, rfl, B, hE, q⟩ := h
    refine ⟨_, (pss_cons (ps_if (pt_cmpR op_notIn_seq (pv 1) (pe_fld (pv 0) rfl) rfl) (pss_one (ps_raiseLow rfl T.low_InvalidName hr (takes_of rfl rfl rfl rfl) (pa_cons (pv 1) pa_nil))) pss_nil)
      (pss_one (ps_ret (pe_bm PySem.F.plainAttrs_list PySem.F.slot_list_index PySem.F.type_list_index mt_index (pe_fld (pv 0) rfl) (pa_cons (pv 1) pa_nil))))), ?_⟩
    rw [show L2.start N_f_Book_index_of [V.ref x, V.str n] = [some (V.ref x), some (V.str n)] from rfl]; try dsimp only [cxOf]
    obtain ⟨dx, nm, st, fm, sp, h1, h2, h3, h4, h5⟩ := B.ex
    top_caughtB
    refine ⟨x, t.C_Book, dx, _, _, rfl, h1, T.c_Book, T.n_Book__names, bk_names, ?_⟩
    refine ⟨nm, _, rfl, .inl (sq_of h2), rfl, all_flat_strs _, !decide (n ∈ names L), ?_, ?_⟩
    · show V.bl (!inV (.str n) ((names L).map V.str)) = V.bl (!decide (n ∈ names L))
      rw [inV_strs]
    refine ite2 (fun z => ?_) (fun z => ?_)
    · have hn : n ∉ names L := fun m => by
        rw [decide_eq_true m] at z
        cases z
      exact ⟨_, rfl, _, rfl, fun d hd => hE hn d hd⟩
    have hn : n ∈ names L := Decidable.byContradiction fun m => z (by rw [decide_eq_false m]; rfl)
    have q := q hn
    top_caughtB
    refine ⟨x, t.C_Book, dx, _, _, rfl, h1, T.c_Book, T.n_Book__names, bk_names, ?_⟩
    top_caughtB
    exact ⟨nm, (names L).map V.str, .str n, (names L).idxOf n, .str n, rfl, rfl, sq_of h2, rfl, all_flat_strs _, idx_at hn, beq_self_eq_true n, fun m z' hm e => idx_first hm e, q⟩


def sp_f_Book_start_of (K : PySem.W.Frag) (t : Ad) : Sp := fun vs H Q E => ∃ (x : Addr) (b : Int) (L : List Line) (n : Str), vs = [.ref x, .str n] ∧ BookC (t.C_Book, t.C_System) K H x b L ∧ (n ∉ names L → ∀ d : Addr, H d = none → E (.ref t.C_InvalidName) (some d) (upd H d (.xd [(("value" : Str), .str n)]))) ∧ (n ∈ names L → ∀ v, Q v H)
theorem ok_f_Book_start_of {P : Program} {w : World} {K : PySem.W.Frag} {mg : Str → Option Value} {base : Heap} {t : Ad} (T : Txt K mg t) : FnOk P w K mg base (L2.CX P w) 4 t.a_f_Book_start_of t.d_f_Book_start_of ["self", "name"] (sp_f_Book_start_of K t) := by
  refine T.F_f_Book_start_of.okX sc_f_Book_start_of (fun vs H Q E h => ?_) (fun cdv A outer s H vs Q E hr h => ?_)
  · obtain ⟨x, b, L, n, rfl, _⟩ := h
    rfl
  · obtain ⟨x, b, L, n, rfl, B, hE, q⟩ := h
    obtain ⟨dx, nm, st, fm, sp, h1, h2, h3, h4, h5⟩ := B.ex
    refine ⟨_, (pss_one (ps_ret (pe_ix ix_list (pe_fld (pv 0) rfl) (pe_meth (pv 0) T.c_Book T.t_f_Book_index_of (ok_f_Book_index_of T) (hr.mono (by decide)) T.b_f_Book_index_of .nil (passE (takes_of rfl rfl rfl rfl)) (pa_cons (pv 1) pa_nil)) (fun _ _ => rfl)))), ?_⟩
    rw [show L2.start N_f_Book_start_of [V.ref x, V.str n] = [some (V.ref x), some (V.str n)] from rfl]; try dsimp only [cxOf]
    top_caughtB
    refine ⟨x, t.C_Book, dx, _, _, rfl, h1, T.c_Book, T.n_Book__starts, bk_starts, ?_⟩
    top_caughtB
    refine ⟨x, dx, _, rfl, h1, bk_no (by decide +kernel), ?_⟩
    top_caughtB
    refine ⟨x, b, L, n, rfl, B, fun hn d nd => hE hn d nd, fun hn => ?_⟩
    have hat : ((starts L).map V.int)[(names L).idxOf n]? = some (.int (worth (names L) (starts L) n)) := by
      have hix : (names L).idxOf n < L.length := by
        have := List.idxOf_lt_length_iff.mpr hn
        have e : (names L).length = L.length := List.length_map ..
        omega
      have hl : (names L).idxOf n < (starts L).length := by unfold starts; rw [List.length_map]; exact hix
      unfold worth
      rw [List.getElem?_map, List.getD_eq_getElem?_getD, List.getElem?_eq_getElem hl]
      rfl
    exact r_ixL (sq_of h3) (atI_nat hat) (q hn _)
def sp_f_Book_formulas_of (K : PySem.W.Frag) (t : Ad) : Sp := fun vs H Q E => ∃ (x : Addr) (b : Int) (L : List Line) (n : Str), vs = [.ref x, .str n] ∧ BookC (t.C_Book, t.C_System) K H x b L ∧ Sound b L ∧ (n ∉ names L → ∀ d : Addr, H d = none → E (.ref t.C_InvalidName) (some d) (upd H d (.xd [(("value" : Str), .str n)]))) ∧ (n ∈ names L → ∀ v H', Same H H' → Q v H')
theorem ok_f_Book_formulas_of {P : Program} {w : World} {K : PySem.W.Frag} {mg : Str → Option Value} {base : Heap} {t : Ad} (T : Txt K mg t) : FnOk P w K mg base (L2.CX P w) 4 t.a_f_Book_formulas_of t.d_f_Book_formulas_of ["self", "name"] (sp_f_Book_formulas_of K t) := by
  refine T.F_f_Book_formulas_of.okX sc_f_Book_formulas_of (fun vs H Q E h => ?_) (fun cdv A outer s H vs Q E hr h => ?_)
  · obtain ⟨x, b, L, n, rfl, _⟩ := h
    rfl
  · obtain ⟨x, b, L, n, rfl, B, S, hE, q⟩ := h
    obtain ⟨dx, nm, st, fm, sp, h1, h2, h3, h4, h5⟩ := B.ex
    refine ⟨_, (pss_one (ps_ret (pe_call (ok_f_copied T) (hr.mono (by decide)) (by rfl) T.g_f_copied T.F_f_copied.kp T.b_f_copied .nil pass0 (pa_cons (pe_ix ix_list (pe_fld (pv 0) rfl) (pe_meth (pv 0) T.c_Book T.t_f_Book_index_of (ok_f_Book_index_of T) (hr.mono (by decide)) T.b_f_Book_index_of .nil (passE (takes_of rfl rfl rfl rfl)) (pa_cons (pv 1) pa_nil)) (fun _ _ => rfl)) pa_nil)))), ?_⟩
    rw [show L2.start N_f_Book_formulas_of [V.ref x, V.str n] = [some (V.ref x), some (V.str n)] from rfl]; try dsimp only [cxOf]
    top_caughtB
    refine ⟨x, t.C_Book, dx, _, _, rfl, h1, T.c_Book, T.n_Book__formulas, bk_formulas, ?_⟩
    top_caughtB
    refine ⟨x, dx, _, rfl, h1, bk_no (by decide +kernel), ?_⟩
    top_caughtB
    refine ⟨x, b, L, n, rfl, B, fun hn d nd => hE hn d nd, fun hn => ?_⟩
    obtain ⟨fm', xs, e, hS, hA⟩ := dp_list h4
    cases e
    have hxl := dpa_map_len hA
    have hil : (names L).idxOf n < xs.length := by
      have := List.idxOf_lt_length_iff.mpr hn
      have e : (names L).length = L.length := List.length_map ..
      omega
    obtain ⟨l, hl, hd⟩ := dpa_at hA (List.getElem?_eq_getElem hil)
    obtain ⟨a, ys, ea, _, _⟩ := dp_forms hd
    refine r_ixL hS (atI_nat (List.getElem?_eq_getElem hil)) ?_
    rw [ea] at hd ⊢
    exact ⟨a, l.2.2, rfl, hd, Nat.le_trans (sound_len S (List.mem_of_getElem? hl)) (by decide), fun H' r nr s _ _ => q hn _ H' s⟩


local macro_rules | `(tactic| modx_arm) => `(tactic| repeat' (first | exact des_nil | refine des_cons ?_ ?_ | exact de_int | exact de_str | exact de_neg | refine de_tup (by assumption) ?_ ?_ | refine de_lst (by assumption) ?_ ?_ | refine de_var rfl ?_ | assumption | exact rfl))
def sp_f_law_made (K : PySem.W.Frag) (t : Ad) : Sp := fun vs H Q _ => ∃ (k : Addr) (b : Int) (L : List Line), vs = [.ref k] ∧ Dp K H (.ref k) (dKind b L) ∧ Sound b L ∧
  ∀ H' x, H x = none → Same H H' → BookC (t.C_Book, t.C_System) K (nw H H') x b L → Q (.ref x) H'
theorem ok_f_law_made {P : Program} {w : World} {K : PySem.W.Frag} {mg : Str → Option Value} {base : Heap} {t : Ad} (T : Txt K mg t) : FnOk P w K mg base CX0 5 t.a_f_law_made t.d_f_law_made ["kind"] (sp_f_law_made K t) := by
  refine T.F_f_law_made.ok sc_f_law_made (fun vs H Q E h => ?_) (fun cdv A outer s H vs Q E hr h => ?_)
  · obtain ⟨k, b, L, rfl, _⟩ := h
    rfl
  · obtain ⟨k, b, L, rfl, hd, S, q⟩ := h
    refine ⟨_, (pss_one (ps_ret (pe_make T.k_Book (ok_f_Book___init__ T) (hr.mono (by decide)) (by rfl) T.g_Book T.b_f_Book___init__ .nil pass0 (pa_cons (pe_ix ix_tup (pv 0) pe_int (fun _ _ => rfl)) (pa_cons (pe_lc (own := [("letter", 1), ("start", 2), ("formulas", 3)]) (te := (tTup (tCons (tVar 1) (tCons (tVar 2) (tCons (tLc (iList K (tVar 3)) (gName 4) tYes (tCB (rListOf K) (tCons (tVar 4) tNil)) [4]) tNil))))) (tt := tYes) (g := (gTup K 3 (gCons (gName 1) (gCons (gName 2) (gCons (gName 3) gNil))))) rfl sc_f_law_made.nd (pi_list (pe_ix ix_tup (pv 0) pe_int (fun _ _ => rfl))) (blkOk_by (own := [("letter", 1), ("start", 2), ("formulas", 3)]) (N := N_f_law_made) (sc := defScope s_f_law_made) (by decide +kernel)) (fun _ _ _ _ _ => (pg_tup rfl (pgs_cons (pg_name (i := 1) sc_f_law_made.nd rfl (Or.inl rfl)) (pgs_cons (pg_name (i := 2) sc_f_law_made.nd rfl (Or.inl rfl)) (pgs_cons (pg_name (i := 3) sc_f_law_made.nd rfl (Or.inl rfl)) pgs_nil))))) (fun _ _ _ _ _ => pts_nil) (fun _ _ _ _ _ => (pe_tup (pa_cons (pv 1) (pa_cons (pv 2) (pa_cons (pe_lc (own := [("one", 4)]) (te := (tCB (rListOf K) (tCons (tVar 4) tNil))) (tt := tYes) (g := (gName 4)) rfl sc_f_law_made.nd (pi_list (pv 3)) (blkOk_by (own := [("one", 4)]) (N := N_f_law_made) (by rfl)) (fun _ _ _ _ _ => (pg_name (i := 4) sc_f_law_made.nd rfl (Or.inl rfl))) (fun _ _ _ _ _ => pts_nil) (fun _ _ _ _ _ => (pe_callTy (T := "list") call_list_of (by rfl) T.m_list (by decide +kernel) (pa_cons (pv 4) pa_nil)))) pa_nil)))))) pa_nil))))), ?_⟩
    rw [show L2.start N_f_law_made [V.ref k] = [some (V.ref k), none, none, none, none] from rfl]; try dsimp only [cxOf]
    obtain ⟨k', x0, x1, e, hT, d0, d1⟩ := dp_pair hd
    cases e
    cases dp_int d0
    obtain ⟨r, xs, rfl, hS, hA⟩ := dp_list d1
    have hx := dpa_map_len hA
    have hm := S.many
    top_caughtB
    refine ⟨_, rfl, ?_⟩
    top_caughtB
    refine ⟨r, rfl, ⟨xs, hS⟩, fun D hD => ?_⟩
    refine lc_pure (K := K) (σ := [some (.ref k), none, none, none, none]) (vs := [1, 2, 3]) (fun i y H' => ∀ l, L[i]? = some l → Dp K H' y (dLine l)) (fun i y H1 H2 h s g e => dp_same s (h g e)) hS hD (by omega) (fun x H P P' h q => gm_tup3 h q) (fun σ H P P' h q => h _ _ q) ?_ ?_
    · intro i y H1 QQ hi s1 nD hq
      obtain ⟨l, hl, hdl⟩ := dpa_at hA hi
      obtain ⟨c, d, rfl, hT1, hF⟩ := dp_line (dp_same s1 hdl)
      obtain ⟨d', zs, e, hSF, hAF⟩ := dp_forms hF
      cases e
      have hz := dpa_map_len hAF
      have h4 := sound_len S (List.mem_of_getElem? hl)
      unfold LcTurn
      top_caughtB
      refine ⟨rfl, ?_⟩
      top_caughtB
      refine ⟨.ref d, rfl, d, rfl, ⟨zs, hSF⟩, fun D2 hD2 => ?_⟩
      refine lc_pure (K := K) (σ := [some (.ref k), some (.str l.1), some (.int l.2.1), some (.ref d), none]) (vs := [4]) (fun i y H' => ∀ g, l.2.2[i]? = some g → Dp K H' y (dForm g)) (fun i y H1 H2 h s g e => dp_same s (h g e)) hSF hD2 (by omega) (fun x H P P' h q => gm_name h q) (fun σ H P P' h q => h _ _ q) ?_ ?_
      · intro j y H2 QQ2 hj s2 nD2 hq2
        obtain ⟨g, hg, hdg⟩ := dpa_at hAF hj
        obtain ⟨c2, us, rfl, hSg, hAg⟩ := dp_form hdg
        unfold LcTurn
        top_caughtB
        refine ⟨rfl, ?_⟩
        top_caughtB
        refine ⟨c2, us, rfl, .inl (s2.seq hSg), fun l2 hl2 => ?_⟩
        refine hq2 _ _ (same_new hl2) fun g' e' => ?_
        have eg := Option.some.inj (hg.symm.trans e')
        subst eg
        exact .lst (sq_of ((nw_new hl2).trans upd_same)) (dpa_terms_nw (same_new hl2) (dpa_same s2 hAg))
      · intro H2 ys hlen hR s2 eD2
        top_caughtB
        intro tp ntp
        refine hq _ _ (s2.trans (same_new ntp)) fun l' e' => ?_
        have ell := Option.some.inj (hl.symm.trans e')
        subst ell
        have htp : H1 tp = none := s2.free ntp
        refine .tup (st_of ((nw_new htp).trans upd_same)) (.cons (.str _) (.cons (.int _) (.cons ?_ .nil)))
        refine .lst (sq_of ((nw_new hD2).trans (upd_old ntp eD2))) ?_
        exact dpa_map (by omega) fun i y g h1 h2 => dp_same (nw_mono (same_new ntp)) (hR i y h1 g h2)
    · intro H1 ys hlen hR s1 eD
      have dR : Dp K (nw H H1) (.ref D) (dRows L) := .lst (sq_of ((nw_new hD).trans eD)) (dpa_map (by omega) fun i y g h1 h2 => hR i y h1 g h2)
      top_caughtB
      intro x dx nx ndx nex
      refine ⟨x, dx, D, b, L, rfl, upd_same, dp_same (nw_le.trans (made_hid nx ndx)) dR, S, fun H2 k2 B => ⟨rfl, ?_⟩⟩
      have s2 := made_same nx ndx k2
      refine q H2 x (s1.free nx) (s1.trans s2) (B.same (nw_back (s1.trans (made_hid nx ndx))))


def sp_f_law_factor (_ : PySem.W.Frag) (_ : Ad) : Sp := fun vs H Q _ => ∃ (p : Addr) (f : Nat), vs = [.ref p] ∧ PoolAt H p (f + 4) ∧ ∀ H' (d : Int), d ≠ 0 → d.natAbs ≤ 9 → Keep p H H' → PoolAt H' p f → Q (.int d) H'
theorem ok_f_law_factor {P : Program} {w : World} {K : PySem.W.Frag} {mg : Str → Option Value} {base : Heap} {t : Ad} (T : Txt K mg t) : FnOk P w K mg base CX0 2 t.a_f_law_factor t.d_f_law_factor ["pool"] (sp_f_law_factor K t) := by
  refine T.F_f_law_factor.ok sc_f_law_factor (fun vs H Q E h => ?_) (fun cdv A outer s H vs Q E hr h => ?_)
  · obtain ⟨p, f, rfl, _⟩ := h
    rfl
  · obtain ⟨p, f, rfl, hp, q⟩ := h
    refine ⟨_, (pss_cons (ps_set (i := 1) sc_f_law_factor.nd rfl (Or.inl rfl) (pe_ix ix_list (pe_lst (pa_cons pe_int (pa_cons pe_int (pa_cons (pe_op op_add pe_int (pe_call (ok_f_law_draw T) (hr.mono (by decide)) (by rfl) T.g_f_law_draw T.F_f_law_draw.kp T.b_f_law_draw .nil pass0 (pa_cons (pv 0) (pa_cons pe_int pa_nil)))) (pa_cons (pe_op op_add pe_int (pe_call (ok_f_law_draw T) (hr.mono (by decide)) (by rfl) T.g_f_law_draw T.F_f_law_draw.kp T.b_f_law_draw .nil pass0 (pa_cons (pv 0) (pa_cons pe_int pa_nil)))) pa_nil))))) (pe_call (ok_f_law_draw T) (hr.mono (by decide)) (by rfl) T.g_f_law_draw T.F_f_law_draw.kp T.b_f_law_draw .nil pass0 (pa_cons (pv 0) (pa_cons pe_int pa_nil))) (fun _ _ => rfl)))
      (pss_one (ps_ret (pe_op op_mulX (pv 1) (pe_op op_sub pe_int (pe_op op_mulX pe_int (pe_call (ok_f_law_draw T) (hr.mono (by decide)) (by rfl) T.g_f_law_draw T.F_f_law_draw.kp T.b_f_law_draw .nil pass0 (pa_cons (pv 0) (pa_cons pe_int pa_nil))))))))), ?_⟩
    rw [show L2.start N_f_law_factor [V.ref p] = [some (V.ref p), none] from rfl]; try dsimp only [cxOf]
    top_caughtB
    refine c_drawK (f + 3) hp (by decide) (by decide) fun d1 H1 h10 h11 k1 p1 => ?_
    top_caughtB
    refine c_drawK (f + 2) p1 (by decide) (by decide) fun d2 H2 h20 h21 k2 p2 => ?_
    top_caughtB
    intro q1 nq
    have nqp := p2.away nq
    top_caughtB
    refine c_drawK (f + 1) (p2.new nq) (by decide) (by decide) fun d3 H3 h30 h31 k3 p3 => ?_
    have el := k3 _ _ (upd_same (H := H2)) nqp
    have kk : Keep p H H3 := ((k1.trans k2).trans (Keep.new nq)).trans k3
    obtain ⟨z, ez, hz0, hz9⟩ : ∃ z : Int, atI [V.int 1, V.int 1, V.int (1 + d1), V.int (1 + d2)] d3 = some (.int z) ∧ 1 ≤ z ∧ z ≤ 9 := by
      have : d3 = 0 ∨ d3 = 1 ∨ d3 = 2 ∨ d3 = 3 := by omega
      rcases this with rfl | rfl | rfl | rfl
      · exact ⟨1, rfl, by decide, by decide⟩
      · exact ⟨1, rfl, by decide, by decide⟩
      · exact ⟨_, rfl, by omega, by omega⟩
      · exact ⟨_, rfl, by omega, by omega⟩
    refine r_ixL (sq_of el) ez ?_
    top_caughtB
    refine c_drawK f p3 (by decide) (by decide) fun d4 H4 h40 h41 k4 p4 => ?_
    top_caughtB
    have : d4 = 0 ∨ d4 = 1 := by omega
    refine r_I (mulx2 (a := 10) (b := 10) (by decide) (by omega) (by decide)) ?_
    top_caughtB
    refine r_I (mulx2 (a := 10) (b := 10) (by omega) (by omega) (by decide)) ?_
    have key : z * (1 - 2 * d4) = z ∨ z * (1 - 2 * d4) = -z := by
      rcases this with rfl | rfl
      · exact .inl (by omega)
      · exact .inr (by omega)
    refine q _ _ ?_ ?_ (kk.trans k4) p4
    · rcases key with e | e <;> rw [e] <;> omega
    · rcases key with e | e <;> rw [e] <;> omega
theorem r_lcR {ta : TA} {g : TG} {tt : TT} {te : TE} {vs : List Nat} {σ : L2.St} {H : Hp} {Q : VK} (q : ta σ H fun xs H1 => ∃ j : Int, xs = [.int j] ∧ -(2 ^ 62) ≤ j ∧ j < 2 ^ 62 ∧ ∀ D, H1 D = none → ∃ W : Nat → Nat → Hp → Prop, (∃ m, W 0 m (upd H1 D (.lst []))) ∧ ∀ i m H, W i m H →
    ((Itr 0 j.toNat).stop i H ∧ Q (.ref D) H) ∨ ((Itr 0 j.toNat).go i H ∧ ∃ Nx : Hp → Prop, (∀ H', Nx H' → ∃ m', m' < m ∧ W (i + 1) m' H') ∧ ∀ x H', (Itr 0 j.toNat).yld i H x H' → g x (wipe σ vs) H' fun σ2 H2 => wipe σ2 vs = wipe σ vs ∧ tt σ2 H2 fun b H3 =>
      if b = true then te σ2 H3 fun y H4 => ∃ acc, H4 D = some (.lst acc) ∧ acc.length < sizeLine ∧ Nx (upd H4 D (.lst (acc ++ [y]))) else Nx H3)) : tLc (iRng1 ta) g tt te vs σ H Q := q
theorem at_str {ls : List Str} {d : Int} (h0 : 0 ≤ d) (h1 : d < ls.length) : ∃ x, x ∈ ls ∧ atI (ls.map V.str) d = some (.str x) := by
  have h : d.toNat < ls.length := by omega
  refine ⟨ls[d.toNat], List.getElem_mem h, nat_at h0 ?_⟩
  rw [List.getElem?_map, List.getElem?_eq_getElem h]
  rfl
theorem hid_none {p a : Addr} {H : Hp} (h : H a = none) : hid p H a = none := by
  unfold hid
  split
  · rfl
  · exact h
theorem choose_all {α : Type} {K : PySem.W.Frag} {H : Hp} {f : α → PyData} {P : α → Prop} : ∀ (ys : List V), (∀ (i : Nat) (y : V), ys[i]? = some y → ∃ t : α, P t ∧ Dp K H y (f t)) → ∃ F : List α, F.length = ys.length ∧ (∀ t ∈ F, P t) ∧ DpAll K H ys (F.map f)
  | [], _ => ⟨[], rfl, (fun t h => by cases h), .nil⟩
  | y :: ys, h => by
    obtain ⟨t, h1, h2⟩ := h 0 y rfl
    obtain ⟨F, e, h3, h4⟩ := choose_all ys fun i z e => h (i + 1) z e
    refine ⟨t :: F, by simp [e], fun u hu => ?_, .cons h2 h4⟩
    rcases List.mem_cons.mp hu with rfl | hu
    · exact h1
    · exact h3 u hu
def sp_f_law_terms (K : PySem.W.Frag) (_ : Ad) : Sp := fun vs H Q _ => ∃ (p l : Addr) (f : Nat) (ls : List Str) (m : Nat), vs = [.ref p, .ref l, .int (m : Int)] ∧ PoolAt H p (f + 1 + 5 * m) ∧ m ≤ 20 ∧ l ≠ p ∧ H l = some (.lst (ls.map V.str)) ∧ 0 < ls.length ∧ ls.length ≤ 100 ∧
  ∀ H' r (F : List Term), F.length ≤ m → (∀ t ∈ F, t.1.natAbs ≤ 9 ∧ t.2 ∈ ls) → Dp K (nw (hid p H) (hid p H')) (.ref r) (dForm F) → Keep p H H' → PoolAt H' p f → Q (.ref r) H'
theorem ok_f_law_terms {P : Program} {w : World} {K : PySem.W.Frag} {mg : Str → Option Value} {base : Heap} {t : Ad} (T : Txt K mg t) : FnOk P w K mg base CX0 3 t.a_f_law_terms t.d_f_law_terms ["pool", "letters", "many"] (sp_f_law_terms K t) := by
  refine T.F_f_law_terms.ok sc_f_law_terms (fun vs H Q E h => ?_) (fun cdv A outer s H vs Q E hr h => ?_)
  · obtain ⟨p, l, f, ls, m, rfl, _⟩ := h
    rfl
  · obtain ⟨p, l, f, ls, m, rfl, hp, hm, nlp, el, hl0, hl1, q⟩ := h
    refine ⟨_, (pss_one (ps_ret (pe_lc (own := [("turn", 3)]) (te := (tTup (tCons (tCall (sp_f_law_factor K t) [] E0 (tCons (tVar 0) tNil)) (tCons (tOp (rIxL K) (tVar 1) (tCall (sp_f_law_draw K t) [] E0 (tCons (tVar 0) (tCons (tCB (rLen K) (tCons (tVar 1) tNil)) tNil)))) tNil)))) (tt := tYes) (g := (gName 3)) rfl sc_f_law_terms.nd (pi_range1 (by rfl) T.m_range (pa_cons (pe_call (ok_f_law_draw T) (hr.mono (by decide)) (by rfl) T.g_f_law_draw T.F_f_law_draw.kp T.b_f_law_draw .nil pass0 (pa_cons (pv 0) (pa_cons (pe_op op_add (pv 2) pe_int) pa_nil))) pa_nil)) (blkOk_by (own := [("turn", 3)]) (N := N_f_law_terms) (sc := defScope s_f_law_terms) (by decide +kernel)) (fun _ _ _ _ _ => (pg_name (i := 3) sc_f_law_terms.nd rfl (Or.inl rfl))) (fun _ _ _ _ _ => pts_nil) (fun _ _ _ _ _ => (pe_tup (pa_cons (pe_call (ok_f_law_factor T) (hr.mono (by decide)) (by rfl) T.g_f_law_factor T.F_f_law_factor.kp T.b_f_law_factor .nil pass0 (pa_cons (pv 0) pa_nil)) (pa_cons (pe_ix ix_list (pv 1) (pe_call (ok_f_law_draw T) (hr.mono (by decide)) (by rfl) T.g_f_law_draw T.F_f_law_draw.kp T.b_f_law_draw .nil pass0 (pa_cons (pv 0) (pa_cons (pe_callB call_len_seq (by rfl) T.m_len (by decide +kernel) (pa_cons (pv 1) pa_nil)) pa_nil))) (fun _ _ => rfl)) pa_nil))))))), ?_⟩
    rw [show L2.start N_f_law_terms [V.ref p, V.ref l, V.int (m : Int)] = [some (V.ref p), some (V.ref l), some (V.int (m : Int)), none] from rfl]; try dsimp only [cxOf]
    refine r_lcR ?_
    top_caughtB
    refine c_drawK (f + 5 * m) (by rw [show f + 5 * m + 1 = f + 1 + 5 * m by omega]; exact hp) (by omega) (by omega) fun d H1 h0 h1 k1 p1 => ?_
    top_caughtB
    refine ⟨by omega, by omega, fun D nD => ?_⟩
    have nDp := p1.away nD
    have nDH : H D = none := k1.free nD hp.ne p1.ne
    have el1 := k1.at el nlp
    refine lc_pool (p := p) (lo := 0) (n := d.toNat) (c := 5) (f := f + 5 * (m - d.toNat)) (σ := [some (.ref p), some (.ref l), some (.int (m : Int)), none]) (vs := [3]) (fun i y H => ∃ tm : Term, tm.1.natAbs ≤ 9 ∧ tm.2 ∈ ls ∧ Dp K H y (dTerm tm)) ?_ ?_ nD (by omega) (fun x H P P' h q => h _ _ q) (fun σ H P P' h q => h _ _ q) ?_ ?_
    · rintro i y H H' ⟨tm, h1, h2, h3⟩ s
      exact ⟨tm, h1, h2, dp_same s h3⟩
    · rw [show f + 5 * (m - d.toNat) + 5 * d.toNat = f + 5 * m by omega]
      exact p1
    · intro i H2 QQ hi k2 nD2 p2 q2
      have el2 := k2.at el1 nlp
      unfold LcTurn
      top_caughtB
      refine ⟨rfl, ?_⟩
      top_caughtB
      refine ⟨p, f + 5 * (m - d.toNat) + 5 * (d.toNat - (i + 1)) + 1, rfl, p2, fun H3 a ha0 ha9 k3 p3 => ?_⟩
      have el3 := k3.at el2 nlp
      top_caughtB
      refine c_drawK _ p3 (by rw [List.length_map]; omega) (by rw [List.length_map]; omega) fun d2 H4 h20 h21 k4 p4 => ?_
      have el4 := k4.at el3 nlp
      obtain ⟨x, hx, ex⟩ := at_str (ls := ls) h20 (by rw [List.length_map] at h21; exact h21)
      refine r_ixL (sq_of el4) ex ?_
      top_caughtB
      intro T nT
      have nTp := p4.away nT
      have nT2 : H2 T = none := (k3.trans k4).free nT p2.ne p4.ne
      refine q2 _ _ ((k3.trans k4).trans (Keep.new nT)) (p4.new nT) ⟨(a, x), ha9, hx, ?_⟩
      refine .tup (st_of ?_) (.cons (.int a) (.cons (.str x) .nil))
      rw [nw_new (hid_none nT2)]
      exact hid_at upd_same nTp
    · intro H2 ys hlen hy k2 p2 eD
      obtain ⟨F, e1, e2, e3⟩ := choose_all (K := K) (P := fun tm : Term => tm.1.natAbs ≤ 9 ∧ tm.2 ∈ ls) (f := dTerm) ys fun i y h => by
        obtain ⟨tm, a1, a2, a3⟩ := hy i y h
        exact ⟨tm, ⟨a1, a2⟩, a3⟩
      refine q H2 D F (by omega) e2 (.lst (sq_of ?_) (dpa_same (nw_back k1.hid) e3)) (k1.trans k2) (p2.less (Nat.le_add_right _ _))
      rw [nw_new (hid_none nDH)]
      exact hid_at eD nDp
theorem pool_lst {H : Hp} {p : Addr} {f : Nat} (h : PoolAt H p f) : ∃ xs, H p = some (.lst xs) := by
  obtain ⟨o, e, a, b, c, rfl, _⟩ := h
  exact ⟨_, e⟩
theorem dpT {K : PySem.W.Frag} {H1 : Hp} {T q : Addr} {c : Int} {x : Str} {o : HO} (nT : H1 T = none) (nq : upd H1 T (.tup [.int c, .str x]) q = none) : Dp K (tu (upd (upd H1 T (.tup [.int c, .str x])) q o)) (.ref T) (dTerm (c, x)) :=
  dp_term_new (upd_old nq upd_same)
def sp_f_law_first (K : PySem.W.Frag) (_ : Ad) : Sp := fun vs H Q _ => ∃ (p sd : Addr) (f : Nat) (ks : List Str) (g : Str → Int) (x : Str), vs = [.ref p, .ref sd, .str x] ∧ PoolAt H p (f + 14) ∧ H sd = some (.dK (sk ks g)) ∧ 0 < ks.length ∧ ks.length < 64 ∧ x ∈ ks ∧ (∀ y ∈ ks, (g y).natAbs ≤ 9 ∧ PyData.strOk y = true) ∧
  ∀ H' r (F : List Term), F.length ≤ 5 → (∀ t ∈ F, t.1.natAbs ≤ 9 ∧ t.2 ∈ ks) → (F.map fun t => t.1 * g t.2).sum = g x → Dp K (nw (hid p H) (hid p H')) (.ref r) (dForm F) → Keep p H H' → PoolAt H' p f → Q (.ref r) H'
theorem ok_f_law_first {P : Program} {w : World} {K : PySem.W.Frag} {mg : Str → Option Value} {base : Heap} {t : Ad} (T : Txt K mg t) : FnOk P w K mg base CX0 3 t.a_f_law_first t.d_f_law_first ["pool", "starts", "letter"] (sp_f_law_first K t) := by
  refine T.F_f_law_first.ok sc_f_law_first (fun vs H Q E h => ?_) (fun cdv A outer s H vs Q E hr h => ?_)
  · obtain ⟨p, sd, f, ks, g, x, rfl, _⟩ := h
    rfl
  · obtain ⟨p, sd, f, ks, g, x, rfl, hp, ed, hk0, hk6, hx, hg, q⟩ := h
    refine ⟨_, (pss_cons (ps_set (i := 3) sc_f_law_first.nd rfl (Or.inl rfl) (pe_ifExp (PW.pt (pw_or (pt_cmpR op_ne (pe_dget (hu_of hr) (pv 1) (pv 2) (fun _ _ => rfl)) pe_int (nomark _)) (pw_or1 (pt_cmpR op_eq (pe_call (ok_f_law_draw T) (hr.mono (by decide)) (by rfl) T.g_f_law_draw T.F_f_law_draw.kp T.b_f_law_draw .nil pass0 (pa_cons (pv 0) (pa_cons pe_int pa_nil))) pe_int (nomark _))))) (pe_lst (pa_cons (pe_tup (pa_cons pe_int (pa_cons (pv 2) pa_nil))) pa_nil)) (pe_lst pa_nil)))
      (pss_cons (ps_lock (ps_setLc (i := 4) (own := [("other", 9)]) (te := (tVar 9)) (tt := (tTest (tOp rEq (tDGet (tVar 1) (tVar 9)) (tC (.int 0))))) (g := (gName 9)) rfl sc_f_law_first.nd rfl rfl (sw_true rfl rfl rfl (by decide +kernel)) (pi_keys (pv 1)) (blkOk_by (own := [("other", 9)]) (N := N_f_law_first) (sc := defScope s_f_law_first) (by decide +kernel)) (fun _ _ _ _ _ => (pg_name (i := 9) sc_f_law_first.nd rfl (Or.inl rfl))) (fun _ _ _ _ _ => (pts_one (pt_cmpR op_eq (pe_dget (hu_of hr) (pv 1) (pv 9) (fun _ _ => rfl)) pe_int (nomark _)))) (fun _ _ _ _ _ => (pv 9))))
      (pss_cons (ps_for PassesOwn.never rfl (pi_range1 (by rfl) T.m_range (pa_cons (pe_call (ok_f_law_draw T) (hr.mono (by decide)) (by rfl) T.g_f_law_draw T.F_f_law_draw.kp T.b_f_law_draw .nil pass0 (pa_cons (pv 0) (pa_cons pe_int pa_nil))) pa_nil)) (pg_name (i := 5) sc_f_law_first.nd rfl (Or.inl rfl)) (pss_one (ps_if (PW.pt (pw_and (pt_cmpR (op_neD hr.units) (pv 4) (pe_lst pa_nil) (nomark _)) (pw_and1 (pt_cmpR op_eq (pe_call (ok_f_law_draw T) (hr.mono (by decide)) (by rfl) T.g_f_law_draw T.F_f_law_draw.kp T.b_f_law_draw .nil pass0 (pa_cons (pv 0) (pa_cons pe_int pa_nil))) pe_int (nomark _))))) (pss_one (ps_expr (pe_bm PySem.F.plainAttrs_list PySem.F.slot_list_append PySem.F.type_list_append mt_append (pv 3) (pa_cons (pe_tup (pa_cons (pe_call (ok_f_law_factor T) (hr.mono (by decide)) (by rfl) T.g_f_law_factor T.F_f_law_factor.kp T.b_f_law_factor .nil pass0 (pa_cons (pv 0) pa_nil)) (pa_cons (pe_ix ix_list (pv 4) (pe_call (ok_f_law_draw T) (hr.mono (by decide)) (by rfl) T.g_f_law_draw T.F_f_law_draw.kp T.b_f_law_draw .nil pass0 (pa_cons (pv 0) (pa_cons (pe_callB call_len_seq (by rfl) T.m_len (by decide +kernel) (pa_cons (pv 4) pa_nil)) pa_nil))) (fun _ _ => rfl)) pa_nil))) pa_nil)))) (pss_cons (ps_set (i := 6) sc_f_law_first.nd rfl (Or.inl rfl) (pe_callB (call_sortedD rfl) (by rfl) T.m_sorted (by decide +kernel) (pa_cons (pv 1) pa_nil)))
      (pss_cons (ps_par (i := 7) (j := 8) (by rfl) sc_f_law_first.nd rfl rfl (by decide) rfl rfl (pa_cons (pe_ix ix_list (pv 6) (pe_call (ok_f_law_draw T) (hr.mono (by decide)) (by rfl) T.g_f_law_draw T.F_f_law_draw.kp T.b_f_law_draw .nil pass0 (pa_cons (pv 0) (pa_cons (pe_callB call_len_seq (by rfl) T.m_len (by decide +kernel) (pa_cons (pv 6) pa_nil)) pa_nil))) (fun _ _ => rfl)) (pa_cons (pe_ix ix_list (pv 6) (pe_call (ok_f_law_draw T) (hr.mono (by decide)) (by rfl) T.g_f_law_draw T.F_f_law_draw.kp T.b_f_law_draw .nil pass0 (pa_cons (pv 0) (pa_cons (pe_callB call_len_seq (by rfl) T.m_len (by decide +kernel) (pa_cons (pv 6) pa_nil)) pa_nil))) (fun _ _ => rfl)) pa_nil)) (by rfl))
      (pss_one (ps_if (pt_cmpR op_lt (pe_callB (call_max2 rfl) (by rfl) T.m_max (by decide +kernel) (pa_cons (pe_callB call_abs (by rfl) T.m_abs (by decide +kernel) (pa_cons (pe_dget (hu_of hr) (pv 1) (pv 7) (fun _ _ => rfl)) pa_nil)) (pa_cons (pe_callB call_abs (by rfl) T.m_abs (by decide +kernel) (pa_cons (pe_dget (hu_of hr) (pv 1) (pv 8) (fun _ _ => rfl)) pa_nil)) pa_nil))) pe_int (nomark _)) (pss_one (ps_set (i := 3) sc_f_law_first.nd rfl (Or.inl rfl) (pe_op op_cat (pv 3) (pe_lst (pa_cons (pe_tup (pa_cons (pe_dget (hu_of hr) (pv 1) (pv 8) (fun _ _ => rfl)) (pa_cons (pv 7) pa_nil))) (pa_cons (pe_tup (pa_cons (pe_op op_sub pe_int (pe_dget (hu_of hr) (pv 1) (pv 7) (fun _ _ => rfl))) (pa_cons (pv 8) pa_nil))) pa_nil)))))) pss_nil)))))))
      (pss_one (ps_ret (pe_lc (own := [("term", 10)]) (te := (tVar 10)) (tt := (tTest (tOp rNe (tOp (rIxT K) (tVar 10) (tC (.int 0))) (tC (.int 0))))) (g := (gName 10)) rfl sc_f_law_first.nd (pi_list (pv 3)) (blkOk_by (own := [("term", 10)]) (N := N_f_law_first) (sc := defScope s_f_law_first) (by decide +kernel)) (fun _ _ _ _ _ => (pg_name (i := 10) sc_f_law_first.nd rfl (Or.inl rfl))) (fun _ _ _ _ _ => (pts_one (pt_cmpR op_ne (pe_ix ix_tup (pv 10) pe_int (fun _ _ => rfl)) pe_int (nomark _)))) (fun _ _ _ _ _ => (pv 10)))))))), ?_⟩
    rw [show L2.start N_f_law_first [V.ref p, V.ref sd, V.str x] = [some (V.ref p), some (V.ref sd), some (V.str x), none, none, none, none, none, none, none, none] from rfl]; try dsimp only [cxOf]
    have gx := sk_get (g := g) hx
    have nsp : sd ≠ p := fun z => by
      subst z
      obtain ⟨o, e, a, b, c, rfl, _⟩ := hp
      rw [e] at ed
      cases ed
    have pl := pool_lst hp
    refine r_seqJ (fun v H' => ∃ fr xs F, v = .ref fr ∧ H fr = none ∧ H' fr = some (.lst xs) ∧ DpAll K (tu H') xs (F.map dTerm) ∧ F.length ≤ 1 ∧ (∀ t ∈ F, t.1.natAbs ≤ 9 ∧ t.2 ∈ ks) ∧ sumG g F = g x ∧ Keep p H H' ∧ PoolAt H' p (f + 13)) (fun QQ hQ => ?_) ?_
    · have one : ∀ H1, Keep p H H1 → PoolAt H1 p (f + 13) → ∀ T, H1 T = none → ∀ q, upd H1 T (.tup [.int 1, .str x]) q = none → QQ (.ref q) (upd (upd H1 T (.tup [.int 1, .str x])) q (.lst [.ref T])) := fun H1 k1 p1 T nT q nq => by
        refine hQ _ _ ⟨q, [.ref T], [(1, x)], rfl, ?_, upd_same, .cons (dpT nT nq) .nil, Nat.le_refl _, ?_, ?_, (k1.trans (Keep.new nT)).trans (Keep.new nq), (p1.new nT).new nq⟩
        · exact (k1.trans (Keep.new nT)).free nq hp.ne ((p1.new nT).ne)
        · intro t ht
          cases List.mem_singleton.mp ht
          exact ⟨(by decide : (1 : Int).natAbs ≤ 9), hx⟩
        · show 1 * g x + 0 = g x
          omega
      top_caughtB
      refine r_dg ?_
      top_caughtB
      refine r_dget (.inl ed) gx ?_
      top_caughtB
      refine ite2 (fun h => ?_) (fun h => ?_)
      · top_caughtB
        intro T nT
        top_caughtB
        intro q2 nq
        exact one H Keep.refl (hp.less (by omega)) T nT q2 nq
      · have g0 : g x = 0 := by
          by_cases e : g x = 0
          · exact e
          · exact absurd (by simp [e]) h
        top_caughtB
        refine c_drawK (f + 13) hp (by decide) (by decide) fun d H1 h0 h1 k1 p1 => ?_
        top_caughtB
        refine ite2 (fun h => ?_) (fun h => ?_)
        · top_caughtB
          intro T nT
          top_caughtB
          intro q2 nq
          exact one H1 k1 p1 T nT q2 nq
        · top_caughtB
          intro q2 nq
          exact hQ _ _ ⟨q2, [], [], rfl, k1.free nq hp.ne p1.ne, upd_same, .nil, Nat.zero_le _, (fun t ht => by cases ht), g0.symm, k1.trans (Keep.new nq), p1.new nq⟩
    · rintro v H1 ⟨fr, xs, F, rfl, nfr, efr, dF, lF, gF, sF, k1, p1⟩
      have ed1 := k1.at ed nsp
      have nfp : fr ≠ p := hp.away nfr
      have nfs : fr ≠ sd := fun z => by
        subst z
        rw [ed] at nfr
        cases nfr
      top_caughtB
      refine r_lock sd _ ed1 trivial fun od => ?_
      refine r_lcK ?_ (fun P P' h q => by
        obtain ⟨v, e, q⟩ := q
        exact ⟨v, e, h _ _ q⟩)
      refine ⟨_, rfl, sd, od, sk ks g, rfl, upd_same, fun D nD => ?_⟩
      have nDs : D ≠ sd := fun z => by
        rw [z, upd_same] at nD
        cases nD
      have nD1 : H1 D = none := by rw [upd_ne nDs] at nD; exact nD
      have nDp : D ≠ p := p1.away nD1
      have nDf : D ≠ fr := fun z => by
        rw [z, efr] at nD1
        cases nD1
      refine lc_keys (σ := [some (.ref p), some (.ref sd), some (.str x), some (.ref fr), none, none, none, none, none, none, none]) (vs := [9]) (fun i H' => ∃ ys : List Str, H' = upd (upd H1 sd (.frz od (.dK (sk ks g)))) D (.lst (ys.map V.str)) ∧ ys.length ≤ i ∧ ∀ y ∈ ys, y ∈ ks ∧ g y = 0) ⟨[], rfl, Nat.le_refl _, fun y h => by cases h⟩ ?_ ?_ ?_
      · rintro i H2 hi ⟨ys, rfl, h1, h2⟩
        exact upd_oth (Ne.symm nDs) upd_same
      · rintro i k v H2 hi ⟨ys, rfl, h1, h2⟩
        obtain ⟨y, hy, rfl, rfl⟩ := sk_at hi
        have hyk := List.mem_of_getElem? hy
        top_caughtB
        refine ⟨rfl, ?_⟩
        top_caughtB
        refine r_dg ?_
        top_caughtB
        refine r_dget (.inr ⟨od, upd_oth (Ne.symm nDs) upd_same⟩) (sk_get hyk) ?_
        top_caughtB
        refine ite2 (fun h => ?_) (fun h => ?_)
        · have g0 : g y = 0 := V.int.inj (of_decide_eq_true h)
          top_caughtB
          refine ⟨_, upd_same, ?_, ys ++ [y], ?_, by rw [List.length_append]; exact Nat.succ_le_succ h1, ?_⟩
          · rw [List.length_map]
            exact Nat.lt_of_le_of_lt (show ys.length ≤ 1000 by have := (List.getElem?_eq_some_iff.mp hy).1; omega) (by decide)
          · rw [upd_upd, List.map_append]
            rfl
          · intro z hz
            rcases List.mem_append.mp hz with hz | hz
            · exact h2 z hz
            · cases List.mem_singleton.mp hz
              exact ⟨hyk, g0⟩
        · exact ⟨ys, rfl, by omega, h2⟩
      · rintro H2 ⟨ns, rfl, h1, h2⟩
        rw [sk_len] at h1
        top_caughtB
        refine ⟨upd_oth (Ne.symm nDs) upd_same, ?_⟩
        rw [upd_lock ed1 nDs]
        have k2 : Keep p H (upd H1 D (.lst (ns.map V.str))) := k1.trans (Keep.new nD1)
        have p2 := p1.new (o := .lst (ns.map V.str)) nD1
        have eD2 : (upd H1 D (.lst (ns.map V.str))) D = some (.lst (ns.map V.str)) := upd_same
        have ef2 := upd_old (o := .lst (ns.map V.str)) nD1 efr
        have dF2 := dpa_same (tu_new (o := .lst (ns.map V.str)) nD1) dF
        generalize upd H1 D (.lst (ns.map V.str)) = H2 at k2 p2 eD2 ef2 dF2 ⊢
        top_caughtB
        refine c_drawK (f + 12) p2 (by decide) (by decide) fun d H3 h0 h1' k3 p3 => ?_
        have eD3 := k3.at eD2 nDp
        have ef3 := k3.at ef2 nfp
        obtain ⟨pl2, epl2⟩ := pool_lst p2
        have dF3 := dpa_same (tu_keep epl2 k3) dF2
        top_caughtB
        refine ⟨by omega, by omega, ?_⟩
        refine for_range (D := ⟨_, _, fun _ _ => False, fun _ _ => False⟩) (lo := 0) (n := d.toNat) (fun i σ H' => ∃ fr xs F w5 w6 w7 w8, σ = [some (.ref p), some (.ref sd), some (.str x), some (.ref fr), some (.ref D), w5, w6, w7, w8, none, none] ∧ H fr = none ∧ fr ≠ D ∧ H' fr = some (.lst xs) ∧ DpAll K (tu H') xs (F.map dTerm) ∧ F.length ≤ 1 + 2 * i ∧ (∀ t ∈ F, t.1.natAbs ≤ 9 ∧ t.2 ∈ ks) ∧ sumG g F = g x ∧ Keep p H H' ∧ PoolAt H' p (f + 6 * (2 - i)) ∧ H' D = some (.lst (ns.map V.str)))
          ⟨fr, xs, F, none, none, none, none, rfl, nfr, Ne.symm nDf, ef3, dF3, lF, gF, sF, k2.trans k3, p3, eD3⟩ ?_ ?_
        · rintro i σ H4 hi ⟨fr, xs, F, w5, w6, w7, w8, rfl, nfr, nfD, efr, dF, lF, gF, sF, k4, p4, eD4⟩
          have hi1 : i ≤ 1 := by omega
          have ed4 := k4.at ed nsp
          refine r_gname ?_
          obtain ⟨pl4, epl4⟩ := pool_lst p4
          have e6 : f + 6 * (2 - i) = f + 6 * (2 - (i + 1)) + 6 := by omega
          rw [e6] at p4
          refine r_ifJ (fun b H' => (b = true → ns ≠ []) ∧ Keep p H4 H' ∧ PoolAt H' p (f + 6 * (2 - (i + 1)) + 5)) (fun QB hQ => ?_) ?_
          · top_caughtB
            intro e ne
            refine ⟨_, _, .lst (sq_of (upd_old ne eD4)) (dpa_strs ns), .lst (sq_of upd_same) .nil, shaped_strs fun y hy => (hg y (h2 y hy).1).2, shaped_strs (xs := []) (fun x h => by cases h), ?_⟩
            rw [eqv_strs_nil]
            top_caughtB
            refine ite2 (fun h => ?_) (fun h => ?_)
            · top_caughtB
              refine c_drawK (f + 6 * (2 - (i + 1)) + 5) (p4.new ne) (by decide) (by decide) fun d2 H5 h20 h21 k5 p5 => ?_
              top_caughtB
              refine hQ _ _ ⟨fun _ => ?_, (Keep.new ne).trans k5, p5⟩
              intro z
              rw [z] at h
              exact absurd h (by decide)
            · exact hQ _ _ ⟨(fun z => by cases z), Keep.new ne, (p4.new ne).less (g := f + 6 * (2 - (i + 1)) + 5) (by omega)⟩
          · rintro b H5 ⟨hb, k5, p5⟩
            have nfp : fr ≠ p := hp.away nfr
            have eD5 := k5.at eD4 nDp
            have ef5 := k5.at efr nfp
            have ed5 := k5.at ed4 nsp
            have dF5 := dpa_same (tu_keep epl4 k5) dF
            have lxs : xs.length ≤ 5 := by
              have := dpa_len dF
              rw [List.length_map] at this
              omega
            obtain ⟨pl5, epl5⟩ := pool_lst p5
            refine ite2 (fun h => ?_) (fun h => ?_)
            · have hns := hb h
              have hns0 : 0 < ns.length := List.length_pos_iff.mpr hns
              top_caughtB
              refine ⟨p, f + 6 * (2 - (i + 1)) + 1, rfl, p5, fun H6 a ha0 ha9 k6 p6 => ?_⟩
              have eD6 := k6.at eD5 nDp
              top_caughtB
              refine c_drawK (f + 6 * (2 - (i + 1))) p6 (by rw [List.length_map]; omega) (by rw [List.length_map]; omega) fun d2 H7 h20 h21 k7 p7 => ?_
              have eD7 := k7.at eD6 nDp
              have ef7 := k7.at (k6.at ef5 nfp) nfp
              obtain ⟨y, hy, ey⟩ := at_str (ls := ns) h20 (by rw [List.length_map] at h21; exact h21)
              refine r_ixL (sq_of eD7) ey ?_
              top_caughtB
              intro T nT
              have nTf : fr ≠ T := ne_of_none ef7 nT
              have nDT : D ≠ T := ne_of_none eD7 nT
              have dF7 := dpa_same ((tu_keep epl5 (k6.trans k7)).trans (tu_new (o := .tup [.int a, .str y]) nT)) dF5
              have dT := dp_term_new (K := K) (H := upd H7 T (.tup [.int a, .str y])) (a := T) (c := a) (x := y) upd_same
              have efT : (upd H7 T (.tup [.int a, .str y])) fr = some (.lst xs) := upd_old nT ef7
              have gy := h2 y hy
              have kT : Keep p H (upd H7 T (.tup [.int a, .str y])) := (((k4.trans k5).trans k6).trans k7).trans (Keep.new nT)
              top_caughtB
              refine r_app0 ⟨xs, efT, Nat.lt_of_le_of_lt (show xs.length ≤ 1000 by omega) (by decide), ?_⟩
              refine ⟨fr, _, F ++ [(a, y)], _, _, _, _, rfl, nfr, nfD, upd_same, ?_, ?_, ?_, ?_, kT.mut nfr, (p7.new nT).oth (Ne.symm nfp), ?_⟩
              · rw [List.map_append]
                exact dpa_append (dpa_same (tu_lst efT) dF7) (.cons (dp_same (tu_lst efT) dT) .nil)
              · rw [List.length_append]
                show F.length + 1 ≤ _
                omega
              · intro tm ht
                rcases List.mem_append.mp ht with ht | ht
                · exact gF tm ht
                · cases List.mem_singleton.mp ht
                  exact ⟨ha9, gy.1⟩
              · rw [sumG_app, sF]
                show g x + (a * g y + 0) = g x
                rw [gy.2]
                omega
              · rw [upd_ne (Ne.symm nfD)]
                exact upd_old nT eD7
            · top_caughtB
              refine ⟨sd, sk ks g, ks, rfl, .inl ed5, sk_keys, hk6, fun os oq hperm _ noq => ?_⟩
              have hos : os.length = ks.length := hperm.length_eq
              have p6 := p5.new (o := .lst (os.map V.str)) noq
              have noqp : oq ≠ p := p5.away noq
              have ed6 : (upd H5 oq (.lst (os.map V.str))) sd = some (.dK (sk ks g)) := upd_old noq ed5
              have ef6 : (upd H5 oq (.lst (os.map V.str))) fr = some (.lst xs) := upd_old noq ef5
              have eD6 : (upd H5 oq (.lst (os.map V.str))) D = some (.lst (ns.map V.str)) := upd_old noq eD5
              have eo6 : (upd H5 oq (.lst (os.map V.str))) oq = some (.lst (os.map V.str)) := upd_same
              have k6 : Keep p H (upd H5 oq (.lst (os.map V.str))) := (k4.trans k5).trans (Keep.new noq)
              have dF6 := dpa_same (tu_new (o := .lst (os.map V.str)) noq) dF5
              generalize upd H5 oq (.lst (os.map V.str)) = H6 at p6 ed6 ef6 eD6 eo6 k6 dF6 ⊢
              top_caughtB
              refine c_drawK (f + 6 * (2 - (i + 1)) + 4) p6 (by rw [List.length_map]; omega) (by rw [List.length_map]; omega) fun d2 H7 h20 h21 k7 p7 => ?_
              have eo7 := k7.at eo6 noqp
              obtain ⟨y1, hy1, ey1⟩ := at_str (ls := os) h20 (by rw [List.length_map] at h21; exact h21)
              refine r_ixL (sq_of eo7) ey1 ?_
              top_caughtB
              refine c_drawK (f + 6 * (2 - (i + 1)) + 3) p7 (by rw [List.length_map]; omega) (by rw [List.length_map]; omega) fun d3 H8 h30 h31 k8 p8 => ?_
              have eo8 := k8.at eo7 noqp
              obtain ⟨y2, hy2, ey2⟩ := at_str (ls := os) h30 (by rw [List.length_map] at h31; exact h31)
              refine r_ixL (sq_of eo8) ey2 ?_
              have k68 := k7.trans k8
              have ed8 := k68.at ed6 nsp
              have ef8 := k68.at ef6 nfp
              have eD8 := k68.at eD6 nDp
              obtain ⟨pl6, epl6⟩ := pool_lst p6
              have dF8 := dpa_same (tu_keep epl6 k68) dF6
              have kk8 := k6.trans k68
              have hk1 := hperm.mem_iff.mp hy1
              have hk2 := hperm.mem_iff.mp hy2
              have hg1 := (hg y1 hk1).1
              have hg2 := (hg y2 hk2).1
              top_caughtB
              refine r_dg ?_
              top_caughtB
              refine r_dget (.inl ed8) (sk_get hk1) ?_
              top_caughtB
              refine r_dg ?_
              top_caughtB
              refine r_dget (.inl ed8) (sk_get hk2) ?_
              top_caughtB
              refine ite2 (fun h => ?_) (fun h => ?_)
              · top_caughtB
                refine r_dg ?_
                top_caughtB
                refine r_dget (.inl ed8) (sk_get hk2) ?_
                top_caughtB
                intro T1 nT1
                have ed9 : (upd H8 T1 (.tup [.int (g y2), .str y1])) sd = some (.dK (sk ks g)) := upd_old nT1 ed8
                top_caughtB
                refine r_dg ?_
                top_caughtB
                refine r_dget (.inl ed9) (sk_get hk1) ?_
                top_caughtB
                intro T2 nT2
                have dT1 := dp_term_new (K := K) (H := upd H8 T1 (.tup [.int (g y2), .str y1])) (a := T1) (c := g y2) (x := y1) upd_same
                have dT2 := dp_term_new (K := K) (H := upd (upd H8 T1 (.tup [.int (g y2), .str y1])) T2 (.tup [.int (0 - g y1), .str y2])) (a := T2) (c := 0 - g y1) (x := y2) upd_same
                top_caughtB
                intro bq nbq
                top_caughtB
                have s1 : Same H8 (upd (upd (upd H8 T1 (.tup [.int (g y2), .str y1])) T2 (.tup [.int (0 - g y1), .str y2])) bq (.lst [.ref T1, .ref T2])) := Fb.Same.new (Fb.Same.new (Fb.Same.new (Same.refl _) nT1) nT2) nbq
                have dF9 := dpa_same (tu_of_keep fun a o h _ => s1 a o h) dF8
                have dT19 := dp_same ((tu_new nT2).trans (tu_new (o := .lst [.ref T1, .ref T2]) nbq)) dT1
                have dT29 := dp_same (tu_new (o := .lst [.ref T1, .ref T2]) nbq) dT2
                have kk9 := kk8.trans (Keep.of_same s1)
                have p9 := p8.same s1
                have ef9 := s1 _ _ ef8
                have eD9 := s1 _ _ eD8
                have eb9 : (upd (upd (upd H8 T1 (.tup [.int (g y2), .str y1])) T2 (.tup [.int (0 - g y1), .str y2])) bq (.lst [.ref T1, .ref T2])) bq = some (.lst [.ref T1, .ref T2]) := upd_same
                generalize upd (upd (upd H8 T1 (.tup [.int (g y2), .str y1])) T2 (.tup [.int (0 - g y1), .str y2])) bq (.lst [.ref T1, .ref T2]) = H9 at dF9 dT19 dT29 kk9 p9 ef9 eD9 eb9 ⊢
                refine ⟨fr, bq, xs, [.ref T1, .ref T2], rfl, rfl, ef9, eb9, Nat.le_trans (show xs.length + 2 ≤ 1000 by omega) (by decide), fun rq nrq => ?_⟩
                refine ⟨rq, _, F ++ [(g y2, y1), (0 - g y1, y2)], _, _, _, _, rfl, kk9.free nrq hp.ne p9.ne, (fun z => by
                  rw [z, eD9] at nrq
                  cases nrq), upd_same, ?_, ?_, ?_, ?_, kk9.trans (Keep.new nrq), (p9.less (by omega)).new nrq, upd_old nrq eD9⟩
                · rw [List.map_append]
                  exact dpa_append (dpa_same (tu_new nrq) dF9) (.cons (dp_same (tu_new nrq) dT19) (.cons (dp_same (tu_new nrq) dT29) .nil))
                · rw [List.length_append]
                  show F.length + 2 ≤ _
                  omega
                · intro tm ht
                  rcases List.mem_append.mp ht with ht | ht
                  · exact gF tm ht
                  · rcases List.mem_cons.mp ht with rfl | ht
                    · exact ⟨hg2, hk1⟩
                    · cases List.mem_singleton.mp ht
                      exact ⟨by show (0 - g y1).natAbs ≤ 9; omega, hk2⟩
                · rw [sumG_app, sF]
                  show g x + (g y2 * g y1 + ((0 - g y1) * g y2 + 0)) = g x
                  rw [Int.sub_mul, Int.zero_mul, Int.mul_comm (g y1) (g y2)]
                  omega
              · have fin : ∃ fr' xs F w5 w6 w7 w8, [some (V.ref p), some (.ref sd), some (.str x), some (.ref fr), some (.ref D), some (.int (0 + (i : Int))), some (.ref oq), some (.str y1), some (.str y2), none, none] = [some (V.ref p), some (.ref sd), some (.str x), some (.ref fr'), some (.ref D), w5, w6, w7, w8, none, none] ∧ H fr' = none ∧ fr' ≠ D ∧ H8 fr' = some (.lst xs) ∧ DpAll K (tu H8) xs (F.map dTerm) ∧ F.length ≤ 1 + 2 * (i + 1) ∧ (∀ t ∈ F, t.1.natAbs ≤ 9 ∧ t.2 ∈ ks) ∧ sumG g F = g x ∧ Keep p H H8 ∧ PoolAt H8 p (f + 6 * (2 - (i + 1))) ∧ H8 D = some (.lst (ns.map V.str)) :=
                  ⟨fr, xs, F, _, _, _, _, rfl, nfr, nfD, ef8, dF8, by omega, gF, sF, kk8, p8.less (by omega), eD8⟩
                exact fin
        · rintro σ H4 ⟨fr, xs, F, w5, w6, w7, w8, rfl, nfr, nfD, efr, dF, lF, gF, sF, k4, p4, eD4⟩
          have lx := dpa_len dF
          rw [List.length_map] at lx
          top_caughtB
          refine ⟨.ref fr, rfl, fr, rfl, ⟨xs, sq_of efr⟩, fun E nE => ?_⟩
          have nEp := p4.away nE
          have nEf : fr ≠ E := ne_of_none efr nE
          refine lc_list (K := K) (a := fr) (xs := xs) (σ := [some (.ref p), some (.ref sd), some (.str x), some (.ref fr), some (.ref D), w5, w6, w7, w8, none, none]) (vs := [10]) (fun i H' => ∃ acc, H' = upd H4 E (.lst acc) ∧ acc.length ≤ i ∧ DpAll K (tu H4) acc (((F.take i).filter fun t => !decide (t.1 = 0)).map dTerm))
            ⟨[], rfl, Nat.le_refl _, .nil⟩ ?_ ?_ ?_
          · rintro i H5 hi ⟨acc, rfl, _⟩
            exact sq_of (upd_oth nEf efr)
          · rintro i v H5 hi ⟨acc, rfl, hl, da⟩
            have hil := (List.getElem?_eq_some_iff.mp hi).1
            obtain ⟨tm, htm, dtm⟩ := dpa_at dF hi
            obtain ⟨a, rfl, hST⟩ := dp_term dtm
            have hST2 := sqt_same (tu_le.trans (Fb.Same.new (o := .lst acc) (Same.refl _) nE)) hST
            have etk : F.take (i + 1) = F.take i ++ [tm] := by rw [List.take_succ, htm]; rfl
            rw [etk, List.filter_append, List.map_append]
            top_caughtB
            refine ⟨rfl, ?_⟩
            top_caughtB
            refine ite2 (fun h => ?_) (fun h => ?_)
            · have hne : tm.1 ≠ 0 := fun z => by
                rw [z] at h
                exact absurd h (by decide)
              top_caughtB
              refine ⟨acc, upd_same, Nat.lt_of_le_of_lt (show acc.length ≤ 1000 by omega) (by decide), acc ++ [.ref a], upd_upd, by rw [List.length_append]; exact Nat.succ_le_succ hl, ?_⟩
              rw [List.filter_cons_of_pos (by simp [hne])]
              exact dpa_append da (.cons dtm .nil)
            · have he : tm.1 = 0 := by
                by_cases z : tm.1 = 0
                · exact z
                · exact absurd (by simp [z]) h
              refine ⟨acc, rfl, by omega, ?_⟩
              rw [List.filter_cons_of_neg (by simp [he])]
              simpa using da
          · rintro H5 ⟨acc, rfl, hl, da⟩
            rw [List.take_of_length_le (by omega)] at da
            refine q _ E (F.filter fun t => !decide (t.1 = 0)) ?_ ?_ ?_ ?_ (k4.trans (Keep.new nE)) ((p4.less (by omega)).new nE)
            · exact Nat.le_trans (List.length_filter_le ..) (by omega)
            · intro tm ht
              exact gF tm (List.mem_filter.mp ht).1
            · exact sumG_filter.trans sF
            · refine .lst (sq_of ?_) (dpa_same ((tu_new (o := .lst acc) nE).trans ?_) da)
              · rw [nw_new (hid_none (k4.free nE hp.ne p4.ne))]
                exact hid_at upd_same nEp
              · exact tu_nw (xs := _) (pool_lst ((p4.new nE))).choose_spec (k4.trans (Keep.new nE))


def sp_f_law_kind (K : PySem.W.Frag) (_ : Ad) : Sp := fun vs H Q _ => ∃ (p : Addr) (f m : Nat), vs = [.ref p, .int (m : Int)] ∧ PoolAt H p (f + 500) ∧ 0 < m ∧ m ≤ 6 ∧
  ∀ H' r b L, Drawn b m L → Dp K (nw (hid p H) (hid p H')) (.ref r) (dKind b L) → Keep p H H' → PoolAt H' p f → Q (.ref r) H'
theorem take_succ_of {α : Type} {l : List α} {i : Nat} {x : α} (h : l[i]? = some x) : l.take i ++ [x] = l.take (i + 1) := by
  rw [List.take_succ, h]
  rfl
theorem not_take {α : Type} {l : List α} (nd : l.Nodup) {i : Nat} {x : α} (h : l[i]? = some x) : x ∉ l.take i := fun hm => by
  have h2 : (l.take i ++ [x]).Nodup := by
    rw [take_succ_of h]
    exact (List.take_sublist _ _).nodup nd
  rw [List.nodup_append] at h2
  exact h2.2.2 x hm x (List.mem_singleton.mpr rfl) rfl
theorem r_dput {td ty tv : TE} {D : Ends} {σ : L2.St} {H : Hp} (q : tv σ H fun v H1 => td σ H1 fun x H2 => ty σ H2 fun y H3 => ∃ a H4, x = .ref a ∧ DPut H3 a y v H4 ∧ D.nx σ H4) : sDPut td ty tv D σ H := q
theorem cut_letters {d : Int} (h0 : 0 ≤ d) (h1 : d < 6) : cutV (lettersL.map V.str) none (some (1 + d)) = (lettersL.take (1 + d.toNat)).map V.str := by
  have : d = 0 ∨ d = 1 ∨ d = 2 ∨ d = 3 ∨ d = 4 ∨ d = 5 := by omega
  rcases this with rfl | rfl | rfl | rfl | rfl | rfl <;> rfl
theorem ok_f_law_kind {P : Program} {w : World} {K : PySem.W.Frag} {mg : Str → Option Value} {base : Heap} {t : Ad} (T : Txt K mg t) : FnOk P w K mg base CX0 4 t.a_f_law_kind t.d_f_law_kind ["pool", "many"] (sp_f_law_kind K t) := by
  refine T.F_f_law_kind.ok sc_f_law_kind (fun vs H Q E h => ?_) (fun cdv A outer s H vs Q E hr h => ?_)
  · obtain ⟨p, f, m, rfl, _⟩ := h
    rfl
  · obtain ⟨p, f, m, rfl, hp, hm0, hm6, q⟩ := h
    refine ⟨_, (pss_cons (ps_par (i := 2) (j := 3) (by rfl) sc_f_law_kind.nd rfl rfl (by decide) rfl rfl (pa_cons (pe_ix ix_list (pe_lst (pa_cons pe_int (pa_cons pe_int (pa_cons pe_int (pa_cons pe_int pa_nil))))) (pe_call (ok_f_law_draw T) (hr.mono (by decide)) (by rfl) T.g_f_law_draw T.F_f_law_draw.kp T.b_f_law_draw .nil pass0 (pa_cons (pv 0) (pa_cons pe_int pa_nil))) (fun _ _ => rfl)) (pa_cons (pe_slice sl_list (pe_lst (pa_cons pe_str (pa_cons pe_str (pa_cons pe_str (pa_cons pe_str (pa_cons pe_str (pa_cons pe_str pa_nil))))))) po_none (po_some (pe_op op_add pe_int (pe_call (ok_f_law_draw T) (hr.mono (by decide)) (by rfl) T.g_f_law_draw T.F_f_law_draw.kp T.b_f_law_draw .nil pass0 (pa_cons (pv 0) (pa_cons (pv 1) pa_nil)))))) pa_nil)) (by rfl))
      (pss_cons (ps_par (i := 4) (j := 5) (by rfl) sc_f_law_kind.nd rfl rfl (by decide) rfl rfl (pa_cons pe_dnewK (pa_cons (pe_lst pa_nil) pa_nil)) (by rfl))
      (pss_cons (ps_for PassesOwn.never rfl (pi_list (pv 3)) (pg_name (i := 6) sc_f_law_kind.nd rfl (Or.inl rfl)) (pss_one (ps_dput (hu_of hr) (pv 4) (pv 6) (pe_ix ix_list (pe_lst (pa_cons pe_int (pa_cons pe_int (pa_cons pe_int (pa_cons (pe_op op_sub (pe_call (ok_f_law_draw T) (hr.mono (by decide)) (by rfl) T.g_f_law_draw T.F_f_law_draw.kp T.b_f_law_draw .nil pass0 (pa_cons (pv 0) (pa_cons pe_int pa_nil))) pe_int) pa_nil))))) (pe_call (ok_f_law_draw T) (hr.mono (by decide)) (by rfl) T.g_f_law_draw T.F_f_law_draw.kp T.b_f_law_draw .nil pass0 (pa_cons (pv 0) (pa_cons pe_int pa_nil))) (fun _ _ => rfl)) rfl)))
      (pss_cons (ps_for PassesOwn.never rfl (pi_list (pv 3)) (pg_name (i := 6) sc_f_law_kind.nd rfl (Or.inl rfl)) (pss_cons (ps_set (i := 7) sc_f_law_kind.nd rfl (Or.inl rfl) (pe_lst (pa_cons (pe_call (ok_f_law_first T) (hr.mono (by decide)) (by rfl) T.g_f_law_first T.F_f_law_first.kp T.b_f_law_first .nil pass0 (pa_cons (pv 0) (pa_cons (pv 4) (pa_cons (pv 6) pa_nil)))) pa_nil)))
      (pss_cons (ps_for PassesOwn.never rfl (pi_range2 (by rfl) T.m_range (pa_cons pe_int (pa_cons (pv 2) pa_nil))) (pg_name (i := 8) sc_f_law_kind.nd rfl (Or.inl rfl)) (pss_one (ps_expr (pe_bm PySem.F.plainAttrs_list PySem.F.slot_list_append PySem.F.type_list_append mt_append (pv 7) (pa_cons (pe_call (ok_f_law_terms T) (hr.mono (by decide)) (by rfl) T.g_f_law_terms T.F_f_law_terms.kp T.b_f_law_terms .nil pass0 (pa_cons (pv 0) (pa_cons (pv 3) (pa_cons pe_int pa_nil)))) pa_nil)))))
      (pss_one (ps_expr (pe_bm PySem.F.plainAttrs_list PySem.F.slot_list_insert PySem.F.type_list_insert mt_insert (pv 5) (pa_cons (pe_call (ok_f_law_draw T) (hr.mono (by decide)) (by rfl) T.g_f_law_draw T.F_f_law_draw.kp T.b_f_law_draw .nil pass0 (pa_cons (pv 0) (pa_cons (pe_op op_add (pe_callB call_len_seq (by rfl) T.m_len (by decide +kernel) (pa_cons (pv 5) pa_nil)) pe_int) pa_nil))) (pa_cons (pe_tup (pa_cons (pv 6) (pa_cons (pe_dget (hu_of hr) (pv 4) (pv 6) (fun _ _ => rfl)) (pa_cons (pv 7) pa_nil)))) pa_nil))))))))
      (pss_one (ps_ret (pe_tup (pa_cons (pv 2) (pa_cons (pv 5) pa_nil))))))))), ?_⟩
    rw [show L2.start N_f_law_kind [V.ref p, V.int (m : Int)] = [some (V.ref p), some (V.int (m : Int)), none, none, none, none, none, none, none] from rfl]; try dsimp only [cxOf]
    top_caughtB
    intro q1 nq1
    have nq1p := hp.away nq1
    top_caughtB
    refine c_drawK (f + 499) (hp.new nq1) (by decide) (by decide) fun d1 H1 h10 h11 k1 p1 => ?_
    have e1 := k1.at (upd_same (H := H)) nq1p
    have kk1 : Keep p H H1 := (Keep.new nq1).trans k1
    obtain ⟨b, eb, hb⟩ : ∃ b : Nat, atI [V.int 2, V.int 2, V.int 3, V.int 4] d1 = some (.int (b : Int)) ∧ (b = 2 ∨ b = 3 ∨ b = 4) := by
      have : d1 = 0 ∨ d1 = 1 ∨ d1 = 2 ∨ d1 = 3 := by omega
      rcases this with rfl | rfl | rfl | rfl
      · exact ⟨2, rfl, .inl rfl⟩
      · exact ⟨2, rfl, .inl rfl⟩
      · exact ⟨3, rfl, .inr (.inl rfl)⟩
      · exact ⟨4, rfl, .inr (.inr rfl)⟩
    refine r_ixL (sq_of e1) eb ?_
    top_caughtB
    intro l0 nl0
    have nl0p := p1.away nl0
    top_caughtB
    refine c_drawK (f + 498) (p1.new nl0) (by omega) (by omega) fun d2 H2 h20 h21 k2 p2 => ?_
    have e2 : H2 l0 = some (.lst (lettersL.map V.str)) := k2.at (upd_same (H := H1)) nl0p
    have kk2 : Keep p H H2 := (kk1.trans (Keep.new nl0)).trans k2
    top_caughtB
    refine ⟨l0, _, rfl, sq_of e2, fun lq nlq => ?_⟩
    rw [cut_letters h20 (by omega)]
    top_caughtB
    intro sd nsd
    top_caughtB
    intro ln nln
    top_caughtB
    have hn6 : 1 + d2.toNat ≤ 6 := by omega
    have hnm : 1 + d2.toNat ≤ m := by omega
    have hn0 : 0 < 1 + d2.toNat := by omega
    generalize 1 + d2.toNat = n0 at hn6 hnm hn0 nsd nln ⊢
    have hkl : (lettersL.take n0).length = n0 := by rw [List.length_take]; exact Nat.min_eq_left hn6
    have hknd : (lettersL.take n0).Nodup := (List.take_sublist n0 lettersL).nodup (by decide +kernel)
    have hkin : ∀ y ∈ lettersL.take n0, y ∈ lettersL := fun y h => List.mem_of_mem_take h
    have s25 : Same H2 (upd (upd (upd H2 lq (.lst ((lettersL.take n0).map V.str))) sd (.dK [])) ln (.lst [])) := Fb.Same.new (Fb.Same.new (Fb.Same.new (Same.refl _) nlq) nsd) nln
    have nqp : lq ≠ p := p2.away nlq
    have nsp : sd ≠ p := (p2.new nlq).away nsd
    have nlp : ln ≠ p := ((p2.new nlq).new nsd).away nln
    have nls : ln ≠ sd := fun y => by rw [y, upd_same] at nln; cases nln
    have nlql : lq ≠ ln := fun y => by rw [← y, upd_old nsd upd_same] at nln; cases nln
    have nlqs : lq ≠ sd := fun y => by rw [← y, upd_same] at nsd; cases nsd
    have kk5 := kk2.trans (Keep.of_same s25)
    have p5 := p2.same s25
    have eq5 : (upd (upd (upd H2 lq (.lst ((lettersL.take n0).map V.str))) sd (.dK [])) ln (.lst [])) lq = some (.lst ((lettersL.take n0).map V.str)) := upd_old nln (upd_old nsd upd_same)
    have es5 : (upd (upd (upd H2 lq (.lst ((lettersL.take n0).map V.str))) sd (.dK [])) ln (.lst [])) sd = some (.dK []) := upd_old nln upd_same
    have el5 : (upd (upd (upd H2 lq (.lst ((lettersL.take n0).map V.str))) sd (.dK [])) ln (.lst [])) ln = some (.lst []) := upd_same
    have nsdH : H sd = none := (kk2.trans (Keep.new nlq)).free nsd hp.ne (p2.new nlq).ne
    have nlnH : H ln = none := ((kk2.trans (Keep.new nlq)).trans (Keep.new nsd)).free nln hp.ne ((p2.new nlq).new nsd).ne
    generalize upd (upd (upd H2 lq (.lst ((lettersL.take n0).map V.str))) sd (.dK [])) ln (.lst []) = H5 at s25 kk5 p5 eq5 es5 el5 ⊢
    clear s25 nln nsd nlq kk2 kk1 e1 e2 k1 k2 p1 p2 eb
    refine ⟨.ref lq, rfl, lq, rfl, ⟨_, sq_of eq5⟩, for_list (K := K) (a := lq) (xs := (lettersL.take n0).map V.str) (fun i σ H' => ∃ (g : Str → Int) (w : Option V), σ = [some (.ref p), some (.int (m : Int)), some (.int (b : Int)), some (.ref lq), some (.ref sd), some (.ref ln), w, none, none] ∧ (∀ y, (g y).natAbs ≤ 9) ∧ H' sd = some (.dK (sk ((lettersL.take n0).take i) g)) ∧ H' lq = some (.lst ((lettersL.take n0).map V.str)) ∧ H' ln = some (.lst []) ∧ Keep p H H' ∧ PoolAt H' p (f + 486 + 2 * (6 - i)))
      ⟨fun _ => 0, none, rfl, (fun _ => (by decide : (0 : Int).natAbs ≤ 9)), es5, eq5, el5, kk5, p5⟩ (fun i σ H' _ ⟨_, _, _, _, _, e, _⟩ => sq_of e) ?_ ?_⟩
    · rintro i v σ H6 hi ⟨g, w, rfl, hg, es6, eq6, el6, k6, p6⟩
      rw [List.getElem?_map] at hi
      cases hx : (lettersL.take n0)[i]? with
      | none => rw [hx] at hi; cases hi
      | some x =>
        rw [hx] at hi
        cases hi
        have hi6 : i < n0 := by
          have := (List.getElem?_eq_some_iff.mp hx).1
          omega
        have ep : f + 486 + 2 * (6 - i) = f + 486 + 2 * (6 - (i + 1)) + 1 + 1 := by omega
        rw [ep] at p6
        refine r_gname ?_
        refine r_dput ?_
        top_caughtB
        refine c_drawK _ p6 (by decide) (by decide) fun d3 H7 h30 h31 k7 p7 => ?_
        top_caughtB
        intro t1 nt1
        have nt1p := p7.away nt1
        top_caughtB
        refine c_drawK _ (p7.new nt1) (by decide) (by decide) fun d4 H8 h40 h41 k8 p8 => ?_
        have et8 := k8.at (upd_same (H := H7)) nt1p
        have k68 : Keep p H6 H8 := (k7.trans (Keep.new nt1)).trans k8
        obtain ⟨z, ez, hz⟩ : ∃ z : Int, atI [V.int 0, V.int 1, V.int 1, V.int (d3 - 9)] d4 = some (.int z) ∧ z.natAbs ≤ 9 := by
          have : d4 = 0 ∨ d4 = 1 ∨ d4 = 2 ∨ d4 = 3 := by omega
          rcases this with rfl | rfl | rfl | rfl
          · exact ⟨0, rfl, by decide⟩
          · exact ⟨1, rfl, by decide⟩
          · exact ⟨1, rfl, by decide⟩
          · exact ⟨_, rfl, by omega⟩
        refine r_ixL (sq_of et8) ez ?_
        top_caughtB
        have es8 := k68.at es6 nsp
        have eq8 := k68.at eq6 nqp
        have el8 := k68.at el6 nlp
        have hnot : x ∉ (lettersL.take n0).take i := not_take hknd hx
        refine ⟨sd, _, rfl, .k (k := Sum.inr x) es8 (by rw [sk_len, List.length_take, hkl]; exact Nat.lt_of_le_of_lt (show min i n0 ≤ 1000 by omega) (by decide)), ?_⟩
        rw [sk_put hnot, take_succ_of hx]
        refine ⟨_, _, rfl, fun y => ?_, upd_same, upd_oth nlqs eq8, upd_oth nls el8, (k6.trans k68).mut nsdH, p8.oth (Ne.symm nsp)⟩
        show (if y = x then z else g y).natAbs ≤ 9
        split
        · exact hz
        · exact hg y
    · rintro σ H6 ⟨g, w, rfl, hg, es6, eq6, el6, k6, p6⟩
      rw [List.length_map, hkl] at p6
      rw [List.take_of_length_le (by rw [List.length_map]; exact Nat.le_refl _)] at es6
      obtain ⟨pl6, epl6⟩ := pool_lst p6
      have hx64 : ∀ i, (f + 63 * (n0 - (i + 1))) ≤ f + 63 * (n0 - i) := fun i => by omega
      top_caughtB
      refine ⟨.ref lq, rfl, lq, rfl, ⟨_, sq_of eq6⟩, for_list (K := K) (a := lq) (xs := (lettersL.take n0).map V.str) (fun i σ H' => ∃ (L : List Line) (xs : List V) (w6 w7 w8 : Option V), σ = [some (.ref p), some (.int (m : Int)), some (.int (b : Int)), some (.ref lq), some (.ref sd), some (.ref ln), w6, w7, w8] ∧ H' sd = some (.dK (sk (lettersL.take n0) g)) ∧ H' lq = some (.lst ((lettersL.take n0).map V.str)) ∧ H' ln = some (.lst xs) ∧ DpAll K (nw H6 H') xs (L.map dLine) ∧ (names L).Perm ((lettersL.take n0).take i) ∧ (∀ l ∈ L, LineOk b (lettersL.take n0) g l) ∧ Keep p H H' ∧ Shp p H6 H' ∧ PoolAt H' p (f + 63 * (n0 - i)))
        ⟨[], [], w, none, none, rfl, es6, eq6, el6, .nil, .refl _, (fun l h => by cases h), k6, .refl, p6.less (by omega)⟩ (fun i σ H' _ ⟨_, _, _, _, _, _, _, e, _⟩ => sq_of e) ?_ ?_⟩
      · rintro i v σ H7 hi ⟨L, xs, w6, w7, w8, rfl, es7, eq7, el7, dL, hperm, hL, k7, sh7, p7⟩
        rw [List.getElem?_map] at hi
        cases hx : (lettersL.take n0)[i]? with
        | none => rw [hx] at hi; cases hi
        | some x =>
          rw [hx] at hi
          cases hi
          have hi6 : i < n0 := by
            have := (List.getElem?_eq_some_iff.mp hx).1
            omega
          have hxm := List.mem_of_getElem? hx
          have ep : f + 63 * (n0 - i) = f + 63 * (n0 - (i + 1)) + 49 + 14 := by omega
          rw [ep] at p7
          refine r_gname ?_
          top_caughtB
          refine ⟨p, sd, _, lettersL.take n0, g, x, rfl, p7, es7, by omega, by omega, hxm, fun y hy => ⟨hg y, (letters_ok y (hkin y hy)).2.2⟩, fun H8 r F hF5 hFt hFs dF k8 p8 => ?_⟩
          have es8 := k8.at es7 nsp
          have eq8 := k8.at eq7 nqp
          have el8 := k8.at el7 nlp
          obtain ⟨pl7, epl7⟩ := pool_lst p7
          have dF8 := dp_same (nw_up (Hy := H8) sh7) dF
          have dL8 := dpa_same (nw_stepK epl6 k8) dL
          have sh8 := sh7.keep k8
          have k8' := k7.trans k8
          top_caughtB
          intro fq nfq
          have nfp := p8.away nfq
          have nf6 : H6 fq = none := sh8.none nfq nfp
          have nfH : H fq = none := k8'.free nfq hp.ne p8.ne
          have nfs : fq ≠ sd := Ne.symm (ne_of_none es8 nfq)
          have nfl : fq ≠ ln := Ne.symm (ne_of_none el8 nfq)
          have nfq' : fq ≠ lq := Ne.symm (ne_of_none eq8 nfq)
          refine r_gname ?_
          refine r_seq ?_
          refine r_for2 ?_
          top_caughtB
          refine ⟨⟨by decide, by decide, by omega, by omega⟩, ?_⟩
          refine for_range (D := ⟨_, _, fun _ _ => False, fun _ _ => False⟩) (lo := 1) (n := ((b : Int) - 1).toNat) (fun j σ H' => ∃ (Fs : List (List Term)) (ys : List V) (w8 : Option V), σ = [some (.ref p), some (.int (m : Int)), some (.int (b : Int)), some (.ref lq), some (.ref sd), some (.ref ln), some (.str x), some (.ref fq), w8] ∧ H' sd = some (.dK (sk (lettersL.take n0) g)) ∧ H' lq = some (.lst ((lettersL.take n0).map V.str)) ∧ H' ln = some (.lst xs) ∧ H' fq = some (.lst ys) ∧ DpAll K (hid fq (nw H6 H')) xs (L.map dLine) ∧ DpAll K (hid fq (nw H6 H')) ys (Fs.map dForm) ∧ Fs.length = 1 + j ∧ Fs[0]? = some F ∧ (∀ F ∈ Fs, F.length ≤ 5 ∧ ∀ t ∈ F, t.1.natAbs ≤ 9 ∧ t.2 ∈ lettersL.take n0) ∧ Keep p H H' ∧ Shp p H6 H' ∧ PoolAt H' p (f + 63 * (n0 - (i + 1)) + 1 + 16 * (3 - j)))
            ⟨[F], [.ref r], w8, rfl, upd_old nfq es8, upd_old nfq eq8, upd_old nfq el8, upd_same, dpa_same (hid_nw_new nfq) dL8, .cons (dp_same (hid_nw_new nfq) dF8) .nil, rfl, rfl, (fun F' h => by
              cases List.mem_singleton.mp h
              exact ⟨hF5, hFt⟩), k8'.trans (Keep.new nfq), sh8.new nfq, (p8.less (by omega)).new nfq⟩ ?_ ?_
          · rintro j σ H9 hj ⟨Fs, ys, w8, rfl, es9, eq9, el9, ef9, dL9, dFs9, hFl, hF0, hFok, k9, sh9, p9⟩
            have hj2 : j ≤ 2 := by omega
            have ep : f + 63 * (n0 - (i + 1)) + 1 + 16 * (3 - j) = (f + 63 * (n0 - (i + 1)) + 1 + 16 * (3 - (j + 1))) + 1 + 5 * 3 := by omega
            rw [ep] at p9
            have hyl := dpa_len dFs9
            rw [List.length_map, hFl] at hyl
            top_caughtB
            refine ⟨p, lq, _, lettersL.take n0, 3, rfl, p9, by decide, nqp, eq9, by omega, by omega, fun H10 r2 F2 hF3 hFt2 dF2 k10 p10 => ?_⟩
            have ef10 := k10.at ef9 nfp
            top_caughtB
            refine r_app0 ⟨ys, ef10, Nat.lt_of_le_of_lt (show ys.length ≤ 1000 by omega) (by decide), ?_⟩
            refine ⟨Fs ++ [F2], _, _, rfl, upd_oth (Ne.symm nfs) (k10.at es9 nsp), upd_oth (Ne.symm nfq') (k10.at eq9 nqp), upd_oth (Ne.symm nfl) (k10.at el9 nlp), upd_same, ?_, ?_, ?_, ?_, ?_, (k9.trans k10).mut nfH, (sh9.keep k10).put ef10 rfl, p10.oth (Ne.symm nfp)⟩
            · exact dpa_same ((hid_same (nw_stepK epl6 k10)).trans hid_nw_upd) dL9
            · rw [List.map_append]
              exact dpa_append (dpa_same ((hid_same (nw_stepK epl6 k10)).trans hid_nw_upd) dFs9) (.cons (dp_same ((nw_up_hid sh9 ef9 nfp).trans hid_nw_upd) dF2) .nil)
            · rw [List.length_append, hFl]
              rfl
            · rw [List.getElem?_append_left (by omega)]
              exact hF0
            · intro F' h
              rcases List.mem_append.mp h with h | h
              · exact hFok F' h
              · cases List.mem_singleton.mp h
                exact ⟨Nat.le_trans hF3 (by decide), hFt2⟩
          · rintro σ H9 ⟨Fs, ys, w8, rfl, es9, eq9, el9, ef9, dL9, dFs9, hFl, hF0, hFok, k9, sh9, p9⟩
            have hLi : L.length = i := by
              have h1 := hperm.length_eq
              rw [List.length_take, hkl] at h1
              unfold names at h1
              rw [List.length_map] at h1
              omega
            have hxl := dpa_len dL9
            rw [List.length_map, hLi] at hxl
            top_caughtB
            refine ⟨_, rfl, .inl ⟨rfl, _, .inl (.inl el9)⟩, ?_⟩
            top_caughtB
            refine c_drawK (f + 63 * (n0 - (i + 1))) (p9.less (g := f + 63 * (n0 - (i + 1)) + 1) (by omega)) (by omega) (by omega) fun d5 H10 h50 h51 k10 p10 => ?_
            have es10 := k10.at es9 nsp
            have el10 := k10.at el9 nlp
            have ef10 := k10.at ef9 nfp
            top_caughtB
            refine r_dg ?_
            top_caughtB
            refine r_dget (.inl es10) (sk_get hxm) ?_
            top_caughtB
            intro T nT
            have nTf : fq ≠ T := ne_of_none ef10 nT
            have nTl : ln ≠ T := ne_of_none el10 nT
            have nTp := p10.away nT
            have sh10 := sh9.keep k10
            have nT6 : H6 T = none := sh10.none nT nTp
            have el11 : (upd H10 T (.tup [.str x, .int (g x), .ref fq])) ln = some (.lst xs) := upd_old nT el10
            have ef11 : (upd H10 T (.tup [.str x, .int (g x), .ref fq])) fq = some (.lst ys) := upd_old nT ef10
            have dL11 := dpa_same ((hid_same (nw_stepK epl6 k10)).trans ((hid_nw_new (v := .tup [.str x, .int (g x), .ref fq]) nT |> fun z => (hid_le.trans (z.trans hid_le)) : Same (hid fq (nw H6 H10)) (nw H6 (upd H10 T (.tup [.str x, .int (g x), .ref fq])))))) dL9
            have dF11 := dpa_same ((hid_same (nw_stepK epl6 k10)).trans ((hid_nw_new (v := .tup [.str x, .int (g x), .ref fq]) nT |> fun z => (hid_le.trans (z.trans hid_le)) : Same (hid fq (nw H6 H10)) (nw H6 (upd H10 T (.tup [.str x, .int (g x), .ref fq])))))) dFs9
            have dT : Dp K (nw H6 (upd H10 T (.tup [.str x, .int (g x), .ref fq]))) (.ref T) (dLine (x, g x, Fs)) :=
              .tup (st_of (nw_at upd_same nT6)) (.cons (.str x) (.cons (.int (g x)) (.cons (.lst (sq_of (nw_at ef11 nf6)) dF11) .nil)))
            top_caughtB
            refine ⟨ln, xs, d5, .ref T, rfl, rfl, el11, Nat.lt_of_le_of_lt (show xs.length ≤ 1000 by omega) (by decide), h50, by omega, ?_⟩
            have sM : Same (nw H6 (upd H10 T (.tup [.str x, .int (g x), .ref fq]))) (nw H6 (upd (upd H10 T (.tup [.str x, .int (g x), .ref fq])) ln (.lst (xs.take d5.toNat ++ [.ref T] ++ xs.drop d5.toNat)))) := nw_stepM el6
            refine ⟨L.take d5.toNat ++ [(x, g x, Fs)] ++ L.drop d5.toNat, _, _, _, _, rfl, upd_oth (Ne.symm nls) (upd_old nT es10), upd_oth nlql (upd_old nT (k10.at eq9 nqp)), upd_same, ?_, ?_, ?_, ((k9.trans k10).trans (Keep.new nT)).mut nlnH, (sh10.new nT).put el11 rfl, (p10.new nT).oth (Ne.symm nlp)⟩
            · rw [List.map_append, List.map_append, List.map_take, List.map_drop]
              exact dpa_append (dpa_append (dpa_take _ (dpa_same sM dL11)) (.cons (dp_same sM dT) .nil)) (dpa_drop _ (dpa_same sM dL11))
            · have h1 : names (L.take d5.toNat ++ [(x, g x, Fs)] ++ L.drop d5.toNat) = (names L).take d5.toNat ++ [x] ++ (names L).drop d5.toNat := by
                unfold names
                rw [List.map_append, List.map_append, List.map_take, List.map_drop]
                rfl
              rw [h1, ← take_succ_of hx]
              have h2 : ((names L).take d5.toNat ++ [x] ++ (names L).drop d5.toNat).Perm ((names L).take d5.toNat ++ (names L).drop d5.toNat ++ [x]) := by
                rw [List.append_assoc, List.append_assoc]
                exact List.Perm.append_left _ List.perm_append_comm
              rw [List.take_append_drop] at h2
              exact h2.trans (hperm.append_right _)
            · intro l h
              have hl2 : l ∈ L ∨ l = (x, g x, Fs) := by
                rcases List.mem_append.mp h with h | h
                · rcases List.mem_append.mp h with h | h
                  · exact .inl (List.mem_of_mem_take h)
                  · exact .inr (List.mem_singleton.mp h)
                · exact .inl (List.mem_of_mem_drop h)
              rcases hl2 with h | rfl
              · exact hL l h
              · refine ⟨rfl, ?_, fun F' h => (hFok F' h).1, fun F' h => (hFok F' h).2, fun F' h => ?_⟩
                · show Fs.length = b
                  omega
                · have : F = F' := Option.some.inj (hF0.symm.trans h)
                  subst this
                  exact hFs
      · rintro σ H7 ⟨L, xs, w6, w7, w8, rfl, es7, eq7, el7, dL, hperm, hL, k7, sh7, p7⟩
        rw [List.length_map, hkl, Nat.sub_self, Nat.mul_zero] at p7
        rw [List.length_map, hkl, List.take_take, Nat.min_self] at hperm
        top_caughtB
        intro T nT
        have nT6 : H6 T = none := sh7.none nT (p7.away nT)
        refine q _ T b L (drawn_of hb hn0 hnm hm6 hperm hL fun y _ => hg y) ?_ (k7.trans (Keep.new nT)) (p7.new nT)
        have nTp := p7.away nT
        have nTH : H T = none := k7.free nT hp.ne p7.ne
        refine .tup (st_of (nw_at (hid_at upd_same nTp) (hid_none nTH))) (.cons (.int _) (.cons (.lst (sq_of (nw_at (hid_at (upd_old nT el7) nlp) (hid_none nlnH))) (dpa_same ?_ dL)) .nil))
        exact (nw_mono (Fb.Same.new (Same.refl _) nT)).trans (nw_fin k6 epl6)




abbrev suiteC (K : PySem.W.Frag) (t : Ad) : Addr → Value → Option Addr → TS := (fun a cls d => tSeq (tAsg (tOrV (tCB (rIsOT K a cls d) (tCons (tVar 3) (tCons (tTup (tCons (tC (.ref t.C_InvalidBase)) (tCons (tC (.ref t.C_InvalidFormula)) (tCons (tC (.ref t.C_InvalidNumber)) (tCons (tC (.ref t.C_Unsound)) tNil))))) tNil))) (tNotV (tCB (rIsO K a cls d) (tCons (tVar 3) (tCons (tC (.ref t.C_InvalidName)) tNil))))) (gName 4)) (tRet (tLst (tCons (tIf (tB (tVar 4)) (tC (.str "odd")) (tByLow t.C_InvalidName a cls d (tVar 3))) tNil))))
def dueS (n : Str) (L : List Line) : List V := if n ∈ names L then [] else [.str n]
def sp_f_law_caught (K : PySem.W.Frag) (t : Ad) : Sp := fun vs H Q _ => ∃ (w : Int) (x : Addr) (n : Str) (b : Int) (L : List Line), vs = [.ref x, .str n, .int w] ∧ BookC (t.C_Book, t.C_System) K H x b L ∧ Sound b L ∧ ∀ H' r, H r = none → Same H H' → H' r = some (.lst (dueS n L)) → Q (.ref r) H'
theorem ok_f_law_caught {P : Program} {w : World} {K : PySem.W.Frag} {mg : Str → Option Value} {base : Heap} {t : Ad} (T : Txt K mg t) : FnOk P w K mg base CX0 5 t.a_f_law_caught t.d_f_law_caught ["made", "letter", "which"] (sp_f_law_caught K t) := by
  refine T.F_f_law_caught.ok sc_f_law_caught (fun vs H Q E h => ?_) (fun cdv A outer s H vs Q E hr h => ?_)
  · obtain ⟨w, x, n, b, L, rfl, _⟩ := h
    rfl
  · obtain ⟨w, x, n, b, L, rfl, B, S, q⟩ := h
    refine ⟨_, (pss_cons (ps_try_as (i := 3) (tb := fun W => (tIfS (tTest (tOp rEq (tVar 2) (tC (.int 0)))) (tDrop (tMethW t.C_Book "start_of" (sp_f_Book_start_of K t) (WE W) (tVar 0) (tCons (tVar 1) tNil))) (tDrop (tMethKW t.C_Book "formulas_of" (sp_f_Book_formulas_of K t) 1 (fun vs zs => vs ++ zs) (WE W) (tVar 0) (tCons (tVar 1) tNil))))) (ts := suiteC K t) (Wout := fun _ _ _ _ => False) rfl rfl sc_f_law_caught.nd rfl rfl ⟨rfl, by decide, Or.inl T.g_BookError⟩ takes0 (fun W pn xe tk _ => (pss_one (ps_if (pt_cmpR op_eq (pv 2) pe_int (nomark _)) (pss_one (ps_expr (pe_methW (pv 0) T.c_Book T.t_f_Book_start_of (ok_f_Book_start_of T) (hr.mono (by decide)) T.b_f_Book_start_of (fun σ => passAt tk σ) (pa_cons (pv 1) pa_nil)))) (pss_one (ps_expr (pe_methKW (pv 0) T.c_Book T.t_f_Book_formulas_of (ok_f_Book_formulas_of T) (hr.mono (by decide)) T.kb_f_Book_formulas_of (fun σ => passAt tk σ) (pk_cons (pv 1) pk_nil))))))) (fun a oe cls d pn hz hf => (pss_cons (ps_set (i := 4) sc_f_law_caught.nd rfl (Or.inl rfl) (pe_or (pe_callB (call_isOT hz hf) (by rfl) T.m_isinstance (by decide +kernel) (pa_cons (pv 3) (pa_cons (pe_tup (pa_cons (pe_glob (v := .ref t.C_InvalidBase) (by rfl) T.g_InvalidBase rfl) (pa_cons (pe_glob (v := .ref t.C_InvalidFormula) (by rfl) T.g_InvalidFormula rfl) (pa_cons (pe_glob (v := .ref t.C_InvalidNumber) (by rfl) T.g_InvalidNumber rfl) (pa_cons (pe_glob (v := .ref t.C_Unsound) (by rfl) T.g_Unsound rfl) pa_nil))))) pa_nil))) (pe_one (pe_not (pe_callB (call_isO hz hf) (by rfl) T.m_isinstance (by decide +kernel) (pa_cons (pv 3) (pa_cons (pe_glob (v := .ref t.C_InvalidName) (by rfl) T.g_InvalidName rfl) pa_nil))))))) (pss_one (ps_ret (pe_lst (pa_cons (pe_ifExp (pt_val (pv 4)) pe_str (pe_byLow T.low_InvalidName hz hf (pv 3))) pa_nil)))))))
      (pss_one (ps_ret (pe_lst pa_nil)))), ?_⟩
    rw [show L2.start N_f_law_caught [V.ref x, V.str n, V.int w] = [some (V.ref x), some (V.str n), some (V.int w), none, none] from rfl]; try dsimp only [cxOf]
    obtain ⟨dx, nm, st, fm, sp, h1, h2, h3, h4, h5⟩ := B.ex
    have good : n ∈ names L → ∀ H' r, Same H H' → H' r = none → Q (.ref r) (upd H' r (.lst [])) := fun h0 H' r s nr => by
      refine q _ r (s.free nr) (s.trans (same_new nr)) ?_
      unfold dueS
      rw [upd_same, if_pos h0]
    have bad : n ∉ names L → ∀ (D : Ends), (∀ v H', Q v H' → D.rt v H') → ∀ (Hs : Hp) (d : Addr), Same H Hs → Hs d = none → wAs K (.ref t.C_BookError) 3 (suiteC K t) (fun _ _ _ _ => False) D (.ref t.C_InvalidName) (some d) [some (.ref x), some (.str n), some (.int w), none, none] (upd Hs d (.xd [(("value" : Str), .str n)])) := by
      intro hneg D hD Hs d ss hd
      have sd : Same H (upd Hs d (.xd [(("value" : Str), .str n)])) := ss.trans (same_new hd)
      have ed : (upd Hs d (.xd [(("value" : Str), .str n)])) d = some (.xd [(("value" : Str), .str n)]) := upd_same
      generalize upd Hs d (.xd [(("value" : Str), .str n)]) = H1 at sd ed ⊢
      refine ⟨true, T.te_InvalidName, fun _ a0 _ => ?_, fun q => Bool.noConfusion q⟩
      top_caughtB
      intro tp ntp
      generalize hod : (HO.tup [.ref t.C_InvalidBase, .ref t.C_InvalidFormula, .ref t.C_InvalidNumber, .ref t.C_Unsound]) = od
      have etp : (upd H1 tp od) tp = some od := upd_same
      have s2 := sd.trans (same_new (o := od) ntp)
      have ed2 := upd_old (o := od) ntp ed
      generalize upd H1 tp od = H2 at etp s2 ed2 ⊢
      subst hod
      refine ⟨t.C_InvalidName, d, _, tp, _, _, false, T.err_InvalidName, rfl, rfl, rfl, ed2, etp, .cons (.own _) (.cons (.own _) (.cons (.own _) (.cons (.own _) .nil))), T.kit0, ?_⟩
      refine ⟨false, rfl, ?_⟩
      top_caughtB
      refine ⟨t.C_InvalidName, d, _, _, _, true, T.err_InvalidName, rfl, rfl, rfl, ed2, .own _, T.kit1, ?_⟩
      refine ⟨true, rfl, ?_⟩
      top_caughtB
      refine ⟨_, rfl, ?_⟩
      refine ⟨rfl, rfl, d, .str n, rfl, ed2, ?_⟩
      top_caughtB
      intro r nr
      refine hD _ _ (q _ r (s2.free nr) (s2.trans (same_new nr)) ?_)
      unfold dueS
      rw [upd_same, if_neg hneg]
    top_caughtB
    refine ite2 (fun _ => ?_) (fun _ => ?_)
    · refine r_drop ?_
      refine ⟨_, rfl, x, dx, _, rfl, h1, bk_no (by decide +kernel), ?_⟩
      refine ⟨_, rfl, ?_⟩
      refine ⟨x, b, L, n, rfl, B, fun hn d nd => bad hn _ (fun _ _ h => h) H d (Same.refl _) nd, fun hn v => ?_⟩
      top_caughtB
      intro r nr
      exact good hn H r (Same.refl _) nr
    · refine r_drop ?_
      refine ⟨_, rfl, x, dx, _, rfl, h1, bk_no (by decide +kernel), ?_⟩
      refine ⟨_, rfl, rfl, ?_⟩
      refine ⟨x, b, L, n, rfl, B, S, fun hn d nd => bad hn _ (fun _ _ h => h) H d (Same.refl _) nd, fun hn v H' s => ?_⟩
      top_caughtB
      intro r nr
      exact good hn H' r s nr


local macro_rules | `(tactic| top_reprB) => `(tactic| repeat' (first | exact isDat_D | exact isDats_map | exact isDat_ns | refine isDat_L ?_ | refine isDat_T ?_ | refine isDats_cons ?_ ?_ | exact isDats_nil))
local macro_rules | `(tactic| top_strB) => `(tactic| repeat' (first
  | with_reducible refine s_seq ?_ | with_reducible refine s_if ?_ | with_reducible refine s_next ?_ | with_reducible refine wg_name ?_ | ((with_reducible refine nx_go ?_); (try dsimp only); with_reducible refine nx_s ?_)
  | with_reducible refine w_int ?_ | with_reducible refine w_str ?_ | with_reducible refine w_bl ?_ | with_reducible refine w_non ?_
  | ((with_reducible refine w_var ?_); refine ⟨_, rfl, ?_⟩)
  | with_reducible refine w_rep ?_ | with_reducible refine ex_new ?_ | with_reducible refine w_ixOwn ⟨_, _, rfl, ?_⟩ | with_reducible refine w_op ?_ | with_reducible refine w_un ?_ | with_reducible refine w_cb ?_ | with_reducible refine wa_nil ?_ | with_reducible refine wa_cons ?_ | with_reducible refine w_if ?_
  | with_reducible refine wt_test ?_ | with_reducible refine wt_B ?_ | with_reducible refine wb_D ?_ | with_reducible refine wt_yes ?_ | with_reducible refine wt_and ?_ | with_reducible refine wt_or ?_ | with_reducible refine wt_not ?_
  | with_reducible refine w_andV ?_ | with_reducible refine w_orV ?_ | with_reducible refine w_notV ?_ | with_reducible refine w_chain ?_
  | with_reducible refine wr_add ?_ | with_reducible refine wr_sub ?_ | with_reducible refine wr_lt ?_ | with_reducible refine wr_gt ?_ | with_reducible refine wr_le ?_ | with_reducible refine wr_ge ?_ | with_reducible refine wu_neg ?_
  | with_reducible refine wr_eqI ?_ | with_reducible refine wr_neI ?_ | with_reducible refine wr_eqS ?_ | with_reducible refine wr_neS ?_ | with_reducible refine wc_intI ?_ | with_reducible refine wc_intB ?_
  | ((with_reducible refine l1000 ?_ ?_); focus exact rfl) | with_reducible refine w_lst ?_ | with_reducible refine w_tup ?_
  | dsimp only [Rs.t, Sh.ty, List.set, wipeΓ, puts, List.map, List.append_nil, List.nil_append, List.cons_append]))
local macro_rules | `(tactic| top_raise0) => `(tactic| (refine s_asg ?_; top_strB))

theorem TyAll.split {H : Hp} : ∀ {ts us : List Ty} {vs : List V}, TyAll (ts ++ us) vs H → ∃ v1 v2, vs = v1 ++ v2 ∧ TyAll ts v1 H ∧ TyAll us v2 H
  | [], _, vs, h => ⟨[], vs, rfl, trivial, h⟩
  | t :: ts, us, v :: vs, h => by
    obtain ⟨v1, v2, e, h1, h2⟩ := TyAll.split (ts := ts) (us := us) h.2
    exact ⟨v :: v1, v2, by rw [e]; rfl, ⟨h.1, h1⟩, h2⟩
  | _ :: _, _, [], h => h.elim
theorem dpa_app {K : PySem.W.Frag} {H : Hp} : ∀ {xs ys : List V} {ds es : List PyData}, DpAll K H xs ds → DpAll K H ys es → DpAll K H (xs ++ ys) (ds ++ es)
  | [], _, [], _, _, h => h
  | _ :: _, _, _ :: _, _, .cons a b, h => .cons a (dpa_app b h)
theorem isDats_app {K : PySem.W.Frag} {ts us : List Ty} {ds es : List PyData} (a : IsDats K ts ds) (b : IsDats K us es) : IsDats K (ts ++ us) (ds ++ es) := fun {vs H} h => by
  obtain ⟨v1, v2, e, h1, h2⟩ := TyAll.split h
  subst e
  exact dpa_app (a h1) (b h2)
theorem lines_of {K : PySem.W.Frag} {L : List Line} {i : Nat} {u : Ty} (h : ((L.map dLine).map (tD K))[i]? = some u) : ∃ l, L[i]? = some l ∧ u = tD K (dLine l) := by
  rw [List.getElem?_map, List.getElem?_map] at h
  cases e : L[i]? with
  | none => rw [e] at h; cases h
  | some l => rw [e] at h; cases h; exact ⟨l, rfl, rfl⟩
theorem forms_of {K : PySem.W.Frag} {g : List (List Term)} {i : Nat} {u : Ty} (h : ((g.map dForm).map (tD K))[i]? = some u) : ∃ l, g[i]? = some l ∧ u = tD K (dForm l) := by
  rw [List.getElem?_map, List.getElem?_map] at h
  cases e : g[i]? with
  | none => rw [e] at h; cases h
  | some l => rw [e] at h; cases h; exact ⟨l, rfl, rfl⟩
theorem terms_of {K : PySem.W.Frag} {g : List Term} {i : Nat} {u : Ty} (h : ((g.map dTerm).map (tD K))[i]? = some u) : ∃ l, g[i]? = some l ∧ u = tD K (dTerm l) := by
  rw [List.getElem?_map, List.getElem?_map] at h
  cases e : g[i]? with
  | none => rw [e] at h; cases h
  | some l => rw [e] at h; cases h; exact ⟨l, rfl, rfl⟩
theorem take_snoc {α : Type} {xs : List α} {i : Nat} {x : α} (h : xs[i]? = some x) : xs.take (i + 1) = xs.take i ++ [x] := by rw [List.take_add_one, h]; rfl
theorem shaped_nil : SeqAt.shaped (.list []) = true := (nice_list (k := 0) (w := 0) (n := 0) (ds := []) (fun d hd => (by cases hd)) (Nat.le_refl _)).shaped (by decide)
/-- the last formula, another -/
def GF (L : List Line) (l : Line) (fs : List (List Term)) : Prop := ∃ g : List Term, fs = l.2.2.take (l.2.2.length - 1) ++ [g] ∧ g.length ≤ 7 ∧ (∀ t ∈ g, t.1.natAbs ≤ 9) ∧ ∀ t ∈ g, t.2 ∈ names L
def oI (K : PySem.W.Frag) (t1 : Ty) (b : Int) (L : List Line) (l : Line) (n : Nat) (w : Int) (done : Prop) (fu : Nat) : List Sl → Nat → Prop := fun Γ' f' => ∃ (a : Addr) (ls : List Line) (fs : List (List Term)) (s9 s10 : Sl), fu ≤ f' ∧
  Γ' = [.pool, .ty t1, .ty (tD K (.int b)), .own a (.lst ((ls.map dLine).map (tD K))), .ty (tD K (.int (n : Nat))), .ty (tD K (.int w)), .ty (tD K (.str l.1)), .ty (tD K (.int l.2.1)), .ty (tD K (dForms fs)), s9, s10, .any, .any, .any, .any, .any] ∧ (ls = L ∨ (w = 0 ∧ ls = L.reverse)) ∧ (fs = l.2.2 ∨ (done ∧ GF L l fs))
def pother (K : PySem.W.Frag) : List Ty → (Rs → Prop) → Prop := fun ts κ => ∃ (t1 : Ty) (b : Int) (L : List Line), ts = [t1] ∧ IsDat K t1 (dKind b L) ∧ Drawn b 4 L ∧ ∀ u b' L', IsDat K u (dKind b' L') → Mate b' L' → κ (.ty u)
def sp_f_law_other (K : PySem.W.Frag) (_ : Ad) : Sp := spP 2 (pother K)
theorem ok_f_law_other {P : Program} {w : World} {K : PySem.W.Frag} {mg : Str → Option Value} {base : Heap} {t : Ad} (T : Txt K mg t) : FnOk P w K mg base CX0 2 t.a_f_law_other t.d_f_law_other ["pool", "kind"] (sp_f_law_other K t) := by
  refine T.F_f_law_other.ok sc_f_law_other (fun vs H Q E h => ?_) (fun cdv A outer s H vs Q E hr h => ⟨_, (pss_cons (ps_asg (pe_tup (pa_cons (pe_ix ix_tup (pv 1) pe_int (fun _ _ => rfl)) (pa_cons (pe_callTy (T := "list") call_list_of (by rfl) T.m_list (by decide +kernel) (pa_cons (pe_ix ix_tup (pv 1) pe_int (fun _ _ => rfl)) pa_nil)) pa_nil))) (pg_tup rfl (pgs_cons (pg_name (i := 2) sc_f_law_other.nd rfl (Or.inr rfl)) (pgs_cons (pg_name (i := 3) sc_f_law_other.nd rfl (Or.inl rfl)) pgs_nil))))
      (pss_cons (ps_par (i := 4) (j := 5) (by rfl) sc_f_law_other.nd rfl rfl (by decide) rfl rfl (pa_cons (pe_call (ok_f_law_draw T) (hr.mono (by decide)) (by rfl) T.g_f_law_draw T.F_f_law_draw.kp T.b_f_law_draw .nil pass0 (pa_cons (pv 0) (pa_cons (pe_callB call_len_seq (by rfl) T.m_len (by decide +kernel) (pa_cons (pv 3) pa_nil)) pa_nil))) (pa_cons (pe_call (ok_f_law_draw T) (hr.mono (by decide)) (by rfl) T.g_f_law_draw T.F_f_law_draw.kp T.b_f_law_draw .nil pass0 (pa_cons (pv 0) (pa_cons pe_int pa_nil))) pa_nil)) (by rfl))
      (pss_cons (ps_asg (pe_ix ix_list (pv 3) (pv 4) (fun _ _ => rfl)) (pg_tup rfl (pgs_cons (pg_name (i := 6) sc_f_law_other.nd rfl (Or.inr rfl)) (pgs_cons (pg_name (i := 7) sc_f_law_other.nd rfl (Or.inl rfl)) (pgs_cons (pg_name (i := 8) sc_f_law_other.nd rfl (Or.inl rfl)) pgs_nil)))))
      (pss_cons (ps_if (pt_cmpR op_eq (pv 5) pe_int (nomark _)) (pss_one (ps_set (i := 3) sc_f_law_other.nd rfl (Or.inl rfl) (pe_revL (pv 3)))) pss_nil)
      (pss_cons (ps_if (pt_cmpR op_eq (pv 5) pe_int (nomark _)) (pss_one (ps_set (i := 8) sc_f_law_other.nd rfl (Or.inl rfl) (pe_op op_catQ (pe_slice sl_list (pv 8) po_none (po_some (pe_un un_neg pe_int))) (pe_lst (pa_cons (pe_op op_catQ (pe_ix ix_list (pv 8) (pe_un un_neg pe_int) (fun _ _ => rfl)) (pe_lst (pa_cons (pe_tup (pa_cons pe_int (pa_cons (pv 6) pa_nil))) (pa_cons (pe_tup (pa_cons (pe_un un_neg pe_int) (pa_cons (pv 6) pa_nil))) pa_nil)))) pa_nil))))) pss_nil)
      (pss_cons (ps_if (PW.pt (pw_and (pt_cmpR op_eq (pv 5) pe_int (nomark _)) (pw_and1 (pt_cmpR (op_neD hr.units) (pe_ix ix_list (pv 8) (pe_un un_neg pe_int) (fun _ _ => rfl)) (pe_lst pa_nil) (nomark _))))) (pss_cons (ps_asg (pe_ix ix_list (pe_ix ix_list (pv 8) (pe_un un_neg pe_int) (fun _ _ => rfl)) pe_int (fun _ _ => rfl)) (pg_tup rfl (pgs_cons (pg_name (i := 9) sc_f_law_other.nd rfl (Or.inl rfl)) (pgs_cons (pg_name (i := 10) sc_f_law_other.nd rfl (Or.inl rfl)) pgs_nil))))
      (pss_one (ps_set (i := 8) sc_f_law_other.nd rfl (Or.inl rfl) (pe_op op_catQ (pe_slice sl_list (pv 8) po_none (po_some (pe_un un_neg pe_int))) (pe_lst (pa_cons (pe_op op_catQ (pe_lst (pa_cons (pe_tup (pa_cons (pe_ifExp (pt_cmpR op_gt (pv 9) pe_int (nomark _)) (pe_op op_sub (pv 9) pe_int) (pe_op op_add (pv 9) pe_int)) (pa_cons (pv 10) pa_nil))) pa_nil)) (pe_slice sl_list (pe_ix ix_list (pv 8) (pe_un un_neg pe_int) (fun _ _ => rfl)) (po_some pe_int) po_none)) pa_nil)))))) pss_nil)
      (pss_cons (ps_if (pt_cmpR op_eq (pv 5) pe_int (nomark _)) (pss_cons (ps_set (i := 2) sc_f_law_other.nd rfl (Or.inr rfl) (pe_op op_add pe_int (pe_callTy (T := "int") call_int1 (by rfl) T.m_int (by decide +kernel) (pa_cons (pe_cmpR op_eq (pv 2) pe_int (nomark _)) pa_nil))))
      (pss_cons (ps_setLc (i := 3) (own := [("one", 12)]) (te := (tTup (tCons (tOp (rIxT K) (tVar 12) (tC (.int 0))) (tCons (tOp (rIxT K) (tVar 12) (tC (.int 1))) (tCons (tSl (rSlL K) (tOp (rCatQ K) (tOp (rIxT K) (tVar 12) (tC (.int 2))) (tLst (tCons (tLst tNil) tNil))) tNoPart (tPart (tVar 2))) tNil))))) (tt := tYes) (g := (gName 12)) rfl sc_f_law_other.nd rfl rfl (sw_true rfl rfl rfl (by decide +kernel)) (pi_list (pv 3)) (blkOk_by (own := [("one", 12)]) (N := N_f_law_other) (sc := defScope s_f_law_other) (by decide +kernel)) (fun _ _ _ _ _ => (pg_name (i := 12) sc_f_law_other.nd rfl (Or.inl rfl))) (fun _ _ _ _ _ => pts_nil) (fun _ _ _ _ _ => (pe_tup (pa_cons (pe_ix ix_tup (pv 12) pe_int (fun _ _ => rfl)) (pa_cons (pe_ix ix_tup (pv 12) pe_int (fun _ _ => rfl)) (pa_cons (pe_slice sl_list (pe_op op_catQ (pe_ix ix_tup (pv 12) pe_int (fun _ _ => rfl)) (pe_lst (pa_cons (pe_lst pa_nil) pa_nil))) po_none (po_some (pv 2))) pa_nil))))))
      (pss_one (ps_ret (pe_tup (pa_cons (pv 2) (pa_cons (pv 3) pa_nil))))))) pss_nil)
      (pss_cons (ps_if (pt_cmpR op_eq (pv 5) pe_int (nomark _)) (pss_cons (ps_set (i := 11) sc_f_law_other.nd rfl (Or.inl rfl) (pe_lst pa_nil))
      (pss_cons (ps_for PassesOwn.never rfl (pi_list (pv 3)) (pg_tup rfl (pgs_cons (pg_name (i := 12) sc_f_law_other.nd rfl (Or.inl rfl)) (pgs_cons (pg_name (i := 13) sc_f_law_other.nd rfl (Or.inl rfl)) (pgs_cons (pg_name (i := 14) sc_f_law_other.nd rfl (Or.inl rfl)) pgs_nil)))) (pss_cons (ps_setLc (i := 14) (own := [("formula", 15)]) (te := (tLc (iList K (tVar 15)) (gTup K 2 (gCons (gName 9) (gCons (gName 10) gNil))) tYes (tTup (tCons (tVar 9) (tCons (tIf (tTest (tOp rEq (tVar 10) (tVar 6))) (tC (.str "k")) (tVar 10)) tNil))) [9, 10])) (tt := tYes) (g := (gName 15)) rfl sc_f_law_other.nd rfl rfl (sw_true rfl rfl rfl (by decide +kernel)) (pi_list (pv 14)) (blkOk_by (own := [("formula", 15)]) (N := N_f_law_other) (sc := defScope s_f_law_other) (by decide +kernel)) (fun _ _ _ _ _ => (pg_name (i := 15) sc_f_law_other.nd rfl (Or.inl rfl))) (fun _ _ _ _ _ => pts_nil) (fun _ _ _ _ _ => (pe_lc (own := [("often", 9), ("other", 10)]) (te := (tTup (tCons (tVar 9) (tCons (tIf (tTest (tOp rEq (tVar 10) (tVar 6))) (tC (.str "k")) (tVar 10)) tNil)))) (tt := tYes) (g := (gTup K 2 (gCons (gName 9) (gCons (gName 10) gNil)))) rfl sc_f_law_other.nd (pi_list (pv 15)) (blkOk_by (own := [("often", 9), ("other", 10)]) (N := N_f_law_other) (by rfl)) (fun _ _ _ _ _ => (pg_tup rfl (pgs_cons (pg_name (i := 9) sc_f_law_other.nd rfl (Or.inl rfl)) (pgs_cons (pg_name (i := 10) sc_f_law_other.nd rfl (Or.inl rfl)) pgs_nil)))) (fun _ _ _ _ _ => pts_nil) (fun _ _ _ _ _ => (pe_tup (pa_cons (pv 9) (pa_cons (pe_ifExp (pt_cmpR op_eq (pv 10) (pv 6) (nomark _)) pe_str (pv 10)) pa_nil)))))))
      (pss_one (ps_expr (pe_bm PySem.F.plainAttrs_list PySem.F.slot_list_append PySem.F.type_list_append mt_append (pv 11) (pa_cons (pe_tup (pa_cons (pe_ifExp (pt_cmpR (op_eqD hr.units) (pv 12) (pv 6) (nomark _)) pe_str (pv 12)) (pa_cons (pv 13) (pa_cons (pv 14) pa_nil)))) pa_nil))))))
      (pss_one (ps_ret (pe_tup (pa_cons (pv 2) (pa_cons (pv 11) pa_nil))))))) pss_nil)
      (pss_cons (ps_if (pt_cmpR op_eq (pv 5) pe_int (nomark _)) (pss_one (ps_set (i := 8) sc_f_law_other.nd rfl (Or.inl rfl) (pe_op op_catQ (pe_slice sl_list (pv 8) po_none (po_some (pe_un un_neg pe_int))) (pe_lst (pa_cons (pe_revL (pe_ix ix_list (pv 8) (pe_un un_neg pe_int) (fun _ _ => rfl))) pa_nil))))) pss_nil)
      (pss_cons (ps_if (pt_cmpR op_eq (pv 5) pe_int (nomark _)) (pss_one (ps_set (i := 8) sc_f_law_other.nd rfl (Or.inl rfl) (pe_op op_catQ (pe_slice sl_list (pv 8) po_none (po_some (pe_un un_neg pe_int))) (pe_lst (pa_cons (pe_op op_catQ (pe_ix ix_list (pv 8) (pe_un un_neg pe_int) (fun _ _ => rfl)) (pe_lst (pa_cons (pe_tup (pa_cons pe_int (pa_cons (pv 6) pa_nil))) pa_nil))) pa_nil))))) pss_nil)
      (pss_cons (ps_if (pt_cmpR op_in_seq (pv 5) (pe_tup (pa_cons pe_int (pa_cons pe_int (pa_cons pe_int (pa_cons pe_int pa_nil))))) rfl) (pss_one (ps_asg (pe_tup (pa_cons (pv 6) (pa_cons (pv 7) (pa_cons (pv 8) pa_nil)))) (pg_sub (pv 3) (pv 4) set_list))) pss_nil)
      (pss_one (ps_ret (pe_tup (pa_cons (pv 2) (pa_cons (pv 3) pa_nil)))))))))))))))), fn_runP (K := K) (fun ts κ ⟨_, _, _, e, _⟩ => by rw [e]; exact Nat.le_of_ble_eq_true rfl) (fun F g ts κ hP R => ?_) h⟩)
  · obtain ⟨p, us, f, O, ts, κ, e, _, _, _, hA, ⟨t1, b, L, e2, _⟩, c⟩ := h
    rw [e, List.length_cons, ← hA.len, e2]
    rfl
  · obtain ⟨t1, b, L, e, h1, dr, q⟩ := hP
    subst e
    show S K F [Sl.pool, Sl.ty _, Sl.any, Sl.any, Sl.any, Sl.any, Sl.any, Sl.any, Sl.any, Sl.any, Sl.any, Sl.any, Sl.any, Sl.any, Sl.any, Sl.any] _ _ _; dsimp only [cxOf]
    have S := dr.sound
    have hL0 := dr.some
    have hL4 := dr.most
    have hb := S.base
    have hlen : ∀ ls : List Line, ((ls.map dLine).map (tD K)).length = ls.length := fun ls => by rw [List.length_map, List.length_map]
    refine s_seq ?_
    refine s_tupOwn rfl rfl rfl ?_
    top_strB
    refine wr_ixT 0 (fun h => isTup_D (h1 h)) rfl rfl ?_
    top_strB
    refine wr_ixT 1 (fun h => isTup_D (h1 h)) rfl rfl ?_
    top_strB
    refine wc_list (.inl isLst_D) ?_
    refine ⟨_, rfl, fun a => ?_⟩
    try dsimp only [List.set]
    refine nx_s ?_
    refine s_seq ?_
    refine s_par ?_
    refine wa_cons ?_
    refine w_draw rfl ?_
    refine w_lenOwn ⟨a, _, rfl, ?_⟩
    rw [hlen]
    refine ⟨_, isDat_D, by omega, Int.lt_of_lt_of_le (show (L.length : Int) < 5 by omega) (by decide), g + 1, rfl, fun d d0 d1 => ?_⟩
    obtain ⟨n, rfl⟩ := Int.eq_ofNat_of_zero_le d0
    have hn : n < L.length := by omega
    have hLn : L[n]? = some L[n] := List.getElem?_eq_getElem hn
    have hlm := List.getElem_mem hn
    generalize L[n] = l at hLn hlm
    have hfl := S.forms l hlm
    have hsm := dr.small l hlm
    refine wa_cons ?_
    refine w_draw rfl ?_
    top_strB
    refine ⟨_, isDat_D, by decide, by decide, g, rfl, fun w w0 w1 => ?_⟩
    top_strB
    refine ⟨_, _, rfl, ?_⟩
    top_strB
    refine s_asg ?_
    top_strB
    refine ⟨_, n, _, isDat_D, ix_nat (by rw [hlen]; exact hn), by rw [List.getElem?_map, List.getElem?_map, hLn]; rfl, ?_⟩
    refine wg_tup [6, 7, 8] rfl isTup_D rfl rfl ?_
    try dsimp only [puts, List.set]
    refine nx_s ?_
    have hlt : l.2.2.length - 1 < l.2.2.length := by omega
    have e1 : l.2.2[l.2.2.length - 1]? = some l.2.2[l.2.2.length - 1] := List.getElem?_eq_getElem hlt
    have hlast := List.getElem_mem hlt
    generalize hla : l.2.2[l.2.2.length - 1] = la at e1 hlast
    have hla5 := hsm la hlast
    have GF0 : GF L l l.2.2 := ⟨la, by
      have := List.take_append_drop (l.2.2.length - 1) l.2.2
      rw [List.drop_eq_getElem_cons hlt, hla] at this
      rw [List.drop_of_length_le (by omega)] at this
      exact this.symm, by omega, dr.coefs l hlm la hlast, S.known l hlm la hlast⟩
    have hlastT : ((l.2.2.map dForm).map (tD K))[((l.2.2.map dForm).map (tD K)).length - 1]? = some (tD K (dForm la)) := by
      rw [List.length_map, List.length_map, List.getElem?_map, List.getElem?_map, e1]
      rfl
    have hnm : l.1 ∈ names L := List.mem_map.mpr ⟨l, hlm, rfl⟩
    have pre : cutG l.2.2 none (some (-1)) = l.2.2.take (l.2.2.length - 1) := cutG_last
    have mk : ∀ {u : Ty} {g : List Term}, IsDat K u (dForm g) → IsDat K (tL K (((l.2.2.take (l.2.2.length - 1)).map dForm).map (tD K) ++ [u])) (dForms (l.2.2.take (l.2.2.length - 1) ++ [g])) := fun {u g} hu => by
      have hd : dForms (l.2.2.take (l.2.2.length - 1) ++ [g]) = .list ((l.2.2.take (l.2.2.length - 1)).map dForm ++ [dForm g]) := by unfold dForms; rw [List.map_append]; rfl
      rw [hd]
      refine @isDat_L K _ _ ?_
      refine @isDats_app K _ _ _ _ ?_ ?_
      · exact isDats_map
      · exact isDats_cons hu isDats_nil
    -- way 0
    refine s_seq ?_
    refine s_join (oI K t1 b L l n w False g) (fun X hX => ?_) ?_
    · top_strB
      refine ⟨fun e => ?_, fun e => ?_⟩
      · have e := of_decide_eq_true e
        refine s_own rfl ?_
        refine w_revOwn ⟨a, _, rfl, _, rfl, fun a2 => ?_⟩
        rw [← List.map_reverse, ← List.map_reverse]
        try dsimp only [List.set]
        exact hX _ _ ⟨a2, L.reverse, _, _, _, Nat.le_refl _, rfl, .inr ⟨e, rfl⟩, .inl rfl⟩
      · top_strB
        exact hX _ _ ⟨a, L, _, _, _, Nat.le_refl _, rfl, .inl rfl, .inl rfl⟩
    clear a
    rintro Γ' f' ⟨a, ls, fs, s9, s10, hf, rfl, hls, hfs⟩
    try dsimp only
    refine nx_s ?_
    -- way 1
    refine s_seq ?_
    refine s_join (oI K t1 b L l n w (w = 1) g) (fun X hX => ?_) ?_
    · top_strB
      refine ⟨fun e => ?_, fun e => ?_⟩
      · have e := of_decide_eq_true e
        have efs : fs = l.2.2 := hfs.elim id fun z => z.1.elim
        subst efs
        refine s_asgD (dForms (l.2.2.take (l.2.2.length - 1) ++ [la ++ [((1 : Int), l.1), (-1, l.1)]])) ?_
        top_strB
        refine w_slL ?_
        top_strB
        refine ⟨_, isLst_D, wo_none (wo_some ?_)⟩
        top_strB
        refine ⟨_, isDat_D, ?_⟩
        rw [cutT_map, cutG_map, pre]
        top_strB
        refine wr_ixLast isLst_D hlastT ?_
        top_strB
        refine wr_cat isLst_D isLst_L (by simp; omega) ?_
        top_strB
        refine wr_cat isLst_L isLst_L (by simp; omega) ?_
        refine ⟨mk ?_, ?_⟩
        · have hd : dForm (la ++ [((1 : Int), l.1), (-1, l.1)]) = .list (la.map dTerm ++ [.tuple [.int 1, .str l.1], .tuple [.int (-1), .str l.1]]) := by unfold dForm; rw [List.map_append]; rfl
          rw [hd]
          try dsimp only [Rs.t, Sh.ty]
          refine @isDat_L K _ _ ?_
          refine @isDats_app K _ _ _ _ ?_ ?_
          · exact isDats_map
          · top_reprB
        top_strB
        refine hX _ _ ⟨a, ls, _, _, _, hf, rfl, hls, .inr ⟨e, _, rfl, by rw [List.length_append]; simp; omega, fun t ht => ?_, fun t ht => ?_⟩⟩
        · rcases List.mem_append.mp ht with ht | ht
          · exact dr.coefs l hlm la hlast t ht
          · simp only [List.mem_cons, List.not_mem_nil, or_false] at ht
            rcases ht with rfl | rfl
            · show (1 : Int).natAbs ≤ 9; decide
            · show (-1 : Int).natAbs ≤ 9; decide
        · rcases List.mem_append.mp ht with ht | ht
          · exact S.known l hlm la hlast t ht
          · simp only [List.mem_cons, List.not_mem_nil, or_false] at ht
            rcases ht with rfl | rfl <;> exact hnm
      · top_strB
        exact hX _ _ ⟨a, ls, fs, _, _, hf, rfl, hls, hfs.imp id fun z => z.1.elim⟩
    clear hf hls hfs
    rintro Γ' f' ⟨a, ls, fs, s9, s10, hf, rfl, hls, hfs⟩
    try dsimp only
    refine nx_s ?_
    -- way 2
    refine s_seq ?_
    refine s_join (oI K t1 b L l n w (w = 1 ∨ w = 2) g) (fun X hX => ?_) ?_
    · have skip : NX K F [.pool, .ty t1, .ty (tD K (.int b)), .own a (.lst ((ls.map dLine).map (tD K))), .ty (tD K (.int (n : Nat))), .ty (tD K (.int w)), .ty (tD K (.str l.1)), .ty (tD K (.int l.2.1)), .ty (tD K (dForms fs)), s9, s10, .any, .any, .any, .any, .any] f' X := hX _ _ ⟨a, ls, fs, _, _, hf, rfl, hls, hfs.imp id fun z => ⟨.inl z.1, z.2⟩⟩
      top_strB
      refine ⟨fun e => ?_, fun e => ?_⟩
      · have e := of_decide_eq_true e
        have efs : fs = l.2.2 := hfs.elim id fun z => absurd z.1 (by omega)
        subst efs
        top_strB
        refine wr_ixLast isLst_D hlastT ?_
        top_strB
        refine wr_neD (d := dForm la) (e := .list []) isDat_D (isDat_L isDats_nil) ?_ shaped_nil ?_
        · exact (nice_list (k := 1) (w := 202) (n := 5) (fun d hd => by
            obtain ⟨tm, ht, rfl⟩ := List.mem_map.mp hd
            refine nice_tuple (k := 0) (w := 100) (n := 2) (fun d hd => ?_) (Nat.le_of_ble_eq_true rfl)
            simp only [List.mem_cons, List.not_mem_nil, or_false] at hd
            rcases hd with rfl | rfl
            · exact nice_int (PySem.Flt.log2_lt_of (by decide) (Nat.lt_of_le_of_lt (dr.coefs l hlm la hlast tm ht) (show 9 < 2 ^ 100 by decide)))
            · have g := letter_ok (sound_letters S (S.known l hlm la hlast tm ht))
              exact nice_str g.1 (by omega)) (by rw [List.length_map]; exact hla5)).shaped (by decide)
        have en : PyData.eqv (dForm la) (.list []) = (la.map dTerm).isEmpty := eqv_nil
        rw [en]
        top_strB
        refine ⟨fun e2 => ?_, fun e2 => ?_⟩
        · obtain ⟨t0, lr, ela⟩ : ∃ t0 lr, la = t0 :: lr := by
            cases la with
            | nil => cases e2
            | cons t0 lr => exact ⟨t0, lr, rfl⟩
          have ht0 : t0 ∈ la := by rw [ela]; exact List.mem_cons_self
          have c0 := dr.coefs l hlm la hlast t0 ht0
          refine s_seq ?_
          refine s_asg ?_
          top_strB
          refine wr_ixLast isLst_D hlastT ?_
          top_strB
          refine wr_ixL 0 isLst_D rfl (u := tD K (dTerm t0)) (by rw [ela]; rfl) ?_
          refine wg_tup [9, 10] rfl isTup_D rfl rfl ?_
          try dsimp only [puts, List.set]
          refine nx_s ?_
          refine s_asgD (dForms (l.2.2.take (l.2.2.length - 1) ++ [((if 8 < t0.1 then t0.1 - 1 else t0.1 + 1), t0.2) :: lr])) ?_
          top_strB
          refine w_slL ?_
          top_strB
          refine ⟨_, isLst_D, wo_none (wo_some ?_)⟩
          top_strB
          refine ⟨_, isDat_D, ?_⟩
          rw [cutT_map, cutG_map, pre]
          top_strB
          have hif : (t0.1 - 1 : Int).natAbs ≤ 9 ∨ ¬ 8 < t0.1 := by omega
          have e2l : cutG la (some 1) none = lr := by
            have : cutG la (some ((1 : Nat) : Int)) none = la.drop 1 := cutG_suf
            rw [show (some (1 : Int)) = some ((1 : Nat) : Int) from rfl, this, ela]
            rfl
          refine ⟨fun e3 => ?_, fun e3 => ?_⟩
          all_goals
            top_strB
            refine w_slL ?_
            top_strB
            refine wr_ixLast isLst_D hlastT ?_
            refine ⟨_, isLst_D, wo_some ?_⟩
            top_strB
            refine ⟨_, isDat_D, wo_none ?_⟩
            rw [cutT_map, cutG_map, e2l]
            refine wr_cat isLst_L isLst_L (by rw [ela] at hla5; simp at hla5 ⊢; omega) ?_
            top_strB
            refine wr_cat isLst_L isLst_L (by simp; omega) ?_
            refine ⟨mk ?_, ?_⟩
            · first
                | rw [if_pos (of_decide_eq_true e3)]
                | rw [if_neg (of_decide_eq_false e3)]
              unfold dForm
              rw [List.map_cons]
              try dsimp only [Rs.t, Sh.ty, List.cons_append, List.nil_append]
              refine @isDat_L K _ _ ?_
              refine @isDats_cons K _ _ _ _ ?_ ?_
              · unfold dTerm
                top_reprB
              · exact isDats_map
            top_strB
            refine hX _ _ ⟨a, ls, _, _, _, hf, rfl, hls, .inr ⟨.inr e, _, rfl, by rw [ela] at hla5; simp at hla5 ⊢; omega, fun tt htt => ?_, fun tt htt => ?_⟩⟩
            · rcases List.mem_cons.mp htt with rfl | htt
              · show (if 8 < t0.1 then t0.1 - 1 else t0.1 + 1 : Int).natAbs ≤ 9
                split <;> omega
              · exact dr.coefs l hlm la hlast tt (by rw [ela]; exact List.mem_cons_of_mem _ htt)
            · rcases List.mem_cons.mp htt with rfl | htt
              · exact S.known l hlm la hlast t0 ht0
              · exact S.known l hlm la hlast tt (by rw [ela]; exact List.mem_cons_of_mem _ htt)
        · top_strB
          exact skip
      · refine ⟨fun e2 => (by cases e2), fun _ => ?_⟩
        top_strB
        exact skip
    clear hf hls hfs
    rintro Γ' f' ⟨a, ls, fs, s9, s10, hf, rfl, hls, hfs⟩
    try dsimp only
    refine nx_s ?_
    -- way 3
    refine s_seq ?_
    refine s_join (oI K t1 b L l n w (w = 1 ∨ w = 2) g) (fun X hX => ?_) ?_
    · top_strB
      refine ⟨fun e => ?_, fun e => ?_⟩
      · have e := of_decide_eq_true e
        have els : ls = L := hls.elim id fun z => absurd z.1 (by omega)
        subst els
        refine s_freeze (i := 3) rfl ?_
        try dsimp only [List.set, Sh.ty]
        refine s_seq ?_
        refine s_asg ?_
        top_strB
        obtain ⟨b', hb', hv, hle⟩ : ∃ b' : Nat, (b' = 2 ∨ b' = 3) ∧ (2 : Int) + (if decide (b = 2) = true then 1 else 0) = (b' : Int) ∧ (b' : Int) ≤ b + 1 := by
          by_cases h : b = 2
          · exact ⟨3, .inr rfl, by rw [decide_eq_true h]; rfl, by omega⟩
          · exact ⟨2, .inl rfl, by rw [decide_eq_false h]; rfl, by omega⟩
        rw [hv]
        refine s_asg ?_
        refine w_lcL (gin_name (by decide)) ?_
        top_strB
        refine ⟨_, isLst_L, by rw [hlen]; omega, fun i f2 acc => f2 = f' ∧ IsDats K acc (((ls.take i).map (cutL b')).map dLine), ⟨rfl, isDats_nil⟩, ?_, ?_⟩
        · rintro F' i u f2 acc hp hu ⟨rfl, hacc⟩
          obtain ⟨l', hl', rfl⟩ := lines_of hu
          have hfl' := S.forms l' (List.mem_of_getElem? hl')
          top_strB
          refine ⟨rfl, ?_⟩
          top_strB
          refine ⟨fun _ => ?_, fun z => (by cases z)⟩
          top_strB
          refine wr_ixT 0 isTup_D rfl rfl ?_
          top_strB
          refine wr_ixT 1 isTup_D rfl rfl ?_
          top_strB
          refine w_slL ?_
          top_strB
          refine wr_ixT 2 isTup_D rfl rfl ?_
          top_strB
          refine wr_cat isLst_D isLst_L (by simp; omega) ?_
          have hd : IsDat K (tL K (((l'.2.2.map dForm).map (tD K)) ++ [tL K []])) (dForms (l'.2.2 ++ [[]])) := by
            have hd : dForms (l'.2.2 ++ [[]]) = .list (l'.2.2.map dForm ++ [.list []]) := by unfold dForms; rw [List.map_append]; rfl
            rw [hd]
            refine @isDat_L K _ _ ?_
            refine @isDats_app K _ _ _ _ ?_ ?_
            · exact isDats_map
            · exact isDats_cons (isDat_L isDats_nil) isDats_nil
          refine ⟨((l'.2.2 ++ [[]]).map dForm).map (tD K), fun h => isLst_D (hd h), wo_none (wo_some ?_)⟩
          top_strB
          refine ⟨_, isDat_D, ?_⟩
          rw [cutT_map, cutG_map, cutG_pre]
          top_strB
          refine ⟨rfl, ?_⟩
          rw [take_snoc hl', List.map_append, List.map_append]
          refine @isDats_app K _ _ _ _ hacc ?_
          refine @isDats_cons K _ _ _ _ ?_ isDats_nil
          unfold dLine cutL
          refine @isDat_T K _ _ ?_
          refine @isDats_cons K _ _ _ _ isDat_D ?_
          refine @isDats_cons K _ _ _ _ isDat_D ?_
          refine @isDats_cons K _ _ _ _ ?_ isDats_nil
          exact isDat_L isDats_map
        rintro f2 acc ⟨rfl, hacc⟩
        rw [hlen, List.take_of_length_le (Nat.le_refl _)] at hacc
        top_strB
        refine s_ret R ?_
        top_strB
        exact ⟨hf, q _ (b' : Int) _ (isDat_T (isDats_cons isDat_D (isDats_cons (isDat_L hacc) isDats_nil))) (mate_cut dr hb' hle)⟩
      · top_strB
        exact hX _ _ ⟨a, ls, fs, _, _, hf, rfl, hls, hfs⟩
    clear hf hls hfs
    rintro Γ' f' ⟨a, ls, fs, s9, s10, hf, rfl, hls, hfs⟩
    try dsimp only
    refine nx_s ?_
    -- way 7
    refine s_seq ?_
    refine s_join (oI K t1 b L l n w (w = 1 ∨ w = 2) g) (fun X hX => ?_) ?_
    · top_strB
      refine ⟨fun e => ?_, fun e => ?_⟩
      · have e := of_decide_eq_true e
        have els : ls = L := hls.elim id fun z => absurd z.1 (by omega)
        subst els
        refine s_freeze (i := 3) rfl ?_
        try dsimp only [List.set, Sh.ty]
        refine s_drop_slot 9 ?_
        refine s_drop_slot 10 ?_
        try dsimp only [List.set, Sh.ty]
        refine s_seq ?_
        refine s_own rfl ?_
        refine w_lst (wa_nil ⟨Nat.zero_le _, _, rfl, fun a2 => ?_⟩)
        try dsimp only [List.set, Sh.ty]
        refine nx_s ?_
        refine s_seq ?_
        refine s_forL ?_
        top_strB
        refine ⟨_, isLst_L, fun i Γ' f2 => ∃ ts s12 s13 s14, f2 = f' ∧ Γ' = [.pool, .ty t1, .ty (tD K (.int b)), .ty (tL K ((ls.map dLine).map (tD K))), .ty (tD K (.int (n : Nat))), .ty (tD K (.int w)), .ty (tD K (.str l.1)), .ty (tD K (.int l.2.1)), .ty (tD K (dForms fs)), .any, .any, .own a2 (.lst ts), s12, s13, s14, .any] ∧ ts.length = i ∧ IsDats K ts (((ls.take i).map (renL l.1)).map dLine), ⟨[], _, _, _, rfl, rfl, rfl, isDats_nil⟩, ?_, ?_⟩
        · rintro x0 w0' i u Γ' f2 hu ⟨ts, s12, s13, s14, rfl, rfl, htl, hts⟩
          obtain ⟨l', hl', rfl⟩ := lines_of hu
          have hlm' := List.mem_of_getElem? hl'
          have hfl' := S.forms l' hlm'
          have hil : i < ls.length := (List.getElem?_eq_some_iff.mp hl').1
          refine wg_tup [12, 13, 14] rfl isTup_D rfl rfl ?_
          try dsimp only [puts, List.set]
          refine s_seq ?_
          refine s_asg ?_
          refine w_lcL (gin_name (by decide)) ?_
          top_strB
          refine ⟨_, isLst_D, by rw [List.length_map, List.length_map]; omega, fun j f3 acc => f3 = f2 ∧ IsDats K acc (((l'.2.2.take j).map fun f => f.map fun t => (t.1, ren l.1 t.2)).map dForm), ⟨rfl, isDats_nil⟩, ?_, ?_⟩
          · rintro F' j u f3 acc hp hu ⟨rfl, hacc⟩
            obtain ⟨fm, hfm, rfl⟩ := forms_of hu
            have hsm' := dr.small l' hlm' fm (List.mem_of_getElem? hfm)
            top_strB
            refine ⟨rfl, ?_⟩
            top_strB
            refine ⟨fun _ => ?_, fun z => (by cases z)⟩
            refine w_lcL (gin_tup [9, 10] rfl (by decide)) ?_
            top_strB
            refine ⟨_, isLst_D, by rw [List.length_map, List.length_map]; omega, fun j f4 acc => f4 = f3 ∧ IsDats K acc (((fm.take j).map fun t => (t.1, ren l.1 t.2)).map dTerm), ⟨rfl, isDats_nil⟩, ?_, ?_⟩
            · rintro F2 j2 u f4 acc2 hp2 hu ⟨rfl, hacc2⟩
              obtain ⟨tm, htm, rfl⟩ := terms_of hu
              refine wg_tup [9, 10] rfl isTup_D rfl rfl ?_
              refine ⟨rfl, ?_⟩
              top_strB
              refine ⟨fun _ => ?_, fun z => (by cases z)⟩
              top_strB
              refine ⟨fun e3 => ?_, fun e3 => ?_⟩
              all_goals
                top_strB
                refine ⟨rfl, ?_⟩
                rw [take_snoc htm, List.map_append, List.map_append]
                refine @isDats_app K _ _ _ _ hacc2 ?_
                refine @isDats_cons K _ _ _ _ ?_ isDats_nil
                unfold dTerm ren
                try dsimp only
                first
                  | rw [if_pos (of_decide_eq_true e3)]
                  | rw [if_neg (of_decide_eq_false e3)]
                top_reprB
            rintro f4 acc2 ⟨rfl, hacc2⟩
            rw [List.length_map, List.length_map, List.take_of_length_le (Nat.le_refl _)] at hacc2
            refine ⟨rfl, ?_⟩
            rw [take_snoc hfm, List.map_append, List.map_append]
            refine @isDats_app K _ _ _ _ hacc ?_
            refine @isDats_cons K _ _ _ _ ?_ isDats_nil
            exact isDat_L hacc2
          rintro f3 acc ⟨rfl, hacc⟩
          rw [List.length_map, List.length_map, List.take_of_length_le (Nat.le_refl _)] at hacc
          top_strB
          refine s_append ⟨a2, ts, rfl, by omega, ?_⟩
          top_strB
          have shS : ∀ y ∈ lettersL, SeqAt.shaped (.str y) = true := fun y hy => (nice_str (w := 1) (letter_ok (show letterB y = true by revert y; decide +kernel)).1 (Nat.le_of_eq (letter_ok (show letterB y = true by revert y; decide +kernel)).2)).shaped (by decide)
          refine wr_eqD isDat_D isDat_D (shS _ (dr.names _ (List.mem_map.mpr ⟨l', hlm', rfl⟩))) (shS _ (dr.names _ hnm)) ?_
          rw [show PyData.eqv (.str l'.1) (.str l.1) = (l'.1 == l.1) from rfl]
          top_strB
          refine ⟨fun e3 => ?_, fun e3 => ?_⟩
          all_goals
            top_strB
            refine ⟨_, rfl, ?_⟩
            try dsimp only [List.set]
            refine inv_nx ⟨_, _, _, _, rfl, rfl, by rw [List.length_append, htl]; rfl, ?_⟩
            rw [take_snoc hl', List.map_append, List.map_append]
            refine @isDats_app K _ _ _ _ hts ?_
            refine @isDats_cons K _ _ _ _ ?_ isDats_nil
            unfold dLine renL
            refine @isDat_T K _ _ ?_
            refine @isDats_cons K _ _ _ _ ?_ ?_
            · unfold ren
              first
                | rw [if_pos (eq_of_beq e3)]
                | rw [if_neg (fun z => by rw [z, beq_self_eq_true] at e3; cases e3)]
              exact isDat_D
            refine @isDats_cons K _ _ _ _ isDat_D ?_
            refine @isDats_cons K _ _ _ _ ?_ isDats_nil
            exact isDat_L hacc
        rintro Γ' f2 ⟨ts, s12, s13, s14, rfl, rfl, htl, hts⟩
        rw [hlen, List.take_of_length_le (Nat.le_refl _)] at hts
        try dsimp only
        refine nx_s ?_
        refine s_freeze (i := 11) rfl ?_
        try dsimp only [List.set, Sh.ty]
        refine s_ret R ?_
        top_strB
        exact ⟨hf, q _ b _ (isDat_T (isDats_cons isDat_D (isDats_cons (isDat_L hts) isDats_nil))) (mate_ren dr l.1)⟩
      · top_strB
        exact hX _ _ ⟨a, ls, fs, _, _, hf, rfl, hls, hfs⟩
    clear hf hls hfs
    rintro Γ' f' ⟨a, ls, fs, s9, s10, hf, rfl, hls, hfs⟩
    try dsimp only
    refine nx_s ?_
    -- way 5
    refine s_seq ?_
    refine s_join (oI K t1 b L l n w (w = 1 ∨ w = 2 ∨ w = 5) g) (fun X hX => ?_) ?_
    · top_strB
      refine ⟨fun e => ?_, fun e => ?_⟩
      · have e := of_decide_eq_true e
        have efs : fs = l.2.2 := hfs.elim id fun z => absurd z.1 (by omega)
        subst efs
        refine s_asgD (dForms (l.2.2.take (l.2.2.length - 1) ++ [la.reverse])) ?_
        top_strB
        refine w_slL ?_
        top_strB
        refine ⟨_, isLst_D, wo_none (wo_some ?_)⟩
        top_strB
        refine ⟨_, isDat_D, ?_⟩
        rw [cutT_map, cutG_map, pre]
        top_strB
        refine w_revL ?_
        top_strB
        refine wr_ixLast isLst_D hlastT ?_
        refine ⟨_, isLst_D, ?_⟩
        rw [← List.map_reverse, ← List.map_reverse]
        top_strB
        refine wr_cat isLst_L isLst_L (by simp; omega) ?_
        refine ⟨mk (isDat_L isDats_map), ?_⟩
        top_strB
        exact hX _ _ ⟨a, ls, _, _, _, hf, rfl, hls, .inr ⟨.inr (.inr e), _, rfl, by rw [List.length_reverse]; omega, fun tt h => dr.coefs l hlm la hlast tt (List.mem_reverse.mp h), fun tt h => S.known l hlm la hlast tt (List.mem_reverse.mp h)⟩⟩
      · top_strB
        exact hX _ _ ⟨a, ls, fs, _, _, hf, rfl, hls, hfs.imp id fun z => ⟨z.1.elim .inl fun y => .inr (.inl y), z.2⟩⟩
    clear hf hls hfs
    rintro Γ' f' ⟨a, ls, fs, s9, s10, hf, rfl, hls, hfs⟩
    try dsimp only
    refine nx_s ?_
    -- way 6
    refine s_seq ?_
    refine s_join (oI K t1 b L l n w (w = 1 ∨ w = 2 ∨ w = 5 ∨ w = 6) g) (fun X hX => ?_) ?_
    · top_strB
      refine ⟨fun e => ?_, fun e => ?_⟩
      · have e := of_decide_eq_true e
        have efs : fs = l.2.2 := hfs.elim id fun z => absurd z.1 (by omega)
        subst efs
        refine s_asgD (dForms (l.2.2.take (l.2.2.length - 1) ++ [la ++ [((0 : Int), l.1)]])) ?_
        top_strB
        refine w_slL ?_
        top_strB
        refine ⟨_, isLst_D, wo_none (wo_some ?_)⟩
        top_strB
        refine ⟨_, isDat_D, ?_⟩
        rw [cutT_map, cutG_map, pre]
        top_strB
        refine wr_ixLast isLst_D hlastT ?_
        top_strB
        refine wr_cat isLst_D isLst_L (by simp; omega) ?_
        top_strB
        refine wr_cat isLst_L isLst_L (by simp; omega) ?_
        refine ⟨mk ?_, ?_⟩
        · have hd : dForm (la ++ [((0 : Int), l.1)]) = .list (la.map dTerm ++ [.tuple [.int 0, .str l.1]]) := by unfold dForm; rw [List.map_append]; rfl
          rw [hd]
          try dsimp only [Rs.t, Sh.ty]
          refine @isDat_L K _ _ ?_
          refine @isDats_app K _ _ _ _ ?_ ?_
          · exact isDats_map
          · top_reprB
        top_strB
        refine hX _ _ ⟨a, ls, _, _, _, hf, rfl, hls, .inr ⟨.inr (.inr (.inr e)), _, rfl, by rw [List.length_append]; simp; omega, fun tt ht => ?_, fun tt ht => ?_⟩⟩
        · rcases List.mem_append.mp ht with ht | ht
          · exact dr.coefs l hlm la hlast tt ht
          · rw [List.mem_singleton.mp ht]
            show (0 : Int).natAbs ≤ 9
            decide
        · rcases List.mem_append.mp ht with ht | ht
          · exact S.known l hlm la hlast tt ht
          · rw [List.mem_singleton.mp ht]
            exact hnm
      · top_strB
        refine hX _ _ ⟨a, ls, fs, _, _, hf, rfl, hls, hfs.imp id fun z => ⟨?_, z.2⟩⟩
        have := z.1
        omega
    clear hf hls hfs
    rintro Γ' f' ⟨a, ls, fs, s9, s10, hf, rfl, hls, hfs⟩
    try dsimp only
    refine nx_s ?_
    -- the end
    refine s_seq ?_
    refine s_join (fun Γ' f2 => ∃ a ls fs s9 s10, g ≤ f2 ∧ Γ' = [.pool, .ty t1, .ty (tD K (.int b)), .own a (.lst ((ls.map dLine).map (tD K))), .ty (tD K (.int (n : Nat))), .ty (tD K (.int w)), .ty (tD K (.str l.1)), .ty (tD K (.int l.2.1)), .ty (tD K (dForms fs)), s9, s10, .any, .any, .any, .any, .any] ∧ Mate b ls) (fun X hX => ?_) ?_
    · top_strB
      refine wr_inI (ns := [1, 2, 5, 6]) isTup_T ?_
      top_strB
      refine ⟨fun e => ?_, fun e => ?_⟩
      · have hw : w = 1 ∨ w = 2 ∨ w = 5 ∨ w = 6 := by
          simpa using e
        have els : ls = L := hls.elim id fun z => absurd z.1 (by omega)
        subst els
        have gf : GF ls l fs := hfs.elim (fun z => by rw [z]; exact GF0) (·.2)
        obtain ⟨g2, rfl, hg7, hgc, hgk⟩ := gf
        refine s_setL ?_
        top_strB
        refine ⟨a, _, _, n, dLine (l.1, l.2.1, l.2.2.take (l.2.2.length - 1) ++ [g2]), rfl, rfl, by rw [hlen]; exact ix_nat hn, ?_, ?_⟩
        · unfold dLine
          top_reprB
        rw [← List.map_set, ← List.map_set]
        try dsimp only [List.set]
        exact hX _ _ ⟨a, _, _, _, _, hf, rfl, mate_set dr hLn hg7 hgc hgk⟩
      · top_strB
        refine hX _ _ ⟨a, ls, fs, _, _, hf, rfl, ?_⟩
        rcases hls with rfl | ⟨_, rfl⟩
        · exact drawn_mate dr
        · exact mate_rev dr
    clear hf hls hfs
    rintro Γ' f' ⟨a, ls, fs, s9, s10, hf, rfl, hM⟩
    try dsimp only
    refine nx_s ?_
    refine s_freeze (i := 3) rfl ?_
    try dsimp only [List.set, Sh.ty]
    refine s_ret R ?_
    top_strB
    exact ⟨hf, q _ b _ (isDat_T (isDats_cons isDat_D (isDats_cons (isDat_L isDats_map) isDats_nil))) hM⟩


local macro_rules | `(tactic| top_reprB) => `(tactic| repeat' (first | exact isDat_D | exact isDats_map | exact isDat_ns | refine isDat_L ?_ | refine isDat_T ?_ | refine isDats_cons ?_ ?_ | exact isDats_nil))
local macro_rules | `(tactic| top_strB) => `(tactic| repeat' (first
  | with_reducible refine s_seq ?_ | with_reducible refine s_if ?_ | with_reducible refine s_next ?_ | with_reducible refine wg_name ?_ | ((with_reducible refine nx_go ?_); (try dsimp only); with_reducible refine nx_s ?_)
  | with_reducible refine w_int ?_ | with_reducible refine w_str ?_ | with_reducible refine w_bl ?_ | with_reducible refine w_non ?_
  | ((with_reducible refine w_var ?_); refine ⟨_, rfl, ?_⟩)
  | with_reducible refine w_rep ?_ | with_reducible refine ex_new ?_ | with_reducible refine w_ixOwn ⟨_, _, rfl, ?_⟩ | with_reducible refine w_op ?_ | with_reducible refine w_un ?_ | with_reducible refine w_cb ?_ | with_reducible refine wa_nil ?_ | with_reducible refine wa_cons ?_ | with_reducible refine w_if ?_
  | with_reducible refine wt_test ?_ | with_reducible refine wt_B ?_ | with_reducible refine wb_D ?_ | with_reducible refine wt_yes ?_ | with_reducible refine wt_and ?_ | with_reducible refine wt_or ?_ | with_reducible refine wt_not ?_
  | with_reducible refine w_andV ?_ | with_reducible refine w_orV ?_ | with_reducible refine w_notV ?_ | with_reducible refine w_chain ?_
  | with_reducible refine wr_add ?_ | with_reducible refine wr_sub ?_ | with_reducible refine wr_lt ?_ | with_reducible refine wr_gt ?_ | with_reducible refine wr_le ?_ | with_reducible refine wr_ge ?_ | with_reducible refine wu_neg ?_
  | with_reducible refine wr_eqI ?_ | with_reducible refine wr_neI ?_ | with_reducible refine wr_eqS ?_ | with_reducible refine wr_neS ?_ | with_reducible refine wc_intI ?_ | with_reducible refine wc_intB ?_
  | ((with_reducible refine l1000 ?_ ?_); focus exact rfl) | with_reducible refine w_lst ?_ | with_reducible refine w_tup ?_
  | dsimp only [Rs.t, Sh.ty, List.set, wipeΓ, puts, List.map, List.append_nil, List.nil_append, List.cons_append]))
local macro_rules | `(tactic| top_raise0) => `(tactic| (refine s_asg ?_; top_strB))

def dueD (L : List Line) (x : Str) : PyData := if x ∈ names L then .list [] else .list [.str x]
section
variable {K : PySem.W.Frag} {t : Ad} {vs : List V} {H : Hp} {Q : VK} {E : XK}
theorem one_ty {X : Hp} {u : Ty} (h : TyAll [u] vs X) : ∃ v, vs = [v] ∧ u.is v X := by
  match vs, h with
  | [v], h => exact ⟨v, rfl, h.1⟩
  | [], h => exact h.elim
  | _ :: _ :: _, h => exact h.2.elim
def pkind (K : PySem.W.Frag) : List Ty → (Rs → Prop) → Prop := fun ts κ => ∃ m : Nat, ts = [tD K (.int (m : Nat))] ∧ 0 < m ∧ m ≤ 6 ∧ ∀ b L, Drawn b m L → κ (.ty (tD K (dKind b L)))
theorem br_kind : spP 500 (pkind K) vs H Q E → sp_f_law_kind K t vs H Q E := fun ⟨p, us, f, O, ts, κ, ev, pa, op, live, hA, ⟨m, e, m0, m6, q⟩, c⟩ => by
  subst ev e
  obtain ⟨v, rfl, g⟩ := one_ty hA
  cases g
  exact ⟨p, f, m, rfl, pa, m0, m6, fun H' r b L dr dk k po => c _ _ H' (q b L dr) k po (dp_same (nw_hidP op live) dk)⟩
def pmade (K : PySem.W.Frag) (t : Ad) : List Ty → (Rs → Prop) → Prop := fun ts κ => ∃ (t1 : Ty) (b : Int) (L : List Line), ts = [t1] ∧ IsDat K t1 (dKind b L) ∧ Sound b L ∧ κ (.ty (tBk (t.C_Book, t.C_System) K b L))
theorem br_made : spF (pmade K t) vs H Q E → sp_f_law_made K t vs H Q E := fun ⟨O, ts, κ, live, hA, ⟨t1, b, L, e, h1, So, q⟩, c⟩ => by
  subst e
  obtain ⟨v, rfl, g⟩ := one_ty hA
  obtain ⟨a, x, y, rfl, _⟩ := dp_pair (h1 g)
  exact ⟨a, b, L, rfl, dp_same hidP_le (h1 g), So, fun H' x nx s B => c _ _ H' q s ⟨x, rfl, B.same (nw_hidP0 live)⟩⟩
def pcaught (K : PySem.W.Frag) (t : Ad) : List Ty → (Rs → Prop) → Prop := fun ts κ => ∃ (b : Int) (L : List Line) (n : Str) (w : Int), ts = [tBk (t.C_Book, t.C_System) K b L, tD K (.str n), tD K (.int w)] ∧ Sound b L ∧ κ (.ty (tD K (dueD L n)))
theorem br_caught : spF (pcaught K t) vs H Q E → sp_f_law_caught K t vs H Q E := fun ⟨O, ts, κ, live, hA, ⟨b, L, n, w, e, So, q⟩, c⟩ => by
  subst e
  match vs, hA with
  | [x, y, z], hA =>
    obtain ⟨x0, rfl, B⟩ := hA.1
    have g2 := hA.2.1
    cases g2
    have g3 := hA.2.2.1
    cases g3
    refine ⟨w, x0, n, b, L, rfl, B.same hidP_le, So, fun H' a na s ea => c _ _ H' q s ?_⟩
    have no : ¬ O a := fun z => by
      obtain ⟨o, e, _⟩ := live a z
      rw [na] at e
      cases e
    show Dp K (hidP O H') (.ref a) (dueD L n)
    unfold dueS at ea
    unfold dueD
    split
    · rw [if_pos ‹_›] at ea
      exact .lst (sq_of (hidP_at ea no)) .nil
    · rw [if_neg ‹_›] at ea
      exact .lst (sq_of (hidP_at ea no)) (.cons (.str _) .nil)
  | [], hA => exact hA.elim
  | [_], hA => exact hA.2.elim
  | [_, _], hA => exact hA.2.2.elim
  | _ :: _ :: _ :: _ :: _, hA => exact hA.2.2.2.elim
end
def sp_f_law_right (K : PySem.W.Frag) (_ : Ad) : Sp := fun vs H Q _ => ∃ (p : Addr) (f : Nat), vs = [.ref p] ∧ PoolAt H p (f + 600) ∧ ∀ H', Keep p H H' → PoolAt H' p f → Q (.bl true) H'
theorem right_P {K : PySem.W.Frag} {t : Ad} {vs : List V} {H : Hp} {Q : VK} {E : XK} (h : sp_f_law_right K t vs H Q E) : spP 600 (fun ts κ => ts = [] ∧ κ (.ty (tD K (.bool true)))) vs H Q E := by
  obtain ⟨p, f, rfl, pa, q⟩ := h
  refine ⟨p, [], f, fun a => a = p, [], fun r => r = .ty (tD K (.bool true)), rfl, pa, rfl, fun a ha => ?_, trivial, ⟨rfl, rfl⟩, fun r v H' hr k po g => ?_⟩
  · obtain ⟨o, e, x, y, z, rfl, _⟩ := pa
    exact ⟨_, by rw [ha]; exact e, rfl⟩
  · subst hr
    have e : v = .bl true := by
      have g : Dp K _ v (.bool true) := g
      cases g
      rfl
    rw [e]
    exact q H' k po
def badS : List Str := ["a", "", "S", "sd", " "]
theorem bad_ok : ∀ x ∈ badS, PyData.strOk x = true ∧ x.cps.size ≤ 100 := by
  intro x hx
  unfold PyData.strOk
  rw [← Array.all_toList]
  revert x hx
  decide +kernel
theorem due_nice {L : List Line} {x : Str} (h : PyData.strOk x = true ∧ x.cps.size ≤ 100) : Nice 2 (2 * (101 + 1)) (.list [dueD L x, dueD L x]) := nice_list (k := 1) (w := 101) (n := 2) (fun d hd => by
  have : d = dueD L x := by
    simp only [List.mem_cons, List.not_mem_nil, or_false] at hd
    rcases hd with e | e <;> exact e
  rw [this]
  unfold dueD
  split
  · exact (nice_list (k := 0) (w := 0) (n := 0) (ds := []) (fun d hd => (by cases hd)) (Nat.le_refl _)).more (by decide) (by decide)
  · exact (nice_list (k := 0) (w := 100) (n := 1) (fun d hd => by rw [List.mem_singleton.mp hd]; exact nice_str h.1 h.2) (Nat.le_refl _)).more (by decide) (by decide)) (Nat.le_of_ble_eq_true rfl)
theorem three_bools (a b c : Bool) : SeqAt.shaped (.list [.bool a, .bool b, .bool c]) = true ∧ PyData.eqv (.list [.bool a, .bool b, .bool c]) (.list [.bool a, .bool b, .bool c]) = true := by
  cases a <;> cases b <;> cases c <;> decide +kernel
theorem ok_f_law_right {P : Program} {w : World} {K : PySem.W.Frag} {mg : Str → Option Value} {base : Heap} {t : Ad} (T : Txt K mg t) : GOk P w K mg base CX0 6 t.a_f_law_right t.d_f_law_right ["pool"] (sp_f_law_right K t) := by
  refine GOk.body T.F_f_law_right sc_f_law_right (fun vs H Q E h => ?_) (fun cdv A outer s H vs Q E hc hr h => ⟨_, (pss_cons (ps_set (i := 1) sc_f_law_right.nd rfl (Or.inl rfl) (pe_call (ok_f_law_kind T) (hr.mono (by decide)) (by rfl) T.g_f_law_kind T.F_f_law_kind.kp T.b_f_law_kind .nil pass0 (pa_cons (pv 0) (pa_cons pe_int pa_nil))))
      (pss_cons (ps_set (i := 2) sc_f_law_right.nd rfl (Or.inl rfl) (pe_call (ok_f_law_other T) (hr.mono (by decide)) (by rfl) T.g_f_law_other T.F_f_law_other.kp T.b_f_law_other .nil pass0 (pa_cons (pv 0) (pa_cons (pv 1) pa_nil))))
      (pss_cons (ps_asg (pe_tup (pa_cons (pe_call (ok_f_law_made T) (hr.mono (by decide)) (by rfl) T.g_f_law_made T.F_f_law_made.kp T.b_f_law_made .nil pass0 (pa_cons (pv 1) pa_nil)) (pa_cons (pe_call (ok_f_law_made T) (hr.mono (by decide)) (by rfl) T.g_f_law_made T.F_f_law_made.kp T.b_f_law_made .nil pass0 (pa_cons (pv 2) pa_nil)) pa_nil))) (pg_tup rfl (pgs_cons (pg_name (i := 3) sc_f_law_right.nd rfl (Or.inr rfl)) (pgs_cons (pg_name (i := 4) sc_f_law_right.nd rfl (Or.inl rfl)) pgs_nil))))
      (pss_cons (ps_set (i := 5) sc_f_law_right.nd rfl (Or.inl rfl) (pe_cmpR op_eq (pe_callB (call_reprD hr hc) (by rfl) T.m_repr (by decide +kernel) (pa_cons (pe_op op_catQ (pe_lst (pa_cons (pe_ix ix_tup (pv 1) pe_int (fun _ _ => rfl)) pa_nil)) (pe_lc (own := [("line", 9)]) (te := (tCB (rListOf K) (tCons (tVar 9) tNil))) (tt := tYes) (g := (gName 9)) rfl sc_f_law_right.nd (pi_list (pe_ix ix_tup (pv 1) pe_int (fun _ _ => rfl))) (blkOk_by (own := [("line", 9)]) (N := N_f_law_right) (sc := defScope s_f_law_right) (by decide +kernel)) (fun _ _ _ _ _ => (pg_name (i := 9) sc_f_law_right.nd rfl (Or.inl rfl))) (fun _ _ _ _ _ => pts_nil) (fun _ _ _ _ _ => (pe_callTy (T := "list") call_list_of (by rfl) T.m_list (by decide +kernel) (pa_cons (pv 9) pa_nil))))) pa_nil)) (pe_callB (call_reprD hr hc) (by rfl) T.m_repr (by decide +kernel) (pa_cons (pe_op op_catQ (pe_lst (pa_cons (pe_ix ix_tup (pv 2) pe_int (fun _ _ => rfl)) pa_nil)) (pe_lc (own := [("line", 9)]) (te := (tCB (rListOf K) (tCons (tVar 9) tNil))) (tt := tYes) (g := (gName 9)) rfl sc_f_law_right.nd (pi_list (pe_ix ix_tup (pv 2) pe_int (fun _ _ => rfl))) (blkOk_by (own := [("line", 9)]) (N := N_f_law_right) (sc := defScope s_f_law_right) (by decide +kernel)) (fun _ _ _ _ _ => (pg_name (i := 9) sc_f_law_right.nd rfl (Or.inl rfl))) (fun _ _ _ _ _ => pts_nil) (fun _ _ _ _ _ => (pe_callTy (T := "list") call_list_of (by rfl) T.m_list (by decide +kernel) (pa_cons (pv 9) pa_nil))))) pa_nil)) (nomark _)))
      (pss_cons (ps_if (PW.pt (pw_or (pt_cmpR (op_neD hr.units) (pe_lst (pa_cons (pe_cmpR (op_eqF (ok_f_Book___eq__ T) T.t_f_Book___eq__.1 T.t_f_Book___eq__.2 T.b_f_Book___eq__ pass0 (hr.mono (by decide))) (pv 3) (pv 4) (nomark _)) (pa_cons (pe_cmpR (op_eqF (ok_f_Book___eq__ T) T.t_f_Book___eq__.1 T.t_f_Book___eq__.2 T.b_f_Book___eq__ pass0 (hr.mono (by decide))) (pv 4) (pv 3) (nomark _)) (pa_cons (pe_cmpR (op_neF (ok_f_Book___eq__ T) T.t_f_Book___eq__.1 T.t_f_Book___eq__.2 T.b_f_Book___eq__ T.e_Book.hm T.ne_Book pass0 (hr.mono (by decide))) (pv 3) (pv 4) (nomark _)) pa_nil)))) (pe_lst (pa_cons (pv 5) (pa_cons (pv 5) (pa_cons (pe_not (pv 5)) pa_nil)))) (nomark _)) (pw_or1 (pt_not (pt_cmpR (op_eqF (ok_f_Book___eq__ T) T.t_f_Book___eq__.1 T.t_f_Book___eq__.2 T.b_f_Book___eq__ pass0 (hr.mono (by decide))) (pv 3) (pe_call (ok_f_law_made T) (hr.mono (by decide)) (by rfl) T.g_f_law_made T.F_f_law_made.kp T.b_f_law_made .nil pass0 (pa_cons (pv 1) pa_nil)) (nomark _)))))) (pss_one (ps_ret pe_bl)) pss_nil)
      (pss_cons (ps_setLc (i := 6) (own := [("line", 9)]) (te := (tOp (rIxT K) (tVar 9) (tC (.int 0)))) (tt := tYes) (g := (gName 9)) rfl sc_f_law_right.nd rfl rfl (sw_true rfl rfl rfl (by decide +kernel)) (pi_list (pe_ix ix_tup (pv 1) pe_int (fun _ _ => rfl))) (blkOk_by (own := [("line", 9)]) (N := N_f_law_right) (sc := defScope s_f_law_right) (by decide +kernel)) (fun _ _ _ _ _ => (pg_name (i := 9) sc_f_law_right.nd rfl (Or.inl rfl))) (fun _ _ _ _ _ => pts_nil) (fun _ _ _ _ _ => (pe_ix ix_tup (pv 9) pe_int (fun _ _ => rfl))))
      (pss_cons (ps_for PassesOwn.never rfl (pi_tup (pe_op op_catT (pe_tup (pa_cons pe_str (pa_cons pe_str (pa_cons pe_str (pa_cons pe_str (pa_cons pe_str pa_nil)))))) (pe_callTy (T := "tuple") call_tuple_of (by rfl) T.m_tuple (by decide +kernel) (pa_cons (pv 6) pa_nil)))) (pg_name (i := 7) sc_f_law_right.nd rfl (Or.inr rfl)) (pss_cons (ps_set (i := 8) sc_f_law_right.nd rfl (Or.inl rfl) (pe_ifExp (pt_cmpR op_in_seq (pv 7) (pv 6) rfl) (pe_lst pa_nil) (pe_lst (pa_cons (pv 7) pa_nil))))
      (pss_one (ps_if (pt_cmpR (op_neD hr.units) (pe_lc (own := [("which", 10)]) (te := (tCall (sp_f_law_caught K t) [] E0 (tCons (tVar 3) (tCons (tVar 7) (tCons (tVar 10) tNil))))) (tt := tYes) (g := (gName 10)) rfl sc_f_law_right.nd (pi_tup (pe_tup (pa_cons pe_int (pa_cons pe_int pa_nil)))) (blkOk_by (own := [("which", 10)]) (N := N_f_law_right) (sc := defScope s_f_law_right) (by decide +kernel)) (fun _ _ _ _ _ => (pg_name (i := 10) sc_f_law_right.nd rfl (Or.inl rfl))) (fun _ _ _ _ _ => pts_nil) (fun _ _ _ _ _ => (pe_call (ok_f_law_caught T) (hr.mono (by decide)) (by rfl) T.g_f_law_caught T.F_f_law_caught.kp T.b_f_law_caught .nil pass0 (pa_cons (pv 3) (pa_cons (pv 7) (pa_cons (pv 10) pa_nil)))))) (pe_lst (pa_cons (pv 8) (pa_cons (pv 8) pa_nil))) (nomark _)) (pss_one (ps_ret pe_bl)) pss_nil))))
      (pss_one (ps_ret (pe_cmpR (op_eqD hr.units) (pe_lc (own := [("thing", 11)]) (te := (tC (.int 1))) (tt := (tTest (tOp (rEqB K t.C_Book (EqBook (t.C_Book, t.C_System) K) false) (tVar 3) (tVar 11)))) (g := (gName 11)) rfl sc_f_law_right.nd (pi_tup (pe_tup (pa_cons (pv 1) (pa_cons (pv 6) (pa_cons (pe_ix ix_tup (pv 1) pe_int (fun _ _ => rfl)) (pa_cons pe_non (pa_cons pe_str pa_nil))))))) (blkOk_by (own := [("thing", 11)]) (N := N_f_law_right) (sc := defScope s_f_law_right) (by decide +kernel)) (fun _ _ _ _ _ => (pg_name (i := 11) sc_f_law_right.nd rfl (Or.inl rfl))) (fun _ _ _ _ _ => (pts_one (pt_cmpR (op_eqF (ok_f_Book___eq__ T) T.t_f_Book___eq__.1 T.t_f_Book___eq__.2 T.b_f_Book___eq__ pass0 (hr.mono (by decide))) (pv 3) (pv 11) (nomark _)))) (fun _ _ _ _ _ => pe_int)) (pe_lst pa_nil) (nomark _))))))))))), fn_runP (K := K) (fun ts κ h => by rw [h.1]; exact Nat.le_of_ble_eq_true rfl) (fun F g ts κ hP R => ?_) (right_P h)⟩)
  · obtain ⟨p, f, rfl, _⟩ := h
    rfl
  · obtain ⟨rfl, q⟩ := hP
    show S K F [Sl.pool, Sl.any, Sl.any, Sl.any, Sl.any, Sl.any, Sl.any, Sl.any, Sl.any, Sl.any, Sl.any, Sl.any] _ _ _; dsimp only [cxOf]
    top_strB
    refine s_asg ?_
    refine w_callP (n := 500) (fun _ _ _ => br_kind) rfl ?_
    top_strB
    refine ⟨g + 100, rfl, 4, rfl, by decide, by decide, fun b L dr => ?_⟩
    top_strB
    refine s_asg ?_
    refine w_callP (n := 2) (P := pother K) (fun _ _ _ h => h) rfl ?_
    top_strB
    refine ⟨g + 98, rfl, _, b, L, rfl, isDat_D, dr, fun um b' L' hu M' => ?_⟩
    have M := drawn_mate dr
    have So := M.sound
    have So' := M'.sound
    top_strB
    refine s_asg ?_
    top_strB
    refine w_call (P := pmade K t) (fun _ _ _ => br_made) ?_
    top_strB
    refine ⟨_, b, L, rfl, isDat_D, So, ?_⟩
    top_strB
    refine w_call (P := pmade K t) (fun _ _ _ => br_made) ?_
    top_strB
    refine ⟨_, b', L', rfl, hu, So', ?_⟩
    top_strB
    refine wg_tup [3, 4] rfl isTup_T rfl rfl ?_
    try dsimp only [puts, List.set]
    refine nx_s ?_
    refine s_seq ?_
    refine s_asg ?_
    -- due
    have lst : ∀ (ls : List Line), ls.length ≤ 4 → ((ls.map dLine).map (tD K)).length < 10000 := fun ls h => by rw [List.length_map, List.length_map]; omega
    top_strB
    refine wr_ixT 0 isTup_D rfl rfl ?_
    top_strB
    refine w_lcL (gin_name (by decide)) ?_
    top_strB
    refine wr_ixT 1 isTup_D rfl rfl ?_
    refine ⟨_, isLst_D, lst L M.most, fun i f2 acc => f2 = g + 98 ∧ acc.length = i ∧ IsDats K acc ((L.take i).map lineD), ⟨rfl, rfl, isDats_nil⟩, ?_, ?_⟩
    · rintro F' i u f2 acc hp hu' ⟨rfl, hal, hacc⟩
      obtain ⟨l, hl, rfl⟩ := lines_of hu'
      top_strB
      refine ⟨rfl, ?_⟩
      top_strB
      refine ⟨fun _ => ?_, fun z => (by cases z)⟩
      top_strB
      refine wc_list (.inr isTup_D) ?_
      refine ⟨rfl, by rw [List.length_append, hal]; rfl, ?_⟩
      rw [take_snoc hl, List.map_append]
      refine @isDats_app K _ _ _ _ hacc ?_
      refine @isDats_cons K _ _ _ _ ?_ isDats_nil
      unfold lineD
      exact isDat_L isDats_map
    rintro f2 acc ⟨rfl, hal, hacc⟩
    rw [List.length_map, List.length_map] at hal
    rw [List.length_map, List.length_map, List.take_of_length_le (Nat.le_refl _)] at hacc
    top_strB
    refine wr_cat isLst_L isLst_L (by have := M.most; simp; omega) ?_
    top_strB
    refine wc_repr (d := bookD b L) (isDat_L (isDats_cons isDat_D hacc)) (.inl ⟨_, rfl⟩) (mate_told M) ?_
    top_strB
    refine wr_ixT 0 (fun h => isTup_D (hu h)) rfl rfl ?_
    top_strB
    refine w_lcL (gin_name (by decide)) ?_
    top_strB
    refine wr_ixT 1 (fun h => isTup_D (hu h)) rfl rfl ?_
    refine ⟨_, isLst_D, lst L' M'.most, fun i f2 acc => f2 = g + 98 ∧ acc.length = i ∧ IsDats K acc ((L'.take i).map lineD), ⟨rfl, rfl, isDats_nil⟩, ?_, ?_⟩
    · rintro F' i u f2 acc hp hu' ⟨rfl, hal, hacc⟩
      obtain ⟨l, hl, rfl⟩ := lines_of hu'
      top_strB
      refine ⟨rfl, ?_⟩
      top_strB
      refine ⟨fun _ => ?_, fun z => (by cases z)⟩
      top_strB
      refine wc_list (.inr isTup_D) ?_
      refine ⟨rfl, by rw [List.length_append, hal]; rfl, ?_⟩
      rw [take_snoc hl, List.map_append]
      refine @isDats_app K _ _ _ _ hacc ?_
      refine @isDats_cons K _ _ _ _ ?_ isDats_nil
      unfold lineD
      exact isDat_L isDats_map
    clear hal hacc
    rintro f2 acc ⟨rfl, hal, hacc⟩
    rw [List.length_map, List.length_map] at hal
    rw [List.length_map, List.length_map, List.take_of_length_le (Nat.le_refl _)] at hacc
    top_strB
    refine wr_cat isLst_L isLst_L (by have := M'.most; simp; omega) ?_
    top_strB
    refine wc_repr (d := bookD b' L') (isDat_L (isDats_cons isDat_D hacc)) (.inl ⟨_, rfl⟩) (mate_told M') ?_
    top_strB
    rw [book_shown M M']
    have hsym : bookAns b' b L' L = bookAns b b' L L' := by
      rw [← book_shown M M', ← book_shown M' M, Bool.eq_iff_iff, decide_eq_true_iff, decide_eq_true_iff]
      exact ⟨Eq.symm, Eq.symm⟩
    top_strB
    refine wr_eqBook T.c_Book T.e_Book T.nf_Book_Book So So' ?_
    top_strB
    refine wr_eqBook T.c_Book T.e_Book T.nf_Book_Book So' So ?_
    rw [hsym]
    top_strB
    refine wr_neBook T.c_Book T.e_Book T.nf_Book_Book So So' ?_
    top_strB
    generalize bookAns b b' L L' = v
    refine wr_neD (d := .list [.bool v, .bool v, .bool (!v)]) (e := .list [.bool v, .bool v, .bool (!v)]) ?_ ?_ (three_bools _ _ _).1 (three_bools _ _ _).1 ?_
    · top_reprB
    · top_reprB
    rw [(three_bools _ _ _).2]
    top_strB
    refine ⟨fun z => (by cases z), fun _ => ?_⟩
    top_strB
    refine w_call (P := pmade K t) (fun _ _ _ => br_made) ?_
    top_strB
    refine ⟨_, b, L, rfl, isDat_D, So, ?_⟩
    top_strB
    refine wr_eqBook T.c_Book T.e_Book T.nf_Book_Book So So ?_
    rw [bookAns_self So]
    top_strB
    refine ⟨fun z => (by cases z), fun _ => ?_⟩
    top_strB
    -- letters
    refine s_asg ?_
    refine w_lcL (gin_name (by decide)) ?_
    top_strB
    refine wr_ixT 1 isTup_D rfl rfl ?_
    refine ⟨_, isLst_D, lst L M.most, fun i f2 acc => f2 = g + 98 ∧ acc = tSs K ((names L).take i), ⟨rfl, rfl⟩, ?_, ?_⟩
    · rintro F' i u f2 acc hp hu' ⟨rfl, rfl⟩
      obtain ⟨l, hl, rfl⟩ := lines_of hu'
      have hln : (names L)[i]? = some l.1 := by unfold names; rw [List.getElem?_map, hl]; rfl
      top_strB
      refine ⟨rfl, ?_⟩
      top_strB
      refine ⟨fun _ => ?_, fun z => (by cases z)⟩
      top_strB
      refine wr_ixT 0 isTup_D rfl rfl ?_
      rw [take_snoc hln, ← tSs_snoc]
      exact ⟨rfl, rfl⟩
    rintro f2 acc2 ⟨rfl, rfl⟩
    rw [List.length_map, List.length_map, List.take_of_length_le (by unfold names; rw [List.length_map]; exact Nat.le_refl _)]
    have hnl : (names L).length ≤ 4 := by unfold names; rw [List.length_map]; exact M.most
    top_strB
    -- the loop
    refine s_forT ?_
    top_strB
    refine wc_tuple isLst_L ?_
    refine wr_catT (ts := tSs K badS) isTup_T isTup_T (by intro z; cases z) (by rw [tSs_len, tSs_len]; show 5 + _ ≤ _; omega) ?_
    rw [tSs_app]
    refine ⟨_, isTup_T, fun i Γ' f2 => ∃ s7 s8, f2 = g + 98 ∧ Γ' = [.pool, .ty (tD K (dKind b L)), .ty um, .ty (tBk (t.C_Book, t.C_System) K b L), .ty (tBk (t.C_Book, t.C_System) K b' L'), .ty (tD K (.bool v)), .ty (tL K (tSs K (names L))), s7, s8, .any, .any, .any], ⟨_, _, rfl, rfl⟩, ?_, ?_⟩
    · rintro x0 w0 i u Γ' f2 hu' ⟨s7, s8, rfl, rfl⟩
      obtain ⟨x, hx, rfl⟩ := tSs_of hu'
      have hxo : PyData.strOk x = true ∧ x.cps.size ≤ 100 := by
        rcases List.mem_append.mp (List.mem_of_getElem? hx) with h | h
        · exact bad_ok x h
        · exact pool7_ok x (M.names x h)
      have N := due_nice (L := L) hxo
      top_strB
      refine s_asgD (dueD L x) ?_
      top_strB
      refine wr_inS isDat_ss ?_
      top_strB
      refine ⟨fun e => ?_, fun e => ?_⟩
      all_goals
        top_strB
        refine ⟨?_, ?_⟩
        · unfold dueD
          first
            | rw [if_pos (show x ∈ names L from of_decide_eq_true e)]
            | rw [if_neg (show x ∉ names L from of_decide_eq_false e)]
          top_reprB
        top_strB
        refine w_lcT (gin_name (by decide)) ?_
        top_strB
        refine ⟨_, isTup_T, Nat.le_of_ble_eq_true rfl, fun i f2 acc => f2 = g + 98 ∧ acc = List.replicate i (tD K (dueD L x)), ⟨rfl, rfl⟩, ?_, ?_⟩
        · rintro F' i u f2 acc hp hu2 ⟨rfl, rfl⟩
          obtain ⟨w, rfl⟩ : ∃ w : Int, u = tD K (.int w) := by
            rcases i with _ | _ | i
            · exact ⟨0, (Option.some.inj hu2).symm⟩
            · exact ⟨1, (Option.some.inj hu2).symm⟩
            · cases hu2
          top_strB
          refine ⟨rfl, ?_⟩
          top_strB
          refine ⟨fun _ => ?_, fun z => (by cases z)⟩
          refine w_call (P := pcaught K t) (fun _ _ _ => br_caught) ?_
          top_strB
          refine ⟨b, L, x, w, rfl, So, rfl, ?_⟩
          rw [List.replicate_succ']
        rintro f2 acc ⟨rfl, rfl⟩
        top_strB
        refine wr_neD (d := .list [dueD L x, dueD L x]) (e := .list [dueD L x, dueD L x]) (show IsDat K (tL K [tD K (dueD L x), tD K (dueD L x)]) _ by top_reprB) (by top_reprB) (N.shaped (by decide)) (N.shaped (by decide)) ?_
        rw [N.eqv]
        top_strB
        refine ⟨fun z => (by cases z), fun _ => ?_⟩
        top_strB
        exact inv_nx ⟨_, _, rfl, rfl⟩
    rintro Γ' f2 ⟨s7, s8, rfl, rfl⟩
    try dsimp only
    refine nx_s ?_
    refine s_ret R ?_
    top_strB
    refine w_lcT (gin_name (by decide)) ?_
    top_strB
    refine wr_ixT 0 isTup_D rfl rfl ?_
    top_strB
    refine ⟨_, isTup_T, Nat.le_of_ble_eq_true rfl, fun i f2 acc => f2 = g + 98 ∧ acc = [], ⟨rfl, rfl⟩, ?_, ?_⟩
    · rintro F' i u f2 acc hp hu2 ⟨rfl, rfl⟩
      obtain ⟨ty, ho, ki, nf⟩ : ∃ ty, OfKind K u ty ∧ PySem.W.kitOne K ty (.ref t.C_Book) = some false ∧ PySem.W.notFirst K t.C_Book ty = true := by
        rcases i with _ | _ | _ | _ | _ | i
        · cases hu2
          exact ⟨_, kind_T isTup_D, T.ki_Book_tuple, T.nf_Book_tuple⟩
        · cases hu2
          exact ⟨_, kind_L, T.ki_Book_list, T.nf_Book_list⟩
        · cases hu2
          exact ⟨_, kind_int, T.ki_Book_int, T.nf_Book_int⟩
        · cases hu2
          exact ⟨_, kind_non, T.ki_Book_none, T.nf_Book_none⟩
        · cases hu2
          exact ⟨_, kind_str, T.ki_Book_str, T.nf_Book_str⟩
        · cases hu2
      top_strB
      refine ⟨rfl, ?_⟩
      top_strB
      refine wr_eqBookX So ho ki nf ?_
      top_strB
      exact ⟨fun z => (by cases z), fun _ => ⟨rfl, rfl⟩⟩
    rintro f2 acc ⟨rfl, rfl⟩
    top_strB
    refine wr_eqD (d := .list []) (e := .list []) (isDat_L isDats_nil) (isDat_L isDats_nil) shaped_nil shaped_nil ?_
    rw [eqv_nil]
    exact ⟨by omega, q⟩


theorem ok_f_law {P : Program} {w : World} {K : PySem.W.Frag} {mg : Str → Option Value} {base : Heap} {t : Ad} (T : Txt K mg t) : GOk P w K mg base CX0 7 t.a_f_law t.d_f_law ["script"] (spLaw K) := by
  refine GOk.body T.F_f_law sc_f_law (fun vs H Q E h => ?_) (fun cdv A outer s H vs Q E hc hr h => ?_)
  · obtain ⟨a, ns, rfl, _⟩ := h
    rfl
  · obtain ⟨a, ns, rfl, hS, hl, q⟩ := h
    refine ⟨_, (pss_cons (ps_for PassesOwn.never rfl (pi_range1 (by rfl) T.m_range (pa_cons (pe_callB (call_max2 rfl) (by rfl) T.m_max (by decide +kernel) (pa_cons pe_int (pa_cons (pe_callB (call_min2 rfl) (by rfl) T.m_min (by decide +kernel) (pa_cons pe_int (pa_cons (pe_callB call_len_seq (by rfl) T.m_len (by decide +kernel) (pa_cons (pv 0) pa_nil)) pa_nil))) pa_nil))) pa_nil)) (pg_name (i := 1) sc_f_law.nd rfl (Or.inl rfl)) (pss_cons (ps_set (i := 2) sc_f_law.nd rfl (Or.inl rfl) (pe_call (ok_f_law_pool T) (hr.mono (by decide)) (by rfl) T.g_f_law_pool T.F_f_law_pool.kp T.b_f_law_pool .nil pass0 (pa_cons (pv 0) (pa_cons (pv 1) pa_nil))))
      (pss_one (ps_for PassesOwn.never rfl (pi_range1 (by rfl) T.m_range (pa_cons pe_int pa_nil)) (pg_name (i := 3) sc_f_law.nd rfl (Or.inl rfl)) (pss_one (ps_if (pt_not (pt_val (pe_callG (ok_f_law_right T) (hr.mono (by decide)) hc (by rfl) T.g_f_law_right T.F_f_law_right.kp T.b_f_law_right pass0 (pa_cons (pv 2) pa_nil)))) (pss_one (ps_ret pe_bl)) pss_nil))))))
      (pss_one (ps_ret pe_bl))), ?_⟩
    rw [show L2.start N_f_law [V.ref a] = [some (V.ref a), none, none, none] from rfl]; try dsimp only [cxOf]
    top_caughtB
    have hge : (1 : Int) ≤ (if (if (((ns.map V.int).length : Nat) : Int) < 6 then (((ns.map V.int).length : Nat) : Int) else 6) > 1 then (if (((ns.map V.int).length : Nat) : Int) < 6 then (((ns.map V.int).length : Nat) : Int) else 6) else 1) ∧ (if (if (((ns.map V.int).length : Nat) : Int) < 6 then (((ns.map V.int).length : Nat) : Int) else 6) > 1 then (if (((ns.map V.int).length : Nat) : Int) < 6 then (((ns.map V.int).length : Nat) : Int) else 6) else 1) ≤ 6 := by
      constructor <;> (repeat' split) <;> omega
    generalize (if (if (((ns.map V.int).length : Nat) : Int) < 6 then (((ns.map V.int).length : Nat) : Int) else 6) > 1 then (if (((ns.map V.int).length : Nat) : Int) < 6 then (((ns.map V.int).length : Nat) : Int) else 6) else 1) = m at hge ⊢
    refine ⟨by omega, by omega, ?_⟩
    refine for_range (D := ⟨_, _, fun _ _ => False, fun _ _ => False⟩) (lo := 0) (n := m.toNat) (fun i σ H' => ∃ u v w, σ = [some (.ref a), u, v, w] ∧ Same H H') ⟨none, none, none, rfl, Same.refl H⟩ ?_ ?_
    · rintro i σ H1 hi ⟨u, v, w, rfl, s1⟩
      have hi6 : i ≤ 5 := by omega
      top_caughtB
      rw [show (0 : Int) + (i : Int) = ((i : Nat) : Int) by omega]
      refine ⟨a, ns, i, rfl, s1.seq hS, hi6, fun o p po np => ?_⟩
      top_caughtB
      refine ⟨by decide, by decide, ?_⟩
      refine for_range (D := ⟨_, _, fun _ _ => False, fun _ _ => False⟩) (lo := 0) (n := 5) (fun j σ H' => ∃ w, σ = [some (.ref a), some (.int (i : Int)), some (.ref p), w] ∧ Keep p H1 H' ∧ PoolAt H' p (1000000 - 600 * j)) ⟨w, rfl, Keep.new np, o, upd_same, po⟩ ?_ ?_
      · rintro j σ H2 hj ⟨w, rfl, k2, p2⟩
        top_caughtB
        refine ⟨p, 1000000 - 600 * (j + 1), rfl, by rw [show 1000000 - 600 * (j + 1) + 600 = 1000000 - 600 * j by omega]; exact p2, fun H3 k3 p3 => ?_⟩
        top_caughtB
        have fin : ∃ w, [some (V.ref a), some (V.int (i : Int)), some (V.ref p), some (V.int (0 + (j : Int)))] = [some (V.ref a), some (V.int (i : Int)), some (V.ref p), w] ∧ Keep p H1 H3 ∧ PoolAt H3 p (1000000 - 600 * (j + 1)) := ⟨_, rfl, k2.trans k3, p3⟩
        exact fin
      · rintro σ H2 ⟨w, rfl, k2, p2⟩
        refine ⟨_, _, _, rfl, Fb.Same.of_keep s1 k2 ?_⟩
        cases e : H p with
        | none => rfl
        | some o => exact absurd (s1 _ _ e) (by rw [np]; exact fun z => by cases z)
    · rintro σ H1 ⟨u, v, w, rfl, s1⟩
      top_caughtB
      exact q _

theorem all_mk {l : PySem.W.OpenLaw} {w : World} {K : PySem.W.Frag} {h : Heap} {mg : Str → Option Value} {fa a0 a1 a2 a3 a4 a5 a6 a7 a8 a9 a10 a11 a12 a13 a14 a15 a16 a17 a18 a19 a20 a21 a22 a23 a24 C_Book C_System a_init C_BookError C_InvalidName C_InvalidBase C_InvalidFormula C_InvalidNumber C_Unsound : Addr} (X : K.In h) (G : h.Ns mainGlobals mg) (hfa : mg "law" = some (.ref fa))
    {od0 an0 : Option Addr} {sl0 : Array (Option Value)} {oc0 kV0 dc0 pm0 cd0 ct0 : Value}
    {od1 an1 : Option Addr} {sl1 : Array (Option Value)} {oc1 kV1 dc1 pm1 cd1 ct1 : Value}
    {od2 an2 : Option Addr} {sl2 : Array (Option Value)} {oc2 kV2 dc2 pm2 cd2 ct2 : Value}
    {od3 an3 : Option Addr} {sl3 : Array (Option Value)} {oc3 kV3 dc3 pm3 cd3 ct3 : Value}
    {od4 an4 : Option Addr} {sl4 : Array (Option Value)} {oc4 kV4 dc4 pm4 cd4 ct4 : Value}
    {od5 an5 : Option Addr} {sl5 : Array (Option Value)} {oc5 kV5 dc5 pm5 cd5 ct5 : Value}
    {od6 an6 : Option Addr} {sl6 : Array (Option Value)} {oc6 kV6 dc6 pm6 cd6 ct6 : Value}
    {od7 an7 : Option Addr} {sl7 : Array (Option Value)} {oc7 kV7 dc7 pm7 cd7 ct7 : Value}
    {od8 an8 : Option Addr} {sl8 : Array (Option Value)} {oc8 kV8 dc8 pm8 cd8 ct8 : Value}
    {od9 an9 : Option Addr} {sl9 : Array (Option Value)} {oc9 kV9 dc9 pm9 cd9 ct9 : Value}
    {od10 an10 : Option Addr} {sl10 : Array (Option Value)} {oc10 kV10 dc10 pm10 cd10 ct10 : Value}
    {od11 an11 : Option Addr} {sl11 : Array (Option Value)} {oc11 kV11 dc11 pm11 cd11 ct11 : Value}
    {od12 an12 : Option Addr} {sl12 : Array (Option Value)} {oc12 kV12 dc12 pm12 cd12 ct12 : Value}
    {od13 an13 : Option Addr} {sl13 : Array (Option Value)} {oc13 kV13 dc13 pm13 cd13 ct13 : Value}
    {od14 an14 : Option Addr} {sl14 : Array (Option Value)} {oc14 kV14 dc14 pm14 cd14 ct14 : Value}
    {od15 an15 : Option Addr} {sl15 : Array (Option Value)} {oc15 kV15 dc15 pm15 cd15 ct15 : Value}
    {od16 an16 : Option Addr} {sl16 : Array (Option Value)} {oc16 kV16 dc16 pm16 cd16 ct16 : Value}
    {od17 an17 : Option Addr} {sl17 : Array (Option Value)} {oc17 kV17 dc17 pm17 cd17 ct17 : Value}
    {od18 an18 : Option Addr} {sl18 : Array (Option Value)} {oc18 kV18 dc18 pm18 cd18 ct18 : Value}
    {od19 an19 : Option Addr} {sl19 : Array (Option Value)} {oc19 kV19 dc19 pm19 cd19 ct19 : Value}
    {od20 an20 : Option Addr} {sl20 : Array (Option Value)} {oc20 kV20 dc20 pm20 cd20 ct20 : Value}
    {od21 an21 : Option Addr} {sl21 : Array (Option Value)} {oc21 kV21 dc21 pm21 cd21 ct21 : Value}
    {od22 an22 : Option Addr} {sl22 : Array (Option Value)} {oc22 kV22 dc22 pm22 cd22 ct22 : Value}
    {od23 an23 : Option Addr} {sl23 : Array (Option Value)} {oc23 kV23 dc23 pm23 cd23 ct23 : Value}
    {od24 an24 : Option Addr} {sl24 : Array (Option Value)} {oc24 kV24 dc24 pm24 cd24 ct24 : Value}
    {odI anI : Option Addr} {slI : Array (Option Value)} {ocI dcI pmI cdI ctI : Value}
    {nmInvalidName qnInvalidName : Str} {NNInvalidName : Addr} {bsInvalidName : List Value} {snInvalidName : List Str} {subInvalidName : List Value} {abInvalidName : Bool} {colInvalidName : Option Bool} {ddInvalidName : Option Addr} {maInvalidName mbInvalidName mcInvalidName mdInvalidName meInvalidName : Option Value}
    (x0 : PySem.W.nsIn K mainGlobals "check_base" = some (some (.ref a0)))
    (l0 : K.lookup a0 = some ⟨oc0, od0, .func (PySem.W.fnOf "check_base" "check_base" (defArgs s_f_check_base) (defBody s_f_check_base) (defScope s_f_check_base) .none kV0 dc0 pm0 an0 cd0 ct0), sl0⟩)
    (c0 : PySem.W.codeIn K cd0 "check_base" = true)
    (k0 : PySem.W.keepIn K (.ref a0) = true)
    (x1 : PySem.W.nsIn K mainGlobals "is_letter" = some (some (.ref a1)))
    (l1 : K.lookup a1 = some ⟨oc1, od1, .func (PySem.W.fnOf "is_letter" "is_letter" (defArgs s_f_is_letter) (defBody s_f_is_letter) (defScope s_f_is_letter) .none kV1 dc1 pm1 an1 cd1 ct1), sl1⟩)
    (c1 : PySem.W.codeIn K cd1 "is_letter" = true)
    (k1 : PySem.W.keepIn K (.ref a1) = true)
    (x2 : PySem.W.findIn K (.ref C_System) "__init__" = some (some (.ref a2)))
    (i2 : PySem.W.isFn K (.ref a2) = true)
    (l2 : K.lookup a2 = some ⟨oc2, od2, .func (PySem.W.fnOf "__init__" "System.__init__" (defArgs s_f_System___init__) (defBody s_f_System___init__) (defScope s_f_System___init__) .none kV2 dc2 pm2 an2 cd2 ct2), sl2⟩)
    (c2 : PySem.W.codeIn K cd2 "System.__init__" = true)
    (k2 : PySem.W.keepIn K (.ref a2) = true)
    (x3 : PySem.W.findIn K (.ref C_Book) "__init__" = some (some (.ref a3)))
    (i3 : PySem.W.isFn K (.ref a3) = true)
    (l3 : K.lookup a3 = some ⟨oc3, od3, .func (PySem.W.fnOf "__init__" "Book.__init__" (defArgs s_f_Book___init__) (defBody s_f_Book___init__) (defScope s_f_Book___init__) .none kV3 dc3 pm3 an3 cd3 ct3), sl3⟩)
    (c3 : PySem.W.codeIn K cd3 "Book.__init__" = true)
    (k3 : PySem.W.keepIn K (.ref a3) = true)
    (x4 : PySem.W.findIn K (.ref C_Book) "index_of" = some (some (.ref a4)))
    (i4 : PySem.W.isFn K (.ref a4) = true)
    (l4 : K.lookup a4 = some ⟨oc4, od4, .func (PySem.W.fnOf "index_of" "Book.index_of" (defArgs s_f_Book_index_of) (defBody s_f_Book_index_of) (defScope s_f_Book_index_of) .none kV4 dc4 pm4 an4 cd4 ct4), sl4⟩)
    (c4 : PySem.W.codeIn K cd4 "Book.index_of" = true)
    (k4 : PySem.W.keepIn K (.ref a4) = true)
    (x5 : PySem.W.findIn K (.ref C_Book) "start_of" = some (some (.ref a5)))
    (i5 : PySem.W.isFn K (.ref a5) = true)
    (l5 : K.lookup a5 = some ⟨oc5, od5, .func (PySem.W.fnOf "start_of" "Book.start_of" (defArgs s_f_Book_start_of) (defBody s_f_Book_start_of) (defScope s_f_Book_start_of) .none kV5 dc5 pm5 an5 cd5 ct5), sl5⟩)
    (c5 : PySem.W.codeIn K cd5 "Book.start_of" = true)
    (k5 : PySem.W.keepIn K (.ref a5) = true)
    (x6 : PySem.W.findIn K (.ref C_Book) "formulas_of" = some (some (.ref a6)))
    (i6 : PySem.W.isFn K (.ref a6) = true)
    (l6 : K.lookup a6 = some ⟨oc6, od6, .func (PySem.W.fnOf "formulas_of" "Book.formulas_of" (defArgs s_f_Book_formulas_of) (defBody s_f_Book_formulas_of) (defScope s_f_Book_formulas_of) .none kV6 dc6 pm6 an6 cd6 ct6), sl6⟩)
    (c6 : PySem.W.codeIn K cd6 "Book.formulas_of" = true)
    (k6 : PySem.W.keepIn K (.ref a6) = true)
    (x7 : PySem.W.findIn K (.ref C_Book) "__eq__" = some (some (.ref a7)))
    (i7 : PySem.W.isFn K (.ref a7) = true)
    (l7 : K.lookup a7 = some ⟨oc7, od7, .func (PySem.W.fnOf "__eq__" "Book.__eq__" (defArgs s_f_Book___eq__) (defBody s_f_Book___eq__) (defScope s_f_Book___eq__) .none kV7 dc7 pm7 an7 cd7 ct7), sl7⟩)
    (c7 : PySem.W.codeIn K cd7 "Book.__eq__" = true)
    (k7 : PySem.W.keepIn K (.ref a7) = true)
    (x8 : PySem.W.nsIn K mainGlobals "_check_names" = some (some (.ref a8)))
    (l8 : K.lookup a8 = some ⟨oc8, od8, .func (PySem.W.fnOf "_check_names" "_check_names" (defArgs s_f_check_names) (defBody s_f_check_names) (defScope s_f_check_names) .none kV8 dc8 pm8 an8 cd8 ct8), sl8⟩)
    (c8 : PySem.W.codeIn K cd8 "_check_names" = true)
    (k8 : PySem.W.keepIn K (.ref a8) = true)
    (x9 : PySem.W.nsIn K mainGlobals "_check_formulas" = some (some (.ref a9)))
    (l9 : K.lookup a9 = some ⟨oc9, od9, .func (PySem.W.fnOf "_check_formulas" "_check_formulas" (defArgs s_f_check_formulas) (defBody s_f_check_formulas) (defScope s_f_check_formulas) .none kV9 dc9 pm9 an9 cd9 ct9), sl9⟩)
    (c9 : PySem.W.codeIn K cd9 "_check_formulas" = true)
    (k9 : PySem.W.keepIn K (.ref a9) = true)
    (x10 : PySem.W.nsIn K mainGlobals "_are_known" = some (some (.ref a10)))
    (l10 : K.lookup a10 = some ⟨oc10, od10, .func (PySem.W.fnOf "_are_known" "_are_known" (defArgs s_f_are_known) (defBody s_f_are_known) (defScope s_f_are_known) .none kV10 dc10 pm10 an10 cd10 ct10), sl10⟩)
    (c10 : PySem.W.codeIn K cd10 "_are_known" = true)
    (k10 : PySem.W.keepIn K (.ref a10) = true)
    (x11 : PySem.W.nsIn K mainGlobals "_check_starts" = some (some (.ref a11)))
    (l11 : K.lookup a11 = some ⟨oc11, od11, .func (PySem.W.fnOf "_check_starts" "_check_starts" (defArgs s_f_check_starts) (defBody s_f_check_starts) (defScope s_f_check_starts) .none kV11 dc11 pm11 an11 cd11 ct11), sl11⟩)
    (c11 : PySem.W.codeIn K cd11 "_check_starts" = true)
    (k11 : PySem.W.keepIn K (.ref a11) = true)
    (x12 : PySem.W.nsIn K mainGlobals "_copied" = some (some (.ref a12)))
    (l12 : K.lookup a12 = some ⟨oc12, od12, .func (PySem.W.fnOf "_copied" "_copied" (defArgs s_f_copied) (defBody s_f_copied) (defScope s_f_copied) .none kV12 dc12 pm12 an12 cd12 ct12), sl12⟩)
    (c12 : PySem.W.codeIn K cd12 "_copied" = true)
    (k12 : PySem.W.keepIn K (.ref a12) = true)
    (x13 : PySem.W.nsIn K mainGlobals "_step_of" = some (some (.ref a13)))
    (l13 : K.lookup a13 = some ⟨oc13, od13, .func (PySem.W.fnOf "_step_of" "_step_of" (defArgs s_f_step_of) (defBody s_f_step_of) (defScope s_f_step_of) .none kV13 dc13 pm13 an13 cd13 ct13), sl13⟩)
    (c13 : PySem.W.codeIn K cd13 "_step_of" = true)
    (k13 : PySem.W.keepIn K (.ref a13) = true)
    (x14 : PySem.W.nsIn K mainGlobals "_law_pool" = some (some (.ref a14)))
    (l14 : K.lookup a14 = some ⟨oc14, od14, .func (PySem.W.fnOf "_law_pool" "_law_pool" (defArgs s_f_law_pool) (defBody s_f_law_pool) (defScope s_f_law_pool) .none kV14 dc14 pm14 an14 cd14 ct14), sl14⟩)
    (c14 : PySem.W.codeIn K cd14 "_law_pool" = true)
    (k14 : PySem.W.keepIn K (.ref a14) = true)
    (x15 : PySem.W.nsIn K mainGlobals "_law_draw" = some (some (.ref a15)))
    (l15 : K.lookup a15 = some ⟨oc15, od15, .func (PySem.W.fnOf "_law_draw" "_law_draw" (defArgs s_f_law_draw) (defBody s_f_law_draw) (defScope s_f_law_draw) .none kV15 dc15 pm15 an15 cd15 ct15), sl15⟩)
    (c15 : PySem.W.codeIn K cd15 "_law_draw" = true)
    (k15 : PySem.W.keepIn K (.ref a15) = true)
    (x16 : PySem.W.nsIn K mainGlobals "_law_factor" = some (some (.ref a16)))
    (l16 : K.lookup a16 = some ⟨oc16, od16, .func (PySem.W.fnOf "_law_factor" "_law_factor" (defArgs s_f_law_factor) (defBody s_f_law_factor) (defScope s_f_law_factor) .none kV16 dc16 pm16 an16 cd16 ct16), sl16⟩)
    (c16 : PySem.W.codeIn K cd16 "_law_factor" = true)
    (k16 : PySem.W.keepIn K (.ref a16) = true)
    (x17 : PySem.W.nsIn K mainGlobals "_law_terms" = some (some (.ref a17)))
    (l17 : K.lookup a17 = some ⟨oc17, od17, .func (PySem.W.fnOf "_law_terms" "_law_terms" (defArgs s_f_law_terms) (defBody s_f_law_terms) (defScope s_f_law_terms) .none kV17 dc17 pm17 an17 cd17 ct17), sl17⟩)
    (c17 : PySem.W.codeIn K cd17 "_law_terms" = true)
    (k17 : PySem.W.keepIn K (.ref a17) = true)
    (x18 : PySem.W.nsIn K mainGlobals "_law_first" = some (some (.ref a18)))
    (l18 : K.lookup a18 = some ⟨oc18, od18, .func (PySem.W.fnOf "_law_first" "_law_first" (defArgs s_f_law_first) (defBody s_f_law_first) (defScope s_f_law_first) .none kV18 dc18 pm18 an18 cd18 ct18), sl18⟩)
    (c18 : PySem.W.codeIn K cd18 "_law_first" = true)
    (k18 : PySem.W.keepIn K (.ref a18) = true)
    (x19 : PySem.W.nsIn K mainGlobals "_law_kind" = some (some (.ref a19)))
    (l19 : K.lookup a19 = some ⟨oc19, od19, .func (PySem.W.fnOf "_law_kind" "_law_kind" (defArgs s_f_law_kind) (defBody s_f_law_kind) (defScope s_f_law_kind) .none kV19 dc19 pm19 an19 cd19 ct19), sl19⟩)
    (c19 : PySem.W.codeIn K cd19 "_law_kind" = true)
    (k19 : PySem.W.keepIn K (.ref a19) = true)
    (x20 : PySem.W.nsIn K mainGlobals "_law_made" = some (some (.ref a20)))
    (l20 : K.lookup a20 = some ⟨oc20, od20, .func (PySem.W.fnOf "_law_made" "_law_made" (defArgs s_f_law_made) (defBody s_f_law_made) (defScope s_f_law_made) .none kV20 dc20 pm20 an20 cd20 ct20), sl20⟩)
    (c20 : PySem.W.codeIn K cd20 "_law_made" = true)
    (k20 : PySem.W.keepIn K (.ref a20) = true)
    (x21 : PySem.W.nsIn K mainGlobals "_law_other" = some (some (.ref a21)))
    (l21 : K.lookup a21 = some ⟨oc21, od21, .func (PySem.W.fnOf "_law_other" "_law_other" (defArgs s_f_law_other) (defBody s_f_law_other) (defScope s_f_law_other) .none kV21 dc21 pm21 an21 cd21 ct21), sl21⟩)
    (c21 : PySem.W.codeIn K cd21 "_law_other" = true)
    (k21 : PySem.W.keepIn K (.ref a21) = true)
    (x22 : PySem.W.nsIn K mainGlobals "_law_caught" = some (some (.ref a22)))
    (l22 : K.lookup a22 = some ⟨oc22, od22, .func (PySem.W.fnOf "_law_caught" "_law_caught" (defArgs s_f_law_caught) (defBody s_f_law_caught) (defScope s_f_law_caught) .none kV22 dc22 pm22 an22 cd22 ct22), sl22⟩)
    (c22 : PySem.W.codeIn K cd22 "_law_caught" = true)
    (k22 : PySem.W.keepIn K (.ref a22) = true)
    (x23 : PySem.W.nsIn K mainGlobals "_law_right" = some (some (.ref a23)))
    (l23 : K.lookup a23 = some ⟨oc23, od23, .func (PySem.W.fnOf "_law_right" "_law_right" (defArgs s_f_law_right) (defBody s_f_law_right) (defScope s_f_law_right) .none kV23 dc23 pm23 an23 cd23 ct23), sl23⟩)
    (c23 : PySem.W.codeIn K cd23 "_law_right" = true)
    (k23 : PySem.W.keepIn K (.ref a23) = true)
    (x24 : PySem.W.nsIn K mainGlobals "law" = some (some (.ref a24)))
    (l24 : K.lookup a24 = some ⟨oc24, od24, .func (PySem.W.fnOf "law" "law" (defArgs s_f_law) (defBody s_f_law) (defScope s_f_law) .none kV24 dc24 pm24 an24 cd24 ct24), sl24⟩)
    (c24 : PySem.W.codeIn K cd24 "law" = true)
    (k24 : PySem.W.keepIn K (.ref a24) = true)
    (g_Book : PySem.W.nsIn K mainGlobals "Book" = some (some (.ref C_Book)))
    (pg_Book : PySem.W.plainGet K C_Book Str.empty = true)
    (hd_Book : PySem.W.hasDictIn K C_Book = true)
    (po_Book : PySem.W.plainOver K C_Book = true)
    (sa_Book : PySem.W.findIn K (.ref C_Book) "__setattr__" = some (some (.builtin "object.__setattr__")))
    (mk_Book : PySem.W.makesIn K C_Book = true)
    (kc_Book : PySem.W.keepIn K (.ref C_Book) = true)
    (ea_Book : PySem.W.findIn K (.ref C_Book) "__class__" = some (some (.builtin "object.__class__")))
    (en_Book : PySem.W.specialIn K (.builtin "object.__class__") "__get__" = some (some (.builtin "getset_descriptor.__get__")))
    (et_Book : PySem.W.takesIn K (.builtin "object.__class__") = some true)
    (em_Book : PySem.W.mroIn K C_Book (.type "object") = some true)
    (ek_Book : PySem.W.kitOne K (.ref C_Book) (.ref C_Book) = some true)
    (ne_Book : PySem.W.findIn K (.ref C_Book) "__ne__" = some (some (.builtin "object.__ne__")))
    (nf_Book_Book : PySem.W.notFirst K C_Book (.ref C_Book) = true)
    (nf_Book_tuple : PySem.W.notFirst K C_Book (.type "tuple") = true)
    (ki_Book_tuple : PySem.W.kitOne K (.type "tuple") (.ref C_Book) = some false)
    (nf_Book_list : PySem.W.notFirst K C_Book (.type "list") = true)
    (ki_Book_list : PySem.W.kitOne K (.type "list") (.ref C_Book) = some false)
    (nf_Book_int : PySem.W.notFirst K C_Book (.type "int") = true)
    (ki_Book_int : PySem.W.kitOne K (.type "int") (.ref C_Book) = some false)
    (nf_Book_str : PySem.W.notFirst K C_Book (.type "str") = true)
    (ki_Book_str : PySem.W.kitOne K (.type "str") (.ref C_Book) = some false)
    (nf_Book_none : PySem.W.notFirst K C_Book (.type "NoneType") = true)
    (ki_Book_none : PySem.W.kitOne K (.type "NoneType") (.ref C_Book) = some false)
    (n_Book__base : PySem.W.findIn K (.ref C_Book) "_base" = some none)
    (n_Book__names : PySem.W.findIn K (.ref C_Book) "_names" = some none)
    (n_Book__starts : PySem.W.findIn K (.ref C_Book) "_starts" = some none)
    (n_Book__formulas : PySem.W.findIn K (.ref C_Book) "_formulas" = some none)
    (n_Book__system : PySem.W.findIn K (.ref C_Book) "_system" = some none)
    (g_System : PySem.W.nsIn K mainGlobals "System" = some (some (.ref C_System)))
    (pg_System : PySem.W.plainGet K C_System Str.empty = true)
    (hd_System : PySem.W.hasDictIn K C_System = true)
    (po_System : PySem.W.plainOver K C_System = true)
    (sa_System : PySem.W.findIn K (.ref C_System) "__setattr__" = some (some (.builtin "object.__setattr__")))
    (mk_System : PySem.W.makesIn K C_System = true)
    (kc_System : PySem.W.keepIn K (.ref C_System) = true)
    (n_System__starts : PySem.W.findIn K (.ref C_System) "_starts" = some none)
    (n_System__steps : PySem.W.findIn K (.ref C_System) "_steps" = some none)
    (lI : K.lookup a_init = some ⟨ocI, odI, .func (PySem.W.fnOf "__init__" "BookError.__init__" (PySem.LowX.iA ⟨7, 17, 7, 21⟩ ⟨7, 23, 7, 28⟩) (PySem.LowX.iB ⟨8, 8, 8, 12⟩ ⟨8, 8, 8, 18⟩ ⟨8, 21, 8, 26⟩ ⟨8, 8, 8, 26⟩) PySem.LowX.iS .none .none dcI pmI anI cdI ctI), slI⟩)
    (cI : PySem.W.codeIn K cdI "BookError.__init__" = true)
    (bE1 : PySem.W.subIn K (.ref C_BookError) (.type "BaseException") = some true)
    (bE2 : PySem.W.hasDictIn K C_BookError = true)
    (bE3 : PySem.W.typeIn K (.ref C_BookError) = some (.type "type"))
    (tI : PySem.W.typeIn K (.ref a_init) = some (.type "function"))
    (g_BookError : PySem.W.nsIn K mainGlobals "BookError" = some (some (.ref C_BookError)))
    (g_InvalidName : PySem.W.nsIn K mainGlobals "InvalidName" = some (some (.ref C_InvalidName)))
    (g_InvalidBase : PySem.W.nsIn K mainGlobals "InvalidBase" = some (some (.ref C_InvalidBase)))
    (g_InvalidFormula : PySem.W.nsIn K mainGlobals "InvalidFormula" = some (some (.ref C_InvalidFormula)))
    (g_InvalidNumber : PySem.W.nsIn K mainGlobals "InvalidNumber" = some (some (.ref C_InvalidNumber)))
    (g_Unsound : PySem.W.nsIn K mainGlobals "Unsound" = some (some (.ref C_Unsound)))
    (xLInvalidName : K.lookup C_InvalidName = some (PySem.excClassObj nmInvalidName qnInvalidName C_InvalidName NNInvalidName bsInvalidName [.ref C_BookError, .type "ValueError", .type "Exception", .type "BaseException", .type "object"] true snInvalidName subInvalidName abInvalidName colInvalidName ddInvalidName maInvalidName mbInvalidName mcInvalidName mdInvalidName meInvalidName "ValueError.__new__"))
    (saInvalidName : PySem.W.findIn K (.ref C_InvalidName) "__setattr__" = some (some (.builtin "object.__setattr__")))
    (gaInvalidName : PySem.W.findIn K (.ref C_InvalidName) "__getattribute__" = some (some (.builtin "BaseException.__getattribute__")))
    (ggInvalidName : PySem.W.findIn K (.ref C_InvalidName) "__getattr__" = some none)
    (nbInvalidName : PySem.W.findIn K (.ref C_InvalidName) "value" = some none)
    (icInvalidName : PySem.W.findIn K (.ref C_InvalidName) "__init__" = some (some (.ref a_init)))
    (kCInvalidName : PySem.W.keepIn K (.ref C_InvalidName) = true)
    (eCInvalidName : PySem.W.subIn K (.ref C_InvalidName) (.type "BaseException") = some true)
    (tCInvalidName : PySem.W.typeIn K (.ref C_InvalidName) = some (.type "type"))
    (hCInvalidName : PySem.W.hasDictIn K C_InvalidName = true)
    (zcInvalidName : PySem.W.isClsIn K C_InvalidName = true)
    (zaInvalidName : PySem.W.findIn K (.ref C_InvalidName) "__class__" = some (some (.builtin "object.__class__")))
    (znInvalidName : PySem.W.specialIn K (.builtin "object.__class__") "__get__" = some (some (.builtin "getset_descriptor.__get__")))
    (ztInvalidName : PySem.W.takesIn K (.builtin "object.__class__") = some true)
    (zmInvalidName : PySem.W.mroIn K C_InvalidName (.type "object") = some true)
    (tqInvalidName : PySem.W.subIn K (.ref C_InvalidName) (.ref C_BookError) = some true)
    (ik_0 : PySem.W.kitAny K (.ref C_InvalidName) [.ref C_InvalidBase, .ref C_InvalidFormula, .ref C_InvalidNumber, .ref C_Unsound] = some false)
    (ik_1 : PySem.W.kitOne K (.ref C_InvalidName) (.ref C_InvalidName) = some true)
    (m_abs : PySem.W.nsIn K mainGlobals "abs" = some none)
    (m_all : PySem.W.nsIn K mainGlobals "all" = some none)
    (m_int : PySem.W.nsIn K mainGlobals "int" = some none)
    (m_isinstance : PySem.W.nsIn K mainGlobals "isinstance" = some none)
    (m_len : PySem.W.nsIn K mainGlobals "len" = some none)
    (m_list : PySem.W.nsIn K mainGlobals "list" = some none)
    (m_max : PySem.W.nsIn K mainGlobals "max" = some none)
    (m_min : PySem.W.nsIn K mainGlobals "min" = some none)
    (m_range : PySem.W.nsIn K mainGlobals "range" = some none)
    (m_repr : PySem.W.nsIn K mainGlobals "repr" = some none)
    (m_sorted : PySem.W.nsIn K mainGlobals "sorted" = some none)
    (m_sum : PySem.W.nsIn K mainGlobals "sum" = some none)
    (m_tuple : PySem.W.nsIn K mainGlobals "tuple" = some none) :
    ∃ fd : FuncData, (∀ (s : Shared) (v : Value), BindsTo s fd ⟨[v], []⟩ [("script", v)]) ∧ ∀ base : Heap, K.In base → base.Ns mainGlobals mg → GOk l.prog w K mg base CX0 7 fa fd ["script"] (spLaw K) := by
  have e : a24 = fa := by
    have e := hfa.symm.trans (PySem.W.mg_of X G x24)
    cases e
    rfl
  subst e
  have F0 := fun_mk (st := s_f_check_base) l0 c0 k0
  have b0 := F0.binds (ps := ["base"]) fun _ _ _ _ _ _ us hl => match us, hl with | [_], _ => rfl
  have F1 := fun_mk (st := s_f_is_letter) l1 c1 k1
  have b1 := F1.binds (ps := ["name"]) fun _ _ _ _ _ _ us hl => match us, hl with | [_], _ => rfl
  have F2 := fun_mk (st := s_f_System___init__) l2 c2 k2
  have b2 := F2.binds (ps := ["self", "starts", "steps"]) fun _ _ _ _ _ _ us hl => match us, hl with | [_, _, _], _ => rfl
  have F3 := fun_mk (st := s_f_Book___init__) l3 c3 k3
  have b3 := F3.binds (ps := ["self", "base", "rows"]) fun _ _ _ _ _ _ us hl => match us, hl with | [_, _, _], _ => rfl
  have F4 := fun_mk (st := s_f_Book_index_of) l4 c4 k4
  have b4 := F4.binds (ps := ["self", "name"]) fun _ _ _ _ _ _ us hl => match us, hl with | [_, _], _ => rfl
  have F5 := fun_mk (st := s_f_Book_start_of) l5 c5 k5
  have b5 := F5.binds (ps := ["self", "name"]) fun _ _ _ _ _ _ us hl => match us, hl with | [_, _], _ => rfl
  have F6 := fun_mk (st := s_f_Book_formulas_of) l6 c6 k6
  have b6 := F6.binds (ps := ["self", "name"]) fun _ _ _ _ _ _ us hl => match us, hl with | [_, _], _ => rfl
  have kb6 := kbn_self (ps := ["self", "name"]) (ks := ["name"]) F6 fun _ _ _ _ _ _ us ws h1 h2 => match us, ws, h1, h2 with | [_], [_], _, _ => rfl
  have F7 := fun_mk (st := s_f_Book___eq__) l7 c7 k7
  have b7 := F7.binds (ps := ["self", "other"]) fun _ _ _ _ _ _ us hl => match us, hl with | [_, _], _ => rfl
  have F8 := fun_mk (st := s_f_check_names) l8 c8 k8
  have b8 := F8.binds (ps := ["rows"]) fun _ _ _ _ _ _ us hl => match us, hl with | [_], _ => rfl
  have F9 := fun_mk (st := s_f_check_formulas) l9 c9 k9
  have b9 := F9.binds (ps := ["base", "rows"]) fun _ _ _ _ _ _ us hl => match us, hl with | [_, _], _ => rfl
  have F10 := fun_mk (st := s_f_are_known) l10 c10 k10
  have b10 := F10.binds (ps := ["formulas", "names"]) fun _ _ _ _ _ _ us hl => match us, hl with | [_, _], _ => rfl
  have F11 := fun_mk (st := s_f_check_starts) l11 c11 k11
  have b11 := F11.binds (ps := ["rows"]) fun _ _ _ _ _ _ us hl => match us, hl with | [_], _ => rfl
  have F12 := fun_mk (st := s_f_copied) l12 c12 k12
  have b12 := F12.binds (ps := ["formulas"]) fun _ _ _ _ _ _ us hl => match us, hl with | [_], _ => rfl
  have F13 := fun_mk (st := s_f_step_of) l13 c13 k13
  have b13 := F13.binds (ps := ["names", "formulas", "figure"]) fun _ _ _ _ _ _ us hl => match us, hl with | [_, _, _], _ => rfl
  have F14 := fun_mk (st := s_f_law_pool) l14 c14 k14
  have b14 := F14.binds (ps := ["script", "spot"]) fun _ _ _ _ _ _ us hl => match us, hl with | [_, _], _ => rfl
  have F15 := fun_mk (st := s_f_law_draw) l15 c15 k15
  have b15 := F15.binds (ps := ["pool", "many"]) fun _ _ _ _ _ _ us hl => match us, hl with | [_, _], _ => rfl
  have F16 := fun_mk (st := s_f_law_factor) l16 c16 k16
  have b16 := F16.binds (ps := ["pool"]) fun _ _ _ _ _ _ us hl => match us, hl with | [_], _ => rfl
  have F17 := fun_mk (st := s_f_law_terms) l17 c17 k17
  have b17 := F17.binds (ps := ["pool", "letters", "many"]) fun _ _ _ _ _ _ us hl => match us, hl with | [_, _, _], _ => rfl
  have F18 := fun_mk (st := s_f_law_first) l18 c18 k18
  have b18 := F18.binds (ps := ["pool", "starts", "letter"]) fun _ _ _ _ _ _ us hl => match us, hl with | [_, _, _], _ => rfl
  have F19 := fun_mk (st := s_f_law_kind) l19 c19 k19
  have b19 := F19.binds (ps := ["pool", "many"]) fun _ _ _ _ _ _ us hl => match us, hl with | [_, _], _ => rfl
  have F20 := fun_mk (st := s_f_law_made) l20 c20 k20
  have b20 := F20.binds (ps := ["kind"]) fun _ _ _ _ _ _ us hl => match us, hl with | [_], _ => rfl
  have F21 := fun_mk (st := s_f_law_other) l21 c21 k21
  have b21 := F21.binds (ps := ["pool", "kind"]) fun _ _ _ _ _ _ us hl => match us, hl with | [_, _], _ => rfl
  have F22 := fun_mk (st := s_f_law_caught) l22 c22 k22
  have b22 := F22.binds (ps := ["made", "letter", "which"]) fun _ _ _ _ _ _ us hl => match us, hl with | [_, _, _], _ => rfl
  have F23 := fun_mk (st := s_f_law_right) l23 c23 k23
  have b23 := F23.binds (ps := ["pool"]) fun _ _ _ _ _ _ us hl => match us, hl with | [_], _ => rfl
  have F24 := fun_mk (st := s_f_law) l24 c24 k24
  have b24 := F24.binds (ps := ["script"]) fun _ _ _ _ _ _ us hl => match us, hl with | [_], _ => rfl
  have T : Txt K mg { a_f_check_base := a0, d_f_check_base := (PySem.W.fnOf "check_base" "check_base" (defArgs s_f_check_base) (defBody s_f_check_base) (defScope s_f_check_base) .none kV0 dc0 pm0 an0 cd0 ct0), a_f_is_letter := a1, d_f_is_letter := (PySem.W.fnOf "is_letter" "is_letter" (defArgs s_f_is_letter) (defBody s_f_is_letter) (defScope s_f_is_letter) .none kV1 dc1 pm1 an1 cd1 ct1), a_f_System___init__ := a2, d_f_System___init__ := (PySem.W.fnOf "__init__" "System.__init__" (defArgs s_f_System___init__) (defBody s_f_System___init__) (defScope s_f_System___init__) .none kV2 dc2 pm2 an2 cd2 ct2), a_f_Book___init__ := a3, d_f_Book___init__ := (PySem.W.fnOf "__init__" "Book.__init__" (defArgs s_f_Book___init__) (defBody s_f_Book___init__) (defScope s_f_Book___init__) .none kV3 dc3 pm3 an3 cd3 ct3), a_f_Book_index_of := a4, d_f_Book_index_of := (PySem.W.fnOf "index_of" "Book.index_of" (defArgs s_f_Book_index_of) (defBody s_f_Book_index_of) (defScope s_f_Book_index_of) .none kV4 dc4 pm4 an4 cd4 ct4), a_f_Book_start_of := a5, d_f_Book_start_of := (PySem.W.fnOf "start_of" "Book.start_of" (defArgs s_f_Book_start_of) (defBody s_f_Book_start_of) (defScope s_f_Book_start_of) .none kV5 dc5 pm5 an5 cd5 ct5), a_f_Book_formulas_of := a6, d_f_Book_formulas_of := (PySem.W.fnOf "formulas_of" "Book.formulas_of" (defArgs s_f_Book_formulas_of) (defBody s_f_Book_formulas_of) (defScope s_f_Book_formulas_of) .none kV6 dc6 pm6 an6 cd6 ct6), a_f_Book___eq__ := a7, d_f_Book___eq__ := (PySem.W.fnOf "__eq__" "Book.__eq__" (defArgs s_f_Book___eq__) (defBody s_f_Book___eq__) (defScope s_f_Book___eq__) .none kV7 dc7 pm7 an7 cd7 ct7), a_f_check_names := a8, d_f_check_names := (PySem.W.fnOf "_check_names" "_check_names" (defArgs s_f_check_names) (defBody s_f_check_names) (defScope s_f_check_names) .none kV8 dc8 pm8 an8 cd8 ct8), a_f_check_formulas := a9, d_f_check_formulas := (PySem.W.fnOf "_check_formulas" "_check_formulas" (defArgs s_f_check_formulas) (defBody s_f_check_formulas) (defScope s_f_check_formulas) .none kV9 dc9 pm9 an9 cd9 ct9), a_f_are_known := a10, d_f_are_known := (PySem.W.fnOf "_are_known" "_are_known" (defArgs s_f_are_known) (defBody s_f_are_known) (defScope s_f_are_known) .none kV10 dc10 pm10 an10 cd10 ct10), a_f_check_starts := a11, d_f_check_starts := (PySem.W.fnOf "_check_starts" "_check_starts" (defArgs s_f_check_starts) (defBody s_f_check_starts) (defScope s_f_check_starts) .none kV11 dc11 pm11 an11 cd11 ct11), a_f_copied := a12, d_f_copied := (PySem.W.fnOf "_copied" "_copied" (defArgs s_f_copied) (defBody s_f_copied) (defScope s_f_copied) .none kV12 dc12 pm12 an12 cd12 ct12), a_f_step_of := a13, d_f_step_of := (PySem.W.fnOf "_step_of" "_step_of" (defArgs s_f_step_of) (defBody s_f_step_of) (defScope s_f_step_of) .none kV13 dc13 pm13 an13 cd13 ct13), a_f_law_pool := a14, d_f_law_pool := (PySem.W.fnOf "_law_pool" "_law_pool" (defArgs s_f_law_pool) (defBody s_f_law_pool) (defScope s_f_law_pool) .none kV14 dc14 pm14 an14 cd14 ct14), a_f_law_draw := a15, d_f_law_draw := (PySem.W.fnOf "_law_draw" "_law_draw" (defArgs s_f_law_draw) (defBody s_f_law_draw) (defScope s_f_law_draw) .none kV15 dc15 pm15 an15 cd15 ct15), a_f_law_factor := a16, d_f_law_factor := (PySem.W.fnOf "_law_factor" "_law_factor" (defArgs s_f_law_factor) (defBody s_f_law_factor) (defScope s_f_law_factor) .none kV16 dc16 pm16 an16 cd16 ct16), a_f_law_terms := a17, d_f_law_terms := (PySem.W.fnOf "_law_terms" "_law_terms" (defArgs s_f_law_terms) (defBody s_f_law_terms) (defScope s_f_law_terms) .none kV17 dc17 pm17 an17 cd17 ct17), a_f_law_first := a18, d_f_law_first := (PySem.W.fnOf "_law_first" "_law_first" (defArgs s_f_law_first) (defBody s_f_law_first) (defScope s_f_law_first) .none kV18 dc18 pm18 an18 cd18 ct18), a_f_law_kind := a19, d_f_law_kind := (PySem.W.fnOf "_law_kind" "_law_kind" (defArgs s_f_law_kind) (defBody s_f_law_kind) (defScope s_f_law_kind) .none kV19 dc19 pm19 an19 cd19 ct19), a_f_law_made := a20, d_f_law_made := (PySem.W.fnOf "_law_made" "_law_made" (defArgs s_f_law_made) (defBody s_f_law_made) (defScope s_f_law_made) .none kV20 dc20 pm20 an20 cd20 ct20), a_f_law_other := a21, d_f_law_other := (PySem.W.fnOf "_law_other" "_law_other" (defArgs s_f_law_other) (defBody s_f_law_other) (defScope s_f_law_other) .none kV21 dc21 pm21 an21 cd21 ct21), a_f_law_caught := a22, d_f_law_caught := (PySem.W.fnOf "_law_caught" "_law_caught" (defArgs s_f_law_caught) (defBody s_f_law_caught) (defScope s_f_law_caught) .none kV22 dc22 pm22 an22 cd22 ct22), a_f_law_right := a23, d_f_law_right := (PySem.W.fnOf "_law_right" "_law_right" (defArgs s_f_law_right) (defBody s_f_law_right) (defScope s_f_law_right) .none kV23 dc23 pm23 an23 cd23 ct23), a_f_law := a24, d_f_law := (PySem.W.fnOf "law" "law" (defArgs s_f_law) (defBody s_f_law) (defScope s_f_law) .none kV24 dc24 pm24 an24 cd24 ct24), C_Book := C_Book, C_System := C_System, a_init := a_init, C_BookError := C_BookError, C_InvalidName := C_InvalidName, C_InvalidBase := C_InvalidBase, C_InvalidFormula := C_InvalidFormula, C_InvalidNumber := C_InvalidNumber, C_Unsound := C_Unsound } := { F_f_check_base := F0, b_f_check_base := b0, g_f_check_base := PySem.W.mg_of X G x0, F_f_is_letter := F1, b_f_is_letter := b1, g_f_is_letter := PySem.W.mg_of X G x1, F_f_System___init__ := F2, b_f_System___init__ := b2, k_System := ⟨mk_System, x2, i2, kc_System⟩, F_f_Book___init__ := F3, b_f_Book___init__ := b3, k_Book := ⟨mk_Book, x3, i3, kc_Book⟩, F_f_Book_index_of := F4, b_f_Book_index_of := b4, t_f_Book_index_of := ⟨x4, i4, k4⟩, F_f_Book_start_of := F5, b_f_Book_start_of := b5, t_f_Book_start_of := ⟨x5, i5, k5⟩, kb_f_Book_formulas_of := kb6, F_f_Book_formulas_of := F6, b_f_Book_formulas_of := b6, t_f_Book_formulas_of := ⟨x6, i6, k6⟩, F_f_Book___eq__ := F7, b_f_Book___eq__ := b7, t_f_Book___eq__ := ⟨x7, i7⟩, F_f_check_names := F8, b_f_check_names := b8, g_f_check_names := PySem.W.mg_of X G x8, F_f_check_formulas := F9, b_f_check_formulas := b9, g_f_check_formulas := PySem.W.mg_of X G x9, F_f_are_known := F10, b_f_are_known := b10, g_f_are_known := PySem.W.mg_of X G x10, F_f_check_starts := F11, b_f_check_starts := b11, g_f_check_starts := PySem.W.mg_of X G x11, F_f_copied := F12, b_f_copied := b12, g_f_copied := PySem.W.mg_of X G x12, F_f_step_of := F13, b_f_step_of := b13, g_f_step_of := PySem.W.mg_of X G x13, F_f_law_pool := F14, b_f_law_pool := b14, g_f_law_pool := PySem.W.mg_of X G x14, F_f_law_draw := F15, b_f_law_draw := b15, g_f_law_draw := PySem.W.mg_of X G x15, F_f_law_factor := F16, b_f_law_factor := b16, g_f_law_factor := PySem.W.mg_of X G x16, F_f_law_terms := F17, b_f_law_terms := b17, g_f_law_terms := PySem.W.mg_of X G x17, F_f_law_first := F18, b_f_law_first := b18, g_f_law_first := PySem.W.mg_of X G x18, F_f_law_kind := F19, b_f_law_kind := b19, g_f_law_kind := PySem.W.mg_of X G x19, F_f_law_made := F20, b_f_law_made := b20, g_f_law_made := PySem.W.mg_of X G x20, F_f_law_other := F21, b_f_law_other := b21, g_f_law_other := PySem.W.mg_of X G x21, F_f_law_caught := F22, b_f_law_caught := b22, g_f_law_caught := PySem.W.mg_of X G x22, F_f_law_right := F23, b_f_law_right := b23, g_f_law_right := PySem.W.mg_of X G x23, F_f_law := F24, b_f_law := b24, g_f_law := PySem.W.mg_of X G x24, g_Book := PySem.W.mg_of X G g_Book, c_Book := ⟨pg_Book, hd_Book, po_Book, sa_Book⟩, e_Book := ⟨ea_Book, en_Book, et_Book, em_Book, ek_Book⟩, ne_Book := ne_Book, nf_Book_Book := nf_Book_Book, nf_Book_tuple := nf_Book_tuple, ki_Book_tuple := ki_Book_tuple, nf_Book_list := nf_Book_list, ki_Book_list := ki_Book_list, nf_Book_int := nf_Book_int, ki_Book_int := ki_Book_int, nf_Book_str := nf_Book_str, ki_Book_str := ki_Book_str, nf_Book_none := nf_Book_none, ki_Book_none := ki_Book_none, n_Book__base := n_Book__base, n_Book__names := n_Book__names, n_Book__starts := n_Book__starts, n_Book__formulas := n_Book__formulas, n_Book__system := n_Book__system, g_System := PySem.W.mg_of X G g_System, c_System := ⟨pg_System, hd_System, po_System, sa_System⟩, n_System__starts := n_System__starts, n_System__steps := n_System__steps, g_BookError := PySem.W.mg_of X G g_BookError, g_InvalidName := PySem.W.mg_of X G g_InvalidName, g_InvalidBase := PySem.W.mg_of X G g_InvalidBase, g_InvalidFormula := PySem.W.mg_of X G g_InvalidFormula, g_InvalidNumber := PySem.W.mg_of X G g_InvalidNumber, g_Unsound := PySem.W.mg_of X G g_Unsound, low_InvalidName := { gC := PySem.W.mg_of X G g_InvalidName, cls := ⟨nmInvalidName, qnInvalidName, NNInvalidName, bsInvalidName, _, snInvalidName, subInvalidName, abInvalidName, colInvalidName, ddInvalidName, maInvalidName, mbInvalidName, mcInvalidName, mdInvalidName, meInvalidName, xLInvalidName, ve_own⟩, sa := saInvalidName, ga := gaInvalidName, gg := ggInvalidName, noN := nbInvalidName, iC := icInvalidName, tC := tI, kC := kCInvalidName, exC := eCInvalidName, tyC := tCInvalidName, hdC := hCInvalidName, fn := ⟨_, _, _, _, _, _, _, _, _, _, _, _, _, _, lI, cI⟩ }, err_InvalidName := ⟨zcInvalidName, gaInvalidName, ggInvalidName, eCInvalidName, zaInvalidName, znInvalidName, ztInvalidName, zmInvalidName⟩, te_InvalidName := PySem.W.exm_ref bE1 bE2 bE3 tqInvalidName, kit0 := ik_0, kit1 := ik_1, m_abs := PySem.W.mg_none_of X G m_abs, m_all := PySem.W.mg_none_of X G m_all, m_int := PySem.W.mg_none_of X G m_int, m_isinstance := PySem.W.mg_none_of X G m_isinstance, m_len := PySem.W.mg_none_of X G m_len, m_list := PySem.W.mg_none_of X G m_list, m_max := PySem.W.mg_none_of X G m_max, m_min := PySem.W.mg_none_of X G m_min, m_range := PySem.W.mg_none_of X G m_range, m_repr := PySem.W.mg_none_of X G m_repr, m_sorted := PySem.W.mg_none_of X G m_sorted, m_sum := PySem.W.mg_none_of X G m_sum, m_tuple := PySem.W.mg_none_of X G m_tuple }
  exact ⟨_, fun s v => .of_eq rfl, fun base _ _ => ok_f_law T⟩
end Fb
open PySem PySem.W PyProof.Rows
set_option maxRecDepth 100000 in
set_option maxHeartbeats 0 in
theorem PySem.Challenge.cw_figurebooks_k04_equal_books_holds : PySem.Challenge.rw_figurebooks_k04_equal_books.Holds := by
  w_on; o_law; k_head; (case hw => w_witness2)
  k_fill
  refine Fb.walk_G (l := PySem.Challenge.rw_figurebooks_k04_equal_books) (n := 63) (k := 7) (x := "script") (sp := fun w => Fb.spLaw _) rfl (by decide) rfl ⟨rfl, by decide, by decide⟩ (fun w h Y => PySem.W.kIn_of Y) ?F (fun _ _ a ns hl hS => ⟨a, ns, rfl, hS, hl, fun _ => rfl⟩)
  case F =>
    intro w mg fa h KX G hmg
    refine' Fb.all_mk KX G hmg ?x0 ?l0 ?c0 ?k0 ?x1 ?l1 ?c1 ?k1 ?x2 ?i2 ?l2 ?c2 ?k2 ?x3 ?i3 ?l3 ?c3 ?k3 ?x4 ?i4 ?l4 ?c4 ?k4 ?x5 ?i5 ?l5 ?c5 ?k5 ?x6 ?i6 ?l6 ?c6 ?k6 ?x7 ?i7 ?l7 ?c7 ?k7 ?x8 ?l8 ?c8 ?k8 ?x9 ?l9 ?c9 ?k9 ?x10 ?l10 ?c10 ?k10 ?x11 ?l11 ?c11 ?k11 ?x12 ?l12 ?c12 ?k12 ?x13 ?l13 ?c13 ?k13 ?x14 ?l14 ?c14 ?k14 ?x15 ?l15 ?c15 ?k15 ?x16 ?l16 ?c16 ?k16 ?x17 ?l17 ?c17 ?k17 ?x18 ?l18 ?c18 ?k18 ?x19 ?l19 ?c19 ?k19 ?x20 ?l20 ?c20 ?k20 ?x21 ?l21 ?c21 ?k21 ?x22 ?l22 ?c22 ?k22 ?x23 ?l23 ?c23 ?k23 ?x24 ?l24 ?c24 ?k24 ?g_Book ?pg_Book ?hd_Book ?po_Book ?sa_Book ?mk_Book ?kc_Book ?ea_Book ?en_Book ?et_Book ?em_Book ?ek_Book ?ne_Book ?nf_Book_Book ?nf_Book_tuple ?ki_Book_tuple ?nf_Book_list ?ki_Book_list ?nf_Book_int ?ki_Book_int ?nf_Book_str ?ki_Book_str ?nf_Book_none ?ki_Book_none ?n_Book__base ?n_Book__names ?n_Book__starts ?n_Book__formulas ?n_Book__system ?g_System ?pg_System ?hd_System ?po_System ?sa_System ?mk_System ?kc_System ?n_System__starts ?n_System__steps ?lI ?cI ?bE1 ?bE2 ?bE3 ?tI ?g_BookError ?g_InvalidName ?g_InvalidBase ?g_InvalidFormula ?g_InvalidNumber ?g_Unsound ?xLInvalidName ?saInvalidName ?gaInvalidName ?ggInvalidName ?nbInvalidName ?icInvalidName ?kCInvalidName ?eCInvalidName ?tCInvalidName ?hCInvalidName ?zcInvalidName ?zaInvalidName ?znInvalidName ?ztInvalidName ?zmInvalidName ?tqInvalidName ?ik_0 ?ik_1 ?m_abs ?m_all ?m_int ?m_isinstance ?m_len ?m_list ?m_max ?m_min ?m_range ?m_repr ?m_sorted ?m_sum ?m_tuple
    (case g_Book => k_is)
    (case g_System => k_is)
    (case g_BookError => k_is)
    (case g_InvalidName => k_is)
    (case g_InvalidBase => k_is)
    (case g_InvalidFormula => k_is)
    (case g_InvalidNumber => k_is)
    (case g_Unsound => k_is)
    (case icInvalidName => k_is)
    (case x0 => k_is)
    (case l0 => k_is)
    (case c0 => k_is)
    (case k0 => k_is)
    (case x1 => k_is)
    (case l1 => k_is)
    (case c1 => k_is)
    (case k1 => k_is)
    (case x2 => k_is)
    (case i2 => k_is)
    (case l2 => k_is)
    (case c2 => k_is)
    (case k2 => k_is)
    (case x3 => k_is)
    (case i3 => k_is)
    (case l3 => k_is)
    (case c3 => k_is)
    (case k3 => k_is)
    (case x4 => k_is)
    (case i4 => k_is)
    (case l4 => k_is)
    (case c4 => k_is)
    (case k4 => k_is)
    (case x5 => k_is)
    (case i5 => k_is)
    (case l5 => k_is)
    (case c5 => k_is)
    (case k5 => k_is)
    (case x6 => k_is)
    (case i6 => k_is)
    (case l6 => k_is)
    (case c6 => k_is)
    (case k6 => k_is)
    (case x7 => k_is)
    (case i7 => k_is)
    (case l7 => k_is)
    (case c7 => k_is)
    (case k7 => k_is)
    (case x8 => k_is)
    (case l8 => k_is)
    (case c8 => k_is)
    (case k8 => k_is)
    (case x9 => k_is)
    (case l9 => k_is)
    (case c9 => k_is)
    (case k9 => k_is)
    (case x10 => k_is)
    (case l10 => k_is)
    (case c10 => k_is)
    (case k10 => k_is)
    (case x11 => k_is)
    (case l11 => k_is)
    (case c11 => k_is)
    (case k11 => k_is)
    (case x12 => k_is)
    (case l12 => k_is)
    (case c12 => k_is)
    (case k12 => k_is)
    (case x13 => k_is)
    (case l13 => k_is)
    (case c13 => k_is)
    (case k13 => k_is)
    (case x14 => k_is)
    (case l14 => k_is)
    (case c14 => k_is)
    (case k14 => k_is)
    (case x15 => k_is)
    (case l15 => k_is)
    (case c15 => k_is)
    (case k15 => k_is)
    (case x16 => k_is)
    (case l16 => k_is)
    (case c16 => k_is)
    (case k16 => k_is)
    (case x17 => k_is)
    (case l17 => k_is)
    (case c17 => k_is)
    (case k17 => k_is)
    (case x18 => k_is)
    (case l18 => k_is)
    (case c18 => k_is)
    (case k18 => k_is)
    (case x19 => k_is)
    (case l19 => k_is)
    (case c19 => k_is)
    (case k19 => k_is)
    (case x20 => k_is)
    (case l20 => k_is)
    (case c20 => k_is)
    (case k20 => k_is)
    (case x21 => k_is)
    (case l21 => k_is)
    (case c21 => k_is)
    (case k21 => k_is)
    (case x22 => k_is)
    (case l22 => k_is)
    (case c22 => k_is)
    (case k22 => k_is)
    (case x23 => k_is)
    (case l23 => k_is)
    (case c23 => k_is)
    (case k23 => k_is)
    (case x24 => k_is)
    (case l24 => k_is)
    (case c24 => k_is)
    (case k24 => k_is)
    (case pg_Book => k_is)
    (case hd_Book => k_is)
    (case po_Book => k_is)
    (case sa_Book => k_is)
    (case mk_Book => k_is)
    (case kc_Book => k_is)
    (case ea_Book => k_is)
    (case en_Book => k_is)
    (case et_Book => k_is)
    (case em_Book => k_is)
    (case ek_Book => kit_is)
    (case ne_Book => k_is)
    (case nf_Book_Book => k_is)
    (case nf_Book_tuple => k_is)
    (case ki_Book_tuple => kit_is)
    (case nf_Book_list => k_is)
    (case ki_Book_list => kit_is)
    (case nf_Book_int => k_is)
    (case ki_Book_int => kit_is)
    (case nf_Book_str => k_is)
    (case ki_Book_str => kit_is)
    (case nf_Book_none => k_is)
    (case ki_Book_none => kit_is)
    (case n_Book__base => k_is)
    (case n_Book__names => k_is)
    (case n_Book__starts => k_is)
    (case n_Book__formulas => k_is)
    (case n_Book__system => k_is)
    (case pg_System => k_is)
    (case hd_System => k_is)
    (case po_System => k_is)
    (case sa_System => k_is)
    (case mk_System => k_is)
    (case kc_System => k_is)
    (case n_System__starts => k_is)
    (case n_System__steps => k_is)
    (case lI => k_is)
    (case cI => k_is)
    (case bE1 => k_is)
    (case bE2 => k_is)
    (case bE3 => k_is)
    (case tI => k_is)
    (case xLInvalidName => k_is)
    (case saInvalidName => k_is)
    (case gaInvalidName => k_is)
    (case ggInvalidName => k_is)
    (case nbInvalidName => k_is)
    (case kCInvalidName => k_is)
    (case eCInvalidName => k_is)
    (case tCInvalidName => k_is)
    (case hCInvalidName => k_is)
    (case zcInvalidName => k_is)
    (case zaInvalidName => k_is)
    (case znInvalidName => k_is)
    (case ztInvalidName => k_is)
    (case zmInvalidName => k_is)
    (case tqInvalidName => k_is)
    (case ik_0 => kit_is)
    (case ik_1 => kit_is)
    (case m_abs => k_is)
    (case m_all => k_is)
    (case m_int => k_is)
    (case m_isinstance => k_is)
    (case m_len => k_is)
    (case m_list => k_is)
    (case m_max => k_is)
    (case m_min => k_is)
    (case m_range => k_is)
    (case m_repr => k_is)
    (case m_sorted => k_is)
    (case m_sum => k_is)
    (case m_tuple => k_is)
