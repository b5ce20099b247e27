import PyProof.Rows.All
import Wide.All
import OpenK.AllK
import Wide.FinOn
import HandS.ForMost
import HandS.Property
import HandS.Wide
import HandS.WideBits
import HandS.DictComp
import HandS.More
import PyProof.StrBlock2
import HandS.IsInst
import HandS.Style
import HandS.Deep
import HandS.RaiseMore
import HandS.Defaults
import HandS.Zip
import HandS.Flow
import HandS.OwnEq
import HandS.MakeKwOnly
import HandS.ForSpec
import HandS.ExcIs
import KE.KExcIs
import KE.GoesMore
import KE.GoesNew
import PySem.Challenge.RW_figurebooks_k02_books_made
set_option Elab.async false
set_option linter.all false
set_option maxRecDepth 100000
set_option maxHeartbeats 4000000
namespace Fb
open PySem PySem.Spec PyProof.Rows L2
/-! Figurebooks: what every law's proof shares: readings in steps, pools, reprs. -/

/-! ### readings in steps -/
section
variable {σ : L2.St} {H : Hp} {Q : VK} {D : Ends} {ta tb te : TE} {r : R2} {t : TT} {QB : Bool → Hp → Prop} {tA : TA} {QA : List V → Hp → Prop}
theorem r_var {i : Nat} {v : V} (h : σ[i]? = some (some v)) (q : Q v H) : tVar i σ H Q := ⟨v, h, q⟩
theorem r_var0 {i : Nat} (q : ∃ v, σ[i]? = some (some v) ∧ Q v H) : tVar i σ H Q := q
theorem r_c {v : V} (q : Q v H) : tC v σ H Q := q
theorem r_op (q : ta σ H fun x H1 => tb σ H1 fun y H2 => r x y H2 Q) : tOp r ta tb σ H Q := q
theorem r_un {r : V → Hp → VK → Prop} (q : ta σ H fun x H1 => r x H1 Q) : tUn r ta σ H Q := q
theorem r_U {g : Int → V} {i : Int} (q : Q (g i) H) : rU g (.int i) H Q := ⟨i, rfl, q⟩
theorem r_I0 {g : Int → Int → V} {i j : Int} (q : Q (g i j) H) : rI0 g (.int i) (.int j) H Q := ⟨i, j, rfl, rfl, q⟩
theorem r_I {C : Int → Int → Prop} {g : Int → Int → V} {i j : Int} (hc : C i j) (q : Q (g i j) H) : rI C g (.int i) (.int j) H Q := ⟨i, j, rfl, rfl, hc, q⟩
theorem r_eq {x y : V} (h : scal x y = true) (q : Q (.bl (decide (x = y))) H) : rEq x y H Q := ⟨h, q⟩
theorem r_ne {x y : V} (h : scal x y = true) (q : Q (.bl (!decide (x = y))) H) : rNe x y H Q := ⟨h, q⟩
theorem r_test (q : te σ H fun x H' => ∃ k, x = .bl k ∧ QB k H') : tTest te σ H QB := q
theorem r_B (q : te σ H fun x H' => ∃ k, x = .bl k ∧ QB k H') : tB te σ H QB := q
theorem r_bl {b : Bool} {P : Bool → Prop} (q : P b) : ∃ c, V.bl b = V.bl c ∧ P c := ⟨b, rfl, q⟩
theorem r_seq {t u : TS} (q : t { D with nx := u D } σ H) : tSeq t u D σ H := q
theorem r_next (q : D.nx σ H) : tNext D σ H := q
theorem r_asg {g : TG} (q : te σ H fun x H1 => g x σ H1 D.nx) : tAsg te g D σ H := q
theorem r_gname {i : Nat} {v : V} {P : L2.St → Hp → Prop} (q : P (σ.set i (some v)) H) : gName i v σ H P := q
theorem r_ret (q : te σ H D.rt) : tRet te D σ H := q
theorem r_drop (q : te σ H fun _ H1 => D.nx σ H1) : tDrop te D σ H := q
theorem r_ifS {t u : TS} {c : TT} (q : c σ H fun b H1 => if b = true then t D σ H1 else u D σ H1) : tIfS c t u D σ H := q
theorem r_if {c : TT} (q : c σ H fun b H1 => if b = true then ta σ H1 Q else tb σ H1 Q) : tIf c ta tb σ H Q := q
theorem r_and {t u : TT} (q : t σ H fun c H1 => if c = true then u σ H1 QB else QB false H1) : tAnd t u σ H QB := q
theorem r_or {t u : TT} (q : t σ H fun c H1 => if c = true then QB true H1 else u σ H1 QB) : tOr t u σ H QB := q
theorem r_not (q : t σ H fun c H1 => QB (!c) H1) : tNot t σ H QB := q
theorem r_yes (q : QB true H) : tYes σ H QB := q
theorem r_andV (q : ta σ H fun x H1 => ∃ c, x = .bl c ∧ if c = true then tb σ H1 Q else Q (.bl false) H1) : tAndV ta tb σ H Q := q
theorem r_orV (q : ta σ H fun x H1 => ∃ c, x = .bl c ∧ if c = true then Q (.bl true) H1 else tb σ H1 Q) : tOrV ta tb σ H Q := q
theorem r_notV (q : ta σ H fun x H1 => ∃ c, x = .bl c ∧ Q (.bl (!c)) H1) : tNotV ta σ H Q := q
theorem r_nil (q : QA [] H) : tNil σ H QA := q
theorem r_cons (q : ta σ H fun x H1 => tA σ H1 fun xs H2 => QA (x :: xs) H2) : tCons ta tA σ H QA := q
theorem r_call {sp : Sp} {dvs : List V} {E : XK} (q : tA σ H fun vs H1 => sp (vs ++ dvs) H1 Q E) : tCall sp dvs E tA σ H Q := q
theorem r_make {C : Addr} {sp : Sp} {dvs : List V} {E : XK} (q : tA σ H fun vs H1 => ∀ x dx, H1 x = none → H1 dx = none → dx ≠ x → sp (.ref x :: (vs ++ dvs)) (upd (upd H1 dx (.own x)) x (.ins C dx [])) (fun v H2 => v = .non ∧ Q (.ref x) H2) E) : tMake C sp dvs E tA σ H Q := q
theorem r_for1 {ta : TA} {g : TG} {tb : TS} (q : ta σ H fun vs H1 => ∃ j : Int, vs = [.int j] ∧ -(2 ^ 62) ≤ j ∧ j < 2 ^ 62 ∧ ∃ W : Nat → Nat → L2.St → Hp → Prop, (∃ m, W 0 m σ H1) ∧ ∀ i m σ H, W i m σ H →
    ((Itr 0 j.toNat).stop i H ∧ D.nx σ H) ∨ ((Itr 0 j.toNat).go i H ∧ ∃ N : L2.St → Hp → Prop, (∀ σ' H', N σ' H' → ∃ m', m' < m ∧ W (i + 1) m' σ' H') ∧ ∀ x H', (Itr 0 j.toNat).yld i H x H' → g x σ H' fun σ2 H2 => tb { D with nx := N, ct := N, bk := D.nx } σ2 H2)) : tFor (iRng1 ta) g tb D σ H := q
theorem r_CB {r : List V → Hp → VK → Prop} (q : tA σ H fun vs H1 => r vs H1 Q) : tCB r tA σ H Q := q
theorem r_tup (q : tA σ H fun xs H1 => xs.length ≤ sizeLine ∧ ∀ p, H1 p = none → Q (.ref p) (upd H1 p (.tup xs))) : tTup tA σ H Q := q
theorem r_lst (q : tA σ H fun xs H1 => xs.length ≤ sizeLine ∧ ∀ p, H1 p = none → Q (.ref p) (upd H1 p (.lst xs))) : tLst tA σ H Q := q
theorem r_mk {α : Type} {xs : List α} {P : Prop} (h : Nat.ble xs.length 1000 = true) (q : P) : xs.length ≤ sizeLine ∧ P :=
  ⟨Nat.le_trans (Nat.le_of_ble_eq_true h) (by decide), q⟩
theorem r_fld {K : PySem.W.Frag} {f : Str} (q : ta σ H fun x H1 => ∃ a C dx fs v, x = .ref a ∧ H1 a = some (.ins C dx fs) ∧ Cls K C ∧ NoAttr K C f ∧ fs.lookup f = some v ∧ Q v H1) : tFld K ta f σ H Q := q
theorem r_meth {C : Addr} {m : Str} {sp : Sp} {dvs : List V} {E : XK} (q : ta σ H fun x H1 => ∃ a dx fs, x = .ref a ∧ H1 a = some (.ins C dx fs) ∧ fs.lookup m = none ∧ tA σ H1 fun vs H2 => sp (x :: (vs ++ dvs)) H2 Q E) : tMeth C m sp dvs E ta tA σ H Q := q
theorem r_bm {K : PySem.W.Frag} {T : String} {r : V → List V → Hp → VK → Prop} (q : te σ H fun x H1 => tyV K T x H1 ∧ tA σ H1 fun xs H2 => r x xs H2 Q) : tBM K T r te tA σ H Q := q
theorem r_bm0 {K : PySem.W.Frag} {T : String} {r : V → List V → Hp → VK → Prop} (q : te σ H fun x H1 => tyV K T x H1 ∧ r x [] H1 Q) : tBM0 K T r te σ H Q := q
theorem r_prop {C : Addr} {sp : Sp} {dvs : List V} {E : XK} (q : ta σ H fun x H1 => ∃ a dx fs, x = .ref a ∧ H1 a = some (.ins C dx fs) ∧ sp (.ref a :: dvs) H1 Q E) : tProp C sp dvs E ta σ H Q := q
theorem r_gsub {to ti : TE} {t : TSet} {v : V} {P : L2.St → Hp → Prop} (q : to σ H fun o H1 => ti σ H1 fun i H2 => t o i v H2 fun H3 => P σ H3) : gSub to ti t v σ H P := q
theorem r_sl {r : V → Option Int → Option Int → Hp → VK → Prop} {tl th : TO} (q : te σ H fun x H1 => tl σ H1 fun l H2 => th σ H2 fun u H3 => r x l u H3 Q) : tSl r te tl th σ H Q := q
theorem r_nopart {P : Option Int → Hp → Prop} (q : P none H) : tNoPart σ H P := q
theorem r_part {P : Option Int → Hp → Prop} (q : te σ H fun x H1 => ∃ i, x = .int i ∧ P (some i) H1) : tPart te σ H P := q
theorem r_in {i : Int} {P : Int → Prop} (q : P i) : ∃ c, V.int i = V.int c ∧ P c := ⟨i, rfl, q⟩
theorem r_par {i j : Nat} (q : tA σ H fun vs H1 => ∃ v w, vs = [v, w] ∧ D.nx ((σ.set i (some v)).set j (some w)) H1) : tPar i j tA D σ H := q
theorem r_two {v w : V} {P : V → V → Prop} (q : P v w) : ∃ x y, [v, w] = [x, y] ∧ P x y := ⟨v, w, rfl, q⟩
theorem r_gtup {K : PySem.W.Frag} {n : Nat} {t : TGs} {a : Addr} {xs : List V} {P : L2.St → Hp → Prop} (h : SqT K H a xs) (hl : xs.length = n) (q : t xs σ H P) : gTup K n t (.ref a) σ H P := ⟨a, xs, rfl, h, hl, q⟩
theorem r_gcons {t : TG} {u : TGs} {v : V} {vs : List V} {P : L2.St → Hp → Prop} (q : t v σ H fun σ' H' => u vs σ' H' P) : gCons t u (v :: vs) σ H P := ⟨v, vs, rfl, q⟩
theorem r_gnil {P : L2.St → Hp → Prop} (q : P σ H) : gNil [] σ H P := ⟨rfl, q⟩
end
section
variable {H : Hp} {Q : VK} {K : PySem.W.Frag} {a p q : Addr} {o : HO} {xs : List V}
theorem r_i1 {i : Int} {P : Int → Prop} (q : P i) : ∃ j, [V.int i] = [V.int j] ∧ P j := ⟨i, rfl, q⟩
theorem r_i1o {i : Int} {P : Int → Prop} {R : Prop} (q : P i) : (∃ j, [V.int i] = [V.int j] ∧ P j) ∨ R := .inl ⟨i, rfl, q⟩
theorem r_b1o {k : Bool} {P : Bool → Prop} {R : Prop} (q : P k) : R ∨ ∃ j, [V.bl k] = [V.bl j] ∧ P j := .inr ⟨k, rfl, q⟩
theorem r_i2 {i j : Int} {P : Int → Int → Prop} (q : P i j) : ∃ c d, [V.int i, V.int j] = [V.int c, V.int d] ∧ P c d := ⟨i, j, rfl, q⟩
theorem r_len {P : List V → Prop} (h : SqL K H a xs) (q : P xs) : ∃ p ys, [V.ref a] = [V.ref p] ∧ (SqL K H p ys ∨ SqT K H p ys) ∧ P ys := ⟨a, xs, rfl, .inl h, q⟩
theorem r_len0 {P : List V → Prop} (q : ∃ xs, SqL K H a xs ∧ P xs) : ∃ p ys, [V.ref a] = [V.ref p] ∧ (SqL K H p ys ∨ SqT K H p ys) ∧ P ys := let ⟨xs, h, q⟩ := q; ⟨a, xs, rfl, .inl h, q⟩
theorem r_ixL0 {i : Int} (q : ∃ xs v, SqL K H a xs ∧ atI xs i = some v ∧ Q v H) : rIxL K (.ref a) (.int i) H Q := let ⟨xs, v, h, hv, q⟩ := q; ⟨a, xs, i, v, rfl, rfl, h, hv, q⟩
theorem r_ixT0 {i : Int} (q : ∃ xs v, SqT K H a xs ∧ atI xs i = some v ∧ Q v H) : rIxT K (.ref a) (.int i) H Q := let ⟨xs, v, h, hv, q⟩ := q; ⟨a, xs, i, v, rfl, rfl, h, hv, q⟩
theorem r_gtup0 {σ : L2.St} {n : Nat} {t : TGs} {P : L2.St → Hp → Prop} (q : ∃ xs, SqT K H a xs ∧ xs.length = n ∧ t xs σ H P) : gTup K n t (.ref a) σ H P := let ⟨xs, h, hl, q⟩ := q; ⟨a, xs, rfl, h, hl, q⟩
theorem r_app0 {y : V} (q : ∃ xs, H a = some (.lst xs) ∧ xs.length < sizeLine ∧ Q .non (upd H a (.lst (xs ++ [y])))) : rAppend (.ref a) [y] H Q := let ⟨xs, h, hl, q⟩ := q; ⟨a, xs, y, rfl, rfl, h, hl, q⟩
theorem r_tyL0 {P : Prop} (q : (∃ xs, H a = some (.lst xs)) ∧ P) : tyV K "list" (.ref a) H ∧ P := let ⟨⟨xs, h⟩, q⟩ := q; ⟨.inl ⟨rfl, _, .inl (.inl h)⟩, q⟩
theorem r_ixL {i : Int} {v : V} (h : SqL K H a xs) (hv : atI xs i = some v) (q : Q v H) : rIxL K (.ref a) (.int i) H Q := ⟨a, xs, i, v, rfl, rfl, h, hv, q⟩
theorem r_ixT {i : Int} {v : V} (h : SqT K H a xs) (hv : atI xs i = some v) (q : Q v H) : rIxT K (.ref a) (.int i) H Q := ⟨a, xs, i, v, rfl, rfl, h, hv, q⟩
theorem r_tyL {P : Prop} (h : H a = some (.lst xs)) (q : P) : tyV K "list" (.ref a) H ∧ P := ⟨.inl ⟨rfl, _, .inl (.inl h)⟩, q⟩
theorem r_setL {i : Int} {v : V} {j : Nat} {P : Hp → Prop} (h : H a = some (.lst xs)) (hj : ixN xs.length i = some j) (q : P (upd H a (.lst (xs.set j v)))) : rSetL (.ref a) (.int i) v H P := ⟨a, xs, i, j, rfl, rfl, h, hj, q⟩
theorem r_app {y : V} (h : H a = some (.lst xs)) (hl : xs.length < sizeLine) (q : Q .non (upd H a (.lst (xs ++ [y])))) : rAppend (.ref a) [y] H Q := ⟨a, xs, y, rfl, rfl, h, hl, q⟩
theorem upd_old {x : HO} (np : H p = none) (h : H a = some x) : upd H p o a = some x := (upd_ne (ne_of_none h np)).trans h
theorem upd_oth {x : HO} (n : a ≠ p) (h : H a = some x) : upd H p o a = some x := (upd_ne n).trans h
theorem same_new (np : H p = none) : Same H (upd H p o) := fun b u e => upd_old np e
theorem rd_oth {u : HO} (n : a ≠ p) (h : Rd H a u) : Rd (upd H p o) a u := h.elim (fun z => .inl (upd_oth n z)) fun ⟨w, z⟩ => .inr ⟨w, upd_oth n z⟩
theorem sq_new (np : H p = none) (h : SqL K H a xs) : SqL K (upd H p o) a xs := (same_new np).seq h
theorem sq_oth (n : a ≠ p) (h : SqL K H a xs) : SqL K (upd H p o) a xs := h.elim (fun z => .inl (rd_oth n z)) .inr
theorem sq_of (h : H a = some (.lst xs)) : SqL K H a xs := .inl (.inl h)
theorem st_new (np : H p = none) (h : SqT K H a xs) : SqT K (upd H p o) a xs := h.elim (fun z => .inl (z.elim (fun z => .inl (upd_old np z)) fun ⟨w, z⟩ => .inr ⟨w, upd_old np z⟩)) .inr
theorem st_oth (n : a ≠ p) (h : SqT K H a xs) : SqT K (upd H p o) a xs := h.elim (fun z => .inl (rd_oth n z)) .inr
theorem st_of (h : H a = some (.tup xs)) : SqT K H a xs := .inl (.inl h)
theorem nat_at {α : Type} {xs : List α} {i : Int} {v : α} (h0 : 0 ≤ i) (h : xs[i.toNat]? = some v) : atI xs i = some v := by
  have e : i = ((i.toNat : Nat) : Int) := by omega
  rw [e]
  exact atI_nat h
end
/-! ### readings by name -/
abbrev rAddI : R2 := rI0 fun i j => .int (i + j)
abbrev rSubI : R2 := rI0 fun i j => .int (i - j)
abbrev rMulX : R2 := rI CMulX fun i j => .int (i * j)
abbrev rModI : R2 := rI (fun _ j => 0 < j) fun i j => .int (i % j)
abbrev rDivW : R2 := rI CDivW fun i j => .int (i / j)
abbrev rNegI : V → Hp → VK → Prop := rU fun i => .int (-i)
abbrev rLtI : R2 := rI0 fun i j => .bl (decide (i < j))
abbrev rGtI : R2 := rI0 fun i j => .bl (decide (j < i))
abbrev rLeI : R2 := rI0 fun i j => .bl (decide (i ≤ j))
abbrev rGeI : R2 := rI0 fun i j => .bl (decide (j ≤ i))
abbrev rListOf (K : PySem.W.Frag) : List V → Hp → VK → Prop := fun xs H Q => ∃ p ys, xs = [.ref p] ∧ (SqL K H p ys ∨ SqT K H p ys) ∧ ∀ l, H l = none → Q (.ref l) (upd H l (.lst ys))
abbrev rLen (K : PySem.W.Frag) : List V → Hp → VK → Prop := fun xs H Q => ∃ p ys, xs = [.ref p] ∧ (SqL K H p ys ∨ SqT K H p ys) ∧ Q (.int ys.length) H
abbrev rInt1 : List V → Hp → VK → Prop := fun xs H Q => (∃ i, xs = [.int i] ∧ Q (.int i) H) ∨ ∃ k, xs = [.bl k] ∧ Q (.int (if k then 1 else 0)) H
abbrev rAbs : List V → Hp → VK → Prop := fun xs H Q => ∃ i, xs = [.int i] ∧ Q (.int (if i < 0 then -i else i)) H
/-! ### powers of great ints; pools -/
def CPowW (i j : Int) : Prop := 0 ≤ j ∧ (Builtin.Int.intBits i : Int) * j ≤ 2 ^ 27
section
variable {X : Cx}
theorem op_powW : OpR X (binaryOp .Pow) (rI CPowW fun i j => .int (i ^ j.toNat)) := opI fun _ _ _ _ _ _ _ hc q => pow_int hc.1 hc.2 q
end
theorem bits_le {i : Int} {n : Nat} (h : i.natAbs < 2 ^ n) : Builtin.Int.intBits i ≤ n := by
  unfold Builtin.Int.intBits
  split
  · exact Nat.zero_le _
  · rename_i h0
    have h1 : i.natAbs ≠ 0 := fun z => h0 (by simpa using z)
    exact (Nat.log2_lt h1).mpr h
theorem cpow3 {i : Int} {n : Nat} (h : i.natAbs < 2 ^ n) (hn : n ≤ 1000000) : CPowW i 3 := by
  have h1 := bits_le h
  refine ⟨by decide, ?_⟩
  have : (Builtin.Int.intBits i : Int) ≤ 1000000 := by omega
  omega
/-- a pool: the drawn number, the seed, the count, with f draws left -/
def PoolO (f : Nat) (o : HO) : Prop := ∃ a b c : Int, o = .lst [.int a, .int b, .int c] ∧ 0 ≤ a ∧ 0 ≤ b ∧ b < 2 ^ 62 ∧ 0 ≤ c ∧ c + f ≤ 1000000
def PoolAt (H : Hp) (p : Addr) (f : Nat) : Prop := ∃ o, H p = some o ∧ PoolO f o
/-- all but p is as it was -/
def Keep (p : Addr) (H H' : Hp) : Prop := ∀ b o, H b = some o → b ≠ p → H' b = some o
theorem Keep.refl {p : Addr} {H : Hp} : Keep p H H := fun _ _ e _ => e
theorem Keep.trans {p : Addr} {H H1 H2 : Hp} (a : Keep p H H1) (b : Keep p H1 H2) : Keep p H H2 := fun c o e n => b c o (a c o e n) n
theorem Keep.upd {p : Addr} {H : Hp} {o : HO} : Keep p H (upd H p o) := fun b u e n => by rw [upd_ne n]; exact e
theorem Keep.new {p q : Addr} {H : Hp} {o : HO} (h : H q = none) : Keep p H (L2.upd H q o) := fun b u e _ => by
  rw [upd_ne (ne_of_none e h)]
  exact e
theorem Keep.free {p q : Addr} {H H' : Hp} (k : Keep p H H') (h : H' q = none) (hp : H p ≠ none) (hp' : H' p ≠ none) : H q = none := by
  cases e : H q with
  | none => rfl
  | some o =>
    by_cases n : q = p
    · rw [n] at h; exact absurd h hp'
    · rw [k q o e n] at h; cases h
theorem Keep.of_same {p : Addr} {H H' : Hp} (s : Same H H') : Keep p H H' := fun b o e _ => s b o e
theorem PoolAt.ne {H : Hp} {p : Addr} {f : Nat} (h : PoolAt H p f) : H p ≠ none := by
  obtain ⟨o, e, _⟩ := h
  rw [e]
  exact fun z => by cases z
theorem PoolO.less {f g : Nat} {o : HO} (h : PoolO f o) (l : g ≤ f) : PoolO g o := by
  obtain ⟨a, b, c, e, h1, h2, h3, h4, h5⟩ := h
  exact ⟨a, b, c, e, h1, h2, h3, h4, by omega⟩
theorem PoolAt.less {H : Hp} {p : Addr} {f g : Nat} (h : PoolAt H p f) (l : g ≤ f) : PoolAt H p g := by
  obtain ⟨o, e, x⟩ := h
  exact ⟨o, e, x.less l⟩
def spPool (K : PySem.W.Frag) : Sp := fun vs H Q _ => ∃ (a : Addr) (ns : List Int) (k : Nat), vs = [.ref a, .int (k : Int)] ∧ SqL K H a (ns.map V.int) ∧ k ≤ 5 ∧
  ∀ o p, PoolO 1000000 o → H p = none → Q (.ref p) (upd H p o)
/-- a draw: some number below many; the pool has one draw less -/
def spDraw : Sp := fun vs H Q _ => ∃ (p : Addr) (m : Int) (f : Nat), vs = [.ref p, .int m] ∧ PoolAt H p (f + 1) ∧ 0 < m ∧ m < 2 ^ 200 ∧
  ∀ (d : Int) (o : HO), 0 ≤ d → d < m → PoolO f o → Q (.int d) (upd H p o)
theorem c_draw {H : Hp} {Q : VK} {E : XK} {p : Addr} {m : Int} (f : Nat) (h : PoolAt H p (f + 1)) (h1 : 0 < m) (h2 : m < 2 ^ 200)
    (q : ∀ (d : Int) (o : HO), 0 ≤ d → d < m → PoolO f o → Q (.int d) (upd H p o)) : spDraw [.ref p, .int m] H Q E := ⟨p, m, f, rfl, h, h1, h2, q⟩

/-! Figurebooks: data in heaps, comprehensions that only make. -/

/-! ### heaps -/
theorem Same.mut {H H' : Hp} {p : Addr} {o : HO} (e : Same H H') (h : H p = none) : Same H (upd H' p o) := fun a u ha => by
  rw [upd_ne (ne_of_none ha h)]
  exact e a u ha
theorem Same.new {H H' : Hp} {p : Addr} {o : HO} (e : Same H H') (h : H' p = none) : Same H (upd H' p o) := fun a u ha => upd_old h (e a u ha)
/-- H without p -/
def hid (p : Addr) (H : Hp) : Hp := fun a => if a = p then none else H a
theorem hid_le {p : Addr} {H : Hp} : Same (hid p H) H := fun a u e => by
  unfold hid at e
  split at e
  · cases e
  · exact e
theorem hid_at {p a : Addr} {H : Hp} {o : HO} (h : H a = some o) (n : a ≠ p) : hid p H a = some o := by
  unfold hid
  rw [if_neg n]
  exact h
theorem hid_of {p a : Addr} {H : Hp} {o : HO} (h : hid p H a = some o) : H a = some o ∧ a ≠ p := by
  unfold hid at h
  split at h
  · cases h
  · exact ⟨h, ‹_›⟩
theorem Keep.hid {p : Addr} {H H' : Hp} (k : Keep p H H') : Same (hid p H) (Fb.hid p H') := fun a u e => by
  obtain ⟨h, n⟩ := hid_of e
  exact hid_at (k a u h n) n
theorem hid_same {p : Addr} {H H' : Hp} (k : Same H H') : Same (hid p H) (hid p H') := (Keep.of_same k).hid
def fixedO : HO → Bool
  | .tup _ => true
  | .frz _ _ => true
  | _ => false
/-- what of H' is new beside H, and what of H never changes -/
def nw (H H' : Hp) : Hp := fun a => match H a with
  | none => H' a
  | some o => if fixedO o = true then H' a else none
theorem nw_new {H H' : Hp} {a : Addr} (h : H a = none) : nw H H' a = H' a := by unfold nw; rw [h]
theorem nw_fix {H H' : Hp} {a : Addr} {o : HO} (h : H a = some o) (f : fixedO o = true) : nw H H' a = H' a := by unfold nw; rw [h]; exact if_pos f
theorem nw_le {H H' : Hp} : Same (nw H H') H' := fun a u e => by
  unfold nw at e
  split at e
  · exact e
  · split at e
    · exact e
    · cases e
theorem nw_mono {H H1 H2 : Hp} (s : Same H1 H2) : Same (nw H H1) (nw H H2) := fun a u e => by
  unfold nw at e ⊢
  split at e
  · exact s a u e
  · split at e
    · rw [if_pos ‹_›]
      exact s a u e
    · cases e
theorem nw_back {H0 H H' : Hp} (s : Same H0 H) : Same (nw H H') (nw H0 H') := fun a u e => by
  cases h0 : H0 a with
  | none =>
    rw [nw_new h0]
    exact nw_le a u e
  | some o =>
    have h := s a o h0
    by_cases f : fixedO o = true
    · rw [nw_fix h0 f]
      exact nw_le a u e
    · unfold nw at e
      rw [h] at e
      exact absurd ((if_neg f).symm.trans e) (fun z => by cases z)
theorem sqt_nw {K : PySem.W.Frag} {H H' : Hp} {a : Addr} {xs : List V} (s : Same H H') (h : SqT K H a xs) : SqT K (nw H H') a xs := by
  rcases h with (h | ⟨o, h⟩) | h
  · exact .inl (.inl ((nw_fix h rfl).trans (s _ _ h)))
  · exact .inl (.inr ⟨o, (nw_fix h rfl).trans (s _ _ h)⟩)
  · exact .inr h
theorem sqt_same {K : PySem.W.Frag} {H H' : Hp} {a : Addr} {xs : List V} (e : Same H H') (h : SqT K H a xs) : SqT K H' a xs := by
  rcases h with (h | ⟨o, h⟩) | h
  · exact .inl (.inl (e _ _ h))
  · exact .inl (.inr ⟨o, e _ _ h⟩)
  · exact .inr h

/-! ### data -/
mutual
theorem dp_same {K : PySem.W.Frag} {H H' : Hp} (e : Same H H') : ∀ {v : V} {d : PyData}, Dp K H v d → Dp K H' v d
  | _, _, .non => .non
  | _, _, .bl b => .bl b
  | _, _, .int i => .int i
  | _, _, .str x => .str x
  | _, _, .lst h r => .lst (e.seq h) (dpa_same e r)
  | _, _, .tup h r => .tup (sqt_same e h) (dpa_same e r)
theorem dpa_same {K : PySem.W.Frag} {H H' : Hp} (e : Same H H') : ∀ {vs : List V} {ds : List PyData}, DpAll K H vs ds → DpAll K H' vs ds
  | _, _, .nil => .nil
  | _, _, .cons h r => .cons (dp_same e h) (dpa_same e r)
end
theorem dpa_len {K : PySem.W.Frag} {H : Hp} : ∀ {vs : List V} {ds : List PyData}, DpAll K H vs ds → vs.length = ds.length
  | _, _, .nil => rfl
  | _, _, .cons _ r => congrArg (· + 1) (dpa_len r)
theorem dpa_get {K : PySem.W.Frag} {H : Hp} : ∀ {vs : List V} {ds : List PyData} {i : Nat} {v : V}, DpAll K H vs ds → vs[i]? = some v → ∃ d, ds[i]? = some d ∧ Dp K H v d
  | _, _, _, _, .nil, e => by simp at e
  | _, _, 0, _, .cons h _, e => by
    simp at e
    subst e
    exact ⟨_, rfl, h⟩
  | _, _, i + 1, v, .cons _ r, e => by
    obtain ⟨d, h1, h2⟩ := dpa_get (i := i) (v := v) r (by simpa using e)
    exact ⟨d, by simpa using h1, h2⟩
theorem dpa_of {K : PySem.W.Frag} {H : Hp} : ∀ {vs : List V} {ds : List PyData}, vs.length = ds.length → (∀ (i : Nat) (v : V) (d : PyData), vs[i]? = some v → ds[i]? = some d → Dp K H v d) → DpAll K H vs ds
  | [], [], _, _ => .nil
  | v :: vs, d :: ds, hl, h => .cons (h 0 v d rfl rfl) (dpa_of (by simpa using hl) fun i x y h1 h2 => h (i + 1) x y (by simpa using h1) (by simpa using h2))
  | [], _ :: _, hl, _ => by simp at hl
  | _ :: _, [], hl, _ => by simp at hl
theorem dpa_append {K : PySem.W.Frag} {H : Hp} : ∀ {vs ws : List V} {ds es : List PyData}, DpAll K H vs ds → DpAll K H ws es → DpAll K H (vs ++ ws) (ds ++ es)
  | _, _, _, _, .nil, h => h
  | _, _, _, _, .cons a r, h => .cons a (dpa_append r h)
theorem dp_list {K : PySem.W.Frag} {H : Hp} {v : V} {ds : List PyData} (h : Dp K H v (.list ds)) : ∃ a xs, v = .ref a ∧ SqL K H a xs ∧ DpAll K H xs ds := by
  cases h with
  | lst h r => exact ⟨_, _, rfl, h, r⟩
theorem dp_tuple {K : PySem.W.Frag} {H : Hp} {v : V} {ds : List PyData} (h : Dp K H v (.tuple ds)) : ∃ a xs, v = .ref a ∧ SqT K H a xs ∧ DpAll K H xs ds := by
  cases h with
  | tup h r => exact ⟨_, _, rfl, h, r⟩
theorem dp_int {K : PySem.W.Frag} {H : Hp} {v : V} {i : Int} (h : Dp K H v (.int i)) : v = .int i := by cases h; rfl
theorem dp_str {K : PySem.W.Frag} {H : Hp} {v : V} {x : Str} (h : Dp K H v (.str x)) : v = .str x := by cases h; rfl
theorem dpa_ints {K : PySem.W.Frag} {H : Hp} : ∀ ns : List Int, DpAll K H (ns.map V.int) (ns.map PyData.int)
  | [] => .nil
  | n :: ns => .cons (.int n) (dpa_ints ns)
theorem dpa_strs {K : PySem.W.Frag} {H : Hp} : ∀ ns : List Str, DpAll K H (ns.map V.str) (ns.map PyData.str)
  | [] => .nil
  | n :: ns => .cons (.str n) (dpa_strs ns)

/-! ### books as data -/
abbrev Term := Int × Str
abbrev Line := Str × Int × List (List Term)
def dTerm (t : Term) : PyData := .tuple [.int t.1, .str t.2]
def dForm (f : List Term) : PyData := .list (f.map dTerm)
def dForms (f : List (List Term)) : PyData := .list (f.map dForm)
def dLine (l : Line) : PyData := .tuple [.str l.1, .int l.2.1, dForms l.2.2]
def dRows (L : List Line) : PyData := .list (L.map dLine)
theorem dp_term {K : PySem.W.Frag} {H : Hp} {v : V} {t : Term} (h : Dp K H v (dTerm t)) : ∃ a, v = .ref a ∧ SqT K H a [.int t.1, .str t.2] := by
  obtain ⟨a, xs, e, s, r⟩ := dp_tuple h
  cases r with
  | cons h1 r =>
    cases r with
    | cons h2 r =>
      cases r
      cases h1
      cases h2
      exact ⟨a, e, s⟩
theorem dp_form {K : PySem.W.Frag} {H : Hp} {v : V} {f : List Term} (h : Dp K H v (dForm f)) : ∃ a xs, v = .ref a ∧ SqL K H a xs ∧ DpAll K H xs (f.map dTerm) := dp_list h
theorem dp_forms {K : PySem.W.Frag} {H : Hp} {v : V} {f : List (List Term)} (h : Dp K H v (dForms f)) : ∃ a xs, v = .ref a ∧ SqL K H a xs ∧ DpAll K H xs (f.map dForm) := dp_list h
theorem dp_line {K : PySem.W.Frag} {H : Hp} {v : V} {l : Line} (h : Dp K H v (dLine l)) : ∃ a b, v = .ref a ∧ SqT K H a [.str l.1, .int l.2.1, .ref b] ∧ Dp K H (.ref b) (dForms l.2.2) := by
  obtain ⟨a, xs, e, s, r⟩ := dp_tuple h
  cases r with
  | cons h1 r =>
    cases r with
    | cons h2 r =>
      cases r with
      | cons h3 r =>
        cases r
        cases h1
        cases h2
        obtain ⟨b, ys, e3, _, _⟩ := dp_forms h3
        subst e3
        exact ⟨a, b, e, s, h3⟩
/-- the i-th of a list of data -/
theorem dpa_at {α : Type} {K : PySem.W.Frag} {H : Hp} {f : α → PyData} {xs : List V} {l : List α} {i : Nat} {v : V} (h : DpAll K H xs (l.map f)) (e : xs[i]? = some v) : ∃ x, l[i]? = some x ∧ Dp K H v (f x) := by
  obtain ⟨d, h1, h2⟩ := dpa_get h e
  rw [List.getElem?_map] at h1
  cases q : l[i]? with
  | none => rw [q] at h1; cases h1
  | some x =>
    rw [q] at h1
    cases h1
    exact ⟨x, rfl, h2⟩

/-! ### a comprehension that only makes -/
theorem nw_hid {H1 H H4 : Hp} {D : Addr} {acc : List V} (s : Same H1 H) (e : H D = some (.lst acc)) : Same (nw H H4) (nw H1 (hid D H4)) := fun a u z => by
  have nD : a ≠ D := fun q => by
    subst q
    unfold nw at z
    rw [e] at z
    exact absurd ((if_neg (fun f : false = true => by cases f)).symm.trans z) (fun q => by cases q)
  cases h1 : H1 a with
  | none =>
    rw [nw_new h1]
    exact hid_at (nw_le a u z) nD
  | some o =>
    have h := s a o h1
    by_cases f : fixedO o = true
    · rw [nw_fix h1 f]
      exact hid_at (nw_le a u z) nD
    · unfold nw at z
      rw [h] at z
      exact absurd ((if_neg f).symm.trans z) (fun q => by cases q)
theorem hid_upd {H : Hp} {D : Addr} {o : HO} : hid D (upd H D o) = hid D H := by
  funext a
  unfold hid
  split
  · rfl
  · rw [upd_ne ‹_›]
abbrev LcTurn (g : TG) (tt : TT) (te : TE) (vs : List Nat) (σ : L2.St) (x : V) (H : Hp) (Q : VK) : Prop :=
  g x (wipe σ vs) H fun σ2 H2 => wipe σ2 vs = wipe σ vs ∧ tt σ2 H2 fun b H3 => if b = true then te σ2 H3 Q else False
theorem lc_pure {K : PySem.W.Frag} {a : Addr} {xs : List V} {g : TG} {tt : TT} {te : TE} {vs : List Nat} {σ : L2.St} {H1 : Hp} {D : Addr} {Qd : Hp → Prop} (R : Nat → V → Hp → Prop) (hR : ∀ i y H H', R i y H → Same H H' → R i y H')
    (hS : SqL K H1 a xs) (hD : H1 D = none) (hl : xs.length ≤ 1000)
    (gm : ∀ x H (P P' : L2.St → Hp → Prop), (∀ σ H, P σ H → P' σ H) → g x (wipe σ vs) H P → g x (wipe σ vs) H P') (tm : ∀ σ H (P P' : Bool → Hp → Prop), (∀ b H, P b H → P' b H) → tt σ H P → tt σ H P')
    (hs : ∀ i x H (Q : VK), xs[i]? = some x → Same H1 H → H D ≠ none → (∀ y H4, Same H H4 → R i y (nw H H4) → Q y H4) → LcTurn g tt te vs σ x H Q)
    (hd : ∀ H ys, ys.length = xs.length → (∀ i y, ys[i]? = some y → R i y (nw H1 H)) → Same H1 H → H D = some (.lst ys) → Qd H) :
    ∃ W : Nat → Nat → Hp → Prop, (∃ m, W 0 m (upd H1 D (.lst []))) ∧ ∀ i m H, W i m H →
      ((Itl K a).stop i H ∧ Qd H) ∨ ((Itl K a).go i H ∧ ∃ Nx : Hp → Prop, (∀ H', Nx H' → ∃ m', m' < m ∧ W (i + 1) m' H') ∧ ∀ x H', (Itl K a).yld i H x H' → g x (wipe σ vs) H' fun σ2 H2 => wipe σ2 vs = wipe σ vs ∧ tt σ2 H2 fun b H3 =>
        if b = true then te σ2 H3 fun y H4 => ∃ acc, H4 D = some (.lst acc) ∧ acc.length < sizeLine ∧ Nx (upd H4 D (.lst (acc ++ [y]))) else Nx H3) := by
  refine lc_list (K := K) (a := a) (xs := xs) (fun i H => Same H1 H ∧ ∃ ys, H D = some (.lst ys) ∧ ys.length = i ∧ ∀ j y, ys[j]? = some y → R j y (nw H1 (hid D H)))
    ⟨same_new hD, [], upd_same, rfl, fun j y e => by simp at e⟩ (fun i H _ ⟨s, _⟩ => s.seq hS) ?_ ?_
  · rintro i x H hx ⟨s, ys, e, hlen, hy⟩
    have hil : i < xs.length := (List.getElem?_eq_some_iff.mp hx).1
    refine gm x H _ _ ?_ (hs i x H (fun y H4 => ∃ acc, H4 D = some (.lst acc) ∧ acc.length < sizeLine ∧ (Same H1 (upd H4 D (.lst (acc ++ [y]))) ∧ ∃ zs, (upd H4 D (.lst (acc ++ [y]))) D = some (.lst zs) ∧ zs.length = i + 1 ∧ ∀ j z, zs[j]? = some z → R j z (nw H1 (hid D (upd H4 D (.lst (acc ++ [y]))))))) hx s (by rw [e]; exact fun z => by cases z) ?_)
    · rintro σ2 H2 ⟨w, h⟩
      refine ⟨w, tm _ _ _ _ ?_ h⟩
      intro b H3 h
      cases b with
      | true =>
        rw [if_pos rfl] at h ⊢
        exact h
      | false =>
        rw [if_neg Bool.false_ne_true] at h
        exact h.elim
    · intro y H4 s4 r4
      refine ⟨ys, s4 _ _ e, Nat.lt_of_le_of_lt (show ys.length ≤ 1000 by omega) (by decide), Fb.Same.mut (s.trans s4) hD, ys ++ [y], upd_same, by simp [hlen], fun j z hz => ?_⟩
      rw [hid_upd]
      by_cases hj : j < ys.length
      · rw [List.getElem?_append_left hj] at hz
        exact hR _ _ _ _ (hy j z hz) (nw_mono (hid_same s4))
      · have ej : j = i := by
          have := (List.getElem?_eq_some_iff.mp hz).1
          simp at this
          omega
        subst ej
        rw [List.getElem?_append_right (by omega)] at hz
        have e0 : j - ys.length = 0 := by omega
        rw [e0] at hz
        have ez : y = z := Option.some.inj hz
        subst ez
        exact hR _ _ _ _ r4 (nw_hid s e)
  · rintro H ⟨s, ys, e, hlen, hy⟩
    exact hd H ys hlen (fun i y h => hR _ _ _ _ (hy i y h) (nw_mono hid_le)) s e
theorem gm_name {i : Nat} {x : V} {σ : L2.St} {H : Hp} {P P' : L2.St → Hp → Prop} (h : ∀ σ H, P σ H → P' σ H) (q : gName i x σ H P) : gName i x σ H P' := h _ _ q
theorem gm_tup2 {K : PySem.W.Frag} {i j : Nat} {x : V} {σ : L2.St} {H : Hp} {P P' : L2.St → Hp → Prop} (h : ∀ σ H, P σ H → P' σ H) (q : gTup K 2 (gCons (gName i) (gCons (gName j) gNil)) x σ H P) : gTup K 2 (gCons (gName i) (gCons (gName j) gNil)) x σ H P' := by
  obtain ⟨a, xs, e, s, l, v, r, e1, v2, r2, e2, e3, q⟩ := q
  exact ⟨a, xs, e, s, l, v, r, e1, v2, r2, e2, e3, h _ _ q⟩
theorem gm_tup3 {K : PySem.W.Frag} {i j k : Nat} {x : V} {σ : L2.St} {H : Hp} {P P' : L2.St → Hp → Prop} (h : ∀ σ H, P σ H → P' σ H) (q : gTup K 3 (gCons (gName i) (gCons (gName j) (gCons (gName k) gNil))) x σ H P) : gTup K 3 (gCons (gName i) (gCons (gName j) (gCons (gName k) gNil))) x σ H P' := by
  obtain ⟨a, xs, e, s, l, v, r, e1, v2, r2, e2, v3, r3, e4, e3, q⟩ := q
  exact ⟨a, xs, e, s, l, v, r, e1, v2, r2, e2, v3, r3, e4, e3, h _ _ q⟩
theorem dp_term_nw {K : PySem.W.Frag} {H H' : Hp} {v : V} {t : Term} (s : Same H H') (h : Dp K H v (dTerm t)) : Dp K (nw H H') v (dTerm t) := by
  obtain ⟨a, rfl, q⟩ := dp_term h
  exact .tup (sqt_nw s q) (.cons (.int _) (.cons (.str _) .nil))
theorem dpa_terms_nw {K : PySem.W.Frag} {H H' : Hp} (s : Same H H') : ∀ {vs : List V} {f : List Term}, DpAll K H vs (f.map dTerm) → DpAll K (nw H H') vs (f.map dTerm)
  | [], [], _ => .nil
  | v :: vs, t :: f, .cons h r => .cons (dp_term_nw s h) (dpa_terms_nw s r)
theorem dpa_map {α : Type} {K : PySem.W.Frag} {H : Hp} {f : α → PyData} {ys : List V} {l : List α} (hl : ys.length = l.length) (h : ∀ (i : Nat) (y : V) (x : α), ys[i]? = some y → l[i]? = some x → Dp K H y (f x)) : DpAll K H ys (l.map f) :=
  dpa_of (by simpa using hl) fun i v d h1 h2 => by
    rw [List.getElem?_map] at h2
    cases q : l[i]? with
    | none => rw [q] at h2; cases h2
    | some x =>
      rw [q] at h2
      cases h2
      exact h i v x h1 q
theorem dpa_map_len {α : Type} {K : PySem.W.Frag} {H : Hp} {f : α → PyData} {ys : List V} {l : List α} (h : DpAll K H ys (l.map f)) : ys.length = l.length := by
  have := dpa_len h
  simpa using this
def dKnown (q : List Line × Str) : PyData := .tuple [dRows q.1, .str q.2]
def dKind (b : Int) (L : List Line) : PyData := .tuple [.int b, dRows L]
theorem dp_pair {K : PySem.W.Frag} {H : Hp} {v : V} {d e : PyData} (h : Dp K H v (.tuple [d, e])) : ∃ a x y, v = .ref a ∧ SqT K H a [x, y] ∧ Dp K H x d ∧ Dp K H y e := by
  obtain ⟨a, xs, ev, s, r⟩ := dp_tuple h
  cases r with
  | cons h1 r =>
    cases r with
    | cons h2 r =>
      cases r
      exact ⟨a, _, _, ev, s, h1, h2⟩

/-! Figurebooks: comprehensions over two loops, dicts made by comprehensions, names. -/

/-- a dict by a comprehension over a list -/
theorem dc_list {K : PySem.W.Frag} {a : Addr} {xs : List V} {g : TG} {tt : TT} {tk tv : TE} {vs : List Nat} {σ : L2.St} {H1 : Hp} {D : Addr} {Qd : Hp → Prop} (Pv : Nat → Hp → Prop) (h0 : Pv 0 (upd H1 D (.dK []))) (hl : ∀ i H, i ≤ xs.length → Pv i H → SqL K H a xs)
    (hs : ∀ i x H, xs[i]? = some x → Pv i H → g x (wipe σ vs) H fun σ2 H2 => wipe σ2 vs = wipe σ vs ∧ tt σ2 H2 fun b H3 =>
      if b = true then tk σ2 H3 fun y H4 => tv σ2 H4 fun z H5 => ∃ kvs k, y = kV k ∧ H5 D = some (.dK kvs) ∧ kvs.length < sizeLine ∧ Pv (i + 1) (upd H5 D (.dK (putK kvs k z))) else Pv (i + 1) H3) (hd : ∀ H, Pv xs.length H → Qd H) :
    ∃ W : Nat → Nat → Hp → Prop, (∃ m, W 0 m (upd H1 D (.dK []))) ∧ ∀ i m H, W i m H →
      ((Itl K a).stop i H ∧ Qd H) ∨ ((Itl K a).go i H ∧ ∃ Nx : Hp → Prop, (∀ H', Nx H' → ∃ m', m' < m ∧ W (i + 1) m' H') ∧ ∀ x H', (Itl K a).yld i H x H' → g x (wipe σ vs) H' fun σ2 H2 => wipe σ2 vs = wipe σ vs ∧ tt σ2 H2 fun b H3 =>
        if b = true then tk σ2 H3 fun y H4 => tv σ2 H4 fun z H5 => ∃ kvs k, y = kV k ∧ H5 D = some (.dK kvs) ∧ kvs.length < sizeLine ∧ Nx (upd H5 D (.dK (putK kvs k z))) else Nx H3) := by
  refine ⟨fun i m H => m = xs.length - i ∧ i ≤ xs.length ∧ Pv i H, ⟨xs.length, by simp, Nat.zero_le _, h0⟩, ?_⟩
  rintro i m H ⟨rfl, hi, p⟩
  have q := hl i H hi p
  by_cases hlt : i < xs.length
  · refine .inr ⟨⟨xs, xs[i], q, by simp [hlt]⟩, Pv (i + 1), fun H' p' => ⟨xs.length - (i + 1), by omega, rfl, hlt, p'⟩, fun x H' y => ?_⟩
    obtain ⟨e, y⟩ := y
    subst e
    exact hs i x _ (y xs q) p
  · have e : i = xs.length := by omega
    subst e
    exact .inl ⟨⟨xs, q, Nat.le_refl _⟩, hd H p⟩
/-- the inner loop of a comprehension of two, over a list -/
theorem lc2_in {K : PySem.W.Frag} {b : Addr} {ys : List V} {g1 : TG} {tt1 : TT} {te : TE} {vs1 : List Nat} {σ2 : L2.St} {H4 : Hp} {D : Addr} {Nx : Hp → Prop} (Pv : Nat → Hp → Prop) (h0 : Pv 0 H4) (hl : ∀ j H, j ≤ ys.length → Pv j H → SqL K H b ys)
    (hs : ∀ j y H, ys[j]? = some y → Pv j H → g1 y (wipe σ2 vs1) H fun σ3 H5 => wipe σ3 vs1 = wipe σ2 vs1 ∧ tt1 σ3 H5 fun b H6 =>
      if b = true then te σ3 H6 fun y H7 => ∃ acc, H7 D = some (.lst acc) ∧ acc.length < sizeLine ∧ Pv (j + 1) (upd H7 D (.lst (acc ++ [y]))) else Pv (j + 1) H6) (hd : ∀ H, Pv ys.length H → Nx H) :
    ∃ W1 : Nat → Nat → Hp → Prop, (∃ m, W1 0 m H4) ∧ ∀ j k H, W1 j k H →
      ((Itl K b).stop j H ∧ Nx H) ∨ ((Itl K b).go j H ∧ ∃ Nx1 : Hp → Prop, (∀ H', Nx1 H' → ∃ k', k' < k ∧ W1 (j + 1) k' H') ∧ ∀ x H', (Itl K b).yld j H x H' → g1 x (wipe σ2 vs1) H' fun σ3 H5 => wipe σ3 vs1 = wipe σ2 vs1 ∧ tt1 σ3 H5 fun b H6 =>
        if b = true then te σ3 H6 fun y H7 => ∃ acc, H7 D = some (.lst acc) ∧ acc.length < sizeLine ∧ Nx1 (upd H7 D (.lst (acc ++ [y]))) else Nx1 H6) := by
  refine ⟨fun j k H => k = ys.length - j ∧ j ≤ ys.length ∧ Pv j H, ⟨ys.length, by simp, Nat.zero_le _, h0⟩, ?_⟩
  rintro j k H ⟨rfl, hj, p⟩
  have q := hl j H hj p
  by_cases hlt : j < ys.length
  · refine .inr ⟨⟨ys, ys[j], q, by simp [hlt]⟩, Pv (j + 1), fun H' p' => ⟨ys.length - (j + 1), by omega, rfl, hlt, p'⟩, fun x H' y => ?_⟩
    obtain ⟨e, y⟩ := y
    subst e
    exact hs j x _ (y ys q) p
  · have e : j = ys.length := by omega
    subst e
    exact .inl ⟨⟨ys, q, Nat.le_refl _⟩, hd H p⟩
/-- the outer one -/
theorem lc2_out {K : PySem.W.Frag} {a : Addr} {xs : List V} {g : TG} {tt : TT} {wi1 : TI} {g1 : TG} {tt1 : TT} {te : TE} {vs vs1 : List Nat} {σ : L2.St} {H1 : Hp} {D : Addr} {Qd : Hp → Prop} (Pv : Nat → Hp → Prop) (h0 : Pv 0 (upd H1 D (.lst []))) (hl : ∀ i H, i ≤ xs.length → Pv i H → SqL K H a xs)
    (hs : ∀ i x H, xs[i]? = some x → Pv i H → g x (wipe σ vs) H fun σ2 H2 => wipe σ2 vs = wipe σ vs ∧ tt σ2 H2 fun b H3 =>
      if b = true then wi1 σ2 H3 fun J1 H4 => ∃ W1 : Nat → Nat → Hp → Prop, (∃ m, W1 0 m H4) ∧ ∀ j k H, W1 j k H →
        (J1.stop j H ∧ Pv (i + 1) H) ∨ (J1.go j H ∧ ∃ Nx1 : Hp → Prop, (∀ H', Nx1 H' → ∃ k', k' < k ∧ W1 (j + 1) k' H') ∧ ∀ x H', J1.yld j H x H' → g1 x (wipe σ2 vs1) H' fun σ3 H5 => wipe σ3 vs1 = wipe σ2 vs1 ∧ tt1 σ3 H5 fun b H6 =>
          if b = true then te σ3 H6 fun y H7 => ∃ acc, H7 D = some (.lst acc) ∧ acc.length < sizeLine ∧ Nx1 (upd H7 D (.lst (acc ++ [y]))) else Nx1 H6)
      else Pv (i + 1) H3) (hd : ∀ H, Pv xs.length H → Qd H) :
    ∃ W : Nat → Nat → Hp → Prop, (∃ m, W 0 m (upd H1 D (.lst []))) ∧ ∀ i m H, W i m H →
      ((Itl K a).stop i H ∧ Qd H) ∨ ((Itl K a).go i H ∧ ∃ Nx : Hp → Prop, (∀ H', Nx H' → ∃ m', m' < m ∧ W (i + 1) m' H') ∧ ∀ x H', (Itl K a).yld i H x H' → g x (wipe σ vs) H' fun σ2 H2 => wipe σ2 vs = wipe σ vs ∧ tt σ2 H2 fun b H3 =>
        if b = true then wi1 σ2 H3 fun J1 H4 => ∃ W1 : Nat → Nat → Hp → Prop, (∃ m, W1 0 m H4) ∧ ∀ j k H, W1 j k H →
          (J1.stop j H ∧ Nx H) ∨ (J1.go j H ∧ ∃ Nx1 : Hp → Prop, (∀ H', Nx1 H' → ∃ k', k' < k ∧ W1 (j + 1) k' H') ∧ ∀ x H', J1.yld j H x H' → g1 x (wipe σ2 vs1) H' fun σ3 H5 => wipe σ3 vs1 = wipe σ2 vs1 ∧ tt1 σ3 H5 fun b H6 =>
            if b = true then te σ3 H6 fun y H7 => ∃ acc, H7 D = some (.lst acc) ∧ acc.length < sizeLine ∧ Nx1 (upd H7 D (.lst (acc ++ [y]))) else Nx1 H6)
        else Nx H3) := by
  refine ⟨fun i m H => m = xs.length - i ∧ i ≤ xs.length ∧ Pv i H, ⟨xs.length, by simp, Nat.zero_le _, h0⟩, ?_⟩
  rintro i m H ⟨rfl, hi, p⟩
  have q := hl i H hi p
  by_cases hlt : i < xs.length
  · refine .inr ⟨⟨xs, xs[i], q, by simp [hlt]⟩, Pv (i + 1), fun H' p' => ⟨xs.length - (i + 1), by omega, rfl, hlt, p'⟩, fun x H' y => ?_⟩
    obtain ⟨e, y⟩ := y
    subst e
    exact hs i x _ (y xs q) p
  · have e : i = xs.length := by omega
    subst e
    exact .inl ⟨⟨xs, q, Nat.le_refl _⟩, hd H p⟩

/-! ### names -/
theorem all_flat_strs : ∀ ns : List Str, (ns.map V.str).all flatV = true
  | [] => rfl
  | _ :: r => by
    rw [List.map_cons, List.all_cons, all_flat_strs r]
    rfl
theorem inV_strs (x : Str) : ∀ ns : List Str, inV (.str x) (ns.map V.str) = decide (x ∈ ns)
  | [] => rfl
  | n :: r => by
    have ih := inV_strs x r
    show (eqV (.str n) (.str x) || inV (.str x) (r.map V.str)) = decide (x ∈ n :: r)
    rw [ih]
    show ((n == x) || decide (x ∈ r)) = decide (x ∈ n :: r)
    by_cases e : n = x
    · subst e
      simp
    · have e2 : (n == x) = false := by simpa using e
      have e3 : x ≠ n := fun z => e z.symm
      simp [e2, e3]
theorem idx_at {x : Str} : ∀ {ns : List Str}, x ∈ ns → (ns.map V.str)[ns.idxOf x]? = some (.str x) := fun {ns} h => by
  have h1 : ns.idxOf x < ns.length := List.idxOf_lt_length_iff.mpr h
  rw [List.getElem?_map, List.getElem?_eq_getElem h1, List.getElem_idxOf h1]
  rfl
theorem idx_first {x : Str} {ns : List Str} {m : Nat} {z : V} (h : m < ns.idxOf x) (e : (ns.map V.str)[m]? = some z) : eqV z (.str x) = false := by
  rw [List.getElem?_map] at e
  cases q : ns[m]? with
  | none => rw [q] at e; cases e
  | some y =>
    rw [q] at e
    cases e
    show (y == x) = false
    have hm : m < ns.length := (List.getElem?_eq_some_iff.mp q).1
    have hy : ns[m] = y := by
      have := (List.getElem?_eq_some_iff.mp q).2
      exact this
    have := List.not_of_lt_findIdx (p := (· == x)) (xs := ns) (i := m) (by simpa [List.idxOf] using h)
    rw [hy] at this
    simpa using this
/-- one letter from a to z, as the program asks it -/
def letterB (n : Str) : Bool := decide (V.int (n.length : Int) = V.int 1) && (!decide (n.cps.toList < ("a" : Str).cps.toList) && !decide (("z" : Str).cps.toList < n.cps.toList))
def names (L : List Line) : List Str := L.map (·.1)
def starts (L : List Line) : List Int := L.map (·.2.1)
/-- a term's number where the names are worth vals -/
def worth (ns : List Str) (vals : List Int) (x : Str) : Int := vals.getD (ns.idxOf x) 0
def sumF (ns : List Str) (vals : List Int) (f : List Term) : Int := (f.map fun t => t.1 * worth ns vals t.2).sum
/-- a sound book, of a size that the laws draw -/
structure Sound (b : Int) (L : List Line) : Prop where
  base : b = 2 ∨ b = 3 ∨ b = 4
  many : L.length ≤ 26
  letters : ∀ l ∈ L, letterB l.1 = true ∧ l.1.length ≤ 1000
  nd : (names L).Nodup
  forms : ∀ l ∈ L, (l.2.2.length : Int) = b
  small : ∀ l ∈ L, ∀ f ∈ l.2.2, f.length ≤ 100
  known : ∀ l ∈ L, ∀ f ∈ l.2.2, ∀ t ∈ f, t.2 ∈ names L
  coefs : ∀ l ∈ L, ∀ f ∈ l.2.2, ∀ t ∈ f, t.1.natAbs < 2 ^ 10
  begins : ∀ l ∈ L, l.2.1.natAbs < 2 ^ 20
  sound : ∀ l ∈ L, ∀ f, l.2.2[0]? = some f → l.2.1 = sumF (names L) (starts L) f
theorem ext_map {α : Type} {ys : List V} {l : List α} {g : α → V} (hl : ys.length = l.length) (h : ∀ (i : Nat) (y : V) (x : α), ys[i]? = some y → l[i]? = some x → y = g x) : ys = l.map g := by
  refine List.ext_getElem? fun i => ?_
  rw [List.getElem?_map]
  by_cases hi : i < l.length
  · have h2 : i < ys.length := by omega
    rw [List.getElem?_eq_getElem h2, List.getElem?_eq_getElem hi]
    exact congrArg some (h i _ _ (List.getElem?_eq_getElem h2) (List.getElem?_eq_getElem hi))
  · rw [List.getElem?_eq_none (by omega), List.getElem?_eq_none (by omega)]
    rfl
theorem worth_at : ∀ {ns : List Str} {vals : List Int} {x : Str} {v : Int}, ns.length = vals.length → x ∈ ns → vals[ns.idxOf x]? = some v → worth ns vals x = v := fun {ns vals x v} _ _ h => by
  unfold worth
  rw [List.getD_eq_getElem?_getD, h]
  rfl
theorem val_line {x : Str} : ∀ {L : List Line}, x ∈ names L → valV (L.map fun l => ((Sum.inr l.1 : Key), V.int l.2.1)) (Sum.inr x) = some (.int (worth (names L) (starts L) x))
  | [], h => by simp [names] at h
  | l :: r, h => by
    by_cases e : l.1 = x
    · rw [List.map_cons, valV_pos (p := ((Sum.inr l.1 : Key), V.int l.2.1)) (by rw [e])]
      have : (names (l :: r)).idxOf x = 0 := by
        show (l.1 :: names r).idxOf x = 0
        rw [e, List.idxOf_cons_self]
      unfold worth
      rw [this]
      rfl
    · have h2 : x ∈ names r := by
        have h' : x ∈ l.1 :: names r := h
        rcases List.mem_cons.mp h' with z | z
        · exact absurd z.symm e
        · exact z
      rw [List.map_cons, valV_neg (p := ((Sum.inr l.1 : Key), V.int l.2.1)) (fun z => e (Sum.inr.inj z)), val_line h2]
      have : (names (l :: r)).idxOf x = (names r).idxOf x + 1 := by
        show (l.1 :: names r).idxOf x = _
        simp [List.idxOf_cons, beq_eq_false_iff_ne.mpr e]
      unfold worth
      rw [this]
      rfl
theorem put_line {L : List Line} {i : Nat} {l : Line} (nd : (names L).Nodup) (h : L[i]? = some l) :
    putK ((L.take i).map fun l => ((Sum.inr l.1 : Key), V.int l.2.1)) (Sum.inr l.1) (V.int l.2.1) = (L.take (i + 1)).map fun l => ((Sum.inr l.1 : Key), V.int l.2.1) := by
  have hn : valV ((L.take i).map fun l => ((Sum.inr l.1 : Key), V.int l.2.1)) (Sum.inr l.1) = none := by
    cases e : valV ((L.take i).map fun l => ((Sum.inr l.1 : Key), V.int l.2.1)) (Sum.inr l.1) with
    | none => rfl
    | some v =>
      have h1 := valV_in e
      obtain ⟨y, hy, ey⟩ := List.mem_map.mp h1
      obtain ⟨z, hz, ez⟩ := List.mem_map.mp hy
      obtain ⟨j, hj, ej⟩ := List.getElem_of_mem hz
      have hj' : j < i := by
        rw [List.length_take] at hj
        omega
      rw [List.getElem_take] at ej
      have hjl : j < L.length := by
        have := (List.getElem?_eq_some_iff.mp h).1
        omega
      have q1 : (names L)[j]? = some l.1 := by
        unfold names
        rw [List.getElem?_map, List.getElem?_eq_getElem hjl, ej]
        subst ez
        exact congrArg some (Sum.inr.inj ey)
      have q2 : (names L)[i]? = some l.1 := by unfold names; rw [List.getElem?_map, h]; rfl
      have := nd_ix nd q1 q2
      omega
  rw [putK_new _ hn, List.take_add_one, h, List.map_append]
  rfl
theorem worth_small {L : List Line} {b : Int} (S : Sound b L) {x : Str} (h : x ∈ names L) : (worth (names L) (starts L) x).natAbs < 2 ^ 20 := by
  have h1 : (names L).idxOf x < (names L).length := List.idxOf_lt_length_iff.mpr h
  have hn : (names L).length = L.length := List.length_map ..
  have h2 : (names L).idxOf x < L.length := by omega
  unfold worth
  rw [List.getD_eq_getElem?_getD, show (starts L)[(names L).idxOf x]? = some (L[(names L).idxOf x]).2.1 from by unfold starts; rw [List.getElem?_map, List.getElem?_eq_getElem h2]; rfl]
  exact S.begins _ (List.getElem_mem h2)
theorem mulx2 {i j : Int} {a b : Nat} (hi : i.natAbs < 2 ^ a) (hj : j.natAbs < 2 ^ b) (h : a + b ≤ 1000000) : CMulX i j := mulx_ok hi hj (by omega)
def dStep (ns : List Str) (f : List Term) : PyData := .list (f.map fun t => .tuple [.int t.1, .int (ns.idxOf t.2 : Nat)])
def dSteps (ns : List Str) (L : List Line) (k : Nat) : PyData := .list (L.map fun l => dStep ns (l.2.2.getD k []))
section
variable {σ : L2.St} {H : Hp} {D : Ends} {ta tv : TE}
theorem r_sfld {K : PySem.W.Frag} {f : Str} (q : tv σ H fun y H1 => ta σ H1 fun x H2 => ∃ a C dx fs, x = .ref a ∧ H2 a = some (.ins C dx fs) ∧ Cls K C ∧ NoAttr K C f ∧ fs.length < 1000 ∧ D.nx σ (upd H2 a (.ins C dx (putF f y fs)))) : sFld K ta tv f D σ H := q
end
theorem nw_in {H0 H H4 : Hp} {x : Addr} {o : HO} (s : Same H0 H) (e : H x = some o) (f : fixedO o = false) : Same (nw H H4) (nw H0 (hid x H4)) := fun a u z => by
  have nD : a ≠ x := fun q => by
    subst q
    unfold nw at z
    rw [e] at z
    exact absurd ((if_neg (fun g : fixedO o = true => by rw [f] at g; cases g)).symm.trans z) (fun q => by cases q)
  cases h1 : H0 a with
  | none =>
    rw [nw_new h1]
    exact hid_at (nw_le a u z) nD
  | some o' =>
    have h := s a o' h1
    by_cases g : fixedO o' = true
    · rw [nw_fix h1 g]
      exact hid_at (nw_le a u z) nD
    · unfold nw at z
      rw [h] at z
      exact absurd ((if_neg g).symm.trans z) (fun q => by cases q)
theorem keep_same {x : Addr} {H H' : Hp} (k : Keep x H H') : Same (hid x H) H' := fun a u e => k a u (hid_of e).1 (hid_of e).2
theorem hid_back {x : Addr} {H H' : Hp} (k : Keep x H H') : Same (hid x H) (hid x H') := k.hid
def bkF (b : Int) (nm st fm sp : Addr) : List (Str × V) := [("_base", .int b), ("_names", .ref nm), ("_starts", .ref st), ("_formulas", .ref fm), ("_system", .ref sp)]
theorem bk_put (b : Int) (nm st fm sp : Addr) : putF "_system" (.ref sp) (putF "_formulas" (.ref fm) (putF "_starts" (.ref st) (putF "_names" (.ref nm) (putF "_base" (.int b) [])))) = bkF b nm st fm sp := by
  have h1 : ¬ (("_base" : Str) = "_names") := by decide +kernel
  have h2 : ¬ (("_base" : Str) = "_starts") := by decide +kernel
  have h3 : ¬ (("_base" : Str) = "_formulas") := by decide +kernel
  have h4 : ¬ (("_base" : Str) = "_system") := by decide +kernel
  have h5 : ¬ (("_names" : Str) = "_starts") := by decide +kernel
  have h6 : ¬ (("_names" : Str) = "_formulas") := by decide +kernel
  have h7 : ¬ (("_names" : Str) = "_system") := by decide +kernel
  have h8 : ¬ (("_starts" : Str) = "_formulas") := by decide +kernel
  have h9 : ¬ (("_starts" : Str) = "_system") := by decide +kernel
  have h10 : ¬ (("_formulas" : Str) = "_system") := by decide +kernel
  simp only [putF, if_neg h1, if_neg h2, if_neg h3, if_neg h4, if_neg h5, if_neg h6, if_neg h7, if_neg h8, if_neg h9, if_neg h10, bkF]
theorem bk_base {b : Int} {nm st fm sp : Addr} : (bkF b nm st fm sp).lookup ("_base" : Str) = some (.int b) := by
  rw [← bk_put]
  rw [lookup_putF, if_neg (by decide +kernel), lookup_putF, if_neg (by decide +kernel), lookup_putF, if_neg (by decide +kernel), lookup_putF, if_neg (by decide +kernel), lookup_putF, if_pos rfl]
theorem bk_names {b : Int} {nm st fm sp : Addr} : (bkF b nm st fm sp).lookup ("_names" : Str) = some (.ref nm) := by
  rw [← bk_put]
  rw [lookup_putF, if_neg (by decide +kernel), lookup_putF, if_neg (by decide +kernel), lookup_putF, if_neg (by decide +kernel), lookup_putF, if_pos rfl]
theorem bk_starts {b : Int} {nm st fm sp : Addr} : (bkF b nm st fm sp).lookup ("_starts" : Str) = some (.ref st) := by
  rw [← bk_put]
  rw [lookup_putF, if_neg (by decide +kernel), lookup_putF, if_neg (by decide +kernel), lookup_putF, if_pos rfl]
theorem bk_formulas {b : Int} {nm st fm sp : Addr} : (bkF b nm st fm sp).lookup ("_formulas" : Str) = some (.ref fm) := by
  rw [← bk_put]
  rw [lookup_putF, if_neg (by decide +kernel), lookup_putF, if_pos rfl]
theorem bk_system {b : Int} {nm st fm sp : Addr} : (bkF b nm st fm sp).lookup ("_system" : Str) = some (.ref sp) := by
  rw [← bk_put]
  rw [lookup_putF, if_pos rfl]
theorem bk_no {b : Int} {nm st fm sp : Addr} {m : Str} (h : m ∉ ([("_base" : Str), "_names", "_starts", "_formulas", "_system"] : List Str)) : (bkF b nm st fm sp).lookup m = none := by
  simp only [List.mem_cons, not_or, List.not_mem_nil] at h
  obtain ⟨h1, h2, h3, h4, h5, _⟩ := h
  rw [← bk_put]
  rw [lookup_putF, if_neg h5, lookup_putF, if_neg h4, lookup_putF, if_neg h3, lookup_putF, if_neg h2, lookup_putF, if_neg h1]
  rfl
/-! ### systems: rows without names -/
abbrev Tm := Int × Nat
abbrev Sys := List Int × List (List (List Tm))
def dTm (t : Tm) : PyData := .tuple [.int t.1, .int (t.2 : Int)]
def dTms (f : List Tm) : PyData := .tuple (f.map dTm)
def dStT (r : List (List Tm)) : PyData := .tuple (r.map dTms)
def dSt (S : Sys) : PyData := .tuple (S.2.map dStT)
def ixT (ns : List Str) (f : List Term) : List Tm := f.map fun t => (t.1, ns.idxOf t.2)
def rowsT (ns : List Str) (L : List Line) (k : Nat) : List (List Tm) := L.map fun l => ixT ns (l.2.2.getD k [])
def sysOf (b : Int) (L : List Line) : Sys := (starts L, (List.range b.toNat).map (rowsT (names L) L))
def syF (a c : Addr) : List (Str × V) := [("_starts", .ref a), ("_steps", .ref c)]
theorem sy_put (a c : Addr) : putF "_steps" (.ref c) (putF "_starts" (.ref a) []) = syF a c := by
  have h1 : ¬ (("_starts" : Str) = "_steps") := by decide +kernel
  simp only [putF, if_neg h1, syF]
theorem sy_starts {a c : Addr} : (syF a c).lookup ("_starts" : Str) = some (.ref a) := by
  rw [← sy_put, lookup_putF, if_neg (by decide +kernel), lookup_putF, if_pos rfl]
theorem sy_steps {a c : Addr} : (syF a c).lookup ("_steps" : Str) = some (.ref c) := by
  rw [← sy_put, lookup_putF, if_pos rfl]
theorem sy_no {a c : Addr} {m : Str} (h : m ∉ ([("_starts" : Str), "_steps"] : List Str)) : (syF a c).lookup m = none := by
  simp only [List.mem_cons, not_or, List.not_mem_nil] at h
  obtain ⟨h1, h2, _⟩ := h
  rw [← sy_put, lookup_putF, if_neg h2, lookup_putF, if_neg h1]
  rfl
/-- a system of the class at C stands at y -/
structure SysC (C : Addr) (K : PySem.W.Frag) (H : Hp) (y : Addr) (S : Sys) : Prop where
  ex : ∃ dx a c, H y = some (.ins C dx (syF a c)) ∧ SqT K H a (S.1.map V.int) ∧ Dp K H (.ref c) (dSt S)
theorem SysC.same {C : Addr} {K : PySem.W.Frag} {H H' : Hp} {y : Addr} {S : Sys} (e : Same H H') (h : SysC C K H y S) : SysC C K H' y S := by
  obtain ⟨dx, a, c, h1, h2, h3⟩ := h.ex
  exact ⟨dx, a, c, e _ _ h1, sqt_same e h2, dp_same e h3⟩
/-- a book of the class at C.1 stands at x, its system of the class at C.2 -/
structure BookC (C : Addr × Addr) (K : PySem.W.Frag) (H : Hp) (x : Addr) (b : Int) (L : List Line) : Prop where
  ex : ∃ dx nm st fm sp, H x = some (.ins C.1 dx (bkF b nm st fm sp)) ∧ H nm = some (.lst ((names L).map V.str)) ∧ H st = some (.lst ((starts L).map V.int)) ∧
    Dp K H (.ref fm) (.list (L.map fun l => dForms l.2.2)) ∧ SysC C.2 K H sp (sysOf b L)
theorem BookC.same {C : Addr × Addr} {K : PySem.W.Frag} {H H' : Hp} {x : Addr} {b : Int} {L : List Line} (e : Same H H') (h : BookC C K H x b L) : BookC C K H' x b L := by
  obtain ⟨dx, nm, st, fm, sp, h1, h2, h3, h4, h5⟩ := h.ex
  exact ⟨dx, nm, st, fm, sp, e _ _ h1, e _ _ h2, e _ _ h3, dp_same e h4, h5.same e⟩
theorem lr_pure {n : Nat} {g : TG} {tt : TT} {te : TE} {vs : List Nat} {σ : L2.St} {H1 : Hp} {D : Addr} {Qd : Hp → Prop} (R : Nat → V → Hp → Prop) (hR : ∀ i y H H', R i y H → Same H H' → R i y H')
    (hD : H1 D = none) (hl : n ≤ 1000)
    (gm : ∀ x H (P P' : L2.St → Hp → Prop), (∀ σ H, P σ H → P' σ H) → g x (wipe σ vs) H P → g x (wipe σ vs) H P') (tm : ∀ σ H (P P' : Bool → Hp → Prop), (∀ b H, P b H → P' b H) → tt σ H P → tt σ H P')
    (hs : ∀ i H (Q : VK), i < n → Same H1 H → H D ≠ none → (∀ y H4, Same H H4 → R i y (nw H H4) → Q y H4) → LcTurn g tt te vs σ (.int (0 + (i : Int))) H Q)
    (hd : ∀ H ys, ys.length = n → (∀ i y, ys[i]? = some y → R i y (nw H1 H)) → Same H1 H → H D = some (.lst ys) → Qd H) :
    ∃ W : Nat → Nat → Hp → Prop, (∃ m, W 0 m (upd H1 D (.lst []))) ∧ ∀ i m H, W i m H →
      ((Itr 0 n).stop i H ∧ Qd H) ∨ ((Itr 0 n).go i H ∧ ∃ Nx : Hp → Prop, (∀ H', Nx H' → ∃ m', m' < m ∧ W (i + 1) m' H') ∧ ∀ x H', (Itr 0 n).yld i H x H' → g x (wipe σ vs) H' fun σ2 H2 => wipe σ2 vs = wipe σ vs ∧ tt σ2 H2 fun b H3 =>
        if b = true then te σ2 H3 fun y H4 => ∃ acc, H4 D = some (.lst acc) ∧ acc.length < sizeLine ∧ Nx (upd H4 D (.lst (acc ++ [y]))) else Nx H3) := by
  refine lc_range (lo := 0) (n := n) (fun i H => Same H1 H ∧ ∃ ys, H D = some (.lst ys) ∧ ys.length = i ∧ ∀ j y, ys[j]? = some y → R j y (nw H1 (hid D H)))
    ⟨same_new hD, [], upd_same, rfl, fun j y e => by simp at e⟩ ?_ ?_
  · rintro i H hx ⟨s, ys, e, hlen, hy⟩
    refine gm _ H _ _ ?_ (hs i H (fun y H4 => ∃ acc, H4 D = some (.lst acc) ∧ acc.length < sizeLine ∧ (Same H1 (upd H4 D (.lst (acc ++ [y]))) ∧ ∃ zs, (upd H4 D (.lst (acc ++ [y]))) D = some (.lst zs) ∧ zs.length = i + 1 ∧ ∀ j z, zs[j]? = some z → R j z (nw H1 (hid D (upd H4 D (.lst (acc ++ [y]))))))) hx s (by rw [e]; exact fun z => by cases z) ?_)
    · rintro σ2 H2 ⟨w, h⟩
      refine ⟨w, tm _ _ _ _ ?_ h⟩
      intro b H3 h
      cases b with
      | true =>
        rw [if_pos rfl] at h ⊢
        exact h
      | false =>
        rw [if_neg Bool.false_ne_true] at h
        exact h.elim
    · intro y H4 s4 r4
      refine ⟨ys, s4 _ _ e, Nat.lt_of_le_of_lt (show ys.length ≤ 1000 by omega) (by decide), Fb.Same.mut (s.trans s4) hD, ys ++ [y], upd_same, by simp [hlen], fun j z hz => ?_⟩
      rw [hid_upd]
      by_cases hj : j < ys.length
      · rw [List.getElem?_append_left hj] at hz
        exact hR _ _ _ _ (hy j z hz) (nw_mono (hid_same s4))
      · have ej : j = i := by
          have := (List.getElem?_eq_some_iff.mp hz).1
          simp at this
          omega
        subst ej
        rw [List.getElem?_append_right (by omega)] at hz
        have e0 : j - ys.length = 0 := by omega
        rw [e0] at hz
        have ez : y = z := Option.some.inj hz
        subst ez
        exact hR _ _ _ _ r4 (nw_hid s e)
  · rintro H ⟨s, ys, e, hlen, hy⟩
    exact hd H ys hlen (fun i y h => hR _ _ _ _ (hy i y h) (nw_mono hid_le)) s e

/-! Figurebooks: zip in a comprehension; figures; values. -/
/-- a comprehension over zip of two lists of one length, whose items are ints worked out of the pair -/
theorem lz_ints {K : PySem.W.Frag} {a b : Addr} {xs ys : List V} {g : TG} {tt : TT} {te : TE} {vs : List Nat} {σ : L2.St} {H1 : Hp} {D : Addr} {Qd : Hp → Prop} (φ : Nat → Int) (hl : xs.length = ys.length) (hS : SqL K H1 a xs) (hS2 : SqL K H1 b ys) (hD : H1 D = none) (hz : xs.length ≤ 1000)
    (gm : ∀ x H (P P' : L2.St → Hp → Prop), (∀ σ H, P σ H → P' σ H) → g x (wipe σ vs) H P → g x (wipe σ vs) H P') (tm : ∀ σ H (P P' : Bool → Hp → Prop), (∀ b H, P b H → P' b H) → tt σ H P → tt σ H P')
    (hs : ∀ i x y (T : Addr) H (Q : VK), xs[i]? = some x → ys[i]? = some y → Same H1 H → SqT K H T [x, y] → (Q (.int (φ i)) H) → LcTurn g tt te vs σ (.ref T) H Q)
    (hd : ∀ H, Same H1 H → H D = some (.lst ((List.range xs.length).map fun i => V.int (φ i))) → Qd H) :
    ∃ W : Nat → Nat → Hp → Prop, (∃ m, W 0 m (upd H1 D (.lst []))) ∧ ∀ i m H, W i m H →
      ((Itz K a b).stop i H ∧ Qd H) ∨ ((Itz K a b).go i H ∧ ∃ Nx : Hp → Prop, (∀ H', Nx H' → ∃ m', m' < m ∧ W (i + 1) m' H') ∧ ∀ x H', (Itz K a b).yld i H x H' → g x (wipe σ vs) H' fun σ2 H2 => wipe σ2 vs = wipe σ vs ∧ tt σ2 H2 fun b H3 =>
        if b = true then te σ2 H3 fun y H4 => ∃ acc, H4 D = some (.lst acc) ∧ acc.length < sizeLine ∧ Nx (upd H4 D (.lst (acc ++ [y]))) else Nx H3) := by
  let Pv : Nat → Hp → Prop := fun i H => Same H1 H ∧ H D = some (.lst ((List.range i).map fun i => V.int (φ i)))
  refine ⟨fun i m H => m = xs.length - i ∧ i ≤ xs.length ∧ Pv i H, ⟨xs.length, by simp, Nat.zero_le _, same_new hD, upd_same⟩, ?_⟩
  rintro i m H ⟨rfl, hi, s, e⟩
  have qx := s.seq hS
  have qy := s.seq hS2
  by_cases hlt : i < xs.length
  · have hx : xs[i]? = some xs[i] := List.getElem?_eq_getElem hlt
    have hlt2 : i < ys.length := by omega
    have hy : ys[i]? = some ys[i] := List.getElem?_eq_getElem hlt2
    refine .inr ⟨⟨xs, ys, _, _, qx, qy, hx, hy⟩, Pv (i + 1), fun H' p' => ⟨xs.length - (i + 1), by omega, rfl, hlt, p'⟩, fun v H' y => ?_⟩
    obtain ⟨T, x', y', rfl, hT, rfl, f1, f2⟩ := y
    have ex : x' = xs[i] := Option.some.inj ((f1 _ qx).symm.trans hx)
    have ey : y' = ys[i] := Option.some.inj ((f2 _ qy).symm.trans hy)
    subst ex
    subst ey
    refine gm _ _ _ _ ?_ (hs i _ _ T _ (fun y H4 => ∃ acc, H4 D = some (.lst acc) ∧ acc.length < sizeLine ∧ Pv (i + 1) (upd H4 D (.lst (acc ++ [y])))) hx hy (Fb.Same.new s hT) (st_of upd_same) ?_)
    · rintro σ2 H2 ⟨w, h⟩
      refine ⟨w, tm _ _ _ _ ?_ h⟩
      intro b H3 h
      cases b with
      | true =>
        rw [if_pos rfl] at h ⊢
        exact h
      | false =>
        rw [if_neg Bool.false_ne_true] at h
        exact h.elim
    · refine ⟨_, upd_old hT e, ?_, Fb.Same.mut (Fb.Same.new s hT) hD, ?_⟩
      · rw [List.length_map, List.length_range]
        exact small1000 (by omega)
      · rw [upd_same, List.range_succ, List.map_append]
        rfl
  · have e' : i = xs.length := by omega
    subst e'
    exact .inl ⟨⟨xs, ys, qx, qy, .inl (Nat.le_refl _)⟩, hd H s e⟩

/-! ### values -/
def stepV (L : List Line) (vals : List Int) (k : Nat) : List Int := L.map fun l => sumF (names L) vals (l.2.2.getD k [])
/-- the figures, the last one first -/
def digs (b : Nat) (n : Nat) : List Nat := if h : n = 0 ∨ b < 2 then [] else (n % b) :: digs b (n / b)
termination_by n
decreasing_by
  have h1 : n ≠ 0 := fun z => h (.inl z)
  have h2 : ¬ b < 2 := fun z => h (.inr z)
  exact Nat.div_lt_self (by omega) (by omega)
theorem digs_zero {b : Nat} : digs b 0 = [] := by
  rw [digs]
  simp
theorem digs_pos {b n : Nat} (h : 0 < n) (hb : 2 ≤ b) : digs b n = (n % b) :: digs b (n / b) := by
  rw [digs]
  rw [dif_neg (by omega)]
def vec (b : Nat) (L : List Line) (n : Nat) : List Int := (digs b n).reverse.foldl (stepV L) (starts L)
theorem vec_zero {b : Nat} {L : List Line} : vec b L 0 = starts L := by
  unfold vec
  rw [digs_zero]
  rfl
theorem vec_pos {b n : Nat} {L : List Line} (h : 0 < n) (hb : 2 ≤ b) : vec b L n = stepV L (vec b L (n / b)) (n % b) := by
  unfold vec
  rw [digs_pos h hb, List.reverse_cons, List.foldl_append]
  rfl
theorem step_len {L : List Line} {vals : List Int} {k : Nat} : (stepV L vals k).length = L.length := List.length_map ..
theorem vec_len {b n : Nat} {L : List Line} (hb : 2 ≤ b) : (vec b L n).length = L.length := by
  by_cases h : 0 < n
  · rw [vec_pos h hb, step_len]
  · have e : n = 0 := by omega
    rw [e, vec_zero]
    exact List.length_map ..
theorem sum_le {l : List Int} {M : Nat} (h : ∀ x ∈ l, x.natAbs ≤ M) : l.sum.natAbs ≤ l.length * M := by
  induction l with
  | nil => simp
  | cons x r ih =>
    have h1 := h x List.mem_cons_self
    have h2 := ih fun y hy => h y (List.mem_cons_of_mem _ hy)
    rw [List.sum_cons, List.length_cons, Nat.add_mul]
    have h3 := Int.natAbs_add_le x r.sum
    omega
theorem worth_le {ns : List Str} {vals : List Int} {x : Str} {M : Nat} (h : ∀ v ∈ vals, v.natAbs ≤ M) : (worth ns vals x).natAbs ≤ M := by
  unfold worth
  rw [List.getD_eq_getElem?_getD]
  cases e : vals[ns.idxOf x]? with
  | none => exact Nat.zero_le _
  | some v => exact h v (List.mem_of_getElem? e)
theorem sumF_le {ns : List Str} {vals : List Int} {f : List Term} {M : Nat} (h : ∀ v ∈ vals, v.natAbs ≤ M) (hf : f.length ≤ 100) (hc : ∀ t ∈ f, t.1.natAbs < 2 ^ 10) : (sumF ns vals f).natAbs ≤ 2 ^ 17 * M := by
  have h1 : (sumF ns vals f).natAbs ≤ (f.map fun t => t.1 * worth ns vals t.2).length * (2 ^ 10 * M) := sum_le fun x hx => by
    obtain ⟨t, ht, e⟩ := List.mem_map.mp hx
    subst e
    rw [Int.natAbs_mul]
    exact Nat.mul_le_mul (Nat.le_of_lt (hc t ht)) (worth_le h)
  rw [List.length_map] at h1
  have h2 : f.length * (2 ^ 10 * M) ≤ 128 * (2 ^ 10 * M) := Nat.mul_le_mul_right _ (by omega)
  have h3 : 128 * (2 ^ 10 * M) = 2 ^ 17 * M := by rw [← Nat.mul_assoc]
  omega
theorem step_le {b : Int} {L : List Line} (S : Sound b L) {vals : List Int} {k M : Nat} (h : ∀ v ∈ vals, v.natAbs ≤ M) : ∀ v ∈ stepV L vals k, v.natAbs ≤ 2 ^ 17 * M := fun v hv => by
  obtain ⟨l, hl, e⟩ := List.mem_map.mp hv
  subst e
  by_cases hk : k < l.2.2.length
  · have hm : l.2.2.getD k [] ∈ l.2.2 := by
      rw [List.getD_eq_getElem?_getD, List.getElem?_eq_getElem hk]
      exact List.getElem_mem hk
    exact sumF_le h (S.small l hl _ hm) (S.coefs l hl _ hm)
  · have hm : l.2.2.getD k [] = [] := by
      rw [List.getD_eq_getElem?_getD, List.getElem?_eq_none (by omega)]
      rfl
    rw [hm]
    exact Nat.zero_le _
theorem vec_le {b : Int} {L : List Line} (S : Sound b L) {c : Nat} (hc : 2 ≤ c) : ∀ (m n : Nat), n < 2 ^ m → ∀ v ∈ vec c L n, v.natAbs ≤ 2 ^ (20 + 17 * m)
  | 0, n, h, v, hv => by
    have e : n = 0 := by omega
    rw [e, vec_zero] at hv
    obtain ⟨l, hl, e2⟩ := List.mem_map.mp hv
    subst e2
    exact Nat.le_of_lt (S.begins l hl)
  | m + 1, n, h, v, hv => by
    by_cases hp : 0 < n
    · rw [vec_pos hp hc] at hv
      have h1 : n / c < 2 ^ m := by
        rw [Nat.div_lt_iff_lt_mul (by omega)]
        have h2 : 2 ^ m * 2 ≤ 2 ^ m * c := Nat.mul_le_mul_left _ hc
        have h3 : 2 ^ (m + 1) = 2 ^ m * 2 := rfl
        omega
      have h4 := step_le S (vec_le S hc m (n / c) h1) v hv
      have h5 : 2 ^ 17 * 2 ^ (20 + 17 * m) = 2 ^ (20 + 17 * (m + 1)) := by
        rw [← Nat.pow_add]
        congr 1
        omega
      omega
    · have e : n = 0 := by omega
      rw [e, vec_zero] at hv
      obtain ⟨l, hl, e2⟩ := List.mem_map.mp hv
      subst e2
      exact Nat.le_trans (Nat.le_of_lt (S.begins l hl)) (Nat.pow_le_pow_right (by decide) (by omega))
/-- the value at b n + k, by the formulas -/
theorem vec_step {b : Int} {L : List Line} (S : Sound b L) {m k : Nat} (hk : k < b.toNat) : vec b.toNat L (b.toNat * m + k) = stepV L (vec b.toNat L m) k := by
  have hb := S.base
  have h2 : 2 ≤ b.toNat := by omega
  by_cases h : 0 < b.toNat * m + k
  · rw [vec_pos h h2]
    congr 1
    · congr 1
      rw [Nat.mul_add_div (by omega), Nat.div_eq_of_lt hk, Nat.add_zero]
    · rw [Nat.mul_add_mod, Nat.mod_eq_of_lt hk]
  · have hk0 : k = 0 := by omega
    have hm0 : m = 0 := by
      have : b.toNat * m = 0 := by omega
      rcases Nat.mul_eq_zero.mp this with z | z <;> omega
    subst hk0
    subst hm0
    rw [Nat.mul_zero, vec_zero]
    unfold stepV starts
    refine List.map_congr_left fun l hl => ?_
    have hf := S.forms l hl
    have h0 : 0 < l.2.2.length := by omega
    have e : l.2.2[0]? = some l.2.2[0] := List.getElem?_eq_getElem h0
    rw [List.getD_eq_getElem?_getD, e]
    exact S.sound l hl _ e
def dot (cs vals : List Int) : Int := ((cs.zip vals).map fun p => p.1 * p.2).sum
theorem dot_range {cs vals : List Int} (h : cs.length = vals.length) : dot cs vals = ((List.range cs.length).map fun i => cs.getD i 0 * vals.getD i 0).sum := by
  unfold dot
  congr 1
  refine List.ext_getElem? fun i => ?_
  rw [List.getElem?_map, List.getElem?_map]
  by_cases hi : i < cs.length
  · have hi2 : i < vals.length := by omega
    rw [List.getElem?_range hi, List.getElem?_eq_getElem (l := cs.zip vals) (by rw [List.length_zip]; omega), List.getElem_zip]
    simp only [Option.map_some]
    rw [List.getD_eq_getElem?_getD, List.getD_eq_getElem?_getD, List.getElem?_eq_getElem hi, List.getElem?_eq_getElem hi2]
    rfl
  · rw [List.getElem?_eq_none (by rw [List.length_zip]; omega), List.getElem?_eq_none (by rw [List.length_range]; omega)]
    rfl
theorem dot_le {cs vals : List Int} {A M : Nat} (h : cs.length = vals.length) (hA : ∀ c ∈ cs, c.natAbs ≤ A) (hM : ∀ v ∈ vals, v.natAbs ≤ M) : (dot cs vals).natAbs ≤ cs.length * (A * M) := by
  have h1 : (dot cs vals).natAbs ≤ ((cs.zip vals).map fun p => p.1 * p.2).length * (A * M) := sum_le fun x hx => by
    obtain ⟨p, hp, e⟩ := List.mem_map.mp hx
    subst e
    rw [Int.natAbs_mul]
    exact Nat.mul_le_mul (hA _ (List.of_mem_zip hp).1) (hM _ (List.of_mem_zip hp).2)
  rw [List.length_map, List.length_zip] at h1
  have h2 : min cs.length vals.length = cs.length := by omega
  rw [h2] at h1
  exact h1
/-- a number as a value -/
def dv (d : Nat) : V := V.int (d : Int)
/-- the number in a slot -/
def slotN (o : Option (Option V)) : Nat := match o with
  | some (some (V.int i)) => i.toNat
  | _ => 0
theorem fold_le {b : Int} {L : List Line} (S : Sound b L) : ∀ (ds : List Nat) (vals : List Int) (m : Nat), (∀ v ∈ vals, v.natAbs ≤ 2 ^ m) → ∀ v ∈ ds.foldl (stepV L) vals, v.natAbs ≤ 2 ^ (m + 17 * ds.length)
  | [], vals, m, h, v, hv => h v hv
  | d :: ds, vals, m, h, v, hv => by
    have h1 : ∀ v ∈ stepV L vals d, v.natAbs ≤ 2 ^ (m + 17) := fun v hv => by
      have := step_le S h v hv
      rw [← Nat.pow_add] at this
      rw [show m + 17 = 17 + m by omega]
      exact this
    have := fold_le S ds (stepV L vals d) (m + 17) h1 v hv
    rw [show m + 17 * (d :: ds).length = m + 17 + 17 * ds.length by rw [List.length_cons]; omega]
    exact this
theorem fold_len {L : List Line} : ∀ (ds : List Nat) (vals : List Int), vals.length = L.length → (ds.foldl (stepV L) vals).length = L.length
  | [], _, h => h
  | d :: ds, vals, _ => fold_len ds (stepV L vals d) step_len
def rwF (x c : Addr) : List (Str × V) := [("_book", .ref x), ("_coefficients", .ref c)]
theorem rw_put (x c : Addr) : putF "_coefficients" (.ref c) (putF "_book" (.ref x) []) = rwF x c := by
  have h1 : ¬ (("_book" : Str) = "_coefficients") := by decide +kernel
  simp only [putF, if_neg h1, rwF]
theorem rw_book {x c : Addr} : (rwF x c).lookup ("_book" : Str) = some (.ref x) := by
  rw [← rw_put, lookup_putF, if_neg (by decide +kernel), lookup_putF, if_pos rfl]
theorem rw_coefs {x c : Addr} : (rwF x c).lookup ("_coefficients" : Str) = some (.ref c) := by
  rw [← rw_put, lookup_putF, if_pos rfl]
theorem rw_no {x c : Addr} {m : Str} (h : m ∉ ([("_book" : Str), "_coefficients"] : List Str)) : (rwF x c).lookup m = none := by
  simp only [List.mem_cons, not_or, List.not_mem_nil] at h
  obtain ⟨h1, h2, _⟩ := h
  rw [← rw_put, lookup_putF, if_neg h2, lookup_putF, if_neg h1]
  rfl
/-- a row of the class at C stands at y, of the book of the class at CB at x -/
structure RowC (C : Addr) (CB : Addr × Addr) (K : PySem.W.Frag) (H : Hp) (y x : Addr) (b : Int) (L : List Line) (cs : List Int) : Prop where
  ex : ∃ dx c, H y = some (.ins C dx (rwF x c)) ∧ H c = some (.lst (cs.map V.int))
  book : BookC CB K H x b L
  len : cs.length = L.length
theorem RowC.same {C : Addr} {CB : Addr × Addr} {K : PySem.W.Frag} {H H' : Hp} {y x : Addr} {b : Int} {L : List Line} {cs : List Int} (e : Same H H') (h : RowC C CB K H y x b L cs) : RowC C CB K H' y x b L cs := by
  obtain ⟨dx, c, h1, h2⟩ := h.ex
  exact ⟨⟨dx, c, e _ _ h1, e _ _ h2⟩, h.book.same e, h.len⟩
/-- a new instance whose __init__ kept all but it: what stood before stands -/
theorem made_same {x dx C : Addr} {H H' : Hp} (nx : H x = none) (ndx : H dx = none) (k : Keep x (upd (upd H dx (.own x)) x (.ins C dx [])) H') : Same H H' := fun a o e =>
  k a o (upd_oth (ne_of_none e nx) (upd_old ndx e)) (ne_of_none e nx)
theorem made_hid {x dx C : Addr} {H : Hp} (nx : H x = none) (ndx : H dx = none) : Same H (hid x (upd (upd H dx (.own x)) x (.ins C dx []))) := fun a o e =>
  hid_at (upd_oth (ne_of_none e nx) (upd_old ndx e)) (ne_of_none e nx)
def unitV (n j : Nat) : List Int := (List.replicate n 0).set j 1
theorem digs_lt {b : Nat} (hb : 2 ≤ b) : ∀ (n d : Nat), d ∈ digs b n → d < b := fun n => by
  induction n using Nat.strongRecOn with
  | _ n ih =>
    intro d hd
    by_cases hp : 0 < n
    · rw [digs_pos hp hb] at hd
      rcases List.mem_cons.mp hd with e | e
      · subst e
        exact Nat.mod_lt _ (by omega)
      · exact ih (n / b) (Nat.div_lt_self hp (by omega)) d e
    · have e : n = 0 := by omega
      rw [e, digs_zero] at hd
      exact absurd hd List.not_mem_nil

/-! Figurebooks: written data. -/
/-- te makes data d, of new objects and what stood, apart from P -/
def DE (K : PySem.W.Frag) (P : Addr) (σ : L2.St) (H : Hp) (te : TE) (d : PyData) : Prop := ∀ H1, Same H H1 → ∀ Q : VK, (∀ v H2, Same H1 H2 → Dp K (hid P H2) v d → Q v H2) → te σ H1 Q
def DEs (K : PySem.W.Frag) (P : Addr) (σ : L2.St) (H : Hp) (ta : TA) (ds : List PyData) : Prop := ∀ H1, Same H H1 → ∀ Q : List V → Hp → Prop, (∀ vs H2, Same H1 H2 → DpAll K (hid P H2) vs ds → Q vs H2) → ta σ H1 Q
/-- a new list -/
def DL (K : PySem.W.Frag) (P : Addr) (σ : L2.St) (H : Hp) (te : TE) (ds : List PyData) : Prop := ∀ H1, Same H H1 → ∀ Q : VK, (∀ p xs H2, Same H1 H2 → H2 p = some (.lst xs) → p ≠ P → DpAll K (hid P H2) xs ds → Q (.ref p) H2) → te σ H1 Q
section
variable {K : PySem.W.Frag} {P : Addr} {σ : L2.St} {H : Hp} {te : TE} {ta : TA} {d : PyData} {ds : List PyData}
theorem de_int {i : Int} : DE K P σ H (tC (.int i)) (.int i) := fun H1 _ Q q => q _ H1 (Same.refl _) (.int i)
theorem de_str {x : Str} : DE K P σ H (tC (.str x)) (.str x) := fun H1 _ Q q => q _ H1 (Same.refl _) (.str x)
theorem de_neg {i : Int} : DE K P σ H (tUn rNegI (tC (.int i))) (.int (-i)) := fun H1 _ Q q => ⟨i, rfl, q _ H1 (Same.refl _) (.int _)⟩
theorem de_var {i : Nat} {v : V} (h : σ[i]? = some (some v)) (hd : Dp K (hid P H) v d) : DE K P σ H (tVar i) d := fun H1 s Q q => ⟨v, h, q _ H1 (Same.refl _) (dp_same (hid_same s) hd)⟩
theorem des_nil : DEs K P σ H tNil [] := fun H1 _ Q q => q _ H1 (Same.refl _) .nil
theorem des_cons (h : DE K P σ H te d) (r : DEs K P σ H ta ds) : DEs K P σ H (tCons te ta) (d :: ds) := fun H1 s Q q =>
  h H1 s _ fun v H2 s2 dv => r H2 (s.trans s2) _ fun vs H3 s3 dvs => q _ H3 (s2.trans s3) (.cons (dp_same (hid_same s3) dv) dvs)
theorem hid_new {p P : Addr} {H : Hp} {o : HO} (hP : H P ≠ none) (np : H p = none) : hid P (upd H p o) p = some o := hid_at upd_same fun z => hP (z ▸ np)
theorem de_tup (hP : H P ≠ none) (r : DEs K P σ H ta ds) (hl : Nat.ble ds.length 1000 = true) : DE K P σ H (tTup ta) (.tuple ds) := fun H1 s Q q =>
  r H1 s _ fun vs H2 s2 dvs => ⟨Nat.le_trans (dpa_len dvs ▸ Nat.le_of_ble_eq_true hl) (by decide), fun p np => q _ _ (s2.trans (same_new np)) (by
    have h2 : H2 P ≠ none := fun z => by
      cases e : H P with
      | none => exact hP e
      | some o => rw [(s.trans s2) _ _ e] at z; cases z
    exact .tup (st_of (hid_new h2 np)) (dpa_same (hid_same (same_new np)) dvs))⟩
theorem dl_lst (hP : H P ≠ none) (r : DEs K P σ H ta ds) (hl : Nat.ble ds.length 1000 = true) : DL K P σ H (tLst ta) ds := fun H1 s Q q =>
  r H1 s _ fun vs H2 s2 dvs => ⟨Nat.le_trans (dpa_len dvs ▸ Nat.le_of_ble_eq_true hl) (by decide), fun p np => by
    have h2 : H2 P ≠ none := fun z => by
      cases e : H P with
      | none => exact hP e
      | some o => rw [(s.trans s2) _ _ e] at z; cases z
    exact q p vs _ (s2.trans (same_new np)) upd_same (fun z => h2 (z ▸ np)) (dpa_same (hid_same (same_new np)) dvs)⟩
theorem de_lst (hP : H P ≠ none) (r : DEs K P σ H ta ds) (hl : Nat.ble ds.length 1000 = true) : DE K P σ H (tLst ta) (.list ds) := fun H1 s Q q =>
  dl_lst hP r hl H1 s Q fun p xs H2 s2 e n dx => q _ H2 s2 (.lst (sq_of (hid_at e n)) dx)
end
/-! ### the rows that are known by name -/
def kE : Line := ("e", 1, [[(1, "e")], [(1, "e")]])
def kZ : Line := ("z", 1, [[(1, "z")], []])
def kO : Line := ("o", 0, [[(1, "o")], [(1, "o"), (1, "e")]])
def kS : Line := ("s", 0, [[(1, "s")], [(1, "s"), (1, "t")]])
def kT : Line := ("t", 1, [[(1, "s"), (1, "t")], [(1, "t")]])
def kJ : Line := ("j", 1, [[(2, "j"), (-1, "e")], [(2, "j"), (1, "e"), (-2, "z")]])
def kI : Line := ("i", 0, [[(2, "i")], [(2, "i"), (1, "e")]])
def kP : Line := ("p", 0, [[(2, "p")], [(2, "p"), (1, "z")]])
def kG : Line := ("g", 1, [[(1, "g")], [(2, "g")]])
def knowns : List (List Line × Str) := [([kO, kE], "o"), ([kS, kT], "s"), ([kZ, kJ, kE], "j"), ([kI, kE], "i"), ([kP, kZ], "p"), ([kG], "g"), ([kZ], "z"), ([kE], "e")]
def soundB (b : Int) (L : List Line) : Bool :=
  (decide (b = 2) || decide (b = 3) || decide (b = 4)) && Nat.ble L.length 26 && L.all (fun l => letterB l.1 && Nat.ble l.1.length 1000) && decide (names L).Nodup && L.all (fun l => decide ((l.2.2.length : Int) = b)) &&
  L.all (fun l => l.2.2.all fun f => Nat.ble f.length 100 && f.all fun t => decide (t.2 ∈ names L) && Nat.ble (t.1.natAbs + 1) 1024) && L.all (fun l => Nat.ble (l.2.1.natAbs + 1) 1048576) &&
  L.all (fun l => match l.2.2 with | f :: _ => decide (l.2.1 = sumF (names L) (starts L) f) | [] => true)
theorem sound_of {b : Int} {L : List Line} (h : soundB b L = true) : Sound b L := by
  unfold soundB at h
  simp only [Bool.and_eq_true, List.all_eq_true, Bool.or_eq_true, decide_eq_true_eq, Nat.ble_eq] at h
  obtain ⟨⟨⟨⟨⟨⟨⟨h1, h2⟩, h3⟩, h4⟩, h5⟩, h6⟩, h7⟩, h8⟩ := h
  refine ⟨?_, h2, fun l hl => h3 l hl, h4, h5, fun l hl f hf => (h6 l hl f hf).1, fun l hl f hf t ht => ((h6 l hl f hf).2 t ht).1, fun l hl f hf t ht => Nat.lt_of_succ_le ((h6 l hl f hf).2 t ht).2, fun l hl => Nat.lt_of_succ_le (h7 l hl), fun l hl f hf => ?_⟩
  · rcases h1 with (h | h) | h
    · exact .inl h
    · exact .inr (.inl h)
    · exact .inr (.inr h)
  · have q := h8 l hl
    cases e : l.2.2 with
    | nil => rw [e] at hf; cases hf
    | cons g r =>
      rw [e] at q hf
      have eg : g = f := Option.some.inj hf
      subst eg
      exact of_decide_eq_true q
theorem knowns_sound : ∀ p ∈ knowns, Sound 2 p.1 := fun p hp => sound_of (by
  have h : (knowns.all fun p => soundB 2 p.1) = true := by decide +kernel
  exact List.all_eq_true.mp h p hp)

/-! Figurebooks: what the known rows mean. -/
def lenD (n : Nat) : Nat := (digs 2 n).length
def sumD (n : Nat) : Nat := (digs 2 n).sum
def greatD (n : Nat) : Int := 2 ^ (lenD n - 1)
def oftenD (n : Nat) : Int := 2 ^ sumD n
theorem lenD_pos {n : Nat} (h : 0 < n) : lenD n = lenD (n / 2) + 1 := by unfold lenD; rw [digs_pos h (by decide), List.length_cons]
theorem sumD_pos {n : Nat} (h : 0 < n) : sumD n = n % 2 + sumD (n / 2) := by unfold sumD; rw [digs_pos h (by decide), List.sum_cons]
theorem lenD_zero : lenD 0 = 0 := by unfold lenD; rw [digs_zero]; rfl
theorem sumD_zero : sumD 0 = 0 := by unfold sumD; rw [digs_zero]; rfl
theorem great_one : greatD 1 = 1 := by
  unfold greatD
  rw [lenD_pos (by decide), show (1 : Nat) / 2 = 0 from rfl, lenD_zero]
  rfl
theorem great_two {n : Nat} (h : 2 ≤ n) : greatD n = 2 * greatD (n / 2) := by
  unfold greatD
  have h1 := lenD_pos (n := n) (by omega)
  have h2 := lenD_pos (n := n / 2) (by omega)
  rw [h1, show lenD (n / 2) + 1 - 1 = (lenD (n / 2) - 1) + 1 by omega, Int.pow_succ, Int.mul_comm]
theorem often_pos {n : Nat} (h : 0 < n) : oftenD n = (if n % 2 = 0 then 1 else 2) * oftenD (n / 2) := by
  unfold oftenD
  rw [sumD_pos h]
  have h2 : n % 2 = 0 ∨ n % 2 = 1 := by omega
  rcases h2 with e | e
  · rw [e, if_pos rfl, Nat.zero_add, Int.one_mul]
  · rw [e, if_neg (by decide), Nat.add_comm, Int.pow_succ, Int.mul_comm]
def zedD (n : Nat) : Int := if n = 0 then 1 else 0
def lastD (n : Nat) : Int := if n = 0 then 1 else 2 * ((n : Int) - greatD n) + 1
def powD (n : Nat) : Int := if n = 0 then 0 else greatD n
theorem half {n : Nat} : n % 2 = 0 ∨ n % 2 = 1 := by omega
theorem vec_e : ∀ n, vec 2 [kE] n = [1] := fun n => by
  induction n using Nat.strongRecOn with
  | _ n ih =>
    by_cases h : 0 < n
    · rw [vec_pos h (by decide), ih (n / 2) (by omega)]
      rcases half (n := n) with e | e <;> rw [e] <;> rfl
    · have e : n = 0 := by omega
      subst e
      rw [vec_zero]
      rfl
theorem vec_z : ∀ n, vec 2 [kZ] n = [zedD n] := fun n => by
  induction n using Nat.strongRecOn with
  | _ n ih =>
    by_cases h : 0 < n
    · rw [vec_pos h (by decide), ih (n / 2) (by omega)]
      have hz : zedD n = 0 := if_neg (by omega)
      rw [hz]
      rcases half (n := n) with e | e <;> rw [e]
      · have : zedD (n / 2) = 0 := if_neg (by omega)
        rw [this]
        rfl
      · rfl
    · have e : n = 0 := by omega
      subst e
      rw [vec_zero]
      rfl
theorem vec_g : ∀ n, vec 2 [kG] n = [oftenD n] := fun n => by
  induction n using Nat.strongRecOn with
  | _ n ih =>
    by_cases h : 0 < n
    · rw [vec_pos h (by decide), ih (n / 2) (by omega), often_pos h]
      rcases half (n := n) with e | e <;> rw [e]
      · rw [if_pos rfl]
        show [1 * oftenD (n / 2) + 0] = _
        rw [Int.add_zero]
      · rw [if_neg (by decide)]
        show [2 * oftenD (n / 2) + 0] = _
        rw [Int.add_zero]
    · have e : n = 0 := by omega
      subst e
      rw [vec_zero]
      unfold oftenD
      rw [sumD_zero]
      rfl
theorem vec_o : ∀ n, vec 2 [kO, kE] n = [(sumD n : Int), 1] := fun n => by
  induction n using Nat.strongRecOn with
  | _ n ih =>
    by_cases h : 0 < n
    · rw [vec_pos h (by decide), ih (n / 2) (by omega), sumD_pos h]
      rcases half (n := n) with e | e <;> rw [e]
      · show [1 * (sumD (n / 2) : Int) + 0, 1 * 1 + 0] = _
        congr 1
        simp
      · show [1 * (sumD (n / 2) : Int) + (1 * 1 + 0), 1 * 1 + 0] = _
        congr 1
        omega
    · have e : n = 0 := by omega
      subst e
      rw [vec_zero, sumD_zero]
      rfl
theorem vec_i : ∀ n, vec 2 [kI, kE] n = [(n : Int), 1] := fun n => by
  induction n using Nat.strongRecOn with
  | _ n ih =>
    by_cases h : 0 < n
    · rw [vec_pos h (by decide), ih (n / 2) (by omega)]
      rcases half (n := n) with e | e <;> rw [e]
      · show [2 * ((n / 2 : Nat) : Int) + 0, 1 * 1 + 0] = _
        congr 1
        omega
      · show [2 * ((n / 2 : Nat) : Int) + (1 * 1 + 0), 1 * 1 + 0] = _
        congr 1
        omega
    · have e : n = 0 := by omega
      subst e
      rw [vec_zero]
      rfl
theorem vec_p : ∀ n, vec 2 [kP, kZ] n = [powD n, zedD n] := fun n => by
  induction n using Nat.strongRecOn with
  | _ n ih =>
    by_cases h : 0 < n
    · rw [vec_pos h (by decide), ih (n / 2) (by omega)]
      have hz : zedD n = 0 := if_neg (by omega)
      have hp : powD n = greatD n := if_neg (by omega)
      rw [hz, hp]
      by_cases h2 : 2 ≤ n
      · have hz2 : zedD (n / 2) = 0 := if_neg (by omega)
        have hp2 : powD (n / 2) = greatD (n / 2) := if_neg (by omega)
        rw [hz2, hp2, great_two h2]
        rcases half (n := n) with e | e <;> rw [e]
        · show [2 * greatD (n / 2) + 0, 1 * 0 + 0] = _
          congr 1
        · show [2 * greatD (n / 2) + (1 * 0 + 0), 0] = _
          congr 1
      · have e1 : n = 1 := by omega
        subst e1
        rw [great_one]
        rfl
    · have e : n = 0 := by omega
      subst e
      rw [vec_zero]
      rfl
theorem vec_j : ∀ n, vec 2 [kZ, kJ, kE] n = [zedD n, lastD n, 1] := fun n => by
  induction n using Nat.strongRecOn with
  | _ n ih =>
    by_cases h : 0 < n
    · rw [vec_pos h (by decide), ih (n / 2) (by omega)]
      have hz : zedD n = 0 := if_neg (by omega)
      have hp : lastD n = 2 * ((n : Int) - greatD n) + 1 := if_neg (by omega)
      rw [hz, hp]
      by_cases h2 : 2 ≤ n
      · have hz2 : zedD (n / 2) = 0 := if_neg (by omega)
        have hp2 : lastD (n / 2) = 2 * (((n / 2 : Nat) : Int) - greatD (n / 2)) + 1 := if_neg (by omega)
        rw [hz2, hp2, great_two h2]
        rcases half (n := n) with e | e <;> rw [e]
        · show [1 * 0 + 0, 2 * (2 * (((n / 2 : Nat) : Int) - greatD (n / 2)) + 1) + (-1 * 1 + 0), 1 * 1 + 0] = _
          congr 1
          congr 1
          omega
        · show [0, 2 * (2 * (((n / 2 : Nat) : Int) - greatD (n / 2)) + 1) + (1 * 1 + (-2 * 0 + 0)), 1 * 1 + 0] = _
          congr 1
          congr 1
          omega
      · have e1 : n = 1 := by omega
        subst e1
        rw [great_one]
        rfl
    · have e : n = 0 := by omega
      subst e
      rw [vec_zero]
      rfl
/-- Stern's row and its mate -/
def sternS (n : Nat) : Int := (vec 2 [kS, kT] n).getD 0 0
def sternT (n : Nat) : Int := (vec 2 [kS, kT] n).getD 1 0
theorem vec_s (n : Nat) : vec 2 [kS, kT] n = [sternS n, sternT n] := by
  have h := vec_len (b := 2) (n := n) (L := [kS, kT]) (by decide)
  unfold sternS sternT
  match hv : vec 2 [kS, kT] n with
  | [a, b] => rfl
  | [] => rw [hv] at h; cases h
  | [a] => rw [hv] at h; cases h
  | a :: b :: c :: r => rw [hv] at h; cases h
theorem kS_sound : Sound 2 [kS, kT] := knowns_sound ([kS, kT], "s") (by unfold knowns; exact List.mem_cons_of_mem _ List.mem_cons_self)
theorem stern_even (m : Nat) : sternS (2 * m) = sternS m ∧ sternT (2 * m) = sternS m + sternT m := by
  have h := vec_step kS_sound (m := m) (k := 0) (by decide)
  rw [show (2 : Int).toNat = 2 from rfl, Nat.add_zero, vec_s m, vec_s (2 * m)] at h
  have h2 : stepV [kS, kT] [sternS m, sternT m] 0 = [1 * sternS m + 0, 1 * sternS m + (1 * sternT m + 0)] := rfl
  rw [h2] at h
  simp at h
  exact ⟨by omega, by omega⟩
theorem stern_odd (m : Nat) : sternS (2 * m + 1) = sternS m + sternT m ∧ sternT (2 * m + 1) = sternT m := by
  have h := vec_step kS_sound (m := m) (k := 1) (by decide)
  rw [show (2 : Int).toNat = 2 from rfl, vec_s m, vec_s (2 * m + 1)] at h
  have h2 : stepV [kS, kT] [sternS m, sternT m] 1 = [1 * sternS m + (1 * sternT m + 0), 1 * sternT m + 0] := rfl
  rw [h2] at h
  simp at h
  exact ⟨by omega, by omega⟩
theorem stern_mate : ∀ n, sternT n = sternS (n + 1) := fun n => by
  induction n using Nat.strongRecOn with
  | _ n ih =>
    rcases half (n := n) with e | e
    · obtain ⟨m, rfl⟩ : ∃ m, n = 2 * m := ⟨n / 2, by omega⟩
      rw [(stern_even m).2, (stern_odd m).1]
    · obtain ⟨m, rfl⟩ : ∃ m, n = 2 * m + 1 := ⟨n / 2, by omega⟩
      rw [(stern_odd m).2, show 2 * m + 1 + 1 = 2 * (m + 1) by omega, (stern_even (m + 1)).1, ih m (by omega)]
def meantV (letter : Str) (n : Nat) : Int :=
  if letter = "o" then (sumD n : Int) else if letter = "j" then lastD n else if letter = "p" then powD n else if letter = "i" then (n : Int) else if letter = "g" then oftenD n else if letter = "z" then zedD n else 1
/-- each known row but Stern's is what it means -/
theorem known_meant (n : Nat) : ∀ p ∈ knowns, p.2 ≠ "s" → dot (unitV p.1.length ((names p.1).idxOf p.2)) (vec 2 p.1 n) = meantV p.2 n := fun p hp hs => by
  unfold knowns at hp
  simp only [List.mem_cons, List.not_mem_nil, or_false] at hp
  rcases hp with rfl | rfl | rfl | rfl | rfl | rfl | rfl | rfl
  · rw [vec_o]
    show 1 * (sumD n : Int) + (0 * 1 + 0) = (sumD n : Int)
    omega
  · exact absurd rfl hs
  · rw [vec_j]
    show 0 * zedD n + (1 * lastD n + (0 * 1 + 0)) = lastD n
    omega
  · rw [vec_i]
    show 1 * (n : Int) + (0 * 1 + 0) = (n : Int)
    omega
  · rw [vec_p]
    show 1 * powD n + (0 * zedD n + 0) = powD n
    omega
  · rw [vec_g]
    show 1 * oftenD n + 0 = oftenD n
    omega
  · rw [vec_z]
    show 1 * zedD n + 0 = zedD n
    omega
  · rw [vec_e]
    show 1 * 1 + 0 = (1 : Int)
    omega
/-- a comprehension over a tuple of items, each an int worked out -/
theorem lt_ints {K : PySem.W.Frag} {a : Addr} {xs : List V} {g : TG} {tt : TT} {te : TE} {vs : List Nat} {σ : L2.St} {H1 : Hp} {D : Addr} {Qd : Hp → Prop} (φ : Nat → Int) (hS : SqT K H1 a xs) (hD : H1 D = none) (hl : xs.length ≤ 1000)
    (gm : ∀ x H (P P' : L2.St → Hp → Prop), (∀ σ H, P σ H → P' σ H) → g x (wipe σ vs) H P → g x (wipe σ vs) H P') (tm : ∀ σ H (P P' : Bool → Hp → Prop), (∀ b H, P b H → P' b H) → tt σ H P → tt σ H P')
    (hs : ∀ i x H (Q : VK), xs[i]? = some x → Same H1 H → (∀ H4, Same H H4 → Q (.int (φ i)) H4) → LcTurn g tt te vs σ x H Q)
    (hd : ∀ H, Same H1 H → H D = some (.lst ((List.range xs.length).map fun i => V.int (φ i))) → Qd H) :
    ∃ W : Nat → Nat → Hp → Prop, (∃ m, W 0 m (upd H1 D (.lst []))) ∧ ∀ i m H, W i m H →
      ((Itt K a).stop i H ∧ Qd H) ∨ ((Itt K a).go i H ∧ ∃ Nx : Hp → Prop, (∀ H', Nx H' → ∃ m', m' < m ∧ W (i + 1) m' H') ∧ ∀ x H', (Itt K a).yld i H x H' → g x (wipe σ vs) H' fun σ2 H2 => wipe σ2 vs = wipe σ vs ∧ tt σ2 H2 fun b H3 =>
        if b = true then te σ2 H3 fun y H4 => ∃ acc, H4 D = some (.lst acc) ∧ acc.length < sizeLine ∧ Nx (upd H4 D (.lst (acc ++ [y]))) else Nx H3) := by
  refine lc_tup (K := K) (a := a) (xs := xs) (fun i H => Same H1 H ∧ H D = some (.lst ((List.range i).map fun i => V.int (φ i)))) ⟨same_new hD, upd_same⟩ (fun i H _ ⟨s, _⟩ => sqt_same s hS) ?_ ?_
  · rintro i x H hx ⟨s, e⟩
    have hil : i < xs.length := (List.getElem?_eq_some_iff.mp hx).1
    refine gm x H _ _ ?_ (hs i x H (fun y H4 => ∃ acc, H4 D = some (.lst acc) ∧ acc.length < sizeLine ∧ (Same H1 (upd H4 D (.lst (acc ++ [y]))) ∧ (upd H4 D (.lst (acc ++ [y]))) D = some (.lst ((List.range (i + 1)).map fun i => V.int (φ i))))) hx s ?_)
    · rintro σ2 H2 ⟨w, h⟩
      refine ⟨w, tm _ _ _ _ ?_ h⟩
      intro b H3 h
      cases b with
      | true =>
        rw [if_pos rfl] at h ⊢
        exact h
      | false =>
        rw [if_neg Bool.false_ne_true] at h
        exact h.elim
    · intro H4 s4
      refine ⟨_, s4 _ _ e, ?_, Fb.Same.mut (s.trans s4) hD, ?_⟩
      · rw [List.length_map, List.length_range]
        exact small1000 (by omega)
      · rw [upd_same, List.range_succ, List.map_append]
        rfl
  · rintro H ⟨s, e⟩
    exact hd H s e
theorem Same.of_keep {p : Addr} {H H1 H2 : Hp} (s : Same H H1) (k : Keep p H1 H2) (hp : H p = none) : Same H H2 := fun a o e => k a o (s a o e) (ne_of_none e hp)
theorem sum_dv (l : List Nat) : (l.map fun d : Nat => (d : Int)).sum = ((l.sum : Nat) : Int) := by
  induction l with
  | nil => rfl
  | cons x r ih =>
    rw [List.map_cons, List.sum_cons, List.sum_cons, ih]
    simp
theorem sum_rev (l : List Nat) : l.reverse.sum = l.sum := by
  induction l with
  | nil => rfl
  | cons x r ih =>
    rw [List.reverse_cons, List.sum_append, ih, List.sum_cons, List.sum_cons]
    simp
    omega
theorem eqv_ints3 (a b c : Int) : PyData.eqv (.list [.int a, .int b, .int c]) (.list [.int a, .int b, .int c]) = true := SeqAt.eqv_refl _ (by simp [PyData.canLay0, PyData.canLayAll0])
theorem shaped_ints3 (a b c : Int) : SeqAt.shaped (.list [.int a, .int b, .int c]) = true := by
  unfold SeqAt.shaped
  simp [PyData.canLay0, PyData.canLayAll0, PyData.depth, PyData.depthAll]
abbrev OkL (P : Program) (w : World) (K : PySem.W.Frag) (mg : Str → Option Value) (base : Heap) (k : Nat) (f : Addr) (fd : FuncData) (ps : List Str) (sp : Sp) : Prop := FnOk P w K mg base CX0 k f fd ps sp
/-- law's: the script is handed in, True comes out -/
def spLaw (K : PySem.W.Frag) : Sp := fun vs H Q _ => ∃ (a : Addr) (ns : List Int), vs = [.ref a] ∧ SqL K H a (ns.map V.int) ∧ ns.length ≤ 63 ∧ ∀ H', Q (.bl true) H'
theorem walk_L {l : PySem.W.OpenLaw} {n k : Nat} {q : Program} {loose : List Str} {XP : (Str → Option Value) → Heap → Prop} {YP : World → Heap → Prop} {d : DefRec} {K : Params → PySem.W.Frag} {sp : World → Sp} {x : Str}
    (hn : l.most = some n) (hn2 : n ≤ sizeLine) (hdf : d.params.defaults = []) (hr : Room k callerA)
    (hY : ∀ (w : World) (h : Heap), YP w h → (K w.params).In h)
    (F : ∀ (w : World) (mg : Str → Option Value) (fa : Addr) (h : Heap), (K w.params).In h → h.Ns mainGlobals mg → mg d.name = some (.ref fa) →
      ∃ fd : FuncData, (∀ (s : Shared) (u : Value), BindsTo s fd ⟨[u], []⟩ [(x, u)]) ∧
        ∀ base : Heap, (K w.params).In base → base.Ns mainGlobals mg → OkL l.prog w (K w.params) mg base k fa fd [x] (sp w))
    (hsp : ∀ (w : World) (H : Hp) (a : Addr) (ns : List Int), ns.length ≤ n → Only H → SqL (K w.params) H a (ns.map V.int) → sp w [.ref a] H (fun v _ => v = .bl true) fun _ _ _ => False) :
    PySem.W.WalkO q loose XP YP l.row.toRowW d [] (fun f vs => PySem.call f vs) := L2.walk_of (CX := fun _ => CX0) hn hn2 hdf hr hY F hsp fun _ _ _ _ _ h => h

/-! Figurebooks: systems: values by figures, bounds, data that is passed to one. -/
abbrev rTupOf (K : PySem.W.Frag) : List V → Hp → VK → Prop := fun xs H Q => ∃ p ys, xs = [.ref p] ∧ ((SqL K H p ys ∧ ∀ l, H l = none → Q (.ref l) (upd H l (.tup ys))) ∨ (SqT K H p ys ∧ Q (.ref p) H))
def sumT (vals : List Int) (f : List Tm) : Int := (f.map fun t => t.1 * vals.getD t.2 0).sum
def stepT (S : Sys) (vals : List Int) (k : Nat) : List Int := (S.2.getD k []).map (sumT vals)
def vecS (S : Sys) (n : Nat) : List Int := (digs S.2.length n).reverse.foldl (stepT S) S.1
structure SOK (S : Sys) : Prop where
  base : 2 ≤ S.2.length ∧ S.2.length ≤ 4
  many : S.1.length ≤ 900
  rows : ∀ r ∈ S.2, r.length = S.1.length
  small : ∀ r ∈ S.2, ∀ f ∈ r, f.length ≤ 900
  known : ∀ r ∈ S.2, ∀ f ∈ r, ∀ t ∈ f, t.2 < S.1.length
  coefs : ∀ r ∈ S.2, ∀ f ∈ r, ∀ t ∈ f, t.1.natAbs < 2 ^ 10
  begins : ∀ v ∈ S.1, v.natAbs < 2 ^ 20
theorem sumT_ix (ns : List Str) (vals : List Int) (f : List Term) : sumT vals (ixT ns f) = sumF ns vals f := by
  unfold sumT ixT sumF
  rw [List.map_map]
  rfl
theorem stepT_sys {b : Int} {L : List Line} {vals : List Int} {k : Nat} (hk : k < b.toNat) : stepT (sysOf b L) vals k = stepV L vals k := by
  unfold stepT sysOf stepV
  rw [List.getD_eq_getElem?_getD, List.getElem?_map, List.getElem?_range hk]
  show ((rowsT (names L) L k).map (sumT vals)) = _
  unfold rowsT
  rw [List.map_map]
  exact List.map_congr_left fun l _ => sumT_ix _ _ _
theorem foldl_mem {α β : Type} {f g : α → β → α} : ∀ (ds : List β) (a : α), (∀ d ∈ ds, ∀ v, f v d = g v d) → ds.foldl f a = ds.foldl g a
  | [], _, _ => rfl
  | d :: ds, a, h => by
    rw [List.foldl_cons, List.foldl_cons, h d List.mem_cons_self]
    exact foldl_mem ds _ fun e he => h e (List.mem_cons_of_mem _ he)
theorem sys_base {b : Int} {L : List Line} : (sysOf b L).2.length = b.toNat := by
  unfold sysOf
  rw [List.length_map, List.length_range]
theorem vecS_sys {b : Int} {L : List Line} (hb : 2 ≤ b.toNat) (n : Nat) : vecS (sysOf b L) n = vec b.toNat L n := by
  unfold vecS vec
  rw [sys_base]
  exact foldl_mem _ _ fun d hd v => stepT_sys (digs_lt hb n d (List.mem_reverse.mp hd))
theorem sok_sys {b : Int} {L : List Line} (S : Sound b L) : SOK (sysOf b L) := by
  have hb := S.base
  have hm := S.many
  have hst : (starts L).length = L.length := List.length_map ..
  have hns : (names L).length = L.length := List.length_map ..
  have key : ∀ r ∈ (sysOf b L).2, ∃ k, k < b.toNat ∧ r = rowsT (names L) L k := fun r hr => by
    obtain ⟨k, hk, e⟩ := List.mem_map.mp hr
    exact ⟨k, List.mem_range.mp hk, e.symm⟩
  have key2 : ∀ r ∈ (sysOf b L).2, ∀ f ∈ r, ∃ l ∈ L, ∃ g ∈ l.2.2, f = ixT (names L) g := fun r hr f hf => by
    obtain ⟨k, hk, e⟩ := key r hr
    subst e
    obtain ⟨l, hl, e⟩ := List.mem_map.mp hf
    have h1 := S.forms l hl
    have h2 : k < l.2.2.length := by omega
    refine ⟨l, hl, l.2.2.getD k [], ?_, e.symm⟩
    rw [List.getD_eq_getElem?_getD, List.getElem?_eq_getElem h2]
    exact List.getElem_mem h2
  refine ⟨?_, ?_, ?_, ?_, ?_, ?_, ?_⟩
  · rw [sys_base]
    omega
  · show (starts L).length ≤ 900
    omega
  · intro r hr
    obtain ⟨k, hk, e⟩ := key r hr
    subst e
    show (L.map _).length = (starts L).length
    rw [List.length_map, hst]
  · intro r hr f hf
    obtain ⟨l, hl, g, hg, e⟩ := key2 r hr f hf
    subst e
    have := S.small l hl g hg
    unfold ixT
    rw [List.length_map]
    omega
  · intro r hr f hf t ht
    obtain ⟨l, hl, g, hg, e⟩ := key2 r hr f hf
    subst e
    obtain ⟨u, hu, e⟩ := List.mem_map.mp ht
    subst e
    have h1 := S.known l hl g hg u hu
    have h2 := List.idxOf_lt_length_iff.mpr h1
    show (names L).idxOf u.2 < (starts L).length
    omega
  · intro r hr f hf t ht
    obtain ⟨l, hl, g, hg, e⟩ := key2 r hr f hf
    subst e
    obtain ⟨u, hu, e⟩ := List.mem_map.mp ht
    subst e
    exact S.coefs l hl g hg u hu
  · intro v hv
    obtain ⟨l, hl, e⟩ := List.mem_map.mp hv
    subst e
    exact S.begins l hl
theorem getD_le' {vals : List Int} {M i : Nat} (h : ∀ y ∈ vals, y.natAbs ≤ M) : (vals.getD i 0).natAbs ≤ M := by
  rw [List.getD_eq_getElem?_getD]
  cases e : vals[i]? with
  | none => exact Nat.zero_le _
  | some v => exact h v (List.mem_of_getElem? e)
theorem sumT_le {vals : List Int} {f : List Tm} {M : Nat} (h : ∀ v ∈ vals, v.natAbs ≤ M) (hf : f.length ≤ 900) (hc : ∀ t ∈ f, t.1.natAbs < 2 ^ 10) : (sumT vals f).natAbs ≤ 2 ^ 20 * M := by
  have h1 : (sumT vals f).natAbs ≤ (f.map fun t => t.1 * vals.getD t.2 0).length * (2 ^ 10 * M) := sum_le fun x hx => by
    obtain ⟨t, ht, e⟩ := List.mem_map.mp hx
    subst e
    rw [Int.natAbs_mul]
    exact Nat.mul_le_mul (Nat.le_of_lt (hc t ht)) (getD_le' h)
  rw [List.length_map] at h1
  have h2 : f.length * (2 ^ 10 * M) ≤ 1024 * (2 ^ 10 * M) := Nat.mul_le_mul_right _ (by omega)
  have h3 : 1024 * (2 ^ 10 * M) = 2 ^ 20 * M := by rw [← Nat.mul_assoc]
  omega
theorem stepT_mem {S : Sys} {vals : List Int} {k : Nat} {v : Int} (hv : v ∈ stepT S vals k) : ∃ r ∈ S.2, ∃ f ∈ r, v = sumT vals f := by
  unfold stepT at hv
  rw [List.getD_eq_getElem?_getD] at hv
  cases e : S.2[k]? with
  | none => rw [e] at hv; cases hv
  | some r =>
    rw [e] at hv
    obtain ⟨f, hf, e2⟩ := List.mem_map.mp hv
    exact ⟨r, List.mem_of_getElem? e, f, hf, e2.symm⟩
theorem stepT_le {S : Sys} (O : SOK S) {vals : List Int} {k M : Nat} (h : ∀ v ∈ vals, v.natAbs ≤ M) : ∀ v ∈ stepT S vals k, v.natAbs ≤ 2 ^ 20 * M := fun v hv => by
  obtain ⟨r, hr, f, hf, e⟩ := stepT_mem hv
  subst e
  exact sumT_le h (O.small r hr f hf) (O.coefs r hr f hf)
theorem stepT_len {S : Sys} (O : SOK S) {vals : List Int} {k : Nat} (hk : k < S.2.length) : (stepT S vals k).length = S.1.length := by
  unfold stepT
  rw [List.length_map, List.getD_eq_getElem?_getD, List.getElem?_eq_getElem hk]
  exact O.rows _ (List.getElem_mem hk)
theorem foldT_le {S : Sys} (O : SOK S) : ∀ (ds : List Nat) (vals : List Int) (m : Nat), (∀ v ∈ vals, v.natAbs ≤ 2 ^ m) → ∀ v ∈ ds.foldl (stepT S) vals, v.natAbs ≤ 2 ^ (m + 20 * ds.length)
  | [], vals, m, h, v, hv => h v hv
  | d :: ds, vals, m, h, v, hv => by
    have h1 : ∀ v ∈ stepT S vals d, v.natAbs ≤ 2 ^ (m + 20) := fun v hv => by
      have := stepT_le O h v hv
      rw [← Nat.pow_add] at this
      rw [show m + 20 = 20 + m by omega]
      exact this
    have := foldT_le O ds (stepT S vals d) (m + 20) h1 v hv
    rw [show m + 20 * (d :: ds).length = m + 20 + 20 * ds.length by rw [List.length_cons]; omega]
    exact this
theorem foldT_len {S : Sys} (O : SOK S) : ∀ (ds : List Nat) (vals : List Int), (∀ d ∈ ds, d < S.2.length) → vals.length = S.1.length → (ds.foldl (stepT S) vals).length = S.1.length
  | [], _, _, h => h
  | d :: ds, vals, hd, _ => foldT_len O ds (stepT S vals d) (fun e he => hd e (List.mem_cons_of_mem _ he)) (stepT_len O (hd d List.mem_cons_self))
theorem begins_le {S : Sys} (O : SOK S) : ∀ v ∈ S.1, v.natAbs ≤ 2 ^ 20 := fun v hv => Nat.le_of_lt (O.begins v hv)
theorem digs_len' {b : Nat} (hb : 2 ≤ b) : ∀ (m n : Nat), n < 2 ^ m → (digs b n).length ≤ m
  | 0, n, h => by
    have e : n = 0 := by omega
    rw [e, digs_zero]
    exact Nat.le_refl _
  | m + 1, n, h => by
    by_cases hp : 0 < n
    · have h1 : n / b < 2 ^ m := by
        rw [Nat.div_lt_iff_lt_mul (by omega)]
        have h2 : 2 ^ m * 2 ≤ 2 ^ m * b := Nat.mul_le_mul_left _ hb
        have h3 : 2 ^ (m + 1) = 2 ^ m * 2 := rfl
        omega
      rw [digs_pos hp hb, List.length_cons]
      have := digs_len' hb m (n / b) h1
      omega
    · have e : n = 0 := by omega
      rw [e, digs_zero]
      exact Nat.zero_le _
theorem vecS_le {S : Sys} (O : SOK S) {m n : Nat} (hn : n < 2 ^ m) : ∀ v ∈ vecS S n, v.natAbs ≤ 2 ^ (20 + 20 * m) := fun v hv => by
  have h1 := foldT_le O _ S.1 20 (begins_le O) v hv
  rw [List.length_reverse] at h1
  have h2 := digs_len' O.base.1 m n hn
  exact Nat.le_trans h1 (Nat.pow_le_pow_right (by decide) (by omega))
theorem vecS_len {S : Sys} (O : SOK S) (n : Nat) : (vecS S n).length = S.1.length :=
  foldT_len O _ _ (fun d hd => digs_lt O.base.1 n d (List.mem_reverse.mp hd)) rfl
theorem vecS_zero {S : Sys} : vecS S 0 = S.1 := by
  unfold vecS
  rw [digs_zero]
  rfl
theorem vecS_pos {S : Sys} (O : SOK S) {n : Nat} (h : 0 < n) : vecS S n = stepT S (vecS S (n / S.2.length)) (n % S.2.length) := by
  unfold vecS
  rw [digs_pos h O.base.1, List.reverse_cons, List.foldl_append]
  rfl
/-! ### what is passed to a system -/
def TermsAt (K : PySem.W.Frag) (H : Hp) (v : V) (f : List Tm) : Prop := ∃ r zs, v = .ref r ∧ (SqL K H r zs ∨ SqT K H r zs) ∧ DpAll K H zs (f.map dTm)
def StepAt (K : PySem.W.Frag) (H : Hp) (v : V) (row : List (List Tm)) : Prop := ∃ r ys, v = .ref r ∧ SqL K H r ys ∧ ys.length = row.length ∧ ∀ (j : Nat) (y : V) (f : List Tm), ys[j]? = some y → row[j]? = some f → TermsAt K H y f
def StepsAt (K : PySem.W.Frag) (H : Hp) (v : V) (steps : List (List (List Tm))) : Prop := ∃ r xs, v = .ref r ∧ SqL K H r xs ∧ xs.length = steps.length ∧ ∀ (i : Nat) (x : V) (row : List (List Tm)), xs[i]? = some x → steps[i]? = some row → StepAt K H x row
theorem TermsAt.same {K : PySem.W.Frag} {H H' : Hp} {v : V} {f : List Tm} (e : Same H H') (h : TermsAt K H v f) : TermsAt K H' v f := by
  obtain ⟨r, zs, h1, h2, h3⟩ := h
  exact ⟨r, zs, h1, h2.elim (fun z => .inl (e.seq z)) (fun z => .inr (sqt_same e z)), dpa_same e h3⟩
theorem StepAt.same {K : PySem.W.Frag} {H H' : Hp} {v : V} {f : List (List Tm)} (e : Same H H') (h : StepAt K H v f) : StepAt K H' v f := by
  obtain ⟨r, zs, h1, h2, h3, h4⟩ := h
  exact ⟨r, zs, h1, e.seq h2, h3, fun j y f a b => (h4 j y f a b).same e⟩
theorem StepsAt.same {K : PySem.W.Frag} {H H' : Hp} {v : V} {f : List (List (List Tm))} (e : Same H H') (h : StepsAt K H v f) : StepsAt K H' v f := by
  obtain ⟨r, zs, h1, h2, h3, h4⟩ := h
  exact ⟨r, zs, h1, e.seq h2, h3, fun j y f a b => (h4 j y f a b).same e⟩
theorem dp_tm_nw {K : PySem.W.Frag} {H H' : Hp} {v : V} {t : Tm} (s : Same H H') (h : Dp K H v (dTm t)) : Dp K (nw H H') v (dTm t) := by
  obtain ⟨a, x, y, rfl, q, h1, h2⟩ := dp_pair h
  cases h1
  cases h2
  exact .tup (sqt_nw s q) (.cons (.int _) (.cons (.int _) .nil))
theorem dpa_tms_nw {K : PySem.W.Frag} {H H' : Hp} (s : Same H H') : ∀ {vs : List V} {f : List Tm}, DpAll K H vs (f.map dTm) → DpAll K (nw H H') vs (f.map dTm)
  | [], [], _ => .nil
  | v :: vs, t :: f, .cons h r => .cons (dp_tm_nw s h) (dpa_tms_nw s r)
/-- what a formula with places in the place of names is as data, passed -/
theorem steps_of_dp {K : PySem.W.Frag} {H : Hp} {r : Addr} {b : Int} {ns : List Str} {L : List Line} (h : Dp K H (.ref r) (.list ((List.range b.toNat).map (dSteps ns L)))) : StepsAt K H (.ref r) ((List.range b.toNat).map (rowsT ns L)) := by
  obtain ⟨a, xs, e, s, A⟩ := dp_list h
  cases e
  refine ⟨r, xs, rfl, s, ?_, fun i x row h1 h2 => ?_⟩
  · have := dpa_map_len A
    simpa using this
  · obtain ⟨k, hk, hd⟩ := dpa_at A h1
    rw [List.getElem?_map, hk] at h2
    have e := Option.some.inj h2
    subst e
    obtain ⟨a2, ys, e2, s2, A2⟩ := dp_list hd
    refine ⟨a2, ys, e2, s2, ?_, fun j y f h3 h4 => ?_⟩
    · have := dpa_map_len A2
      unfold rowsT
      rw [List.length_map]
      exact this
    · obtain ⟨l, hl, hdl⟩ := dpa_at A2 h3
      unfold rowsT at h4
      rw [List.getElem?_map, hl] at h4
      have e := Option.some.inj h4
      subst e
      obtain ⟨a3, zs, e3, s3, A3⟩ := dp_list hdl
      refine ⟨a3, zs, e3, .inl s3, ?_⟩
      unfold ixT
      rw [List.map_map]
      exact A3
/-- a tuple of tuples, an item of it -/
theorem sys_row {K : PySem.W.Frag} {H : Hp} {c : Addr} {S : Sys} (h : Dp K H (.ref c) (dSt S)) {k : Nat} (hk : k < S.2.length) : ∃ xs g ys, SqT K H c xs ∧ xs.length = S.2.length ∧ xs[k]? = some (.ref g) ∧ SqT K H g ys ∧ DpAll K H ys ((S.2.getD k []).map dTms) := by
  obtain ⟨c', xs, e, s, A⟩ := dp_tuple h
  cases e
  have hl := dpa_map_len A
  have hkx : k < xs.length := by omega
  obtain ⟨row, hr, hd⟩ := dpa_at A (List.getElem?_eq_getElem hkx)
  obtain ⟨g, ys, eg, sg, Ag⟩ := dp_tuple hd
  refine ⟨xs, g, ys, s, hl, by rw [List.getElem?_eq_getElem hkx, eg], sg, ?_⟩
  rw [List.getD_eq_getElem?_getD, hr]
  exact Ag

/-! Figurebooks: zip of a list with a list or a tuple. -/
/-- the list at a and the tuple at b, side by side -/
def ItzM (K : PySem.W.Frag) (a b : Addr) : It where
  go := fun n H => ∃ (ls ts : List V) (l t : V), SqL K H a ls ∧ SqT K H b ts ∧ ls[n]? = some l ∧ ts[n]? = some t
  yld := fun n H v H' => ∃ T l t, v = .ref T ∧ H T = none ∧ H' = upd H T (.tup [l, t]) ∧ (∀ ls, SqL K H a ls → ls[n]? = some l) ∧ ∀ ts, SqT K H b ts → ts[n]? = some t
  stop := fun n H => ∃ ls ts : List V, SqL K H a ls ∧ SqT K H b ts ∧ n ≤ ls.length ∧ n ≤ ts.length ∧ (n = ls.length ∨ n = ts.length)
theorem sepM {z p q c d a b : Addr} (D : ZipApart z p q c d a b) : ZipSep2 z p q c d [c, a] [d, b] where
  TIz := D.TIz
  TOz := D.TOz
  TITO := D.TITO
  TIi1 := D.TIi1
  mem1 := by simp
  zf1 := by simpa using ⟨D.i1z.symm, D.l1z.symm⟩
  Tf1 := by simpa using ⟨D.TOi1, D.l1TO.symm⟩
  TIi2 := D.TIi2
  mem2 := by simp
  zf2 := by simpa using ⟨D.i2z.symm, D.l2z.symm⟩
  Tf2 := by simpa using ⟨D.TOi2, D.l2TO.symm⟩
  sep1_2 := by simpa using ⟨D.i12, D.l2i1.symm⟩
  sep2_1 := by simpa using ⟨D.i12.symm, D.l1i2.symm⟩
def stM (a b z p q c d : Addr) (n : Nat) (h : Heap) : Prop :=
  IsZip h z p q .none ∧ IsTupOf2 h p (.ref c) (.ref d) ∧ (∃ x y, IsTupOf2 h q x y) ∧ h.IsListIter c a n ∧ h.IsTupleIter d b n
theorem stM_lt {a b z p q c d : Addr} {n : Nat} {h : Heap} (st : stM a b z p q c d n h) {e : Addr} (he : e ∈ [z, p, q, c, d]) : ∃ o, h.get? e = some o ∧ ∀ v, o.data ≠ .cell v := by
  obtain ⟨e1, e2, ⟨x, y, e3⟩, ⟨o4, e4, _, d4⟩, ⟨o5, e5, _, d5⟩⟩ := st
  simp only [List.mem_cons, List.not_mem_nil, or_false] at he
  rcases he with r | r | r | r | r <;> subst r
  · exact ⟨_, e1, fun v g => by cases g⟩
  · exact ⟨_, e2, fun v g => by cases g⟩
  · exact ⟨_, e3, fun v g => by cases g⟩
  · exact ⟨_, e4, fun v g => by rw [d4] at g; cases g⟩
  · exact ⟨_, e5, fun v g => by rw [d5] at g; cases g⟩
theorem turnM {P : Program} {w : World} {K : PySem.W.Frag} {els : List Expr} {kx : Nat} {tp : Pos} {a b z p q c d : Addr} (D : ZipApart z p q c d a b) :
    Turn P w K (.Tuple els kx tp) (ItzM K a b) [z, p, q, c, d] z (stM a b z p q c d) where
  mem := List.mem_cons_self
  obj := fun n h st e he => stM_lt st he
  keep := fun n h h' ⟨e1, e2, ⟨x, y, e3⟩, e4, e5⟩ k =>
    ⟨k z (by simp) _ e1, k p (by simp) _ e2, ⟨x, y, k q (by simp) _ e3⟩, e4.at fun o g => k c (by simp) o g, e5.at fun o g => k d (by simp) o g⟩
  item := by
    rintro X rfl rfl rfl hc n pins s σ H E I hf st ⟨ls, ts, l, t, hl, ht, el, et⟩
    obtain ⟨us, ru, pl, _⟩ := I.list hl
    obtain ⟨ws, rt, pt, _⟩ := I.tuple ht
    obtain ⟨u, hu, lu⟩ := ru.get el
    obtain ⟨w2, hw2, tw⟩ := rt.get et
    have hd : X.A.in1.handled = none := I.ok.hd hc
    have hlive := fun e he => stM_lt st (e := e) he
    obtain ⟨g1, g2, g3, g4, g5⟩ := st
    have W := GoesN.ofWalksT (elts := els) (k := kx) (pos := tp) (WalksT.zipD2 (prog := X.prog) (w := X.w) (A := X.A) (sepM D) (Draws.list hd c a D.l1i1 us.toArray) (Draws.tuple hd d b D.l2i2 ws.toArray))
    have n1 : n < us.toArray.size := by
      have := (List.getElem?_eq_some_iff.mp hu).1
      simpa using this
    have n2 : n < ws.toArray.size := by
      have := (List.getElem?_eq_some_iff.mp hw2).1
      simpa using this
    refine W.goes n s (fun u s2 => ∃ x H', Inv X pins σ H' s2 ∧ RelV x u ∧ (ItzM X.K a b).yld n H x H' ∧ stM a b z p q c d (n + 1) s2.heap ∧ ∀ b ∈ [z, p, q, c, d], H' b = none) E (by omega) ⟨g1, g2, g3, ⟨g4, pl.isList⟩, g5, pt⟩ ?_
    rintro v h' tk ⟨T, vals, rfl, hT, ⟨x1, x2, hx1, hx2, rfl⟩, hTup⟩ ⟨k1, k2, k3, ⟨k4, _⟩, k5, _⟩ hk _
    have q1 : x1 = u := Option.some.inj (hx1.symm.trans (by simpa using hu))
    have q2 : x2 = w2 := Option.some.inj (hx2.symm.trans (by simpa using hw2))
    subst q1
    subst q2
    have ob : ObjOk X.prog X.w (upd H T (.tup [l, t])) h' T (.tup [l, t]) := ⟨Nat.le_of_ble_eq_true rfl, [x1, x2], .cons lu (.cons tw .nil), hTup⟩
    have I2 := I.turnedNew (t' := tk) (ch := [z, p, q, c, d]) (fun e o ne g => hk e o (fun m => ne (by
      simp only [List.mem_cons, List.not_mem_nil, or_false] at m ⊢
      rcases m with r | r | r | r <;> simp [r])) g) hf hT ob
    refine ⟨.ref T, _, I2, rfl, ⟨T, l, t, rfl, I.hok.fresh hT, rfl, fun l2 h2 => ?_, fun t2 h2 => ?_⟩, ⟨k1, k2, k3, k4, k5⟩, fun e he => ?_⟩
    · rw [I.list_inj h2 hl]
      exact el
    · rw [I.tuple_inj h2 ht]
      exact et
    · obtain ⟨o, ho, _⟩ := hlive e he
      have := Heap.lt_size ho
      rw [upd_ne (show e ≠ T from fun r => by subst r; exact absurd hT (Nat.not_le.mpr this))]
      exact (hf e he).1
  done := by
    rintro X rfl rfl rfl hc n pins s σ H E I hf ⟨g1, g2, g3, g4, g5⟩ ⟨ls, ts, hl, ht, b1, b2, b3⟩
    obtain ⟨us, ru, pl, _⟩ := I.list hl
    obtain ⟨ws, rt, pt, _⟩ := I.tuple ht
    have r1 := ru.length
    have r2 := rt.length
    have hd : X.A.in1.handled = none := I.ok.hd hc
    have W := GoesN.ofWalksT (elts := els) (k := kx) (pos := tp) (WalksT.zipD2 (prog := X.prog) (w := X.w) (A := X.A) (sepM D) (Draws.list hd c a D.l1i1 us.toArray) (Draws.tuple hd d b D.l2i2 ws.toArray))
    have en : n = min us.toArray.size ws.toArray.size := by
      simp
      omega
    refine W.stops s (fun s1 => Inv X pins σ H s1) E (en ▸ ⟨g1, g2, g3, ⟨g4, pl.isList⟩, g5, pt⟩) fun h' tk hk _ => ?_
    exact I.turnedL (t' := tk) (ch := [z, p, q, c, d]) (fun e o ne g => hk e o (fun m => ne (by
      simp only [List.mem_cons, List.not_mem_nil, or_false] at m ⊢
      rcases m with r | r | r | r <;> simp [r])) g) hf
  self := fun A n s Q E st h => wpAny_pyIter_zip st.1 h
/-- zip of a list with a list or a tuple -/
def iZipE (K : PySem.W.Frag) (ta : TA) : TI := fun σ H R => ta σ H fun vs H1 => ∃ a b, vs = [.ref a, .ref b] ∧ ∃ ls ms, SqL K H1 a ls ∧ ((SqL K H1 b ms ∧ R (Itz K a b) H1) ∨ (SqT K H1 b ms ∧ R (ItzM K a b) H1))
theorem pi_zipE {X : Cx} {e1 e2 : Expr} {ta : TA} {p0 p1 p2 : Pos} {els : List Expr} {kx : Nat} (hg : Gl X "zip") (hm : X.mg "zip" = none) (ha : PA X [e1, e2] ta)
    (hs : starEach [e1, e2] X.env = (false, eval e1 X.env) :: starEach [e2] X.env := by rfl) (hpl : (backTo p1 (starEach [e2] X.env)).any (·.1) = false := by rfl) :
    PI X (.Tuple els kx p2) (.Call (.Name "zip" p0) [e1, e2] [] p1) (iZipE X.K ta) := by
  constructor
  intro pins s σ H R I h
  refine Call_ (ld_blt I hg hm boot_zip (callWith_type1 (thn (ha.run p1 pins s σ H _ I h) ?_) hs hpl))
  intro us s1 ⟨vs, H1, I1, r1, q1⟩
  obtain ⟨a, b, rfl, ls, ms, hl, q1⟩ := q1
  rcases r1 with _ | ⟨ra, _ | ⟨rb, _ | _⟩⟩
  cases ra
  cases rb
  have hnew : ∀ c ∈ [s1.heap.objs.size + 4, s1.heap.objs.size + 2, s1.heap.objs.size + 3, s1.heap.objs.size, s1.heap.objs.size + 1], FpOk X pins H1 c := by
    intro c hcm
    have hle : s1.heap.objs.size ≤ c := by
      simp only [List.mem_cons, List.not_mem_nil, or_false] at hcm
      have : ∀ k : Nat, s1.heap.objs.size ≤ s1.heap.objs.size + k := fun k => Nat.le_add_right _ k
      rcases hcm with r | r | r | r | r <;> rw [r] <;> first | exact this _ | exact Nat.le_refl _
    exact I1.fpOk hle (I1.hok.fresh hle)
  obtain ⟨us, ru, pl, _⟩ := I1.list hl
  rcases q1 with ⟨hm2, q⟩ | ⟨hm2, q⟩
  · obtain ⟨ws, rw2, pt, _⟩ := I1.list hm2
    refine call_zip_2 pl.isList pt.isList fun h' z1 z2 z3 z4 z5 _ hk => ?_
    have tz := turn_zip (P := X.prog) (w := X.w) (K := X.K) (elts := els) (kk := kx) (tpos := p2) (PySem.W.ktu_apart s1.heap.objs.size a b pl.lt pt.lt)
    exact wpAny_pyIter_zip z1 ⟨_, _, _, _, _, rfl, I1.kept (t' := s1.toks) hk, tz, ⟨z1, z2, ⟨_, _, z3⟩, z4, z5⟩, hnew, q⟩
  · obtain ⟨ws, rw2, pt, _⟩ := I1.tuple hm2
    refine zip_begins2 (begins_list a us.toArray) (begins_tuple b ws.toArray) pl.isList pt fun h' z1 z2 z3 z4 z5 _ hk => ?_
    obtain ⟨ob, hob, _⟩ := id pt
    have tz := turnM (P := X.prog) (w := X.w) (K := X.K) (els := els) (kx := kx) (tp := p2) (PySem.W.ktu_apart s1.heap.objs.size a b pl.lt (Heap.lt_size hob))
    exact wpAny_pyIter_zip z1 ⟨_, _, _, _, _, rfl, I1.kept (t' := s1.toks) hk, tz, ⟨z1, z2, ⟨_, _, z3⟩, ⟨_, z4, rfl, rfl⟩, ⟨_, z5, rfl, rfl⟩⟩, hnew, q⟩
/-- a comprehension over it, whose items are ints worked out of the pair -/
theorem lzE_ints {K : PySem.W.Frag} {a b : Addr} {xs ys : List V} {g : TG} {tt : TT} {te : TE} {vs : List Nat} {σ : L2.St} {H1 : Hp} {D : Addr} {Qd : Hp → Prop} (φ : Nat → Int) (hl : xs.length = ys.length) (hS : SqL K H1 a xs) (hS2 : SqT K H1 b ys) (hD : H1 D = none) (hz : xs.length ≤ 1000)
    (gm : ∀ x H (P P' : L2.St → Hp → Prop), (∀ σ H, P σ H → P' σ H) → g x (wipe σ vs) H P → g x (wipe σ vs) H P') (tm : ∀ σ H (P P' : Bool → Hp → Prop), (∀ b H, P b H → P' b H) → tt σ H P → tt σ H P')
    (hs : ∀ i x y (T : Addr) H (Q : VK), xs[i]? = some x → ys[i]? = some y → Same H1 H → SqT K H T [x, y] → (Q (.int (φ i)) H) → LcTurn g tt te vs σ (.ref T) H Q)
    (hd : ∀ H, Same H1 H → H D = some (.lst ((List.range xs.length).map fun i => V.int (φ i))) → Qd H) :
    ∃ W : Nat → Nat → Hp → Prop, (∃ m, W 0 m (upd H1 D (.lst []))) ∧ ∀ i m H, W i m H →
      ((ItzM K a b).stop i H ∧ Qd H) ∨ ((ItzM K a b).go i H ∧ ∃ Nx : Hp → Prop, (∀ H', Nx H' → ∃ m', m' < m ∧ W (i + 1) m' H') ∧ ∀ x H', (ItzM K a b).yld i H x H' → g x (wipe σ vs) H' fun σ2 H2 => wipe σ2 vs = wipe σ vs ∧ tt σ2 H2 fun b H3 =>
        if b = true then te σ2 H3 fun y H4 => ∃ acc, H4 D = some (.lst acc) ∧ acc.length < sizeLine ∧ Nx (upd H4 D (.lst (acc ++ [y]))) else Nx H3) := by
  let Pv : Nat → Hp → Prop := fun i H => Same H1 H ∧ H D = some (.lst ((List.range i).map fun i => V.int (φ i)))
  refine ⟨fun i m H => m = xs.length - i ∧ i ≤ xs.length ∧ Pv i H, ⟨xs.length, by simp, Nat.zero_le _, same_new hD, upd_same⟩, ?_⟩
  rintro i m H ⟨rfl, hi, s, e⟩
  have qx := s.seq hS
  have qy := sqt_same s hS2
  by_cases hlt : i < xs.length
  · have hx : xs[i]? = some xs[i] := List.getElem?_eq_getElem hlt
    have hlt2 : i < ys.length := by omega
    have hy : ys[i]? = some ys[i] := List.getElem?_eq_getElem hlt2
    refine .inr ⟨⟨xs, ys, _, _, qx, qy, hx, hy⟩, Pv (i + 1), fun H' p' => ⟨xs.length - (i + 1), by omega, rfl, hlt, p'⟩, fun v H' y => ?_⟩
    obtain ⟨T, x', y', rfl, hT, rfl, f1, f2⟩ := y
    have ex : x' = xs[i] := Option.some.inj ((f1 _ qx).symm.trans hx)
    have ey : y' = ys[i] := Option.some.inj ((f2 _ qy).symm.trans hy)
    subst ex
    subst ey
    refine gm _ _ _ _ ?_ (hs i _ _ T _ (fun y H4 => ∃ acc, H4 D = some (.lst acc) ∧ acc.length < sizeLine ∧ Pv (i + 1) (upd H4 D (.lst (acc ++ [y])))) hx hy (Fb.Same.new s hT) (st_of upd_same) ?_)
    · rintro σ2 H2 ⟨w, h⟩
      refine ⟨w, tm _ _ _ _ ?_ h⟩
      intro b H3 h
      cases b with
      | true =>
        rw [if_pos rfl] at h ⊢
        exact h
      | false =>
        rw [if_neg Bool.false_ne_true] at h
        exact h.elim
    · refine ⟨_, upd_old hT e, ?_, Fb.Same.mut (Fb.Same.new s hT) hD, ?_⟩
      · rw [List.length_map, List.length_range]
        exact small1000 (by omega)
      · rw [upd_same, List.range_succ, List.map_append]
        rfl
  · have e' : i = xs.length := by omega
    subst e'
    exact .inl ⟨⟨xs, ys, qx, qy, Nat.le_refl _, by omega, .inl rfl⟩, hd H s e⟩
theorem unitV_at {n j i : Nat} (h : i < n) : (unitV n j)[i]? = some (if j = i then 1 else 0) := by
  unfold unitV
  by_cases e : j = i
  · subst e
    rw [List.getElem?_set_self (by rw [List.length_replicate]; exact h), if_pos rfl]
  · rw [List.getElem?_set_ne e, if_neg e, List.getElem?_replicate, if_pos h]
theorem unitV_len {n j : Nat} : (unitV n j).length = n := by unfold unitV; rw [List.length_set, List.length_replicate]
theorem r_lcRg {ta : TA} {g : TG} {tt : TT} {te : TE} {vs : List Nat} {σ : L2.St} {H : Hp} {Q : VK} (q : ta σ H fun vs1 H1 => ∃ j : Int, vs1 = [.int j] ∧ -(2 ^ 62) ≤ j ∧ j < 2 ^ 62 ∧ ∀ D, H1 D = none → ∃ W : Nat → Nat → Hp → Prop, (∃ m, W 0 m (upd H1 D (.lst []))) ∧ ∀ i m H, W i m H →
    ((Itr 0 j.toNat).stop i H ∧ Q (.ref D) H) ∨ ((Itr 0 j.toNat).go i H ∧ ∃ Nx : Hp → Prop, (∀ H', Nx H' → ∃ m', m' < m ∧ W (i + 1) m' H') ∧ ∀ x H', (Itr 0 j.toNat).yld i H x H' → g x (wipe σ vs) H' fun σ2 H2 => wipe σ2 vs = wipe σ vs ∧ tt σ2 H2 fun b H3 =>
      if b = true then te σ2 H3 fun y H4 => ∃ acc, H4 D = some (.lst acc) ∧ acc.length < sizeLine ∧ Nx (upd H4 D (.lst (acc ++ [y]))) else Nx H3)) : tLc (iRng1 ta) g tt te vs σ H Q := q

/-! Figurebooks: drawing, comprehensions that draw. -/
theorem PoolAt.new {H : Hp} {p q : Addr} {f : Nat} {o : HO} (h : PoolAt H p f) (n : H q = none) : PoolAt (upd H q o) p f := by
  obtain ⟨o, e, po⟩ := h
  exact ⟨o, upd_old n e, po⟩
theorem PoolAt.oth {H : Hp} {p q : Addr} {f : Nat} {o : HO} (h : PoolAt H p f) (n : p ≠ q) : PoolAt (upd H q o) p f := by
  obtain ⟨o, e, po⟩ := h
  exact ⟨o, upd_oth n e, po⟩
theorem PoolAt.same {H H' : Hp} {p : Addr} {f : Nat} (h : PoolAt H p f) (s : Same H H') : PoolAt H' p f := by
  obtain ⟨o, e, po⟩ := h
  exact ⟨o, s _ _ e, po⟩
theorem PoolAt.away {H : Hp} {p q : Addr} {f : Nat} (h : PoolAt H p f) (n : H q = none) : q ≠ p := fun z => by
  subst z
  exact h.ne n
theorem PoolAt.apart {H : Hp} {p q : Addr} {f : Nat} {xs : List V} (h : PoolAt H p f) (n : H q = some (.tup xs)) : q ≠ p := fun z => by
  subst z
  obtain ⟨o, e, a, b, c, rfl, _⟩ := h
  rw [e] at n
  cases n
theorem c_drawK {H : Hp} {Q : VK} {E : XK} {p : Addr} {m : Int} (f : Nat) (h : PoolAt H p (f + 1)) (h1 : 0 < m) (h2 : m < 2 ^ 200)
    (q : ∀ (d : Int) (H' : Hp), 0 ≤ d → d < m → Keep p H H' → PoolAt H' p f → Q (.int d) H') : spDraw [.ref p, .int m] H Q E :=
  c_draw f h h1 h2 fun d o h0 h1 po => q d _ h0 h1 Keep.upd ⟨o, upd_same, po⟩
theorem Keep.at {p a : Addr} {H H' : Hp} {o : HO} (k : Keep p H H') (e : H a = some o) (n : a ≠ p) : H' a = some o := k _ _ e n
theorem Keep.mut {p q : Addr} {H H' : Hp} {o : HO} (k : Keep p H H') (h : H q = none) : Keep p H (L2.upd H' q o) := fun a u e n => by
  rw [upd_ne (ne_of_none e h)]
  exact k a u e n
theorem hid_upd_oth {H : Hp} {p D : Addr} {o : HO} (n : D ≠ p) : hid p (upd H D o) = upd (hid p H) D o := by
  funext a
  unfold hid
  by_cases h : a = D
  · subst h
    rw [if_neg n, upd_same, upd_same]
  · rw [upd_ne h]
    split
    · rw [upd_ne h, if_pos ‹_›]
    · rw [upd_ne h, if_neg ‹_›]
theorem lc_pool {p : Addr} {lo : Int} {n c f : Nat} {g : TG} {tt : TT} {te : TE} {vs : List Nat} {σ : L2.St} {H1 : Hp} {D : Addr} {Qd : Hp → Prop} (R : Nat → V → Hp → Prop) (hR : ∀ i y H H', R i y H → Same H H' → R i y H')
    (hp : PoolAt H1 p (f + c * n)) (hD : H1 D = none) (hl : n ≤ 1000)
    (gm : ∀ x H (P P' : L2.St → Hp → Prop), (∀ σ H, P σ H → P' σ H) → g x (wipe σ vs) H P → g x (wipe σ vs) H P') (tm : ∀ σ H (P P' : Bool → Hp → Prop), (∀ b H, P b H → P' b H) → tt σ H P → tt σ H P')
    (hs : ∀ i H (Q : VK), i < n → Keep p H1 H → H D ≠ none → PoolAt H p (f + c * (n - (i + 1)) + c) → (∀ y H4, Keep p H H4 → PoolAt H4 p (f + c * (n - (i + 1))) → R i y (nw (hid p H) (hid p H4)) → Q y H4) → LcTurn g tt te vs σ (.int (lo + i)) H Q)
    (hd : ∀ H ys, ys.length = n → (∀ i y, ys[i]? = some y → R i y (nw (hid p H1) (hid p H))) → Keep p H1 H → PoolAt H p f → H D = some (.lst ys) → Qd H) :
    ∃ W : Nat → Nat → Hp → Prop, (∃ m, W 0 m (upd H1 D (.lst []))) ∧ ∀ i m H, W i m H →
      ((Itr lo n).stop i H ∧ Qd H) ∨ ((Itr lo n).go i H ∧ ∃ Nx : Hp → Prop, (∀ H', Nx H' → ∃ m', m' < m ∧ W (i + 1) m' H') ∧ ∀ x H', (Itr lo n).yld i H x H' → g x (wipe σ vs) H' fun σ2 H2 => wipe σ2 vs = wipe σ vs ∧ tt σ2 H2 fun b H3 =>
        if b = true then te σ2 H3 fun y H4 => ∃ acc, H4 D = some (.lst acc) ∧ acc.length < sizeLine ∧ Nx (upd H4 D (.lst (acc ++ [y]))) else Nx H3) := by
  have nDp : D ≠ p := hp.away hD
  refine lc_range (lo := lo) (n := n) (fun i H => (Keep p H1 H ∧ PoolAt H p (f + c * (n - i))) ∧ ∃ ys, H D = some (.lst ys) ∧ ys.length = i ∧ ∀ j y, ys[j]? = some y → R j y (nw (hid p H1) (hid D (hid p H))))
    ⟨⟨Keep.new hD, hp.new hD⟩, [], upd_same, rfl, fun j y e => by simp at e⟩ ?_ ?_
  · rintro i H hil ⟨⟨s, pp⟩, ys, e, hlen, hy⟩
    have hc : f + c * (n - i) = f + c * (n - (i + 1)) + c := by
      rw [show n - i = (n - (i + 1)) + 1 by omega, Nat.mul_add, Nat.mul_one, Nat.add_assoc]
    refine gm _ H _ _ ?_ (hs i H (fun y H4 => ∃ acc, H4 D = some (.lst acc) ∧ acc.length < sizeLine ∧ ((Keep p H1 (upd H4 D (.lst (acc ++ [y]))) ∧ PoolAt (upd H4 D (.lst (acc ++ [y]))) p (f + c * (n - (i + 1)))) ∧ ∃ zs, (upd H4 D (.lst (acc ++ [y]))) D = some (.lst zs) ∧ zs.length = i + 1 ∧ ∀ j z, zs[j]? = some z → R j z (nw (hid p H1) (hid D (hid p (upd H4 D (.lst (acc ++ [y])))))))) hil s (by rw [e]; exact fun z => by cases z) (by rw [← hc]; exact pp) ?_)
    · rintro σ2 H2 ⟨w, h⟩
      refine ⟨w, tm _ _ _ _ ?_ h⟩
      intro b H3 h
      cases b with
      | true =>
        rw [if_pos rfl] at h ⊢
        exact h
      | false =>
        rw [if_neg Bool.false_ne_true] at h
        exact h.elim
    · intro y H4 s4 p4 r4
      refine ⟨ys, s4 _ _ e nDp, Nat.lt_of_le_of_lt (show ys.length ≤ 1000 by omega) (by decide), ⟨(s.trans s4).mut hD, p4.oth (Ne.symm nDp)⟩, ys ++ [y], upd_same, by simp [hlen], fun j z hz => ?_⟩
      rw [hid_upd_oth nDp, hid_upd]
      by_cases hj : j < ys.length
      · rw [List.getElem?_append_left hj] at hz
        exact hR _ _ _ _ (hy j z hz) (nw_mono (hid_same s4.hid))
      · have ej : j = i := by
          have := (List.getElem?_eq_some_iff.mp hz).1
          simp at this
          omega
        subst ej
        rw [List.getElem?_append_right (by omega)] at hz
        have e0 : j - ys.length = 0 := by omega
        rw [e0] at hz
        have ez : y = z := Option.some.inj hz
        subst ez
        exact hR _ _ _ _ r4 (nw_hid s.hid (hid_at e nDp))
  · rintro H ⟨⟨s, pp⟩, ys, e, hlen, hy⟩
    rw [Nat.sub_self, Nat.mul_zero] at pp
    exact hd H ys hlen (fun i y h => hR _ _ _ _ (hy i y h) (nw_mono hid_le)) s pp e

/-! Figurebooks: dicts of starts. -/
theorem lc_keys {d : Addr} {od : Obj} {kvs : List (Key × V)} {g : TG} {tt : TT} {te : TE} {vs : List Nat} {σ : L2.St} {H1 : Hp} {D : Addr} {Qd : Hp → Prop} (Pv : Nat → Hp → Prop) (h0 : Pv 0 (upd H1 D (.lst []))) (hl : ∀ i H, i ≤ kvs.length → Pv i H → H d = some (.frz od (.dK kvs)))
    (hs : ∀ i k v H, kvs[i]? = some (k, v) → Pv i H → g (kV k) (wipe σ vs) H fun σ2 H2 => wipe σ2 vs = wipe σ vs ∧ tt σ2 H2 fun b H3 =>
      if b = true then te σ2 H3 fun y H4 => ∃ acc, H4 D = some (.lst acc) ∧ acc.length < sizeLine ∧ Pv (i + 1) (upd H4 D (.lst (acc ++ [y]))) else Pv (i + 1) H3) (hd : ∀ H, Pv kvs.length H → Qd H) :
    ∃ W : Nat → Nat → Hp → Prop, (∃ m, W 0 m (upd H1 D (.lst []))) ∧ ∀ i m H, W i m H →
      ((Itk d od kvs).stop i H ∧ Qd H) ∨ ((Itk d od kvs).go i H ∧ ∃ Nx : Hp → Prop, (∀ H', Nx H' → ∃ m', m' < m ∧ W (i + 1) m' H') ∧ ∀ x H', (Itk d od kvs).yld i H x H' → g x (wipe σ vs) H' fun σ2 H2 => wipe σ2 vs = wipe σ vs ∧ tt σ2 H2 fun b H3 =>
        if b = true then te σ2 H3 fun y H4 => ∃ acc, H4 D = some (.lst acc) ∧ acc.length < sizeLine ∧ Nx (upd H4 D (.lst (acc ++ [y]))) else Nx H3) := by
  refine ⟨fun i m H => m = kvs.length - i ∧ i ≤ kvs.length ∧ Pv i H, ⟨kvs.length, by simp, Nat.zero_le _, h0⟩, ?_⟩
  rintro i m H ⟨rfl, hi, p⟩
  have q := hl i H hi p
  by_cases hlt : i < kvs.length
  · refine .inr ⟨⟨q, hlt⟩, Pv (i + 1), fun H' p' => ⟨kvs.length - (i + 1), by omega, rfl, hlt, p'⟩, fun x H' y => ?_⟩
    obtain ⟨e, k, v, y, ex⟩ := y
    subst e ex
    exact hs i k v _ y p
  · have e : i = kvs.length := by omega
    subst e
    exact .inl ⟨⟨q, Nat.le_refl _⟩, hd H p⟩
/-- the dict of starts -/
def sk (ks : List Str) (g : Str → Int) : List (Key × V) := ks.map fun x => ((Sum.inr x : Key), V.int (g x))
theorem sk_len {ks : List Str} {g : Str → Int} : (sk ks g).length = ks.length := List.length_map ..
theorem sk_keys {ks : List Str} {g : Str → Int} : (sk ks g).map (·.1) = ks.map Sum.inr := by
  unfold sk
  rw [List.map_map]
  rfl
theorem sk_at {ks : List Str} {g : Str → Int} {i : Nat} {k : Key} {v : V} (h : (sk ks g)[i]? = some (k, v)) : ∃ x, ks[i]? = some x ∧ k = Sum.inr x ∧ v = .int (g x) := by
  unfold sk at h
  rw [List.getElem?_map] at h
  cases e : ks[i]? with
  | none => rw [e] at h; cases h
  | some x =>
    rw [e] at h
    cases h
    exact ⟨x, rfl, rfl, rfl⟩
theorem sk_get {g : Str → Int} {x : Str} : ∀ {ks : List Str}, x ∈ ks → valV (sk ks g) (Sum.inr x : Key) = some (.int (g x))
  | y :: ks, h => by
    by_cases e : y = x
    · subst e
      exact valV_pos rfl
    · rw [show sk (y :: ks) g = ((Sum.inr y : Key), V.int (g y)) :: sk ks g from rfl, valV_neg (fun z => e (Sum.inr.inj z))]
      exact sk_get ((List.mem_cons.mp h).resolve_left (Ne.symm e))
theorem sk_put {g : Str → Int} {x : Str} {s : Int} : ∀ {ks : List Str}, x ∉ ks → putK (sk ks g) (Sum.inr x : Key) (.int s) = sk (ks ++ [x]) (fun y => if y = x then s else g y) := fun {ks} h => by
  unfold putK
  have e : ((sk ks g).any fun kv => decide (kv.1 = (Sum.inr x : Key))) = false := by
    rw [List.any_eq_false]
    intro kv hk
    unfold sk at hk
    obtain ⟨y, hy, rfl⟩ := List.mem_map.mp hk
    intro z
    have := Sum.inr.inj (of_decide_eq_true z)
    subst this
    exact h hy
  rw [if_neg (by rw [e]; decide)]
  unfold sk
  rw [List.map_append]
  congr 1
  · refine List.map_congr_left fun y hy => ?_
    show ((Sum.inr y : Key), V.int (g y)) = ((Sum.inr y : Key), V.int (if y = x then s else g y))
    rw [if_neg (fun z : y = x => h (by rw [← z]; exact hy))]
  · show [((Sum.inr x : Key), V.int s)] = [((Sum.inr x : Key), V.int (if x = x then s else g x))]
    rw [if_pos rfl]
theorem r_lock {t : TS} {D : Ends} {σ : L2.St} {H : Hp} (d : Addr) (u : HO) (h : H d = some u) (m : Mut (some u)) (q : ∀ od, t ⟨fun σ' H' => H' d = some (.frz od u) ∧ D.nx σ' (upd H' d u), fun v H' => H' d = some (.frz od u) ∧ D.rt v (upd H' d u), fun σ' H' => H' d = some (.frz od u) ∧ D.bk σ' (upd H' d u), fun σ' H' => H' d = some (.frz od u) ∧ D.ct σ' (upd H' d u)⟩ σ (upd H d (.frz od u))) : tLock t D σ H := ⟨d, u, h, m, q⟩
theorem r_lcK {td : TE} {g : TG} {tt : TT} {te : TE} {vs : List Nat} {σ : L2.St} {H : Hp} {Q : VK} (q : td σ H fun x H1 => ∃ d o kvs, x = .ref d ∧ H1 d = some (.frz o (.dK kvs)) ∧ ∀ D, H1 D = none → ∃ W : Nat → Nat → Hp → Prop, (∃ m, W 0 m (upd H1 D (.lst []))) ∧ ∀ i m H, W i m H →
    ((Itk d o kvs).stop i H ∧ Q (.ref D) H) ∨ ((Itk d o kvs).go i H ∧ ∃ Nx : Hp → Prop, (∀ H', Nx H' → ∃ m', m' < m ∧ W (i + 1) m' H') ∧ ∀ x H', (Itk d o kvs).yld i H x H' → g x (wipe σ vs) H' fun σ2 H2 => wipe σ2 vs = wipe σ vs ∧ tt σ2 H2 fun b H3 =>
      if b = true then te σ2 H3 fun y H4 => ∃ acc, H4 D = some (.lst acc) ∧ acc.length < sizeLine ∧ Nx (upd H4 D (.lst (acc ++ [y]))) else Nx H3)) (hm : ∀ (P P' : V → Hp → Prop), (∀ v H, P v H → P' v H) → td σ H P → td σ H P') : tLc (iKeys td) g tt te vs σ H Q := by
  refine hm _ _ ?_ q
  rintro v H1 ⟨d, o, kvs, e, h, q⟩
  exact ⟨d, o, e, .inl ⟨kvs, h, q⟩⟩
theorem r_dget {a : Addr} {kvs : List (Key × V)} {y : Str} {v : V} {H : Hp} {P : V → Prop} (h : Rd H a (.dK kvs)) (e : valV kvs (Sum.inr y) = some v) (q : P v) : ∃ b w, V.ref a = .ref b ∧ DGet H b (.str y) (some w) ∧ P w :=
  ⟨a, v, rfl, .inl ⟨kvs, Sum.inr y, h, rfl, e.symm⟩, q⟩
/-! ### the tuples alone -/
def tupO : HO → Bool
  | .tup _ => true
  | .frz _ (.tup _) => true
  | _ => false
theorem tupO_fixed {o : HO} (h : tupO o = true) : fixedO o = true := by
  cases o <;> first | rfl | cases h
def tu (H : Hp) : Hp := fun a => match H a with
  | some o => if tupO o = true then some o else none
  | none => none
theorem tu_at {H : Hp} {a : Addr} {o : HO} (h : H a = some o) (f : tupO o = true) : tu H a = some o := by
  unfold tu
  rw [h]
  exact if_pos f
theorem tu_of {H : Hp} {a : Addr} {o : HO} (h : tu H a = some o) : H a = some o ∧ tupO o = true := by
  unfold tu at h
  split at h
  · split at h
    · cases h
      exact ⟨‹_›, ‹_›⟩
    · cases h
  · cases h
theorem tu_le {H : Hp} : Same (tu H) H := fun a o h => (tu_of h).1
theorem tu_of_keep {H H' : Hp} (k : ∀ a o, H a = some o → tupO o = true → H' a = some o) : Same (tu H) (tu H') := fun a o h => by
  obtain ⟨h1, h2⟩ := tu_of h
  exact tu_at (k a o h1 h2) h2
theorem tu_keep {p : Addr} {H H' : Hp} {xs : List V} (e : H p = some (.lst xs)) (k : Keep p H H') : Same (tu H) (tu H') := tu_of_keep fun a o h f => k a o h fun z => by
  subst z
  rw [e] at h
  cases h
  cases f
theorem tu_new {q : Addr} {H : Hp} {o : HO} (n : H q = none) : Same (tu H) (tu (upd H q o)) := tu_of_keep fun a u h _ => upd_old n h
theorem tu_lst {q : Addr} {H : Hp} {o : HO} {xs : List V} (n : H q = some (.lst xs)) : Same (tu H) (tu (upd H q o)) := tu_of_keep fun a u h f => by
  by_cases e : a = q
  · subst e
    rw [n] at h
    cases h
    cases f
  · rw [upd_ne e]
    exact h
theorem tu_hid {p : Addr} {H : Hp} {xs : List V} (e : H p = some (.lst xs)) : Same (tu H) (hid p H) := fun a o h => by
  obtain ⟨h1, h2⟩ := tu_of h
  refine hid_at h1 fun z => ?_
  subst z
  rw [e] at h1
  cases h1
  cases h2
theorem tu_nw {p : Addr} {H H' : Hp} {xs : List V} (e : H' p = some (.lst xs)) (k : Keep p H H') : Same (tu H') (nw (hid p H) (hid p H')) := fun a o h => by
  have h1 := tu_hid e a o h
  have h2 := (tu_of h).2
  cases h0 : hid p H a with
  | none => rw [nw_new h0]; exact h1
  | some u =>
    have : hid p H' a = some u := k.hid a u h0
    rw [h1] at this
    cases this
    rw [nw_fix h0 (tupO_fixed h2)]
    exact h1
theorem sqt_tu {K : PySem.W.Frag} {H : Hp} {a : Addr} {xs : List V} (h : SqT K H a xs) : SqT K (tu H) a xs := by
  rcases h with (h | ⟨o, h⟩) | h
  · exact .inl (.inl (tu_at h rfl))
  · exact .inl (.inr ⟨o, tu_at h rfl⟩)
  · exact .inr h
theorem dp_term_tu {K : PySem.W.Frag} {H : Hp} {v : V} {t : Term} (h : Dp K H v (dTerm t)) : Dp K (tu H) v (dTerm t) := by
  obtain ⟨a, rfl, q⟩ := dp_term h
  exact .tup (sqt_tu q) (.cons (.int _) (.cons (.str _) .nil))
theorem dp_term_new {K : PySem.W.Frag} {H : Hp} {a : Addr} {c : Int} {x : Str} (h : H a = some (.tup [.int c, .str x])) : Dp K (tu H) (.ref a) (dTerm (c, x)) :=
  .tup (st_of (tu_at h rfl)) (.cons (.int _) (.cons (.str _) .nil))
/-- a step whose value is told by what it keeps -/
theorem r_seqJ {te : TE} {g : TG} {rest : TS} {D : Ends} {σ : L2.St} {H : Hp} (P : V → Hp → Prop) (h : ∀ Q : VK, (∀ v H', P v H' → Q v H') → te σ H Q) (q : ∀ v H', P v H' → g v σ H' fun σ' H2 => rest D σ' H2) : tSeq (tAsg te g) rest D σ H := h _ q
def sumG (g : Str → Int) (F : List Term) : Int := (F.map fun t => t.1 * g t.2).sum
theorem sumG_app {g : Str → Int} {F G : List Term} : sumG g (F ++ G) = sumG g F + sumG g G := by
  unfold sumG
  rw [List.map_append, List.sum_append]
theorem sumG_filter {g : Str → Int} : ∀ {F : List Term}, sumG g (F.filter fun t => !decide (t.1 = 0)) = sumG g F
  | [] => rfl
  | t :: F => by
    have ih := sumG_filter (g := g) (F := F)
    unfold sumG at ih ⊢
    by_cases h : t.1 = 0
    · rw [List.filter_cons_of_neg (by simp [h]), ih, List.map_cons, List.sum_cons, h, Int.zero_mul, Int.zero_add]
    · rw [List.filter_cons_of_pos (by simp [h]), List.map_cons, List.map_cons, List.sum_cons, List.sum_cons, ih]
theorem r_dg {td ty : TE} {σ : L2.St} {H : Hp} {Q : VK} (q : td σ H fun x H1 => ty σ H1 fun y H2 => ∃ a v, x = .ref a ∧ DGet H2 a y (some v) ∧ Q v H2) : tDGet td ty σ H Q := q
theorem upd_upd {H : Hp} {a : Addr} {u v : HO} : upd (upd H a u) a v = upd H a v := by
  funext b
  by_cases e : b = a
  · subst e
    rw [upd_same, upd_same]
  · rw [upd_ne e, upd_ne e, upd_ne e]
theorem upd_lock {H : Hp} {s D : Addr} {u z l : HO} (h : H s = some u) (n : D ≠ s) : upd (upd (upd H s z) D l) s u = upd H D l := by
  funext b
  by_cases e : b = s
  · subst e
    rw [upd_same, upd_ne (Ne.symm n), h]
  · rw [upd_ne e]
    by_cases e2 : b = D
    · subst e2
      rw [upd_same, upd_same]
    · rw [upd_ne e2, upd_ne e, upd_ne e2]
theorem shaped_strs {xs : List Str} (h : ∀ x ∈ xs, PyData.strOk x = true) : SeqAt.shaped (.list (xs.map PyData.str)) = true := by
  have h1 : ∀ xs : List Str, (∀ x ∈ xs, PyData.strOk x = true) → PyData.canLayAll0 (xs.map PyData.str) = true := fun xs => by
    induction xs with
    | nil => intro _; simp [PyData.canLayAll0]
    | cons x xs ih =>
      intro h
      simp [PyData.canLayAll0, PyData.canLay0, ih (fun y hy => h y (List.mem_cons_of_mem _ hy)), h x List.mem_cons_self]
  have h2 : ∀ xs : List Str, PyData.depthAll (xs.map PyData.str) = 0 := fun xs => by
    induction xs with
    | nil => simp [PyData.depthAll]
    | cons x xs ih => simp [PyData.depthAll, PyData.depth, ih]
  unfold SeqAt.shaped
  simp [PyData.canLay0, PyData.depth, h1 xs h, h2]
theorem eqv_strs_nil {xs : List Str} : PyData.eqv (.list (xs.map PyData.str)) (.list []) = decide (xs = []) := by
  cases xs with
  | nil => simp [PyData.eqv, PyData.eqvAll]
  | cons x xs => simp [PyData.eqv, PyData.eqvAll]
theorem r_ifJ {c : TT} {t u : TS} {D : Ends} {σ : L2.St} {H : Hp} (P : Bool → Hp → Prop) (h : ∀ Q : Bool → Hp → Prop, (∀ b H', P b H' → Q b H') → c σ H Q) (q : ∀ b H', P b H' → if b = true then t D σ H' else u D σ H') : tIfS c t u D σ H := h _ q

/-! Figurebooks: drawn books. -/
/-- what of B stands in H', of the same kind, apart from p -/
def Shp (p : Addr) (B H' : Hp) : Prop := ∀ a o, B a = some o → a ≠ p → ∃ o', H' a = some o' ∧ fixedO o' = fixedO o
theorem Shp.refl {p : Addr} {B : Hp} : Shp p B B := fun a o h _ => ⟨o, h, rfl⟩
theorem Shp.keep {p : Addr} {B H H' : Hp} (s : Shp p B H) (k : Keep p H H') : Shp p B H' := fun a o h n => by
  obtain ⟨o', h1, h2⟩ := s a o h n
  exact ⟨o', k a o' h1 n, h2⟩
theorem Shp.put {p q : Addr} {B H : Hp} {u v : HO} (s : Shp p B H) (e : H q = some u) (f : fixedO v = fixedO u) : Shp p B (upd H q v) := fun a o h n => by
  obtain ⟨o', h1, h2⟩ := s a o h n
  by_cases z : a = q
  · subst z
    rw [e] at h1
    cases h1
    exact ⟨v, upd_same, f.trans h2⟩
  · exact ⟨o', by rw [upd_ne z]; exact h1, h2⟩
theorem nw_up {p : Addr} {B Hx Hy : Hp} (s : Shp p B Hx) : Same (nw (hid p Hx) (hid p Hy)) (nw B Hy) := fun a u e => by
  have h1 := nw_le a u e
  obtain ⟨h2, n⟩ := hid_of h1
  cases h0 : B a with
  | none => rw [nw_new h0]; exact h2
  | some o =>
    obtain ⟨o', e1, e2⟩ := s a o h0 n
    by_cases f : fixedO o = true
    · rw [nw_fix h0 f]
      exact h2
    · exfalso
      unfold nw at e
      rw [hid_at e1 n] at e
      exact absurd ((if_neg (by rw [e2]; exact f)).symm.trans e) (fun z => by cases z)
theorem nw_up_hid {p q : Addr} {B Hx Hy : Hp} {xs : List V} (s : Shp p B Hx) (eq : Hx q = some (.lst xs)) (n : q ≠ p) : Same (nw (hid p Hx) (hid p Hy)) (hid q (nw B Hy)) := fun a u e => by
  refine hid_at (nw_up s a u e) fun z => ?_
  subst z
  unfold nw at e
  rw [hid_at eq n] at e
  exact absurd ((if_neg (by intro z; cases z)).symm.trans e) (fun z => by cases z)
theorem nw_step {B H H' : Hp} (k : ∀ a o, H a = some o → (∀ u, B a = some u → fixedO u = true) → H' a = some o) : Same (nw B H) (nw B H') := fun a u e => by
  cases h0 : B a with
  | none =>
    rw [nw_new h0] at e ⊢
    exact k a u e fun v h => by rw [h0] at h; cases h
  | some o =>
    by_cases f : fixedO o = true
    · rw [nw_fix h0 f] at e ⊢
      exact k a u e fun v h => by rw [h0] at h; cases h; exact f
    · unfold nw at e
      rw [h0] at e
      exact absurd ((if_neg f).symm.trans e) (fun z => by cases z)
theorem nw_stepK {p : Addr} {B H H' : Hp} {xs : List V} (e : B p = some (.lst xs)) (k : Keep p H H') : Same (nw B H) (nw B H') := nw_step fun a o h f => k a o h fun z => by
  subst z
  have := f _ e
  cases this
theorem nw_stepM {q : Addr} {B H : Hp} {o : HO} {xs : List V} (e : B q = some (.lst xs)) : Same (nw B H) (nw B (upd H q o)) := nw_step fun a u h f => by
  refine upd_oth (fun z => ?_) h
  subst z
  have := f _ e
  cases this
theorem nw_fin {p : Addr} {H B H' : Hp} {xs : List V} (k : Keep p H B) (e : B p = some (.lst xs)) : Same (nw B H') (nw (hid p H) (hid p H')) := fun a u z => by
  have n : a ≠ p := fun y => by
    subst y
    unfold nw at z
    rw [e] at z
    exact absurd ((if_neg (by intro z; cases z)).symm.trans z) (fun z => by cases z)
  have h1 := hid_at (nw_le a u z) n
  cases h0 : hid p H a with
  | none => rw [nw_new h0]; exact h1
  | some o =>
    obtain ⟨h2, _⟩ := hid_of h0
    have h3 := k a o h2 n
    by_cases f : fixedO o = true
    · rw [nw_fix h0 f]
      exact h1
    · unfold nw at z
      rw [h3] at z
      exact absurd ((if_neg f).symm.trans z) (fun z => by cases z)
theorem nw_at {B H : Hp} {a : Addr} {o : HO} (h : H a = some o) (n : B a = none) : nw B H a = some o := by
  rw [nw_new n]
  exact h
def lettersL : List Str := ["s", "d", "t", "e", "q", "z"]
theorem letters_ok : ∀ x ∈ lettersL, letterB x = true ∧ x.length ≤ 1000 ∧ PyData.strOk x = true := by decide +kernel
structure LineOk (b : Nat) (ks : List Str) (g : Str → Int) (l : Line) : Prop where
  start : l.2.1 = g l.1
  forms : l.2.2.length = b
  small : ∀ f ∈ l.2.2, f.length ≤ 5
  terms : ∀ f ∈ l.2.2, ∀ t ∈ f, t.1.natAbs ≤ 9 ∧ t.2 ∈ ks
  sound : ∀ f, l.2.2[0]? = some f → sumG g f = g l.1
/-- a drawn book -/
structure Drawn (b : Int) (m : Nat) (L : List Line) : Prop where
  sound : Sound b L
  some : 0 < L.length
  most : L.length ≤ m
  names : ∀ x ∈ names L, x ∈ lettersL
  starts : ∀ l ∈ L, l.2.1.natAbs ≤ 9
  small : ∀ l ∈ L, ∀ f ∈ l.2.2, f.length ≤ 5
  coefs : ∀ l ∈ L, ∀ f ∈ l.2.2, ∀ t ∈ f, t.1.natAbs ≤ 9
theorem worth_g {g : Str → Int} {x : Str} : ∀ {L : List Line}, (∀ l ∈ L, l.2.1 = g l.1) → x ∈ names L → worth (names L) (starts L) x = g x
  | l :: r, hg, hx => by
    by_cases e : l.1 = x
    · have : (names (l :: r)).idxOf x = 0 := by
        show (l.1 :: names r).idxOf x = 0
        rw [e, List.idxOf_cons_self]
      unfold worth
      rw [this]
      show l.2.1 = g x
      rw [hg l List.mem_cons_self, e]
    · have h2 : x ∈ names r := (List.mem_cons.mp (show x ∈ l.1 :: names r from hx)).resolve_left (Ne.symm e)
      have ih := worth_g (fun l hl => hg l (List.mem_cons_of_mem _ hl)) h2
      unfold worth at ih ⊢
      have : (names (l :: r)).idxOf x = (names r).idxOf x + 1 := by
        show (l.1 :: names r).idxOf x = _
        have hb : (l.1 == x) = false := beq_eq_false_iff_ne.mpr e
        rw [List.idxOf_cons, hb]
        rfl
      rw [this]
      exact ih
theorem drawn_of {b : Nat} {m n : Nat} {L : List Line} {g : Str → Int} (hb : b = 2 ∨ b = 3 ∨ b = 4) (hn0 : 0 < n) (hnm : n ≤ m) (hm : m ≤ 6) (hp : (names L).Perm (lettersL.take n)) (hl : ∀ l ∈ L, LineOk b (lettersL.take n) g l) (hg : ∀ x ∈ lettersL.take n, (g x).natAbs ≤ 9) : Drawn b m L := by
  have hlen : L.length = n := by
    have := hp.length_eq
    rw [List.length_take] at this
    unfold names at this
    rw [List.length_map] at this
    rw [this]
    exact Nat.min_eq_left (by show n ≤ 6; omega)
  have hin : ∀ x ∈ names L, x ∈ lettersL := fun x hx => List.mem_of_mem_take (hp.mem_iff.mp hx)
  have hname : ∀ l ∈ L, l.1 ∈ names L := fun l h => List.mem_map.mpr ⟨l, h, rfl⟩
  refine ⟨⟨?_, by omega, fun l h => ?_, hp.nodup_iff.mpr ?_, fun l h => by rw [(hl l h).forms], fun l h f hf => Nat.le_trans ((hl l h).small f hf) (by decide), fun l h f hf t ht => hp.mem_iff.mpr ((hl l h).terms f hf t ht).2, fun l h f hf t ht => Nat.lt_of_le_of_lt ((hl l h).terms f hf t ht).1 (by decide), fun l h => ?_, fun l h f hf => ?_⟩, by omega, by omega, hin, fun l h => ?_, fun l h => (hl l h).small, fun l h f hf t ht => ((hl l h).terms f hf t ht).1⟩
  · rcases hb with rfl | rfl | rfl
    · exact .inl rfl
    · exact .inr (.inl rfl)
    · exact .inr (.inr rfl)
  · have := letters_ok l.1 (hin _ (hname l h))
    exact ⟨this.1, this.2.1⟩
  · exact (List.take_sublist n lettersL).nodup (by decide +kernel)
  · rw [(hl l h).start]
    exact Nat.lt_of_le_of_lt (hg _ (hp.mem_iff.mp (hname l h))) (by decide)
  · rw [(hl l h).start, ← (hl l h).sound f hf]
    unfold sumG sumF
    congr 1
    refine List.map_congr_left fun t ht => ?_
    rw [worth_g (fun l hl' => (hl l hl').start) (hp.mem_iff.mpr ((hl l h).terms f (List.mem_of_getElem? hf) t ht).2)]
  · rw [(hl l h).start]
    exact hg _ (hp.mem_iff.mp (hname l h))
theorem Shp.none {p a : Addr} {B H : Hp} (s : Shp p B H) (n : H a = .none) (h : a ≠ p) : B a = .none := by
  cases e : B a with
  | none => rfl
  | some o =>
    obtain ⟨o', h1, _⟩ := s a o e h
    rw [n] at h1
    cases h1
theorem Shp.new {p q : Addr} {B H : Hp} {v : HO} (s : Shp p B H) (n : H q = .none) : Shp p B (upd H q v) := fun a o h m => by
  obtain ⟨o', h1, h2⟩ := s a o h m
  exact ⟨o', upd_old n h1, h2⟩
theorem nw_upd_oth {q a : Addr} {B H : Hp} {v : HO} (n : a ≠ q) : nw B (upd H q v) a = nw B H a := by
  unfold nw
  rw [upd_ne n]
theorem hid_nw_upd {q : Addr} {B H : Hp} {v : HO} : Same (hid q (nw B H)) (hid q (nw B (upd H q v))) := fun a u e => by
  obtain ⟨h, n⟩ := hid_of e
  exact hid_at (by rw [nw_upd_oth n]; exact h) n
theorem hid_nw_new {q : Addr} {B H : Hp} {v : HO} (m : H q = none) : Same (nw B H) (hid q (nw B (upd H q v))) := fun a u e => by
  have n : a ≠ q := fun z => by
    subst z
    have := nw_le a u e
    rw [m] at this
    cases this
  exact hid_at (by rw [nw_upd_oth n]; exact e) n
theorem dpa_take {K : PySem.W.Frag} {H : Hp} : ∀ {vs : List V} {ds : List PyData} (k : Nat), DpAll K H vs ds → DpAll K H (vs.take k) (ds.take k)
  | _, _, 0, _ => by rw [List.take_zero, List.take_zero]; exact .nil
  | _, _, _ + 1, .nil => .nil
  | _, _, k + 1, .cons h r => .cons h (dpa_take k r)
theorem dpa_drop {K : PySem.W.Frag} {H : Hp} : ∀ {vs : List V} {ds : List PyData} (k : Nat), DpAll K H vs ds → DpAll K H (vs.drop k) (ds.drop k)
  | _, _, 0, h => h
  | _, _, _ + 1, .nil => .nil
  | _, _, k + 1, .cons _ r => dpa_drop k r
theorem r_for2 {ta : TA} {g : TG} {tb : TS} {D : Ends} {σ : L2.St} {H : Hp} (q : ta σ H fun vs H1 => ∃ i j : Int, vs = [.int i, .int j] ∧ (-(2 ^ 62) ≤ i ∧ i < 2 ^ 62 ∧ -(2 ^ 62) ≤ j ∧ j < 2 ^ 62) ∧ ∃ W : Nat → Nat → L2.St → Hp → Prop, (∃ m, W 0 m σ H1) ∧ ∀ k m σ H, W k m σ H →
    ((Itr i (j - i).toNat).stop k H ∧ D.nx σ H) ∨ ((Itr i (j - i).toNat).go k H ∧ ∃ N : L2.St → Hp → Prop, (∀ σ' H', N σ' H' → ∃ m', m' < m ∧ W (k + 1) m' σ' H') ∧ ∀ x H', (Itr i (j - i).toNat).yld k H x H' → g x σ H' fun σ2 H2 => tb { D with nx := N, ct := N, bk := D.nx } σ2 H2)) : tFor (iRng2 ta) g tb D σ H := q

/-! Figurebooks: promises of defs that may tell texts of lists: nothing is being told when they are called. -/
/-- nothing is being told -/
def Calm (A : Around) : Prop := A.guards = some []
structure GOk (P : Program) (w : World) (K : PySem.W.Frag) (mg : Str → Option Value) (base : Heap) (CX : CXT) (k : Nat) (f : Addr) (fd : FuncData) (ps : List Str) (sp : Sp) : Prop where
  nums : ∀ vs H Q E, sp vs H Q E → vs.length = ps.length
  goes : ∀ (A : Around) (out : List Env) (s : Shared) (H : Hp) (ar : Args) (us : List Value) (vs : List V) (Q : VK) (E : XK), Room k A ∧ Calm A →
    Env0 P w K mg base A out s H → BindsTo s fd ar (ps.zip us) → Vals vs us → sp vs H Q E → codeAny (model P w) A (.call (.ref f) ar) (CR CX out P w H s Q E) s
theorem GOk.of {P : Program} {w : World} {K : PySem.W.Frag} {mg : Str → Option Value} {base : Heap} {CX : CXT} {k : Nat} {f : Addr} {fd : FuncData} {ps : List Str} {sp : Sp} (F : FnOk P w K mg base CX k f fd ps sp) : GOk P w K mg base CX k f fd ps sp :=
  ⟨F.len, fun A out s H ar us vs Q E h => F.run A out s H ar us vs Q E h.1⟩
theorem calm_deeper {A : Around} {e : Env} (h : Calm A) : Calm (A.deeper e) := h
theorem GOk.body {P : Program} {w : World} {K : PySem.W.Frag} {mg : Str → Option Value} {base : Heap} {x qual : Str} {st : Stmt} {f : Addr} {fd : FuncData} {N ps : List Str} {k : Nat} {sp : Sp} (F : Fun K x qual st f fd) (S : FnScope N ps (defScope st)) (len : ∀ vs H Q E, sp vs H Q E → vs.length = ps.length)
    (hbody : ∀ (cdv : Value) (A : Around) (outer : List Env) (s : Shared) (H : Hp) (vs : List V) (Q : VK) (E : XK), Calm (A.deeper (envOfC qual (defScope st) s.heap.objs.size f cdv)) → Room k (A.deeper (envOfC qual (defScope st) s.heap.objs.size f cdv)) → sp vs H Q E →
      ∃ t, PSs (cxOf CX0 P w K mg base N qual (defScope st) f cdv A outer s H E).nox (defBody st) t ∧ t { nx := fun _ H' => Q .non H', rt := Q } (L2.start N vs) H) : GOk P w K mg base CX0 (k + 1) f fd ps sp := by
  obtain ⟨oc, od, kV, doc, pm, an, cdv, ct, osl, rfl, lk, hcd⟩ := F.ex
  constructor
  · exact len
  rintro A out s H ar us vs Q E ⟨hr, hc⟩ e0 hb rv hsp
  have old : ∀ b o, base.get? b = some o → s.heap.get? b = some o := fun b o e => (e0.bs b o e).1
  have KX := e0.mod.kin.keeps old
  refine codeAny_call_function hr.depth (KX _ _ lk) rfl S.co S.gen rfl (PySem.W.codeRec_of KX hcd) (hb _ _ _ _ (wpAny_newFunctionEnv_cells S.kind ?_ ?_))
  · rintro ⟨n, v⟩ hy
    cases S.par n (List.of_mem_zip hy).1 with
    | inl q => exact .inl q
    | inr q => exact .inr ⟨q, PySem.W.cellsFrom_some _ _ _ (.inl q)⟩
  · rintro env rfl s1 ic
    obtain ⟨t, ht, hq⟩ := hbody cdv A out s H vs Q E (calm_deeper hc) (hr.deeper _) hsp
    have J := inv_start (CX := CX0) (E := E) S hr.hd e0 (len _ _ _ _ hsp) rv ic
    constructor
    · exact (e0.mod.nolimit.keeps old).keeps ic.toInCall.keep
    refine codeAny_func (wpAny_mono (ht.nox.run [] s1 (L2.start N vs) H _ J hq) ?_ fun e s' he => he)
    intro fl s' g
    cases fl
    case ret u =>
      obtain ⟨v, _, H2, J2, r2, q2⟩ := g
      exact ⟨v, H2, J2.os, J2.bare, J2.base, J2.hok, r2, q2⟩
    case next =>
      obtain ⟨_, H2, J2, q2⟩ := g
      exact ⟨.non, H2, J2.os, J2.bare, J2.base, J2.hok, rfl, q2⟩
    case brk =>
      obtain ⟨_, _, _, z⟩ := g
      exact z.elim
    case cont =>
      obtain ⟨_, _, _, z⟩ := g
      exact z.elim
section
variable {X : Cx} {k : Nat} {f : Addr} {fd : FuncData} {ps : List Str} {sp : Sp} {x : Str} {e : Expr} {es : List Expr} {t : TA} {p pos : Pos} {E : XK}
theorem pe_callG (F : GOk X.prog X.w X.K X.mg X.base CX0 k f fd ps sp) (hr : Room k X.A) (hc : Calm X.A) (hg : Gl X x) (hm : X.mg x = some (.ref f)) (hk : PySem.W.keepIn X.K (.ref f) = true) (hb : Binds X.K fd ps []) (hx : Passes CX0 X E)
    (ha : PA X (e :: es) t) (hdb : (x == ("__debug__" : Str)) = false := by decide) (he : starEach (e :: es) X.env = (false, eval e X.env) :: starEach es X.env := by rfl) (hpl : (backTo pos (starEach es X.env)).any (·.1) = false := by rfl) :
    PE X (.Call (.Name x p) (e :: es) [] pos) (tCall sp [] E t) := by
  constructor
  intro pins s σ H Q I h
  refine wpAny_Call_Name_kw (ld_glob I hg hm (PySem.W.callWith_K (h₀ := X.base) I.ok.mod.kin hk (thn (ha.run pos pins s σ H _ I h) ?_) he hpl) hdb)
  rintro us s1 ⟨vs, H1, J, rv, q⟩
  have rv2 : Vals (vs ++ []) (us ++ []) := rv.append .nil
  refine ⟨J.kIn, wpAny_call (codeAny_mono (F.goes X.A X.stack s1 H1 ⟨us, []⟩ (us ++ []) (vs ++ []) Q E ⟨hr, hc⟩ J.env0 (hb s1 us J.kIn (by rw [← rv2.length]; exact F.nums _ _ _ _ q)) rv2 q) ?_)⟩
  intro r s2 g
  match r, g with
  | .error e, g => exact hx pins σ H1 s1 e s2 J g
  | .ok (.ret u), g => exact J.after g
/-- repr of a thing made of lists, tuples, ints and texts -/
theorem call_reprD (hr : Room k X.A) (hc : Calm X.A) : CallR X (.builtin "repr") (fun xs H Q => ∃ (a : Addr) (d : PyData), xs = [.ref a] ∧ Dp X.K H (.ref a) d ∧ d.showable = true ∧ d.hasDict = false ∧ d.depth ≤ 64 ∧ d.shown.length ≤ sizeLine ∧ Q (.str d.shown) H) := by
  rintro pins s σ H xs us Q I r ⟨a, d, rfl, hd, h1, h2, h3, h4, q⟩
  obtain ⟨u, rfl, ru⟩ := vals1 r
  obtain ⟨as, rd⟩ := Dp.reads I d _ _ hd ru
  obtain rfl : u = Value.ref a := ru
  refine repr_of_reads' rd h1 (fun z => by rw [h2] at z; cases z) hc (by have := hr.un; omega) (fun b o e => e) (fun h' t tk hk => ?_) h4
  exact ⟨.str _, H, I.kept hk, ⟨t, rfl⟩, q⟩
end
/-- the script alone, if it isn't the module's own -/
def scriptH (K : PySem.W.Frag) (a : Addr) (O : Obj) (ns : List Int) : Hp := fun b => if b = a ∧ K.lookup a = none then some (.frz O (.lst (ns.map V.int))) else none
theorem scriptH_of {K : PySem.W.Frag} {a b : Addr} {O : Obj} {ns : List Int} {u : HO} (h : scriptH K a O ns b = some u) : b = a ∧ K.lookup a = none ∧ u = .frz O (.lst (ns.map V.int)) := by
  unfold scriptH at h
  split at h
  · rename_i q
    cases h
    exact ⟨q.1, q.2, rfl⟩
  · cases h
theorem end_G {P : Program} {w : World} {K : PySem.W.Frag} {mg mb : Str → Option Value} {k : Nat} {fa a : Addr} {fd : FuncData} {x : Str} {sp : Sp} {s : Shared} {vs : List Value} {ns : List Int} {O : Obj}
    (eO : O = { cls := .type "list", data := .seq vs.toArray }) (KX : K.In s.heap) (h1 : s.heap.Ns mainGlobals mg) (h2 : s.heap.Ns builtinsNs mb) (h3 : ∀ x : Str, x ≠ "__name__" → mb x = bootBuiltins x) (h4 : s.heap.NoLimit) (h5 : s.gens = #[])
    (ha : s.heap.get? a = some O) (hi : IntsAre vs ns) (hl : ns.length ≤ sizeLine) (hr : Room k callerA)
    (F : ∀ base : Heap, K.In base → base.Ns mainGlobals mg → GOk P w K mg base CX0 k fa fd [x] sp) (hbind : ∀ (s : Shared) (u : Value), BindsTo s fd ⟨[u], []⟩ [(x, u)])
    (hsp : ∀ H : Hp, SqL K H a (ns.map V.int) → sp [.ref a] H (fun v _ => v = .bl true) fun _ _ _ => False) :
    codeAny (model P w) callerA (.call (.ref fa) ⟨[.ref a], []⟩) (fun r s' => r = .ok (.ret (.bool true)) ∧ OldK s.heap s'.heap ∧ s'.os = s.os ∧ AllBare s'.gens) s := by
  have rv := vals_ints hi
  have no : ∀ {b : Addr} {o : Obj}, s.heap.get? b = some o → K.lookup b = some o ∨ (∀ c, o.data ≠ .seq vs.toArray c) → scriptH K a O ns b = none := fun {b o} e q => by
    cases z : scriptH K a O ns b with
    | none => rfl
    | some u =>
      obtain ⟨rfl, n, _⟩ := scriptH_of z
      rcases q with q | q
      · rw [n] at q
        cases q
      · rw [ha] at e
        cases e
        subst eO
        exact absurd rfl (q _)
  have space : ∀ {b : Addr} {m : Str → Option Value}, s.heap.Ns b m → (hidT s.heap (scriptH K a O ns)).Ns b m := fun {b m} ⟨o, es, ep, e, d, r⟩ =>
    ⟨o, es, ep, hidT_get e (no e (.inr fun c z => by rw [d] at z; cases z)), d, r⟩
  have kin : K.In (hidT s.heap (scriptH K a O ns)) := fun b o e => hidT_get (KX b o e) (no (KX b o e) (.inl e))
  have nl : (hidT s.heap (scriptH K a O ns)).NoLimit := by
    obtain ⟨mc, q1, q2⟩ := h4
    exact ⟨mc, space q1, q2⟩
  have md : L2.Mod K mg (hidT s.heap (scriptH K a O ns)) := { kin := kin, glob := space h1, blt := ⟨mb, space h2, h3⟩, nolimit := nl }
  have hok : HOk P w (scriptH K a O ns) s.heap := fun b u z => by
    obtain ⟨rfl, _, rfl⟩ := scriptH_of z
    have ha2 := ha
    rw [eO] at ha2
    exact ⟨ha, by rw [List.length_map]; exact hl, vs, _, rv, ha2⟩
  have e0 : Env0 P w K mg (hidT s.heap (scriptH K a O ns)) callerA [] s (scriptH K a O ns) :=
    { frames := rfl, mod := md, bs := fun b o e => of_hidT e, bsz := Nat.le_of_eq (hidT_size _ _), funs := trivial, frf := (fun b hb => by cases hb), hok := hok, bare := .of_eq h5 }
  have seq : SqL K (scriptH K a O ns) a (ns.map V.int) := by
    cases q : K.lookup a with
    | none => exact .inl (.inr ⟨O, if_pos ⟨rfl, q⟩⟩)
    | some o =>
      have := KX a o q
      rw [ha] at this
      cases this
      subst eO
      refine .inr ⟨_, vs.toArray, _, q, rfl, rfl, rfl, ?_, by simpa using rv⟩
      rw [List.size_toArray, hi.length]
      exact hl
  refine codeAny_mono ((F _ kin (space h1)).goes callerA [] s _ ⟨[.ref a], []⟩ [.ref a] [.ref a] _ _ ⟨hr, rfl⟩ e0 (hbind s (.ref a)) (.cons rfl .nil) (hsp _ seq)) ?_
  intro r s' g
  match r, g with
  | .error e, g => exact False.elim g
  | .ok (.ret u), ⟨v, H', os, bare, un, hok', ru, ev⟩ =>
    have ev' : v = .bl true := ev
    subst ev'
    have eu : u = Value.bool true := ru
    subst eu
    refine ⟨rfl, OldK.of_keep fun b o e => ?_, os, bare⟩
    cases z : scriptH K a O ns b with
    | none => exact un.keep b o e z (fun y => by cases y) (by simp)
    | some u =>
      obtain ⟨rfl, _, rfl⟩ := scriptH_of z
      have y := (hok' _ _ (un.frzs _ _ _ z)).1
      rw [ha] at e
      cases e
      exact y
theorem walk_G {l : PySem.W.OpenLaw} {n k : Nat} {q : Program} {loose : List Str} {XP : (Str → Option Value) → Heap → Prop} {YP : World → Heap → Prop} {d : DefRec} {K : Params → PySem.W.Frag} {sp : World → Sp} {x : Str}
    (hn : l.most = some n) (hn2 : n ≤ sizeLine) (hdf : d.params.defaults = []) (hr : Room k callerA) (hY : ∀ (w : World) (h : Heap), YP w h → (K w.params).In h)
    (F : ∀ (w : World) (mg : Str → Option Value) (fa : Addr) (h : Heap), (K w.params).In h → h.Ns mainGlobals mg → mg d.name = some (.ref fa) →
      ∃ fd : FuncData, (∀ (s : Shared) (u : Value), BindsTo s fd ⟨[u], []⟩ [(x, u)]) ∧ ∀ base : Heap, (K w.params).In base → base.Ns mainGlobals mg → GOk l.prog w (K w.params) mg base CX0 k fa fd [x] (sp w))
    (hsp : ∀ (w : World) (H : Hp) (a : Addr) (ns : List Int), ns.length ≤ n → SqL (K w.params) H a (ns.map V.int) → sp w [.ref a] H (fun v _ => v = .bl true) fun _ _ _ => False) :
    PySem.W.WalkO q loose XP YP l.row.toRowW d [] (fun f vs => PySem.call f vs) := by
  refine Att.attach_call hn hdf ?_
  intro w s₀ s mg mb fa o pm cd doc a vs ns G Y ho hd hcd hmg hobj hints hlen hg
  obtain ⟨fd, hb, hF⟩ := F w mg fa _ (hY w _ Y) G.T.g hmg
  exact end_G rfl (hY w _ Y) G.T.g G.T.b G.T.builtins G.T.nolimit hg hobj hints (Nat.le_trans hlen hn2) hr hF hb fun H hS => hsp w H a ns hlen hS

/-! Figurebooks: values far out by what is wanted, from the last figure on. -/
def wsum (N : List Str) (w v : Str → Int) : Int := (N.map fun y => w y * v y).sum
def add1 (w : Str → Int) (y : Str) (c : Int) : Str → Int := fun z => if z = y then w z + c else w z
theorem wsum_congr {N : List Str} {w w' v : Str → Int} (h : ∀ y ∈ N, w y = w' y) : wsum N w v = wsum N w' v := by
  unfold wsum
  congr 1
  exact List.map_congr_left fun y hy => by rw [h y hy]
theorem wsum_add1 {w v : Str → Int} {y : Str} {c : Int} : ∀ {N : List Str}, N.Nodup → y ∈ N → wsum N (add1 w y c) v = wsum N w v + c * v y
  | x :: N, nd, hy => by
    have nd' := List.nodup_cons.mp nd
    show add1 w y c x * v x + wsum N (add1 w y c) v = w x * v x + wsum N w v + c * v y
    by_cases e : x = y
    · subst e
      have : wsum N (add1 w x c) v = wsum N w v := wsum_congr fun z hz => if_neg fun (q : z = x) => nd'.1 (by rw [← q]; exact hz)
      rw [this, show add1 w x c x = w x + c from if_pos rfl, Int.add_mul]
      omega
    · rw [show add1 w y c x = w x from if_neg e, wsum_add1 nd'.2 ((List.mem_cons.mp hy).resolve_left (Ne.symm e))]
      omega
def addT (u : Str → Int) (c : Int) (T : List Term) : Str → Int := T.foldl (fun u t => add1 u t.2 (c * t.1)) u
theorem addT_snoc {u : Str → Int} {c : Int} {T : List Term} {t : Term} : addT u c (T ++ [t]) = add1 (addT u c T) t.2 (c * t.1) := by
  unfold addT
  rw [List.foldl_append]
  rfl
theorem wsum_addT {N : List Str} {v : Str → Int} {c : Int} (nd : N.Nodup) : ∀ {T : List Term} {u : Str → Int}, (∀ t ∈ T, t.2 ∈ N) → wsum N (addT u c T) v = wsum N u v + c * sumG v T
  | [], u, _ => by
    show wsum N u v = wsum N u v + c * 0
    rw [Int.mul_zero, Int.add_zero]
  | t :: T, u, h => by
    show wsum N (addT (add1 u t.2 (c * t.1)) c T) v = wsum N u v + c * (t.1 * v t.2 + sumG v T)
    rw [wsum_addT nd (fun s hs => h s (List.mem_cons_of_mem _ hs)), wsum_add1 nd (h t List.mem_cons_self), Int.mul_add, Int.mul_assoc]
    omega
def formAt (l : Line) (k : Nat) : List Term := l.2.2.getD k []
def addL (u w : Str → Int) (L : List Line) (k : Nat) : Str → Int := L.foldl (fun u l => addT u (w l.1) (formAt l k)) u
theorem addL_snoc {u w : Str → Int} {L : List Line} {l : Line} {k : Nat} : addL u w (L ++ [l]) k = addT (addL u w L k) (w l.1) (formAt l k) := by
  unfold addL
  rw [List.foldl_append]
  rfl
theorem wsum_addL {N : List Str} {w v : Str → Int} {k : Nat} (nd : N.Nodup) : ∀ {L : List Line} {u : Str → Int}, (∀ l ∈ L, ∀ t ∈ formAt l k, t.2 ∈ N) → wsum N (addL u w L k) v = wsum N u v + (L.map fun l => w l.1 * sumG v (formAt l k)).sum
  | [], u, _ => by
    show wsum N u v = wsum N u v + 0
    rw [Int.add_zero]
  | l :: L, u, h => by
    show wsum N (addL (addT u (w l.1) (formAt l k)) w L k) v = _
    rw [wsum_addL nd (fun s hs => h s (List.mem_cons_of_mem _ hs)), wsum_addT nd (h l List.mem_cons_self), List.map_cons, List.sum_cons]
    omega
theorem wsum_zero {N : List Str} {v : Str → Int} : wsum N (fun _ => 0) v = 0 := by
  induction N with
  | nil => rfl
  | cons x N ih =>
    show 0 * v x + wsum N (fun _ => 0) v = 0
    rw [ih, Int.zero_mul, Int.zero_add]
theorem worth_map {φ : Line → Int} {l : Line} : ∀ {L : List Line}, (names L).Nodup → l ∈ L → worth (names L) (L.map φ) l.1 = φ l
  | x :: L, nd, hl => by
    have nd' := List.nodup_cons.mp (show (x.1 :: names L).Nodup from nd)
    rcases List.mem_cons.mp hl with rfl | hl
    · unfold worth
      rw [show (names (l :: L)).idxOf l.1 = 0 from List.idxOf_cons_self]
      rfl
    · have ne : x.1 ≠ l.1 := fun e => nd'.1 (by rw [e]; exact List.mem_map.mpr ⟨l, hl, rfl⟩)
      have ih := worth_map (φ := φ) nd'.2 hl
      unfold worth at ih ⊢
      have hb : (x.1 == l.1) = false := beq_eq_false_iff_ne.mpr ne
      rw [show (names (x :: L)).idxOf l.1 = (names L).idxOf l.1 + 1 from by
        show (x.1 :: names L).idxOf l.1 = _
        rw [List.idxOf_cons, hb]
        rfl]
      exact ih
def vf (b : Nat) (L : List Line) (n : Nat) : Str → Int := fun y => worth (names L) (vec b L n) y
theorem wsum_names {L : List Line} {w v : Str → Int} : wsum (names L) w v = (L.map fun l => w l.1 * v l.1).sum := by
  unfold wsum names
  rw [List.map_map]
  rfl
theorem far_step {b : Int} {L : List Line} (S : Sound b L) {m k : Nat} (hk : k < b.toNat) (w : Str → Int) : wsum (names L) (addL (fun _ => 0) w L k) (vf b.toNat L m) = wsum (names L) w (vf b.toNat L (b.toNat * m + k)) := by
  have hin : ∀ l ∈ L, ∀ t ∈ formAt l k, t.2 ∈ names L := fun l hl t ht => by
    unfold formAt at ht
    rw [List.getD_eq_getElem?_getD] at ht
    cases e : l.2.2[k]? with
    | none => rw [e] at ht; cases ht
    | some f =>
      rw [e] at ht
      exact S.known l hl f (List.mem_of_getElem? e) t ht
  rw [wsum_addL S.nd hin, wsum_zero, Int.zero_add, wsum_names]
  congr 1
  refine List.map_congr_left fun l hl => ?_
  congr 1
  unfold vf
  rw [vec_step S hk]
  exact (worth_map (φ := fun l => sumF (names L) (vec b.toNat L m) (l.2.2.getD k [])) S.nd hl).symm
theorem far_end {b : Int} {L : List Line} (S : Sound b L) (w : Str → Int) : wsum (names L) w (vf b.toNat L 0) = (L.map fun l => w l.1 * l.2.1).sum := by
  rw [wsum_names]
  congr 1
  refine List.map_congr_left fun l hl => ?_
  congr 1
  unfold vf
  rw [vec_zero]
  exact worth_map (φ := fun l => l.2.1) S.nd hl
theorem worth_self : ∀ {N : List Str} {cs : List Int}, N.Nodup → N.length = cs.length → N.map (worth N cs) = cs
  | [], [], _, _ => rfl
  | x :: N, c :: cs, nd, h => by
    have nd' := List.nodup_cons.mp nd
    have ih := worth_self (N := N) (cs := cs) nd'.2 (Nat.succ.inj h)
    rw [List.map_cons]
    congr 1
    · unfold worth
      rw [List.idxOf_cons_self]
      rfl
    · refine Eq.trans (List.map_congr_left (g := worth N cs) fun y hy => ?_) ih
      have ne : x ≠ y := fun e => nd'.1 (by rw [e]; exact hy)
      have hb : (x == y) = false := beq_eq_false_iff_ne.mpr ne
      unfold worth
      rw [List.idxOf_cons, hb]
      rfl
theorem far_begin {N : List Str} {cs vals : List Int} (nd : N.Nodup) (h1 : N.length = cs.length) (h2 : N.length = vals.length) : wsum N (worth N cs) (worth N vals) = dot cs vals := by
  unfold wsum dot
  congr 1
  have e1 := worth_self nd h1
  have e2 := worth_self nd h2
  have : N.map (fun y => worth N cs y * worth N vals y) = ((N.map (worth N cs)).zip (N.map (worth N vals))).map fun p => p.1 * p.2 := by
    rw [List.zip_map', List.map_map]
    rfl
  rw [this, e1, e2]
theorem add1_le {w : Str → Int} {y z : Str} {c : Int} {B C : Nat} (h : (w z).natAbs ≤ B) (hc : c.natAbs ≤ C) : (add1 w y c z).natAbs ≤ B + C := by
  unfold add1
  split <;> omega
theorem addT_le {c : Int} {W : Nat} (hc : c.natAbs ≤ W) {z : Str} : ∀ {T : List Term} {u : Str → Int} {B : Nat}, (∀ t ∈ T, t.1.natAbs ≤ 9) → (u z).natAbs ≤ B → (addT u c T z).natAbs ≤ B + 9 * W * T.length
  | [], u, B, _, h => h
  | t :: T, u, B, ht, h => by
    have h1 : (c * t.1).natAbs ≤ 9 * W := by
      rw [Int.natAbs_mul, Nat.mul_comm]
      exact Nat.mul_le_mul (ht t List.mem_cons_self) hc
    have := addT_le hc (z := z) (T := T) (B := B + 9 * W) (fun s hs => ht s (List.mem_cons_of_mem _ hs)) (add1_le (y := t.2) h h1)
    rw [List.length_cons, Nat.mul_add, Nat.mul_one]
    show (addT (add1 u t.2 (c * t.1)) c T z).natAbs ≤ _
    omega
theorem addL_le {w : Str → Int} {W k : Nat} (hw : ∀ y, (w y).natAbs ≤ W) {z : Str} : ∀ {L : List Line} {u : Str → Int} {B : Nat}, (∀ l ∈ L, ∀ f ∈ l.2.2, f.length ≤ 5) → (∀ l ∈ L, ∀ f ∈ l.2.2, ∀ t ∈ f, t.1.natAbs ≤ 9) → (u z).natAbs ≤ B → (addL u w L k z).natAbs ≤ B + 45 * W * L.length
  | [], u, B, _, _, h => h
  | l :: L, u, B, h5, h9, h => by
    have hf : (formAt l k).length ≤ 5 ∧ ∀ t ∈ formAt l k, t.1.natAbs ≤ 9 := by
      unfold formAt
      rw [List.getD_eq_getElem?_getD]
      cases e : l.2.2[k]? with
      | none => exact ⟨Nat.zero_le _, fun t ht => by cases ht⟩
      | some f => exact ⟨h5 l List.mem_cons_self f (List.mem_of_getElem? e), h9 l List.mem_cons_self f (List.mem_of_getElem? e)⟩
    have h1 := addT_le (hw l.1) (z := z) hf.2 h
    have h2 : 9 * W * (formAt l k).length ≤ 9 * W * 5 := Nat.mul_le_mul_left _ hf.1
    have := addL_le hw (k := k) (z := z) (L := L) (u := addT u (w l.1) (formAt l k)) (B := B + 45 * W) (fun s hs => h5 s (List.mem_cons_of_mem _ hs)) (fun s hs => h9 s (List.mem_cons_of_mem _ hs)) (by omega)
    rw [List.length_cons, Nat.mul_add, Nat.mul_one]
    show (addL (addT u (w l.1) (formAt l k)) w L k z).natAbs ≤ _
    omega

/-! Figurebooks: dicts from lists of pairs. -/
theorem putK_new {kvs : List (Key × V)} {k : Key} {v : V} (h : k ∉ kvs.map (·.1)) : putK kvs k v = kvs ++ [(k, v)] := by
  unfold putK
  have e : (kvs.any fun kv => decide (kv.1 = k)) = false := by
    rw [List.any_eq_false]
    intro kv hk z
    have := of_decide_eq_true z
    exact h (List.mem_map.mpr ⟨kv, hk, this⟩)
  rw [if_neg (by rw [e]; decide)]
theorem merge_new : ∀ {more acc : List (Key × V)}, ((acc ++ more).map (·.1)).Nodup → mergeK acc more = acc ++ more
  | [], acc, _ => (List.append_nil acc).symm
  | kv :: more, acc, h => by
    have hn : kv.1 ∉ acc.map (·.1) := fun hm => by
      rw [List.map_append, List.nodup_append] at h
      exact h.2.2 _ hm _ (List.mem_map.mpr ⟨kv, List.mem_cons_self, rfl⟩) rfl
    have h2 : (((acc ++ [kv]) ++ more).map (·.1)).Nodup := by
      rw [List.append_assoc]
      exact h
    have ih := merge_new h2
    unfold mergeK at ih ⊢
    rw [List.foldl_cons, putK_new hn, ih, List.append_assoc]
    rfl
theorem sk_merge {ks : List Str} {g : Str → Int} (nd : ks.Nodup) : mergeK [] (sk ks g) = sk ks g :=
  merge_new (by
    rw [List.nil_append, sk_keys]
    exact List.Pairwise.map _ (fun a b h z => h (Sum.inr.inj z)) nd)
theorem lz_pure {K : PySem.W.Frag} {a b : Addr} {xs ys : List V} {g : TG} {tt : TT} {te : TE} {vs : List Nat} {σ : L2.St} {H1 : Hp} {D : Addr} {Qd : Hp → Prop} (R : Nat → V → Hp → Prop) (hR : ∀ i y H H', R i y H → Same H H' → R i y H')
    (hl : xs.length = ys.length) (hS : SqL K H1 a xs) (hS2 : SqL K H1 b ys) (hD : H1 D = none) (hz : xs.length ≤ 1000)
    (gm : ∀ x H (P P' : L2.St → Hp → Prop), (∀ σ H, P σ H → P' σ H) → g x (wipe σ vs) H P → g x (wipe σ vs) H P') (tm : ∀ σ H (P P' : Bool → Hp → Prop), (∀ b H, P b H → P' b H) → tt σ H P → tt σ H P')
    (hs : ∀ i x y (T : Addr) H (Q : VK), xs[i]? = some x → ys[i]? = some y → Same H1 H → SqT K H T [x, y] → (∀ y H4, Same H H4 → R i y (nw H H4) → Q y H4) → LcTurn g tt te vs σ (.ref T) H Q)
    (hd : ∀ H ys, ys.length = xs.length → (∀ i y, ys[i]? = some y → R i y (nw H1 H)) → Same H1 H → H D = some (.lst ys) → Qd H) :
    ∃ W : Nat → Nat → Hp → Prop, (∃ m, W 0 m (upd H1 D (.lst []))) ∧ ∀ i m H, W i m H →
      ((Itz K a b).stop i H ∧ Qd H) ∨ ((Itz K a b).go i H ∧ ∃ Nx : Hp → Prop, (∀ H', Nx H' → ∃ m', m' < m ∧ W (i + 1) m' H') ∧ ∀ x H', (Itz K a b).yld i H x H' → g x (wipe σ vs) H' fun σ2 H2 => wipe σ2 vs = wipe σ vs ∧ tt σ2 H2 fun b H3 =>
        if b = true then te σ2 H3 fun y H4 => ∃ acc, H4 D = some (.lst acc) ∧ acc.length < sizeLine ∧ Nx (upd H4 D (.lst (acc ++ [y]))) else Nx H3) := by
  let Pv : Nat → Hp → Prop := fun i H => Same H1 H ∧ ∃ zs, H D = some (.lst zs) ∧ zs.length = i ∧ ∀ j y, zs[j]? = some y → R j y (nw H1 (hid D H))
  refine ⟨fun i m H => m = xs.length - i ∧ i ≤ xs.length ∧ Pv i H, ⟨xs.length, by simp, Nat.zero_le _, same_new hD, [], upd_same, rfl, fun j y e => by simp at e⟩, ?_⟩
  rintro i m H ⟨rfl, hi, s, zs, e, hlen, hy⟩
  have qx := s.seq hS
  have qy := s.seq hS2
  by_cases hlt : i < xs.length
  · have hx : xs[i]? = some xs[i] := List.getElem?_eq_getElem hlt
    have hlt2 : i < ys.length := by omega
    have hyy : ys[i]? = some ys[i] := List.getElem?_eq_getElem hlt2
    refine .inr ⟨⟨xs, ys, _, _, qx, qy, hx, hyy⟩, Pv (i + 1), fun H' p' => ⟨xs.length - (i + 1), by omega, rfl, hlt, p'⟩, fun v H' y => ?_⟩
    obtain ⟨T, x', y', rfl, hT, rfl, f1, f2⟩ := y
    have ex : x' = xs[i] := Option.some.inj ((f1 _ qx).symm.trans hx)
    have ey : y' = ys[i] := Option.some.inj ((f2 _ qy).symm.trans hyy)
    subst ex
    subst ey
    have sT : Same H (upd H T (.tup [xs[i], ys[i]])) := Fb.Same.new (Same.refl _) hT
    have eT : (upd H T (.tup [xs[i], ys[i]])) D = some (.lst zs) := upd_old hT e
    refine gm _ _ _ _ ?_ (hs i _ _ T _ (fun y H4 => ∃ acc, H4 D = some (.lst acc) ∧ acc.length < sizeLine ∧ Pv (i + 1) (upd H4 D (.lst (acc ++ [y])))) hx hyy (s.trans sT) (st_of upd_same) ?_)
    · rintro σ2 H2 ⟨w, h⟩
      refine ⟨w, tm _ _ _ _ ?_ h⟩
      intro b H3 h
      cases b with
      | true =>
        rw [if_pos rfl] at h ⊢
        exact h
      | false =>
        rw [if_neg Bool.false_ne_true] at h
        exact h.elim
    · intro y H4 s4 r4
      refine ⟨zs, s4 _ _ eT, Nat.lt_of_le_of_lt (show zs.length ≤ 1000 by omega) (by decide), Fb.Same.mut ((s.trans sT).trans s4) hD, zs ++ [y], upd_same, by simp [hlen], fun j z hz => ?_⟩
      rw [hid_upd]
      by_cases hj : j < zs.length
      · rw [List.getElem?_append_left hj] at hz
        exact hR _ _ _ _ (hy j z hz) (nw_mono (hid_same (sT.trans s4)))
      · have ej : j = i := by
          have := (List.getElem?_eq_some_iff.mp hz).1
          simp at this
          omega
        subst ej
        rw [List.getElem?_append_right (by omega)] at hz
        have e0 : j - zs.length = 0 := by omega
        rw [e0] at hz
        have ez : y = z := Option.some.inj hz
        subst ez
        exact hR _ _ _ _ r4 (nw_hid (s.trans sT) eT)
  · have e' : i = xs.length := by omega
    subst e'
    exact .inl ⟨⟨xs, ys, qx, qy, .inl (Nat.le_refl _)⟩, hd H zs hlen (fun i y h => hR _ _ _ _ (hy i y h) (nw_mono hid_le)) s e⟩
theorem r_lcZ {K : PySem.W.Frag} {ta : TA} {g : TG} {tt : TT} {te : TE} {vs : List Nat} {σ : L2.St} {H : Hp} {Q : VK} (q : ta σ H fun vs1 H1 => ∃ a b xs ys, vs1 = [.ref a, .ref b] ∧ SqL K H1 a xs ∧ SqL K H1 b ys ∧ ∀ D, H1 D = none → ∃ W : Nat → Nat → Hp → Prop, (∃ m, W 0 m (upd H1 D (.lst []))) ∧ ∀ i m H, W i m H →
    ((Itz K a b).stop i H ∧ Q (.ref D) H) ∨ ((Itz K a b).go i H ∧ ∃ Nx : Hp → Prop, (∀ H', Nx H' → ∃ m', m' < m ∧ W (i + 1) m' H') ∧ ∀ x H', (Itz K a b).yld i H x H' → g x (wipe σ vs) H' fun σ2 H2 => wipe σ2 vs = wipe σ vs ∧ tt σ2 H2 fun b H3 =>
      if b = true then te σ2 H3 fun y H4 => ∃ acc, H4 D = some (.lst acc) ∧ acc.length < sizeLine ∧ Nx (upd H4 D (.lst (acc ++ [y]))) else Nx H3)) : tLc (iZip K ta) g tt te vs σ H Q := q
theorem r_lcL {K : PySem.W.Frag} {tl : TE} {g : TG} {tt : TT} {te : TE} {vs : List Nat} {σ : L2.St} {H : Hp} {Q : VK} (q : tl σ H fun x H1 => ∃ a, x = .ref a ∧ (∃ xs, SqL K H1 a xs) ∧ ∀ D, H1 D = none → ∃ W : Nat → Nat → Hp → Prop, (∃ m, W 0 m (upd H1 D (.lst []))) ∧ ∀ i m H, W i m H →
    ((Itl K a).stop i H ∧ Q (.ref D) H) ∨ ((Itl K a).go i H ∧ ∃ Nx : Hp → Prop, (∀ H', Nx H' → ∃ m', m' < m ∧ W (i + 1) m' H') ∧ ∀ x H', (Itl K a).yld i H x H' → g x (wipe σ vs) H' fun σ2 H2 => wipe σ2 vs = wipe σ vs ∧ tt σ2 H2 fun b H3 =>
      if b = true then te σ2 H3 fun y H4 => ∃ acc, H4 D = some (.lst acc) ∧ acc.length < sizeLine ∧ Nx (upd H4 D (.lst (acc ++ [y]))) else Nx H3)) : tLc (iList K tl) g tt te vs σ H Q := q
theorem choose_pairs {K : PySem.W.Frag} {H : Hp} {α : Type} {P : α → V → Prop} {key : α → Str} : ∀ {ys : List V} {L : List α}, ys.length = L.length → (∀ (i : Nat) (y : V) (l : α), ys[i]? = some y → L[i]? = some l → ∃ (T : Addr) (v : V), y = .ref T ∧ SqT K H T [.str (key l), v] ∧ P l v) →
    ∃ (ps : List Addr) (kvs : List (Key × V)), ys = ps.map V.ref ∧ Paired (fun p kv => SqT K H p [kV kv.1, kv.2]) ps kvs ∧ kvs.map (·.1) = L.map (fun l => (Sum.inr (key l) : Key)) ∧ ∀ (i : Nat) (l : α), L[i]? = some l → ∃ v, kvs[i]? = some (Sum.inr (key l), v) ∧ P l v
  | [], [], _, _ => ⟨[], [], rfl, .nil, rfl, (fun i l h => by simp at h)⟩
  | y :: ys, l :: L, hl, h => by
    obtain ⟨T, v, rfl, hT, hP⟩ := h 0 y l rfl rfl
    obtain ⟨ps, kvs, e, hp, hk, hv⟩ := choose_pairs (ys := ys) (L := L) (Nat.succ.inj hl) fun i z m h1 h2 => h (i + 1) z m h1 h2
    refine ⟨T :: ps, (Sum.inr (key l), v) :: kvs, by rw [e]; rfl, .cons hT hp, by rw [List.map_cons, hk]; rfl, fun i m hm => ?_⟩
    cases i with
    | zero =>
      cases hm
      exact ⟨v, rfl, hP⟩
    | succ i => exact hv i m hm
theorem valV_at : ∀ {kvs : List (Key × V)} {i : Nat} {k : Key} {v : V}, (kvs.map (·.1)).Nodup → kvs[i]? = some (k, v) → valV kvs k = some v
  | kv :: kvs, 0, k, v, _, h => by
    cases h
    exact valV_pos rfl
  | kv :: kvs, i + 1, k, v, nd, h => by
    have nd' := List.nodup_cons.mp (show (kv.1 :: kvs.map (·.1)).Nodup from nd)
    have hm : kvs[i]? = some (k, v) := h
    rw [valV_neg (fun e => nd'.1 (by rw [e]; exact List.mem_map.mpr ⟨(k, v), List.mem_of_getElem? hm, rfl⟩))]
    exact valV_at nd'.2 hm
theorem inr_nodup {ks : List Str} (nd : ks.Nodup) : (ks.map (fun x => (Sum.inr x : Key))).Nodup := List.Pairwise.map _ (fun a b h z => h (Sum.inr.inj z)) nd
theorem kvs_sk {w : Str → Int} {kvs : List (Key × V)} {L : List Line} (hk : kvs.map (·.1) = L.map (fun l => (Sum.inr l.1 : Key))) (h : ∀ (i : Nat) (l : Line), L[i]? = some l → ∃ v, kvs[i]? = some ((Sum.inr l.1 : Key), v) ∧ v = .int (w l.1)) : kvs = sk (names L) w := by
  have hl : kvs.length = L.length := by
    have := congrArg List.length hk
    rw [List.length_map, List.length_map] at this
    exact this
  refine List.ext_getElem? fun i => ?_
  unfold sk names
  rw [List.map_map, List.getElem?_map]
  cases e : L[i]? with
  | none =>
    have : L.length ≤ i := List.getElem?_eq_none_iff.mp e
    rw [List.getElem?_eq_none (by omega)]
    rfl
  | some l =>
    obtain ⟨v, h1, rfl⟩ := h i l e
    rw [h1]
    rfl
theorem paired_same {K : PySem.W.Frag} {H H' : Hp} (s : Same H H') : ∀ {ps : List Addr} {kvs : List (Key × V)}, Paired (fun p kv => SqT K H p [kV kv.1, kv.2]) ps kvs → Paired (fun p kv => SqT K H' p [kV kv.1, kv.2]) ps kvs
  | [], [], .nil => .nil
  | _ :: _, _ :: _, .cons h r => .cons (sqt_same s h) (paired_same s r)
theorem line_nodup {L : List Line} (nd : (names L).Nodup) : (L.map (fun l => (Sum.inr l.1 : Key))).Nodup := by
  have h := inr_nodup nd
  unfold names at h
  rw [List.map_map] at h
  exact h
theorem r_forL {K : PySem.W.Frag} {tl : TE} {g : TG} {tb : TS} {D : Ends} {σ : L2.St} {H : Hp} (q : tl σ H fun x H1 => ∃ a, x = .ref a ∧ (∃ xs, SqL K H1 a xs) ∧ ∃ W : Nat → Nat → L2.St → Hp → Prop, (∃ m, W 0 m σ H1) ∧ ∀ k m σ H, W k m σ H →
    ((Itl K a).stop k H ∧ D.nx σ H) ∨ ((Itl K a).go k H ∧ ∃ N : L2.St → Hp → Prop, (∀ σ' H', N σ' H' → ∃ m', m' < m ∧ W (k + 1) m' σ' H') ∧ ∀ x H', (Itl K a).yld k H x H' → g x σ H' fun σ2 H2 => tb { D with nx := N, ct := N, bk := D.nx } σ2 H2)) : tFor (iList K tl) g tb D σ H := q
theorem r_forK {td : TE} {g : TG} {tb : TS} {D : Ends} {σ : L2.St} {H : Hp} (q : td σ H fun x H1 => ∃ d o kvs, x = .ref d ∧ H1 d = some (.frz o (.dK kvs)) ∧ ∃ W : Nat → Nat → L2.St → Hp → Prop, (∃ m, W 0 m σ H1) ∧ ∀ k m σ H, W k m σ H →
    ((Itk d o kvs).stop k H ∧ D.nx σ H) ∨ ((Itk d o kvs).go k H ∧ ∃ N : L2.St → Hp → Prop, (∀ σ' H', N σ' H' → ∃ m', m' < m ∧ W (k + 1) m' σ' H') ∧ ∀ x H', (Itk d o kvs).yld k H x H' → g x σ H' fun σ2 H2 => tb { D with nx := N, ct := N, bk := D.nx } σ2 H2))
    (hm : ∀ (P P' : V → Hp → Prop), (∀ v H, P v H → P' v H) → td σ H P → td σ H P') : tFor (iKeys td) g tb D σ H := by
  refine hm _ _ ?_ q
  rintro v H1 ⟨d, o, kvs, e, h, q⟩
  exact ⟨d, o, e, .inl ⟨kvs, h, q⟩⟩
theorem for_keys {d : Addr} {od : Obj} {kvs : List (Key × V)} {g : TG} {tb : TS} {D : Ends} {σ : L2.St} {H : Hp} (Pv : Nat → L2.St → Hp → Prop) (h0 : Pv 0 σ H) (hl : ∀ i σ H, i ≤ kvs.length → Pv i σ H → H d = some (.frz od (.dK kvs)))
    (hs : ∀ i k v σ H, kvs[i]? = some (k, v) → Pv i σ H → g (kV k) σ H fun σ2 H2 => tb { D with nx := Pv (i + 1), ct := Pv (i + 1), bk := D.nx } σ2 H2) (hd : ∀ σ H, Pv kvs.length σ H → D.nx σ H) :
    ∃ W : Nat → Nat → L2.St → Hp → Prop, (∃ m, W 0 m σ H) ∧ ∀ i m σ H, W i m σ H →
      ((Itk d od kvs).stop i H ∧ D.nx σ H) ∨ ((Itk d od kvs).go i H ∧ ∃ N : L2.St → Hp → Prop, (∀ σ' H', N σ' H' → ∃ m', m' < m ∧ W (i + 1) m' σ' H') ∧ ∀ x H', (Itk d od kvs).yld i H x H' → g x σ H' fun σ2 H2 => tb { D with nx := N, ct := N, bk := D.nx } σ2 H2) := by
  refine ⟨fun i m σ H => m = kvs.length - i ∧ i ≤ kvs.length ∧ Pv i σ H, ⟨kvs.length, by simp, Nat.zero_le _, h0⟩, ?_⟩
  rintro i m σ H ⟨rfl, hi, p⟩
  have q := hl i σ H hi p
  by_cases hlt : i < kvs.length
  · refine .inr ⟨⟨q, hlt⟩, Pv (i + 1), fun σ' H' p' => ⟨kvs.length - (i + 1), by omega, rfl, hlt, p'⟩, fun x H' y => ?_⟩
    obtain ⟨e, k, v, y, ex⟩ := y
    subst e ex
    exact hs i k v σ _ y p
  · have e : i = kvs.length := by omega
    subst e
    exact .inl ⟨⟨q, Nat.le_refl _⟩, hd σ H p⟩
theorem r_rev {K : PySem.W.Frag} {te : TE} {σ : L2.St} {H : Hp} {Q : VK} (q : te σ H fun x H1 => ∃ a xs, x = .ref a ∧ SqL K H1 a xs ∧ ∀ p, H1 p = none → Q (.ref p) (upd H1 p (.lst xs.reverse))) : tRevL K te σ H Q := q
theorem unlock_same {H H' : Hp} {d : Addr} {u z : HO} (e : H d = some u) (s : Same (upd H d z) H') : Same H (upd H' d u) := fun a o h => by
  by_cases q : a = d
  · subst q
    rw [e] at h
    cases h
    exact upd_same
  · exact upd_oth q (s _ _ (upd_oth q h))
theorem sk_upd {ks : List Str} {u : Str → Int} {y : Str} {c : Int} (h : y ∈ ks) : putK (sk ks u) (Sum.inr y : Key) (.int (u y + c)) = sk ks (add1 u y c) := by
  unfold putK
  have e : ((sk ks u).any fun kv => decide (kv.1 = (Sum.inr y : Key))) = true := by
    rw [List.any_eq_true]
    exact ⟨_, List.mem_map.mpr ⟨y, h, rfl⟩, decide_eq_true rfl⟩
  rw [if_pos e]
  unfold sk
  rw [List.map_map]
  refine List.map_congr_left fun z _ => ?_
  show (if (Sum.inr z : Key) = Sum.inr y then ((Sum.inr z : Key), V.int (u y + c)) else (Sum.inr z, V.int (u z))) = (Sum.inr z, V.int (add1 u y c z))
  unfold add1
  by_cases q : z = y
  · subst q
    rw [if_pos rfl, if_pos rfl]
  · rw [if_neg (fun w => q (Sum.inr.inj w)), if_neg q]
theorem worthN_le {N : List Str} {cs : List Int} {y : Str} {B : Nat} (h : ∀ c ∈ cs, c.natAbs ≤ B) : (worth N cs y).natAbs ≤ B := by
  unfold worth
  rw [List.getD_eq_getElem?_getD]
  cases e : cs[N.idxOf y]? with
  | none => exact Nat.zero_le _
  | some c => exact h c (List.mem_of_getElem? e)
theorem digs_at {b n m i : Nat} {x : V} (hb : 2 ≤ b) (hd : (digs b n).drop i = digs b m) (hx : ((digs b n).map dv)[i]? = some x) : 0 < m ∧ x = .int ((m % b : Nat) : Int) ∧ (digs b n).drop (i + 1) = digs b (m / b) := by
  rw [List.getElem?_map] at hx
  cases e : (digs b n)[i]? with
  | none => rw [e] at hx; cases hx
  | some d =>
    rw [e] at hx
    cases hx
    obtain ⟨hi, e2⟩ := List.getElem?_eq_some_iff.mp e
    have h1 := List.drop_eq_getElem_cons hi
    rw [hd, e2] at h1
    have hm : 0 < m := by
      rcases Nat.eq_zero_or_pos m with z | z
      · rw [z, digs_zero] at h1
        cases h1
      · exact z
    rw [digs_pos hm hb] at h1
    have h2 := List.cons.inj h1
    refine ⟨hm, ?_, h2.2.symm⟩
    rw [← h2.1]
    rfl

/-! Figurebooks: methods called with keywords alone. -/
def tMethK (C : Addr) (m : Str) (sp : Sp) (n : Nat) (gV : List V → List V → List V) (E : XK) (ta : TE) (tk : TA) : TE := fun σ H Q => ta σ H fun x H1 => ∃ a dx fs, x = .ref a ∧ H1 a = some (.ins C dx fs) ∧ fs.lookup m = none ∧
  tk σ H1 fun zs H2 => zs.length = n ∧ sp (gV [x] zs) H2 Q E
section
variable {X : Cx} {CX : CXT} {k : Nat} {f C : Addr} {fd : FuncData} {ps ks : List Str} {sp : Sp} {E : XK} {m : Str} {pos apos : Pos} {o : Expr} {kws : List Keyword} {ta : TE} {tk : TA} {g : List Value → List Value → List Value} {gV : List V → List V → List V} {pl : Sem Bool}
theorem pe_methK0 (he : PE X o ta) (c : Cls X.K C) (hm : Meth X.K C m f) (F : FnOk X.prog X.w X.K X.mg X.base CX k f fd ps sp) (hr : Room k X.A) (hb : KBn X.K fd ps 1 ks g gV) (hx : Passes CX X E) (hkw : PK X kws tk)
    (hall : (backToKw pos (keywordEach kws X.env)).all (·.1.isSome) = true := by rfl) (hks : (backToKw pos (keywordEach kws X.env)).filterMap (·.1) = ks := by rfl) (hpl : ((backTo pos (starEach [] X.env)).any (·.1) || (backToKw pos (keywordEach kws X.env)).any (·.1.isNone)) = false := by rfl)
    (ht : eval (.Call (.Attribute o m apos) [] kws pos) X.env = (do
      let ov ← eval o X.env
      standAt apos.atName
      let (f, first) ← holding [ov] (getMethod ov m pl)
      callWith pos f first (backTo pos (starEach [] X.env)) (backToKw pos (keywordEach kws X.env))) := by rfl) : PE X (.Call (.Attribute o m apos) [] kws pos) (tMethK C m sp ks.length gV E ta tk) := by
  constructor
  intro pins s σ H Q I h
  refine PySem.W.methodCall_KW (pl := pl) (thn (he.run pins s σ H _ I h) ?_) ht
  rintro u s1 ⟨x, H1, J, rx, a, dx, fs, rfl, ea, l, q⟩
  obtain rfl : u = Value.ref a := rx
  refine getmeth_ok J ea c hm l (PySem.W.callWith_KW0 (h₀ := X.base) (first := [.ref a]) J.ok.mod.kin hm.kp hall (thn (hkw.run pos pins s1 σ H1 _ J q) ?_) hpl)
  rintro ws s2 ⟨zs, H2, J2, rz, hz, q2⟩
  have r1 : Vals [V.ref a] [Value.ref a] := .cons rfl .nil
  have hw : ws.length = ks.length := by rw [← rz.length]; exact hz
  rw [hks]
  refine ⟨J2.kIn, wpAny_call (codeAny_mono (F.run X.A X.stack s2 H2 ⟨[.ref a], ks.zip ws⟩ (g [.ref a] ws) (gV [.ref a] zs) Q E hr J2.env0 (hb.to s2 [.ref a] ws J2.kIn rfl hw) (hb.rel r1 rz) q2) ?_)⟩
  intro r s3 y
  match r, y with
  | .error e, y => exact hx pins σ H2 s2 e s3 J2 y
  | .ok (.ret u), y => exact J2.after y
end
theorem kbn_self {K : PySem.W.Frag} {x qual : Str} {st : Stmt} {f : Addr} {fd : FuncData} {ps ks : List Str} (F : Fun K x qual st f fd)
    (h : ∀ (kV doc pm : Value) (an : Option Addr) (cdv ct : Value) (us ws : List Value), us.length = 1 → ws.length = ks.length → bindArgs (PySem.W.fnOf x qual (defArgs st) (defBody st) (defScope st) .none kV doc pm an cdv ct) ⟨us, ks.zip ws⟩ = pure (ps.zip (us ++ ws))) :
    KBn K fd ps 1 ks (fun us ws => us ++ ws) (fun vs zs => vs ++ zs) := by
  obtain ⟨oc, od, kV, doc, pm, an, cdv, ct, osl, rfl, lk, hcd⟩ := F.ex
  exact ⟨fun s us ws _ h1 h2 => .of_eq (h kV doc pm an cdv ct us ws h1 h2), fun r1 r2 => r1.append r2⟩

/-! Figurebooks: how great values of drawn books are. -/
theorem sumN_le {B : Nat} : ∀ {l : List Int}, (∀ z ∈ l, z.natAbs ≤ B) → l.sum.natAbs ≤ l.length * B
  | [], _ => Nat.zero_le _
  | z :: l, h => by
    have h1 := h z List.mem_cons_self
    have h2 := sumN_le fun y hy => h y (List.mem_cons_of_mem _ hy)
    rw [List.sum_cons, List.length_cons, Nat.add_mul, Nat.one_mul]
    omega
theorem mul_le {a b : Int} {A B : Nat} (ha : a.natAbs ≤ A) (hb : b.natAbs ≤ B) : (a * b).natAbs ≤ A * B := by
  rw [Int.natAbs_mul]
  exact Nat.mul_le_mul ha hb
theorem step_tame {L : List Line} {vals : List Int} {k B : Nat} (h5 : ∀ l ∈ L, ∀ f ∈ l.2.2, f.length ≤ 5) (h9 : ∀ l ∈ L, ∀ f ∈ l.2.2, ∀ t ∈ f, t.1.natAbs ≤ 9) (hv : ∀ z ∈ vals, z.natAbs ≤ B) : ∀ z ∈ stepV L vals k, z.natAbs ≤ 45 * B := fun z hz => by
  unfold stepV at hz
  obtain ⟨l, hl, rfl⟩ := List.mem_map.mp hz
  have hf : (l.2.2.getD k []).length ≤ 5 ∧ ∀ t ∈ l.2.2.getD k [], t.1.natAbs ≤ 9 := by
    rw [List.getD_eq_getElem?_getD]
    cases e : l.2.2[k]? with
    | none => exact ⟨Nat.zero_le _, fun t ht => by cases ht⟩
    | some f => exact ⟨h5 l hl f (List.mem_of_getElem? e), h9 l hl f (List.mem_of_getElem? e)⟩
  unfold sumF
  have h1 := sumN_le (l := (l.2.2.getD k []).map fun t => t.1 * worth (names L) vals t.2) (B := 9 * B) fun z hz => by
    obtain ⟨t, ht, rfl⟩ := List.mem_map.mp hz
    exact mul_le (hf.2 t ht) (worthN_le hv)
  rw [List.length_map] at h1
  have h2 : (l.2.2.getD k []).length * (9 * B) ≤ 5 * (9 * B) := Nat.mul_le_mul_right _ hf.1
  omega
theorem vec_tame {b : Nat} {L : List Line} (hb : 2 ≤ b) (h5 : ∀ l ∈ L, ∀ f ∈ l.2.2, f.length ≤ 5) (h9 : ∀ l ∈ L, ∀ f ∈ l.2.2, ∀ t ∈ f, t.1.natAbs ≤ 9) (hs : ∀ l ∈ L, l.2.1.natAbs < 2 ^ 20) : ∀ (j n : Nat), n < 2 ^ j → ∀ z ∈ vec b L n, z.natAbs ≤ 2 ^ 20 * 45 ^ j
  | 0, n, hn, z, hz => by
    have e : n = 0 := by omega
    subst e
    rw [vec_zero] at hz
    unfold starts at hz
    obtain ⟨l, hl, rfl⟩ := List.mem_map.mp hz
    have := hs l hl
    omega
  | j + 1, n, hn, z, hz => by
    rcases Nat.eq_zero_or_pos n with e | e
    · subst e
      rw [vec_zero] at hz
      unfold starts at hz
      obtain ⟨l, hl, rfl⟩ := List.mem_map.mp hz
      have h1 := hs l hl
      have h2 : 1 ≤ 45 ^ (j + 1) := Nat.pow_pos (by decide)
      have h3 : 2 ^ 20 * 1 ≤ 2 ^ 20 * 45 ^ (j + 1) := Nat.mul_le_mul_left _ h2
      omega
    · rw [vec_pos e hb] at hz
      have hd : n / b < 2 ^ j := by
        have h1 : n / b ≤ n / 2 := Nat.div_le_div_left hb (by decide)
        rw [Nat.pow_succ] at hn
        omega
      have h1 := step_tame h5 h9 (vec_tame hb h5 h9 hs j (n / b) hd) z hz
      rw [Nat.pow_succ]
      have h2 : 2 ^ 20 * (45 ^ j * 45) = 45 * (2 ^ 20 * 45 ^ j) := by
        rw [Nat.mul_comm (45 ^ j) 45, ← Nat.mul_assoc, ← Nat.mul_assoc, Nat.mul_comm (2 ^ 20) 45]
      omega
theorem dotN_le {cs vals : List Int} {A B : Nat} (h1 : ∀ c ∈ cs, c.natAbs ≤ A) (h2 : ∀ v ∈ vals, v.natAbs ≤ B) : (dot cs vals).natAbs ≤ cs.length * (A * B) := by
  unfold dot
  have h := sumN_le (l := (cs.zip vals).map fun p => p.1 * p.2) (B := A * B) fun z hz => by
    obtain ⟨p, hp, rfl⟩ := List.mem_map.mp hz
    have := List.of_mem_zip hp
    exact mul_le (h1 _ this.1) (h2 _ this.2)
  rw [List.length_map, List.length_zip] at h
  exact Nat.le_trans h (Nat.mul_le_mul_right _ (Nat.min_le_left _ _))
/-- a value that a law asks for is short enough to be told -/
theorem dot_log {b : Nat} {L : List Line} {cs : List Int} {n : Nat} (hb : 2 ≤ b) (h5 : ∀ l ∈ L, ∀ f ∈ l.2.2, f.length ≤ 5) (h9 : ∀ l ∈ L, ∀ f ∈ l.2.2, ∀ t ∈ f, t.1.natAbs ≤ 9) (hs : ∀ l ∈ L, l.2.1.natAbs < 2 ^ 20)
    (hc : ∀ c ∈ cs, c.natAbs ≤ 99) (hl : cs.length ≤ 100) (hn : n < 2 ^ 110) : (dot cs (vec b L n)).natAbs.log2 < 1920 := by
  have h := dotN_le hc (vec_tame hb h5 h9 hs 110 n hn)
  have h2 : cs.length * (99 * (2 ^ 20 * 45 ^ 110)) ≤ 100 * (99 * (2 ^ 20 * 45 ^ 110)) := Nat.mul_le_mul_right _ hl
  have h3 : 100 * (99 * (2 ^ 20 * 45 ^ 110)) < 2 ^ 700 := by decide +kernel
  exact Nat.lt_trans (PySem.Flt.log2_lt_of (by decide) (Nat.lt_of_le_of_lt (Nat.le_trans h h2) h3)) (by decide)

/-! Figurebooks: lists of ints that can be told. -/
theorem shown_ints {ns : List Int} (h : ∀ i ∈ ns, i.natAbs.log2 < 1920) (hl : ns.length ≤ 4) :
    (PyData.list (ns.map PyData.int)).showable = true ∧ (PyData.list (ns.map PyData.int)).hasDict = false ∧ (PyData.list (ns.map PyData.int)).depth ≤ 64 ∧ (PyData.list (ns.map PyData.int)).shown.length ≤ sizeLine := by
  have h1 : ∀ ns : List Int, (∀ i ∈ ns, i.natAbs.log2 < 1920) → PyData.showableAll (ns.map PyData.int) = true := fun ns => by
    induction ns with
    | nil => intro _; simp [PyData.showableAll]
    | cons x xs ih =>
      intro h
      simp [PyData.showableAll, PyData.showable, ih (fun y hy => h y (List.mem_cons_of_mem _ hy)), h x List.mem_cons_self]
  have h2 : ∀ ns : List Int, PyData.hasDictAll (ns.map PyData.int) = false := fun ns => by
    induction ns with
    | nil => simp [PyData.hasDictAll]
    | cons x xs ih => simp [PyData.hasDictAll, PyData.hasDict, ih]
  have h3 : ∀ ns : List Int, PyData.depthAll (ns.map PyData.int) = 0 := fun ns => by
    induction ns with
    | nil => simp [PyData.depthAll]
    | cons x xs ih => simp [PyData.depthAll, PyData.depth, ih]
  have h4 : ∀ ns : List Int, (∀ i ∈ ns, i.natAbs.log2 < 1920) → PyData.leavesShortAll 1921 (ns.map PyData.int) = true := fun ns => by
    induction ns with
    | nil => intro _; simp [PyData.leavesShortAll]
    | cons x xs ih =>
      intro h
      have e : PyData.leavesShort 1921 (.int x) = true := by
        unfold PyData.leavesShort PyData.shown
        exact decide_eq_true (int_text_len_1921 (h x List.mem_cons_self))
      simp [PyData.leavesShortAll, e, ih (fun y hy => h y (List.mem_cons_of_mem _ hy))]
  have h5 : ∀ ns : List Int, (∀ i ∈ ns, i.natAbs.log2 < 1920) → PyData.weightAll (ns.map PyData.int) ≤ 1921 * ns.length := fun ns => by
    induction ns with
    | nil => intro _; simp [PyData.weightAll]
    | cons x xs ih =>
      intro h
      have h6 := ih fun y hy => h y (List.mem_cons_of_mem _ hy)
      have h7 := h x List.mem_cons_self
      simp only [List.map_cons, PyData.weightAll, PyData.weight, List.length_cons]
      split <;> omega
  refine ⟨by simp [PyData.showable, h1 ns h], by simp [PyData.hasDict, h2], by simp [PyData.depth, h3], ?_⟩
  have h6 := PyData.shown_le 1921 (by decide) (.list (ns.map PyData.int)) (by simp [PyData.leavesShort, h4 ns h])
  have h7 : (PyData.list (ns.map PyData.int)).weight ≤ 7684 := by
    have := h5 ns h
    simp only [PyData.weight]
    omega
  have h8 : (1921 + 2) * (PyData.list (ns.map PyData.int)).weight ≤ (1921 + 2) * 7684 := Nat.mul_le_mul_left _ h7
  rw [sizeLine_eq]
  omega
theorem r_methK {C : Addr} {m : Str} {sp : Sp} {n : Nat} {gV : List V → List V → List V} {E : XK} {ta : TE} {tk : TA} {σ : L2.St} {H : Hp} {Q : VK} (q : ta σ H fun x H1 => ∃ a dx fs, x = .ref a ∧ H1 a = some (.ins C dx fs) ∧ fs.lookup m = none ∧ tk σ H1 fun zs H2 => zs.length = n ∧ sp (gV [x] zs) H2 Q E) : tMethK C m sp n gV E ta tk σ H Q := q
theorem nw_hidp {p : Addr} {H1 H2 : Hp} {xs : List V} (e : H1 p = some (.lst xs)) : Same (nw H1 H2) (hid p H2) := fun a u z => by
  refine hid_at (nw_le a u z) fun y => ?_
  subst y
  unfold nw at z
  rw [e] at z
  exact absurd ((if_neg (by intro w; cases w)).symm.trans z) (fun w => by cases w)
theorem dot_unit : ∀ {vals : List Int} {i n : Nat}, vals.length = n → i < n → dot (unitV n i) vals = vals.getD i 0
  | [], i, n, h, hi => by
    rw [← h] at hi
    cases hi
  | v :: vals, 0, n, h, _ => by
    subst h
    have hz : ∀ {vals : List Int}, dot (List.replicate vals.length 0) vals = 0 := fun {vals} => by
      induction vals with
      | nil => rfl
      | cons x xs ih =>
        show 0 * x + dot (List.replicate xs.length 0) xs = 0
        rw [ih, Int.zero_mul, Int.zero_add]
    show 1 * v + dot (List.replicate vals.length 0) vals = v
    rw [hz]
    omega
  | v :: vals, i + 1, n, h, hi => by
    subst h
    show 0 * v + dot (unitV vals.length i) vals = vals.getD i 0
    rw [dot_unit (vals := vals) rfl (Nat.lt_of_succ_lt_succ hi), Int.zero_mul, Int.zero_add]
theorem unit_worth {L : List Line} {vals : List Int} {y : Str} (h : vals.length = L.length) (hy : y ∈ names L) : dot (unitV L.length ((names L).idxOf y)) vals = worth (names L) vals y :=
  dot_unit h (by
    have := List.idxOf_lt_length_of_mem hy
    unfold names at this ⊢
    rw [List.length_map] at this
    exact this)
theorem unit_bound {n j : Nat} : ∀ c ∈ unitV n j, c.natAbs < 2 ^ 100 := fun c hc => by
  unfold unitV at hc
  rcases List.mem_or_eq_of_mem_set hc with h | h
  · have := List.eq_of_mem_replicate h
    subst this
    decide
  · subst h
    decide
theorem worthP_lt {N : List Str} {cs : List Int} {y : Str} {B : Nat} (h : ∀ c ∈ cs, c.natAbs < 2 ^ B) : (worth N cs y).natAbs < 2 ^ B := by
  unfold worth
  rw [List.getD_eq_getElem?_getD]
  cases e : cs[N.idxOf y]? with
  | none => exact Nat.two_pow_pos B
  | some c => exact h c (List.mem_of_getElem? e)

/-! Figurebooks: dicts of lists, enumerate, values near. -/
/-- a dict of lists, one for each line -/
structure Cols (H : Hp) (kvs : List (Key × V)) (L : List Line) (f : Nat → List Int) : Prop where
  keys : kvs.map (·.1) = L.map (fun l => (Sum.inr l.1 : Key))
  at_ : ∀ (i : Nat) (l : Line), L[i]? = some l → ∃ r, kvs[i]? = some ((Sum.inr l.1 : Key), V.ref r) ∧ H r = some (.lst ((f i).map V.int))
theorem Cols.same {H H' : Hp} {kvs : List (Key × V)} {L : List Line} {f : Nat → List Int} (s : Same H H') (h : Cols H kvs L f) : Cols H' kvs L f :=
  ⟨h.keys, fun i l e => by
    obtain ⟨r, h1, h2⟩ := h.at_ i l e
    exact ⟨r, h1, s _ _ h2⟩⟩
theorem Cols.cast {H : Hp} {kvs : List (Key × V)} {L : List Line} {f g : Nat → List Int} (e : ∀ i, i < L.length → f i = g i) (h : Cols H kvs L f) : Cols H kvs L g :=
  ⟨h.keys, fun i l q => by
    obtain ⟨r, h1, h2⟩ := h.at_ i l q
    rw [e i (List.getElem?_eq_some_iff.mp q).1] at h2
    exact ⟨r, h1, h2⟩⟩
theorem names_at {L : List Line} {i : Nat} {l : Line} (h : L[i]? = some l) : (names L)[i]? = some l.1 := by
  unfold names
  rw [List.getElem?_map, h]
  rfl
theorem Cols.nd {H : Hp} {kvs : List (Key × V)} {L : List Line} {f : Nat → List Int} (h : Cols H kvs L f) (nd : (names L).Nodup) : (kvs.map (·.1)).Nodup := by
  rw [h.keys]
  exact line_nodup nd
/-- what stands under a name -/
theorem Cols.get {H : Hp} {kvs : List (Key × V)} {L : List Line} {f : Nat → List Int} (h : Cols H kvs L f) (nd : (names L).Nodup) {i : Nat} {l : Line} (e : L[i]? = some l) : ∃ r, valV kvs (Sum.inr l.1) = some (.ref r) ∧ H r = some (.lst ((f i).map V.int)) := by
  obtain ⟨r, h1, h2⟩ := h.at_ i l e
  exact ⟨r, valV_at (h.nd nd) h1, h2⟩
theorem Cols.put {H : Hp} {kvs : List (Key × V)} {L : List Line} {f : Nat → List Int} (h : Cols H kvs L f) (nd : (names L).Nodup) {i : Nat} {l : Line} {r : Addr} {xs : List Int} (e : L[i]? = some l) (hr : H r = some (.lst (xs.map V.int))) :
    Cols H (putK kvs (Sum.inr l.1) (.ref r)) L (fun j => if j = i then xs else f j) := by
  obtain ⟨r0, h1, h2⟩ := h.at_ i l e
  have ha : (kvs.any fun kv => decide (kv.1 = (Sum.inr l.1 : Key))) = true := List.any_eq_true.mpr ⟨_, List.mem_of_getElem? h1, decide_eq_true rfl⟩
  unfold putK
  rw [if_pos ha]
  refine ⟨?_, fun j m hm => ?_⟩
  · rw [← h.keys, List.map_map]
    refine List.map_congr_left fun kv _ => ?_
    show (if kv.1 = (Sum.inr l.1 : Key) then (kv.1, V.ref r) else kv).1 = kv.1
    split <;> rfl
  · obtain ⟨r1, h3, h4⟩ := h.at_ j m hm
    rw [List.getElem?_map, h3]
    by_cases hj : j = i
    · subst hj
      rw [e] at hm
      cases hm
      refine ⟨r, ?_, ?_⟩
      · show some (if (Sum.inr l.1 : Key) = Sum.inr l.1 then ((Sum.inr l.1 : Key), V.ref r) else _) = _
        rw [if_pos rfl]
      · rw [if_pos rfl]
        exact hr
    · refine ⟨r1, ?_, ?_⟩
      · have hn : ¬ ((Sum.inr m.1 : Key) = Sum.inr l.1) := fun z => hj (nd_ix nd (names_at hm) (by rw [names_at e, Sum.inr.inj z]))
        show some (if (Sum.inr m.1 : Key) = Sum.inr l.1 then ((Sum.inr m.1 : Key), V.ref r) else ((Sum.inr m.1 : Key), V.ref r1)) = _
        rw [if_neg hn]
      · rw [if_neg hj]
        exact h4
/-- the values of the i-th row at the first places -/
def colV (b : Nat) (L : List Line) (i m : Nat) : List Int := (List.range m).map fun n => (vec b L n).getD i 0
theorem colV_succ {b i m : Nat} {L : List Line} : colV b L i (m + 1) = colV b L i m ++ [(vec b L m).getD i 0] := by
  unfold colV
  rw [List.range_succ, List.map_append]
  rfl
theorem colV_at {b i m n : Nat} {L : List Line} (h : n < m) : ((colV b L i m).map V.int)[n]? = some (.int ((vec b L n).getD i 0)) := by
  unfold colV
  rw [List.map_map, List.getElem?_map, List.getElem?_range h]
  rfl
theorem vec_at {b : Int} {L : List Line} (S : Sound b L) {m k i : Nat} {l : Line} (hk : k < b.toNat) (hl : L[i]? = some l) : (vec b.toNat L (b.toNat * m + k)).getD i 0 = sumF (names L) (vec b.toNat L m) (l.2.2.getD k []) := by
  rw [vec_step S hk]
  unfold stepV
  rw [List.getD_eq_getElem?_getD, List.getElem?_map, hl]
  rfl
/-- a loop over enumerate of a list -/
theorem for_enumL {K : PySem.W.Frag} {a : Addr} {xs : List V} {g : TG} {tb : TS} {D : Ends} {σ : L2.St} {H : Hp} (Pv : Nat → L2.St → Hp → Prop) (h0 : Pv 0 σ H) (hq : ∀ i σ H, Pv i σ H → SqL K H a xs)
    (hs : ∀ (i : Nat) (x : V) (T : Addr) (σ : L2.St) (H : Hp), xs[i]? = some x → Pv i σ H → H T = none → g (.ref T) σ (upd H T (.tup [.int (i : Nat), x])) fun σ2 H2 => tb { D with nx := Pv (i + 1), ct := Pv (i + 1), bk := D.nx } σ2 H2) (hd : ∀ σ H, Pv xs.length σ H → D.nx σ H) :
    ∃ W : Nat → Nat → L2.St → Hp → Prop, (∃ m, W 0 m σ H) ∧ ∀ i m σ H, W i m σ H →
      ((Ite K a).stop i H ∧ D.nx σ H) ∨ ((Ite K a).go i H ∧ ∃ N : L2.St → Hp → Prop, (∀ σ' H', N σ' H' → ∃ m', m' < m ∧ W (i + 1) m' σ' H') ∧ ∀ v H', (Ite K a).yld i H v H' → g v σ H' fun σ2 H2 => tb { D with nx := N, ct := N, bk := D.nx } σ2 H2) := by
  refine ⟨fun i m σ H => m + i = xs.length ∧ Pv i σ H, ⟨xs.length, Nat.add_zero _, h0⟩, ?_⟩
  rintro i m σ H ⟨hm, p⟩
  have qx := hq i σ H p
  by_cases hlt : i < xs.length
  · refine .inr ⟨⟨xs, xs[i], qx, List.getElem?_eq_getElem hlt⟩, Pv (i + 1), fun σ' H' p' => ⟨m - 1, by omega, by omega, p'⟩, ?_⟩
    rintro v H' ⟨T, x, rfl, hT, rfl, fx⟩
    exact hs i x T σ H (fx xs qx) p hT
  · have e : i = xs.length := by omega
    subst e
    exact .inl ⟨⟨xs, qx, Nat.le_refl _⟩, hd σ H p⟩
theorem r_forE {K : PySem.W.Frag} {ta : TA} {g : TG} {tb : TS} {D : Ends} {σ : L2.St} {H : Hp} (q : ta σ H fun vs H1 => ∃ a xs, vs = [.ref a] ∧ SqL K H1 a xs ∧ ∃ W : Nat → Nat → L2.St → Hp → Prop, (∃ m, W 0 m σ H1) ∧ ∀ k m σ H, W k m σ H →
    ((Ite K a).stop k H ∧ D.nx σ H) ∨ ((Ite K a).go k H ∧ ∃ N : L2.St → Hp → Prop, (∀ σ' H', N σ' H' → ∃ m', m' < m ∧ W (k + 1) m' σ' H') ∧ ∀ x H', (Ite K a).yld k H x H' → g x σ H' fun σ2 H2 => tb { D with nx := N, ct := N, bk := D.nx } σ2 H2)) : tFor (iEnum K ta) g tb D σ H := q
/-- a book of a law's size -/
structure Tame (b : Int) (L : List Line) : Prop where
  sound : Sound b L
  some : 0 < L.length
  most : L.length ≤ 6
  small : ∀ l ∈ L, ∀ f ∈ l.2.2, f.length ≤ 5
  coefs : ∀ l ∈ L, ∀ f ∈ l.2.2, ∀ t ∈ f, t.1.natAbs ≤ 9
theorem knowns_tame : ∀ p ∈ knowns, Tame 2 p.1 := fun p hp => by
  have h : knowns.all (fun p => decide (0 < p.1.length) && decide (p.1.length ≤ 6) && (p.1.all fun l => l.2.2.all fun f => decide (f.length ≤ 5) && f.all fun t => decide (t.1.natAbs ≤ 9))) = true := by decide +kernel
  have := List.all_eq_true.mp h p hp
  simp only [Bool.and_eq_true, List.all_eq_true, decide_eq_true_eq] at this
  exact ⟨knowns_sound p hp, this.1.1, this.1.2, fun l hl f hf => (this.2 l hl f hf).1, fun l hl f hf t ht => (this.2 l hl f hf).2 t ht⟩
theorem drawn_tame {b : Int} {m : Nat} {L : List Line} (d : Drawn b m L) (hm : m ≤ 6) : Tame b L := ⟨d.sound, d.some, Nat.le_trans d.most hm, d.small, d.coefs⟩
/-! ### lists of many ints that can be told -/
theorem si_show {ns : List Int} (h : ∀ i ∈ ns, i.natAbs.log2 < 100) : PyData.showableAll (ns.map PyData.int) = true := by
  induction ns with
  | nil => simp [PyData.showableAll]
  | cons x xs ih =>
    have hx : x.natAbs.log2 < 1920 := Nat.lt_trans (h x List.mem_cons_self) (by decide)
    simp [PyData.showableAll, PyData.showable, ih (fun y hy => h y (List.mem_cons_of_mem _ hy)), hx]
theorem si_dict {ns : List Int} : PyData.hasDictAll (ns.map PyData.int) = false := by
  induction ns with
  | nil => simp [PyData.hasDictAll]
  | cons x xs ih => simp [PyData.hasDictAll, PyData.hasDict, ih]
theorem si_depth {ns : List Int} : PyData.depthAll (ns.map PyData.int) = 0 := by
  induction ns with
  | nil => simp [PyData.depthAll]
  | cons x xs ih => simp [PyData.depthAll, PyData.depth, ih]
theorem si_leaf {ns : List Int} (h : ∀ i ∈ ns, i.natAbs.log2 < 100) : PyData.leavesShortAll 101 (ns.map PyData.int) = true := by
  induction ns with
  | nil => simp [PyData.leavesShortAll]
  | cons x xs ih =>
    have e : PyData.leavesShort 101 (.int x) = true := by
      unfold PyData.leavesShort PyData.shown
      refine decide_eq_true ?_
      rw [PySem.ofString_length]
      exact PySem.int_text_length_le (k := 100) (by decide) (h x List.mem_cons_self)
    simp [PyData.leavesShortAll, e, ih (fun y hy => h y (List.mem_cons_of_mem _ hy))]
theorem si_weight {ns : List Int} (h : ∀ i ∈ ns, i.natAbs.log2 < 100) : PyData.weightAll (ns.map PyData.int) ≤ 101 * ns.length := by
  induction ns with
  | nil => simp [PyData.weightAll]
  | cons x xs ih =>
    have h6 := ih fun y hy => h y (List.mem_cons_of_mem _ hy)
    have h7 := h x List.mem_cons_self
    simp only [List.map_cons, PyData.weightAll, PyData.weight, List.length_cons]
    split <;> omega
/-- such data can be told -/
structure Told (d : PyData) : Prop where
  show' : d.showable = true
  dict : d.hasDict = false
  deep : d.depth ≤ 64
  short : d.shown.length ≤ sizeLine
theorem told_ints {ns : List Int} (h : ∀ i ∈ ns, i.natAbs.log2 < 100) (hl : ns.length ≤ 900) : Told (.list (ns.map PyData.int)) := by
  refine ⟨by simp [PyData.showable, si_show h], by simp [PyData.hasDict, si_dict], by simp [PyData.depth, si_depth], ?_⟩
  have h6 := PyData.shown_le 101 (by decide) (.list (ns.map PyData.int)) (by simp [PyData.leavesShort, si_leaf h])
  have h7 : (PyData.list (ns.map PyData.int)).weight ≤ 90900 := by
    have := si_weight h
    simp only [PyData.weight]
    omega
  have h8 : (101 + 2) * (PyData.list (ns.map PyData.int)).weight ≤ (101 + 2) * 90900 := Nat.mul_le_mul_left _ h7
  rw [sizeLine_eq]
  omega
theorem told_pair {ns ms : List Int} (h : ∀ i ∈ ns, i.natAbs.log2 < 100) (hl : ns.length ≤ 400) (h' : ∀ i ∈ ms, i.natAbs.log2 < 100) (hl' : ms.length ≤ 400) : Told (.list [.list (ns.map PyData.int), .list (ms.map PyData.int)]) := by
  refine ⟨by simp [PyData.showable, PyData.showableAll, si_show h, si_show h'], by simp [PyData.hasDict, PyData.hasDictAll, si_dict], by simp [PyData.depth, PyData.depthAll, si_depth], ?_⟩
  have h6 := PyData.shown_le 101 (by decide) (.list [.list (ns.map PyData.int), .list (ms.map PyData.int)]) (by simp [PyData.leavesShort, PyData.leavesShortAll, si_leaf h, si_leaf h'])
  have h7 : (PyData.list [.list (ns.map PyData.int), .list (ms.map PyData.int)]).weight ≤ 80900 := by
    have := si_weight h
    have := si_weight h'
    simp only [PyData.weight, PyData.weightAll]
    omega
  have h8 : (101 + 2) * (PyData.list [.list (ns.map PyData.int), .list (ms.map PyData.int)]).weight ≤ (101 + 2) * 80900 := Nat.mul_le_mul_left _ h7
  rw [sizeLine_eq]
  omega
theorem shaped_ints {ns : List Int} : SeqAt.shaped (.list (ns.map PyData.int)) = true := by
  have h1 : ∀ ns : List Int, PyData.canLayAll0 (ns.map PyData.int) = true := fun ns => by
    induction ns with
    | nil => simp [PyData.canLayAll0]
    | cons x xs ih => simp [PyData.canLayAll0, PyData.canLay0, ih]
  unfold SeqAt.shaped
  simp [PyData.canLay0, PyData.depth, h1 ns, si_depth]
theorem eqv_ints {ns : List Int} : PyData.eqv (.list (ns.map PyData.int)) (.list (ns.map PyData.int)) = true := SeqAt.eqv_refl _ (by
  have h1 : ∀ ns : List Int, PyData.canLayAll0 (ns.map PyData.int) = true := fun ns => by
    induction ns with
    | nil => simp [PyData.canLayAll0]
    | cons x xs ih => simp [PyData.canLayAll0, PyData.canLay0, ih]
  simp [PyData.canLay0, h1 ns])
/-- a value near is short -/
theorem dot_log7 {b : Nat} {L : List Line} {cs : List Int} {n : Nat} (hb : 2 ≤ b) (h5 : ∀ l ∈ L, ∀ f ∈ l.2.2, f.length ≤ 5) (h9 : ∀ l ∈ L, ∀ f ∈ l.2.2, ∀ t ∈ f, t.1.natAbs ≤ 9) (hs : ∀ l ∈ L, l.2.1.natAbs < 2 ^ 20)
    (hc : ∀ c ∈ cs, c.natAbs ≤ 99) (hl : cs.length ≤ 100) (hn : n < 2 ^ 7) : (dot cs (vec b L n)).natAbs.log2 < 100 := by
  have h := dotN_le hc (vec_tame hb h5 h9 hs 7 n hn)
  have h2 : cs.length * (99 * (2 ^ 20 * 45 ^ 7)) ≤ 100 * (99 * (2 ^ 20 * 45 ^ 7)) := Nat.mul_le_mul_right _ hl
  have h3 : 100 * (99 * (2 ^ 20 * 45 ^ 7)) < 2 ^ 99 := by decide +kernel
  exact Nat.lt_trans (PySem.Flt.log2_lt_of (by decide) (Nat.lt_of_le_of_lt (Nat.le_trans h h2) h3)) (by decide)
/-- the sum of products by name -/
theorem dot_named {L : List Line} {cs vals : List Int} (hc : cs.length = L.length) (hv : vals.length = L.length) : ((List.range L.length).map fun i => cs.getD i 0 * vals.getD i 0).sum = dot cs vals := by
  rw [dot_range (by omega), hc]
theorem sound_nil {b : Int} (h : b = 2 ∨ b = 3 ∨ b = 4) : Sound b [] :=
  ⟨h, Nat.zero_le _, fun _ z => (by cases z), List.nodup_nil, fun _ z => (by cases z), fun _ z => (by cases z), fun _ z => (by cases z), fun _ z => (by cases z), fun _ z => (by cases z), fun _ z => (by cases z)⟩

/-! Figurebooks: data that can be told and compared; equal books. -/
/-- data of a depth and a weight that can be told and compared -/
structure Nice (k w : Nat) (d : PyData) : Prop where
  sh : d.showable = true
  dc : d.hasDict = false
  dp : d.depth ≤ k
  lf : d.leavesShort 101 = true
  wt : d.weight ≤ w
  cl : d.canLay0 = true
theorem Nice.more {k w k' w' : Nat} {d : PyData} (h : Nice k w d) (hk : k ≤ k') (hw : w ≤ w') : Nice k' w' d := ⟨h.sh, h.dc, Nat.le_trans h.dp hk, h.lf, Nat.le_trans h.wt hw, h.cl⟩
theorem nice_int {i : Int} (h : i.natAbs.log2 < 100) : Nice 0 100 (.int i) := by
  have hx : i.natAbs.log2 < 1920 := Nat.lt_trans h (by decide)
  refine ⟨by simp [PyData.showable, hx], by simp [PyData.hasDict], by simp [PyData.depth], ?_, ?_, by simp [PyData.canLay0]⟩
  · unfold PyData.leavesShort PyData.shown
    refine decide_eq_true ?_
    rw [PySem.ofString_length]
    exact PySem.int_text_length_le (k := 100) (by decide) h
  · simp only [PyData.weight]
    split <;> omega
theorem nice_str {x : Str} (h : PyData.strOk x = true) {w : Nat} (hw : x.cps.size ≤ w) : Nice 0 w (.str x) := by
  refine ⟨by simp [PyData.showable, h], by simp [PyData.hasDict], by simp [PyData.depth], ?_, by simpa [PyData.weight] using hw, by simpa [PyData.canLay0] using h⟩
  unfold PyData.leavesShort
  unfold PyData.strOk at h
  rw [List.all_eq_true]
  intro c hc
  have := (Array.all_eq_true_iff_forall_mem.mp h) c (by simpa using hc)
  have h2 := of_decide_eq_true this
  exact decide_eq_true (by omega)
theorem nice_all {k w : Nat} : ∀ {ds : List PyData}, (∀ d ∈ ds, Nice k w d) → PyData.showableAll ds = true ∧ PyData.hasDictAll ds = false ∧ PyData.depthAll ds ≤ k ∧ PyData.leavesShortAll 101 ds = true ∧ PyData.weightAll ds ≤ ds.length * (w + 1) ∧ PyData.canLayAll0 ds = true
  | [], _ => by simp [PyData.showableAll, PyData.hasDictAll, PyData.depthAll, PyData.leavesShortAll, PyData.weightAll, PyData.canLayAll0]
  | d :: ds, h => by
    obtain ⟨h1, h2, h3, h4, h5, h6⟩ := nice_all (ds := ds) fun e he => h e (List.mem_cons_of_mem _ he)
    have g := h d List.mem_cons_self
    refine ⟨by simp [PyData.showableAll, g.sh, h1], by simp [PyData.hasDictAll, g.dc, h2], ?_, by simp [PyData.leavesShortAll, g.lf, h4], ?_, by simp [PyData.canLayAll0, g.cl, h6]⟩
    · have := g.dp
      simp only [PyData.depthAll]
      omega
    · have := g.wt
      simp only [PyData.weightAll, List.length_cons]
      rw [Nat.add_mul, Nat.one_mul]
      omega
theorem nice_list {k w n : Nat} {ds : List PyData} (h : ∀ d ∈ ds, Nice k w d) (hn : ds.length ≤ n) : Nice (k + 1) (n * (w + 1)) (.list ds) := by
  obtain ⟨h1, h2, h3, h4, h5, h6⟩ := nice_all h
  refine ⟨by simp [PyData.showable, h1], by simp [PyData.hasDict, h2], ?_, by simp [PyData.leavesShort, h4], ?_, by simp [PyData.canLay0, h6]⟩
  · simp only [PyData.depth]
    omega
  · simp only [PyData.weight]
    exact Nat.le_trans h5 (Nat.mul_le_mul_right _ hn)
theorem nice_tuple {k w n : Nat} {ds : List PyData} (h : ∀ d ∈ ds, Nice k w d) (hn : ds.length ≤ n) : Nice (k + 1) (n * (w + 1)) (.tuple ds) := by
  obtain ⟨h1, h2, h3, h4, h5, h6⟩ := nice_all h
  refine ⟨by simp [PyData.showable, h1], by simp [PyData.hasDict, h2], ?_, by simp [PyData.leavesShort, h4], ?_, by simp [PyData.canLay0, h6]⟩
  · simp only [PyData.depth]
    omega
  · simp only [PyData.weight]
    exact Nat.le_trans h5 (Nat.mul_le_mul_right _ hn)
theorem Nice.told {k w : Nat} {d : PyData} (h : Nice k w d) (hk : k ≤ 64) (hw : w ≤ 160000) : Told d := by
  refine ⟨h.sh, h.dc, Nat.le_trans h.dp hk, ?_⟩
  have h6 := PyData.shown_le 101 (by decide) d h.lf
  have h8 : (101 + 2) * d.weight ≤ (101 + 2) * 160000 := Nat.mul_le_mul_left _ (Nat.le_trans h.wt hw)
  rw [sizeLine_eq]
  omega
theorem Nice.shaped {k w : Nat} {d : PyData} (h : Nice k w d) (hk : k ≤ 64) : SeqAt.shaped d = true := by
  unfold SeqAt.shaped
  rw [h.cl, decide_eq_true (Nat.le_trans h.dp hk)]
  rfl
theorem Nice.eqv {k w : Nat} {d : PyData} (h : Nice k w d) : PyData.eqv d d = true := SeqAt.eqv_refl _ h.cl
theorem letter_ok {x : Str} (h : letterB x = true) : PyData.strOk x = true ∧ x.cps.size = 1 := by
  unfold letterB at h
  simp only [Bool.and_eq_true, Bool.not_eq_true', decide_eq_true_eq, decide_eq_false_iff_not] at h
  obtain ⟨h1, h2, h3⟩ := h
  have hl : x.length = 1 := by
    have := V.int.inj h1
    omega
  have hs : x.cps.size = 1 := hl
  refine ⟨?_, hs⟩
  obtain ⟨c, hc⟩ : ∃ c, x.cps.toList = [c] := by
    cases e : x.cps.toList with
    | nil =>
      have := congrArg List.length e
      simp at this
      rw [this] at hs
      cases hs
    | cons c r =>
      cases r with
      | nil => exact ⟨c, rfl⟩
      | cons d r =>
        have := congrArg List.length e
        simp at this
        omega
  unfold PyData.strOk
  rw [Array.all_eq_true_iff_forall_mem]
  intro d hd
  have : d ∈ x.cps.toList := by simpa using hd
  rw [hc] at this
  have ed := List.mem_singleton.mp this
  subst ed
  rw [hc] at h3
  refine decide_eq_true ?_
  have e : ("z" : Str).cps.toList = [122] := by decide +kernel
  rw [e] at h3
  by_cases g : d < 0x110000
  · exact g
  · refine absurd ?_ h3
    exact List.Lex.rel (by omega)
/-- what isinstance and == ask of an own class -/
structure IsC (K : PySem.W.Frag) (C : Addr) : Prop where
  ha : PySem.W.findIn K (.ref C) "__class__" = some (some (.builtin "object.__class__"))
  hn : PySem.W.specialIn K (.builtin "object.__class__") "__get__" = some (some (.builtin "getset_descriptor.__get__"))
  ht : PySem.W.takesIn K (.builtin "object.__class__") = some true
  hm : PySem.W.mroIn K C (.type "object") = some true
  kt : PySem.W.kitOne K (.ref C) (.ref C) = some true
theorem kbn_rev {K : PySem.W.Frag} {x qual : Str} {st : Stmt} {f : Addr} {fd : FuncData} {ps ks : List Str} (F : Fun K x qual st f fd)
    (h : ∀ (kV doc pm : Value) (an : Option Addr) (cdv ct : Value) (us ws : List Value), us.length = 1 → ws.length = ks.length → bindArgs (PySem.W.fnOf x qual (defArgs st) (defBody st) (defScope st) .none kV doc pm an cdv ct) ⟨us, ks.zip ws⟩ = pure (ps.zip (us ++ ws.reverse))) :
    KBn K fd ps 1 ks (fun us ws => us ++ ws.reverse) (fun vs zs => vs ++ zs.reverse) := by
  obtain ⟨oc, od, kV, doc, pm, an, cdv, ct, osl, rfl, lk, hcd⟩ := F.ex
  refine ⟨fun s us ws _ h1 h2 => .of_eq (h kV doc pm an cdv ct us ws h1 h2), fun {us vs ws zs} r1 r2 => r1.append ?_⟩
  have key : ∀ {vs : List V} {us : List Value}, Vals vs us → Vals vs.reverse us.reverse := fun {vs us} r => by
    induction r with
    | nil => exact .nil
    | cons a r ih =>
      rw [List.reverse_cons, List.reverse_cons]
      exact ih.append (.cons a .nil)
  exact key r2
/-- two books that say the same -/
def RBook (C : Addr × Addr) (K : PySem.W.Frag) : Addr → Addr → Hp → Prop := fun a b H => ∃ (base : Int) (L : List Line), BookC C K H a base L ∧ BookC C K H b base L ∧ Sound base L
theorem nice_term {t : Term} (h1 : t.1.natAbs < 2 ^ 10) (h2 : letterB t.2 = true) : Nice 1 202 (dTerm t) := by
  have g := letter_ok h2
  refine (nice_tuple (k := 0) (w := 100) (n := 2) (fun d hd => ?_) (Nat.le_refl _)).more (Nat.le_refl _) (Nat.le_refl _)
  rcases List.mem_cons.mp hd with rfl | hd
  · refine nice_int (Nat.lt_trans (PySem.Flt.log2_lt_of (by decide) h1) (by decide))
  · rcases List.mem_cons.mp hd with rfl | hd
    · exact nice_str g.1 (by omega)
    · cases hd
theorem nice_form {f : List Term} {n : Nat} (h : ∀ t ∈ f, t.1.natAbs < 2 ^ 10 ∧ letterB t.2 = true) (hn : f.length ≤ n) : Nice 2 (n * 203) (dForm f) :=
  nice_list (fun d hd => by
    obtain ⟨t, ht, rfl⟩ := List.mem_map.mp hd
    exact nice_term (h t ht).1 (h t ht).2) (by rw [List.length_map]; exact hn)
theorem nice_forms {F : List (List Term)} {n m : Nat} (h : ∀ f ∈ F, f.length ≤ n ∧ ∀ t ∈ f, t.1.natAbs < 2 ^ 10 ∧ letterB t.2 = true) (hm : F.length ≤ m) : Nice 3 (m * (n * 203 + 1)) (dForms F) :=
  nice_list (fun d hd => by
    obtain ⟨f, hf, rfl⟩ := List.mem_map.mp hd
    exact nice_form (h f hf).2 (h f hf).1) (by rw [List.length_map]; exact hm)
theorem sound_letters {b : Int} {L : List Line} (S : Sound b L) {x : Str} (h : x ∈ names L) : letterB x = true := by
  obtain ⟨l, hl, rfl⟩ := List.mem_map.mp h
  exact (S.letters l hl).1
theorem nice_sound {b : Int} {L : List Line} (S : Sound b L) {l : Line} (hl : l ∈ L) : Nice 3 (4 * (100 * 203 + 1)) (dForms l.2.2) :=
  nice_forms (fun f hf => ⟨S.small l hl f hf, fun t ht => ⟨S.coefs l hl f hf t ht, sound_letters S (S.known l hl f hf t ht)⟩⟩) (by
    have := S.forms l hl
    have := S.base
    omega)
/-- a loop over a text -/
theorem for_strL {x : Str} {g : TG} {tb : TS} {D : Ends} {σ : L2.St} {H : Hp} (Pv : Nat → L2.St → Hp → Prop) (h0 : Pv 0 σ H)
    (hs : ∀ (i : Nat) (c : Nat) (σ : L2.St) (H : Hp), x.cps[i]? = some c → Pv i σ H → g (.str ⟨#[c]⟩) σ H fun σ2 H2 => tb { D with nx := Pv (i + 1), ct := Pv (i + 1), bk := D.nx } σ2 H2) (hd : ∀ σ H, Pv x.cps.size σ H → D.nx σ H) :
    ∃ W : Nat → Nat → L2.St → Hp → Prop, (∃ m, W 0 m σ H) ∧ ∀ i m σ H, W i m σ H →
      ((Its x).stop i H ∧ D.nx σ H) ∨ ((Its x).go i H ∧ ∃ N : L2.St → Hp → Prop, (∀ σ' H', N σ' H' → ∃ m', m' < m ∧ W (i + 1) m' σ' H') ∧ ∀ v H', (Its x).yld i H v H' → g v σ H' fun σ2 H2 => tb { D with nx := N, ct := N, bk := D.nx } σ2 H2) := by
  refine ⟨fun i m σ H => m + i = x.cps.size ∧ Pv i σ H, ⟨x.cps.size, Nat.add_zero _, h0⟩, ?_⟩
  rintro i m σ H ⟨hm, p⟩
  by_cases hlt : i < x.cps.size
  · refine .inr ⟨hlt, Pv (i + 1), fun σ' H' p' => ⟨m - 1, by omega, by omega, p'⟩, ?_⟩
    rintro v H' ⟨rfl, c, hc, rfl⟩
    exact hs i c σ _ hc p
  · have e : i = x.cps.size := by omega
    subst e
    exact .inl ⟨Nat.le_refl _, hd σ H p⟩
theorem r_forS {tl : TE} {g : TG} {tb : TS} {D : Ends} {σ : L2.St} {H : Hp} (q : tl σ H fun v H1 => ∃ x, v = .str x ∧ ∃ W : Nat → Nat → L2.St → Hp → Prop, (∃ m, W 0 m σ H1) ∧ ∀ k m σ H, W k m σ H →
    ((Its x).stop k H ∧ D.nx σ H) ∨ ((Its x).go k H ∧ ∃ N : L2.St → Hp → Prop, (∀ σ' H', N σ' H' → ∃ m', m' < m ∧ W (k + 1) m' σ' H') ∧ ∀ x' H', (Its x).yld k H x' H' → g x' σ H' fun σ2 H2 => tb { D with nx := N, ct := N, bk := D.nx } σ2 H2)) : tFor (iStr tl) g tb D σ H := q
/-- the line of a letter, of the book that tries it -/
def oneL (n : Str) (k : Nat) : Line := (n, 3, [(1, n)] :: List.replicate k [(2, n)])
theorem one_worth (n : Str) : worth (names [oneL n 0]) (starts [oneL n 0]) n = 3 := by
  show ([3] : List Int).getD ([n].idxOf n) 0 = 3
  rw [List.idxOf_cons_self]
  rfl
theorem one_sound {b : Int} {n : Str} (hb : b = 2 ∨ b = 3 ∨ b = 4) (hn : letterB n = true) (hl : n.length ≤ 1000) : Sound b [oneL n (b - 1).toNat] := by
  have hF : ∀ f ∈ (oneL n (b - 1).toNat).2.2, f = [(1, n)] ∨ f = [(2, n)] := fun f hf => by
    rcases List.mem_cons.mp hf with e | e
    · exact .inl e
    · exact .inr (List.eq_of_mem_replicate e)
  have hone : ∀ l ∈ [oneL n (b - 1).toNat], l = oneL n (b - 1).toNat := fun l h => List.mem_singleton.mp h
  have hin : n ∈ names [oneL n (b - 1).toNat] := List.mem_singleton.mpr rfl
  refine ⟨hb, (show 1 ≤ 26 by decide), ?_, ?_, ?_, ?_, ?_, ?_, ?_, ?_⟩
  · intro l h
    rw [hone l h]
    exact ⟨hn, hl⟩
  · exact List.nodup_cons.mpr ⟨(fun h => by cases h), List.nodup_nil⟩
  · intro l h
    rw [hone l h]
    show ((([(1, n)] :: List.replicate (b - 1).toNat [(2, n)] : List (List Term)).length : Nat) : Int) = b
    rw [List.length_cons, List.length_replicate]
    omega
  · intro l h f hf
    rw [hone l h] at hf
    rcases hF f hf with e | e <;> rw [e] <;> exact (show 1 ≤ 100 by decide)
  · intro l h f hf t ht
    rw [hone l h] at hf
    rcases hF f hf with e | e <;> rw [e] at ht <;> rw [List.mem_singleton.mp ht] <;> exact hin
  · intro l h f hf t ht
    rw [hone l h] at hf
    rcases hF f hf with e | e <;> rw [e] at ht <;> rw [List.mem_singleton.mp ht]
    · exact (show (1 : Int).natAbs < 2 ^ 10 by decide)
    · exact (show (2 : Int).natAbs < 2 ^ 10 by decide)
  · intro l h
    rw [hone l h]
    show (3 : Int).natAbs < 2 ^ 20
    decide
  · intro l h f hf
    rw [hone l h] at hf ⊢
    have e : [(1, n)] = f := Option.some.inj hf
    subst e
    show (3 : Int) = 1 * worth [n] [3] n + 0
    have : worth [n] [3] n = 3 := one_worth n
    rw [this]
    rfl
theorem dpa_rep {K : PySem.W.Frag} {H : Hp} {v : V} {f : List Term} (h : Dp K H v (dForm f)) : ∀ k, DpAll K H (List.replicate k v) ((List.replicate k f).map dForm)
  | 0 => .nil
  | k + 1 => .cons h (dpa_rep h k)
/-- a list that is new, by what it says beside what stood -/
theorem nw_lst {H H' : Hp} {a : Addr} {xs : List V} (s : Same H H') (h : nw H H' a = some (.lst xs)) : H a = none := by
  cases e : H a with
  | none => rfl
  | some o =>
    have h1 := nw_le _ _ h
    rw [s _ _ e] at h1
    cases h1
    unfold nw at h
    rw [e] at h
    exact absurd ((if_neg (by intro w; cases w)).symm.trans h) (fun w => by cases w)
theorem nw_mut {H H' : Hp} {a : Addr} {o : HO} {xs : List V} (e : H a = some (.lst xs)) : Same (nw H H') (nw H (upd H' a o)) := fun c u z => by
  have n : c ≠ a := fun y => by
    subst y
    unfold nw at z
    rw [e] at z
    exact absurd ((if_neg (by intro w; cases w)).symm.trans z) (fun w => by cases w)
  cases h : H c with
  | none =>
    rw [nw_new h] at z ⊢
    rw [upd_ne n]
    exact z
  | some v =>
    by_cases f : fixedO v = true
    · rw [nw_fix h f] at z ⊢
      rw [upd_ne n]
      exact z
    · unfold nw at z
      rw [h] at z
      exact absurd ((if_neg f).symm.trans z) (fun w => by cases w)
theorem sqt_mut {K : PySem.W.Frag} {H : Hp} {a c : Addr} {o : HO} {xs ys : List V} (e : H a = some (.lst xs)) (h : SqT K H c ys) : SqT K (upd H a o) c ys :=
  sqt_same tu_le (sqt_same (tu_lst e) (sqt_tu h))

def top (i : Nat) : Stmt := PySem.Challenge.pw_figurebooks_k02_books_made.main.body.getD i (.Pass ⟨0, 0, 0, 0⟩)
abbrev s_f_check_base : Stmt := top 8
abbrev N_f_check_base : List Str := ["base"]
theorem sc_f_check_base : FnScope N_f_check_base ["base"] (defScope s_f_check_base) := ⟨rfl, rfl, rfl, by decide +kernel, rfl, by decide +kernel, by decide +kernel⟩
abbrev s_f_is_letter : Stmt := top 9
abbrev N_f_is_letter : List Str := ["name"]
theorem sc_f_is_letter : FnScope N_f_is_letter ["name"] (defScope s_f_is_letter) := ⟨rfl, rfl, rfl, by decide +kernel, rfl, by decide +kernel, by decide +kernel⟩
abbrev s_f_System___init__ : Stmt := inClass (top 11) 0
abbrev N_f_System___init__ : List Str := ["self", "starts", "steps", "step", "terms"]
theorem sc_f_System___init__ : FnScope N_f_System___init__ ["self", "starts", "steps"] (defScope s_f_System___init__) := ⟨rfl, rfl, rfl, by decide +kernel, rfl, by decide +kernel, by decide +kernel⟩
abbrev s_f_Book___init__ : Stmt := inClass (top 13) 0
abbrev N_f_Book___init__ : List Str := ["self", "base", "rows", "name", "_", "start", "formulas", "figure"]
theorem sc_f_Book___init__ : FnScope N_f_Book___init__ ["self", "base", "rows"] (defScope s_f_Book___init__) := ⟨rfl, rfl, rfl, by decide +kernel, rfl, by decide +kernel, by decide +kernel⟩
abbrev s_f_Book_base : Stmt := inClass (top 13) 1
abbrev N_f_Book_base : List Str := ["self"]
theorem sc_f_Book_base : FnScope N_f_Book_base ["self"] (defScope s_f_Book_base) := ⟨rfl, rfl, rfl, by decide +kernel, rfl, by decide +kernel, by decide +kernel⟩
abbrev s_f_Book_names : Stmt := inClass (top 13) 2
abbrev N_f_Book_names : List Str := ["self"]
theorem sc_f_Book_names : FnScope N_f_Book_names ["self"] (defScope s_f_Book_names) := ⟨rfl, rfl, rfl, by decide +kernel, rfl, by decide +kernel, by decide +kernel⟩
abbrev s_f_Book_index_of : Stmt := inClass (top 13) 4
abbrev N_f_Book_index_of : List Str := ["self", "name"]
theorem sc_f_Book_index_of : FnScope N_f_Book_index_of ["self", "name"] (defScope s_f_Book_index_of) := ⟨rfl, rfl, rfl, by decide +kernel, rfl, by decide +kernel, by decide +kernel⟩
abbrev s_f_Book_start_of : Stmt := inClass (top 13) 5
abbrev N_f_Book_start_of : List Str := ["self", "name"]
theorem sc_f_Book_start_of : FnScope N_f_Book_start_of ["self", "name"] (defScope s_f_Book_start_of) := ⟨rfl, rfl, rfl, by decide +kernel, rfl, by decide +kernel, by decide +kernel⟩
abbrev s_f_Book_formulas_of : Stmt := inClass (top 13) 6
abbrev N_f_Book_formulas_of : List Str := ["self", "name"]
theorem sc_f_Book_formulas_of : FnScope N_f_Book_formulas_of ["self", "name"] (defScope s_f_Book_formulas_of) := ⟨rfl, rfl, rfl, by decide +kernel, rfl, by decide +kernel, by decide +kernel⟩
abbrev s_f_Book___eq__ : Stmt := inClass (top 13) 7
abbrev N_f_Book___eq__ : List Str := ["self", "other"]
theorem sc_f_Book___eq__ : FnScope N_f_Book___eq__ ["self", "other"] (defScope s_f_Book___eq__) := ⟨rfl, rfl, rfl, by decide +kernel, rfl, by decide +kernel, by decide +kernel⟩
abbrev s_f_check_names : Stmt := top 14
abbrev N_f_check_names : List Str := ["rows", "earlier", "name", "_"]
theorem sc_f_check_names : FnScope N_f_check_names ["rows"] (defScope s_f_check_names) := ⟨rfl, rfl, rfl, by decide +kernel, rfl, by decide +kernel, by decide +kernel⟩
abbrev s_f_check_formulas : Stmt := top 15
abbrev N_f_check_formulas : List Str := ["base", "rows", "names", "name", "_", "formulas"]
theorem sc_f_check_formulas : FnScope N_f_check_formulas ["base", "rows"] (defScope s_f_check_formulas) := ⟨rfl, rfl, rfl, by decide +kernel, rfl, by decide +kernel, by decide +kernel⟩
abbrev s_f_are_known : Stmt := top 16
abbrev N_f_are_known : List Str := ["formulas", "names", "terms", "_", "name"]
theorem sc_f_are_known : FnScope N_f_are_known ["formulas", "names"] (defScope s_f_are_known) := ⟨rfl, rfl, rfl, by decide +kernel, rfl, by decide +kernel, by decide +kernel⟩
abbrev s_f_check_starts : Stmt := top 17
abbrev N_f_check_starts : List Str := ["rows", "starts", "name", "start", "formulas", "_", "coefficient", "other"]
theorem sc_f_check_starts : FnScope N_f_check_starts ["rows"] (defScope s_f_check_starts) := ⟨rfl, rfl, rfl, by decide +kernel, rfl, by decide +kernel, by decide +kernel⟩
abbrev s_f_copied : Stmt := top 18
abbrev N_f_copied : List Str := ["formulas", "terms"]
theorem sc_f_copied : FnScope N_f_copied ["formulas"] (defScope s_f_copied) := ⟨rfl, rfl, rfl, by decide +kernel, rfl, by decide +kernel, by decide +kernel⟩
abbrev s_f_step_of : Stmt := top 19
abbrev N_f_step_of : List Str := ["names", "formulas", "figure", "parts", "coefficient", "name"]
theorem sc_f_step_of : FnScope N_f_step_of ["names", "formulas", "figure"] (defScope s_f_step_of) := ⟨rfl, rfl, rfl, by decide +kernel, rfl, by decide +kernel, by decide +kernel⟩
abbrev s_f_law_pool : Stmt := top 21
abbrev N_f_law_pool : List Str := ["script", "spot", "cell"]
theorem sc_f_law_pool : FnScope N_f_law_pool ["script", "spot"] (defScope s_f_law_pool) := ⟨rfl, rfl, rfl, by decide +kernel, rfl, by decide +kernel, by decide +kernel⟩
abbrev s_f_law_draw : Stmt := top 22
abbrev N_f_law_draw : List Str := ["pool", "many", "drawn", "mixed"]
theorem sc_f_law_draw : FnScope N_f_law_draw ["pool", "many"] (defScope s_f_law_draw) := ⟨rfl, rfl, rfl, by decide +kernel, rfl, by decide +kernel, by decide +kernel⟩
abbrev s_f_law_factor : Stmt := top 23
abbrev N_f_law_factor : List Str := ["pool", "size"]
theorem sc_f_law_factor : FnScope N_f_law_factor ["pool"] (defScope s_f_law_factor) := ⟨rfl, rfl, rfl, by decide +kernel, rfl, by decide +kernel, by decide +kernel⟩
abbrev s_f_law_terms : Stmt := top 24
abbrev N_f_law_terms : List Str := ["pool", "letters", "many", "turn"]
theorem sc_f_law_terms : FnScope N_f_law_terms ["pool", "letters", "many"] (defScope s_f_law_terms) := ⟨rfl, rfl, rfl, by decide +kernel, rfl, by decide +kernel, by decide +kernel⟩
abbrev s_f_law_first : Stmt := top 25
abbrev N_f_law_first : List Str := ["pool", "starts", "letter", "found", "noughts", "turn", "others", "one", "two", "other", "term"]
theorem sc_f_law_first : FnScope N_f_law_first ["pool", "starts", "letter"] (defScope s_f_law_first) := ⟨rfl, rfl, rfl, by decide +kernel, rfl, by decide +kernel, by decide +kernel⟩
abbrev s_f_law_kind : Stmt := top 26
abbrev N_f_law_kind : List Str := ["pool", "many", "base_here", "letters", "starts", "lines", "letter", "formulas", "figure_here"]
theorem sc_f_law_kind : FnScope N_f_law_kind ["pool", "many"] (defScope s_f_law_kind) := ⟨rfl, rfl, rfl, by decide +kernel, rfl, by decide +kernel, by decide +kernel⟩
abbrev s_f_law_known : Stmt := top 27
abbrev N_f_law_known : List Str := ["pool", "e", "z", "ones", "stern", "last", "places", "powers", "odd", "books", "lines", "letter"]
theorem sc_f_law_known : FnScope N_f_law_known ["pool"] (defScope s_f_law_known) := ⟨rfl, rfl, rfl, by decide +kernel, rfl, by decide +kernel, by decide +kernel⟩
abbrev s_f_law_made : Stmt := top 28
abbrev N_f_law_made : List Str := ["kind", "letter", "start", "formulas", "one"]
theorem sc_f_law_made : FnScope N_f_law_made ["kind"] (defScope s_f_law_made) := ⟨rfl, rfl, rfl, by decide +kernel, rfl, by decide +kernel, by decide +kernel⟩
abbrev s_f_law_letters_right : Stmt := top 29
abbrev N_f_law_letters_right : List Str := ["base_here", "letter", "formulas", "made"]
theorem sc_f_law_letters_right : FnScope N_f_law_letters_right ["base_here"] (defScope s_f_law_letters_right) := ⟨rfl, rfl, rfl, by decide +kernel, rfl, by decide +kernel, by decide +kernel⟩
abbrev s_f_law_right : Stmt := top 30
abbrev N_f_law_right : List Str := ["pool", "kind", "handed", "made", "letter", "start", "formulas", "again", "told", "one", "line"]
theorem sc_f_law_right : FnScope N_f_law_right ["pool"] (defScope s_f_law_right) := ⟨rfl, rfl, rfl, by decide +kernel, rfl, by decide +kernel, by decide +kernel⟩
abbrev s_f_law : Stmt := top 31
abbrev N_f_law : List Str := ["script", "spot", "pool", "turn"]
theorem sc_f_law : FnScope N_f_law ["script"] (defScope s_f_law) := ⟨rfl, rfl, rfl, by decide +kernel, rfl, by decide +kernel, by decide +kernel⟩
structure Ad where
  a_f_check_base : Addr
  d_f_check_base : FuncData
  a_f_is_letter : Addr
  d_f_is_letter : FuncData
  a_f_System___init__ : Addr
  d_f_System___init__ : FuncData
  a_f_Book___init__ : Addr
  d_f_Book___init__ : FuncData
  a_f_Book_base : Addr
  d_f_Book_base : FuncData
  q_f_Book_base : Addr
  a_f_Book_names : Addr
  d_f_Book_names : FuncData
  q_f_Book_names : Addr
  a_f_Book_index_of : Addr
  d_f_Book_index_of : FuncData
  a_f_Book_start_of : Addr
  d_f_Book_start_of : FuncData
  a_f_Book_formulas_of : Addr
  d_f_Book_formulas_of : FuncData
  a_f_Book___eq__ : Addr
  d_f_Book___eq__ : FuncData
  a_f_check_names : Addr
  d_f_check_names : FuncData
  a_f_check_formulas : Addr
  d_f_check_formulas : FuncData
  a_f_are_known : Addr
  d_f_are_known : FuncData
  a_f_check_starts : Addr
  d_f_check_starts : FuncData
  a_f_copied : Addr
  d_f_copied : FuncData
  a_f_step_of : Addr
  d_f_step_of : FuncData
  a_f_law_pool : Addr
  d_f_law_pool : FuncData
  a_f_law_draw : Addr
  d_f_law_draw : FuncData
  a_f_law_factor : Addr
  d_f_law_factor : FuncData
  a_f_law_terms : Addr
  d_f_law_terms : FuncData
  a_f_law_first : Addr
  d_f_law_first : FuncData
  a_f_law_kind : Addr
  d_f_law_kind : FuncData
  a_f_law_known : Addr
  d_f_law_known : FuncData
  a_f_law_made : Addr
  d_f_law_made : FuncData
  a_f_law_letters_right : Addr
  d_f_law_letters_right : FuncData
  a_f_law_right : Addr
  d_f_law_right : FuncData
  a_f_law : Addr
  d_f_law : FuncData
  C_Book : Addr
  C_System : Addr
structure Txt (K : PySem.W.Frag) (mg : Str → Option Value) (t : Ad) : Prop where
  F_f_check_base : Fun K "check_base" "check_base" s_f_check_base t.a_f_check_base t.d_f_check_base
  b_f_check_base : Binds K t.d_f_check_base ["base"] []
  g_f_check_base : mg "check_base" = some (.ref t.a_f_check_base)
  F_f_is_letter : Fun K "is_letter" "is_letter" s_f_is_letter t.a_f_is_letter t.d_f_is_letter
  b_f_is_letter : Binds K t.d_f_is_letter ["name"] []
  g_f_is_letter : mg "is_letter" = some (.ref t.a_f_is_letter)
  F_f_System___init__ : Fun K "__init__" "System.__init__" s_f_System___init__ t.a_f_System___init__ t.d_f_System___init__
  b_f_System___init__ : Binds K t.d_f_System___init__ ["self", "starts", "steps"] []
  k_System : Mk K t.C_System t.a_f_System___init__
  F_f_Book___init__ : Fun K "__init__" "Book.__init__" s_f_Book___init__ t.a_f_Book___init__ t.d_f_Book___init__
  b_f_Book___init__ : Binds K t.d_f_Book___init__ ["self", "base", "rows"] []
  kb_f_Book___init__ : KBn K t.d_f_Book___init__ ["self", "base", "rows"] 1 ["rows", "base"] (fun us ws => us ++ ws.reverse) (fun vs zs => vs ++ zs.reverse)
  k_Book : Mk K t.C_Book t.a_f_Book___init__
  F_f_Book_base : Fun K "base" "Book.base" s_f_Book_base t.a_f_Book_base t.d_f_Book_base
  b_f_Book_base : Binds K t.d_f_Book_base ["self"] []
  p_f_Book_base : PropOf K t.C_Book "base" t.q_f_Book_base t.a_f_Book_base
  F_f_Book_names : Fun K "names" "Book.names" s_f_Book_names t.a_f_Book_names t.d_f_Book_names
  b_f_Book_names : Binds K t.d_f_Book_names ["self"] []
  p_f_Book_names : PropOf K t.C_Book "names" t.q_f_Book_names t.a_f_Book_names
  F_f_Book_index_of : Fun K "index_of" "Book.index_of" s_f_Book_index_of t.a_f_Book_index_of t.d_f_Book_index_of
  b_f_Book_index_of : Binds K t.d_f_Book_index_of ["self", "name"] []
  t_f_Book_index_of : Meth K t.C_Book "index_of" t.a_f_Book_index_of
  F_f_Book_start_of : Fun K "start_of" "Book.start_of" s_f_Book_start_of t.a_f_Book_start_of t.d_f_Book_start_of
  b_f_Book_start_of : Binds K t.d_f_Book_start_of ["self", "name"] []
  kb_f_Book_start_of : KBn K t.d_f_Book_start_of ["self", "name"] 1 ["name"] (fun us ws => us ++ ws) (fun vs zs => vs ++ zs)
  t_f_Book_start_of : Meth K t.C_Book "start_of" t.a_f_Book_start_of
  F_f_Book_formulas_of : Fun K "formulas_of" "Book.formulas_of" s_f_Book_formulas_of t.a_f_Book_formulas_of t.d_f_Book_formulas_of
  b_f_Book_formulas_of : Binds K t.d_f_Book_formulas_of ["self", "name"] []
  kb_f_Book_formulas_of : KBn K t.d_f_Book_formulas_of ["self", "name"] 1 ["name"] (fun us ws => us ++ ws) (fun vs zs => vs ++ zs)
  t_f_Book_formulas_of : Meth K t.C_Book "formulas_of" t.a_f_Book_formulas_of
  F_f_Book___eq__ : Fun K "__eq__" "Book.__eq__" s_f_Book___eq__ t.a_f_Book___eq__ t.d_f_Book___eq__
  b_f_Book___eq__ : Binds K t.d_f_Book___eq__ ["self", "other"] []
  t_f_Book___eq__ : PySem.W.findIn K (.ref t.C_Book) "__eq__" = some (some (.ref t.a_f_Book___eq__)) ∧ PySem.W.isFn K (.ref t.a_f_Book___eq__) = true
  F_f_check_names : Fun K "_check_names" "_check_names" s_f_check_names t.a_f_check_names t.d_f_check_names
  b_f_check_names : Binds K t.d_f_check_names ["rows"] []
  g_f_check_names : mg "_check_names" = some (.ref t.a_f_check_names)
  F_f_check_formulas : Fun K "_check_formulas" "_check_formulas" s_f_check_formulas t.a_f_check_formulas t.d_f_check_formulas
  b_f_check_formulas : Binds K t.d_f_check_formulas ["base", "rows"] []
  g_f_check_formulas : mg "_check_formulas" = some (.ref t.a_f_check_formulas)
  F_f_are_known : Fun K "_are_known" "_are_known" s_f_are_known t.a_f_are_known t.d_f_are_known
  b_f_are_known : Binds K t.d_f_are_known ["formulas", "names"] []
  g_f_are_known : mg "_are_known" = some (.ref t.a_f_are_known)
  F_f_check_starts : Fun K "_check_starts" "_check_starts" s_f_check_starts t.a_f_check_starts t.d_f_check_starts
  b_f_check_starts : Binds K t.d_f_check_starts ["rows"] []
  g_f_check_starts : mg "_check_starts" = some (.ref t.a_f_check_starts)
  F_f_copied : Fun K "_copied" "_copied" s_f_copied t.a_f_copied t.d_f_copied
  b_f_copied : Binds K t.d_f_copied ["formulas"] []
  g_f_copied : mg "_copied" = some (.ref t.a_f_copied)
  F_f_step_of : Fun K "_step_of" "_step_of" s_f_step_of t.a_f_step_of t.d_f_step_of
  b_f_step_of : Binds K t.d_f_step_of ["names", "formulas", "figure"] []
  g_f_step_of : mg "_step_of" = some (.ref t.a_f_step_of)
  F_f_law_pool : Fun K "_law_pool" "_law_pool" s_f_law_pool t.a_f_law_pool t.d_f_law_pool
  b_f_law_pool : Binds K t.d_f_law_pool ["script", "spot"] []
  g_f_law_pool : mg "_law_pool" = some (.ref t.a_f_law_pool)
  F_f_law_draw : Fun K "_law_draw" "_law_draw" s_f_law_draw t.a_f_law_draw t.d_f_law_draw
  b_f_law_draw : Binds K t.d_f_law_draw ["pool", "many"] []
  g_f_law_draw : mg "_law_draw" = some (.ref t.a_f_law_draw)
  F_f_law_factor : Fun K "_law_factor" "_law_factor" s_f_law_factor t.a_f_law_factor t.d_f_law_factor
  b_f_law_factor : Binds K t.d_f_law_factor ["pool"] []
  g_f_law_factor : mg "_law_factor" = some (.ref t.a_f_law_factor)
  F_f_law_terms : Fun K "_law_terms" "_law_terms" s_f_law_terms t.a_f_law_terms t.d_f_law_terms
  b_f_law_terms : Binds K t.d_f_law_terms ["pool", "letters", "many"] []
  g_f_law_terms : mg "_law_terms" = some (.ref t.a_f_law_terms)
  F_f_law_first : Fun K "_law_first" "_law_first" s_f_law_first t.a_f_law_first t.d_f_law_first
  b_f_law_first : Binds K t.d_f_law_first ["pool", "starts", "letter"] []
  g_f_law_first : mg "_law_first" = some (.ref t.a_f_law_first)
  F_f_law_kind : Fun K "_law_kind" "_law_kind" s_f_law_kind t.a_f_law_kind t.d_f_law_kind
  b_f_law_kind : Binds K t.d_f_law_kind ["pool", "many"] []
  g_f_law_kind : mg "_law_kind" = some (.ref t.a_f_law_kind)
  F_f_law_known : Fun K "_law_known" "_law_known" s_f_law_known t.a_f_law_known t.d_f_law_known
  b_f_law_known : Binds K t.d_f_law_known ["pool"] []
  g_f_law_known : mg "_law_known" = some (.ref t.a_f_law_known)
  F_f_law_made : Fun K "_law_made" "_law_made" s_f_law_made t.a_f_law_made t.d_f_law_made
  b_f_law_made : Binds K t.d_f_law_made ["kind"] []
  g_f_law_made : mg "_law_made" = some (.ref t.a_f_law_made)
  F_f_law_letters_right : Fun K "_law_letters_right" "_law_letters_right" s_f_law_letters_right t.a_f_law_letters_right t.d_f_law_letters_right
  b_f_law_letters_right : Binds K t.d_f_law_letters_right ["base_here"] []
  g_f_law_letters_right : mg "_law_letters_right" = some (.ref t.a_f_law_letters_right)
  F_f_law_right : Fun K "_law_right" "_law_right" s_f_law_right t.a_f_law_right t.d_f_law_right
  b_f_law_right : Binds K t.d_f_law_right ["pool"] []
  g_f_law_right : mg "_law_right" = some (.ref t.a_f_law_right)
  F_f_law : Fun K "law" "law" s_f_law t.a_f_law t.d_f_law
  b_f_law : Binds K t.d_f_law ["script"] []
  g_f_law : mg "law" = some (.ref t.a_f_law)
  g_Book : mg "Book" = some (.ref t.C_Book)
  c_Book : Cls K t.C_Book
  e_Book : IsC K t.C_Book
  n_Book__base : NoAttr K t.C_Book "_base"
  n_Book__names : NoAttr K t.C_Book "_names"
  n_Book__starts : NoAttr K t.C_Book "_starts"
  n_Book__formulas : NoAttr K t.C_Book "_formulas"
  n_Book__system : NoAttr K t.C_Book "_system"
  g_System : mg "System" = some (.ref t.C_System)
  c_System : Cls K t.C_System
  n_System__starts : NoAttr K t.C_System "_starts"
  n_System__steps : NoAttr K t.C_System "_steps"
  m_abs : mg "abs" = none
  m_all : mg "all" = none
  m_int : mg "int" = none
  m_isinstance : mg "isinstance" = none
  m_len : mg "len" = none
  m_list : mg "list" = none
  m_max : mg "max" = none
  m_min : mg "min" = none
  m_range : mg "range" = none
  m_repr : mg "repr" = none
  m_sorted : mg "sorted" = none
  m_sum : mg "sum" = none
  m_tuple : mg "tuple" = none
local macro_rules | `(tactic| top_argsB) => `(tactic| repeat' (first | assumption | exact upd_same | refine upd_old (by assumption) ?_ | refine upd_oth (by first | assumption | exact Ne.symm (by assumption)) ?_))
local macro_rules | `(tactic| top_raiseB) => `(tactic| repeat' (first | assumption | exact sq_of (by top_argsB) | refine sq_new (by assumption) ?_ | refine sq_oth (by first | assumption | exact Ne.symm (by assumption)) ?_))
local macro_rules | `(tactic| top_caught0) => `(tactic| repeat' (first | assumption | exact st_of (by top_argsB) | refine st_new (by assumption) ?_ | refine st_oth (by first | assumption | exact Ne.symm (by assumption)) ?_))
local macro_rules | `(tactic| mod_arm) => `(tactic| repeat' (first | assumption | exact Same.refl _ | refine Fb.Same.new ?_ (by assumption)))
local macro_rules | `(tactic| top_caughtB) => `(tactic| repeat' (first
  | ((with_reducible refine r_var0 ?_); refine ⟨_, rfl, ?_⟩) | with_reducible refine r_c ?_ | with_reducible refine r_op ?_ | with_reducible refine r_cons ?_ | with_reducible refine r_nil ?_
  | with_reducible refine r_seq ?_ | with_reducible refine r_asg ?_ | with_reducible refine r_gname ?_ | with_reducible refine r_ret ?_ | with_reducible refine r_drop ?_ | with_reducible refine r_next ?_
  | with_reducible refine r_ifS ?_ | with_reducible refine r_if ?_ | with_reducible refine r_test ?_ | with_reducible refine r_B ?_ | with_reducible refine r_and ?_ | with_reducible refine r_or ?_ | with_reducible refine r_not ?_
  | with_reducible refine r_andV ?_ | with_reducible refine r_orV ?_ | with_reducible refine r_notV ?_ | with_reducible refine r_un ?_ | with_reducible refine r_call ?_ | with_reducible refine r_make ?_ | with_reducible refine r_for1 ?_ | with_reducible refine r_CB ?_ | with_reducible refine r_tup ?_ | with_reducible refine r_lst ?_
  | with_reducible refine r_fld ?_ | with_reducible refine r_meth ?_ | with_reducible refine r_bm ?_ | with_reducible refine r_bm0 ?_ | with_reducible refine r_prop ?_ | with_reducible refine r_gsub ?_ | with_reducible refine r_sl ?_ | with_reducible refine r_nopart ?_ | with_reducible refine r_part ?_ | with_reducible refine r_par ?_
  | with_reducible refine r_sfld ?_ | with_reducible refine r_gcons ?_ | with_reducible refine r_gnil ?_ | ((with_reducible refine r_gtup0 ?_); refine ⟨_, by top_caught0, rfl, ?_⟩)
  | with_reducible refine r_bl ?_ | with_reducible refine r_in ?_ | with_reducible refine r_two ?_ | with_reducible refine r_U ?_ | with_reducible refine r_I0 ?_ | ((with_reducible refine r_eq ?_ ?_); focus exact rfl) | ((with_reducible refine r_ne ?_ ?_); focus exact rfl)
  | ((with_reducible refine r_mk ?_ ?_); focus exact rfl)
  | with_reducible refine r_i1 ?_ | with_reducible refine r_i1o ?_ | with_reducible refine r_i2 ?_ | with_reducible refine r_b1o ?_ | ((with_reducible refine r_len0 ?_); refine ⟨_, by top_raiseB, ?_⟩)
  | ((with_reducible refine r_ixL0 ?_); refine ⟨_, _, by top_raiseB, by rfl, ?_⟩) | ((with_reducible refine r_ixT0 ?_); refine ⟨_, _, by top_caught0, by rfl, ?_⟩)
  | ((with_reducible refine r_tyL0 ?_); refine ⟨⟨_, by top_argsB⟩, ?_⟩)
  | ((with_reducible refine r_I ?_ ?_); focus ((try dsimp only); first | with_reducible assumption | decide | exact (show CPowW _ _ from ⟨by decide, by decide +kernel⟩) | exact (show CDivW _ _ from ⟨by decide, by decide +kernel⟩)))
  | with_reducible refine r_yes ?_ | with_reducible refine iteT ?_ | with_reducible refine iteF ?_
  | dsimp only [List.set, List.append_nil, List.cons_append, List.nil_append, wipe, List.map]))


abbrev sp_f_law_draw (_ : PySem.W.Frag) (_ : Ad) : Sp := spDraw
abbrev sp_f_law_pool (K : PySem.W.Frag) (_ : Ad) : Sp := spPool K
theorem pool_ok {x y k z : Int} (h0 : 0 ≤ x) (hz : z = y % 2305843009213693951 + 7368787 * (k + 1)) (hk0 : 0 ≤ k) (hk : k ≤ 5) : PoolO 1000000 (.lst [.int x, .int z, .int 0]) := by
  refine ⟨x, z, 0, rfl, h0, ?_, ?_, by decide, by decide⟩
  · have := Int.emod_nonneg y (show (2305843009213693951 : Int) ≠ 0 by decide)
    omega
  · have := Int.emod_lt_of_pos y (show (0 : Int) < 2305843009213693951 by decide)
    show z < 4611686018427387904
    omega
theorem mulx_small {i j : Int} (hi : i.natAbs < 2 ^ 200) (hj : j.natAbs < 2 ^ 200) : CMulX i j := mulx_ok hi hj (by decide)
theorem ok_f_law_pool {P : Program} {w : World} {K : PySem.W.Frag} {mg : Str → Option Value} {base : Heap} {t : Ad} (T : Txt K mg t) : FnOk P w K mg base CX0 1 t.a_f_law_pool t.d_f_law_pool ["script", "spot"] (spPool K) := by
  refine T.F_f_law_pool.ok sc_f_law_pool (fun vs H Q E h => ?_) (fun cdv A outer s H vs Q E hr h => ?_)
  · obtain ⟨a, ns, k, rfl, _⟩ := h
    rfl
  · obtain ⟨a, ns, k, rfl, hS, hk, q⟩ := h
    refine ⟨_, (pss_cons (ps_set (i := 2) sc_f_law_pool.nd rfl (Or.inl rfl) pe_int)
      (pss_cons (ps_if (pt_cmpR op_lt (pv 1) (pe_callB call_len_seq (by rfl) T.m_len (by decide +kernel) (pa_cons (pv 0) pa_nil)) (nomark _)) (pss_one (ps_set (i := 2) sc_f_law_pool.nd rfl (Or.inl rfl) (pe_ix ix_list (pv 0) (pv 1) (fun _ _ => rfl)))) pss_nil)
      (pss_one (ps_ret (pe_lst (pa_cons (pe_callB (call_max2 rfl) (by rfl) T.m_max (by decide +kernel) (pa_cons pe_int (pa_cons (pe_op op_sub (pe_callB call_abs (by rfl) T.m_abs (by decide +kernel) (pa_cons (pv 2) pa_nil)) (pe_op op_powW pe_int pe_int)) pa_nil))) (pa_cons (pe_op op_add (pe_op op_mod (pe_callTy (T := "int") call_int1 (by rfl) T.m_int (by decide +kernel) (pa_cons (pv 2) pa_nil)) pe_int) (pe_op op_mulX pe_int (pe_op op_add (pv 1) pe_int))) (pa_cons pe_int pa_nil)))))))), ?_⟩
    rw [show L2.start N_f_law_pool [V.ref a, V.int (k : Int)] = [some (V.ref a), some (V.int (k : Int)), none] from rfl]; try dsimp only [cxOf]
    top_caughtB
    have big : (200 : Nat) = 200 := rfl
    have hkk : ((k : Int) + 1).natAbs < 2 ^ 200 := Nat.lt_of_lt_of_le (show ((k : Int) + 1).natAbs < 2 ^ 3 by omega) (Nat.pow_le_pow_right (by decide) (by decide))
    refine ite2 (fun h1 => ?_) (fun h1 => ?_)
    · have h2 : k < ns.length := by
        have := of_decide_eq_true h1
        rw [List.length_map] at this
        omega
      top_caughtB
      refine r_ixL (v := .int ns[k]) hS (atI_nat (by rw [List.getElem?_map, List.getElem?_eq_getElem h2]; rfl)) ?_
      top_caughtB
      refine r_I (mulx_small (by decide) hkk) ?_
      top_caughtB
      intro p np
      exact q _ p (pool_ok (by split <;> omega) rfl (by omega) (by omega)) np
    · top_caughtB
      refine r_I (mulx_small (by decide) hkk) ?_
      top_caughtB
      intro p np
      exact q _ p (pool_ok (by split <;> omega) rfl (by omega) (by omega)) np
theorem abs_lt {i : Int} {n : Nat} (h0 : 0 ≤ i) (h : i < 2 ^ n) : i.natAbs < 2 ^ n := by
  have e : ((2 ^ n : Nat) : Int) = (2 : Int) ^ n := by simp
  omega
theorem ok_f_law_draw {P : Program} {w : World} {K : PySem.W.Frag} {mg : Str → Option Value} {base : Heap} {t : Ad} (T : Txt K mg t) : FnOk P w K mg base CX0 1 t.a_f_law_draw t.d_f_law_draw ["pool", "many"] spDraw := by
  refine T.F_f_law_draw.ok sc_f_law_draw (fun vs H Q E h => ?_) (fun cdv A outer s H vs Q E hr h => ?_)
  · obtain ⟨p, m, f, rfl, _⟩ := h
    rfl
  · obtain ⟨p, m, f, rfl, ⟨o, ho, a, b, c, rfl, h0, hb0, hb, hc0, hc⟩, hm0, hm, q⟩ := h
    refine ⟨_, (pss_cons (ps_if (pt_cmpR op_gt (pe_ix ix_list (pv 0) pe_int (fun _ _ => rfl)) pe_int (nomark _)) (pss_cons (ps_set (i := 2) sc_f_law_draw.nd rfl (Or.inl rfl) (pe_op op_mod (pe_callTy (T := "int") call_int1 (by rfl) T.m_int (by decide +kernel) (pa_cons (pe_ix ix_list (pv 0) pe_int (fun _ _ => rfl)) pa_nil)) (pv 1)))
      (pss_cons (ps_asg (pe_op op_fdivW (pe_ix ix_list (pv 0) pe_int (fun _ _ => rfl)) (pv 1)) (pg_sub (pv 0) pe_int set_list))
      (pss_one (ps_ret (pv 2))))) pss_nil)
      (pss_cons (ps_asg (pe_op op_add (pe_ix ix_list (pv 0) pe_int (fun _ _ => rfl)) pe_int) (pg_sub (pv 0) pe_int set_list))
      (pss_cons (ps_set (i := 3) sc_f_law_draw.nd rfl (Or.inl rfl) (pe_op op_mod (pe_callTy (T := "int") call_int1 (by rfl) T.m_int (by decide +kernel) (pa_cons (pe_op op_powW (pe_op op_add (pe_ix ix_list (pv 0) pe_int (fun _ _ => rfl)) (pe_op op_mulX pe_int (pe_ix ix_list (pv 0) pe_int (fun _ _ => rfl)))) pe_int) pa_nil)) pe_int))
      (pss_cons (ps_set (i := 3) sc_f_law_draw.nd rfl (Or.inl rfl) (pe_op op_mod (pe_callTy (T := "int") call_int1 (by rfl) T.m_int (by decide +kernel) (pa_cons (pe_op op_powW (pe_op op_add (pv 3) (pe_op op_mulX pe_int (pe_ix ix_list (pv 0) pe_int (fun _ _ => rfl)))) pe_int) pa_nil)) pe_int))
      (pss_one (ps_ret (pe_op op_mod (pe_callTy (T := "int") call_int1 (by rfl) T.m_int (by decide +kernel) (pa_cons (pe_op op_fdivW (pv 3) pe_int) pa_nil)) (pv 1)))))))), ?_⟩
    rw [show L2.start N_f_law_draw [V.ref p, V.int m] = [some (V.ref p), some (V.int m), none, none] from rfl]; try dsimp only [cxOf]
    have hmd : CDivW a m := wide_div hm0 (abs_lt (by omega) hm) (by decide) (by decide)
    have hb' : b < 4611686018427387904 := hb
    have r0 : 0 ≤ a % m := Int.emod_nonneg a (by omega)
    have r1 : a % m < m := Int.emod_lt_of_pos a hm0
    top_caughtB
    refine ite2 (fun h1 => ?_) (fun h1 => ?_)
    · top_caughtB
      refine r_setL (by top_argsB) (by rfl) ?_
      top_caughtB
      exact q _ _ r0 r1 ⟨a / m, b, c, rfl, Int.ediv_nonneg h0 (by omega), hb0, hb, hc0, by omega⟩
    · top_caughtB
      refine r_setL (by top_argsB) (by rfl) ?_
      top_caughtB
      refine r_I (mulx_small (by decide) (abs_lt (n := 200) (by omega) (Int.lt_of_lt_of_le (show c + 1 < 2 ^ 60 by show c + 1 < 1152921504606846976; omega) (by decide)))) ?_
      top_caughtB
      refine r_I (cpow3 (n := 64) (abs_lt (by omega) (by show b + 15485863 * (c + 1) < 18446744073709551616; omega)) (by decide)) ?_
      top_caughtB
      have t0 := Int.emod_nonneg ((b + 15485863 * (c + 1)) ^ (3 : Int).toNat) (show (162259276829213363391578010288127 : Int) ≠ 0 by decide)
      have t1 := Int.emod_lt_of_pos ((b + 15485863 * (c + 1)) ^ (3 : Int).toNat) (show (0 : Int) < 162259276829213363391578010288127 by decide)
      generalize ((b + 15485863 * (c + 1)) ^ (3 : Int).toNat) % 162259276829213363391578010288127 = x at t0 t1 ⊢
      refine r_I (mulx_small (by decide) (abs_lt (n := 200) (by omega) (Int.lt_of_lt_of_le (show c + 1 < 2 ^ 60 by show c + 1 < 1152921504606846976; omega) (by decide)))) ?_
      top_caughtB
      refine r_I (cpow3 (n := 128) (abs_lt (by omega) (by show x + 32452843 * (c + 1) < 340282366920938463463374607431768211456; omega)) (by decide)) ?_
      top_caughtB
      generalize (x + 32452843 * (c + 1)) ^ (3 : Int).toNat % 170141183460469231731687303715884105727 / 1048576 = y
      exact q _ _ (Int.emod_nonneg y (by omega)) (Int.emod_lt_of_pos y hm0) ⟨a, b, c + 1, rfl, h0, hb0, hb, by omega, by omega⟩


def sp_f_copied (K : PySem.W.Frag) (_ : Ad) : Sp := fun vs H Q _ => ∃ (a : Addr) (f : List (List Term)), vs = [.ref a] ∧ Dp K H (.ref a) (dForms f) ∧ f.length ≤ 1000 ∧
  ∀ H' r, H r = none → Same H H' → Dp K (nw H H') (.ref r) (dForms f) → (∃ xs, H' r = some (.lst xs) ∧ xs.length = f.length ∧ ∀ v ∈ xs, ∃ a zs, v = .ref a ∧ H a = none ∧ H' a = some (.lst zs) ∧ ∀ n, (∀ g ∈ f, g.length ≤ n) → zs.length ≤ n) → Q (.ref r) H'
theorem ok_f_copied {P : Program} {w : World} {K : PySem.W.Frag} {mg : Str → Option Value} {base : Heap} {t : Ad} (T : Txt K mg t) : FnOk P w K mg base CX0 1 t.a_f_copied t.d_f_copied ["formulas"] (sp_f_copied K t) := by
  refine T.F_f_copied.ok sc_f_copied (fun vs H Q E h => ?_) (fun cdv A outer s H vs Q E hr h => ?_)
  · obtain ⟨a, f, rfl, _⟩ := h
    rfl
  · obtain ⟨a, f, rfl, hd, hl, q⟩ := h
    refine ⟨_, (pss_one (ps_ret (pe_lc (own := [("terms", 1)]) (te := (tCB (rListOf K) (tCons (tVar 1) tNil))) (tt := tYes) (g := (gName 1)) rfl sc_f_copied.nd (pi_list (pv 0)) (blkOk_by (own := [("terms", 1)]) (N := N_f_copied) (sc := defScope s_f_copied) (by decide +kernel)) (fun _ _ _ _ _ => (pg_name (i := 1) sc_f_copied.nd rfl (Or.inl rfl))) (fun _ _ _ _ _ => pts_nil) (fun _ _ _ _ _ => (pe_callTy (T := "list") call_list_of (by rfl) T.m_list (by decide +kernel) (pa_cons (pv 1) pa_nil)))))), ?_⟩
    rw [show L2.start N_f_copied [V.ref a] = [some (V.ref a), none] from rfl]; try dsimp only [cxOf]
    obtain ⟨a', xs, e, hS, hA⟩ := dp_forms hd
    cases e
    have hn := dpa_map_len hA
    top_caughtB
    refine ⟨.ref a, rfl, a, rfl, ⟨xs, hS⟩, fun D hD => ?_⟩
    refine lc_pure (K := K) (fun i y H' => ∀ g, f[i]? = some g → Dp K H' y (dForm g) ∧ ∃ a zs, y = .ref a ∧ H a = none ∧ H' a = some (.lst zs) ∧ zs.length = g.length) (fun i y H1 H2 h s g e => ⟨dp_same s (h g e).1, let ⟨a, zs, h1, h2, h3, h4⟩ := (h g e).2; ⟨a, zs, h1, h2, s _ _ h3, h4⟩⟩) hS hD (by omega) (fun x H P P' h q => gm_name h q) (fun σ H P P' h q => h _ _ q) ?_ ?_
    · intro i x H1 QQ hx s1 nD hq
      obtain ⟨g, hg, hdg⟩ := dpa_at hA hx
      obtain ⟨b, zs, rfl, hSg, hAg⟩ := dp_form hdg
      unfold LcTurn
      top_caughtB
      refine ⟨rfl, ?_⟩
      top_caughtB
      refine ⟨b, zs, rfl, .inl (s1.seq hSg), fun l hl => ?_⟩
      refine hq _ _ (same_new hl) fun g' e' => ?_
      have eg : g = g' := Option.some.inj (hg.symm.trans e')
      subst eg
      exact ⟨.lst (sq_of ((nw_new hl).trans upd_same)) (dpa_terms_nw (same_new hl) (dpa_same s1 hAg)), l, zs, rfl, s1.free hl, (nw_new hl).trans upd_same, dpa_map_len hAg⟩
    · intro H1 ys hlen hR s1 eD
      refine q H1 D hD s1 (.lst (sq_of ((nw_new hD).trans eD)) ?_) ⟨ys, eD, by omega, fun v hv => ?_⟩
      · exact dpa_map (by omega) fun i y g h1 h2 => (hR i y h1 g h2).1
      · obtain ⟨i, hi⟩ := List.getElem?_of_mem hv
        have hif : i < f.length := by
          have := (List.getElem?_eq_some_iff.mp hi).1
          omega
        obtain ⟨_, a, zs, h1, h2, h3, h4⟩ := hR i v hi _ (List.getElem?_eq_getElem hif)
        exact ⟨a, zs, h1, h2, nw_le _ _ h3, fun n hn => by rw [h4]; exact hn _ (List.getElem_mem hif)⟩

def sp_f_check_base (_ : PySem.W.Frag) (_ : Ad) : Sp := fun vs H Q _ => ∃ b : Int, vs = [.int b] ∧ (b = 2 ∨ b = 3 ∨ b = 4) ∧ ∀ H', Same H H' → Q .non H'
theorem ok_f_check_base {P : Program} {w : World} {K : PySem.W.Frag} {mg : Str → Option Value} {base : Heap} {t : Ad} (T : Txt K mg t) : FnOk P w K mg base CX0 1 t.a_f_check_base t.d_f_check_base ["base"] (sp_f_check_base K t) := by
  refine T.F_f_check_base.ok sc_f_check_base (fun vs H Q E h => ?_) (fun cdv A outer s H vs Q E hr h => ?_)
  · obtain ⟨b, rfl, _⟩ := h
    rfl
  · obtain ⟨b, rfl, hb, q⟩ := h
    refine ⟨_, (pss_one (ps_if (pt_cmpR op_notIn_seq (pv 0) (pe_tup (pa_cons pe_int (pa_cons pe_int (pa_cons pe_int pa_nil)))) rfl) (pss_one ps_never) pss_nil)), ?_⟩
    rw [show L2.start N_f_check_base [V.int b] = [some (V.int b)] from rfl]; try dsimp only [cxOf]
    top_caughtB
    intro p np
    have e : inV (.int b) [V.int 2, V.int 3, V.int 4] = true := by
      rcases hb with rfl | rfl | rfl <;> decide
    refine ⟨p, _, rfl, .inr (st_of upd_same), rfl, rfl, false, ?_, iteF ?_⟩
    · show V.bl (!inV (.int b) [V.int 2, V.int 3, V.int 4]) = V.bl false
      rw [e]
      rfl
    · exact q _ (same_new np)
def sp_f_is_letter (_ : PySem.W.Frag) (_ : Ad) : Sp := fun vs H Q _ => ∃ n : Str, vs = [.str n] ∧ n.length ≤ 1000 ∧ Q (.bl (letterB n)) H
theorem ok_f_is_letter {P : Program} {w : World} {K : PySem.W.Frag} {mg : Str → Option Value} {base : Heap} {t : Ad} (T : Txt K mg t) : FnOk P w K mg base CX0 1 t.a_f_is_letter t.d_f_is_letter ["name"] (sp_f_is_letter K t) := by
  refine T.F_f_is_letter.ok sc_f_is_letter (fun vs H Q E h => ?_) (fun cdv A outer s H vs Q E hr h => ?_)
  · obtain ⟨n, rfl, _⟩ := h
    rfl
  · obtain ⟨n, rfl, hn, q⟩ := h
    refine ⟨_, (pss_one (ps_ret (pe_and (pe_cmpR op_eq (pe_callB call_len_str (by rfl) T.m_len (by decide +kernel) (pa_cons (pv 0) pa_nil)) pe_int (nomark _)) (pe_one (pe_chain op_le_str op_le_str pe_str (pv 0) pe_str))))), ?_⟩
    rw [show L2.start N_f_is_letter [V.str n] = [some (V.str n)] from rfl]; try dsimp only [cxOf]
    top_caughtB
    refine ⟨n, rfl, Nat.le_of_lt (small1000 hn), ?_⟩
    top_caughtB
    unfold letterB at q
    cases e : decide (V.int (n.length : Int) = V.int 1) with
    | true =>
      rw [e] at q
      refine iteT ⟨_, rfl, _, _, rfl, rfl, _, rfl, ?_⟩
      cases e2 : decide (n.cps.toList < ("a" : Str).cps.toList) with
      | true =>
        rw [e2] at q
        exact iteF q
      | false =>
        rw [e2] at q
        exact iteT ⟨_, _, rfl, rfl, q⟩
    | false =>
      rw [e] at q
      exact iteF q
def sp_f_check_names (K : PySem.W.Frag) (_ : Ad) : Sp := fun vs H Q _ => ∃ (r : Addr) (L : List Line), vs = [.ref r] ∧ Dp K H (.ref r) (dRows L) ∧ L.length ≤ 100 ∧ (∀ l ∈ L, letterB l.1 = true ∧ l.1.length ≤ 1000) ∧ (names L).Nodup ∧ ∀ H', Same H H' → Q .non H'
theorem take_names {L : List Line} {i : Nat} {l : Line} (h : L[i]? = some l) : (names L).take (i + 1) = (names L).take i ++ [l.1] := by
  unfold names
  rw [List.take_add_one, List.getElem?_map, h]
  rfl
theorem name_new {L : List Line} {i : Nat} {l : Line} (nd : (names L).Nodup) (h : L[i]? = some l) : l.1 ∉ (names L).take i := fun z => by
  have h1 : i < L.length := (List.getElem?_eq_some_iff.mp h).1
  have h2 : (names L)[i]? = some l.1 := by unfold names; rw [List.getElem?_map, h]; rfl
  obtain ⟨j, hj, e⟩ := List.getElem_of_mem z
  have hj' : j < i := by
    have := hj
    rw [List.length_take] at this
    omega
  rw [List.getElem_take] at e
  have hjn : j < (names L).length := by
    have := (List.getElem?_eq_some_iff.mp h2).1
    omega
  have h3 : (names L)[j]? = some l.1 := by rw [List.getElem?_eq_getElem hjn, e]
  have := nd_ix nd h3 h2
  omega
theorem ok_f_check_names {P : Program} {w : World} {K : PySem.W.Frag} {mg : Str → Option Value} {base : Heap} {t : Ad} (T : Txt K mg t) : FnOk P w K mg base CX0 2 t.a_f_check_names t.d_f_check_names ["rows"] (sp_f_check_names K t) := by
  refine T.F_f_check_names.ok sc_f_check_names (fun vs H Q E h => ?_) (fun cdv A outer s H vs Q E hr h => ?_)
  · obtain ⟨r, L, rfl, _⟩ := h
    rfl
  · obtain ⟨r, L, rfl, hd, hl, hn, nd, q⟩ := h
    refine ⟨_, (pss_cons (ps_set (i := 1) sc_f_check_names.nd rfl (Or.inl rfl) (pe_lst pa_nil))
      (pss_one (ps_for PassesOwn.never rfl (pi_list (pv 0)) (pg_tup rfl (pgs_cons (pg_name (i := 2) sc_f_check_names.nd rfl (Or.inl rfl)) (pgs_cons (pg_name (i := 3) sc_f_check_names.nd rfl (Or.inl rfl)) (pgs_cons (pg_name (i := 3) sc_f_check_names.nd rfl (Or.inl rfl)) pgs_nil)))) (pss_cons (ps_if (PW.pt (pw_or (pt_not (pt_val (pe_call (ok_f_is_letter T) (hr.mono (by decide)) (by rfl) T.g_f_is_letter T.F_f_is_letter.kp T.b_f_is_letter .nil pass0 (pa_cons (pv 2) pa_nil)))) (pw_or1 (pt_cmpR op_in_seq (pv 2) (pv 1) rfl)))) (pss_one ps_never) pss_nil)
      (pss_one (ps_expr (pe_bm PySem.F.plainAttrs_list PySem.F.slot_list_append PySem.F.type_list_append mt_append (pv 1) (pa_cons (pv 2) pa_nil)))))))), ?_⟩
    rw [show L2.start N_f_check_names [V.ref r] = [some (V.ref r), none, none, none] from rfl]; try dsimp only [cxOf]
    obtain ⟨r', xs, e, hS, hA⟩ := dp_list hd
    cases e
    have hx := dpa_map_len hA
    top_caughtB
    intro p np
    top_caughtB
    refine ⟨.ref r, rfl, r, rfl, ⟨xs, sq_new np hS⟩, for_list (K := K) (a := r) (xs := xs) (fun i σ H' => ∃ v w, σ = [some (.ref r), some (.ref p), v, w] ∧ Same H H' ∧ H' p = some (.lst (((names L).take i).map V.str)))
      ⟨none, none, rfl, same_new np, upd_same⟩ (fun i σ H' _ ⟨_, _, _, s, _⟩ => s.seq hS) ?_ ?_⟩
    · rintro i x σ H1 hi ⟨v, w, rfl, s1, ep⟩
      obtain ⟨l, hli, hdl⟩ := dpa_at hA hi
      obtain ⟨a, b, rfl, hT, hF⟩ := dp_line hdl
      have hT1 := sqt_same s1 hT
      obtain ⟨hlet, hlen⟩ := hn l (List.mem_of_getElem? hli)
      top_caughtB
      refine ⟨l.1, rfl, hlen, ?_⟩
      top_caughtB
      rw [hlet]
      refine iteF ?_
      top_caughtB
      refine ⟨p, _, rfl, .inl (sq_of ep), rfl, all_flat_strs _, ?_⟩
      refine ⟨false, ?_, iteF ?_⟩
      · show V.bl (inV (.str l.1) (((names L).take i).map V.str)) = V.bl false
        rw [inV_strs, decide_eq_false (name_new nd hli)]
      top_caughtB
      refine ⟨p, _, _, rfl, rfl, ep, ?_, ?_⟩
      · rw [List.length_map, List.length_take]
        exact Nat.lt_of_le_of_lt (Nat.min_le_left _ _) (small1000 (by have := (List.getElem?_eq_some_iff.mp hli).1; omega))
      · refine ⟨_, _, rfl, Fb.Same.mut s1 np, ?_⟩
        rw [upd_same, take_names hli, List.map_append]
        rfl
    · rintro σ H1 ⟨v, w, rfl, s1, ep⟩
      exact q H1 s1

def sp_f_are_known (K : PySem.W.Frag) (_ : Ad) : Sp := fun vs H Q _ => ∃ (a b : Addr) (f : List (List Term)) (ns : List Str), vs = [.ref a, .ref b] ∧ Dp K H (.ref a) (dForms f) ∧ SqL K H b (ns.map V.str) ∧ f.length ≤ 1000 ∧ (∀ g ∈ f, g.length ≤ 1000) ∧
  (∀ g ∈ f, ∀ t ∈ g, t.2 ∈ ns) ∧ ∀ H', Same H H' → Q (.bl true) H'
theorem all_id : ∀ n : Nat, ((List.replicate n true).all id) = true
  | 0 => rfl
  | n + 1 => by
    rw [List.replicate_succ, List.all_cons, all_id n]
    rfl
theorem rep_snoc {n : Nat} : (List.replicate n true).map V.bl ++ [V.bl true] = (List.replicate (n + 1) true).map V.bl := by
  rw [← List.map_singleton, ← List.map_append]
  congr 1
  rw [show [true] = List.replicate 1 true from rfl, List.replicate_append_replicate]
theorem ok_f_are_known {P : Program} {w : World} {K : PySem.W.Frag} {mg : Str → Option Value} {base : Heap} {t : Ad} (T : Txt K mg t) : FnOk P w K mg base CX0 1 t.a_f_are_known t.d_f_are_known ["formulas", "names"] (sp_f_are_known K t) := by
  refine T.F_f_are_known.ok sc_f_are_known (fun vs H Q E h => ?_) (fun cdv A outer s H vs Q E hr h => ?_)
  · obtain ⟨a, b, f, ns, rfl, _⟩ := h
    rfl
  · obtain ⟨a, b, f, ns, rfl, hd, hS2, hl, hl2, hk, q⟩ := h
    refine ⟨_, (pss_one (ps_ret (pe_callB (cr_all rfl) (by rfl) T.m_all (by decide +kernel) (pa_cons (pe_lc2 (own := [("terms", 2), ("_", 3), ("name", 4)]) (te := (tOp (rIn K false) (tVar 4) (tVar 1))) (g := (gName 2)) (tt := tYes) (tt1 := tYes) (wi1 := (iList K (tVar 2))) (g1 := (gTup K 2 (gCons (gName 3) (gCons (gName 4) gNil)))) (vs1 := [3, 4]) rfl sc_f_are_known.nd (pi_list (pv 0)) (blkOk_by (own := [("terms", 2), ("_", 3), ("name", 4)]) (N := N_f_are_known) (sc := defScope s_f_are_known) (by decide +kernel)) (by decide) (fun _ _ _ _ _ => (pg_name (i := 2) sc_f_are_known.nd rfl (Or.inl rfl))) (fun _ _ _ _ _ => pts_nil) (fun _ _ _ _ _ => (pi_list (pv 2))) (fun _ _ _ _ _ => (pg_tup rfl (pgs_cons (pg_name (i := 3) sc_f_are_known.nd rfl (Or.inl rfl)) (pgs_cons (pg_name (i := 4) sc_f_are_known.nd rfl (Or.inl rfl)) pgs_nil)))) (fun _ _ _ _ _ => pts_nil) (fun _ _ _ _ _ => (pe_cmpR op_in_seq (pv 4) (pv 1) rfl))) pa_nil)))), ?_⟩
    rw [show L2.start N_f_are_known [V.ref a, V.ref b] = [some (V.ref a), some (V.ref b), none, none, none] from rfl]; try dsimp only [cxOf]
    obtain ⟨a', xs, e, hS, hA⟩ := dp_forms hd
    cases e
    have hx := dpa_map_len hA
    top_caughtB
    refine ⟨.ref a, rfl, a, rfl, ⟨xs, hS⟩, fun D hD => ?_⟩
    refine lc2_out (K := K) (a := a) (xs := xs) (fun i H1 => Same H H1 ∧ ∃ n, n ≤ 1000 * i ∧ H1 D = some (.lst ((List.replicate n true).map V.bl)))
      ⟨same_new hD, 0, Nat.zero_le _, upd_same⟩ (fun i H1 _ ⟨s, _⟩ => s.seq hS) ?_ ?_
    · rintro i x H1 hi ⟨s1, n, hn, eD⟩
      have hil : i < xs.length := (List.getElem?_eq_some_iff.mp hi).1
      obtain ⟨g, hg, hdg⟩ := dpa_at hA hi
      have hgm := List.mem_of_getElem? hg
      obtain ⟨c, ys, rfl, hSg, hAg⟩ := dp_form hdg
      have hy := dpa_map_len hAg
      have hgl := hl2 g hgm
      top_caughtB
      refine ⟨rfl, ?_⟩
      top_caughtB
      refine ⟨.ref c, rfl, c, rfl, ⟨ys, s1.seq hSg⟩, ?_⟩
      refine lc2_in (K := K) (b := c) (ys := ys) (σ2 := [some (.ref a), some (.ref b), some (.ref c), none, none]) (vs1 := [3, 4]) (fun j H2 => Same H H2 ∧ ∃ m, m ≤ n + j ∧ H2 D = some (.lst ((List.replicate m true).map V.bl))) ⟨s1, n, by omega, eD⟩ (fun j H2 _ ⟨s, _⟩ => s.seq hSg) ?_ ?_
      · rintro j y H2 hj ⟨s2, m, hm, eD2⟩
        have hjl : j < ys.length := (List.getElem?_eq_some_iff.mp hj).1
        obtain ⟨tm, htm, hdt⟩ := dpa_at hAg hj
        obtain ⟨e, rfl, hT⟩ := dp_term hdt
        have hT2 := sqt_same s2 hT
        top_caughtB
        refine ⟨rfl, ?_⟩
        top_caughtB
        refine ⟨b, _, rfl, .inl (s2.seq hS2), rfl, all_flat_strs _, _, eD2, ?_, ?_⟩
        · rw [List.length_map, List.length_replicate]
          exact Nat.lt_of_le_of_lt (show m ≤ 1000000 by omega) (by decide)
        · refine ⟨Fb.Same.mut s2 hD, m + 1, by omega, ?_⟩
          rw [upd_same]
          congr 2
          show (List.replicate m true).map V.bl ++ [V.bl (inV (.str tm.2) (ns.map V.str))] = _
          rw [inV_strs, decide_eq_true (hk g hgm tm (List.mem_of_getElem? htm)), rep_snoc]
      · rintro H2 ⟨s2, m, hm, eD2⟩
        exact ⟨s2, m, by omega, eD2⟩
    · rintro H1 ⟨s1, n, hn, eD⟩
      top_caughtB
      refine ⟨D, List.replicate n true, rfl, sq_of eD, ?_⟩
      rw [all_id]
      exact q H1 s1
def sp_f_check_formulas (K : PySem.W.Frag) (_ : Ad) : Sp := fun vs H Q _ => ∃ (b : Int) (r : Addr) (L : List Line), vs = [.int b, .ref r] ∧ Dp K H (.ref r) (dRows L) ∧ Sound b L ∧ ∀ H', Same H H' → Q .non H'
theorem sound_len {b : Int} {L : List Line} (S : Sound b L) {l : Line} (h : l ∈ L) : l.2.2.length ≤ 4 := by
  have := S.forms l h
  have := S.base
  omega
theorem ok_f_check_formulas {P : Program} {w : World} {K : PySem.W.Frag} {mg : Str → Option Value} {base : Heap} {t : Ad} (T : Txt K mg t) : FnOk P w K mg base CX0 2 t.a_f_check_formulas t.d_f_check_formulas ["base", "rows"] (sp_f_check_formulas K t) := by
  refine T.F_f_check_formulas.ok sc_f_check_formulas (fun vs H Q E h => ?_) (fun cdv A outer s H vs Q E hr h => ?_)
  · obtain ⟨b, r, L, rfl, _⟩ := h
    rfl
  · obtain ⟨b, r, L, rfl, hd, S, q⟩ := h
    refine ⟨_, (pss_cons (ps_setLc (i := 2) (own := [("name", 3), ("_", 4)]) (te := (tVar 3)) (tt := tYes) (g := (gTup K 3 (gCons (gName 3) (gCons (gName 4) (gCons (gName 4) gNil))))) rfl sc_f_check_formulas.nd rfl rfl (sw_true rfl rfl rfl (by decide +kernel)) (pi_list (pv 1)) (blkOk_by (own := [("name", 3), ("_", 4)]) (N := N_f_check_formulas) (sc := defScope s_f_check_formulas) (by decide +kernel)) (fun _ _ _ _ _ => (pg_tup rfl (pgs_cons (pg_name (i := 3) sc_f_check_formulas.nd rfl (Or.inl rfl)) (pgs_cons (pg_name (i := 4) sc_f_check_formulas.nd rfl (Or.inl rfl)) (pgs_cons (pg_name (i := 4) sc_f_check_formulas.nd rfl (Or.inl rfl)) pgs_nil))))) (fun _ _ _ _ _ => pts_nil) (fun _ _ _ _ _ => (pv 3)))
      (pss_one (ps_for PassesOwn.never rfl (pi_list (pv 1)) (pg_tup rfl (pgs_cons (pg_name (i := 3) sc_f_check_formulas.nd rfl (Or.inl rfl)) (pgs_cons (pg_name (i := 4) sc_f_check_formulas.nd rfl (Or.inl rfl)) (pgs_cons (pg_name (i := 5) sc_f_check_formulas.nd rfl (Or.inl rfl)) pgs_nil)))) (pss_one (ps_if (PW.pt (pw_or (pt_cmpR op_ne (pe_callB call_len_seq (by rfl) T.m_len (by decide +kernel) (pa_cons (pv 5) pa_nil)) (pv 0) (nomark _)) (pw_or1 (pt_not (pt_val (pe_call (ok_f_are_known T) (hr.mono (by decide)) (by rfl) T.g_f_are_known T.F_f_are_known.kp T.b_f_are_known .nil pass0 (pa_cons (pv 5) (pa_cons (pv 2) pa_nil)))))))) (pss_one ps_never) pss_nil))))), ?_⟩
    rw [show L2.start N_f_check_formulas [V.int b, V.ref r] = [some (V.int b), some (V.ref r), none, none, none, none] from rfl]; try dsimp only [cxOf]
    obtain ⟨r', xs, e, hS, hA⟩ := dp_list hd
    cases e
    have hx := dpa_map_len hA
    have hm := S.many
    top_caughtB
    refine ⟨.ref r, rfl, r, rfl, ⟨xs, hS⟩, fun D hD => ?_⟩
    refine lc_pure (K := K) (fun i y H' => ∀ l, L[i]? = some l → y = .str l.1) (fun i y H1 H2 h s g e => h g e) hS hD (by omega) (fun x H P P' h q => gm_tup3 h q) (fun σ H P P' h q => h _ _ q) ?_ ?_
    · intro i x H1 QQ hx s1 nD hq
      obtain ⟨l, hl, hdl⟩ := dpa_at hA hx
      obtain ⟨c, d, rfl, hT, hF⟩ := dp_line hdl
      have hT1 := sqt_same s1 hT
      unfold LcTurn
      top_caughtB
      refine ⟨rfl, ?_⟩
      top_caughtB
      exact hq _ _ (Same.refl _) fun l' e' => by
        have e := Option.some.inj (hl.symm.trans e')
        subst e
        rfl
    · intro H1 ys hlen hR s1 eD
      have ey : ys = (names L).map V.str := by
        refine List.ext_getElem? fun i => ?_
        cases e : L[i]? with
        | none =>
          have h1 := List.getElem?_eq_none_iff.mp e
          rw [List.getElem?_eq_none (by omega), List.getElem?_eq_none (by unfold names; rw [List.length_map, List.length_map]; omega)]
        | some l =>
          have h1 := (List.getElem?_eq_some_iff.mp e).1
          have h2 : i < ys.length := by omega
          rw [List.getElem?_eq_getElem h2]
          have := hR i ys[i] (List.getElem?_eq_getElem h2) l e
          rw [this]
          unfold names
          rw [List.getElem?_map, List.getElem?_map, e]
          rfl
      subst ey
      top_caughtB
      refine ⟨.ref r, rfl, r, rfl, ⟨xs, s1.seq hS⟩, for_list (K := K) (a := r) (xs := xs) (fun i σ H' => ∃ u v w, σ = [some (.int b), some (.ref r), some (.ref D), u, v, w] ∧ Same H H' ∧ H' D = some (.lst ((names L).map V.str)))
        ⟨none, none, none, rfl, s1, eD⟩ (fun i σ H' _ ⟨_, _, _, _, s, _⟩ => s.seq hS) ?_ ?_⟩
      · rintro i x σ H2 hi ⟨u, v, w, rfl, s2, eD2⟩
        obtain ⟨l, hli, hdl⟩ := dpa_at hA hi
        have hlm := List.mem_of_getElem? hli
        obtain ⟨c, d, rfl, hT, hF⟩ := dp_line hdl
        have hT2 := sqt_same s2 hT
        have hF2 := dp_same s2 hF
        obtain ⟨d', zs, e, hSF, hAF⟩ := dp_forms hF2
        cases e
        have hz := dpa_map_len hAF
        have hfl := S.forms l hlm
        top_caughtB
        rw [show decide (V.int (zs.length : Int) = V.int b) = true from decide_eq_true (by rw [hz, hfl])]
        refine iteF ?_
        top_caughtB
        refine ⟨d, D, l.2.2, names L, rfl, hF2, sq_of eD2, Nat.le_trans (sound_len S hlm) (by decide), fun g hg => Nat.le_trans (S.small l hlm g hg) (by decide), S.known l hlm, fun H3 s3 => ?_⟩
        top_caughtB
        exact ⟨_, _, _, rfl, s2.trans s3, s3 _ _ eD2⟩
      · rintro σ H2 ⟨u, v, w, rfl, s2, eD2⟩
        exact q H2 s2

def sp_f_check_starts (K : PySem.W.Frag) (_ : Ad) : Sp := fun vs H Q _ => ∃ (b : Int) (r : Addr) (L : List Line), vs = [.ref r] ∧ Dp K H (.ref r) (dRows L) ∧ Sound b L ∧ ∀ H', Same H H' → Q .non H'
theorem ok_f_check_starts {P : Program} {w : World} {K : PySem.W.Frag} {mg : Str → Option Value} {base : Heap} {t : Ad} (T : Txt K mg t) : FnOk P w K mg base CX0 1 t.a_f_check_starts t.d_f_check_starts ["rows"] (sp_f_check_starts K t) := by
  refine T.F_f_check_starts.ok sc_f_check_starts (fun vs H Q E h => ?_) (fun cdv A outer s H vs Q E hr h => ?_)
  · obtain ⟨b, r, L, rfl, _⟩ := h
    rfl
  · obtain ⟨b, r, L, rfl, hd, S, q⟩ := h
    refine ⟨_, (pss_cons (ps_set (i := 1) sc_f_check_starts.nd rfl (Or.inr rfl) (pe_dc (own := [("name", 2), ("start", 3), ("_", 5)]) (tk := (tVar 2)) (tv := (tVar 3)) (tt := tYes) (g := (gTup K 3 (gCons (gName 2) (gCons (gName 3) (gCons (gName 5) gNil))))) rfl sc_f_check_starts.nd (pi_list (pv 0)) (blkOk_by (own := [("name", 2), ("start", 3), ("_", 5)]) (N := N_f_check_starts) (sc := defScope s_f_check_starts) (by decide +kernel)) (fun _ _ _ _ _ => (pg_tup rfl (pgs_cons (pg_name (i := 2) sc_f_check_starts.nd rfl (Or.inl rfl)) (pgs_cons (pg_name (i := 3) sc_f_check_starts.nd rfl (Or.inl rfl)) (pgs_cons (pg_name (i := 5) sc_f_check_starts.nd rfl (Or.inl rfl)) pgs_nil))))) (fun _ _ _ _ _ => pts_nil) (fun _ _ _ _ _ => (pv 2)) (fun _ _ _ _ _ => (pv 3))))
      (pss_one (ps_for PassesOwn.never rfl (pi_list (pv 0)) (pg_tup rfl (pgs_cons (pg_name (i := 2) sc_f_check_starts.nd rfl (Or.inl rfl)) (pgs_cons (pg_name (i := 3) sc_f_check_starts.nd rfl (Or.inl rfl)) (pgs_cons (pg_name (i := 4) sc_f_check_starts.nd rfl (Or.inl rfl)) pgs_nil)))) (pss_one (ps_if (pt_cmpR op_ne (pv 3) (pe_callB (cr_sum rfl) (by rfl) T.m_sum (by decide +kernel) (pa_cons (pe_lc (own := [("coefficient", 6), ("other", 7)]) (te := (tOp rMulX (tVar 6) (tDGet (tVar 1) (tVar 7)))) (tt := tYes) (g := (gTup K 2 (gCons (gName 6) (gCons (gName 7) gNil)))) rfl sc_f_check_starts.nd (pi_list (pe_ix ix_list (pv 4) pe_int (fun _ _ => rfl))) (blkOk_by (own := [("coefficient", 6), ("other", 7)]) (N := N_f_check_starts) (sc := defScope s_f_check_starts) (by decide +kernel)) (fun _ _ _ _ _ => (pg_tup rfl (pgs_cons (pg_name (i := 6) sc_f_check_starts.nd rfl (Or.inl rfl)) (pgs_cons (pg_name (i := 7) sc_f_check_starts.nd rfl (Or.inl rfl)) pgs_nil)))) (fun _ _ _ _ _ => pts_nil) (fun _ _ _ _ _ => (pe_op op_mulX (pv 6) (pe_dget (hu_of hr) (pv 1) (pv 7) (fun _ _ => rfl))))) pa_nil)) (nomark _)) (pss_one ps_never) pss_nil))))), ?_⟩
    rw [show L2.start N_f_check_starts [V.ref r] = [some (V.ref r), none, none, none, none, none, none, none] from rfl]; try dsimp only [cxOf]
    obtain ⟨r', xs, e, hS, hA⟩ := dp_list hd
    cases e
    have hx := dpa_map_len hA
    have hm := S.many
    top_caughtB
    refine ⟨.ref r, rfl, r, rfl, ⟨xs, hS⟩, fun D hD => ?_⟩
    refine dc_list (K := K) (a := r) (xs := xs) (fun i H1 => Same H H1 ∧ H1 D = some (.dK ((L.take i).map fun l => ((Sum.inr l.1 : Key), V.int l.2.1)))) ⟨same_new hD, upd_same⟩ (fun i H1 _ ⟨s, _⟩ => s.seq hS) ?_ ?_
    · rintro i x H1 hi ⟨s1, eD⟩
      obtain ⟨l, hli, hdl⟩ := dpa_at hA hi
      obtain ⟨c, d, rfl, hT, hF⟩ := dp_line hdl
      have hT1 := sqt_same s1 hT
      top_caughtB
      refine ⟨rfl, ?_⟩
      top_caughtB
      refine ⟨_, Sum.inr l.1, rfl, eD, ?_, Fb.Same.mut s1 hD, ?_⟩
      · rw [List.length_map, List.length_take]
        exact Nat.lt_of_le_of_lt (Nat.min_le_right _ _) (small1000 (by omega))
      · rw [upd_same, put_line S.nd hli]
    · rintro H1 ⟨s1, eD⟩
      rw [List.take_of_length_le (by omega)] at eD
      top_caughtB
      refine ⟨.ref r, rfl, r, rfl, ⟨xs, s1.seq hS⟩, for_list (K := K) (a := r) (xs := xs) (fun i σ H' => ∃ u v w, σ = [some (.ref r), some (.ref D), u, v, w, none, none, none] ∧ Same H1 H')
        ⟨none, none, none, rfl, Same.refl _⟩ (fun i σ H' _ ⟨_, _, _, _, s⟩ => s.seq (s1.seq hS)) ?_ ?_⟩
      · rintro i x σ H2 hi ⟨u, v, w, rfl, s2⟩
        obtain ⟨l, hli, hdl⟩ := dpa_at hA hi
        have hlm := List.mem_of_getElem? hli
        obtain ⟨c, d, rfl, hT, hF⟩ := dp_line hdl
        have s02 := s1.trans s2
        have hT2 := sqt_same s02 hT
        obtain ⟨d', zs, e, hSF, hAF⟩ := dp_forms (dp_same s02 hF)
        cases e
        have hz := dpa_map_len hAF
        have hfl := S.forms l hlm
        have hb := S.base
        have hz0 : 0 < zs.length := by omega
        have h0 : zs[0]? = some zs[0] := List.getElem?_eq_getElem hz0
        obtain ⟨f, hf0, hdf⟩ := dpa_at hAF h0
        have hfm := List.mem_of_getElem? hf0
        obtain ⟨g, ts, eg, hSG, hAG⟩ := dp_form hdf
        rw [eg] at h0
        have ht := dpa_map_len hAG
        have hsm := S.small l hlm f hfm
        top_caughtB
        refine ⟨_, rfl, ?_⟩
        top_caughtB
        refine r_ixL hSF (atI_nat (j := 0) h0) ?_
        refine ⟨g, rfl, ⟨ts, hSG⟩, fun D2 hD2 => ?_⟩
        refine lc_pure (K := K) (σ := [some (.ref r), some (.ref D), some (.str l.1), some (.int l.2.1), some (.ref d), none, none, none]) (vs := [6, 7]) (fun i y H' => ∀ tm, f[i]? = some tm → y = .int (tm.1 * worth (names L) (starts L) tm.2)) (fun i y H1 H2 h s g e => h g e) hSG hD2 (by omega) (fun x H P P' h q => gm_tup2 h q) (fun σ H P P' h q => h _ _ q) ?_ ?_
        · intro j y H3 QQ hj s3 nD hq
          obtain ⟨tm, htm, hdt⟩ := dpa_at hAG hj
          obtain ⟨e, rfl, hT3⟩ := dp_term hdt
          have hT4 := sqt_same s3 hT3
          have htmm := List.mem_of_getElem? htm
          have hkn := S.known l hlm f hfm tm htmm
          unfold LcTurn
          top_caughtB
          refine ⟨rfl, ?_⟩
          top_caughtB
          refine ⟨_, rfl, _, rfl, D, _, rfl, .inl ⟨_, Sum.inr tm.2, .inl (s3 _ _ (s2 _ _ eD)), rfl, (val_line hkn).symm⟩, ?_⟩
          refine r_I (mulx2 (S.coefs l hlm f hfm tm htmm) (worth_small S hkn) (by decide)) ?_
          refine hq _ _ (Same.refl _) fun tm' e' => ?_
          have ett := Option.some.inj (htm.symm.trans e')
          subst ett
          rfl
        · intro H3 ys hlen hR s3 eD3
          have ey : ys = (f.map fun tm => tm.1 * worth (names L) (starts L) tm.2).map V.int := by
            rw [List.map_map]
            exact ext_map (by omega) fun i y x h1 h2 => hR i y h1 x h2
          top_caughtB
          refine ⟨D2, _, rfl, sq_of (ey ▸ eD3), ?_⟩
          top_caughtB
          rw [show decide (V.int l.2.1 = V.int (f.map fun tm => tm.1 * worth (names L) (starts L) tm.2).sum) = true from decide_eq_true (congrArg V.int (S.sound l hlm f hf0))]
          refine iteF ?_
          top_caughtB
          exact ⟨_, _, _, rfl, s2.trans s3⟩
      · rintro σ H2 ⟨u, v, w, rfl, s2⟩
        exact q H2 (s1.trans s2)

def sp_f_step_of (K : PySem.W.Frag) (_ : Ad) : Sp := fun vs H Q _ => ∃ (a b : Addr) (L : List Line) (ns : List Str) (k : Nat), vs = [.ref a, .ref b, .int (k : Int)] ∧ SqL K H a (ns.map V.str) ∧ Dp K H (.ref b) (.list (L.map fun l => dForms l.2.2)) ∧ L.length ≤ 100 ∧
  (∀ l ∈ L, k < l.2.2.length ∧ ∀ f ∈ l.2.2, f.length ≤ 100 ∧ ∀ t ∈ f, t.2 ∈ ns) ∧ ∀ H' r, H r = none → Same H H' → Dp K (nw H H') (.ref r) (dSteps ns L k) → Q (.ref r) H'
theorem ok_f_step_of {P : Program} {w : World} {K : PySem.W.Frag} {mg : Str → Option Value} {base : Heap} {t : Ad} (T : Txt K mg t) : FnOk P w K mg base CX0 1 t.a_f_step_of t.d_f_step_of ["names", "formulas", "figure"] (sp_f_step_of K t) := by
  refine T.F_f_step_of.ok sc_f_step_of (fun vs H Q E h => ?_) (fun cdv A outer s H vs Q E hr h => ?_)
  · obtain ⟨a, b, L, ns, k, rfl, _⟩ := h
    rfl
  · obtain ⟨a, b, L, ns, k, rfl, hN, hd, hl, hk, q⟩ := h
    refine ⟨_, (pss_one (ps_ret (pe_lc (own := [("parts", 3)]) (te := (tLc (iList K (tOp (rIxL K) (tVar 3) (tVar 2))) (gTup K 2 (gCons (gName 4) (gCons (gName 5) gNil))) tYes (tTup (tCons (tVar 4) (tCons (tBM K "list" (rIndex K) (tVar 0) (tCons (tVar 5) tNil)) tNil))) [4, 5])) (tt := tYes) (g := (gName 3)) rfl sc_f_step_of.nd (pi_list (pv 1)) (blkOk_by (own := [("parts", 3)]) (N := N_f_step_of) (sc := defScope s_f_step_of) (by decide +kernel)) (fun _ _ _ _ _ => (pg_name (i := 3) sc_f_step_of.nd rfl (Or.inl rfl))) (fun _ _ _ _ _ => pts_nil) (fun _ _ _ _ _ => (pe_lc (own := [("coefficient", 4), ("name", 5)]) (te := (tTup (tCons (tVar 4) (tCons (tBM K "list" (rIndex K) (tVar 0) (tCons (tVar 5) tNil)) tNil)))) (tt := tYes) (g := (gTup K 2 (gCons (gName 4) (gCons (gName 5) gNil)))) rfl sc_f_step_of.nd (pi_list (pe_ix ix_list (pv 3) (pv 2) (fun _ _ => rfl))) (blkOk_by (own := [("coefficient", 4), ("name", 5)]) (N := N_f_step_of) (by rfl)) (fun _ _ _ _ _ => (pg_tup rfl (pgs_cons (pg_name (i := 4) sc_f_step_of.nd rfl (Or.inl rfl)) (pgs_cons (pg_name (i := 5) sc_f_step_of.nd rfl (Or.inl rfl)) pgs_nil)))) (fun _ _ _ _ _ => pts_nil) (fun _ _ _ _ _ => (pe_tup (pa_cons (pv 4) (pa_cons (pe_bm PySem.F.plainAttrs_list PySem.F.slot_list_index PySem.F.type_list_index mt_index (pv 0) (pa_cons (pv 5) pa_nil)) pa_nil))))))))), ?_⟩
    rw [show L2.start N_f_step_of [V.ref a, V.ref b, V.int (k : Int)] = [some (V.ref a), some (V.ref b), some (V.int (k : Int)), none, none, none] from rfl]; try dsimp only [cxOf]
    obtain ⟨b', xs, e, hS, hA⟩ := dp_list hd
    cases e
    have hx := dpa_map_len hA
    top_caughtB
    refine ⟨.ref b, rfl, b, rfl, ⟨xs, hS⟩, fun D hD => ?_⟩
    refine lc_pure (K := K) (σ := [some (.ref a), some (.ref b), some (.int (k : Int)), none, none, none]) (vs := [3]) (fun i y H' => ∀ l, L[i]? = some l → Dp K H' y (dStep ns (l.2.2.getD k []))) (fun i y H1 H2 h s g e => dp_same s (h g e)) hS hD (by omega) (fun x H P P' h q => gm_name h q) (fun σ H P P' h q => h _ _ q) ?_ ?_
    · intro i x H1 QQ hi s1 nD hq
      obtain ⟨l, hli, hdl⟩ := dpa_at hA hi
      have hlm := List.mem_of_getElem? hli
      obtain ⟨hkl, hfs⟩ := hk l hlm
      obtain ⟨c, zs, rfl, hSf, hAf⟩ := dp_forms (dp_same s1 hdl)
      have hz := dpa_map_len hAf
      have hkz : k < zs.length := by omega
      have h0 : zs[k]? = some zs[k] := List.getElem?_eq_getElem hkz
      obtain ⟨f, hf0, hdf⟩ := dpa_at hAf h0
      have hfm := List.mem_of_getElem? hf0
      obtain ⟨g, ts, eg, hSG, hAG⟩ := dp_form hdf
      rw [eg] at h0
      have ht := dpa_map_len hAG
      obtain ⟨hfl, hft⟩ := hfs f hfm
      have hgd : l.2.2.getD k [] = f := by
        rw [List.getD_eq_getElem?_getD, hf0]
        rfl
      unfold LcTurn
      top_caughtB
      refine ⟨rfl, ?_⟩
      top_caughtB
      refine ⟨_, rfl, ?_⟩
      top_caughtB
      refine r_ixL hSf (atI_nat h0) ?_
      refine ⟨g, rfl, ⟨ts, hSG⟩, fun D2 hD2 => ?_⟩
      refine lc_pure (K := K) (σ := [some (.ref a), some (.ref b), some (.int (k : Int)), some (.ref c), none, none]) (vs := [4, 5]) (fun i y H' => ∀ tm, f[i]? = some tm → Dp K H' y (.tuple [.int tm.1, .int (ns.idxOf tm.2 : Nat)])) (fun i y H1 H2 h s g e => dp_same s (h g e)) hSG hD2 (by omega) (fun x H P P' h q => gm_tup2 h q) (fun σ H P P' h q => h _ _ q) ?_ ?_
      · intro j y H3 QQ hj s3 nD hq
        obtain ⟨tm, htm, hdt⟩ := dpa_at hAG hj
        obtain ⟨e, rfl, hT3⟩ := dp_term hdt
        have hT4 := sqt_same s3 hT3
        have hkn := hft tm (List.mem_of_getElem? htm)
        have hN4 := s3.seq (s1.seq hN)
        unfold LcTurn
        top_caughtB
        refine ⟨rfl, ?_⟩
        top_caughtB
        refine ⟨.inl ⟨rfl, _, hN4⟩, ?_⟩
        top_caughtB
        refine ⟨a, ns.map V.str, .str tm.2, ns.idxOf tm.2, .str tm.2, rfl, rfl, hN4, rfl, all_flat_strs _, idx_at hkn, beq_self_eq_true tm.2, fun m z' hm e => idx_first hm e, ?_⟩
        top_caughtB
        intro p np
        refine hq _ _ (same_new np) fun tm' e' => ?_
        have ett := Option.some.inj (htm.symm.trans e')
        subst ett
        exact .tup (st_of ((nw_new np).trans upd_same)) (.cons (.int _) (.cons (.int _) .nil))
      · intro H3 ys hlen hR s3 eD3
        refine hq _ _ s3 fun l' e' => ?_
        have ell := Option.some.inj (hli.symm.trans e')
        subst ell
        rw [hgd]
        exact .lst (sq_of ((nw_new hD2).trans eD3)) (dpa_map (by omega) fun i y tm h1 h2 => hR i y h1 tm h2)
    · intro H1 ys hlen hR s1 eD
      refine q H1 D hD s1 (.lst (sq_of ((nw_new hD).trans eD)) ?_)
      exact dpa_map (by omega) fun i y g h1 h2 => hR i y h1 g h2


def sp_f_System___init__ (K : PySem.W.Frag) (t : Ad) : Sp := fun vs H Q _ => ∃ (y dx a c : Addr) (S : Sys), vs = [.ref y, .ref a, .ref c] ∧ H y = some (.ins t.C_System dx []) ∧ SqL K (hid y H) a (S.1.map V.int) ∧ StepsAt K (hid y H) (.ref c) S.2 ∧
  S.2.length ≤ 900 ∧ (∀ r ∈ S.2, r.length ≤ 900 ∧ ∀ f ∈ r, f.length ≤ 900) ∧ ∀ H', Keep y H H' → SysC t.C_System K (nw (hid y H) H') y S → Q .non H'
theorem ok_f_System___init__ {P : Program} {w : World} {K : PySem.W.Frag} {mg : Str → Option Value} {base : Heap} {t : Ad} (T : Txt K mg t) : FnOk P w K mg base CX0 1 t.a_f_System___init__ t.d_f_System___init__ ["self", "starts", "steps"] (sp_f_System___init__ K t) := by
  refine T.F_f_System___init__.ok sc_f_System___init__ (fun vs H Q E h => ?_) (fun cdv A outer s H vs Q E hr h => ?_)
  · obtain ⟨y, dx, a, c, S, rfl, _⟩ := h
    rfl
  · obtain ⟨y, dx, a, c, S, rfl, hY, hA, hC, hz, hz2, q⟩ := h
    refine ⟨_, (pss_cons (ps_fld (pv 0) (pe_callTy (T := "tuple") call_tuple_of (by rfl) T.m_tuple (by decide +kernel) (pa_cons (pv 1) pa_nil)) rfl)
      (pss_one (ps_fld (pv 0) (pe_callTy (T := "tuple") call_tuple_of (by rfl) T.m_tuple (by decide +kernel) (pa_cons (pe_lc (own := [("step", 3)]) (te := (tCB (rTupOf K) (tCons (tLc (iList K (tVar 3)) (gName 4) tYes (tCB (rTupOf K) (tCons (tVar 4) tNil)) [4]) tNil))) (tt := tYes) (g := (gName 3)) rfl sc_f_System___init__.nd (pi_list (pv 2)) (blkOk_by (own := [("step", 3)]) (N := N_f_System___init__) (sc := defScope s_f_System___init__) (by decide +kernel)) (fun _ _ _ _ _ => (pg_name (i := 3) sc_f_System___init__.nd rfl (Or.inl rfl))) (fun _ _ _ _ _ => pts_nil) (fun _ _ _ _ _ => (pe_callTy (T := "tuple") call_tuple_of (by rfl) T.m_tuple (by decide +kernel) (pa_cons (pe_lc (own := [("terms", 4)]) (te := (tCB (rTupOf K) (tCons (tVar 4) tNil))) (tt := tYes) (g := (gName 4)) rfl sc_f_System___init__.nd (pi_list (pv 3)) (blkOk_by (own := [("terms", 4)]) (N := N_f_System___init__) (by rfl)) (fun _ _ _ _ _ => (pg_name (i := 4) sc_f_System___init__.nd rfl (Or.inl rfl))) (fun _ _ _ _ _ => pts_nil) (fun _ _ _ _ _ => (pe_callTy (T := "tuple") call_tuple_of (by rfl) T.m_tuple (by decide +kernel) (pa_cons (pv 4) pa_nil)))) pa_nil)))) pa_nil)) rfl))), ?_⟩
    rw [show L2.start N_f_System___init__ [V.ref y, V.ref a, V.ref c] = [some (V.ref y), some (V.ref a), some (V.ref c), none, none] from rfl]; try dsimp only [cxOf]
    top_caughtB
    refine ⟨a, _, rfl, .inl ⟨Same.seq hid_le hA, fun l nl => ?_⟩⟩
    top_caughtB
    have nyl : y ≠ l := ne_of_none hY nl
    refine ⟨y, t.C_System, dx, [], rfl, upd_old nl hY, T.c_System, T.n_System__starts, by decide, ?_⟩
    have k1 : Keep y H (upd (upd H l (.tup (S.1.map V.int))) y (.ins t.C_System dx (putF "_starts" (.ref l) []))) := (Keep.new nl).trans Keep.upd
    have y1 : (upd (upd H l (.tup (S.1.map V.int))) y (.ins t.C_System dx (putF "_starts" (.ref l) []))) y = some (.ins t.C_System dx (putF "_starts" (.ref l) [])) := upd_same
    have l1 : (upd (upd H l (.tup (S.1.map V.int))) y (.ins t.C_System dx (putF "_starts" (.ref l) []))) l = some (.tup (S.1.map V.int)) := by
      rw [upd_ne nyl.symm, upd_same]
    generalize hH1 : (upd (upd H l (.tup (S.1.map V.int))) y (.ins t.C_System dx (putF "_starts" (.ref l) []))) = H1 at k1 y1 l1 ⊢
    have A1 := keep_same k1
    have nl0 : hid y H l = none := by
      unfold hid
      rw [if_neg nyl.symm]
      exact nl
    obtain ⟨c', xs, ec, hS, hxl, hx⟩ := hC.same A1
    cases ec
    top_caughtB
    refine ⟨.ref c, rfl, c, rfl, ⟨xs, hS⟩, fun D hD => ?_⟩
    refine lc_pure (K := K) (σ := [some (.ref y), some (.ref a), some (.ref c), none, none]) (vs := [3]) (fun i v H' => ∀ row, S.2[i]? = some row → Dp K H' v (dStT row)) (fun i v H1 H2 h s g e => dp_same s (h g e)) hS hD (by omega) (fun x H P P' h q => gm_name h q) (fun σ H P P' h q => h _ _ q) ?_ ?_
    · intro i v H2 QQ hi s2 nD hq
      have hil : i < S.2.length := by
        have := (List.getElem?_eq_some_iff.mp hi).1
        omega
      have hrow : S.2[i]? = some S.2[i] := List.getElem?_eq_getElem hil
      obtain ⟨r, ys, rfl, hSy, hyl, hy⟩ := (hx i v _ hi hrow).same s2
      have hr2 := hz2 _ (List.getElem_mem hil)
      unfold LcTurn
      top_caughtB
      refine ⟨rfl, ?_⟩
      top_caughtB
      refine ⟨.ref r, rfl, r, rfl, ⟨ys, hSy⟩, fun D2 hD2 => ?_⟩
      refine lc_pure (K := K) (σ := [some (.ref y), some (.ref a), some (.ref c), some (.ref r), none]) (vs := [4]) (fun j v H' => ∀ f, S.2[i][j]? = some f → Dp K H' v (dTms f)) (fun i v H1 H2 h s g e => dp_same s (h g e)) hSy hD2 (by omega) (fun x H P P' h q => gm_name h q) (fun σ H P P' h q => h _ _ q) ?_ ?_
      · intro j v H3 QQ2 hj s3 nD2 hq2
        have hjl : j < S.2[i].length := by
          have := (List.getElem?_eq_some_iff.mp hj).1
          omega
        have hf : S.2[i][j]? = some S.2[i][j] := List.getElem?_eq_getElem hjl
        obtain ⟨e, zs, rfl, hzs, hAz⟩ := (hy j v _ hj hf).same s3
        unfold LcTurn
        top_caughtB
        refine ⟨rfl, ?_⟩
        top_caughtB
        rcases hzs with hzs | hzs
        · refine ⟨e, zs, rfl, .inl ⟨hzs, fun l2 nl2 => ?_⟩⟩
          refine hq2 _ _ (same_new nl2) fun f ef => ?_
          have eff := Option.some.inj (hf.symm.trans ef)
          subst eff
          exact .tup (st_of ((nw_new nl2).trans upd_same)) (dpa_tms_nw (same_new nl2) hAz)
        · refine ⟨e, zs, rfl, .inr ⟨hzs, ?_⟩⟩
          refine hq2 _ _ (Same.refl _) fun f ef => ?_
          have eff := Option.some.inj (hf.symm.trans ef)
          subst eff
          exact .tup (sqt_nw (Same.refl _) hzs) (dpa_tms_nw (Same.refl _) hAz)
      · intro H3 zs hlen3 hR3 s3 eD3
        top_caughtB
        refine ⟨D2, zs, rfl, .inl ⟨sq_of eD3, fun l2 nl2 => ?_⟩⟩
        refine hq _ _ (s3.trans (same_new nl2)) fun row er => ?_
        have err := Option.some.inj (hrow.symm.trans er)
        subst err
        have nl3 : H2 l2 = none := s3.free nl2
        refine .tup (st_of ((nw_new nl3).trans upd_same)) (dpa_same (nw_mono (same_new nl2)) (dpa_map (by omega) fun j v f h1 h2 => hR3 j v h1 f h2))
    · intro H2 vs hlen2 hR2 s2 eD
      top_caughtB
      refine ⟨D, vs, rfl, .inl ⟨sq_of eD, fun l2 nl2 => ?_⟩⟩
      top_caughtB
      have y2 := s2 _ _ y1
      have ny2 : y ≠ l2 := ne_of_none y2 nl2
      refine ⟨y, t.C_System, dx, _, rfl, upd_old nl2 y2, T.c_System, T.n_System__steps, by show 1 < 1000; decide, ?_⟩
      have kk : Keep y H (upd (upd H2 l2 (.tup vs)) y (.ins t.C_System dx (putF "_steps" (.ref l2) (putF "_starts" (.ref l) [])))) := (k1.trans (Keep.of_same s2)).trans ((Keep.new nl2).trans Keep.upd)
      have n0 : hid y H y = none := by
        unfold hid
        rw [if_pos rfl]
      have nl2H : H1 l2 = none := s2.free nl2
      have nl20 : hid y H l2 = none := by
        cases e : hid y H l2 with
        | none => rfl
        | some o =>
          rw [A1 _ _ e] at nl2H
          cases nl2H
      refine q _ kk ⟨dx, l, l2, ?_, ?_, ?_⟩
      · rw [nw_new n0, upd_same, sy_put]
      · refine st_of ?_
        rw [nw_new nl0, upd_ne nyl.symm, upd_old nl2 (s2 _ _ l1)]
      · refine .tup (xs := vs) (st_of ?_) ?_
        · rw [nw_new nl20, upd_ne ny2.symm, upd_same]
        · have hd : DpAll K (nw H1 H2) vs (S.2.map dStT) := dpa_map (by omega) fun i v row h1 h2 => hR2 i v h1 row h2
          have hm1 : Same (nw H1 H2) (nw (hid y H) (hid y H2)) := nw_in A1 y1 rfl
          refine dpa_same (hm1.trans ?_) hd
          have e2 : hid y H2 = hid y (upd H2 y (.ins t.C_System dx (putF "_steps" (.ref l2) (putF "_starts" (.ref l) [])))) := (hid_upd).symm
          refine nw_mono ?_
          intro b o e
          obtain ⟨e1, nb⟩ := hid_of e
          rw [upd_ne nb]
          exact upd_old nl2 e1


def sp_f_Book___init__ (K : PySem.W.Frag) (t : Ad) : Sp := fun vs H Q _ => ∃ (x dx r : Addr) (b : Int) (L : List Line), vs = [.ref x, .int b, .ref r] ∧ H x = some (.ins t.C_Book dx []) ∧ Dp K (hid x H) (.ref r) (dRows L) ∧ Sound b L ∧
  ∀ H', Keep x H H' → BookC (t.C_Book, t.C_System) K (nw (hid x H) H') x b L → Q .non H'
theorem ok_f_Book___init__ {P : Program} {w : World} {K : PySem.W.Frag} {mg : Str → Option Value} {base : Heap} {t : Ad} (T : Txt K mg t) : FnOk P w K mg base CX0 3 t.a_f_Book___init__ t.d_f_Book___init__ ["self", "base", "rows"] (sp_f_Book___init__ K t) := by
  refine T.F_f_Book___init__.ok sc_f_Book___init__ (fun vs H Q E h => ?_) (fun cdv A outer s H vs Q E hr h => ?_)
  · obtain ⟨x, dx, r, b, L, rfl, _⟩ := h
    rfl
  · obtain ⟨x, dx, r, b, L, rfl, hX, hd, S, q⟩ := h
    refine ⟨_, (pss_cons (ps_expr (pe_call (ok_f_check_base T) (hr.mono (by decide)) (by rfl) T.g_f_check_base T.F_f_check_base.kp T.b_f_check_base .nil pass0 (pa_cons (pv 1) pa_nil)))
      (pss_cons (ps_expr (pe_call (ok_f_check_names T) (hr.mono (by decide)) (by rfl) T.g_f_check_names T.F_f_check_names.kp T.b_f_check_names .nil pass0 (pa_cons (pv 2) pa_nil)))
      (pss_cons (ps_expr (pe_call (ok_f_check_formulas T) (hr.mono (by decide)) (by rfl) T.g_f_check_formulas T.F_f_check_formulas.kp T.b_f_check_formulas .nil pass0 (pa_cons (pv 1) (pa_cons (pv 2) pa_nil))))
      (pss_cons (ps_expr (pe_call (ok_f_check_starts T) (hr.mono (by decide)) (by rfl) T.g_f_check_starts T.F_f_check_starts.kp T.b_f_check_starts .nil pass0 (pa_cons (pv 2) pa_nil)))
      (pss_cons (ps_fld (pv 0) (pv 1) rfl)
      (pss_cons (ps_fld (pv 0) (pe_lc (own := [("name", 3), ("_", 4)]) (te := (tVar 3)) (tt := tYes) (g := (gTup K 3 (gCons (gName 3) (gCons (gName 4) (gCons (gName 4) gNil))))) rfl sc_f_Book___init__.nd (pi_list (pv 2)) (blkOk_by (own := [("name", 3), ("_", 4)]) (N := N_f_Book___init__) (sc := defScope s_f_Book___init__) (by decide +kernel)) (fun _ _ _ _ _ => (pg_tup rfl (pgs_cons (pg_name (i := 3) sc_f_Book___init__.nd rfl (Or.inl rfl)) (pgs_cons (pg_name (i := 4) sc_f_Book___init__.nd rfl (Or.inl rfl)) (pgs_cons (pg_name (i := 4) sc_f_Book___init__.nd rfl (Or.inl rfl)) pgs_nil))))) (fun _ _ _ _ _ => pts_nil) (fun _ _ _ _ _ => (pv 3))) rfl)
      (pss_cons (ps_fld (pv 0) (pe_lc (own := [("_", 4), ("start", 5)]) (te := (tVar 5)) (tt := tYes) (g := (gTup K 3 (gCons (gName 4) (gCons (gName 5) (gCons (gName 4) gNil))))) rfl sc_f_Book___init__.nd (pi_list (pv 2)) (blkOk_by (own := [("_", 4), ("start", 5)]) (N := N_f_Book___init__) (sc := defScope s_f_Book___init__) (by decide +kernel)) (fun _ _ _ _ _ => (pg_tup rfl (pgs_cons (pg_name (i := 4) sc_f_Book___init__.nd rfl (Or.inl rfl)) (pgs_cons (pg_name (i := 5) sc_f_Book___init__.nd rfl (Or.inl rfl)) (pgs_cons (pg_name (i := 4) sc_f_Book___init__.nd rfl (Or.inl rfl)) pgs_nil))))) (fun _ _ _ _ _ => pts_nil) (fun _ _ _ _ _ => (pv 5))) rfl)
      (pss_cons (ps_fld (pv 0) (pe_lc (own := [("_", 4), ("formulas", 6)]) (te := (tCall (sp_f_copied K t) [] E0 (tCons (tVar 6) tNil))) (tt := tYes) (g := (gTup K 3 (gCons (gName 4) (gCons (gName 4) (gCons (gName 6) gNil))))) rfl sc_f_Book___init__.nd (pi_list (pv 2)) (blkOk_by (own := [("_", 4), ("formulas", 6)]) (N := N_f_Book___init__) (sc := defScope s_f_Book___init__) (by decide +kernel)) (fun _ _ _ _ _ => (pg_tup rfl (pgs_cons (pg_name (i := 4) sc_f_Book___init__.nd rfl (Or.inl rfl)) (pgs_cons (pg_name (i := 4) sc_f_Book___init__.nd rfl (Or.inl rfl)) (pgs_cons (pg_name (i := 6) sc_f_Book___init__.nd rfl (Or.inl rfl)) pgs_nil))))) (fun _ _ _ _ _ => pts_nil) (fun _ _ _ _ _ => (pe_call (ok_f_copied T) (hr.mono (by decide)) (by rfl) T.g_f_copied T.F_f_copied.kp T.b_f_copied .nil pass0 (pa_cons (pv 6) pa_nil)))) rfl)
      (pss_one (ps_fld (pv 0) (pe_make T.k_System (ok_f_System___init__ T) (hr.mono (by decide)) (by rfl) T.g_System T.b_f_System___init__ .nil pass0 (pa_cons (pe_fld (pv 0) rfl) (pa_cons (pe_lc (own := [("figure", 7)]) (te := (tCall (sp_f_step_of K t) [] E0 (tCons (tFld K (tVar 0) "_names") (tCons (tFld K (tVar 0) "_formulas") (tCons (tVar 7) tNil))))) (tt := tYes) (g := (gName 7)) rfl sc_f_Book___init__.nd (pi_range1 (by rfl) T.m_range (pa_cons (pv 1) pa_nil)) (blkOk_by (own := [("figure", 7)]) (N := N_f_Book___init__) (sc := defScope s_f_Book___init__) (by decide +kernel)) (fun _ _ _ _ _ => (pg_name (i := 7) sc_f_Book___init__.nd rfl (Or.inl rfl))) (fun _ _ _ _ _ => pts_nil) (fun _ _ _ _ _ => (pe_call (ok_f_step_of T) (hr.mono (by decide)) (by rfl) T.g_f_step_of T.F_f_step_of.kp T.b_f_step_of .nil pass0 (pa_cons (pe_fld (pv 0) rfl) (pa_cons (pe_fld (pv 0) rfl) (pa_cons (pv 7) pa_nil)))))) pa_nil))) rfl)))))))))), ?_⟩
    rw [show L2.start N_f_Book___init__ [V.ref x, V.int b, V.ref r] = [some (V.ref x), some (V.int b), some (V.ref r), none, none, none, none, none] from rfl]; try dsimp only [cxOf]
    obtain ⟨r', xs, e, hS, hA⟩ := dp_list hd
    cases e
    have hx := dpa_map_len hA
    have hm := S.many
    have hid0 : Same (hid x H) H := hid_le
    have hdH := dp_same hid0 hd
    have h26 : ∀ l ∈ L, letterB l.1 = true ∧ l.1.length ≤ 1000 := S.letters
    top_caughtB
    refine ⟨b, rfl, S.base, fun H1 s1 => ?_⟩
    top_caughtB
    refine ⟨r, L, rfl, dp_same s1 hdH, by omega, h26, S.nd, fun H2 s2 => ?_⟩
    have s02 := s1.trans s2
    top_caughtB
    refine ⟨b, r, L, rfl, dp_same s02 hdH, S, fun H3 s3 => ?_⟩
    have s03 := s02.trans s3
    top_caughtB
    refine ⟨b, r, L, rfl, dp_same s03 hdH, S, fun H4 s4 => ?_⟩
    have s04 := s03.trans s4
    have x4 := s04 _ _ hX
    top_caughtB
    refine ⟨x, t.C_Book, dx, [], rfl, x4, T.c_Book, T.n_Book__base, by decide, ?_⟩
    have k5 : Keep x H (upd H4 x (.ins t.C_Book dx (putF "_base" (.int b) []))) := (Keep.of_same s04).trans Keep.upd
    have x5 : (upd H4 x (.ins t.C_Book dx (putF "_base" (.int b) []))) x = some (.ins t.C_Book dx (putF "_base" (.int b) [])) := upd_same
    generalize hH5 : upd H4 x (.ins t.C_Book dx (putF "_base" (.int b) [])) = H5 at k5 x5 ⊢
    have A5 := keep_same k5
    -- the names
    top_caughtB
    refine ⟨.ref r, rfl, r, rfl, ⟨xs, A5.seq hS⟩, fun D1 hD1 => ?_⟩
    refine lc_pure (K := K) (σ := [some (.ref x), some (.int b), some (.ref r), none, none, none, none, none]) (vs := [3, 4]) (fun i y H' => ∀ l, L[i]? = some l → y = .str l.1) (fun i y H1 H2 h s g e => h g e) (A5.seq hS) hD1 (by omega) (fun x H P P' h q => gm_tup3 h q) (fun σ H P P' h q => h _ _ q) ?_ ?_
    · intro i y H' QQ hi s1 nD hq
      obtain ⟨l, hl, hdl⟩ := dpa_at hA hi
      obtain ⟨c, d, rfl, hT, hF⟩ := dp_line hdl
      have hT1 := sqt_same (A5.trans s1) hT
      unfold LcTurn
      top_caughtB
      refine ⟨rfl, ?_⟩
      top_caughtB
      exact hq _ _ (Same.refl _) fun l' e' => by
        have e := Option.some.inj (hl.symm.trans e')
        subst e
        rfl
    intro H6 ys1 hlen1 hR1 s6 eD1
    have ey1 : ys1 = (names L).map V.str := by
      unfold names
      rw [List.map_map]
      exact ext_map (by omega) fun i y l h1 h2 => hR1 i y h1 l h2
    subst ey1
    have x6 := s6 _ _ x5
    have g1 : nw (hid x H) (hid x H6) D1 = some (.lst ((names L).map V.str)) := nw_in A5 x5 rfl _ _ ((nw_new hD1).trans eD1)
    have k6 := k5.trans (Keep.of_same s6)
    top_caughtB
    refine ⟨x, t.C_Book, dx, _, rfl, x6, T.c_Book, T.n_Book__names, by show 1 < 1000; decide, ?_⟩
    have k7 : Keep x H (upd H6 x (.ins t.C_Book dx (putF "_names" (.ref D1) (putF "_base" (.int b) [])))) := k6.trans Keep.upd
    have x7 : (upd H6 x (.ins t.C_Book dx (putF "_names" (.ref D1) (putF "_base" (.int b) [])))) x = some (.ins t.C_Book dx (putF "_names" (.ref D1) (putF "_base" (.int b) []))) := upd_same
    rw [← hid_upd (D := x) (H := H6) (o := (.ins t.C_Book dx (putF "_names" (.ref D1) (putF "_base" (.int b) []))))] at g1
    generalize hH7 : upd H6 x (.ins t.C_Book dx (putF "_names" (.ref D1) (putF "_base" (.int b) []))) = H7 at k7 x7 g1 ⊢
    have A7 := keep_same k7
    -- the starts
    top_caughtB
    refine ⟨.ref r, rfl, r, rfl, ⟨xs, A7.seq hS⟩, fun D2 hD2 => ?_⟩
    refine lc_pure (K := K) (σ := [some (.ref x), some (.int b), some (.ref r), none, none, none, none, none]) (vs := [4, 5]) (fun i y H' => ∀ l, L[i]? = some l → y = .int l.2.1) (fun i y H1 H2 h s g e => h g e) (A7.seq hS) hD2 (by omega) (fun x H P P' h q => gm_tup3 h q) (fun σ H P P' h q => h _ _ q) ?_ ?_
    · intro i y H' QQ hi s1 nD hq
      obtain ⟨l, hl, hdl⟩ := dpa_at hA hi
      obtain ⟨c, d, rfl, hT, hF⟩ := dp_line hdl
      have hT1 := sqt_same (A7.trans s1) hT
      unfold LcTurn
      top_caughtB
      refine ⟨rfl, ?_⟩
      top_caughtB
      exact hq _ _ (Same.refl _) fun l' e' => by
        have e := Option.some.inj (hl.symm.trans e')
        subst e
        rfl
    intro H8 ys2 hlen2 hR2 s8 eD2
    have ey2 : ys2 = (starts L).map V.int := by
      unfold starts
      rw [List.map_map]
      exact ext_map (by omega) fun i y l h1 h2 => hR2 i y h1 l h2
    subst ey2
    have x8 := s8 _ _ x7
    have g1 := nw_mono (H := hid x H) (hid_same s8) _ _ g1
    have g2 : nw (hid x H) (hid x H8) D2 = some (.lst ((starts L).map V.int)) := nw_in A7 x7 rfl _ _ ((nw_new hD2).trans eD2)
    have k8 := k7.trans (Keep.of_same s8)
    top_caughtB
    refine ⟨x, t.C_Book, dx, _, rfl, x8, T.c_Book, T.n_Book__starts, by show 2 < 1000; decide, ?_⟩
    have k9 : Keep x H (upd H8 x (.ins t.C_Book dx (putF "_starts" (.ref D2) (putF "_names" (.ref D1) (putF "_base" (.int b) []))))) := k8.trans Keep.upd
    have x9 : (upd H8 x (.ins t.C_Book dx (putF "_starts" (.ref D2) (putF "_names" (.ref D1) (putF "_base" (.int b) []))))) x = some (.ins t.C_Book dx (putF "_starts" (.ref D2) (putF "_names" (.ref D1) (putF "_base" (.int b) [])))) := upd_same
    rw [← hid_upd (D := x) (H := H8) (o := (.ins t.C_Book dx (putF "_starts" (.ref D2) (putF "_names" (.ref D1) (putF "_base" (.int b) [])))))] at g1 g2
    generalize hH9 : upd H8 x (.ins t.C_Book dx (putF "_starts" (.ref D2) (putF "_names" (.ref D1) (putF "_base" (.int b) [])))) = H9 at k9 x9 g1 g2 ⊢
    have A9 := keep_same k9
    -- the formulas
    top_caughtB
    refine ⟨.ref r, rfl, r, rfl, ⟨xs, A9.seq hS⟩, fun D3 hD3 => ?_⟩
    refine lc_pure (K := K) (σ := [some (.ref x), some (.int b), some (.ref r), none, none, none, none, none]) (vs := [4, 6]) (fun i y H' => ∀ l, L[i]? = some l → Dp K H' y (dForms l.2.2)) (fun i y H1 H2 h s g e => dp_same s (h g e)) (A9.seq hS) hD3 (by omega) (fun x H P P' h q => gm_tup3 h q) (fun σ H P P' h q => h _ _ q) ?_ ?_
    · intro i y H' QQ hi s1 nD hq
      obtain ⟨l, hl, hdl⟩ := dpa_at hA hi
      obtain ⟨c, d, rfl, hT, hF⟩ := dp_line hdl
      have hT1 := sqt_same (A9.trans s1) hT
      unfold LcTurn
      top_caughtB
      refine ⟨rfl, ?_⟩
      top_caughtB
      refine ⟨d, l.2.2, rfl, dp_same (A9.trans s1) hF, Nat.le_trans (sound_len S (List.mem_of_getElem? hl)) (by decide), fun H'' r'' nr ss dd _ => hq _ _ ss fun l' e' => ?_⟩
      have e := Option.some.inj (hl.symm.trans e')
      subst e
      exact dd
    intro H10 ys3 hlen3 hR3 s10 eD3
    have x10 := s10 _ _ x9
    have g1 := nw_mono (H := hid x H) (hid_same s10) _ _ g1
    have g2 := nw_mono (H := hid x H) (hid_same s10) _ _ g2
    have g3 : Dp K (nw (hid x H) (hid x H10)) (.ref D3) (.list (L.map fun l => dForms l.2.2)) := dp_same (nw_in A9 x9 rfl) (.lst (sq_of ((nw_new hD3).trans eD3)) (dpa_map (by omega) fun i y l h1 h2 => hR3 i y h1 l h2))
    have k10 := k9.trans (Keep.of_same s10)
    top_caughtB
    refine ⟨x, t.C_Book, dx, _, rfl, x10, T.c_Book, T.n_Book__formulas, by show 3 < 1000; decide, ?_⟩
    have k11 : Keep x H (upd H10 x (.ins t.C_Book dx (putF "_formulas" (.ref D3) (putF "_starts" (.ref D2) (putF "_names" (.ref D1) (putF "_base" (.int b) [])))))) := k10.trans Keep.upd
    have x11 : (upd H10 x (.ins t.C_Book dx (putF "_formulas" (.ref D3) (putF "_starts" (.ref D2) (putF "_names" (.ref D1) (putF "_base" (.int b) [])))))) x = some (.ins t.C_Book dx (putF "_formulas" (.ref D3) (putF "_starts" (.ref D2) (putF "_names" (.ref D1) (putF "_base" (.int b) []))))) := upd_same
    rw [← hid_upd (D := x) (H := H10) (o := (.ins t.C_Book dx (putF "_formulas" (.ref D3) (putF "_starts" (.ref D2) (putF "_names" (.ref D1) (putF "_base" (.int b) []))))))] at g1 g2 g3
    generalize hH11 : upd H10 x (.ins t.C_Book dx (putF "_formulas" (.ref D3) (putF "_starts" (.ref D2) (putF "_names" (.ref D1) (putF "_base" (.int b) []))))) = H11 at k11 x11 g1 g2 g3 ⊢
    have A11 := keep_same k11
    -- the system
    have hb := S.base
    top_caughtB
    refine ⟨x, t.C_Book, dx, _, _, rfl, x11, T.c_Book, T.n_Book__starts, by rw [lookup_putF, if_neg (by decide +kernel), lookup_putF, if_pos rfl], ?_⟩
    top_caughtB
    refine ⟨_, rfl, b, rfl, by show -4611686018427387904 ≤ b; omega, by show b < 4611686018427387904; omega, fun D4 hD4 => ?_⟩
    refine lr_pure (σ := [some (.ref x), some (.int b), some (.ref r), none, none, none, none, none]) (vs := [7]) (fun i y H' => Dp K H' y (dSteps (names L) L i)) (fun i y H1 H2 h s => dp_same s h) hD4 (by omega) (fun x H P P' h q => gm_name h q) (fun σ H P P' h q => h _ _ q) ?_ ?_
    · intro i H' QQ hi s1 nD hq
      have xi := s1 _ _ x11
      have gi1 := nw_le _ _ (nw_mono (H := hid x H) (hid_same (p := x) s1) _ _ g1)
      have gi3 := dp_same hid_le (dp_same nw_le (dp_same (nw_mono (H := hid x H) (hid_same (p := x) s1)) g3))
      unfold LcTurn
      top_caughtB
      refine ⟨rfl, ?_⟩
      top_caughtB
      refine ⟨x, t.C_Book, dx, _, _, rfl, xi, T.c_Book, T.n_Book__names, by rw [lookup_putF, if_neg (by decide +kernel), lookup_putF, if_neg (by decide +kernel), lookup_putF, if_pos rfl], ?_⟩
      top_caughtB
      refine ⟨x, t.C_Book, dx, _, _, rfl, xi, T.c_Book, T.n_Book__formulas, by rw [lookup_putF, if_pos rfl], ?_⟩
      top_caughtB
      refine ⟨D1, D3, L, names L, i, by rw [Int.zero_add], sq_of (hid_le _ _ gi1), gi3, by omega, fun l hl => ?_, fun H'' r'' nr ss dd => hq _ _ ss dd⟩
      have h1 := S.forms l hl
      exact ⟨by omega, fun f hf => ⟨S.small l hl f hf, S.known l hl f hf⟩⟩
    intro H12 ys4 hlen4 hR4 s12 eD4
    have x12 := s12 _ _ x11
    have g1 := nw_mono (H := hid x H) (hid_same s12) _ _ g1
    have g2 := nw_mono (H := hid x H) (hid_same s12) _ _ g2
    have g3 := dp_same (nw_mono (H := hid x H) (hid_same s12)) g3
    have d4 : Dp K H12 (.ref D4) (.list ((List.range b.toNat).map (dSteps (names L) L))) := .lst (sq_of eD4) (dpa_map (by rw [List.length_range]; omega) fun i y j h1 h2 => by
      have h3 := dp_same nw_le (hR4 i y h1)
      have e : i = j := by
        have := (List.getElem?_eq_some_iff.mp h2).2
        simpa using this
      subst e
      exact h3)
    have k12 := k11.trans (Keep.of_same s12)
    have O := sok_sys S
    top_caughtB
    intro y dy ny ndy ney
    have xny : x ≠ y := ne_of_none x12 ny
    refine ⟨y, dy, D2, D4, sysOf b L, rfl, upd_same, sq_of (made_hid ny ndy _ _ (hid_le _ _ (nw_le _ _ g2))), (steps_of_dp d4).same (made_hid ny ndy), by have := O.base; omega, fun r hr => ⟨by rw [O.rows r hr]; exact O.many, O.small r hr⟩, fun H13 k13 Y => ⟨rfl, ?_⟩⟩
    have s13 := made_same ny ndy k13
    have x13 := s13 _ _ x12
    have g1 := nw_mono (H := hid x H) (hid_same s13) _ _ g1
    have g2 := nw_mono (H := hid x H) (hid_same s13) _ _ g2
    have g3 := dp_same (nw_mono (H := hid x H) (hid_same s13)) g3
    have A12 := keep_same k12
    have g4 : SysC t.C_System K (nw (hid x H) (hid x H13)) y (sysOf b L) := (Y.same (nw_back (made_hid ny ndy))).same (nw_in A12 x12 rfl)
    have k13 := k12.trans (Keep.of_same s13)
    top_caughtB
    refine ⟨x, t.C_Book, dx, _, rfl, x13, T.c_Book, T.n_Book__system, by show 4 < 1000; decide, ?_⟩
    have hz : ∀ o : HO, Same (nw (hid x H) (hid x H13)) (nw (hid x H) (upd H13 x o)) := fun o => by
      rw [← hid_upd (D := x) (H := H13) (o := o)]
      exact nw_mono hid_le
    refine q _ (k13.trans Keep.upd) ⟨dx, D1, D2, D3, y, ?_, hz _ _ _ g1, hz _ _ _ g2, dp_same (hz _) g3, g4.same (hz _)⟩
    rw [nw_new (by unfold hid; rw [if_pos rfl]), upd_same, bk_put]


def sp_f_Book_base (K : PySem.W.Frag) (t : Ad) : Sp := fun vs H Q _ => ∃ (x : Addr) (b : Int) (L : List Line), vs = [.ref x] ∧ BookC (t.C_Book, t.C_System) K H x b L ∧ Q (.int b) H
theorem ok_f_Book_base {P : Program} {w : World} {K : PySem.W.Frag} {mg : Str → Option Value} {base : Heap} {t : Ad} (T : Txt K mg t) : FnOk P w K mg base CX0 1 t.a_f_Book_base t.d_f_Book_base ["self"] (sp_f_Book_base K t) := by
  refine T.F_f_Book_base.ok sc_f_Book_base (fun vs H Q E h => ?_) (fun cdv A outer s H vs Q E hr h => ?_)
  · obtain ⟨x, b, L, rfl, _⟩ := h
    rfl
  · obtain ⟨x, b, L, rfl, B, q⟩ := h
    obtain ⟨dx, nm, st, fm, sp, h1, h2, h3, h4, h5⟩ := B.ex
    refine ⟨_, (pss_one (ps_ret (pe_fld (pv 0) rfl))), ?_⟩
    rw [show L2.start N_f_Book_base [V.ref x] = [some (V.ref x)] from rfl]; try dsimp only [cxOf]
    top_caughtB
    exact ⟨x, t.C_Book, dx, _, _, rfl, h1, T.c_Book, T.n_Book__base, bk_base, q⟩
def sp_f_Book_names (K : PySem.W.Frag) (t : Ad) : Sp := fun vs H Q _ => ∃ (x : Addr) (b : Int) (L : List Line), vs = [.ref x] ∧ BookC (t.C_Book, t.C_System) K H x b L ∧ ∀ p, H p = none → Q (.ref p) (upd H p (.lst ((names L).map V.str)))
theorem ok_f_Book_names {P : Program} {w : World} {K : PySem.W.Frag} {mg : Str → Option Value} {base : Heap} {t : Ad} (T : Txt K mg t) : FnOk P w K mg base CX0 1 t.a_f_Book_names t.d_f_Book_names ["self"] (sp_f_Book_names K t) := by
  refine T.F_f_Book_names.ok sc_f_Book_names (fun vs H Q E h => ?_) (fun cdv A outer s H vs Q E hr h => ?_)
  · obtain ⟨x, b, L, rfl, _⟩ := h
    rfl
  · obtain ⟨x, b, L, rfl, B, q⟩ := h
    obtain ⟨dx, nm, st, fm, sp, h1, h2, h3, h4, h5⟩ := B.ex
    refine ⟨_, (pss_one (ps_ret (pe_callTy (T := "list") call_list_of (by rfl) T.m_list (by decide +kernel) (pa_cons (pe_fld (pv 0) rfl) pa_nil)))), ?_⟩
    rw [show L2.start N_f_Book_names [V.ref x] = [some (V.ref x)] from rfl]; try dsimp only [cxOf]
    top_caughtB
    refine ⟨x, t.C_Book, dx, _, _, rfl, h1, T.c_Book, T.n_Book__names, bk_names, ?_⟩
    top_caughtB
    exact q
def sp_f_Book_index_of (K : PySem.W.Frag) (t : Ad) : Sp := fun vs H Q _ => ∃ (x : Addr) (b : Int) (L : List Line) (n : Str), vs = [.ref x, .str n] ∧ BookC (t.C_Book, t.C_System) K H x b L ∧ n ∈ names L ∧ Q (.int ((names L).idxOf n : Nat)) H
theorem ok_f_Book_index_of {P : Program} {w : World} {K : PySem.W.Frag} {mg : Str → Option Value} {base : Heap} {t : Ad} (T : Txt K mg t) : FnOk P w K mg base CX0 1 t.a_f_Book_index_of t.d_f_Book_index_of ["self", "name"] (sp_f_Book_index_of K t) := by
  refine T.F_f_Book_index_of.ok sc_f_Book_index_of (fun vs H Q E h => ?_) (fun cdv A outer s H vs Q E hr h => ?_)
  · obtain ⟨x, b, L, n, rfl, _⟩ := h
    rfl
  · obtain ⟨x, b, L, n, rfl, B, hn, q⟩ := h
    obtain ⟨dx, nm, st, fm, sp, h1, h2, h3, h4, h5⟩ := B.ex
    refine ⟨_, (pss_cons (ps_if (pt_cmpR op_notIn_seq (pv 1) (pe_fld (pv 0) rfl) rfl) (pss_one ps_never) pss_nil)
      (pss_one (ps_ret (pe_bm PySem.F.plainAttrs_list PySem.F.slot_list_index PySem.F.type_list_index mt_index (pe_fld (pv 0) rfl) (pa_cons (pv 1) pa_nil))))), ?_⟩
    rw [show L2.start N_f_Book_index_of [V.ref x, V.str n] = [some (V.ref x), some (V.str n)] from rfl]; try dsimp only [cxOf]
    top_caughtB
    refine ⟨x, t.C_Book, dx, _, _, rfl, h1, T.c_Book, T.n_Book__names, bk_names, ?_⟩
    refine ⟨nm, _, rfl, .inl (sq_of h2), rfl, all_flat_strs _, false, ?_, iteF ?_⟩
    · show V.bl (!inV (.str n) ((names L).map V.str)) = V.bl false
      rw [inV_strs, decide_eq_true hn]
      rfl
    top_caughtB
    refine ⟨x, t.C_Book, dx, _, _, rfl, h1, T.c_Book, T.n_Book__names, bk_names, ?_⟩
    top_caughtB
    exact ⟨nm, (names L).map V.str, .str n, (names L).idxOf n, .str n, rfl, rfl, sq_of h2, rfl, all_flat_strs _, idx_at hn, beq_self_eq_true n, fun m z' hm e => idx_first hm e, q⟩


def sp_f_Book_start_of (K : PySem.W.Frag) (t : Ad) : Sp := fun vs H Q _ => ∃ (x : Addr) (b : Int) (L : List Line) (n : Str), vs = [.ref x, .str n] ∧ BookC (t.C_Book, t.C_System) K H x b L ∧ n ∈ names L ∧ Q (.int (worth (names L) (starts L) n)) H
theorem ok_f_Book_start_of {P : Program} {w : World} {K : PySem.W.Frag} {mg : Str → Option Value} {base : Heap} {t : Ad} (T : Txt K mg t) : FnOk P w K mg base CX0 2 t.a_f_Book_start_of t.d_f_Book_start_of ["self", "name"] (sp_f_Book_start_of K t) := by
  refine T.F_f_Book_start_of.ok sc_f_Book_start_of (fun vs H Q E h => ?_) (fun cdv A outer s H vs Q E hr h => ?_)
  · obtain ⟨x, b, L, n, rfl, _⟩ := h
    rfl
  · obtain ⟨x, b, L, n, rfl, B, hn, q⟩ := h
    obtain ⟨dx, nm, st, fm, sp, h1, h2, h3, h4, h5⟩ := B.ex
    have hix : (names L).idxOf n < L.length := by
      have := List.idxOf_lt_length_iff.mpr hn
      have e : (names L).length = L.length := List.length_map ..
      omega
    have hat : ((starts L).map V.int)[(names L).idxOf n]? = some (.int (worth (names L) (starts L) n)) := by
      have hl : (names L).idxOf n < (starts L).length := by unfold starts; rw [List.length_map]; exact hix
      unfold worth
      rw [List.getElem?_map, List.getD_eq_getElem?_getD, List.getElem?_eq_getElem hl]
      rfl
    refine ⟨_, (pss_one (ps_ret (pe_ix ix_list (pe_fld (pv 0) rfl) (pe_meth (pv 0) T.c_Book T.t_f_Book_index_of (ok_f_Book_index_of T) (hr.mono (by decide)) T.b_f_Book_index_of .nil pass0 (pa_cons (pv 1) pa_nil)) (fun _ _ => rfl)))), ?_⟩
    rw [show L2.start N_f_Book_start_of [V.ref x, V.str n] = [some (V.ref x), some (V.str n)] from rfl]; try dsimp only [cxOf]
    top_caughtB
    refine ⟨x, t.C_Book, dx, _, _, rfl, h1, T.c_Book, T.n_Book__starts, bk_starts, ?_⟩
    top_caughtB
    refine ⟨x, dx, _, rfl, h1, bk_no (by decide +kernel), ?_⟩
    top_caughtB
    refine ⟨x, b, L, n, rfl, B, hn, ?_⟩
    exact r_ixL (sq_of h3) (atI_nat hat) q
def sp_f_Book_formulas_of (K : PySem.W.Frag) (t : Ad) : Sp := fun vs H Q _ => ∃ (x : Addr) (b : Int) (L : List Line) (l : Line), vs = [.ref x, .str l.1] ∧ BookC (t.C_Book, t.C_System) K H x b L ∧ Sound b L ∧ l ∈ L ∧
  ∀ H' r, H r = none → Same H H' → Dp K (nw H H') (.ref r) (dForms l.2.2) → (∃ xs, H' r = some (.lst xs) ∧ xs.length = l.2.2.length ∧ ∀ v ∈ xs, ∃ a zs, v = .ref a ∧ H a = none ∧ H' a = some (.lst zs) ∧ ∀ n, (∀ g ∈ l.2.2, g.length ≤ n) → zs.length ≤ n) → Q (.ref r) H'
theorem ok_f_Book_formulas_of {P : Program} {w : World} {K : PySem.W.Frag} {mg : Str → Option Value} {base : Heap} {t : Ad} (T : Txt K mg t) : FnOk P w K mg base CX0 2 t.a_f_Book_formulas_of t.d_f_Book_formulas_of ["self", "name"] (sp_f_Book_formulas_of K t) := by
  refine T.F_f_Book_formulas_of.ok sc_f_Book_formulas_of (fun vs H Q E h => ?_) (fun cdv A outer s H vs Q E hr h => ?_)
  · obtain ⟨x, b, L, l, rfl, _⟩ := h
    rfl
  · obtain ⟨x, b, L, l, rfl, B, S, hl, q⟩ := h
    obtain ⟨dx, nm, st, fm, sp, h1, h2, h3, h4, h5⟩ := B.ex
    have hn : l.1 ∈ names L := List.mem_map.mpr ⟨l, hl, rfl⟩
    obtain ⟨fm', xs, e, hS, hA⟩ := dp_list h4
    cases e
    have hxl := dpa_map_len hA
    obtain ⟨i, hi⟩ := List.getElem?_of_mem hl
    have hidx : (names L).idxOf l.1 = i := by
      have h7 := names_at hi
      have h8 : (names L).idxOf l.1 < (names L).length := List.idxOf_lt_length_iff.mpr hn
      exact nd_ix S.nd (by rw [List.getElem?_eq_getElem h8, List.getElem_idxOf h8]) h7
    have hil : i < xs.length := by
      have := (List.getElem?_eq_some_iff.mp hi).1
      omega
    obtain ⟨l', hl', hd⟩ := dpa_at hA (List.getElem?_eq_getElem hil)
    rw [hi] at hl'
    cases hl'
    obtain ⟨a, ys, ea, _, _⟩ := dp_forms hd
    refine ⟨_, (pss_one (ps_ret (pe_call (ok_f_copied T) (hr.mono (by decide)) (by rfl) T.g_f_copied T.F_f_copied.kp T.b_f_copied .nil pass0 (pa_cons (pe_ix ix_list (pe_fld (pv 0) rfl) (pe_meth (pv 0) T.c_Book T.t_f_Book_index_of (ok_f_Book_index_of T) (hr.mono (by decide)) T.b_f_Book_index_of .nil pass0 (pa_cons (pv 1) pa_nil)) (fun _ _ => rfl)) pa_nil)))), ?_⟩
    rw [show L2.start N_f_Book_formulas_of [V.ref x, V.str l.1] = [some (V.ref x), some (V.str l.1)] from rfl]; try dsimp only [cxOf]
    top_caughtB
    refine ⟨x, t.C_Book, dx, _, _, rfl, h1, T.c_Book, T.n_Book__formulas, bk_formulas, ?_⟩
    top_caughtB
    refine ⟨x, dx, _, rfl, h1, bk_no (by decide +kernel), ?_⟩
    top_caughtB
    refine ⟨x, b, L, l.1, rfl, B, hn, ?_⟩
    rw [hidx]
    refine r_ixL hS (atI_nat (List.getElem?_eq_getElem hil)) ?_
    rw [ea] at hd ⊢
    exact ⟨a, l.2.2, rfl, hd, Nat.le_trans (sound_len S hl) (by decide), q⟩
def sp_f_Book___eq__ (K : PySem.W.Frag) (t : Ad) : Sp := spEq (RBook (t.C_Book, t.C_System) K)
theorem ok_f_Book___eq__ {P : Program} {w : World} {K : PySem.W.Frag} {mg : Str → Option Value} {base : Heap} {t : Ad} (T : Txt K mg t) : FnOk P w K mg base CX0 1 t.a_f_Book___eq__ t.d_f_Book___eq__ ["self", "other"] (sp_f_Book___eq__ K t) := by
  refine T.F_f_Book___eq__.ok sc_f_Book___eq__ (fun vs H Q E h => ?_) (fun cdv A outer s H vs Q E hr h => ?_)
  · obtain ⟨x, y, rfl, _⟩ := h
    rfl
  · obtain ⟨x, y, rfl, ⟨b, L, B, B', S⟩, q⟩ := h
    obtain ⟨dx, nm, st, fm, sp, h1, h2, h3, h4, h5⟩ := B.ex
    obtain ⟨dx', nm', st', fm', sp', g1, g2, g3, g4, g5⟩ := B'.ex
    refine ⟨_, (pss_one (ps_ret (pe_and (pe_callB call_isi (by rfl) T.m_isinstance (by decide +kernel) (pa_cons (pv 1) (pa_cons (pe_glob (v := .ref t.C_Book) (by rfl) T.g_Book rfl) pa_nil))) (pe_and (pe_cmpR op_eq (pe_fld (pv 0) rfl) (pe_fld (pv 1) rfl) (nomark _)) (pe_and (pe_cmpR (op_eqD hr.units) (pe_fld (pv 0) rfl) (pe_fld (pv 1) rfl) (nomark _)) (pe_and (pe_cmpR (op_eqD hr.units) (pe_fld (pv 0) rfl) (pe_fld (pv 1) rfl) (nomark _)) (pe_one (pe_cmpR (op_eqD hr.units) (pe_fld (pv 0) rfl) (pe_fld (pv 1) rfl) (nomark _))))))))), ?_⟩
    rw [show L2.start N_f_Book___eq__ [V.ref x, V.ref y] = [some (V.ref x), some (V.ref y)] from rfl]; try dsimp only [cxOf]
    have hm := S.many
    have N1 : Nice 1 (26 * 2) (.list ((names L).map PyData.str)) := nice_list (fun d hd => by
      obtain ⟨x, hx, rfl⟩ := List.mem_map.mp hd
      have g := letter_ok (sound_letters S hx)
      exact nice_str g.1 (by omega)) (by unfold names; rw [List.length_map, List.length_map]; exact hm)
    have N2 : Nice 1 (26 * 101) (.list ((starts L).map PyData.int)) := nice_list (fun d hd => by
      obtain ⟨x, hx, rfl⟩ := List.mem_map.mp hd
      obtain ⟨l, hl, rfl⟩ := List.mem_map.mp hx
      exact nice_int (Nat.lt_trans (PySem.Flt.log2_lt_of (by decide) (S.begins l hl)) (by decide))) (by unfold starts; rw [List.length_map, List.length_map]; exact hm)
    have N3 : Nice 4 (26 * (4 * (100 * 203 + 1) + 1)) (.list (L.map fun l => dForms l.2.2)) := nice_list (fun d hd => by
      obtain ⟨l, hl, rfl⟩ := List.mem_map.mp hd
      exact nice_sound S hl) (by rw [List.length_map]; exact hm)
    top_caughtB
    refine ⟨_, _, _, _, true, rfl, .own _, .base (.ins g1 T.c_Book T.e_Book.ha T.e_Book.hn T.e_Book.ht T.e_Book.hm), T.e_Book.kt, ?_⟩
    top_caughtB
    refine ⟨x, t.C_Book, dx, _, _, rfl, h1, T.c_Book, T.n_Book__base, bk_base, ?_⟩
    top_caughtB
    refine ⟨y, t.C_Book, dx', _, _, rfl, g1, T.c_Book, T.n_Book__base, bk_base, ?_⟩
    top_caughtB
    refine ite2 (fun _ => ?_) (fun z => absurd (decide_eq_true rfl) z)
    top_caughtB
    refine ⟨x, t.C_Book, dx, _, _, rfl, h1, T.c_Book, T.n_Book__names, bk_names, ?_⟩
    top_caughtB
    refine ⟨y, t.C_Book, dx', _, _, rfl, g1, T.c_Book, T.n_Book__names, bk_names, ?_⟩
    refine ⟨_, _, .lst (sq_of h2) (dpa_strs _), .lst (sq_of g2) (dpa_strs _), N1.shaped (by decide), N1.shaped (by decide), ?_⟩
    rw [N1.eqv]
    refine ⟨_, rfl, ?_⟩
    refine ite2 (fun _ => ?_) (fun z => absurd rfl z)
    top_caughtB
    refine ⟨x, t.C_Book, dx, _, _, rfl, h1, T.c_Book, T.n_Book__starts, bk_starts, ?_⟩
    top_caughtB
    refine ⟨y, t.C_Book, dx', _, _, rfl, g1, T.c_Book, T.n_Book__starts, bk_starts, ?_⟩
    refine ⟨_, _, .lst (sq_of h3) (dpa_ints _), .lst (sq_of g3) (dpa_ints _), N2.shaped (by decide), N2.shaped (by decide), ?_⟩
    rw [N2.eqv]
    refine ⟨_, rfl, ?_⟩
    refine ite2 (fun _ => ?_) (fun z => absurd rfl z)
    top_caughtB
    refine ⟨x, t.C_Book, dx, _, _, rfl, h1, T.c_Book, T.n_Book__formulas, bk_formulas, ?_⟩
    top_caughtB
    refine ⟨y, t.C_Book, dx', _, _, rfl, g1, T.c_Book, T.n_Book__formulas, bk_formulas, ?_⟩
    refine ⟨_, _, h4, g4, N3.shaped (by decide), N3.shaped (by decide), ?_⟩
    rw [N3.eqv]
    exact q H Ext.rfl'




local macro_rules | `(tactic| modx_arm) => `(tactic| repeat' (first | exact des_nil | refine des_cons ?_ ?_ | exact de_int | exact de_str | exact de_neg | refine de_tup (by assumption) ?_ ?_ | refine de_lst (by assumption) ?_ ?_ | refine de_var rfl ?_ | assumption | exact rfl))
def sp_f_law_known (K : PySem.W.Frag) (_ : Ad) : Sp := fun vs H Q _ => ∃ (p : Addr) (f : Nat), vs = [.ref p] ∧ PoolAt H p (f + 1) ∧
  ∀ H' r L letter, (L, letter) ∈ knowns → Keep p H H' → PoolAt H' p f → Dp K (hid p H') (.ref r) (.tuple [dKind 2 L, .str letter]) → Q (.ref r) H'
theorem ok_f_law_known {P : Program} {w : World} {K : PySem.W.Frag} {mg : Str → Option Value} {base : Heap} {t : Ad} (T : Txt K mg t) : FnOk P w K mg base CX0 2 t.a_f_law_known t.d_f_law_known ["pool"] (sp_f_law_known K t) := by
  refine T.F_f_law_known.ok sc_f_law_known (fun vs H Q E h => ?_) (fun cdv A outer s H vs Q E hr h => ?_)
  · obtain ⟨p, f, rfl, _⟩ := h
    rfl
  · obtain ⟨p, f, rfl, hp, q⟩ := h
    refine ⟨_, (pss_cons (ps_par (i := 1) (j := 2) (by rfl) sc_f_law_known.nd rfl rfl (by decide) rfl rfl (pa_cons (pe_tup (pa_cons pe_str (pa_cons pe_int (pa_cons (pe_lst (pa_cons (pe_lst (pa_cons (pe_tup (pa_cons pe_int (pa_cons pe_str pa_nil))) pa_nil)) (pa_cons (pe_lst (pa_cons (pe_tup (pa_cons pe_int (pa_cons pe_str pa_nil))) pa_nil)) pa_nil))) pa_nil)))) (pa_cons (pe_tup (pa_cons pe_str (pa_cons pe_int (pa_cons (pe_lst (pa_cons (pe_lst (pa_cons (pe_tup (pa_cons pe_int (pa_cons pe_str pa_nil))) pa_nil)) (pa_cons (pe_lst pa_nil) pa_nil))) pa_nil)))) pa_nil)) (by rfl))
      (pss_cons (ps_set (i := 3) sc_f_law_known.nd rfl (Or.inl rfl) (pe_tup (pa_cons pe_str (pa_cons pe_int (pa_cons (pe_lst (pa_cons (pe_lst (pa_cons (pe_tup (pa_cons pe_int (pa_cons pe_str pa_nil))) pa_nil)) (pa_cons (pe_lst (pa_cons (pe_tup (pa_cons pe_int (pa_cons pe_str pa_nil))) (pa_cons (pe_tup (pa_cons pe_int (pa_cons pe_str pa_nil))) pa_nil))) pa_nil))) pa_nil)))))
      (pss_cons (ps_set (i := 4) sc_f_law_known.nd rfl (Or.inl rfl) (pe_lst (pa_cons (pe_tup (pa_cons pe_str (pa_cons pe_int (pa_cons (pe_lst (pa_cons (pe_lst (pa_cons (pe_tup (pa_cons pe_int (pa_cons pe_str pa_nil))) pa_nil)) (pa_cons (pe_lst (pa_cons (pe_tup (pa_cons pe_int (pa_cons pe_str pa_nil))) (pa_cons (pe_tup (pa_cons pe_int (pa_cons pe_str pa_nil))) pa_nil))) pa_nil))) pa_nil)))) (pa_cons (pe_tup (pa_cons pe_str (pa_cons pe_int (pa_cons (pe_lst (pa_cons (pe_lst (pa_cons (pe_tup (pa_cons pe_int (pa_cons pe_str pa_nil))) (pa_cons (pe_tup (pa_cons pe_int (pa_cons pe_str pa_nil))) pa_nil))) (pa_cons (pe_lst (pa_cons (pe_tup (pa_cons pe_int (pa_cons pe_str pa_nil))) pa_nil)) pa_nil))) pa_nil)))) pa_nil))))
      (pss_cons (ps_set (i := 5) sc_f_law_known.nd rfl (Or.inl rfl) (pe_tup (pa_cons pe_str (pa_cons pe_int (pa_cons (pe_lst (pa_cons (pe_lst (pa_cons (pe_tup (pa_cons pe_int (pa_cons pe_str pa_nil))) (pa_cons (pe_tup (pa_cons (pe_un un_neg pe_int) (pa_cons pe_str pa_nil))) pa_nil))) (pa_cons (pe_lst (pa_cons (pe_tup (pa_cons pe_int (pa_cons pe_str pa_nil))) (pa_cons (pe_tup (pa_cons pe_int (pa_cons pe_str pa_nil))) (pa_cons (pe_tup (pa_cons (pe_un un_neg pe_int) (pa_cons pe_str pa_nil))) pa_nil)))) pa_nil))) pa_nil)))))
      (pss_cons (ps_set (i := 6) sc_f_law_known.nd rfl (Or.inl rfl) (pe_tup (pa_cons pe_str (pa_cons pe_int (pa_cons (pe_lst (pa_cons (pe_lst (pa_cons (pe_tup (pa_cons pe_int (pa_cons pe_str pa_nil))) pa_nil)) (pa_cons (pe_lst (pa_cons (pe_tup (pa_cons pe_int (pa_cons pe_str pa_nil))) (pa_cons (pe_tup (pa_cons pe_int (pa_cons pe_str pa_nil))) pa_nil))) pa_nil))) pa_nil)))))
      (pss_cons (ps_set (i := 7) sc_f_law_known.nd rfl (Or.inl rfl) (pe_tup (pa_cons pe_str (pa_cons pe_int (pa_cons (pe_lst (pa_cons (pe_lst (pa_cons (pe_tup (pa_cons pe_int (pa_cons pe_str pa_nil))) pa_nil)) (pa_cons (pe_lst (pa_cons (pe_tup (pa_cons pe_int (pa_cons pe_str pa_nil))) (pa_cons (pe_tup (pa_cons pe_int (pa_cons pe_str pa_nil))) pa_nil))) pa_nil))) pa_nil)))))
      (pss_cons (ps_set (i := 8) sc_f_law_known.nd rfl (Or.inl rfl) (pe_tup (pa_cons pe_str (pa_cons pe_int (pa_cons (pe_lst (pa_cons (pe_lst (pa_cons (pe_tup (pa_cons pe_int (pa_cons pe_str pa_nil))) pa_nil)) (pa_cons (pe_lst (pa_cons (pe_tup (pa_cons pe_int (pa_cons pe_str pa_nil))) pa_nil)) pa_nil))) pa_nil)))))
      (pss_cons (ps_set (i := 9) sc_f_law_known.nd rfl (Or.inl rfl) (pe_lst (pa_cons (pe_tup (pa_cons (pe_lst (pa_cons (pv 3) (pa_cons (pv 1) pa_nil))) (pa_cons pe_str pa_nil))) (pa_cons (pe_tup (pa_cons (pv 4) (pa_cons pe_str pa_nil))) (pa_cons (pe_tup (pa_cons (pe_lst (pa_cons (pv 2) (pa_cons (pv 5) (pa_cons (pv 1) pa_nil)))) (pa_cons pe_str pa_nil))) (pa_cons (pe_tup (pa_cons (pe_lst (pa_cons (pv 6) (pa_cons (pv 1) pa_nil))) (pa_cons pe_str pa_nil))) (pa_cons (pe_tup (pa_cons (pe_lst (pa_cons (pv 7) (pa_cons (pv 2) pa_nil))) (pa_cons pe_str pa_nil))) (pa_cons (pe_tup (pa_cons (pe_lst (pa_cons (pv 8) pa_nil)) (pa_cons pe_str pa_nil))) pa_nil))))))))
      (pss_cons (ps_asg (pe_ix ix_list (pe_op op_cat (pv 9) (pe_lst (pa_cons (pe_tup (pa_cons (pe_lst (pa_cons (pv 2) pa_nil)) (pa_cons pe_str pa_nil))) (pa_cons (pe_tup (pa_cons (pe_lst (pa_cons (pv 1) pa_nil)) (pa_cons pe_str pa_nil))) pa_nil)))) (pe_call (ok_f_law_draw T) (hr.mono (by decide)) (by rfl) T.g_f_law_draw T.F_f_law_draw.kp T.b_f_law_draw .nil pass0 (pa_cons (pv 0) (pa_cons pe_int pa_nil))) (fun _ _ => rfl)) (pg_tup rfl (pgs_cons (pg_name (i := 10) sc_f_law_known.nd rfl (Or.inl rfl)) (pgs_cons (pg_name (i := 11) sc_f_law_known.nd rfl (Or.inl rfl)) pgs_nil))))
      (pss_one (ps_ret (pe_tup (pa_cons (pe_tup (pa_cons pe_int (pa_cons (pv 10) pa_nil))) (pa_cons (pv 11) pa_nil)))))))))))))), ?_⟩
    rw [show L2.start N_f_law_known [V.ref p] = [some (V.ref p), none, none, none, none, none, none, none, none, none, none, none] from rfl]; try dsimp only [cxOf]
    have hP := hp.ne
    refine r_seq (r_par ?_)
    refine (show DEs K p _ H _ [dLine kE, dLine kZ] from des_cons (by modx_arm) (des_cons (by modx_arm) des_nil)) H (Same.refl _) _ ?_
    intro vs H1 s1 dd
    obtain ⟨vE, vs, rfl, dE, dd⟩ : ∃ v r, vs = v :: r ∧ Dp K (hid p H1) v (dLine kE) ∧ DpAll K (hid p H1) r [dLine kZ] := by
      cases dd with
      | cons a r => exact ⟨_, _, rfl, a, r⟩
    obtain ⟨vZ, rfl, dZ⟩ : ∃ v, vs = [v] ∧ Dp K (hid p H1) v (dLine kZ) := by
      cases dd with
      | cons a r =>
        cases r
        exact ⟨_, rfl, a⟩
    refine r_two ?_
    dsimp only [List.set]
    have h1 : H1 p ≠ none := by
      obtain ⟨o, e, _⟩ := hp
      rw [s1 _ _ e]
      exact fun z => by cases z
    refine r_seq (r_asg ?_)
    refine (show DE K p _ H1 _ (dLine kO) from by modx_arm) H1 (Same.refl _) _ ?_
    intro vO H2 s2 dO
    refine r_gname ?_
    dsimp only [List.set]
    refine r_seq (r_asg ?_)
    refine (show DE K p _ H1 _ (dRows [kS, kT]) from by modx_arm) H2 s2 _ ?_
    intro vS H3 s3 dS
    refine r_gname ?_
    dsimp only [List.set]
    have t3 := s2.trans s3
    refine r_seq (r_asg ?_)
    refine (show DE K p _ H1 _ (dLine kJ) from by modx_arm) H3 t3 _ ?_
    intro vJ H4 s4 dJ
    refine r_gname ?_
    dsimp only [List.set]
    have t4 := t3.trans s4
    refine r_seq (r_asg ?_)
    refine (show DE K p _ H1 _ (dLine kI) from by modx_arm) H4 t4 _ ?_
    intro vI H5 s5 dI
    refine r_gname ?_
    dsimp only [List.set]
    have t5 := t4.trans s5
    refine r_seq (r_asg ?_)
    refine (show DE K p _ H1 _ (dLine kP) from by modx_arm) H5 t5 _ ?_
    intro vP H6 s6 dP
    refine r_gname ?_
    dsimp only [List.set]
    have t6 := t5.trans s6
    refine r_seq (r_asg ?_)
    refine (show DE K p _ H1 _ (dLine kG) from by modx_arm) H6 t6 _ ?_
    intro vG H7 s7 dG
    refine r_gname ?_
    dsimp only [List.set]
    have t7 := t6.trans s7
    have dE := dp_same (hid_same (p := p) t7) dE
    have dZ := dp_same (hid_same (p := p) t7) dZ
    have dO := dp_same (hid_same (p := p) (((((s3.trans s4).trans s5).trans s6).trans s7))) dO
    have dS := dp_same (hid_same (p := p) ((((s4).trans s5).trans s6).trans s7)) dS
    have dJ := dp_same (hid_same (p := p) (((s5).trans s6).trans s7)) dJ
    have dI := dp_same (hid_same (p := p) ((s6).trans s7)) dI
    have dP := dp_same (hid_same (p := p) s7) dP
    have h7 : H7 p ≠ none := by
      obtain ⟨o, e, _⟩ := hp
      rw [t7 _ _ (s1 _ _ e)]
      exact fun z => by cases z
    refine r_seq (r_asg ?_)
    refine (show DL K p _ H7 _ [dKnown ([kO, kE], "o"), dKnown ([kS, kT], "s"), dKnown ([kZ, kJ, kE], "j"), dKnown ([kI, kE], "i"), dKnown ([kP, kZ], "p"), dKnown ([kG], "g")] from dl_lst h7 (by modx_arm) rfl) H7 (Same.refl _) _ ?_
    intro pb xb H8 s8 eb nb db
    refine r_gname ?_
    dsimp only [List.set]
    refine r_seq (r_asg (r_op (r_op (r_var0 ⟨_, rfl, ?_⟩))))
    refine (show DL K p _ H7 _ [dKnown ([kZ], "z"), dKnown ([kE], "e")] from dl_lst h7 (by modx_arm) rfl) H8 s8 _ ?_
    intro pc xc H9 s9 ec nc dc
    have lb := dpa_len db
    have lc := dpa_len dc
    refine ⟨pb, pc, xb, xc, rfl, rfl, s9 _ _ eb, ec, Nat.le_of_lt (small1000 (by rw [lb, lc]; decide)), fun pd nd => ?_⟩
    have s10 : Same H (upd H9 pd (.lst (xb ++ xc))) := (((s1.trans t7).trans s8).trans s9).trans (same_new nd)
    have dbc : DpAll K (hid p (upd H9 pd (.lst (xb ++ xc)))) (xb ++ xc) (knowns.map dKnown) := dpa_same (hid_same (same_new nd)) (dpa_append (dpa_same (hid_same s9) db) dc)
    have ed : (upd H9 pd (.lst (xb ++ xc))) pd = some (.lst (xb ++ xc)) := upd_same
    have ndp : pd ≠ p := fun z => by
      obtain ⟨o, e, _⟩ := hp
      have := s10 _ _ e
      have h9 := (((s1.trans t7).trans s8).trans s9) _ _ e
      rw [z, h9] at nd
      cases nd
    generalize hH10 : upd H9 pd (.lst (xb ++ xc)) = H10 at s10 dbc ed ⊢
    obtain ⟨o, eo, po⟩ := hp
    top_caughtB
    refine c_draw f ⟨o, s10 _ _ eo, po⟩ (by decide) (by decide) fun d o' hd0 hd1 po' => ?_
    have hdl : d.toNat < (xb ++ xc).length := by
      rw [List.length_append, lb, lc]
      show d.toNat < 8
      omega
    have hx : (xb ++ xc)[d.toNat]? = some (xb ++ xc)[d.toNat] := List.getElem?_eq_getElem hdl
    obtain ⟨kn, hkn, dk⟩ := dpa_at dbc hx
    obtain ⟨a, x, y, ea, hT, dx, dy⟩ := dp_pair dk
    rw [ea] at hx
    have k11 : Keep p H (upd H10 p o') := (Keep.of_same s10).trans Keep.upd
    have hh : hid p (upd H10 p o') = hid p H10 := hid_upd
    have hT1 : SqT K (upd H10 p o') a [x, y] := sqt_same (hid_le (p := p)) (by rw [hh]; exact hT)
    refine r_ixL (sq_oth ndp (sq_of ed)) (nat_at hd0 hx) ?_
    cases dp_str dy
    refine r_gtup hT1 rfl (r_gcons (r_gname (r_gcons (r_gname (r_gnil ?_)))))
    dsimp only [List.set]
    have h11 : (upd H10 p o') p ≠ none := by
      rw [upd_same]
      exact fun z => by cases z
    have dx' : Dp K (hid p (upd H10 p o')) x (dRows kn.1) := by rw [hh]; exact dx
    have dy' : Dp K (hid p (upd H10 p o')) (.str kn.2) (.str kn.2) := .str _
    refine r_ret ?_
    refine (show DE K p _ (upd H10 p o') _ (.tuple [dKind 2 kn.1, .str kn.2]) from by modx_arm) _ (Same.refl _) _ ?_
    intro v H12 s12 dv'
    obtain ⟨r, _, ev, _, _⟩ := dp_tuple dv'
    subst ev
    exact q H12 r kn.1 kn.2 (List.mem_of_getElem? hkn) (k11.trans (Keep.of_same s12)) ⟨o', s12 _ _ upd_same, po'⟩ dv'

def sp_f_law_made (K : PySem.W.Frag) (t : Ad) : Sp := fun vs H Q _ => ∃ (k : Addr) (b : Int) (L : List Line), vs = [.ref k] ∧ Dp K H (.ref k) (dKind b L) ∧ Sound b L ∧
  ∀ H' x, H x = none → Same H H' → BookC (t.C_Book, t.C_System) K (nw H H') x b L → Q (.ref x) H'
theorem ok_f_law_made {P : Program} {w : World} {K : PySem.W.Frag} {mg : Str → Option Value} {base : Heap} {t : Ad} (T : Txt K mg t) : FnOk P w K mg base CX0 5 t.a_f_law_made t.d_f_law_made ["kind"] (sp_f_law_made K t) := by
  refine T.F_f_law_made.ok sc_f_law_made (fun vs H Q E h => ?_) (fun cdv A outer s H vs Q E hr h => ?_)
  · obtain ⟨k, b, L, rfl, _⟩ := h
    rfl
  · obtain ⟨k, b, L, rfl, hd, S, q⟩ := h
    refine ⟨_, (pss_one (ps_ret (pe_make T.k_Book (ok_f_Book___init__ T) (hr.mono (by decide)) (by rfl) T.g_Book T.b_f_Book___init__ .nil pass0 (pa_cons (pe_ix ix_tup (pv 0) pe_int (fun _ _ => rfl)) (pa_cons (pe_lc (own := [("letter", 1), ("start", 2), ("formulas", 3)]) (te := (tTup (tCons (tVar 1) (tCons (tVar 2) (tCons (tLc (iList K (tVar 3)) (gName 4) tYes (tCB (rListOf K) (tCons (tVar 4) tNil)) [4]) tNil))))) (tt := tYes) (g := (gTup K 3 (gCons (gName 1) (gCons (gName 2) (gCons (gName 3) gNil))))) rfl sc_f_law_made.nd (pi_list (pe_ix ix_tup (pv 0) pe_int (fun _ _ => rfl))) (blkOk_by (own := [("letter", 1), ("start", 2), ("formulas", 3)]) (N := N_f_law_made) (sc := defScope s_f_law_made) (by decide +kernel)) (fun _ _ _ _ _ => (pg_tup rfl (pgs_cons (pg_name (i := 1) sc_f_law_made.nd rfl (Or.inl rfl)) (pgs_cons (pg_name (i := 2) sc_f_law_made.nd rfl (Or.inl rfl)) (pgs_cons (pg_name (i := 3) sc_f_law_made.nd rfl (Or.inl rfl)) pgs_nil))))) (fun _ _ _ _ _ => pts_nil) (fun _ _ _ _ _ => (pe_tup (pa_cons (pv 1) (pa_cons (pv 2) (pa_cons (pe_lc (own := [("one", 4)]) (te := (tCB (rListOf K) (tCons (tVar 4) tNil))) (tt := tYes) (g := (gName 4)) rfl sc_f_law_made.nd (pi_list (pv 3)) (blkOk_by (own := [("one", 4)]) (N := N_f_law_made) (by rfl)) (fun _ _ _ _ _ => (pg_name (i := 4) sc_f_law_made.nd rfl (Or.inl rfl))) (fun _ _ _ _ _ => pts_nil) (fun _ _ _ _ _ => (pe_callTy (T := "list") call_list_of (by rfl) T.m_list (by decide +kernel) (pa_cons (pv 4) pa_nil)))) pa_nil)))))) pa_nil))))), ?_⟩
    rw [show L2.start N_f_law_made [V.ref k] = [some (V.ref k), none, none, none, none] from rfl]; try dsimp only [cxOf]
    obtain ⟨k', x0, x1, e, hT, d0, d1⟩ := dp_pair hd
    cases e
    cases dp_int d0
    obtain ⟨r, xs, rfl, hS, hA⟩ := dp_list d1
    have hx := dpa_map_len hA
    have hm := S.many
    top_caughtB
    refine ⟨_, rfl, ?_⟩
    top_caughtB
    refine ⟨r, rfl, ⟨xs, hS⟩, fun D hD => ?_⟩
    refine lc_pure (K := K) (σ := [some (.ref k), none, none, none, none]) (vs := [1, 2, 3]) (fun i y H' => ∀ l, L[i]? = some l → Dp K H' y (dLine l)) (fun i y H1 H2 h s g e => dp_same s (h g e)) hS hD (by omega) (fun x H P P' h q => gm_tup3 h q) (fun σ H P P' h q => h _ _ q) ?_ ?_
    · intro i y H1 QQ hi s1 nD hq
      obtain ⟨l, hl, hdl⟩ := dpa_at hA hi
      obtain ⟨c, d, rfl, hT1, hF⟩ := dp_line (dp_same s1 hdl)
      obtain ⟨d', zs, e, hSF, hAF⟩ := dp_forms hF
      cases e
      have hz := dpa_map_len hAF
      have h4 := sound_len S (List.mem_of_getElem? hl)
      unfold LcTurn
      top_caughtB
      refine ⟨rfl, ?_⟩
      top_caughtB
      refine ⟨.ref d, rfl, d, rfl, ⟨zs, hSF⟩, fun D2 hD2 => ?_⟩
      refine lc_pure (K := K) (σ := [some (.ref k), some (.str l.1), some (.int l.2.1), some (.ref d), none]) (vs := [4]) (fun i y H' => ∀ g, l.2.2[i]? = some g → Dp K H' y (dForm g)) (fun i y H1 H2 h s g e => dp_same s (h g e)) hSF hD2 (by omega) (fun x H P P' h q => gm_name h q) (fun σ H P P' h q => h _ _ q) ?_ ?_
      · intro j y H2 QQ2 hj s2 nD2 hq2
        obtain ⟨g, hg, hdg⟩ := dpa_at hAF hj
        obtain ⟨c2, us, rfl, hSg, hAg⟩ := dp_form hdg
        unfold LcTurn
        top_caughtB
        refine ⟨rfl, ?_⟩
        top_caughtB
        refine ⟨c2, us, rfl, .inl (s2.seq hSg), fun l2 hl2 => ?_⟩
        refine hq2 _ _ (same_new hl2) fun g' e' => ?_
        have eg := Option.some.inj (hg.symm.trans e')
        subst eg
        exact .lst (sq_of ((nw_new hl2).trans upd_same)) (dpa_terms_nw (same_new hl2) (dpa_same s2 hAg))
      · intro H2 ys hlen hR s2 eD2
        top_caughtB
        intro tp ntp
        refine hq _ _ (s2.trans (same_new ntp)) fun l' e' => ?_
        have ell := Option.some.inj (hl.symm.trans e')
        subst ell
        have htp : H1 tp = none := s2.free ntp
        refine .tup (st_of ((nw_new htp).trans upd_same)) (.cons (.str _) (.cons (.int _) (.cons ?_ .nil)))
        refine .lst (sq_of ((nw_new hD2).trans (upd_old ntp eD2))) ?_
        exact dpa_map (by omega) fun i y g h1 h2 => dp_same (nw_mono (same_new ntp)) (hR i y h1 g h2)
    · intro H1 ys hlen hR s1 eD
      have dR : Dp K (nw H H1) (.ref D) (dRows L) := .lst (sq_of ((nw_new hD).trans eD)) (dpa_map (by omega) fun i y g h1 h2 => hR i y h1 g h2)
      top_caughtB
      intro x dx nx ndx nex
      refine ⟨x, dx, D, b, L, rfl, upd_same, dp_same (nw_le.trans (made_hid nx ndx)) dR, S, fun H2 k2 B => ⟨rfl, ?_⟩⟩
      have s2 := made_same nx ndx k2
      refine q H2 x (s1.free nx) (s1.trans s2) (B.same (nw_back (s1.trans (made_hid nx ndx))))


def sp_f_law_factor (_ : PySem.W.Frag) (_ : Ad) : Sp := fun vs H Q _ => ∃ (p : Addr) (f : Nat), vs = [.ref p] ∧ PoolAt H p (f + 4) ∧ ∀ H' (d : Int), d ≠ 0 → d.natAbs ≤ 9 → Keep p H H' → PoolAt H' p f → Q (.int d) H'
theorem ok_f_law_factor {P : Program} {w : World} {K : PySem.W.Frag} {mg : Str → Option Value} {base : Heap} {t : Ad} (T : Txt K mg t) : FnOk P w K mg base CX0 2 t.a_f_law_factor t.d_f_law_factor ["pool"] (sp_f_law_factor K t) := by
  refine T.F_f_law_factor.ok sc_f_law_factor (fun vs H Q E h => ?_) (fun cdv A outer s H vs Q E hr h => ?_)
  · obtain ⟨p, f, rfl, _⟩ := h
    rfl
  · obtain ⟨p, f, rfl, hp, q⟩ := h
    refine ⟨_, (pss_cons (ps_set (i := 1) sc_f_law_factor.nd rfl (Or.inl rfl) (pe_ix ix_list (pe_lst (pa_cons pe_int (pa_cons pe_int (pa_cons (pe_op op_add pe_int (pe_call (ok_f_law_draw T) (hr.mono (by decide)) (by rfl) T.g_f_law_draw T.F_f_law_draw.kp T.b_f_law_draw .nil pass0 (pa_cons (pv 0) (pa_cons pe_int pa_nil)))) (pa_cons (pe_op op_add pe_int (pe_call (ok_f_law_draw T) (hr.mono (by decide)) (by rfl) T.g_f_law_draw T.F_f_law_draw.kp T.b_f_law_draw .nil pass0 (pa_cons (pv 0) (pa_cons pe_int pa_nil)))) pa_nil))))) (pe_call (ok_f_law_draw T) (hr.mono (by decide)) (by rfl) T.g_f_law_draw T.F_f_law_draw.kp T.b_f_law_draw .nil pass0 (pa_cons (pv 0) (pa_cons pe_int pa_nil))) (fun _ _ => rfl)))
      (pss_one (ps_ret (pe_op op_mulX (pv 1) (pe_op op_sub pe_int (pe_op op_mulX pe_int (pe_call (ok_f_law_draw T) (hr.mono (by decide)) (by rfl) T.g_f_law_draw T.F_f_law_draw.kp T.b_f_law_draw .nil pass0 (pa_cons (pv 0) (pa_cons pe_int pa_nil))))))))), ?_⟩
    rw [show L2.start N_f_law_factor [V.ref p] = [some (V.ref p), none] from rfl]; try dsimp only [cxOf]
    top_caughtB
    refine c_drawK (f + 3) hp (by decide) (by decide) fun d1 H1 h10 h11 k1 p1 => ?_
    top_caughtB
    refine c_drawK (f + 2) p1 (by decide) (by decide) fun d2 H2 h20 h21 k2 p2 => ?_
    top_caughtB
    intro q1 nq
    have nqp := p2.away nq
    top_caughtB
    refine c_drawK (f + 1) (p2.new nq) (by decide) (by decide) fun d3 H3 h30 h31 k3 p3 => ?_
    have el := k3 _ _ (upd_same (H := H2)) nqp
    have kk : Keep p H H3 := ((k1.trans k2).trans (Keep.new nq)).trans k3
    obtain ⟨z, ez, hz0, hz9⟩ : ∃ z : Int, atI [V.int 1, V.int 1, V.int (1 + d1), V.int (1 + d2)] d3 = some (.int z) ∧ 1 ≤ z ∧ z ≤ 9 := by
      have : d3 = 0 ∨ d3 = 1 ∨ d3 = 2 ∨ d3 = 3 := by omega
      rcases this with rfl | rfl | rfl | rfl
      · exact ⟨1, rfl, by decide, by decide⟩
      · exact ⟨1, rfl, by decide, by decide⟩
      · exact ⟨_, rfl, by omega, by omega⟩
      · exact ⟨_, rfl, by omega, by omega⟩
    refine r_ixL (sq_of el) ez ?_
    top_caughtB
    refine c_drawK f p3 (by decide) (by decide) fun d4 H4 h40 h41 k4 p4 => ?_
    top_caughtB
    have : d4 = 0 ∨ d4 = 1 := by omega
    refine r_I (mulx2 (a := 10) (b := 10) (by decide) (by omega) (by decide)) ?_
    top_caughtB
    refine r_I (mulx2 (a := 10) (b := 10) (by omega) (by omega) (by decide)) ?_
    have key : z * (1 - 2 * d4) = z ∨ z * (1 - 2 * d4) = -z := by
      rcases this with rfl | rfl
      · exact .inl (by omega)
      · exact .inr (by omega)
    refine q _ _ ?_ ?_ (kk.trans k4) p4
    · rcases key with e | e <;> rw [e] <;> omega
    · rcases key with e | e <;> rw [e] <;> omega
theorem r_lcR {ta : TA} {g : TG} {tt : TT} {te : TE} {vs : List Nat} {σ : L2.St} {H : Hp} {Q : VK} (q : ta σ H fun xs H1 => ∃ j : Int, xs = [.int j] ∧ -(2 ^ 62) ≤ j ∧ j < 2 ^ 62 ∧ ∀ D, H1 D = none → ∃ W : Nat → Nat → Hp → Prop, (∃ m, W 0 m (upd H1 D (.lst []))) ∧ ∀ i m H, W i m H →
    ((Itr 0 j.toNat).stop i H ∧ Q (.ref D) H) ∨ ((Itr 0 j.toNat).go i H ∧ ∃ Nx : Hp → Prop, (∀ H', Nx H' → ∃ m', m' < m ∧ W (i + 1) m' H') ∧ ∀ x H', (Itr 0 j.toNat).yld i H x H' → g x (wipe σ vs) H' fun σ2 H2 => wipe σ2 vs = wipe σ vs ∧ tt σ2 H2 fun b H3 =>
      if b = true then te σ2 H3 fun y H4 => ∃ acc, H4 D = some (.lst acc) ∧ acc.length < sizeLine ∧ Nx (upd H4 D (.lst (acc ++ [y]))) else Nx H3)) : tLc (iRng1 ta) g tt te vs σ H Q := q
theorem at_str {ls : List Str} {d : Int} (h0 : 0 ≤ d) (h1 : d < ls.length) : ∃ x, x ∈ ls ∧ atI (ls.map V.str) d = some (.str x) := by
  have h : d.toNat < ls.length := by omega
  refine ⟨ls[d.toNat], List.getElem_mem h, nat_at h0 ?_⟩
  rw [List.getElem?_map, List.getElem?_eq_getElem h]
  rfl
theorem hid_none {p a : Addr} {H : Hp} (h : H a = none) : hid p H a = none := by
  unfold hid
  split
  · rfl
  · exact h
theorem choose_all {α : Type} {K : PySem.W.Frag} {H : Hp} {f : α → PyData} {P : α → Prop} : ∀ (ys : List V), (∀ (i : Nat) (y : V), ys[i]? = some y → ∃ t : α, P t ∧ Dp K H y (f t)) → ∃ F : List α, F.length = ys.length ∧ (∀ t ∈ F, P t) ∧ DpAll K H ys (F.map f)
  | [], _ => ⟨[], rfl, (fun t h => by cases h), .nil⟩
  | y :: ys, h => by
    obtain ⟨t, h1, h2⟩ := h 0 y rfl
    obtain ⟨F, e, h3, h4⟩ := choose_all ys fun i z e => h (i + 1) z e
    refine ⟨t :: F, by simp [e], fun u hu => ?_, .cons h2 h4⟩
    rcases List.mem_cons.mp hu with rfl | hu
    · exact h1
    · exact h3 u hu
def sp_f_law_terms (K : PySem.W.Frag) (_ : Ad) : Sp := fun vs H Q _ => ∃ (p l : Addr) (f : Nat) (ls : List Str) (m : Nat), vs = [.ref p, .ref l, .int (m : Int)] ∧ PoolAt H p (f + 1 + 5 * m) ∧ m ≤ 20 ∧ l ≠ p ∧ H l = some (.lst (ls.map V.str)) ∧ 0 < ls.length ∧ ls.length ≤ 100 ∧
  ∀ H' r (F : List Term), F.length ≤ m → (∀ t ∈ F, t.1.natAbs ≤ 9 ∧ t.2 ∈ ls) → Dp K (nw (hid p H) (hid p H')) (.ref r) (dForm F) → Keep p H H' → PoolAt H' p f → Q (.ref r) H'
theorem ok_f_law_terms {P : Program} {w : World} {K : PySem.W.Frag} {mg : Str → Option Value} {base : Heap} {t : Ad} (T : Txt K mg t) : FnOk P w K mg base CX0 3 t.a_f_law_terms t.d_f_law_terms ["pool", "letters", "many"] (sp_f_law_terms K t) := by
  refine T.F_f_law_terms.ok sc_f_law_terms (fun vs H Q E h => ?_) (fun cdv A outer s H vs Q E hr h => ?_)
  · obtain ⟨p, l, f, ls, m, rfl, _⟩ := h
    rfl
  · obtain ⟨p, l, f, ls, m, rfl, hp, hm, nlp, el, hl0, hl1, q⟩ := h
    refine ⟨_, (pss_one (ps_ret (pe_lc (own := [("turn", 3)]) (te := (tTup (tCons (tCall (sp_f_law_factor K t) [] E0 (tCons (tVar 0) tNil)) (tCons (tOp (rIxL K) (tVar 1) (tCall (sp_f_law_draw K t) [] E0 (tCons (tVar 0) (tCons (tCB (rLen K) (tCons (tVar 1) tNil)) tNil)))) tNil)))) (tt := tYes) (g := (gName 3)) rfl sc_f_law_terms.nd (pi_range1 (by rfl) T.m_range (pa_cons (pe_call (ok_f_law_draw T) (hr.mono (by decide)) (by rfl) T.g_f_law_draw T.F_f_law_draw.kp T.b_f_law_draw .nil pass0 (pa_cons (pv 0) (pa_cons (pe_op op_add (pv 2) pe_int) pa_nil))) pa_nil)) (blkOk_by (own := [("turn", 3)]) (N := N_f_law_terms) (sc := defScope s_f_law_terms) (by decide +kernel)) (fun _ _ _ _ _ => (pg_name (i := 3) sc_f_law_terms.nd rfl (Or.inl rfl))) (fun _ _ _ _ _ => pts_nil) (fun _ _ _ _ _ => (pe_tup (pa_cons (pe_call (ok_f_law_factor T) (hr.mono (by decide)) (by rfl) T.g_f_law_factor T.F_f_law_factor.kp T.b_f_law_factor .nil pass0 (pa_cons (pv 0) pa_nil)) (pa_cons (pe_ix ix_list (pv 1) (pe_call (ok_f_law_draw T) (hr.mono (by decide)) (by rfl) T.g_f_law_draw T.F_f_law_draw.kp T.b_f_law_draw .nil pass0 (pa_cons (pv 0) (pa_cons (pe_callB call_len_seq (by rfl) T.m_len (by decide +kernel) (pa_cons (pv 1) pa_nil)) pa_nil))) (fun _ _ => rfl)) pa_nil))))))), ?_⟩
    rw [show L2.start N_f_law_terms [V.ref p, V.ref l, V.int (m : Int)] = [some (V.ref p), some (V.ref l), some (V.int (m : Int)), none] from rfl]; try dsimp only [cxOf]
    refine r_lcR ?_
    top_caughtB
    refine c_drawK (f + 5 * m) (by rw [show f + 5 * m + 1 = f + 1 + 5 * m by omega]; exact hp) (by omega) (by omega) fun d H1 h0 h1 k1 p1 => ?_
    top_caughtB
    refine ⟨by omega, by omega, fun D nD => ?_⟩
    have nDp := p1.away nD
    have nDH : H D = none := k1.free nD hp.ne p1.ne
    have el1 := k1.at el nlp
    refine lc_pool (p := p) (lo := 0) (n := d.toNat) (c := 5) (f := f + 5 * (m - d.toNat)) (σ := [some (.ref p), some (.ref l), some (.int (m : Int)), none]) (vs := [3]) (fun i y H => ∃ tm : Term, tm.1.natAbs ≤ 9 ∧ tm.2 ∈ ls ∧ Dp K H y (dTerm tm)) ?_ ?_ nD (by omega) (fun x H P P' h q => h _ _ q) (fun σ H P P' h q => h _ _ q) ?_ ?_
    · rintro i y H H' ⟨tm, h1, h2, h3⟩ s
      exact ⟨tm, h1, h2, dp_same s h3⟩
    · rw [show f + 5 * (m - d.toNat) + 5 * d.toNat = f + 5 * m by omega]
      exact p1
    · intro i H2 QQ hi k2 nD2 p2 q2
      have el2 := k2.at el1 nlp
      unfold LcTurn
      top_caughtB
      refine ⟨rfl, ?_⟩
      top_caughtB
      refine ⟨p, f + 5 * (m - d.toNat) + 5 * (d.toNat - (i + 1)) + 1, rfl, p2, fun H3 a ha0 ha9 k3 p3 => ?_⟩
      have el3 := k3.at el2 nlp
      top_caughtB
      refine c_drawK _ p3 (by rw [List.length_map]; omega) (by rw [List.length_map]; omega) fun d2 H4 h20 h21 k4 p4 => ?_
      have el4 := k4.at el3 nlp
      obtain ⟨x, hx, ex⟩ := at_str (ls := ls) h20 (by rw [List.length_map] at h21; exact h21)
      refine r_ixL (sq_of el4) ex ?_
      top_caughtB
      intro T nT
      have nTp := p4.away nT
      have nT2 : H2 T = none := (k3.trans k4).free nT p2.ne p4.ne
      refine q2 _ _ ((k3.trans k4).trans (Keep.new nT)) (p4.new nT) ⟨(a, x), ha9, hx, ?_⟩
      refine .tup (st_of ?_) (.cons (.int a) (.cons (.str x) .nil))
      rw [nw_new (hid_none nT2)]
      exact hid_at upd_same nTp
    · intro H2 ys hlen hy k2 p2 eD
      obtain ⟨F, e1, e2, e3⟩ := choose_all (K := K) (P := fun tm : Term => tm.1.natAbs ≤ 9 ∧ tm.2 ∈ ls) (f := dTerm) ys fun i y h => by
        obtain ⟨tm, a1, a2, a3⟩ := hy i y h
        exact ⟨tm, ⟨a1, a2⟩, a3⟩
      refine q H2 D F (by omega) e2 (.lst (sq_of ?_) (dpa_same (nw_back k1.hid) e3)) (k1.trans k2) (p2.less (Nat.le_add_right _ _))
      rw [nw_new (hid_none nDH)]
      exact hid_at eD nDp
theorem pool_lst {H : Hp} {p : Addr} {f : Nat} (h : PoolAt H p f) : ∃ xs, H p = some (.lst xs) := by
  obtain ⟨o, e, a, b, c, rfl, _⟩ := h
  exact ⟨_, e⟩
theorem dpT {K : PySem.W.Frag} {H1 : Hp} {T q : Addr} {c : Int} {x : Str} {o : HO} (nT : H1 T = none) (nq : upd H1 T (.tup [.int c, .str x]) q = none) : Dp K (tu (upd (upd H1 T (.tup [.int c, .str x])) q o)) (.ref T) (dTerm (c, x)) :=
  dp_term_new (upd_old nq upd_same)
def sp_f_law_first (K : PySem.W.Frag) (_ : Ad) : Sp := fun vs H Q _ => ∃ (p sd : Addr) (f : Nat) (ks : List Str) (g : Str → Int) (x : Str), vs = [.ref p, .ref sd, .str x] ∧ PoolAt H p (f + 14) ∧ H sd = some (.dK (sk ks g)) ∧ 0 < ks.length ∧ ks.length < 64 ∧ x ∈ ks ∧ (∀ y ∈ ks, (g y).natAbs ≤ 9 ∧ PyData.strOk y = true) ∧
  ∀ H' r (F : List Term), F.length ≤ 5 → (∀ t ∈ F, t.1.natAbs ≤ 9 ∧ t.2 ∈ ks) → (F.map fun t => t.1 * g t.2).sum = g x → Dp K (nw (hid p H) (hid p H')) (.ref r) (dForm F) → Keep p H H' → PoolAt H' p f → Q (.ref r) H'
theorem ok_f_law_first {P : Program} {w : World} {K : PySem.W.Frag} {mg : Str → Option Value} {base : Heap} {t : Ad} (T : Txt K mg t) : FnOk P w K mg base CX0 3 t.a_f_law_first t.d_f_law_first ["pool", "starts", "letter"] (sp_f_law_first K t) := by
  refine T.F_f_law_first.ok sc_f_law_first (fun vs H Q E h => ?_) (fun cdv A outer s H vs Q E hr h => ?_)
  · obtain ⟨p, sd, f, ks, g, x, rfl, _⟩ := h
    rfl
  · obtain ⟨p, sd, f, ks, g, x, rfl, hp, ed, hk0, hk6, hx, hg, q⟩ := h
    refine ⟨_, (pss_cons (ps_set (i := 3) sc_f_law_first.nd rfl (Or.inl rfl) (pe_ifExp (PW.pt (pw_or (pt_cmpR op_ne (pe_dget (hu_of hr) (pv 1) (pv 2) (fun _ _ => rfl)) pe_int (nomark _)) (pw_or1 (pt_cmpR op_eq (pe_call (ok_f_law_draw T) (hr.mono (by decide)) (by rfl) T.g_f_law_draw T.F_f_law_draw.kp T.b_f_law_draw .nil pass0 (pa_cons (pv 0) (pa_cons pe_int pa_nil))) pe_int (nomark _))))) (pe_lst (pa_cons (pe_tup (pa_cons pe_int (pa_cons (pv 2) pa_nil))) pa_nil)) (pe_lst pa_nil)))
      (pss_cons (ps_lock (ps_setLc (i := 4) (own := [("other", 9)]) (te := (tVar 9)) (tt := (tTest (tOp rEq (tDGet (tVar 1) (tVar 9)) (tC (.int 0))))) (g := (gName 9)) rfl sc_f_law_first.nd rfl rfl (sw_true rfl rfl rfl (by decide +kernel)) (pi_keys (pv 1)) (blkOk_by (own := [("other", 9)]) (N := N_f_law_first) (sc := defScope s_f_law_first) (by decide +kernel)) (fun _ _ _ _ _ => (pg_name (i := 9) sc_f_law_first.nd rfl (Or.inl rfl))) (fun _ _ _ _ _ => (pts_one (pt_cmpR op_eq (pe_dget (hu_of hr) (pv 1) (pv 9) (fun _ _ => rfl)) pe_int (nomark _)))) (fun _ _ _ _ _ => (pv 9))))
      (pss_cons (ps_for PassesOwn.never rfl (pi_range1 (by rfl) T.m_range (pa_cons (pe_call (ok_f_law_draw T) (hr.mono (by decide)) (by rfl) T.g_f_law_draw T.F_f_law_draw.kp T.b_f_law_draw .nil pass0 (pa_cons (pv 0) (pa_cons pe_int pa_nil))) pa_nil)) (pg_name (i := 5) sc_f_law_first.nd rfl (Or.inl rfl)) (pss_one (ps_if (PW.pt (pw_and (pt_cmpR (op_neD hr.units) (pv 4) (pe_lst pa_nil) (nomark _)) (pw_and1 (pt_cmpR op_eq (pe_call (ok_f_law_draw T) (hr.mono (by decide)) (by rfl) T.g_f_law_draw T.F_f_law_draw.kp T.b_f_law_draw .nil pass0 (pa_cons (pv 0) (pa_cons pe_int pa_nil))) pe_int (nomark _))))) (pss_one (ps_expr (pe_bm PySem.F.plainAttrs_list PySem.F.slot_list_append PySem.F.type_list_append mt_append (pv 3) (pa_cons (pe_tup (pa_cons (pe_call (ok_f_law_factor T) (hr.mono (by decide)) (by rfl) T.g_f_law_factor T.F_f_law_factor.kp T.b_f_law_factor .nil pass0 (pa_cons (pv 0) pa_nil)) (pa_cons (pe_ix ix_list (pv 4) (pe_call (ok_f_law_draw T) (hr.mono (by decide)) (by rfl) T.g_f_law_draw T.F_f_law_draw.kp T.b_f_law_draw .nil pass0 (pa_cons (pv 0) (pa_cons (pe_callB call_len_seq (by rfl) T.m_len (by decide +kernel) (pa_cons (pv 4) pa_nil)) pa_nil))) (fun _ _ => rfl)) pa_nil))) pa_nil)))) (pss_cons (ps_set (i := 6) sc_f_law_first.nd rfl (Or.inl rfl) (pe_callB (call_sortedD rfl) (by rfl) T.m_sorted (by decide +kernel) (pa_cons (pv 1) pa_nil)))
      (pss_cons (ps_par (i := 7) (j := 8) (by rfl) sc_f_law_first.nd rfl rfl (by decide) rfl rfl (pa_cons (pe_ix ix_list (pv 6) (pe_call (ok_f_law_draw T) (hr.mono (by decide)) (by rfl) T.g_f_law_draw T.F_f_law_draw.kp T.b_f_law_draw .nil pass0 (pa_cons (pv 0) (pa_cons (pe_callB call_len_seq (by rfl) T.m_len (by decide +kernel) (pa_cons (pv 6) pa_nil)) pa_nil))) (fun _ _ => rfl)) (pa_cons (pe_ix ix_list (pv 6) (pe_call (ok_f_law_draw T) (hr.mono (by decide)) (by rfl) T.g_f_law_draw T.F_f_law_draw.kp T.b_f_law_draw .nil pass0 (pa_cons (pv 0) (pa_cons (pe_callB call_len_seq (by rfl) T.m_len (by decide +kernel) (pa_cons (pv 6) pa_nil)) pa_nil))) (fun _ _ => rfl)) pa_nil)) (by rfl))
      (pss_one (ps_if (pt_cmpR op_lt (pe_callB (call_max2 rfl) (by rfl) T.m_max (by decide +kernel) (pa_cons (pe_callB call_abs (by rfl) T.m_abs (by decide +kernel) (pa_cons (pe_dget (hu_of hr) (pv 1) (pv 7) (fun _ _ => rfl)) pa_nil)) (pa_cons (pe_callB call_abs (by rfl) T.m_abs (by decide +kernel) (pa_cons (pe_dget (hu_of hr) (pv 1) (pv 8) (fun _ _ => rfl)) pa_nil)) pa_nil))) pe_int (nomark _)) (pss_one (ps_set (i := 3) sc_f_law_first.nd rfl (Or.inl rfl) (pe_op op_cat (pv 3) (pe_lst (pa_cons (pe_tup (pa_cons (pe_dget (hu_of hr) (pv 1) (pv 8) (fun _ _ => rfl)) (pa_cons (pv 7) pa_nil))) (pa_cons (pe_tup (pa_cons (pe_op op_sub pe_int (pe_dget (hu_of hr) (pv 1) (pv 7) (fun _ _ => rfl))) (pa_cons (pv 8) pa_nil))) pa_nil)))))) pss_nil)))))))
      (pss_one (ps_ret (pe_lc (own := [("term", 10)]) (te := (tVar 10)) (tt := (tTest (tOp rNe (tOp (rIxT K) (tVar 10) (tC (.int 0))) (tC (.int 0))))) (g := (gName 10)) rfl sc_f_law_first.nd (pi_list (pv 3)) (blkOk_by (own := [("term", 10)]) (N := N_f_law_first) (sc := defScope s_f_law_first) (by decide +kernel)) (fun _ _ _ _ _ => (pg_name (i := 10) sc_f_law_first.nd rfl (Or.inl rfl))) (fun _ _ _ _ _ => (pts_one (pt_cmpR op_ne (pe_ix ix_tup (pv 10) pe_int (fun _ _ => rfl)) pe_int (nomark _)))) (fun _ _ _ _ _ => (pv 10)))))))), ?_⟩
    rw [show L2.start N_f_law_first [V.ref p, V.ref sd, V.str x] = [some (V.ref p), some (V.ref sd), some (V.str x), none, none, none, none, none, none, none, none] from rfl]; try dsimp only [cxOf]
    have gx := sk_get (g := g) hx
    have nsp : sd ≠ p := fun z => by
      subst z
      obtain ⟨o, e, a, b, c, rfl, _⟩ := hp
      rw [e] at ed
      cases ed
    have pl := pool_lst hp
    refine r_seqJ (fun v H' => ∃ fr xs F, v = .ref fr ∧ H fr = none ∧ H' fr = some (.lst xs) ∧ DpAll K (tu H') xs (F.map dTerm) ∧ F.length ≤ 1 ∧ (∀ t ∈ F, t.1.natAbs ≤ 9 ∧ t.2 ∈ ks) ∧ sumG g F = g x ∧ Keep p H H' ∧ PoolAt H' p (f + 13)) (fun QQ hQ => ?_) ?_
    · have one : ∀ H1, Keep p H H1 → PoolAt H1 p (f + 13) → ∀ T, H1 T = none → ∀ q, upd H1 T (.tup [.int 1, .str x]) q = none → QQ (.ref q) (upd (upd H1 T (.tup [.int 1, .str x])) q (.lst [.ref T])) := fun H1 k1 p1 T nT q nq => by
        refine hQ _ _ ⟨q, [.ref T], [(1, x)], rfl, ?_, upd_same, .cons (dpT nT nq) .nil, Nat.le_refl _, ?_, ?_, (k1.trans (Keep.new nT)).trans (Keep.new nq), (p1.new nT).new nq⟩
        · exact (k1.trans (Keep.new nT)).free nq hp.ne ((p1.new nT).ne)
        · intro t ht
          cases List.mem_singleton.mp ht
          exact ⟨(by decide : (1 : Int).natAbs ≤ 9), hx⟩
        · show 1 * g x + 0 = g x
          omega
      top_caughtB
      refine r_dg ?_
      top_caughtB
      refine r_dget (.inl ed) gx ?_
      top_caughtB
      refine ite2 (fun h => ?_) (fun h => ?_)
      · top_caughtB
        intro T nT
        top_caughtB
        intro q2 nq
        exact one H Keep.refl (hp.less (by omega)) T nT q2 nq
      · have g0 : g x = 0 := by
          by_cases e : g x = 0
          · exact e
          · exact absurd (by simp [e]) h
        top_caughtB
        refine c_drawK (f + 13) hp (by decide) (by decide) fun d H1 h0 h1 k1 p1 => ?_
        top_caughtB
        refine ite2 (fun h => ?_) (fun h => ?_)
        · top_caughtB
          intro T nT
          top_caughtB
          intro q2 nq
          exact one H1 k1 p1 T nT q2 nq
        · top_caughtB
          intro q2 nq
          exact hQ _ _ ⟨q2, [], [], rfl, k1.free nq hp.ne p1.ne, upd_same, .nil, Nat.zero_le _, (fun t ht => by cases ht), g0.symm, k1.trans (Keep.new nq), p1.new nq⟩
    · rintro v H1 ⟨fr, xs, F, rfl, nfr, efr, dF, lF, gF, sF, k1, p1⟩
      have ed1 := k1.at ed nsp
      have nfp : fr ≠ p := hp.away nfr
      have nfs : fr ≠ sd := fun z => by
        subst z
        rw [ed] at nfr
        cases nfr
      top_caughtB
      refine r_lock sd _ ed1 trivial fun od => ?_
      refine r_lcK ?_ (fun P P' h q => by
        obtain ⟨v, e, q⟩ := q
        exact ⟨v, e, h _ _ q⟩)
      refine ⟨_, rfl, sd, od, sk ks g, rfl, upd_same, fun D nD => ?_⟩
      have nDs : D ≠ sd := fun z => by
        rw [z, upd_same] at nD
        cases nD
      have nD1 : H1 D = none := by rw [upd_ne nDs] at nD; exact nD
      have nDp : D ≠ p := p1.away nD1
      have nDf : D ≠ fr := fun z => by
        rw [z, efr] at nD1
        cases nD1
      refine lc_keys (σ := [some (.ref p), some (.ref sd), some (.str x), some (.ref fr), none, none, none, none, none, none, none]) (vs := [9]) (fun i H' => ∃ ys : List Str, H' = upd (upd H1 sd (.frz od (.dK (sk ks g)))) D (.lst (ys.map V.str)) ∧ ys.length ≤ i ∧ ∀ y ∈ ys, y ∈ ks ∧ g y = 0) ⟨[], rfl, Nat.le_refl _, fun y h => by cases h⟩ ?_ ?_ ?_
      · rintro i H2 hi ⟨ys, rfl, h1, h2⟩
        exact upd_oth (Ne.symm nDs) upd_same
      · rintro i k v H2 hi ⟨ys, rfl, h1, h2⟩
        obtain ⟨y, hy, rfl, rfl⟩ := sk_at hi
        have hyk := List.mem_of_getElem? hy
        top_caughtB
        refine ⟨rfl, ?_⟩
        top_caughtB
        refine r_dg ?_
        top_caughtB
        refine r_dget (.inr ⟨od, upd_oth (Ne.symm nDs) upd_same⟩) (sk_get hyk) ?_
        top_caughtB
        refine ite2 (fun h => ?_) (fun h => ?_)
        · have g0 : g y = 0 := V.int.inj (of_decide_eq_true h)
          top_caughtB
          refine ⟨_, upd_same, ?_, ys ++ [y], ?_, by rw [List.length_append]; exact Nat.succ_le_succ h1, ?_⟩
          · rw [List.length_map]
            exact Nat.lt_of_le_of_lt (show ys.length ≤ 1000 by have := (List.getElem?_eq_some_iff.mp hy).1; omega) (by decide)
          · rw [upd_upd, List.map_append]
            rfl
          · intro z hz
            rcases List.mem_append.mp hz with hz | hz
            · exact h2 z hz
            · cases List.mem_singleton.mp hz
              exact ⟨hyk, g0⟩
        · exact ⟨ys, rfl, by omega, h2⟩
      · rintro H2 ⟨ns, rfl, h1, h2⟩
        rw [sk_len] at h1
        top_caughtB
        refine ⟨upd_oth (Ne.symm nDs) upd_same, ?_⟩
        rw [upd_lock ed1 nDs]
        have k2 : Keep p H (upd H1 D (.lst (ns.map V.str))) := k1.trans (Keep.new nD1)
        have p2 := p1.new (o := .lst (ns.map V.str)) nD1
        have eD2 : (upd H1 D (.lst (ns.map V.str))) D = some (.lst (ns.map V.str)) := upd_same
        have ef2 := upd_old (o := .lst (ns.map V.str)) nD1 efr
        have dF2 := dpa_same (tu_new (o := .lst (ns.map V.str)) nD1) dF
        generalize upd H1 D (.lst (ns.map V.str)) = H2 at k2 p2 eD2 ef2 dF2 ⊢
        top_caughtB
        refine c_drawK (f + 12) p2 (by decide) (by decide) fun d H3 h0 h1' k3 p3 => ?_
        have eD3 := k3.at eD2 nDp
        have ef3 := k3.at ef2 nfp
        obtain ⟨pl2, epl2⟩ := pool_lst p2
        have dF3 := dpa_same (tu_keep epl2 k3) dF2
        top_caughtB
        refine ⟨by omega, by omega, ?_⟩
        refine for_range (D := ⟨_, _, fun _ _ => False, fun _ _ => False⟩) (lo := 0) (n := d.toNat) (fun i σ H' => ∃ fr xs F w5 w6 w7 w8, σ = [some (.ref p), some (.ref sd), some (.str x), some (.ref fr), some (.ref D), w5, w6, w7, w8, none, none] ∧ H fr = none ∧ fr ≠ D ∧ H' fr = some (.lst xs) ∧ DpAll K (tu H') xs (F.map dTerm) ∧ F.length ≤ 1 + 2 * i ∧ (∀ t ∈ F, t.1.natAbs ≤ 9 ∧ t.2 ∈ ks) ∧ sumG g F = g x ∧ Keep p H H' ∧ PoolAt H' p (f + 6 * (2 - i)) ∧ H' D = some (.lst (ns.map V.str)))
          ⟨fr, xs, F, none, none, none, none, rfl, nfr, Ne.symm nDf, ef3, dF3, lF, gF, sF, k2.trans k3, p3, eD3⟩ ?_ ?_
        · rintro i σ H4 hi ⟨fr, xs, F, w5, w6, w7, w8, rfl, nfr, nfD, efr, dF, lF, gF, sF, k4, p4, eD4⟩
          have hi1 : i ≤ 1 := by omega
          have ed4 := k4.at ed nsp
          refine r_gname ?_
          obtain ⟨pl4, epl4⟩ := pool_lst p4
          have e6 : f + 6 * (2 - i) = f + 6 * (2 - (i + 1)) + 6 := by omega
          rw [e6] at p4
          refine r_ifJ (fun b H' => (b = true → ns ≠ []) ∧ Keep p H4 H' ∧ PoolAt H' p (f + 6 * (2 - (i + 1)) + 5)) (fun QB hQ => ?_) ?_
          · top_caughtB
            intro e ne
            refine ⟨_, _, .lst (sq_of (upd_old ne eD4)) (dpa_strs ns), .lst (sq_of upd_same) .nil, shaped_strs fun y hy => (hg y (h2 y hy).1).2, shaped_strs (xs := []) (fun x h => by cases h), ?_⟩
            rw [eqv_strs_nil]
            top_caughtB
            refine ite2 (fun h => ?_) (fun h => ?_)
            · top_caughtB
              refine c_drawK (f + 6 * (2 - (i + 1)) + 5) (p4.new ne) (by decide) (by decide) fun d2 H5 h20 h21 k5 p5 => ?_
              top_caughtB
              refine hQ _ _ ⟨fun _ => ?_, (Keep.new ne).trans k5, p5⟩
              intro z
              rw [z] at h
              exact absurd h (by decide)
            · exact hQ _ _ ⟨(fun z => by cases z), Keep.new ne, (p4.new ne).less (g := f + 6 * (2 - (i + 1)) + 5) (by omega)⟩
          · rintro b H5 ⟨hb, k5, p5⟩
            have nfp : fr ≠ p := hp.away nfr
            have eD5 := k5.at eD4 nDp
            have ef5 := k5.at efr nfp
            have ed5 := k5.at ed4 nsp
            have dF5 := dpa_same (tu_keep epl4 k5) dF
            have lxs : xs.length ≤ 5 := by
              have := dpa_len dF
              rw [List.length_map] at this
              omega
            obtain ⟨pl5, epl5⟩ := pool_lst p5
            refine ite2 (fun h => ?_) (fun h => ?_)
            · have hns := hb h
              have hns0 : 0 < ns.length := List.length_pos_iff.mpr hns
              top_caughtB
              refine ⟨p, f + 6 * (2 - (i + 1)) + 1, rfl, p5, fun H6 a ha0 ha9 k6 p6 => ?_⟩
              have eD6 := k6.at eD5 nDp
              top_caughtB
              refine c_drawK (f + 6 * (2 - (i + 1))) p6 (by rw [List.length_map]; omega) (by rw [List.length_map]; omega) fun d2 H7 h20 h21 k7 p7 => ?_
              have eD7 := k7.at eD6 nDp
              have ef7 := k7.at (k6.at ef5 nfp) nfp
              obtain ⟨y, hy, ey⟩ := at_str (ls := ns) h20 (by rw [List.length_map] at h21; exact h21)
              refine r_ixL (sq_of eD7) ey ?_
              top_caughtB
              intro T nT
              have nTf : fr ≠ T := ne_of_none ef7 nT
              have nDT : D ≠ T := ne_of_none eD7 nT
              have dF7 := dpa_same ((tu_keep epl5 (k6.trans k7)).trans (tu_new (o := .tup [.int a, .str y]) nT)) dF5
              have dT := dp_term_new (K := K) (H := upd H7 T (.tup [.int a, .str y])) (a := T) (c := a) (x := y) upd_same
              have efT : (upd H7 T (.tup [.int a, .str y])) fr = some (.lst xs) := upd_old nT ef7
              have gy := h2 y hy
              have kT : Keep p H (upd H7 T (.tup [.int a, .str y])) := (((k4.trans k5).trans k6).trans k7).trans (Keep.new nT)
              top_caughtB
              refine r_app0 ⟨xs, efT, Nat.lt_of_le_of_lt (show xs.length ≤ 1000 by omega) (by decide), ?_⟩
              refine ⟨fr, _, F ++ [(a, y)], _, _, _, _, rfl, nfr, nfD, upd_same, ?_, ?_, ?_, ?_, kT.mut nfr, (p7.new nT).oth (Ne.symm nfp), ?_⟩
              · rw [List.map_append]
                exact dpa_append (dpa_same (tu_lst efT) dF7) (.cons (dp_same (tu_lst efT) dT) .nil)
              · rw [List.length_append]
                show F.length + 1 ≤ _
                omega
              · intro tm ht
                rcases List.mem_append.mp ht with ht | ht
                · exact gF tm ht
                · cases List.mem_singleton.mp ht
                  exact ⟨ha9, gy.1⟩
              · rw [sumG_app, sF]
                show g x + (a * g y + 0) = g x
                rw [gy.2]
                omega
              · rw [upd_ne (Ne.symm nfD)]
                exact upd_old nT eD7
            · top_caughtB
              refine ⟨sd, sk ks g, ks, rfl, .inl ed5, sk_keys, hk6, fun os oq hperm _ noq => ?_⟩
              have hos : os.length = ks.length := hperm.length_eq
              have p6 := p5.new (o := .lst (os.map V.str)) noq
              have noqp : oq ≠ p := p5.away noq
              have ed6 : (upd H5 oq (.lst (os.map V.str))) sd = some (.dK (sk ks g)) := upd_old noq ed5
              have ef6 : (upd H5 oq (.lst (os.map V.str))) fr = some (.lst xs) := upd_old noq ef5
              have eD6 : (upd H5 oq (.lst (os.map V.str))) D = some (.lst (ns.map V.str)) := upd_old noq eD5
              have eo6 : (upd H5 oq (.lst (os.map V.str))) oq = some (.lst (os.map V.str)) := upd_same
              have k6 : Keep p H (upd H5 oq (.lst (os.map V.str))) := (k4.trans k5).trans (Keep.new noq)
              have dF6 := dpa_same (tu_new (o := .lst (os.map V.str)) noq) dF5
              generalize upd H5 oq (.lst (os.map V.str)) = H6 at p6 ed6 ef6 eD6 eo6 k6 dF6 ⊢
              top_caughtB
              refine c_drawK (f + 6 * (2 - (i + 1)) + 4) p6 (by rw [List.length_map]; omega) (by rw [List.length_map]; omega) fun d2 H7 h20 h21 k7 p7 => ?_
              have eo7 := k7.at eo6 noqp
              obtain ⟨y1, hy1, ey1⟩ := at_str (ls := os) h20 (by rw [List.length_map] at h21; exact h21)
              refine r_ixL (sq_of eo7) ey1 ?_
              top_caughtB
              refine c_drawK (f + 6 * (2 - (i + 1)) + 3) p7 (by rw [List.length_map]; omega) (by rw [List.length_map]; omega) fun d3 H8 h30 h31 k8 p8 => ?_
              have eo8 := k8.at eo7 noqp
              obtain ⟨y2, hy2, ey2⟩ := at_str (ls := os) h30 (by rw [List.length_map] at h31; exact h31)
              refine r_ixL (sq_of eo8) ey2 ?_
              have k68 := k7.trans k8
              have ed8 := k68.at ed6 nsp
              have ef8 := k68.at ef6 nfp
              have eD8 := k68.at eD6 nDp
              obtain ⟨pl6, epl6⟩ := pool_lst p6
              have dF8 := dpa_same (tu_keep epl6 k68) dF6
              have kk8 := k6.trans k68
              have hk1 := hperm.mem_iff.mp hy1
              have hk2 := hperm.mem_iff.mp hy2
              have hg1 := (hg y1 hk1).1
              have hg2 := (hg y2 hk2).1
              top_caughtB
              refine r_dg ?_
              top_caughtB
              refine r_dget (.inl ed8) (sk_get hk1) ?_
              top_caughtB
              refine r_dg ?_
              top_caughtB
              refine r_dget (.inl ed8) (sk_get hk2) ?_
              top_caughtB
              refine ite2 (fun h => ?_) (fun h => ?_)
              · top_caughtB
                refine r_dg ?_
                top_caughtB
                refine r_dget (.inl ed8) (sk_get hk2) ?_
                top_caughtB
                intro T1 nT1
                have ed9 : (upd H8 T1 (.tup [.int (g y2), .str y1])) sd = some (.dK (sk ks g)) := upd_old nT1 ed8
                top_caughtB
                refine r_dg ?_
                top_caughtB
                refine r_dget (.inl ed9) (sk_get hk1) ?_
                top_caughtB
                intro T2 nT2
                have dT1 := dp_term_new (K := K) (H := upd H8 T1 (.tup [.int (g y2), .str y1])) (a := T1) (c := g y2) (x := y1) upd_same
                have dT2 := dp_term_new (K := K) (H := upd (upd H8 T1 (.tup [.int (g y2), .str y1])) T2 (.tup [.int (0 - g y1), .str y2])) (a := T2) (c := 0 - g y1) (x := y2) upd_same
                top_caughtB
                intro bq nbq
                top_caughtB
                have s1 : Same H8 (upd (upd (upd H8 T1 (.tup [.int (g y2), .str y1])) T2 (.tup [.int (0 - g y1), .str y2])) bq (.lst [.ref T1, .ref T2])) := Fb.Same.new (Fb.Same.new (Fb.Same.new (Same.refl _) nT1) nT2) nbq
                have dF9 := dpa_same (tu_of_keep fun a o h _ => s1 a o h) dF8
                have dT19 := dp_same ((tu_new nT2).trans (tu_new (o := .lst [.ref T1, .ref T2]) nbq)) dT1
                have dT29 := dp_same (tu_new (o := .lst [.ref T1, .ref T2]) nbq) dT2
                have kk9 := kk8.trans (Keep.of_same s1)
                have p9 := p8.same s1
                have ef9 := s1 _ _ ef8
                have eD9 := s1 _ _ eD8
                have eb9 : (upd (upd (upd H8 T1 (.tup [.int (g y2), .str y1])) T2 (.tup [.int (0 - g y1), .str y2])) bq (.lst [.ref T1, .ref T2])) bq = some (.lst [.ref T1, .ref T2]) := upd_same
                generalize upd (upd (upd H8 T1 (.tup [.int (g y2), .str y1])) T2 (.tup [.int (0 - g y1), .str y2])) bq (.lst [.ref T1, .ref T2]) = H9 at dF9 dT19 dT29 kk9 p9 ef9 eD9 eb9 ⊢
                refine ⟨fr, bq, xs, [.ref T1, .ref T2], rfl, rfl, ef9, eb9, Nat.le_trans (show xs.length + 2 ≤ 1000 by omega) (by decide), fun rq nrq => ?_⟩
                refine ⟨rq, _, F ++ [(g y2, y1), (0 - g y1, y2)], _, _, _, _, rfl, kk9.free nrq hp.ne p9.ne, (fun z => by
                  rw [z, eD9] at nrq
                  cases nrq), upd_same, ?_, ?_, ?_, ?_, kk9.trans (Keep.new nrq), (p9.less (by omega)).new nrq, upd_old nrq eD9⟩
                · rw [List.map_append]
                  exact dpa_append (dpa_same (tu_new nrq) dF9) (.cons (dp_same (tu_new nrq) dT19) (.cons (dp_same (tu_new nrq) dT29) .nil))
                · rw [List.length_append]
                  show F.length + 2 ≤ _
                  omega
                · intro tm ht
                  rcases List.mem_append.mp ht with ht | ht
                  · exact gF tm ht
                  · rcases List.mem_cons.mp ht with rfl | ht
                    · exact ⟨hg2, hk1⟩
                    · cases List.mem_singleton.mp ht
                      exact ⟨by show (0 - g y1).natAbs ≤ 9; omega, hk2⟩
                · rw [sumG_app, sF]
                  show g x + (g y2 * g y1 + ((0 - g y1) * g y2 + 0)) = g x
                  rw [Int.sub_mul, Int.zero_mul, Int.mul_comm (g y1) (g y2)]
                  omega
              · have fin : ∃ fr' xs F w5 w6 w7 w8, [some (V.ref p), some (.ref sd), some (.str x), some (.ref fr), some (.ref D), some (.int (0 + (i : Int))), some (.ref oq), some (.str y1), some (.str y2), none, none] = [some (V.ref p), some (.ref sd), some (.str x), some (.ref fr'), some (.ref D), w5, w6, w7, w8, none, none] ∧ H fr' = none ∧ fr' ≠ D ∧ H8 fr' = some (.lst xs) ∧ DpAll K (tu H8) xs (F.map dTerm) ∧ F.length ≤ 1 + 2 * (i + 1) ∧ (∀ t ∈ F, t.1.natAbs ≤ 9 ∧ t.2 ∈ ks) ∧ sumG g F = g x ∧ Keep p H H8 ∧ PoolAt H8 p (f + 6 * (2 - (i + 1))) ∧ H8 D = some (.lst (ns.map V.str)) :=
                  ⟨fr, xs, F, _, _, _, _, rfl, nfr, nfD, ef8, dF8, by omega, gF, sF, kk8, p8.less (by omega), eD8⟩
                exact fin
        · rintro σ H4 ⟨fr, xs, F, w5, w6, w7, w8, rfl, nfr, nfD, efr, dF, lF, gF, sF, k4, p4, eD4⟩
          have lx := dpa_len dF
          rw [List.length_map] at lx
          top_caughtB
          refine ⟨.ref fr, rfl, fr, rfl, ⟨xs, sq_of efr⟩, fun E nE => ?_⟩
          have nEp := p4.away nE
          have nEf : fr ≠ E := ne_of_none efr nE
          refine lc_list (K := K) (a := fr) (xs := xs) (σ := [some (.ref p), some (.ref sd), some (.str x), some (.ref fr), some (.ref D), w5, w6, w7, w8, none, none]) (vs := [10]) (fun i H' => ∃ acc, H' = upd H4 E (.lst acc) ∧ acc.length ≤ i ∧ DpAll K (tu H4) acc (((F.take i).filter fun t => !decide (t.1 = 0)).map dTerm))
            ⟨[], rfl, Nat.le_refl _, .nil⟩ ?_ ?_ ?_
          · rintro i H5 hi ⟨acc, rfl, _⟩
            exact sq_of (upd_oth nEf efr)
          · rintro i v H5 hi ⟨acc, rfl, hl, da⟩
            have hil := (List.getElem?_eq_some_iff.mp hi).1
            obtain ⟨tm, htm, dtm⟩ := dpa_at dF hi
            obtain ⟨a, rfl, hST⟩ := dp_term dtm
            have hST2 := sqt_same (tu_le.trans (Fb.Same.new (o := .lst acc) (Same.refl _) nE)) hST
            have etk : F.take (i + 1) = F.take i ++ [tm] := by rw [List.take_succ, htm]; rfl
            rw [etk, List.filter_append, List.map_append]
            top_caughtB
            refine ⟨rfl, ?_⟩
            top_caughtB
            refine ite2 (fun h => ?_) (fun h => ?_)
            · have hne : tm.1 ≠ 0 := fun z => by
                rw [z] at h
                exact absurd h (by decide)
              top_caughtB
              refine ⟨acc, upd_same, Nat.lt_of_le_of_lt (show acc.length ≤ 1000 by omega) (by decide), acc ++ [.ref a], upd_upd, by rw [List.length_append]; exact Nat.succ_le_succ hl, ?_⟩
              rw [List.filter_cons_of_pos (by simp [hne])]
              exact dpa_append da (.cons dtm .nil)
            · have he : tm.1 = 0 := by
                by_cases z : tm.1 = 0
                · exact z
                · exact absurd (by simp [z]) h
              refine ⟨acc, rfl, by omega, ?_⟩
              rw [List.filter_cons_of_neg (by simp [he])]
              simpa using da
          · rintro H5 ⟨acc, rfl, hl, da⟩
            rw [List.take_of_length_le (by omega)] at da
            refine q _ E (F.filter fun t => !decide (t.1 = 0)) ?_ ?_ ?_ ?_ (k4.trans (Keep.new nE)) ((p4.less (by omega)).new nE)
            · exact Nat.le_trans (List.length_filter_le ..) (by omega)
            · intro tm ht
              exact gF tm (List.mem_filter.mp ht).1
            · exact sumG_filter.trans sF
            · refine .lst (sq_of ?_) (dpa_same ((tu_new (o := .lst acc) nE).trans ?_) da)
              · rw [nw_new (hid_none (k4.free nE hp.ne p4.ne))]
                exact hid_at upd_same nEp
              · exact tu_nw (xs := _) (pool_lst ((p4.new nE))).choose_spec (k4.trans (Keep.new nE))


def sp_f_law_kind (K : PySem.W.Frag) (_ : Ad) : Sp := fun vs H Q _ => ∃ (p : Addr) (f m : Nat), vs = [.ref p, .int (m : Int)] ∧ PoolAt H p (f + 500) ∧ 0 < m ∧ m ≤ 6 ∧
  ∀ H' r b L, Drawn b m L → Dp K (nw (hid p H) (hid p H')) (.ref r) (dKind b L) → Keep p H H' → PoolAt H' p f → Q (.ref r) H'
theorem take_succ_of {α : Type} {l : List α} {i : Nat} {x : α} (h : l[i]? = some x) : l.take i ++ [x] = l.take (i + 1) := by
  rw [List.take_succ, h]
  rfl
theorem not_take {α : Type} {l : List α} (nd : l.Nodup) {i : Nat} {x : α} (h : l[i]? = some x) : x ∉ l.take i := fun hm => by
  have h2 : (l.take i ++ [x]).Nodup := by
    rw [take_succ_of h]
    exact (List.take_sublist _ _).nodup nd
  rw [List.nodup_append] at h2
  exact h2.2.2 x hm x (List.mem_singleton.mpr rfl) rfl
theorem r_dput {td ty tv : TE} {D : Ends} {σ : L2.St} {H : Hp} (q : tv σ H fun v H1 => td σ H1 fun x H2 => ty σ H2 fun y H3 => ∃ a H4, x = .ref a ∧ DPut H3 a y v H4 ∧ D.nx σ H4) : sDPut td ty tv D σ H := q
theorem cut_letters {d : Int} (h0 : 0 ≤ d) (h1 : d < 6) : cutV (lettersL.map V.str) none (some (1 + d)) = (lettersL.take (1 + d.toNat)).map V.str := by
  have : d = 0 ∨ d = 1 ∨ d = 2 ∨ d = 3 ∨ d = 4 ∨ d = 5 := by omega
  rcases this with rfl | rfl | rfl | rfl | rfl | rfl <;> rfl
theorem ok_f_law_kind {P : Program} {w : World} {K : PySem.W.Frag} {mg : Str → Option Value} {base : Heap} {t : Ad} (T : Txt K mg t) : FnOk P w K mg base CX0 4 t.a_f_law_kind t.d_f_law_kind ["pool", "many"] (sp_f_law_kind K t) := by
  refine T.F_f_law_kind.ok sc_f_law_kind (fun vs H Q E h => ?_) (fun cdv A outer s H vs Q E hr h => ?_)
  · obtain ⟨p, f, m, rfl, _⟩ := h
    rfl
  · obtain ⟨p, f, m, rfl, hp, hm0, hm6, q⟩ := h
    refine ⟨_, (pss_cons (ps_par (i := 2) (j := 3) (by rfl) sc_f_law_kind.nd rfl rfl (by decide) rfl rfl (pa_cons (pe_ix ix_list (pe_lst (pa_cons pe_int (pa_cons pe_int (pa_cons pe_int (pa_cons pe_int pa_nil))))) (pe_call (ok_f_law_draw T) (hr.mono (by decide)) (by rfl) T.g_f_law_draw T.F_f_law_draw.kp T.b_f_law_draw .nil pass0 (pa_cons (pv 0) (pa_cons pe_int pa_nil))) (fun _ _ => rfl)) (pa_cons (pe_slice sl_list (pe_lst (pa_cons pe_str (pa_cons pe_str (pa_cons pe_str (pa_cons pe_str (pa_cons pe_str (pa_cons pe_str pa_nil))))))) po_none (po_some (pe_op op_add pe_int (pe_call (ok_f_law_draw T) (hr.mono (by decide)) (by rfl) T.g_f_law_draw T.F_f_law_draw.kp T.b_f_law_draw .nil pass0 (pa_cons (pv 0) (pa_cons (pv 1) pa_nil)))))) pa_nil)) (by rfl))
      (pss_cons (ps_par (i := 4) (j := 5) (by rfl) sc_f_law_kind.nd rfl rfl (by decide) rfl rfl (pa_cons pe_dnewK (pa_cons (pe_lst pa_nil) pa_nil)) (by rfl))
      (pss_cons (ps_for PassesOwn.never rfl (pi_list (pv 3)) (pg_name (i := 6) sc_f_law_kind.nd rfl (Or.inl rfl)) (pss_one (ps_dput (hu_of hr) (pv 4) (pv 6) (pe_ix ix_list (pe_lst (pa_cons pe_int (pa_cons pe_int (pa_cons pe_int (pa_cons (pe_op op_sub (pe_call (ok_f_law_draw T) (hr.mono (by decide)) (by rfl) T.g_f_law_draw T.F_f_law_draw.kp T.b_f_law_draw .nil pass0 (pa_cons (pv 0) (pa_cons pe_int pa_nil))) pe_int) pa_nil))))) (pe_call (ok_f_law_draw T) (hr.mono (by decide)) (by rfl) T.g_f_law_draw T.F_f_law_draw.kp T.b_f_law_draw .nil pass0 (pa_cons (pv 0) (pa_cons pe_int pa_nil))) (fun _ _ => rfl)) rfl)))
      (pss_cons (ps_for PassesOwn.never rfl (pi_list (pv 3)) (pg_name (i := 6) sc_f_law_kind.nd rfl (Or.inl rfl)) (pss_cons (ps_set (i := 7) sc_f_law_kind.nd rfl (Or.inl rfl) (pe_lst (pa_cons (pe_call (ok_f_law_first T) (hr.mono (by decide)) (by rfl) T.g_f_law_first T.F_f_law_first.kp T.b_f_law_first .nil pass0 (pa_cons (pv 0) (pa_cons (pv 4) (pa_cons (pv 6) pa_nil)))) pa_nil)))
      (pss_cons (ps_for PassesOwn.never rfl (pi_range2 (by rfl) T.m_range (pa_cons pe_int (pa_cons (pv 2) pa_nil))) (pg_name (i := 8) sc_f_law_kind.nd rfl (Or.inl rfl)) (pss_one (ps_expr (pe_bm PySem.F.plainAttrs_list PySem.F.slot_list_append PySem.F.type_list_append mt_append (pv 7) (pa_cons (pe_call (ok_f_law_terms T) (hr.mono (by decide)) (by rfl) T.g_f_law_terms T.F_f_law_terms.kp T.b_f_law_terms .nil pass0 (pa_cons (pv 0) (pa_cons (pv 3) (pa_cons pe_int pa_nil)))) pa_nil)))))
      (pss_one (ps_expr (pe_bm PySem.F.plainAttrs_list PySem.F.slot_list_insert PySem.F.type_list_insert mt_insert (pv 5) (pa_cons (pe_call (ok_f_law_draw T) (hr.mono (by decide)) (by rfl) T.g_f_law_draw T.F_f_law_draw.kp T.b_f_law_draw .nil pass0 (pa_cons (pv 0) (pa_cons (pe_op op_add (pe_callB call_len_seq (by rfl) T.m_len (by decide +kernel) (pa_cons (pv 5) pa_nil)) pe_int) pa_nil))) (pa_cons (pe_tup (pa_cons (pv 6) (pa_cons (pe_dget (hu_of hr) (pv 4) (pv 6) (fun _ _ => rfl)) (pa_cons (pv 7) pa_nil)))) pa_nil))))))))
      (pss_one (ps_ret (pe_tup (pa_cons (pv 2) (pa_cons (pv 5) pa_nil))))))))), ?_⟩
    rw [show L2.start N_f_law_kind [V.ref p, V.int (m : Int)] = [some (V.ref p), some (V.int (m : Int)), none, none, none, none, none, none, none] from rfl]; try dsimp only [cxOf]
    top_caughtB
    intro q1 nq1
    have nq1p := hp.away nq1
    top_caughtB
    refine c_drawK (f + 499) (hp.new nq1) (by decide) (by decide) fun d1 H1 h10 h11 k1 p1 => ?_
    have e1 := k1.at (upd_same (H := H)) nq1p
    have kk1 : Keep p H H1 := (Keep.new nq1).trans k1
    obtain ⟨b, eb, hb⟩ : ∃ b : Nat, atI [V.int 2, V.int 2, V.int 3, V.int 4] d1 = some (.int (b : Int)) ∧ (b = 2 ∨ b = 3 ∨ b = 4) := by
      have : d1 = 0 ∨ d1 = 1 ∨ d1 = 2 ∨ d1 = 3 := by omega
      rcases this with rfl | rfl | rfl | rfl
      · exact ⟨2, rfl, .inl rfl⟩
      · exact ⟨2, rfl, .inl rfl⟩
      · exact ⟨3, rfl, .inr (.inl rfl)⟩
      · exact ⟨4, rfl, .inr (.inr rfl)⟩
    refine r_ixL (sq_of e1) eb ?_
    top_caughtB
    intro l0 nl0
    have nl0p := p1.away nl0
    top_caughtB
    refine c_drawK (f + 498) (p1.new nl0) (by omega) (by omega) fun d2 H2 h20 h21 k2 p2 => ?_
    have e2 : H2 l0 = some (.lst (lettersL.map V.str)) := k2.at (upd_same (H := H1)) nl0p
    have kk2 : Keep p H H2 := (kk1.trans (Keep.new nl0)).trans k2
    top_caughtB
    refine ⟨l0, _, rfl, sq_of e2, fun lq nlq => ?_⟩
    rw [cut_letters h20 (by omega)]
    top_caughtB
    intro sd nsd
    top_caughtB
    intro ln nln
    top_caughtB
    have hn6 : 1 + d2.toNat ≤ 6 := by omega
    have hnm : 1 + d2.toNat ≤ m := by omega
    have hn0 : 0 < 1 + d2.toNat := by omega
    generalize 1 + d2.toNat = n0 at hn6 hnm hn0 nsd nln ⊢
    have hkl : (lettersL.take n0).length = n0 := by rw [List.length_take]; exact Nat.min_eq_left hn6
    have hknd : (lettersL.take n0).Nodup := (List.take_sublist n0 lettersL).nodup (by decide +kernel)
    have hkin : ∀ y ∈ lettersL.take n0, y ∈ lettersL := fun y h => List.mem_of_mem_take h
    have s25 : Same H2 (upd (upd (upd H2 lq (.lst ((lettersL.take n0).map V.str))) sd (.dK [])) ln (.lst [])) := Fb.Same.new (Fb.Same.new (Fb.Same.new (Same.refl _) nlq) nsd) nln
    have nqp : lq ≠ p := p2.away nlq
    have nsp : sd ≠ p := (p2.new nlq).away nsd
    have nlp : ln ≠ p := ((p2.new nlq).new nsd).away nln
    have nls : ln ≠ sd := fun y => by rw [y, upd_same] at nln; cases nln
    have nlql : lq ≠ ln := fun y => by rw [← y, upd_old nsd upd_same] at nln; cases nln
    have nlqs : lq ≠ sd := fun y => by rw [← y, upd_same] at nsd; cases nsd
    have kk5 := kk2.trans (Keep.of_same s25)
    have p5 := p2.same s25
    have eq5 : (upd (upd (upd H2 lq (.lst ((lettersL.take n0).map V.str))) sd (.dK [])) ln (.lst [])) lq = some (.lst ((lettersL.take n0).map V.str)) := upd_old nln (upd_old nsd upd_same)
    have es5 : (upd (upd (upd H2 lq (.lst ((lettersL.take n0).map V.str))) sd (.dK [])) ln (.lst [])) sd = some (.dK []) := upd_old nln upd_same
    have el5 : (upd (upd (upd H2 lq (.lst ((lettersL.take n0).map V.str))) sd (.dK [])) ln (.lst [])) ln = some (.lst []) := upd_same
    have nsdH : H sd = none := (kk2.trans (Keep.new nlq)).free nsd hp.ne (p2.new nlq).ne
    have nlnH : H ln = none := ((kk2.trans (Keep.new nlq)).trans (Keep.new nsd)).free nln hp.ne ((p2.new nlq).new nsd).ne
    generalize upd (upd (upd H2 lq (.lst ((lettersL.take n0).map V.str))) sd (.dK [])) ln (.lst []) = H5 at s25 kk5 p5 eq5 es5 el5 ⊢
    clear s25 nln nsd nlq kk2 kk1 e1 e2 k1 k2 p1 p2 eb
    refine ⟨.ref lq, rfl, lq, rfl, ⟨_, sq_of eq5⟩, for_list (K := K) (a := lq) (xs := (lettersL.take n0).map V.str) (fun i σ H' => ∃ (g : Str → Int) (w : Option V), σ = [some (.ref p), some (.int (m : Int)), some (.int (b : Int)), some (.ref lq), some (.ref sd), some (.ref ln), w, none, none] ∧ (∀ y, (g y).natAbs ≤ 9) ∧ H' sd = some (.dK (sk ((lettersL.take n0).take i) g)) ∧ H' lq = some (.lst ((lettersL.take n0).map V.str)) ∧ H' ln = some (.lst []) ∧ Keep p H H' ∧ PoolAt H' p (f + 486 + 2 * (6 - i)))
      ⟨fun _ => 0, none, rfl, (fun _ => (by decide : (0 : Int).natAbs ≤ 9)), es5, eq5, el5, kk5, p5⟩ (fun i σ H' _ ⟨_, _, _, _, _, e, _⟩ => sq_of e) ?_ ?_⟩
    · rintro i v σ H6 hi ⟨g, w, rfl, hg, es6, eq6, el6, k6, p6⟩
      rw [List.getElem?_map] at hi
      cases hx : (lettersL.take n0)[i]? with
      | none => rw [hx] at hi; cases hi
      | some x =>
        rw [hx] at hi
        cases hi
        have hi6 : i < n0 := by
          have := (List.getElem?_eq_some_iff.mp hx).1
          omega
        have ep : f + 486 + 2 * (6 - i) = f + 486 + 2 * (6 - (i + 1)) + 1 + 1 := by omega
        rw [ep] at p6
        refine r_gname ?_
        refine r_dput ?_
        top_caughtB
        refine c_drawK _ p6 (by decide) (by decide) fun d3 H7 h30 h31 k7 p7 => ?_
        top_caughtB
        intro t1 nt1
        have nt1p := p7.away nt1
        top_caughtB
        refine c_drawK _ (p7.new nt1) (by decide) (by decide) fun d4 H8 h40 h41 k8 p8 => ?_
        have et8 := k8.at (upd_same (H := H7)) nt1p
        have k68 : Keep p H6 H8 := (k7.trans (Keep.new nt1)).trans k8
        obtain ⟨z, ez, hz⟩ : ∃ z : Int, atI [V.int 0, V.int 1, V.int 1, V.int (d3 - 9)] d4 = some (.int z) ∧ z.natAbs ≤ 9 := by
          have : d4 = 0 ∨ d4 = 1 ∨ d4 = 2 ∨ d4 = 3 := by omega
          rcases this with rfl | rfl | rfl | rfl
          · exact ⟨0, rfl, by decide⟩
          · exact ⟨1, rfl, by decide⟩
          · exact ⟨1, rfl, by decide⟩
          · exact ⟨_, rfl, by omega⟩
        refine r_ixL (sq_of et8) ez ?_
        top_caughtB
        have es8 := k68.at es6 nsp
        have eq8 := k68.at eq6 nqp
        have el8 := k68.at el6 nlp
        have hnot : x ∉ (lettersL.take n0).take i := not_take hknd hx
        refine ⟨sd, _, rfl, .k (k := Sum.inr x) es8 (by rw [sk_len, List.length_take, hkl]; exact Nat.lt_of_le_of_lt (show min i n0 ≤ 1000 by omega) (by decide)), ?_⟩
        rw [sk_put hnot, take_succ_of hx]
        refine ⟨_, _, rfl, fun y => ?_, upd_same, upd_oth nlqs eq8, upd_oth nls el8, (k6.trans k68).mut nsdH, p8.oth (Ne.symm nsp)⟩
        show (if y = x then z else g y).natAbs ≤ 9
        split
        · exact hz
        · exact hg y
    · rintro σ H6 ⟨g, w, rfl, hg, es6, eq6, el6, k6, p6⟩
      rw [List.length_map, hkl] at p6
      rw [List.take_of_length_le (by rw [List.length_map]; exact Nat.le_refl _)] at es6
      obtain ⟨pl6, epl6⟩ := pool_lst p6
      have hx64 : ∀ i, (f + 63 * (n0 - (i + 1))) ≤ f + 63 * (n0 - i) := fun i => by omega
      top_caughtB
      refine ⟨.ref lq, rfl, lq, rfl, ⟨_, sq_of eq6⟩, for_list (K := K) (a := lq) (xs := (lettersL.take n0).map V.str) (fun i σ H' => ∃ (L : List Line) (xs : List V) (w6 w7 w8 : Option V), σ = [some (.ref p), some (.int (m : Int)), some (.int (b : Int)), some (.ref lq), some (.ref sd), some (.ref ln), w6, w7, w8] ∧ H' sd = some (.dK (sk (lettersL.take n0) g)) ∧ H' lq = some (.lst ((lettersL.take n0).map V.str)) ∧ H' ln = some (.lst xs) ∧ DpAll K (nw H6 H') xs (L.map dLine) ∧ (names L).Perm ((lettersL.take n0).take i) ∧ (∀ l ∈ L, LineOk b (lettersL.take n0) g l) ∧ Keep p H H' ∧ Shp p H6 H' ∧ PoolAt H' p (f + 63 * (n0 - i)))
        ⟨[], [], w, none, none, rfl, es6, eq6, el6, .nil, .refl _, (fun l h => by cases h), k6, .refl, p6.less (by omega)⟩ (fun i σ H' _ ⟨_, _, _, _, _, _, _, e, _⟩ => sq_of e) ?_ ?_⟩
      · rintro i v σ H7 hi ⟨L, xs, w6, w7, w8, rfl, es7, eq7, el7, dL, hperm, hL, k7, sh7, p7⟩
        rw [List.getElem?_map] at hi
        cases hx : (lettersL.take n0)[i]? with
        | none => rw [hx] at hi; cases hi
        | some x =>
          rw [hx] at hi
          cases hi
          have hi6 : i < n0 := by
            have := (List.getElem?_eq_some_iff.mp hx).1
            omega
          have hxm := List.mem_of_getElem? hx
          have ep : f + 63 * (n0 - i) = f + 63 * (n0 - (i + 1)) + 49 + 14 := by omega
          rw [ep] at p7
          refine r_gname ?_
          top_caughtB
          refine ⟨p, sd, _, lettersL.take n0, g, x, rfl, p7, es7, by omega, by omega, hxm, fun y hy => ⟨hg y, (letters_ok y (hkin y hy)).2.2⟩, fun H8 r F hF5 hFt hFs dF k8 p8 => ?_⟩
          have es8 := k8.at es7 nsp
          have eq8 := k8.at eq7 nqp
          have el8 := k8.at el7 nlp
          obtain ⟨pl7, epl7⟩ := pool_lst p7
          have dF8 := dp_same (nw_up (Hy := H8) sh7) dF
          have dL8 := dpa_same (nw_stepK epl6 k8) dL
          have sh8 := sh7.keep k8
          have k8' := k7.trans k8
          top_caughtB
          intro fq nfq
          have nfp := p8.away nfq
          have nf6 : H6 fq = none := sh8.none nfq nfp
          have nfH : H fq = none := k8'.free nfq hp.ne p8.ne
          have nfs : fq ≠ sd := Ne.symm (ne_of_none es8 nfq)
          have nfl : fq ≠ ln := Ne.symm (ne_of_none el8 nfq)
          have nfq' : fq ≠ lq := Ne.symm (ne_of_none eq8 nfq)
          refine r_gname ?_
          refine r_seq ?_
          refine r_for2 ?_
          top_caughtB
          refine ⟨⟨by decide, by decide, by omega, by omega⟩, ?_⟩
          refine for_range (D := ⟨_, _, fun _ _ => False, fun _ _ => False⟩) (lo := 1) (n := ((b : Int) - 1).toNat) (fun j σ H' => ∃ (Fs : List (List Term)) (ys : List V) (w8 : Option V), σ = [some (.ref p), some (.int (m : Int)), some (.int (b : Int)), some (.ref lq), some (.ref sd), some (.ref ln), some (.str x), some (.ref fq), w8] ∧ H' sd = some (.dK (sk (lettersL.take n0) g)) ∧ H' lq = some (.lst ((lettersL.take n0).map V.str)) ∧ H' ln = some (.lst xs) ∧ H' fq = some (.lst ys) ∧ DpAll K (hid fq (nw H6 H')) xs (L.map dLine) ∧ DpAll K (hid fq (nw H6 H')) ys (Fs.map dForm) ∧ Fs.length = 1 + j ∧ Fs[0]? = some F ∧ (∀ F ∈ Fs, F.length ≤ 5 ∧ ∀ t ∈ F, t.1.natAbs ≤ 9 ∧ t.2 ∈ lettersL.take n0) ∧ Keep p H H' ∧ Shp p H6 H' ∧ PoolAt H' p (f + 63 * (n0 - (i + 1)) + 1 + 16 * (3 - j)))
            ⟨[F], [.ref r], w8, rfl, upd_old nfq es8, upd_old nfq eq8, upd_old nfq el8, upd_same, dpa_same (hid_nw_new nfq) dL8, .cons (dp_same (hid_nw_new nfq) dF8) .nil, rfl, rfl, (fun F' h => by
              cases List.mem_singleton.mp h
              exact ⟨hF5, hFt⟩), k8'.trans (Keep.new nfq), sh8.new nfq, (p8.less (by omega)).new nfq⟩ ?_ ?_
          · rintro j σ H9 hj ⟨Fs, ys, w8, rfl, es9, eq9, el9, ef9, dL9, dFs9, hFl, hF0, hFok, k9, sh9, p9⟩
            have hj2 : j ≤ 2 := by omega
            have ep : f + 63 * (n0 - (i + 1)) + 1 + 16 * (3 - j) = (f + 63 * (n0 - (i + 1)) + 1 + 16 * (3 - (j + 1))) + 1 + 5 * 3 := by omega
            rw [ep] at p9
            have hyl := dpa_len dFs9
            rw [List.length_map, hFl] at hyl
            top_caughtB
            refine ⟨p, lq, _, lettersL.take n0, 3, rfl, p9, by decide, nqp, eq9, by omega, by omega, fun H10 r2 F2 hF3 hFt2 dF2 k10 p10 => ?_⟩
            have ef10 := k10.at ef9 nfp
            top_caughtB
            refine r_app0 ⟨ys, ef10, Nat.lt_of_le_of_lt (show ys.length ≤ 1000 by omega) (by decide), ?_⟩
            refine ⟨Fs ++ [F2], _, _, rfl, upd_oth (Ne.symm nfs) (k10.at es9 nsp), upd_oth (Ne.symm nfq') (k10.at eq9 nqp), upd_oth (Ne.symm nfl) (k10.at el9 nlp), upd_same, ?_, ?_, ?_, ?_, ?_, (k9.trans k10).mut nfH, (sh9.keep k10).put ef10 rfl, p10.oth (Ne.symm nfp)⟩
            · exact dpa_same ((hid_same (nw_stepK epl6 k10)).trans hid_nw_upd) dL9
            · rw [List.map_append]
              exact dpa_append (dpa_same ((hid_same (nw_stepK epl6 k10)).trans hid_nw_upd) dFs9) (.cons (dp_same ((nw_up_hid sh9 ef9 nfp).trans hid_nw_upd) dF2) .nil)
            · rw [List.length_append, hFl]
              rfl
            · rw [List.getElem?_append_left (by omega)]
              exact hF0
            · intro F' h
              rcases List.mem_append.mp h with h | h
              · exact hFok F' h
              · cases List.mem_singleton.mp h
                exact ⟨Nat.le_trans hF3 (by decide), hFt2⟩
          · rintro σ H9 ⟨Fs, ys, w8, rfl, es9, eq9, el9, ef9, dL9, dFs9, hFl, hF0, hFok, k9, sh9, p9⟩
            have hLi : L.length = i := by
              have h1 := hperm.length_eq
              rw [List.length_take, hkl] at h1
              unfold names at h1
              rw [List.length_map] at h1
              omega
            have hxl := dpa_len dL9
            rw [List.length_map, hLi] at hxl
            top_caughtB
            refine ⟨_, rfl, .inl ⟨rfl, _, .inl (.inl el9)⟩, ?_⟩
            top_caughtB
            refine c_drawK (f + 63 * (n0 - (i + 1))) (p9.less (g := f + 63 * (n0 - (i + 1)) + 1) (by omega)) (by omega) (by omega) fun d5 H10 h50 h51 k10 p10 => ?_
            have es10 := k10.at es9 nsp
            have el10 := k10.at el9 nlp
            have ef10 := k10.at ef9 nfp
            top_caughtB
            refine r_dg ?_
            top_caughtB
            refine r_dget (.inl es10) (sk_get hxm) ?_
            top_caughtB
            intro T nT
            have nTf : fq ≠ T := ne_of_none ef10 nT
            have nTl : ln ≠ T := ne_of_none el10 nT
            have nTp := p10.away nT
            have sh10 := sh9.keep k10
            have nT6 : H6 T = none := sh10.none nT nTp
            have el11 : (upd H10 T (.tup [.str x, .int (g x), .ref fq])) ln = some (.lst xs) := upd_old nT el10
            have ef11 : (upd H10 T (.tup [.str x, .int (g x), .ref fq])) fq = some (.lst ys) := upd_old nT ef10
            have dL11 := dpa_same ((hid_same (nw_stepK epl6 k10)).trans ((hid_nw_new (v := .tup [.str x, .int (g x), .ref fq]) nT |> fun z => (hid_le.trans (z.trans hid_le)) : Same (hid fq (nw H6 H10)) (nw H6 (upd H10 T (.tup [.str x, .int (g x), .ref fq])))))) dL9
            have dF11 := dpa_same ((hid_same (nw_stepK epl6 k10)).trans ((hid_nw_new (v := .tup [.str x, .int (g x), .ref fq]) nT |> fun z => (hid_le.trans (z.trans hid_le)) : Same (hid fq (nw H6 H10)) (nw H6 (upd H10 T (.tup [.str x, .int (g x), .ref fq])))))) dFs9
            have dT : Dp K (nw H6 (upd H10 T (.tup [.str x, .int (g x), .ref fq]))) (.ref T) (dLine (x, g x, Fs)) :=
              .tup (st_of (nw_at upd_same nT6)) (.cons (.str x) (.cons (.int (g x)) (.cons (.lst (sq_of (nw_at ef11 nf6)) dF11) .nil)))
            top_caughtB
            refine ⟨ln, xs, d5, .ref T, rfl, rfl, el11, Nat.lt_of_le_of_lt (show xs.length ≤ 1000 by omega) (by decide), h50, by omega, ?_⟩
            have sM : Same (nw H6 (upd H10 T (.tup [.str x, .int (g x), .ref fq]))) (nw H6 (upd (upd H10 T (.tup [.str x, .int (g x), .ref fq])) ln (.lst (xs.take d5.toNat ++ [.ref T] ++ xs.drop d5.toNat)))) := nw_stepM el6
            refine ⟨L.take d5.toNat ++ [(x, g x, Fs)] ++ L.drop d5.toNat, _, _, _, _, rfl, upd_oth (Ne.symm nls) (upd_old nT es10), upd_oth nlql (upd_old nT (k10.at eq9 nqp)), upd_same, ?_, ?_, ?_, ((k9.trans k10).trans (Keep.new nT)).mut nlnH, (sh10.new nT).put el11 rfl, (p10.new nT).oth (Ne.symm nlp)⟩
            · rw [List.map_append, List.map_append, List.map_take, List.map_drop]
              exact dpa_append (dpa_append (dpa_take _ (dpa_same sM dL11)) (.cons (dp_same sM dT) .nil)) (dpa_drop _ (dpa_same sM dL11))
            · have h1 : names (L.take d5.toNat ++ [(x, g x, Fs)] ++ L.drop d5.toNat) = (names L).take d5.toNat ++ [x] ++ (names L).drop d5.toNat := by
                unfold names
                rw [List.map_append, List.map_append, List.map_take, List.map_drop]
                rfl
              rw [h1, ← take_succ_of hx]
              have h2 : ((names L).take d5.toNat ++ [x] ++ (names L).drop d5.toNat).Perm ((names L).take d5.toNat ++ (names L).drop d5.toNat ++ [x]) := by
                rw [List.append_assoc, List.append_assoc]
                exact List.Perm.append_left _ List.perm_append_comm
              rw [List.take_append_drop] at h2
              exact h2.trans (hperm.append_right _)
            · intro l h
              have hl2 : l ∈ L ∨ l = (x, g x, Fs) := by
                rcases List.mem_append.mp h with h | h
                · rcases List.mem_append.mp h with h | h
                  · exact .inl (List.mem_of_mem_take h)
                  · exact .inr (List.mem_singleton.mp h)
                · exact .inl (List.mem_of_mem_drop h)
              rcases hl2 with h | rfl
              · exact hL l h
              · refine ⟨rfl, ?_, fun F' h => (hFok F' h).1, fun F' h => (hFok F' h).2, fun F' h => ?_⟩
                · show Fs.length = b
                  omega
                · have : F = F' := Option.some.inj (hF0.symm.trans h)
                  subst this
                  exact hFs
      · rintro σ H7 ⟨L, xs, w6, w7, w8, rfl, es7, eq7, el7, dL, hperm, hL, k7, sh7, p7⟩
        rw [List.length_map, hkl, Nat.sub_self, Nat.mul_zero] at p7
        rw [List.length_map, hkl, List.take_take, Nat.min_self] at hperm
        top_caughtB
        intro T nT
        have nT6 : H6 T = none := sh7.none nT (p7.away nT)
        refine q _ T b L (drawn_of hb hn0 hnm hm6 hperm hL fun y _ => hg y) ?_ (k7.trans (Keep.new nT)) (p7.new nT)
        have nTp := p7.away nT
        have nTH : H T = none := k7.free nT hp.ne p7.ne
        refine .tup (st_of (nw_at (hid_at upd_same nTp) (hid_none nTH))) (.cons (.int _) (.cons (.lst (sq_of (nw_at (hid_at (upd_old nT el7) nlp) (hid_none nlnH))) (dpa_same ?_ dL)) .nil))
        exact (nw_mono (Fb.Same.new (Same.refl _) nT)).trans (nw_fin k6 epl6)




def sp_f_law_letters_right (K : PySem.W.Frag) (_ : Ad) : Sp := fun vs H Q _ => ∃ b : Int, vs = [.int b] ∧ (b = 2 ∨ b = 3 ∨ b = 4) ∧ ∀ H', Same H H' → Q (.bl true) H'
theorem abc_letters : ∀ (i c : Nat), ("abcdefghijklmnopqrstuvwxyz" : Str).cps[i]? = some c → letterB ⟨#[c]⟩ = true := fun i c h => by
  have h1 : ("abcdefghijklmnopqrstuvwxyz" : Str).cps.toList.all (fun c => letterB ⟨#[c]⟩) = true := by decide +kernel
  refine List.all_eq_true.mp h1 c ?_
  rw [Array.mem_toList_iff]
  exact Array.mem_of_getElem? h
theorem ok_f_law_letters_right {P : Program} {w : World} {K : PySem.W.Frag} {mg : Str → Option Value} {base : Heap} {t : Ad} (T : Txt K mg t) : FnOk P w K mg base CX0 5 t.a_f_law_letters_right t.d_f_law_letters_right ["base_here"] (sp_f_law_letters_right K t) := by
  refine T.F_f_law_letters_right.ok sc_f_law_letters_right (fun vs H Q E h => ?_) (fun cdv A outer s H vs Q E hr h => ?_)
  · obtain ⟨b, rfl, _⟩ := h
    rfl
  · obtain ⟨b, rfl, hb, q⟩ := h
    refine ⟨_, (pss_cons (ps_for PassesOwn.never rfl (pi_str pe_str) (pg_name (i := 1) sc_f_law_letters_right.nd rfl (Or.inl rfl)) (pss_cons (ps_set (i := 2) sc_f_law_letters_right.nd rfl (Or.inl rfl) (pe_op op_cat (pe_lst (pa_cons (pe_lst (pa_cons (pe_tup (pa_cons pe_int (pa_cons (pv 1) pa_nil))) pa_nil)) pa_nil)) (pe_op op_rep (pe_lst (pa_cons (pe_lst (pa_cons (pe_tup (pa_cons pe_int (pa_cons (pv 1) pa_nil))) pa_nil)) pa_nil)) (pe_op op_sub (pv 0) pe_int))))
      (pss_cons (ps_set (i := 3) sc_f_law_letters_right.nd rfl (Or.inl rfl) (pe_make T.k_Book (ok_f_Book___init__ T) (hr.mono (by decide)) (by rfl) T.g_Book T.b_f_Book___init__ .nil pass0 (pa_cons (pv 0) (pa_cons (pe_lst (pa_cons (pe_tup (pa_cons (pv 1) (pa_cons pe_int (pa_cons (pv 2) pa_nil)))) pa_nil)) pa_nil))))
      (pss_one (ps_if (PW.pt (pw_or (pt_cmpR (op_neD hr.units) (pe_prop (pv 3) T.c_Book T.p_f_Book_names (ok_f_Book_names T) (hr.mono (by decide)) T.b_f_Book_names .nil pass0 rfl) (pe_lst (pa_cons (pv 1) pa_nil)) (nomark _)) (pw_or (pt_cmpR op_ne (pe_meth (pv 3) T.c_Book T.t_f_Book_start_of (ok_f_Book_start_of T) (hr.mono (by decide)) T.b_f_Book_start_of .nil pass0 (pa_cons (pv 1) pa_nil)) pe_int (nomark _)) (pw_or1 (pt_cmpR (op_neD hr.units) (pe_meth (pv 3) T.c_Book T.t_f_Book_formulas_of (ok_f_Book_formulas_of T) (hr.mono (by decide)) T.b_f_Book_formulas_of .nil pass0 (pa_cons (pv 1) pa_nil)) (pv 2) (nomark _)))))) (pss_one (ps_ret pe_bl)) pss_nil)))))
      (pss_one (ps_ret pe_bl))), ?_⟩
    rw [show L2.start N_f_law_letters_right [V.int b] = [some (V.int b), none, none, none] from rfl]; try dsimp only [cxOf]
    top_caughtB
    refine r_forS ?_
    top_caughtB
    refine ⟨_, rfl, for_strL (D := ⟨_, _, fun _ _ => False, fun _ _ => False⟩) (fun i σ H' => ∃ w1 w2 w3 : Option V, σ = [some (.int b), w1, w2, w3] ∧ Same H H') ⟨none, none, none, rfl, Same.refl _⟩ ?_ ?_⟩
    · rintro i c σ H1 hc ⟨w1, w2, w3, rfl, s1⟩
      have hn := abc_letters i c hc
      have hlen : (⟨#[c]⟩ : Str).length ≤ 1000 := by show 1 ≤ 1000; decide
      generalize (⟨#[c]⟩ : Str) = n at hn hlen ⊢
      have hS := one_sound hb hn hlen
      have hk : (b - 1).toNat ≤ 3 := by omega
      top_caughtB
      intro t1 nt1
      top_caughtB
      intro l1 nl1
      top_caughtB
      intro l2 nl2
      top_caughtB
      intro t2 nt2
      top_caughtB
      intro l3 nl3
      top_caughtB
      intro l4 nl4
      have et1 : (upd H1 t1 (.tup [.int 1, .str n])) t1 = some (.tup [.int 1, .str n]) := upd_same
      have el1 := upd_same (H := (upd H1 t1 (.tup [.int 1, .str n]))) (a := l1) (o := .lst [.ref t1])
      have d1 : Dp K (upd (upd H1 t1 (.tup [.int 1, .str n])) l1 (.lst [.ref t1])) (.ref l1) (dForm [(1, n)]) := .lst (sq_of el1) (.cons (.tup (st_of (upd_old nl1 et1)) (.cons (.int _) (.cons (.str _) .nil))) .nil)
      have s2 : Same H1 (upd (upd H1 t1 (.tup [.int 1, .str n])) l1 (.lst [.ref t1])) := Fb.Same.new (Fb.Same.new (Same.refl _) nt1) nl1
      generalize (upd (upd H1 t1 (.tup [.int 1, .str n])) l1 (.lst [.ref t1])) = H2 at d1 s2 nl2 nt2 nl3 nl4 ⊢
      have el2 : (upd H2 l2 (.lst [.ref l1])) l2 = some (.lst [.ref l1]) := upd_same
      have d1 := dp_same (same_new (o := .lst [.ref l1]) nl2) d1
      have s3 := s2.trans (same_new (o := .lst [.ref l1]) nl2)
      generalize upd H2 l2 (.lst [.ref l1]) = H3 at d1 s3 el2 nt2 nl3 nl4 ⊢
      have et2 : (upd H3 t2 (.tup [.int 2, .str n])) t2 = some (.tup [.int 2, .str n]) := upd_same
      have el3 := upd_same (H := (upd H3 t2 (.tup [.int 2, .str n]))) (a := l3) (o := .lst [.ref t2])
      have d3 : Dp K (upd (upd H3 t2 (.tup [.int 2, .str n])) l3 (.lst [.ref t2])) (.ref l3) (dForm [(2, n)]) := .lst (sq_of el3) (.cons (.tup (st_of (upd_old nl3 et2)) (.cons (.int _) (.cons (.str _) .nil))) .nil)
      have s34 : Same H3 (upd (upd H3 t2 (.tup [.int 2, .str n])) l3 (.lst [.ref t2])) := Fb.Same.new (Fb.Same.new (Same.refl _) nt2) nl3
      have d1 := dp_same s34 d1
      have el2 := s34 _ _ el2
      have s4 := s3.trans s34
      generalize (upd (upd H3 t2 (.tup [.int 2, .str n])) l3 (.lst [.ref t2])) = H4 at d1 d3 s4 el2 nl4 ⊢
      have el4 : (upd H4 l4 (.lst [.ref l3])) l4 = some (.lst [.ref l3]) := upd_same
      have d1 := dp_same (same_new (o := .lst [.ref l3]) nl4) d1
      have d3 := dp_same (same_new (o := .lst [.ref l3]) nl4) d3
      have el2 := same_new (o := .lst [.ref l3]) nl4 _ _ el2
      have s5 := s4.trans (same_new (o := .lst [.ref l3]) nl4)
      generalize upd H4 l4 (.lst [.ref l3]) = H5 at d1 d3 s5 el2 el4 ⊢
      clear s2 s3 s4 s34
      refine ⟨_, rfl, ?_⟩
      top_caughtB
      refine ⟨l4, b - 1, _, rfl, rfl, el4, by omega, by omega, Nat.le_of_lt (small1000 (by simp; omega)), fun l5 nl5 => ?_⟩
      rw [List.flatten_replicate_singleton]
      have el5 : (upd H5 l5 (.lst (List.replicate (b - 1).toNat (V.ref l3)))) l5 = some (.lst (List.replicate (b - 1).toNat (V.ref l3))) := upd_same
      have s56 := same_new (o := .lst (List.replicate (b - 1).toNat (V.ref l3))) nl5
      generalize upd H5 l5 (.lst (List.replicate (b - 1).toNat (V.ref l3))) = H6 at s56 el5 ⊢
      have d1 := dp_same s56 d1
      have d3 := dp_same s56 d3
      have el2 := s56 _ _ el2
      have s6 := s5.trans s56
      refine ⟨l2, l5, _, _, rfl, rfl, el2, el5, Nat.le_of_lt (small1000 (by simp; omega)), fun l6 nl6 => ?_⟩
      have s67 := same_new (o := .lst ([V.ref l1] ++ List.replicate (b - 1).toNat (V.ref l3))) nl6
      have d6 : Dp K (upd H6 l6 (.lst ([V.ref l1] ++ List.replicate (b - 1).toNat (V.ref l3)))) (.ref l6) (dForms (oneL n (b - 1).toNat).2.2) := .lst (sq_of upd_same) (.cons (dp_same s67 d1) (dpa_rep (dp_same s67 d3) _))
      have s7 := s6.trans s67
      generalize upd H6 l6 (.lst ([V.ref l1] ++ List.replicate (b - 1).toNat (V.ref l3))) = H7 at d6 s7 ⊢
      clear d1 d3 el2 el4 el5 s5 s6 s56 s67
      top_caughtB
      intro t7 nt7
      top_caughtB
      intro l8 nl8
      have et7 : (upd H7 t7 (.tup [.str n, .int 3, .ref l6])) t7 = some (.tup [.str n, .int 3, .ref l6]) := upd_same
      have s8 : Same H7 (upd (upd H7 t7 (.tup [.str n, .int 3, .ref l6])) l8 (.lst [.ref t7])) := Fb.Same.new (Fb.Same.new (Same.refl _) nt7) nl8
      have d8 : Dp K (upd (upd H7 t7 (.tup [.str n, .int 3, .ref l6])) l8 (.lst [.ref t7])) (.ref l8) (dRows [oneL n (b - 1).toNat]) := .lst (sq_of upd_same) (.cons (.tup (st_of (upd_old nl8 et7)) (.cons (.str _) (.cons (.int _) (.cons (dp_same s8 d6) .nil)))) .nil)
      generalize (upd (upd H7 t7 (.tup [.str n, .int 3, .ref l6])) l8 (.lst [.ref t7])) = H8 at s8 d8 ⊢
      have d6 := dp_same s8 d6
      top_caughtB
      intro x dx nx ndx nex
      refine ⟨x, dx, l8, b, _, rfl, upd_same, dp_same (made_hid nx ndx) d8, hS, fun H9 k9 B => ⟨rfl, ?_⟩⟩
      have s9 := made_same nx ndx k9
      have B := B.same nw_le
      have d6 := dp_same s9 d6
      have s19 := (s7.trans s8).trans s9
      obtain ⟨bx, nm, st, fm, sp, h1, h2, h3, h4, h5⟩ := B.ex
      have N1 : Nice 1 (1 * 2) (.list ([n].map PyData.str)) := nice_list (fun d hd => by
        have e := List.mem_singleton.mp hd
        subst e
        exact nice_str (letter_ok hn).1 (Nat.le_of_eq (letter_ok hn).2)) (Nat.le_refl _)
      have N2 := nice_sound hS (l := oneL n (b - 1).toNat) List.mem_cons_self
      have hin : n ∈ names [oneL n (b - 1).toNat] := List.mem_singleton.mpr rfl
      top_caughtB
      refine ⟨x, bx, _, rfl, h1, x, b, _, rfl, B, fun p1 np1 => ?_⟩
      top_caughtB
      intro p2 np2
      refine ⟨_, _, .lst (sq_of (upd_old np2 upd_same)) (dpa_strs [n]), .lst (sq_of upd_same) (dpa_strs [n]), N1.shaped (by decide), N1.shaped (by decide), ?_⟩
      rw [N1.eqv]
      top_caughtB
      refine ite2 (fun z => by cases z) (fun _ => ?_)
      have s10 : Same H9 (upd (upd H9 p1 (.lst ((names [oneL n (b - 1).toNat]).map V.str))) p2 (.lst [.str n])) := Fb.Same.new (Fb.Same.new (Same.refl _) np1) np2
      generalize (upd (upd H9 p1 (.lst ((names [oneL n (b - 1).toNat]).map V.str))) p2 (.lst [.str n])) = H10 at s10 ⊢
      top_caughtB
      refine ⟨x, bx, _, rfl, s10 _ _ h1, bk_no (by decide +kernel), ?_⟩
      top_caughtB
      refine ⟨x, b, _, n, rfl, B.same s10, hin, ?_⟩
      rw [show worth (names [oneL n (b - 1).toNat]) (starts [oneL n (b - 1).toNat]) n = 3 from one_worth n]
      top_caughtB
      refine ite2 (fun z => absurd z (by decide)) (fun _ => ?_)
      top_caughtB
      refine ⟨x, bx, _, rfl, s10 _ _ h1, bk_no (by decide +kernel), ?_⟩
      top_caughtB
      refine ⟨x, b, _, oneL n (b - 1).toNat, rfl, B.same s10, hS, List.mem_cons_self, fun H11 r nr s11 dr _ => ?_⟩
      top_caughtB
      refine ⟨_, _, dp_same nw_le dr, dp_same (s10.trans s11) d6, N2.shaped (by decide), N2.shaped (by decide), ?_⟩
      rw [N2.eqv]
      top_caughtB
      refine ite2 (fun z => by cases z) (fun _ => ?_)
      top_caughtB
      exact ⟨_, _, _, rfl, s1.trans (s19.trans (s10.trans s11))⟩
    · rintro σ H1 ⟨w1, w2, w3, rfl, s1⟩
      top_caughtB
      exact q _ s1


theorem r_makeK {C : Addr} {m : Nat} {sp : Sp} {gV : List V → List V → List V} {E : XK} {tk : TA} {σ : L2.St} {H : Hp} {Q : VK} (q : tk σ H fun zs H2 => ([] : List V).length = 0 ∧ zs.length = m ∧ ∀ x dx, H2 x = none → H2 dx = none → dx ≠ x → sp (gV [.ref x] zs) (upd (upd H2 dx (.own x)) x (.ins C dx [])) (fun v H3 => v = .non ∧ Q (.ref x) H3) E) : tMakeK C 0 m sp gV E tNil tk σ H Q := q
/-- the lists that were handed on, and may be changed -/
def HA (K : PySem.W.Frag) (H1 Hb : Hp) (D : Addr) (L : List Line) (ys : List V) (H' : Hp) (n : Nat) : Prop :=
  ∀ (i : Nat) (l : Line), L[i]? = some l → ∃ T fl c0 : Addr, ys[i]? = some (.ref T) ∧ SqT K H' T [.str l.1, .int l.2.1, .ref fl] ∧ fl ≠ D ∧ c0 ≠ D ∧ H1 fl = none ∧ H1 c0 = none ∧ (∃ xs, Hb fl = some (.lst xs)) ∧ (∃ zs, Hb c0 = some (.lst zs)) ∧
    (∃ xs, H' fl = some (.lst xs) ∧ xs[0]? = some (.ref c0) ∧ xs.length ≤ 4 + n) ∧ ∃ zs, H' c0 = some (.lst zs) ∧ zs.length ≤ 100 + n
theorem HA.same {K : PySem.W.Frag} {H1 Hb H' H'' : Hp} {D : Addr} {L : List Line} {ys : List V} {n : Nat} (s : Same H' H'') (h : HA K H1 Hb D L ys H' n) : HA K H1 Hb D L ys H'' n := fun i l e => by
  obtain ⟨T, fl, c0, h1, h2, h3, h4, h5, h6, h7, h8, ⟨xs, a1, a2, a3⟩, zs, b1, b2⟩ := h i l e
  exact ⟨T, fl, c0, h1, sqt_same s h2, h3, h4, h5, h6, h7, h8, ⟨xs, s _ _ a1, a2, a3⟩, zs, s _ _ b1, b2⟩
theorem HA.app {K : PySem.W.Frag} {H1 Hb H' : Hp} {D a : Addr} {L : List Line} {ys ws : List V} {n : Nat} {y : V} (e : H' a = some (.lst ws)) (h : HA K H1 Hb D L ys H' n) : HA K H1 Hb D L ys (upd H' a (.lst (ws ++ [y]))) (n + 1) := fun i l el => by
  obtain ⟨T, fl, c0, h1, h2, h3, h4, h5, h6, h7, h8, ⟨xs, a1, a2, a3⟩, zs, b1, b2⟩ := h i l el
  refine ⟨T, fl, c0, h1, sqt_mut e h2, h3, h4, h5, h6, h7, h8, ?_, ?_⟩
  · by_cases q : fl = a
    · subst q
      rw [e] at a1
      cases a1
      refine ⟨_, upd_same, ?_, by rw [List.length_append]; simp; omega⟩
      rw [List.getElem?_append_left (List.getElem?_eq_some_iff.mp a2).1]
      exact a2
    · exact ⟨xs, upd_oth q a1, a2, by omega⟩
  · by_cases q : c0 = a
    · subst q
      rw [e] at b1
      cases b1
      exact ⟨_, upd_same, by rw [List.length_append]; simp; omega⟩
    · exact ⟨zs, upd_oth q b1, by omega⟩
theorem keep_mut {p a : Addr} {H1 H' : Hp} {o : HO} (k : Keep p H1 H') (n : H1 a = none) : Keep p H1 (upd H' a o) := fun c u e m => by
  rw [upd_ne (ne_of_none e n)]
  exact k c u e m
theorem pool_oth {p a : Addr} {H : Hp} {f : Nat} {o : HO} (h : PoolAt H p f) (n : p ≠ a) : PoolAt (upd H a o) p f := by
  obtain ⟨u, e, po⟩ := h
  exact ⟨u, upd_oth n e, po⟩
def sp_f_law_right (K : PySem.W.Frag) (_ : Ad) : Sp := fun vs H Q _ => ∃ (p : Addr) (f : Nat), vs = [.ref p] ∧ PoolAt H p (f + 600) ∧ ∀ H', Keep p H H' → PoolAt H' p f → Q (.bl true) H'
theorem ok_f_law_right {P : Program} {w : World} {K : PySem.W.Frag} {mg : Str → Option Value} {base : Heap} {t : Ad} (T : Txt K mg t) : GOk P w K mg base CX0 6 t.a_f_law_right t.d_f_law_right ["pool"] (sp_f_law_right K t) := by
  refine GOk.body T.F_f_law_right sc_f_law_right (fun vs H Q E h => ?_) (fun cdv A outer s H vs Q E hc hr h => ?_)
  · obtain ⟨p, f, rfl, _⟩ := h
    rfl
  · obtain ⟨p, f, rfl, hp, q⟩ := h
    refine ⟨_, (pss_cons (ps_set (i := 1) sc_f_law_right.nd rfl (Or.inl rfl) (pe_ix ix_list (pe_lst (pa_cons (pe_call (ok_f_law_kind T) (hr.mono (by decide)) (by rfl) T.g_f_law_kind T.F_f_law_kind.kp T.b_f_law_kind .nil pass0 (pa_cons (pv 0) (pa_cons pe_int pa_nil))) (pa_cons (pe_ix ix_tup (pe_call (ok_f_law_known T) (hr.mono (by decide)) (by rfl) T.g_f_law_known T.F_f_law_known.kp T.b_f_law_known .nil pass0 (pa_cons (pv 0) pa_nil)) pe_int (fun _ _ => rfl)) (pa_cons (pe_tup (pa_cons pe_int (pa_cons (pe_lst pa_nil) pa_nil))) pa_nil)))) (pe_op op_fdivW (pe_call (ok_f_law_draw T) (hr.mono (by decide)) (by rfl) T.g_f_law_draw T.F_f_law_draw.kp T.b_f_law_draw .nil pass0 (pa_cons (pv 0) (pa_cons pe_int pa_nil))) pe_int) (fun _ _ => rfl)))
      (pss_cons (ps_setLc (i := 2) (own := [("letter", 4), ("start", 5), ("formulas", 6)]) (te := (tTup (tCons (tVar 4) (tCons (tVar 5) (tCons (tLc (iList K (tVar 6)) (gName 9) tYes (tCB (rListOf K) (tCons (tVar 9) tNil)) [9]) tNil))))) (tt := tYes) (g := (gTup K 3 (gCons (gName 4) (gCons (gName 5) (gCons (gName 6) gNil))))) rfl sc_f_law_right.nd rfl rfl (sw_true rfl rfl rfl (by decide +kernel)) (pi_list (pe_ix ix_tup (pv 1) pe_int (fun _ _ => rfl))) (blkOk_by (own := [("letter", 4), ("start", 5), ("formulas", 6)]) (N := N_f_law_right) (sc := defScope s_f_law_right) (by decide +kernel)) (fun _ _ _ _ _ => (pg_tup rfl (pgs_cons (pg_name (i := 4) sc_f_law_right.nd rfl (Or.inl rfl)) (pgs_cons (pg_name (i := 5) sc_f_law_right.nd rfl (Or.inl rfl)) (pgs_cons (pg_name (i := 6) sc_f_law_right.nd rfl (Or.inl rfl)) pgs_nil))))) (fun _ _ _ _ _ => pts_nil) (fun _ _ _ _ _ => (pe_tup (pa_cons (pv 4) (pa_cons (pv 5) (pa_cons (pe_lc (own := [("one", 9)]) (te := (tCB (rListOf K) (tCons (tVar 9) tNil))) (tt := tYes) (g := (gName 9)) rfl sc_f_law_right.nd (pi_list (pv 6)) (blkOk_by (own := [("one", 9)]) (N := N_f_law_right) (by rfl)) (fun _ _ _ _ _ => (pg_name (i := 9) sc_f_law_right.nd rfl (Or.inl rfl))) (fun _ _ _ _ _ => pts_nil) (fun _ _ _ _ _ => (pe_callTy (T := "list") call_list_of (by rfl) T.m_list (by decide +kernel) (pa_cons (pv 9) pa_nil)))) pa_nil))))))
      (pss_cons (ps_set (i := 3) sc_f_law_right.nd rfl (Or.inl rfl) (pe_ifExp (pt_cmpR op_eq (pe_call (ok_f_law_draw T) (hr.mono (by decide)) (by rfl) T.g_f_law_draw T.F_f_law_draw.kp T.b_f_law_draw .nil pass0 (pa_cons (pv 0) (pa_cons pe_int pa_nil))) pe_int (nomark _)) (pe_make T.k_Book (ok_f_Book___init__ T) (hr.mono (by decide)) (by rfl) T.g_Book T.b_f_Book___init__ .nil pass0 (pa_cons (pe_ix ix_tup (pv 1) pe_int (fun _ _ => rfl)) (pa_cons (pv 2) pa_nil))) (pe_makeK0 T.k_Book (ok_f_Book___init__ T) (hr.mono (by decide)) (by rfl) T.g_Book T.kb_f_Book___init__ pass0 (pk_cons (pv 2) (pk_cons (pe_ix ix_tup (pv 1) pe_int (fun _ _ => rfl)) pk_nil)))))
      (pss_cons (ps_for PassesOwn.never rfl (pi_list (pv 2)) (pg_tup rfl (pgs_cons (pg_name (i := 4) sc_f_law_right.nd rfl (Or.inl rfl)) (pgs_cons (pg_name (i := 5) sc_f_law_right.nd rfl (Or.inl rfl)) (pgs_cons (pg_name (i := 6) sc_f_law_right.nd rfl (Or.inl rfl)) pgs_nil)))) (pss_cons (ps_expr (pe_bm PySem.F.plainAttrs_list PySem.F.slot_list_append PySem.F.type_list_append mt_append (pe_ix ix_list (pv 6) pe_int (fun _ _ => rfl)) (pa_cons (pe_tup (pa_cons pe_int (pa_cons (pv 4) pa_nil))) pa_nil)))
      (pss_one (ps_expr (pe_bm PySem.F.plainAttrs_list PySem.F.slot_list_append PySem.F.type_list_append mt_append (pv 6) (pa_cons (pe_lst pa_nil) pa_nil))))))
      (pss_cons (ps_expr (pe_bm PySem.F.plainAttrs_list PySem.F.slot_list_append PySem.F.type_list_append mt_append (pv 2) (pa_cons (pe_tup (pa_cons pe_str (pa_cons pe_int (pa_cons (pe_lst (pa_cons (pe_lst pa_nil) (pa_cons (pe_lst pa_nil) pa_nil))) pa_nil)))) pa_nil)))
      (pss_cons (ps_for PassesOwn.never rfl (pi_range1 (by rfl) T.m_range (pa_cons pe_int pa_nil)) (pg_name (i := 7) sc_f_law_right.nd rfl (Or.inl rfl)) (pss_cons (ps_if (pt_cmpR op_ne (pe_callB (call_reprD hr hc) (by rfl) T.m_repr (by decide +kernel) (pa_cons (pe_lst (pa_cons (pe_prop (pv 3) T.c_Book T.p_f_Book_base (ok_f_Book_base T) (hr.mono (by decide)) T.b_f_Book_base .nil pass0 rfl) (pa_cons (pe_prop (pv 3) T.c_Book T.p_f_Book_names (ok_f_Book_names T) (hr.mono (by decide)) T.b_f_Book_names .nil pass0 rfl) pa_nil))) pa_nil)) (pe_callB (call_reprD hr hc) (by rfl) T.m_repr (by decide +kernel) (pa_cons (pe_lst (pa_cons (pe_ix ix_tup (pv 1) pe_int (fun _ _ => rfl)) (pa_cons (pe_lc (own := [("line", 10)]) (te := (tOp (rIxT K) (tVar 10) (tC (.int 0)))) (tt := tYes) (g := (gName 10)) rfl sc_f_law_right.nd (pi_list (pe_ix ix_tup (pv 1) pe_int (fun _ _ => rfl))) (blkOk_by (own := [("line", 10)]) (N := N_f_law_right) (sc := defScope s_f_law_right) (by decide +kernel)) (fun _ _ _ _ _ => (pg_name (i := 10) sc_f_law_right.nd rfl (Or.inl rfl))) (fun _ _ _ _ _ => pts_nil) (fun _ _ _ _ _ => (pe_ix ix_tup (pv 10) pe_int (fun _ _ => rfl)))) pa_nil))) pa_nil)) (nomark _)) (pss_one (ps_ret pe_bl)) pss_nil)
      (pss_cons (ps_for PassesOwn.never rfl (pi_list (pe_ix ix_tup (pv 1) pe_int (fun _ _ => rfl))) (pg_tup rfl (pgs_cons (pg_name (i := 4) sc_f_law_right.nd rfl (Or.inl rfl)) (pgs_cons (pg_name (i := 5) sc_f_law_right.nd rfl (Or.inl rfl)) (pgs_cons (pg_name (i := 6) sc_f_law_right.nd rfl (Or.inl rfl)) pgs_nil)))) (pss_cons (ps_if (pt_cmpR op_ne (pe_callB (call_reprD hr hc) (by rfl) T.m_repr (by decide +kernel) (pa_cons (pe_lst (pa_cons (pe_meth (pv 3) T.c_Book T.t_f_Book_start_of (ok_f_Book_start_of T) (hr.mono (by decide)) T.b_f_Book_start_of .nil pass0 (pa_cons (pv 4) pa_nil)) (pa_cons (pe_methK0 (pv 3) T.c_Book T.t_f_Book_start_of (ok_f_Book_start_of T) (hr.mono (by decide)) T.kb_f_Book_start_of pass0 (pk_cons (pv 4) pk_nil)) pa_nil))) pa_nil)) (pe_callB (call_reprD hr hc) (by rfl) T.m_repr (by decide +kernel) (pa_cons (pe_lst (pa_cons (pv 5) (pa_cons (pv 5) pa_nil))) pa_nil)) (nomark _)) (pss_one (ps_ret pe_bl)) pss_nil)
      (pss_cons (ps_set (i := 8) sc_f_law_right.nd rfl (Or.inl rfl) (pe_ifExp (pt_cmpR op_eq (pv 7) pe_int (nomark _)) (pe_meth (pv 3) T.c_Book T.t_f_Book_formulas_of (ok_f_Book_formulas_of T) (hr.mono (by decide)) T.b_f_Book_formulas_of .nil pass0 (pa_cons (pv 4) pa_nil)) (pe_methK0 (pv 3) T.c_Book T.t_f_Book_formulas_of (ok_f_Book_formulas_of T) (hr.mono (by decide)) T.kb_f_Book_formulas_of pass0 (pk_cons (pv 4) pk_nil))))
      (pss_cons (ps_if (pt_cmpR op_ne (pe_callB (call_reprD hr hc) (by rfl) T.m_repr (by decide +kernel) (pa_cons (pv 8) pa_nil)) (pe_callB (call_reprD hr hc) (by rfl) T.m_repr (by decide +kernel) (pa_cons (pe_lc (own := [("one", 9)]) (te := (tCB (rListOf K) (tCons (tVar 9) tNil))) (tt := tYes) (g := (gName 9)) rfl sc_f_law_right.nd (pi_list (pv 6)) (blkOk_by (own := [("one", 9)]) (N := N_f_law_right) (sc := defScope s_f_law_right) (by decide +kernel)) (fun _ _ _ _ _ => (pg_name (i := 9) sc_f_law_right.nd rfl (Or.inl rfl))) (fun _ _ _ _ _ => pts_nil) (fun _ _ _ _ _ => (pe_callTy (T := "list") call_list_of (by rfl) T.m_list (by decide +kernel) (pa_cons (pv 9) pa_nil)))) pa_nil)) (nomark _)) (pss_one (ps_ret pe_bl)) pss_nil)
      (pss_cons (ps_expr (pe_bm PySem.F.plainAttrs_list PySem.F.slot_list_append PySem.F.type_list_append mt_append (pe_ix ix_list (pv 8) pe_int (fun _ _ => rfl)) (pa_cons (pe_tup (pa_cons pe_int (pa_cons (pv 4) pa_nil))) pa_nil)))
      (pss_one (ps_expr (pe_bm0 PySem.F.plainAttrs_list PySem.F.slot_list_reverse PySem.F.type_list_reverse mt_reverse (pv 8)))))))))
      (pss_one (ps_expr (pe_bm PySem.F.plainAttrs_list PySem.F.slot_list_append PySem.F.type_list_append mt_append (pe_prop (pv 3) T.c_Book T.p_f_Book_names (ok_f_Book_names T) (hr.mono (by decide)) T.b_f_Book_names .nil pass0 rfl) (pa_cons pe_str pa_nil)))))))
      (pss_one (ps_ret (pe_and (pe_cmpR (op_eqG (rcG_ins (ok_f_Book___eq__ T) T.t_f_Book___eq__.1 T.t_f_Book___eq__.2 T.b_f_Book___eq__ pass0) (hr.mono (by decide))) (pv 3) (pe_call (ok_f_law_made T) (hr.mono (by decide)) (by rfl) T.g_f_law_made T.F_f_law_made.kp T.b_f_law_made .nil pass0 (pa_cons (pv 1) pa_nil)) (nomark _)) (pe_one (pe_call (ok_f_law_letters_right T) (hr.mono (by decide)) (by rfl) T.g_f_law_letters_right T.F_f_law_letters_right.kp T.b_f_law_letters_right .nil pass0 (pa_cons (pe_op op_add pe_int (pe_call (ok_f_law_draw T) (hr.mono (by decide)) (by rfl) T.g_f_law_draw T.F_f_law_draw.kp T.b_f_law_draw .nil pass0 (pa_cons (pv 0) (pa_cons pe_int pa_nil)))) pa_nil)))))))))))), ?_⟩
    rw [show L2.start N_f_law_right [V.ref p] = [some (V.ref p), none, none, none, none, none, none, none, none, none, none] from rfl]; try dsimp only [cxOf]
    have pl := pool_lst hp
    refine r_seqJ (fun v H' => ∃ (kd : Addr) (b : Int) (L : List Line), v = .ref kd ∧ Sound b L ∧ Dp K (hid p H') (.ref kd) (dKind b L) ∧ Keep p H H' ∧ PoolAt H' p (f + 50)) (fun QQ hQ => ?_) ?_
    · top_caughtB
      refine ⟨p, f + 99, 6, rfl, hp.less (by omega), by decide, by decide, fun H2 r1 b1 L1 dr dk1 k2 p2 => ?_⟩
      have dk1 := dp_same nw_le dk1
      top_caughtB
      refine ⟨p, f + 98, rfl, p2, fun H3 r2 L2 letter hk k3 p3 dr2 => ?_⟩
      obtain ⟨a, v, u, ea, st, dA, dB⟩ := dp_pair dr2
      cases ea
      have st2 := sqt_same hid_le st
      obtain ⟨ka, kx, ky, rfl, _⟩ := dp_pair dA
      have dk1 := dp_same k3.hid dk1
      top_caughtB
      intro e3 ne3
      top_caughtB
      intro T3 nT3
      top_caughtB
      intro q1 nq1
      have s4 : Same H3 (upd (upd (upd H3 e3 (.lst [])) T3 (.tup [.int 3, .ref e3])) q1 (.lst [.ref r1, .ref ka, .ref T3])) := Fb.Same.new (Fb.Same.new (Fb.Same.new (Same.refl _) ne3) nT3) nq1
      have nep := p3.away ne3
      have nTp := (p3.new (o := .lst []) ne3).away nT3
      have nqp := ((p3.new (o := .lst []) ne3).new (o := .tup [.int 3, .ref e3]) nT3).away nq1
      have d3 : Dp K (hid p (upd (upd (upd H3 e3 (.lst [])) T3 (.tup [.int 3, .ref e3])) q1 (.lst [.ref r1, .ref ka, .ref T3]))) (.ref T3) (dKind 3 []) :=
        .tup (st_of (hid_at (upd_old nq1 upd_same) nTp)) (.cons (.int _) (.cons (.lst (sq_of (hid_at (upd_old nq1 (upd_old nT3 upd_same)) nep)) .nil) .nil))
      have eq4 : (upd (upd (upd H3 e3 (.lst [])) T3 (.tup [.int 3, .ref e3])) q1 (.lst [.ref r1, .ref ka, .ref T3])) q1 = some (.lst [.ref r1, .ref ka, .ref T3]) := upd_same
      have p4 := p3.same s4
      generalize (upd (upd (upd H3 e3 (.lst [])) T3 (.tup [.int 3, .ref e3])) q1 (.lst [.ref r1, .ref ka, .ref T3])) = H4 at s4 d3 eq4 p4 ⊢
      have dk1 := dp_same (hid_same s4) dk1
      have dA := dp_same (hid_same s4) dA
      top_caughtB
      refine c_drawK (f + 97) p4 (by decide) (by decide) fun d H5 h0 h1 k5 p5 => ?_
      have eq5 := k5.at eq4 nqp
      have kk := ((k2.trans k3).trans (Keep.of_same s4)).trans k5
      top_caughtB
      obtain ⟨i, hi, hi3⟩ : ∃ i : Nat, d / 3 = (i : Int) ∧ i < 3 := ⟨(d / 3).toNat, by omega, by omega⟩
      rw [hi]
      have hcase : i = 0 ∨ i = 1 ∨ i = 2 := by omega
      rcases hcase with rfl | rfl | rfl
      · exact r_ixL (sq_of eq5) rfl (hQ _ _ ⟨r1, b1, L1, rfl, dr.sound, dp_same k5.hid dk1, kk, p5.less (by omega)⟩)
      · exact r_ixL (sq_of eq5) rfl (hQ _ _ ⟨ka, 2, L2, rfl, knowns_sound _ hk, dp_same k5.hid dA, kk, p5.less (by omega)⟩)
      · exact r_ixL (sq_of eq5) rfl (hQ _ _ ⟨T3, 3, [], rfl, sound_nil (.inr (.inl rfl)), dp_same k5.hid d3, kk, p5.less (by omega)⟩)
    · rintro v H1 ⟨kd, b, L, rfl, S, dk, k1, p1⟩
      obtain ⟨pl1, epl1⟩ := pool_lst p1
      obtain ⟨kd', xb, xl, e, st, db, dl⟩ := dp_pair dk
      cases e
      cases dp_int db
      obtain ⟨lr, ls, rfl, hS, hA⟩ := dp_list dl
      have hll := dpa_len hA
      rw [List.length_map] at hll
      have hm26 := S.many
      have st1 := sqt_same hid_le st
      top_caughtB
      refine r_lcL ?_
      top_caughtB
      refine ⟨lr, rfl, ⟨_, hid_le.seq hS⟩, fun D nD => ?_⟩
      have nDp := p1.away nD
      refine lc_pure (K := K) (σ := [some (.ref p), some (.ref kd), none, none, none, none, none, none, none, none, none]) (vs := [4, 5, 6]) (fun i y H' => ∀ l, L[i]? = some l → Dp K H' y (dLine l) ∧ ∃ (T fl c0 : Addr) (xs zs : List V), y = .ref T ∧ SqT K H' T [.str l.1, .int l.2.1, .ref fl] ∧ fl ≠ D ∧ c0 ≠ D ∧ H1 fl = none ∧ H1 c0 = none ∧ H' fl = some (.lst xs) ∧ xs[0]? = some (.ref c0) ∧ xs.length ≤ 4 ∧ H' c0 = some (.lst zs) ∧ zs.length ≤ 100)
        (fun i y H2 H3 h s g e => ⟨dp_same s (h g e).1, let ⟨T, fl, c0, xs, zs, a1, a2, a3, a4, a5, a6, a7, a8, a9, a10, a11⟩ := (h g e).2; ⟨T, fl, c0, xs, zs, a1, sqt_same s a2, a3, a4, a5, a6, s _ _ a7, a8, a9, s _ _ a10, a11⟩⟩) (hid_le.seq hS) nD (by omega) (fun x H P P' h q => gm_tup3 h q) (fun σ H P P' h q => h _ _ q) ?_ ?_
      · intro i y H2 QQ hi s2 nD2 hq
        obtain ⟨l, hl, hdl⟩ := dpa_at hA hi
        obtain ⟨c, d, rfl, hT1, hF⟩ := dp_line (dp_same (hid_le.trans s2) hdl)
        obtain ⟨d', zs, e, hSF, hAF⟩ := dp_forms hF
        cases e
        have hz := dpa_map_len hAF
        have hlm := List.mem_of_getElem? hl
        have h4 := sound_len S hlm
        have hfl := S.forms l hlm
        have hb := S.base
        unfold LcTurn
        top_caughtB
        refine ⟨rfl, ?_⟩
        top_caughtB
        refine ⟨.ref d, rfl, d, rfl, ⟨zs, hSF⟩, fun D2 hD2 => ?_⟩
        refine lc_pure (K := K) (σ := [some (.ref p), some (.ref kd), none, none, some (.str l.1), some (.int l.2.1), some (.ref d), none, none, none, none]) (vs := [9]) (fun i y H' => ∀ g, l.2.2[i]? = some g → Dp K H' y (dForm g) ∧ ∃ a ws, y = .ref a ∧ H2 a = none ∧ H' a = some (.lst ws) ∧ ws.length = g.length)
          (fun i y H3 H4 h s g e => ⟨dp_same s (h g e).1, let ⟨a, ws, a1, a2, a3, a4⟩ := (h g e).2; ⟨a, ws, a1, a2, s _ _ a3, a4⟩⟩) hSF hD2 (by omega) (fun x H P P' h q => gm_name h q) (fun σ H P P' h q => h _ _ q) ?_ ?_
        · intro j y H3 QQ2 hj s3 nD3 hq2
          obtain ⟨g, hg, hdg⟩ := dpa_at hAF hj
          obtain ⟨c2, us, rfl, hSg, hAg⟩ := dp_form hdg
          unfold LcTurn
          top_caughtB
          refine ⟨rfl, ?_⟩
          top_caughtB
          refine ⟨c2, us, rfl, .inl (s3.seq hSg), fun l2 hl2 => ?_⟩
          refine hq2 _ _ (same_new hl2) fun g' e' => ?_
          have eg := Option.some.inj (hg.symm.trans e')
          subst eg
          exact ⟨.lst (sq_of ((nw_new hl2).trans upd_same)) (dpa_terms_nw (same_new hl2) (dpa_same s3 hAg)), l2, us, rfl, s3.free hl2, (nw_new hl2).trans upd_same, dpa_map_len hAg⟩
        · intro H3 ys hlen hR s3 eD2
          top_caughtB
          intro tp ntp
          refine hq _ _ (s3.trans (same_new ntp)) fun l' e' => ?_
          have ell := Option.some.inj (hl.symm.trans e')
          subst ell
          have htp : H2 tp = none := s3.free ntp
          have hy0 : ys[0]? = some (ys[0]'(by omega)) := List.getElem?_eq_getElem (by omega)
          have hl0 : l.2.2[0]? = some (l.2.2[0]'(by omega)) := List.getElem?_eq_getElem (by omega)
          obtain ⟨_, c0, ws, ey0, nc0, ec0, hws⟩ := hR 0 _ hy0 _ hl0
          have sN := nw_mono (H := H2) (same_new (o := .tup [.str l.1, .int l.2.1, .ref D2]) ntp)
          have eTp : nw H2 (upd H3 tp (.tup [.str l.1, .int l.2.1, .ref D2])) tp = some (.tup [.str l.1, .int l.2.1, .ref D2]) := (nw_new htp).trans upd_same
          have eDD : nw H2 (upd H3 tp (.tup [.str l.1, .int l.2.1, .ref D2])) D2 = some (.lst ys) := (nw_new hD2).trans (upd_old ntp eD2)
          refine ⟨.tup (st_of eTp) (.cons (.str _) (.cons (.int _) (.cons (.lst (sq_of eDD) (dpa_map (by omega) fun i y g h1 h2 => dp_same sN (hR i y h1 g h2).1)) .nil))), tp, D2, c0, ys, ws, rfl, st_of eTp, ?_, ?_, s2.free hD2, s2.free nc0, eDD, by rw [hy0, ey0], by omega, sN _ _ ec0, ?_⟩
          · intro z
            subst z
            exact nD2 hD2
          · intro z
            subst z
            exact nD2 nc0
          · rw [hws]
            exact S.small l hlm _ (List.getElem_mem (by omega))
      · intro H2 ys hlen hR s2 eD
        have hyl : ys.length = L.length := by omega
        have dR : Dp K (nw H1 H2) (.ref D) (dRows L) := .lst (sq_of ((nw_new nD).trans eD)) (dpa_map hyl fun i y g h1 h2 => (hR i y h1 g h2).1)
        have p2 := p1.same s2
        refine r_gname ?_
        dsimp only [List.set]
        refine r_seqJ (fun v H' => ∃ (x : Addr) (Hb : Hp), v = .ref x ∧ Keep p H2 Hb ∧ PoolAt Hb p (f + 49) ∧ Same Hb H' ∧ BookC (t.C_Book, t.C_System) K (nw Hb H') x b L) (fun QQ hQ => ?_) ?_
        · top_caughtB
          refine c_drawK (f + 49) p2 (by decide) (by decide) fun d Hb h0 h1 kb pb => ?_
          have dRb : Dp K Hb (.ref D) (dRows L) := dp_same hid_le (dp_same ((nw_hidp epl1).trans kb.hid) dR)
          have stb := sqt_same ((Keep.of_same s2).trans kb).hid st
          have stb := sqt_same hid_le stb
          top_caughtB
          refine ite2 (fun _ => ?_) (fun _ => ?_)
          · top_caughtB
            intro x dx nx ndx nex
            refine ⟨x, dx, D, b, L, rfl, upd_same, dp_same (made_hid nx ndx) dRb, S, fun H3 k3 B => ⟨rfl, ?_⟩⟩
            exact hQ _ _ ⟨x, Hb, rfl, kb, pb, made_same nx ndx k3, B.same (nw_back (made_hid nx ndx))⟩
          · refine r_makeK ?_
            top_caughtB
            refine ⟨rfl, rfl, ?_⟩
            intro x dx nx ndx nex
            refine ⟨x, dx, D, b, L, rfl, upd_same, dp_same (made_hid nx ndx) dRb, S, fun H3 k3 B => ⟨rfl, ?_⟩⟩
            exact hQ _ _ ⟨x, Hb, rfl, kb, pb, made_same nx ndx k3, B.same (nw_back (made_hid nx ndx))⟩
        · rintro v H3 ⟨x, Hb, rfl, kb, pb, s3, B3⟩
          have hHA : HA K H1 Hb D L ys H3 (2 * 0) := fun i l hl => by
            have hil := (List.getElem?_eq_some_iff.mp hl).1
            have hyi : ys[i]? = some (ys[i]'(by omega)) := List.getElem?_eq_getElem (by omega)
            obtain ⟨_, T0, fl, c0, xs, zs, a1, a2, a3, a4, a5, a6, a7, a8, a9, a10, a11⟩ := hR i _ hyi l hl
            have up : ∀ {a : Addr} {o : HO}, nw H1 H2 a = some o → Hb a = some o := fun h => hid_le _ _ (kb.hid _ _ (nw_hidp epl1 _ _ h))
            refine ⟨T0, fl, c0, by rw [hyi, a1], sqt_same s3 (sqt_same (fun a o h => up h) a2), a3, a4, a5, a6, ⟨xs, up a7⟩, ⟨zs, up a10⟩, ⟨xs, s3 _ _ (up a7), a8, by omega⟩, zs, s3 _ _ (up a10), by omega⟩
          have eDb : Hb D = some (.lst ys) := kb _ _ eD nDp
          have eD3 := s3 _ _ eDb
          have p3 := pb.same s3
          have k3 : Keep p H1 H3 := ((Keep.of_same s2).trans kb).trans (Keep.of_same s3)
          have hps : ∀ {a : Addr}, H1 a = none → p ≠ a := fun h z => by subst z; exact p1.ne h
          clear hR dR p2 eD s2
          refine r_gname ?_
          dsimp only [List.set]
          refine r_seq ?_
          refine r_forL ?_
          top_caughtB
          refine ⟨D, rfl, ⟨_, sq_of eD3⟩, for_list (K := K) (a := D) (xs := ys) (D := ⟨_, _, fun _ _ => False, fun _ _ => False⟩) (fun j σ H' => ∃ w4 w5 w6 : Option V, σ = [some (.ref p), some (.ref kd), some (.ref D), some (.ref x), w4, w5, w6, none, none, none, none] ∧ Keep p H1 H' ∧ PoolAt H' p (f + 49) ∧ H' D = some (.lst ys) ∧ HA K H1 Hb D L ys H' (2 * j) ∧ BookC (t.C_Book, t.C_System) K (nw Hb H') x b L)
            ⟨none, none, none, rfl, k3, p3, eD3, hHA, B3⟩ (fun j σ H' _ ⟨_, _, _, _, _, _, e, _⟩ => sq_of e) ?_ ?_⟩
          · clear hHA eD3 p3 k3 B3
            rintro j v σ H4 hj ⟨w4, w5, w6, rfl, k4, p4, eD4, hHA, B4⟩
            have hjl : j < L.length := by
              have := (List.getElem?_eq_some_iff.mp hj).1
              omega
            obtain ⟨T, fl, c0, a1, a2, a3, a4, a5, a6, ⟨xb1, a7⟩, ⟨zb1, a8⟩, ⟨xs, b1, b2, b3⟩, zs, c1, c2⟩ := hHA j _ (List.getElem?_eq_getElem hjl)
            rw [hj] at a1
            cases a1
            generalize L[j] = l at a2
            top_caughtB
            refine r_ixL (sq_of b1) (by rw [show (0 : Int) = ((0 : Nat) : Int) from rfl]; exact atI_nat b2) ?_
            refine r_tyL c1 ?_
            top_caughtB
            intro T8 nT8
            have sT : Same H4 (upd H4 T8 (.tup [.int 7, .str l.1])) := same_new nT8
            have eT : (upd H4 T8 (.tup [.int 7, .str l.1])) T8 = some (.tup [.int 7, .str l.1]) := upd_same
            generalize upd H4 T8 (.tup [.int 7, .str l.1]) = H5 at sT eT ⊢
            have c15 := sT _ _ c1
            have b15 := sT _ _ b1
            have hHA5 := (hHA.same sT).app (y := .ref T8) c15
            refine ⟨c0, zs, _, rfl, rfl, c15, small1000 (by omega), ?_⟩
            have k5 : Keep p H1 (upd H5 c0 (.lst (zs ++ [.ref T8]))) := keep_mut (k4.trans (Keep.of_same sT)) a6
            have p5 : PoolAt (upd H5 c0 (.lst (zs ++ [.ref T8]))) p (f + 49) := pool_oth (p4.same sT) (hps a6)
            have eD5 : (upd H5 c0 (.lst (zs ++ [.ref T8]))) D = some (.lst ys) := upd_oth (Ne.symm a4) (sT _ _ eD4)
            have B5 := (B4.same (nw_mono sT)).same (nw_mut (o := .lst (zs ++ [.ref T8])) a8)
            obtain ⟨xs5, b5, hx5⟩ : ∃ xs5 : List V, (upd H5 c0 (.lst (zs ++ [.ref T8]))) fl = some (.lst xs5) ∧ xs5.length ≤ 900 := by
              by_cases q : fl = c0
              · subst q
                exact ⟨_, upd_same, by rw [List.length_append]; simp; omega⟩
              · exact ⟨xs, upd_oth q b15, by omega⟩
            generalize upd H5 c0 (.lst (zs ++ [.ref T8])) = H6 at k5 p5 eD5 B5 b5 hHA5 ⊢
            top_caughtB
            intro e6 ne6
            have s6 : Same H6 (upd H6 e6 (.lst [])) := same_new ne6
            generalize upd H6 e6 (.lst []) = H7 at s6 ⊢
            have b7 := s6 _ _ b5
            have hHA7 := (hHA5.same s6).app (y := .ref e6) b7
            refine ⟨fl, xs5, _, rfl, rfl, b7, small1000 (by omega), ?_⟩
            have fin : ∃ w4 w5 w6 : Option V, [some (V.ref p), some (.ref kd), some (.ref D), some (.ref x), some (.str l.1), some (.int l.2.1), some (.ref fl), none, none, none, none] = [some (V.ref p), some (.ref kd), some (.ref D), some (.ref x), w4, w5, w6, none, none, none, none] ∧ Keep p H1 (upd H7 fl (.lst (xs5 ++ [.ref e6]))) ∧ PoolAt (upd H7 fl (.lst (xs5 ++ [.ref e6]))) p (f + 49) ∧ (upd H7 fl (.lst (xs5 ++ [.ref e6]))) D = some (.lst ys) ∧ HA K H1 Hb D L ys (upd H7 fl (.lst (xs5 ++ [.ref e6]))) (2 * (j + 1)) ∧ BookC (t.C_Book, t.C_System) K (nw Hb (upd H7 fl (.lst (xs5 ++ [.ref e6])))) x b L :=
              ⟨_, _, _, rfl, keep_mut (k5.trans (Keep.of_same s6)) a5, pool_oth (p5.same s6) (hps a5), upd_oth (Ne.symm a3) (s6 _ _ eD5), hHA7, (B5.same (nw_mono s6)).same (nw_mut a7)⟩
            exact fin
          · clear hHA eD3 p3 k3 B3
            rintro σ H4 ⟨w4, w5, w6, rfl, k4, p4, eD4, _, B4⟩
            refine ⟨_, rfl, ?_⟩
            refine r_tyL eD4 ?_
            top_caughtB
            intro e5 ne5
            top_caughtB
            intro e6 ne6
            top_caughtB
            intro e7 ne7
            top_caughtB
            intro T8 nT8
            have s5 : Same H4 (upd (upd (upd (upd H4 e5 (.lst [])) e6 (.lst [])) e7 (.lst [.ref e5, .ref e6])) T8 (.tup [.str "x", .int 5, .ref e7])) := Fb.Same.new (Fb.Same.new (Fb.Same.new (Fb.Same.new (Same.refl _) ne5) ne6) ne7) nT8
            generalize upd (upd (upd (upd H4 e5 (.lst [])) e6 (.lst [])) e7 (.lst [.ref e5, .ref e6])) T8 (.tup [.str "x", .int 5, .ref e7]) = H5 at s5 ⊢
            refine ⟨D, ys, _, rfl, rfl, s5 _ _ eD4, small1000 (by omega), ?_⟩
            have k6 : Keep p H1 (upd H5 D (.lst (ys ++ [.ref T8]))) := keep_mut (k4.trans (Keep.of_same s5)) nD
            have p6 : PoolAt (upd H5 D (.lst (ys ++ [.ref T8]))) p (f + 49) := pool_oth (p4.same s5) (hps nD)
            have B6 := ((B4.same (nw_mono s5)).same (nw_mut (o := .lst (ys ++ [.ref T8])) eDb)).same nw_le
            generalize upd H5 D (.lst (ys ++ [.ref T8])) = H6 at k6 p6 B6 ⊢
            clear k4 p4 eD4 B4 s5
            have dk6 := dp_same k6.hid dk
            have kk6 := k1.trans k6
            have st6 := sqt_same (k6.hid.trans hid_le) st
            have hS6 := (k6.hid.trans hid_le).seq hS
            obtain ⟨bx, nm, stt, fm, sp, h1, h2, h3, h4, h5⟩ := B6.ex
            have hn26 : (names L).length ≤ 26 := by unfold names; rw [List.length_map]; exact hm26
            have N1 : Nice 1 (26 * 2) (.list ((names L).map PyData.str)) := nice_list (fun d hd => by
              obtain ⟨y, hy, rfl⟩ := List.mem_map.mp hd
              have g := letter_ok (sound_letters S hy)
              exact nice_str g.1 (by omega)) (by rw [List.length_map]; exact hn26)
            have hb10 : b.natAbs.log2 < 100 := by
              rcases S.base with rfl | rfl | rfl <;> decide +kernel
            have N2 : Nice 2 (2 * 101) (.list [.int b, .list ((names L).map PyData.str)]) := nice_list (fun d hd => by
              rcases List.mem_cons.mp hd with rfl | hd
              · exact (nice_int hb10).more (by decide) (Nat.le_refl _)
              · have e := List.mem_singleton.mp hd
                subst e
                exact N1.more (Nat.le_refl _) (by decide)) (Nat.le_refl _)
            have T2 := N2.told (by decide) (by decide)
            top_caughtB
            refine ⟨by decide, by decide, ?_⟩
            refine for_range (D := ⟨_, _, fun _ _ => False, fun _ _ => False⟩) (lo := 0) (n := 2) (fun i σ H' => ∃ w4 w5 w6 w7 w8 : Option V, σ = [some (.ref p), some (.ref kd), some (.ref D), some (.ref x), w4, w5, w6, w7, w8, none, none] ∧ Same H6 H') ⟨_, _, _, none, none, rfl, Same.refl _⟩ ?_ ?_
            · rintro i σ H7 hi ⟨w4, w5, w6, w7, w8, rfl, s7⟩
              have st7 := sqt_same s7 st6
              have B7 := B6.same s7
              top_caughtB
              refine ⟨x, bx, _, rfl, s7 _ _ h1, x, b, L, rfl, B7, ?_⟩
              top_caughtB
              refine ⟨x, bx, _, rfl, s7 _ _ h1, x, b, L, rfl, B7, fun p1 np1 => ?_⟩
              top_caughtB
              intro l1 nl1
              top_caughtB
              refine ⟨l1, .list [.int b, .list ((names L).map PyData.str)], rfl, .lst (sq_of upd_same) (.cons (.int _) (.cons (.lst (sq_of (upd_old nl1 upd_same)) (dpa_strs _)) .nil)), T2.1, T2.2, T2.3, T2.4, ?_⟩
              have s8 : Same H6 (upd (upd H7 p1 (.lst ((names L).map V.str))) l1 (.lst [.int b, .ref p1])) := s7.trans (Fb.Same.new (Fb.Same.new (Same.refl _) np1) nl1)
              generalize (upd (upd H7 p1 (.lst ((names L).map V.str))) l1 (.lst [.int b, .ref p1])) = H8 at s8 ⊢
              have st8 := sqt_same s8 st6
              top_caughtB
              refine r_lcL ?_
              top_caughtB
              refine ⟨lr, rfl, ⟨_, s8.seq hS6⟩, fun D3 nD3 => ?_⟩
              refine lc_pure (K := K) (σ := [some (.ref p), some (.ref kd), some (.ref D), some (.ref x), w4, w5, w6, some (.int (0 + (i : Int))), w8, none, none]) (vs := [10]) (fun i y H' => ∀ l, L[i]? = some l → y = .str l.1) (fun i y H1 H2 h s g e => h g e) (s8.seq hS6) nD3 (by omega) (fun x H P P' h q => gm_name h q) (fun σ H P P' h q => h _ _ q) ?_ ?_
              · intro u y H9 QQ hu s9 nD9 hq
                obtain ⟨l, hl, hdl⟩ := dpa_at hA hu
                obtain ⟨c0, fr, rfl, hTl, hFl⟩ := dp_line hdl
                have hT9 := sqt_same (((k6.hid.trans hid_le).trans s8).trans s9) hTl
                unfold LcTurn
                top_caughtB
                refine ⟨rfl, ?_⟩
                top_caughtB
                refine hq _ _ (Same.refl _) fun l' e' => ?_
                have ell := Option.some.inj (hl.symm.trans e')
                subst ell
                rfl
              · intro H9 zs hzl hR9 s9 eD9
                have ey : zs = (names L).map V.str := by
                  unfold names
                  rw [List.map_map]
                  exact ext_map (by omega) fun i y l h1 h2 => hR9 i y h1 l h2
                subst ey
                top_caughtB
                intro l2 nl2
                top_caughtB
                refine ⟨l2, .list [.int b, .list ((names L).map PyData.str)], rfl, .lst (sq_of upd_same) (.cons (.int _) (.cons (.lst (sq_of (upd_old nl2 eD9)) (dpa_strs _)) .nil)), T2.1, T2.2, T2.3, T2.4, ?_⟩
                have s10 : Same H6 (upd H9 l2 (.lst [.int b, .ref D3])) := (s8.trans s9).trans (Fb.Same.new (Same.refl _) nl2)
                generalize (upd H9 l2 (.lst [.int b, .ref D3])) = H10 at s10 ⊢
                top_caughtB
                refine ite2 (fun z => ?_) (fun _ => ?_)
                · rw [decide_eq_true rfl] at z
                  cases z
                clear s8 s9 s7 st7 B7 st8 hR9 eD9
                have st10 := sqt_same s10 st6
                refine r_next ?_
                dsimp only
                refine r_seq ?_
                refine r_forL ?_
                top_caughtB
                refine ⟨lr, rfl, ⟨_, s10.seq hS6⟩, for_list (K := K) (a := lr) (xs := ls) (D := ⟨_, _, fun _ _ => False, fun _ _ => False⟩) (fun j σ H' => ∃ w4 w5 w6 w8 : Option V, σ = [some (.ref p), some (.ref kd), some (.ref D), some (.ref x), w4, w5, w6, some (.int (0 + (i : Int))), w8, none, none] ∧ Same H6 H') ⟨_, _, _, _, rfl, s10⟩ (fun j σ H' _ ⟨_, _, _, _, _, sx⟩ => sx.seq hS6) ?_ ?_⟩
                · clear st10 s10
                  rintro j v σ H11 hj ⟨w4, w5, w6, w8, rfl, s11⟩
                  obtain ⟨l, hl, hdl⟩ := dpa_at hA hj
                  obtain ⟨c0, fr, rfl, hTl, hFl⟩ := dp_line hdl
                  have hT11 := sqt_same ((k6.hid.trans hid_le).trans s11) hTl
                  have hlm := List.mem_of_getElem? hl
                  have hin : l.1 ∈ names L := List.mem_map.mpr ⟨l, hlm, rfl⟩
                  have hw : worth (names L) (starts L) l.1 = l.2.1 := worth_map (φ := fun l : Line => l.2.1) S.nd hlm
                  have B11 := B6.same s11
                  have N3 := nice_sound S hlm
                  have T3 := N3.told (by decide) (by decide)
                  have hsm := S.begins l hlm
                  have hTs := told_ints (ns := [l.2.1, l.2.1]) (fun i hi => by
                    have : i = l.2.1 := by
                      rcases List.mem_cons.mp hi with e | hi
                      · exact e
                      · exact List.mem_singleton.mp hi
                    rw [this]
                    exact Nat.lt_trans (PySem.Flt.log2_lt_of (by decide) hsm) (by decide)) (show 2 ≤ 900 by decide)
                  top_caughtB
                  refine ⟨x, bx, _, rfl, s11 _ _ h1, bk_no (by decide +kernel), ?_⟩
                  top_caughtB
                  refine ⟨x, b, L, l.1, rfl, B11, hin, ?_⟩
                  rw [hw]
                  top_caughtB
                  refine r_methK ?_
                  top_caughtB
                  refine ⟨x, bx, _, rfl, s11 _ _ h1, bk_no (by decide +kernel), ?_⟩
                  top_caughtB
                  refine ⟨rfl, ?_⟩
                  refine ⟨x, b, L, l.1, rfl, B11, hin, ?_⟩
                  rw [hw]
                  top_caughtB
                  intro l1 nl1
                  top_caughtB
                  refine ⟨l1, .list [.int l.2.1, .int l.2.1], rfl, .lst (sq_of upd_same) (dpa_ints [l.2.1, l.2.1]), hTs.1, hTs.2, hTs.3, hTs.4, ?_⟩
                  top_caughtB
                  intro l2 nl2
                  top_caughtB
                  refine ⟨l2, .list [.int l.2.1, .int l.2.1], rfl, .lst (sq_of upd_same) (dpa_ints [l.2.1, l.2.1]), hTs.1, hTs.2, hTs.3, hTs.4, ?_⟩
                  have s12 : Same H6 (upd (upd H11 l1 (.lst [.int l.2.1, .int l.2.1])) l2 (.lst [.int l.2.1, .int l.2.1])) := s11.trans (Fb.Same.new (Fb.Same.new (Same.refl _) nl1) nl2)
                  generalize (upd (upd H11 l1 (.lst [.int l.2.1, .int l.2.1])) l2 (.lst [.int l.2.1, .int l.2.1])) = H12 at s12 ⊢
                  top_caughtB
                  refine ite2 (fun z => ?_) (fun _ => ?_)
                  · rw [decide_eq_true rfl] at z
                    cases z
                  have B12 := B6.same s12
                  refine r_next ?_
                  dsimp only
                  refine r_seqJ (fun v H' => ∃ r : Addr, v = .ref r ∧ H12 r = none ∧ Same H12 H' ∧ Dp K (nw H12 H') (.ref r) (dForms l.2.2) ∧ ∃ xs, H' r = some (.lst xs) ∧ xs.length = l.2.2.length ∧ ∀ v ∈ xs, ∃ a zs, v = .ref a ∧ H12 a = none ∧ H' a = some (.lst zs) ∧ ∀ n, (∀ g ∈ l.2.2, g.length ≤ n) → zs.length ≤ n) (fun QQ hQ => ?_) ?_
                  · top_caughtB
                    refine ite2 (fun _ => ?_) (fun _ => ?_)
                    · top_caughtB
                      refine ⟨x, bx, _, rfl, s12 _ _ h1, bk_no (by decide +kernel), ?_⟩
                      top_caughtB
                      exact ⟨x, b, L, l, rfl, B12, S, hlm, fun H' r nr sr dr ex => hQ _ _ ⟨r, rfl, nr, sr, dr, ex⟩⟩
                    · refine r_methK ?_
                      top_caughtB
                      refine ⟨x, bx, _, rfl, s12 _ _ h1, bk_no (by decide +kernel), ?_⟩
                      top_caughtB
                      exact ⟨rfl, x, b, L, l, rfl, B12, S, hlm, fun H' r nr sr dr ex => hQ _ _ ⟨r, rfl, nr, sr, dr, ex⟩⟩
                  · rintro v H13 ⟨r, rfl, nr, s13, dr, xs, er, hxl, hex⟩
                    have s613 := s12.trans s13
                    obtain ⟨fr', gs, e, hSg, hAg⟩ := dp_forms hFl
                    cases e
                    have hgl := dpa_map_len hAg
                    have hfl := S.forms l hlm
                    have hbb := S.base
                    top_caughtB
                    refine ⟨r, dForms l.2.2, rfl, dp_same nw_le dr, T3.1, T3.2, T3.3, T3.4, ?_⟩
                    top_caughtB
                    refine r_lcL ?_
                    top_caughtB
                    refine ⟨fr, rfl, ⟨_, ((k6.hid.trans hid_le).trans s613).seq hSg⟩, fun D5 nD5 => ?_⟩
                    refine lc_pure (K := K) (σ := [some (.ref p), some (.ref kd), some (.ref D), some (.ref x), some (.str l.1), some (.int l.2.1), some (.ref fr), some (.int (0 + (i : Int))), some (.ref r), none, none]) (vs := [9]) (fun i y H' => ∀ g, l.2.2[i]? = some g → Dp K H' y (dForm g)) (fun i y H1 H2 h s g e => dp_same s (h g e)) (((k6.hid.trans hid_le).trans s613).seq hSg) nD5 (by omega) (fun x H P P' h q => gm_name h q) (fun σ H P P' h q => h _ _ q) ?_ ?_
                    · intro u y H14 QQ hu s14 nD14 hq
                      obtain ⟨g, hg, hdg⟩ := dpa_at hAg hu
                      obtain ⟨c2, us, rfl, hSu, hAu⟩ := dp_form hdg
                      unfold LcTurn
                      top_caughtB
                      refine ⟨rfl, ?_⟩
                      top_caughtB
                      refine ⟨c2, us, rfl, .inl ((((k6.hid.trans hid_le).trans s613).trans s14).seq hSu), fun l7 hl7 => ?_⟩
                      refine hq _ _ (same_new hl7) fun g' e' => ?_
                      have eg := Option.some.inj (hg.symm.trans e')
                      subst eg
                      exact .lst (sq_of ((nw_new hl7).trans upd_same)) (dpa_terms_nw (same_new hl7) (dpa_same (((k6.hid.trans hid_le).trans s613).trans s14) hAu))
                    · intro H14 ws hwl hR14 s14 eD14
                      top_caughtB
                      refine ⟨D5, dForms l.2.2, rfl, .lst (sq_of eD14) (dpa_map (by omega) fun i y g h1 h2 => dp_same nw_le (hR14 i y h1 g h2)), T3.1, T3.2, T3.3, T3.4, ?_⟩
                      top_caughtB
                      refine ite2 (fun z => ?_) (fun _ => ?_)
                      · rw [decide_eq_true rfl] at z
                        cases z
                      have er14 := s14 _ _ er
                      have hx0 : xs[0]? = some (xs[0]'(by omega)) := List.getElem?_eq_getElem (by omega)
                      obtain ⟨a0, zs0, ea0, na0, ez0, hz0⟩ := hex _ (List.getElem_mem (show 0 < xs.length by omega))
                      rw [ea0] at hx0
                      have hz100 := hz0 100 (fun g hg => S.small l hlm g hg)
                      have ez14 := s14 _ _ ez0
                      top_caughtB
                      refine r_ixL (sq_of er14) (by rw [show (0 : Int) = ((0 : Nat) : Int) from rfl]; exact atI_nat hx0) ?_
                      refine r_tyL ez14 ?_
                      top_caughtB
                      intro T8 nT8
                      have s15 : Same H14 (upd H14 T8 (.tup [.int 1, .str l.1])) := same_new nT8
                      generalize upd H14 T8 (.tup [.int 1, .str l.1]) = H15 at s15 ⊢
                      refine ⟨a0, zs0, _, rfl, rfl, s15 _ _ ez14, small1000 (by omega), ?_⟩
                      have s1216 : Same H12 (upd H15 a0 (.lst (zs0 ++ [.ref T8]))) := Fb.Same.mut ((s13.trans s14).trans s15) na0
                      obtain ⟨xs16, er16⟩ : ∃ xs16, (upd H15 a0 (.lst (zs0 ++ [.ref T8]))) r = some (.lst xs16) := by
                        by_cases q : r = a0
                        · subst q
                          exact ⟨_, upd_same⟩
                        · exact ⟨_, upd_oth q (s15 _ _ er14)⟩
                      generalize upd H15 a0 (.lst (zs0 ++ [.ref T8])) = H16 at s1216 er16 ⊢
                      top_caughtB
                      refine ⟨r, xs16, rfl, rfl, er16, ?_⟩
                      have fin : ∃ w4 w5 w6 w8 : Option V, [some (V.ref p), some (.ref kd), some (.ref D), some (.ref x), some (.str l.1), some (.int l.2.1), some (.ref fr), some (.int (0 + (i : Int))), some (.ref r), none, none] = [some (V.ref p), some (.ref kd), some (.ref D), some (.ref x), w4, w5, w6, some (.int (0 + (i : Int))), w8, none, none] ∧ Same H6 (upd H16 r (.lst xs16.reverse)) :=
                        ⟨_, _, _, _, rfl, s12.trans (Fb.Same.mut s1216 nr)⟩
                      exact fin
                · rintro σ H11 ⟨w4, w5, w6, w8, rfl, s11⟩
                  have B11 := B6.same s11
                  refine ⟨_, rfl, ?_⟩
                  refine ⟨x, bx, _, rfl, s11 _ _ h1, x, b, L, rfl, B11, fun p1 np1 => ?_⟩
                  refine r_tyL upd_same ?_
                  top_caughtB
                  refine ⟨p1, _, _, rfl, rfl, upd_same, small1000 (by rw [List.length_map]; omega), ?_⟩
                  have fin : ∃ w4' w5' w6' w7' w8' : Option V, [some (V.ref p), some (.ref kd), some (.ref D), some (.ref x), w4, w5, w6, some (.int (0 + (i : Int))), w8, none, none] = [some (V.ref p), some (.ref kd), some (.ref D), some (.ref x), w4', w5', w6', w7', w8', none, none] ∧ Same H6 (upd (upd H11 p1 (.lst ((names L).map V.str))) p1 (.lst ((names L).map V.str ++ [.str "y"]))) :=
                    ⟨_, _, _, _, _, rfl, s11.trans (Fb.Same.mut (same_new np1) np1)⟩
                  exact fin
            · rintro σ H7 ⟨w4, w5, w6, w7, w8, rfl, s7⟩
              have dk7 := dp_same (hid_same s7) dk6
              have B7 := B6.same s7
              refine ⟨_, rfl, ?_⟩
              top_caughtB
              refine ⟨kd, b, L, rfl, dp_same hid_le dk7, S, fun H8 x2 nx2 s8 B8 => ?_⟩
              have B8 := B8.same nw_le
              obtain ⟨bx2, nm2, stt2, fm2, sp2, g1, g2, g3, g4, g5⟩ := B8.ex
              refine ⟨⟨x, x2, bx, bx2, _, _, rfl, rfl, s8 _ _ (s7 _ _ h1), g1, b, L, B7.same s8, B8, S⟩, fun H9 ex => ?_⟩
              have s9 : Same H8 H9 := fun a o h => ex a o h
              have s69 := (s7.trans s8).trans s9
              refine ⟨_, rfl, ?_⟩
              refine ite2 (fun _ => ?_) (fun z => absurd rfl z)
              top_caughtB
              refine c_drawK (f + 48) (p6.same s69) (by decide) (by decide) fun d H10 h0 h1 k10 p10 => ?_
              top_caughtB
              refine ⟨2 + d, rfl, by omega, fun H11 s11 => ?_⟩
              exact q _ (((kk6.trans (Keep.of_same s69)).trans k10).trans (Keep.of_same s11)) ((p10.same s11).less (by omega))


theorem ok_f_law {P : Program} {w : World} {K : PySem.W.Frag} {mg : Str → Option Value} {base : Heap} {t : Ad} (T : Txt K mg t) : GOk P w K mg base CX0 7 t.a_f_law t.d_f_law ["script"] (spLaw K) := by
  refine GOk.body T.F_f_law sc_f_law (fun vs H Q E h => ?_) (fun cdv A outer s H vs Q E hc hr h => ?_)
  · obtain ⟨a, ns, rfl, _⟩ := h
    rfl
  · obtain ⟨a, ns, rfl, hS, hl, q⟩ := h
    refine ⟨_, (pss_cons (ps_for PassesOwn.never rfl (pi_range1 (by rfl) T.m_range (pa_cons (pe_callB (call_max2 rfl) (by rfl) T.m_max (by decide +kernel) (pa_cons pe_int (pa_cons (pe_callB (call_min2 rfl) (by rfl) T.m_min (by decide +kernel) (pa_cons pe_int (pa_cons (pe_callB call_len_seq (by rfl) T.m_len (by decide +kernel) (pa_cons (pv 0) pa_nil)) pa_nil))) pa_nil))) pa_nil)) (pg_name (i := 1) sc_f_law.nd rfl (Or.inl rfl)) (pss_cons (ps_set (i := 2) sc_f_law.nd rfl (Or.inl rfl) (pe_call (ok_f_law_pool T) (hr.mono (by decide)) (by rfl) T.g_f_law_pool T.F_f_law_pool.kp T.b_f_law_pool .nil pass0 (pa_cons (pv 0) (pa_cons (pv 1) pa_nil))))
      (pss_one (ps_for PassesOwn.never rfl (pi_range1 (by rfl) T.m_range (pa_cons pe_int pa_nil)) (pg_name (i := 3) sc_f_law.nd rfl (Or.inl rfl)) (pss_one (ps_if (pt_not (pt_val (pe_callG (ok_f_law_right T) (hr.mono (by decide)) hc (by rfl) T.g_f_law_right T.F_f_law_right.kp T.b_f_law_right pass0 (pa_cons (pv 2) pa_nil)))) (pss_one (ps_ret pe_bl)) pss_nil))))))
      (pss_one (ps_ret pe_bl))), ?_⟩
    rw [show L2.start N_f_law [V.ref a] = [some (V.ref a), none, none, none] from rfl]; try dsimp only [cxOf]
    top_caughtB
    have hge : (1 : Int) ≤ (if (if (((ns.map V.int).length : Nat) : Int) < 6 then (((ns.map V.int).length : Nat) : Int) else 6) > 1 then (if (((ns.map V.int).length : Nat) : Int) < 6 then (((ns.map V.int).length : Nat) : Int) else 6) else 1) ∧ (if (if (((ns.map V.int).length : Nat) : Int) < 6 then (((ns.map V.int).length : Nat) : Int) else 6) > 1 then (if (((ns.map V.int).length : Nat) : Int) < 6 then (((ns.map V.int).length : Nat) : Int) else 6) else 1) ≤ 6 := by
      constructor <;> (repeat' split) <;> omega
    generalize (if (if (((ns.map V.int).length : Nat) : Int) < 6 then (((ns.map V.int).length : Nat) : Int) else 6) > 1 then (if (((ns.map V.int).length : Nat) : Int) < 6 then (((ns.map V.int).length : Nat) : Int) else 6) else 1) = m at hge ⊢
    refine ⟨by omega, by omega, ?_⟩
    refine for_range (D := ⟨_, _, fun _ _ => False, fun _ _ => False⟩) (lo := 0) (n := m.toNat) (fun i σ H' => ∃ u v w, σ = [some (.ref a), u, v, w] ∧ Same H H') ⟨none, none, none, rfl, Same.refl H⟩ ?_ ?_
    · rintro i σ H1 hi ⟨u, v, w, rfl, s1⟩
      have hi6 : i ≤ 5 := by omega
      top_caughtB
      rw [show (0 : Int) + (i : Int) = ((i : Nat) : Int) by omega]
      refine ⟨a, ns, i, rfl, s1.seq hS, hi6, fun o p po np => ?_⟩
      top_caughtB
      refine ⟨by decide, by decide, ?_⟩
      refine for_range (D := ⟨_, _, fun _ _ => False, fun _ _ => False⟩) (lo := 0) (n := 4) (fun j σ H' => ∃ w, σ = [some (.ref a), some (.int (i : Int)), some (.ref p), w] ∧ Keep p H1 H' ∧ PoolAt H' p (1000000 - 600 * j)) ⟨w, rfl, Keep.new np, o, upd_same, po⟩ ?_ ?_
      · rintro j σ H2 hj ⟨w, rfl, k2, p2⟩
        top_caughtB
        refine ⟨p, 1000000 - 600 * (j + 1), rfl, by rw [show 1000000 - 600 * (j + 1) + 600 = 1000000 - 600 * j by omega]; exact p2, fun H3 k3 p3 => ?_⟩
        top_caughtB
        have fin : ∃ w, [some (V.ref a), some (V.int (i : Int)), some (V.ref p), some (V.int (0 + (j : Int)))] = [some (V.ref a), some (V.int (i : Int)), some (V.ref p), w] ∧ Keep p H1 H3 ∧ PoolAt H3 p (1000000 - 600 * (j + 1)) := ⟨_, rfl, k2.trans k3, p3⟩
        exact fin
      · rintro σ H2 ⟨w, rfl, k2, p2⟩
        refine ⟨_, _, _, rfl, Fb.Same.of_keep s1 k2 ?_⟩
        cases e : H p with
        | none => rfl
        | some o => exact absurd (s1 _ _ e) (by rw [np]; exact fun z => by cases z)
    · rintro σ H1 ⟨u, v, w, rfl, s1⟩
      top_caughtB
      exact q _

theorem all_mk {l : PySem.W.OpenLaw} {w : World} {K : PySem.W.Frag} {h : Heap} {mg : Str → Option Value} {fa a0 a1 a2 a3 a4 q4 a5 q5 a6 a7 a8 a9 a10 a11 a12 a13 a14 a15 a16 a17 a18 a19 a20 a21 a22 a23 a24 a25 a26 C_Book C_System : Addr} (X : K.In h) (G : h.Ns mainGlobals mg) (hfa : mg "law" = some (.ref fa))
    {od0 an0 : Option Addr} {sl0 : Array (Option Value)} {oc0 kV0 dc0 pm0 cd0 ct0 : Value}
    {od1 an1 : Option Addr} {sl1 : Array (Option Value)} {oc1 kV1 dc1 pm1 cd1 ct1 : Value}
    {od2 an2 : Option Addr} {sl2 : Array (Option Value)} {oc2 kV2 dc2 pm2 cd2 ct2 : Value}
    {od3 an3 : Option Addr} {sl3 : Array (Option Value)} {oc3 kV3 dc3 pm3 cd3 ct3 : Value}
    {od4 an4 : Option Addr} {sl4 : Array (Option Value)} {oc4 kV4 dc4 pm4 cd4 ct4 : Value}
    {rest4 : List Value}
    {od5 an5 : Option Addr} {sl5 : Array (Option Value)} {oc5 kV5 dc5 pm5 cd5 ct5 : Value}
    {rest5 : List Value}
    {od6 an6 : Option Addr} {sl6 : Array (Option Value)} {oc6 kV6 dc6 pm6 cd6 ct6 : Value}
    {od7 an7 : Option Addr} {sl7 : Array (Option Value)} {oc7 kV7 dc7 pm7 cd7 ct7 : Value}
    {od8 an8 : Option Addr} {sl8 : Array (Option Value)} {oc8 kV8 dc8 pm8 cd8 ct8 : Value}
    {od9 an9 : Option Addr} {sl9 : Array (Option Value)} {oc9 kV9 dc9 pm9 cd9 ct9 : Value}
    {od10 an10 : Option Addr} {sl10 : Array (Option Value)} {oc10 kV10 dc10 pm10 cd10 ct10 : Value}
    {od11 an11 : Option Addr} {sl11 : Array (Option Value)} {oc11 kV11 dc11 pm11 cd11 ct11 : Value}
    {od12 an12 : Option Addr} {sl12 : Array (Option Value)} {oc12 kV12 dc12 pm12 cd12 ct12 : Value}
    {od13 an13 : Option Addr} {sl13 : Array (Option Value)} {oc13 kV13 dc13 pm13 cd13 ct13 : Value}
    {od14 an14 : Option Addr} {sl14 : Array (Option Value)} {oc14 kV14 dc14 pm14 cd14 ct14 : Value}
    {od15 an15 : Option Addr} {sl15 : Array (Option Value)} {oc15 kV15 dc15 pm15 cd15 ct15 : Value}
    {od16 an16 : Option Addr} {sl16 : Array (Option Value)} {oc16 kV16 dc16 pm16 cd16 ct16 : Value}
    {od17 an17 : Option Addr} {sl17 : Array (Option Value)} {oc17 kV17 dc17 pm17 cd17 ct17 : Value}
    {od18 an18 : Option Addr} {sl18 : Array (Option Value)} {oc18 kV18 dc18 pm18 cd18 ct18 : Value}
    {od19 an19 : Option Addr} {sl19 : Array (Option Value)} {oc19 kV19 dc19 pm19 cd19 ct19 : Value}
    {od20 an20 : Option Addr} {sl20 : Array (Option Value)} {oc20 kV20 dc20 pm20 cd20 ct20 : Value}
    {od21 an21 : Option Addr} {sl21 : Array (Option Value)} {oc21 kV21 dc21 pm21 cd21 ct21 : Value}
    {od22 an22 : Option Addr} {sl22 : Array (Option Value)} {oc22 kV22 dc22 pm22 cd22 ct22 : Value}
    {od23 an23 : Option Addr} {sl23 : Array (Option Value)} {oc23 kV23 dc23 pm23 cd23 ct23 : Value}
    {od24 an24 : Option Addr} {sl24 : Array (Option Value)} {oc24 kV24 dc24 pm24 cd24 ct24 : Value}
    {od25 an25 : Option Addr} {sl25 : Array (Option Value)} {oc25 kV25 dc25 pm25 cd25 ct25 : Value}
    {od26 an26 : Option Addr} {sl26 : Array (Option Value)} {oc26 kV26 dc26 pm26 cd26 ct26 : Value}
    (x0 : PySem.W.nsIn K mainGlobals "check_base" = some (some (.ref a0)))
    (l0 : K.lookup a0 = some ⟨oc0, od0, .func (PySem.W.fnOf "check_base" "check_base" (defArgs s_f_check_base) (defBody s_f_check_base) (defScope s_f_check_base) .none kV0 dc0 pm0 an0 cd0 ct0), sl0⟩)
    (c0 : PySem.W.codeIn K cd0 "check_base" = true)
    (k0 : PySem.W.keepIn K (.ref a0) = true)
    (x1 : PySem.W.nsIn K mainGlobals "is_letter" = some (some (.ref a1)))
    (l1 : K.lookup a1 = some ⟨oc1, od1, .func (PySem.W.fnOf "is_letter" "is_letter" (defArgs s_f_is_letter) (defBody s_f_is_letter) (defScope s_f_is_letter) .none kV1 dc1 pm1 an1 cd1 ct1), sl1⟩)
    (c1 : PySem.W.codeIn K cd1 "is_letter" = true)
    (k1 : PySem.W.keepIn K (.ref a1) = true)
    (x2 : PySem.W.findIn K (.ref C_System) "__init__" = some (some (.ref a2)))
    (i2 : PySem.W.isFn K (.ref a2) = true)
    (l2 : K.lookup a2 = some ⟨oc2, od2, .func (PySem.W.fnOf "__init__" "System.__init__" (defArgs s_f_System___init__) (defBody s_f_System___init__) (defScope s_f_System___init__) .none kV2 dc2 pm2 an2 cd2 ct2), sl2⟩)
    (c2 : PySem.W.codeIn K cd2 "System.__init__" = true)
    (k2 : PySem.W.keepIn K (.ref a2) = true)
    (x3 : PySem.W.findIn K (.ref C_Book) "__init__" = some (some (.ref a3)))
    (i3 : PySem.W.isFn K (.ref a3) = true)
    (l3 : K.lookup a3 = some ⟨oc3, od3, .func (PySem.W.fnOf "__init__" "Book.__init__" (defArgs s_f_Book___init__) (defBody s_f_Book___init__) (defScope s_f_Book___init__) .none kV3 dc3 pm3 an3 cd3 ct3), sl3⟩)
    (c3 : PySem.W.codeIn K cd3 "Book.__init__" = true)
    (k3 : PySem.W.keepIn K (.ref a3) = true)
    (x4 : PySem.W.findIn K (.ref C_Book) "base" = some (some (.ref q4)))
    (y4 : PySem.W.specialIn K (.ref q4) "__get__" = some (some (.builtin "property.__get__")))
    (z4 : PySem.W.takesIn K (.ref q4) = some true)
    (r4 : PySem.W.recIn K q4 "property" = some (.ref a4 :: rest4))
    (l4 : K.lookup a4 = some ⟨oc4, od4, .func (PySem.W.fnOf "base" "Book.base" (defArgs s_f_Book_base) (defBody s_f_Book_base) (defScope s_f_Book_base) .none kV4 dc4 pm4 an4 cd4 ct4), sl4⟩)
    (c4 : PySem.W.codeIn K cd4 "Book.base" = true)
    (k4 : PySem.W.keepIn K (.ref a4) = true)
    (x5 : PySem.W.findIn K (.ref C_Book) "names" = some (some (.ref q5)))
    (y5 : PySem.W.specialIn K (.ref q5) "__get__" = some (some (.builtin "property.__get__")))
    (z5 : PySem.W.takesIn K (.ref q5) = some true)
    (r5 : PySem.W.recIn K q5 "property" = some (.ref a5 :: rest5))
    (l5 : K.lookup a5 = some ⟨oc5, od5, .func (PySem.W.fnOf "names" "Book.names" (defArgs s_f_Book_names) (defBody s_f_Book_names) (defScope s_f_Book_names) .none kV5 dc5 pm5 an5 cd5 ct5), sl5⟩)
    (c5 : PySem.W.codeIn K cd5 "Book.names" = true)
    (k5 : PySem.W.keepIn K (.ref a5) = true)
    (x6 : PySem.W.findIn K (.ref C_Book) "index_of" = some (some (.ref a6)))
    (i6 : PySem.W.isFn K (.ref a6) = true)
    (l6 : K.lookup a6 = some ⟨oc6, od6, .func (PySem.W.fnOf "index_of" "Book.index_of" (defArgs s_f_Book_index_of) (defBody s_f_Book_index_of) (defScope s_f_Book_index_of) .none kV6 dc6 pm6 an6 cd6 ct6), sl6⟩)
    (c6 : PySem.W.codeIn K cd6 "Book.index_of" = true)
    (k6 : PySem.W.keepIn K (.ref a6) = true)
    (x7 : PySem.W.findIn K (.ref C_Book) "start_of" = some (some (.ref a7)))
    (i7 : PySem.W.isFn K (.ref a7) = true)
    (l7 : K.lookup a7 = some ⟨oc7, od7, .func (PySem.W.fnOf "start_of" "Book.start_of" (defArgs s_f_Book_start_of) (defBody s_f_Book_start_of) (defScope s_f_Book_start_of) .none kV7 dc7 pm7 an7 cd7 ct7), sl7⟩)
    (c7 : PySem.W.codeIn K cd7 "Book.start_of" = true)
    (k7 : PySem.W.keepIn K (.ref a7) = true)
    (x8 : PySem.W.findIn K (.ref C_Book) "formulas_of" = some (some (.ref a8)))
    (i8 : PySem.W.isFn K (.ref a8) = true)
    (l8 : K.lookup a8 = some ⟨oc8, od8, .func (PySem.W.fnOf "formulas_of" "Book.formulas_of" (defArgs s_f_Book_formulas_of) (defBody s_f_Book_formulas_of) (defScope s_f_Book_formulas_of) .none kV8 dc8 pm8 an8 cd8 ct8), sl8⟩)
    (c8 : PySem.W.codeIn K cd8 "Book.formulas_of" = true)
    (k8 : PySem.W.keepIn K (.ref a8) = true)
    (x9 : PySem.W.findIn K (.ref C_Book) "__eq__" = some (some (.ref a9)))
    (i9 : PySem.W.isFn K (.ref a9) = true)
    (l9 : K.lookup a9 = some ⟨oc9, od9, .func (PySem.W.fnOf "__eq__" "Book.__eq__" (defArgs s_f_Book___eq__) (defBody s_f_Book___eq__) (defScope s_f_Book___eq__) .none kV9 dc9 pm9 an9 cd9 ct9), sl9⟩)
    (c9 : PySem.W.codeIn K cd9 "Book.__eq__" = true)
    (k9 : PySem.W.keepIn K (.ref a9) = true)
    (x10 : PySem.W.nsIn K mainGlobals "_check_names" = some (some (.ref a10)))
    (l10 : K.lookup a10 = some ⟨oc10, od10, .func (PySem.W.fnOf "_check_names" "_check_names" (defArgs s_f_check_names) (defBody s_f_check_names) (defScope s_f_check_names) .none kV10 dc10 pm10 an10 cd10 ct10), sl10⟩)
    (c10 : PySem.W.codeIn K cd10 "_check_names" = true)
    (k10 : PySem.W.keepIn K (.ref a10) = true)
    (x11 : PySem.W.nsIn K mainGlobals "_check_formulas" = some (some (.ref a11)))
    (l11 : K.lookup a11 = some ⟨oc11, od11, .func (PySem.W.fnOf "_check_formulas" "_check_formulas" (defArgs s_f_check_formulas) (defBody s_f_check_formulas) (defScope s_f_check_formulas) .none kV11 dc11 pm11 an11 cd11 ct11), sl11⟩)
    (c11 : PySem.W.codeIn K cd11 "_check_formulas" = true)
    (k11 : PySem.W.keepIn K (.ref a11) = true)
    (x12 : PySem.W.nsIn K mainGlobals "_are_known" = some (some (.ref a12)))
    (l12 : K.lookup a12 = some ⟨oc12, od12, .func (PySem.W.fnOf "_are_known" "_are_known" (defArgs s_f_are_known) (defBody s_f_are_known) (defScope s_f_are_known) .none kV12 dc12 pm12 an12 cd12 ct12), sl12⟩)
    (c12 : PySem.W.codeIn K cd12 "_are_known" = true)
    (k12 : PySem.W.keepIn K (.ref a12) = true)
    (x13 : PySem.W.nsIn K mainGlobals "_check_starts" = some (some (.ref a13)))
    (l13 : K.lookup a13 = some ⟨oc13, od13, .func (PySem.W.fnOf "_check_starts" "_check_starts" (defArgs s_f_check_starts) (defBody s_f_check_starts) (defScope s_f_check_starts) .none kV13 dc13 pm13 an13 cd13 ct13), sl13⟩)
    (c13 : PySem.W.codeIn K cd13 "_check_starts" = true)
    (k13 : PySem.W.keepIn K (.ref a13) = true)
    (x14 : PySem.W.nsIn K mainGlobals "_copied" = some (some (.ref a14)))
    (l14 : K.lookup a14 = some ⟨oc14, od14, .func (PySem.W.fnOf "_copied" "_copied" (defArgs s_f_copied) (defBody s_f_copied) (defScope s_f_copied) .none kV14 dc14 pm14 an14 cd14 ct14), sl14⟩)
    (c14 : PySem.W.codeIn K cd14 "_copied" = true)
    (k14 : PySem.W.keepIn K (.ref a14) = true)
    (x15 : PySem.W.nsIn K mainGlobals "_step_of" = some (some (.ref a15)))
    (l15 : K.lookup a15 = some ⟨oc15, od15, .func (PySem.W.fnOf "_step_of" "_step_of" (defArgs s_f_step_of) (defBody s_f_step_of) (defScope s_f_step_of) .none kV15 dc15 pm15 an15 cd15 ct15), sl15⟩)
    (c15 : PySem.W.codeIn K cd15 "_step_of" = true)
    (k15 : PySem.W.keepIn K (.ref a15) = true)
    (x16 : PySem.W.nsIn K mainGlobals "_law_pool" = some (some (.ref a16)))
    (l16 : K.lookup a16 = some ⟨oc16, od16, .func (PySem.W.fnOf "_law_pool" "_law_pool" (defArgs s_f_law_pool) (defBody s_f_law_pool) (defScope s_f_law_pool) .none kV16 dc16 pm16 an16 cd16 ct16), sl16⟩)
    (c16 : PySem.W.codeIn K cd16 "_law_pool" = true)
    (k16 : PySem.W.keepIn K (.ref a16) = true)
    (x17 : PySem.W.nsIn K mainGlobals "_law_draw" = some (some (.ref a17)))
    (l17 : K.lookup a17 = some ⟨oc17, od17, .func (PySem.W.fnOf "_law_draw" "_law_draw" (defArgs s_f_law_draw) (defBody s_f_law_draw) (defScope s_f_law_draw) .none kV17 dc17 pm17 an17 cd17 ct17), sl17⟩)
    (c17 : PySem.W.codeIn K cd17 "_law_draw" = true)
    (k17 : PySem.W.keepIn K (.ref a17) = true)
    (x18 : PySem.W.nsIn K mainGlobals "_law_factor" = some (some (.ref a18)))
    (l18 : K.lookup a18 = some ⟨oc18, od18, .func (PySem.W.fnOf "_law_factor" "_law_factor" (defArgs s_f_law_factor) (defBody s_f_law_factor) (defScope s_f_law_factor) .none kV18 dc18 pm18 an18 cd18 ct18), sl18⟩)
    (c18 : PySem.W.codeIn K cd18 "_law_factor" = true)
    (k18 : PySem.W.keepIn K (.ref a18) = true)
    (x19 : PySem.W.nsIn K mainGlobals "_law_terms" = some (some (.ref a19)))
    (l19 : K.lookup a19 = some ⟨oc19, od19, .func (PySem.W.fnOf "_law_terms" "_law_terms" (defArgs s_f_law_terms) (defBody s_f_law_terms) (defScope s_f_law_terms) .none kV19 dc19 pm19 an19 cd19 ct19), sl19⟩)
    (c19 : PySem.W.codeIn K cd19 "_law_terms" = true)
    (k19 : PySem.W.keepIn K (.ref a19) = true)
    (x20 : PySem.W.nsIn K mainGlobals "_law_first" = some (some (.ref a20)))
    (l20 : K.lookup a20 = some ⟨oc20, od20, .func (PySem.W.fnOf "_law_first" "_law_first" (defArgs s_f_law_first) (defBody s_f_law_first) (defScope s_f_law_first) .none kV20 dc20 pm20 an20 cd20 ct20), sl20⟩)
    (c20 : PySem.W.codeIn K cd20 "_law_first" = true)
    (k20 : PySem.W.keepIn K (.ref a20) = true)
    (x21 : PySem.W.nsIn K mainGlobals "_law_kind" = some (some (.ref a21)))
    (l21 : K.lookup a21 = some ⟨oc21, od21, .func (PySem.W.fnOf "_law_kind" "_law_kind" (defArgs s_f_law_kind) (defBody s_f_law_kind) (defScope s_f_law_kind) .none kV21 dc21 pm21 an21 cd21 ct21), sl21⟩)
    (c21 : PySem.W.codeIn K cd21 "_law_kind" = true)
    (k21 : PySem.W.keepIn K (.ref a21) = true)
    (x22 : PySem.W.nsIn K mainGlobals "_law_known" = some (some (.ref a22)))
    (l22 : K.lookup a22 = some ⟨oc22, od22, .func (PySem.W.fnOf "_law_known" "_law_known" (defArgs s_f_law_known) (defBody s_f_law_known) (defScope s_f_law_known) .none kV22 dc22 pm22 an22 cd22 ct22), sl22⟩)
    (c22 : PySem.W.codeIn K cd22 "_law_known" = true)
    (k22 : PySem.W.keepIn K (.ref a22) = true)
    (x23 : PySem.W.nsIn K mainGlobals "_law_made" = some (some (.ref a23)))
    (l23 : K.lookup a23 = some ⟨oc23, od23, .func (PySem.W.fnOf "_law_made" "_law_made" (defArgs s_f_law_made) (defBody s_f_law_made) (defScope s_f_law_made) .none kV23 dc23 pm23 an23 cd23 ct23), sl23⟩)
    (c23 : PySem.W.codeIn K cd23 "_law_made" = true)
    (k23 : PySem.W.keepIn K (.ref a23) = true)
    (x24 : PySem.W.nsIn K mainGlobals "_law_letters_right" = some (some (.ref a24)))
    (l24 : K.lookup a24 = some ⟨oc24, od24, .func (PySem.W.fnOf "_law_letters_right" "_law_letters_right" (defArgs s_f_law_letters_right) (defBody s_f_law_letters_right) (defScope s_f_law_letters_right) .none kV24 dc24 pm24 an24 cd24 ct24), sl24⟩)
    (c24 : PySem.W.codeIn K cd24 "_law_letters_right" = true)
    (k24 : PySem.W.keepIn K (.ref a24) = true)
    (x25 : PySem.W.nsIn K mainGlobals "_law_right" = some (some (.ref a25)))
    (l25 : K.lookup a25 = some ⟨oc25, od25, .func (PySem.W.fnOf "_law_right" "_law_right" (defArgs s_f_law_right) (defBody s_f_law_right) (defScope s_f_law_right) .none kV25 dc25 pm25 an25 cd25 ct25), sl25⟩)
    (c25 : PySem.W.codeIn K cd25 "_law_right" = true)
    (k25 : PySem.W.keepIn K (.ref a25) = true)
    (x26 : PySem.W.nsIn K mainGlobals "law" = some (some (.ref a26)))
    (l26 : K.lookup a26 = some ⟨oc26, od26, .func (PySem.W.fnOf "law" "law" (defArgs s_f_law) (defBody s_f_law) (defScope s_f_law) .none kV26 dc26 pm26 an26 cd26 ct26), sl26⟩)
    (c26 : PySem.W.codeIn K cd26 "law" = true)
    (k26 : PySem.W.keepIn K (.ref a26) = true)
    (g_Book : PySem.W.nsIn K mainGlobals "Book" = some (some (.ref C_Book)))
    (pg_Book : PySem.W.plainGet K C_Book Str.empty = true)
    (hd_Book : PySem.W.hasDictIn K C_Book = true)
    (po_Book : PySem.W.plainOver K C_Book = true)
    (sa_Book : PySem.W.findIn K (.ref C_Book) "__setattr__" = some (some (.builtin "object.__setattr__")))
    (mk_Book : PySem.W.makesIn K C_Book = true)
    (kc_Book : PySem.W.keepIn K (.ref C_Book) = true)
    (ea_Book : PySem.W.findIn K (.ref C_Book) "__class__" = some (some (.builtin "object.__class__")))
    (en_Book : PySem.W.specialIn K (.builtin "object.__class__") "__get__" = some (some (.builtin "getset_descriptor.__get__")))
    (et_Book : PySem.W.takesIn K (.builtin "object.__class__") = some true)
    (em_Book : PySem.W.mroIn K C_Book (.type "object") = some true)
    (ek_Book : PySem.W.kitOne K (.ref C_Book) (.ref C_Book) = some true)
    (n_Book__base : PySem.W.findIn K (.ref C_Book) "_base" = some none)
    (n_Book__names : PySem.W.findIn K (.ref C_Book) "_names" = some none)
    (n_Book__starts : PySem.W.findIn K (.ref C_Book) "_starts" = some none)
    (n_Book__formulas : PySem.W.findIn K (.ref C_Book) "_formulas" = some none)
    (n_Book__system : PySem.W.findIn K (.ref C_Book) "_system" = some none)
    (g_System : PySem.W.nsIn K mainGlobals "System" = some (some (.ref C_System)))
    (pg_System : PySem.W.plainGet K C_System Str.empty = true)
    (hd_System : PySem.W.hasDictIn K C_System = true)
    (po_System : PySem.W.plainOver K C_System = true)
    (sa_System : PySem.W.findIn K (.ref C_System) "__setattr__" = some (some (.builtin "object.__setattr__")))
    (mk_System : PySem.W.makesIn K C_System = true)
    (kc_System : PySem.W.keepIn K (.ref C_System) = true)
    (n_System__starts : PySem.W.findIn K (.ref C_System) "_starts" = some none)
    (n_System__steps : PySem.W.findIn K (.ref C_System) "_steps" = some none)
    (m_abs : PySem.W.nsIn K mainGlobals "abs" = some none)
    (m_all : PySem.W.nsIn K mainGlobals "all" = some none)
    (m_int : PySem.W.nsIn K mainGlobals "int" = some none)
    (m_isinstance : PySem.W.nsIn K mainGlobals "isinstance" = some none)
    (m_len : PySem.W.nsIn K mainGlobals "len" = some none)
    (m_list : PySem.W.nsIn K mainGlobals "list" = some none)
    (m_max : PySem.W.nsIn K mainGlobals "max" = some none)
    (m_min : PySem.W.nsIn K mainGlobals "min" = some none)
    (m_range : PySem.W.nsIn K mainGlobals "range" = some none)
    (m_repr : PySem.W.nsIn K mainGlobals "repr" = some none)
    (m_sorted : PySem.W.nsIn K mainGlobals "sorted" = some none)
    (m_sum : PySem.W.nsIn K mainGlobals "sum" = some none)
    (m_tuple : PySem.W.nsIn K mainGlobals "tuple" = some none) :
    ∃ fd : FuncData, (∀ (s : Shared) (v : Value), BindsTo s fd ⟨[v], []⟩ [("script", v)]) ∧ ∀ base : Heap, K.In base → base.Ns mainGlobals mg → GOk l.prog w K mg base CX0 7 fa fd ["script"] (spLaw K) := by
  have e : a26 = fa := by
    have e := hfa.symm.trans (PySem.W.mg_of X G x26)
    cases e
    rfl
  subst e
  have F0 := fun_mk (st := s_f_check_base) l0 c0 k0
  have b0 := F0.binds (ps := ["base"]) fun _ _ _ _ _ _ us hl => match us, hl with | [_], _ => rfl
  have F1 := fun_mk (st := s_f_is_letter) l1 c1 k1
  have b1 := F1.binds (ps := ["name"]) fun _ _ _ _ _ _ us hl => match us, hl with | [_], _ => rfl
  have F2 := fun_mk (st := s_f_System___init__) l2 c2 k2
  have b2 := F2.binds (ps := ["self", "starts", "steps"]) fun _ _ _ _ _ _ us hl => match us, hl with | [_, _, _], _ => rfl
  have F3 := fun_mk (st := s_f_Book___init__) l3 c3 k3
  have b3 := F3.binds (ps := ["self", "base", "rows"]) fun _ _ _ _ _ _ us hl => match us, hl with | [_, _, _], _ => rfl
  have kb3 := kbn_rev (ps := ["self", "base", "rows"]) (ks := ["rows", "base"]) F3 fun _ _ _ _ _ _ us ws h1 h2 => match us, ws, h1, h2 with | [_], [_, _], _, _ => rfl
  have F4 := fun_mk (st := s_f_Book_base) l4 c4 k4
  have b4 := F4.binds (ps := ["self"]) fun _ _ _ _ _ _ us hl => match us, hl with | [_], _ => rfl
  have F5 := fun_mk (st := s_f_Book_names) l5 c5 k5
  have b5 := F5.binds (ps := ["self"]) fun _ _ _ _ _ _ us hl => match us, hl with | [_], _ => rfl
  have F6 := fun_mk (st := s_f_Book_index_of) l6 c6 k6
  have b6 := F6.binds (ps := ["self", "name"]) fun _ _ _ _ _ _ us hl => match us, hl with | [_, _], _ => rfl
  have F7 := fun_mk (st := s_f_Book_start_of) l7 c7 k7
  have b7 := F7.binds (ps := ["self", "name"]) fun _ _ _ _ _ _ us hl => match us, hl with | [_, _], _ => rfl
  have kb7 := kbn_self (ps := ["self", "name"]) (ks := ["name"]) F7 fun _ _ _ _ _ _ us ws h1 h2 => match us, ws, h1, h2 with | [_], [_], _, _ => rfl
  have F8 := fun_mk (st := s_f_Book_formulas_of) l8 c8 k8
  have b8 := F8.binds (ps := ["self", "name"]) fun _ _ _ _ _ _ us hl => match us, hl with | [_, _], _ => rfl
  have kb8 := kbn_self (ps := ["self", "name"]) (ks := ["name"]) F8 fun _ _ _ _ _ _ us ws h1 h2 => match us, ws, h1, h2 with | [_], [_], _, _ => rfl
  have F9 := fun_mk (st := s_f_Book___eq__) l9 c9 k9
  have b9 := F9.binds (ps := ["self", "other"]) fun _ _ _ _ _ _ us hl => match us, hl with | [_, _], _ => rfl
  have F10 := fun_mk (st := s_f_check_names) l10 c10 k10
  have b10 := F10.binds (ps := ["rows"]) fun _ _ _ _ _ _ us hl => match us, hl with | [_], _ => rfl
  have F11 := fun_mk (st := s_f_check_formulas) l11 c11 k11
  have b11 := F11.binds (ps := ["base", "rows"]) fun _ _ _ _ _ _ us hl => match us, hl with | [_, _], _ => rfl
  have F12 := fun_mk (st := s_f_are_known) l12 c12 k12
  have b12 := F12.binds (ps := ["formulas", "names"]) fun _ _ _ _ _ _ us hl => match us, hl with | [_, _], _ => rfl
  have F13 := fun_mk (st := s_f_check_starts) l13 c13 k13
  have b13 := F13.binds (ps := ["rows"]) fun _ _ _ _ _ _ us hl => match us, hl with | [_], _ => rfl
  have F14 := fun_mk (st := s_f_copied) l14 c14 k14
  have b14 := F14.binds (ps := ["formulas"]) fun _ _ _ _ _ _ us hl => match us, hl with | [_], _ => rfl
  have F15 := fun_mk (st := s_f_step_of) l15 c15 k15
  have b15 := F15.binds (ps := ["names", "formulas", "figure"]) fun _ _ _ _ _ _ us hl => match us, hl with | [_, _, _], _ => rfl
  have F16 := fun_mk (st := s_f_law_pool) l16 c16 k16
  have b16 := F16.binds (ps := ["script", "spot"]) fun _ _ _ _ _ _ us hl => match us, hl with | [_, _], _ => rfl
  have F17 := fun_mk (st := s_f_law_draw) l17 c17 k17
  have b17 := F17.binds (ps := ["pool", "many"]) fun _ _ _ _ _ _ us hl => match us, hl with | [_, _], _ => rfl
  have F18 := fun_mk (st := s_f_law_factor) l18 c18 k18
  have b18 := F18.binds (ps := ["pool"]) fun _ _ _ _ _ _ us hl => match us, hl with | [_], _ => rfl
  have F19 := fun_mk (st := s_f_law_terms) l19 c19 k19
  have b19 := F19.binds (ps := ["pool", "letters", "many"]) fun _ _ _ _ _ _ us hl => match us, hl with | [_, _, _], _ => rfl
  have F20 := fun_mk (st := s_f_law_first) l20 c20 k20
  have b20 := F20.binds (ps := ["pool", "starts", "letter"]) fun _ _ _ _ _ _ us hl => match us, hl with | [_, _, _], _ => rfl
  have F21 := fun_mk (st := s_f_law_kind) l21 c21 k21
  have b21 := F21.binds (ps := ["pool", "many"]) fun _ _ _ _ _ _ us hl => match us, hl with | [_, _], _ => rfl
  have F22 := fun_mk (st := s_f_law_known) l22 c22 k22
  have b22 := F22.binds (ps := ["pool"]) fun _ _ _ _ _ _ us hl => match us, hl with | [_], _ => rfl
  have F23 := fun_mk (st := s_f_law_made) l23 c23 k23
  have b23 := F23.binds (ps := ["kind"]) fun _ _ _ _ _ _ us hl => match us, hl with | [_], _ => rfl
  have F24 := fun_mk (st := s_f_law_letters_right) l24 c24 k24
  have b24 := F24.binds (ps := ["base_here"]) fun _ _ _ _ _ _ us hl => match us, hl with | [_], _ => rfl
  have F25 := fun_mk (st := s_f_law_right) l25 c25 k25
  have b25 := F25.binds (ps := ["pool"]) fun _ _ _ _ _ _ us hl => match us, hl with | [_], _ => rfl
  have F26 := fun_mk (st := s_f_law) l26 c26 k26
  have b26 := F26.binds (ps := ["script"]) fun _ _ _ _ _ _ us hl => match us, hl with | [_], _ => rfl
  have T : Txt K mg { a_f_check_base := a0, d_f_check_base := (PySem.W.fnOf "check_base" "check_base" (defArgs s_f_check_base) (defBody s_f_check_base) (defScope s_f_check_base) .none kV0 dc0 pm0 an0 cd0 ct0), a_f_is_letter := a1, d_f_is_letter := (PySem.W.fnOf "is_letter" "is_letter" (defArgs s_f_is_letter) (defBody s_f_is_letter) (defScope s_f_is_letter) .none kV1 dc1 pm1 an1 cd1 ct1), a_f_System___init__ := a2, d_f_System___init__ := (PySem.W.fnOf "__init__" "System.__init__" (defArgs s_f_System___init__) (defBody s_f_System___init__) (defScope s_f_System___init__) .none kV2 dc2 pm2 an2 cd2 ct2), a_f_Book___init__ := a3, d_f_Book___init__ := (PySem.W.fnOf "__init__" "Book.__init__" (defArgs s_f_Book___init__) (defBody s_f_Book___init__) (defScope s_f_Book___init__) .none kV3 dc3 pm3 an3 cd3 ct3), a_f_Book_base := a4, d_f_Book_base := (PySem.W.fnOf "base" "Book.base" (defArgs s_f_Book_base) (defBody s_f_Book_base) (defScope s_f_Book_base) .none kV4 dc4 pm4 an4 cd4 ct4), q_f_Book_base := q4, a_f_Book_names := a5, d_f_Book_names := (PySem.W.fnOf "names" "Book.names" (defArgs s_f_Book_names) (defBody s_f_Book_names) (defScope s_f_Book_names) .none kV5 dc5 pm5 an5 cd5 ct5), q_f_Book_names := q5, a_f_Book_index_of := a6, d_f_Book_index_of := (PySem.W.fnOf "index_of" "Book.index_of" (defArgs s_f_Book_index_of) (defBody s_f_Book_index_of) (defScope s_f_Book_index_of) .none kV6 dc6 pm6 an6 cd6 ct6), a_f_Book_start_of := a7, d_f_Book_start_of := (PySem.W.fnOf "start_of" "Book.start_of" (defArgs s_f_Book_start_of) (defBody s_f_Book_start_of) (defScope s_f_Book_start_of) .none kV7 dc7 pm7 an7 cd7 ct7), a_f_Book_formulas_of := a8, d_f_Book_formulas_of := (PySem.W.fnOf "formulas_of" "Book.formulas_of" (defArgs s_f_Book_formulas_of) (defBody s_f_Book_formulas_of) (defScope s_f_Book_formulas_of) .none kV8 dc8 pm8 an8 cd8 ct8), a_f_Book___eq__ := a9, d_f_Book___eq__ := (PySem.W.fnOf "__eq__" "Book.__eq__" (defArgs s_f_Book___eq__) (defBody s_f_Book___eq__) (defScope s_f_Book___eq__) .none kV9 dc9 pm9 an9 cd9 ct9), a_f_check_names := a10, d_f_check_names := (PySem.W.fnOf "_check_names" "_check_names" (defArgs s_f_check_names) (defBody s_f_check_names) (defScope s_f_check_names) .none kV10 dc10 pm10 an10 cd10 ct10), a_f_check_formulas := a11, d_f_check_formulas := (PySem.W.fnOf "_check_formulas" "_check_formulas" (defArgs s_f_check_formulas) (defBody s_f_check_formulas) (defScope s_f_check_formulas) .none kV11 dc11 pm11 an11 cd11 ct11), a_f_are_known := a12, d_f_are_known := (PySem.W.fnOf "_are_known" "_are_known" (defArgs s_f_are_known) (defBody s_f_are_known) (defScope s_f_are_known) .none kV12 dc12 pm12 an12 cd12 ct12), a_f_check_starts := a13, d_f_check_starts := (PySem.W.fnOf "_check_starts" "_check_starts" (defArgs s_f_check_starts) (defBody s_f_check_starts) (defScope s_f_check_starts) .none kV13 dc13 pm13 an13 cd13 ct13), a_f_copied := a14, d_f_copied := (PySem.W.fnOf "_copied" "_copied" (defArgs s_f_copied) (defBody s_f_copied) (defScope s_f_copied) .none kV14 dc14 pm14 an14 cd14 ct14), a_f_step_of := a15, d_f_step_of := (PySem.W.fnOf "_step_of" "_step_of" (defArgs s_f_step_of) (defBody s_f_step_of) (defScope s_f_step_of) .none kV15 dc15 pm15 an15 cd15 ct15), a_f_law_pool := a16, d_f_law_pool := (PySem.W.fnOf "_law_pool" "_law_pool" (defArgs s_f_law_pool) (defBody s_f_law_pool) (defScope s_f_law_pool) .none kV16 dc16 pm16 an16 cd16 ct16), a_f_law_draw := a17, d_f_law_draw := (PySem.W.fnOf "_law_draw" "_law_draw" (defArgs s_f_law_draw) (defBody s_f_law_draw) (defScope s_f_law_draw) .none kV17 dc17 pm17 an17 cd17 ct17), a_f_law_factor := a18, d_f_law_factor := (PySem.W.fnOf "_law_factor" "_law_factor" (defArgs s_f_law_factor) (defBody s_f_law_factor) (defScope s_f_law_factor) .none kV18 dc18 pm18 an18 cd18 ct18), a_f_law_terms := a19, d_f_law_terms := (PySem.W.fnOf "_law_terms" "_law_terms" (defArgs s_f_law_terms) (defBody s_f_law_terms) (defScope s_f_law_terms) .none kV19 dc19 pm19 an19 cd19 ct19), a_f_law_first := a20, d_f_law_first := (PySem.W.fnOf "_law_first" "_law_first" (defArgs s_f_law_first) (defBody s_f_law_first) (defScope s_f_law_first) .none kV20 dc20 pm20 an20 cd20 ct20), a_f_law_kind := a21, d_f_law_kind := (PySem.W.fnOf "_law_kind" "_law_kind" (defArgs s_f_law_kind) (defBody s_f_law_kind) (defScope s_f_law_kind) .none kV21 dc21 pm21 an21 cd21 ct21), a_f_law_known := a22, d_f_law_known := (PySem.W.fnOf "_law_known" "_law_known" (defArgs s_f_law_known) (defBody s_f_law_known) (defScope s_f_law_known) .none kV22 dc22 pm22 an22 cd22 ct22), a_f_law_made := a23, d_f_law_made := (PySem.W.fnOf "_law_made" "_law_made" (defArgs s_f_law_made) (defBody s_f_law_made) (defScope s_f_law_made) .none kV23 dc23 pm23 an23 cd23 ct23), a_f_law_letters_right := a24, d_f_law_letters_right := (PySem.W.fnOf "_law_letters_right" "_law_letters_right" (defArgs s_f_law_letters_right) (defBody s_f_law_letters_right) (defScope s_f_law_letters_right) .none kV24 dc24 pm24 an24 cd24 ct24), a_f_law_right := a25, d_f_law_right := (PySem.W.fnOf "_law_right" "_law_right" (defArgs s_f_law_right) (defBody s_f_law_right) (defScope s_f_law_right) .none kV25 dc25 pm25 an25 cd25 ct25), a_f_law := a26, d_f_law := (PySem.W.fnOf "law" "law" (defArgs s_f_law) (defBody s_f_law) (defScope s_f_law) .none kV26 dc26 pm26 an26 cd26 ct26), C_Book := C_Book, C_System := C_System } := { F_f_check_base := F0, b_f_check_base := b0, g_f_check_base := PySem.W.mg_of X G x0, F_f_is_letter := F1, b_f_is_letter := b1, g_f_is_letter := PySem.W.mg_of X G x1, F_f_System___init__ := F2, b_f_System___init__ := b2, k_System := ⟨mk_System, x2, i2, kc_System⟩, kb_f_Book___init__ := kb3, F_f_Book___init__ := F3, b_f_Book___init__ := b3, k_Book := ⟨mk_Book, x3, i3, kc_Book⟩, F_f_Book_base := F4, b_f_Book_base := b4, p_f_Book_base := ⟨x4, y4, z4, ⟨_, r4⟩⟩, F_f_Book_names := F5, b_f_Book_names := b5, p_f_Book_names := ⟨x5, y5, z5, ⟨_, r5⟩⟩, F_f_Book_index_of := F6, b_f_Book_index_of := b6, t_f_Book_index_of := ⟨x6, i6, k6⟩, kb_f_Book_start_of := kb7, F_f_Book_start_of := F7, b_f_Book_start_of := b7, t_f_Book_start_of := ⟨x7, i7, k7⟩, kb_f_Book_formulas_of := kb8, F_f_Book_formulas_of := F8, b_f_Book_formulas_of := b8, t_f_Book_formulas_of := ⟨x8, i8, k8⟩, F_f_Book___eq__ := F9, b_f_Book___eq__ := b9, t_f_Book___eq__ := ⟨x9, i9⟩, F_f_check_names := F10, b_f_check_names := b10, g_f_check_names := PySem.W.mg_of X G x10, F_f_check_formulas := F11, b_f_check_formulas := b11, g_f_check_formulas := PySem.W.mg_of X G x11, F_f_are_known := F12, b_f_are_known := b12, g_f_are_known := PySem.W.mg_of X G x12, F_f_check_starts := F13, b_f_check_starts := b13, g_f_check_starts := PySem.W.mg_of X G x13, F_f_copied := F14, b_f_copied := b14, g_f_copied := PySem.W.mg_of X G x14, F_f_step_of := F15, b_f_step_of := b15, g_f_step_of := PySem.W.mg_of X G x15, F_f_law_pool := F16, b_f_law_pool := b16, g_f_law_pool := PySem.W.mg_of X G x16, F_f_law_draw := F17, b_f_law_draw := b17, g_f_law_draw := PySem.W.mg_of X G x17, F_f_law_factor := F18, b_f_law_factor := b18, g_f_law_factor := PySem.W.mg_of X G x18, F_f_law_terms := F19, b_f_law_terms := b19, g_f_law_terms := PySem.W.mg_of X G x19, F_f_law_first := F20, b_f_law_first := b20, g_f_law_first := PySem.W.mg_of X G x20, F_f_law_kind := F21, b_f_law_kind := b21, g_f_law_kind := PySem.W.mg_of X G x21, F_f_law_known := F22, b_f_law_known := b22, g_f_law_known := PySem.W.mg_of X G x22, F_f_law_made := F23, b_f_law_made := b23, g_f_law_made := PySem.W.mg_of X G x23, F_f_law_letters_right := F24, b_f_law_letters_right := b24, g_f_law_letters_right := PySem.W.mg_of X G x24, F_f_law_right := F25, b_f_law_right := b25, g_f_law_right := PySem.W.mg_of X G x25, F_f_law := F26, b_f_law := b26, g_f_law := PySem.W.mg_of X G x26, g_Book := PySem.W.mg_of X G g_Book, c_Book := ⟨pg_Book, hd_Book, po_Book, sa_Book⟩, e_Book := ⟨ea_Book, en_Book, et_Book, em_Book, ek_Book⟩, n_Book__base := n_Book__base, n_Book__names := n_Book__names, n_Book__starts := n_Book__starts, n_Book__formulas := n_Book__formulas, n_Book__system := n_Book__system, g_System := PySem.W.mg_of X G g_System, c_System := ⟨pg_System, hd_System, po_System, sa_System⟩, n_System__starts := n_System__starts, n_System__steps := n_System__steps, m_abs := PySem.W.mg_none_of X G m_abs, m_all := PySem.W.mg_none_of X G m_all, m_int := PySem.W.mg_none_of X G m_int, m_isinstance := PySem.W.mg_none_of X G m_isinstance, m_len := PySem.W.mg_none_of X G m_len, m_list := PySem.W.mg_none_of X G m_list, m_max := PySem.W.mg_none_of X G m_max, m_min := PySem.W.mg_none_of X G m_min, m_range := PySem.W.mg_none_of X G m_range, m_repr := PySem.W.mg_none_of X G m_repr, m_sorted := PySem.W.mg_none_of X G m_sorted, m_sum := PySem.W.mg_none_of X G m_sum, m_tuple := PySem.W.mg_none_of X G m_tuple }
  exact ⟨_, fun s v => .of_eq rfl, fun base _ _ => ok_f_law T⟩
end Fb
open PySem PySem.W PyProof.Rows
set_option maxRecDepth 100000 in
set_option maxHeartbeats 0 in
theorem PySem.Challenge.cw_figurebooks_k02_books_made_holds : PySem.Challenge.rw_figurebooks_k02_books_made.Holds := by
  w_on; o_law; k_head; (case hw => w_witness2)
  k_fill
  refine Fb.walk_G (l := PySem.Challenge.rw_figurebooks_k02_books_made) (n := 63) (k := 7) (x := "script") (sp := fun w => Fb.spLaw _) rfl (by decide) rfl ⟨rfl, by decide, by decide⟩ (fun w h Y => PySem.W.kIn_of Y) ?F (fun _ _ a ns hl hS => ⟨a, ns, rfl, hS, hl, fun _ => rfl⟩)
  case F =>
    intro w mg fa h KX G hmg
    refine' Fb.all_mk KX G hmg ?x0 ?l0 ?c0 ?k0 ?x1 ?l1 ?c1 ?k1 ?x2 ?i2 ?l2 ?c2 ?k2 ?x3 ?i3 ?l3 ?c3 ?k3 ?x4 ?y4 ?z4 ?r4 ?l4 ?c4 ?k4 ?x5 ?y5 ?z5 ?r5 ?l5 ?c5 ?k5 ?x6 ?i6 ?l6 ?c6 ?k6 ?x7 ?i7 ?l7 ?c7 ?k7 ?x8 ?i8 ?l8 ?c8 ?k8 ?x9 ?i9 ?l9 ?c9 ?k9 ?x10 ?l10 ?c10 ?k10 ?x11 ?l11 ?c11 ?k11 ?x12 ?l12 ?c12 ?k12 ?x13 ?l13 ?c13 ?k13 ?x14 ?l14 ?c14 ?k14 ?x15 ?l15 ?c15 ?k15 ?x16 ?l16 ?c16 ?k16 ?x17 ?l17 ?c17 ?k17 ?x18 ?l18 ?c18 ?k18 ?x19 ?l19 ?c19 ?k19 ?x20 ?l20 ?c20 ?k20 ?x21 ?l21 ?c21 ?k21 ?x22 ?l22 ?c22 ?k22 ?x23 ?l23 ?c23 ?k23 ?x24 ?l24 ?c24 ?k24 ?x25 ?l25 ?c25 ?k25 ?x26 ?l26 ?c26 ?k26 ?g_Book ?pg_Book ?hd_Book ?po_Book ?sa_Book ?mk_Book ?kc_Book ?ea_Book ?en_Book ?et_Book ?em_Book ?ek_Book ?n_Book__base ?n_Book__names ?n_Book__starts ?n_Book__formulas ?n_Book__system ?g_System ?pg_System ?hd_System ?po_System ?sa_System ?mk_System ?kc_System ?n_System__starts ?n_System__steps ?m_abs ?m_all ?m_int ?m_isinstance ?m_len ?m_list ?m_max ?m_min ?m_range ?m_repr ?m_sorted ?m_sum ?m_tuple
    (case g_Book => k_is)
    (case g_System => k_is)
    (case x0 => k_is)
    (case l0 => k_is)
    (case c0 => k_is)
    (case k0 => k_is)
    (case x1 => k_is)
    (case l1 => k_is)
    (case c1 => k_is)
    (case k1 => k_is)
    (case x2 => k_is)
    (case i2 => k_is)
    (case l2 => k_is)
    (case c2 => k_is)
    (case k2 => k_is)
    (case x3 => k_is)
    (case i3 => k_is)
    (case l3 => k_is)
    (case c3 => k_is)
    (case k3 => k_is)
    (case x4 => k_is)
    (case y4 => k_is)
    (case z4 => k_is)
    (case r4 => k_is)
    (case l4 => k_is)
    (case c4 => k_is)
    (case k4 => k_is)
    (case x5 => k_is)
    (case y5 => k_is)
    (case z5 => k_is)
    (case r5 => k_is)
    (case l5 => k_is)
    (case c5 => k_is)
    (case k5 => k_is)
    (case x6 => k_is)
    (case i6 => k_is)
    (case l6 => k_is)
    (case c6 => k_is)
    (case k6 => k_is)
    (case x7 => k_is)
    (case i7 => k_is)
    (case l7 => k_is)
    (case c7 => k_is)
    (case k7 => k_is)
    (case x8 => k_is)
    (case i8 => k_is)
    (case l8 => k_is)
    (case c8 => k_is)
    (case k8 => k_is)
    (case x9 => k_is)
    (case i9 => k_is)
    (case l9 => k_is)
    (case c9 => k_is)
    (case k9 => k_is)
    (case x10 => k_is)
    (case l10 => k_is)
    (case c10 => k_is)
    (case k10 => k_is)
    (case x11 => k_is)
    (case l11 => k_is)
    (case c11 => k_is)
    (case k11 => k_is)
    (case x12 => k_is)
    (case l12 => k_is)
    (case c12 => k_is)
    (case k12 => k_is)
    (case x13 => k_is)
    (case l13 => k_is)
    (case c13 => k_is)
    (case k13 => k_is)
    (case x14 => k_is)
    (case l14 => k_is)
    (case c14 => k_is)
    (case k14 => k_is)
    (case x15 => k_is)
    (case l15 => k_is)
    (case c15 => k_is)
    (case k15 => k_is)
    (case x16 => k_is)
    (case l16 => k_is)
    (case c16 => k_is)
    (case k16 => k_is)
    (case x17 => k_is)
    (case l17 => k_is)
    (case c17 => k_is)
    (case k17 => k_is)
    (case x18 => k_is)
    (case l18 => k_is)
    (case c18 => k_is)
    (case k18 => k_is)
    (case x19 => k_is)
    (case l19 => k_is)
    (case c19 => k_is)
    (case k19 => k_is)
    (case x20 => k_is)
    (case l20 => k_is)
    (case c20 => k_is)
    (case k20 => k_is)
    (case x21 => k_is)
    (case l21 => k_is)
    (case c21 => k_is)
    (case k21 => k_is)
    (case x22 => k_is)
    (case l22 => k_is)
    (case c22 => k_is)
    (case k22 => k_is)
    (case x23 => k_is)
    (case l23 => k_is)
    (case c23 => k_is)
    (case k23 => k_is)
    (case x24 => k_is)
    (case l24 => k_is)
    (case c24 => k_is)
    (case k24 => k_is)
    (case x25 => k_is)
    (case l25 => k_is)
    (case c25 => k_is)
    (case k25 => k_is)
    (case x26 => k_is)
    (case l26 => k_is)
    (case c26 => k_is)
    (case k26 => k_is)
    (case pg_Book => k_is)
    (case hd_Book => k_is)
    (case po_Book => k_is)
    (case sa_Book => k_is)
    (case mk_Book => k_is)
    (case kc_Book => k_is)
    (case ea_Book => k_is)
    (case en_Book => k_is)
    (case et_Book => k_is)
    (case em_Book => k_is)
    (case ek_Book => kit_is)
    (case n_Book__base => k_is)
    (case n_Book__names => k_is)
    (case n_Book__starts => k_is)
    (case n_Book__formulas => k_is)
    (case n_Book__system => k_is)
    (case pg_System => k_is)
    (case hd_System => k_is)
    (case po_System => k_is)
    (case sa_System => k_is)
    (case mk_System => k_is)
    (case kc_System => k_is)
    (case n_System__starts => k_is)
    (case n_System__steps => k_is)
    (case m_abs => k_is)
    (case m_all => k_is)
    (case m_int => k_is)
    (case m_isinstance => k_is)
    (case m_len => k_is)
    (case m_list => k_is)
    (case m_max => k_is)
    (case m_min => k_is)
    (case m_range => k_is)
    (case m_repr => k_is)
    (case m_sorted => k_is)
    (case m_sum => k_is)
    (case m_tuple => k_is)
