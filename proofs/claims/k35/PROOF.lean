import PyProof.Rows.All
import Wide.All
import OpenK.AllK
import Wide.FinOn
import HandS.ForMost
import HandS.Deep
import HandS.Flow
import HandS.IsInst
import HandS.Conv
import HandS.SortRule
import HandS.SortInts
import HandS.SetFor
import HandS.More
import HandS.Codes
import HandS.Style
import HandS.Walk
import KE.KStateDown
import HandS.Defaults
import HandS.Head0
import HandS.Head1
import HandS.Head2
import HandS.HeadEnd
import HandS.HeadHook1
import HandS.HeadHook2
import HandS.HeadNt
import PySem.Challenge.RW_onecopy_k35_cut
set_option Elab.async false
set_option linter.all false
set_option maxRecDepth 100000
set_option maxHeartbeats 4000000

/-! The ground: relations under names of their own, steps of a reading, facts of heaps. -/
namespace G
open PySem PySem.Spec PyProof.Rows L2

/-! ### relations by name -/
def oAdd : R2 := rI0 fun i j => .int (i + j)
def oSub : R2 := rI0 fun i j => .int (i - j)
def oMul : R2 := rI CMul fun i j => .int (i * j)
def oDiv : R2 := rI CDiv fun i j => .int (i / j)
def oMod : R2 := rI (fun _ j => 0 < j) fun i j => .int (i % j)
def oPow : R2 := rI CPow fun i j => .int (i ^ j.toNat)
def oLt : R2 := rI0 fun i j => .bl (decide (i < j))
def oLe : R2 := rI0 fun i j => .bl (decide (i ≤ j))
def oGt : R2 := rI0 fun i j => .bl (decide (j < i))
def oGe : R2 := rI0 fun i j => .bl (decide (j ≤ i))
def oNeg : V → Hp → VK → Prop := rU fun i => .int (-i)
abbrev RL := List V → Hp → VK → Prop
def oAbs : RL := fun xs H Q => ∃ i, xs = [.int i] ∧ Q (.int (if i < 0 then -i else i)) H
def oMax2 : RL := fun xs H Q => ∃ i j, xs = [.int i, .int j] ∧ Q (.int (if j > i then j else i)) H
def oMin2 : RL := fun xs H Q => ∃ i j, xs = [.int i, .int j] ∧ Q (.int (if j < i then j else i)) H
def oInt : RL := fun xs H Q => (∃ i, xs = [.int i] ∧ Q (.int i) H) ∨ ∃ k, xs = [.bl k] ∧ Q (.int (if k then 1 else 0)) H
def rLenQ (K : PySem.W.Frag) : RL := fun xs H Q => ∃ p ys, xs = [.ref p] ∧ (SqL K H p ys ∨ SqT K H p ys) ∧ Q (.int ys.length) H
def oListOf (K : PySem.W.Frag) : RL := fun xs H Q => ∃ p ys, xs = [.ref p] ∧ (SqL K H p ys ∨ SqT K H p ys) ∧ ∀ l, H l = none → Q (.ref l) (upd H l (.lst ys))
def oListD : RL := fun xs H Q => ∃ d kvs, xs = [V.ref d] ∧ Rd H d (.dT kvs) ∧ ∀ p bs, H p = none → IsKeys H kvs bs → Q (.ref p) (upd H p (.lst (bs.map V.ref)))
def oInsert : V → List V → Hp → VK → Prop := fun x vs H Q => ∃ (l : Addr) (xs : List V) (i : Int) (y : V), x = .ref l ∧ vs = [.int i, y] ∧ H l = some (.lst xs) ∧ xs.length < sizeLine ∧ 0 ≤ i ∧ i < 2 ^ 63 ∧
    Q .non (upd H l (.lst (xs.take i.toNat ++ [y] ++ xs.drop i.toNat)))
def tTruK (K : PySem.W.Frag) (ta : TE) : TT := fun σ H Q => ta σ H fun x H' => ∃ k, TruV K x H' k ∧ Q k H'

theorem hu65 {A : Around} {k : Nat} (hr : Room k A) : A.units + 65 < cLine := by have := hr.un; omega
/-- xs[i] op= e -/
theorem pget_list {X : Cx} : PGet X (rIxL X.K) := by
  intro pn st sg Hh xo yo vo uo Qo Io r1 r2 hyp
  obtain ⟨pp, items, ii, zz, rfl, rfl, hsq, hat, hQ⟩ := hyp
  cases r1
  obtain ⟨tk, rfl⟩ := r2
  obtain ⟨raw, rel, isl, _⟩ := Io.list hsq
  obtain ⟨jj, e1, e2, e3, e4, e5⟩ := atI_get hat
  obtain ⟨ww, e6, rw'⟩ := rel.get e2
  have hlen := rel.length
  have h63 := line63
  have done : EP X pn sg Qo ww st := ⟨zz, Hh, Io, rw', hQ⟩
  by_cases hn : 0 ≤ ii
  · have ej : ii.toNat = jj := by
      rw [seqIndex_of hn e5] at e1; exact Option.some.inj e1
    exact wpAny_getItem_list isl.isList hn (by omega) (by rw [ej]; simpa using e6) done
  · have ej : (ii + (raw.toArray.size : Int)).toNat = jj := by
      rw [seqIndex_neg (by omega) e4] at e1; rw [List.size_toArray, ← hlen]; exact Option.some.inj e1
    exact wpAny_getItem_list_neg isl.isList (by omega) (by rw [List.size_toArray] <;> omega) (by omega) (by rw [ej]; simpa using e6) done

/-! ### heaps -/
section
variable {H H' H1 H2 H3 : Hp} {p q s : Addr} {o o' : HO}
theorem keep (h : H q = some o) (hp : H p = none) : upd H p o' q = some o := by rw [upd_ne (ne_of_none h hp)]; exact h
theorem keepNe (h : H q = some o) (hp : q ≠ p) : upd H p o' q = some o := by rw [upd_ne hp]; exact h
theorem same_new (h : H p = none) : Same H (upd H p o) := fun _ _ e => keep e h
theorem same_mut (e : Same H H') (h : H p = none) : Same H (upd H' p o) := fun b u hb => by rw [upd_ne (ne_of_none hb h)]; exact e b u hb
/-- all that was tracked is as it was, s aside -/
def But (s : Addr) (H H' : Hp) : Prop := ∀ b o, b ≠ s → H b = some o → H' b = some o
theorem But.refl : But s H H := fun _ _ _ h => h
theorem Same.but (e : Same H H') : But s H H' := fun b o _ h => e b o h
theorem But.trans (a : But s H H1) (b : But s H1 H2) : But s H H2 := fun c o n h => b c o n (a c o n h)
theorem But.new (e : But s H H') (h : H' p = none) : But s H (upd H' p o) := fun b u n hb => keep (e b u n hb) h
theorem But.mut (e : But s H H') (h : H p = none) : But s H (upd H' p o) := fun b u n hb => by rw [upd_ne (ne_of_none hb h)]; exact e b u n hb
theorem But.self (e : But s H H') : But s H (upd H' s o) := fun b u n hb => by rw [upd_ne n]; exact e b u n hb
theorem But.free (e : But s H H') (h : H s = some o) (hs : H' s = some o') (hp : H' p = none) : H p = none := by
  cases q : H p with
  | none => rfl
  | some u =>
    by_cases hn : p = s
    · rw [hn, hs] at hp; cases hp
    · rw [e p u hn q] at hp; cases hp
theorem SqL.same {K : PySem.W.Frag} {xs : List V} (h : SqL K H p xs) (e : Same H H') : SqL K H' p xs := e.seq h
theorem SqL.but {K : PySem.W.Frag} {xs ys : List V} (e : But s H H') (hs : H s = some (.lst ys)) (hn : p ≠ s) (h : SqL K H p xs) : SqL K H' p xs := by
  rcases h with (h | ⟨o, h⟩) | h
  · exact .inl (.inl (e _ _ hn h))
  · exact .inl (.inr ⟨o, e _ _ hn h⟩)
  · exact .inr h
end

/-! ### steps -/
section
variable {K : PySem.W.Frag} {σ : L2.St} {H : Hp} {Q : VK} {D : Ends} {v x y : V} {i : Nat} {ta tb tc te tv to ti : TE} {t u : TS} {tt tu : TT} {tl tr : TA} {p C dx : Addr}
theorem w_seq (h : t { D with nx := u D } σ H) : tSeq t u D σ H := h
theorem w_next (h : D.nx σ H) : tNext D σ H := h
theorem w_ret (h : te σ H D.rt) : tRet te D σ H := h
theorem w_retN (h : D.rt .non H) : tRetN D σ H := h
theorem w_drop (h : te σ H fun _ H1 => D.nx σ H1) : tDrop te D σ H := h
theorem w_brk (h : D.bk σ H) : tBreak D σ H := h
theorem w_cont (h : D.ct σ H) : tCont D σ H := h
theorem w_asg {g : TG} (h : te σ H fun x H1 => g x σ H1 D.nx) : tAsg te g D σ H := h
theorem w_name {R : L2.St → Hp → Prop} (h : R (σ.set i (some v)) H) : gName i v σ H R := h
theorem w_sub {R : L2.St → Hp → Prop} {ts : TSet} (h : to σ H fun o H1 => ti σ H1 fun j H2 => ts o j v H2 fun H3 => R σ H3) : gSub to ti ts v σ H R := h
theorem w_setL {R : Hp → Prop} {xs : List V} {k : Int} {j : Nat} (h : H p = some (.lst xs)) (hj : ixN xs.length k = some j) (q : R (upd H p (.lst (xs.set j v)))) : rSetL (.ref p) (.int k) v H R := ⟨p, xs, k, j, rfl, rfl, h, hj, q⟩
theorem w_var (h : σ[i]? = some (some v)) (q : Q v H) : tVar i σ H Q := ⟨v, h, q⟩
theorem w_c (q : Q v H) : tC v σ H Q := q
theorem w_op {r : R2} (h : ta σ H fun x H1 => tb σ H1 fun y H2 => r x y H2 Q) : tOp r ta tb σ H Q := h
theorem w_un {r : V → Hp → VK → Prop} (h : ta σ H fun x H1 => r x H1 Q) : tUn r ta σ H Q := h
theorem w_oAdd {a b : Int} (q : Q (.int (a + b)) H) : oAdd (.int a) (.int b) H Q := ⟨a, b, rfl, rfl, q⟩
theorem w_oSub {a b : Int} (q : Q (.int (a - b)) H) : oSub (.int a) (.int b) H Q := ⟨a, b, rfl, rfl, q⟩
theorem w_oMulL {a b : Int} (h0 : -18446744073709551616 < a) (h1 : a < 18446744073709551616) (q : Q (.int (a * b)) H) : oMul (.int a) (.int b) H Q := ⟨a, b, rfl, rfl, .inl ⟨h0, h1⟩, q⟩
theorem w_oMulR {a b : Int} (h0 : -18446744073709551616 < b) (h1 : b < 18446744073709551616) (q : Q (.int (a * b)) H) : oMul (.int a) (.int b) H Q := ⟨a, b, rfl, rfl, .inr ⟨h0, h1⟩, q⟩
theorem w_oDiv {a b : Int} (h0 : 0 < b) (h1 : b < 1073741824) (q : Q (.int (a / b)) H) : oDiv (.int a) (.int b) H Q := ⟨a, b, rfl, rfl, ⟨h0, h1⟩, q⟩
theorem w_oMod {a b : Int} (hc : 0 < b) (q : Q (.int (a % b)) H) : oMod (.int a) (.int b) H Q := ⟨a, b, rfl, rfl, hc, q⟩
theorem w_oPow {a b : Int} (h0 : 0 ≤ b) (h1 : b ≤ 1000000) (h2 : a.natAbs < 18446744073709551616) (q : Q (.int (a ^ b.toNat)) H) : oPow (.int a) (.int b) H Q := ⟨a, b, rfl, rfl, ⟨h0, h1, h2⟩, q⟩
theorem w_oLt {a b : Int} (q : Q (.bl (decide (a < b))) H) : oLt (.int a) (.int b) H Q := ⟨a, b, rfl, rfl, q⟩
theorem w_oLe {a b : Int} (q : Q (.bl (decide (a ≤ b))) H) : oLe (.int a) (.int b) H Q := ⟨a, b, rfl, rfl, q⟩
theorem w_oGt {a b : Int} (q : Q (.bl (decide (b < a))) H) : oGt (.int a) (.int b) H Q := ⟨a, b, rfl, rfl, q⟩
theorem w_oGe {a b : Int} (q : Q (.bl (decide (b ≤ a))) H) : oGe (.int a) (.int b) H Q := ⟨a, b, rfl, rfl, q⟩
theorem w_oNeg {a : Int} (q : Q (.int (-a)) H) : oNeg (.int a) H Q := ⟨a, rfl, q⟩
theorem w_eqI {a b : Int} (q : Q (.bl (decide (a = b))) H) : rEq (.int a) (.int b) H Q := ⟨rfl, by
  have e : (decide (V.int a = V.int b)) = decide (a = b) := by simp
  rw [e]; exact q⟩
theorem w_neI {a b : Int} (q : Q (.bl (!decide (a = b))) H) : rNe (.int a) (.int b) H Q := ⟨rfl, by
  have e : (decide (V.int a = V.int b)) = decide (a = b) := by simp
  rw [e]; exact q⟩
theorem w_eqB {a b : Bool} (q : Q (.bl (decide (a = b))) H) : rEq (.bl a) (.bl b) H Q := ⟨rfl, by
  have e : (decide (V.bl a = V.bl b)) = decide (a = b) := by simp
  rw [e]; exact q⟩
theorem w_chain {r r' : R2} (h : ta σ H fun x H1 => tb σ H1 fun y H2 => r x y H2 fun z H3 => ∃ k, z = .bl k ∧ (if k = true then tc σ H3 fun w' H4 => r' y w' H4 Q else Q (.bl false) H3)) : tChain r r' ta tb tc σ H Q := h
/-- a known answer -/
theorem w_ex {P : Bool → Prop} {b : Bool} (q : P b) : ∃ k, V.bl b = .bl k ∧ P k := ⟨b, rfl, q⟩
theorem w_test {Qb : Bool → Hp → Prop} (h : te σ H fun x H' => ∃ k, x = .bl k ∧ Qb k H') : tTest te σ H Qb := h
theorem w_tB {Qb : Bool → Hp → Prop} (h : te σ H fun x H' => ∃ k, x = .bl k ∧ Qb k H') : tB te σ H Qb := h
theorem w_and {Qb : Bool → Hp → Prop} (h : tt σ H fun c H1 => if c = true then tu σ H1 Qb else Qb false H1) : tAnd tt tu σ H Qb := h
theorem w_or {Qb : Bool → Hp → Prop} (h : tt σ H fun c H1 => if c = true then Qb true H1 else tu σ H1 Qb) : tOr tt tu σ H Qb := h
theorem w_not {Qb : Bool → Hp → Prop} (h : tt σ H fun c H1 => Qb (!c) H1) : tNot tt σ H Qb := h
theorem w_andV (h : ta σ H fun x H1 => ∃ c, x = .bl c ∧ (if c = true then tb σ H1 Q else Q (.bl false) H1)) : tAndV ta tb σ H Q := h
theorem w_orV (h : ta σ H fun x H1 => ∃ c, x = .bl c ∧ (if c = true then Q (.bl true) H1 else tb σ H1 Q)) : tOrV ta tb σ H Q := h
theorem w_notV (h : ta σ H fun x H1 => ∃ c, x = .bl c ∧ Q (.bl (!c)) H1) : tNotV ta σ H Q := h
theorem w_if (h : tt σ H fun b H1 => if b = true then t D σ H1 else u D σ H1) : tIfS tt t u D σ H := h
theorem w_ifE (h : tt σ H fun c H1 => if c = true then ta σ H1 Q else tb σ H1 Q) : tIf tt ta tb σ H Q := h
theorem w_nil {Ql : List V → Hp → Prop} (h : Ql [] H) : tNil σ H Ql := h
theorem w_cons {Ql : List V → Hp → Prop} (h : ta σ H fun x H1 => tr σ H1 fun xs H2 => Ql (x :: xs) H2) : tCons ta tr σ H Ql := h
theorem w_tup (h : tl σ H fun xs H1 => xs.length ≤ sizeLine ∧ ∀ p, H1 p = none → Q (.ref p) (upd H1 p (.tup xs))) : tTup tl σ H Q := h
theorem w_lst (h : tl σ H fun xs H1 => xs.length ≤ sizeLine ∧ ∀ p, H1 p = none → Q (.ref p) (upd H1 p (.lst xs))) : tLst tl σ H Q := h
theorem w_small {n : Nat} {P : Prop} (hn : n ≤ 100) (h : P) : n ≤ sizeLine ∧ P := ⟨Nat.le_trans hn (by decide), h⟩
theorem w_call {sp : Sp} {E : XK} (h : tl σ H fun vs H1 => sp vs H1 Q E) : tCall sp [] E tl σ H Q := by
  show tl σ H fun vs H1 => sp (vs ++ []) H1 Q E
  simp only [List.append_nil]; exact h
theorem w_meth {sp : Sp} {m : Str} {E : XK} (h : ta σ H fun x H1 => ∃ a dx fs, x = .ref a ∧ H1 a = some (.ins C dx fs) ∧ fs.lookup m = none ∧ tl σ H1 fun vs H2 => sp (x :: vs) H2 Q E) : tMeth C m sp [] E ta tl σ H Q := by
  show ta σ H fun x H1 => ∃ a dx fs, x = .ref a ∧ H1 a = some (.ins C dx fs) ∧ fs.lookup m = none ∧ tl σ H1 fun vs H2 => sp (x :: (vs ++ [])) H2 Q E
  simp only [List.append_nil]; exact h
theorem w_make {sp : Sp} {E : XK} (h : tl σ H fun vs H1 => ∀ x dx, H1 x = none → H1 dx = none → dx ≠ x → sp (.ref x :: vs) (upd (upd H1 dx (.own x)) x (.ins C dx [])) (fun v H2 => v = .non ∧ Q (.ref x) H2) E) : tMake C sp [] E tl σ H Q := by
  show tl σ H fun vs H1 => ∀ x dx, H1 x = none → H1 dx = none → dx ≠ x → sp (.ref x :: (vs ++ [])) (upd (upd H1 dx (.own x)) x (.ins C dx [])) (fun v H2 => v = .non ∧ Q (.ref x) H2) E
  simp only [List.append_nil]; exact h
theorem w_cb {r : RL} (h : tl σ H fun vs H1 => r vs H1 Q) : tCB r tl σ H Q := h
theorem w_oInt {a : Int} (q : Q (.int a) H) : oInt [.int a] H Q := .inl ⟨a, rfl, q⟩
theorem w_oAbs {a : Int} (q : Q (.int (if a < 0 then -a else a)) H) : oAbs [.int a] H Q := ⟨a, rfl, q⟩
theorem w_oMax2 {a b : Int} (q : Q (.int (if b > a then b else a)) H) : oMax2 [.int a, .int b] H Q := ⟨a, b, rfl, q⟩
theorem w_oMin2 {a b : Int} (q : Q (.int (if b < a then b else a)) H) : oMin2 [.int a, .int b] H Q := ⟨a, b, rfl, q⟩
theorem w_lenL {xs : List V} (h : SqL K H p xs) (q : Q (.int xs.length) H) : rLenQ K [.ref p] H Q := ⟨p, xs, rfl, .inl h, q⟩
theorem w_listL {xs : List V} (h : SqL K H p xs) (q : ∀ l, H l = none → Q (.ref l) (upd H l (.lst xs))) : oListOf K [.ref p] H Q := ⟨p, xs, rfl, .inl h, q⟩
theorem w_ixL {xs : List V} {k : Int} (h : SqL K H p xs) (ha : atI xs k = some v) (q : Q v H) : rIxL K (.ref p) (.int k) H Q := ⟨p, xs, k, v, rfl, rfl, h, ha, q⟩
theorem w_ixT {xs : List V} {k : Int} (h : H p = some (.tup xs)) (ha : atI xs k = some v) (q : Q v H) : rIxT K (.ref p) (.int k) H Q := ⟨p, xs, k, v, rfl, rfl, .inl (.inl h), ha, q⟩
theorem w_fld {f : Str} (h : ta σ H fun x H1 => ∃ a C dx fs v, x = .ref a ∧ H1 a = some (.ins C dx fs) ∧ Cls K C ∧ NoAttr K C f ∧ fs.lookup f = some v ∧ Q v H1) : tFld K ta f σ H Q := h
theorem w_bm {Tn : String} {r : V → List V → Hp → VK → Prop} (h : to σ H fun x H1 => tyV K Tn x H1 ∧ tl σ H1 fun xs H2 => r x xs H2 Q) : tBM K Tn r to tl σ H Q := h
theorem w_bm0 {Tn : String} {r : V → List V → Hp → VK → Prop} (h : to σ H fun x H1 => tyV K Tn x H1 ∧ r x [] H1 Q) : tBM0 K Tn r to σ H Q := h
theorem w_tyL {P : Prop} {xs : List V} (h : SqL K H p xs) (q : P) : tyV K "list" (.ref p) H ∧ P := ⟨.inl ⟨rfl, xs, h⟩, q⟩
theorem w_append {xs : List V} (h : H p = some (.lst xs)) (hl : xs.length < sizeLine) (q : Q .non (upd H p (.lst (xs ++ [v])))) : rAppend (.ref p) [v] H Q := ⟨p, xs, v, rfl, rfl, h, hl, q⟩
theorem w_cat {b : Addr} {xs ys : List V} (h : H p = some (.lst xs)) (hb : H b = some (.lst ys)) (hl : xs.length + ys.length ≤ sizeLine) (q : ∀ l, H l = none → Q (.ref l) (upd H l (.lst (xs ++ ys)))) : rCat (.ref p) (.ref b) H Q := ⟨p, b, xs, ys, rfl, rfl, h, hb, hl, q⟩
theorem w_sl {r : V → Option Int → Option Int → Hp → VK → Prop} {lo hi : TO} (h : te σ H fun x H1 => lo σ H1 fun l H2 => hi σ H2 fun u H3 => r x l u H3 Q) : tSl r te lo hi σ H Q := h
theorem w_noPart {R : Option Int → Hp → Prop} (h : R none H) : tNoPart σ H R := h
theorem w_part {R : Option Int → Hp → Prop} (h : te σ H fun x H1 => ∃ i, x = .int i ∧ R (some i) H1) : tPart te σ H R := h
theorem w_exI {P : Int → Prop} {a : Int} (q : P a) : ∃ k, V.int a = .int k ∧ P k := ⟨a, rfl, q⟩
theorem w_slL {xs : List V} {lo hi : Option Int} (h : SqL K H p xs) (q : ∀ l, H l = none → Q (.ref l) (upd H l (.lst (cutV xs lo hi)))) : rSlL K (.ref p) lo hi H Q := ⟨p, xs, rfl, h, q⟩
theorem w_gNil {R : L2.St → Hp → Prop} (h : R σ H) : gNil [] σ H R := ⟨rfl, h⟩
theorem w_gCons {R : L2.St → Hp → Prop} {g : TG} {gs : TGs} {vs : List V} (h : g v σ H fun σ' H' => gs vs σ' H' R) : gCons g gs (v :: vs) σ H R := ⟨v, vs, rfl, h⟩
theorem w_gTup {R : L2.St → Hp → Prop} {n : Nat} {gs : TGs} {vs : List V} (h : H p = some (.tup vs)) (hn : vs.length = n) (q : gs vs σ H R) : gTup K n gs (.ref p) σ H R := ⟨p, vs, rfl, .inl (.inl h), hn, q⟩
theorem w_listRg {te : L2.St → Hp → (Int → Int → Hp → Prop) → Prop} (h : te σ H fun a b H1 => RgOk a b ∧ ∀ q, H1 q = none → Q (.ref q) (upd H1 q (.lst (rgV a b)))) : tLstRg te σ H Q := h
theorem w_rg1 {R : Int → Int → Hp → Prop} (h : ta σ H fun x H1 => ∃ n, x = .int n ∧ R 0 n H1) : tRg1 ta σ H R := h
theorem w_augS {tget : V → V → Hp → VK → Prop} {tip : TIp} {ts : TSet} (h : to σ H fun o H1 => ti σ H1 fun i H2 => tget o i H2 fun x H3 => te σ H3 fun y H4 => tip x y H4 fun z H5 => ts o i z H5 fun H6 => D.nx σ H6) : tAugS to ti te tget tip ts D σ H := h
theorem w_ipI {f : Int → Int → Int} {a b : Int} (q : Q (.int (f a b)) H) : ipI f (.int a) (.int b) H Q := ⟨a, b, rfl, rfl, q⟩
theorem w_sum {xs : List Int} (h : SqL K H p (xs.map V.int)) (q : Q (.int xs.sum) H) : rSum K [.ref p] H Q := ⟨p, xs, rfl, h, q⟩
theorem w_iteD {A B : Prop} {c : Prop} [Decidable c] (h1 : c → A) (h2 : ¬ c → B) : if decide c = true then A else B := by
  by_cases h : c
  · rw [decide_eq_true h]; exact h1 h
  · rw [decide_eq_false h, if_neg Bool.false_ne_true]; exact h2 h
theorem w_iteN {A B : Prop} {c : Prop} [Decidable c] (h1 : ¬ c → A) (h2 : c → B) : if (!decide c) = true then A else B := by
  by_cases h : c
  · rw [decide_eq_true h]; exact h2 h
  · rw [decide_eq_false h]; exact h1 h
theorem w_iteT {A B : Prop} (h : A) : if true = true then A else B := h
theorem w_iteF {A B : Prop} (h : B) : if false = true then A else B := by rw [if_neg Bool.false_ne_true]; exact h

theorem w_cut (M : L2.St → Hp → Prop) (h1 : t { D with nx := M } σ H) (h2 : ∀ σ1 H1, M σ1 H1 → u D σ1 H1) : C8.tCut t u D σ H := ⟨M, h1, h2⟩
theorem w_yes {R : Bool → Hp → Prop} (q : R true H) : tYes σ H R := q
theorem w_exA {P : Int → Prop} {n : Int} (q : P n) : ∃ m, [V.int n] = [V.int m] ∧ P m := ⟨n, rfl, q⟩
theorem w_exA2 {P : Int → Int → Prop} {n m : Int} (q : P n m) : ∃ a b, [V.int n, V.int m] = [V.int a, V.int b] ∧ P a b := ⟨n, m, rfl, q⟩
theorem w_exR {P : Addr → Prop} (q : P p) : ∃ m, V.ref p = .ref m ∧ P m := ⟨p, rfl, q⟩
theorem w_exRA {P : Addr → Prop} (q : P p) : ∃ m, [V.ref p] = [.ref m] ∧ P m := ⟨p, rfl, q⟩
theorem w_exRA2 {P : Addr → Addr → Prop} {p2 : Addr} (q : P p p2) : ∃ m m2, [V.ref p, .ref p2] = [.ref m, .ref m2] ∧ P m m2 := ⟨p, p2, rfl, q⟩
theorem w_acc {xs : List V} {P : List V → Prop} (h : H p = some (.lst xs)) (hl : xs.length < sizeLine) (q : P xs) : ∃ acc, H p = some (.lst acc) ∧ acc.length < sizeLine ∧ P acc := ⟨xs, h, hl, q⟩
theorem w_fld2 {P : V → Prop} {f : Str} {fs : List (Str × V)} (h : H p = some (.ins C dx fs)) (hc : Cls K C) (hn : NoAttr K C f) (hl : fs.lookup f = some v) (q : P v) :
    ∃ a C dx fs w, V.ref p = .ref a ∧ H a = some (.ins C dx fs) ∧ Cls K C ∧ NoAttr K C f ∧ fs.lookup f = some w ∧ P w := ⟨p, C, dx, fs, v, rfl, h, hc, hn, hl, q⟩
theorem w_mth {P : Addr → Prop} {m : Str} {fs : List (Str × V)} (h : H p = some (.ins C dx fs)) (hl : fs.lookup m = none) (q : P p) :
    ∃ a dx fs, V.ref p = .ref a ∧ H a = some (.ins C dx fs) ∧ fs.lookup m = none ∧ P p := ⟨p, dx, fs, rfl, h, hl, q⟩
theorem w_sfld {f : Str} (h : tv σ H fun y H1 => to σ H1 fun x H2 => ∃ a C dx fs, x = .ref a ∧ H2 a = some (.ins C dx fs) ∧ Cls K C ∧ NoAttr K C f ∧ fs.length < 1000 ∧ D.nx σ (upd H2 a (.ins C dx (putF f y fs)))) : sFld K to tv f D σ H := h
theorem w_sfld2 {P : Hp → Prop} {f : Str} {fs : List (Str × V)} (h : H p = some (.ins C dx fs)) (hc : Cls K C) (hn : NoAttr K C f) (hl : fs.length < 1000) (q : P (upd H p (.ins C dx (putF f v fs)))) :
    ∃ a C dx fs, V.ref p = .ref a ∧ H a = some (.ins C dx fs) ∧ Cls K C ∧ NoAttr K C f ∧ fs.length < 1000 ∧ P (upd H a (.ins C dx (putF f v fs))) := ⟨p, C, dx, fs, rfl, h, hc, hn, hl, q⟩
theorem w_never (h : False) : tNever D σ H := h
theorem w_augName {ti : TIp} (h : σ[i]? = some (some v)) (q : te σ H fun y H1 => ti v y H1 fun z H2 => D.nx (σ.set i (some z)) H2) : tAug i te ti D σ H := ⟨v, h, q⟩

theorem at0 {a : V} {r : List V} : atI (a :: r) 0 = some a := atI_nat (xs := a :: r) (j := 0) rfl
theorem at1 {a b : V} {r : List V} : atI (a :: b :: r) 1 = some b := atI_nat (xs := a :: b :: r) (j := 1) rfl
theorem at2 {a b c : V} {r : List V} : atI (a :: b :: c :: r) 2 = some c := atI_nat (xs := a :: b :: c :: r) (j := 2) rfl
theorem at3 {a b c d : V} {r : List V} : atI (a :: b :: c :: d :: r) 3 = some d := atI_nat (xs := a :: b :: c :: d :: r) (j := 3) rfl
theorem at4 {a b c d e : V} {r : List V} : atI (a :: b :: c :: d :: e :: r) 4 = some e := atI_nat (xs := a :: b :: c :: d :: e :: r) (j := 4) rfl
theorem ixn {n : Nat} {k : Int} {j : Nat} (e : k = (j : Int)) (h : j < n) : ixN n k = some j := by
  unfold ixN; rw [e, if_pos (by omega), if_pos (by omega)]; simp
theorem ix0 {a : V} {r : List V} : ixN (a :: r).length 0 = some 0 := ixn rfl (by simp)
theorem ix1 {a b : V} {r : List V} : ixN (a :: b :: r).length 1 = some 1 := ixn rfl (by simp)
theorem ix2 {a b c : V} {r : List V} : ixN (a :: b :: c :: r).length 2 = some 2 := ixn rfl (by simp)
theorem atn {xs : List V} {k : Int} {j : Nat} {v : V} (e : k = (j : Int)) (h : xs[j]? = some v) : atI xs k = some v := by rw [e]; exact atI_nat h
theorem ati {xs : List Int} {k : Int} (h0 : 0 ≤ k) (h1 : k < xs.length) : atI (xs.map V.int) k = some (V.int (xs.getD k.toNat 0)) := by
  refine atn (j := k.toNat) (by omega) ?_
  rw [List.getElem?_map, List.getElem?_eq_getElem (by omega), List.getD_eq_getElem?_getD, List.getElem?_eq_getElem (by omega)]; rfl

/-! ### loops -/
/-- a loop whose iterator has come -/
def ForW (J : It) (g : TG) (tb : TS) (D : Ends) (σ : L2.St) (H : Hp) : Prop := tFor (fun _ H R => R J H) g tb D σ H
theorem w_forR1 {g : TG} {tb : TS} (h : tl σ H fun vs H1 => ∃ n : Int, vs = [.int n] ∧ -(2 ^ 62) ≤ n ∧ n < 2 ^ 62 ∧ ForW (Itr 0 n.toNat) g tb D σ H1) : tFor (iRng1 tl) g tb D σ H := h
theorem w_forR2 {g : TG} {tb : TS} (h : tl σ H fun vs H1 => ∃ m n : Int, vs = [.int m, .int n] ∧ (-(2 ^ 62) ≤ m ∧ m < 2 ^ 62 ∧ -(2 ^ 62) ≤ n ∧ n < 2 ^ 62) ∧ ForW (Itr m (n - m).toNat) g tb D σ H1) : tFor (iRng2 tl) g tb D σ H := h
theorem w_forL {g : TG} {tb : TS} (h : te σ H fun x H1 => ∃ a, x = .ref a ∧ (∃ xs, SqL K H1 a xs) ∧ ForW (Itl K a) g tb D σ H1) : tFor (iList K te) g tb D σ H := h
theorem w_forZ {g : TG} {tb : TS} (h : tl σ H fun vs H1 => ∃ a b xs ys, vs = [.ref a, .ref b] ∧ SqL K H1 a xs ∧ SqL K H1 b ys ∧ ForW (Itz K a b) g tb D σ H1) : tFor (iZip K tl) g tb D σ H := h
theorem w_forE {g : TG} {tb : TS} (h : tl σ H fun vs H1 => ∃ a xs, vs = [.ref a] ∧ SqL K H1 a xs ∧ ForW (Ite K a) g tb D σ H1) : tFor (iEnum K tl) g tb D σ H := h
theorem w_bd1 {n : Int} {P : Prop} (h0 : -4611686018427387904 ≤ n) (h1 : n < 4611686018427387904) (q : P) : -(2 ^ 62) ≤ n ∧ n < 2 ^ 62 ∧ P := ⟨by omega, by omega, q⟩
theorem w_bd2 {m n : Int} {P : Prop} (h0 : -4611686018427387904 ≤ m) (h1 : m < 4611686018427387904) (h2 : -4611686018427387904 ≤ n) (h3 : n < 4611686018427387904) (q : P) : (-(2 ^ 62) ≤ m ∧ m < 2 ^ 62 ∧ -(2 ^ 62) ≤ n ∧ n < 2 ^ 62) ∧ P := ⟨⟨by omega, by omega, by omega, by omega⟩, q⟩
theorem w_sqE {xs : List V} {P : Prop} (h : SqL K H p xs) (q : P) : (∃ ys, SqL K H p ys) ∧ P := ⟨⟨xs, h⟩, q⟩
theorem forR {lo : Int} {n : Nat} {g : TG} {tb : TS} (Pv : Nat → L2.St → Hp → Prop) (h0 : Pv 0 σ H)
    (hs : ∀ i σ1 H1, i < n → Pv i σ1 H1 → g (.int (lo + i)) σ1 H1 fun σ2 H2 => tb { D with nx := Pv (i + 1), ct := Pv (i + 1), bk := D.nx } σ2 H2) (hd : ∀ σ1 H1, Pv n σ1 H1 → D.nx σ1 H1) : ForW (Itr lo n) g tb D σ H := for_range Pv h0 hs hd
theorem forL {a : Addr} {xs : List V} {g : TG} {tb : TS} (Pv : Nat → L2.St → Hp → Prop) (h0 : Pv 0 σ H) (hl : ∀ i σ1 H1, i ≤ xs.length → Pv i σ1 H1 → SqL K H1 a xs)
    (hs : ∀ i x σ1 H1, xs[i]? = some x → Pv i σ1 H1 → g x σ1 H1 fun σ2 H2 => tb { D with nx := Pv (i + 1), ct := Pv (i + 1), bk := D.nx } σ2 H2) (hd : ∀ σ1 H1, Pv xs.length σ1 H1 → D.nx σ1 H1) : ForW (Itl K a) g tb D σ H := for_list (xs := xs) Pv h0 hl hs hd
/-- a comprehension whose iterator has come -/
def LcW (J : It) (g : TG) (tt : TT) (te : TE) (vs : List Nat) (σ : L2.St) (H : Hp) (Q : VK) : Prop := tLc (fun _ H R => R J H) g tt te vs σ H Q
theorem w_lcR1 {g : TG} {vs : List Nat} (h : tl σ H fun us H1 => ∃ n : Int, us = [.int n] ∧ -(2 ^ 62) ≤ n ∧ n < 2 ^ 62 ∧ LcW (Itr 0 n.toNat) g tt te vs σ H1 Q) : tLc (iRng1 tl) g tt te vs σ H Q := h
theorem w_lcL {g : TG} {vs : List Nat} {tz : TE} (h : tz σ H fun x H1 => ∃ a, x = .ref a ∧ (∃ xs, SqL K H1 a xs) ∧ LcW (Itl K a) g tt te vs σ H1 Q) : tLc (iList K tz) g tt te vs σ H Q := h
/-- one turn of a comprehension -/
def LcT (tt : TT) (te : TE) (Dl : Addr) (N : Hp → Prop) (σ : L2.St) (H : Hp) : Prop := tt σ H fun b H3 =>
  if b = true then te σ H3 fun y H4 => ∃ acc, H4 Dl = some (.lst acc) ∧ acc.length < sizeLine ∧ N (upd H4 Dl (.lst (acc ++ [y]))) else N H3
theorem lcR {lo : Int} {n : Nat} {g : TG} {vs : List Nat} (Pv : Addr → Nat → Hp → Prop) (h0 : ∀ Dl, H Dl = none → Pv Dl 0 (upd H Dl (.lst [])))
    (hs : ∀ Dl i H1, H Dl = none → i < n → Pv Dl i H1 → g (.int (lo + i)) (wipe σ vs) H1 fun σ2 H2 => wipe σ2 vs = wipe σ vs ∧ LcT tt te Dl (Pv Dl (i + 1)) σ2 H2) (hd : ∀ Dl H1, H Dl = none → Pv Dl n H1 → Q (.ref Dl) H1) : LcW (Itr lo n) g tt te vs σ H Q :=
  fun Dl hD => lc_range (Pv Dl) (h0 Dl hD) (fun i H1 hi p => hs Dl i H1 hD hi p) (fun H1 p => hd Dl H1 hD p)
theorem lcL {a : Addr} {xs : List V} {g : TG} {vs : List Nat} (Pv : Addr → Nat → Hp → Prop) (h0 : ∀ Dl, H Dl = none → Pv Dl 0 (upd H Dl (.lst []))) (hl : ∀ Dl i H1, H Dl = none → i ≤ xs.length → Pv Dl i H1 → SqL K H1 a xs)
    (hs : ∀ Dl i x H1, H Dl = none → xs[i]? = some x → Pv Dl i H1 → g x (wipe σ vs) H1 fun σ2 H2 => wipe σ2 vs = wipe σ vs ∧ LcT tt te Dl (Pv Dl (i + 1)) σ2 H2) (hd : ∀ Dl H1, H Dl = none → Pv Dl xs.length H1 → Q (.ref Dl) H1) : LcW (Itl K a) g tt te vs σ H Q :=
  fun Dl hD => lc_list (K := K) (a := a) (xs := xs) (Pv Dl) (h0 Dl hD) (fun i H1 hi p => hl Dl i H1 hD hi p) (fun i x H1 hx p => hs Dl i x H1 hD hx p) (fun H1 p => hd Dl H1 hD p)
theorem w_lcT {Dl : Addr} {N : Hp → Prop} (h : te σ H fun y H4 => ∃ acc, H4 Dl = some (.lst acc) ∧ acc.length < sizeLine ∧ N (upd H4 Dl (.lst (acc ++ [y])))) : LcT tYes te Dl N σ H := h
theorem w_lcTif {Dl : Addr} {N : Hp → Prop} (h : tt σ H fun b H3 => if b = true then (te σ H3 fun y H4 => ∃ acc, H4 Dl = some (.lst acc) ∧ acc.length < sizeLine ∧ N (upd H4 Dl (.lst (acc ++ [y])))) else N H3) : LcT tt te Dl N σ H := h
theorem w_wipe {σ1 : L2.St} {P : Prop} (h : σ = σ1) (q : P) : σ = σ1 ∧ P := ⟨h, q⟩
end
/-! ### sources of draws: lists of three ints -/
section
variable {H H' H1 H2 H3 : Hp} {p q s : Addr} {o o' : HO} {xs : List V}
def Src (H : Hp) (s : Addr) : Prop := ∃ x y z : Int, H s = some (.lst [.int x, .int y, .int z])
theorem Src.ex (h : Src H s) : ∃ xs, H s = some (.lst xs) := let ⟨_, _, _, e⟩ := h; ⟨_, e⟩
theorem Src.neFree (h : Src H s) (hq : H q = none) : q ≠ s := fun e => by obtain ⟨_, _, _, hs⟩ := h; rw [e, hs] at hq; cases hq
theorem Src.neTup {xs : List V} (h : Src H s) (hq : H q = some (.tup xs)) : q ≠ s := fun e => by obtain ⟨_, _, _, hs⟩ := h; rw [e, hs] at hq; cases hq
theorem Src.neIns {C dx : Addr} {fs : List (Str × V)} (h : Src H s) (hq : H q = some (.ins C dx fs)) : q ≠ s := fun e => by obtain ⟨_, _, _, hs⟩ := h; rw [e, hs] at hq; cases hq
theorem Src.new (h : Src H s) (hp : H p = none) : Src (upd H p o) s := let ⟨x, y, z, e⟩ := h; ⟨x, y, z, keep e hp⟩
theorem Src.mut (h : Src H s) (hp : p ≠ s) : Src (upd H p o) s := let ⟨x, y, z, e⟩ := h; ⟨x, y, z, keepNe e hp.symm⟩
theorem Src.same (e : Same H H') (h : Src H s) : Src H' s := let ⟨x, y, z, q⟩ := h; ⟨x, y, z, e _ _ q⟩
theorem But.at (b : But s H H') (hn : q ≠ s) (h : H q = some o) : H' q = some o := b _ _ hn h
theorem But.back (b : But s H H') (h2 : Src H' s) (hp : H' p = none) : H p = none := by
  cases hq : H p with
  | none => rfl
  | some u => rw [b p u (h2.neFree hp) hq] at hp; cases hp
theorem But.trans' (b : But s H1 H2) (a : But s H H1) : But s H H2 := a.trans b
theorem Same.trans' (b : Same H1 H2) (a : Same H H1) : Same H H2 := a.trans b
theorem Same.at (e : Same H H') (h : H q = some o) : H' q = some o := e _ _ h
theorem ne1 (hl : H p = none) (hq : H q = some o) : q ≠ p := ne_of_none hq hl
theorem free_upd (h : upd H p o q = none) : H q = none := by
  cases e : H q with
  | none => rfl
  | some u =>
    by_cases hn : q = p
    · rw [hn, upd_same] at h; cases h
    · rw [upd_ne hn, e] at h; cases h
/-- a pair of ints at a value; a list of such pairs -/
def PR (H : Hp) (v : V) (r : Int × Int) : Prop := ∃ t, v = .ref t ∧ H t = some (.tup [.int r.1, .int r.2])
def RowsAt (H : Hp) (p : Addr) (rows : List (Int × Int)) : Prop := ∃ vs, H p = some (.lst vs) ∧ Paired (PR H) vs rows
theorem PR.but {v : V} {r : Int × Int} (b : But s H H') (hs : Src H s) (h : PR H v r) : PR H' v r := let ⟨t, e, ht⟩ := h; ⟨t, e, b.at (hs.neTup ht) ht⟩
theorem PR.same {v : V} {r : Int × Int} (b : Same H H') (h : PR H v r) : PR H' v r := let ⟨t, e, ht⟩ := h; ⟨t, e, b _ _ ht⟩
theorem PR.mutL {v : V} {r : Int × Int} {xs : List V} (hp : H p = some (.lst xs)) (h : PR H v r) : PR (upd H p o) v r := let ⟨t, e, ht⟩ := h; ⟨t, e, keepNe ht (ne_of ht hp (by intro z; cases z))⟩
theorem PRs.but {vs : List V} {rows : List (Int × Int)} (b : But s H H') (hs : Src H s) (h : Paired (PR H) vs rows) : Paired (PR H') vs rows := h.mono fun _ _ q => PR.but b hs q
theorem PRs.same {vs : List V} {rows : List (Int × Int)} (b : Same H H') (h : Paired (PR H) vs rows) : Paired (PR H') vs rows := h.mono fun _ _ q => PR.same b q
theorem PRs.mutL {vs xs : List V} {rows : List (Int × Int)} (hp : H p = some (.lst xs)) (h : Paired (PR H) vs rows) : Paired (PR (upd H p o)) vs rows := h.mono fun _ _ q => PR.mutL hp q
theorem PRs.new {vs : List V} {rows : List (Int × Int)} (hp : H p = none) (h : Paired (PR H) vs rows) : Paired (PR (upd H p o)) vs rows := h.mono fun _ _ q => PR.same (same_new hp) q
theorem RowsAt.but {rows : List (Int × Int)} (b : But s H H') (hs : Src H s) (hn : p ≠ s) (h : RowsAt H p rows) : RowsAt H' p rows := let ⟨vs, e, k⟩ := h; ⟨vs, b.at hn e, PRs.but b hs k⟩
theorem RowsAt.same {rows : List (Int × Int)} (b : Same H H') (h : RowsAt H p rows) : RowsAt H' p rows := let ⟨vs, e, k⟩ := h; ⟨vs, b _ _ e, PRs.same b k⟩
theorem RowsAt.neFree {rows : List (Int × Int)} (h : RowsAt H q rows) (hp : H p = none) : q ≠ p := let ⟨_, e, _⟩ := h; ne_of_none e hp
theorem Paired.at {α β : Type} {F : α → β → Prop} : ∀ {l₁ : List α} {l₂ : List β}, Paired F l₁ l₂ → ∀ {i : Nat} {b : β}, l₂[i]? = some b → ∃ a, l₁[i]? = some a ∧ F a b
  | _, _, .nil, i, b, h => by simp at h
  | _, _, .cons f r, 0, b, h => by
    have e := Option.some.inj h
    subst e; exact ⟨_, rfl, f⟩
  | _, _, .cons f r, i + 1, b, h => by
    obtain ⟨a, h1, h2⟩ := Paired.at r (i := i) (b := b) (by simpa using h)
    exact ⟨a, by simpa using h1, h2⟩
theorem Paired.at' {α β : Type} {F : α → β → Prop} : ∀ {l₁ : List α} {l₂ : List β}, Paired F l₁ l₂ → ∀ {i : Nat} {a : α}, l₁[i]? = some a → ∃ b, l₂[i]? = some b ∧ F a b
  | _, _, .nil, i, b, h => by simp at h
  | _, _, .cons f r, 0, b, h => by
    have e := Option.some.inj h
    subst e; exact ⟨_, rfl, f⟩
  | _, _, .cons f r, i + 1, b, h => by
    obtain ⟨a, h1, h2⟩ := Paired.at' r (i := i) (a := b) (by simpa using h)
    exact ⟨a, by simpa using h1, h2⟩
end
end G

namespace G
open PySem L2
structure CA where
structure CT (K : PySem.W.Frag) (A : CA) : Prop where
end G

/-! ### the tactic: walk_at "go" -/
local macro_rules | `(tactic| walk_at "hp") => `(tactic| first
  | assumption | exact L2.upd_same
  | exact G.keep (by walk_at "hp") (by assumption)
  | exact G.keepNe (by walk_at "hp") (by walk_at "ne")
  | exact G.But.at (by assumption) (by walk_at "ne") (by walk_at "hp")
  | exact G.Same.at (by assumption) (by walk_at "hp"))
local macro_rules | `(tactic| walk_at "ne") => `(tactic| first
  | assumption | exact Ne.symm (by assumption)
  | exact G.Src.neFree (by assumption) (by assumption) | exact (G.Src.neFree (by assumption) (by assumption)).symm
  | exact G.ne1 (by assumption) (by walk_at "hp") | exact (G.ne1 (by assumption) (by walk_at "hp")).symm)
local macro_rules | `(tactic| walk_at "src") => `(tactic| first
  | assumption | exact G.Src.new (by walk_at "src") (by assumption) | exact G.Src.mut (by walk_at "src") (by walk_at "ne") | exact G.Src.same (by assumption) (by walk_at "src"))
local macro_rules | `(tactic| walk_at "but") => `(tactic| first
  | assumption | exact G.But.refl
  | exact G.But.mut (by walk_at "but") (by assumption) | exact G.But.new (by walk_at "but") (by assumption) | exact G.But.self (by walk_at "but")
  | exact G.But.trans' (by assumption) (by walk_at "but") | exact G.But.trans' (G.Same.but (by assumption)) (by walk_at "but"))
local macro_rules | `(tactic| walk_at "same") => `(tactic| first
  | assumption | exact L2.Same.refl _
  | exact G.same_mut (by walk_at "same") (by assumption) | exact G.Same.trans' (G.same_new (by assumption)) (by walk_at "same") | exact G.Same.trans' (by assumption) (by walk_at "same"))
local macro_rules | `(tactic| walk_at "sq") => `(tactic| first
  | assumption | exact G.SqL.same (by assumption) (by walk_at "same") | exact L2.SqL.of (by walk_at "hp"))
local macro_rules | `(tactic| walk_at "at") => `(tactic| first
  | assumption | exact L2.atI_nat (by assumption) | exact G.at0 | exact G.at1 | exact G.at2 | exact G.at3 | exact G.at4)
local macro_rules | `(tactic| walk_at "ix") => `(tactic| first
  | assumption | exact G.ix0 | exact G.ix1 | exact G.ix2)
local macro_rules | `(tactic| walk_at "ar") => `(tactic| first | assumption | omega | decide)
local macro_rules | `(tactic| walk_at "one") => `(tactic| (with_reducible first
  | refine' G.w_seq ?_ | refine' G.w_asg ?_ | (refine' G.w_var ?g1 ?_; (case g1 => with_unfolding_all rfl)) | refine' G.w_c ?_ | refine' G.w_name ?_ | refine' G.w_op ?_
  | refine' G.w_oAdd ?_ | refine' G.w_oSub ?_ | (refine' G.w_oMulR ?g1 ?g2 ?_; (case g1 => walk_at "ar"); (case g2 => walk_at "ar")) | (refine' G.w_oMulL ?g1 ?g2 ?_; (case g1 => walk_at "ar"); (case g2 => walk_at "ar")) | (refine' G.w_oDiv ?g1 ?g2 ?_; (case g1 => walk_at "ar"); (case g2 => walk_at "ar")) | (refine' G.w_oMod ?g1 ?_; (case g1 => walk_at "ar")) | (refine' G.w_oPow ?g1 ?g2 ?g3 ?_; (case g1 => walk_at "ar"); (case g2 => walk_at "ar"); (case g3 => with_unfolding_all decide))
  | refine' G.w_oLt ?_ | refine' G.w_oLe ?_ | refine' G.w_oGt ?_ | refine' G.w_oGe ?_ | refine' G.w_un ?_ | refine' G.w_oNeg ?_ | refine' G.w_brk ?_ | refine' G.w_cont ?_ | refine' G.w_eqI ?_ | refine' G.w_neI ?_ | refine' G.w_eqB ?_
  | refine' G.w_cons ?_ | refine' G.w_nil ?_ | refine' G.w_ex ?_ | refine' G.w_exI ?_
  | refine' G.w_ret ?_ | refine' G.w_drop ?_ | refine' G.w_next ?_ | refine' G.w_retN ?_ | refine' G.w_if ?_ | refine' G.w_test ?_ | refine' G.w_tB ?_ | refine' G.w_ifE ?_
  | refine' G.w_iteT ?_ | refine' G.w_iteF ?_
  | refine' G.w_cb ?_ | refine' G.w_oInt ?_ | refine' G.w_oAbs ?_ | refine' G.w_oMax2 ?_ | refine' G.w_oMin2 ?_ | refine' G.w_call ?_ | refine' G.w_meth ?_ | refine' G.w_make ?_
  | refine' G.w_tup ?_ | refine' G.w_lst ?_ | (refine' G.w_small ?g1 ?_; (case g1 => with_unfolding_all exact Nat.le_of_ble_eq_true rfl))
  | (refine' G.w_ixL ?g1 ?g2 ?_; (case g1 => walk_at "sq"); (case g2 => with_unfolding_all walk_at "at"))
  | (refine' G.w_ixT ?g1 ?g2 ?_; (case g1 => walk_at "hp"); (case g2 => with_unfolding_all walk_at "at"))
  | (refine' G.w_lenL ?g1 ?_; (case g1 => walk_at "sq")) | (refine' G.w_listL ?g1 ?_; (case g1 => walk_at "sq")) | (refine' G.w_sum ?g1 ?_; (case g1 => walk_at "sq"))
  | refine' G.w_bm ?_ | refine' G.w_bm0 ?_ | (refine' G.w_tyL ?g1 ?_; (case g1 => walk_at "sq"))
  | (refine' G.w_append ?g1 ?g2 ?_; (case g1 => walk_at "hp"); (case g2 => walk_at "sz"))
  | refine' G.w_sub ?_ | (refine' G.w_setL ?g1 ?g2 ?_; (case g1 => walk_at "hp"); (case g2 => with_unfolding_all walk_at "ix"))
  | (refine' G.w_cat ?g1 ?g2 ?g3 ?_; (case g1 => walk_at "hp"); (case g2 => walk_at "hp"); (case g3 => walk_at "sz"))
  | refine' G.w_sl ?_ | refine' G.w_noPart ?_ | refine' G.w_part ?_ | (refine' G.w_slL ?g1 ?_; (case g1 => walk_at "sq"))
  | refine' G.w_gCons ?_ | refine' G.w_gNil ?_ | (refine' G.w_gTup ?g1 ?g2 ?_; (case g1 => walk_at "hp"); (case g2 => with_unfolding_all rfl))
  | refine' G.w_chain ?_ | refine' G.w_and ?_ | refine' G.w_or ?_ | refine' G.w_not ?_ | refine' G.w_andV ?_ | refine' G.w_orV ?_ | refine' G.w_notV ?_
  | refine' G.w_listRg ?_ | refine' G.w_rg1 ?_ | refine' G.w_augS ?_ | refine' G.w_ipI ?_
  | refine' G.w_fld ?_ | refine' G.w_sfld ?_ | refine' G.w_yes ?_ | refine' G.w_exA ?_ | refine' G.w_exA2 ?_ | refine' G.w_exR ?_ | refine' G.w_exRA ?_
  | (refine' G.w_acc ?g1 ?g2 ?_; (case g1 => walk_at "hp"); (case g2 => walk_at "sz"))
  | refine' G.w_forR1 ?_ | refine' G.w_forR2 ?_ | refine' G.w_forL ?_ | refine' G.w_forZ ?_ | refine' G.w_forE ?_ | refine' G.w_lcR1 ?_ | refine' G.w_lcL ?_
  | (refine' G.w_bd1 ?g1 ?g2 ?_; (case g1 => walk_at "ar"); (case g2 => walk_at "ar"))
  | (refine' G.w_bd2 ?g1 ?g2 ?g3 ?g4 ?_; (case g1 => walk_at "ar"); (case g2 => walk_at "ar"); (case g3 => walk_at "ar"); (case g4 => walk_at "ar"))
  | (refine' G.w_sqE ?g1 ?_; (case g1 => walk_at "sq"))
  | (refine' G.w_wipe ?g1 ?_; (case g1 => with_unfolding_all rfl)) | refine' G.w_lcT ?_ | refine' G.w_lcTif ?_
  | (refine' G.w_augName ?g1 ?_; (case g1 => with_unfolding_all rfl))
  | walk_at "call"))
local macro_rules | `(tactic| walk_at "sz") => `(tactic| first | assumption | exact L2.small1000 (by omega) | omega | exact L2.small1000 (by simp only [List.length_map, List.length_append, List.length_cons, List.length_nil, List.length_range, List.length_take, List.length_drop, List.length_set]; omega) | exact Nat.le_of_lt (L2.small1000 (by simp only [List.length_map, List.length_append, List.length_cons, List.length_nil, List.length_range, List.length_take, List.length_drop, List.length_set]; omega)))
local macro_rules | `(tactic| walk_at "go") => `(tactic| repeat walk_at "one")

namespace G
open PySem PySem.Spec PyProof.Rows L2
/-! ### any(xs) of a list of ints -/
theorem truth_ints {prog : Program} {w : World} {A : Around} {ns : List Int} {its : List Value} (rv : Vals (ns.map V.int) its) :
    TruthOf prog w A (fun i v => its.toArray[i]? = some v) (fun i => (ns.map fun z => z != 0).getD i false) := fun i v s Q E hv hq => by
  have hv' : its[i]? = some v := by simpa using hv
  obtain ⟨x, hx, r⟩ := Paired.at rv hv'
  rw [List.getElem?_map] at hx
  obtain ⟨n, hn, rfl⟩ := Option.map_eq_some_iff.mp hx
  obtain ⟨t, rfl⟩ := r
  have hg : (ns.map fun z => z != 0).getD i false = (n != 0) := by rw [List.getD_eq_getElem?_getD, List.getElem?_map, hn] <;> rfl
  have hq' : Q ((ns.map fun z => z != 0).getD i false) s := hq
  rw [hg] at hq'
  exact PySem.P.truthy_int hq'
def rAnyI (K : PySem.W.Frag) : List V → Hp → VK → Prop := fun vs H Q => ∃ (a : Addr) (ns : List Int), vs = [V.ref a] ∧ SqL K H a (ns.map V.int) ∧ Q (.bl (ns.any fun z => decide (z ≠ 0))) H
theorem cr_anyI {X : Cx} (hc : X.calm = true) : CallR X (.builtin "any") (rAnyI X.K) := by
  intro pins s σ H vs us Q I r h
  obtain ⟨a, ns, rfl, hs, q⟩ := h
  obtain ⟨its, rv, hl, _⟩ := I.list hs
  rw [Vals.ref1 r]
  have hlen := rv.length
  refine call_any_walk (iter_any hl.isList fun s₂ e2 st hne => ?_)
  subst e2
  refine ⟨_, _, _, _, _, _, _, rfl, Walks.list (A := X.A.in1) (I.ok.hd hc) _ a hne its.toArray, st, truth_ints rv, fun h' tk hk => ?_⟩
  refine ⟨.bl _, H, I.kept fun b o eo => hk b o (fun hmem => ?_) (Heap.get?_push_of_some _ eo), ?_, q⟩
  · rcases List.mem_cons.mp hmem with e1 | hmem
    · exact absurd (e1 ▸ Heap.lt_size eo) (Nat.lt_irrefl _)
    · cases hmem
  · show Value.bool _ = Value.bool _
    rw [show its.toArray.size = (ns.map fun z => z != 0).length by rw [List.size_toArray, ← hlen, List.length_map, List.length_map], L2.any_range, List.any_map]
    congr 1
    apply congrArg (ns.any)
    funext z
    by_cases hz : z = 0 <;> simp [hz]
theorem w_anyI {K : PySem.W.Frag} {H : Hp} {Q : VK} {p : Addr} {ns : List Int} (h : SqL K H p (ns.map V.int)) (q : Q (.bl (ns.any fun z => decide (z ≠ 0))) H) : rAnyI K [.ref p] H Q := ⟨p, ns, rfl, h, q⟩
/-! ### comprehensions over enumerate(list) -/
section
variable {K : PySem.W.Frag} {σ : L2.St} {H : Hp} {Q : VK} {tt : TT} {te : TE} {tl : TA}
theorem w_lcE {g : TG} {vs : List Nat} (h : tl σ H fun us H1 => ∃ a xs, us = [.ref a] ∧ SqL K H1 a xs ∧ LcW (Ite K a) g tt te vs σ H1 Q) : tLc (iEnum K tl) g tt te vs σ H Q := h
theorem lcE {a : Addr} {xs : List V} {g : TG} {vs : List Nat} (Pv : Addr → Nat → Hp → Prop) (h0 : ∀ Dl, H Dl = none → Pv Dl 0 (upd H Dl (.lst []))) (hl : ∀ Dl i H1, H Dl = none → i ≤ xs.length → Pv Dl i H1 → SqL K H1 a xs)
    (hs : ∀ Dl i x T H1, H Dl = none → xs[i]? = some x → Pv Dl i H1 → H1 T = none → g (.ref T) (wipe σ vs) (upd H1 T (.tup [.int (i : Nat), x])) fun σ2 H2 => wipe σ2 vs = wipe σ vs ∧ LcT tt te Dl (Pv Dl (i + 1)) σ2 H2)
    (hd : ∀ Dl H1, H Dl = none → Pv Dl xs.length H1 → Q (.ref Dl) H1) : LcW (Ite K a) g tt te vs σ H Q :=
  fun Dl hD => lc_it (walk_enum (K := K) (a := a) (xs := xs)) (Pv Dl) (h0 Dl hD) (fun i H1 hi p => hl Dl i H1 hD hi p) (fun i x H1 H' hi p y => by
    obtain ⟨T, u, v, rfl, hT, rfl, e1, e2⟩ := y
    have e1 := Option.some.inj e1
    subst e1
    exact hs Dl i v T H1 hD e2 p hT) (fun H1 p => hd Dl H1 hD p)
theorem w_enumSq {a : Addr} {xs : List V} {P : Addr → Prop} (h : SqL K H a xs) (q : P a) : ∃ b ys, [V.ref a] = [.ref b] ∧ SqL K H b ys ∧ P b := ⟨a, xs, rfl, h, q⟩
end
/-! ### ints in lists: deep equality -/
theorem dp_is {K : PySem.W.Frag} {H : Hp} : ∀ xs : List Int, DpAll K H (xs.map V.int) (xs.map PyData.int)
  | [] => .nil
  | x :: xs => .cons (.int x) (dp_is xs)
theorem dp_ints {K : PySem.W.Frag} {H : Hp} {p : Addr} {xs : List Int} (h : SqL K H p (xs.map V.int)) : Dp K H (.ref p) (.list (xs.map PyData.int)) := .lst h (dp_is xs)
theorem di_lay : ∀ xs : List Int, PyData.canLayAll0 (xs.map PyData.int) = true
  | [] => rfl
  | x :: xs => by
    rw [List.map_cons]
    show (PyData.canLay0 (.int x) && PyData.canLayAll0 (xs.map PyData.int)) = true
    rw [di_lay xs]; rfl
theorem di_depth : ∀ xs : List Int, PyData.depthAll (xs.map PyData.int) = 0
  | [] => rfl
  | x :: xs => by
    rw [List.map_cons]
    show max (PyData.depth (.int x)) (PyData.depthAll (xs.map PyData.int)) = 0
    rw [di_depth xs]; rfl
theorem di_shaped (xs : List Int) : SeqAt.shaped (.list (xs.map PyData.int)) = true := by
  have h1 : PyData.canLay0 (.list (xs.map PyData.int)) = true := di_lay xs
  have h2 : PyData.depth (.list (xs.map PyData.int)) ≤ 64 := by
    show PyData.depthAll (xs.map PyData.int) + 1 ≤ 64
    rw [di_depth]; decide
  show (PyData.canLay0 (.list (xs.map PyData.int)) && decide (PyData.depth (.list (xs.map PyData.int)) ≤ 64)) = true
  rw [h1, decide_eq_true h2]; rfl
theorem di_eqv : ∀ xs ys : List Int, PyData.eqvAll (xs.map PyData.int) (ys.map PyData.int) = decide (xs = ys)
  | [], [] => rfl
  | [], y :: ys => by simp [PyData.eqvAll]
  | x :: xs, [] => by simp [PyData.eqvAll]
  | x :: xs, y :: ys => by
    rw [List.map_cons, List.map_cons]
    simp only [PyData.eqvAll, PyData.eqv, di_eqv xs ys]
    by_cases h : x = y
    · by_cases h2 : xs = ys <;> simp [h, h2]
    · simp [h]
theorem w_neI2 {K : PySem.W.Frag} {H : Hp} {Q : VK} {p q : Addr} {xs ys : List Int} (hp : SqL K H p (xs.map V.int)) (hq : SqL K H q (ys.map V.int)) (k : Q (.bl (!decide (xs = ys))) H) : rNeD K (.ref p) (.ref q) H Q := by
  refine ⟨_, _, dp_ints hp, dp_ints hq, di_shaped xs, di_shaped ys, ?_⟩
  show Q (.bl (!PyData.eqvAll (xs.map PyData.int) (ys.map PyData.int))) H
  rw [di_eqv]; exact k
theorem w_eqI2 {K : PySem.W.Frag} {H : Hp} {Q : VK} {p q : Addr} {xs ys : List Int} (hp : SqL K H p (xs.map V.int)) (hq : SqL K H q (ys.map V.int)) (k : Q (.bl (decide (xs = ys))) H) : rEqD K (.ref p) (.ref q) H Q := by
  refine ⟨_, _, dp_ints hp, dp_ints hq, di_shaped xs, di_shaped ys, ?_⟩
  show Q (.bl (PyData.eqvAll (xs.map PyData.int) (ys.map PyData.int))) H
  rw [di_eqv]; exact k
end G
local macro_rules | `(tactic| walk_at "call") => `(tactic| first
  | (refine' G.w_anyI ?g1 ?_; (case g1 => walk_at "sq")) | refine' G.w_lcE ?_ | (refine' G.w_enumSq ?g1 ?_; (case g1 => walk_at "sq"))
  | (refine' G.w_neI2 ?g1 ?g2 ?_; (case g1 => walk_at "sq"); (case g2 => walk_at "sq")) | (refine' G.w_eqI2 ?g1 ?g2 ?_; (case g1 => walk_at "sq"); (case g2 => walk_at "sq")))

namespace G
open PySem L2
/-! ### more words -/
section
variable {K : PySem.W.Frag} {σ : L2.St} {H : Hp} {Q : VK} {D : Ends} {v x y : V} {ta te : TE} {p : Addr}
theorem w_tru {Qb : Bool → Hp → Prop} (h : ta σ H fun x H' => ∃ k, TruV K x H' k ∧ Qb k H') : tTruK K ta σ H Qb := h
theorem w_truL {xs : List V} {Qb : Bool → Prop} (h : SqL K H p xs) (q : Qb (!xs.isEmpty)) : ∃ k, TruV K (.ref p) H k ∧ Qb k := ⟨_, .inl ⟨xs, h, rfl⟩, q⟩
theorem w_revL (h : te σ H fun x H1 => ∃ a xs, x = .ref a ∧ SqL K H1 a xs ∧ ∀ p, H1 p = none → Q (.ref p) (upd H1 p (.lst xs.reverse))) : tRevL K te σ H Q := h
theorem w_revL2 {xs : List V} {P : Addr → List V → Prop} (h : SqL K H p xs) (q : P p xs) : ∃ a ys, V.ref p = .ref a ∧ SqL K H a ys ∧ P a ys := ⟨p, xs, rfl, h, q⟩
theorem w_rep {xs : List V} {k : Int} (h : H p = some (.lst xs)) (h0 : -4611686018427387904 ≤ k) (h1 : k < 4611686018427387904) (hl : xs.length * k.toNat ≤ sizeLine)
    (q : ∀ l, H l = none → Q (.ref l) (upd H l (.lst (List.replicate k.toNat xs).flatten))) : rRep (.ref p) (.int k) H Q := ⟨p, k, xs, rfl, rfl, h, by omega, by omega, hl, q⟩
theorem w_isNr (h : ta σ H fun x H1 => Q (.bl (decide (x = .non))) H1) : tIsN ta σ H Q := h
theorem w_notN (h : ta σ H fun x H1 => Q (.bl (!decide (x = .non))) H1) : tNotN ta σ H Q := h
theorem w_any {bs : List Bool} (h : SqL K H p (bs.map V.bl)) (q : Q (.bl (bs.any id)) H) : rAny K [.ref p] H Q := ⟨p, bs, rfl, h, q⟩
theorem w_all {bs : List Bool} (h : SqL K H p (bs.map V.bl)) (q : Q (.bl (bs.all id)) H) : rAll K [.ref p] H Q := ⟨p, bs, rfl, h, q⟩
theorem w_isT {t u : String} {b : Bool} (ty : TyX K H x (.type t)) (e : PySem.W.kitOne K (.type t) (.type u) = some b) (q : Q (.bl b) H) : rIsi K [x, .ty u] H Q :=
  ⟨x, .ty u, .type t, .type u, b, rfl, ClsV.ty u, ty, e, q⟩
theorem w_isII {a : Int} (q : Q (.bl true) H) : rIsi K [.int a, .ty "int"] H Q := w_isT (t := "int") (b := true) (TyX.base (TyOf.int a)) (kit_ty (by decide +kernel)) q
theorem w_isIB {a : Int} (q : Q (.bl false) H) : rIsi K [.int a, .ty "bool"] H Q := w_isT (t := "int") (b := false) (TyX.base (TyOf.int a)) (kit_ty (by decide +kernel)) q
theorem w_isBB {a : Bool} (q : Q (.bl true) H) : rIsi K [.bl a, .ty "bool"] H Q := w_isT (t := "bool") (b := true) (TyX.base (TyOf.bl a)) (kit_ty (by decide +kernel)) q
theorem w_isLL {xs : List V} (h : H p = some (.lst xs)) (q : Q (.bl true) H) : rIsi K [.ref p, .ty "list"] H Q := w_isT (t := "list") (b := true) (TyX.base (TyOf.lst h)) (kit_ty (by decide +kernel)) q
end
theorem w_iteNT {A B : Prop} (h : B) : if (!true) = true then A else B := h
theorem w_iteNF {A B : Prop} (h : A) : if (!false) = true then A else B := h
theorem w_iteRf {α : Type} {a : α} {i : Decidable (a = a)} {A B : Prop} (h : A) : if (@decide (a = a) i) = true then A else B := by rw [decide_eq_true rfl]; exact h
theorem w_iteNRf {α : Type} {a : α} {i : Decidable (a = a)} {A B : Prop} (h : B) : if (!(@decide (a = a) i)) = true then A else B := by rw [decide_eq_true rfl]; exact h
theorem at_of {xs : List V} {k : Int} {j : Nat} {v : V} (e : k = (j : Int)) (h : xs[j]? = some v) : atI xs k = some v := atn e h
end G
local macro_rules | `(tactic| walk_at "call") => `(tactic| first
  | refine' G.w_iteNT ?_ | refine' G.w_iteNF ?_ | refine' G.w_iteRf ?_ | refine' G.w_iteNRf ?_ | refine' G.w_tru ?_ | (refine' G.w_truL ?g1 ?_; (case g1 => walk_at "sq")) | refine' G.w_revL ?_ | (refine' G.w_revL2 ?g1 ?_; (case g1 => walk_at "sq"))
  | (refine' G.w_rep ?g1 ?g2 ?g3 ?g4 ?_; (case g1 => walk_at "hp"); (case g2 => walk_at "ar"); (case g3 => walk_at "ar"); (case g4 => walk_at "sz"))
  | refine' G.w_isNr ?_ | refine' G.w_notN ?_ | refine' G.w_isII ?_ | refine' G.w_isIB ?_ | refine' G.w_isBB ?_ | (refine' G.w_isLL ?g1 ?_; (case g1 => walk_at "hp")))

namespace G
open PySem L2
variable {K : PySem.W.Frag} {A : CA} {vs : List V} {H : Hp} {Q : VK} {E : XK}
/-- chains: numbers from 0 to 60 -/
def Chn (c : List Int) : Prop := ∀ n ∈ c, 0 ≤ n ∧ n ≤ 60
theorem Chn.app {a b : List Int} (h : Chn a) (k : Chn b) : Chn (a ++ b) := fun n hn => by
  rcases List.mem_append.mp hn with q | q
  · exact h n q
  · exact k n q
theorem Chn.set {a : List Int} {i : Nat} {v : Int} (h : Chn a) (h0 : 0 ≤ v) (h1 : v ≤ 60) : Chn (a.set i v) := fun n hn => by
  rcases List.mem_or_eq_of_mem_set hn with q | q
  · exact h n q
  · rw [q]; exact ⟨h0, h1⟩
theorem Chn.sub {a b : List Int} (h : Chn a) (k : ∀ x ∈ b, x ∈ a) : Chn b := fun n hn => h n (k n hn)
theorem Chn.rep {a : List Int} {k : Nat} (h : Chn a) : Chn (List.replicate k a).flatten := h.sub fun x hx => by
  obtain ⟨l, hl, hm⟩ := List.mem_flatten.mp hx
  rw [(List.mem_replicate.mp hl).2] at hm; exact hm
theorem map_rep {a : List Int} {k : Nat} : (List.replicate k (a.map V.int)).flatten = ((List.replicate k a).flatten).map V.int := by
  rw [List.map_flatten, List.map_replicate]
theorem len_rep {α : Type} {a : List α} {k : Nat} : (List.replicate k a).flatten.length = k * a.length := by
  simp [List.length_flatten, List.map_replicate, List.sum_replicate_nat]
theorem snocI (xs : List Int) (z : Int) : xs.map V.int ++ [V.int z] = (xs ++ [z]).map V.int := by rw [List.map_append]; rfl
end G

namespace G
open PySem L2
theorem sIx_nat (n k : Nat) (d : Nat) : HT.sIx n d (some (k : Int)) = min k n := by
  unfold HT.sIx
  simp
  omega
theorem cut_map (c : List Int) (i j : Nat) : cutV (c.map V.int) (some (i : Int)) (some (j : Int)) = ((c.drop i).take (j - i)).map V.int := by
  unfold cutV
  rw [sIx_nat, sIx_nat, List.length_map, ← List.map_drop, ← List.map_take]
  congr 1
  by_cases h : i ≤ c.length
  · rw [show min i c.length = i by omega]
    by_cases h2 : j ≤ c.length
    · rw [show min j c.length = j by omega]
    · rw [show min j c.length = c.length by omega, List.take_of_length_le (by simp), List.take_of_length_le (by simp; omega)]
  · rw [show min i c.length = c.length by omega, List.drop_eq_nil_of_le (Nat.le_refl _), List.drop_eq_nil_of_le (by omega)]
    simp
theorem cut_mapFrom (c : List Int) (i : Nat) : cutV (c.map V.int) (some (i : Int)) none = (c.drop i).map V.int := by
  unfold cutV
  rw [sIx_nat, List.length_map, ← List.map_drop, ← List.map_take]
  congr 1
  show List.take (c.length - _) _ = _
  by_cases h : i ≤ c.length
  · rw [show min i c.length = i by omega, List.take_of_length_le (by simp)]
  · rw [List.drop_eq_nil_of_le (show c.length ≤ i by omega), List.drop_eq_nil_of_le (by omega)]; simp
theorem cut_mapTo (c : List Int) (j : Nat) : cutV (c.map V.int) none (some (j : Int)) = (c.take j).map V.int := by
  unfold cutV
  rw [sIx_nat, List.length_map, ← List.map_drop, ← List.map_take]
  congr 1
  show List.take (_ - 0) (List.drop 0 c) = _
  rw [List.drop_zero, Nat.sub_zero]
  by_cases h : j ≤ c.length
  · rw [show min j c.length = j by omega]
  · rw [List.take_of_length_le (by omega), List.take_of_length_le (by omega)]
variable {K : PySem.W.Frag} {A : CA} {vs : List V} {H : Hp} {Q : VK} {E : XK}
theorem w_oIntB {b : Bool} (q : Q (.int (if b then 1 else 0)) H) : oInt [.bl b] H Q := .inr ⟨b, rfl, q⟩
theorem getI {c : List Int} {i : Nat} {x : V} (h : (c.map V.int)[i]? = some x) : ∃ hi : i < c.length, x = V.int c[i] := by
  rw [List.getElem?_map] at h
  have hi : i < c.length := by
    by_cases hc : i < c.length
    · exact hc
    · rw [List.getElem?_eq_none (by omega)] at h; cases h
  rw [List.getElem?_eq_getElem hi] at h
  exact ⟨hi, (Option.some.inj h).symm⟩
end G
local macro_rules | `(tactic| walk_at "call") => `(tactic| refine' G.w_oIntB ?_)

namespace G
open PySem L2
/-- the cut of a list of weights -/
def cutN (ws : List Int) : Nat := if (ws.take (ws.length / 2)).sum = 1 then ws.length / 2 + 1 else ws.length / 2
def sp_cut_of (K : PySem.W.Frag) (A : CA) : Sp := fun vs H Q _ => ∃ (a : Addr) (ws : List Int), vs = [.ref a] ∧ H a = some (.lst (ws.map V.int)) ∧ ws.length ≤ 1000 ∧ ∀ (H' : Hp), Same H H' → Q (.int (cutN ws : Int)) H'
def sp_law_due (K : PySem.W.Frag) (A : CA) : Sp := fun vs H Q _ => ∃ (a : Addr) (ws : List Int), vs = [.ref a] ∧ H a = some (.lst (ws.map V.int)) ∧ ws.length ≤ 1000 ∧ ∀ (H' : Hp), Same H H' → Q (.int (cutN ws : Int)) H'
def sp_law_fold (K : PySem.W.Frag) (A : CA) : Sp := fun vs H Q _ => ∃ (a : Addr) (ns : List Int), vs = [.ref a] ∧ SqL K H a (ns.map V.int) ∧ ns.length ≤ 63 ∧ ∀ (r : Int), Q (.int r) H
def sp_law_purse (K : PySem.W.Frag) (A : CA) : Sp := fun vs H Q _ => ∃ (a : Addr) (k seed : Int) (ns : List Int), vs = [.ref a, .int k, .int seed] ∧ SqL K H a (ns.map V.int) ∧ 0 ≤ k ∧ k ≤ 1000 ∧ ns.length ≤ 63 ∧
  ∀ (s : Addr) (H' : Hp), H s = none → Same H H' → Src H' s → Q (.ref s) H'
def sp_law_take (K : PySem.W.Frag) (A : CA) : Sp := fun vs H Q _ => ∃ (s : Addr) (n : Int), vs = [.ref s, .int n] ∧ Src H s ∧ 0 < n ∧ n < 1073741824 ∧
  ∀ (r : Int) (H' : Hp), 0 ≤ r → r < n → But s H H' → Src H' s → Q (.int r) H'
variable {K : PySem.W.Frag} {A : CA} {vs : List V} {H : Hp} {Q : VK} {E : XK}
theorem i_cut {a : Addr} {ws : List Int} (h : H a = some (.lst (ws.map V.int))) (hl : ws.length ≤ 1000) (q : ∀ (H' : Hp), Same H H' → Q (.int (cutN ws : Int)) H') : sp_cut_of K A [.ref a] H Q E := ⟨a, ws, rfl, h, hl, q⟩
theorem i_due {a : Addr} {ws : List Int} (h : H a = some (.lst (ws.map V.int))) (hl : ws.length ≤ 1000) (q : ∀ (H' : Hp), Same H H' → Q (.int (cutN ws : Int)) H') : sp_law_due K A [.ref a] H Q E := ⟨a, ws, rfl, h, hl, q⟩
theorem i_fold {a : Addr} {ns : List Int} (h : SqL K H a (ns.map V.int)) (hl : ns.length ≤ 63) (q : ∀ (r : Int), Q (.int r) H) : sp_law_fold K A [.ref a] H Q E := ⟨a, ns, rfl, h, hl, q⟩
theorem i_purse {a : Addr} {k seed : Int} {ns : List Int} (h : SqL K H a (ns.map V.int)) (h0 : 0 ≤ k) (h1 : k ≤ 1000) (hl : ns.length ≤ 63)
    (q : ∀ (s : Addr) (H' : Hp), H s = none → Same H H' → Src H' s → Q (.ref s) H') : sp_law_purse K A [.ref a, .int k, .int seed] H Q E := ⟨a, k, seed, ns, rfl, h, h0, h1, hl, q⟩
theorem i_take {s : Addr} {n : Int} (hs : Src H s) (h0 : 0 < n) (h1 : n < 1073741824)
    (k : ∀ (r : Int) (H' : Hp), 0 ≤ r → r < n → But s H H' → Src H' s → Q (.int r) H') : sp_law_take K A [.ref s, .int n] H Q E := ⟨s, n, rfl, hs, h0, h1, k⟩
end G
local macro_rules | `(tactic| walk_at "call") => `(tactic| first
  | (refine' G.i_take ?g1 ?g2 ?g3 ?_; (case g1 => walk_at "src"); (case g2 => walk_at "ar"); (case g3 => walk_at "ar"))
  | (refine' G.i_purse ?g1 ?g2 ?g3 ?g4 ?_; (case g1 => walk_at "sq"); (case g2 => walk_at "ar"); (case g3 => walk_at "ar"); (case g4 => walk_at "ar"))
  | (refine' G.i_fold ?g1 ?g2 ?_; (case g1 => walk_at "sq"); (case g2 => walk_at "ar"))
  | (refine' G.i_cut ?g1 ?g2 ?_; (case g1 => walk_at "hp"); (case g2 => walk_at "ar"))
  | (refine' G.i_due ?g1 ?g2 ?_; (case g1 => walk_at "hp"); (case g2 => walk_at "ar")))
namespace G
open PySem L2
def t_cut_of (K : PySem.W.Frag) (A : CA) : TS :=
  (tSeq (tAsg (tOp oDiv (tCB (rLenQ K) (tCons (tVar 0) tNil)) (tC (.int 2))) (gName 1))
  (tRet (tIf (tTest (tOp rEq (tCB (rSum K) (tCons (tSl (rSlL K) (tVar 0) tNoPart (tPart (tVar 1))) tNil)) (tC (.int 1)))) (tOp oAdd (tVar 1) (tC (.int 1))) (tVar 1))))
def t_law_due (K : PySem.W.Frag) (A : CA) : TS :=
  (tSeq (tAsg (tOp oDiv (tCB (rLenQ K) (tCons (tVar 0) tNil)) (tC (.int 2))) (gName 1))
  (tSeq (tIfS (tTest (tOp rEq (tCB (rSum K) (tCons (tSl (rSlL K) (tVar 0) tNoPart (tPart (tVar 1))) tNil)) (tC (.int 1)))) (tRet (tOp oAdd (tVar 1) (tC (.int 1)))) tNext)
  (tRet (tVar 1))))
def t_law_fold (K : PySem.W.Frag) (A : CA) : TS :=
  (tSeq (tAsg (tC (.int 7)) (gName 1))
  (tSeq (tFor (iRng1 (tCons (tCB oMin2 (tCons (tC (.int 63)) (tCons (tCB (rLenQ K) (tCons (tVar 0) tNil)) tNil))) tNil)) (gName 2)
  (tAsg (tOp oMod (tCB oInt (tCons (tOp oAdd (tOp oAdd (tOp oMul (tVar 1) (tC (.int 48271))) (tOp oMul (tOp (rIxL K) (tVar 0) (tVar 2)) (tC (.int 31)))) (tVar 2)) tNil)) (tC (.int 2147483647))) (gName 1)))
  (tRet (tVar 1))))
def t_law_purse (K : PySem.W.Frag) (A : CA) : TS :=
  (tSeq (tAsg (tC (.int 0)) (gName 3))
  (tSeq (tIfS (tTest (tOp oLt (tVar 1) (tCB oMin2 (tCons (tC (.int 63)) (tCons (tCB (rLenQ K) (tCons (tVar 0) tNil)) tNil))))) (tAsg (tCB oAbs (tCons (tOp (rIxL K) (tVar 0) (tVar 1)) tNil)) (gName 3)) tNext)
  (tSeq (tAsg (tOp oMod (tCB oInt (tCons (tOp oAdd (tOp oAdd (tOp oAdd (tOp oMul (tVar 2) (tC (.int 69621))) (tOp oMul (tVar 3) (tC (.int 16807)))) (tOp oMul (tVar 1) (tC (.int 1009)))) (tC (.int 12345))) tNil)) (tC (.int 2147483647))) (gName 4))
  (tSeq (tIfS (tTest (tOp oLt (tVar 3) (tOp oPow (tC (.int 10)) (tC (.int 18))))) (tAsg (tC (.int 0)) (gName 3)) tNext)
  (tRet (tLst (tCons (tVar 3) (tCons (tVar 4) (tCons (tC (.int 0)) tNil)))))))))
def t_law_take (K : PySem.W.Frag) (A : CA) : TS :=
  (tSeq (tIfS (tTest (tOp oGt (tOp (rIxL K) (tVar 0) (tC (.int 0))) (tC (.int 0)))) (tSeq (tAsg (tOp oMod (tCB oInt (tCons (tOp (rIxL K) (tVar 0) (tC (.int 0))) tNil)) (tVar 1)) (gName 2))
  (tSeq (tAsg (tOp oDiv (tOp (rIxL K) (tVar 0) (tC (.int 0))) (tVar 1)) (gSub (tVar 0) (tC (.int 0)) rSetL))
  (tRet (tVar 2)))) tNext)
  (tSeq (tAsg (tOp oAdd (tOp (rIxL K) (tVar 0) (tC (.int 2))) (tC (.int 1))) (gSub (tVar 0) (tC (.int 2)) rSetL))
  (tSeq (tAsg (tOp oMod (tCB oInt (tCons (tOp oAdd (tOp oAdd (tOp oMul (tOp (rIxL K) (tVar 0) (tC (.int 1))) (tC (.int 48271))) (tOp oMul (tOp (rIxL K) (tVar 0) (tC (.int 2))) (tC (.int 69621)))) (tC (.int 11))) tNil)) (tC (.int 2147483647))) (gSub (tVar 0) (tC (.int 1)) rSetL))
  (tSeq (tAsg (tOp oMod (tCB oInt (tCons (tOp oAdd (tOp oMul (tOp (rIxL K) (tVar 0) (tC (.int 1))) (tC (.int 16807))) (tOp oDiv (tOp (rIxL K) (tVar 0) (tC (.int 1))) (tC (.int 32768)))) tNil)) (tC (.int 2147483629))) (gName 3))
  (tRet (tOp oMod (tCB oInt (tCons (tOp oDiv (tVar 3) (tC (.int 11))) tNil)) (tVar 1)))))))

variable {K : PySem.W.Frag} {A : CA} {vs : List V} {H : Hp} {Q : VK} {E : XK}
theorem half_nat (n : Nat) : (n : Int) / 2 = ((n / 2 : Nat) : Int) := by omega
theorem rd_cut_of (h : sp_cut_of K A vs H Q E) : t_cut_of K A { nx := fun _ H' => Q .non H', rt := Q } (start ["weights", "half"] vs) H := by
  obtain ⟨a, ws, rfl, ha, hl, q⟩ := h
  unfold t_cut_of
  walk_at "go"
  intro l hl1
  rw [List.length_map, half_nat, cut_mapTo]
  walk_at "go"
  refine w_iteD (fun hc => ?_) (fun hc => ?_) <;> (have e := q _ (same_new (o := .lst ((ws.take (ws.length / 2)).map V.int)) hl1); unfold cutN at e)
  · rw [if_pos hc] at e; walk_at "go"; exact e
  · rw [if_neg hc] at e; walk_at "go"; exact e
theorem rd_law_due (h : sp_law_due K A vs H Q E) : t_law_due K A { nx := fun _ H' => Q .non H', rt := Q } (start ["weights", "half"] vs) H := by
  obtain ⟨a, ws, rfl, ha, hl, q⟩ := h
  unfold t_law_due
  walk_at "go"
  intro l hl1
  rw [List.length_map, half_nat, cut_mapTo]
  walk_at "go"
  refine w_iteD (fun hc => ?_) (fun hc => ?_) <;> (have e := q _ (same_new (o := .lst ((ws.take (ws.length / 2)).map V.int)) hl1); unfold cutN at e)
  · rw [if_pos hc] at e; walk_at "go"; exact e
  · rw [if_neg hc] at e; walk_at "go"; exact e
theorem rd_law_fold (h : sp_law_fold K A vs H Q E) : t_law_fold K A { nx := fun _ H' => Q .non H', rt := Q } (start ["script", "total", "k"] vs) H := by
  obtain ⟨a, ns, rfl, ha, hl, q⟩ := h
  unfold t_law_fold
  walk_at "go"
  refine forR (fun i σ H' => ∃ (r : Int) (k1 : Option V), σ = [some (.ref a), some (.int r), k1] ∧ H' = H) ?_ ?_ ?_
  · exact ⟨_, _, rfl, rfl⟩
  · rintro i σ H1 hi ⟨r, k1, rfl, rfl⟩
    rw [List.length_map] at hi
    have hk : i < ns.length := by split at hi <;> omega
    have hx : atI (ns.map V.int) (0 + (i : Int)) = some (V.int ns[i]) := at_of (j := i) (by omega) (by simp [hk])
    walk_at "go"
    exact ⟨_, _, rfl, rfl⟩
  · rintro σ H1 ⟨r, k1, rfl, rfl⟩
    walk_at "go"
    exact q _
theorem rd_law_purse (h : sp_law_purse K A vs H Q E) : t_law_purse K A { nx := fun _ H' => Q .non H', rt := Q } (start ["script", "k", "seed", "cell", "state"] vs) H := by
  obtain ⟨a, k, seed, ns, rfl, hs, h0, h1, h63, q⟩ := h
  unfold t_law_purse
  walk_at "go"
  refine w_iteD (fun hc => ?_) (fun hc => ?_)
  · have hk : k.toNat < ns.length := by
      rw [List.length_map] at hc; split at hc <;> omega
    have hx : atI (ns.map V.int) k = some (V.int ns[k.toNat]) := at_of (j := k.toNat) (by omega) (by simp [hk])
    walk_at "go"
    refine w_iteD (fun _ => ?_) (fun _ => ?_) <;> (walk_at "go"; intro l hl; exact q _ _ hl (same_new hl) ⟨_, _, _, upd_same⟩)
  · walk_at "go"
    refine w_iteD (fun _ => ?_) (fun _ => ?_) <;> (walk_at "go"; intro l hl; exact q _ _ hl (same_new hl) ⟨_, _, _, upd_same⟩)
theorem rd_law_take (h : sp_law_take K A vs H Q E) : t_law_take K A { nx := fun _ H' => Q .non H', rt := Q } (start ["purse", "many", "digit", "mixed"] vs) H := by
  obtain ⟨s, n, rfl, ⟨x, y, z, hs⟩, h0, h1, k⟩ := h
  unfold t_law_take
  walk_at "go"
  refine w_iteD (fun hc => ?_) (fun hc => ?_)
  · walk_at "go"
    exact k _ _ (Int.emod_nonneg _ (by omega)) (Int.emod_lt_of_pos _ h0) But.refl.self ⟨_, _, _, upd_same⟩
  · walk_at "go"
    exact k _ _ (Int.emod_nonneg _ (by omega)) (Int.emod_lt_of_pos _ h0) But.refl.self.self ⟨_, _, _, upd_same⟩
end G

namespace G
open PySem L2
/-- weights: 1 or 2 each -/
def Wei (ws : List Int) : Prop := ∀ n ∈ ws, n = 1 ∨ n = 2
theorem Wei.app {a b : List Int} (h : Wei a) (k : Wei b) : Wei (a ++ b) := fun n hn => by
  rcases List.mem_append.mp hn with q | q
  · exact h n q
  · exact k n q
theorem Wei.sub {a b : List Int} (h : Wei a) (k : ∀ x ∈ b, x ∈ a) : Wei b := fun n hn => h n (k n hn)
theorem Wei.one {n : Int} (h : n = 1 ∨ n = 2) : Wei [n] := fun m hm => by rw [List.mem_singleton.mp hm]; exact h
theorem Wei.le : ∀ {ws : List Int}, Wei ws → (ws.length : Int) ≤ ws.sum ∧ ws.sum ≤ 2 * ws.length
  | [], _ => by simp
  | n :: r, h => by
    have hr := Wei.le (ws := r) (h.sub fun x hx => List.mem_cons_of_mem _ hx)
    have hn := h n (List.mem_cons_self ..)
    rw [List.sum_cons, List.length_cons]
    omega
theorem sum_split (ws : List Int) (j : Nat) : ws.sum = (ws.take j).sum + (ws.drop j).sum := by
  conv => lhs; rw [← List.take_append_drop j ws]
  rw [List.sum_append]
theorem Wei.cut {ws : List Int} (h : Wei ws) (h2 : 2 ≤ ws.length) (h5 : 5 ≤ ws.sum) : 2 ≤ (ws.take (cutN ws)).sum ∧ 2 ≤ (ws.drop (cutN ws)).sum := by
  have ht : ∀ j, j ≤ ws.length → (j : Int) ≤ (ws.take j).sum ∧ (ws.take j).sum ≤ 2 * j := fun j hj => by
    have := Wei.le (h.sub (b := ws.take j) fun x hx => List.mem_of_mem_take hx)
    rw [List.length_take, Nat.min_eq_left hj] at this; exact this
  have hd : ∀ j, j ≤ ws.length → ((ws.length - j : Nat) : Int) ≤ (ws.drop j).sum ∧ (ws.drop j).sum ≤ 2 * (ws.length - j : Nat) := fun j hj => by
    have := Wei.le (h.sub (b := ws.drop j) fun x hx => List.mem_of_mem_drop hx)
    rw [List.length_drop] at this; exact this
  unfold cutN
  have a := ht (ws.length / 2) (by omega)
  have b := hd (ws.length / 2) (by omega)
  have s := sum_split ws (ws.length / 2)
  split
  · next hc =>
    have a1 := ht (ws.length / 2 + 1) (by omega)
    have b1 := hd (ws.length / 2 + 1) (by omega)
    have s1 := sum_split ws (ws.length / 2 + 1)
    constructor
    · omega
    · have hh : ws.length / 2 = 1 := by omega
      have w0 : ∀ x y z : Int, ws = [x, y, z] → x + 0 = 1 → 2 ≤ z := fun x y z e hx => by
        subst e
        have hy := h y (by simp); have hz := h z (by simp)
        simp at h5
        omega
      match ws, h2, hh, hc, h5, s1, a1, b1, w0, h with
      | [x, y], _, _, hc, h5, _, _, _, _, h =>
        have hy := h y (by simp)
        simp at hc h5; omega
      | [x, y, z], _, _, hc, h5, _, _, _, w0, h =>
        have := w0 x y z rfl (by simpa using hc)
        simpa using this
      | _ :: _ :: _ :: _ :: r, _, hh, _, _, _, _, _, _, _ => simp at hh; omega
  · next hc =>
    constructor
    · omega
    · by_cases hl : ws.length - ws.length / 2 ≥ 2
      · omega
      · have e : ws.length = 2 := by omega
        have := Wei.le h
        omega
def sp_law_list (K : PySem.W.Frag) (A : CA) : Sp := fun vs H Q _ => ∃ (s : Addr), vs = [.ref s] ∧ Src H s ∧
  ∀ (ws : List Int) (p : Addr) (H' : Hp), 2 ≤ ws.length → ws.length ≤ 300 → Wei ws → H p = none → But s H H' → H' p = some (.lst (ws.map V.int)) → Q (.ref p) H'
def sp_law_cuts (K : PySem.W.Frag) (A : CA) : Sp := fun vs H Q _ => ∃ (a : Addr) (ws : List Int), vs = [.ref a] ∧ H a = some (.lst (ws.map V.int)) ∧ 2 ≤ ws.length ∧ ws.length ≤ 1000 ∧ Wei ws ∧ ∀ (H' : Hp), Same H H' → Q (.bl true) H'
variable {K : PySem.W.Frag} {A : CA} {vs : List V} {H : Hp} {Q : VK} {E : XK}
theorem i_list {s : Addr} (hs : Src H s) (q : ∀ (ws : List Int) (p : Addr) (H' : Hp), 2 ≤ ws.length → ws.length ≤ 300 → Wei ws → H p = none → But s H H' → H' p = some (.lst (ws.map V.int)) → Q (.ref p) H') : sp_law_list K A [.ref s] H Q E := ⟨s, rfl, hs, q⟩
theorem i_cuts {a : Addr} {ws : List Int} (h : H a = some (.lst (ws.map V.int))) (h2 : 2 ≤ ws.length) (hl : ws.length ≤ 1000) (hw : Wei ws) (q : ∀ (H' : Hp), Same H H' → Q (.bl true) H') : sp_law_cuts K A [.ref a] H Q E := ⟨a, ws, rfl, h, h2, hl, hw, q⟩
end G
local macro_rules | `(tactic| walk_at "call") => `(tactic| first
  | (refine' G.i_list ?g1 ?_; (case g1 => walk_at "src"))
  | (refine' G.i_cuts ?g1 ?g2 ?g3 ?g4 ?_; (case g1 => walk_at "hp"); (case g2 => walk_at "ar"); (case g3 => walk_at "ar"); (case g4 => assumption)))
namespace G
open PySem L2
def t_law_list (K : PySem.W.Frag) (A : CA) : TS :=
  (tSeq (tAsg (tOp oAdd (tC (.int 2)) (tCall (sp_law_take K A) [] E0 (tCons (tVar 0) (tCons (tC (.int 9)) tNil)))) (gName 1))
  (tSeq (tAsg (tCall (sp_law_take K A) [] E0 (tCons (tVar 0) (tCons (tC (.int 8)) tNil))) (gName 2))
  (tSeq (tIfS (tTest (tOp rEq (tVar 2) (tC (.int 1)))) (tAsg (tOp oAdd (tC (.int 11)) (tCall (sp_law_take K A) [] E0 (tCons (tVar 0) (tCons (tC (.int 50)) tNil)))) (gName 1)) tNext)
  (tSeq (tIfS (tAnd (tTest (tOp rEq (tVar 2) (tC (.int 2)))) (tTest (tOp rEq (tCall (sp_law_take K A) [] E0 (tCons (tVar 0) (tCons (tC (.int 4)) tNil))) (tC (.int 1))))) (tSeq (tAsg (tOp oAdd (tC (.int 61)) (tCall (sp_law_take K A) [] E0 (tCons (tVar 0) (tCons (tC (.int 140)) tNil)))) (gName 1))
  (tSeq (tAsg (tOp oAdd (tC (.int 1)) (tCall (sp_law_take K A) [] E0 (tCons (tVar 0) (tCons (tC (.int 5)) tNil)))) (gName 3))
  (tSeq (tAsg (tCall (sp_law_take K A) [] E0 (tCons (tVar 0) (tCons (tC (.int 10)) tNil))) (gName 4))
  (tRet (tLc (iRng1 (tCons (tVar 1) tNil)) (gName 5) tYes (tOp oAdd (tC (.int 1)) (tOp oMod (tCB oInt (tCons (tOp oDiv (tOp oAdd (tVar 5) (tVar 4)) (tVar 3)) tNil)) (tC (.int 2)))) [5]))))) tNext)
  (tSeq (tAsg (tLst tNil) (gName 6))
  (tSeq (tFor (iRng1 (tCons (tVar 1) tNil)) (gName 5)
  (tDrop (tBM K "list" rAppend (tVar 6) (tCons (tOp oAdd (tC (.int 1)) (tCall (sp_law_take K A) [] E0 (tCons (tVar 0) (tCons (tC (.int 2)) tNil)))) tNil))))
  (tRet (tVar 6))))))))
def t_law_cuts (K : PySem.W.Frag) (A : CA) : TS :=
  (tSeq (tAsg (tCB (oListOf K) (tCons (tVar 0) tNil)) (gName 1))
  (tSeq (tAsg (tCall (sp_cut_of K A) [] E0 (tCons (tVar 1) tNil)) (gName 2))
  (tSeq (tIfS (tOr (tNot (tB (tCB (rIsi K) (tCons (tVar 2) (tCons (tC (.ty "int")) tNil))))) (tOr (tB (tCB (rIsi K) (tCons (tVar 2) (tCons (tC (.ty "bool")) tNil)))) (tTest (tOp (rNeD K) (tVar 1) (tVar 0))))) (tRet (tC (.bl false))) tNext)
  (tSeq (tIfS (tOr (tTest (tOp rNe (tVar 2) (tCall (sp_law_due K A) [] E0 (tCons (tVar 0) tNil)))) (tTest (tOp rNe (tCall (sp_cut_of K A) [] E0 (tCons (tVar 1) tNil)) (tVar 2)))) (tRet (tC (.bl false))) tNext)
  (tSeq (tIfS (tAnd (tTest (tOp oGe (tCB (rSum K) (tCons (tVar 0) tNil)) (tC (.int 5)))) (tOr (tTest (tOp oLt (tCB (rSum K) (tCons (tSl (rSlL K) (tVar 0) tNoPart (tPart (tVar 2))) tNil)) (tC (.int 2)))) (tTest (tOp oLt (tCB (rSum K) (tCons (tSl (rSlL K) (tVar 0) (tPart (tVar 2)) tNoPart) tNil)) (tC (.int 2)))))) (tRet (tC (.bl false))) tNext)
  (tRet (tC (.bl true))))))))

variable {K : PySem.W.Frag} {A : CA} {vs : List V} {H : Hp} {Q : VK} {E : XK}
theorem rd_law_list (h : sp_law_list K A vs H Q E) : t_law_list K A { nx := fun _ H' => Q .non H', rt := Q } (start ["purse", "many", "large", "period", "shift", "k", "weights"] vs) H := by
  obtain ⟨s, rfl, hs, q⟩ := h
  have low : ∀ (m : Int) (l : V) (b c : Option V) (H1 : Hp), 2 ≤ m → m ≤ 70 → But s H H1 → Src H1 s →
      (tSeq (tAsg (tLst tNil) (gName 6))
  (tSeq (tFor (iRng1 (tCons (tVar 1) tNil)) (gName 5)
  (tDrop (tBM K "list" rAppend (tVar 6) (tCons (tOp oAdd (tC (.int 1)) (tCall (sp_law_take K A) [] E0 (tCons (tVar 0) (tCons (tC (.int 2)) tNil)))) tNil))))
  (tRet (tVar 6)))) { nx := fun _ H' => Q .non H', rt := Q } [some (.ref s), some (.int m), some l, b, c, none, none] H1 := by
    intro m l b c H1 h2 h70 b1 s1
    walk_at "go"
    intro p hp
    have hpf : H p = none := b1.back s1 hp
    have nps : p ≠ s := s1.neFree hp
    have b2 := b1.new (o := .lst []) hp
    have s2 := s1.new (o := .lst []) hp
    have hpp : upd H1 p (.lst []) p = some (.lst []) := upd_same
    generalize upd H1 p (.lst []) = H2 at b2 s2 hpp
    walk_at "go"
    refine forR (fun i σ H' => ∃ (ws : List Int) (k5 : Option V), σ = [some (.ref s), some (.int m), some l, b, c, k5, some (.ref p)] ∧ ws.length = i ∧ Wei ws ∧ But s H H' ∧ Src H' s ∧ H' p = some (.lst (ws.map V.int))) ?_ ?_ ?_
    · exact ⟨[], _, rfl, rfl, (fun _ h => by cases h), b2, s2, hpp⟩
    · rintro i σ H3 hi ⟨ws, k5, rfl, hl, hw, b3, s3, hp3⟩
      walk_at "go"
      intro r H4 r0 r1 b4 s4
      have hp4 := b4.at nps hp3
      have hsz : (ws.map V.int).length < sizeLine := by rw [List.length_map]; exact L2.small1000 (by omega)
      walk_at "go"
      refine ⟨ws ++ [1 + r], _, rfl, by simp [hl], hw.app (Wei.one (by omega)), (b3.trans b4).mut hpf, s4.mut nps, ?_⟩
      rw [← snocI]; exact upd_same
    · rintro σ H3 ⟨ws, k5, rfl, hl, hw, b3, s3, hp3⟩
      walk_at "go"
      exact q ws p H3 (by omega) (by omega) hw hpf b3 hp3
  unfold t_law_list
  walk_at "go"
  intro r1 H1 a0 a1 b1 s1
  walk_at "go"
  intro r2 H2 c0 c1 b2 s2
  have b12 := b1.trans b2
  walk_at "go"
  refine w_iteD (fun hc => ?_) (fun hc => ?_)
  · walk_at "go"
    intro r3 H3 d0 d1 b3 s3
    walk_at "go"
    refine w_iteD (fun hc2 => by omega) (fun _ => ?_)
    have := low (11 + r3) (.int r2) none none H3 (by omega) (by omega) (b12.trans b3) s3
    first | exact this | exact w_iteF this
  walk_at "go"
  refine w_iteD (fun hc2 => ?_) (fun hc2 => ?_)
  · walk_at "go"
    intro r3 H3 d0 d1 b3 s3
    walk_at "go"
    refine w_iteD (fun hc3 => ?_) (fun hc3 => ?_)
    · walk_at "go"
      intro r4 H4 e0 e1 b4 s4
      walk_at "go"
      intro r5 H5 f0 f1 b5 s5
      walk_at "go"
      intro r6 H6 g0 g1 b6 s6
      walk_at "go"
      have bb := b12.trans (b3.trans (b4.trans (b5.trans b6)))
      refine lcR (fun Dl i H' => ∃ ws : List Int, ws.length = i ∧ Wei ws ∧ But s H H' ∧ H' Dl = some (.lst (ws.map V.int))) ?_ ?_ ?_
      · intro Dl hD
        exact ⟨[], rfl, (fun _ h => by cases h), bb.new hD, upd_same⟩
      · rintro Dl i H7 hD hi ⟨ws, hl, hw, b7, hp⟩
        have hDH : H Dl = none := bb.back s6 hD
        have hl2 : (ws.map V.int).length < sizeLine := by rw [List.length_map]; exact L2.small1000 (by omega)
        walk_at "go"
        refine ⟨ws ++ [1 + (0 + (i : Int) + r6) / (1 + r5) % 2], by simp [hl], hw.app (Wei.one (by omega)), b7.mut hDH, ?_⟩
        rw [← snocI]; exact upd_same
      · rintro Dl H7 hD ⟨ws, hl, hw, b7, hp⟩
        exact q ws Dl H7 (by omega) (by omega) hw (bb.back s6 hD) b7 hp
    · have := low (2 + r1) (.int r2) none none H3 (by omega) (by omega) (b12.trans b3) s3
      first | exact this | exact w_iteF this
  · have := low (2 + r1) (.int r2) none none H2 (by omega) (by omega) b12 s2
    first | exact this | exact w_iteF this
theorem rd_law_cuts (h : sp_law_cuts K A vs H Q E) : t_law_cuts K A { nx := fun _ H' => Q .non H', rt := Q } (start ["weights", "given", "cut"] vs) H := by
  obtain ⟨a, ws, rfl, ha, h2, hl, hw, q⟩ := h
  unfold t_law_cuts
  walk_at "go"
  intro g hg
  have e1 := same_new (o := .lst (ws.map V.int)) hg
  have hg1 : upd H g (.lst (ws.map V.int)) g = some (.lst (ws.map V.int)) := upd_same
  generalize upd H g (.lst (ws.map V.int)) = H1 at e1 hg1
  have ha1 := e1 _ _ ha
  walk_at "go"
  intro H2 e2
  have hg2 := e2 _ _ hg1
  have ha2 := e2 _ _ ha1
  walk_at "go"
  intro H3 e3
  have hg3 := e3 _ _ hg2
  walk_at "go"
  intro H4 e4
  have e := ((e1.trans e2).trans e3).trans e4
  have ha4 := e _ _ ha
  walk_at "go"
  refine w_iteD (fun h5 => ?_) (fun h5 => ?_)
  · obtain ⟨k1, k2⟩ := hw.cut h2 h5
    walk_at "go"
    intro l hl4
    rw [cut_mapTo]
    have e5 := e.trans (same_new (o := .lst ((ws.take (cutN ws)).map V.int)) hl4)
    have hl5 : upd H4 l (.lst ((ws.take (cutN ws)).map V.int)) l = some (.lst ((ws.take (cutN ws)).map V.int)) := upd_same
    generalize upd H4 l (.lst ((ws.take (cutN ws)).map V.int)) = H5 at e5 hl5
    have ha5 := e5 _ _ ha
    walk_at "go"
    rw [decide_eq_false (by omega)]
    walk_at "go"
    intro m hm
    rw [cut_mapFrom]
    walk_at "go"
    rw [decide_eq_false (by omega)]
    walk_at "go"
    exact q _ (e5.trans (same_new hm))
  · walk_at "go"
    exact q _ e
end G

namespace G
open PySem L2
def sp_law (K : PySem.W.Frag) (A : CA) : Sp := fun vs H Q _ => ∃ (a : Addr) (ns : List Int), vs = [.ref a] ∧ SqL K H a (ns.map V.int) ∧ ns.length ≤ 63 ∧ ∀ H', Q (.bl true) H'
def t_law (K : PySem.W.Frag) (A : CA) : TS :=
  (tSeq (tAsg (tCall (sp_law_fold K A) [] E0 (tCons (tVar 0) tNil)) (gName 1))
  (tSeq (tAsg (tCall (sp_law_list K A) [] E0 (tCons (tCall (sp_law_purse K A) [] E0 (tCons (tVar 0) (tCons (tC (.int 0)) (tCons (tVar 1) tNil)))) tNil)) (gName 2))
  (tSeq (tAsg (tCB (rLenQ K) (tCons (tVar 2) tNil)) (gName 3))
  (tSeq (tAsg (tCall (sp_law_purse K A) [] E0 (tCons (tVar 0) (tCons (tC (.int 1)) (tCons (tVar 1) tNil)))) (gName 4))
  (tSeq (tAsg (tCall (sp_law_take K A) [] E0 (tCons (tVar 4) (tCons (tVar 3) tNil))) (gName 5))
  (tSeq (tAsg (tCB (oListOf K) (tCons (tVar 2) tNil)) (gName 6))
  (tSeq (tAsg (tOp oSub (tC (.int 3)) (tOp (rIxL K) (tVar 6) (tVar 5))) (gSub (tVar 6) (tVar 5) rSetL))
  (tSeq (tAsg (tLst (tCons (tVar 2) (tCons (tVar 6) tNil))) (gName 7))
  (tSeq (tDrop (tBM K "list" rAppend (tVar 7) (tCons (tLc (iRng1 (tCons (tVar 3) tNil)) (gName 8) tYes (tOp (rIxL K) (tVar 2) (tOp oSub (tOp oSub (tVar 3) (tC (.int 1))) (tVar 8))) [8]) tNil)))
  (tSeq (tDrop (tBM K "list" rAppend (tVar 7) (tCons (tLc (iList K (tVar 2)) (gName 9) tYes (tOp oSub (tC (.int 3)) (tVar 9)) [9]) tNil)))
  (tSeq (tDrop (tBM K "list" rAppend (tVar 7) (tCons (tOp rCat (tVar 2) (tLst (tCons (tOp oAdd (tC (.int 1)) (tCall (sp_law_take K A) [] E0 (tCons (tVar 4) (tCons (tC (.int 2)) tNil)))) tNil))) tNil)))
  (tSeq (tDrop (tBM K "list" rAppend (tVar 7) (tCons (tOp rCat (tLst (tCons (tOp oAdd (tC (.int 1)) (tCall (sp_law_take K A) [] E0 (tCons (tVar 4) (tCons (tC (.int 2)) tNil)))) tNil)) (tVar 2)) tNil)))
  (tSeq (tDrop (tBM K "list" rAppend (tVar 7) (tCons (tSl (rSlL K) (tVar 2) tNoPart (tPart (tC (.int 2)))) tNil)))
  (tSeq (tDrop (tBM K "list" rAppend (tVar 7) (tCons (tSl (rSlL K) (tOp rCat (tVar 2) (tVar 2)) tNoPart (tPart (tC (.int 3)))) tNil)))
  (tSeq (tFor (iList K (tVar 7)) (gName 10)
  (tIfS (tNot (tB (tCall (sp_law_cuts K A) [] E0 (tCons (tVar 10) tNil)))) (tRet (tC (.bl false))) tNext))
  (tRet (tC (.bl true))))))))))))))))))

variable {K : PySem.W.Frag} {A : CA} {vs : List V} {H : Hp} {Q : VK} {E : XK}
/-- a value is a list of weights, not at the source s nor at l -/
def WL (H : Hp) (s l : Addr) (v : V) : Prop := ∃ (p : Addr) (ws : List Int), v = .ref p ∧ H p = some (.lst (ws.map V.int)) ∧ p ≠ s ∧ p ≠ l ∧ 2 ≤ ws.length ∧ ws.length ≤ 1000 ∧ Wei ws
theorem WL.same {H H' : Hp} {s l : Addr} {v : V} (e : Same H H') (h : WL H s l v) : WL H' s l v := let ⟨p, ws, a, b, c⟩ := h; ⟨p, ws, a, e _ _ b, c⟩
theorem WL.but {H H' : Hp} {s l : Addr} {v : V} (b : But s H H') (h : WL H s l v) : WL H' s l v := let ⟨p, ws, a, hp, n, c⟩ := h; ⟨p, ws, a, b _ _ n hp, n, c⟩
theorem WL.butl {H H' : Hp} {s l : Addr} {v : V} (b : But l H H') (h : WL H s l v) : WL H' s l v := let ⟨p, ws, a, hp, n, m, c⟩ := h; ⟨p, ws, a, b _ _ m hp, n, m, c⟩
/-- the list of lists l, beside the source s and the weights w -/
structure LL (H : Hp) (s l w : Addr) (ws : List Int) (vs : List V) : Prop where
  src : Src H s
  nl : l ≠ s
  at_ : H l = some (.lst vs)
  wat : H w = some (.lst (ws.map V.int))
  ws_ : w ≠ s
  wl : w ≠ l
  all : ∀ v ∈ vs, WL H s l v
theorem LL.same {H H' : Hp} {s l w : Addr} {ws : List Int} {vs : List V} (h : LL H s l w ws vs) (e : Same H H') : LL H' s l w ws vs := ⟨h.src.same e, h.nl, e _ _ h.at_, e _ _ h.wat, h.ws_, h.wl, fun v hv => (h.all v hv).same e⟩
theorem LL.but {H H' : Hp} {s l w : Addr} {ws : List Int} {vs : List V} (h : LL H s l w ws vs) (b : But s H H') (k : Src H' s) : LL H' s l w ws vs := ⟨k, h.nl, b _ _ h.nl h.at_, b _ _ h.ws_ h.wat, h.ws_, h.wl, fun v hv => (h.all v hv).but b⟩
theorem LL.app {H : Hp} {s l w p : Addr} {ws zs : List Int} {vs : List V} (h : LL H s l w ws vs) (hp : H p = some (.lst (zs.map V.int))) (n : p ≠ s) (m : p ≠ l) (h2 : 2 ≤ zs.length) (h3 : zs.length ≤ 1000) (hz : Wei zs) :
    LL (upd H l (.lst (vs ++ [.ref p]))) s l w ws (vs ++ [.ref p]) :=
  have b : But l H (upd H l (.lst (vs ++ [.ref p]))) := But.refl.self
  ⟨h.src.mut h.nl, h.nl, upd_same, b _ _ h.wl h.wat, h.ws_, h.wl, fun v hv => by
    rcases List.mem_append.mp hv with q | q
    · exact (h.all v q).butl b
    · rw [List.mem_singleton.mp q]; exact ⟨p, zs, rfl, b _ _ m hp, n, m, h2, h3, hz⟩⟩
theorem Same.thenBut {s : Addr} {H H1 H2 : Hp} (e : Same H H1) (b : But s H1 H2) (hs : H s = none) : Same H H2 := fun c o h => b c o (ne_of_none h hs) (e c o h)
theorem rd_law (h : sp_law K A vs H Q E) : t_law K A { nx := fun _ H' => Q .non H', rt := Q } (start ["script", "seed", "weights", "many", "purse", "at", "other", "lists", "k", "weight", "one"] vs) H := by
  obtain ⟨a, ns, rfl, ha, hl, q⟩ := h
  unfold t_law
  walk_at "go"
  intro seed
  walk_at "go"
  intro s H1 hs0 e1 s1
  walk_at "go"
  intro ws w H2 h2 h300 hw hwf b2 hw2
  have e2 : Same H H2 := Same.thenBut e1 b2 hs0
  walk_at "go"
  intro s' H3 hs3 e3 s3
  have hw3 := e3 _ _ hw2
  have hns : w ≠ s' := ne_of_none hw2 hs3
  rw [List.length_map]
  walk_at "go"
  intro at_ H4 a0 a1 b4 s4
  have hw4 := b4.at hns hw3
  walk_at "go"
  intro o ho
  have hoh : H3 o = none := b4.back s4 ho
  have nos : o ≠ s' := s4.neFree ho
  have nwo : w ≠ o := ne_of_none hw4 ho
  have s5 := s4.new (o := .lst (ws.map V.int)) ho
  have hw5 := keep (o' := .lst (ws.map V.int)) hw4 ho
  have ho5 : upd H4 o (.lst (ws.map V.int)) o = some (.lst (ws.map V.int)) := upd_same
  generalize upd H4 o (.lst (ws.map V.int)) = H5 at s5 hw5 ho5
  have hlt : at_.toNat < ws.length := by omega
  have hx : atI (ws.map V.int) at_ = some (V.int ws[at_.toNat]) := at_of (j := at_.toNat) (by omega) (by simp [hlt])
  have hix : ixN (ws.map V.int).length at_ = some at_.toNat := ixn (by omega) (by rw [List.length_map]; exact hlt)
  walk_at "go"
  have s6 := s5.mut (o := .lst ((ws.map V.int).set at_.toNat (V.int (3 - ws[at_.toNat])))) nos
  have hw6 := keepNe (o' := .lst ((ws.map V.int).set at_.toNat (V.int (3 - ws[at_.toNat])))) hw5 nwo
  have ho6 : upd H5 o (.lst ((ws.map V.int).set at_.toNat (V.int (3 - ws[at_.toNat])))) o = some (.lst ((ws.set at_.toNat (3 - ws[at_.toNat])).map V.int)) := by rw [List.map_set]; exact upd_same
  have hset : Wei (ws.set at_.toNat (3 - ws[at_.toNat])) := fun n hn => by
    rcases List.mem_or_eq_of_mem_set hn with h | h
    · exact hw n h
    · have := hw _ (List.getElem_mem hlt); omega
  generalize upd H5 o (.lst ((ws.map V.int).set at_.toNat (V.int (3 - ws[at_.toNat])))) = H6 at s6 hw6 ho6
  walk_at "go"
  intro l hl0
  have nls : l ≠ s' := s6.neFree hl0
  have L0 : LL (upd H6 l (.lst [.ref w, .ref o])) s' l w ws [.ref w, .ref o] := by
    refine ⟨s6.new hl0, nls, upd_same, keep hw6 hl0, hns, ne_of_none hw6 hl0, fun v hv => ?_⟩
    simp only [List.mem_cons, List.not_mem_nil, or_false] at hv
    rcases hv with rfl | rfl
    · exact ⟨w, ws, rfl, keep hw6 hl0, hns, ne_of_none hw6 hl0, h2, by omega, hw⟩
    · exact ⟨o, _, rfl, keep ho6 hl0, nos, ne_of_none ho6 hl0, by rw [List.length_set]; exact h2, by rw [List.length_set]; omega, hset⟩
  generalize upd H6 l (.lst [.ref w, .ref o]) = H7 at L0
  have hl7 := L0.at_
  walk_at "go"
  refine lcR (fun Dl i H' => ∃ zs : List Int, zs.length = i ∧ Wei zs ∧ Same H7 H' ∧ H' Dl = some (.lst (zs.map V.int))) ?_ ?_ ?_
  · intro Dl hD
    exact ⟨[], rfl, (fun _ h => by cases h), same_new hD, upd_same⟩
  · rintro Dl i H8 hD hi ⟨zs, hz, hzw, e8, hp⟩
    have hw8 := e8 _ _ L0.wat
    have hl2 : (zs.map V.int).length < sizeLine := by rw [List.length_map]; exact L2.small1000 (by omega)
    have hi2 : ws.length - 1 - i < ws.length := by omega
    have hx : atI (ws.map V.int) ((ws.length : Int) - 1 - (0 + (i : Int))) = some (V.int ws[ws.length - 1 - i]) := at_of (j := ws.length - 1 - i) (by omega) (by simp [hi2])
    walk_at "go"
    refine ⟨zs ++ [ws[ws.length - 1 - i]], by simp [hz], hzw.app (Wei.one (hw _ (List.getElem_mem hi2))), same_mut e8 hD, ?_⟩
    rw [← snocI]; exact upd_same
  rintro D1 H8 hD1 ⟨z1, hz1, hzw1, e8, hp1⟩
  have La1 := L0.same e8
  have hl8 := La1.at_
  walk_at "go"
  have La2 := La1.app hp1 (L0.src.neFree hD1) (ne_of_none L0.at_ hD1).symm (by omega) (by omega) hzw1
  generalize upd H8 l (.lst ([.ref w, .ref o] ++ [.ref D1])) = H9 at La2
  have hl9 := La2.at_
  have hw9 := La2.wat
  walk_at "go"
  refine lcL (xs := ws.map V.int) (fun Dl i H' => ∃ zs : List Int, zs.length = i ∧ Wei zs ∧ Same H9 H' ∧ H' Dl = some (.lst (zs.map V.int))) ?_ ?_ ?_ ?_
  · intro Dl hD
    exact ⟨[], rfl, (fun _ h => by cases h), same_new hD, upd_same⟩
  · rintro Dl i H10 hD hi ⟨zs, hz, hzw, e10, hp⟩
    exact .of (e10 _ _ hw9)
  · rintro Dl i x H10 hD hx ⟨zs, hz, hzw, e10, hp⟩
    obtain ⟨hi, rfl⟩ := getI hx
    have hl2 : (zs.map V.int).length < sizeLine := by rw [List.length_map]; exact L2.small1000 (by omega)
    walk_at "go"
    refine ⟨zs ++ [3 - ws[i]], by simp [hz], hzw.app (Wei.one (by have := hw _ (List.getElem_mem hi); omega)), same_mut e10 hD, ?_⟩
    rw [← snocI]; exact upd_same
  rintro D2 H10 hD2 ⟨z2, hz2, hzw2, e10, hp2⟩
  rw [List.length_map] at hz2
  have La3 := La2.same e10
  have hl10 := La3.at_
  walk_at "go"
  have La4 := La3.app hp2 (La2.src.neFree hD2) (ne_of_none La2.at_ hD2).symm (by omega) (by omega) hzw2
  generalize upd H10 l (.lst ([.ref w, .ref o] ++ [.ref D1] ++ [.ref D2])) = H11 at La4
  have hl11 := La4.at_
  have hw11 := La4.wat
  have s11 := La4.src
  walk_at "go"
  intro r1 H12 r10 r11 b12 s12
  have La5 := La4.but b12 s12
  have hw12 := La5.wat
  walk_at "go"
  intro p1 hp1f
  have La6 := La5.same (same_new (o := .lst [V.int (1 + r1)]) hp1f)
  have hq1 : upd H12 p1 (.lst [V.int (1 + r1)]) p1 = some (.lst ([1 + r1].map V.int)) := upd_same
  generalize upd H12 p1 (.lst [V.int (1 + r1)]) = H13 at La6 hq1
  have hw13 := La6.wat
  walk_at "go"
  intro p2 hp2f
  have La7 := La6.same (same_new (o := .lst (ws.map V.int ++ [1 + r1].map V.int)) hp2f)
  have hq2 : upd H13 p2 (.lst (ws.map V.int ++ [1 + r1].map V.int)) p2 = some (.lst ((ws ++ [1 + r1]).map V.int)) := by rw [List.map_append]; exact upd_same
  have n2s : p2 ≠ s' := La6.src.neFree hp2f
  have n2l : p2 ≠ l := (ne_of_none La6.at_ hp2f).symm
  generalize upd H13 p2 (.lst (ws.map V.int ++ [1 + r1].map V.int)) = H14 at La7 hq2
  have hl14 := La7.at_
  walk_at "go"
  have La8 := La7.app hq2 n2s n2l (by simp; omega) (by simp; omega) (hw.app (Wei.one (by omega)))
  generalize upd H14 l (.lst ([.ref w, .ref o] ++ [.ref D1] ++ [.ref D2] ++ [.ref p2])) = H15 at La8
  have hl15 := La8.at_
  have hw15 := La8.wat
  have s15 := La8.src
  walk_at "go"
  intro r2 H16 r20 r21 b16 s16
  have La9 := La8.but b16 s16
  walk_at "go"
  intro p3 hp3f
  have La10 := La9.same (same_new (o := .lst [V.int (1 + r2)]) hp3f)
  have hq3 : upd H16 p3 (.lst [V.int (1 + r2)]) p3 = some (.lst ([1 + r2].map V.int)) := upd_same
  generalize upd H16 p3 (.lst [V.int (1 + r2)]) = H17 at La10 hq3
  have hw17 := La10.wat
  walk_at "go"
  intro p4 hp4f
  have La11 := La10.same (same_new (o := .lst ([1 + r2].map V.int ++ ws.map V.int)) hp4f)
  have hq4 : upd H17 p4 (.lst ([1 + r2].map V.int ++ ws.map V.int)) p4 = some (.lst (([1 + r2] ++ ws).map V.int)) := by rw [List.map_append]; exact upd_same
  have n4s : p4 ≠ s' := La10.src.neFree hp4f
  have n4l : p4 ≠ l := (ne_of_none La10.at_ hp4f).symm
  generalize upd H17 p4 (.lst ([1 + r2].map V.int ++ ws.map V.int)) = H18 at La11 hq4
  have hl18 := La11.at_
  walk_at "go"
  have La12 := La11.app hq4 n4s n4l (by simp; omega) (by simp; omega) ((Wei.one (by omega)).app hw)
  generalize upd H18 l (.lst ([.ref w, .ref o] ++ [.ref D1] ++ [.ref D2] ++ [.ref p2] ++ [.ref p4])) = H19 at La12
  have hl19 := La12.at_
  have hw19 := La12.wat
  walk_at "go"
  intro p5 hp5f
  rw [show (2 : Int) = ((2 : Nat) : Int) from rfl, cut_mapTo]
  have La13 := La12.same (same_new (o := .lst ((ws.take 2).map V.int)) hp5f)
  have hq5 : upd H19 p5 (.lst ((ws.take 2).map V.int)) p5 = some (.lst ((ws.take 2).map V.int)) := upd_same
  have n5s : p5 ≠ s' := La12.src.neFree hp5f
  have n5l : p5 ≠ l := (ne_of_none La12.at_ hp5f).symm
  generalize upd H19 p5 (.lst ((ws.take 2).map V.int)) = H20 at La13 hq5
  have hl20 := La13.at_
  walk_at "go"
  have La14 := La13.app hq5 n5s n5l (by rw [List.length_take]; omega) (by rw [List.length_take]; omega) (hw.sub fun x hx => List.mem_of_mem_take hx)
  generalize upd H20 l (.lst ([.ref w, .ref o] ++ [.ref D1] ++ [.ref D2] ++ [.ref p2] ++ [.ref p4] ++ [.ref p5])) = H21 at La14
  have hl21 := La14.at_
  have hw21 := La14.wat
  walk_at "go"
  intro p6 hp6f
  have La15 := La14.same (same_new (o := .lst (ws.map V.int ++ ws.map V.int)) hp6f)
  have hq6 : upd H21 p6 (.lst (ws.map V.int ++ ws.map V.int)) p6 = some (.lst ((ws ++ ws).map V.int)) := by rw [List.map_append]; exact upd_same
  generalize upd H21 p6 (.lst (ws.map V.int ++ ws.map V.int)) = H22 at La15 hq6
  walk_at "go"
  intro p7 hp7f
  rw [show (3 : Int) = ((3 : Nat) : Int) from rfl, cut_mapTo]
  have La16 := La15.same (same_new (o := .lst (((ws ++ ws).take 3).map V.int)) hp7f)
  have hq7 : upd H22 p7 (.lst (((ws ++ ws).take 3).map V.int)) p7 = some (.lst (((ws ++ ws).take 3).map V.int)) := upd_same
  have n7s : p7 ≠ s' := La15.src.neFree hp7f
  have n7l : p7 ≠ l := (ne_of_none La15.at_ hp7f).symm
  generalize upd H22 p7 (.lst (((ws ++ ws).take 3).map V.int)) = H23 at La16 hq7
  have hl23 := La16.at_
  walk_at "go"
  have La17 := La16.app hq7 n7s n7l (by rw [List.length_take, List.length_append]; omega) (by rw [List.length_take, List.length_append]; omega) ((hw.app hw).sub fun x hx => List.mem_of_mem_take hx)
  generalize upd H23 l (.lst ([.ref w, .ref o] ++ [.ref D1] ++ [.ref D2] ++ [.ref p2] ++ [.ref p4] ++ [.ref p5] ++ [.ref p7])) = H24 at La17
  generalize [V.ref w, .ref o] ++ [.ref D1] ++ [.ref D2] ++ [.ref p2] ++ [.ref p4] ++ [.ref p5] ++ [.ref p7] = vs at La17
  have hl24 := La17.at_
  walk_at "go"
  refine forL (xs := vs) (fun i σ H' => ∃ k1 k2 k3 : Option V, σ = [some (.ref a), some (.int seed), some (.ref w), some (.int ws.length), some (.ref s'), some (.int at_), some (.ref o), some (.ref l), k1, k2, k3] ∧ Same H24 H') ?_ ?_ ?_ ?_
  · exact ⟨_, _, _, rfl, Same.refl _⟩
  · rintro i σ H25 hi ⟨k1, k2, k3, rfl, e25⟩
    exact .of (e25 _ _ hl24)
  · rintro i x σ H25 hx ⟨k1, k2, k3, rfl, e25⟩
    obtain ⟨p, zs, rfl, hp, _, _, hz2, hz3, hz⟩ := (La17.all _ (List.mem_of_getElem? hx)).same e25
    walk_at "go"
    intro H26 e26
    walk_at "go"
    exact ⟨_, _, _, rfl, e25.trans e26⟩
  · rintro σ H25 ⟨k1, k2, k3, rfl, e25⟩
    walk_at "go"
    exact q _
end G

namespace G
open PySem L2
def topS (i : Nat) : Stmt := PySem.Challenge.pw_onecopy_k35_cut.main.body.getD i (.Pass ⟨0, 0, 0, 0⟩)
structure Txt (mg : Str → Option Value) : Prop where
  b_abs : mg "abs" = none
  b_bool : mg "bool" = none
  b_int : mg "int" = none
  b_isinstance : mg "isinstance" = none
  b_len : mg "len" = none
  b_list : mg "list" = none
  b_min : mg "min" = none
  b_range : mg "range" = none
  b_sum : mg "sum" = none
variable {P : Program} {w : World} {K : PySem.W.Frag} {mg : Str → Option Value} {base : Heap} {A : CA}
abbrev s_cut_of : Stmt := topS 1
theorem sc_cut_of : FnScope ["weights", "half"] ["weights"] (defScope s_cut_of) := ⟨rfl, rfl, rfl, by decide +kernel, rfl, by decide +kernel, by decide +kernel⟩
theorem ln_cut_of {vs : List V} {H : Hp} {Q : VK} {E : XK} (h : sp_cut_of K A vs H Q E) : vs.length = 1 := by
  first | (obtain ⟨_, rfl, _⟩ := h; rfl) | (obtain ⟨_, _, rfl, _⟩ := h; rfl) | (obtain ⟨_, _, _, rfl, _⟩ := h; rfl) | (obtain ⟨_, _, _, _, rfl, _⟩ := h; rfl) | (obtain ⟨_, _, _, _, _, rfl, _⟩ := h; rfl) | (obtain ⟨_, _, _, _, _, _, rfl, _⟩ := h; rfl) | (obtain ⟨_, _, _, _, _, _, _, rfl, _⟩ := h; rfl) | (obtain ⟨_, _, _, _, _, _, _, _, rfl, _⟩ := h; rfl) | (obtain ⟨_, _, _, _, _, _, _, _, _, rfl, _⟩ := h; rfl) | (obtain ⟨_, _, _, _, _, _, _, _, _, _, rfl, _⟩ := h; rfl) | (obtain ⟨_, _, _, _, _, _, _, _, _, _, _, rfl, _⟩ := h; rfl) | (obtain ⟨_, _, _, _, _, _, _, _, _, _, _, _, rfl, _⟩ := h; rfl) | (obtain ⟨_, _, _, _, _, _, _, _, _, _, _, _, _, rfl, _⟩ := h; rfl) | (obtain ⟨_, _, _, _, _, _, _, _, _, _, _, _, _, _, rfl, _⟩ := h; rfl) | (obtain ⟨_, _, _, _, _, _, _, _, _, _, _, _, _, _, _, rfl, _⟩ := h; rfl)
theorem fn_cut_of {f : Addr} {fd : FuncData} (F : Fun K "cut_of" "cut_of" s_cut_of f fd) (T : Txt mg) (C : CT K A)  : FnOk P w K mg base CX0 1 f fd ["weights"] (sp_cut_of K A) :=
  F.ok sc_cut_of (fun vs H Q E h => ln_cut_of h) (fun cdv Ar outer s H vs Q E hr h => ⟨t_cut_of K A, (pss_cons (ps_set (i := 1) sc_cut_of.nd rfl (by first | exact Or.inl rfl | exact Or.inr rfl) (pe_op op_fdiv (pe_callB call_len_seq (by rfl) T.b_len (by decide +kernel) (pa_cons (pv 0) pa_nil)) pe_int))
  (pss_one (ps_ret (pe_ifExp (pt_cmpR op_eq (pe_callB (cr_sum rfl) (by rfl) T.b_sum (by decide +kernel) (pa_cons (pe_slice sl_list (pv 0) po_none (po_some (pv 1))) pa_nil)) pe_int (nomark _)) (pe_op op_add (pv 1) pe_int) (pv 1))))), rd_cut_of h⟩)
theorem bi_cut_of {f : Addr} {fd : FuncData} (F : Fun K "cut_of" "cut_of" s_cut_of f fd) : Binds K fd ["weights"] [] := F.binds fun _ _ _ _ _ _ us hl => match us, hl with | [_], _ => rfl
abbrev s_law_fold : Stmt := topS 3
theorem sc_law_fold : FnScope ["script", "total", "k"] ["script"] (defScope s_law_fold) := ⟨rfl, rfl, rfl, by decide +kernel, rfl, by decide +kernel, by decide +kernel⟩
theorem ln_law_fold {vs : List V} {H : Hp} {Q : VK} {E : XK} (h : sp_law_fold K A vs H Q E) : vs.length = 1 := by
  first | (obtain ⟨_, rfl, _⟩ := h; rfl) | (obtain ⟨_, _, rfl, _⟩ := h; rfl) | (obtain ⟨_, _, _, rfl, _⟩ := h; rfl) | (obtain ⟨_, _, _, _, rfl, _⟩ := h; rfl) | (obtain ⟨_, _, _, _, _, rfl, _⟩ := h; rfl) | (obtain ⟨_, _, _, _, _, _, rfl, _⟩ := h; rfl) | (obtain ⟨_, _, _, _, _, _, _, rfl, _⟩ := h; rfl) | (obtain ⟨_, _, _, _, _, _, _, _, rfl, _⟩ := h; rfl) | (obtain ⟨_, _, _, _, _, _, _, _, _, rfl, _⟩ := h; rfl) | (obtain ⟨_, _, _, _, _, _, _, _, _, _, rfl, _⟩ := h; rfl) | (obtain ⟨_, _, _, _, _, _, _, _, _, _, _, rfl, _⟩ := h; rfl) | (obtain ⟨_, _, _, _, _, _, _, _, _, _, _, _, rfl, _⟩ := h; rfl) | (obtain ⟨_, _, _, _, _, _, _, _, _, _, _, _, _, rfl, _⟩ := h; rfl) | (obtain ⟨_, _, _, _, _, _, _, _, _, _, _, _, _, _, rfl, _⟩ := h; rfl) | (obtain ⟨_, _, _, _, _, _, _, _, _, _, _, _, _, _, _, rfl, _⟩ := h; rfl)
theorem fn_law_fold {f : Addr} {fd : FuncData} (F : Fun K "_law_fold" "_law_fold" s_law_fold f fd) (T : Txt mg) (C : CT K A)  : FnOk P w K mg base CX0 1 f fd ["script"] (sp_law_fold K A) :=
  F.ok sc_law_fold (fun vs H Q E h => ln_law_fold h) (fun cdv Ar outer s H vs Q E hr h => ⟨t_law_fold K A, (pss_cons (ps_set (i := 1) sc_law_fold.nd rfl (by first | exact Or.inl rfl | exact Or.inr rfl) pe_int)
  (pss_cons (ps_for PassesOwn.never rfl (pi_range1 (by rfl) T.b_range (pa_cons (pe_callB (call_min2 rfl) (by rfl) T.b_min (by decide +kernel) (pa_cons pe_int (pa_cons (pe_callB call_len_seq (by rfl) T.b_len (by decide +kernel) (pa_cons (pv 0) pa_nil)) pa_nil))) pa_nil)) (pg_name (i := 2) sc_law_fold.nd rfl (by first | exact Or.inl rfl | exact Or.inr rfl))
  (pss_one (ps_set (i := 1) sc_law_fold.nd rfl (by first | exact Or.inl rfl | exact Or.inr rfl) (pe_op op_mod (pe_callTy call_int1 (by rfl) T.b_int (by decide +kernel) (pa_cons (pe_op op_add (pe_op op_add (pe_op op_mul (pv 1) pe_int) (pe_op op_mul (pe_ix ix_list (pv 0) (pv 2) (fun _ _ => rfl)) pe_int)) (pv 2)) pa_nil)) pe_int))))
  (pss_one (ps_ret (pv 1))))), rd_law_fold h⟩)
theorem bi_law_fold {f : Addr} {fd : FuncData} (F : Fun K "_law_fold" "_law_fold" s_law_fold f fd) : Binds K fd ["script"] [] := F.binds fun _ _ _ _ _ _ us hl => match us, hl with | [_], _ => rfl
abbrev s_law_purse : Stmt := topS 4
theorem sc_law_purse : FnScope ["script", "k", "seed", "cell", "state"] ["script", "k", "seed"] (defScope s_law_purse) := ⟨rfl, rfl, rfl, by decide +kernel, rfl, by decide +kernel, by decide +kernel⟩
theorem ln_law_purse {vs : List V} {H : Hp} {Q : VK} {E : XK} (h : sp_law_purse K A vs H Q E) : vs.length = 3 := by
  first | (obtain ⟨_, rfl, _⟩ := h; rfl) | (obtain ⟨_, _, rfl, _⟩ := h; rfl) | (obtain ⟨_, _, _, rfl, _⟩ := h; rfl) | (obtain ⟨_, _, _, _, rfl, _⟩ := h; rfl) | (obtain ⟨_, _, _, _, _, rfl, _⟩ := h; rfl) | (obtain ⟨_, _, _, _, _, _, rfl, _⟩ := h; rfl) | (obtain ⟨_, _, _, _, _, _, _, rfl, _⟩ := h; rfl) | (obtain ⟨_, _, _, _, _, _, _, _, rfl, _⟩ := h; rfl) | (obtain ⟨_, _, _, _, _, _, _, _, _, rfl, _⟩ := h; rfl) | (obtain ⟨_, _, _, _, _, _, _, _, _, _, rfl, _⟩ := h; rfl) | (obtain ⟨_, _, _, _, _, _, _, _, _, _, _, rfl, _⟩ := h; rfl) | (obtain ⟨_, _, _, _, _, _, _, _, _, _, _, _, rfl, _⟩ := h; rfl) | (obtain ⟨_, _, _, _, _, _, _, _, _, _, _, _, _, rfl, _⟩ := h; rfl) | (obtain ⟨_, _, _, _, _, _, _, _, _, _, _, _, _, _, rfl, _⟩ := h; rfl) | (obtain ⟨_, _, _, _, _, _, _, _, _, _, _, _, _, _, _, rfl, _⟩ := h; rfl)
theorem fn_law_purse {f : Addr} {fd : FuncData} (F : Fun K "_law_purse" "_law_purse" s_law_purse f fd) (T : Txt mg) (C : CT K A)  : FnOk P w K mg base CX0 1 f fd ["script", "k", "seed"] (sp_law_purse K A) :=
  F.ok sc_law_purse (fun vs H Q E h => ln_law_purse h) (fun cdv Ar outer s H vs Q E hr h => ⟨t_law_purse K A, (pss_cons (ps_set (i := 3) sc_law_purse.nd rfl (by first | exact Or.inl rfl | exact Or.inr rfl) pe_int)
  (pss_cons (ps_if (pt_cmpR op_lt (pv 1) (pe_callB (call_min2 rfl) (by rfl) T.b_min (by decide +kernel) (pa_cons pe_int (pa_cons (pe_callB call_len_seq (by rfl) T.b_len (by decide +kernel) (pa_cons (pv 0) pa_nil)) pa_nil))) (nomark _)) (pss_one (ps_set (i := 3) sc_law_purse.nd rfl (by first | exact Or.inl rfl | exact Or.inr rfl) (pe_callB call_abs (by rfl) T.b_abs (by decide +kernel) (pa_cons (pe_ix ix_list (pv 0) (pv 1) (fun _ _ => rfl)) pa_nil)))) pss_nil)
  (pss_cons (ps_set (i := 4) sc_law_purse.nd rfl (by first | exact Or.inl rfl | exact Or.inr rfl) (pe_op op_mod (pe_callTy call_int1 (by rfl) T.b_int (by decide +kernel) (pa_cons (pe_op op_add (pe_op op_add (pe_op op_add (pe_op op_mul (pv 2) pe_int) (pe_op op_mul (pv 3) pe_int)) (pe_op op_mul (pv 1) pe_int)) pe_int) pa_nil)) pe_int))
  (pss_cons (ps_if (pt_cmpR op_lt (pv 3) (pe_op op_pow pe_int pe_int) (nomark _)) (pss_one (ps_set (i := 3) sc_law_purse.nd rfl (by first | exact Or.inl rfl | exact Or.inr rfl) pe_int)) pss_nil)
  (pss_one (ps_ret (pe_lst (pa_cons (pv 3) (pa_cons (pv 4) (pa_cons pe_int pa_nil)))))))))), rd_law_purse h⟩)
theorem bi_law_purse {f : Addr} {fd : FuncData} (F : Fun K "_law_purse" "_law_purse" s_law_purse f fd) : Binds K fd ["script", "k", "seed"] [] := F.binds fun _ _ _ _ _ _ us hl => match us, hl with | [_, _, _], _ => rfl
abbrev s_law_take : Stmt := topS 5
theorem sc_law_take : FnScope ["purse", "many", "digit", "mixed"] ["purse", "many"] (defScope s_law_take) := ⟨rfl, rfl, rfl, by decide +kernel, rfl, by decide +kernel, by decide +kernel⟩
theorem ln_law_take {vs : List V} {H : Hp} {Q : VK} {E : XK} (h : sp_law_take K A vs H Q E) : vs.length = 2 := by
  first | (obtain ⟨_, rfl, _⟩ := h; rfl) | (obtain ⟨_, _, rfl, _⟩ := h; rfl) | (obtain ⟨_, _, _, rfl, _⟩ := h; rfl) | (obtain ⟨_, _, _, _, rfl, _⟩ := h; rfl) | (obtain ⟨_, _, _, _, _, rfl, _⟩ := h; rfl) | (obtain ⟨_, _, _, _, _, _, rfl, _⟩ := h; rfl) | (obtain ⟨_, _, _, _, _, _, _, rfl, _⟩ := h; rfl) | (obtain ⟨_, _, _, _, _, _, _, _, rfl, _⟩ := h; rfl) | (obtain ⟨_, _, _, _, _, _, _, _, _, rfl, _⟩ := h; rfl) | (obtain ⟨_, _, _, _, _, _, _, _, _, _, rfl, _⟩ := h; rfl) | (obtain ⟨_, _, _, _, _, _, _, _, _, _, _, rfl, _⟩ := h; rfl) | (obtain ⟨_, _, _, _, _, _, _, _, _, _, _, _, rfl, _⟩ := h; rfl) | (obtain ⟨_, _, _, _, _, _, _, _, _, _, _, _, _, rfl, _⟩ := h; rfl) | (obtain ⟨_, _, _, _, _, _, _, _, _, _, _, _, _, _, rfl, _⟩ := h; rfl) | (obtain ⟨_, _, _, _, _, _, _, _, _, _, _, _, _, _, _, rfl, _⟩ := h; rfl)
theorem fn_law_take {f : Addr} {fd : FuncData} (F : Fun K "_law_take" "_law_take" s_law_take f fd) (T : Txt mg) (C : CT K A)  : FnOk P w K mg base CX0 1 f fd ["purse", "many"] (sp_law_take K A) :=
  F.ok sc_law_take (fun vs H Q E h => ln_law_take h) (fun cdv Ar outer s H vs Q E hr h => ⟨t_law_take K A, (pss_cons (ps_if (pt_cmpR op_gt (pe_ix ix_list (pv 0) pe_int (fun _ _ => rfl)) pe_int (nomark _)) (pss_cons (ps_set (i := 2) sc_law_take.nd rfl (by first | exact Or.inl rfl | exact Or.inr rfl) (pe_op op_mod (pe_callTy call_int1 (by rfl) T.b_int (by decide +kernel) (pa_cons (pe_ix ix_list (pv 0) pe_int (fun _ _ => rfl)) pa_nil)) (pv 1)))
  (pss_cons (ps_asg (pe_op op_fdiv (pe_ix ix_list (pv 0) pe_int (fun _ _ => rfl)) (pv 1)) (pg_sub (pv 0) pe_int set_list))
  (pss_one (ps_ret (pv 2))))) pss_nil)
  (pss_cons (ps_asg (pe_op op_add (pe_ix ix_list (pv 0) pe_int (fun _ _ => rfl)) pe_int) (pg_sub (pv 0) pe_int set_list))
  (pss_cons (ps_asg (pe_op op_mod (pe_callTy call_int1 (by rfl) T.b_int (by decide +kernel) (pa_cons (pe_op op_add (pe_op op_add (pe_op op_mul (pe_ix ix_list (pv 0) pe_int (fun _ _ => rfl)) pe_int) (pe_op op_mul (pe_ix ix_list (pv 0) pe_int (fun _ _ => rfl)) pe_int)) pe_int) pa_nil)) pe_int) (pg_sub (pv 0) pe_int set_list))
  (pss_cons (ps_set (i := 3) sc_law_take.nd rfl (by first | exact Or.inl rfl | exact Or.inr rfl) (pe_op op_mod (pe_callTy call_int1 (by rfl) T.b_int (by decide +kernel) (pa_cons (pe_op op_add (pe_op op_mul (pe_ix ix_list (pv 0) pe_int (fun _ _ => rfl)) pe_int) (pe_op op_fdiv (pe_ix ix_list (pv 0) pe_int (fun _ _ => rfl)) pe_int)) pa_nil)) pe_int))
  (pss_one (ps_ret (pe_op op_mod (pe_callTy call_int1 (by rfl) T.b_int (by decide +kernel) (pa_cons (pe_op op_fdiv (pv 3) pe_int) pa_nil)) (pv 1)))))))), rd_law_take h⟩)
theorem bi_law_take {f : Addr} {fd : FuncData} (F : Fun K "_law_take" "_law_take" s_law_take f fd) : Binds K fd ["purse", "many"] [] := F.binds fun _ _ _ _ _ _ us hl => match us, hl with | [_, _], _ => rfl
abbrev s_law_list : Stmt := topS 6
theorem sc_law_list : FnScope ["purse", "many", "large", "period", "shift", "k", "weights"] ["purse"] (defScope s_law_list) := ⟨rfl, rfl, rfl, by decide +kernel, rfl, by decide +kernel, by decide +kernel⟩
theorem ln_law_list {vs : List V} {H : Hp} {Q : VK} {E : XK} (h : sp_law_list K A vs H Q E) : vs.length = 1 := by
  first | (obtain ⟨_, rfl, _⟩ := h; rfl) | (obtain ⟨_, _, rfl, _⟩ := h; rfl) | (obtain ⟨_, _, _, rfl, _⟩ := h; rfl) | (obtain ⟨_, _, _, _, rfl, _⟩ := h; rfl) | (obtain ⟨_, _, _, _, _, rfl, _⟩ := h; rfl) | (obtain ⟨_, _, _, _, _, _, rfl, _⟩ := h; rfl) | (obtain ⟨_, _, _, _, _, _, _, rfl, _⟩ := h; rfl) | (obtain ⟨_, _, _, _, _, _, _, _, rfl, _⟩ := h; rfl) | (obtain ⟨_, _, _, _, _, _, _, _, _, rfl, _⟩ := h; rfl) | (obtain ⟨_, _, _, _, _, _, _, _, _, _, rfl, _⟩ := h; rfl) | (obtain ⟨_, _, _, _, _, _, _, _, _, _, _, rfl, _⟩ := h; rfl) | (obtain ⟨_, _, _, _, _, _, _, _, _, _, _, _, rfl, _⟩ := h; rfl) | (obtain ⟨_, _, _, _, _, _, _, _, _, _, _, _, _, rfl, _⟩ := h; rfl) | (obtain ⟨_, _, _, _, _, _, _, _, _, _, _, _, _, _, rfl, _⟩ := h; rfl) | (obtain ⟨_, _, _, _, _, _, _, _, _, _, _, _, _, _, _, rfl, _⟩ := h; rfl)
theorem fn_law_list {f : Addr} {fd : FuncData} (F : Fun K "_law_list" "_law_list" s_law_list f fd) (T : Txt mg) (C : CT K A) (C_law_take : C8.Cal P w K mg base 1 "_law_take" (sp_law_take K A) []) : FnOk P w K mg base CX0 2 f fd ["purse"] (sp_law_list K A) :=
  F.ok sc_law_list (fun vs H Q E h => ln_law_list h) (fun cdv Ar outer s H vs Q E hr h => ⟨t_law_list K A, (pss_cons (ps_set (i := 1) sc_law_list.nd rfl (by first | exact Or.inl rfl | exact Or.inr rfl) (pe_op op_add pe_int (C8.pe_c C_law_take hr (by decide) (by rfl) (pa_cons (pv 0) (pa_cons pe_int pa_nil)))))
  (pss_cons (ps_set (i := 2) sc_law_list.nd rfl (by first | exact Or.inl rfl | exact Or.inr rfl) (C8.pe_c C_law_take hr (by decide) (by rfl) (pa_cons (pv 0) (pa_cons pe_int pa_nil))))
  (pss_cons (ps_if (pt_cmpR op_eq (pv 2) pe_int (nomark _)) (pss_one (ps_set (i := 1) sc_law_list.nd rfl (by first | exact Or.inl rfl | exact Or.inr rfl) (pe_op op_add pe_int (C8.pe_c C_law_take hr (by decide) (by rfl) (pa_cons (pv 0) (pa_cons pe_int pa_nil)))))) pss_nil)
  (pss_cons (ps_if (PW.pt (pw_and (pt_cmpR op_eq (pv 2) pe_int (nomark _)) (pw_and1 (pt_cmpR op_eq (C8.pe_c C_law_take hr (by decide) (by rfl) (pa_cons (pv 0) (pa_cons pe_int pa_nil))) pe_int (nomark _))))) (pss_cons (ps_set (i := 1) sc_law_list.nd rfl (by first | exact Or.inl rfl | exact Or.inr rfl) (pe_op op_add pe_int (C8.pe_c C_law_take hr (by decide) (by rfl) (pa_cons (pv 0) (pa_cons pe_int pa_nil)))))
  (pss_cons (ps_set (i := 3) sc_law_list.nd rfl (by first | exact Or.inl rfl | exact Or.inr rfl) (pe_op op_add pe_int (C8.pe_c C_law_take hr (by decide) (by rfl) (pa_cons (pv 0) (pa_cons pe_int pa_nil)))))
  (pss_cons (ps_set (i := 4) sc_law_list.nd rfl (by first | exact Or.inl rfl | exact Or.inr rfl) (C8.pe_c C_law_take hr (by decide) (by rfl) (pa_cons (pv 0) (pa_cons pe_int pa_nil))))
  (pss_one (ps_ret (pe_lc (own := [("k", 5)]) (g := (gName 5)) (tt := tYes) rfl sc_law_list.nd (pi_range1 (by rfl) T.b_range (pa_cons (pv 1) pa_nil)) (blkOk_by (own := [("k", 5)]) (N := ["purse", "many", "large", "period", "shift", "k", "weights"]) (sc := defScope s_law_list) (by decide +kernel)) (fun _ _ _ _ _ => (pg_name (i := 5) sc_law_list.nd rfl (by first | exact Or.inl rfl | exact Or.inr rfl))) (fun _ _ _ _ _ => pts_nil) (fun _ _ _ _ _ => (pe_op op_add pe_int (pe_op op_mod (pe_callTy call_int1 (by rfl) T.b_int (by decide +kernel) (pa_cons (pe_op op_fdiv (pe_op op_add (pv 5) (pv 4)) (pv 3)) pa_nil)) pe_int))))))))) pss_nil)
  (pss_cons (ps_set (i := 6) sc_law_list.nd rfl (by first | exact Or.inl rfl | exact Or.inr rfl) (pe_lst pa_nil))
  (pss_cons (ps_for PassesOwn.never rfl (pi_range1 (by rfl) T.b_range (pa_cons (pv 1) pa_nil)) (pg_name (i := 5) sc_law_list.nd rfl (by first | exact Or.inl rfl | exact Or.inr rfl))
  (pss_one (ps_expr (pe_bm PySem.F.plainAttrs_list PySem.F.slot_list_append PySem.F.type_list_append mt_append (pv 6) (pa_cons (pe_op op_add pe_int (C8.pe_c C_law_take hr (by decide) (by rfl) (pa_cons (pv 0) (pa_cons pe_int pa_nil)))) pa_nil)))))
  (pss_one (ps_ret (pv 6))))))))), rd_law_list h⟩)
theorem bi_law_list {f : Addr} {fd : FuncData} (F : Fun K "_law_list" "_law_list" s_law_list f fd) : Binds K fd ["purse"] [] := F.binds fun _ _ _ _ _ _ us hl => match us, hl with | [_], _ => rfl
abbrev s_law_due : Stmt := topS 7
theorem sc_law_due : FnScope ["weights", "half"] ["weights"] (defScope s_law_due) := ⟨rfl, rfl, rfl, by decide +kernel, rfl, by decide +kernel, by decide +kernel⟩
theorem ln_law_due {vs : List V} {H : Hp} {Q : VK} {E : XK} (h : sp_law_due K A vs H Q E) : vs.length = 1 := by
  first | (obtain ⟨_, rfl, _⟩ := h; rfl) | (obtain ⟨_, _, rfl, _⟩ := h; rfl) | (obtain ⟨_, _, _, rfl, _⟩ := h; rfl) | (obtain ⟨_, _, _, _, rfl, _⟩ := h; rfl) | (obtain ⟨_, _, _, _, _, rfl, _⟩ := h; rfl) | (obtain ⟨_, _, _, _, _, _, rfl, _⟩ := h; rfl) | (obtain ⟨_, _, _, _, _, _, _, rfl, _⟩ := h; rfl) | (obtain ⟨_, _, _, _, _, _, _, _, rfl, _⟩ := h; rfl) | (obtain ⟨_, _, _, _, _, _, _, _, _, rfl, _⟩ := h; rfl) | (obtain ⟨_, _, _, _, _, _, _, _, _, _, rfl, _⟩ := h; rfl) | (obtain ⟨_, _, _, _, _, _, _, _, _, _, _, rfl, _⟩ := h; rfl) | (obtain ⟨_, _, _, _, _, _, _, _, _, _, _, _, rfl, _⟩ := h; rfl) | (obtain ⟨_, _, _, _, _, _, _, _, _, _, _, _, _, rfl, _⟩ := h; rfl) | (obtain ⟨_, _, _, _, _, _, _, _, _, _, _, _, _, _, rfl, _⟩ := h; rfl) | (obtain ⟨_, _, _, _, _, _, _, _, _, _, _, _, _, _, _, rfl, _⟩ := h; rfl)
theorem fn_law_due {f : Addr} {fd : FuncData} (F : Fun K "_law_due" "_law_due" s_law_due f fd) (T : Txt mg) (C : CT K A)  : FnOk P w K mg base CX0 1 f fd ["weights"] (sp_law_due K A) :=
  F.ok sc_law_due (fun vs H Q E h => ln_law_due h) (fun cdv Ar outer s H vs Q E hr h => ⟨t_law_due K A, (pss_cons (ps_set (i := 1) sc_law_due.nd rfl (by first | exact Or.inl rfl | exact Or.inr rfl) (pe_op op_fdiv (pe_callB call_len_seq (by rfl) T.b_len (by decide +kernel) (pa_cons (pv 0) pa_nil)) pe_int))
  (pss_cons (ps_if (pt_cmpR op_eq (pe_callB (cr_sum rfl) (by rfl) T.b_sum (by decide +kernel) (pa_cons (pe_slice sl_list (pv 0) po_none (po_some (pv 1))) pa_nil)) pe_int (nomark _)) (pss_one (ps_ret (pe_op op_add (pv 1) pe_int))) pss_nil)
  (pss_one (ps_ret (pv 1))))), rd_law_due h⟩)
theorem bi_law_due {f : Addr} {fd : FuncData} (F : Fun K "_law_due" "_law_due" s_law_due f fd) : Binds K fd ["weights"] [] := F.binds fun _ _ _ _ _ _ us hl => match us, hl with | [_], _ => rfl
abbrev s_law_cuts : Stmt := topS 8
theorem sc_law_cuts : FnScope ["weights", "given", "cut"] ["weights"] (defScope s_law_cuts) := ⟨rfl, rfl, rfl, by decide +kernel, rfl, by decide +kernel, by decide +kernel⟩
theorem ln_law_cuts {vs : List V} {H : Hp} {Q : VK} {E : XK} (h : sp_law_cuts K A vs H Q E) : vs.length = 1 := by
  first | (obtain ⟨_, rfl, _⟩ := h; rfl) | (obtain ⟨_, _, rfl, _⟩ := h; rfl) | (obtain ⟨_, _, _, rfl, _⟩ := h; rfl) | (obtain ⟨_, _, _, _, rfl, _⟩ := h; rfl) | (obtain ⟨_, _, _, _, _, rfl, _⟩ := h; rfl) | (obtain ⟨_, _, _, _, _, _, rfl, _⟩ := h; rfl) | (obtain ⟨_, _, _, _, _, _, _, rfl, _⟩ := h; rfl) | (obtain ⟨_, _, _, _, _, _, _, _, rfl, _⟩ := h; rfl) | (obtain ⟨_, _, _, _, _, _, _, _, _, rfl, _⟩ := h; rfl) | (obtain ⟨_, _, _, _, _, _, _, _, _, _, rfl, _⟩ := h; rfl) | (obtain ⟨_, _, _, _, _, _, _, _, _, _, _, rfl, _⟩ := h; rfl) | (obtain ⟨_, _, _, _, _, _, _, _, _, _, _, _, rfl, _⟩ := h; rfl) | (obtain ⟨_, _, _, _, _, _, _, _, _, _, _, _, _, rfl, _⟩ := h; rfl) | (obtain ⟨_, _, _, _, _, _, _, _, _, _, _, _, _, _, rfl, _⟩ := h; rfl) | (obtain ⟨_, _, _, _, _, _, _, _, _, _, _, _, _, _, _, rfl, _⟩ := h; rfl)
theorem fn_law_cuts {f : Addr} {fd : FuncData} (F : Fun K "_law_cuts" "_law_cuts" s_law_cuts f fd) (T : Txt mg) (C : CT K A) (C_law_due : C8.Cal P w K mg base 1 "_law_due" (sp_law_due K A) []) (C_cut_of : C8.Cal P w K mg base 1 "cut_of" (sp_cut_of K A) []) : FnOk P w K mg base CX0 2 f fd ["weights"] (sp_law_cuts K A) :=
  F.ok sc_law_cuts (fun vs H Q E h => ln_law_cuts h) (fun cdv Ar outer s H vs Q E hr h => ⟨t_law_cuts K A, (pss_cons (ps_set (i := 1) sc_law_cuts.nd rfl (by first | exact Or.inl rfl | exact Or.inr rfl) (pe_callTy call_list_of (by rfl) T.b_list (by decide +kernel) (pa_cons (pv 0) pa_nil)))
  (pss_cons (ps_set (i := 2) sc_law_cuts.nd rfl (by first | exact Or.inl rfl | exact Or.inr rfl) (C8.pe_c C_cut_of hr (by decide) (by rfl) (pa_cons (pv 1) pa_nil)))
  (pss_cons (ps_if (PW.pt (pw_or (pt_not (pt_val (pe_callB call_isi (by rfl) T.b_isinstance (by decide +kernel) (pa_cons (pv 2) (pa_cons (pe_bltn (v := .ty "int") (by rfl) T.b_int (by decide +kernel) rfl) pa_nil))) (by intro _; rfl))) (pw_or (pt_val (pe_callB call_isi (by rfl) T.b_isinstance (by decide +kernel) (pa_cons (pv 2) (pa_cons (pe_bltn (v := .ty "bool") (by rfl) T.b_bool (by decide +kernel) rfl) pa_nil))) (by intro _; rfl)) (pw_or1 (pt_cmpR (op_neD hr.units) (pv 1) (pv 0) (nomark _)))))) (pss_one (ps_ret pe_bl)) pss_nil)
  (pss_cons (ps_if (PW.pt (pw_or (pt_cmpR op_ne (pv 2) (C8.pe_c C_law_due hr (by decide) (by rfl) (pa_cons (pv 0) pa_nil)) (nomark _)) (pw_or1 (pt_cmpR op_ne (C8.pe_c C_cut_of hr (by decide) (by rfl) (pa_cons (pv 1) pa_nil)) (pv 2) (nomark _))))) (pss_one (ps_ret pe_bl)) pss_nil)
  (pss_cons (ps_if (PW.pt (pw_and (pt_cmpR op_ge (pe_callB (cr_sum rfl) (by rfl) T.b_sum (by decide +kernel) (pa_cons (pv 0) pa_nil)) pe_int (nomark _)) (pw_and1 (PW.pt (pw_or (pt_cmpR op_lt (pe_callB (cr_sum rfl) (by rfl) T.b_sum (by decide +kernel) (pa_cons (pe_slice sl_list (pv 0) po_none (po_some (pv 2))) pa_nil)) pe_int (nomark _)) (pw_or1 (pt_cmpR op_lt (pe_callB (cr_sum rfl) (by rfl) T.b_sum (by decide +kernel) (pa_cons (pe_slice sl_list (pv 0) (po_some (pv 2)) po_none) pa_nil)) pe_int (nomark _)))))))) (pss_one (ps_ret pe_bl)) pss_nil)
  (pss_one (ps_ret pe_bl))))))), rd_law_cuts h⟩)
theorem bi_law_cuts {f : Addr} {fd : FuncData} (F : Fun K "_law_cuts" "_law_cuts" s_law_cuts f fd) : Binds K fd ["weights"] [] := F.binds fun _ _ _ _ _ _ us hl => match us, hl with | [_], _ => rfl
abbrev s_law : Stmt := topS 9
theorem sc_law : FnScope ["script", "seed", "weights", "many", "purse", "at", "other", "lists", "k", "weight", "one"] ["script"] (defScope s_law) := ⟨rfl, rfl, rfl, by decide +kernel, rfl, by decide +kernel, by decide +kernel⟩
theorem ln_law {vs : List V} {H : Hp} {Q : VK} {E : XK} (h : sp_law K A vs H Q E) : vs.length = 1 := by
  first | (obtain ⟨_, rfl, _⟩ := h; rfl) | (obtain ⟨_, _, rfl, _⟩ := h; rfl) | (obtain ⟨_, _, _, rfl, _⟩ := h; rfl) | (obtain ⟨_, _, _, _, rfl, _⟩ := h; rfl) | (obtain ⟨_, _, _, _, _, rfl, _⟩ := h; rfl) | (obtain ⟨_, _, _, _, _, _, rfl, _⟩ := h; rfl) | (obtain ⟨_, _, _, _, _, _, _, rfl, _⟩ := h; rfl) | (obtain ⟨_, _, _, _, _, _, _, _, rfl, _⟩ := h; rfl) | (obtain ⟨_, _, _, _, _, _, _, _, _, rfl, _⟩ := h; rfl) | (obtain ⟨_, _, _, _, _, _, _, _, _, _, rfl, _⟩ := h; rfl) | (obtain ⟨_, _, _, _, _, _, _, _, _, _, _, rfl, _⟩ := h; rfl) | (obtain ⟨_, _, _, _, _, _, _, _, _, _, _, _, rfl, _⟩ := h; rfl) | (obtain ⟨_, _, _, _, _, _, _, _, _, _, _, _, _, rfl, _⟩ := h; rfl) | (obtain ⟨_, _, _, _, _, _, _, _, _, _, _, _, _, _, rfl, _⟩ := h; rfl) | (obtain ⟨_, _, _, _, _, _, _, _, _, _, _, _, _, _, _, rfl, _⟩ := h; rfl)
theorem fn_law {f : Addr} {fd : FuncData} (F : Fun K "law" "law" s_law f fd) (T : Txt mg) (C : CT K A) (C_law_cuts : C8.Cal P w K mg base 2 "_law_cuts" (sp_law_cuts K A) []) (C_law_fold : C8.Cal P w K mg base 1 "_law_fold" (sp_law_fold K A) []) (C_law_list : C8.Cal P w K mg base 2 "_law_list" (sp_law_list K A) []) (C_law_purse : C8.Cal P w K mg base 1 "_law_purse" (sp_law_purse K A) []) (C_law_take : C8.Cal P w K mg base 1 "_law_take" (sp_law_take K A) []) : FnOk P w K mg base CX0 3 f fd ["script"] (sp_law K A) :=
  F.ok sc_law (fun vs H Q E h => ln_law h) (fun cdv Ar outer s H vs Q E hr h => ⟨t_law K A, (pss_cons (ps_set (i := 1) sc_law.nd rfl (by first | exact Or.inl rfl | exact Or.inr rfl) (C8.pe_c C_law_fold hr (by decide) (by rfl) (pa_cons (pv 0) pa_nil)))
  (pss_cons (ps_set (i := 2) sc_law.nd rfl (by first | exact Or.inl rfl | exact Or.inr rfl) (C8.pe_c C_law_list hr (by decide) (by rfl) (pa_cons (C8.pe_c C_law_purse hr (by decide) (by rfl) (pa_cons (pv 0) (pa_cons pe_int (pa_cons (pv 1) pa_nil)))) pa_nil)))
  (pss_cons (ps_set (i := 3) sc_law.nd rfl (by first | exact Or.inl rfl | exact Or.inr rfl) (pe_callB call_len_seq (by rfl) T.b_len (by decide +kernel) (pa_cons (pv 2) pa_nil)))
  (pss_cons (ps_set (i := 4) sc_law.nd rfl (by first | exact Or.inl rfl | exact Or.inr rfl) (C8.pe_c C_law_purse hr (by decide) (by rfl) (pa_cons (pv 0) (pa_cons pe_int (pa_cons (pv 1) pa_nil)))))
  (pss_cons (ps_set (i := 5) sc_law.nd rfl (by first | exact Or.inl rfl | exact Or.inr rfl) (C8.pe_c C_law_take hr (by decide) (by rfl) (pa_cons (pv 4) (pa_cons (pv 3) pa_nil))))
  (pss_cons (ps_set (i := 6) sc_law.nd rfl (by first | exact Or.inl rfl | exact Or.inr rfl) (pe_callTy call_list_of (by rfl) T.b_list (by decide +kernel) (pa_cons (pv 2) pa_nil)))
  (pss_cons (ps_asg (pe_op op_sub pe_int (pe_ix ix_list (pv 6) (pv 5) (fun _ _ => rfl))) (pg_sub (pv 6) (pv 5) set_list))
  (pss_cons (ps_set (i := 7) sc_law.nd rfl (by first | exact Or.inl rfl | exact Or.inr rfl) (pe_lst (pa_cons (pv 2) (pa_cons (pv 6) pa_nil))))
  (pss_cons (ps_expr (pe_bm PySem.F.plainAttrs_list PySem.F.slot_list_append PySem.F.type_list_append mt_append (pv 7) (pa_cons (pe_lc (own := [("k", 8)]) (g := (gName 8)) (tt := tYes) rfl sc_law.nd (pi_range1 (by rfl) T.b_range (pa_cons (pv 3) pa_nil)) (blkOk_by (own := [("k", 8)]) (N := ["script", "seed", "weights", "many", "purse", "at", "other", "lists", "k", "weight", "one"]) (sc := defScope s_law) (by decide +kernel)) (fun _ _ _ _ _ => (pg_name (i := 8) sc_law.nd rfl (by first | exact Or.inl rfl | exact Or.inr rfl))) (fun _ _ _ _ _ => pts_nil) (fun _ _ _ _ _ => (pe_ix ix_list (pv 2) (pe_op op_sub (pe_op op_sub (pv 3) pe_int) (pv 8)) (fun _ _ => rfl)))) pa_nil)))
  (pss_cons (ps_expr (pe_bm PySem.F.plainAttrs_list PySem.F.slot_list_append PySem.F.type_list_append mt_append (pv 7) (pa_cons (pe_lc (own := [("weight", 9)]) (g := (gName 9)) (tt := tYes) rfl sc_law.nd (pi_list (pv 2)) (blkOk_by (own := [("weight", 9)]) (N := ["script", "seed", "weights", "many", "purse", "at", "other", "lists", "k", "weight", "one"]) (sc := defScope s_law) (by decide +kernel)) (fun _ _ _ _ _ => (pg_name (i := 9) sc_law.nd rfl (by first | exact Or.inl rfl | exact Or.inr rfl))) (fun _ _ _ _ _ => pts_nil) (fun _ _ _ _ _ => (pe_op op_sub pe_int (pv 9)))) pa_nil)))
  (pss_cons (ps_expr (pe_bm PySem.F.plainAttrs_list PySem.F.slot_list_append PySem.F.type_list_append mt_append (pv 7) (pa_cons (pe_op op_cat (pv 2) (pe_lst (pa_cons (pe_op op_add pe_int (C8.pe_c C_law_take hr (by decide) (by rfl) (pa_cons (pv 4) (pa_cons pe_int pa_nil)))) pa_nil))) pa_nil)))
  (pss_cons (ps_expr (pe_bm PySem.F.plainAttrs_list PySem.F.slot_list_append PySem.F.type_list_append mt_append (pv 7) (pa_cons (pe_op op_cat (pe_lst (pa_cons (pe_op op_add pe_int (C8.pe_c C_law_take hr (by decide) (by rfl) (pa_cons (pv 4) (pa_cons pe_int pa_nil)))) pa_nil)) (pv 2)) pa_nil)))
  (pss_cons (ps_expr (pe_bm PySem.F.plainAttrs_list PySem.F.slot_list_append PySem.F.type_list_append mt_append (pv 7) (pa_cons (pe_slice sl_list (pv 2) po_none (po_some pe_int)) pa_nil)))
  (pss_cons (ps_expr (pe_bm PySem.F.plainAttrs_list PySem.F.slot_list_append PySem.F.type_list_append mt_append (pv 7) (pa_cons (pe_slice sl_list (pe_op op_cat (pv 2) (pv 2)) po_none (po_some pe_int)) pa_nil)))
  (pss_cons (ps_for PassesOwn.never rfl (pi_list (pv 7)) (pg_name (i := 10) sc_law.nd rfl (by first | exact Or.inl rfl | exact Or.inr rfl))
  (pss_one (ps_if (pt_not (pt_val (C8.pe_c C_law_cuts hr (by decide) (by rfl) (pa_cons (pv 10) pa_nil)) (by intro _; rfl))) (pss_one (ps_ret pe_bl)) pss_nil)))
  (pss_one (ps_ret pe_bl))))))))))))))))), rd_law h⟩)
theorem bi_law {f : Addr} {fd : FuncData} (F : Fun K "law" "law" s_law f fd) : Binds K fd ["script"] [] := F.binds fun _ _ _ _ _ _ us hl => match us, hl with | [_], _ => rfl

/-! ### the head: facts by names, the run -/
def d_cut_of : He.DefD := ⟨("cut_of", none), "cut_of", "cut_of", defArgs s_cut_of, defBody s_cut_of, defScope s_cut_of, [], []⟩
def d_law_fold : He.DefD := ⟨("_law_fold", none), "_law_fold", "_law_fold", defArgs s_law_fold, defBody s_law_fold, defScope s_law_fold, [], []⟩
def d_law_purse : He.DefD := ⟨("_law_purse", none), "_law_purse", "_law_purse", defArgs s_law_purse, defBody s_law_purse, defScope s_law_purse, [], []⟩
def d_law_take : He.DefD := ⟨("_law_take", none), "_law_take", "_law_take", defArgs s_law_take, defBody s_law_take, defScope s_law_take, [], []⟩
def d_law_list : He.DefD := ⟨("_law_list", none), "_law_list", "_law_list", defArgs s_law_list, defBody s_law_list, defScope s_law_list, [], []⟩
def d_law_due : He.DefD := ⟨("_law_due", none), "_law_due", "_law_due", defArgs s_law_due, defBody s_law_due, defScope s_law_due, [], []⟩
def d_law_cuts : He.DefD := ⟨("_law_cuts", none), "_law_cuts", "_law_cuts", defArgs s_law_cuts, defBody s_law_cuts, defScope s_law_cuts, [], []⟩
def d_law : He.DefD := ⟨("law", none), "law", "law", defArgs s_law, defBody s_law, defScope s_law, [], []⟩
def fnS : List He.DefD := [d_cut_of, d_law_fold, d_law_purse, d_law_take, d_law_list, d_law_due, d_law_cuts, d_law]
def fa0 : List He.Fa := [.glo "cut_of", .glo "_law_fold", .glo "_law_purse", .glo "_law_take", .glo "_law_list", .glo "_law_due", .glo "_law_cuts", .glo "law", .free "abs", .free "bool", .free "int", .free "isinstance", .free "len", .free "list", .free "min", .free "range", .free "sum"]
def faS : List He.Fa := fa0
def looseS : List PySem.Str := (["cut_of", "_law_fold", "_law_purse", "_law_take", "_law_list", "_law_due", "_law_cuts"] : List PySem.Str)
abbrev RowS : PySem.W.OpenRow := PySem.W.OpenLaw.row PySem.Challenge.rw_onecopy_k35_cut
abbrev hkS : PySem.W.Hook := He.hookD 4 faS fnS
def obS (s : PySem.W.SharedT) : He.AlD := He.obsDG 4 faS fnS (HandSHeadRun.getT s)
theorem obS_eq (s : PySem.W.SharedT) : obS s = hkS.obs s.abs := He.obsDG_eq (HandSHeadRun.getT_eq s)
theorem runS (w : World) : HandSHeadRun.RunEq RowS (PySem.W.view RowS.prog [9]) hkS obS 6000 looseS w := by
  intro os
  kernel_rfl
theorem factsS {P : Program} {w : World} {K : PySem.W.Frag} {h : Heap} {mg : Str → Option Value} {fa : Addr} (X : K.In h) (GN : h.Ns mainGlobals mg) (hfa : mg ("law" : Str) = some (.ref fa)) (c : He.SaysD faS fnS K) :
    ∃ fd : FuncData, (∀ (s : Shared) (v : Value), BindsTo s fd ⟨[v], []⟩ [("script", v)]) ∧ ∀ base : Heap, K.In base → base.Ns mainGlobals mg → FnOk P w K mg base CX0 3 fa fd ["script"] (sp_law K ⟨⟩) := by
  have T : Txt mg := ⟨He.free_ok X GN (c.fact 8 (f := .free "abs") rfl), He.free_ok X GN (c.fact 9 (f := .free "bool") rfl), He.free_ok X GN (c.fact 10 (f := .free "int") rfl), He.free_ok X GN (c.fact 11 (f := .free "isinstance") rfl), He.free_ok X GN (c.fact 12 (f := .free "len") rfl), He.free_ok X GN (c.fact 13 (f := .free "list") rfl), He.free_ok X GN (c.fact 14 (f := .free "min") rfl), He.free_ok X GN (c.fact 15 (f := .free "range") rfl), He.free_ok X GN (c.fact 16 (f := .free "sum") rfl)⟩
  have C : CT K ⟨⟩ := ⟨⟩
  have e := hfa.symm.trans (He.glo_ok X GN (c.fact 7 (f := .glo "law") rfl))
  cases e
  obtain ⟨fd0, D0⟩ := c.def_ 0 (d := d_cut_of) rfl
  have F0 := He5.fun_of (st := s_cut_of) D0
  obtain ⟨fd1, D1⟩ := c.def_ 1 (d := d_law_fold) rfl
  have F1 := He5.fun_of (st := s_law_fold) D1
  obtain ⟨fd2, D2⟩ := c.def_ 2 (d := d_law_purse) rfl
  have F2 := He5.fun_of (st := s_law_purse) D2
  obtain ⟨fd3, D3⟩ := c.def_ 3 (d := d_law_take) rfl
  have F3 := He5.fun_of (st := s_law_take) D3
  obtain ⟨fd4, D4⟩ := c.def_ 4 (d := d_law_list) rfl
  have F4 := He5.fun_of (st := s_law_list) D4
  obtain ⟨fd5, D5⟩ := c.def_ 5 (d := d_law_due) rfl
  have F5 := He5.fun_of (st := s_law_due) D5
  obtain ⟨fd6, D6⟩ := c.def_ 6 (d := d_law_cuts) rfl
  have F6 := He5.fun_of (st := s_law_cuts) D6
  obtain ⟨fd7, D7⟩ := c.def_ 7 (d := d_law) rfl
  have F7 := He5.fun_of (st := s_law) D7
  have b := FunD.bindsA (ps := ["script"]) D7 fun _ _ _ _ _ _ us hl => match us, hl with | [_], _ => rfl
  refine ⟨fd7, fun s v => b s [v] rfl, fun base _ _ => ?_⟩
  have C_cut_of : C8.Cal P w K mg base 1 "cut_of" (sp_cut_of K ⟨⟩) [] := ⟨_, _, _, [], fn_cut_of F0 T C , He.glo_ok X GN (c.fact 0 (f := .glo "cut_of") rfl), F0.kp, bi_cut_of F0, .nil⟩
  have C_law_fold : C8.Cal P w K mg base 1 "_law_fold" (sp_law_fold K ⟨⟩) [] := ⟨_, _, _, [], fn_law_fold F1 T C , He.glo_ok X GN (c.fact 1 (f := .glo "_law_fold") rfl), F1.kp, bi_law_fold F1, .nil⟩
  have C_law_purse : C8.Cal P w K mg base 1 "_law_purse" (sp_law_purse K ⟨⟩) [] := ⟨_, _, _, [], fn_law_purse F2 T C , He.glo_ok X GN (c.fact 2 (f := .glo "_law_purse") rfl), F2.kp, bi_law_purse F2, .nil⟩
  have C_law_take : C8.Cal P w K mg base 1 "_law_take" (sp_law_take K ⟨⟩) [] := ⟨_, _, _, [], fn_law_take F3 T C , He.glo_ok X GN (c.fact 3 (f := .glo "_law_take") rfl), F3.kp, bi_law_take F3, .nil⟩
  have C_law_list : C8.Cal P w K mg base 2 "_law_list" (sp_law_list K ⟨⟩) [] := ⟨_, _, _, [], fn_law_list F4 T C C_law_take, He.glo_ok X GN (c.fact 4 (f := .glo "_law_list") rfl), F4.kp, bi_law_list F4, .nil⟩
  have C_law_due : C8.Cal P w K mg base 1 "_law_due" (sp_law_due K ⟨⟩) [] := ⟨_, _, _, [], fn_law_due F5 T C , He.glo_ok X GN (c.fact 5 (f := .glo "_law_due") rfl), F5.kp, bi_law_due F5, .nil⟩
  have C_law_cuts : C8.Cal P w K mg base 2 "_law_cuts" (sp_law_cuts K ⟨⟩) [] := ⟨_, _, _, [], fn_law_cuts F6 T C C_law_due C_cut_of, He.glo_ok X GN (c.fact 6 (f := .glo "_law_cuts") rfl), F6.kp, bi_law_cuts F6, .nil⟩
  exact fn_law F7 T C C_law_cuts C_law_fold C_law_list C_law_purse C_law_take
end G

open PySem PySem.W PySem.Calls PyProof.Rows in
set_option maxRecDepth 100000 in
set_option maxHeartbeats 0 in
theorem PySem.Challenge.cw_onecopy_k35_cut_holds : PySem.Challenge.rw_onecopy_k35_cut.Holds := by
  w_on; o_law
  refine HandSHeadRun.head_any (r := OpenLaw.row PySem.Challenge.rw_onecopy_k35_cut) (q := view (OpenLaw.row PySem.Challenge.rw_onecopy_k35_cut).prog [9]) (H := G.hkS) (ob := G.obS) (M := 6000) (loose := G.looseS) (d := HandSHeadRun.topDef (OpenLaw.row PySem.Challenge.rw_onecopy_k35_cut).prog 9) (kwd := []) G.obS_eq
    (by kernel_rfl) (fun s => by kernel_rfl) G.runS (by kernel_rfl) (by kernel_rfl) (by kernel_rfl) (by rfl) (by first | assumption | decide +kernel) (by decide +kernel) ⟨rfl, rfl, rfl, rfl, rfl, by decide +kernel⟩ ?hw ?hc
  case hw => w_witness2
  case hc =>
    refine L2.walk_ofE (l := PySem.Challenge.rw_onecopy_k35_cut) (n := 63) (k := 3) (x := "script") (CX := L2.CX0) rfl (by decide) (by kernel_rfl) ⟨rfl, by decide, by decide⟩ ?F (fun _ _ _ _ z => z)
    intro w mg fa h Y GN hmg0
    obtain ⟨K, KX, c⟩ := Y
    have hmg : mg ("law" : PySem.Str) = some (.ref fa) := by
      have e : (HandSHeadRun.topDef (OpenLaw.row PySem.Challenge.rw_onecopy_k35_cut).prog 9).name = ("law" : PySem.Str) := by kernel_rfl
      rw [← e]
      exact hmg0
    obtain ⟨fd, hb, hF⟩ := G.factsS (P := (PySem.Challenge.rw_onecopy_k35_cut).prog) (w := w) KX GN hmg c
    exact ⟨K, fd, G.sp_law K _, KX, hb, fun H a ns hl _ hS => ⟨a, ns, rfl, hS, hl, fun _ => rfl⟩, hF⟩