import PyProof.Rows.All
import Wide.All
import OpenK.AllK
import Wide.FinOn
import HandS.ForMost
import HandS.Deep
import HandS.Flow
import HandS.IsInst
import HandS.Conv
import HandS.SortRule
import HandS.SortInts
import HandS.SetFor
import HandS.More
import HandS.Codes
import HandS.Style
import HandS.Walk
import HandS.ForExc
import HandS.ExcInit
import HandS.ExcField
import HandS.ExcIs
import HandS.ExcOwn
import HandS.TryOnly
import HandS.WordsExc
import HandS.HotCalls
import HandS.OwnEq
import HandS.Property
import OpenK.KMeth
import KE.KExcIs
import KE.KStateDown
import HandS.Defaults
import HandS.Head0
import HandS.Head1
import HandS.Head2
import HandS.HeadEnd
import HandS.HeadHook1
import HandS.HeadHook2
import HandS.HeadNt
import PySem.Challenge.RW_onecopy_k28_stretch_sums
set_option Elab.async false
set_option linter.all false
set_option maxRecDepth 100000
set_option maxHeartbeats 4000000

/-! The ground: relations under names of their own, steps of a reading, facts of heaps. -/
namespace G
open PySem PySem.Spec PyProof.Rows L2

/-! ### relations by name -/
def oAdd : R2 := rI0 fun i j => .int (i + j)
def oSub : R2 := rI0 fun i j => .int (i - j)
def oMul : R2 := rI CMul fun i j => .int (i * j)
def oDiv : R2 := rI CDiv fun i j => .int (i / j)
def oMod : R2 := rI (fun _ j => 0 < j) fun i j => .int (i % j)
def oPow : R2 := rI CPow fun i j => .int (i ^ j.toNat)
def oLt : R2 := rI0 fun i j => .bl (decide (i < j))
def oLe : R2 := rI0 fun i j => .bl (decide (i ≤ j))
def oGt : R2 := rI0 fun i j => .bl (decide (j < i))
def oGe : R2 := rI0 fun i j => .bl (decide (j ≤ i))
def oNeg : V → Hp → VK → Prop := rU fun i => .int (-i)
abbrev RL := List V → Hp → VK → Prop
def oAbs : RL := fun xs H Q => ∃ i, xs = [.int i] ∧ Q (.int (if i < 0 then -i else i)) H
def oMax2 : RL := fun xs H Q => ∃ i j, xs = [.int i, .int j] ∧ Q (.int (if j > i then j else i)) H
def oMin2 : RL := fun xs H Q => ∃ i j, xs = [.int i, .int j] ∧ Q (.int (if j < i then j else i)) H
def oInt : RL := fun xs H Q => (∃ i, xs = [.int i] ∧ Q (.int i) H) ∨ ∃ k, xs = [.bl k] ∧ Q (.int (if k then 1 else 0)) H
def rLenQ (K : PySem.W.Frag) : RL := fun xs H Q => ∃ p ys, xs = [.ref p] ∧ (SqL K H p ys ∨ SqT K H p ys) ∧ Q (.int ys.length) H
def oListOf (K : PySem.W.Frag) : RL := fun xs H Q => ∃ p ys, xs = [.ref p] ∧ (SqL K H p ys ∨ SqT K H p ys) ∧ ∀ l, H l = none → Q (.ref l) (upd H l (.lst ys))
def oListD : RL := fun xs H Q => ∃ d kvs, xs = [V.ref d] ∧ Rd H d (.dT kvs) ∧ ∀ p bs, H p = none → IsKeys H kvs bs → Q (.ref p) (upd H p (.lst (bs.map V.ref)))
def oInsert : V → List V → Hp → VK → Prop := fun x vs H Q => ∃ (l : Addr) (xs : List V) (i : Int) (y : V), x = .ref l ∧ vs = [.int i, y] ∧ H l = some (.lst xs) ∧ xs.length < sizeLine ∧ 0 ≤ i ∧ i < 2 ^ 63 ∧
    Q .non (upd H l (.lst (xs.take i.toNat ++ [y] ++ xs.drop i.toNat)))
def tTruK (K : PySem.W.Frag) (ta : TE) : TT := fun σ H Q => ta σ H fun x H' => ∃ k, TruV K x H' k ∧ Q k H'

theorem hu65 {A : Around} {k : Nat} (hr : Room k A) : A.units + 65 < cLine := by have := hr.un; omega
/-- xs[i] op= e -/
theorem pget_list {X : Cx} : PGet X (rIxL X.K) := by
  intro pn st sg Hh xo yo vo uo Qo Io r1 r2 hyp
  obtain ⟨pp, items, ii, zz, rfl, rfl, hsq, hat, hQ⟩ := hyp
  cases r1
  obtain ⟨tk, rfl⟩ := r2
  obtain ⟨raw, rel, isl, _⟩ := Io.list hsq
  obtain ⟨jj, e1, e2, e3, e4, e5⟩ := atI_get hat
  obtain ⟨ww, e6, rw'⟩ := rel.get e2
  have hlen := rel.length
  have h63 := line63
  have done : EP X pn sg Qo ww st := ⟨zz, Hh, Io, rw', hQ⟩
  by_cases hn : 0 ≤ ii
  · have ej : ii.toNat = jj := by
      rw [seqIndex_of hn e5] at e1; exact Option.some.inj e1
    exact wpAny_getItem_list isl.isList hn (by omega) (by rw [ej]; simpa using e6) done
  · have ej : (ii + (raw.toArray.size : Int)).toNat = jj := by
      rw [seqIndex_neg (by omega) e4] at e1; rw [List.size_toArray, ← hlen]; exact Option.some.inj e1
    exact wpAny_getItem_list_neg isl.isList (by omega) (by rw [List.size_toArray] <;> omega) (by omega) (by rw [ej]; simpa using e6) done

/-! ### heaps -/
section
variable {H H' H1 H2 H3 : Hp} {p q s : Addr} {o o' : HO}
theorem keep (h : H q = some o) (hp : H p = none) : upd H p o' q = some o := by rw [upd_ne (ne_of_none h hp)]; exact h
theorem keepNe (h : H q = some o) (hp : q ≠ p) : upd H p o' q = some o := by rw [upd_ne hp]; exact h
theorem same_new (h : H p = none) : Same H (upd H p o) := fun _ _ e => keep e h
theorem same_mut (e : Same H H') (h : H p = none) : Same H (upd H' p o) := fun b u hb => by rw [upd_ne (ne_of_none hb h)]; exact e b u hb
/-- all that was tracked is as it was, s aside -/
def But (s : Addr) (H H' : Hp) : Prop := ∀ b o, b ≠ s → H b = some o → H' b = some o
theorem But.refl : But s H H := fun _ _ _ h => h
theorem Same.but (e : Same H H') : But s H H' := fun b o _ h => e b o h
theorem But.trans (a : But s H H1) (b : But s H1 H2) : But s H H2 := fun c o n h => b c o n (a c o n h)
theorem But.new (e : But s H H') (h : H' p = none) : But s H (upd H' p o) := fun b u n hb => keep (e b u n hb) h
theorem But.mut (e : But s H H') (h : H p = none) : But s H (upd H' p o) := fun b u n hb => by rw [upd_ne (ne_of_none hb h)]; exact e b u n hb
theorem But.self (e : But s H H') : But s H (upd H' s o) := fun b u n hb => by rw [upd_ne n]; exact e b u n hb
theorem But.free (e : But s H H') (h : H s = some o) (hs : H' s = some o') (hp : H' p = none) : H p = none := by
  cases q : H p with
  | none => rfl
  | some u =>
    by_cases hn : p = s
    · rw [hn, hs] at hp; cases hp
    · rw [e p u hn q] at hp; cases hp
theorem SqL.same {K : PySem.W.Frag} {xs : List V} (h : SqL K H p xs) (e : Same H H') : SqL K H' p xs := e.seq h
theorem SqL.but {K : PySem.W.Frag} {xs ys : List V} (e : But s H H') (hs : H s = some (.lst ys)) (hn : p ≠ s) (h : SqL K H p xs) : SqL K H' p xs := by
  rcases h with (h | ⟨o, h⟩) | h
  · exact .inl (.inl (e _ _ hn h))
  · exact .inl (.inr ⟨o, e _ _ hn h⟩)
  · exact .inr h
end

/-! ### steps -/
section
variable {K : PySem.W.Frag} {σ : L2.St} {H : Hp} {Q : VK} {D : Ends} {v x y : V} {i : Nat} {ta tb tc te tv to ti : TE} {t u : TS} {tt tu : TT} {tl tr : TA} {p C dx : Addr}
theorem w_seq (h : t { D with nx := u D } σ H) : tSeq t u D σ H := h
theorem w_next (h : D.nx σ H) : tNext D σ H := h
theorem w_ret (h : te σ H D.rt) : tRet te D σ H := h
theorem w_retN (h : D.rt .non H) : tRetN D σ H := h
theorem w_drop (h : te σ H fun _ H1 => D.nx σ H1) : tDrop te D σ H := h
theorem w_brk (h : D.bk σ H) : tBreak D σ H := h
theorem w_cont (h : D.ct σ H) : tCont D σ H := h
theorem w_asg {g : TG} (h : te σ H fun x H1 => g x σ H1 D.nx) : tAsg te g D σ H := h
theorem w_name {R : L2.St → Hp → Prop} (h : R (σ.set i (some v)) H) : gName i v σ H R := h
theorem w_sub {R : L2.St → Hp → Prop} {ts : TSet} (h : to σ H fun o H1 => ti σ H1 fun j H2 => ts o j v H2 fun H3 => R σ H3) : gSub to ti ts v σ H R := h
theorem w_setL {R : Hp → Prop} {xs : List V} {k : Int} {j : Nat} (h : H p = some (.lst xs)) (hj : ixN xs.length k = some j) (q : R (upd H p (.lst (xs.set j v)))) : rSetL (.ref p) (.int k) v H R := ⟨p, xs, k, j, rfl, rfl, h, hj, q⟩
theorem w_var (h : σ[i]? = some (some v)) (q : Q v H) : tVar i σ H Q := ⟨v, h, q⟩
theorem w_c (q : Q v H) : tC v σ H Q := q
theorem w_op {r : R2} (h : ta σ H fun x H1 => tb σ H1 fun y H2 => r x y H2 Q) : tOp r ta tb σ H Q := h
theorem w_un {r : V → Hp → VK → Prop} (h : ta σ H fun x H1 => r x H1 Q) : tUn r ta σ H Q := h
theorem w_oAdd {a b : Int} (q : Q (.int (a + b)) H) : oAdd (.int a) (.int b) H Q := ⟨a, b, rfl, rfl, q⟩
theorem w_oSub {a b : Int} (q : Q (.int (a - b)) H) : oSub (.int a) (.int b) H Q := ⟨a, b, rfl, rfl, q⟩
theorem w_oMulL {a b : Int} (h0 : -18446744073709551616 < a) (h1 : a < 18446744073709551616) (q : Q (.int (a * b)) H) : oMul (.int a) (.int b) H Q := ⟨a, b, rfl, rfl, .inl ⟨h0, h1⟩, q⟩
theorem w_oMulR {a b : Int} (h0 : -18446744073709551616 < b) (h1 : b < 18446744073709551616) (q : Q (.int (a * b)) H) : oMul (.int a) (.int b) H Q := ⟨a, b, rfl, rfl, .inr ⟨h0, h1⟩, q⟩
theorem w_oDiv {a b : Int} (h0 : 0 < b) (h1 : b < 1073741824) (q : Q (.int (a / b)) H) : oDiv (.int a) (.int b) H Q := ⟨a, b, rfl, rfl, ⟨h0, h1⟩, q⟩
theorem w_oMod {a b : Int} (hc : 0 < b) (q : Q (.int (a % b)) H) : oMod (.int a) (.int b) H Q := ⟨a, b, rfl, rfl, hc, q⟩
theorem w_oPow {a b : Int} (h0 : 0 ≤ b) (h1 : b ≤ 1000000) (h2 : a.natAbs < 18446744073709551616) (q : Q (.int (a ^ b.toNat)) H) : oPow (.int a) (.int b) H Q := ⟨a, b, rfl, rfl, ⟨h0, h1, h2⟩, q⟩
theorem w_oLt {a b : Int} (q : Q (.bl (decide (a < b))) H) : oLt (.int a) (.int b) H Q := ⟨a, b, rfl, rfl, q⟩
theorem w_oLe {a b : Int} (q : Q (.bl (decide (a ≤ b))) H) : oLe (.int a) (.int b) H Q := ⟨a, b, rfl, rfl, q⟩
theorem w_oGt {a b : Int} (q : Q (.bl (decide (b < a))) H) : oGt (.int a) (.int b) H Q := ⟨a, b, rfl, rfl, q⟩
theorem w_oGe {a b : Int} (q : Q (.bl (decide (b ≤ a))) H) : oGe (.int a) (.int b) H Q := ⟨a, b, rfl, rfl, q⟩
theorem w_oNeg {a : Int} (q : Q (.int (-a)) H) : oNeg (.int a) H Q := ⟨a, rfl, q⟩
theorem w_eqI {a b : Int} (q : Q (.bl (decide (a = b))) H) : rEq (.int a) (.int b) H Q := ⟨rfl, by
  have e : (decide (V.int a = V.int b)) = decide (a = b) := by simp
  rw [e]; exact q⟩
theorem w_neI {a b : Int} (q : Q (.bl (!decide (a = b))) H) : rNe (.int a) (.int b) H Q := ⟨rfl, by
  have e : (decide (V.int a = V.int b)) = decide (a = b) := by simp
  rw [e]; exact q⟩
theorem w_eqB {a b : Bool} (q : Q (.bl (decide (a = b))) H) : rEq (.bl a) (.bl b) H Q := ⟨rfl, by
  have e : (decide (V.bl a = V.bl b)) = decide (a = b) := by simp
  rw [e]; exact q⟩
theorem w_chain {r r' : R2} (h : ta σ H fun x H1 => tb σ H1 fun y H2 => r x y H2 fun z H3 => ∃ k, z = .bl k ∧ (if k = true then tc σ H3 fun w' H4 => r' y w' H4 Q else Q (.bl false) H3)) : tChain r r' ta tb tc σ H Q := h
/-- a known answer -/
theorem w_ex {P : Bool → Prop} {b : Bool} (q : P b) : ∃ k, V.bl b = .bl k ∧ P k := ⟨b, rfl, q⟩
theorem w_test {Qb : Bool → Hp → Prop} (h : te σ H fun x H' => ∃ k, x = .bl k ∧ Qb k H') : tTest te σ H Qb := h
theorem w_tB {Qb : Bool → Hp → Prop} (h : te σ H fun x H' => ∃ k, x = .bl k ∧ Qb k H') : tB te σ H Qb := h
theorem w_and {Qb : Bool → Hp → Prop} (h : tt σ H fun c H1 => if c = true then tu σ H1 Qb else Qb false H1) : tAnd tt tu σ H Qb := h
theorem w_or {Qb : Bool → Hp → Prop} (h : tt σ H fun c H1 => if c = true then Qb true H1 else tu σ H1 Qb) : tOr tt tu σ H Qb := h
theorem w_not {Qb : Bool → Hp → Prop} (h : tt σ H fun c H1 => Qb (!c) H1) : tNot tt σ H Qb := h
theorem w_andV (h : ta σ H fun x H1 => ∃ c, x = .bl c ∧ (if c = true then tb σ H1 Q else Q (.bl false) H1)) : tAndV ta tb σ H Q := h
theorem w_orV (h : ta σ H fun x H1 => ∃ c, x = .bl c ∧ (if c = true then Q (.bl true) H1 else tb σ H1 Q)) : tOrV ta tb σ H Q := h
theorem w_notV (h : ta σ H fun x H1 => ∃ c, x = .bl c ∧ Q (.bl (!c)) H1) : tNotV ta σ H Q := h
theorem w_if (h : tt σ H fun b H1 => if b = true then t D σ H1 else u D σ H1) : tIfS tt t u D σ H := h
theorem w_ifE (h : tt σ H fun c H1 => if c = true then ta σ H1 Q else tb σ H1 Q) : tIf tt ta tb σ H Q := h
theorem w_nil {Ql : List V → Hp → Prop} (h : Ql [] H) : tNil σ H Ql := h
theorem w_cons {Ql : List V → Hp → Prop} (h : ta σ H fun x H1 => tr σ H1 fun xs H2 => Ql (x :: xs) H2) : tCons ta tr σ H Ql := h
theorem w_tup (h : tl σ H fun xs H1 => xs.length ≤ sizeLine ∧ ∀ p, H1 p = none → Q (.ref p) (upd H1 p (.tup xs))) : tTup tl σ H Q := h
theorem w_lst (h : tl σ H fun xs H1 => xs.length ≤ sizeLine ∧ ∀ p, H1 p = none → Q (.ref p) (upd H1 p (.lst xs))) : tLst tl σ H Q := h
theorem w_small {n : Nat} {P : Prop} (hn : n ≤ 100) (h : P) : n ≤ sizeLine ∧ P := ⟨Nat.le_trans hn (by decide), h⟩
theorem w_call {sp : Sp} {E : XK} (h : tl σ H fun vs H1 => sp vs H1 Q E) : tCall sp [] E tl σ H Q := by
  show tl σ H fun vs H1 => sp (vs ++ []) H1 Q E
  simp only [List.append_nil]; exact h
theorem w_meth {sp : Sp} {m : Str} {E : XK} (h : ta σ H fun x H1 => ∃ a dx fs, x = .ref a ∧ H1 a = some (.ins C dx fs) ∧ fs.lookup m = none ∧ tl σ H1 fun vs H2 => sp (x :: vs) H2 Q E) : tMeth C m sp [] E ta tl σ H Q := by
  show ta σ H fun x H1 => ∃ a dx fs, x = .ref a ∧ H1 a = some (.ins C dx fs) ∧ fs.lookup m = none ∧ tl σ H1 fun vs H2 => sp (x :: (vs ++ [])) H2 Q E
  simp only [List.append_nil]; exact h
theorem w_make {sp : Sp} {E : XK} (h : tl σ H fun vs H1 => ∀ x dx, H1 x = none → H1 dx = none → dx ≠ x → sp (.ref x :: vs) (upd (upd H1 dx (.own x)) x (.ins C dx [])) (fun v H2 => v = .non ∧ Q (.ref x) H2) E) : tMake C sp [] E tl σ H Q := by
  show tl σ H fun vs H1 => ∀ x dx, H1 x = none → H1 dx = none → dx ≠ x → sp (.ref x :: (vs ++ [])) (upd (upd H1 dx (.own x)) x (.ins C dx [])) (fun v H2 => v = .non ∧ Q (.ref x) H2) E
  simp only [List.append_nil]; exact h
theorem w_cb {r : RL} (h : tl σ H fun vs H1 => r vs H1 Q) : tCB r tl σ H Q := h
theorem w_oInt {a : Int} (q : Q (.int a) H) : oInt [.int a] H Q := .inl ⟨a, rfl, q⟩
theorem w_oAbs {a : Int} (q : Q (.int (if a < 0 then -a else a)) H) : oAbs [.int a] H Q := ⟨a, rfl, q⟩
theorem w_oMax2 {a b : Int} (q : Q (.int (if b > a then b else a)) H) : oMax2 [.int a, .int b] H Q := ⟨a, b, rfl, q⟩
theorem w_oMin2 {a b : Int} (q : Q (.int (if b < a then b else a)) H) : oMin2 [.int a, .int b] H Q := ⟨a, b, rfl, q⟩
theorem w_lenL {xs : List V} (h : SqL K H p xs) (q : Q (.int xs.length) H) : rLenQ K [.ref p] H Q := ⟨p, xs, rfl, .inl h, q⟩
theorem w_listL {xs : List V} (h : SqL K H p xs) (q : ∀ l, H l = none → Q (.ref l) (upd H l (.lst xs))) : oListOf K [.ref p] H Q := ⟨p, xs, rfl, .inl h, q⟩
theorem w_ixL {xs : List V} {k : Int} (h : SqL K H p xs) (ha : atI xs k = some v) (q : Q v H) : rIxL K (.ref p) (.int k) H Q := ⟨p, xs, k, v, rfl, rfl, h, ha, q⟩
theorem w_ixT {xs : List V} {k : Int} (h : H p = some (.tup xs)) (ha : atI xs k = some v) (q : Q v H) : rIxT K (.ref p) (.int k) H Q := ⟨p, xs, k, v, rfl, rfl, .inl (.inl h), ha, q⟩
theorem w_fld {f : Str} (h : ta σ H fun x H1 => ∃ a C dx fs v, x = .ref a ∧ H1 a = some (.ins C dx fs) ∧ Cls K C ∧ NoAttr K C f ∧ fs.lookup f = some v ∧ Q v H1) : tFld K ta f σ H Q := h
theorem w_bm {Tn : String} {r : V → List V → Hp → VK → Prop} (h : to σ H fun x H1 => tyV K Tn x H1 ∧ tl σ H1 fun xs H2 => r x xs H2 Q) : tBM K Tn r to tl σ H Q := h
theorem w_bm0 {Tn : String} {r : V → List V → Hp → VK → Prop} (h : to σ H fun x H1 => tyV K Tn x H1 ∧ r x [] H1 Q) : tBM0 K Tn r to σ H Q := h
theorem w_tyL {P : Prop} {xs : List V} (h : SqL K H p xs) (q : P) : tyV K "list" (.ref p) H ∧ P := ⟨.inl ⟨rfl, xs, h⟩, q⟩
theorem w_append {xs : List V} (h : H p = some (.lst xs)) (hl : xs.length < sizeLine) (q : Q .non (upd H p (.lst (xs ++ [v])))) : rAppend (.ref p) [v] H Q := ⟨p, xs, v, rfl, rfl, h, hl, q⟩
theorem w_cat {b : Addr} {xs ys : List V} (h : H p = some (.lst xs)) (hb : H b = some (.lst ys)) (hl : xs.length + ys.length ≤ sizeLine) (q : ∀ l, H l = none → Q (.ref l) (upd H l (.lst (xs ++ ys)))) : rCat (.ref p) (.ref b) H Q := ⟨p, b, xs, ys, rfl, rfl, h, hb, hl, q⟩
theorem w_sl {r : V → Option Int → Option Int → Hp → VK → Prop} {lo hi : TO} (h : te σ H fun x H1 => lo σ H1 fun l H2 => hi σ H2 fun u H3 => r x l u H3 Q) : tSl r te lo hi σ H Q := h
theorem w_noPart {R : Option Int → Hp → Prop} (h : R none H) : tNoPart σ H R := h
theorem w_part {R : Option Int → Hp → Prop} (h : te σ H fun x H1 => ∃ i, x = .int i ∧ R (some i) H1) : tPart te σ H R := h
theorem w_exI {P : Int → Prop} {a : Int} (q : P a) : ∃ k, V.int a = .int k ∧ P k := ⟨a, rfl, q⟩
theorem w_slL {xs : List V} {lo hi : Option Int} (h : SqL K H p xs) (q : ∀ l, H l = none → Q (.ref l) (upd H l (.lst (cutV xs lo hi)))) : rSlL K (.ref p) lo hi H Q := ⟨p, xs, rfl, h, q⟩
theorem w_gNil {R : L2.St → Hp → Prop} (h : R σ H) : gNil [] σ H R := ⟨rfl, h⟩
theorem w_gCons {R : L2.St → Hp → Prop} {g : TG} {gs : TGs} {vs : List V} (h : g v σ H fun σ' H' => gs vs σ' H' R) : gCons g gs (v :: vs) σ H R := ⟨v, vs, rfl, h⟩
theorem w_gTup {R : L2.St → Hp → Prop} {n : Nat} {gs : TGs} {vs : List V} (h : H p = some (.tup vs)) (hn : vs.length = n) (q : gs vs σ H R) : gTup K n gs (.ref p) σ H R := ⟨p, vs, rfl, .inl (.inl h), hn, q⟩
theorem w_listRg {te : L2.St → Hp → (Int → Int → Hp → Prop) → Prop} (h : te σ H fun a b H1 => RgOk a b ∧ ∀ q, H1 q = none → Q (.ref q) (upd H1 q (.lst (rgV a b)))) : tLstRg te σ H Q := h
theorem w_rg1 {R : Int → Int → Hp → Prop} (h : ta σ H fun x H1 => ∃ n, x = .int n ∧ R 0 n H1) : tRg1 ta σ H R := h
theorem w_augS {tget : V → V → Hp → VK → Prop} {tip : TIp} {ts : TSet} (h : to σ H fun o H1 => ti σ H1 fun i H2 => tget o i H2 fun x H3 => te σ H3 fun y H4 => tip x y H4 fun z H5 => ts o i z H5 fun H6 => D.nx σ H6) : tAugS to ti te tget tip ts D σ H := h
theorem w_ipI {f : Int → Int → Int} {a b : Int} (q : Q (.int (f a b)) H) : ipI f (.int a) (.int b) H Q := ⟨a, b, rfl, rfl, q⟩
theorem w_sum {xs : List Int} (h : SqL K H p (xs.map V.int)) (q : Q (.int xs.sum) H) : rSum K [.ref p] H Q := ⟨p, xs, rfl, h, q⟩
theorem w_iteD {A B : Prop} {c : Prop} [Decidable c] (h1 : c → A) (h2 : ¬ c → B) : if decide c = true then A else B := by
  by_cases h : c
  · rw [decide_eq_true h]; exact h1 h
  · rw [decide_eq_false h, if_neg Bool.false_ne_true]; exact h2 h
theorem w_iteN {A B : Prop} {c : Prop} [Decidable c] (h1 : ¬ c → A) (h2 : c → B) : if (!decide c) = true then A else B := by
  by_cases h : c
  · rw [decide_eq_true h]; exact h2 h
  · rw [decide_eq_false h]; exact h1 h
theorem w_iteT {A B : Prop} (h : A) : if true = true then A else B := h
theorem w_iteF {A B : Prop} (h : B) : if false = true then A else B := by rw [if_neg Bool.false_ne_true]; exact h

theorem w_cut (M : L2.St → Hp → Prop) (h1 : t { D with nx := M } σ H) (h2 : ∀ σ1 H1, M σ1 H1 → u D σ1 H1) : C8.tCut t u D σ H := ⟨M, h1, h2⟩
theorem w_yes {R : Bool → Hp → Prop} (q : R true H) : tYes σ H R := q
theorem w_exA {P : Int → Prop} {n : Int} (q : P n) : ∃ m, [V.int n] = [V.int m] ∧ P m := ⟨n, rfl, q⟩
theorem w_exA2 {P : Int → Int → Prop} {n m : Int} (q : P n m) : ∃ a b, [V.int n, V.int m] = [V.int a, V.int b] ∧ P a b := ⟨n, m, rfl, q⟩
theorem w_exR {P : Addr → Prop} (q : P p) : ∃ m, V.ref p = .ref m ∧ P m := ⟨p, rfl, q⟩
theorem w_exRA {P : Addr → Prop} (q : P p) : ∃ m, [V.ref p] = [.ref m] ∧ P m := ⟨p, rfl, q⟩
theorem w_exRA2 {P : Addr → Addr → Prop} {p2 : Addr} (q : P p p2) : ∃ m m2, [V.ref p, .ref p2] = [.ref m, .ref m2] ∧ P m m2 := ⟨p, p2, rfl, q⟩
theorem w_acc {xs : List V} {P : List V → Prop} (h : H p = some (.lst xs)) (hl : xs.length < sizeLine) (q : P xs) : ∃ acc, H p = some (.lst acc) ∧ acc.length < sizeLine ∧ P acc := ⟨xs, h, hl, q⟩
theorem w_fld2 {P : V → Prop} {f : Str} {fs : List (Str × V)} (h : H p = some (.ins C dx fs)) (hc : Cls K C) (hn : NoAttr K C f) (hl : fs.lookup f = some v) (q : P v) :
    ∃ a C dx fs w, V.ref p = .ref a ∧ H a = some (.ins C dx fs) ∧ Cls K C ∧ NoAttr K C f ∧ fs.lookup f = some w ∧ P w := ⟨p, C, dx, fs, v, rfl, h, hc, hn, hl, q⟩
theorem w_mth {P : Addr → Prop} {m : Str} {fs : List (Str × V)} (h : H p = some (.ins C dx fs)) (hl : fs.lookup m = none) (q : P p) :
    ∃ a dx fs, V.ref p = .ref a ∧ H a = some (.ins C dx fs) ∧ fs.lookup m = none ∧ P p := ⟨p, dx, fs, rfl, h, hl, q⟩
theorem w_sfld {f : Str} (h : tv σ H fun y H1 => to σ H1 fun x H2 => ∃ a C dx fs, x = .ref a ∧ H2 a = some (.ins C dx fs) ∧ Cls K C ∧ NoAttr K C f ∧ fs.length < 1000 ∧ D.nx σ (upd H2 a (.ins C dx (putF f y fs)))) : sFld K to tv f D σ H := h
theorem w_sfld2 {P : Hp → Prop} {f : Str} {fs : List (Str × V)} (h : H p = some (.ins C dx fs)) (hc : Cls K C) (hn : NoAttr K C f) (hl : fs.length < 1000) (q : P (upd H p (.ins C dx (putF f v fs)))) :
    ∃ a C dx fs, V.ref p = .ref a ∧ H a = some (.ins C dx fs) ∧ Cls K C ∧ NoAttr K C f ∧ fs.length < 1000 ∧ P (upd H a (.ins C dx (putF f v fs))) := ⟨p, C, dx, fs, rfl, h, hc, hn, hl, q⟩
theorem w_never (h : False) : tNever D σ H := h
theorem w_augName {ti : TIp} (h : σ[i]? = some (some v)) (q : te σ H fun y H1 => ti v y H1 fun z H2 => D.nx (σ.set i (some z)) H2) : tAug i te ti D σ H := ⟨v, h, q⟩

theorem at0 {a : V} {r : List V} : atI (a :: r) 0 = some a := atI_nat (xs := a :: r) (j := 0) rfl
theorem at1 {a b : V} {r : List V} : atI (a :: b :: r) 1 = some b := atI_nat (xs := a :: b :: r) (j := 1) rfl
theorem at2 {a b c : V} {r : List V} : atI (a :: b :: c :: r) 2 = some c := atI_nat (xs := a :: b :: c :: r) (j := 2) rfl
theorem at3 {a b c d : V} {r : List V} : atI (a :: b :: c :: d :: r) 3 = some d := atI_nat (xs := a :: b :: c :: d :: r) (j := 3) rfl
theorem at4 {a b c d e : V} {r : List V} : atI (a :: b :: c :: d :: e :: r) 4 = some e := atI_nat (xs := a :: b :: c :: d :: e :: r) (j := 4) rfl
theorem ixn {n : Nat} {k : Int} {j : Nat} (e : k = (j : Int)) (h : j < n) : ixN n k = some j := by
  unfold ixN; rw [e, if_pos (by omega), if_pos (by omega)]; simp
theorem ix0 {a : V} {r : List V} : ixN (a :: r).length 0 = some 0 := ixn rfl (by simp)
theorem ix1 {a b : V} {r : List V} : ixN (a :: b :: r).length 1 = some 1 := ixn rfl (by simp)
theorem ix2 {a b c : V} {r : List V} : ixN (a :: b :: c :: r).length 2 = some 2 := ixn rfl (by simp)
theorem atn {xs : List V} {k : Int} {j : Nat} {v : V} (e : k = (j : Int)) (h : xs[j]? = some v) : atI xs k = some v := by rw [e]; exact atI_nat h
theorem ati {xs : List Int} {k : Int} (h0 : 0 ≤ k) (h1 : k < xs.length) : atI (xs.map V.int) k = some (V.int (xs.getD k.toNat 0)) := by
  refine atn (j := k.toNat) (by omega) ?_
  rw [List.getElem?_map, List.getElem?_eq_getElem (by omega), List.getD_eq_getElem?_getD, List.getElem?_eq_getElem (by omega)]; rfl

/-! ### loops -/
/-- a loop whose iterator has come -/
def ForW (J : It) (g : TG) (tb : TS) (D : Ends) (σ : L2.St) (H : Hp) : Prop := tFor (fun _ H R => R J H) g tb D σ H
theorem w_forR1 {g : TG} {tb : TS} (h : tl σ H fun vs H1 => ∃ n : Int, vs = [.int n] ∧ -(2 ^ 62) ≤ n ∧ n < 2 ^ 62 ∧ ForW (Itr 0 n.toNat) g tb D σ H1) : tFor (iRng1 tl) g tb D σ H := h
theorem w_forR2 {g : TG} {tb : TS} (h : tl σ H fun vs H1 => ∃ m n : Int, vs = [.int m, .int n] ∧ (-(2 ^ 62) ≤ m ∧ m < 2 ^ 62 ∧ -(2 ^ 62) ≤ n ∧ n < 2 ^ 62) ∧ ForW (Itr m (n - m).toNat) g tb D σ H1) : tFor (iRng2 tl) g tb D σ H := h
theorem w_forL {g : TG} {tb : TS} (h : te σ H fun x H1 => ∃ a, x = .ref a ∧ (∃ xs, SqL K H1 a xs) ∧ ForW (Itl K a) g tb D σ H1) : tFor (iList K te) g tb D σ H := h
theorem w_forZ {g : TG} {tb : TS} (h : tl σ H fun vs H1 => ∃ a b xs ys, vs = [.ref a, .ref b] ∧ SqL K H1 a xs ∧ SqL K H1 b ys ∧ ForW (Itz K a b) g tb D σ H1) : tFor (iZip K tl) g tb D σ H := h
theorem w_forE {g : TG} {tb : TS} (h : tl σ H fun vs H1 => ∃ a xs, vs = [.ref a] ∧ SqL K H1 a xs ∧ ForW (Ite K a) g tb D σ H1) : tFor (iEnum K tl) g tb D σ H := h
theorem w_bd1 {n : Int} {P : Prop} (h0 : -4611686018427387904 ≤ n) (h1 : n < 4611686018427387904) (q : P) : -(2 ^ 62) ≤ n ∧ n < 2 ^ 62 ∧ P := ⟨by omega, by omega, q⟩
theorem w_bd2 {m n : Int} {P : Prop} (h0 : -4611686018427387904 ≤ m) (h1 : m < 4611686018427387904) (h2 : -4611686018427387904 ≤ n) (h3 : n < 4611686018427387904) (q : P) : (-(2 ^ 62) ≤ m ∧ m < 2 ^ 62 ∧ -(2 ^ 62) ≤ n ∧ n < 2 ^ 62) ∧ P := ⟨⟨by omega, by omega, by omega, by omega⟩, q⟩
theorem w_sqE {xs : List V} {P : Prop} (h : SqL K H p xs) (q : P) : (∃ ys, SqL K H p ys) ∧ P := ⟨⟨xs, h⟩, q⟩
theorem forR {lo : Int} {n : Nat} {g : TG} {tb : TS} (Pv : Nat → L2.St → Hp → Prop) (h0 : Pv 0 σ H)
    (hs : ∀ i σ1 H1, i < n → Pv i σ1 H1 → g (.int (lo + i)) σ1 H1 fun σ2 H2 => tb { D with nx := Pv (i + 1), ct := Pv (i + 1), bk := D.nx } σ2 H2) (hd : ∀ σ1 H1, Pv n σ1 H1 → D.nx σ1 H1) : ForW (Itr lo n) g tb D σ H := for_range Pv h0 hs hd
theorem forL {a : Addr} {xs : List V} {g : TG} {tb : TS} (Pv : Nat → L2.St → Hp → Prop) (h0 : Pv 0 σ H) (hl : ∀ i σ1 H1, i ≤ xs.length → Pv i σ1 H1 → SqL K H1 a xs)
    (hs : ∀ i x σ1 H1, xs[i]? = some x → Pv i σ1 H1 → g x σ1 H1 fun σ2 H2 => tb { D with nx := Pv (i + 1), ct := Pv (i + 1), bk := D.nx } σ2 H2) (hd : ∀ σ1 H1, Pv xs.length σ1 H1 → D.nx σ1 H1) : ForW (Itl K a) g tb D σ H := for_list (xs := xs) Pv h0 hl hs hd
/-- a comprehension whose iterator has come -/
def LcW (J : It) (g : TG) (tt : TT) (te : TE) (vs : List Nat) (σ : L2.St) (H : Hp) (Q : VK) : Prop := tLc (fun _ H R => R J H) g tt te vs σ H Q
theorem w_lcR1 {g : TG} {vs : List Nat} (h : tl σ H fun us H1 => ∃ n : Int, us = [.int n] ∧ -(2 ^ 62) ≤ n ∧ n < 2 ^ 62 ∧ LcW (Itr 0 n.toNat) g tt te vs σ H1 Q) : tLc (iRng1 tl) g tt te vs σ H Q := h
theorem w_lcL {g : TG} {vs : List Nat} {tz : TE} (h : tz σ H fun x H1 => ∃ a, x = .ref a ∧ (∃ xs, SqL K H1 a xs) ∧ LcW (Itl K a) g tt te vs σ H1 Q) : tLc (iList K tz) g tt te vs σ H Q := h
/-- one turn of a comprehension -/
def LcT (tt : TT) (te : TE) (Dl : Addr) (N : Hp → Prop) (σ : L2.St) (H : Hp) : Prop := tt σ H fun b H3 =>
  if b = true then te σ H3 fun y H4 => ∃ acc, H4 Dl = some (.lst acc) ∧ acc.length < sizeLine ∧ N (upd H4 Dl (.lst (acc ++ [y]))) else N H3
theorem lcR {lo : Int} {n : Nat} {g : TG} {vs : List Nat} (Pv : Addr → Nat → Hp → Prop) (h0 : ∀ Dl, H Dl = none → Pv Dl 0 (upd H Dl (.lst [])))
    (hs : ∀ Dl i H1, H Dl = none → i < n → Pv Dl i H1 → g (.int (lo + i)) (wipe σ vs) H1 fun σ2 H2 => wipe σ2 vs = wipe σ vs ∧ LcT tt te Dl (Pv Dl (i + 1)) σ2 H2) (hd : ∀ Dl H1, H Dl = none → Pv Dl n H1 → Q (.ref Dl) H1) : LcW (Itr lo n) g tt te vs σ H Q :=
  fun Dl hD => lc_range (Pv Dl) (h0 Dl hD) (fun i H1 hi p => hs Dl i H1 hD hi p) (fun H1 p => hd Dl H1 hD p)
theorem lcL {a : Addr} {xs : List V} {g : TG} {vs : List Nat} (Pv : Addr → Nat → Hp → Prop) (h0 : ∀ Dl, H Dl = none → Pv Dl 0 (upd H Dl (.lst []))) (hl : ∀ Dl i H1, H Dl = none → i ≤ xs.length → Pv Dl i H1 → SqL K H1 a xs)
    (hs : ∀ Dl i x H1, H Dl = none → xs[i]? = some x → Pv Dl i H1 → g x (wipe σ vs) H1 fun σ2 H2 => wipe σ2 vs = wipe σ vs ∧ LcT tt te Dl (Pv Dl (i + 1)) σ2 H2) (hd : ∀ Dl H1, H Dl = none → Pv Dl xs.length H1 → Q (.ref Dl) H1) : LcW (Itl K a) g tt te vs σ H Q :=
  fun Dl hD => lc_list (K := K) (a := a) (xs := xs) (Pv Dl) (h0 Dl hD) (fun i H1 hi p => hl Dl i H1 hD hi p) (fun i x H1 hx p => hs Dl i x H1 hD hx p) (fun H1 p => hd Dl H1 hD p)
theorem w_lcT {Dl : Addr} {N : Hp → Prop} (h : te σ H fun y H4 => ∃ acc, H4 Dl = some (.lst acc) ∧ acc.length < sizeLine ∧ N (upd H4 Dl (.lst (acc ++ [y])))) : LcT tYes te Dl N σ H := h
theorem w_lcTif {Dl : Addr} {N : Hp → Prop} (h : tt σ H fun b H3 => if b = true then (te σ H3 fun y H4 => ∃ acc, H4 Dl = some (.lst acc) ∧ acc.length < sizeLine ∧ N (upd H4 Dl (.lst (acc ++ [y])))) else N H3) : LcT tt te Dl N σ H := h
theorem w_wipe {σ1 : L2.St} {P : Prop} (h : σ = σ1) (q : P) : σ = σ1 ∧ P := ⟨h, q⟩
end
/-! ### sources of draws: lists of three ints -/
section
variable {H H' H1 H2 H3 : Hp} {p q s : Addr} {o o' : HO} {xs : List V}
def Src (H : Hp) (s : Addr) : Prop := ∃ x y z u : Int, H s = some (.lst [.int x, .int y, .int z, .int u])
theorem Src.ex (h : Src H s) : ∃ xs, H s = some (.lst xs) := let ⟨_, _, _, _, e⟩ := h; ⟨_, e⟩
theorem Src.neFree (h : Src H s) (hq : H q = none) : q ≠ s := fun e => by obtain ⟨_, _, _, _, hs⟩ := h; rw [e, hs] at hq; cases hq
theorem Src.neTup {xs : List V} (h : Src H s) (hq : H q = some (.tup xs)) : q ≠ s := fun e => by obtain ⟨_, _, _, _, hs⟩ := h; rw [e, hs] at hq; cases hq
theorem Src.neIns {C dx : Addr} {fs : List (Str × V)} (h : Src H s) (hq : H q = some (.ins C dx fs)) : q ≠ s := fun e => by obtain ⟨_, _, _, _, hs⟩ := h; rw [e, hs] at hq; cases hq
theorem Src.new (h : Src H s) (hp : H p = none) : Src (upd H p o) s := let ⟨x, y, z, u, e⟩ := h; ⟨x, y, z, u, keep e hp⟩
theorem Src.mut (h : Src H s) (hp : p ≠ s) : Src (upd H p o) s := let ⟨x, y, z, u, e⟩ := h; ⟨x, y, z, u, keepNe e hp.symm⟩
theorem Src.same (e : Same H H') (h : Src H s) : Src H' s := let ⟨x, y, z, u, q⟩ := h; ⟨x, y, z, u, e _ _ q⟩
theorem But.at (b : But s H H') (hn : q ≠ s) (h : H q = some o) : H' q = some o := b _ _ hn h
theorem But.back (b : But s H H') (h2 : Src H' s) (hp : H' p = none) : H p = none := by
  cases hq : H p with
  | none => rfl
  | some u => rw [b p u (h2.neFree hp) hq] at hp; cases hp
theorem But.trans' (b : But s H1 H2) (a : But s H H1) : But s H H2 := a.trans b
theorem Same.trans' (b : Same H1 H2) (a : Same H H1) : Same H H2 := a.trans b
theorem Same.at (e : Same H H') (h : H q = some o) : H' q = some o := e _ _ h
theorem ne1 (hl : H p = none) (hq : H q = some o) : q ≠ p := ne_of_none hq hl
theorem free_upd (h : upd H p o q = none) : H q = none := by
  cases e : H q with
  | none => rfl
  | some u =>
    by_cases hn : q = p
    · rw [hn, upd_same] at h; cases h
    · rw [upd_ne hn, e] at h; cases h
/-- a pair of ints at a value; a list of such pairs -/
def PR (H : Hp) (v : V) (r : Int × Int) : Prop := ∃ t, v = .ref t ∧ H t = some (.tup [.int r.1, .int r.2])
def RowsAt (H : Hp) (p : Addr) (rows : List (Int × Int)) : Prop := ∃ vs, H p = some (.lst vs) ∧ Paired (PR H) vs rows
theorem PR.but {v : V} {r : Int × Int} (b : But s H H') (hs : Src H s) (h : PR H v r) : PR H' v r := let ⟨t, e, ht⟩ := h; ⟨t, e, b.at (hs.neTup ht) ht⟩
theorem PR.same {v : V} {r : Int × Int} (b : Same H H') (h : PR H v r) : PR H' v r := let ⟨t, e, ht⟩ := h; ⟨t, e, b _ _ ht⟩
theorem PR.mutL {v : V} {r : Int × Int} {xs : List V} (hp : H p = some (.lst xs)) (h : PR H v r) : PR (upd H p o) v r := let ⟨t, e, ht⟩ := h; ⟨t, e, keepNe ht (ne_of ht hp (by intro z; cases z))⟩
theorem PRs.but {vs : List V} {rows : List (Int × Int)} (b : But s H H') (hs : Src H s) (h : Paired (PR H) vs rows) : Paired (PR H') vs rows := h.mono fun _ _ q => PR.but b hs q
theorem PRs.same {vs : List V} {rows : List (Int × Int)} (b : Same H H') (h : Paired (PR H) vs rows) : Paired (PR H') vs rows := h.mono fun _ _ q => PR.same b q
theorem PRs.mutL {vs xs : List V} {rows : List (Int × Int)} (hp : H p = some (.lst xs)) (h : Paired (PR H) vs rows) : Paired (PR (upd H p o)) vs rows := h.mono fun _ _ q => PR.mutL hp q
theorem PRs.new {vs : List V} {rows : List (Int × Int)} (hp : H p = none) (h : Paired (PR H) vs rows) : Paired (PR (upd H p o)) vs rows := h.mono fun _ _ q => PR.same (same_new hp) q
theorem RowsAt.but {rows : List (Int × Int)} (b : But s H H') (hs : Src H s) (hn : p ≠ s) (h : RowsAt H p rows) : RowsAt H' p rows := let ⟨vs, e, k⟩ := h; ⟨vs, b.at hn e, PRs.but b hs k⟩
theorem RowsAt.same {rows : List (Int × Int)} (b : Same H H') (h : RowsAt H p rows) : RowsAt H' p rows := let ⟨vs, e, k⟩ := h; ⟨vs, b _ _ e, PRs.same b k⟩
theorem RowsAt.neFree {rows : List (Int × Int)} (h : RowsAt H q rows) (hp : H p = none) : q ≠ p := let ⟨_, e, _⟩ := h; ne_of_none e hp
theorem Paired.at {α β : Type} {F : α → β → Prop} : ∀ {l₁ : List α} {l₂ : List β}, Paired F l₁ l₂ → ∀ {i : Nat} {b : β}, l₂[i]? = some b → ∃ a, l₁[i]? = some a ∧ F a b
  | _, _, .nil, i, b, h => by simp at h
  | _, _, .cons f r, 0, b, h => by
    have e := Option.some.inj h
    subst e; exact ⟨_, rfl, f⟩
  | _, _, .cons f r, i + 1, b, h => by
    obtain ⟨a, h1, h2⟩ := Paired.at r (i := i) (b := b) (by simpa using h)
    exact ⟨a, by simpa using h1, h2⟩
theorem Paired.at' {α β : Type} {F : α → β → Prop} : ∀ {l₁ : List α} {l₂ : List β}, Paired F l₁ l₂ → ∀ {i : Nat} {a : α}, l₁[i]? = some a → ∃ b, l₂[i]? = some b ∧ F a b
  | _, _, .nil, i, b, h => by simp at h
  | _, _, .cons f r, 0, b, h => by
    have e := Option.some.inj h
    subst e; exact ⟨_, rfl, f⟩
  | _, _, .cons f r, i + 1, b, h => by
    obtain ⟨a, h1, h2⟩ := Paired.at' r (i := i) (a := b) (by simpa using h)
    exact ⟨a, by simpa using h1, h2⟩
end
end G

namespace G
open PySem L2
structure CA where
  CopiesDiffer : Addr
  LotError : Addr
  OnecopyError : Addr
  Stretch : Addr
end G

/-! ### the tactic: walk_at "go" -/
local macro_rules | `(tactic| walk_at "hp") => `(tactic| first
  | assumption | exact L2.upd_same
  | exact G.keep (by walk_at "hp") (by assumption)
  | exact G.keepNe (by walk_at "hp") (by walk_at "ne")
  | exact G.But.at (by assumption) (by walk_at "ne") (by walk_at "hp")
  | exact G.Same.at (by assumption) (by walk_at "hp"))
local macro_rules | `(tactic| walk_at "ne") => `(tactic| first
  | assumption | exact Ne.symm (by assumption)
  | exact G.Src.neFree (by assumption) (by assumption) | exact (G.Src.neFree (by assumption) (by assumption)).symm
  | exact G.ne1 (by assumption) (by walk_at "hp") | exact (G.ne1 (by assumption) (by walk_at "hp")).symm)
local macro_rules | `(tactic| walk_at "src") => `(tactic| first
  | assumption | exact G.Src.new (by walk_at "src") (by assumption) | exact G.Src.mut (by walk_at "src") (by walk_at "ne") | exact G.Src.same (by assumption) (by walk_at "src"))
local macro_rules | `(tactic| walk_at "but") => `(tactic| first
  | assumption | exact G.But.refl
  | exact G.But.mut (by walk_at "but") (by assumption) | exact G.But.new (by walk_at "but") (by assumption) | exact G.But.self (by walk_at "but")
  | exact G.But.trans' (by assumption) (by walk_at "but") | exact G.But.trans' (G.Same.but (by assumption)) (by walk_at "but"))
local macro_rules | `(tactic| walk_at "same") => `(tactic| first
  | assumption | exact L2.Same.refl _
  | exact G.same_mut (by walk_at "same") (by assumption) | exact G.Same.trans' (G.same_new (by assumption)) (by walk_at "same") | exact G.Same.trans' (by assumption) (by walk_at "same"))
local macro_rules | `(tactic| walk_at "sq") => `(tactic| first
  | assumption | exact G.SqL.same (by assumption) (by walk_at "same") | exact L2.SqL.of (by walk_at "hp"))
local macro_rules | `(tactic| walk_at "at") => `(tactic| first
  | assumption | exact L2.atI_nat (by assumption) | exact G.at0 | exact G.at1 | exact G.at2 | exact G.at3 | exact G.at4)
local macro_rules | `(tactic| walk_at "ix") => `(tactic| first
  | assumption | exact G.ix0 | exact G.ix1 | exact G.ix2)
local macro_rules | `(tactic| walk_at "ar") => `(tactic| first | assumption | omega | decide)
local macro_rules | `(tactic| walk_at "one") => `(tactic| (with_reducible first
  | refine' G.w_seq ?_ | refine' G.w_asg ?_ | (refine' G.w_var ?g1 ?_; (case g1 => with_unfolding_all rfl)) | refine' G.w_c ?_ | refine' G.w_name ?_ | refine' G.w_op ?_
  | refine' G.w_oAdd ?_ | refine' G.w_oSub ?_ | (refine' G.w_oMulR ?g1 ?g2 ?_; (case g1 => walk_at "ar"); (case g2 => walk_at "ar")) | (refine' G.w_oMulL ?g1 ?g2 ?_; (case g1 => walk_at "ar"); (case g2 => walk_at "ar")) | (refine' G.w_oDiv ?g1 ?g2 ?_; (case g1 => walk_at "ar"); (case g2 => walk_at "ar")) | (refine' G.w_oMod ?g1 ?_; (case g1 => walk_at "ar")) | (refine' G.w_oPow ?g1 ?g2 ?g3 ?_; (case g1 => walk_at "ar"); (case g2 => walk_at "ar"); (case g3 => with_unfolding_all decide))
  | refine' G.w_oLt ?_ | refine' G.w_oLe ?_ | refine' G.w_oGt ?_ | refine' G.w_oGe ?_ | refine' G.w_un ?_ | refine' G.w_oNeg ?_ | refine' G.w_brk ?_ | refine' G.w_cont ?_ | refine' G.w_eqI ?_ | refine' G.w_neI ?_ | refine' G.w_eqB ?_
  | refine' G.w_cons ?_ | refine' G.w_nil ?_ | refine' G.w_ex ?_ | refine' G.w_exI ?_
  | refine' G.w_ret ?_ | refine' G.w_drop ?_ | refine' G.w_next ?_ | refine' G.w_retN ?_ | refine' G.w_if ?_ | refine' G.w_test ?_ | refine' G.w_tB ?_ | refine' G.w_ifE ?_
  | refine' G.w_iteT ?_ | refine' G.w_iteF ?_
  | refine' G.w_cb ?_ | refine' G.w_oInt ?_ | refine' G.w_oAbs ?_ | refine' G.w_oMax2 ?_ | refine' G.w_oMin2 ?_ | refine' G.w_call ?_ | refine' G.w_meth ?_ | refine' G.w_make ?_
  | refine' G.w_tup ?_ | refine' G.w_lst ?_ | (refine' G.w_small ?g1 ?_; (case g1 => with_unfolding_all exact Nat.le_of_ble_eq_true rfl))
  | (refine' G.w_ixL ?g1 ?g2 ?_; (case g1 => walk_at "sq"); (case g2 => with_unfolding_all walk_at "at"))
  | (refine' G.w_ixT ?g1 ?g2 ?_; (case g1 => walk_at "hp"); (case g2 => with_unfolding_all walk_at "at"))
  | (refine' G.w_lenL ?g1 ?_; (case g1 => walk_at "sq")) | (refine' G.w_listL ?g1 ?_; (case g1 => walk_at "sq")) | (refine' G.w_sum ?g1 ?_; (case g1 => walk_at "sq"))
  | refine' G.w_bm ?_ | refine' G.w_bm0 ?_ | (refine' G.w_tyL ?g1 ?_; (case g1 => walk_at "sq"))
  | (refine' G.w_append ?g1 ?g2 ?_; (case g1 => walk_at "hp"); (case g2 => walk_at "sz"))
  | refine' G.w_sub ?_ | (refine' G.w_setL ?g1 ?g2 ?_; (case g1 => walk_at "hp"); (case g2 => with_unfolding_all walk_at "ix"))
  | (refine' G.w_cat ?g1 ?g2 ?g3 ?_; (case g1 => walk_at "hp"); (case g2 => walk_at "hp"); (case g3 => walk_at "sz"))
  | refine' G.w_sl ?_ | refine' G.w_noPart ?_ | refine' G.w_part ?_ | (refine' G.w_slL ?g1 ?_; (case g1 => walk_at "sq"))
  | refine' G.w_gCons ?_ | refine' G.w_gNil ?_ | (refine' G.w_gTup ?g1 ?g2 ?_; (case g1 => walk_at "hp"); (case g2 => with_unfolding_all rfl))
  | refine' G.w_chain ?_ | refine' G.w_and ?_ | refine' G.w_or ?_ | refine' G.w_not ?_ | refine' G.w_andV ?_ | refine' G.w_orV ?_ | refine' G.w_notV ?_
  | refine' G.w_listRg ?_ | refine' G.w_rg1 ?_ | refine' G.w_augS ?_ | refine' G.w_ipI ?_
  | refine' G.w_fld ?_ | refine' G.w_sfld ?_ | refine' G.w_yes ?_ | refine' G.w_exA ?_ | refine' G.w_exA2 ?_ | refine' G.w_exR ?_ | refine' G.w_exRA ?_
  | (refine' G.w_acc ?g1 ?g2 ?_; (case g1 => walk_at "hp"); (case g2 => walk_at "sz"))
  | refine' G.w_forR1 ?_ | refine' G.w_forR2 ?_ | refine' G.w_forL ?_ | refine' G.w_forZ ?_ | refine' G.w_forE ?_ | refine' G.w_lcR1 ?_ | refine' G.w_lcL ?_
  | (refine' G.w_bd1 ?g1 ?g2 ?_; (case g1 => walk_at "ar"); (case g2 => walk_at "ar"))
  | (refine' G.w_bd2 ?g1 ?g2 ?g3 ?g4 ?_; (case g1 => walk_at "ar"); (case g2 => walk_at "ar"); (case g3 => walk_at "ar"); (case g4 => walk_at "ar"))
  | (refine' G.w_sqE ?g1 ?_; (case g1 => walk_at "sq"))
  | (refine' G.w_wipe ?g1 ?_; (case g1 => with_unfolding_all rfl)) | refine' G.w_lcT ?_ | refine' G.w_lcTif ?_
  | (refine' G.w_augName ?g1 ?_; (case g1 => with_unfolding_all rfl))
  | walk_at "call"))
local macro_rules | `(tactic| walk_at "sz") => `(tactic| first | assumption | exact L2.small1000 (by omega) | omega | exact L2.small1000 (by simp only [List.length_map, List.length_append, List.length_cons, List.length_nil, List.length_range, List.length_take, List.length_drop, List.length_set]; omega) | exact Nat.le_of_lt (L2.small1000 (by simp only [List.length_map, List.length_append, List.length_cons, List.length_nil, List.length_range, List.length_take, List.length_drop, List.length_set]; omega)))
local macro_rules | `(tactic| walk_at "go") => `(tactic| repeat walk_at "one")

/-! the mathematics of heights -/
namespace M
def ho (b n w : Int) : Int := if n = 0 then b + 1 else if n = 1 ∧ b ≥ w then 1 else 0
def lo (b n w : Int) : Int := if n ≥ 2 then 0 else if n = 1 then (if b ≥ w then 1 else 0) else b + 1
theorem lo_eq {b n w : Int} (h : 0 ≤ n) : lo b n w = ho b n w := by
  unfold lo ho
  by_cases h0 : n = 0
  · subst h0; simp
  · by_cases h1 : n = 1
    · subst h1; simp
    · rw [if_pos (by omega), if_neg h0, if_neg (by omega)]
/-- heights of the pages of a chain given from its end: hscan b of the reversed chain -/
def hscan (w : Int) : Int → List Int → List Int
  | _, [] => []
  | b, n :: r => ho b n w :: hscan w (ho b n w) r
/-- the height that stands after a reversed chain -/
def hlast (w : Int) : Int → List Int → Int
  | b, [] => b
  | b, n :: r => hlast w (ho b n w) r
theorem hscan_snoc (w b : Int) (xs : List Int) (n : Int) : hscan w b (xs ++ [n]) = hscan w b xs ++ [ho (hlast w b xs) n w] := by
  induction xs generalizing b with
  | nil => rfl
  | cons x r ih => simp [hscan, hlast, ih]
theorem hlast_snoc (w b : Int) (xs : List Int) (n : Int) : hlast w b (xs ++ [n]) = ho (hlast w b xs) n w := by
  induction xs generalizing b with
  | nil => rfl
  | cons x r ih => simp [hlast, ih]
theorem hscan_length (w b : Int) (xs : List Int) : (hscan w b xs).length = xs.length := by
  induction xs generalizing b with
  | nil => rfl
  | cons x r ih => simp [hscan, ih]
/-- the heights from the top, and the height of the first page -/
def hts (w : Int) (c : List Int) : List Int := (hscan w 0 c.reverse).reverse
def ht (w : Int) : List Int → Int
  | [] => 0
  | n :: r => ho (ht w r) n w
theorem ht_c (w n : Int) (r : List Int) : ht w (n :: r) = ho (ht w r) n w := rfl
theorem ho0 (b w : Int) : ho b 0 w = b + 1 := rfl
theorem hlast_rev (w : Int) (c : List Int) : hlast w 0 c.reverse = ht w c := by
  induction c with
  | nil => rfl
  | cons n r ih => rw [List.reverse_cons, hlast_snoc, ih]; rfl
theorem hts_cons (w n : Int) (r : List Int) : hts w (n :: r) = ht w (n :: r) :: hts w r := by
  unfold hts; rw [List.reverse_cons, hscan_snoc, List.reverse_append, hlast_rev]; rfl
theorem hts_nil (w : Int) : hts w [] = [] := rfl
theorem hts_length (w : Int) (c : List Int) : (hts w c).length = c.length := by unfold hts; simp [hscan_length]
theorem hts_get (w : Int) (c : List Int) (i : Nat) (h : i < c.length) : (hts w c)[i]? = some (ht w (c.drop i)) := by
  induction c generalizing i with
  | nil => simp at h
  | cons n r ih =>
    rw [hts_cons]
    cases i with
    | zero => rfl
    | succ i => simp at h; simpa using ih i h
/-- keepable: no height above w -/
def keep (w : Int) (c : List Int) : Bool := !(hts w c).any fun h => decide (h > w)
/-- the search of a stretch from a place on: fuel, the rest from the place -/
def seek (w : Nat) : Nat → List Int → Bool
  | 0, _ => false
  | _ + 1, [] => false
  | f + 1, n :: r => if n > 1 then false else if n = 0 then true else if (r.take (w - 1)).any (fun z => decide (z ≠ 0)) then false else seek w f (r.drop (w - 1))
/-- the law's search -/
def stretch (w : Nat) (c : List Int) : Bool :=
  (List.range (c.length - w)).any fun s => !((c.drop s).take w).any (fun z => decide (z ≠ 0)) && seek w c.length (c.drop (s + w))

theorem ht_nonneg (w : Int) (c : List Int) : 0 ≤ ht w c := by
  induction c with
  | nil => exact Int.le_refl 0
  | cons n r ih => unfold ht ho; split <;> (try split) <;> omega

theorem ht_zeros (w : Int) : ∀ (k : Nat) (r : List Int), (r.take k).any (fun z => decide (z ≠ 0)) = false → k ≤ r.length → ht w r = (k : Int) + ht w (r.drop k)
  | 0, r, _, _ => by simp
  | k + 1, [], _, h => by simp at h
  | k + 1, n :: r, ha, h => by
    simp only [List.take_succ_cons, List.any_cons, Bool.or_eq_false_iff, decide_eq_false_iff_not, Decidable.not_not] at ha
    obtain ⟨rfl, h2⟩ := ha
    have := ht_zeros w k r h2 (by simpa using h)
    simp only [List.drop_succ_cons]
    rw [ht_c, ho0, this]; omega
/-- a found stretch makes a height of at least 1 at its place (all entries at least 0) -/
theorem seek_ht (w : Nat) (hw : 1 ≤ w) : ∀ (f : Nat) (c : List Int), (∀ n ∈ c, 0 ≤ n) → seek w f c = true → 1 ≤ ht w c
  | 0, c, _, h => by simp [seek] at h
  | f + 1, [], _, h => by simp [seek] at h
  | f + 1, n :: r, h0, h => by
    have hn : 0 ≤ n := h0 n (by simp)
    unfold seek at h
    by_cases h1 : n > 1
    · rw [if_pos h1] at h; simp at h
    rw [if_neg h1] at h
    by_cases h2 : n = 0
    · subst h2
      have := ht_nonneg w r
      unfold ht ho; rw [if_pos rfl]; omega
    rw [if_neg h2] at h
    have h3 : n = 1 := by omega
    subst h3
    by_cases h4 : (r.take (w - 1)).any (fun z => decide (z ≠ 0)) = true
    · rw [if_pos h4] at h; simp at h
    rw [if_neg h4] at h
    have h4 : (r.take (w - 1)).any (fun z => decide (z ≠ 0)) = false := by simpa using h4
    have h5 := seek_ht w hw f (r.drop (w - 1)) (fun z hz => h0 z (List.mem_cons_of_mem _ (List.mem_of_mem_drop hz))) h
    have hl : w - 1 ≤ r.length := by
      by_cases hc : w - 1 ≤ r.length
      · exact hc
      · rw [List.drop_eq_nil_of_le (by omega)] at h
        cases f <;> simp [seek] at h
    have := ht_zeros w (w - 1) r h4 hl
    unfold ht ho
    rw [if_neg (by decide), if_pos ⟨rfl, by omega⟩]; omega
theorem keep_false {w : Nat} {c : List Int} (h : keep w c = false) : ∃ i, i < c.length ∧ ht w (c.drop i) > w := by
  unfold keep at h
  simp only [Bool.not_eq_false', List.any_eq_true, decide_eq_true_eq] at h
  obtain ⟨x, hx, hg⟩ := h
  obtain ⟨i, hi, e⟩ := List.getElem_of_mem hx
  have hl : i < c.length := by rw [hts_length] at hi; exact hi
  have := hts_get w c i hl
  rw [List.getElem?_eq_getElem hi, e] at this
  exact ⟨i, hl, by rw [← Option.some.inj this]; exact hg⟩
theorem keep_true {w : Nat} {c : List Int} (h : keep w c = true) : ∀ i, i < c.length → ht w (c.drop i) ≤ w := by
  intro i hi
  unfold keep at h
  simp only [Bool.not_eq_true', List.any_eq_false, decide_eq_true_eq] at h
  have := hts_get w c i hi
  have hm : ht w (c.drop i) ∈ hts w c := List.mem_of_getElem? this
  have := h _ hm
  omega
theorem keep_of {w : Nat} {c : List Int} (h : ∀ i, i < c.length → ht w (c.drop i) ≤ w) : keep w c = true := by
  cases hk : keep w c with
  | true => rfl
  | false => obtain ⟨i, hi, hg⟩ := keep_false hk; have := h i hi; omega
/-- the run of zeros that a height wants -/
theorem zeros_of (w : Int) : ∀ (k : Nat) (c : List Int), (k : Int) + 1 ≤ ht w c → (c.take k).any (fun z => decide (z ≠ 0)) = false ∧ k < c.length ∧ ht w (c.drop k) = ht w c - k
  | 0, [], h => by simp [ht] at h
  | 0, n :: r, h => by simp
  | k + 1, [], h => by simp [ht] at h; omega
  | k + 1, n :: r, h => by
    have e : n = 0 ∧ ht w (n :: r) = ht w r + 1 := by
      rw [ht_c] at h ⊢
      by_cases h0 : n = 0
      · exact ⟨h0, by rw [h0, ho0]⟩
      · unfold ho at h
        rw [if_neg h0] at h
        split at h <;> omega
    obtain ⟨rfl, e⟩ := e
    obtain ⟨h1, h2, h3⟩ := zeros_of w k r (by omega)
    refine ⟨by simpa using h1, by simp; omega, ?_⟩
    rw [List.drop_succ_cons, h3, e]; omega
/-- from a height 1 below which no height exceeds w the search finds -/
theorem seek_of (w : Nat) (hw : 1 ≤ w) : ∀ (f : Nat) (c : List Int), (∀ n ∈ c, 0 ≤ n) → c.length ≤ f → ht w c = 1 → (∀ i, 0 < i → i < c.length → ht w (c.drop i) ≤ w) → seek w f c = true
  | f, [], _, _, h, _ => by simp [ht] at h
  | 0, n :: r, _, hl, _, _ => by simp at hl
  | f + 1, n :: r, h0, hl, h, hk => by
    have hn : 0 ≤ n := h0 n (by simp)
    unfold seek
    by_cases h2 : n = 0
    · subst h2; simp
    by_cases h3 : n = 1
    · subst h3
      rw [if_neg (by decide), if_neg (by decide)]
      have hr : ht w r ≥ w := by
        unfold ht ho at h
        rw [if_neg (by decide)] at h
        by_cases hc : (1 : Int) = 1 ∧ ht w r ≥ w
        · exact hc.2
        · rw [if_neg hc] at h; omega
      have hr2 : ht w r ≤ w := by
        cases r with
        | nil => unfold ht; omega
        | cons x xs => simpa using hk 1 (by omega) (by simp)
      obtain ⟨z1, z2, z3⟩ := zeros_of w (w - 1) r (by omega)
      rw [z1]
      simp only [Bool.false_eq_true, if_false]
      refine seek_of w hw f (r.drop (w - 1)) (fun z hz => h0 z (List.mem_cons_of_mem _ (List.mem_of_mem_drop hz))) ?_ (by omega) ?_
      · simp at hl ⊢; omega
      · intro i hi hi2
        have := hk (1 + (w - 1) + i) (by omega) (by simp at hi2 ⊢; omega)
        have e : (1 :: r).drop (1 + (w - 1) + i) = (r.drop (w - 1)).drop i := by
          rw [List.drop_drop, show 1 + (w - 1) + i = (w - 1 + i) + 1 by omega, List.drop_succ_cons]
        rw [e] at this; exact this
    · exfalso
      unfold ht ho at h
      rw [if_neg h2, if_neg (by omega)] at h; omega
/-- the last place of a height above w -/
theorem last_high {w : Nat} {c : List Int} (h : keep w c = false) : ∃ i, i < c.length ∧ ht w (c.drop i) > w ∧ ∀ j, i < j → j < c.length → ht w (c.drop j) ≤ w := by
  obtain ⟨i, hi, hg⟩ := keep_false h
  obtain ⟨m, hm⟩ : ∃ m, m = c.length - i := ⟨_, rfl⟩
  induction m using Nat.strongRecOn generalizing i with
  | _ m ih =>
    by_cases hc : ∃ j, i < j ∧ j < c.length ∧ ht w (c.drop j) > w
    · obtain ⟨j, h1, h2, h3⟩ := hc
      exact ih (c.length - j) (by omega) j h2 h3 rfl
    · exact ⟨i, hi, hg, fun j h1 h2 => by
        by_cases hj : ht w (c.drop j) ≤ w
        · exact hj
        · exact absurd ⟨j, h1, h2, by omega⟩ hc⟩
theorem ht_drop_succ {w : Int} {c : List Int} {i : Nat} (h : i < c.length) : ht w (c.drop i) = ho (ht w (c.drop (i + 1))) c[i] w := by
  rw [List.drop_eq_getElem_cons h]; rfl
theorem stretch_keep (w : Nat) (hw : 1 ≤ w) (c : List Int) (h0 : ∀ n ∈ c, 0 ≤ n) : stretch w c = !keep w c := by
  cases hk : keep w c with
  | true =>
    simp only [Bool.not_true]
    unfold stretch
    rw [List.any_eq_false]
    intro s hs
    have hs : s < c.length - w := by simpa using hs
    simp only [Bool.and_eq_true, Bool.not_eq_true', not_and, Bool.not_eq_true]
    intro hz
    cases hf : seek w c.length (c.drop (s + w)) with
    | false => rfl
    | true =>
      exfalso
      have h1 := seek_ht w hw _ _ (fun z hz => h0 z (List.mem_of_mem_drop hz)) hf
      have h2 := ht_zeros w w (c.drop s) hz (by simp; omega)
      rw [List.drop_drop] at h2
      have h3 := keep_true hk s (by omega)
      omega
  | false =>
    simp only [Bool.not_false]
    obtain ⟨i, hi, hg, hl⟩ := last_high hk
    have hle : ht w (c.drop i) = w + 1 := by
      have h4 : ht w (c.drop (i + 1)) ≤ w := by
        by_cases hc : i + 1 < c.length
        · exact hl _ (by omega) hc
        · rw [List.drop_eq_nil_of_le (by omega)]; unfold ht; omega
      have := ht_drop_succ (w := w) hi
      rw [this] at hg ⊢
      unfold ho at hg ⊢
      split at hg
      · rename_i e; rw [if_pos e]; omega
      · split at hg <;> omega
    obtain ⟨z1, z2, z3⟩ := zeros_of w w (c.drop i) (by omega)
    rw [List.drop_drop] at z3
    have hlen : i + w < c.length := by simp at z2; omega
    unfold stretch
    rw [List.any_eq_true]
    refine ⟨i, by simp; omega, ?_⟩
    rw [z1]
    simp only [Bool.not_false, Bool.true_and]
    refine seek_of w hw _ _ (fun z hz => h0 z (List.mem_of_mem_drop hz)) (by simp) (by omega) ?_
    intro j hj hj2
    rw [List.drop_drop]
    exact hl _ (by omega) (by simp at hj2; omega)
end M
namespace M
theorem take_snoc {α : Type} (l : List α) (i : Nat) (h : i < l.length) : l.take i ++ [l[i]] = l.take (i + 1) := by
  induction l generalizing i with
  | nil => simp at h
  | cons x r ih =>
    cases i with
    | zero => simp
    | succ i => simp at h; simp [h]
end M

/-! the mathematics of stretches -/
namespace M
/-- along a stretch given from its end: the height behind it, none if some height is too great -/
def rr (w : Int) : Int → List Int → Option Int
  | b, [] => some b
  | b, n :: r => if ho b n w > w then none else rr w (ho b n w) r
theorem rr_c (w b n : Int) (r : List Int) : rr w b (n :: r) = if ho b n w > w then none else rr w (ho b n w) r := rfl
theorem rr_app (w b : Int) (xs ys : List Int) : rr w b (xs ++ ys) = (rr w b xs).bind fun h => rr w h ys := by
  induction xs generalizing b with
  | nil => rfl
  | cons x r ih =>
    rw [List.cons_append, rr_c, rr_c]
    split
    · rfl
    · exact ih _
def rise (c : List Int) (w b : Int) : Option Int := rr w b c.reverse
theorem rise_app (a c : List Int) (w b : Int) : rise (a ++ c) w b = (rise c w b).bind fun h => rise a w h := by unfold rise; rw [List.reverse_append, rr_app]
theorem ho_nonneg {b n w : Int} (h : 0 ≤ b) : 0 ≤ ho b n w := by unfold ho; split <;> (try split) <;> omega
theorem rr_bd {w b h : Int} {xs : List Int} (h0 : 0 ≤ b) (h1 : b ≤ w) (e : rr w b xs = some h) : 0 ≤ h ∧ h ≤ w := by
  induction xs generalizing b with
  | nil => unfold rr at e; cases e; exact ⟨h0, h1⟩
  | cons x r ih =>
    unfold rr at e
    split at e
    · cases e
    · exact ih (ho_nonneg h0) (by omega) e
theorem rise_bd {c : List Int} {w b h : Int} (h0 : 0 ≤ b) (h1 : b ≤ w) (e : rise c w b = some h) : 0 ≤ h ∧ h ≤ w := rr_bd h0 h1 e
/-- the lift -/
def lf (c : List Int) (w : Nat) : List (Option Int) := (List.range (w + 1)).map fun (b : Nat) => rise c w (b : Int)
theorem lf_len (c : List Int) (w : Nat) : (lf c w).length = w + 1 := by unfold lf; simp
theorem lf_get {c : List Int} {w i : Nat} (h : i ≤ w) : (lf c w)[i]? = some (rise c w (i : Int)) := by unfold lf; rw [List.getElem?_map, List.getElem?_range (by omega)]; rfl
theorem lf_mem {c : List Int} {w : Nat} {h : Int} (m : some h ∈ lf c w) : 0 ≤ h ∧ h ≤ w := by
  unfold lf at m
  obtain ⟨b, hb, e⟩ := List.mem_map.mp m
  have : b < w + 1 := by simpa using hb
  exact rise_bd (by omega) (by omega) e
/-- a joined stretch's lift, by the two lifts -/
def jn (a b : List (Option Int)) : List (Option Int) := b.map fun o => o.bind fun h => a.getD h.toNat none
theorem jn_lf (a b : List Int) (w : Nat) : jn (lf a w) (lf b w) = lf (a ++ b) w := by
  unfold jn lf
  rw [List.map_map]
  refine List.map_congr_left fun i hi => ?_
  have hi : i < w + 1 := by simpa using hi
  show (rise b w i).bind _ = rise (a ++ b) w i
  rw [rise_app]
  cases e : rise b w i with
  | none => rfl
  | some h =>
    have hb := rise_bd (by omega) (by omega : (i : Int) ≤ w) e
    show ((List.range (w + 1)).map fun (b : Nat) => rise a w (b : Int)).getD h.toNat none = rise a w h
    rw [List.getD_eq_getElem?_getD, List.getElem?_map, List.getElem?_range (by omega)]
    show rise a w ((h.toNat : Nat) : Int) = rise a w h
    rw [Int.toNat_of_nonneg hb.1]
/-- pages with two or more lines: the height 0 -/
theorem rr_great {w : Int} (hw : 0 ≤ w) : ∀ (xs : List Int) (b : Int), (∀ n ∈ xs, 2 ≤ n) → xs ≠ [] → rr w b xs = some 0
  | [], _, _, h => absurd rfl h
  | x :: r, b, h, _ => by
    have hx := h x (by simp)
    have e : ho b x w = 0 := by unfold ho; rw [if_neg (by omega), if_neg (by omega)]
    unfold rr
    rw [e, if_neg (by omega)]
    cases r with
    | nil => rfl
    | cons y r => exact rr_great hw (y :: r) 0 (fun n hn => h n (List.mem_cons_of_mem _ hn)) (by simp)
theorem rise_great {w b : Int} (hw : 0 ≤ w) {c : List Int} (h : ∀ n ∈ c, 2 ≤ n) (hc : c ≠ []) : rise c w b = some 0 := rr_great hw _ _ (fun n hn => h n (List.mem_reverse.mp hn)) (by simpa using hc)
theorem lf_great (a b c d : List Int) (w : Nat) (hc : ∀ n ∈ c, 2 ≤ n) (hd : ∀ n ∈ d, 2 ≤ n) (c0 : c ≠ []) (d0 : d ≠ []) : lf (a ++ c ++ b) w = lf (a ++ d ++ b) w := by
  unfold lf
  refine List.map_congr_left fun i _ => ?_
  rw [rise_app, rise_app (a ++ d)]
  cases rise b w (i : Int) with
  | none => rfl
  | some h =>
    show rise (a ++ c) w h = rise (a ++ d) w h
    rw [rise_app, rise_app, rise_great (by omega) hc c0, rise_great (by omega) hd d0]
/-- the law's reckoning -/
def rl (w : Int) : Int → List Int → Option Int
  | b, [] => some b
  | b, n :: r => if lo b n w > w then none else rl w (lo b n w) r
theorem rl_eq {w : Int} : ∀ (xs : List Int) (b : Int), (∀ n ∈ xs, 0 ≤ n) → rl w b xs = rr w b xs
  | [], _, _ => rfl
  | x :: r, b, h => by
    unfold rl rr
    rw [lo_eq (h x (by simp))]
    split
    · rfl
    · exact rl_eq r _ fun n hn => h n (List.mem_cons_of_mem _ hn)
theorem rr_take {w b : Int} {xs : List Int} {i : Nat} (h : i < xs.length) : rr w b (xs.take (i + 1)) = (rr w b (xs.take i)).bind fun g => if ho g xs[i] w > w then none else some (ho g xs[i] w) := by
  rw [← take_snoc xs i h, rr_app]
  cases rr w b (xs.take i) with
  | none => rfl
  | some g =>
    show rr w g [xs[i]] = _
    unfold rr
    split
    · rename_i e; rw [Option.bind_some, if_pos e]
    · rename_i e; rw [Option.bind_some, if_neg e]; rfl
theorem rr_none {w b : Int} {xs : List Int} {i : Nat} (h : rr w b (xs.take i) = none) : rr w b xs = none := by
  have := rr_app w b (xs.take i) (xs.drop i)
  rw [List.take_append_drop, h] at this
  exact this
theorem rl_c (w b n : Int) (r : List Int) : rl w b (n :: r) = if lo b n w > w then none else rl w (lo b n w) r := rfl
theorem rl_app (w b : Int) (xs ys : List Int) : rl w b (xs ++ ys) = (rl w b xs).bind fun h => rl w h ys := by
  induction xs generalizing b with
  | nil => rfl
  | cons x r ih =>
    rw [List.cons_append, rl_c, rl_c]
    split
    · rfl
    · exact ih _
end M

/-! ### calls of methods and of makers that may raise, within a try: what is wanted of the error may speak of the slots -/
namespace GX
open PySem PySem.Spec PyProof.Rows L2
section
variable {X : Cx} {CX : CXT} {k : Nat} {f C : Addr} {fd : FuncData} {ps : List Str} {sp : Sp} {E : L2.St → XK} {x m : Str} {p pos apos : Pos} {e o : Expr} {es : List Expr} {ta : TE} {t : TA}
def tMethS (C : Addr) (m : Str) (sp : Sp) (E : L2.St → XK) (ta : TE) (t : TA) : TE := fun σ H Q => ta σ H fun x H1 => ∃ a dx fs, x = .ref a ∧ H1 a = some (.ins C dx fs) ∧ fs.lookup m = none ∧
  t σ H1 fun vs H2 => sp (x :: vs) H2 Q (E σ)
def tMakeS (C : Addr) (sp : Sp) (E : L2.St → XK) (t : TA) : TE := fun σ H Q => t σ H fun vs H1 => ∀ x dx, H1 x = none → H1 dx = none → dx ≠ x →
  sp (.ref x :: vs) (upd (upd H1 dx (.own x)) x (.ins C dx [])) (fun v H2 => v = .non ∧ Q (.ref x) H2) (E σ)
theorem pe_methS {pl : Sem Bool} (he : PE X o ta) (c : Cls X.K C) (hm : Meth X.K C m f) (F : FnOk X.prog X.w X.K X.mg X.base CX k f fd ps sp) (hr : Room k X.A) (hb : Binds X.K fd ps []) (hx : ∀ σ, PassesAt CX X σ (E σ)) (ha : PA X (e :: es) t)
    (hst : starEach (e :: es) X.env = (false, eval e X.env) :: starEach es X.env := by rfl) (hpl : (backTo pos (starEach es X.env)).any (·.1) = false := by rfl)
    (ht : eval (.Call (.Attribute o m apos) (e :: es) [] pos) X.env = (do
      let ov ← eval o X.env
      standAt apos.atName
      let (f, first) ← holding [ov] (getMethod ov m pl)
      callWith pos f first (backTo pos (starEach (e :: es) X.env)) (backToKw pos (keywordEach [] X.env))) := by rfl) :
    PE X (.Call (.Attribute o m apos) (e :: es) [] pos) (tMethS C m sp E ta t) := by
  refine ⟨fun pins s σ H Q I h => ?_⟩
  refine PySem.W.methodCall_KW (pl := pl) (thn (he.run pins s σ H _ I h) fun u s1 ⟨x, H1, I1, rx, a, dx, fs, ex, ea, l, q⟩ => ?_) ht
  subst ex
  obtain rfl : u = Value.ref a := rx
  refine getmeth_ok I1 ea c hm l ?_
  refine PySem.W.callWith_K (first := [.ref a]) (h₀ := X.base) I.ok.mod.kin hm.kp (thn (ha.run pos pins s1 σ H1 _ I1 q) fun us s2 ⟨vs, H2, I2, r, q2⟩ => ⟨I2.kIn, ?_⟩) hst hpl
  exact run_fnS (us := .ref a :: us) (vs := .ref a :: vs) F hr hb (hx σ) I2 (.cons rfl r) q2
theorem run_makeS {pins : List (Addr × Obj)} {σ : L2.St} {H : Hp} {s : Shared} {Q : VK} {us : List Value} {vs : List V} (M : Mk X.K C f) (F : FnOk X.prog X.w X.K X.mg X.base CX k f fd ps sp) (hr : Room (k + 1) X.A) (hb : Binds X.K fd ps [])
    (hx : PassesAt CX X σ (E σ)) (I : Inv X pins σ H s) (r : Vals vs us)
    (h : ∀ x dx, H x = none → H dx = none → dx ≠ x → sp (.ref x :: vs) (upd (upd H dx (.own x)) x (.ins C dx [])) (fun v H2 => v = .non ∧ Q (.ref x) H2) (E σ)) :
    wpAny (model X.prog X.w) X.A (call (.ref C) us) (EP X pins σ Q) X.xe s := by
  have hq := h (s.heap.objs.size + 1) s.heap.objs.size (I.hok.fresh (Nat.le_succ _)) (I.hok.fresh (Nat.le_refl _)) (Nat.ne_of_lt (Nat.lt_succ_self _))
  have I2 := Inv.made (C := C) I
  have r2 : Vals (V.ref (s.heap.objs.size + 1) :: vs) (Value.ref (s.heap.objs.size + 1) :: us) := .cons rfl r
  have hl : (Value.ref (s.heap.objs.size + 1) :: us ++ []).length = ps.length := by
    have e := r2.length
    rw [F.len _ _ _ _ hq] at e
    rw [List.append_nil]
    exact e.symm
  have b := hb _ (Value.ref (s.heap.objs.size + 1) :: us) I2.kIn hl
  rw [List.append_nil] at b
  refine wpAny_call (make_map (f := f) I.kIn M.makes M.init (beq_iff_eq.mp M.fn) (codeAny_mono (F.run _ X.stack _ _ ⟨Value.ref (s.heap.objs.size + 1) :: us, []⟩ (Value.ref (s.heap.objs.size + 1) :: us) _ _ (E σ) (hr.make C us [])
    (I2.env0.make C us []) b r2 hq) fun r s' hq' => ?_))
  cases r with
  | error e => exact hx pins _ _ e s' I2 hq'
  | ok fl =>
    cases fl with
    | ret u =>
      obtain ⟨v, H', I3, rv, ev, q3⟩ := I2.after hq'
      subst ev
      exact ⟨rv, ⟨V.ref (s.heap.objs.size + 1), H', I3, rfl, q3⟩⟩
    | next => exact False.elim hq'
    | brk => exact False.elim hq'
    | cont => exact False.elim hq'
theorem pe_makeS (M : Mk X.K C f) (F : FnOk X.prog X.w X.K X.mg X.base CX k f fd ps sp) (hr : Room (k + 1) X.A) (hg : Gl X x) (hm : X.mg x = some (.ref C)) (hb : Binds X.K fd ps []) (hx : ∀ σ, PassesAt CX X σ (E σ))
    (ha : PA X (e :: es) t) (hdb : (x == ("__debug__" : Str)) = false := by decide) (he : starEach (e :: es) X.env = (false, eval e X.env) :: starEach es X.env := by rfl) (hpl : (backTo pos (starEach es X.env)).any (·.1) = false := by rfl) :
    PE X (.Call (.Name x p) (e :: es) [] pos) (tMakeS C sp E t) := by
  refine ⟨fun pins s σ H Q I h => ?_⟩
  refine wpAny_Call_Name_kw (ld_glob I hg hm ?_ hdb)
  refine PySem.W.callWith_K (h₀ := X.base) I.ok.mod.kin M.kp (thn (ha.run pos pins s σ H _ I h) fun us s1 ⟨vs, H1, I1, r, q⟩ => ⟨I1.kIn, ?_⟩) he hpl
  exact run_makeS M F hr hb (hx σ) I1 r q
end
end GX
/-! ### isinstance of a caught error that has a dict of its own -/
namespace GX
open PySem PySem.Spec PyProof.Rows L2
def rIsX (K : PySem.W.Frag) (a : Addr) (cls : Value) (d : Option Addr) : List V → Hp → VK → Prop := fun xs H Q => ∃ (c : V) (u : Value) (b : Bool) (D dd : Addr) (fs : List (Str × V)),
  xs = [.ref a, c] ∧ ClsV c u ∧ cls = .ref D ∧ d = some dd ∧ ExcC K D ∧ H dd = some (.xd fs) ∧ PySem.W.kitOne K (.ref D) u = some b ∧ Q (.bl b) H
def rIsXT (K : PySem.W.Frag) (a : Addr) (cls : Value) (d : Option Addr) : List V → Hp → VK → Prop := fun xs H Q => ∃ (tp : Addr) (cs : List V) (us : List Value) (b : Bool) (D dd : Addr) (fs : List (Str × V)),
  xs = [.ref a, .ref tp] ∧ H tp = some (.tup cs) ∧ Paired ClsV cs us ∧ cls = .ref D ∧ d = some dd ∧ ExcC K D ∧ H dd = some (.xd fs) ∧ PySem.W.kitAny K (.ref D) us = some b ∧ Q (.bl b) H
section
variable {X : Cx} {a : Addr} {oe : Obj} {cls : Value} {d : Option Addr} {pn : List (Addr × Obj)}
theorem kit_here {K : PySem.W.Frag} {D : Addr} {x : Addr} {o : Obj} {od : Option Obj} (C : ExcC K D) : PySem.W.KitX K (.ref x) (.ref D) (fun h => PySem.W.InstAt h x o D od) := by
  have hc : (PySem.W.clsIn K D).isSome = true := by
    obtain ⟨cd, e, _⟩ := PySem.W.any_some C.hd
    rw [e]; rfl
  exact PySem.W.kitx_exc hc C.hg C.hk C.hs C.ha C.hn C.ht C.hm
theorem inst_here {pins : List (Addr × Obj)} {σ : L2.St} {H : Hp} {s : Shared} {D dd : Addr} {fs : List (Str × V)} (I : Inv (X.suite a ((a, oe) :: pn)) pins σ H s) (hz : Zc (.ref D) (some dd) oe) (hf : ∃ vs, oe.data = .fields vs) (hd : H dd = some (.xd fs)) :
    ∃ od, PySem.W.InstAt s.heap a oe D (some od) := by
  obtain ⟨hget, _⟩ := I.pin (a, oe) (List.mem_append_left _ List.mem_cons_self)
  obtain ⟨vs, hv⟩ := hf
  have ho : ObjOk X.prog X.w H s.heap dd (.xd fs) := I.hok dd _ hd
  obtain ⟨mA, hns, _⟩ := ho
  obtain ⟨od, e, _⟩ := lookIn_ns hns
  exact ⟨od, hget, hz.1, by unfold PySem.W.notCls; rw [hv] <;> rfl, by rw [hz.2]; exact e⟩
theorem call_isX (hz : Zc cls d oe) (hf : ∃ vs, oe.data = .fields vs) : CallR (X.suite a ((a, oe) :: pn)) (.builtin "isinstance") (rIsX X.K a cls d) := by
  intro pins s σ H xs us Q I r h
  obtain ⟨c, u, b, D, dd, fs, rfl, hc, rfl, rfl, C, hd, e, q⟩ := h
  obtain ⟨u1, u2, rfl, r1, r2⟩ := vals2 r
  cases (show u1 = Value.ref a from r1)
  cases hc.eq r2
  obtain ⟨od, J⟩ := inst_here I hz hf hd
  exact PySem.W.kia_one (kit_here C) I.kIn J e (fun z => nomatch z) fun tk => ⟨.bl b, H, I.tok tk, rfl, q⟩
theorem call_isXT (hz : Zc cls d oe) (hf : ∃ vs, oe.data = .fields vs) : CallR (X.suite a ((a, oe) :: pn)) (.builtin "isinstance") (rIsXT X.K a cls d) := by
  intro pins s σ H xs us Q I r h
  obtain ⟨tp, cs, ws, b, D, dd, fs, rfl, hT, hc, rfl, rfl, C, hd, e, q⟩ := h
  obtain ⟨u1, u2, rfl, r1, r2⟩ := vals2 r
  cases (show u1 = Value.ref a from r1)
  cases (show u2 = Value.ref tp from r2)
  obtain ⟨od, J⟩ := inst_here I hz hf hd
  have ho : ObjOk X.prog X.w H s.heap tp (.tup cs) := I.hok tp _ hT
  obtain ⟨_, its, rv, o, h1, h2, n, h3⟩ := ho
  cases ClsV.all hc rv
  obtain ⟨oc, od', dt, sl⟩ := o
  simp only at h2 h3
  cases h2
  cases h3
  exact PySem.W.kia_tup (kit_here C) I.kIn J h1 e (fun z => nomatch z) fun tk => ⟨.bl b, H, I.tok tk, rfl, q⟩
end
end GX

/-! ### calls, methods, makers and errors by one name each (defs that may raise) -/
namespace GX
open PySem PySem.Spec PyProof.Rows L2
structure CalX (P : Program) (w : World) (K : PySem.W.Frag) (mg : Str → Option Value) (base : Heap) (k : Nat) (x : Str) (sp : Sp) : Prop where
  ex : ∃ (f : Addr) (fd : FuncData) (ps : List Str), FnOk P w K mg base (L2.CX P w) k f fd ps sp ∧ mg x = some (.ref f) ∧ PySem.W.keepIn K (.ref f) = true ∧ L2.Binds K fd ps []
structure MetX (P : Program) (w : World) (K : PySem.W.Frag) (mg : Str → Option Value) (base : Heap) (k : Nat) (C : Addr) (m : Str) (sp : Sp) : Prop where
  ex : ∃ (f : Addr) (fd : FuncData) (ps : List Str), Cls K C ∧ Meth K C m f ∧ FnOk P w K mg base (L2.CX P w) k f fd ps sp ∧ L2.Binds K fd ps []
structure MakX (P : Program) (w : World) (K : PySem.W.Frag) (mg : Str → Option Value) (base : Heap) (k : Nat) (x : Str) (C : Addr) (sp : Sp) : Prop where
  ex : ∃ (f : Addr) (fd : FuncData) (ps : List Str), Mk K C f ∧ FnOk P w K mg base (L2.CX P w) k f fd ps sp ∧ mg x = some (.ref C) ∧ L2.Binds K fd ps []
structure ErrX (P : Program) (w : World) (K : PySem.W.Frag) (mg : Str → Option Value) (base : Heap) (k : Nat) (x : Str) (C : Addr) (sp : Sp) : Prop where
  oex : OexC K C
  ex : ∃ (f : Addr) (fd : FuncData) (ps : List Str), PySem.W.findIn K (.ref C) "__init__" = some (some (.ref f)) ∧ PySem.W.typeIn K (.ref f) = some (.type "function") ∧ FnOk P w K mg base CX0 k f fd ps sp ∧ mg x = some (.ref C) ∧ L2.Binds K fd ps []
/-- raise C(e, ..) -/
def tRaiseO (C : Addr) (sp : Sp) (E : XK) (ta : TA) : TS := fun _ σ H => tMkO C sp [] ta σ H fun cls d H' => E cls d H'
section
variable {X : Cx} {k j : Nat} {C : Addr} {x m : Str} {sp : Sp} {p pos apos pos2 : Pos} {e o : Expr} {es : List Expr} {ta : TE} {t : TA} {E : XK}
theorem pe_cX (c : CalX X.prog X.w X.K X.mg X.base k x sp) (hr : Room j X.A) (hk : k ≤ j) (hg : Gl X x) (hx : Passes (L2.CX X.prog X.w) X E) (ha : PA X (e :: es) t) (hdb : (x == ("__debug__" : Str)) = false := by decide)
    (he : starEach (e :: es) X.env = (false, eval e X.env) :: starEach es X.env := by rfl) (hpl : (backTo pos (starEach es X.env)).any (·.1) = false := by rfl) : PE X (.Call (.Name x p) (e :: es) [] pos) (tCall sp [] E t) :=
  let ⟨_, _, _, F, hm, kp, b⟩ := c.ex
  pe_call F (hr.mono hk) hg hm kp b .nil hx ha hdb he hpl
theorem pe_mkX (c : MakX X.prog X.w X.K X.mg X.base k x C sp) (hr : Room j X.A) (hk : k + 1 ≤ j) (hg : Gl X x) (hx : Passes (L2.CX X.prog X.w) X E) (ha : PA X (e :: es) t) (hdb : (x == ("__debug__" : Str)) = false := by decide)
    (he : starEach (e :: es) X.env = (false, eval e X.env) :: starEach es X.env := by rfl) (hpl : (backTo pos (starEach es X.env)).any (·.1) = false := by rfl) : PE X (.Call (.Name x p) (e :: es) [] pos) (tMake C sp [] E t) :=
  let ⟨_, _, _, M, F, hm, b⟩ := c.ex
  pe_make M F (hr.mono hk) hg hm b .nil hx ha hdb he hpl
theorem pe_mtX {pl : Sem Bool} (c : MetX X.prog X.w X.K X.mg X.base k C m sp) (hr : Room j X.A) (hk : k ≤ j) (hx : Passes (L2.CX X.prog X.w) X E) (he : PE X o ta) (ha : PA X (e :: es) t)
    (hst : starEach (e :: es) X.env = (false, eval e X.env) :: starEach es X.env := by rfl) (hpl : (backTo pos (starEach es X.env)).any (·.1) = false := by rfl)
    (ht : eval (.Call (.Attribute o m apos) (e :: es) [] pos) X.env = (do
      let ov ← eval o X.env; standAt apos.atName; let (f, first) ← holding [ov] (getMethod ov m pl)
      callWith pos f first (backTo pos (starEach (e :: es) X.env)) (backToKw pos (keywordEach [] X.env))) := by rfl) : PE X (.Call (.Attribute o m apos) (e :: es) [] pos) (tMeth C m sp [] E ta t) :=
  let ⟨_, _, _, hc, hm, F, b⟩ := c.ex
  pe_meth (pl := pl) he hc hm F (hr.mono hk) b .nil hx ha hst hpl ht
theorem pe_mtXT {W : WX} {pl : Sem Bool} (c : MetX X.prog X.w X.K X.mg X.base k C m sp) (hr : Room j X.A) (hk : k ≤ j) (tk : Takes X W) (he : PE X o ta) (ha : PA X (e :: es) t)
    (hst : starEach (e :: es) X.env = (false, eval e X.env) :: starEach es X.env := by rfl) (hpl : (backTo pos (starEach es X.env)).any (·.1) = false := by rfl)
    (ht : eval (.Call (.Attribute o m apos) (e :: es) [] pos) X.env = (do
      let ov ← eval o X.env; standAt apos.atName; let (f, first) ← holding [ov] (getMethod ov m pl)
      callWith pos f first (backTo pos (starEach (e :: es) X.env)) (backToKw pos (keywordEach [] X.env))) := by rfl) : PE X (.Call (.Attribute o m apos) (e :: es) [] pos) (tMethS C m sp (WE W) ta t) :=
  let ⟨_, _, _, hc, hm, F, b⟩ := c.ex
  pe_methS (pl := pl) he hc hm F (hr.mono hk) b (fun σ => passAt tk σ) ha hst hpl ht
theorem pe_mkXT {W : WX} (c : MakX X.prog X.w X.K X.mg X.base k x C sp) (hr : Room j X.A) (hk : k + 1 ≤ j) (hg : Gl X x) (tk : Takes X W) (ha : PA X (e :: es) t) (hdb : (x == ("__debug__" : Str)) = false := by decide)
    (he : starEach (e :: es) X.env = (false, eval e X.env) :: starEach es X.env := by rfl) (hpl : (backTo pos (starEach es X.env)).any (·.1) = false := by rfl) : PE X (.Call (.Name x p) (e :: es) [] pos) (tMakeS C sp (WE W) t) :=
  let ⟨_, _, _, M, F, hm, b⟩ := c.ex
  pe_makeS M F (hr.mono hk) hg hm b (fun σ => passAt tk σ) ha hdb he hpl
theorem ps_raiseO (c : ErrX X.prog X.w X.K X.mg X.base k x C sp) (hr : Room j X.A) (hk : k + 1 ≤ j) (hc : X.calm = true) (hg : Gl X x) (tk : Takes X (fun cls d _ H => E cls d H)) (ha : PA X (e :: es) t) (hdb : (x == ("__debug__" : Str)) = false := by decide)
    (he : starEach (e :: es) X.env = (false, eval e X.env) :: starEach es X.env := by rfl) (hpl : (backTo pos (starEach es X.env)).any (·.1) = false := by rfl) : PS X (.Raise (some (.Call (.Name x p) (e :: es) [] pos)) none pos2) (tRaiseO C sp E t) :=
  let ⟨_, _, _, iC, tI, F, hm, b⟩ := c.ex
  ps_raise hc tk (pmk_oex c.oex iC tI F (hr.mono hk) b .nil pass0 hg hm ha hdb he hpl)
end
/-- what an error with one field tells -/
def Raised (C : Addr) (f : Str) (v : V) (H : Hp) (E : XK) : Prop := ∀ (d : Addr) (H' : Hp), H d = none → Same H H' → H' d = some (.xd [(f, v)]) → E (.ref C) (some d) H'
/-- the promise of an error's __init__(self, v): self.f = v -/
def sp_err (K : PySem.W.Frag) (C : Addr) (f : Str) : Sp := fun vs H Q _ => ∃ (a : Addr) (v : V), vs = [.ref a, v] ∧ OexC K C ∧ PySem.W.findIn K (.ref C) f = some none ∧ H a = some (exo a C none) ∧
  ∀ dx, H dx = none → dx ≠ a → Q .non (upd (upd H dx (exd dx [(f, v)])) a (exo a C (some dx)))
def t_err (K : PySem.W.Frag) (f : Str) : TS := tOst K f (tVar 0) (tVar 1)
theorem rd_err {K : PySem.W.Frag} {C : Addr} {f p1 p2 : Str} {vs : List V} {H : Hp} {Q : VK} {E : XK} (h : sp_err K C f vs H Q E) : t_err K f { nx := fun _ H' => Q .non H', rt := Q } (start [p1, p2] vs) H := by
  obtain ⟨a, v, rfl, T, hno, ha, q⟩ := h
  exact ⟨_, rfl, _, rfl, a, C, rfl, T, hno, .inl ⟨ha, q⟩⟩
theorem w_raiseO {K : PySem.W.Frag} {C : Addr} {f : Str} {E : XK} {ta : TA} {D : Ends} {σ : L2.St} {H : Hp} {v : V} {H1 : Hp} (T : OexC K C) (hno : PySem.W.findIn K (.ref C) f = some none) (e1 : ∀ Q, Q [v] H1 → ta σ H Q) (r : Raised C f v H1 E) : tRaiseO C (sp_err K C f) E ta D σ H := by
  refine e1 _ ⟨(by show 1 ≤ 1000; decide), fun a ha => ⟨a, v, rfl, T, hno, upd_same, fun dx hdx ndx => ⟨rfl, dx, [(f, v)], upd_same, by rw [upd_ne ndx]; exact upd_same, ?_, ?_⟩⟩⟩
  · rw [upd_ne ndx] at hdx; exact hdx
  · have hd0 : H1 dx = none := by rw [upd_ne ndx] at hdx; exact hdx
    refine r dx _ hd0 (fun b o e => ?_) upd_same
    have nb : b ≠ dx := ne_of_none e hd0
    have na : b ≠ a := ne_of_none e ha
    rw [upd_ne nb, del_ne na, upd_ne na, upd_ne nb, upd_ne na]; exact e
end GX

/-! ### + by an own __add__; defs called within an except suite; errors with two fields -/
namespace GX
open PySem PySem.Spec PyProof.Rows L2
def rOwnAdd (C : Addr) (sp : Sp) (E : XK) : R2 := fun x y H Q => ∃ (a b dx dy : Addr) (fs gs : List (Str × V)), x = .ref a ∧ y = .ref b ∧ H a = some (.ins C dx fs) ∧ H b = some (.ins C dy gs) ∧
  sp [.ref a, .ref b] H (fun v H' => ∃ p, v = .ref p ∧ Q (.ref p) H') E
structure AddX (P : Program) (w : World) (K : PySem.W.Frag) (mg : Str → Option Value) (base : Heap) (k : Nat) (C : Addr) (sp : Sp) : Prop where
  ex : ∃ (f : Addr) (fd : FuncData) (ps : List Str), FnOk P w K mg base (L2.CX P w) k f fd ps sp ∧ PySem.W.findIn K (.ref C) "__add__" = some (some (.ref f)) ∧ PySem.W.isFn K (.ref f) = true ∧ L2.Binds K fd ps [] ∧ PySem.W.selfFirst K C = true
structure EqX (P : Program) (w : World) (K : PySem.W.Frag) (mg : Str → Option Value) (base : Heap) (k : Nat) (C : Addr) (sp : Sp) : Prop where
  ex : ∃ (f : Addr) (fd : FuncData) (ps : List Str), FnOk P w K mg base CX0 k f fd ps sp ∧ PySem.W.findIn K (.ref C) "__eq__" = some (some (.ref f)) ∧ PySem.W.isFn K (.ref f) = true ∧ L2.Binds K fd ps []
/-- x == y of two instances of a class with an own __eq__ -/
def rOwnEq2 (C : Addr) (sp : Sp) (E : XK) : R2 := fun x y H Q => ∃ (a b dx dy : Addr) (fs gs : List (Str × V)), x = .ref a ∧ y = .ref b ∧ H a = some (.ins C dx fs) ∧ H b = some (.ins C dy gs) ∧
  sp [.ref a, .ref b] H (fun v H' => ∃ r, v = .bl r ∧ Q (.bl r) H') E
section
variable {X : Cx} {k j : Nat} {C : Addr} {sp : Sp}
theorem looks_ins {pins : List (Addr × Obj)} {σ : L2.St} {H : Hp} {s : Shared} {b dy : Addr} {gs : List (Str × V)} (J0 : Inv X pins σ H s) (hb : H b = some (.ins C dy gs)) : PySem.W.Looks (model X.prog X.w) s.heap (typeOf (.ref b)) (.ref C) := by
  obtain ⟨_, J, _⟩ := ins_get J0.hok hb
  obtain ⟨_, J, _⟩ := J.look
  exact J.type
theorem run_add (c : AddX X.prog X.w X.K X.mg X.base k C sp) (room : Room j X.A) (le : k ≤ j) {pins : List (Addr × Obj)} {σ : L2.St} {H : Hp} {s : Shared} {x y : V} {v u : Value} {Q : VK} {E : XK} (out : PassesAt (L2.CX X.prog X.w) X σ E) (J0 : Inv X pins σ H s) (rx : RelV x v) (ry : RelV y u) (h : rOwnAdd C sp E x y H Q) :
    wpAny (model X.prog X.w) X.A (binaryOp .Add v u) (EP X pins σ Q) X.xe s := by
  obtain ⟨f, fd, ps, F, hs, hf, hbd, hself⟩ := c.ex
  obtain ⟨a, b, dx, dy, fs, gs, rfl, rfl, ha, hb, hsp⟩ := h
  cases rx
  cases ry
  have look := looks_ins J0 hb
  obtain ⟨_, J, _⟩ := ins_get J0.hok ha
  obtain ⟨_, J, _⟩ := J.look
  obtain ⟨m, hF⟩ := J0.fr
  have args2 : Vals [V.ref a, V.ref b] [Value.ref a, Value.ref b] := .cons rfl (.cons rfl .nil)
  have two := F.len _ _ _ _ hsp
  have bound := hbd s [.ref a, .ref b] J0.kIn (by simpa using two)
  refine PySem.W.binop_K (op := .Add) hF J0.ok.mod.kin J look hself hs hf (wpAny_call (codeAny_mono (F.run X.A X.stack s H ⟨[.ref a, .ref b], []⟩ _ _ _ E (room.mono le) J0.env0 (by simpa using bound) args2 hsp) fun r s' back => ?_))
  cases r with
  | error e => exact out pins H s e s' J0 back
  | ok fl =>
    cases fl with
    | ret w =>
      obtain ⟨z, H', J', rz, p, ez, q⟩ := J0.after back
      subst ez
      cases rz
      exact ⟨.ref p, H', J', rfl, q⟩
    | next => exact back.elim
    | brk => exact back.elim
    | cont => exact back.elim
theorem op_addX {E : XK} (c : AddX X.prog X.w X.K X.mg X.base k C sp) (room : Room j X.A) (le : k ≤ j) (out : Passes (L2.CX X.prog X.w) X E) : OpR X (binaryOp .Add) (rOwnAdd C sp E) :=
  fun pins s σ H x y v u Q J rx ry h => run_add c room le (fun pins H s e s' => out pins σ H s e s') J rx ry h
/-- a + b within a try -/
def tAddS (C : Addr) (sp : Sp) (E : L2.St → XK) (ta tb : TE) : TE := fun σ H Q => ta σ H fun x H1 => tb σ H1 fun y H2 => rOwnAdd C sp (E σ) x y H2 Q
theorem pe_addS {W : WX} {a b : Expr} {ta tb : TE} {pos : Pos} (c : AddX X.prog X.w X.K X.mg X.base k C sp) (room : Room j X.A) (le : k ≤ j) (tk : Takes X W) (ha : PE X a ta) (hb : PE X b tb) : PE X (.BinOp a .Add b pos) (tAddS C sp (WE W) ta tb) :=
  ⟨fun pins s σ H Q J h => wpAny_BinOp (binT (R := fun x y H2 => rOwnAdd C sp (WE W σ) x y H2 Q) ha hb J h fun v u s2 x y H2 J2 rx ry q => run_add c room le (passAt tk σ) J2 rx ry q)⟩
theorem op_eqX (c : EqX X.prog X.w X.K X.mg X.base k C sp) (room : Room j X.A) (le : k ≤ j) : OpR X (compareOp .Eq) (rOwnEq2 C sp E0) := by
  intro pins s σ H x y v u Q J0 rx ry h
  obtain ⟨f, fd, ps, F, hs, hf, hbd⟩ := c.ex
  obtain ⟨a, b, dx, dy, fs, gs, rfl, rfl, ha, hb, hsp⟩ := h
  cases rx
  cases ry
  have look := looks_ins J0 hb
  obtain ⟨_, J, _⟩ := ins_get J0.hok ha
  obtain ⟨_, J, _⟩ := J.look
  obtain ⟨m, hF⟩ := J0.fr
  have args2 : Vals [V.ref a, V.ref b] [Value.ref a, Value.ref b] := .cons rfl (.cons rfl .nil)
  have two := F.len _ _ _ _ hsp
  have bound := hbd s [.ref a, .ref b] J0.kIn (by simpa using two)
  show wpAny (model X.prog X.w) X.A (richCompare .Eq (.ref a) (.ref b)) (EP X pins σ Q) X.xe s
  refine PySem.W.cmp_K (op := .Eq) room.units0 hF J0.ok.mod.kin J look (by simp [PySem.W.notFirst]) hs hf (wpAny_call (codeAny_mono (F.run X.A X.stack s H ⟨[.ref a, .ref b], []⟩ _ _ _ E0 (room.mono le) J0.env0 (by simpa using bound) args2 hsp) fun r s' back => ?_))
  cases r with
  | error e => exact back.elim
  | ok fl =>
    cases fl with
    | ret w =>
      obtain ⟨z, H', J', rz, p, ez, q⟩ := J0.after back
      subst ez
      cases rz
      exact ⟨.bl p, H', J', rfl, q⟩
    | next => exact back.elim
    | brk => exact back.elim
    | cont => exact back.elim
end
end GX

/-! ### a def called while an exception is held: what it promises may speak of that exception -/
namespace GX
open PySem PySem.Spec PyProof.Rows L2
abbrev SpE := Addr → Value → Option Addr → Sp
structure FnG (P : Program) (w : World) (K : PySem.W.Frag) (mg : Str → Option Value) (base : Heap) (k : Nat) (f : Addr) (fd : FuncData) (ps : List Str) (sp : SpE) : Prop where
  len : ∀ a c d vs H Q, sp a c d vs H Q E0 → vs.length = ps.length
  run : ∀ (A : Around) (outer : List Env) (s : Shared) (H : Hp) (args : Args) (us : List Value) (vs : List V) (Q : VK) (p : Addr × Obj), L2H.RoomH k A → L2H.PinOk outer H s p → (∃ fv, p.2.data = .fields fv) →
    Env0 P w K mg base A outer s H → BindsTo s fd args (ps.zip us) → Vals vs us → sp p.1 p.2.cls p.2.dict vs H Q E0 → codeAny (model P w) A (.call (.ref f) args) (CR CX0 outer P w H s Q E0) s
abbrev cxG (P : Program) (w : World) (K : PySem.W.Frag) (mg : Str → Option Value) (base : Heap) (N : List Str) (qual : Str) (scope : Scope) (f : Addr) (cd : Value) (A : Around) (outer : List Env) (s : Shared) (H : Hp) (p : Addr × Obj) : Cx :=
  L2H.cxH CX0 P w K mg base N qual scope f cd A outer s H E0 p
theorem _root_.L2.Fun.okG {P : Program} {w : World} {K : PySem.W.Frag} {mg : Str → Option Value} {base : Heap} {x qual : Str} {st : Stmt} {f : Addr} {fd : FuncData} {N ps : List Str} {k : Nat} {sp : SpE} (F : Fun K x qual st f fd) (S : FnScope N ps (defScope st))
    (len : ∀ a c d vs H Q, sp a c d vs H Q E0 → vs.length = ps.length)
    (walks : ∀ (cdv : Value) (A : Around) (outer : List Env) (s : Shared) (H : Hp) (vs : List V) (Q : VK) (p : Addr × Obj), (∃ fv, p.2.data = .fields fv) → sp p.1 p.2.cls p.2.dict vs H Q E0 →
      ∃ t, PSs (cxG P w K mg base N qual (defScope st) f cdv A outer s H p) (defBody st) t ∧ t { nx := fun _ H' => Q .non H', rt := Q } (start N vs) H) : FnG P w K mg base (k + 1) f fd ps sp := by
  obtain ⟨oc, od, kV, doc, pm, an, cdv, ct, osl, rfl, at_, code⟩ := F.ex
  constructor
  · exact len
  intro A outer s H args us vs Q p room pin fields env bound rel promise
  have many := len _ _ _ _ _ _ promise
  have inK : K.In s.heap := env.mod.kin.keeps fun b o e => (env.bs b o e).1
  have free : s.heap.NoLimit := env.mod.nolimit.keeps fun b o e => (env.bs b o e).1
  have kinds : ∀ y ∈ ps.zip us, (defScope st).names.lookup y.1 = some .local ∨ ((defScope st).names.lookup y.1 = some .cell ∧ ((cellsFrom (s.heap.objs.size + 1) (defScope st).names []).lookup y.1).isSome = true) := by
    rintro ⟨n, v⟩ hy
    cases S.par n (List.of_mem_zip hy).1 with
    | inl q => exact .inl q
    | inr q => exact .inr ⟨q, PySem.W.cellsFrom_some _ _ _ (.inl q)⟩
  refine codeAny_call_function room.depth (inK _ _ at_) rfl S.co S.gen rfl (PySem.W.codeRec_of inK code) (bound _ _ _ _ (wpAny_newFunctionEnv_cells S.kind kinds fun e0 he s1 x => ?_))
  subst he
  refine ⟨free.keeps x.toInCall.keep, codeAny_func ?_⟩
  obtain ⟨t, der, goal⟩ := walks cdv A outer s H vs Q p fields promise
  have J : Inv (cxG P w K mg base N qual (defScope st) f cdv A outer s H p) [] (start N vs) H s1 := L2H.inv_startH S pin env many rel x
  refine wpAny_mono (der.run [] s1 (start N vs) H _ J goal) (fun r s' back => ?_) fun e s' back => back
  cases r with
  | ret u =>
    obtain ⟨v, σ', H', J', rv, q⟩ := back
    exact ⟨v, H', J'.os, J'.bare, J'.base, J'.hok, rv, q⟩
  | next =>
    obtain ⟨σ', H', J', q⟩ := back
    exact ⟨.non, H', J'.os, J'.bare, J'.base, J'.hok, rfl, q⟩
  | brk => obtain ⟨_, _, _, z⟩ := back; exact False.elim z
  | cont => obtain ⟨_, _, _, z⟩ := back; exact False.elim z
structure HotX (P : Program) (w : World) (K : PySem.W.Frag) (mg : Str → Option Value) (base : Heap) (k : Nat) (x : Str) (sp : SpE) : Prop where
  ex : ∃ (f : Addr) (fd : FuncData) (ps : List Str), FnG P w K mg base k f fd ps sp ∧ mg x = some (.ref f) ∧ PySem.W.keepIn K (.ref f) = true ∧ L2.Binds K fd ps []
/-- f(..) within an except suite -/
def tCallG (sp : Sp) (t : TA) : TE := fun σ H Q => t σ H fun vs H1 => sp vs H1 Q E0
theorem pe_callG {X : Cx} {k j : Nat} {x : Str} {sp : SpE} {p pos : Pos} {e : Expr} {es : List Expr} {t : TA} {a : Addr} {oe : Obj} {cls : Value} {d : Option Addr} {pn : List (Addr × Obj)} (c : HotX X.prog X.w X.K X.mg X.base k x sp) (room : Room j X.A) (le : k ≤ j) (hz : Zc cls d oe) (hf : ∃ vs, oe.data = .fields vs)
    (hg : Gl (X.suite a ((a, oe) :: pn)) x) (ha : PA (X.suite a ((a, oe) :: pn)) (e :: es) t) (hdb : (x == ("__debug__" : Str)) = false := by decide)
    (he : starEach (e :: es) X.env = (false, eval e X.env) :: starEach es X.env := by rfl) (hpl : (backTo pos (starEach es X.env)).any (·.1) = false := by rfl) : PE (X.suite a ((a, oe) :: pn)) (.Call (.Name x p) (e :: es) [] pos) (tCallG (sp a cls d) t) := by
  obtain ⟨f, fd, ps, F, hm, kp, hbd⟩ := c.ex
  obtain ⟨rfl, rfl⟩ := hz
  refine ⟨fun pins s σ H Q J0 h => ?_⟩
  refine wpAny_Call_Name_kw (ld_glob J0 hg hm (PySem.W.callWith_K (h₀ := X.base) J0.ok.mod.kin kp (thn (ha.run pos pins s σ H _ J0 h) fun us s1 ⟨vs, H1, J1, rel, q⟩ => ⟨J1.kIn, ?_⟩) he hpl) hdb)
  have two := F.len _ _ _ _ _ _ q
  have bound := hbd s1 us J1.kIn (by rw [List.append_nil, ← rel.length]; exact two)
  rw [List.append_nil] at bound
  have P1 := J1.pin (a, oe) (List.mem_append_left _ List.mem_cons_self)
  have pin : L2H.PinOk (X.suite a ((a, oe) :: pn)).stack H1 s1 (a, oe) := ⟨P1.1, P1.2.1, fun hmm => (List.mem_cons.mp (J1.stkSub a hmm)).elim P1.2.2.1 P1.2.2.2.1, P1.2.2.2.2⟩
  refine wpAny_call (codeAny_mono (F.run _ (X.suite a ((a, oe) :: pn)).stack s1 H1 ⟨us, []⟩ us vs Q (a, oe) ⟨(room.mono le).dp, (room.mono le).un⟩ pin hf J1.env0 bound rel q) fun r s' back => ?_)
  cases r with
  | error e => exact back.elim
  | ok fl =>
    cases fl with
    | ret u => exact J1.after back
    | next => exact back.elim
    | brk => exact back.elim
    | cont => exact back.elim
/-- isinstance of the exception that is held, within a def that is called in the suite -/
theorem call_isG {P : Program} {w : World} {K : PySem.W.Frag} {mg : Str → Option Value} {base : Heap} {N : List Str} {qual : Str} {scope : Scope} {f : Addr} {cd : Value} {A : Around} {outer : List Env} {s0 : Shared} {H0 : Hp} {p : Addr × Obj} (hf : ∃ vs, p.2.data = .fields vs) :
    CallR (cxG P w K mg base N qual scope f cd A outer s0 H0 p) (.builtin "isinstance") (rIsX K p.1 p.2.cls p.2.dict) := by
  intro pins s σ H xs us Q J0 r h
  obtain ⟨c, u, b, D, dd, fs, rfl, hc, ecls, edict, C, hd, e, q⟩ := h
  obtain ⟨u1, u2, rfl, r1, r2⟩ := vals2 r
  cases (show u1 = Value.ref p.1 from r1)
  cases hc.eq r2
  obtain ⟨hget, _⟩ := J0.pin p (List.mem_append_left _ (by show p ∈ [p]; simp))
  obtain ⟨vs, hv⟩ := hf
  have ho : ObjOk P w H s.heap dd (.xd fs) := J0.hok dd _ hd
  obtain ⟨mA, hns, _⟩ := ho
  obtain ⟨od, e2, _⟩ := lookIn_ns hns
  have J : PySem.W.InstAt s.heap p.1 p.2 D (some od) := ⟨hget, ecls, by unfold PySem.W.notCls; rw [hv] <;> rfl, by rw [edict]; exact e2⟩
  exact PySem.W.kia_one (kit_here C) J0.kIn J e (fun z => nomatch z) fun tk => ⟨.bl b, H, J0.tok tk, rfl, q⟩
/-! ### errors with two fields -/
def sp_err2 (K : PySem.W.Frag) (C : Addr) (f g : Str) : Sp := fun vs H Q _ => ∃ (a : Addr) (v u : V), vs = [.ref a, v, u] ∧ OexC K C ∧ PySem.W.findIn K (.ref C) f = some none ∧ PySem.W.findIn K (.ref C) g = some none ∧ H a = some (exo a C none) ∧
  ∀ dx (H' : Hp), H dx = none → dx ≠ a → H' a = some (exo a C (some dx)) → H' dx = some (exd dx [(g, u), (f, v)]) → (∀ b, b ≠ a → b ≠ dx → H' b = H b) → Q .non H'
def t_err2 (K : PySem.W.Frag) (f g : Str) : TS := tSeq (tOst K f (tVar 0) (tVar 1)) (tOst K g (tVar 0) (tVar 2))
theorem rd_err2 {K : PySem.W.Frag} {C : Addr} {f g p1 p2 p3 : Str} {vs : List V} {H : Hp} {Q : VK} {E : XK} (h : sp_err2 K C f g vs H Q E) : t_err2 K f g { nx := fun _ H' => Q .non H', rt := Q } (start [p1, p2, p3] vs) H := by
  obtain ⟨a, v, u, rfl, T, hf, hg, ha, q⟩ := h
  refine ⟨_, rfl, _, rfl, a, C, rfl, T, hf, .inl ⟨ha, fun dx hdx ndx => ?_⟩⟩
  refine ⟨_, rfl, _, rfl, a, C, rfl, T, hg, .inr ⟨dx, [(f, v)], upd_same, by rw [upd_ne ndx]; exact upd_same, by show 1 ≤ 900; decide, ?_⟩⟩
  refine q dx _ hdx ndx (by rw [upd_ne ndx.symm]; exact upd_same) upd_same fun b nb nd => ?_
  rw [upd_ne nd, upd_ne nb, upd_ne nd]
/-- what an error with two fields tells -/
def Raised2 (C : Addr) (f g : Str) (v u : V) (H : Hp) (E : XK) : Prop := ∀ (d : Addr) (H' : Hp), H d = none → Same H H' → H' d = some (.xd [(g, u), (f, v)]) → E (.ref C) (some d) H'
theorem w_raiseO2 {K : PySem.W.Frag} {C : Addr} {f g : Str} {E : XK} {ta : TA} {D : Ends} {σ : L2.St} {H : Hp} {v u : V} {H1 : Hp} (T : OexC K C) (hf : PySem.W.findIn K (.ref C) f = some none) (hg : PySem.W.findIn K (.ref C) g = some none) (e1 : ∀ Q, Q [v, u] H1 → ta σ H Q) (r : Raised2 C f g v u H1 E) : tRaiseO C (sp_err2 K C f g) E ta D σ H := by
  refine e1 _ ⟨(by show 2 ≤ 1000; decide), fun a ha => ⟨a, v, u, rfl, T, hf, hg, upd_same, fun dx H' hdx ndx h1 h2 h3 => ⟨rfl, dx, _, h1, h2, ?_, ?_⟩⟩⟩
  · rw [upd_ne ndx] at hdx; exact hdx
  · have hd0 : H1 dx = none := by rw [upd_ne ndx] at hdx; exact hdx
    refine r dx _ hd0 (fun b o e => ?_) upd_same
    have nb : b ≠ dx := ne_of_none e hd0
    have na : b ≠ a := ne_of_none e ha
    rw [upd_ne nb, del_ne na, h3 b na nb, upd_ne na]; exact e
end GX

/-! ### facts of the head about error classes and own operators -/
namespace GX
open PySem PySem.Spec PyProof.Rows L2
def clsB (K : PySem.W.Frag) (C : Addr) : Bool := match K.lookup C with
  | some ⟨.type t, _, .cls cd, sl⟩ => (match cd.mro, sl.toList with
    | .ref C2 :: bm, [_, _, _, _, some (.builtin n), _] => t == "type" && (C2 == C && (n == "ValueError.__new__" && (!cd.hasDel && (cd.hasDict && PySem.HandSPX.refsVE bm))))
    | _, _ => false)
  | _ => false
theorem clsB_ok {K : PySem.W.Frag} {C : Addr} (h : clsB K C = true) : ∃ nm q N bs bm sn sub ab col dd k0 k1 k2 k3 k5, K.lookup C = some (excClassObj nm q C N bs bm true sn sub ab col dd k0 k1 k2 k3 k5 "ValueError.__new__") ∧ PySem.HandSPX.refsVE bm = true := by
  unfold clsB at h
  split at h
  · rename_i t dd cd sl found
    split at h
    · rename_i C2 bm k0 k1 k2 k3 n k5 em es
      simp only [Bool.and_eq_true, beq_iff_eq, Bool.not_eq_true'] at h
      obtain ⟨rfl, rfl, rfl, nodel, hasd, tail⟩ := h
      obtain ⟨nm, bs, mro, ns, qn, hd, sn, sub, ab, col, del⟩ := cd
      dsimp only at em nodel hasd
      subst em nodel hasd
      obtain ⟨l⟩ := sl
      simp only at es
      subst es
      exact ⟨nm, qn, ns, bs, bm, sn, sub, ab, col, dd, k0, k1, k2, k3, k5, found, tail⟩
    · cases h
  · cases h
inductive Ex where
  | oex (x : Str)
  | exc (x : Str)
  | xf (x : Str)
  | noat (x f : Str)
  | ini (x : Str)
  | kit (x y : Str) (b : Bool)
  | kitT (x : Str) (t : String) (b : Bool)
  | exm (x y : Str) (b : Bool)
  | first (x : Str)
  | ins (x : Str)
def Ex.ok (K : PySem.W.Frag) : Ex → Bool
  | .oex x => clsB K (He.ga K x) && (decide (PySem.W.findIn K (.ref (He.ga K x)) "__setattr__" = some (some (.builtin "object.__setattr__"))) && (decide (PySem.W.subIn K (.ref (He.ga K x)) (.type "BaseException") = some true) && (decide (PySem.W.typeIn K (.ref (He.ga K x)) = some (.type "type")) && PySem.W.keepIn K (.ref (He.ga K x)))))
  | .exc x => decide (PySem.W.findIn K (.ref (He.ga K x)) "__getattribute__" = some (some (.builtin "BaseException.__getattribute__"))) && (decide (PySem.W.findIn K (.ref (He.ga K x)) "__getattr__" = some none) && (decide (PySem.W.subIn K (.ref (He.ga K x)) (.type "BaseException") = some true) &&
      (PySem.W.hasDictIn K (He.ga K x) && (decide (PySem.W.findIn K (.ref (He.ga K x)) "__class__" = some (some (.builtin "object.__class__"))) && (decide (PySem.W.specialIn K (.builtin "object.__class__") "__get__" = some (some (.builtin "getset_descriptor.__get__"))) &&
      (decide (PySem.W.takesIn K (.builtin "object.__class__") = some true) && decide (PySem.W.mroIn K (He.ga K x) (.type "object") = some true)))))))
  | .xf x => xfB K (He.ga K x)
  | .noat x f => decide (PySem.W.findIn K (.ref (He.ga K x)) f = some none)
  | .ini x => decide (PySem.W.findIn K (.ref (He.ga K x)) "__init__" = some (some (.ref (He.ma K (He.ga K x) "__init__")))) && decide (PySem.W.typeIn K (.ref (He.ma K (He.ga K x) "__init__")) = some (.type "function"))
  | .kit x y b => decide (PySem.W.kitOne K (.ref (He.ga K x)) (.ref (He.ga K y)) = some b)
  | .kitT x t b => decide (PySem.W.kitOne K (.ref (He.ga K x)) (.type t) = some b)
  | .exm x y b => decide (PySem.W.exmOne K (.ref (He.ga K x)) (.ref (He.ga K y)) = some b)
  | .first x => PySem.W.selfFirst K (He.ga K x)
  | .ins x => decide (PySem.W.findIn K (.ref (He.ga K x)) "__class__" = some (some (.builtin "object.__class__"))) && (decide (PySem.W.specialIn K (.builtin "object.__class__") "__get__" = some (some (.builtin "getset_descriptor.__get__"))) &&
      (decide (PySem.W.takesIn K (.builtin "object.__class__") = some true) && decide (PySem.W.mroIn K (He.ga K x) (.type "object") = some true)))
structure InsC (K : PySem.W.Frag) (C : Addr) : Prop where
  ha : PySem.W.findIn K (.ref C) "__class__" = some (some (.builtin "object.__class__"))
  hn : PySem.W.specialIn K (.builtin "object.__class__") "__get__" = some (some (.builtin "getset_descriptor.__get__"))
  ht : PySem.W.takesIn K (.builtin "object.__class__") = some true
  hm : PySem.W.mroIn K C (.type "object") = some true
section
variable {K : PySem.W.Frag} {x y f : Str} {t : String} {b : Bool}
theorem oex_ok (h : (Ex.oex x).ok K = true) : OexC K (He.ga K x) := by
  obtain ⟨h1, h⟩ := He.ba h
  obtain ⟨h2, h⟩ := He.ba h
  obtain ⟨h3, h⟩ := He.ba h
  obtain ⟨h4, h5⟩ := He.ba h
  exact ⟨clsB_ok h1, of_decide_eq_true h2, of_decide_eq_true h3, of_decide_eq_true h4, h5⟩
theorem exc_ok (h : (Ex.exc x).ok K = true) : ExcC K (He.ga K x) := by
  obtain ⟨h1, h⟩ := He.ba h
  obtain ⟨h2, h⟩ := He.ba h
  obtain ⟨h3, h⟩ := He.ba h
  obtain ⟨h4, h⟩ := He.ba h
  obtain ⟨h5, h⟩ := He.ba h
  obtain ⟨h6, h⟩ := He.ba h
  obtain ⟨h7, h8⟩ := He.ba h
  exact ⟨of_decide_eq_true h1, of_decide_eq_true h2, of_decide_eq_true h3, h4, of_decide_eq_true h5, of_decide_eq_true h6, of_decide_eq_true h7, of_decide_eq_true h8⟩
theorem xf_ok (h : (Ex.xf x).ok K = true) : XfC K (He.ga K x) := xfB_ok h
theorem noat_ok (h : (Ex.noat x f).ok K = true) : PySem.W.findIn K (.ref (He.ga K x)) f = some none := of_decide_eq_true h
theorem ini_ok (h : (Ex.ini x).ok K = true) : PySem.W.findIn K (.ref (He.ga K x)) "__init__" = some (some (.ref (He.ma K (He.ga K x) "__init__"))) ∧ PySem.W.typeIn K (.ref (He.ma K (He.ga K x) "__init__")) = some (.type "function") := by
  obtain ⟨h1, h2⟩ := He.ba h
  exact ⟨of_decide_eq_true h1, of_decide_eq_true h2⟩
theorem kit_ok (h : (Ex.kit x y b).ok K = true) : PySem.W.kitOne K (.ref (He.ga K x)) (.ref (He.ga K y)) = some b := of_decide_eq_true h
theorem kitT_ok (h : (Ex.kitT x t b).ok K = true) : PySem.W.kitOne K (.ref (He.ga K x)) (.type t) = some b := of_decide_eq_true h
theorem exm_ok (h : (Ex.exm x y b).ok K = true) : PySem.W.exmOne K (.ref (He.ga K x)) (.ref (He.ga K y)) = some b := of_decide_eq_true h
theorem first_ok (h : (Ex.first x).ok K = true) : PySem.W.selfFirst K (He.ga K x) = true := h
theorem ins_ok (h : (Ex.ins x).ok K = true) : InsC K (He.ga K x) := by
  obtain ⟨h5, h⟩ := He.ba h
  obtain ⟨h6, h⟩ := He.ba h
  obtain ⟨h7, h8⟩ := He.ba h
  exact ⟨of_decide_eq_true h5, of_decide_eq_true h6, of_decide_eq_true h7, of_decide_eq_true h8⟩
end
abbrev AlE : Type := He.AlD × Bool
def obsE (fa : List He.Fa) (fn : List He.DefD) (ex : List Ex) (K : PySem.W.Frag) : AlE := (He.obsD fa fn K, ex.all fun e => e.ok K)
def obsEG (n : Nat) (fa : List He.Fa) (fn : List He.DefD) (ex : List Ex) (g : Addr → Option Obj) : AlE := obsE fa fn ex (He.frG g (He.asD g n))
def SaysE (fa : List He.Fa) (fn : List He.DefD) (ex : List Ex) (K : PySem.W.Frag) : Prop := He.SaysD fa fn K ∧ (ex.all fun e => e.ok K) = true
def hookE (n : Nat) (fa : List He.Fa) (fn : List He.DefD) (ex : List Ex) : PySem.W.Hook where
  α := AlE
  obs := fun s => obsEG n fa fn ex s.heap.get?
  val := fun _ => (He.valD fn, true)
  says := fun _ h => ∃ K : PySem.W.Frag, K.In h ∧ SaysE fa fn ex K
  of := fun _ _ e => ⟨_, He.frG_in, congrArg (fun z : AlE => z.1) e, congrArg (fun z : AlE => z.2) e⟩
  keeps := fun _ _ _ ⟨K, hK, c⟩ k => ⟨K, PySem.W.Frag.In.keeps hK k, c⟩
theorem obsEG_eq {n : Nat} {fa : List He.Fa} {fn : List He.DefD} {ex : List Ex} {g : Addr → Option Obj} {s : Shared} (h : ∀ a, g a = s.heap.get? a) : obsEG n fa fn ex g = (hookE n fa fn ex).obs s := by
  obtain rfl : g = s.heap.get? := funext h
  rfl
theorem SaysE.more {fa : List He.Fa} {fn : List He.DefD} {ex : List Ex} {K : PySem.W.Frag} (c : SaysE fa fn ex K) (i : Nat) {e : Ex} (h : ex[i]? = some e := by rfl) : e.ok K = true := List.all_eq_true.mp c.2 e (List.mem_of_getElem? h)
end GX

namespace G
open PySem PySem.Spec PyProof.Rows L2
/-! ### any(xs) of a list of ints -/
theorem truth_ints {prog : Program} {w : World} {A : Around} {ns : List Int} {its : List Value} (rv : Vals (ns.map V.int) its) :
    TruthOf prog w A (fun i v => its.toArray[i]? = some v) (fun i => (ns.map fun z => z != 0).getD i false) := fun i v s Q E hv hq => by
  have hv' : its[i]? = some v := by simpa using hv
  obtain ⟨x, hx, r⟩ := Paired.at rv hv'
  rw [List.getElem?_map] at hx
  obtain ⟨n, hn, rfl⟩ := Option.map_eq_some_iff.mp hx
  obtain ⟨t, rfl⟩ := r
  have hg : (ns.map fun z => z != 0).getD i false = (n != 0) := by rw [List.getD_eq_getElem?_getD, List.getElem?_map, hn] <;> rfl
  have hq' : Q ((ns.map fun z => z != 0).getD i false) s := hq
  rw [hg] at hq'
  exact PySem.P.truthy_int hq'
def rAnyI (K : PySem.W.Frag) : List V → Hp → VK → Prop := fun vs H Q => ∃ (a : Addr) (ns : List Int), vs = [V.ref a] ∧ SqL K H a (ns.map V.int) ∧ Q (.bl (ns.any fun z => decide (z ≠ 0))) H
theorem cr_anyI {X : Cx} (hc : X.calm = true) : CallR X (.builtin "any") (rAnyI X.K) := by
  intro pins s σ H vs us Q I r h
  obtain ⟨a, ns, rfl, hs, q⟩ := h
  obtain ⟨its, rv, hl, _⟩ := I.list hs
  rw [Vals.ref1 r]
  have hlen := rv.length
  refine call_any_walk (iter_any hl.isList fun s₂ e2 st hne => ?_)
  subst e2
  refine ⟨_, _, _, _, _, _, _, rfl, Walks.list (A := X.A.in1) (I.ok.hd hc) _ a hne its.toArray, st, truth_ints rv, fun h' tk hk => ?_⟩
  refine ⟨.bl _, H, I.kept fun b o eo => hk b o (fun hmem => ?_) (Heap.get?_push_of_some _ eo), ?_, q⟩
  · rcases List.mem_cons.mp hmem with e1 | hmem
    · exact absurd (e1 ▸ Heap.lt_size eo) (Nat.lt_irrefl _)
    · cases hmem
  · show Value.bool _ = Value.bool _
    rw [show its.toArray.size = (ns.map fun z => z != 0).length by rw [List.size_toArray, ← hlen, List.length_map, List.length_map], L2.any_range, List.any_map]
    congr 1
    apply congrArg (ns.any)
    funext z
    by_cases hz : z = 0 <;> simp [hz]
theorem w_anyI {K : PySem.W.Frag} {H : Hp} {Q : VK} {p : Addr} {ns : List Int} (h : SqL K H p (ns.map V.int)) (q : Q (.bl (ns.any fun z => decide (z ≠ 0))) H) : rAnyI K [.ref p] H Q := ⟨p, ns, rfl, h, q⟩
/-! ### comprehensions over enumerate(list) -/
section
variable {K : PySem.W.Frag} {σ : L2.St} {H : Hp} {Q : VK} {tt : TT} {te : TE} {tl : TA}
theorem w_lcE {g : TG} {vs : List Nat} (h : tl σ H fun us H1 => ∃ a xs, us = [.ref a] ∧ SqL K H1 a xs ∧ LcW (Ite K a) g tt te vs σ H1 Q) : tLc (iEnum K tl) g tt te vs σ H Q := h
theorem lcE {a : Addr} {xs : List V} {g : TG} {vs : List Nat} (Pv : Addr → Nat → Hp → Prop) (h0 : ∀ Dl, H Dl = none → Pv Dl 0 (upd H Dl (.lst []))) (hl : ∀ Dl i H1, H Dl = none → i ≤ xs.length → Pv Dl i H1 → SqL K H1 a xs)
    (hs : ∀ Dl i x T H1, H Dl = none → xs[i]? = some x → Pv Dl i H1 → H1 T = none → g (.ref T) (wipe σ vs) (upd H1 T (.tup [.int (i : Nat), x])) fun σ2 H2 => wipe σ2 vs = wipe σ vs ∧ LcT tt te Dl (Pv Dl (i + 1)) σ2 H2)
    (hd : ∀ Dl H1, H Dl = none → Pv Dl xs.length H1 → Q (.ref Dl) H1) : LcW (Ite K a) g tt te vs σ H Q :=
  fun Dl hD => lc_it (walk_enum (K := K) (a := a) (xs := xs)) (Pv Dl) (h0 Dl hD) (fun i H1 hi p => hl Dl i H1 hD hi p) (fun i x H1 H' hi p y => by
    obtain ⟨T, u, v, rfl, hT, rfl, e1, e2⟩ := y
    have e1 := Option.some.inj e1
    subst e1
    exact hs Dl i v T H1 hD e2 p hT) (fun H1 p => hd Dl H1 hD p)
theorem w_enumSq {a : Addr} {xs : List V} {P : Addr → Prop} (h : SqL K H a xs) (q : P a) : ∃ b ys, [V.ref a] = [.ref b] ∧ SqL K H b ys ∧ P b := ⟨a, xs, rfl, h, q⟩
end
/-! ### ints in lists: deep equality -/
theorem dp_is {K : PySem.W.Frag} {H : Hp} : ∀ xs : List Int, DpAll K H (xs.map V.int) (xs.map PyData.int)
  | [] => .nil
  | x :: xs => .cons (.int x) (dp_is xs)
theorem dp_ints {K : PySem.W.Frag} {H : Hp} {p : Addr} {xs : List Int} (h : SqL K H p (xs.map V.int)) : Dp K H (.ref p) (.list (xs.map PyData.int)) := .lst h (dp_is xs)
theorem di_lay : ∀ xs : List Int, PyData.canLayAll0 (xs.map PyData.int) = true
  | [] => rfl
  | x :: xs => by
    rw [List.map_cons]
    show (PyData.canLay0 (.int x) && PyData.canLayAll0 (xs.map PyData.int)) = true
    rw [di_lay xs]; rfl
theorem di_depth : ∀ xs : List Int, PyData.depthAll (xs.map PyData.int) = 0
  | [] => rfl
  | x :: xs => by
    rw [List.map_cons]
    show max (PyData.depth (.int x)) (PyData.depthAll (xs.map PyData.int)) = 0
    rw [di_depth xs]; rfl
theorem di_shaped (xs : List Int) : SeqAt.shaped (.list (xs.map PyData.int)) = true := by
  have h1 : PyData.canLay0 (.list (xs.map PyData.int)) = true := di_lay xs
  have h2 : PyData.depth (.list (xs.map PyData.int)) ≤ 64 := by
    show PyData.depthAll (xs.map PyData.int) + 1 ≤ 64
    rw [di_depth]; decide
  show (PyData.canLay0 (.list (xs.map PyData.int)) && decide (PyData.depth (.list (xs.map PyData.int)) ≤ 64)) = true
  rw [h1, decide_eq_true h2]; rfl
theorem di_eqv : ∀ xs ys : List Int, PyData.eqvAll (xs.map PyData.int) (ys.map PyData.int) = decide (xs = ys)
  | [], [] => rfl
  | [], y :: ys => by simp [PyData.eqvAll]
  | x :: xs, [] => by simp [PyData.eqvAll]
  | x :: xs, y :: ys => by
    rw [List.map_cons, List.map_cons]
    simp only [PyData.eqvAll, PyData.eqv, di_eqv xs ys]
    by_cases h : x = y
    · by_cases h2 : xs = ys <;> simp [h, h2]
    · simp [h]
theorem w_neI2 {K : PySem.W.Frag} {H : Hp} {Q : VK} {p q : Addr} {xs ys : List Int} (hp : SqL K H p (xs.map V.int)) (hq : SqL K H q (ys.map V.int)) (k : Q (.bl (!decide (xs = ys))) H) : rNeD K (.ref p) (.ref q) H Q := by
  refine ⟨_, _, dp_ints hp, dp_ints hq, di_shaped xs, di_shaped ys, ?_⟩
  show Q (.bl (!PyData.eqvAll (xs.map PyData.int) (ys.map PyData.int))) H
  rw [di_eqv]; exact k
theorem w_eqI2 {K : PySem.W.Frag} {H : Hp} {Q : VK} {p q : Addr} {xs ys : List Int} (hp : SqL K H p (xs.map V.int)) (hq : SqL K H q (ys.map V.int)) (k : Q (.bl (decide (xs = ys))) H) : rEqD K (.ref p) (.ref q) H Q := by
  refine ⟨_, _, dp_ints hp, dp_ints hq, di_shaped xs, di_shaped ys, ?_⟩
  show Q (.bl (PyData.eqvAll (xs.map PyData.int) (ys.map PyData.int))) H
  rw [di_eqv]; exact k
end G
local macro_rules | `(tactic| walk_at "call") => `(tactic| first
  | (refine' G.w_anyI ?g1 ?_; (case g1 => walk_at "sq")) | refine' G.w_lcE ?_ | (refine' G.w_enumSq ?g1 ?_; (case g1 => walk_at "sq"))
  | (refine' G.w_neI2 ?g1 ?g2 ?_; (case g1 => walk_at "sq"); (case g2 => walk_at "sq")) | (refine' G.w_eqI2 ?g1 ?g2 ?_; (case g1 => walk_at "sq"); (case g2 => walk_at "sq")))

namespace G
open PySem L2
/-! ### more words -/
section
variable {K : PySem.W.Frag} {σ : L2.St} {H : Hp} {Q : VK} {D : Ends} {v x y : V} {ta te : TE} {p : Addr}
theorem w_tru {Qb : Bool → Hp → Prop} (h : ta σ H fun x H' => ∃ k, TruV K x H' k ∧ Qb k H') : tTruK K ta σ H Qb := h
theorem w_truL {xs : List V} {Qb : Bool → Prop} (h : SqL K H p xs) (q : Qb (!xs.isEmpty)) : ∃ k, TruV K (.ref p) H k ∧ Qb k := ⟨_, .inl ⟨xs, h, rfl⟩, q⟩
theorem w_revL (h : te σ H fun x H1 => ∃ a xs, x = .ref a ∧ SqL K H1 a xs ∧ ∀ p, H1 p = none → Q (.ref p) (upd H1 p (.lst xs.reverse))) : tRevL K te σ H Q := h
theorem w_revL2 {xs : List V} {P : Addr → List V → Prop} (h : SqL K H p xs) (q : P p xs) : ∃ a ys, V.ref p = .ref a ∧ SqL K H a ys ∧ P a ys := ⟨p, xs, rfl, h, q⟩
theorem w_rep {xs : List V} {k : Int} (h : H p = some (.lst xs)) (h0 : -4611686018427387904 ≤ k) (h1 : k < 4611686018427387904) (hl : xs.length * k.toNat ≤ sizeLine)
    (q : ∀ l, H l = none → Q (.ref l) (upd H l (.lst (List.replicate k.toNat xs).flatten))) : rRep (.ref p) (.int k) H Q := ⟨p, k, xs, rfl, rfl, h, by omega, by omega, hl, q⟩
theorem w_isNr (h : ta σ H fun x H1 => Q (.bl (decide (x = .non))) H1) : tIsN ta σ H Q := h
theorem w_notN (h : ta σ H fun x H1 => Q (.bl (!decide (x = .non))) H1) : tNotN ta σ H Q := h
theorem w_any {bs : List Bool} (h : SqL K H p (bs.map V.bl)) (q : Q (.bl (bs.any id)) H) : rAny K [.ref p] H Q := ⟨p, bs, rfl, h, q⟩
theorem w_all {bs : List Bool} (h : SqL K H p (bs.map V.bl)) (q : Q (.bl (bs.all id)) H) : rAll K [.ref p] H Q := ⟨p, bs, rfl, h, q⟩
theorem w_isT {t u : String} {b : Bool} (ty : TyX K H x (.type t)) (e : PySem.W.kitOne K (.type t) (.type u) = some b) (q : Q (.bl b) H) : rIsi K [x, .ty u] H Q :=
  ⟨x, .ty u, .type t, .type u, b, rfl, ClsV.ty u, ty, e, q⟩
theorem w_isII {a : Int} (q : Q (.bl true) H) : rIsi K [.int a, .ty "int"] H Q := w_isT (t := "int") (b := true) (TyX.base (TyOf.int a)) (kit_ty (by decide +kernel)) q
theorem w_isIB {a : Int} (q : Q (.bl false) H) : rIsi K [.int a, .ty "bool"] H Q := w_isT (t := "int") (b := false) (TyX.base (TyOf.int a)) (kit_ty (by decide +kernel)) q
theorem w_isBB {a : Bool} (q : Q (.bl true) H) : rIsi K [.bl a, .ty "bool"] H Q := w_isT (t := "bool") (b := true) (TyX.base (TyOf.bl a)) (kit_ty (by decide +kernel)) q
theorem w_isLL {xs : List V} (h : H p = some (.lst xs)) (q : Q (.bl true) H) : rIsi K [.ref p, .ty "list"] H Q := w_isT (t := "list") (b := true) (TyX.base (TyOf.lst h)) (kit_ty (by decide +kernel)) q
end
theorem at_of {xs : List V} {k : Int} {j : Nat} {v : V} (e : k = (j : Int)) (h : xs[j]? = some v) : atI xs k = some v := atn e h
/-! ### the draws -/
def sp_law_bag (K : PySem.W.Frag) (A : CA) : Sp := fun vs H Q _ => ∃ (a : Addr) (k : Int) (ns : List Int), vs = [.ref a, .int k] ∧ SqL K H a (ns.map V.int) ∧ 0 ≤ k ∧ k ≤ 1000 ∧ ns.length ≤ 63 ∧
  ∀ (s : Addr) (H' : Hp), H s = none → Same H H' → Src H' s → Q (.ref s) H'
def sp_law_take (K : PySem.W.Frag) (A : CA) : Sp := fun vs H Q _ => ∃ (s : Addr) (n : Int), vs = [.ref s, .int n] ∧ Src H s ∧ 0 < n ∧ n < 1073741824 ∧
  ∀ (r : Int) (H' : Hp), 0 ≤ r → r < n → But s H H' → Src H' s → Q (.int r) H'
def sp_law_copies (K : PySem.W.Frag) (A : CA) : Sp := fun vs H Q _ => ∃ (s : Addr), vs = [.ref s] ∧ Src H s ∧
  ∀ (r : Int) (H' : Hp), 1 ≤ r → r ≤ 70 → But s H H' → Src H' s → Q (.int r) H'
theorem i_take {K : PySem.W.Frag} {A : CA} {H : Hp} {Q : VK} {E : XK} {s : Addr} {n : Int} (hs : Src H s) (h0 : 0 < n) (h1 : n < 1073741824)
    (k : ∀ (r : Int) (H' : Hp), 0 ≤ r → r < n → But s H H' → Src H' s → Q (.int r) H') : sp_law_take K A [.ref s, .int n] H Q E := ⟨s, n, rfl, hs, h0, h1, k⟩
theorem i_copies {K : PySem.W.Frag} {A : CA} {H : Hp} {Q : VK} {E : XK} {s : Addr} (hs : Src H s)
    (k : ∀ (r : Int) (H' : Hp), 1 ≤ r → r ≤ 70 → But s H H' → Src H' s → Q (.int r) H') : sp_law_copies K A [.ref s] H Q E := ⟨s, rfl, hs, k⟩
theorem i_bag {K : PySem.W.Frag} {A : CA} {H : Hp} {Q : VK} {E : XK} {a : Addr} {k : Int} {ns : List Int} (h : SqL K H a (ns.map V.int)) (hl : ns.length ≤ 63) (h0 : 0 ≤ k) (h1 : k ≤ 1000)
    (q : ∀ (s : Addr) (H' : Hp), H s = none → Same H H' → Src H' s → Q (.ref s) H') : sp_law_bag K A [.ref a, .int k] H Q E := ⟨a, k, ns, rfl, h, h0, h1, hl, q⟩
end G
local macro_rules | `(tactic| walk_at "call") => `(tactic| first
  | refine' G.w_tru ?_ | (refine' G.w_truL ?g1 ?_; (case g1 => walk_at "sq")) | refine' G.w_revL ?_ | (refine' G.w_revL2 ?g1 ?_; (case g1 => walk_at "sq"))
  | (refine' G.w_rep ?g1 ?g2 ?g3 ?g4 ?_; (case g1 => walk_at "hp"); (case g2 => walk_at "ar"); (case g3 => walk_at "ar"); (case g4 => walk_at "sz"))
  | refine' G.w_isNr ?_ | refine' G.w_notN ?_ | refine' G.w_isII ?_ | refine' G.w_isIB ?_ | refine' G.w_isBB ?_ | (refine' G.w_isLL ?g1 ?_; (case g1 => walk_at "hp"))
  | (refine' G.i_take ?g1 ?g2 ?g3 ?_; (case g1 => walk_at "src"); (case g2 => walk_at "ar"); (case g3 => walk_at "ar"))
  | (refine' G.i_copies ?g1 ?_; (case g1 => walk_at "src"))
  | (refine' G.i_bag ?g1 ?g2 ?g3 ?g4 ?_; (case g1 => walk_at "sq"); (case g2 => walk_at "ar"); (case g3 => walk_at "ar"); (case g4 => walk_at "ar")))
namespace G
open PySem L2
def t_law_bag (K : PySem.W.Frag) (A : CA) : TS :=
  (tSeq (tAsg (tOp oAdd (tC (.int 104729)) (tOp oMul (tC (.int 7919)) (tVar 1))) (gName 2))
  (tSeq (tIfS (tTest (tOp oLt (tVar 1) (tCB (rLenQ K) (tCons (tVar 0) tNil)))) (tAsg (tOp (rIxL K) (tVar 0) (tVar 1)) (gName 2)) (tIfS (tTruK K (tVar 0)) (tAsg (tOp oAdd (tVar 2) (tOp oMod (tCB oInt (tCons (tOp oMul (tOp (rIxL K) (tVar 0) (tC (.int 0))) (tC (.int 31))) tNil)) (tC (.int 1000003)))) (gName 2)) tNext))
  (tSeq (tIfS (tTest (tOp oGe (tCB oAbs (tCons (tVar 2) tNil)) (tOp oPow (tC (.int 10)) (tC (.int 18))))) (tRet (tLst (tCons (tCB oAbs (tCons (tVar 2) tNil)) (tCons (tVar 2) (tCons (tC (.int 0)) (tCons (tVar 1) tNil)))))) tNext)
  (tRet (tLst (tCons (tC (.int 0)) (tCons (tVar 2) (tCons (tC (.int 0)) (tCons (tVar 1) tNil)))))))))
def t_law_take (K : PySem.W.Frag) (A : CA) : TS :=
  (tSeq (tAsg (tOp oAdd (tOp (rIxL K) (tVar 0) (tC (.int 2))) (tC (.int 1))) (gSub (tVar 0) (tC (.int 2)) rSetL))
  (tSeq (tIfS (tTest (tOp oGt (tOp (rIxL K) (tVar 0) (tC (.int 0))) (tC (.int 0)))) (tSeq (tAsg (tOp oMod (tCB oInt (tCons (tOp (rIxL K) (tVar 0) (tC (.int 0))) tNil)) (tVar 1)) (gName 2))
  (tSeq (tAsg (tOp oDiv (tOp (rIxL K) (tVar 0) (tC (.int 0))) (tVar 1)) (gSub (tVar 0) (tC (.int 0)) rSetL))
  (tRet (tVar 2)))) tNext)
  (tSeq (tAsg (tOp oMod (tCB oInt (tCons (tOp oAdd (tOp oAdd (tOp oAdd (tOp oMul (tOp (rIxL K) (tVar 0) (tC (.int 1))) (tC (.int 48271))) (tOp oMul (tOp (rIxL K) (tVar 0) (tC (.int 2))) (tC (.int 69621)))) (tOp oMul (tOp (rIxL K) (tVar 0) (tC (.int 3))) (tC (.int 7919)))) (tC (.int 11))) tNil)) (tC (.int 2147483647))) (gName 3))
  (tSeq (tAsg (tOp oMod (tCB oInt (tCons (tOp oAdd (tOp oAdd (tOp oMul (tVar 3) (tVar 3)) (tOp oMul (tOp (rIxL K) (tVar 0) (tC (.int 2))) (tC (.int 40692)))) (tOp (rIxL K) (tVar 0) (tC (.int 1)))) tNil)) (tC (.int 2147483399))) (gName 4))
  (tSeq (tAsg (tOp oMod (tCB oInt (tCons (tOp oAdd (tOp oMul (tVar 4) (tVar 4)) (tVar 3)) tNil)) (tC (.int 2147483629))) (gName 5))
  (tRet (tOp oMod (tOp oDiv (tVar 5) (tC (.int 16))) (tVar 1))))))))
def t_law_copies (K : PySem.W.Frag) (A : CA) : TS :=
  (tSeq (tIfS (tTest (tOp rEq (tCall (sp_law_take K A) [] E0 (tCons (tVar 0) (tCons (tC (.int 8)) tNil))) (tC (.int 7)))) (tRet (tOp oAdd (tC (.int 1)) (tCall (sp_law_take K A) [] E0 (tCons (tVar 0) (tCons (tC (.int 70)) tNil))))) tNext)
  (tRet (tOp oAdd (tC (.int 1)) (tCall (sp_law_take K A) [] E0 (tCons (tVar 0) (tCons (tC (.int 4)) tNil))))))

variable {K : PySem.W.Frag} {A : CA} {vs : List V} {H : Hp} {Q : VK} {E : XK}
theorem rd_law_bag (h : sp_law_bag K A vs H Q E) : t_law_bag K A { nx := fun _ H' => Q .non H', rt := Q } (start ["script", "k", "cell"] vs) H := by
  obtain ⟨a, k, ns, rfl, hs, h0, h1, h63, q⟩ := h
  unfold t_law_bag
  walk_at "go"
  refine w_iteD (fun hc => ?_) (fun hc => ?_)
  · have hk : k.toNat < ns.length := by
      rw [List.length_map] at hc; omega
    have hx : atI (ns.map V.int) k = some (V.int ns[k.toNat]) := at_of (j := k.toNat) (by omega) (by simp [hk])
    walk_at "go"
    refine w_iteD (fun _ => ?_) (fun _ => ?_) <;> (walk_at "go"; intro l hl; exact q _ _ hl (same_new hl) ⟨_, _, _, _, upd_same⟩)
  · walk_at "go"
    cases ns with
    | nil =>
      refine w_iteF ?_
      walk_at "go"
      refine w_iteD (fun _ => ?_) (fun _ => ?_) <;> (walk_at "go"; intro l hl; exact q _ _ hl (same_new hl) ⟨_, _, _, _, upd_same⟩)
    | cons n r =>
      refine w_iteT ?_
      have hx : atI ((n :: r).map V.int) 0 = some (V.int n) := at0
      walk_at "go"
      refine w_iteD (fun _ => ?_) (fun _ => ?_) <;> (walk_at "go"; intro l hl; exact q _ _ hl (same_new hl) ⟨_, _, _, _, upd_same⟩)
theorem rd_law_take (h : sp_law_take K A vs H Q E) : t_law_take K A { nx := fun _ H' => Q .non H', rt := Q } (start ["bag", "size", "digit", "first", "second", "third"] vs) H := by
  obtain ⟨s, n, rfl, ⟨x, y, z, u, hs⟩, h0, h1, k⟩ := h
  unfold t_law_take
  walk_at "go"
  refine w_iteD (fun hc => ?_) (fun hc => ?_)
  · walk_at "go"
    exact k _ _ (Int.emod_nonneg _ (by omega)) (Int.emod_lt_of_pos _ h0) But.refl.self.self ⟨_, _, _, _, upd_same⟩
  · walk_at "go"
    exact k _ _ (Int.emod_nonneg _ (by omega)) (Int.emod_lt_of_pos _ h0) But.refl.self ⟨_, _, _, _, upd_same⟩
theorem rd_law_copies (h : sp_law_copies K A vs H Q E) : t_law_copies K A { nx := fun _ H' => Q .non H', rt := Q } (start ["bag"] vs) H := by
  obtain ⟨s, rfl, hs, k⟩ := h
  unfold t_law_copies
  walk_at "go"
  intro r H1 r0 r1 b1 s1
  walk_at "go"
  refine w_iteD (fun hc => ?_) (fun hc => ?_)
  · walk_at "go"
    intro r2 H2 r3 r4 b2 s2
    walk_at "go"
    exact k _ _ (by omega) (by omega) (b1.trans b2) s2
  · walk_at "go"
    intro r2 H2 r3 r4 b2 s2
    walk_at "go"
    exact k _ _ (by omega) (by omega) (b1.trans b2) s2
end G

namespace G
open PySem L2
variable {K : PySem.W.Frag} {A : CA} {vs : List V} {H : Hp} {Q : VK} {E : XK}
/-- chains: numbers from 0 to 60 -/
def Chn (c : List Int) : Prop := ∀ n ∈ c, 0 ≤ n ∧ n ≤ 60
theorem Chn.app {a b : List Int} (h : Chn a) (k : Chn b) : Chn (a ++ b) := fun n hn => by
  rcases List.mem_append.mp hn with q | q
  · exact h n q
  · exact k n q
theorem Chn.set {a : List Int} {i : Nat} {v : Int} (h : Chn a) (h0 : 0 ≤ v) (h1 : v ≤ 60) : Chn (a.set i v) := fun n hn => by
  rcases List.mem_or_eq_of_mem_set hn with q | q
  · exact h n q
  · rw [q]; exact ⟨h0, h1⟩
theorem Chn.sub {a b : List Int} (h : Chn a) (k : ∀ x ∈ b, x ∈ a) : Chn b := fun n hn => h n (k n hn)
theorem Chn.rep {a : List Int} {k : Nat} (h : Chn a) : Chn (List.replicate k a).flatten := h.sub fun x hx => by
  obtain ⟨l, hl, hm⟩ := List.mem_flatten.mp hx
  rw [(List.mem_replicate.mp hl).2] at hm; exact hm
theorem map_rep {a : List Int} {k : Nat} : (List.replicate k (a.map V.int)).flatten = ((List.replicate k a).flatten).map V.int := by
  rw [List.map_flatten, List.map_replicate]
theorem len_rep {α : Type} {a : List α} {k : Nat} : (List.replicate k a).flatten.length = k * a.length := by
  simp [List.length_flatten, List.map_replicate, List.sum_replicate_nat]
theorem snocI (xs : List Int) (z : Int) : xs.map V.int ++ [V.int z] = (xs ++ [z]).map V.int := by rw [List.map_append]; rfl
end G

namespace G
open PySem L2
/-! ### made lists -/
section
variable {K : PySem.W.Frag} {σ : L2.St} {H : Hp} {ta tb : TE} {xs ys : List Int} {k a : Int} {i : Nat}
/-- the expression makes a new list of these ints -/
def Mk (ta : TE) (σ : L2.St) (H : Hp) (xs : List Int) : Prop := ∀ Q : VK, (∀ p H', H p = none → Same H H' → H' p = some (.lst (xs.map V.int)) → Q (.ref p) H') → ta σ H Q
/-- the expression is this int and changes nothing -/
def Iv (tb : TE) (σ : L2.St) (k : Int) : Prop := ∀ (H : Hp) (Q : VK), Q (.int k) H → tb σ H Q
theorem Iv.var (h : σ[i]? = some (some (.int k))) : Iv (tVar i) σ k := fun _ _ q => w_var h q
theorem Iv.c : Iv (tC (.int k)) σ k := fun _ _ q => q
theorem Iv.sub {m : Int} (h : Iv ta σ k) (h2 : Iv tb σ m) : Iv (tOp oSub ta tb) σ (k - m) := fun _ _ q => w_op (h _ _ (h2 _ _ (w_oSub q)))
theorem Iv.add {m : Int} (h : Iv ta σ k) (h2 : Iv tb σ m) : Iv (tOp oAdd ta tb) σ (k + m) := fun _ _ q => w_op (h _ _ (h2 _ _ (w_oAdd q)))
theorem Mk.one (h : Iv ta σ a) : Mk (tLst (tCons ta tNil)) σ H [a] := fun Q q => w_lst (w_cons (h _ _ (w_nil ⟨Nat.le_trans (by simp : [V.int a].length ≤ 1) (by decide), fun p hp => q p _ hp (same_new hp) upd_same⟩)))
theorem Mk.rep (h : Mk ta σ H xs) (h2 : Iv tb σ k) (h0 : -4611686018427387904 ≤ k) (h1 : k < 4611686018427387904) (hl : xs.length * k.toNat ≤ 100000) : Mk (tOp rRep ta tb) σ H (List.replicate k.toNat xs).flatten := fun Q q =>
  w_op (h _ fun p H1 hp e hx => h2 _ _ (w_rep hx h0 h1 (by rw [List.length_map]; exact Nat.le_trans hl (by decide)) fun l hl => q l _ (e.free hl) (e.trans (same_new hl)) (by rw [map_rep]; exact upd_same)))
theorem Mk.cat (h : Mk ta σ H xs) (h2 : ∀ H', Same H H' → Mk tb σ H' ys) (hl : xs.length + ys.length ≤ 100000) : Mk (tOp rCat ta tb) σ H (xs ++ ys) := fun Q q =>
  w_op (h _ fun p H1 hp e hx => h2 H1 e _ fun p2 H2 hp2 e2 hy => w_cat (e2 _ _ hx) hy (by rw [List.length_map, List.length_map]; exact Nat.le_trans hl (by decide)) fun l hl => q l _ ((e.trans e2).free hl) ((e.trans e2).trans (same_new hl)) (by rw [← List.map_append]; exact upd_same))
theorem Mk.same {H' : Hp} (e : Same H H') (h : ∀ H1, Mk ta σ H1 xs) : Mk ta σ H' xs := h H'
end
theorem flat_one {α : Type} (k : Nat) (x : α) : (List.replicate k [x]).flatten = List.replicate k x := by
  induction k with
  | zero => rfl
  | succ k ih => rw [List.replicate_succ, List.flatten_cons, ih]; rfl
end G

namespace G
open PySem L2
def sp_law_is_integer (K : PySem.W.Frag) (A : CA) : Sp := fun vs H Q _ => ∃ (a : Int), vs = [.int a] ∧ Q (.bl true) H
variable {K : PySem.W.Frag} {A : CA} {vs : List V} {H : Hp} {Q : VK} {E : XK}
theorem i_isint {a : Int} (q : Q (.bl true) H) : sp_law_is_integer K A [.int a] H Q E := ⟨a, rfl, q⟩
theorem Same.but2 {H1 H2 : Hp} {s : Addr} (e : Same H H1) (b : But s H1 H2) (hs : H s = none) : Same H H2 := fun p u h => b p u (ne_of_none h hs) (e p u h)
theorem w_neB {a b : Bool} (q : Q (.bl (!decide (a = b))) H) : rNe (.bl a) (.bl b) H Q := ⟨rfl, by
  have e : (decide (V.bl a = V.bl b)) = decide (a = b) := by simp
  rw [e]; exact q⟩
end G
local macro_rules | `(tactic| walk_at "call") => `(tactic| first
  | refine' G.i_isint ?_ | refine' G.w_neB ?_)
namespace G
open PySem L2
def t_law_is_integer (K : PySem.W.Frag) (A : CA) : TS :=
  (tRet (tAndV (tCB (rIsi K) (tCons (tVar 0) (tCons (tC (.ty "int")) tNil))) (tNotV (tCB (rIsi K) (tCons (tVar 0) (tCons (tC (.ty "bool")) tNil))))))

variable {K : PySem.W.Frag} {A : CA} {vs : List V} {H : Hp} {Q : VK} {E : XK}
theorem rd_law_is_integer (h : sp_law_is_integer K A vs H Q E) : t_law_is_integer K A { nx := fun _ H' => Q .non H', rt := Q } (start ["actual"] vs) H := by
  obtain ⟨a, rfl, q⟩ := h
  unfold t_law_is_integer
  walk_at "go"
  exact q
end G

namespace G
open PySem L2
/-- the heights of the program -/
def sp_height_over (K : PySem.W.Frag) (A : CA) : Sp := fun vs H Q _ => ∃ (b n w : Int), vs = [.int b, .int n, .int w] ∧ Q (.int (M.ho b n w)) H
variable {K : PySem.W.Frag} {A : CA} {vs : List V} {H : Hp} {Q : VK} {E : XK}
theorem i_height_over {b n w : Int} (q : Q (.int (M.ho b n w)) H) : sp_height_over K A [.int b, .int n, .int w] H Q E := ⟨b, n, w, rfl, q⟩
end G
local macro_rules | `(tactic| walk_at "call") => `(tactic| refine' G.i_height_over ?_)
namespace G
open PySem L2
def t_height_over (K : PySem.W.Frag) (A : CA) : TS :=
  (tSeq (tIfS (tTest (tOp rEq (tVar 1) (tC (.int 0)))) (tRet (tOp oAdd (tVar 0) (tC (.int 1)))) tNext)
  (tRet (tIf (tAnd (tTest (tOp rEq (tVar 1) (tC (.int 1)))) (tTest (tOp oGe (tVar 0) (tVar 2)))) (tC (.int 1)) (tC (.int 0)))))

variable {K : PySem.W.Frag} {A : CA} {vs : List V} {H : Hp} {Q : VK} {E : XK}
theorem rd_height_over (h : sp_height_over K A vs H Q E) : t_height_over K A { nx := fun _ H' => Q .non H', rt := Q } (start ["below", "blank", "copies"] vs) H := by
  obtain ⟨b, n, w, rfl, q⟩ := h
  unfold t_height_over
  walk_at "go"
  refine w_iteD (fun hc => ?_) (fun hc => ?_)
  · walk_at "go"
    subst hc; rw [M.ho0] at q; exact q
  walk_at "go"
  unfold M.ho at q
  rw [if_neg hc] at q
  refine w_iteD (fun h1 => ?_) (fun h1 => ?_)
  · walk_at "go"
    refine w_iteD (fun h2 => ?_) (fun h2 => ?_)
    · walk_at "go"
      rw [if_pos ⟨h1, h2⟩] at q; exact q
    · walk_at "go"
      rw [if_neg (fun e => h2 e.2)] at q; exact q
  · walk_at "go"
    rw [if_neg (fun e => h1 e.1)] at q; exact q
theorem rev_map (c : List Int) : (c.map V.int).reverse = (c.reverse).map V.int := List.map_reverse.symm
end G

namespace G
open PySem L2
structure CT (K : PySem.W.Frag) (A : CA) : Prop where
  c_Stretch : Cls K A.Stretch
  n_Stretch__lift : NoAttr K A.Stretch "_lift"
  n_Stretch_copies : NoAttr K A.Stretch "copies"
  i_Stretch : GX.InsC K A.Stretch
  e_CopiesDiffer : OexC K A.CopiesDiffer
  x_CopiesDiffer : ExcC K A.CopiesDiffer
  xf_CopiesDiffer : XfC K A.CopiesDiffer
  f_CopiesDiffer_left : PySem.W.findIn K (.ref A.CopiesDiffer) "left" = some none
  f_CopiesDiffer_right : PySem.W.findIn K (.ref A.CopiesDiffer) "right" = some none
  m_CopiesDiffer : PySem.W.exmOne K (.ref A.CopiesDiffer) (.ref A.CopiesDiffer) = some true
  k_CopiesDiffer_LotError : PySem.W.kitOne K (.ref A.CopiesDiffer) (.ref A.LotError) = some false
  k_CopiesDiffer_OnecopyError : PySem.W.kitOne K (.ref A.CopiesDiffer) (.ref A.OnecopyError) = some true
  k_CopiesDiffer_ValueError : PySem.W.kitOne K (.ref A.CopiesDiffer) (.type "ValueError") = some true
/-! ### stretches in the heap -/
def ov : Option Int → V
  | none => .non
  | some i => .int i
def stF (w : Nat) (l : Addr) : List (Str × V) := [("copies", .int (w : Int)), ("_lift", .ref l)]
theorem st_copies {w : Nat} {l : Addr} : (stF w l).lookup ("copies" : Str) = some (.int (w : Int)) := rfl
theorem st_lift {w : Nat} {l : Addr} : (stF w l).lookup ("_lift" : Str) = some (.ref l) := by
  show (match ((("_lift" : Str) == ("copies" : Str)) : Bool) with | true => some (V.int (w : Int)) | false => List.lookup ("_lift" : Str) [(("_lift" : Str), V.ref l)]) = _
  rw [show (("_lift" : Str) == ("copies" : Str)) = false by decide]
  simp [List.lookup]
theorem st_meth {w : Nat} {l : Addr} {m : Str} (h1 : (m == ("copies" : Str)) = false) (h2 : (m == ("_lift" : Str)) = false) : (stF w l).lookup m = none := by
  unfold stF; simp [List.lookup, h1, h2]
structure StX (A : CA) (H : Hp) (x : Addr) (c : List Int) (w : Nat) : Prop where
  ex : ∃ dx l, H x = some (.ins A.Stretch dx (stF w l)) ∧ H l = some (.lst ((M.lf c w).map ov))
theorem StX.same {A : CA} {H H' : Hp} {x : Addr} {c : List Int} {w : Nat} (e : Same H H') (h : StX A H x c w) : StX A H' x c w := let ⟨dx, l, h1, h2⟩ := h.ex; ⟨dx, l, e _ _ h1, e _ _ h2⟩
def sp_lifted (K : PySem.W.Frag) (A : CA) : Sp := fun vs H Q _ => ∃ (a : Addr) (c : List Int) (b w : Int), vs = [.int b, .ref a, .int w] ∧ H a = some (.lst (c.map V.int)) ∧ c.length ≤ 1000 ∧ ∀ H', Same H H' → Q (ov (M.rise c w b)) H'
def sp_Stretch_init (K : PySem.W.Frag) (A : CA) : Sp := fun vs H Q _ => ∃ (H0 : Hp) (x dx a : Addr) (c : List Int) (w : Nat), vs = [.ref x, .ref a, .int (w : Int)] ∧ H = upd (upd H0 dx (.own x)) x (.ins A.Stretch dx []) ∧ H0 x = none ∧ H0 dx = none ∧ dx ≠ x ∧ H0 a = some (.lst (c.map V.int)) ∧ c.length ≤ 1000 ∧ w ≤ 1000 ∧
  ∀ dx' l H', H0 l = none → Same H0 H' → H' x = some (.ins A.Stretch dx' (stF w l)) → H' l = some (.lst ((M.lf c w).map ov)) → Q .non H'
def sp_Stretch_lift (K : PySem.W.Frag) (A : CA) : Sp := fun vs H Q _ => ∃ (x : Addr) (c : List Int) (w : Nat), vs = [.ref x] ∧ StX A H x c w ∧ w ≤ 1000 ∧ ∀ p H', H p = none → Same H H' → H' p = some (.lst ((M.lf c w).map ov)) → Q (.ref p) H'
def sp_Stretch_is_keepable (K : PySem.W.Frag) (A : CA) : Sp := fun vs H Q _ => ∃ (x : Addr) (c : List Int) (w : Nat), vs = [.ref x] ∧ StX A H x c w ∧ Q (.bl (M.rise c w 0).isSome) H
def sp_Stretch_eq (K : PySem.W.Frag) (A : CA) : Sp := fun vs H Q _ => ∃ (x y : Addr) (c d : List Int) (w v : Nat), vs = [.ref x, .ref y] ∧ StX A H x c w ∧ StX A H y d v ∧ Q (.bl (decide (w = v ∧ M.lf c w = M.lf d v))) H
def sp_Stretch_add (K : PySem.W.Frag) (A : CA) : Sp := fun vs H Q E => ∃ (x y : Addr) (c d : List Int) (w v : Nat), vs = [.ref x, .ref y] ∧ StX A H x c w ∧ StX A H y d v ∧ w ≤ 1000 ∧ v ≤ 1000 ∧
  (w ≠ v → GX.Raised2 A.CopiesDiffer "left" "right" (.int (w : Int)) (.int (v : Int)) H E) ∧ (w = v → ∀ z H', H z = none → Same H H' → StX A H' z (c ++ d) w → Q (.ref z) H')
variable {K : PySem.W.Frag} {A : CA} {vs : List V} {H : Hp} {Q : VK} {E : XK}
theorem i_lifted {a : Addr} {c : List Int} {b w : Int} (h : H a = some (.lst (c.map V.int))) (hl : c.length ≤ 1000) (q : ∀ H', Same H H' → Q (ov (M.rise c w b)) H') : sp_lifted K A [.int b, .ref a, .int w] H Q E := ⟨a, c, b, w, rfl, h, hl, q⟩
structure StS (A : CA) (S : Addr → Prop) (H : Hp) (x : Addr) (c : List Int) (w : Nat) : Prop where
  ex : ∃ dx l, H x = some (.ins A.Stretch dx (stF w l)) ∧ H l = some (.lst ((M.lf c w).map ov)) ∧ ¬ S l
section
variable {A : CA} {S S' : Addr → Prop} {H H' : Hp} {x p s : Addr} {c : List Int} {w : Nat}
theorem StS.toX (h : StS A S H x c w) : StX A H x c w := let ⟨dx, l, h1, h2, _⟩ := h.ex; ⟨dx, l, h1, h2⟩
theorem StS.same (e : Same H H') (h : StS A S H x c w) : StS A S H' x c w := let ⟨dx, l, h1, h2, n⟩ := h.ex; ⟨dx, l, e _ _ h1, e _ _ h2, n⟩
theorem StS.but (b : But s H H') (hs : Src H s) (m : S s) (h : StS A S H x c w) : StS A S H' x c w :=
  let ⟨dx, l, h1, h2, n⟩ := h.ex; let ⟨_, _, _, _, g⟩ := hs; ⟨dx, l, b _ _ (fun z => by rw [z, g] at h1; cases h1) h1, b _ _ (fun z => n (z ▸ m)) h2, n⟩
theorem StS.upd {xs : List V} {o : HO} (hp : H p = some (.lst xs)) (m : S p) (h : StS A S H x c w) : StS A S (upd H p o) x c w :=
  let ⟨dx, l, h1, h2, n⟩ := h.ex; ⟨dx, l, keepNe h1 (fun z => by rw [z, hp] at h1; cases h1), keepNe h2 (fun z => n (z ▸ m)), n⟩
theorem StS.weak (k : ∀ z, S z → S' z) (h : StS A S' H x c w) : StS A S H x c w := let ⟨dx, l, h1, h2, n⟩ := h.ex; ⟨dx, l, h1, h2, fun z => n (k _ z)⟩
theorem StS.add (hp : H p = none) (h : StS A S H x c w) : StS A (fun z => S z ∨ z = p) H x c w :=
  let ⟨dx, l, h1, h2, n⟩ := h.ex; ⟨dx, l, h1, h2, fun z => z.elim n fun e => by rw [e, hp] at h2; cases h2⟩
end
section
variable {K : PySem.W.Frag} {A : CA} {H : Hp} {Q : VK} {a x y : Addr} {c d : List Int} {w v : Nat}
theorem i_newS {P : Addr → Hp → Prop} (ha : H a = some (.lst (c.map V.int))) (hl : c.length ≤ 1000) (hw : w ≤ 1000) (q : ∀ x H', H x = none → Same H H' → StX A H' x c w → P x H') :
    ∀ x dx, H x = none → H dx = none → dx ≠ x → sp_Stretch_init K A (.ref x :: [.ref a, .int (w : Int)]) (upd (upd H dx (.own x)) x (.ins A.Stretch dx [])) (fun v H2 => v = .non ∧ P x H2) E0 :=
  fun x dx hx hdx nx => ⟨H, x, dx, a, c, w, rfl, rfl, hx, hdx, nx, ha, hl, hw, fun dx' l H' _ e h1 h2 => ⟨rfl, q x H' hx e ⟨dx', l, h1, h2⟩⟩⟩
theorem i_newB {P : Addr → Hp → Prop} {S : Addr → Prop} (hs : ∀ z, S z → ∃ o, H z = some o) (ha : H a = some (.lst (c.map V.int))) (hl : c.length ≤ 1000) (hw : w ≤ 1000) (q : ∀ x H', H x = none → Same H H' → StS A S H' x c w → P x H') :
    ∀ x dx, H x = none → H dx = none → dx ≠ x → sp_Stretch_init K A (.ref x :: [.ref a, .int (w : Int)]) (upd (upd H dx (.own x)) x (.ins A.Stretch dx [])) (fun v H2 => v = .non ∧ P x H2) E0 :=
  fun x dx hx hdx nx => ⟨H, x, dx, a, c, w, rfl, rfl, hx, hdx, nx, ha, hl, hw, fun dx' l H' fl e h1 h2 => ⟨rfl, q x H' hx e ⟨dx', l, h1, h2, fun z => by
    obtain ⟨o, g⟩ := hs _ z
    rw [g] at fl; cases fl⟩⟩⟩
theorem i_new0 {P : Addr → Hp → Prop} (ha : H a = some (.lst [])) (hw : w ≤ 1000) (q : ∀ x H', H x = none → Same H H' → StX A H' x [] w → P x H') :
    ∀ x dx, H x = none → H dx = none → dx ≠ x → sp_Stretch_init K A (.ref x :: [.ref a, .int (w : Int)]) (upd (upd H dx (.own x)) x (.ins A.Stretch dx [])) (fun v H2 => v = .non ∧ P x H2) E0 := i_newS (c := []) ha (by decide) hw q
theorem i_new1 {P : Addr → Hp → Prop} {n : Int} (ha : H a = some (.lst [V.int n])) (hw : w ≤ 1000) (q : ∀ x H', H x = none → Same H H' → StX A H' x [n] w → P x H') :
    ∀ x dx, H x = none → H dx = none → dx ≠ x → sp_Stretch_init K A (.ref x :: [.ref a, .int (w : Int)]) (upd (upd H dx (.own x)) x (.ins A.Stretch dx [])) (fun v H2 => v = .non ∧ P x H2) E0 := i_newS (c := [n]) ha (by simp) hw q
theorem m_S {m : Str} {P : Prop} (h : StX A H x c w) (h1 : (m == ("copies" : Str)) = false) (h2 : (m == ("_lift" : Str)) = false) (q : P) : ∃ a dx fs, V.ref x = .ref a ∧ H a = some (.ins A.Stretch dx fs) ∧ fs.lookup m = none ∧ P :=
  let ⟨dx, l, g1, _⟩ := h.ex; ⟨x, dx, _, rfl, g1, st_meth h1 h2, q⟩
theorem f_copies (T : CT K A) {P : V → Prop} (h : StX A H x c w) (q : P (.int (w : Int))) : ∃ a C dx fs v, V.ref x = .ref a ∧ H a = some (.ins C dx fs) ∧ Cls K C ∧ NoAttr K C "copies" ∧ fs.lookup ("copies" : Str) = some v ∧ P v :=
  let ⟨dx, l, g1, _⟩ := h.ex; w_fld2 g1 T.c_Stretch T.n_Stretch_copies st_copies q
theorem i_liftS (h : StX A H x c w) (hw : w ≤ 1000) (q : ∀ p H', H p = none → Same H H' → H' p = some (.lst ((M.lf c w).map ov)) → Q (.ref p) H') : sp_Stretch_lift K A (.ref x :: []) H Q E0 := ⟨x, c, w, rfl, h, hw, q⟩
theorem i_keepS (h : StX A H x c w) (q : Q (.bl (M.rise c w 0).isSome) H) : sp_Stretch_is_keepable K A (.ref x :: []) H Q E0 := ⟨x, c, w, rfl, h, q⟩
theorem i_eqS (hx : StX A H x c w) (hy : StX A H y d v) (q : Q (.bl (decide (w = v ∧ M.lf c w = M.lf d v))) H) : GX.rOwnEq2 A.Stretch (sp_Stretch_eq K A) E0 (.ref x) (.ref y) H Q :=
  let ⟨dx, l, g1, _⟩ := hx.ex; let ⟨dy, m, g2, _⟩ := hy.ex; ⟨x, y, dx, dy, _, _, rfl, rfl, g1, g2, x, y, c, d, w, v, rfl, hx, hy, _, rfl, q⟩
theorem i_addS {E : XK} (hx : StX A H x c w) (hy : StX A H y d w) (hw : w ≤ 1000) (q : ∀ z H', H z = none → Same H H' → StX A H' z (c ++ d) w → Q (.ref z) H') : GX.rOwnAdd A.Stretch (sp_Stretch_add K A) E (.ref x) (.ref y) H Q :=
  let ⟨dx, l, g1, _⟩ := hx.ex; let ⟨dy, m, g2, _⟩ := hy.ex; ⟨x, y, dx, dy, _, _, rfl, rfl, g1, g2, x, y, c, d, w, w, rfl, hx, hy, hw, hw, fun n => absurd rfl n, fun _ z H' hz e hS => ⟨z, rfl, q z H' hz e hS⟩⟩
theorem i_addN {E : XK} (hx : StX A H x c w) (hy : StX A H y d v) (hw : w ≤ 1000) (hv : v ≤ 1000) (n : w ≠ v) (q : GX.Raised2 A.CopiesDiffer "left" "right" (.int (w : Int)) (.int (v : Int)) H E) : GX.rOwnAdd A.Stretch (sp_Stretch_add K A) E (.ref x) (.ref y) H Q :=
  let ⟨dx, l, g1, _⟩ := hx.ex; let ⟨dy, m, g2, _⟩ := hy.ex; ⟨x, y, dx, dy, _, _, rfl, rfl, g1, g2, x, y, c, d, w, v, rfl, hx, hy, hw, hv, fun _ => q, fun e => absurd e n⟩
end
/-! ### lists of numbers and None: deep equality -/
def od : Option Int → PyData
  | none => .none
  | some i => .int i
theorem dp_os : ∀ xs : List (Option Int), DpAll K H (xs.map ov) (xs.map od)
  | [] => .nil
  | none :: xs => .cons .non (dp_os xs)
  | some x :: xs => .cons (.int x) (dp_os xs)
theorem dp_opts {p : Addr} {xs : List (Option Int)} (h : SqL K H p (xs.map ov)) : Dp K H (.ref p) (.list (xs.map od)) := .lst h (dp_os xs)
theorem do_lay : ∀ xs : List (Option Int), PyData.canLayAll0 (xs.map od) = true
  | [] => rfl
  | x :: xs => by
    rw [List.map_cons]
    show (PyData.canLay0 (od x) && PyData.canLayAll0 (xs.map od)) = true
    rw [do_lay xs]
    cases x <;> rfl
theorem do_depth : ∀ xs : List (Option Int), PyData.depthAll (xs.map od) = 0
  | [] => rfl
  | x :: xs => by
    rw [List.map_cons]
    show max (PyData.depth (od x)) (PyData.depthAll (xs.map od)) = 0
    rw [do_depth xs]
    cases x <;> rfl
theorem do_shaped (xs : List (Option Int)) : SeqAt.shaped (.list (xs.map od)) = true := by
  have h1 : PyData.canLay0 (.list (xs.map od)) = true := do_lay xs
  have h2 : PyData.depth (.list (xs.map od)) ≤ 64 := by
    show PyData.depthAll (xs.map od) + 1 ≤ 64
    rw [do_depth]; decide
  show (PyData.canLay0 (.list (xs.map od)) && decide (PyData.depth (.list (xs.map od)) ≤ 64)) = true
  rw [h1, decide_eq_true h2]; rfl
theorem od_eqv (x y : Option Int) : PyData.eqv (od x) (od y) = decide (x = y) := by
  cases x with
  | none => cases y with
    | none => rfl
    | some j => simp [od, PyData.eqv]
  | some i => cases y with
    | none => simp [od, PyData.eqv]
    | some j => by_cases h : i = j <;> simp [od, PyData.eqv, h]
theorem do_eqv : ∀ xs ys : List (Option Int), PyData.eqvAll (xs.map od) (ys.map od) = decide (xs = ys)
  | [], [] => rfl
  | [], y :: ys => by simp [PyData.eqvAll]
  | x :: xs, [] => by simp [PyData.eqvAll]
  | x :: xs, y :: ys => by
    rw [List.map_cons, List.map_cons]
    show (PyData.eqv (od x) (od y) && PyData.eqvAll (xs.map od) (ys.map od)) = _
    rw [od_eqv, do_eqv xs ys]
    by_cases h : x = y
    · by_cases h2 : xs = ys <;> simp [h, h2]
    · simp [h]
theorem w_neO {p q : Addr} {xs ys : List (Option Int)} (hp : H p = some (.lst (xs.map ov))) (hq : H q = some (.lst (ys.map ov))) (k : Q (.bl (!decide (xs = ys))) H) : rNeD K (.ref p) (.ref q) H Q := by
  refine ⟨_, _, dp_opts (.inl (.inl hp)), dp_opts (.inl (.inl hq)), do_shaped xs, do_shaped ys, ?_⟩
  show Q (.bl (!PyData.eqvAll (xs.map od) (ys.map od))) H
  rw [do_eqv]; exact k
theorem w_eqO {p q : Addr} {xs ys : List (Option Int)} (hp : H p = some (.lst (xs.map ov))) (hq : H q = some (.lst (ys.map ov))) (k : Q (.bl (decide (xs = ys))) H) : rEqD K (.ref p) (.ref q) H Q := by
  refine ⟨_, _, dp_opts (.inl (.inl hp)), dp_opts (.inl (.inl hq)), do_shaped xs, do_shaped ys, ?_⟩
  show Q (.bl (PyData.eqvAll (xs.map od) (ys.map od))) H
  rw [do_eqv]; exact k
theorem at_o {xs : List (Option Int)} {j : Nat} {v : Option Int} (h : xs[j]? = some v) : atI (xs.map ov) (j : Int) = some (ov v) := at_of (j := j) rfl (by rw [List.getElem?_map, h]; rfl)
theorem getI {c : List Int} {i : Nat} {x : V} (h : (c.map V.int)[i]? = some x) : ∃ hi : i < c.length, x = V.int c[i] := by
  rw [List.getElem?_map] at h
  have hi : i < c.length := by
    by_cases hc : i < c.length
    · exact hc
    · rw [List.getElem?_eq_none (by omega)] at h; cases h
  rw [List.getElem?_eq_getElem hi] at h
  exact ⟨hi, (Option.some.inj h).symm⟩
theorem getO {c : List (Option Int)} {i : Nat} {x : V} (h : (c.map ov)[i]? = some x) : ∃ hi : i < c.length, x = ov c[i] := by
  rw [List.getElem?_map] at h
  have hi : i < c.length := by
    by_cases hc : i < c.length
    · exact hc
    · rw [List.getElem?_eq_none (by omega)] at h; cases h
  rw [List.getElem?_eq_getElem hi] at h
  exact ⟨hi, (Option.some.inj h).symm⟩
end G
local macro_rules | `(tactic| walk_at "call") => `(tactic| first
  | (refine' G.i_lifted ?g1 ?g2 ?_; (case g1 => walk_at "hp"); (case g2 => walk_at "ar"))
  | (refine' G.i_new0 ?g1 ?g2 ?_; (case g1 => first | assumption | exact L2.upd_same); (case g2 => walk_at "ar"))
  | (refine' G.i_newS ?g1 ?g2 ?g3 ?_; (case g1 => walk_at "hp"); (case g2 => walk_at "ar"); (case g3 => walk_at "ar"))
  | (refine' G.m_S ?g1 ?g2 ?g3 ?_; (case g1 => walk_at "stx"); (case g2 => decide); (case g3 => decide))
  | (refine' G.i_liftS ?g1 ?g2 ?_; (case g1 => walk_at "stx"); (case g2 => walk_at "ar"))
  | (refine' G.i_keepS ?g1 ?_; (case g1 => walk_at "stx"))
  | (refine' G.i_eqS ?g1 ?g2 ?_; (case g1 => walk_at "stx"); (case g2 => walk_at "stx"))
  | (refine' G.i_addS ?g1 ?g2 ?g3 ?_; (case g1 => walk_at "stx"); (case g2 => walk_at "stx"); (case g3 => walk_at "ar")))
local macro_rules | `(tactic| walk_at "stx") => `(tactic| first | assumption | (refine' G.StX.same ?e ?h; (case h => assumption); (case e => walk_at "same")))
namespace G
open PySem L2
def t_lifted (K : PySem.W.Frag) (A : CA) : TS :=
  (tSeq (tAsg (tVar 0) (gName 3))
  (tSeq (tFor (iList K (tRevL K (tVar 1))) (gName 4)
  (tSeq (tAsg (tCall (sp_height_over K A) [] E0 (tCons (tVar 3) (tCons (tVar 4) (tCons (tVar 2) tNil)))) (gName 3))
  (tIfS (tTest (tOp oGt (tVar 3) (tVar 2))) (tRet (tC .non)) tNext)))
  (tRet (tVar 3))))
def t_Stretch_init (K : PySem.W.Frag) (A : CA) : TS :=
  (tSeq (sFld K (tVar 0) (tVar 2) "copies")
  (sFld K (tVar 0) (tLc (iRng1 (tCons (tOp oAdd (tVar 2) (tC (.int 1))) tNil)) (gName 3) tYes (tCall (sp_lifted K A) [] E0 (tCons (tVar 3) (tCons (tVar 1) (tCons (tVar 2) tNil)))) [3]) "_lift"))
def t_Stretch_lift (K : PySem.W.Frag) (A : CA) : TS :=
  (tRet (tCB (oListOf K) (tCons (tFld K (tVar 0) "_lift") tNil)))
def t_Stretch_is_keepable (K : PySem.W.Frag) (A : CA) : TS :=
  (tRet (tNotN (tOp (rIxL K) (tFld K (tVar 0) "_lift") (tC (.int 0)))))
def t_Stretch_eq (K : PySem.W.Frag) (A : CA) : TS :=
  (tRet (tAndV (tCB (rIsi K) (tCons (tVar 1) (tCons (tC (.ref A.Stretch)) tNil))) (tAndV (tOp rEq (tFld K (tVar 0) "copies") (tFld K (tVar 1) "copies")) (tOp (rEqD K) (tFld K (tVar 0) "_lift") (tFld K (tVar 1) "_lift")))))

variable {K : PySem.W.Frag} {A : CA} {vs : List V} {H : Hp} {Q : VK} {E : XK}
theorem rd_lifted (h : sp_lifted K A vs H Q E) : t_lifted K A { nx := fun _ H' => Q .non H', rt := Q } (start ["below", "blank", "copies", "height", "number"] vs) H := by
  obtain ⟨a, c, b, w, rfl, ha, hl, q⟩ := h
  unfold t_lifted
  walk_at "go"
  intro r hr
  rw [rev_map]
  walk_at "go"
  refine forL (xs := c.reverse.map V.int) (fun i σ H' => ∃ (g : Int) (k4 : Option V), σ = [some (.int b), some (.ref a), some (.int w), some (.int g), k4] ∧ Same H H' ∧ H' r = some (.lst (c.reverse.map V.int)) ∧ M.rr w b (c.reverse.take i) = some g) ?_ ?_ ?_ ?_
  · exact ⟨b, none, rfl, same_new hr, upd_same, rfl⟩
  · rintro i σ H1 hi ⟨g, k4, rfl, e, h1, h2⟩
    exact .inl (.inl h1)
  · rintro i x σ H1 hx ⟨g, k4, rfl, e, h1, h2⟩
    obtain ⟨hi, rfl⟩ := getI hx
    have ht := M.rr_take (w := w) (b := b) hi
    rw [h2, Option.bind_some] at ht
    walk_at "go"
    refine w_iteD (fun c1 => ?_) (fun c1 => ?_)
    · walk_at "go"
      rw [if_pos c1] at ht
      have := M.rr_none ht
      have e2 : M.rise c w b = none := this
      rw [e2] at q
      exact q _ e
    · walk_at "go"
      rw [if_neg c1] at ht
      exact ⟨_, _, rfl, e, h1, ht⟩
  · rintro σ H1 ⟨g, k4, rfl, e, h1, h2⟩
    rw [List.length_map, List.take_length] at h2
    have e2 : M.rise c w b = some g := h2
    rw [e2] at q
    walk_at "go"
    exact q _ e
theorem rd_Stretch_init (T : CT K A) (h : sp_Stretch_init K A vs H Q E) : t_Stretch_init K A { nx := fun _ H' => Q .non H', rt := Q } (start ["self", "blank", "copies", "below"] vs) H := by
  obtain ⟨H0, x, dx, a, c, w, rfl, rfl, fx, fdx, ndx, ha, hl, hw, q⟩ := h
  have e0 : Same H0 (upd (upd H0 dx (.own x)) x (.ins A.Stretch dx [])) := same_mut (same_new fdx) fx
  have hx : (upd (upd H0 dx (.own x)) x (.ins A.Stretch dx [])) x = some (.ins A.Stretch dx []) := upd_same
  generalize upd (upd H0 dx (.own x)) x (.ins A.Stretch dx []) = H1 at e0 hx
  have ha1 := e0 _ _ ha
  have nax : a ≠ x := ne_of_none ha fx
  unfold t_Stretch_init
  walk_at "go"
  refine w_sfld2 hx T.c_Stretch T.n_Stretch_copies (by decide) ?_
  have ha2 := keepNe (o' := .ins A.Stretch dx (putF "copies" (.int (w : Int)) [])) ha1 nax
  have hx2 : (upd H1 x (.ins A.Stretch dx (putF "copies" (.int (w : Int)) []))) x = some (.ins A.Stretch dx (putF "copies" (.int (w : Int)) [])) := upd_same
  have e2 := same_mut (o := .ins A.Stretch dx (putF "copies" (.int (w : Int)) [])) e0 fx
  generalize upd H1 x (.ins A.Stretch dx (putF "copies" (.int (w : Int)) [])) = H2 at ha2 hx2 e2
  walk_at "go"
  refine lcR (fun Dl i H' => Same H2 H' ∧ H' Dl = some (.lst (((M.lf c w).take i).map ov))) ?_ ?_ ?_
  · intro Dl hD
    exact ⟨same_new hD, upd_same⟩
  · rintro Dl i H3 hD hi ⟨e3, h3⟩
    have hi : i ≤ w := by omega
    have ha3 := e3 _ _ ha2
    have hll := M.lf_len c w
    have hsz : (((M.lf c w).take i).map ov).length < sizeLine := by rw [List.length_map, List.length_take]; exact Nat.lt_of_le_of_lt (show _ ≤ 1001 by omega) (by decide)
    rw [show (0 : Int) + (i : Int) = ((i : Nat) : Int) by omega]
    walk_at "go"
    intro H4 e4
    have h4 := e4 _ _ h3
    walk_at "go"
    refine ⟨same_mut (e3.trans e4) hD, ?_⟩
    have ht := M.take_snoc (M.lf c w) i (by omega)
    have hg := M.lf_get (c := c) hi
    rw [List.getElem?_eq_getElem (by omega)] at hg
    rw [Option.some.inj hg] at ht
    rw [← ht, List.map_append]; exact upd_same
  · rintro Dl H3 hD ⟨e3, h3⟩
    rw [List.take_of_length_le (by rw [M.lf_len]; omega)] at h3
    walk_at "go"
    have nDx : Dl ≠ x := (ne_of_none hx2 hD).symm
    refine w_sfld2 (e3 _ _ hx2) T.c_Stretch T.n_Stretch__lift (by show 1 < 1000; decide) ?_
    exact q dx Dl _ (e2.free hD) (same_mut (e2.trans e3) fx) upd_same (keepNe h3 nDx)
theorem rd_Stretch_lift (T : CT K A) (h : sp_Stretch_lift K A vs H Q E) : t_Stretch_lift K A { nx := fun _ H' => Q .non H', rt := Q } (start ["self"] vs) H := by
  obtain ⟨x, c, w, rfl, hS, hw, q⟩ := h
  obtain ⟨dx, l, h1, h2⟩ := hS.ex
  unfold t_Stretch_lift
  walk_at "go"
  refine w_fld2 h1 T.c_Stretch T.n_Stretch__lift st_lift ?_
  walk_at "go"
  intro p hp
  exact q p _ hp (same_new hp) upd_same
theorem rd_Stretch_is_keepable (T : CT K A) (h : sp_Stretch_is_keepable K A vs H Q E) : t_Stretch_is_keepable K A { nx := fun _ H' => Q .non H', rt := Q } (start ["self"] vs) H := by
  obtain ⟨x, c, w, rfl, hS, q⟩ := h
  obtain ⟨dx, l, h1, h2⟩ := hS.ex
  unfold t_Stretch_is_keepable
  walk_at "go"
  refine w_fld2 h1 T.c_Stretch T.n_Stretch__lift st_lift ?_
  have g0 : atI ((M.lf c w).map ov) 0 = some (ov (M.rise c w 0)) := at_o (j := 0) (M.lf_get (Nat.zero_le w))
  walk_at "go"
  cases e : M.rise c w 0 with
  | none => rw [e] at q; exact q
  | some g => rw [e] at q; exact q
theorem rd_Stretch_eq (T : CT K A) (h : sp_Stretch_eq K A vs H Q E) : t_Stretch_eq K A { nx := fun _ H' => Q .non H', rt := Q } (start ["self", "other"] vs) H := by
  obtain ⟨x, y, c, d, w, v, rfl, hS, hR, q⟩ := h
  obtain ⟨dx, l, h1, h2⟩ := hS.ex
  obtain ⟨dy, m, g1, g2⟩ := hR.ex
  unfold t_Stretch_eq
  walk_at "go"
  refine ⟨.ref y, .ref A.Stretch, .ref A.Stretch, .ref A.Stretch, true, rfl, ClsV.own _, TyX.base (TyOf.ins g1 T.c_Stretch T.i_Stretch.ha T.i_Stretch.hn T.i_Stretch.ht T.i_Stretch.hm), by unfold PySem.W.kitOne; simp, ?_⟩
  walk_at "go"
  refine w_fld2 h1 T.c_Stretch T.n_Stretch_copies st_copies ?_
  walk_at "go"
  refine w_fld2 g1 T.c_Stretch T.n_Stretch_copies st_copies ?_
  walk_at "go"
  refine w_iteD (fun hc => ?_) (fun hc => ?_)
  · walk_at "go"
    refine w_fld2 h1 T.c_Stretch T.n_Stretch__lift st_lift ?_
    walk_at "go"
    refine w_fld2 g1 T.c_Stretch T.n_Stretch__lift st_lift ?_
    refine w_eqO h2 g2 ?_
    have e : decide (w = v ∧ M.lf c w = M.lf d v) = decide (M.lf c w = M.lf d v) := by
      have : w = v := by omega
      simp [this]
    rw [e] at q
    exact q
  · have e : decide (w = v ∧ M.lf c w = M.lf d v) = false := decide_eq_false fun z => hc (by rw [z.1])
    rw [e] at q
    exact q
end G

namespace G
open PySem L2
def t_Stretch_add (K : PySem.W.Frag) (A : CA) (E : XK) : TS :=
  (tSeq (tIfS (tTest (tOp rNe (tFld K (tVar 0) "copies") (tFld K (tVar 1) "copies"))) (GX.tRaiseO A.CopiesDiffer (GX.sp_err2 K A.CopiesDiffer "left" "right") E (tCons (tFld K (tVar 0) "copies") (tCons (tFld K (tVar 1) "copies") tNil))) tNext)
  (tSeq (tAsg (tMake A.Stretch (sp_Stretch_init K A) [] E0 (tCons (tLst tNil) (tCons (tFld K (tVar 0) "copies") tNil))) (gName 2))
  (tSeq (sFld K (tVar 2) (tLc (iList K (tFld K (tVar 1) "_lift")) (gName 3) tYes (tIf (tB (tIsN (tVar 3))) (tC .non) (tOp (rIxL K) (tFld K (tVar 0) "_lift") (tVar 3))) [3]) "_lift")
  (tRet (tVar 2)))))

variable {K : PySem.W.Frag} {A : CA} {vs : List V} {H : Hp} {Q : VK} {E : XK}
theorem rd_Stretch_add (T : CT K A) (h : sp_Stretch_add K A vs H Q E) : t_Stretch_add K A E { nx := fun _ H' => Q .non H', rt := Q } (start ["self", "other", "joined", "height"] vs) H := by
  obtain ⟨x, y, c, d, w, v, rfl, hS, hR, hw, hv, q1, q2⟩ := h
  unfold t_Stretch_add
  walk_at "go"
  refine f_copies T hS ?_
  walk_at "go"
  refine f_copies T hR ?_
  walk_at "go"
  refine w_iteN (fun hc => ?_) (fun hc => ?_)
  · have hc : w ≠ v := fun z => hc (by rw [z])
    refine GX.w_raiseO2 T.e_CopiesDiffer T.f_CopiesDiffer_left T.f_CopiesDiffer_right (fun Q q => ?_) (q1 hc)
    walk_at "go"
    refine f_copies T hS ?_
    walk_at "go"
    refine f_copies T hR ?_
    walk_at "go"
    exact q
  have hc : w = v := by omega
  subst hc
  walk_at "go"
  intro l0 hl0
  walk_at "go"
  have hS1 := hS.same (same_new (o := .lst []) hl0)
  refine f_copies T hS1 ?_
  walk_at "go"
  intro z H1 hz e1 hJ
  have e1 := (same_new (o := .lst []) hl0).trans e1
  have hz0 : H z = none := by rw [upd_ne (fun zz => by rw [zz, upd_same] at hz; cases hz)] at hz; exact hz
  have hS := hS.same e1
  have hR := hR.same e1
  walk_at "go"
  obtain ⟨dx, l, h1, h2⟩ := hS.ex
  obtain ⟨dy, m, g1, g2⟩ := hR.ex
  refine w_fld2 g1 T.c_Stretch T.n_Stretch__lift st_lift ?_
  walk_at "go"
  refine lcL (xs := (M.lf d w).map ov) (fun Dl i H' => Same H1 H' ∧ H' Dl = some (.lst (((M.lf (c ++ d) w).take i).map ov))) ?_ ?_ ?_ ?_
  · intro Dl hD
    exact ⟨same_new hD, upd_same⟩
  · rintro Dl i H2 hD hi ⟨e2, k2⟩
    exact .inl (.inl (e2 _ _ g2))
  · rintro Dl i o H2 hD ho ⟨e2, k2⟩
    obtain ⟨hi, rfl⟩ := getO ho
    have hl1 := M.lf_len (c ++ d) w
    have hi2 : i ≤ w := by rw [M.lf_len] at hi; omega
    have hg := M.lf_get (c := c ++ d) hi2
    have hgd := M.lf_get (c := d) hi2
    rw [List.getElem?_eq_getElem hi] at hgd
    have hgd := Option.some.inj hgd
    have ht := M.take_snoc (M.lf (c ++ d) w) i (by omega)
    rw [List.getElem?_eq_getElem (by omega)] at hg
    rw [Option.some.inj hg, M.rise_app, ← hgd] at ht
    have hm : (M.lf d w)[i] ∈ M.lf d w := List.getElem_mem hi
    generalize (M.lf d w)[i] = o at ht hm
    have hsz : (((M.lf (c ++ d) w).take i).map ov).length < sizeLine := by rw [List.length_map, List.length_take]; exact Nat.lt_of_le_of_lt (show _ ≤ 1001 by omega) (by decide)
    have fin : ∀ r : Option Int, (M.lf (c ++ d) w).take i ++ [r] = (M.lf (c ++ d) w).take (i + 1) → Same H1 (upd H2 Dl (.lst (((M.lf (c ++ d) w).take i).map ov ++ [ov r]))) ∧ (upd H2 Dl (.lst (((M.lf (c ++ d) w).take i).map ov ++ [ov r]))) Dl = some (.lst (((M.lf (c ++ d) w).take (i + 1)).map ov)) := by
      intro r hr
      refine ⟨same_mut e2 hD, ?_⟩
      rw [← hr, List.map_append]; exact upd_same
    cases o with
    | none =>
      walk_at "go"
      refine w_iteD (fun _ => ?_) (fun c => absurd rfl c)
      walk_at "go"
      exact fin none ht
    | some g =>
      have hb := M.lf_mem hm
      walk_at "go"
      refine w_iteD (fun c => by cases c) (fun _ => ?_)
      walk_at "go"
      refine w_fld2 (e2 _ _ h1) T.c_Stretch T.n_Stretch__lift st_lift ?_
      have hat : atI ((M.lf c w).map ov) g = some (ov (M.rise c w g)) := by
        have k := at_o (M.lf_get (c := c) (w := w) (i := g.toNat) (by omega))
        rw [Int.toNat_of_nonneg hb.1] at k; exact k
      have k3 := e2 _ _ h2
      refine w_var (v := V.int g) rfl ?_
      walk_at "go"
      exact fin _ ht
  · rintro Dl H2 hD ⟨e2, k2⟩
    rw [List.length_map, M.lf_len, List.take_of_length_le (by rw [M.lf_len]; omega)] at k2
    obtain ⟨dz, n, j1, j2⟩ := hJ.ex
    have nD : Dl ≠ z := (ne_of_none j1 hD).symm
    walk_at "go"
    refine w_sfld2 (e2 _ _ j1) T.c_Stretch T.n_Stretch__lift (by show 2 < 1000; decide) ?_
    walk_at "go"
    exact q2 rfl z _ hz0 (same_mut (e1.trans e2) hz0) ⟨⟨dz, Dl, upd_same, keepNe k2 nD⟩⟩
end G

namespace G
open PySem L2
/-- chains of the law: numbers from 0 on -/
def Nn (c : List Int) : Prop := ∀ n ∈ c, 0 ≤ n
theorem Nn.app {a b : List Int} (h : Nn a) (k : Nn b) : Nn (a ++ b) := fun n hn => by
  rcases List.mem_append.mp hn with q | q
  · exact h n q
  · exact k n q
theorem Nn.rep {a : List Int} {k : Nat} (h : Nn a) : Nn (List.replicate k a).flatten := fun n hn => by
  obtain ⟨l, hl, hm⟩ := List.mem_flatten.mp hn
  rw [(List.mem_replicate.mp hl).2] at hm; exact h n hm
def sp_law_page (K : PySem.W.Frag) (A : CA) : Sp := fun vs H Q _ => ∃ (s : Addr), vs = [.ref s] ∧ Src H s ∧
  ∀ (r : Int) (H' : Hp), 0 ≤ r → But s H H' → Src H' s → Q (.int r) H'
def sp_law_pages (K : PySem.W.Frag) (A : CA) : Sp := fun vs H Q _ => ∃ (s : Addr), vs = [.ref s] ∧ Src H s ∧
  ∀ (ps : List Int) (p : Addr) (H' : Hp), ps.length ≤ 40 → Nn ps → H p = none → But s H H' → Src H' s → H' p = some (.lst (ps.map V.int)) → Q (.ref p) H'
def sp_law_height (K : PySem.W.Frag) (A : CA) : Sp := fun vs H Q _ => ∃ (n b w : Int), vs = [.int n, .int b, .int w] ∧ Q (.int (M.lo b n w)) H
def sp_law_rise (K : PySem.W.Frag) (A : CA) : Sp := fun vs H Q _ => ∃ (a : Addr) (c : List Int) (b w : Int), vs = [.ref a, .int b, .int w] ∧ H a = some (.lst (c.map V.int)) ∧ Nn c ∧ ∀ H', Same H H' → Q (ov (M.rise c w b)) H'
def sp_law_lift (K : PySem.W.Frag) (A : CA) : Sp := fun vs H Q _ => ∃ (a : Addr) (c : List Int) (w : Nat), vs = [.ref a, .int (w : Int)] ∧ H a = some (.lst (c.map V.int)) ∧ Nn c ∧ w ≤ 1000 ∧
  ∀ p H', H p = none → Same H H' → H' p = some (.lst ((M.lf c w).map ov)) → Q (.ref p) H'
variable {K : PySem.W.Frag} {A : CA} {vs : List V} {H : Hp} {Q : VK} {E : XK}
theorem w_oIntB {b : Bool} (q : Q (.int (if b then 1 else 0)) H) : oInt [.bl b] H Q := .inr ⟨b, rfl, q⟩
theorem w_iteNT {A B : Prop} (h : B) : if (!true) = true then A else B := h
theorem w_iteNF {A B : Prop} (h : A) : if (!false) = true then A else B := h
theorem i_page {s : Addr} (hs : Src H s) (k : ∀ (r : Int) (H' : Hp), 0 ≤ r → But s H H' → Src H' s → Q (.int r) H') : sp_law_page K A [.ref s] H Q E := ⟨s, rfl, hs, k⟩
theorem i_pages {s : Addr} (hs : Src H s)
    (k : ∀ (ps : List Int) (p : Addr) (H' : Hp), ps.length ≤ 40 → Nn ps → H p = none → But s H H' → Src H' s → H' p = some (.lst (ps.map V.int)) → Q (.ref p) H') : sp_law_pages K A [.ref s] H Q E := ⟨s, rfl, hs, k⟩
theorem i_lheight {n b w : Int} (q : Q (.int (M.lo b n w)) H) : sp_law_height K A [.int n, .int b, .int w] H Q E := ⟨n, b, w, rfl, q⟩
theorem i_lrise {a : Addr} {c : List Int} {b w : Int} (h : H a = some (.lst (c.map V.int))) (hc : Nn c) (q : ∀ H', Same H H' → Q (ov (M.rise c w b)) H') : sp_law_rise K A [.ref a, .int b, .int w] H Q E := ⟨a, c, b, w, rfl, h, hc, q⟩
theorem i_llift {a : Addr} {c : List Int} {w : Nat} (h : H a = some (.lst (c.map V.int))) (hc : Nn c) (hw : w ≤ 1000) (q : ∀ p H', H p = none → Same H H' → H' p = some (.lst ((M.lf c w).map ov)) → Q (.ref p) H') : sp_law_lift K A [.ref a, .int (w : Int)] H Q E := ⟨a, c, w, rfl, h, hc, hw, q⟩
end G
local macro_rules | `(tactic| walk_at "call") => `(tactic| first
  | (refine' G.i_page ?g1 ?_; (case g1 => walk_at "src"))
  | (refine' G.i_pages ?g1 ?_; (case g1 => walk_at "src"))
  | refine' G.w_iteNT ?_ | refine' G.w_iteNF ?_ | refine' G.i_lheight ?_
  | (refine' G.i_lrise ?g1 ?g2 ?_; (case g1 => walk_at "hp"); (case g2 => assumption))
  | (refine' G.i_llift ?g1 ?g2 ?g3 ?_; (case g1 => walk_at "hp"); (case g2 => assumption); (case g3 => walk_at "ar")))
namespace G
open PySem L2
def t_law_page (K : PySem.W.Frag) (A : CA) : TS :=
  (tSeq (tAsg (tCall (sp_law_take K A) [] E0 (tCons (tVar 0) (tCons (tC (.int 8)) tNil))) (gName 1))
  (tSeq (tIfS (tTest (tOp oLt (tVar 1) (tC (.int 4)))) (tRet (tC (.int 0))) tNext)
  (tSeq (tIfS (tTest (tOp oLt (tVar 1) (tC (.int 6)))) (tRet (tC (.int 1))) tNext)
  (tSeq (tIfS (tTest (tOp rEq (tVar 1) (tC (.int 6)))) (tRet (tOp oAdd (tC (.int 2)) (tCall (sp_law_take K A) [] E0 (tCons (tVar 0) (tCons (tC (.int 59)) tNil))))) tNext)
  (tRet (tCall (sp_law_take K A) [] E0 (tCons (tVar 0) (tCons (tC (.int 1000000)) tNil))))))))
def t_law_pages (K : PySem.W.Frag) (A : CA) : TS :=
  (tSeq (tIfS (tTest (tOp rEq (tCall (sp_law_take K A) [] E0 (tCons (tVar 0) (tCons (tC (.int 8)) tNil))) (tC (.int 7)))) (tSeq (tAsg (tLc (iRng1 (tCons (tOp oAdd (tC (.int 1)) (tCall (sp_law_take K A) [] E0 (tCons (tVar 0) (tCons (tC (.int 4)) tNil)))) tNil)) (gName 2) tYes (tCall (sp_law_page K A) [] E0 (tCons (tVar 0) tNil)) [2]) (gName 1))
  (tRet (tOp rRep (tVar 1) (tOp oAdd (tC (.int 1)) (tCall (sp_law_take K A) [] E0 (tCons (tVar 0) (tCons (tC (.int 10)) tNil))))))) tNext)
  (tRet (tLc (iRng1 (tCons (tCall (sp_law_take K A) [] E0 (tCons (tVar 0) (tCons (tC (.int 7)) tNil))) tNil)) (gName 2) tYes (tCall (sp_law_page K A) [] E0 (tCons (tVar 0) tNil)) [2])))
def t_law_height (K : PySem.W.Frag) (A : CA) : TS :=
  (tSeq (tIfS (tTest (tOp oGe (tVar 0) (tC (.int 2)))) (tRet (tC (.int 0))) tNext)
  (tSeq (tIfS (tTest (tOp rEq (tVar 0) (tC (.int 1)))) (tRet (tCB oInt (tCons (tOp oGe (tVar 1) (tVar 2)) tNil))) tNext)
  (tRet (tOp oAdd (tVar 1) (tC (.int 1))))))
def t_law_rise (K : PySem.W.Frag) (A : CA) : TS :=
  (tSeq (tAsg (tVar 1) (gName 3))
  (tSeq (tFor (iList K (tRevL K (tVar 0))) (gName 4)
  (tSeq (tAsg (tCall (sp_law_height K A) [] E0 (tCons (tVar 4) (tCons (tVar 3) (tCons (tVar 2) tNil)))) (gName 3))
  (tIfS (tTest (tOp oGt (tVar 3) (tVar 2))) (tRet (tC .non)) tNext)))
  (tRet (tVar 3))))
def t_law_lift (K : PySem.W.Frag) (A : CA) : TS :=
  (tRet (tLc (iRng1 (tCons (tOp oAdd (tVar 1) (tC (.int 1))) tNil)) (gName 2) tYes (tCall (sp_law_rise K A) [] E0 (tCons (tVar 0) (tCons (tVar 2) (tCons (tVar 1) tNil)))) [2]))

variable {K : PySem.W.Frag} {A : CA} {vs : List V} {H : Hp} {Q : VK} {E : XK}
theorem rd_law_page (h : sp_law_page K A vs H Q E) : t_law_page K A { nx := fun _ H' => Q .non H', rt := Q } (start ["bag", "way"] vs) H := by
  obtain ⟨s, rfl, hs, k⟩ := h
  unfold t_law_page
  walk_at "go"
  intro r H1 r0 r1 b1 s1
  walk_at "go"
  refine w_iteD (fun hc => ?_) (fun hc => ?_)
  · walk_at "go"
    exact k _ _ (by omega) b1 s1
  walk_at "go"
  refine w_iteD (fun hc => ?_) (fun hc => ?_)
  · walk_at "go"
    exact k _ _ (by omega) b1 s1
  walk_at "go"
  refine w_iteD (fun hc => ?_) (fun hc => ?_)
  · walk_at "go"
    intro r2 H2 r3 r4 b2 s2
    walk_at "go"
    exact k _ _ (by omega) (b1.trans b2) s2
  walk_at "go"
  intro r2 H2 r3 r4 b2 s2
  exact k _ _ (by omega) (b1.trans b2) s2
theorem rd_law_pages (h : sp_law_pages K A vs H Q E) : t_law_pages K A { nx := fun _ H' => Q .non H', rt := Q } (start ["bag", "pattern", "place"] vs) H := by
  obtain ⟨s, rfl, hs, k⟩ := h
  unfold t_law_pages
  walk_at "go"
  intro r0 H0 a0 a1 b0 s0
  walk_at "go"
  refine w_iteD (fun hc => ?_) (fun hc => ?_)
  · walk_at "go"
    intro n H1 n0 n1 b1 s1
    walk_at "go"
    refine lcR (fun Dl i H' => ∃ ps : List Int, ps.length = i ∧ Nn ps ∧ But s H1 H' ∧ Src H' s ∧ H' Dl = some (.lst (ps.map V.int))) ?_ ?_ ?_
    · intro Dl hD
      exact ⟨[], rfl, (fun _ h => by cases h), But.refl.new hD, s1.new hD, upd_same⟩
    · rintro Dl i H2 hD hi ⟨ps, hl, hc, b, s2, hp⟩
      have hl2 : (ps.map V.int).length < sizeLine := by rw [List.length_map]; exact L2.small1000 (by omega)
      have nd : Dl ≠ s := s1.neFree hD
      walk_at "go"
      intro r H3 r0 b3 s3
      have hp3 := b3.at nd hp
      walk_at "go"
      refine ⟨ps ++ [r], by simp [hl], hc.app (fun z hz => by rw [List.mem_singleton.mp hz]; exact r0), (b.trans b3).mut hD, s3.mut nd, ?_⟩
      rw [← snocI]; exact upd_same
    · rintro Dl H2 hD ⟨ps, hl, hc, b, s2, hp⟩
      walk_at "go"
      intro t H3 t0 t1 b3 s3
      have nd : Dl ≠ s := s1.neFree hD
      have hp3 := b3.at nd hp
      walk_at "go"
      have hz : (ps.map V.int).length * (1 + t).toNat ≤ 40 := by
        rw [List.length_map, hl]
        exact Nat.le_trans (Nat.mul_le_mul (show _ ≤ 4 by omega) (show _ ≤ 10 by omega)) (by decide)
      refine w_rep hp3 (by omega) (by omega) (Nat.le_trans hz (by decide)) fun l hl' => ?_
      rw [List.length_map] at hz
      refine k (List.replicate (1 + t).toNat ps).flatten l _ (by rw [len_rep, Nat.mul_comm]; exact hz) hc.rep ?_ ((((b0.trans b1).trans b).trans b3).new hl') (s3.new hl') (by rw [map_rep]; exact upd_same)
      exact ((((b0.trans b1).trans b).trans b3)).back s3 hl'
  · walk_at "go"
    intro n H1 n0 n1 b1 s1
    walk_at "go"
    refine lcR (fun Dl i H' => ∃ ps : List Int, ps.length = i ∧ Nn ps ∧ But s H1 H' ∧ Src H' s ∧ H' Dl = some (.lst (ps.map V.int))) ?_ ?_ ?_
    · intro Dl hD
      exact ⟨[], rfl, (fun _ h => by cases h), But.refl.new hD, s1.new hD, upd_same⟩
    · rintro Dl i H2 hD hi ⟨ps, hl, hc, b, s2, hp⟩
      have hl2 : (ps.map V.int).length < sizeLine := by rw [List.length_map]; exact L2.small1000 (by omega)
      have nd : Dl ≠ s := s1.neFree hD
      walk_at "go"
      intro r H3 r0 b3 s3
      have hp3 := b3.at nd hp
      walk_at "go"
      refine ⟨ps ++ [r], by simp [hl], hc.app (fun z hz => by rw [List.mem_singleton.mp hz]; exact r0), (b.trans b3).mut hD, s3.mut nd, ?_⟩
      rw [← snocI]; exact upd_same
    · rintro Dl H2 hD ⟨ps, hl, hc, b, s2, hp⟩
      exact k ps Dl H2 (by omega) hc ((b0.trans b1).back s1 hD) ((b0.trans b1).trans b) s2 hp
theorem rd_law_height (h : sp_law_height K A vs H Q E) : t_law_height K A { nx := fun _ H' => Q .non H', rt := Q } (start ["count", "below", "copies"] vs) H := by
  obtain ⟨n, b, w, rfl, q⟩ := h
  unfold t_law_height
  unfold M.lo at q
  walk_at "go"
  refine w_iteD (fun hc => ?_) (fun hc => ?_)
  · walk_at "go"
    rw [if_pos hc] at q; exact q
  rw [if_neg hc] at q
  walk_at "go"
  refine w_iteD (fun h1 => ?_) (fun h1 => ?_)
  · walk_at "go"
    rw [if_pos h1] at q
    refine w_oIntB ?_
    rw [show (if decide (w ≤ b) = true then (1 : Int) else 0) = (if b ≥ w then 1 else 0) by by_cases z : w ≤ b <;> simp [z]]
    exact q
  · walk_at "go"
    rw [if_neg h1] at q
    exact q
theorem rd_law_rise (h : sp_law_rise K A vs H Q E) : t_law_rise K A { nx := fun _ H' => Q .non H', rt := Q } (start ["blank", "below", "copies", "height", "count"] vs) H := by
  obtain ⟨a, c, b, w, rfl, ha, hn, q⟩ := h
  unfold t_law_rise
  walk_at "go"
  intro r hr
  rw [rev_map]
  walk_at "go"
  refine forL (xs := c.reverse.map V.int) (fun i σ H' => ∃ (g : Int) (k4 : Option V), σ = [some (.ref a), some (.int b), some (.int w), some (.int g), k4] ∧ Same H H' ∧ H' r = some (.lst (c.reverse.map V.int)) ∧ M.rr w b (c.reverse.take i) = some g) ?_ ?_ ?_ ?_
  · exact ⟨b, none, rfl, same_new hr, upd_same, rfl⟩
  · rintro i σ H1 hi ⟨g, k4, rfl, e, h1, h2⟩
    exact .inl (.inl h1)
  · rintro i x σ H1 hx ⟨g, k4, rfl, e, h1, h2⟩
    obtain ⟨hi, rfl⟩ := getI hx
    have ht := M.rr_take (w := w) (b := b) hi
    have hx0 : 0 ≤ c.reverse[i] := hn _ (List.mem_reverse.mp (List.getElem_mem hi))
    rw [h2, Option.bind_some, ← M.lo_eq hx0] at ht
    walk_at "go"
    refine w_iteD (fun c1 => ?_) (fun c1 => ?_)
    · walk_at "go"
      rw [if_pos c1] at ht
      have := M.rr_none ht
      have e2 : M.rise c w b = none := this
      rw [e2] at q
      exact q _ e
    · walk_at "go"
      rw [if_neg c1] at ht
      exact ⟨_, _, rfl, e, h1, ht⟩
  · rintro σ H1 ⟨g, k4, rfl, e, h1, h2⟩
    rw [List.length_map, List.take_length] at h2
    have e2 : M.rise c w b = some g := h2
    rw [e2] at q
    walk_at "go"
    exact q _ e
theorem rd_law_lift (h : sp_law_lift K A vs H Q E) : t_law_lift K A { nx := fun _ H' => Q .non H', rt := Q } (start ["blank", "copies", "below"] vs) H := by
  obtain ⟨a, c, w, rfl, ha, hn, hw, q⟩ := h
  unfold t_law_lift
  walk_at "go"
  refine lcR (fun Dl i H' => Same H H' ∧ H' Dl = some (.lst (((M.lf c w).take i).map ov))) ?_ ?_ ?_
  · intro Dl hD
    exact ⟨same_new hD, upd_same⟩
  · rintro Dl i H3 hD hi ⟨e3, h3⟩
    have hi : i ≤ w := by omega
    have ha3 := e3 _ _ ha
    have hll := M.lf_len c w
    have hsz : (((M.lf c w).take i).map ov).length < sizeLine := by rw [List.length_map, List.length_take]; exact Nat.lt_of_le_of_lt (show _ ≤ 1001 by omega) (by decide)
    rw [show (0 : Int) + (i : Int) = ((i : Nat) : Int) by omega]
    walk_at "go"
    intro H4 e4
    have h4 := e4 _ _ h3
    walk_at "go"
    refine ⟨same_mut (e3.trans e4) hD, ?_⟩
    have ht := M.take_snoc (M.lf c w) i (by omega)
    have hg := M.lf_get (c := c) hi
    rw [List.getElem?_eq_getElem (by omega)] at hg
    rw [Option.some.inj hg] at ht
    rw [← ht, List.map_append]; exact upd_same
  · rintro Dl H3 hD ⟨e3, h3⟩
    rw [List.take_of_length_le (by rw [M.lf_len]; omega)] at h3
    exact q Dl _ hD e3 h3
end G

namespace G
open PySem L2
def sp_law_fits (K : PySem.W.Frag) (A : CA) : Sp := fun vs H Q _ => ∃ (x a : Addr) (c : List Int) (w : Nat), vs = [.ref x, .ref a, .int (w : Int)] ∧ StX A H x c w ∧ H a = some (.lst (c.map V.int)) ∧ Nn c ∧ w ≤ 1000 ∧
  ∀ H', Same H H' → Q (.bl true) H'
variable {K : PySem.W.Frag} {A : CA} {vs : List V} {H : Hp} {Q : VK} {E : XK}
theorem i_fits {x a : Addr} {c : List Int} {w : Nat} (hS : StX A H x c w) (ha : H a = some (.lst (c.map V.int))) (hc : Nn c) (hw : w ≤ 1000) (q : ∀ H', Same H H' → Q (.bl true) H') : sp_law_fits K A [.ref x, .ref a, .int (w : Int)] H Q E := ⟨x, a, c, w, rfl, hS, ha, hc, hw, q⟩
theorem ov_non (o : Option Int) : decide (ov o = V.non) = !o.isSome := by cases o <;> simp [ov]
theorem all_true (n : Nat) : (List.replicate n true).all id = true := by
  induction n with
  | zero => rfl
  | succ n ih => rw [List.replicate_succ, List.all_cons, ih]; rfl
end G
namespace G
open PySem L2
def t_law_fits (K : PySem.W.Frag) (A : CA) : TS :=
  (tSeq (tAsg (tCall (sp_law_lift K A) [] E0 (tCons (tVar 1) (tCons (tVar 2) tNil))) (gName 3))
  (tSeq (tFor (iRng1 (tCons (tC (.int 2)) tNil)) (gName 4)
  (tSeq (tAsg (tMeth A.Stretch "lift" (sp_Stretch_lift K A) [] E0 (tVar 0) tNil) (gName 5))
  (tSeq (tIfS (tOr (tNot (tB (tCB (rIsi K) (tCons (tVar 5) (tCons (tC (.ty "list")) tNil))))) (tTest (tOp (rNeD K) (tVar 5) (tVar 3)))) (tRet (tC (.bl false))) tNext)
  (tSeq (tIfS (tNot (tB (tCB (rAll K) (tCons (tLc (iList K (tVar 5)) (gName 6) tYes (tOrV (tIsN (tVar 6)) (tCall (sp_law_is_integer K A) [] E0 (tCons (tVar 6) tNil))) [6]) tNil)))) (tRet (tC (.bl false))) tNext)
  (tSeq (tAsg (tOp oAdd (tVar 2) (tC (.int 1))) (gSub (tVar 5) (tC (.int 0)) rSetL))
  (tDrop (tBM K "list" rAppend (tVar 5) (tCons (tC (.int 0)) tNil))))))))
  (tSeq (tAsg (tMeth A.Stretch "is_keepable" (sp_Stretch_is_keepable K A) [] E0 (tVar 0) tNil) (gName 7))
  (tSeq (tIfS (tOr (tNot (tB (tCB (rIsi K) (tCons (tVar 7) (tCons (tC (.ty "bool")) tNil))))) (tTest (tOp rNe (tVar 7) (tNotN (tOp (rIxL K) (tVar 3) (tC (.int 0))))))) (tRet (tC (.bl false))) tNext)
  (tRet (tAndV (tCall (sp_law_is_integer K A) [] E0 (tCons (tFld K (tVar 0) "copies") tNil)) (tOp rEq (tFld K (tVar 0) "copies") (tVar 2))))))))

variable {K : PySem.W.Frag} {A : CA} {vs : List V} {H : Hp} {Q : VK} {E : XK}
theorem rd_law_fits (T : CT K A) (h : sp_law_fits K A vs H Q E) : t_law_fits K A { nx := fun _ H' => Q .non H', rt := Q } (start ["made", "blank", "copies", "due", "turn", "told", "height", "answer"] vs) H := by
  obtain ⟨x, a, c, w, rfl, hS, ha, hn, hw, q⟩ := h
  unfold t_law_fits
  walk_at "go"
  intro du H1 hdu e1 hd
  have hl1 := M.lf_len c w
  walk_at "go"
  refine forR (fun i σ H' => ∃ (k4 k5 k6 : Option V), σ = [some (.ref x), some (.ref a), some (.int (w : Int)), some (.ref du), k4, k5, k6, none] ∧ Same H H' ∧ H' du = some (.lst ((M.lf c w).map ov))) ?_ ?_ ?_
  · exact ⟨none, none, none, rfl, e1, hd⟩
  · rintro i σ H2 hi ⟨k4, k5, k6, rfl, e2, h2⟩
    have hS2 := hS.same e2
    walk_at "go"
    intro p H3 hp e3 h3
    have h3d := e3 _ _ h2
    walk_at "go"
    refine w_neO h3 h3d ?_
    rw [decide_eq_true rfl]
    walk_at "go"
    refine lcL (xs := (M.lf c w).map ov) (fun Dl i H' => Same H3 H' ∧ H' Dl = some (.lst ((List.replicate i true).map V.bl))) ?_ ?_ ?_ ?_
    · intro Dl hD
      exact ⟨same_new hD, upd_same⟩
    · rintro Dl i H4 hD hi ⟨e4, k4⟩
      exact .inl (.inl (e4 _ _ h3))
    · rintro Dl i o H4 hD ho ⟨e4, k4⟩
      obtain ⟨hi, rfl⟩ := getO ho
      generalize (M.lf c w)[i] = o
      have hsz : ((List.replicate i true).map V.bl).length < sizeLine := by rw [List.length_map, List.length_replicate]; exact Nat.lt_of_lt_of_le (show _ < 1001 by omega) (by decide)
      have fin : Same H3 (upd H4 Dl (.lst ((List.replicate i true).map V.bl ++ [V.bl true]))) ∧ (upd H4 Dl (.lst ((List.replicate i true).map V.bl ++ [V.bl true]))) Dl = some (.lst ((List.replicate (i + 1) true).map V.bl)) := by
        refine ⟨same_mut e4 hD, ?_⟩
        rw [List.replicate_succ', List.map_append]; exact upd_same
      cases o with
      | none =>
        walk_at "go"
        refine w_iteD (fun _ => ?_) (fun c => absurd rfl c)
        walk_at "go"
        exact fin
      | some g =>
        walk_at "go"
        refine w_iteD (fun c => by cases c) (fun _ => ?_)
        walk_at "go"
        refine i_isint (a := g) ?_
        walk_at "go"
        exact fin
    · rintro Dl H4 hD ⟨e4, k4⟩
      walk_at "go"
      refine w_all (SqL.of k4) ?_
      rw [all_true]
      have k3 := e4 _ _ h3
      have kd := e4 _ _ h3d
      have i0 : ixN ((M.lf c w).map ov).length 0 = some 0 := ixn rfl (by simp; omega)
      have hz : (((M.lf c w).map ov).set 0 (V.int ((w : Int) + 1))).length < sizeLine := by rw [List.length_set, List.length_map]; exact Nat.lt_of_le_of_lt (show _ ≤ 1001 by omega) (by decide)
      have npd : du ≠ p := ne_of_none h2 hp
      walk_at "go"
      exact ⟨_, _, _, rfl, same_mut (same_mut ((e2.trans e3).trans e4) (e2.free hp)) (e2.free hp), keepNe (keepNe kd npd) npd⟩
  · rintro σ H2 ⟨k4, k5, k6, rfl, e2, h2⟩
    have hS2 := hS.same e2
    walk_at "go"
    have a0 : atI ((M.lf c w).map ov) 0 = some (ov (M.rise c w 0)) := at_o (j := 0) (M.lf_get (Nat.zero_le w))
    walk_at "go"
    rw [ov_non]
    generalize M.rise c w 0 = r
    have e : ∀ b : Bool, (!decide (b = !!b)) = false := by intro b; cases b <;> rfl
    walk_at "go"
    rw [e]
    walk_at "go"
    refine f_copies T hS2 ?_
    walk_at "go"
    refine f_copies T hS2 ?_
    walk_at "go"
    rw [decide_eq_true rfl]
    exact q _ e2
end G

namespace GX
open PySem L2 G
/-- try: body; except C as n: suite (n in slot i) -/
def tTryAs (K : PySem.W.Frag) (C : Addr) (i : Nat) (tb : WX → TS) (ts : Addr → Value → Option Addr → TS) : TS := fun D σ H => tb (wAs K (.ref C) i ts (fun _ _ _ _ => False) D) D σ H
theorem w_isX {K : PySem.W.Frag} {a D dd : Addr} {c : V} {u : Value} {b : Bool} {fs : List (Str × V)} {H : Hp} {Q : VK} (hc : ClsV c u) (C : ExcC K D) (hd : H dd = some (.xd fs)) (e : PySem.W.kitOne K (.ref D) u = some b) (q : Q (.bl b) H) :
    rIsX K a (.ref D) (some dd) [.ref a, c] H Q := ⟨c, u, b, D, dd, fs, rfl, hc, rfl, rfl, C, hd, e, q⟩
theorem w_xf {a C dd : Addr} {f : Str} {fs : List (Str × V)} {v : V} {te : TE} {σ : L2.St} {H : Hp} {Q : VK} (h : ∀ Q : VK, Q (.ref a) H → te σ H Q) (hd : H dd = some (.xd fs)) (l : fs.lookup f = some v) (q : Q v H) : tXf a (.ref C) (some dd) C f te σ H Q :=
  h _ ⟨rfl, rfl, dd, fs, v, rfl, hd, l, q⟩
theorem w_callG {sp : Sp} {tl : TA} {σ : L2.St} {H : Hp} {Q : VK} (h : tl σ H fun vs H1 => sp vs H1 Q E0) : tCallG sp tl σ H Q := h
theorem w_addS {C : Addr} {sp : Sp} {E : L2.St → XK} {ta tb : TE} {σ : L2.St} {H : Hp} {Q : VK} (h : ta σ H fun x H1 => tb σ H1 fun y H2 => rOwnAdd C sp (E σ) x y H2 Q) : tAddS C sp E ta tb σ H Q := h
end GX
namespace G
open PySem L2
def sp_law_differs (K : PySem.W.Frag) (A : CA) : Sp := fun vs H Q _ => ∃ (x y : Addr) (c d : List Int) (w v : Nat), vs = [.ref x, .ref y, .int (w : Int), .int (v : Int)] ∧ StX A H x c w ∧ StX A H y d v ∧ w ≤ 1000 ∧ v ≤ 1000 ∧ w ≠ v ∧
  ∀ H', Same H H' → Q (.bl true) H'
variable {K : PySem.W.Frag} {A : CA} {vs : List V} {H : Hp} {Q : VK} {E : XK}
theorem i_differs {x y : Addr} {c d : List Int} {w v : Nat} (hS : StX A H x c w) (hR : StX A H y d v) (hw : w ≤ 1000) (hv : v ≤ 1000) (n : w ≠ v) (q : ∀ H', Same H H' → Q (.bl true) H') : sp_law_differs K A [.ref x, .ref y, .int (w : Int), .int (v : Int)] H Q E := ⟨x, y, c, d, w, v, rfl, hS, hR, hw, hv, n, q⟩
end G
local macro_rules | `(tactic| walk_at "call") => `(tactic| first
  | refine' GX.w_callG ?_ | refine' GX.w_addS ?_)
namespace G
open PySem L2
def t_law_differs (K : PySem.W.Frag) (A : CA) : TS :=
  (tSeq (GX.tTryAs K A.CopiesDiffer 4 (fun W => (tAsg (GX.tAddS A.Stretch (sp_Stretch_add K A) (WE W) (tVar 0) (tVar 1)) (gName 5))) (fun a cls d => (tSeq (tIfS (tB (tCB (GX.rIsX K a cls d) (tCons (tVar 4) (tCons (tC (.ref A.LotError)) tNil)))) (tRet (tC (.bl false))) tNext)
  (tSeq (tIfS (tOr (tNot (tB (tCB (GX.rIsX K a cls d) (tCons (tVar 4) (tCons (tC (.ref A.OnecopyError)) tNil))))) (tNot (tB (tCB (GX.rIsX K a cls d) (tCons (tVar 4) (tCons (tC (.ty "ValueError")) tNil)))))) (tRet (tC (.bl false))) tNext)
  (tSeq (tIfS (tOr (tNot (tB (GX.tCallG (sp_law_is_integer K A) (tCons (tXf a cls d A.CopiesDiffer "left" (tVar 4)) tNil)))) (tNot (tB (GX.tCallG (sp_law_is_integer K A) (tCons (tXf a cls d A.CopiesDiffer "right" (tVar 4)) tNil))))) (tRet (tC (.bl false))) tNext)
  (tRet (tAndV (tOp rEq (tXf a cls d A.CopiesDiffer "left" (tVar 4)) (tVar 2)) (tOp rEq (tXf a cls d A.CopiesDiffer "right" (tVar 4)) (tVar 3)))))))))
  (tRet (tC (.bl false))))

variable {K : PySem.W.Frag} {A : CA} {vs : List V} {H : Hp} {Q : VK} {E : XK}
theorem rd_law_differs (T : CT K A) (h : sp_law_differs K A vs H Q E) : t_law_differs K A { nx := fun _ H' => Q .non H', rt := Q } (start ["left", "right", "copies", "other", "raised", "made"] vs) H := by
  obtain ⟨x, y, c, d, w, v, rfl, hS, hR, hw, hv, n, q⟩ := h
  unfold t_law_differs
  walk_at "go"
  unfold GX.tTryAs
  walk_at "go"
  refine i_addN hS hR hw hv n ?_
  intro dd H1 hd e hx
  refine ⟨true, T.m_CopiesDiffer, fun _ a _ => ?_, fun z => nomatch z⟩
  have lL : ([(("right" : Str), V.int (v : Int)), (("left" : Str), V.int (w : Int))] : List (Str × V)).lookup ("left" : Str) = some (V.int (w : Int)) := by rfl
  have lR : ([(("right" : Str), V.int (v : Int)), (("left" : Str), V.int (w : Int))] : List (Str × V)).lookup ("right" : Str) = some (V.int (v : Int)) := by rfl
  walk_at "go"
  refine GX.w_isX (ClsV.own _) T.x_CopiesDiffer hx T.k_CopiesDiffer_LotError ?_
  walk_at "go"
  refine GX.w_isX (ClsV.own _) T.x_CopiesDiffer hx T.k_CopiesDiffer_OnecopyError ?_
  walk_at "go"
  refine GX.w_isX (ClsV.ty _) T.x_CopiesDiffer hx T.k_CopiesDiffer_ValueError ?_
  walk_at "go"
  refine GX.w_xf (fun Q q => by walk_at "go"; exact q) hx lL ?_
  walk_at "go"
  refine GX.w_xf (fun Q q => by walk_at "go"; exact q) hx lR ?_
  walk_at "go"
  refine GX.w_xf (fun Q q => by walk_at "go"; exact q) hx lL ?_
  walk_at "go"
  rw [decide_eq_true rfl]
  walk_at "go"
  refine GX.w_xf (fun Q q => by walk_at "go"; exact q) hx lR ?_
  walk_at "go"
  rw [decide_eq_true rfl]
  exact q _ e
end G

namespace G
open PySem L2
/-- three rows and the three stretches of them -/
structure Three (A : CA) (H : Hp) (R M : Addr) (r0 r1 r2 m0 m1 m2 : Addr) (c0 c1 c2 : List Int) (w : Nat) : Prop where
  hR : H R = some (.lst [.ref r0, .ref r1, .ref r2])
  hM : H M = some (.lst [.ref m0, .ref m1, .ref m2])
  h0 : H r0 = some (.lst (c0.map V.int))
  h1 : H r1 = some (.lst (c1.map V.int))
  h2 : H r2 = some (.lst (c2.map V.int))
  s0 : StX A H m0 c0 w
  s1 : StX A H m1 c1 w
  s2 : StX A H m2 c2 w
  n0 : Nn c0
  n1 : Nn c1
  n2 : Nn c2
  l0 : c0.length ≤ 40
  l1 : c1.length ≤ 40
  l2 : c2.length ≤ 40
theorem Three.same {A : CA} {H H' : Hp} {R M r0 r1 r2 m0 m1 m2 : Addr} {c0 c1 c2 : List Int} {w : Nat} (e : Same H H') (h : Three A H R M r0 r1 r2 m0 m1 m2 c0 c1 c2 w) : Three A H' R M r0 r1 r2 m0 m1 m2 c0 c1 c2 w :=
  ⟨e _ _ h.hR, e _ _ h.hM, e _ _ h.h0, e _ _ h.h1, e _ _ h.h2, h.s0.same e, h.s1.same e, h.s2.same e, h.n0, h.n1, h.n2, h.l0, h.l1, h.l2⟩
theorem Three.pick {A : CA} {H : Hp} {R M r0 r1 r2 m0 m1 m2 : Addr} {c0 c1 c2 : List Int} {w : Nat} (h : Three A H R M r0 r1 r2 m0 m1 m2 c0 c1 c2 w) {i : Nat} (hi : i < 3) :
    ∃ (r m : Addr) (c : List Int), atI [V.ref m0, .ref m1, .ref m2] (0 + (i : Int)) = some (.ref m) ∧ atI [V.ref r0, .ref r1, .ref r2] (0 + (i : Int)) = some (.ref r) ∧ H r = some (.lst (c.map V.int)) ∧ StX A H m c w ∧ Nn c ∧ c.length ≤ 40 := by
  rcases i with _ | _ | _ | i
  · exact ⟨r0, m0, c0, rfl, rfl, h.h0, h.s0, h.n0, h.l0⟩
  · exact ⟨r1, m1, c1, rfl, rfl, h.h1, h.s1, h.n1, h.l1⟩
  · exact ⟨r2, m2, c2, rfl, rfl, h.h2, h.s2, h.n2, h.l2⟩
  · omega
def sp_law_sums (K : PySem.W.Frag) (A : CA) : Sp := fun vs H Q _ => ∃ (R M r0 r1 r2 m0 m1 m2 : Addr) (c0 c1 c2 : List Int) (w : Nat), vs = [.ref R, .ref M, .int (w : Int)] ∧ Three A H R M r0 r1 r2 m0 m1 m2 c0 c1 c2 w ∧ w ≤ 1000 ∧
  ∀ H', Same H H' → Q (.bl true) H'
variable {K : PySem.W.Frag} {A : CA} {vs : List V} {H : Hp} {Q : VK} {E : XK}
theorem catsz {a b : List Int} (h : a.length + b.length ≤ 1000) : (a.map V.int).length + (b.map V.int).length ≤ sizeLine := by rw [List.length_map, List.length_map]; exact Nat.le_trans h (by decide)
theorem lf_dec {a b : List Int} {w : Nat} (h : a = b) : decide (w = w ∧ M.lf a w = M.lf b w) = true := decide_eq_true ⟨rfl, by rw [h]⟩
end G
local macro_rules | `(tactic| walk_at "nn") => `(tactic| first | assumption | exact G.Nn.app (by walk_at "nn") (by walk_at "nn"))
local macro_rules | `(tactic| walk_at "call") => `(tactic| first
  | (refine' G.i_fits ?g1 ?g2 ?g3 ?g4 ?_; (case g1 => walk_at "stx"); (case g2 => walk_at "hp"); (case g3 => walk_at "nn"); (case g4 => walk_at "ar")))
namespace G
open PySem L2
def t_law_sums (K : PySem.W.Frag) (A : CA) : TS :=
  (tSeq (tAsg (tOp (rIxL K) (tVar 1) (tC (.int 0))) (gName 3))
  (tSeq (tAsg (tOp (rIxL K) (tVar 1) (tC (.int 1))) (gName 4))
  (tSeq (tAsg (tOp (rIxL K) (tVar 1) (tC (.int 2))) (gName 5))
  (tSeq (tAsg (tOp (GX.rOwnAdd A.Stretch (sp_Stretch_add K A) E0) (tVar 3) (tVar 4)) (gName 6))
  (tSeq (tAsg (tOp (GX.rOwnAdd A.Stretch (sp_Stretch_add K A) E0) (tVar 4) (tVar 5)) (gName 7))
  (tSeq (tIfS (tOr (tNot (tB (tCall (sp_law_fits K A) [] E0 (tCons (tVar 6) (tCons (tOp rCat (tOp (rIxL K) (tVar 0) (tC (.int 0))) (tOp (rIxL K) (tVar 0) (tC (.int 1)))) (tCons (tVar 2) tNil)))))) (tNot (tB (tCall (sp_law_fits K A) [] E0 (tCons (tVar 7) (tCons (tOp rCat (tOp (rIxL K) (tVar 0) (tC (.int 1))) (tOp (rIxL K) (tVar 0) (tC (.int 2)))) (tCons (tVar 2) tNil))))))) (tRet (tC (.bl false))) tNext)
  (tSeq (tIfS (tNot (tTest (tOp (GX.rOwnEq2 A.Stretch (sp_Stretch_eq K A) E0) (tOp (GX.rOwnAdd A.Stretch (sp_Stretch_add K A) E0) (tVar 6) (tVar 5)) (tOp (GX.rOwnAdd A.Stretch (sp_Stretch_add K A) E0) (tVar 3) (tVar 7))))) (tRet (tC (.bl false))) tNext)
  (tSeq (tIfS (tNot (tB (tCall (sp_law_fits K A) [] E0 (tCons (tOp (GX.rOwnAdd A.Stretch (sp_Stretch_add K A) E0) (tVar 6) (tVar 5)) (tCons (tOp rCat (tOp rCat (tOp (rIxL K) (tVar 0) (tC (.int 0))) (tOp (rIxL K) (tVar 0) (tC (.int 1)))) (tOp (rIxL K) (tVar 0) (tC (.int 2)))) (tCons (tVar 2) tNil)))))) (tRet (tC (.bl false))) tNext)
  (tSeq (tIfS (tNot (tB (tCall (sp_law_fits K A) [] E0 (tCons (tOp (GX.rOwnAdd A.Stretch (sp_Stretch_add K A) E0) (tVar 3) (tVar 7)) (tCons (tOp rCat (tOp rCat (tOp (rIxL K) (tVar 0) (tC (.int 0))) (tOp (rIxL K) (tVar 0) (tC (.int 1)))) (tOp (rIxL K) (tVar 0) (tC (.int 2)))) (tCons (tVar 2) tNil)))))) (tRet (tC (.bl false))) tNext)
  (tSeq (tAsg (tMake A.Stretch (sp_Stretch_init K A) [] E0 (tCons (tLst tNil) (tCons (tVar 2) tNil))) (gName 8))
  (tSeq (tFor (iRng1 (tCons (tC (.int 3)) tNil)) (gName 9)
  (tSeq (tIfS (tOr (tNot (tTest (tOp (GX.rOwnEq2 A.Stretch (sp_Stretch_eq K A) E0) (tOp (GX.rOwnAdd A.Stretch (sp_Stretch_add K A) E0) (tVar 8) (tOp (rIxL K) (tVar 1) (tVar 9))) (tOp (rIxL K) (tVar 1) (tVar 9))))) (tNot (tTest (tOp (GX.rOwnEq2 A.Stretch (sp_Stretch_eq K A) E0) (tOp (GX.rOwnAdd A.Stretch (sp_Stretch_add K A) E0) (tOp (rIxL K) (tVar 1) (tVar 9)) (tVar 8)) (tOp (rIxL K) (tVar 1) (tVar 9)))))) (tRet (tC (.bl false))) tNext)
  (tSeq (tIfS (tOr (tNot (tB (tCall (sp_law_fits K A) [] E0 (tCons (tOp (GX.rOwnAdd A.Stretch (sp_Stretch_add K A) E0) (tVar 8) (tOp (rIxL K) (tVar 1) (tVar 9))) (tCons (tOp (rIxL K) (tVar 0) (tVar 9)) (tCons (tVar 2) tNil)))))) (tNot (tB (tCall (sp_law_fits K A) [] E0 (tCons (tOp (GX.rOwnAdd A.Stretch (sp_Stretch_add K A) E0) (tOp (rIxL K) (tVar 1) (tVar 9)) (tVar 8)) (tCons (tOp (rIxL K) (tVar 0) (tVar 9)) (tCons (tVar 2) tNil))))))) (tRet (tC (.bl false))) tNext)
  (tSeq (tIfS (tNot (tB (tCall (sp_law_fits K A) [] E0 (tCons (tOp (GX.rOwnAdd A.Stretch (sp_Stretch_add K A) E0) (tOp (rIxL K) (tVar 1) (tVar 9)) (tOp (rIxL K) (tVar 1) (tVar 9))) (tCons (tOp rCat (tOp (rIxL K) (tVar 0) (tVar 9)) (tOp (rIxL K) (tVar 0) (tVar 9))) (tCons (tVar 2) tNil)))))) (tRet (tC (.bl false))) tNext)
  (tIfS (tNot (tB (tCall (sp_law_fits K A) [] E0 (tCons (tOp (rIxL K) (tVar 1) (tVar 9)) (tCons (tOp (rIxL K) (tVar 0) (tVar 9)) (tCons (tVar 2) tNil)))))) (tRet (tC (.bl false))) tNext)))))
  (tRet (tCall (sp_law_fits K A) [] E0 (tCons (tVar 8) (tCons (tLst tNil) (tCons (tVar 2) tNil))))))))))))))))

variable {K : PySem.W.Frag} {A : CA} {vs : List V} {H : Hp} {Q : VK} {E : XK}
theorem rd_law_sums (h : sp_law_sums K A vs H Q E) : t_law_sums K A { nx := fun _ H' => Q .non H', rt := Q } (start ["rows", "made", "copies", "one", "two", "three", "left", "right", "none", "k"] vs) H := by
  obtain ⟨R, Ma, r0, r1, r2, m0, m1, m2, c0, c1, c2, w, rfl, W, hw, q⟩ := h
  have ⟨hR, hM, h0, h1, h2, s0, s1, s2, n0, n1, n2, l0, l1, l2⟩ := W
  have z01 := catsz (a := c0) (b := c1) (by omega)
  have z12 := catsz (a := c1) (b := c2) (by omega)
  have z012 := catsz (a := c0 ++ c1) (b := c2) (by rw [List.length_append]; omega)
  unfold t_law_sums
  walk_at "go"
  intro z1 H1 hz1 e1 t1
  have W := W.same e1
  have ⟨hR, hM, h0, h1, h2, s0, s1, s2, _, _, _, _, _, _⟩ := W
  walk_at "go"
  intro z2 H2 hz2 e2 t2
  have W := W.same e2
  have ⟨hR, hM, h0, h1, h2, s0, s1, s2, _, _, _, _, _, _⟩ := W
  have t1 := t1.same e2
  walk_at "go"
  intro p1 hp1
  rw [← List.map_append]
  walk_at "go"
  intro H3 e3
  have e3 := (same_new hp1).trans e3
  have W := W.same e3
  have ⟨hR, hM, h0, h1, h2, s0, s1, s2, _, _, _, _, _, _⟩ := W
  have t1 := t1.same e3
  have t2 := t2.same e3
  walk_at "go"
  intro p2 hp2
  rw [← List.map_append]
  walk_at "go"
  intro H4 e4
  have e4 := (same_new hp2).trans e4
  have W := W.same e4
  have ⟨hR, hM, h0, h1, h2, s0, s1, s2, _, _, _, _, _, _⟩ := W
  have t1 := t1.same e4
  have t2 := t2.same e4
  walk_at "go"
  intro z3 H5 hz3 e5 t3
  have W := W.same e5
  have ⟨hR, hM, h0, h1, h2, s0, s1, s2, _, _, _, _, _, _⟩ := W
  have t1 := t1.same e5
  have t2 := t2.same e5
  walk_at "go"
  intro z4 H6 hz4 e6 t4
  have W := W.same e6
  have ⟨hR, hM, h0, h1, h2, s0, s1, s2, _, _, _, _, _, _⟩ := W
  have t1 := t1.same e6
  have t2 := t2.same e6
  have t3 := t3.same e6
  walk_at "go"
  rw [lf_dec (List.append_assoc _ _ _)]
  walk_at "go"
  intro z5 H7 hz5 e7 t5
  have W := W.same e7
  have ⟨hR, hM, h0, h1, h2, s0, s1, s2, _, _, _, _, _, _⟩ := W
  have t1 := t1.same e7
  have t2 := t2.same e7
  walk_at "go"
  intro p3 hp3
  rw [← List.map_append]
  have e8 := same_new (o := .lst ((c0 ++ c1).map V.int)) hp3
  have f3 : (upd H7 p3 (.lst ((c0 ++ c1).map V.int))) p3 = some (.lst ((c0 ++ c1).map V.int)) := upd_same
  generalize upd H7 p3 (.lst ((c0 ++ c1).map V.int)) = H8 at e8 f3
  have W := W.same e8
  have ⟨hR, hM, h0, h1, h2, s0, s1, s2, _, _, _, _, _, _⟩ := W
  have t1 := t1.same e8
  have t2 := t2.same e8
  have t5 := t5.same e8
  walk_at "go"
  intro p4 hp4
  rw [← List.map_append]
  walk_at "go"
  intro H9 e9
  have e9 := (same_new hp4).trans e9
  have W := W.same e9
  have ⟨hR, hM, h0, h1, h2, s0, s1, s2, _, _, _, _, _, _⟩ := W
  have t1 := t1.same e9
  have t2 := t2.same e9
  walk_at "go"
  intro z6 H10 hz6 e10 t6
  rw [← List.append_assoc] at t6
  have W := W.same e10
  have ⟨hR, hM, h0, h1, h2, s0, s1, s2, _, _, _, _, _, _⟩ := W
  walk_at "go"
  intro p5 hp5
  rw [← List.map_append]
  have e11 := same_new (o := .lst ((c0 ++ c1).map V.int)) hp5
  have f5 : (upd H10 p5 (.lst ((c0 ++ c1).map V.int))) p5 = some (.lst ((c0 ++ c1).map V.int)) := upd_same
  generalize upd H10 p5 (.lst ((c0 ++ c1).map V.int)) = H11 at e11 f5
  have W := W.same e11
  have ⟨hR, hM, h0, h1, h2, s0, s1, s2, _, _, _, _, _, _⟩ := W
  have t6 := t6.same e11
  walk_at "go"
  intro p6 hp6
  rw [← List.map_append]
  walk_at "go"
  intro H12 e12
  have e12 := (same_new hp6).trans e12
  have W := W.same e12
  have ⟨hR, hM, h0, h1, h2, s0, s1, s2, _, _, _, _, _, _⟩ := W
  walk_at "go"
  intro p7 hp7
  walk_at "go"
  intro z7 H13 hz7 e13 t7
  have e13 := (same_new hp7).trans e13
  have W := W.same e13
  have ⟨hR, hM, h0, h1, h2, s0, s1, s2, _, _, _, _, _, _⟩ := W
  have n7 : Nn [] := fun _ h => by cases h
  have eA := (((((((((((e1.trans e2).trans e3).trans e4).trans e5).trans e6).trans e7).trans e8).trans e9).trans e10).trans e11).trans e12).trans e13
  clear e1 e2 e3 e4 e5 e6 e7 e8 e9 e10 e11 e12 e13
  walk_at "go"
  refine forR (fun i σ H' => ∃ (k9 : Option V), σ = [some (.ref R), some (.ref Ma), some (.int (w : Int)), some (.ref m0), some (.ref m1), some (.ref m2), some (.ref z1), some (.ref z2), some (.ref z7), k9] ∧ Same H13 H') ?_ ?_ ?_
  · exact ⟨none, rfl, Same.refl _⟩
  · rintro i σ H14 hi ⟨k9, rfl, e14⟩
    have hR := e14 _ _ hR
    have hM := e14 _ _ hM
    obtain ⟨r, m, c, am, ar, hr, sm, nc, lc⟩ := W.pick (by omega : i < 3)
    have hr := e14 _ _ hr
    have sm := sm.same e14
    have t7 := t7.same e14
    have zc := catsz (a := c) (b := c) (by omega)
    walk_at "go"
    intro y1 G1 hy1 a1 u1
    rw [List.nil_append] at u1
    have hR := a1 _ _ hR
    have hM := a1 _ _ hM
    have hr := a1 _ _ hr
    have sm := sm.same a1
    have t7 := t7.same a1
    walk_at "go"
    rw [lf_dec rfl]
    walk_at "go"
    intro y2 G2 hy2 a2 u2
    rw [List.append_nil] at u2
    have hR := a2 _ _ hR
    have hM := a2 _ _ hM
    have hr := a2 _ _ hr
    have sm := sm.same a2
    have t7 := t7.same a2
    walk_at "go"
    rw [lf_dec rfl]
    walk_at "go"
    intro y3 G3 hy3 a3 u3
    rw [List.nil_append] at u3
    have hR := a3 _ _ hR
    have hM := a3 _ _ hM
    have hr := a3 _ _ hr
    have sm := sm.same a3
    have t7 := t7.same a3
    walk_at "go"
    intro G4 a4
    have hR := a4 _ _ hR
    have hM := a4 _ _ hM
    have hr := a4 _ _ hr
    have sm := sm.same a4
    have t7 := t7.same a4
    walk_at "go"
    intro y5 G5 hy5 a5 u5
    rw [List.append_nil] at u5
    have hR := a5 _ _ hR
    have hM := a5 _ _ hM
    have hr := a5 _ _ hr
    have sm := sm.same a5
    have t7 := t7.same a5
    walk_at "go"
    intro G6 a6
    have hR := a6 _ _ hR
    have hM := a6 _ _ hM
    have hr := a6 _ _ hr
    have sm := sm.same a6
    have t7 := t7.same a6
    walk_at "go"
    intro y7 G7 hy7 a7 u7
    have hR := a7 _ _ hR
    have hM := a7 _ _ hM
    have hr := a7 _ _ hr
    have sm := sm.same a7
    have t7 := t7.same a7
    walk_at "go"
    intro p8 hp8
    rw [← List.map_append]
    walk_at "go"
    intro G9 a9
    have a9 := (same_new hp8).trans a9
    have hR := a9 _ _ hR
    have hM := a9 _ _ hM
    have hr := a9 _ _ hr
    have sm := sm.same a9
    have t7 := t7.same a9
    walk_at "go"
    intro G10 a10
    have eB := (((((((((e14.trans a1).trans a2).trans a3).trans a4).trans a5).trans a6).trans a7).trans a9).trans a10)
    walk_at "go"
    exact ⟨_, rfl, eB⟩
  · rintro σ H14 ⟨k9, rfl, e14⟩
    have t7 := t7.same e14
    walk_at "go"
    intro p hp
    have f : (upd H14 p (.lst [])) p = some (.lst (([] : List Int).map V.int)) := upd_same
    walk_at "go"
    intro H15 e15
    exact q _ (((eA.trans e14).trans (same_new hp)).trans e15)
end G

namespace GX
open PySem L2 G
def oInsert : V → List V → Hp → VK → Prop := fun x vs H Q => ∃ (l : Addr) (xs : List V) (i : Int) (y : V), x = .ref l ∧ vs = [.int i, y] ∧ H l = some (.lst xs) ∧ xs.length < sizeLine ∧ 0 ≤ i ∧ i < 2 ^ 63 ∧ Q .non (upd H l (.lst (xs.take i.toNat ++ [y] ++ xs.drop i.toNat)))
theorem mt_ins {X : Cx} : MtR X "list.insert" oInsert := mt_insert
theorem w_insert {H : Hp} {Q : VK} {p : Addr} {xs : List V} {i : Int} {y : V} (h : H p = some (.lst xs)) (hz : xs.length ≤ 900) (h0 : 0 ≤ i) (h1 : i < 1000000) (q : ∀ zs, Q .non (upd H p (.lst zs))) : oInsert (.ref p) [.int i, y] H Q :=
  ⟨p, xs, i, y, rfl, rfl, h, small1000 (by omega), h0, by omega, q _⟩
end GX
namespace G
open PySem L2
def sp_law (K : PySem.W.Frag) (A : CA) : Sp := fun vs H Q _ => ∃ (a : Addr) (ns : List Int), vs = [.ref a] ∧ SqL K H a (ns.map V.int) ∧ ns.length ≤ 63 ∧ ∀ H', Q (.bl true) H'
variable {K : PySem.W.Frag} {A : CA} {vs : List V} {H : Hp} {Q : VK} {E : XK}
theorem i_sums {R M r0 r1 r2 m0 m1 m2 : Addr} {c0 c1 c2 : List Int} {w : Nat} (h : Three A H R M r0 r1 r2 m0 m1 m2 c0 c1 c2 w) (hw : w ≤ 1000) (q : ∀ H', Same H H' → Q (.bl true) H') : sp_law_sums K A [.ref R, .ref M, .int (w : Int)] H Q E :=
  ⟨R, M, r0, r1, r2, m0, m1, m2, c0, c1, c2, w, rfl, h, hw, q⟩
theorem lf_ne {a b : List Int} {w v : Nat} (h : w ≠ v) : decide (w = v ∧ M.lf a w = M.lf b v) = false := decide_eq_false fun z => h z.1
theorem lf_eqD {a b : List Int} {w : Nat} (h : M.lf a w = M.lf b w) : decide (w = w ∧ M.lf a w = M.lf b w) = true := decide_eq_true ⟨rfl, h⟩
/-- the rows -/
structure Rw (s : Addr) (H : Hp) (rs : List (Addr × List Int)) : Prop where
  at_ : ∀ r ∈ rs, H r.1 = some (.lst (r.2.map V.int)) ∧ Nn r.2 ∧ r.2.length ≤ 40 ∧ r.1 ≠ s
theorem Rw.same {s : Addr} {H H' : Hp} {rs : List (Addr × List Int)} (e : Same H H') (h : Rw s H rs) : Rw s H' rs := ⟨fun r hr => let ⟨a, b⟩ := h.at_ r hr; ⟨e _ _ a, b⟩⟩
theorem Rw.snoc {s : Addr} {H H' : Hp} {rs : List (Addr × List Int)} {r : Addr × List Int} (e : Same H H') (h : Rw s H rs) (k : H' r.1 = some (.lst (r.2.map V.int)) ∧ Nn r.2 ∧ r.2.length ≤ 40 ∧ r.1 ≠ s) : Rw s H' (rs ++ [r]) :=
  ⟨fun x hx => by
    rcases List.mem_append.mp hx with z | z
    · exact (h.same e).at_ x z
    · rw [List.mem_singleton.mp z]; exact k⟩
theorem snocR (rs : List (Addr × List Int)) (r : Addr × List Int) : rs.map (fun z => V.ref z.1) ++ [V.ref r.1] = (rs ++ [r]).map (fun z => V.ref z.1) := by rw [List.map_append]; rfl
theorem Rw.ne {s p : Addr} {H : Hp} {o : HO} {rs : List (Addr × List Int)} (n : ∀ r ∈ rs, r.1 ≠ p) (h : Rw s H rs) : Rw s (upd H p o) rs := ⟨fun r hr => let ⟨a, b⟩ := h.at_ r hr; ⟨keepNe a (n r hr), b⟩⟩
/-- the stretches made so far, one for each row -/
structure MsS (A : CA) (S : Addr → Prop) (H : Hp) (rs : List (Addr × List Int)) (ms : List Addr) (w : Nat) : Prop where
  at_ : ∀ (j : Nat) (r : Addr × List Int) (m : Addr), rs[j]? = some r → ms[j]? = some m → StS A S H m r.2 w
theorem MsS.snoc {A : CA} {S : Addr → Prop} {H H' : Hp} {rs : List (Addr × List Int)} {ms : List Addr} {w : Nat} {r : Addr × List Int} {m : Addr} (hr : rs[ms.length]? = some r) (hm : StS A S H' m r.2 w) (h : MsS A S H rs ms w) (e : ∀ x c, StS A S H x c w → StS A S H' x c w) : MsS A S H' rs (ms ++ [m]) w := ⟨fun j r' m' h1 h2 => by
  by_cases hj : j < ms.length
  · rw [List.getElem?_append_left hj] at h2; exact e _ _ (h.at_ j r' m' h1 h2)
  · have : j = ms.length := by
      have := (List.getElem?_eq_some_iff.mp h2).1
      rw [List.length_append, List.length_singleton] at this; omega
    subst this
    rw [List.getElem?_append_right (Nat.le_refl _), Nat.sub_self] at h2
    cases h2
    rw [hr] at h1; cases h1
    exact hm⟩
end G
local macro_rules | `(tactic| walk_at "call") => `(tactic| first
  | (refine' G.i_new1 ?g1 ?g2 ?_; (case g1 => first | assumption | exact L2.upd_same); (case g2 => walk_at "ar"))
  | (refine' G.i_newB ?g0 ?g1 ?g2 ?g3 ?_; (case g0 => assumption); (case g1 => walk_at "hp"); (case g2 => walk_at "ar"); (case g3 => walk_at "ar"))
  | (refine' G.i_differs ?g1 ?g2 ?g3 ?g4 ?g5 ?_; (case g1 => walk_at "stx"); (case g2 => walk_at "stx"); (case g3 => walk_at "ar"); (case g4 => walk_at "ar"); (case g5 => walk_at "ar"))
  | (refine' G.i_sums ?g1 ?g2 ?_; (case g1 => assumption); (case g2 => walk_at "ar")))
namespace G
open PySem L2
def t_law (K : PySem.W.Frag) (A : CA) : TS :=
  (tSeq (tAsg (tCall (sp_law_bag K A) [] E0 (tCons (tVar 0) (tCons (tC (.int 0)) tNil))) (gName 1))
  (tSeq (tAsg (tCall (sp_law_copies K A) [] E0 (tCons (tVar 1) tNil)) (gName 2))
  (tSeq (tAsg (tLc (iList K (tLst (tCons (tC (.int 1)) (tCons (tC (.int 2)) (tCons (tC (.int 3)) tNil))))) (gName 4) tYes (tCall (sp_law_pages K A) [] E0 (tCons (tCall (sp_law_bag K A) [] E0 (tCons (tVar 0) (tCons (tVar 4) tNil))) tNil)) [4]) (gName 3))
  (tSeq (tAsg (tLst tNil) (gName 5))
  (tSeq (tFor (iList K (tVar 3)) (gName 6)
  (tSeq (tAsg (tCB (oListOf K) (tCons (tVar 6) tNil)) (gName 7))
  (tSeq (tDrop (tBM K "list" rAppend (tVar 5) (tCons (tMake A.Stretch (sp_Stretch_init K A) [] E0 (tCons (tVar 7) (tCons (tVar 2) tNil))) tNil)))
  (tSeq (tDrop (tBM K "list" rAppend (tVar 7) (tCons (tC (.int 0)) tNil)))
  (tDrop (tBM K "list" GX.oInsert (tVar 7) (tCons (tC (.int 0)) (tCons (tC (.int 2)) tNil))))))))
  (tSeq (tFor (iRng1 (tCons (tC (.int 3)) tNil)) (gName 4)
  (tIfS (tNot (tB (tCall (sp_law_fits K A) [] E0 (tCons (tOp (rIxL K) (tVar 5) (tVar 4)) (tCons (tOp (rIxL K) (tVar 3) (tVar 4)) (tCons (tVar 2) tNil)))))) (tRet (tC (.bl false))) tNext))
  (tSeq (tIfS (tNot (tB (tCall (sp_law_sums K A) [] E0 (tCons (tVar 3) (tCons (tVar 5) (tCons (tVar 2) tNil)))))) (tRet (tC (.bl false))) tNext)
  (tSeq (tAsg (tLc (iRng1 (tCons (tOp oAdd (tC (.int 1)) (tCall (sp_law_take K A) [] E0 (tCons (tVar 1) (tCons (tC (.int 5)) tNil)))) tNil)) (gName 9) tYes (tOp oAdd (tC (.int 2)) (tCall (sp_law_take K A) [] E0 (tCons (tVar 1) (tCons (tC (.int 60)) tNil)))) [9]) (gName 8))
  (tSeq (tAsg (tOp (GX.rOwnAdd A.Stretch (sp_Stretch_add K A) E0) (tOp (GX.rOwnAdd A.Stretch (sp_Stretch_add K A) E0) (tOp (rIxL K) (tVar 5) (tC (.int 0))) (tMake A.Stretch (sp_Stretch_init K A) [] E0 (tCons (tLst (tCons (tC (.int 2)) tNil)) (tCons (tVar 2) tNil)))) (tOp (rIxL K) (tVar 5) (tC (.int 1)))) (gName 10))
  (tSeq (tIfS (tNot (tTest (tOp (GX.rOwnEq2 A.Stretch (sp_Stretch_eq K A) E0) (tVar 10) (tOp (GX.rOwnAdd A.Stretch (sp_Stretch_add K A) E0) (tOp (GX.rOwnAdd A.Stretch (sp_Stretch_add K A) E0) (tOp (rIxL K) (tVar 5) (tC (.int 0))) (tMake A.Stretch (sp_Stretch_init K A) [] E0 (tCons (tVar 8) (tCons (tVar 2) tNil)))) (tOp (rIxL K) (tVar 5) (tC (.int 1))))))) (tRet (tC (.bl false))) tNext)
  (tSeq (tIfS (tNot (tTest (tOp (GX.rOwnEq2 A.Stretch (sp_Stretch_eq K A) E0) (tVar 10) (tMake A.Stretch (sp_Stretch_init K A) [] E0 (tCons (tOp rCat (tOp rCat (tOp (rIxL K) (tVar 3) (tC (.int 0))) (tVar 8)) (tOp (rIxL K) (tVar 3) (tC (.int 1)))) (tCons (tVar 2) tNil)))))) (tRet (tC (.bl false))) tNext)
  (tSeq (tAsg (tOp oAdd (tOp oAdd (tVar 2) (tC (.int 1))) (tCall (sp_law_take K A) [] E0 (tCons (tVar 1) (tCons (tC (.int 4)) tNil)))) (gName 11))
  (tSeq (tFor (iList K (tLst (tCons (tOp (rIxL K) (tVar 3) (tC (.int 0))) (tCons (tLst tNil) tNil)))) (gName 6)
  (tSeq (tAsg (tMake A.Stretch (sp_Stretch_init K A) [] E0 (tCons (tCB (oListOf K) (tCons (tVar 6) tNil)) (tCons (tVar 2) tNil))) (gName 12))
  (tSeq (tAsg (tMake A.Stretch (sp_Stretch_init K A) [] E0 (tCons (tCB (oListOf K) (tCons (tVar 6) tNil)) (tCons (tVar 11) tNil))) (gName 13))
  (tSeq (tIfS (tOr (tTest (tOp (GX.rOwnEq2 A.Stretch (sp_Stretch_eq K A) E0) (tVar 12) (tVar 13))) (tTest (tOp (GX.rOwnEq2 A.Stretch (sp_Stretch_eq K A) E0) (tVar 13) (tVar 12)))) (tRet (tC (.bl false))) tNext)
  (tSeq (tIfS (tOr (tNot (tB (tCall (sp_law_differs K A) [] E0 (tCons (tVar 12) (tCons (tVar 13) (tCons (tVar 2) (tCons (tVar 11) tNil))))))) (tNot (tB (tCall (sp_law_differs K A) [] E0 (tCons (tVar 13) (tCons (tVar 12) (tCons (tVar 11) (tCons (tVar 2) tNil)))))))) (tRet (tC (.bl false))) tNext)
  (tIfS (tOr (tNot (tB (tCall (sp_law_fits K A) [] E0 (tCons (tVar 12) (tCons (tVar 6) (tCons (tVar 2) tNil)))))) (tNot (tB (tCall (sp_law_fits K A) [] E0 (tCons (tVar 13) (tCons (tVar 6) (tCons (tVar 11) tNil))))))) (tRet (tC (.bl false))) tNext))))))
  (tRet (tC (.bl true))))))))))))))))

variable {K : PySem.W.Frag} {A : CA} {vs : List V} {H : Hp} {Q : VK} {E : XK}
theorem rd_law (h : sp_law K A vs H Q E) : t_law K A { nx := fun _ H' => Q .non H', rt := Q } (start ["script", "bag", "copies", "rows", "k", "made", "blank", "handed", "great", "place", "plain", "other", "left", "right"] vs) H := by
  obtain ⟨a, ns, rfl, hs, hl, q⟩ := h
  unfold t_law
  walk_at "go"
  intro s H1 n1 e1 c1
  walk_at "go"
  intro w H2 w0 w1 b2 c2
  have hs2 := (Same.but2 e1 b2 n1).seq hs
  clear b2 c1 e1 n1
  obtain ⟨w, rfl⟩ := Int.eq_ofNat_of_zero_le (show 0 ≤ w by omega)
  walk_at "go"
  intro lk hlk
  have hk3 : (upd H2 lk (.lst [.int 1, .int 2, .int 3])) lk = some (.lst [.int 1, .int 2, .int 3]) := upd_same
  have hs3 := (same_new (o := .lst [.int 1, .int 2, .int 3]) hlk).seq hs2
  have c3 := c2.new (o := .lst [.int 1, .int 2, .int 3]) hlk
  clear hs hs2
  generalize upd H2 lk (.lst [.int 1, .int 2, .int 3]) = H3 at hk3 hs3 c3
  clear c2 hlk H2
  walk_at "go"
  refine lcL (xs := [V.int 1, .int 2, .int 3]) (fun Dl i H' => ∃ (rs : List (Addr × List Int)), rs.length = i ∧ Same H3 H' ∧ H' Dl = some (.lst (rs.map fun z => V.ref z.1)) ∧ Rw s H' rs ∧ ∀ r ∈ rs, r.1 ≠ Dl) ?_ ?_ ?_ ?_
  · intro Dl hD
    exact ⟨[], rfl, same_new hD, upd_same, ⟨fun _ h => by cases h⟩, fun _ h => by cases h⟩
  · rintro Dl i H4 hD hi ⟨rs, hl, e4, _, _, _⟩
    exact .inl (.inl (e4 _ _ hk3))
  · rintro Dl i x H4 hD hx ⟨rs, hl, e4, hd4, hw4, nd4⟩
    obtain ⟨k, rfl, k0, k1⟩ : ∃ k : Int, x = V.int k ∧ 0 ≤ k ∧ k ≤ 1000 := by
      rcases List.mem_of_getElem? hx with _ | ⟨_, _ | ⟨_, _ | ⟨_, h⟩⟩⟩
      · exact ⟨1, rfl, by omega, by omega⟩
      · exact ⟨2, rfl, by omega, by omega⟩
      · exact ⟨3, rfl, by omega, by omega⟩
      · cases h
    have hs4 := e4.seq hs3
    have hi3 : i < 3 := by
      have := (List.getElem?_eq_some_iff.mp hx).1
      simpa using this
    walk_at "go"
    intro s5 H5 n5 e5 c5
    walk_at "go"
    intro ps p H6 pl pn hp b6 c6 h6
    have e6 := Same.but2 e5 b6 n5
    have hd6 := e6 _ _ hd4
    have hsz : (rs.map fun z => V.ref z.1).length < sizeLine := by rw [List.length_map]; exact L2.small1000 (by omega)
    have nps : p ≠ s := (c3.same (e4.trans e5)).neFree hp
    have nDp : p ≠ Dl := (ne_of_none (e5 _ _ hd4) hp).symm
    walk_at "go"
    have nd6 : ∀ r ∈ rs ++ [(p, ps)], r.1 ≠ Dl := fun r hr => by
      rcases List.mem_append.mp hr with z | z
      · exact nd4 r z
      · rw [List.mem_singleton.mp z]; exact nDp
    refine ⟨rs ++ [(p, ps)], by simp [hl], same_mut (e4.trans e6) hD, ?_, (hw4.snoc e6 ⟨h6, pn, pl, nps⟩).ne nd6, nd6⟩
    rw [show V.ref p = V.ref (p, ps).1 from rfl, snocR]; exact upd_same
  · rintro Dl H4 hD ⟨rs, hl, e4, hd4, hw4, _⟩
    have c4 := c3.same e4
    have hl : rs.length = 3 := hl
    have nDs : Dl ≠ s := c3.neFree hD
    clear hs3 hk3 c3 e4 hD
    walk_at "go"
    intro l5 hl5
    have e5 := same_new (o := .lst []) hl5
    have h5 : (upd H4 l5 (.lst [])) l5 = some (.lst []) := upd_same
    generalize upd H4 l5 (.lst []) = H5 at e5 h5
    have c5 := c4.same e5
    have hd5 := e5 _ _ hd4
    walk_at "go"
    refine forL (xs := rs.map fun z => V.ref z.1) (fun i σ H' => ∃ (ms : List Addr) (k6 k7 : Option V), σ = [some (.ref a), some (.ref s), some (.int (w : Int)), some (.ref Dl), none, some (.ref l5), k6, k7, none, none, none, none, none, none] ∧ ms.length = i ∧ H' l5 = some (.lst (ms.map V.ref)) ∧ Same H4 H' ∧ MsS A (fun z => z = s ∨ z = l5) H' rs ms w) ?_ ?_ ?_ ?_
    · exact ⟨[], none, none, rfl, rfl, h5, e5, ⟨fun j r m _ h => by cases h⟩⟩
    · rintro i σ H6 hi ⟨ms, k6, k7, rfl, hm, h6, e6, t6⟩
      exact .inl (.inl (e6 _ _ hd4))
    · rintro i x σ H6 hx ⟨ms, k6, k7, rfl, hm, h6, e6, t6⟩
      rw [List.getElem?_map] at hx
      cases hr : rs[i]? with
      | none => rw [hr] at hx; cases hx
      | some r =>
      rw [hr] at hx
      obtain rfl := (Option.some.inj hx).symm
      have hi3 : i < 3 := Nat.lt_of_lt_of_eq (List.getElem?_eq_some_iff.mp hr).1 hl
      obtain ⟨hb, rn, rl, rns⟩ := (hw4.same e6).at_ r (List.mem_of_getElem? hr)
      have c6 := c4.same e6
      walk_at "go"
      intro ph hph
      have e7 := same_new (o := .lst (r.2.map V.int)) hph
      have h7 : (upd H6 ph (.lst (r.2.map V.int))) ph = some (.lst (r.2.map V.int)) := upd_same
      have c7 := c6.new (o := .lst (r.2.map V.int)) hph
      generalize upd H6 ph (.lst (r.2.map V.int)) = H7 at e7 h7 c7
      have m7 := e7 _ _ h6
      have np5 : l5 ≠ ph := ne_of_none h6 hph
      have hS : ∀ z, ((z = s ∨ z = l5) ∨ z = ph) → ∃ o, H7 z = some o := by
        rintro z ((rfl | rfl) | rfl)
        · obtain ⟨_, _, _, _, g⟩ := c7; exact ⟨_, g⟩
        · exact ⟨_, m7⟩
        · exact ⟨_, h7⟩
      have rl2 : r.2.length ≤ 1000 := by omega
      walk_at "go"
      intro x8 H8 hx8 e8 t8
      have m8 := e8 _ _ m7
      have h8 := e8 _ _ h7
      have hsz : (ms.map V.ref).length < sizeLine := by rw [List.length_map]; exact L2.small1000 (by omega)
      have hsz2 : (r.2.map V.int).length < sizeLine := by rw [List.length_map]; exact L2.small1000 (by omega)
      walk_at "go"
      refine GX.w_insert upd_same (by rw [List.length_append, List.length_map]; show _ + 1 ≤ _; omega) (by decide) (by decide) fun zs => ?_
      walk_at "go"
      have up : ∀ x c, StS A (fun z => (z = s ∨ z = l5) ∨ z = ph) H8 x c w → StS A (fun z => z = s ∨ z = l5) (upd (upd (upd H8 l5 (.lst (ms.map V.ref ++ [V.ref x8]))) ph (.lst (r.2.map V.int ++ [V.int 0]))) ph (.lst zs)) x c w := by
        intro x c t
        refine StS.weak (S' := fun z => (z = s ∨ z = l5) ∨ z = ph) (fun z hz => .inl hz) ?_
        exact StS.upd upd_same (.inr rfl) (StS.upd (keepNe h8 np5.symm) (.inr rfl) (StS.upd m8 (.inl (.inr rfl)) t))
      refine ⟨ms ++ [x8], _, _, rfl, by rw [List.length_append, hm]; rfl, keepNe (keepNe (by rw [List.map_append]; exact upd_same) np5) np5, same_mut (same_mut (same_mut ((e6.trans e7).trans e8) hl5) (e6.free hph)) (e6.free hph), ?_⟩
      exact t6.snoc (by rw [hm]; exact hr) (up _ _ t8) fun x c t => up _ _ (StS.same (e7.trans e8) (t.add hph))
    · rintro σ H6 ⟨ms, k6, k7, rfl, hm, h6, e6, t6⟩
      rw [List.length_map, hl] at hm
      obtain ⟨⟨r0, c0⟩, ⟨r1, c1⟩, ⟨r2, c2⟩, rfl⟩ : ∃ x y z, rs = [x, y, z] := by
        match rs, hl with
        | [x, y, z], _ => exact ⟨x, y, z, rfl⟩
      obtain ⟨m0, m1, m2, rfl⟩ : ∃ x y z, ms = [x, y, z] := by
        match ms, hm with
        | [x, y, z], _ => exact ⟨x, y, z, rfl⟩
      have hw6 := hw4.same e6
      have hd6 := e6 _ _ hd4
      have c6 := c4.same e6
      have n5s : l5 ≠ s := c4.neFree hl5
      obtain ⟨g0, nn0, ln0, ns0⟩ := hw6.at_ (r0, c0) (by simp)
      obtain ⟨g1, nn1, ln1, ns1⟩ := hw6.at_ (r1, c1) (by simp)
      obtain ⟨g2, nn2, ln2, _⟩ := hw6.at_ (r2, c2) (by simp)
      have u0 := t6.at_ 0 (r0, c0) m0 rfl rfl
      have u1 := t6.at_ 1 (r1, c1) m1 rfl rfl
      have u2 := t6.at_ 2 (r2, c2) m2 rfl rfl
      have W : Three A H6 Dl l5 r0 r1 r2 m0 m1 m2 c0 c1 c2 w := ⟨hd6, h6, g0, g1, g2, u0.toX, u1.toX, u2.toX, nn0, nn1, nn2, ln0, ln1, ln2⟩
      clear hw6 hw4 t6 u2 hd4 c4 e6 hl5 e5 h5 c5 hd5
      dsimp only at g0 g1 g2 nn0 nn1 nn2 ln0 ln1 ln2 ns0 ns1 u0 u1
      have e6 : True := trivial
      walk_at "go"
      refine forR (fun i σ H' => ∃ (k4 k6 k7 : Option V), σ = [some (.ref a), some (.ref s), some (.int (w : Int)), some (.ref Dl), k4, some (.ref l5), k6, k7, none, none, none, none, none, none] ∧ Same H6 H') ?_ ?_ ?_
      · exact ⟨none, _, _, rfl, Same.refl _⟩
      · rintro i σ H7 hi ⟨k4, k6, k7, rfl, e7⟩
        obtain ⟨r, m, c, am, ar, hr, sm, nc, lc⟩ := W.pick (by omega : i < 3)
        have hR := e7 _ _ W.hR
        have hM := e7 _ _ W.hM
        have hr := e7 _ _ hr
        have sm := sm.same e7
        walk_at "go"
        intro H8 e8
        walk_at "go"
        exact ⟨_, _, _, rfl, e7.trans e8⟩
      · rintro σ H7 ⟨k4, k6, k7, rfl, e7⟩
        have W := W.same e7
        walk_at "go"
        intro H8 e8
        have e8 := e7.trans e8
        have hR := e8 _ _ hd6
        have hM := e8 _ _ h6
        have g0 := e8 _ _ g0
        have g1 := e8 _ _ g1
        have u0 := u0.same e8
        have u1 := u1.same e8
        have c8 := c6.same e8
        clear e8 e7 g2 c6 W h6 hd6
        have mS : (fun z => z = s ∨ z = l5) s := .inl rfl
        walk_at "go"
        intro n H9 n0 n1 b9 c9
        have hR := b9.at nDs hR
        have hM := b9.at n5s hM
        have g0 := b9.at ns0 g0
        have g1 := b9.at ns1 g1
        have u0 := u0.but b9 c8 mS
        have u1 := u1.but b9 c8 mS
        clear b9 c8
        walk_at "go"
        refine lcR (fun D2 i H' => ∃ gs : List Int, gs.length = i ∧ (∀ z ∈ gs, 2 ≤ z) ∧ But s H9 H' ∧ Src H' s ∧ H' D2 = some (.lst (gs.map V.int))) ?_ ?_ ?_
        · intro D2 hD2
          exact ⟨[], rfl, (fun _ h => by cases h), But.refl.new hD2, c9.new hD2, upd_same⟩
        · rintro D2 i H10 hD2 hi ⟨gs, gl, gg, b10, c10, h10⟩
          have hl2 : (gs.map V.int).length < sizeLine := by rw [List.length_map]; exact L2.small1000 (by omega)
          have nd : D2 ≠ s := c9.neFree hD2
          walk_at "go"
          intro r H11 r0 r1 b11 c11
          have hp11 := b11.at nd h10
          walk_at "go"
          refine ⟨gs ++ [2 + r], by simp [gl], fun z hz => ?_, (b10.trans b11).mut hD2, c11.mut nd, by rw [← snocI]; exact upd_same⟩
          rcases List.mem_append.mp hz with k | k
          · exact gg z k
          · rw [List.mem_singleton.mp k]; omega
        · rintro D2 H10 hD2 ⟨gs, gl, gg, b10, c10, h10⟩
          have hR := b10.at nDs hR
          have hM := b10.at n5s hM
          have g0 := b10.at ns0 g0
          have g1 := b10.at ns1 g1
          have u0 := (u0.but b10 c9 mS).toX
          have u1 := (u1.but b10 c9 mS).toX
          have nd : D2 ≠ s := c9.neFree hD2
          have gne : gs ≠ [] := fun e => by rw [e] at gl; simp at gl; omega
          have gl4 : gs.length ≤ 5 := by omega
          clear b10 c9
          walk_at "go"
          intro p2 hp2
          have e11 := same_new (o := .lst [.int 2]) hp2
          have h11 : (upd H10 p2 (.lst [.int 2])) p2 = some (.lst [.int 2]) := upd_same
          generalize upd H10 p2 (.lst [.int 2]) = H11 at e11 h11
          have hM := e11 _ _ hM
          have hR := e11 _ _ hR
          have g0 := e11 _ _ g0
          have g1 := e11 _ _ g1
          have h11' := e11 _ _ h10
          have u0 := u0.same e11
          have u1 := u1.same e11
          have c11 := c10.same e11
          clear e11 c10 h10
          walk_at "go"
          intro x1 H12 hx1 a1 t1
          have hM := a1 _ _ hM
          have hR := a1 _ _ hR
          have g0 := a1 _ _ g0
          have g1 := a1 _ _ g1
          have h11' := a1 _ _ h11'
          have u0 := u0.same a1
          have u1 := u1.same a1
          have c11 := c11.same a1
          clear a1 hx1
          walk_at "go"
          intro x2 H13 hx2 a2 t2
          have hM := a2 _ _ hM
          have hR := a2 _ _ hR
          have g0 := a2 _ _ g0
          have g1 := a2 _ _ g1
          have h11' := a2 _ _ h11'
          have u0 := u0.same a2
          have u1 := u1.same a2
          have c11 := c11.same a2
          clear a2 hx2
          walk_at "go"
          intro pl H14 hx3 a3 tp
          have hM := a3 _ _ hM
          have hR := a3 _ _ hR
          have g0 := a3 _ _ g0
          have g1 := a3 _ _ g1
          have h11' := a3 _ _ h11'
          have u0 := u0.same a3
          have u1 := u1.same a3
          have c11 := c11.same a3
          clear a3 hx3 t1 t2
          walk_at "go"
          intro x4 H15 hx4 a4 t4
          have hM := a4 _ _ hM
          have hR := a4 _ _ hR
          have g0 := a4 _ _ g0
          have g1 := a4 _ _ g1
          have h11' := a4 _ _ h11'
          have u0 := u0.same a4
          have u1 := u1.same a4
          have tp := tp.same a4
          have c11 := c11.same a4
          clear a4 hx4
          walk_at "go"
          intro x5 H16 hx5 a5 t5
          have hM := a5 _ _ hM
          have hR := a5 _ _ hR
          have g0 := a5 _ _ g0
          have g1 := a5 _ _ g1
          have h11' := a5 _ _ h11'
          have u0 := u0.same a5
          have u1 := u1.same a5
          have tp := tp.same a5
          have c11 := c11.same a5
          clear a5 hx5
          walk_at "go"
          intro x6 H17 hx6 a6 t6
          have hM := a6 _ _ hM
          have hR := a6 _ _ hR
          have g0 := a6 _ _ g0
          have g1 := a6 _ _ g1
          have h11' := a6 _ _ h11'
          have u0 := u0.same a6
          have u1 := u1.same a6
          have tp := tp.same a6
          have c11 := c11.same a6
          clear a6 hx6
          walk_at "go"
          rw [lf_eqD (M.lf_great c0 c1 [2] gs w (fun n h => by rw [List.mem_singleton.mp h]; omega) gg (by simp) gne)]
          have z1 := catsz (a := c0) (b := gs) (by omega)
          have z2 := catsz (a := c0 ++ gs) (b := c1) (by rw [List.length_append]; omega)
          walk_at "go"
          intro p8 hp8
          rw [← List.map_append]
          have a8 := same_new (o := .lst ((c0 ++ gs).map V.int)) hp8
          have f8 : (upd H17 p8 (.lst ((c0 ++ gs).map V.int))) p8 = some (.lst ((c0 ++ gs).map V.int)) := upd_same
          generalize upd H17 p8 (.lst ((c0 ++ gs).map V.int)) = H18 at a8 f8
          have hM := a8 _ _ hM
          have hR := a8 _ _ hR
          have g0 := a8 _ _ g0
          have g1 := a8 _ _ g1
          have h11' := a8 _ _ h11'
          have tp := tp.same a8
          have c11 := c11.same a8
          clear a8
          walk_at "go"
          intro p9 hp9
          rw [← List.map_append]
          have a9 := same_new (o := .lst ((c0 ++ gs ++ c1).map V.int)) hp9
          have f9 : (upd H18 p9 (.lst ((c0 ++ gs ++ c1).map V.int))) p9 = some (.lst ((c0 ++ gs ++ c1).map V.int)) := upd_same
          generalize upd H18 p9 (.lst ((c0 ++ gs ++ c1).map V.int)) = H19 at a9 f9
          have hM := a9 _ _ hM
          have hR := a9 _ _ hR
          have g0 := a9 _ _ g0
          have g1 := a9 _ _ g1
          have h11' := a9 _ _ h11'
          have tp := tp.same a9
          have c11 := c11.same a9
          clear a9
          have lz : (c0 ++ gs ++ c1).length ≤ 1000 := by rw [List.length_append, List.length_append]; omega
          walk_at "go"
          intro x10 H20 hx10 a10 t10
          have hM := a10 _ _ hM
          have hR := a10 _ _ hR
          have g0 := a10 _ _ g0
          have g1 := a10 _ _ g1
          have h11' := a10 _ _ h11'
          have tp := tp.same a10
          have c11 := c11.same a10
          clear a10 hx10
          walk_at "go"
          rw [lf_eqD (M.lf_great c0 c1 [2] gs w (fun n h => by rw [List.mem_singleton.mp h]; omega) gg (by simp) gne)]
          walk_at "go"
          intro ot H21 o0 o1 b21 c21
          have hR := b21.at nDs hR
          have g0 := b21.at ns0 g0
          clear b21 c11 hM h11' tp t10 f8 f9 hp8 hp9 t4 t5 t6
          obtain ⟨v, hv⟩ : ∃ v : Nat, (w : Int) + 1 + ot = (v : Int) := ⟨((w : Int) + 1 + ot).toNat, by omega⟩
          have vne : w ≠ v := by omega
          have vle : v ≤ 1000 := by omega
          walk_at "go"
          rw [hv]
          intro pe hpe
          have a22 := same_new (o := .lst []) hpe
          have f22 : (upd H21 pe (.lst [])) pe = some (.lst (([] : List Int).map V.int)) := upd_same
          generalize upd H21 pe (.lst []) = H22 at a22 f22
          have g0 := a22 _ _ g0
          clear a22
          walk_at "go"
          intro pl2 hpl
          have a23 := same_new (o := .lst [.ref r0, .ref pe]) hpl
          have f23 : (upd H22 pl2 (.lst [.ref r0, .ref pe])) pl2 = some (.lst [.ref r0, .ref pe]) := upd_same
          generalize upd H22 pl2 (.lst [.ref r0, .ref pe]) = H23 at a23 f23
          have g0 := a23 _ _ g0
          have f22 := a23 _ _ f22
          clear a23 hpl hpe hR c21
          walk_at "go"
          refine forL (xs := [.ref r0, .ref pe]) (fun i σ H' => ∃ (k6 k12 k13 : Option V), σ = [some (.ref a), some (.ref s), some (.int (w : Int)), some (.ref Dl), k4, some (.ref l5), k6, k7, some (.ref D2), none, some (.ref pl), some (.int (v : Int)), k12, k13] ∧ Same H23 H') ?_ ?_ ?_ ?_
          · exact ⟨_, _, _, rfl, Same.refl _⟩
          · rintro i σ H24 hi ⟨k6, k12, k13, rfl, e24⟩
            exact .inl (.inl (e24 _ _ f23))
          · rintro i x σ H24 hx ⟨k6, k12, k13, rfl, e24⟩
            obtain ⟨b, c, rfl, hb, nc, lc⟩ : ∃ b c, x = V.ref b ∧ H24 b = some (.lst (c.map V.int)) ∧ Nn c ∧ c.length ≤ 1000 := by
              rcases List.mem_of_getElem? hx with _ | ⟨_, _ | ⟨_, h⟩⟩
              · exact ⟨r0, c0, rfl, e24 _ _ g0, nn0, by omega⟩
              · exact ⟨pe, [], rfl, e24 _ _ f22, (fun _ h => by cases h), by simp⟩
              · cases h
            walk_at "go"
            intro p25 hp25
            have e25 := same_new (o := .lst (c.map V.int)) hp25
            have h25 : (upd H24 p25 (.lst (c.map V.int))) p25 = some (.lst (c.map V.int)) := upd_same
            generalize upd H24 p25 (.lst (c.map V.int)) = H25 at e25 h25
            have hb := e25 _ _ hb
            walk_at "go"
            intro lt H26 hlt e26 tl
            have hb := e26 _ _ hb
            walk_at "go"
            intro p27 hp27
            have e27 := same_new (o := .lst (c.map V.int)) hp27
            have h27 : (upd H26 p27 (.lst (c.map V.int))) p27 = some (.lst (c.map V.int)) := upd_same
            generalize upd H26 p27 (.lst (c.map V.int)) = H27 at e27 h27
            have hb := e27 _ _ hb
            have tl := tl.same e27
            walk_at "go"
            intro rt H28 hrt e28 tr
            have hb := e28 _ _ hb
            have tl := tl.same e28
            walk_at "go"
            rw [lf_ne vne]
            walk_at "go"
            rw [lf_ne (Ne.symm vne)]
            walk_at "go"
            intro H29 e29
            have tl := tl.same e29
            have tr := tr.same e29
            have hb := e29 _ _ hb
            walk_at "go"
            intro H30 e30
            have tl := tl.same e30
            have tr := tr.same e30
            have hb := e30 _ _ hb
            walk_at "go"
            intro H31 e31
            have tr := tr.same e31
            have hb := e31 _ _ hb
            walk_at "go"
            intro H32 e32
            walk_at "go"
            exact ⟨_, _, _, rfl, (((((((e24.trans e25).trans e26).trans e27).trans e28).trans e29).trans e30).trans e31).trans e32⟩
          · rintro σ H24 ⟨k6, k12, k13, rfl, e24⟩
            walk_at "go"
            exact q _
end G

namespace G
open PySem L2
def topS (i : Nat) : Stmt := PySem.Challenge.pw_onecopy_k28_stretch_sums.main.body.getD i (.Pass ⟨0, 0, 0, 0⟩)
structure Txt (mg : Str → Option Value) (A : CA) : Prop where
  b_ValueError : mg "ValueError" = none
  b_abs : mg "abs" = none
  b_all : mg "all" = none
  b_bool : mg "bool" = none
  b_int : mg "int" = none
  b_isinstance : mg "isinstance" = none
  b_len : mg "len" = none
  b_list : mg "list" = none
  b_range : mg "range" = none
  g_CopiesDiffer : mg "CopiesDiffer" = some (.ref A.CopiesDiffer)
  g_LotError : mg "LotError" = some (.ref A.LotError)
  g_OnecopyError : mg "OnecopyError" = some (.ref A.OnecopyError)
  g_Stretch : mg "Stretch" = some (.ref A.Stretch)
variable {P : Program} {w : World} {K : PySem.W.Frag} {mg : Str → Option Value} {base : Heap} {A : CA}
abbrev s_CopiesDiffer_init : Stmt := inClass (topS 3) 0
theorem sc_CopiesDiffer_init : FnScope ["self", "left", "right"] ["self", "left", "right"] (defScope s_CopiesDiffer_init) := ⟨rfl, rfl, rfl, by decide +kernel, rfl, by decide +kernel, by decide +kernel⟩
theorem fn_CopiesDiffer_init {f : Addr} {fd : FuncData} (F : Fun K "__init__" "CopiesDiffer.__init__" s_CopiesDiffer_init f fd) : FnOk P w K mg base CX0 1 f fd ["self", "left", "right"] (GX.sp_err2 K A.CopiesDiffer "left" "right") :=
  F.ok sc_CopiesDiffer_init (fun vs H Q E h => by obtain ⟨_, _, _, rfl, _⟩ := h; rfl) (fun cdv Ar outer s H vs Q E hr h => ⟨GX.t_err2 K "left" "right", (pss_cons (ps_ost (pv 0) (pv 1)) (pss_one (ps_ost (pv 0) (pv 2)))), GX.rd_err2 h⟩)
theorem bi_CopiesDiffer_init {f : Addr} {fd : FuncData} (F : Fun K "__init__" "CopiesDiffer.__init__" s_CopiesDiffer_init f fd) : Binds K fd ["self", "left", "right"] [] := F.binds fun _ _ _ _ _ _ us hl => match us, hl with | [_, _, _], _ => rfl
abbrev s_height_over : Stmt := topS 5
theorem sc_height_over : FnScope ["below", "blank", "copies"] ["below", "blank", "copies"] (defScope s_height_over) := ⟨rfl, rfl, rfl, by decide +kernel, rfl, by decide +kernel, by decide +kernel⟩
theorem ln_height_over {vs : List V} {H : Hp} {Q : VK} {E : XK} (h : sp_height_over K A vs H Q E) : vs.length = 3 := by
  first | (obtain ⟨_, rfl, _⟩ := h; rfl) | (obtain ⟨_, _, rfl, _⟩ := h; rfl) | (obtain ⟨_, _, _, rfl, _⟩ := h; rfl) | (obtain ⟨_, _, _, _, rfl, _⟩ := h; rfl) | (obtain ⟨_, _, _, _, _, rfl, _⟩ := h; rfl) | (obtain ⟨_, _, _, _, _, _, rfl, _⟩ := h; rfl) | (obtain ⟨_, _, _, _, _, _, _, rfl, _⟩ := h; rfl) | (obtain ⟨_, _, _, _, _, _, _, _, rfl, _⟩ := h; rfl) | (obtain ⟨_, _, _, _, _, _, _, _, _, rfl, _⟩ := h; rfl) | (obtain ⟨_, _, _, _, _, _, _, _, _, _, rfl, _⟩ := h; rfl) | (obtain ⟨_, _, _, _, _, _, _, _, _, _, _, rfl, _⟩ := h; rfl) | (obtain ⟨_, _, _, _, _, _, _, _, _, _, _, _, rfl, _⟩ := h; rfl) | (obtain ⟨_, _, _, _, _, _, _, _, _, _, _, _, _, rfl, _⟩ := h; rfl) | (obtain ⟨_, _, _, _, _, _, _, _, _, _, _, _, _, _, rfl, _⟩ := h; rfl) | (obtain ⟨_, _, _, _, _, _, _, _, _, _, _, _, _, _, _, rfl, _⟩ := h; rfl) | (obtain ⟨_, _, _, _, _, _, _, _, _, _, _, _, _, _, _, _, rfl, _⟩ := h; rfl) | (obtain ⟨_, _, _, _, _, _, _, _, _, _, _, _, _, _, _, _, _, rfl, _⟩ := h; rfl) | (obtain ⟨_, _, _, _, _, _, _, _, _, _, _, _, _, _, _, _, _, _, rfl, _⟩ := h; rfl) | (obtain ⟨_, _, _, _, _, _, _, _, _, _, _, _, _, _, _, _, _, _, _, rfl, _⟩ := h; rfl)
theorem fn_height_over {f : Addr} {fd : FuncData} (F : Fun K "height_over" "height_over" s_height_over f fd) (T : Txt mg A) (C : CT K A)  : FnOk P w K mg base CX0 1 f fd ["below", "blank", "copies"] (sp_height_over K A) :=
  F.ok sc_height_over (fun vs H Q E h => ln_height_over h) (fun cdv Ar outer s H vs Q E hr h => ⟨t_height_over K A, (pss_cons (ps_if (pt_cmpR op_eq (pv 1) pe_int (nomark _)) (pss_one (ps_ret (pe_op op_add (pv 0) pe_int))) pss_nil)
  (pss_one (ps_ret (pe_ifExp (PW.pt (pw_and (pt_cmpR op_eq (pv 1) pe_int (nomark _)) (pw_and1 (pt_cmpR op_ge (pv 0) (pv 2) (nomark _))))) pe_int pe_int)))), rd_height_over h⟩)
theorem bi_height_over {f : Addr} {fd : FuncData} (F : Fun K "height_over" "height_over" s_height_over f fd) : Binds K fd ["below", "blank", "copies"] [] := F.binds fun _ _ _ _ _ _ us hl => match us, hl with | [_, _, _], _ => rfl
abbrev s_lifted : Stmt := topS 6
theorem sc_lifted : FnScope ["below", "blank", "copies", "height", "number"] ["below", "blank", "copies"] (defScope s_lifted) := ⟨rfl, rfl, rfl, by decide +kernel, rfl, by decide +kernel, by decide +kernel⟩
theorem ln_lifted {vs : List V} {H : Hp} {Q : VK} {E : XK} (h : sp_lifted K A vs H Q E) : vs.length = 3 := by
  first | (obtain ⟨_, rfl, _⟩ := h; rfl) | (obtain ⟨_, _, rfl, _⟩ := h; rfl) | (obtain ⟨_, _, _, rfl, _⟩ := h; rfl) | (obtain ⟨_, _, _, _, rfl, _⟩ := h; rfl) | (obtain ⟨_, _, _, _, _, rfl, _⟩ := h; rfl) | (obtain ⟨_, _, _, _, _, _, rfl, _⟩ := h; rfl) | (obtain ⟨_, _, _, _, _, _, _, rfl, _⟩ := h; rfl) | (obtain ⟨_, _, _, _, _, _, _, _, rfl, _⟩ := h; rfl) | (obtain ⟨_, _, _, _, _, _, _, _, _, rfl, _⟩ := h; rfl) | (obtain ⟨_, _, _, _, _, _, _, _, _, _, rfl, _⟩ := h; rfl) | (obtain ⟨_, _, _, _, _, _, _, _, _, _, _, rfl, _⟩ := h; rfl) | (obtain ⟨_, _, _, _, _, _, _, _, _, _, _, _, rfl, _⟩ := h; rfl) | (obtain ⟨_, _, _, _, _, _, _, _, _, _, _, _, _, rfl, _⟩ := h; rfl) | (obtain ⟨_, _, _, _, _, _, _, _, _, _, _, _, _, _, rfl, _⟩ := h; rfl) | (obtain ⟨_, _, _, _, _, _, _, _, _, _, _, _, _, _, _, rfl, _⟩ := h; rfl) | (obtain ⟨_, _, _, _, _, _, _, _, _, _, _, _, _, _, _, _, rfl, _⟩ := h; rfl) | (obtain ⟨_, _, _, _, _, _, _, _, _, _, _, _, _, _, _, _, _, rfl, _⟩ := h; rfl) | (obtain ⟨_, _, _, _, _, _, _, _, _, _, _, _, _, _, _, _, _, _, rfl, _⟩ := h; rfl) | (obtain ⟨_, _, _, _, _, _, _, _, _, _, _, _, _, _, _, _, _, _, _, rfl, _⟩ := h; rfl)
theorem fn_lifted {f : Addr} {fd : FuncData} (F : Fun K "_lifted" "_lifted" s_lifted f fd) (T : Txt mg A) (C : CT K A) (C_height_over : C8.Cal P w K mg base 1 "height_over" (sp_height_over K A) []) : FnOk P w K mg base CX0 2 f fd ["below", "blank", "copies"] (sp_lifted K A) :=
  F.ok sc_lifted (fun vs H Q E h => ln_lifted h) (fun cdv Ar outer s H vs Q E hr h => ⟨t_lifted K A, (pss_cons (ps_set (i := 3) sc_lifted.nd rfl (by first | exact Or.inl rfl | exact Or.inr rfl) (pv 0))
  (pss_cons (ps_for PassesOwn.never rfl (pi_list (pe_revL (pv 1))) (pg_name (i := 4) sc_lifted.nd rfl (by first | exact Or.inl rfl | exact Or.inr rfl))
  (pss_cons (ps_set (i := 3) sc_lifted.nd rfl (by first | exact Or.inl rfl | exact Or.inr rfl) (C8.pe_c C_height_over hr (by decide) (by rfl) (pa_cons (pv 3) (pa_cons (pv 4) (pa_cons (pv 2) pa_nil)))))
  (pss_one (ps_if (pt_cmpR op_gt (pv 3) (pv 2) (nomark _)) (pss_one (ps_ret pe_non)) pss_nil))))
  (pss_one (ps_ret (pv 3))))), rd_lifted h⟩)
theorem bi_lifted {f : Addr} {fd : FuncData} (F : Fun K "_lifted" "_lifted" s_lifted f fd) : Binds K fd ["below", "blank", "copies"] [] := F.binds fun _ _ _ _ _ _ us hl => match us, hl with | [_, _, _], _ => rfl
abbrev s_Stretch_init : Stmt := inClass (topS 7) 0
theorem sc_Stretch_init : FnScope ["self", "blank", "copies", "below"] ["self", "blank", "copies"] (defScope s_Stretch_init) := ⟨rfl, rfl, rfl, by decide +kernel, rfl, by decide +kernel, by decide +kernel⟩
theorem ln_Stretch_init {vs : List V} {H : Hp} {Q : VK} {E : XK} (h : sp_Stretch_init K A vs H Q E) : vs.length = 3 := by
  first | (obtain ⟨_, rfl, _⟩ := h; rfl) | (obtain ⟨_, _, rfl, _⟩ := h; rfl) | (obtain ⟨_, _, _, rfl, _⟩ := h; rfl) | (obtain ⟨_, _, _, _, rfl, _⟩ := h; rfl) | (obtain ⟨_, _, _, _, _, rfl, _⟩ := h; rfl) | (obtain ⟨_, _, _, _, _, _, rfl, _⟩ := h; rfl) | (obtain ⟨_, _, _, _, _, _, _, rfl, _⟩ := h; rfl) | (obtain ⟨_, _, _, _, _, _, _, _, rfl, _⟩ := h; rfl) | (obtain ⟨_, _, _, _, _, _, _, _, _, rfl, _⟩ := h; rfl) | (obtain ⟨_, _, _, _, _, _, _, _, _, _, rfl, _⟩ := h; rfl) | (obtain ⟨_, _, _, _, _, _, _, _, _, _, _, rfl, _⟩ := h; rfl) | (obtain ⟨_, _, _, _, _, _, _, _, _, _, _, _, rfl, _⟩ := h; rfl) | (obtain ⟨_, _, _, _, _, _, _, _, _, _, _, _, _, rfl, _⟩ := h; rfl) | (obtain ⟨_, _, _, _, _, _, _, _, _, _, _, _, _, _, rfl, _⟩ := h; rfl) | (obtain ⟨_, _, _, _, _, _, _, _, _, _, _, _, _, _, _, rfl, _⟩ := h; rfl) | (obtain ⟨_, _, _, _, _, _, _, _, _, _, _, _, _, _, _, _, rfl, _⟩ := h; rfl) | (obtain ⟨_, _, _, _, _, _, _, _, _, _, _, _, _, _, _, _, _, rfl, _⟩ := h; rfl) | (obtain ⟨_, _, _, _, _, _, _, _, _, _, _, _, _, _, _, _, _, _, rfl, _⟩ := h; rfl) | (obtain ⟨_, _, _, _, _, _, _, _, _, _, _, _, _, _, _, _, _, _, _, rfl, _⟩ := h; rfl)
theorem fn_Stretch_init {f : Addr} {fd : FuncData} (F : Fun K "__init__" "Stretch.__init__" s_Stretch_init f fd) (T : Txt mg A) (C : CT K A) (C_lifted : C8.Cal P w K mg base 2 "_lifted" (sp_lifted K A) []) : FnOk P w K mg base CX0 3 f fd ["self", "blank", "copies"] (sp_Stretch_init K A) :=
  F.ok sc_Stretch_init (fun vs H Q E h => ln_Stretch_init h) (fun cdv Ar outer s H vs Q E hr h => ⟨t_Stretch_init K A, (pss_cons (ps_fld (pv 0) (pv 2) rfl)
  (pss_one (ps_fld (pv 0) (pe_lc (own := [("below", 3)]) (g := (gName 3)) (tt := tYes) rfl sc_Stretch_init.nd (pi_range1 (by rfl) T.b_range (pa_cons (pe_op op_add (pv 2) pe_int) pa_nil)) (blkOk_by (own := [("below", 3)]) (N := ["self", "blank", "copies", "below"]) (sc := defScope s_Stretch_init) (by decide +kernel)) (fun _ _ _ _ _ => (pg_name (i := 3) sc_Stretch_init.nd rfl (by first | exact Or.inl rfl | exact Or.inr rfl))) (fun _ _ _ _ _ => pts_nil) (fun _ _ _ _ _ => (C8.pe_c C_lifted hr (by decide) (by rfl) (pa_cons (pv 3) (pa_cons (pv 1) (pa_cons (pv 2) pa_nil)))))) rfl))), rd_Stretch_init C h⟩)
theorem bi_Stretch_init {f : Addr} {fd : FuncData} (F : Fun K "__init__" "Stretch.__init__" s_Stretch_init f fd) : Binds K fd ["self", "blank", "copies"] [] := F.binds fun _ _ _ _ _ _ us hl => match us, hl with | [_, _, _], _ => rfl
abbrev s_Stretch_lift : Stmt := inClass (topS 7) 1
theorem sc_Stretch_lift : FnScope ["self"] ["self"] (defScope s_Stretch_lift) := ⟨rfl, rfl, rfl, by decide +kernel, rfl, by decide +kernel, by decide +kernel⟩
theorem ln_Stretch_lift {vs : List V} {H : Hp} {Q : VK} {E : XK} (h : sp_Stretch_lift K A vs H Q E) : vs.length = 1 := by
  first | (obtain ⟨_, rfl, _⟩ := h; rfl) | (obtain ⟨_, _, rfl, _⟩ := h; rfl) | (obtain ⟨_, _, _, rfl, _⟩ := h; rfl) | (obtain ⟨_, _, _, _, rfl, _⟩ := h; rfl) | (obtain ⟨_, _, _, _, _, rfl, _⟩ := h; rfl) | (obtain ⟨_, _, _, _, _, _, rfl, _⟩ := h; rfl) | (obtain ⟨_, _, _, _, _, _, _, rfl, _⟩ := h; rfl) | (obtain ⟨_, _, _, _, _, _, _, _, rfl, _⟩ := h; rfl) | (obtain ⟨_, _, _, _, _, _, _, _, _, rfl, _⟩ := h; rfl) | (obtain ⟨_, _, _, _, _, _, _, _, _, _, rfl, _⟩ := h; rfl) | (obtain ⟨_, _, _, _, _, _, _, _, _, _, _, rfl, _⟩ := h; rfl) | (obtain ⟨_, _, _, _, _, _, _, _, _, _, _, _, rfl, _⟩ := h; rfl) | (obtain ⟨_, _, _, _, _, _, _, _, _, _, _, _, _, rfl, _⟩ := h; rfl) | (obtain ⟨_, _, _, _, _, _, _, _, _, _, _, _, _, _, rfl, _⟩ := h; rfl) | (obtain ⟨_, _, _, _, _, _, _, _, _, _, _, _, _, _, _, rfl, _⟩ := h; rfl) | (obtain ⟨_, _, _, _, _, _, _, _, _, _, _, _, _, _, _, _, rfl, _⟩ := h; rfl) | (obtain ⟨_, _, _, _, _, _, _, _, _, _, _, _, _, _, _, _, _, rfl, _⟩ := h; rfl) | (obtain ⟨_, _, _, _, _, _, _, _, _, _, _, _, _, _, _, _, _, _, rfl, _⟩ := h; rfl) | (obtain ⟨_, _, _, _, _, _, _, _, _, _, _, _, _, _, _, _, _, _, _, rfl, _⟩ := h; rfl)
theorem fn_Stretch_lift {f : Addr} {fd : FuncData} (F : Fun K "lift" "Stretch.lift" s_Stretch_lift f fd) (T : Txt mg A) (C : CT K A)  : FnOk P w K mg base CX0 1 f fd ["self"] (sp_Stretch_lift K A) :=
  F.ok sc_Stretch_lift (fun vs H Q E h => ln_Stretch_lift h) (fun cdv Ar outer s H vs Q E hr h => ⟨t_Stretch_lift K A, (pss_one (ps_ret (pe_callTy call_list_of (by rfl) T.b_list (by decide +kernel) (pa_cons (pe_fld (pv 0) rfl) pa_nil)))), rd_Stretch_lift C h⟩)
theorem bi_Stretch_lift {f : Addr} {fd : FuncData} (F : Fun K "lift" "Stretch.lift" s_Stretch_lift f fd) : Binds K fd ["self"] [] := F.binds fun _ _ _ _ _ _ us hl => match us, hl with | [_], _ => rfl
abbrev s_Stretch_add : Stmt := inClass (topS 7) 2
theorem sc_Stretch_add : FnScope ["self", "other", "joined", "height"] ["self", "other"] (defScope s_Stretch_add) := ⟨rfl, rfl, rfl, by decide +kernel, rfl, by decide +kernel, by decide +kernel⟩
theorem ln_Stretch_add {vs : List V} {H : Hp} {Q : VK} {E : XK} (h : sp_Stretch_add K A vs H Q E) : vs.length = 2 := by
  first | (obtain ⟨_, rfl, _⟩ := h; rfl) | (obtain ⟨_, _, rfl, _⟩ := h; rfl) | (obtain ⟨_, _, _, rfl, _⟩ := h; rfl) | (obtain ⟨_, _, _, _, rfl, _⟩ := h; rfl) | (obtain ⟨_, _, _, _, _, rfl, _⟩ := h; rfl) | (obtain ⟨_, _, _, _, _, _, rfl, _⟩ := h; rfl) | (obtain ⟨_, _, _, _, _, _, _, rfl, _⟩ := h; rfl) | (obtain ⟨_, _, _, _, _, _, _, _, rfl, _⟩ := h; rfl) | (obtain ⟨_, _, _, _, _, _, _, _, _, rfl, _⟩ := h; rfl) | (obtain ⟨_, _, _, _, _, _, _, _, _, _, rfl, _⟩ := h; rfl) | (obtain ⟨_, _, _, _, _, _, _, _, _, _, _, rfl, _⟩ := h; rfl) | (obtain ⟨_, _, _, _, _, _, _, _, _, _, _, _, rfl, _⟩ := h; rfl) | (obtain ⟨_, _, _, _, _, _, _, _, _, _, _, _, _, rfl, _⟩ := h; rfl) | (obtain ⟨_, _, _, _, _, _, _, _, _, _, _, _, _, _, rfl, _⟩ := h; rfl) | (obtain ⟨_, _, _, _, _, _, _, _, _, _, _, _, _, _, _, rfl, _⟩ := h; rfl) | (obtain ⟨_, _, _, _, _, _, _, _, _, _, _, _, _, _, _, _, rfl, _⟩ := h; rfl) | (obtain ⟨_, _, _, _, _, _, _, _, _, _, _, _, _, _, _, _, _, rfl, _⟩ := h; rfl) | (obtain ⟨_, _, _, _, _, _, _, _, _, _, _, _, _, _, _, _, _, _, rfl, _⟩ := h; rfl) | (obtain ⟨_, _, _, _, _, _, _, _, _, _, _, _, _, _, _, _, _, _, _, rfl, _⟩ := h; rfl)
theorem fn_Stretch_add {f : Addr} {fd : FuncData} (F : Fun K "__add__" "Stretch.__add__" s_Stretch_add f fd) (T : Txt mg A) (C : CT K A) (C_CopiesDiffer : GX.ErrX P w K mg base 1 "CopiesDiffer" A.CopiesDiffer (GX.sp_err2 K A.CopiesDiffer "left" "right")) (C_Stretch_init : C8.Mak P w K mg base 3 "Stretch" A.Stretch (sp_Stretch_init K A) []) : FnOk P w K mg base (L2.CX P w) 5 f fd ["self", "other"] (sp_Stretch_add K A) :=
  F.okX sc_Stretch_add (fun vs H Q E h => ln_Stretch_add h) (fun cdv Ar outer s H vs Q E hr h => ⟨t_Stretch_add K A E, (pss_cons (ps_if (pt_cmpR op_ne (pe_fld (pv 0) rfl) (pe_fld (pv 1) rfl) (nomark _)) (pss_one (GX.ps_raiseO C_CopiesDiffer hr (by decide) rfl (by rfl) (takes_of rfl rfl rfl rfl) (pa_cons (pe_fld (pv 0) rfl) (pa_cons (pe_fld (pv 1) rfl) pa_nil)))) pss_nil)
  (pss_cons (ps_set (i := 2) sc_Stretch_add.nd rfl (by first | exact Or.inl rfl | exact Or.inr rfl) (C8.pe_mk C_Stretch_init hr (by decide) (by rfl) (pa_cons (pe_lst pa_nil) (pa_cons (pe_fld (pv 0) rfl) pa_nil))))
  (pss_cons (ps_fld (pv 2) (pe_lc (own := [("height", 3)]) (g := (gName 3)) (tt := tYes) rfl sc_Stretch_add.nd (pi_list (pe_fld (pv 1) rfl)) (blkOk_by (own := [("height", 3)]) (N := ["self", "other", "joined", "height"]) (sc := defScope s_Stretch_add) (by decide +kernel)) (fun _ _ _ _ _ => (pg_name (i := 3) sc_Stretch_add.nd rfl (by first | exact Or.inl rfl | exact Or.inr rfl))) (fun _ _ _ _ _ => pts_nil) (fun _ _ _ _ _ => (pe_ifExp (pt_cmp (pc_isN (pv 3))) pe_non (pe_ix ix_list (pe_fld (pv 0) rfl) (pv 3) (fun _ _ => rfl))))) rfl)
  (pss_one (ps_ret (pv 2)))))), rd_Stretch_add C h⟩)
theorem bi_Stretch_add {f : Addr} {fd : FuncData} (F : Fun K "__add__" "Stretch.__add__" s_Stretch_add f fd) : Binds K fd ["self", "other"] [] := F.binds fun _ _ _ _ _ _ us hl => match us, hl with | [_, _], _ => rfl
abbrev s_Stretch_eq : Stmt := inClass (topS 7) 3
theorem sc_Stretch_eq : FnScope ["self", "other"] ["self", "other"] (defScope s_Stretch_eq) := ⟨rfl, rfl, rfl, by decide +kernel, rfl, by decide +kernel, by decide +kernel⟩
theorem ln_Stretch_eq {vs : List V} {H : Hp} {Q : VK} {E : XK} (h : sp_Stretch_eq K A vs H Q E) : vs.length = 2 := by
  first | (obtain ⟨_, rfl, _⟩ := h; rfl) | (obtain ⟨_, _, rfl, _⟩ := h; rfl) | (obtain ⟨_, _, _, rfl, _⟩ := h; rfl) | (obtain ⟨_, _, _, _, rfl, _⟩ := h; rfl) | (obtain ⟨_, _, _, _, _, rfl, _⟩ := h; rfl) | (obtain ⟨_, _, _, _, _, _, rfl, _⟩ := h; rfl) | (obtain ⟨_, _, _, _, _, _, _, rfl, _⟩ := h; rfl) | (obtain ⟨_, _, _, _, _, _, _, _, rfl, _⟩ := h; rfl) | (obtain ⟨_, _, _, _, _, _, _, _, _, rfl, _⟩ := h; rfl) | (obtain ⟨_, _, _, _, _, _, _, _, _, _, rfl, _⟩ := h; rfl) | (obtain ⟨_, _, _, _, _, _, _, _, _, _, _, rfl, _⟩ := h; rfl) | (obtain ⟨_, _, _, _, _, _, _, _, _, _, _, _, rfl, _⟩ := h; rfl) | (obtain ⟨_, _, _, _, _, _, _, _, _, _, _, _, _, rfl, _⟩ := h; rfl) | (obtain ⟨_, _, _, _, _, _, _, _, _, _, _, _, _, _, rfl, _⟩ := h; rfl) | (obtain ⟨_, _, _, _, _, _, _, _, _, _, _, _, _, _, _, rfl, _⟩ := h; rfl) | (obtain ⟨_, _, _, _, _, _, _, _, _, _, _, _, _, _, _, _, rfl, _⟩ := h; rfl) | (obtain ⟨_, _, _, _, _, _, _, _, _, _, _, _, _, _, _, _, _, rfl, _⟩ := h; rfl) | (obtain ⟨_, _, _, _, _, _, _, _, _, _, _, _, _, _, _, _, _, _, rfl, _⟩ := h; rfl) | (obtain ⟨_, _, _, _, _, _, _, _, _, _, _, _, _, _, _, _, _, _, _, rfl, _⟩ := h; rfl)
theorem fn_Stretch_eq {f : Addr} {fd : FuncData} (F : Fun K "__eq__" "Stretch.__eq__" s_Stretch_eq f fd) (T : Txt mg A) (C : CT K A)  : FnOk P w K mg base CX0 1 f fd ["self", "other"] (sp_Stretch_eq K A) :=
  F.ok sc_Stretch_eq (fun vs H Q E h => ln_Stretch_eq h) (fun cdv Ar outer s H vs Q E hr h => ⟨t_Stretch_eq K A, (pss_one (ps_ret (pe_and (pe_callB call_isi (by rfl) T.b_isinstance (by decide +kernel) (pa_cons (pv 1) (pa_cons (pe_glob (v := .ref A.Stretch) (by rfl) T.g_Stretch rfl) pa_nil))) (pe_and (pe_cmpR op_eq (pe_fld (pv 0) rfl) (pe_fld (pv 1) rfl) (nomark _)) (pe_one (pe_cmpR (op_eqD hr.units) (pe_fld (pv 0) rfl) (pe_fld (pv 1) rfl) (nomark _))))))), rd_Stretch_eq C h⟩)
theorem bi_Stretch_eq {f : Addr} {fd : FuncData} (F : Fun K "__eq__" "Stretch.__eq__" s_Stretch_eq f fd) : Binds K fd ["self", "other"] [] := F.binds fun _ _ _ _ _ _ us hl => match us, hl with | [_, _], _ => rfl
abbrev s_Stretch_is_keepable : Stmt := inClass (topS 7) 4
theorem sc_Stretch_is_keepable : FnScope ["self"] ["self"] (defScope s_Stretch_is_keepable) := ⟨rfl, rfl, rfl, by decide +kernel, rfl, by decide +kernel, by decide +kernel⟩
theorem ln_Stretch_is_keepable {vs : List V} {H : Hp} {Q : VK} {E : XK} (h : sp_Stretch_is_keepable K A vs H Q E) : vs.length = 1 := by
  first | (obtain ⟨_, rfl, _⟩ := h; rfl) | (obtain ⟨_, _, rfl, _⟩ := h; rfl) | (obtain ⟨_, _, _, rfl, _⟩ := h; rfl) | (obtain ⟨_, _, _, _, rfl, _⟩ := h; rfl) | (obtain ⟨_, _, _, _, _, rfl, _⟩ := h; rfl) | (obtain ⟨_, _, _, _, _, _, rfl, _⟩ := h; rfl) | (obtain ⟨_, _, _, _, _, _, _, rfl, _⟩ := h; rfl) | (obtain ⟨_, _, _, _, _, _, _, _, rfl, _⟩ := h; rfl) | (obtain ⟨_, _, _, _, _, _, _, _, _, rfl, _⟩ := h; rfl) | (obtain ⟨_, _, _, _, _, _, _, _, _, _, rfl, _⟩ := h; rfl) | (obtain ⟨_, _, _, _, _, _, _, _, _, _, _, rfl, _⟩ := h; rfl) | (obtain ⟨_, _, _, _, _, _, _, _, _, _, _, _, rfl, _⟩ := h; rfl) | (obtain ⟨_, _, _, _, _, _, _, _, _, _, _, _, _, rfl, _⟩ := h; rfl) | (obtain ⟨_, _, _, _, _, _, _, _, _, _, _, _, _, _, rfl, _⟩ := h; rfl) | (obtain ⟨_, _, _, _, _, _, _, _, _, _, _, _, _, _, _, rfl, _⟩ := h; rfl) | (obtain ⟨_, _, _, _, _, _, _, _, _, _, _, _, _, _, _, _, rfl, _⟩ := h; rfl) | (obtain ⟨_, _, _, _, _, _, _, _, _, _, _, _, _, _, _, _, _, rfl, _⟩ := h; rfl) | (obtain ⟨_, _, _, _, _, _, _, _, _, _, _, _, _, _, _, _, _, _, rfl, _⟩ := h; rfl) | (obtain ⟨_, _, _, _, _, _, _, _, _, _, _, _, _, _, _, _, _, _, _, rfl, _⟩ := h; rfl)
theorem fn_Stretch_is_keepable {f : Addr} {fd : FuncData} (F : Fun K "is_keepable" "Stretch.is_keepable" s_Stretch_is_keepable f fd) (T : Txt mg A) (C : CT K A)  : FnOk P w K mg base CX0 1 f fd ["self"] (sp_Stretch_is_keepable K A) :=
  F.ok sc_Stretch_is_keepable (fun vs H Q E h => ln_Stretch_is_keepable h) (fun cdv Ar outer s H vs Q E hr h => ⟨t_Stretch_is_keepable K A, (pss_one (ps_ret (pe_cmp (pc_notN (pe_ix ix_list (pe_fld (pv 0) rfl) pe_int (fun _ _ => rfl)))))), rd_Stretch_is_keepable C h⟩)
theorem bi_Stretch_is_keepable {f : Addr} {fd : FuncData} (F : Fun K "is_keepable" "Stretch.is_keepable" s_Stretch_is_keepable f fd) : Binds K fd ["self"] [] := F.binds fun _ _ _ _ _ _ us hl => match us, hl with | [_], _ => rfl
abbrev s_law_is_integer : Stmt := topS 9
theorem sc_law_is_integer : FnScope ["actual"] ["actual"] (defScope s_law_is_integer) := ⟨rfl, rfl, rfl, by decide +kernel, rfl, by decide +kernel, by decide +kernel⟩
theorem ln_law_is_integer {vs : List V} {H : Hp} {Q : VK} {E : XK} (h : sp_law_is_integer K A vs H Q E) : vs.length = 1 := by
  first | (obtain ⟨_, rfl, _⟩ := h; rfl) | (obtain ⟨_, _, rfl, _⟩ := h; rfl) | (obtain ⟨_, _, _, rfl, _⟩ := h; rfl) | (obtain ⟨_, _, _, _, rfl, _⟩ := h; rfl) | (obtain ⟨_, _, _, _, _, rfl, _⟩ := h; rfl) | (obtain ⟨_, _, _, _, _, _, rfl, _⟩ := h; rfl) | (obtain ⟨_, _, _, _, _, _, _, rfl, _⟩ := h; rfl) | (obtain ⟨_, _, _, _, _, _, _, _, rfl, _⟩ := h; rfl) | (obtain ⟨_, _, _, _, _, _, _, _, _, rfl, _⟩ := h; rfl) | (obtain ⟨_, _, _, _, _, _, _, _, _, _, rfl, _⟩ := h; rfl) | (obtain ⟨_, _, _, _, _, _, _, _, _, _, _, rfl, _⟩ := h; rfl) | (obtain ⟨_, _, _, _, _, _, _, _, _, _, _, _, rfl, _⟩ := h; rfl) | (obtain ⟨_, _, _, _, _, _, _, _, _, _, _, _, _, rfl, _⟩ := h; rfl) | (obtain ⟨_, _, _, _, _, _, _, _, _, _, _, _, _, _, rfl, _⟩ := h; rfl) | (obtain ⟨_, _, _, _, _, _, _, _, _, _, _, _, _, _, _, rfl, _⟩ := h; rfl) | (obtain ⟨_, _, _, _, _, _, _, _, _, _, _, _, _, _, _, _, rfl, _⟩ := h; rfl) | (obtain ⟨_, _, _, _, _, _, _, _, _, _, _, _, _, _, _, _, _, rfl, _⟩ := h; rfl) | (obtain ⟨_, _, _, _, _, _, _, _, _, _, _, _, _, _, _, _, _, _, rfl, _⟩ := h; rfl) | (obtain ⟨_, _, _, _, _, _, _, _, _, _, _, _, _, _, _, _, _, _, _, rfl, _⟩ := h; rfl)
theorem fn_law_is_integer {f : Addr} {fd : FuncData} (F : Fun K "_law_is_integer" "_law_is_integer" s_law_is_integer f fd) (T : Txt mg A) (C : CT K A)  : FnOk P w K mg base CX0 1 f fd ["actual"] (sp_law_is_integer K A) :=
  F.ok sc_law_is_integer (fun vs H Q E h => ln_law_is_integer h) (fun cdv Ar outer s H vs Q E hr h => ⟨t_law_is_integer K A, (pss_one (ps_ret (pe_and (pe_callB call_isi (by rfl) T.b_isinstance (by decide +kernel) (pa_cons (pv 0) (pa_cons (pe_bltn (v := .ty "int") (by rfl) T.b_int (by decide +kernel) rfl) pa_nil))) (pe_one (pe_not (pe_callB call_isi (by rfl) T.b_isinstance (by decide +kernel) (pa_cons (pv 0) (pa_cons (pe_bltn (v := .ty "bool") (by rfl) T.b_bool (by decide +kernel) rfl) pa_nil)))))))), rd_law_is_integer h⟩)
theorem bi_law_is_integer {f : Addr} {fd : FuncData} (F : Fun K "_law_is_integer" "_law_is_integer" s_law_is_integer f fd) : Binds K fd ["actual"] [] := F.binds fun _ _ _ _ _ _ us hl => match us, hl with | [_], _ => rfl
theorem fnh_law_is_integer {f : Addr} {fd : FuncData} (F : Fun K "_law_is_integer" "_law_is_integer" s_law_is_integer f fd) (T : Txt mg A) : GX.FnG P w K mg base 1 f fd ["actual"] (fun _ _ _ => sp_law_is_integer K A) :=
  F.okG sc_law_is_integer (fun a c d vs H Q h => ln_law_is_integer h) (fun cdv Ar outer s H vs Q p hp h => ⟨t_law_is_integer K A, (pss_one (ps_ret (pe_and (pe_callB call_isi (by rfl) T.b_isinstance (by decide +kernel) (pa_cons (pv 0) (pa_cons (pe_bltn (v := .ty "int") (by rfl) T.b_int (by decide +kernel) rfl) pa_nil))) (pe_one (pe_not (pe_callB call_isi (by rfl) T.b_isinstance (by decide +kernel) (pa_cons (pv 0) (pa_cons (pe_bltn (v := .ty "bool") (by rfl) T.b_bool (by decide +kernel) rfl) pa_nil)))))))), rd_law_is_integer h⟩)
abbrev s_law_bag : Stmt := topS 10
theorem sc_law_bag : FnScope ["script", "k", "cell"] ["script", "k"] (defScope s_law_bag) := ⟨rfl, rfl, rfl, by decide +kernel, rfl, by decide +kernel, by decide +kernel⟩
theorem ln_law_bag {vs : List V} {H : Hp} {Q : VK} {E : XK} (h : sp_law_bag K A vs H Q E) : vs.length = 2 := by
  first | (obtain ⟨_, rfl, _⟩ := h; rfl) | (obtain ⟨_, _, rfl, _⟩ := h; rfl) | (obtain ⟨_, _, _, rfl, _⟩ := h; rfl) | (obtain ⟨_, _, _, _, rfl, _⟩ := h; rfl) | (obtain ⟨_, _, _, _, _, rfl, _⟩ := h; rfl) | (obtain ⟨_, _, _, _, _, _, rfl, _⟩ := h; rfl) | (obtain ⟨_, _, _, _, _, _, _, rfl, _⟩ := h; rfl) | (obtain ⟨_, _, _, _, _, _, _, _, rfl, _⟩ := h; rfl) | (obtain ⟨_, _, _, _, _, _, _, _, _, rfl, _⟩ := h; rfl) | (obtain ⟨_, _, _, _, _, _, _, _, _, _, rfl, _⟩ := h; rfl) | (obtain ⟨_, _, _, _, _, _, _, _, _, _, _, rfl, _⟩ := h; rfl) | (obtain ⟨_, _, _, _, _, _, _, _, _, _, _, _, rfl, _⟩ := h; rfl) | (obtain ⟨_, _, _, _, _, _, _, _, _, _, _, _, _, rfl, _⟩ := h; rfl) | (obtain ⟨_, _, _, _, _, _, _, _, _, _, _, _, _, _, rfl, _⟩ := h; rfl) | (obtain ⟨_, _, _, _, _, _, _, _, _, _, _, _, _, _, _, rfl, _⟩ := h; rfl) | (obtain ⟨_, _, _, _, _, _, _, _, _, _, _, _, _, _, _, _, rfl, _⟩ := h; rfl) | (obtain ⟨_, _, _, _, _, _, _, _, _, _, _, _, _, _, _, _, _, rfl, _⟩ := h; rfl) | (obtain ⟨_, _, _, _, _, _, _, _, _, _, _, _, _, _, _, _, _, _, rfl, _⟩ := h; rfl) | (obtain ⟨_, _, _, _, _, _, _, _, _, _, _, _, _, _, _, _, _, _, _, rfl, _⟩ := h; rfl)
theorem fn_law_bag {f : Addr} {fd : FuncData} (F : Fun K "_law_bag" "_law_bag" s_law_bag f fd) (T : Txt mg A) (C : CT K A)  : FnOk P w K mg base CX0 1 f fd ["script", "k"] (sp_law_bag K A) :=
  F.ok sc_law_bag (fun vs H Q E h => ln_law_bag h) (fun cdv Ar outer s H vs Q E hr h => ⟨t_law_bag K A, (pss_cons (ps_set (i := 2) sc_law_bag.nd rfl (by first | exact Or.inl rfl | exact Or.inr rfl) (pe_op op_add pe_int (pe_op op_mul pe_int (pv 1))))
  (pss_cons (ps_if (pt_cmpR op_lt (pv 1) (pe_callB call_len_seq (by rfl) T.b_len (by decide +kernel) (pa_cons (pv 0) pa_nil)) (nomark _)) (pss_one (ps_set (i := 2) sc_law_bag.nd rfl (by first | exact Or.inl rfl | exact Or.inr rfl) (pe_ix ix_list (pv 0) (pv 1) (fun _ _ => rfl)))) (pss_one (ps_if (pt_truth (pv 0) (by intro _; rfl)) (pss_one (ps_set (i := 2) sc_law_bag.nd rfl (by first | exact Or.inl rfl | exact Or.inr rfl) (pe_op op_add (pv 2) (pe_op op_mod (pe_callTy call_int1 (by rfl) T.b_int (by decide +kernel) (pa_cons (pe_op op_mul (pe_ix ix_list (pv 0) pe_int (fun _ _ => rfl)) pe_int) pa_nil)) pe_int)))) pss_nil)))
  (pss_cons (ps_if (pt_cmpR op_ge (pe_callB call_abs (by rfl) T.b_abs (by decide +kernel) (pa_cons (pv 2) pa_nil)) (pe_op op_pow pe_int pe_int) (nomark _)) (pss_one (ps_ret (pe_lst (pa_cons (pe_callB call_abs (by rfl) T.b_abs (by decide +kernel) (pa_cons (pv 2) pa_nil)) (pa_cons (pv 2) (pa_cons pe_int (pa_cons (pv 1) pa_nil))))))) pss_nil)
  (pss_one (ps_ret (pe_lst (pa_cons pe_int (pa_cons (pv 2) (pa_cons pe_int (pa_cons (pv 1) pa_nil)))))))))), rd_law_bag h⟩)
theorem bi_law_bag {f : Addr} {fd : FuncData} (F : Fun K "_law_bag" "_law_bag" s_law_bag f fd) : Binds K fd ["script", "k"] [] := F.binds fun _ _ _ _ _ _ us hl => match us, hl with | [_, _], _ => rfl
abbrev s_law_take : Stmt := topS 11
theorem sc_law_take : FnScope ["bag", "size", "digit", "first", "second", "third"] ["bag", "size"] (defScope s_law_take) := ⟨rfl, rfl, rfl, by decide +kernel, rfl, by decide +kernel, by decide +kernel⟩
theorem ln_law_take {vs : List V} {H : Hp} {Q : VK} {E : XK} (h : sp_law_take K A vs H Q E) : vs.length = 2 := by
  first | (obtain ⟨_, rfl, _⟩ := h; rfl) | (obtain ⟨_, _, rfl, _⟩ := h; rfl) | (obtain ⟨_, _, _, rfl, _⟩ := h; rfl) | (obtain ⟨_, _, _, _, rfl, _⟩ := h; rfl) | (obtain ⟨_, _, _, _, _, rfl, _⟩ := h; rfl) | (obtain ⟨_, _, _, _, _, _, rfl, _⟩ := h; rfl) | (obtain ⟨_, _, _, _, _, _, _, rfl, _⟩ := h; rfl) | (obtain ⟨_, _, _, _, _, _, _, _, rfl, _⟩ := h; rfl) | (obtain ⟨_, _, _, _, _, _, _, _, _, rfl, _⟩ := h; rfl) | (obtain ⟨_, _, _, _, _, _, _, _, _, _, rfl, _⟩ := h; rfl) | (obtain ⟨_, _, _, _, _, _, _, _, _, _, _, rfl, _⟩ := h; rfl) | (obtain ⟨_, _, _, _, _, _, _, _, _, _, _, _, rfl, _⟩ := h; rfl) | (obtain ⟨_, _, _, _, _, _, _, _, _, _, _, _, _, rfl, _⟩ := h; rfl) | (obtain ⟨_, _, _, _, _, _, _, _, _, _, _, _, _, _, rfl, _⟩ := h; rfl) | (obtain ⟨_, _, _, _, _, _, _, _, _, _, _, _, _, _, _, rfl, _⟩ := h; rfl) | (obtain ⟨_, _, _, _, _, _, _, _, _, _, _, _, _, _, _, _, rfl, _⟩ := h; rfl) | (obtain ⟨_, _, _, _, _, _, _, _, _, _, _, _, _, _, _, _, _, rfl, _⟩ := h; rfl) | (obtain ⟨_, _, _, _, _, _, _, _, _, _, _, _, _, _, _, _, _, _, rfl, _⟩ := h; rfl) | (obtain ⟨_, _, _, _, _, _, _, _, _, _, _, _, _, _, _, _, _, _, _, rfl, _⟩ := h; rfl)
theorem fn_law_take {f : Addr} {fd : FuncData} (F : Fun K "_law_take" "_law_take" s_law_take f fd) (T : Txt mg A) (C : CT K A)  : FnOk P w K mg base CX0 1 f fd ["bag", "size"] (sp_law_take K A) :=
  F.ok sc_law_take (fun vs H Q E h => ln_law_take h) (fun cdv Ar outer s H vs Q E hr h => ⟨t_law_take K A, (pss_cons (ps_asg (pe_op op_add (pe_ix ix_list (pv 0) pe_int (fun _ _ => rfl)) pe_int) (pg_sub (pv 0) pe_int set_list))
  (pss_cons (ps_if (pt_cmpR op_gt (pe_ix ix_list (pv 0) pe_int (fun _ _ => rfl)) pe_int (nomark _)) (pss_cons (ps_set (i := 2) sc_law_take.nd rfl (by first | exact Or.inl rfl | exact Or.inr rfl) (pe_op op_mod (pe_callTy call_int1 (by rfl) T.b_int (by decide +kernel) (pa_cons (pe_ix ix_list (pv 0) pe_int (fun _ _ => rfl)) pa_nil)) (pv 1)))
  (pss_cons (ps_asg (pe_op op_fdiv (pe_ix ix_list (pv 0) pe_int (fun _ _ => rfl)) (pv 1)) (pg_sub (pv 0) pe_int set_list))
  (pss_one (ps_ret (pv 2))))) pss_nil)
  (pss_cons (ps_set (i := 3) sc_law_take.nd rfl (by first | exact Or.inl rfl | exact Or.inr rfl) (pe_op op_mod (pe_callTy call_int1 (by rfl) T.b_int (by decide +kernel) (pa_cons (pe_op op_add (pe_op op_add (pe_op op_add (pe_op op_mul (pe_ix ix_list (pv 0) pe_int (fun _ _ => rfl)) pe_int) (pe_op op_mul (pe_ix ix_list (pv 0) pe_int (fun _ _ => rfl)) pe_int)) (pe_op op_mul (pe_ix ix_list (pv 0) pe_int (fun _ _ => rfl)) pe_int)) pe_int) pa_nil)) pe_int))
  (pss_cons (ps_set (i := 4) sc_law_take.nd rfl (by first | exact Or.inl rfl | exact Or.inr rfl) (pe_op op_mod (pe_callTy call_int1 (by rfl) T.b_int (by decide +kernel) (pa_cons (pe_op op_add (pe_op op_add (pe_op op_mul (pv 3) (pv 3)) (pe_op op_mul (pe_ix ix_list (pv 0) pe_int (fun _ _ => rfl)) pe_int)) (pe_ix ix_list (pv 0) pe_int (fun _ _ => rfl))) pa_nil)) pe_int))
  (pss_cons (ps_set (i := 5) sc_law_take.nd rfl (by first | exact Or.inl rfl | exact Or.inr rfl) (pe_op op_mod (pe_callTy call_int1 (by rfl) T.b_int (by decide +kernel) (pa_cons (pe_op op_add (pe_op op_mul (pv 4) (pv 4)) (pv 3)) pa_nil)) pe_int))
  (pss_one (ps_ret (pe_op op_mod (pe_op op_fdiv (pv 5) pe_int) (pv 1))))))))), rd_law_take h⟩)
theorem bi_law_take {f : Addr} {fd : FuncData} (F : Fun K "_law_take" "_law_take" s_law_take f fd) : Binds K fd ["bag", "size"] [] := F.binds fun _ _ _ _ _ _ us hl => match us, hl with | [_, _], _ => rfl
abbrev s_law_copies : Stmt := topS 12
theorem sc_law_copies : FnScope ["bag"] ["bag"] (defScope s_law_copies) := ⟨rfl, rfl, rfl, by decide +kernel, rfl, by decide +kernel, by decide +kernel⟩
theorem ln_law_copies {vs : List V} {H : Hp} {Q : VK} {E : XK} (h : sp_law_copies K A vs H Q E) : vs.length = 1 := by
  first | (obtain ⟨_, rfl, _⟩ := h; rfl) | (obtain ⟨_, _, rfl, _⟩ := h; rfl) | (obtain ⟨_, _, _, rfl, _⟩ := h; rfl) | (obtain ⟨_, _, _, _, rfl, _⟩ := h; rfl) | (obtain ⟨_, _, _, _, _, rfl, _⟩ := h; rfl) | (obtain ⟨_, _, _, _, _, _, rfl, _⟩ := h; rfl) | (obtain ⟨_, _, _, _, _, _, _, rfl, _⟩ := h; rfl) | (obtain ⟨_, _, _, _, _, _, _, _, rfl, _⟩ := h; rfl) | (obtain ⟨_, _, _, _, _, _, _, _, _, rfl, _⟩ := h; rfl) | (obtain ⟨_, _, _, _, _, _, _, _, _, _, rfl, _⟩ := h; rfl) | (obtain ⟨_, _, _, _, _, _, _, _, _, _, _, rfl, _⟩ := h; rfl) | (obtain ⟨_, _, _, _, _, _, _, _, _, _, _, _, rfl, _⟩ := h; rfl) | (obtain ⟨_, _, _, _, _, _, _, _, _, _, _, _, _, rfl, _⟩ := h; rfl) | (obtain ⟨_, _, _, _, _, _, _, _, _, _, _, _, _, _, rfl, _⟩ := h; rfl) | (obtain ⟨_, _, _, _, _, _, _, _, _, _, _, _, _, _, _, rfl, _⟩ := h; rfl) | (obtain ⟨_, _, _, _, _, _, _, _, _, _, _, _, _, _, _, _, rfl, _⟩ := h; rfl) | (obtain ⟨_, _, _, _, _, _, _, _, _, _, _, _, _, _, _, _, _, rfl, _⟩ := h; rfl) | (obtain ⟨_, _, _, _, _, _, _, _, _, _, _, _, _, _, _, _, _, _, rfl, _⟩ := h; rfl) | (obtain ⟨_, _, _, _, _, _, _, _, _, _, _, _, _, _, _, _, _, _, _, rfl, _⟩ := h; rfl)
theorem fn_law_copies {f : Addr} {fd : FuncData} (F : Fun K "_law_copies" "_law_copies" s_law_copies f fd) (T : Txt mg A) (C : CT K A) (C_law_take : C8.Cal P w K mg base 1 "_law_take" (sp_law_take K A) []) : FnOk P w K mg base CX0 2 f fd ["bag"] (sp_law_copies K A) :=
  F.ok sc_law_copies (fun vs H Q E h => ln_law_copies h) (fun cdv Ar outer s H vs Q E hr h => ⟨t_law_copies K A, (pss_cons (ps_if (pt_cmpR op_eq (C8.pe_c C_law_take hr (by decide) (by rfl) (pa_cons (pv 0) (pa_cons pe_int pa_nil))) pe_int (nomark _)) (pss_one (ps_ret (pe_op op_add pe_int (C8.pe_c C_law_take hr (by decide) (by rfl) (pa_cons (pv 0) (pa_cons pe_int pa_nil)))))) pss_nil)
  (pss_one (ps_ret (pe_op op_add pe_int (C8.pe_c C_law_take hr (by decide) (by rfl) (pa_cons (pv 0) (pa_cons pe_int pa_nil))))))), rd_law_copies h⟩)
theorem bi_law_copies {f : Addr} {fd : FuncData} (F : Fun K "_law_copies" "_law_copies" s_law_copies f fd) : Binds K fd ["bag"] [] := F.binds fun _ _ _ _ _ _ us hl => match us, hl with | [_], _ => rfl
abbrev s_law_page : Stmt := topS 13
theorem sc_law_page : FnScope ["bag", "way"] ["bag"] (defScope s_law_page) := ⟨rfl, rfl, rfl, by decide +kernel, rfl, by decide +kernel, by decide +kernel⟩
theorem ln_law_page {vs : List V} {H : Hp} {Q : VK} {E : XK} (h : sp_law_page K A vs H Q E) : vs.length = 1 := by
  first | (obtain ⟨_, rfl, _⟩ := h; rfl) | (obtain ⟨_, _, rfl, _⟩ := h; rfl) | (obtain ⟨_, _, _, rfl, _⟩ := h; rfl) | (obtain ⟨_, _, _, _, rfl, _⟩ := h; rfl) | (obtain ⟨_, _, _, _, _, rfl, _⟩ := h; rfl) | (obtain ⟨_, _, _, _, _, _, rfl, _⟩ := h; rfl) | (obtain ⟨_, _, _, _, _, _, _, rfl, _⟩ := h; rfl) | (obtain ⟨_, _, _, _, _, _, _, _, rfl, _⟩ := h; rfl) | (obtain ⟨_, _, _, _, _, _, _, _, _, rfl, _⟩ := h; rfl) | (obtain ⟨_, _, _, _, _, _, _, _, _, _, rfl, _⟩ := h; rfl) | (obtain ⟨_, _, _, _, _, _, _, _, _, _, _, rfl, _⟩ := h; rfl) | (obtain ⟨_, _, _, _, _, _, _, _, _, _, _, _, rfl, _⟩ := h; rfl) | (obtain ⟨_, _, _, _, _, _, _, _, _, _, _, _, _, rfl, _⟩ := h; rfl) | (obtain ⟨_, _, _, _, _, _, _, _, _, _, _, _, _, _, rfl, _⟩ := h; rfl) | (obtain ⟨_, _, _, _, _, _, _, _, _, _, _, _, _, _, _, rfl, _⟩ := h; rfl) | (obtain ⟨_, _, _, _, _, _, _, _, _, _, _, _, _, _, _, _, rfl, _⟩ := h; rfl) | (obtain ⟨_, _, _, _, _, _, _, _, _, _, _, _, _, _, _, _, _, rfl, _⟩ := h; rfl) | (obtain ⟨_, _, _, _, _, _, _, _, _, _, _, _, _, _, _, _, _, _, rfl, _⟩ := h; rfl) | (obtain ⟨_, _, _, _, _, _, _, _, _, _, _, _, _, _, _, _, _, _, _, rfl, _⟩ := h; rfl)
theorem fn_law_page {f : Addr} {fd : FuncData} (F : Fun K "_law_page" "_law_page" s_law_page f fd) (T : Txt mg A) (C : CT K A) (C_law_take : C8.Cal P w K mg base 1 "_law_take" (sp_law_take K A) []) : FnOk P w K mg base CX0 2 f fd ["bag"] (sp_law_page K A) :=
  F.ok sc_law_page (fun vs H Q E h => ln_law_page h) (fun cdv Ar outer s H vs Q E hr h => ⟨t_law_page K A, (pss_cons (ps_set (i := 1) sc_law_page.nd rfl (by first | exact Or.inl rfl | exact Or.inr rfl) (C8.pe_c C_law_take hr (by decide) (by rfl) (pa_cons (pv 0) (pa_cons pe_int pa_nil))))
  (pss_cons (ps_if (pt_cmpR op_lt (pv 1) pe_int (nomark _)) (pss_one (ps_ret pe_int)) pss_nil)
  (pss_cons (ps_if (pt_cmpR op_lt (pv 1) pe_int (nomark _)) (pss_one (ps_ret pe_int)) pss_nil)
  (pss_cons (ps_if (pt_cmpR op_eq (pv 1) pe_int (nomark _)) (pss_one (ps_ret (pe_op op_add pe_int (C8.pe_c C_law_take hr (by decide) (by rfl) (pa_cons (pv 0) (pa_cons pe_int pa_nil)))))) pss_nil)
  (pss_one (ps_ret (C8.pe_c C_law_take hr (by decide) (by rfl) (pa_cons (pv 0) (pa_cons pe_int pa_nil))))))))), rd_law_page h⟩)
theorem bi_law_page {f : Addr} {fd : FuncData} (F : Fun K "_law_page" "_law_page" s_law_page f fd) : Binds K fd ["bag"] [] := F.binds fun _ _ _ _ _ _ us hl => match us, hl with | [_], _ => rfl
abbrev s_law_pages : Stmt := topS 14
theorem sc_law_pages : FnScope ["bag", "pattern", "place"] ["bag"] (defScope s_law_pages) := ⟨rfl, rfl, rfl, by decide +kernel, rfl, by decide +kernel, by decide +kernel⟩
theorem ln_law_pages {vs : List V} {H : Hp} {Q : VK} {E : XK} (h : sp_law_pages K A vs H Q E) : vs.length = 1 := by
  first | (obtain ⟨_, rfl, _⟩ := h; rfl) | (obtain ⟨_, _, rfl, _⟩ := h; rfl) | (obtain ⟨_, _, _, rfl, _⟩ := h; rfl) | (obtain ⟨_, _, _, _, rfl, _⟩ := h; rfl) | (obtain ⟨_, _, _, _, _, rfl, _⟩ := h; rfl) | (obtain ⟨_, _, _, _, _, _, rfl, _⟩ := h; rfl) | (obtain ⟨_, _, _, _, _, _, _, rfl, _⟩ := h; rfl) | (obtain ⟨_, _, _, _, _, _, _, _, rfl, _⟩ := h; rfl) | (obtain ⟨_, _, _, _, _, _, _, _, _, rfl, _⟩ := h; rfl) | (obtain ⟨_, _, _, _, _, _, _, _, _, _, rfl, _⟩ := h; rfl) | (obtain ⟨_, _, _, _, _, _, _, _, _, _, _, rfl, _⟩ := h; rfl) | (obtain ⟨_, _, _, _, _, _, _, _, _, _, _, _, rfl, _⟩ := h; rfl) | (obtain ⟨_, _, _, _, _, _, _, _, _, _, _, _, _, rfl, _⟩ := h; rfl) | (obtain ⟨_, _, _, _, _, _, _, _, _, _, _, _, _, _, rfl, _⟩ := h; rfl) | (obtain ⟨_, _, _, _, _, _, _, _, _, _, _, _, _, _, _, rfl, _⟩ := h; rfl) | (obtain ⟨_, _, _, _, _, _, _, _, _, _, _, _, _, _, _, _, rfl, _⟩ := h; rfl) | (obtain ⟨_, _, _, _, _, _, _, _, _, _, _, _, _, _, _, _, _, rfl, _⟩ := h; rfl) | (obtain ⟨_, _, _, _, _, _, _, _, _, _, _, _, _, _, _, _, _, _, rfl, _⟩ := h; rfl) | (obtain ⟨_, _, _, _, _, _, _, _, _, _, _, _, _, _, _, _, _, _, _, rfl, _⟩ := h; rfl)
theorem fn_law_pages {f : Addr} {fd : FuncData} (F : Fun K "_law_pages" "_law_pages" s_law_pages f fd) (T : Txt mg A) (C : CT K A) (C_law_page : C8.Cal P w K mg base 2 "_law_page" (sp_law_page K A) []) (C_law_take : C8.Cal P w K mg base 1 "_law_take" (sp_law_take K A) []) : FnOk P w K mg base CX0 3 f fd ["bag"] (sp_law_pages K A) :=
  F.ok sc_law_pages (fun vs H Q E h => ln_law_pages h) (fun cdv Ar outer s H vs Q E hr h => ⟨t_law_pages K A, (pss_cons (ps_if (pt_cmpR op_eq (C8.pe_c C_law_take hr (by decide) (by rfl) (pa_cons (pv 0) (pa_cons pe_int pa_nil))) pe_int (nomark _)) (pss_cons (ps_setLc (i := 1) (own := [("place", 2)]) (g := (gName 2)) (tt := tYes) rfl sc_law_pages.nd rfl rfl (sw_true rfl rfl rfl (by decide +kernel)) (pi_range1 (by rfl) T.b_range (pa_cons (pe_op op_add pe_int (C8.pe_c C_law_take hr (by decide) (by rfl) (pa_cons (pv 0) (pa_cons pe_int pa_nil)))) pa_nil)) (blkOk_by (own := [("place", 2)]) (N := ["bag", "pattern", "place"]) (sc := defScope s_law_pages) (by decide +kernel)) (fun _ _ _ _ _ => (pg_name (i := 2) sc_law_pages.nd rfl (by first | exact Or.inl rfl | exact Or.inr rfl))) (fun _ _ _ _ _ => pts_nil) (fun _ _ _ _ _ => (C8.pe_c C_law_page hr (by decide) (by rfl) (pa_cons (pv 0) pa_nil))))
  (pss_one (ps_ret (pe_op op_rep (pv 1) (pe_op op_add pe_int (C8.pe_c C_law_take hr (by decide) (by rfl) (pa_cons (pv 0) (pa_cons pe_int pa_nil)))))))) pss_nil)
  (pss_one (ps_ret (pe_lc (own := [("place", 2)]) (g := (gName 2)) (tt := tYes) rfl sc_law_pages.nd (pi_range1 (by rfl) T.b_range (pa_cons (C8.pe_c C_law_take hr (by decide) (by rfl) (pa_cons (pv 0) (pa_cons pe_int pa_nil))) pa_nil)) (blkOk_by (own := [("place", 2)]) (N := ["bag", "pattern", "place"]) (sc := defScope s_law_pages) (by decide +kernel)) (fun _ _ _ _ _ => (pg_name (i := 2) sc_law_pages.nd rfl (by first | exact Or.inl rfl | exact Or.inr rfl))) (fun _ _ _ _ _ => pts_nil) (fun _ _ _ _ _ => (C8.pe_c C_law_page hr (by decide) (by rfl) (pa_cons (pv 0) pa_nil))))))), rd_law_pages h⟩)
theorem bi_law_pages {f : Addr} {fd : FuncData} (F : Fun K "_law_pages" "_law_pages" s_law_pages f fd) : Binds K fd ["bag"] [] := F.binds fun _ _ _ _ _ _ us hl => match us, hl with | [_], _ => rfl
abbrev s_law_height : Stmt := topS 15
theorem sc_law_height : FnScope ["count", "below", "copies"] ["count", "below", "copies"] (defScope s_law_height) := ⟨rfl, rfl, rfl, by decide +kernel, rfl, by decide +kernel, by decide +kernel⟩
theorem ln_law_height {vs : List V} {H : Hp} {Q : VK} {E : XK} (h : sp_law_height K A vs H Q E) : vs.length = 3 := by
  first | (obtain ⟨_, rfl, _⟩ := h; rfl) | (obtain ⟨_, _, rfl, _⟩ := h; rfl) | (obtain ⟨_, _, _, rfl, _⟩ := h; rfl) | (obtain ⟨_, _, _, _, rfl, _⟩ := h; rfl) | (obtain ⟨_, _, _, _, _, rfl, _⟩ := h; rfl) | (obtain ⟨_, _, _, _, _, _, rfl, _⟩ := h; rfl) | (obtain ⟨_, _, _, _, _, _, _, rfl, _⟩ := h; rfl) | (obtain ⟨_, _, _, _, _, _, _, _, rfl, _⟩ := h; rfl) | (obtain ⟨_, _, _, _, _, _, _, _, _, rfl, _⟩ := h; rfl) | (obtain ⟨_, _, _, _, _, _, _, _, _, _, rfl, _⟩ := h; rfl) | (obtain ⟨_, _, _, _, _, _, _, _, _, _, _, rfl, _⟩ := h; rfl) | (obtain ⟨_, _, _, _, _, _, _, _, _, _, _, _, rfl, _⟩ := h; rfl) | (obtain ⟨_, _, _, _, _, _, _, _, _, _, _, _, _, rfl, _⟩ := h; rfl) | (obtain ⟨_, _, _, _, _, _, _, _, _, _, _, _, _, _, rfl, _⟩ := h; rfl) | (obtain ⟨_, _, _, _, _, _, _, _, _, _, _, _, _, _, _, rfl, _⟩ := h; rfl) | (obtain ⟨_, _, _, _, _, _, _, _, _, _, _, _, _, _, _, _, rfl, _⟩ := h; rfl) | (obtain ⟨_, _, _, _, _, _, _, _, _, _, _, _, _, _, _, _, _, rfl, _⟩ := h; rfl) | (obtain ⟨_, _, _, _, _, _, _, _, _, _, _, _, _, _, _, _, _, _, rfl, _⟩ := h; rfl) | (obtain ⟨_, _, _, _, _, _, _, _, _, _, _, _, _, _, _, _, _, _, _, rfl, _⟩ := h; rfl)
theorem fn_law_height {f : Addr} {fd : FuncData} (F : Fun K "_law_height" "_law_height" s_law_height f fd) (T : Txt mg A) (C : CT K A)  : FnOk P w K mg base CX0 1 f fd ["count", "below", "copies"] (sp_law_height K A) :=
  F.ok sc_law_height (fun vs H Q E h => ln_law_height h) (fun cdv Ar outer s H vs Q E hr h => ⟨t_law_height K A, (pss_cons (ps_if (pt_cmpR op_ge (pv 0) pe_int (nomark _)) (pss_one (ps_ret pe_int)) pss_nil)
  (pss_cons (ps_if (pt_cmpR op_eq (pv 0) pe_int (nomark _)) (pss_one (ps_ret (pe_callTy call_int1 (by rfl) T.b_int (by decide +kernel) (pa_cons (pe_cmpR op_ge (pv 1) (pv 2) (nomark _)) pa_nil)))) pss_nil)
  (pss_one (ps_ret (pe_op op_add (pv 1) pe_int))))), rd_law_height h⟩)
theorem bi_law_height {f : Addr} {fd : FuncData} (F : Fun K "_law_height" "_law_height" s_law_height f fd) : Binds K fd ["count", "below", "copies"] [] := F.binds fun _ _ _ _ _ _ us hl => match us, hl with | [_, _, _], _ => rfl
abbrev s_law_rise : Stmt := topS 16
theorem sc_law_rise : FnScope ["blank", "below", "copies", "height", "count"] ["blank", "below", "copies"] (defScope s_law_rise) := ⟨rfl, rfl, rfl, by decide +kernel, rfl, by decide +kernel, by decide +kernel⟩
theorem ln_law_rise {vs : List V} {H : Hp} {Q : VK} {E : XK} (h : sp_law_rise K A vs H Q E) : vs.length = 3 := by
  first | (obtain ⟨_, rfl, _⟩ := h; rfl) | (obtain ⟨_, _, rfl, _⟩ := h; rfl) | (obtain ⟨_, _, _, rfl, _⟩ := h; rfl) | (obtain ⟨_, _, _, _, rfl, _⟩ := h; rfl) | (obtain ⟨_, _, _, _, _, rfl, _⟩ := h; rfl) | (obtain ⟨_, _, _, _, _, _, rfl, _⟩ := h; rfl) | (obtain ⟨_, _, _, _, _, _, _, rfl, _⟩ := h; rfl) | (obtain ⟨_, _, _, _, _, _, _, _, rfl, _⟩ := h; rfl) | (obtain ⟨_, _, _, _, _, _, _, _, _, rfl, _⟩ := h; rfl) | (obtain ⟨_, _, _, _, _, _, _, _, _, _, rfl, _⟩ := h; rfl) | (obtain ⟨_, _, _, _, _, _, _, _, _, _, _, rfl, _⟩ := h; rfl) | (obtain ⟨_, _, _, _, _, _, _, _, _, _, _, _, rfl, _⟩ := h; rfl) | (obtain ⟨_, _, _, _, _, _, _, _, _, _, _, _, _, rfl, _⟩ := h; rfl) | (obtain ⟨_, _, _, _, _, _, _, _, _, _, _, _, _, _, rfl, _⟩ := h; rfl) | (obtain ⟨_, _, _, _, _, _, _, _, _, _, _, _, _, _, _, rfl, _⟩ := h; rfl) | (obtain ⟨_, _, _, _, _, _, _, _, _, _, _, _, _, _, _, _, rfl, _⟩ := h; rfl) | (obtain ⟨_, _, _, _, _, _, _, _, _, _, _, _, _, _, _, _, _, rfl, _⟩ := h; rfl) | (obtain ⟨_, _, _, _, _, _, _, _, _, _, _, _, _, _, _, _, _, _, rfl, _⟩ := h; rfl) | (obtain ⟨_, _, _, _, _, _, _, _, _, _, _, _, _, _, _, _, _, _, _, rfl, _⟩ := h; rfl)
theorem fn_law_rise {f : Addr} {fd : FuncData} (F : Fun K "_law_rise" "_law_rise" s_law_rise f fd) (T : Txt mg A) (C : CT K A) (C_law_height : C8.Cal P w K mg base 1 "_law_height" (sp_law_height K A) []) : FnOk P w K mg base CX0 2 f fd ["blank", "below", "copies"] (sp_law_rise K A) :=
  F.ok sc_law_rise (fun vs H Q E h => ln_law_rise h) (fun cdv Ar outer s H vs Q E hr h => ⟨t_law_rise K A, (pss_cons (ps_set (i := 3) sc_law_rise.nd rfl (by first | exact Or.inl rfl | exact Or.inr rfl) (pv 1))
  (pss_cons (ps_for PassesOwn.never rfl (pi_list (pe_revL (pv 0))) (pg_name (i := 4) sc_law_rise.nd rfl (by first | exact Or.inl rfl | exact Or.inr rfl))
  (pss_cons (ps_set (i := 3) sc_law_rise.nd rfl (by first | exact Or.inl rfl | exact Or.inr rfl) (C8.pe_c C_law_height hr (by decide) (by rfl) (pa_cons (pv 4) (pa_cons (pv 3) (pa_cons (pv 2) pa_nil)))))
  (pss_one (ps_if (pt_cmpR op_gt (pv 3) (pv 2) (nomark _)) (pss_one (ps_ret pe_non)) pss_nil))))
  (pss_one (ps_ret (pv 3))))), rd_law_rise h⟩)
theorem bi_law_rise {f : Addr} {fd : FuncData} (F : Fun K "_law_rise" "_law_rise" s_law_rise f fd) : Binds K fd ["blank", "below", "copies"] [] := F.binds fun _ _ _ _ _ _ us hl => match us, hl with | [_, _, _], _ => rfl
abbrev s_law_lift : Stmt := topS 17
theorem sc_law_lift : FnScope ["blank", "copies", "below"] ["blank", "copies"] (defScope s_law_lift) := ⟨rfl, rfl, rfl, by decide +kernel, rfl, by decide +kernel, by decide +kernel⟩
theorem ln_law_lift {vs : List V} {H : Hp} {Q : VK} {E : XK} (h : sp_law_lift K A vs H Q E) : vs.length = 2 := by
  first | (obtain ⟨_, rfl, _⟩ := h; rfl) | (obtain ⟨_, _, rfl, _⟩ := h; rfl) | (obtain ⟨_, _, _, rfl, _⟩ := h; rfl) | (obtain ⟨_, _, _, _, rfl, _⟩ := h; rfl) | (obtain ⟨_, _, _, _, _, rfl, _⟩ := h; rfl) | (obtain ⟨_, _, _, _, _, _, rfl, _⟩ := h; rfl) | (obtain ⟨_, _, _, _, _, _, _, rfl, _⟩ := h; rfl) | (obtain ⟨_, _, _, _, _, _, _, _, rfl, _⟩ := h; rfl) | (obtain ⟨_, _, _, _, _, _, _, _, _, rfl, _⟩ := h; rfl) | (obtain ⟨_, _, _, _, _, _, _, _, _, _, rfl, _⟩ := h; rfl) | (obtain ⟨_, _, _, _, _, _, _, _, _, _, _, rfl, _⟩ := h; rfl) | (obtain ⟨_, _, _, _, _, _, _, _, _, _, _, _, rfl, _⟩ := h; rfl) | (obtain ⟨_, _, _, _, _, _, _, _, _, _, _, _, _, rfl, _⟩ := h; rfl) | (obtain ⟨_, _, _, _, _, _, _, _, _, _, _, _, _, _, rfl, _⟩ := h; rfl) | (obtain ⟨_, _, _, _, _, _, _, _, _, _, _, _, _, _, _, rfl, _⟩ := h; rfl) | (obtain ⟨_, _, _, _, _, _, _, _, _, _, _, _, _, _, _, _, rfl, _⟩ := h; rfl) | (obtain ⟨_, _, _, _, _, _, _, _, _, _, _, _, _, _, _, _, _, rfl, _⟩ := h; rfl) | (obtain ⟨_, _, _, _, _, _, _, _, _, _, _, _, _, _, _, _, _, _, rfl, _⟩ := h; rfl) | (obtain ⟨_, _, _, _, _, _, _, _, _, _, _, _, _, _, _, _, _, _, _, rfl, _⟩ := h; rfl)
theorem fn_law_lift {f : Addr} {fd : FuncData} (F : Fun K "_law_lift" "_law_lift" s_law_lift f fd) (T : Txt mg A) (C : CT K A) (C_law_rise : C8.Cal P w K mg base 2 "_law_rise" (sp_law_rise K A) []) : FnOk P w K mg base CX0 3 f fd ["blank", "copies"] (sp_law_lift K A) :=
  F.ok sc_law_lift (fun vs H Q E h => ln_law_lift h) (fun cdv Ar outer s H vs Q E hr h => ⟨t_law_lift K A, (pss_one (ps_ret (pe_lc (own := [("below", 2)]) (g := (gName 2)) (tt := tYes) rfl sc_law_lift.nd (pi_range1 (by rfl) T.b_range (pa_cons (pe_op op_add (pv 1) pe_int) pa_nil)) (blkOk_by (own := [("below", 2)]) (N := ["blank", "copies", "below"]) (sc := defScope s_law_lift) (by decide +kernel)) (fun _ _ _ _ _ => (pg_name (i := 2) sc_law_lift.nd rfl (by first | exact Or.inl rfl | exact Or.inr rfl))) (fun _ _ _ _ _ => pts_nil) (fun _ _ _ _ _ => (C8.pe_c C_law_rise hr (by decide) (by rfl) (pa_cons (pv 0) (pa_cons (pv 2) (pa_cons (pv 1) pa_nil)))))))), rd_law_lift h⟩)
theorem bi_law_lift {f : Addr} {fd : FuncData} (F : Fun K "_law_lift" "_law_lift" s_law_lift f fd) : Binds K fd ["blank", "copies"] [] := F.binds fun _ _ _ _ _ _ us hl => match us, hl with | [_, _], _ => rfl
abbrev s_law_fits : Stmt := topS 18
theorem sc_law_fits : FnScope ["made", "blank", "copies", "due", "turn", "told", "height", "answer"] ["made", "blank", "copies"] (defScope s_law_fits) := ⟨rfl, rfl, rfl, by decide +kernel, rfl, by decide +kernel, by decide +kernel⟩
theorem ln_law_fits {vs : List V} {H : Hp} {Q : VK} {E : XK} (h : sp_law_fits K A vs H Q E) : vs.length = 3 := by
  first | (obtain ⟨_, rfl, _⟩ := h; rfl) | (obtain ⟨_, _, rfl, _⟩ := h; rfl) | (obtain ⟨_, _, _, rfl, _⟩ := h; rfl) | (obtain ⟨_, _, _, _, rfl, _⟩ := h; rfl) | (obtain ⟨_, _, _, _, _, rfl, _⟩ := h; rfl) | (obtain ⟨_, _, _, _, _, _, rfl, _⟩ := h; rfl) | (obtain ⟨_, _, _, _, _, _, _, rfl, _⟩ := h; rfl) | (obtain ⟨_, _, _, _, _, _, _, _, rfl, _⟩ := h; rfl) | (obtain ⟨_, _, _, _, _, _, _, _, _, rfl, _⟩ := h; rfl) | (obtain ⟨_, _, _, _, _, _, _, _, _, _, rfl, _⟩ := h; rfl) | (obtain ⟨_, _, _, _, _, _, _, _, _, _, _, rfl, _⟩ := h; rfl) | (obtain ⟨_, _, _, _, _, _, _, _, _, _, _, _, rfl, _⟩ := h; rfl) | (obtain ⟨_, _, _, _, _, _, _, _, _, _, _, _, _, rfl, _⟩ := h; rfl) | (obtain ⟨_, _, _, _, _, _, _, _, _, _, _, _, _, _, rfl, _⟩ := h; rfl) | (obtain ⟨_, _, _, _, _, _, _, _, _, _, _, _, _, _, _, rfl, _⟩ := h; rfl) | (obtain ⟨_, _, _, _, _, _, _, _, _, _, _, _, _, _, _, _, rfl, _⟩ := h; rfl) | (obtain ⟨_, _, _, _, _, _, _, _, _, _, _, _, _, _, _, _, _, rfl, _⟩ := h; rfl) | (obtain ⟨_, _, _, _, _, _, _, _, _, _, _, _, _, _, _, _, _, _, rfl, _⟩ := h; rfl) | (obtain ⟨_, _, _, _, _, _, _, _, _, _, _, _, _, _, _, _, _, _, _, rfl, _⟩ := h; rfl)
theorem fn_law_fits {f : Addr} {fd : FuncData} (F : Fun K "_law_fits" "_law_fits" s_law_fits f fd) (T : Txt mg A) (C : CT K A) (C_Stretch_is_keepable : C8.Met P w K mg base 1 A.Stretch "is_keepable" (sp_Stretch_is_keepable K A) []) (C_Stretch_lift : C8.Met P w K mg base 1 A.Stretch "lift" (sp_Stretch_lift K A) []) (C_law_is_integer : C8.Cal P w K mg base 1 "_law_is_integer" (sp_law_is_integer K A) []) (C_law_lift : C8.Cal P w K mg base 3 "_law_lift" (sp_law_lift K A) []) : FnOk P w K mg base CX0 4 f fd ["made", "blank", "copies"] (sp_law_fits K A) :=
  F.ok sc_law_fits (fun vs H Q E h => ln_law_fits h) (fun cdv Ar outer s H vs Q E hr h => ⟨t_law_fits K A, (pss_cons (ps_set (i := 3) sc_law_fits.nd rfl (by first | exact Or.inl rfl | exact Or.inr rfl) (C8.pe_c C_law_lift hr (by decide) (by rfl) (pa_cons (pv 1) (pa_cons (pv 2) pa_nil))))
  (pss_cons (ps_for PassesOwn.never rfl (pi_range1 (by rfl) T.b_range (pa_cons pe_int pa_nil)) (pg_name (i := 4) sc_law_fits.nd rfl (by first | exact Or.inl rfl | exact Or.inr rfl))
  (pss_cons (ps_set (i := 5) sc_law_fits.nd rfl (by first | exact Or.inl rfl | exact Or.inr rfl) (C8.pe_mt0 C_Stretch_lift hr (by decide) (pv 0)))
  (pss_cons (ps_if (PW.pt (pw_or (pt_not (pt_val (pe_callB call_isi (by rfl) T.b_isinstance (by decide +kernel) (pa_cons (pv 5) (pa_cons (pe_bltn (v := .ty "list") (by rfl) T.b_list (by decide +kernel) rfl) pa_nil))) (by intro _; rfl))) (pw_or1 (pt_cmpR (op_neD hr.units) (pv 5) (pv 3) (nomark _))))) (pss_one (ps_ret pe_bl)) pss_nil)
  (pss_cons (ps_if (pt_not (pt_val (pe_callB (cr_all rfl) (by rfl) T.b_all (by decide +kernel) (pa_cons (pe_lc (own := [("height", 6)]) (g := (gName 6)) (tt := tYes) rfl sc_law_fits.nd (pi_list (pv 5)) (blkOk_by (own := [("height", 6)]) (N := ["made", "blank", "copies", "due", "turn", "told", "height", "answer"]) (sc := defScope s_law_fits) (by decide +kernel)) (fun _ _ _ _ _ => (pg_name (i := 6) sc_law_fits.nd rfl (by first | exact Or.inl rfl | exact Or.inr rfl))) (fun _ _ _ _ _ => pts_nil) (fun _ _ _ _ _ => (pe_or (pe_cmp (pc_isN (pv 6))) (pe_one (C8.pe_c C_law_is_integer hr (by decide) (by rfl) (pa_cons (pv 6) pa_nil)))))) pa_nil)) (by intro _; rfl))) (pss_one (ps_ret pe_bl)) pss_nil)
  (pss_cons (ps_asg (pe_op op_add (pv 2) pe_int) (pg_sub (pv 5) pe_int set_list))
  (pss_one (ps_expr (pe_bm PySem.F.plainAttrs_list PySem.F.slot_list_append PySem.F.type_list_append mt_append (pv 5) (pa_cons pe_int pa_nil)))))))))
  (pss_cons (ps_set (i := 7) sc_law_fits.nd rfl (by first | exact Or.inl rfl | exact Or.inr rfl) (C8.pe_mt0 C_Stretch_is_keepable hr (by decide) (pv 0)))
  (pss_cons (ps_if (PW.pt (pw_or (pt_not (pt_val (pe_callB call_isi (by rfl) T.b_isinstance (by decide +kernel) (pa_cons (pv 7) (pa_cons (pe_bltn (v := .ty "bool") (by rfl) T.b_bool (by decide +kernel) rfl) pa_nil))) (by intro _; rfl))) (pw_or1 (pt_cmpR op_ne (pv 7) (pe_cmp (pc_notN (pe_ix ix_list (pv 3) pe_int (fun _ _ => rfl)))) (nomark _))))) (pss_one (ps_ret pe_bl)) pss_nil)
  (pss_one (ps_ret (pe_and (C8.pe_c C_law_is_integer hr (by decide) (by rfl) (pa_cons (pe_fld (pv 0) rfl) pa_nil)) (pe_one (pe_cmpR op_eq (pe_fld (pv 0) rfl) (pv 2) (nomark _)))))))))), rd_law_fits C h⟩)
theorem bi_law_fits {f : Addr} {fd : FuncData} (F : Fun K "_law_fits" "_law_fits" s_law_fits f fd) : Binds K fd ["made", "blank", "copies"] [] := F.binds fun _ _ _ _ _ _ us hl => match us, hl with | [_, _, _], _ => rfl
abbrev s_law_differs : Stmt := topS 19
theorem sc_law_differs : FnScope ["left", "right", "copies", "other", "raised", "made"] ["left", "right", "copies", "other"] (defScope s_law_differs) := ⟨rfl, rfl, rfl, by decide +kernel, rfl, by decide +kernel, by decide +kernel⟩
theorem ln_law_differs {vs : List V} {H : Hp} {Q : VK} {E : XK} (h : sp_law_differs K A vs H Q E) : vs.length = 4 := by
  first | (obtain ⟨_, rfl, _⟩ := h; rfl) | (obtain ⟨_, _, rfl, _⟩ := h; rfl) | (obtain ⟨_, _, _, rfl, _⟩ := h; rfl) | (obtain ⟨_, _, _, _, rfl, _⟩ := h; rfl) | (obtain ⟨_, _, _, _, _, rfl, _⟩ := h; rfl) | (obtain ⟨_, _, _, _, _, _, rfl, _⟩ := h; rfl) | (obtain ⟨_, _, _, _, _, _, _, rfl, _⟩ := h; rfl) | (obtain ⟨_, _, _, _, _, _, _, _, rfl, _⟩ := h; rfl) | (obtain ⟨_, _, _, _, _, _, _, _, _, rfl, _⟩ := h; rfl) | (obtain ⟨_, _, _, _, _, _, _, _, _, _, rfl, _⟩ := h; rfl) | (obtain ⟨_, _, _, _, _, _, _, _, _, _, _, rfl, _⟩ := h; rfl) | (obtain ⟨_, _, _, _, _, _, _, _, _, _, _, _, rfl, _⟩ := h; rfl) | (obtain ⟨_, _, _, _, _, _, _, _, _, _, _, _, _, rfl, _⟩ := h; rfl) | (obtain ⟨_, _, _, _, _, _, _, _, _, _, _, _, _, _, rfl, _⟩ := h; rfl) | (obtain ⟨_, _, _, _, _, _, _, _, _, _, _, _, _, _, _, rfl, _⟩ := h; rfl) | (obtain ⟨_, _, _, _, _, _, _, _, _, _, _, _, _, _, _, _, rfl, _⟩ := h; rfl) | (obtain ⟨_, _, _, _, _, _, _, _, _, _, _, _, _, _, _, _, _, rfl, _⟩ := h; rfl) | (obtain ⟨_, _, _, _, _, _, _, _, _, _, _, _, _, _, _, _, _, _, rfl, _⟩ := h; rfl) | (obtain ⟨_, _, _, _, _, _, _, _, _, _, _, _, _, _, _, _, _, _, _, rfl, _⟩ := h; rfl)
theorem fn_law_differs {f : Addr} {fd : FuncData} (F : Fun K "_law_differs" "_law_differs" s_law_differs f fd) (T : Txt mg A) (C : CT K A) (Ch_law_is_integer : GX.HotX P w K mg base 1 "_law_is_integer" (fun _ _ _ => sp_law_is_integer K A)) (C_Stretch_add : GX.AddX P w K mg base 5 A.Stretch (sp_Stretch_add K A)) : FnOk P w K mg base CX0 6 f fd ["left", "right", "copies", "other"] (sp_law_differs K A) :=
  F.ok sc_law_differs (fun vs H Q E h => ln_law_differs h) (fun cdv Ar outer s H vs Q E hr h => ⟨t_law_differs K A, (pss_cons (ps_try_as (i := 4) (tb := fun W => (tAsg (GX.tAddS A.Stretch (sp_Stretch_add K A) (WE W) (tVar 0) (tVar 1)) (gName 5))) (ts := fun a cls d => (tSeq (tIfS (tB (tCB (GX.rIsX K a cls d) (tCons (tVar 4) (tCons (tC (.ref A.LotError)) tNil)))) (tRet (tC (.bl false))) tNext)
  (tSeq (tIfS (tOr (tNot (tB (tCB (GX.rIsX K a cls d) (tCons (tVar 4) (tCons (tC (.ref A.OnecopyError)) tNil))))) (tNot (tB (tCB (GX.rIsX K a cls d) (tCons (tVar 4) (tCons (tC (.ty "ValueError")) tNil)))))) (tRet (tC (.bl false))) tNext)
  (tSeq (tIfS (tOr (tNot (tB (GX.tCallG (sp_law_is_integer K A) (tCons (tXf a cls d A.CopiesDiffer "left" (tVar 4)) tNil)))) (tNot (tB (GX.tCallG (sp_law_is_integer K A) (tCons (tXf a cls d A.CopiesDiffer "right" (tVar 4)) tNil))))) (tRet (tC (.bl false))) tNext)
  (tRet (tAndV (tOp rEq (tXf a cls d A.CopiesDiffer "left" (tVar 4)) (tVar 2)) (tOp rEq (tXf a cls d A.CopiesDiffer "right" (tVar 4)) (tVar 3)))))))) (Wout := fun _ _ _ _ => False) rfl rfl sc_law_differs.nd rfl rfl ⟨rfl, by decide, Or.inl T.g_CopiesDiffer⟩ takes0
  (fun W pn xe tk _ => (pss_one (ps_set (i := 5) sc_law_differs.nd rfl (by first | exact Or.inl rfl | exact Or.inr rfl) (GX.pe_addS C_Stretch_add hr (by decide) tk (pv 0) (pv 1)))))
  (fun a oe cls d pn hz hf => (pss_cons (ps_if (pt_val (pe_callB (GX.call_isX hz hf) (by rfl) T.b_isinstance (by decide +kernel) (pa_cons (pv 4) (pa_cons (pe_glob (v := .ref A.LotError) (by rfl) T.g_LotError rfl) pa_nil))) (by intro _; rfl)) (pss_one (ps_ret pe_bl)) pss_nil)
  (pss_cons (ps_if (PW.pt (pw_or (pt_not (pt_val (pe_callB (GX.call_isX hz hf) (by rfl) T.b_isinstance (by decide +kernel) (pa_cons (pv 4) (pa_cons (pe_glob (v := .ref A.OnecopyError) (by rfl) T.g_OnecopyError rfl) pa_nil))) (by intro _; rfl))) (pw_or1 (pt_not (pt_val (pe_callB (GX.call_isX hz hf) (by rfl) T.b_isinstance (by decide +kernel) (pa_cons (pv 4) (pa_cons (pe_bltn (v := .ty "ValueError") (by rfl) T.b_ValueError (by decide +kernel) rfl) pa_nil))) (by intro _; rfl)))))) (pss_one (ps_ret pe_bl)) pss_nil)
  (pss_cons (ps_if (PW.pt (pw_or (pt_not (pt_val (GX.pe_callG (sp := fun _ _ _ => sp_law_is_integer K A) Ch_law_is_integer hr (by decide) hz hf (by rfl) (pa_cons (pe_xf C.xf_CopiesDiffer C.f_CopiesDiffer_left hz hf (pv 4)) pa_nil)) (by intro _; rfl))) (pw_or1 (pt_not (pt_val (GX.pe_callG (sp := fun _ _ _ => sp_law_is_integer K A) Ch_law_is_integer hr (by decide) hz hf (by rfl) (pa_cons (pe_xf C.xf_CopiesDiffer C.f_CopiesDiffer_right hz hf (pv 4)) pa_nil)) (by intro _; rfl)))))) (pss_one (ps_ret pe_bl)) pss_nil)
  (pss_one (ps_ret (pe_and (pe_cmpR op_eq (pe_xf C.xf_CopiesDiffer C.f_CopiesDiffer_left hz hf (pv 4)) (pv 2) (nomark _)) (pe_one (pe_cmpR op_eq (pe_xf C.xf_CopiesDiffer C.f_CopiesDiffer_right hz hf (pv 4)) (pv 3) (nomark _)))))))))))
  (pss_one (ps_ret pe_bl))), rd_law_differs C h⟩)
theorem bi_law_differs {f : Addr} {fd : FuncData} (F : Fun K "_law_differs" "_law_differs" s_law_differs f fd) : Binds K fd ["left", "right", "copies", "other"] [] := F.binds fun _ _ _ _ _ _ us hl => match us, hl with | [_, _, _, _], _ => rfl
abbrev s_law_sums : Stmt := topS 20
theorem sc_law_sums : FnScope ["rows", "made", "copies", "one", "two", "three", "left", "right", "none", "k"] ["rows", "made", "copies"] (defScope s_law_sums) := ⟨rfl, rfl, rfl, by decide +kernel, rfl, by decide +kernel, by decide +kernel⟩
theorem ln_law_sums {vs : List V} {H : Hp} {Q : VK} {E : XK} (h : sp_law_sums K A vs H Q E) : vs.length = 3 := by
  first | (obtain ⟨_, rfl, _⟩ := h; rfl) | (obtain ⟨_, _, rfl, _⟩ := h; rfl) | (obtain ⟨_, _, _, rfl, _⟩ := h; rfl) | (obtain ⟨_, _, _, _, rfl, _⟩ := h; rfl) | (obtain ⟨_, _, _, _, _, rfl, _⟩ := h; rfl) | (obtain ⟨_, _, _, _, _, _, rfl, _⟩ := h; rfl) | (obtain ⟨_, _, _, _, _, _, _, rfl, _⟩ := h; rfl) | (obtain ⟨_, _, _, _, _, _, _, _, rfl, _⟩ := h; rfl) | (obtain ⟨_, _, _, _, _, _, _, _, _, rfl, _⟩ := h; rfl) | (obtain ⟨_, _, _, _, _, _, _, _, _, _, rfl, _⟩ := h; rfl) | (obtain ⟨_, _, _, _, _, _, _, _, _, _, _, rfl, _⟩ := h; rfl) | (obtain ⟨_, _, _, _, _, _, _, _, _, _, _, _, rfl, _⟩ := h; rfl) | (obtain ⟨_, _, _, _, _, _, _, _, _, _, _, _, _, rfl, _⟩ := h; rfl) | (obtain ⟨_, _, _, _, _, _, _, _, _, _, _, _, _, _, rfl, _⟩ := h; rfl) | (obtain ⟨_, _, _, _, _, _, _, _, _, _, _, _, _, _, _, rfl, _⟩ := h; rfl) | (obtain ⟨_, _, _, _, _, _, _, _, _, _, _, _, _, _, _, _, rfl, _⟩ := h; rfl) | (obtain ⟨_, _, _, _, _, _, _, _, _, _, _, _, _, _, _, _, _, rfl, _⟩ := h; rfl) | (obtain ⟨_, _, _, _, _, _, _, _, _, _, _, _, _, _, _, _, _, _, rfl, _⟩ := h; rfl) | (obtain ⟨_, _, _, _, _, _, _, _, _, _, _, _, _, _, _, _, _, _, _, rfl, _⟩ := h; rfl)
theorem fn_law_sums {f : Addr} {fd : FuncData} (F : Fun K "_law_sums" "_law_sums" s_law_sums f fd) (T : Txt mg A) (C : CT K A) (C_Stretch_add : GX.AddX P w K mg base 5 A.Stretch (sp_Stretch_add K A)) (C_Stretch_eq : GX.EqX P w K mg base 1 A.Stretch (sp_Stretch_eq K A)) (C_Stretch_init : C8.Mak P w K mg base 3 "Stretch" A.Stretch (sp_Stretch_init K A) []) (C_law_fits : C8.Cal P w K mg base 4 "_law_fits" (sp_law_fits K A) []) : FnOk P w K mg base CX0 6 f fd ["rows", "made", "copies"] (sp_law_sums K A) :=
  F.ok sc_law_sums (fun vs H Q E h => ln_law_sums h) (fun cdv Ar outer s H vs Q E hr h => ⟨t_law_sums K A, (pss_cons (ps_set (i := 3) sc_law_sums.nd rfl (by first | exact Or.inl rfl | exact Or.inr rfl) (pe_ix ix_list (pv 1) pe_int (fun _ _ => rfl)))
  (pss_cons (ps_set (i := 4) sc_law_sums.nd rfl (by first | exact Or.inl rfl | exact Or.inr rfl) (pe_ix ix_list (pv 1) pe_int (fun _ _ => rfl)))
  (pss_cons (ps_set (i := 5) sc_law_sums.nd rfl (by first | exact Or.inl rfl | exact Or.inr rfl) (pe_ix ix_list (pv 1) pe_int (fun _ _ => rfl)))
  (pss_cons (ps_set (i := 6) sc_law_sums.nd rfl (by first | exact Or.inl rfl | exact Or.inr rfl) (pe_op (GX.op_addX C_Stretch_add hr (by decide) passL) (pv 3) (pv 4)))
  (pss_cons (ps_set (i := 7) sc_law_sums.nd rfl (by first | exact Or.inl rfl | exact Or.inr rfl) (pe_op (GX.op_addX C_Stretch_add hr (by decide) passL) (pv 4) (pv 5)))
  (pss_cons (ps_if (PW.pt (pw_or (pt_not (pt_val (C8.pe_c C_law_fits hr (by decide) (by rfl) (pa_cons (pv 6) (pa_cons (pe_op op_cat (pe_ix ix_list (pv 0) pe_int (fun _ _ => rfl)) (pe_ix ix_list (pv 0) pe_int (fun _ _ => rfl))) (pa_cons (pv 2) pa_nil)))) (by intro _; rfl))) (pw_or1 (pt_not (pt_val (C8.pe_c C_law_fits hr (by decide) (by rfl) (pa_cons (pv 7) (pa_cons (pe_op op_cat (pe_ix ix_list (pv 0) pe_int (fun _ _ => rfl)) (pe_ix ix_list (pv 0) pe_int (fun _ _ => rfl))) (pa_cons (pv 2) pa_nil)))) (by intro _; rfl)))))) (pss_one (ps_ret pe_bl)) pss_nil)
  (pss_cons (ps_if (pt_not (pt_cmpR (GX.op_eqX C_Stretch_eq hr (by decide)) (pe_op (GX.op_addX C_Stretch_add hr (by decide) passL) (pv 6) (pv 5)) (pe_op (GX.op_addX C_Stretch_add hr (by decide) passL) (pv 3) (pv 7)) (nomark _))) (pss_one (ps_ret pe_bl)) pss_nil)
  (pss_cons (ps_if (pt_not (pt_val (C8.pe_c C_law_fits hr (by decide) (by rfl) (pa_cons (pe_op (GX.op_addX C_Stretch_add hr (by decide) passL) (pv 6) (pv 5)) (pa_cons (pe_op op_cat (pe_op op_cat (pe_ix ix_list (pv 0) pe_int (fun _ _ => rfl)) (pe_ix ix_list (pv 0) pe_int (fun _ _ => rfl))) (pe_ix ix_list (pv 0) pe_int (fun _ _ => rfl))) (pa_cons (pv 2) pa_nil)))) (by intro _; rfl))) (pss_one (ps_ret pe_bl)) pss_nil)
  (pss_cons (ps_if (pt_not (pt_val (C8.pe_c C_law_fits hr (by decide) (by rfl) (pa_cons (pe_op (GX.op_addX C_Stretch_add hr (by decide) passL) (pv 3) (pv 7)) (pa_cons (pe_op op_cat (pe_op op_cat (pe_ix ix_list (pv 0) pe_int (fun _ _ => rfl)) (pe_ix ix_list (pv 0) pe_int (fun _ _ => rfl))) (pe_ix ix_list (pv 0) pe_int (fun _ _ => rfl))) (pa_cons (pv 2) pa_nil)))) (by intro _; rfl))) (pss_one (ps_ret pe_bl)) pss_nil)
  (pss_cons (ps_set (i := 8) sc_law_sums.nd rfl (by first | exact Or.inl rfl | exact Or.inr rfl) (C8.pe_mk C_Stretch_init hr (by decide) (by rfl) (pa_cons (pe_lst pa_nil) (pa_cons (pv 2) pa_nil))))
  (pss_cons (ps_for PassesOwn.never rfl (pi_range1 (by rfl) T.b_range (pa_cons pe_int pa_nil)) (pg_name (i := 9) sc_law_sums.nd rfl (by first | exact Or.inl rfl | exact Or.inr rfl))
  (pss_cons (ps_if (PW.pt (pw_or (pt_not (pt_cmpR (GX.op_eqX C_Stretch_eq hr (by decide)) (pe_op (GX.op_addX C_Stretch_add hr (by decide) passL) (pv 8) (pe_ix ix_list (pv 1) (pv 9) (fun _ _ => rfl))) (pe_ix ix_list (pv 1) (pv 9) (fun _ _ => rfl)) (nomark _))) (pw_or1 (pt_not (pt_cmpR (GX.op_eqX C_Stretch_eq hr (by decide)) (pe_op (GX.op_addX C_Stretch_add hr (by decide) passL) (pe_ix ix_list (pv 1) (pv 9) (fun _ _ => rfl)) (pv 8)) (pe_ix ix_list (pv 1) (pv 9) (fun _ _ => rfl)) (nomark _)))))) (pss_one (ps_ret pe_bl)) pss_nil)
  (pss_cons (ps_if (PW.pt (pw_or (pt_not (pt_val (C8.pe_c C_law_fits hr (by decide) (by rfl) (pa_cons (pe_op (GX.op_addX C_Stretch_add hr (by decide) passL) (pv 8) (pe_ix ix_list (pv 1) (pv 9) (fun _ _ => rfl))) (pa_cons (pe_ix ix_list (pv 0) (pv 9) (fun _ _ => rfl)) (pa_cons (pv 2) pa_nil)))) (by intro _; rfl))) (pw_or1 (pt_not (pt_val (C8.pe_c C_law_fits hr (by decide) (by rfl) (pa_cons (pe_op (GX.op_addX C_Stretch_add hr (by decide) passL) (pe_ix ix_list (pv 1) (pv 9) (fun _ _ => rfl)) (pv 8)) (pa_cons (pe_ix ix_list (pv 0) (pv 9) (fun _ _ => rfl)) (pa_cons (pv 2) pa_nil)))) (by intro _; rfl)))))) (pss_one (ps_ret pe_bl)) pss_nil)
  (pss_cons (ps_if (pt_not (pt_val (C8.pe_c C_law_fits hr (by decide) (by rfl) (pa_cons (pe_op (GX.op_addX C_Stretch_add hr (by decide) passL) (pe_ix ix_list (pv 1) (pv 9) (fun _ _ => rfl)) (pe_ix ix_list (pv 1) (pv 9) (fun _ _ => rfl))) (pa_cons (pe_op op_cat (pe_ix ix_list (pv 0) (pv 9) (fun _ _ => rfl)) (pe_ix ix_list (pv 0) (pv 9) (fun _ _ => rfl))) (pa_cons (pv 2) pa_nil)))) (by intro _; rfl))) (pss_one (ps_ret pe_bl)) pss_nil)
  (pss_one (ps_if (pt_not (pt_val (C8.pe_c C_law_fits hr (by decide) (by rfl) (pa_cons (pe_ix ix_list (pv 1) (pv 9) (fun _ _ => rfl)) (pa_cons (pe_ix ix_list (pv 0) (pv 9) (fun _ _ => rfl)) (pa_cons (pv 2) pa_nil)))) (by intro _; rfl))) (pss_one (ps_ret pe_bl)) pss_nil))))))
  (pss_one (ps_ret (C8.pe_c C_law_fits hr (by decide) (by rfl) (pa_cons (pv 8) (pa_cons (pe_lst pa_nil) (pa_cons (pv 2) pa_nil))))))))))))))))), rd_law_sums h⟩)
theorem bi_law_sums {f : Addr} {fd : FuncData} (F : Fun K "_law_sums" "_law_sums" s_law_sums f fd) : Binds K fd ["rows", "made", "copies"] [] := F.binds fun _ _ _ _ _ _ us hl => match us, hl with | [_, _, _], _ => rfl
abbrev s_law : Stmt := topS 21
theorem sc_law : FnScope ["script", "bag", "copies", "rows", "k", "made", "blank", "handed", "great", "place", "plain", "other", "left", "right"] ["script"] (defScope s_law) := ⟨rfl, rfl, rfl, by decide +kernel, rfl, by decide +kernel, by decide +kernel⟩
theorem ln_law {vs : List V} {H : Hp} {Q : VK} {E : XK} (h : sp_law K A vs H Q E) : vs.length = 1 := by
  first | (obtain ⟨_, rfl, _⟩ := h; rfl) | (obtain ⟨_, _, rfl, _⟩ := h; rfl) | (obtain ⟨_, _, _, rfl, _⟩ := h; rfl) | (obtain ⟨_, _, _, _, rfl, _⟩ := h; rfl) | (obtain ⟨_, _, _, _, _, rfl, _⟩ := h; rfl) | (obtain ⟨_, _, _, _, _, _, rfl, _⟩ := h; rfl) | (obtain ⟨_, _, _, _, _, _, _, rfl, _⟩ := h; rfl) | (obtain ⟨_, _, _, _, _, _, _, _, rfl, _⟩ := h; rfl) | (obtain ⟨_, _, _, _, _, _, _, _, _, rfl, _⟩ := h; rfl) | (obtain ⟨_, _, _, _, _, _, _, _, _, _, rfl, _⟩ := h; rfl) | (obtain ⟨_, _, _, _, _, _, _, _, _, _, _, rfl, _⟩ := h; rfl) | (obtain ⟨_, _, _, _, _, _, _, _, _, _, _, _, rfl, _⟩ := h; rfl) | (obtain ⟨_, _, _, _, _, _, _, _, _, _, _, _, _, rfl, _⟩ := h; rfl) | (obtain ⟨_, _, _, _, _, _, _, _, _, _, _, _, _, _, rfl, _⟩ := h; rfl) | (obtain ⟨_, _, _, _, _, _, _, _, _, _, _, _, _, _, _, rfl, _⟩ := h; rfl) | (obtain ⟨_, _, _, _, _, _, _, _, _, _, _, _, _, _, _, _, rfl, _⟩ := h; rfl) | (obtain ⟨_, _, _, _, _, _, _, _, _, _, _, _, _, _, _, _, _, rfl, _⟩ := h; rfl) | (obtain ⟨_, _, _, _, _, _, _, _, _, _, _, _, _, _, _, _, _, _, rfl, _⟩ := h; rfl) | (obtain ⟨_, _, _, _, _, _, _, _, _, _, _, _, _, _, _, _, _, _, _, rfl, _⟩ := h; rfl)
theorem fn_law {f : Addr} {fd : FuncData} (F : Fun K "law" "law" s_law f fd) (T : Txt mg A) (C : CT K A) (C_Stretch_add : GX.AddX P w K mg base 5 A.Stretch (sp_Stretch_add K A)) (C_Stretch_eq : GX.EqX P w K mg base 1 A.Stretch (sp_Stretch_eq K A)) (C_Stretch_init : C8.Mak P w K mg base 3 "Stretch" A.Stretch (sp_Stretch_init K A) []) (C_law_bag : C8.Cal P w K mg base 1 "_law_bag" (sp_law_bag K A) []) (C_law_copies : C8.Cal P w K mg base 2 "_law_copies" (sp_law_copies K A) []) (C_law_differs : C8.Cal P w K mg base 6 "_law_differs" (sp_law_differs K A) []) (C_law_fits : C8.Cal P w K mg base 4 "_law_fits" (sp_law_fits K A) []) (C_law_pages : C8.Cal P w K mg base 3 "_law_pages" (sp_law_pages K A) []) (C_law_sums : C8.Cal P w K mg base 6 "_law_sums" (sp_law_sums K A) []) (C_law_take : C8.Cal P w K mg base 1 "_law_take" (sp_law_take K A) []) : FnOk P w K mg base CX0 7 f fd ["script"] (sp_law K A) :=
  F.ok sc_law (fun vs H Q E h => ln_law h) (fun cdv Ar outer s H vs Q E hr h => ⟨t_law K A, (pss_cons (ps_set (i := 1) sc_law.nd rfl (by first | exact Or.inl rfl | exact Or.inr rfl) (C8.pe_c C_law_bag hr (by decide) (by rfl) (pa_cons (pv 0) (pa_cons pe_int pa_nil))))
  (pss_cons (ps_set (i := 2) sc_law.nd rfl (by first | exact Or.inl rfl | exact Or.inr rfl) (C8.pe_c C_law_copies hr (by decide) (by rfl) (pa_cons (pv 1) pa_nil)))
  (pss_cons (ps_setLc (i := 3) (own := [("k", 4)]) (g := (gName 4)) (tt := tYes) rfl sc_law.nd rfl rfl (sw_true rfl rfl rfl (by decide +kernel)) (pi_list (pe_lst (pa_cons pe_int (pa_cons pe_int (pa_cons pe_int pa_nil))))) (blkOk_by (own := [("k", 4)]) (N := ["script", "bag", "copies", "rows", "k", "made", "blank", "handed", "great", "place", "plain", "other", "left", "right"]) (sc := defScope s_law) (by decide +kernel)) (fun _ _ _ _ _ => (pg_name (i := 4) sc_law.nd rfl (by first | exact Or.inl rfl | exact Or.inr rfl))) (fun _ _ _ _ _ => pts_nil) (fun _ _ _ _ _ => (C8.pe_c C_law_pages hr (by decide) (by rfl) (pa_cons (C8.pe_c C_law_bag hr (by decide) (by rfl) (pa_cons (pv 0) (pa_cons (pv 4) pa_nil))) pa_nil))))
  (pss_cons (ps_set (i := 5) sc_law.nd rfl (by first | exact Or.inl rfl | exact Or.inr rfl) (pe_lst pa_nil))
  (pss_cons (ps_for PassesOwn.never rfl (pi_list (pv 3)) (pg_name (i := 6) sc_law.nd rfl (by first | exact Or.inl rfl | exact Or.inr rfl))
  (pss_cons (ps_set (i := 7) sc_law.nd rfl (by first | exact Or.inl rfl | exact Or.inr rfl) (pe_callTy call_list_of (by rfl) T.b_list (by decide +kernel) (pa_cons (pv 6) pa_nil)))
  (pss_cons (ps_expr (pe_bm PySem.F.plainAttrs_list PySem.F.slot_list_append PySem.F.type_list_append mt_append (pv 5) (pa_cons (C8.pe_mk C_Stretch_init hr (by decide) (by rfl) (pa_cons (pv 7) (pa_cons (pv 2) pa_nil))) pa_nil)))
  (pss_cons (ps_expr (pe_bm PySem.F.plainAttrs_list PySem.F.slot_list_append PySem.F.type_list_append mt_append (pv 7) (pa_cons pe_int pa_nil)))
  (pss_one (ps_expr (pe_bm PySem.F.plainAttrs_list PySem.F.slot_list_insert PySem.F.type_list_insert GX.mt_ins (pv 7) (pa_cons pe_int (pa_cons pe_int pa_nil)))))))))
  (pss_cons (ps_for PassesOwn.never rfl (pi_range1 (by rfl) T.b_range (pa_cons pe_int pa_nil)) (pg_name (i := 4) sc_law.nd rfl (by first | exact Or.inl rfl | exact Or.inr rfl))
  (pss_one (ps_if (pt_not (pt_val (C8.pe_c C_law_fits hr (by decide) (by rfl) (pa_cons (pe_ix ix_list (pv 5) (pv 4) (fun _ _ => rfl)) (pa_cons (pe_ix ix_list (pv 3) (pv 4) (fun _ _ => rfl)) (pa_cons (pv 2) pa_nil)))) (by intro _; rfl))) (pss_one (ps_ret pe_bl)) pss_nil)))
  (pss_cons (ps_if (pt_not (pt_val (C8.pe_c C_law_sums hr (by decide) (by rfl) (pa_cons (pv 3) (pa_cons (pv 5) (pa_cons (pv 2) pa_nil)))) (by intro _; rfl))) (pss_one (ps_ret pe_bl)) pss_nil)
  (pss_cons (ps_setLc (i := 8) (own := [("place", 9)]) (g := (gName 9)) (tt := tYes) rfl sc_law.nd rfl rfl (sw_true rfl rfl rfl (by decide +kernel)) (pi_range1 (by rfl) T.b_range (pa_cons (pe_op op_add pe_int (C8.pe_c C_law_take hr (by decide) (by rfl) (pa_cons (pv 1) (pa_cons pe_int pa_nil)))) pa_nil)) (blkOk_by (own := [("place", 9)]) (N := ["script", "bag", "copies", "rows", "k", "made", "blank", "handed", "great", "place", "plain", "other", "left", "right"]) (sc := defScope s_law) (by decide +kernel)) (fun _ _ _ _ _ => (pg_name (i := 9) sc_law.nd rfl (by first | exact Or.inl rfl | exact Or.inr rfl))) (fun _ _ _ _ _ => pts_nil) (fun _ _ _ _ _ => (pe_op op_add pe_int (C8.pe_c C_law_take hr (by decide) (by rfl) (pa_cons (pv 1) (pa_cons pe_int pa_nil))))))
  (pss_cons (ps_set (i := 10) sc_law.nd rfl (by first | exact Or.inl rfl | exact Or.inr rfl) (pe_op (GX.op_addX C_Stretch_add hr (by decide) passL) (pe_op (GX.op_addX C_Stretch_add hr (by decide) passL) (pe_ix ix_list (pv 5) pe_int (fun _ _ => rfl)) (C8.pe_mk C_Stretch_init hr (by decide) (by rfl) (pa_cons (pe_lst (pa_cons pe_int pa_nil)) (pa_cons (pv 2) pa_nil)))) (pe_ix ix_list (pv 5) pe_int (fun _ _ => rfl))))
  (pss_cons (ps_if (pt_not (pt_cmpR (GX.op_eqX C_Stretch_eq hr (by decide)) (pv 10) (pe_op (GX.op_addX C_Stretch_add hr (by decide) passL) (pe_op (GX.op_addX C_Stretch_add hr (by decide) passL) (pe_ix ix_list (pv 5) pe_int (fun _ _ => rfl)) (C8.pe_mk C_Stretch_init hr (by decide) (by rfl) (pa_cons (pv 8) (pa_cons (pv 2) pa_nil)))) (pe_ix ix_list (pv 5) pe_int (fun _ _ => rfl))) (nomark _))) (pss_one (ps_ret pe_bl)) pss_nil)
  (pss_cons (ps_if (pt_not (pt_cmpR (GX.op_eqX C_Stretch_eq hr (by decide)) (pv 10) (C8.pe_mk C_Stretch_init hr (by decide) (by rfl) (pa_cons (pe_op op_cat (pe_op op_cat (pe_ix ix_list (pv 3) pe_int (fun _ _ => rfl)) (pv 8)) (pe_ix ix_list (pv 3) pe_int (fun _ _ => rfl))) (pa_cons (pv 2) pa_nil))) (nomark _))) (pss_one (ps_ret pe_bl)) pss_nil)
  (pss_cons (ps_set (i := 11) sc_law.nd rfl (by first | exact Or.inl rfl | exact Or.inr rfl) (pe_op op_add (pe_op op_add (pv 2) pe_int) (C8.pe_c C_law_take hr (by decide) (by rfl) (pa_cons (pv 1) (pa_cons pe_int pa_nil)))))
  (pss_cons (ps_for PassesOwn.never rfl (pi_list (pe_lst (pa_cons (pe_ix ix_list (pv 3) pe_int (fun _ _ => rfl)) (pa_cons (pe_lst pa_nil) pa_nil)))) (pg_name (i := 6) sc_law.nd rfl (by first | exact Or.inl rfl | exact Or.inr rfl))
  (pss_cons (ps_set (i := 12) sc_law.nd rfl (by first | exact Or.inl rfl | exact Or.inr rfl) (C8.pe_mk C_Stretch_init hr (by decide) (by rfl) (pa_cons (pe_callTy call_list_of (by rfl) T.b_list (by decide +kernel) (pa_cons (pv 6) pa_nil)) (pa_cons (pv 2) pa_nil))))
  (pss_cons (ps_set (i := 13) sc_law.nd rfl (by first | exact Or.inl rfl | exact Or.inr rfl) (C8.pe_mk C_Stretch_init hr (by decide) (by rfl) (pa_cons (pe_callTy call_list_of (by rfl) T.b_list (by decide +kernel) (pa_cons (pv 6) pa_nil)) (pa_cons (pv 11) pa_nil))))
  (pss_cons (ps_if (PW.pt (pw_or (pt_cmpR (GX.op_eqX C_Stretch_eq hr (by decide)) (pv 12) (pv 13) (nomark _)) (pw_or1 (pt_cmpR (GX.op_eqX C_Stretch_eq hr (by decide)) (pv 13) (pv 12) (nomark _))))) (pss_one (ps_ret pe_bl)) pss_nil)
  (pss_cons (ps_if (PW.pt (pw_or (pt_not (pt_val (C8.pe_c C_law_differs hr (by decide) (by rfl) (pa_cons (pv 12) (pa_cons (pv 13) (pa_cons (pv 2) (pa_cons (pv 11) pa_nil))))) (by intro _; rfl))) (pw_or1 (pt_not (pt_val (C8.pe_c C_law_differs hr (by decide) (by rfl) (pa_cons (pv 13) (pa_cons (pv 12) (pa_cons (pv 11) (pa_cons (pv 2) pa_nil))))) (by intro _; rfl)))))) (pss_one (ps_ret pe_bl)) pss_nil)
  (pss_one (ps_if (PW.pt (pw_or (pt_not (pt_val (C8.pe_c C_law_fits hr (by decide) (by rfl) (pa_cons (pv 12) (pa_cons (pv 6) (pa_cons (pv 2) pa_nil)))) (by intro _; rfl))) (pw_or1 (pt_not (pt_val (C8.pe_c C_law_fits hr (by decide) (by rfl) (pa_cons (pv 13) (pa_cons (pv 6) (pa_cons (pv 11) pa_nil)))) (by intro _; rfl)))))) (pss_one (ps_ret pe_bl)) pss_nil)))))))
  (pss_one (ps_ret pe_bl))))))))))))))), rd_law h⟩)
theorem bi_law {f : Addr} {fd : FuncData} (F : Fun K "law" "law" s_law f fd) : Binds K fd ["script"] [] := F.binds fun _ _ _ _ _ _ us hl => match us, hl with | [_], _ => rfl

/-! ### the head: facts by names, the run -/
def d_CopiesDiffer_init : He.DefD := ⟨("CopiesDiffer", some "__init__"), "__init__", "CopiesDiffer.__init__", defArgs s_CopiesDiffer_init, defBody s_CopiesDiffer_init, defScope s_CopiesDiffer_init, [], []⟩
def d_height_over : He.DefD := ⟨("height_over", none), "height_over", "height_over", defArgs s_height_over, defBody s_height_over, defScope s_height_over, [], []⟩
def d_lifted : He.DefD := ⟨("_lifted", none), "_lifted", "_lifted", defArgs s_lifted, defBody s_lifted, defScope s_lifted, [], []⟩
def d_Stretch_init : He.DefD := ⟨("Stretch", some "__init__"), "__init__", "Stretch.__init__", defArgs s_Stretch_init, defBody s_Stretch_init, defScope s_Stretch_init, [], []⟩
def d_Stretch_lift : He.DefD := ⟨("Stretch", some "lift"), "lift", "Stretch.lift", defArgs s_Stretch_lift, defBody s_Stretch_lift, defScope s_Stretch_lift, [], []⟩
def d_Stretch_add : He.DefD := ⟨("Stretch", some "__add__"), "__add__", "Stretch.__add__", defArgs s_Stretch_add, defBody s_Stretch_add, defScope s_Stretch_add, [], []⟩
def d_Stretch_eq : He.DefD := ⟨("Stretch", some "__eq__"), "__eq__", "Stretch.__eq__", defArgs s_Stretch_eq, defBody s_Stretch_eq, defScope s_Stretch_eq, [], []⟩
def d_Stretch_is_keepable : He.DefD := ⟨("Stretch", some "is_keepable"), "is_keepable", "Stretch.is_keepable", defArgs s_Stretch_is_keepable, defBody s_Stretch_is_keepable, defScope s_Stretch_is_keepable, [], []⟩
def d_law_is_integer : He.DefD := ⟨("_law_is_integer", none), "_law_is_integer", "_law_is_integer", defArgs s_law_is_integer, defBody s_law_is_integer, defScope s_law_is_integer, [], []⟩
def d_law_bag : He.DefD := ⟨("_law_bag", none), "_law_bag", "_law_bag", defArgs s_law_bag, defBody s_law_bag, defScope s_law_bag, [], []⟩
def d_law_take : He.DefD := ⟨("_law_take", none), "_law_take", "_law_take", defArgs s_law_take, defBody s_law_take, defScope s_law_take, [], []⟩
def d_law_copies : He.DefD := ⟨("_law_copies", none), "_law_copies", "_law_copies", defArgs s_law_copies, defBody s_law_copies, defScope s_law_copies, [], []⟩
def d_law_page : He.DefD := ⟨("_law_page", none), "_law_page", "_law_page", defArgs s_law_page, defBody s_law_page, defScope s_law_page, [], []⟩
def d_law_pages : He.DefD := ⟨("_law_pages", none), "_law_pages", "_law_pages", defArgs s_law_pages, defBody s_law_pages, defScope s_law_pages, [], []⟩
def d_law_height : He.DefD := ⟨("_law_height", none), "_law_height", "_law_height", defArgs s_law_height, defBody s_law_height, defScope s_law_height, [], []⟩
def d_law_rise : He.DefD := ⟨("_law_rise", none), "_law_rise", "_law_rise", defArgs s_law_rise, defBody s_law_rise, defScope s_law_rise, [], []⟩
def d_law_lift : He.DefD := ⟨("_law_lift", none), "_law_lift", "_law_lift", defArgs s_law_lift, defBody s_law_lift, defScope s_law_lift, [], []⟩
def d_law_fits : He.DefD := ⟨("_law_fits", none), "_law_fits", "_law_fits", defArgs s_law_fits, defBody s_law_fits, defScope s_law_fits, [], []⟩
def d_law_differs : He.DefD := ⟨("_law_differs", none), "_law_differs", "_law_differs", defArgs s_law_differs, defBody s_law_differs, defScope s_law_differs, [], []⟩
def d_law_sums : He.DefD := ⟨("_law_sums", none), "_law_sums", "_law_sums", defArgs s_law_sums, defBody s_law_sums, defScope s_law_sums, [], []⟩
def d_law : He.DefD := ⟨("law", none), "law", "law", defArgs s_law, defBody s_law, defScope s_law, [], []⟩
def fnS : List He.DefD := [d_CopiesDiffer_init, d_height_over, d_lifted, d_Stretch_init, d_Stretch_lift, d_Stretch_add, d_Stretch_eq, d_Stretch_is_keepable, d_law_is_integer, d_law_bag, d_law_take, d_law_copies, d_law_page, d_law_pages, d_law_height, d_law_rise, d_law_lift, d_law_fits, d_law_differs, d_law_sums, d_law]
def fa0 : List He.Fa := [.glo "height_over", .glo "_lifted", .mkr "Stretch", .meth "Stretch" "lift", .meth "Stretch" "__add__", .meth "Stretch" "__eq__", .meth "Stretch" "is_keepable", .glo "_law_is_integer", .glo "_law_bag", .glo "_law_take", .glo "_law_copies", .glo "_law_page", .glo "_law_pages", .glo "_law_height", .glo "_law_rise", .glo "_law_lift", .glo "_law_fits", .glo "_law_differs", .glo "_law_sums", .glo "law", .glo "CopiesDiffer", .glo "LotError", .glo "OnecopyError", .glo "Stretch", .cls "Stretch", .noat "Stretch" "_lift", .noat "Stretch" "copies", .free "ValueError", .free "abs", .free "all"]
def fa1 : List He.Fa := [.free "bool", .free "int", .free "isinstance", .free "len", .free "list", .free "range"]
def faS : List He.Fa := fa0 ++ fa1
def exS : List GX.Ex := [.ins "Stretch", .oex "CopiesDiffer", .exc "CopiesDiffer", .xf "CopiesDiffer", .noat "CopiesDiffer" "left", .noat "CopiesDiffer" "right", .exm "CopiesDiffer" "CopiesDiffer" true, .kit "CopiesDiffer" "LotError" false, .kit "CopiesDiffer" "OnecopyError" true, .kitT "CopiesDiffer" "ValueError" true, .ini "CopiesDiffer", .first "Stretch"]
def looseS : List PySem.Str := (["OnecopyError", "LotError", "CopiesDiffer", "height_over", "_lifted", "Stretch", "_law_is_integer", "_law_bag", "_law_take", "_law_copies", "_law_page", "_law_pages", "_law_height", "_law_rise", "_law_lift", "_law_fits", "_law_differs", "_law_sums"] : List PySem.Str)
abbrev RowS : PySem.W.OpenRow := PySem.W.OpenLaw.row PySem.Challenge.rw_onecopy_k28_stretch_sums
abbrev hkS : PySem.W.Hook := GX.hookE 4 faS fnS exS
def obS (s : PySem.W.SharedT) : GX.AlE := GX.obsEG 4 faS fnS exS (HandSHeadRun.getT s)
theorem obS_eq (s : PySem.W.SharedT) : obS s = hkS.obs s.abs := GX.obsEG_eq (HandSHeadRun.getT_eq s)
theorem runS (w : World) : HandSHeadRun.RunEq RowS (PySem.W.view RowS.prog [21]) hkS obS 8000 looseS w := by
  intro os
  kernel_rfl
theorem factsS {P : Program} {w : World} {K : PySem.W.Frag} {h : Heap} {mg : Str → Option Value} {fa : Addr} (X : K.In h) (GN : h.Ns mainGlobals mg) (hfa : mg ("law" : Str) = some (.ref fa)) (c : GX.SaysE faS fnS exS K) :
    ∃ fd : FuncData, (∀ (s : Shared) (v : Value), BindsTo s fd ⟨[v], []⟩ [("script", v)]) ∧ ∀ base : Heap, K.In base → base.Ns mainGlobals mg → FnOk P w K mg base CX0 7 fa fd ["script"] (sp_law K ⟨He.ga K "CopiesDiffer", He.ga K "LotError", He.ga K "OnecopyError", He.ga K "Stretch"⟩) := by
  have T : Txt mg ⟨He.ga K "CopiesDiffer", He.ga K "LotError", He.ga K "OnecopyError", He.ga K "Stretch"⟩ := ⟨He.free_ok X GN (c.1.fact 27 (f := .free "ValueError") rfl), He.free_ok X GN (c.1.fact 28 (f := .free "abs") rfl), He.free_ok X GN (c.1.fact 29 (f := .free "all") rfl), He.free_ok X GN (c.1.fact 30 (f := .free "bool") rfl), He.free_ok X GN (c.1.fact 31 (f := .free "int") rfl), He.free_ok X GN (c.1.fact 32 (f := .free "isinstance") rfl), He.free_ok X GN (c.1.fact 33 (f := .free "len") rfl), He.free_ok X GN (c.1.fact 34 (f := .free "list") rfl), He.free_ok X GN (c.1.fact 35 (f := .free "range") rfl), He.glo_ok X GN (c.1.fact 20 (f := .glo "CopiesDiffer") rfl), He.glo_ok X GN (c.1.fact 21 (f := .glo "LotError") rfl), He.glo_ok X GN (c.1.fact 22 (f := .glo "OnecopyError") rfl), He.glo_ok X GN (c.1.fact 23 (f := .glo "Stretch") rfl)⟩
  have C : CT K ⟨He.ga K "CopiesDiffer", He.ga K "LotError", He.ga K "OnecopyError", He.ga K "Stretch"⟩ := ⟨He.cls_ok (c.1.fact 24 (f := .cls "Stretch") rfl), He.noat_ok (c.1.fact 25 (f := .noat "Stretch" "_lift") rfl), He.noat_ok (c.1.fact 26 (f := .noat "Stretch" "copies") rfl), GX.ins_ok (c.more 0 (e := .ins "Stretch") rfl), GX.oex_ok (c.more 1 (e := .oex "CopiesDiffer") rfl), GX.exc_ok (c.more 2 (e := .exc "CopiesDiffer") rfl), GX.xf_ok (c.more 3 (e := .xf "CopiesDiffer") rfl), GX.noat_ok (c.more 4 (e := .noat "CopiesDiffer" "left") rfl), GX.noat_ok (c.more 5 (e := .noat "CopiesDiffer" "right") rfl), GX.exm_ok (c.more 6 (e := .exm "CopiesDiffer" "CopiesDiffer" true) rfl), GX.kit_ok (c.more 7 (e := .kit "CopiesDiffer" "LotError" false) rfl), GX.kit_ok (c.more 8 (e := .kit "CopiesDiffer" "OnecopyError" true) rfl), GX.kitT_ok (c.more 9 (e := .kitT "CopiesDiffer" "ValueError" true) rfl)⟩
  have e := hfa.symm.trans (He.glo_ok X GN (c.1.fact 19 (f := .glo "law") rfl))
  cases e
  obtain ⟨fdE0, DE0⟩ := c.1.def_ 0 (d := d_CopiesDiffer_init) rfl
  have FE0 := He5.fun_of (st := s_CopiesDiffer_init) DE0
  obtain ⟨fd0, D0⟩ := c.1.def_ 1 (d := d_height_over) rfl
  have F0 := He5.fun_of (st := s_height_over) D0
  obtain ⟨fd1, D1⟩ := c.1.def_ 2 (d := d_lifted) rfl
  have F1 := He5.fun_of (st := s_lifted) D1
  obtain ⟨fd2, D2⟩ := c.1.def_ 3 (d := d_Stretch_init) rfl
  have F2 := He5.fun_of (st := s_Stretch_init) D2
  obtain ⟨fd3, D3⟩ := c.1.def_ 4 (d := d_Stretch_lift) rfl
  have F3 := He5.fun_of (st := s_Stretch_lift) D3
  obtain ⟨fd4, D4⟩ := c.1.def_ 5 (d := d_Stretch_add) rfl
  have F4 := He5.fun_of (st := s_Stretch_add) D4
  obtain ⟨fd5, D5⟩ := c.1.def_ 6 (d := d_Stretch_eq) rfl
  have F5 := He5.fun_of (st := s_Stretch_eq) D5
  obtain ⟨fd6, D6⟩ := c.1.def_ 7 (d := d_Stretch_is_keepable) rfl
  have F6 := He5.fun_of (st := s_Stretch_is_keepable) D6
  obtain ⟨fd7, D7⟩ := c.1.def_ 8 (d := d_law_is_integer) rfl
  have F7 := He5.fun_of (st := s_law_is_integer) D7
  obtain ⟨fd8, D8⟩ := c.1.def_ 9 (d := d_law_bag) rfl
  have F8 := He5.fun_of (st := s_law_bag) D8
  obtain ⟨fd9, D9⟩ := c.1.def_ 10 (d := d_law_take) rfl
  have F9 := He5.fun_of (st := s_law_take) D9
  obtain ⟨fd10, D10⟩ := c.1.def_ 11 (d := d_law_copies) rfl
  have F10 := He5.fun_of (st := s_law_copies) D10
  obtain ⟨fd11, D11⟩ := c.1.def_ 12 (d := d_law_page) rfl
  have F11 := He5.fun_of (st := s_law_page) D11
  obtain ⟨fd12, D12⟩ := c.1.def_ 13 (d := d_law_pages) rfl
  have F12 := He5.fun_of (st := s_law_pages) D12
  obtain ⟨fd13, D13⟩ := c.1.def_ 14 (d := d_law_height) rfl
  have F13 := He5.fun_of (st := s_law_height) D13
  obtain ⟨fd14, D14⟩ := c.1.def_ 15 (d := d_law_rise) rfl
  have F14 := He5.fun_of (st := s_law_rise) D14
  obtain ⟨fd15, D15⟩ := c.1.def_ 16 (d := d_law_lift) rfl
  have F15 := He5.fun_of (st := s_law_lift) D15
  obtain ⟨fd16, D16⟩ := c.1.def_ 17 (d := d_law_fits) rfl
  have F16 := He5.fun_of (st := s_law_fits) D16
  obtain ⟨fd17, D17⟩ := c.1.def_ 18 (d := d_law_differs) rfl
  have F17 := He5.fun_of (st := s_law_differs) D17
  obtain ⟨fd18, D18⟩ := c.1.def_ 19 (d := d_law_sums) rfl
  have F18 := He5.fun_of (st := s_law_sums) D18
  obtain ⟨fd19, D19⟩ := c.1.def_ 20 (d := d_law) rfl
  have F19 := He5.fun_of (st := s_law) D19
  have b := FunD.bindsA (ps := ["script"]) D19 fun _ _ _ _ _ _ us hl => match us, hl with | [_], _ => rfl
  refine ⟨fd19, fun s v => b s [v] rfl, fun base _ _ => ?_⟩
  have C_CopiesDiffer : GX.ErrX P w K mg base 1 "CopiesDiffer" (He.ga K "CopiesDiffer") (GX.sp_err2 K (He.ga K "CopiesDiffer") "left" "right") := ⟨GX.oex_ok (c.more 1 (e := .oex "CopiesDiffer") rfl), _, _, _, (GX.ini_ok (c.more 10 (e := .ini "CopiesDiffer") rfl)).1, (GX.ini_ok (c.more 10 (e := .ini "CopiesDiffer") rfl)).2, fn_CopiesDiffer_init (A := ⟨He.ga K "CopiesDiffer", He.ga K "LotError", He.ga K "OnecopyError", He.ga K "Stretch"⟩) FE0, He.glo_ok X GN (c.1.fact 20 (f := .glo "CopiesDiffer") rfl), bi_CopiesDiffer_init FE0⟩
  have C_height_over : C8.Cal P w K mg base 1 "height_over" (sp_height_over K ⟨He.ga K "CopiesDiffer", He.ga K "LotError", He.ga K "OnecopyError", He.ga K "Stretch"⟩) [] := ⟨_, _, _, [], fn_height_over F0 T C , He.glo_ok X GN (c.1.fact 0 (f := .glo "height_over") rfl), F0.kp, bi_height_over F0, .nil⟩
  have C_lifted : C8.Cal P w K mg base 2 "_lifted" (sp_lifted K ⟨He.ga K "CopiesDiffer", He.ga K "LotError", He.ga K "OnecopyError", He.ga K "Stretch"⟩) [] := ⟨_, _, _, [], fn_lifted F1 T C C_height_over, He.glo_ok X GN (c.1.fact 1 (f := .glo "_lifted") rfl), F1.kp, bi_lifted F1, .nil⟩
  have C_Stretch_init : C8.Mak P w K mg base 3 "Stretch" (He.ga K "Stretch") (sp_Stretch_init K ⟨He.ga K "CopiesDiffer", He.ga K "LotError", He.ga K "OnecopyError", He.ga K "Stretch"⟩) [] := ⟨_, _, _, [], He.mkr_ok (c.1.fact 2 (f := .mkr "Stretch") rfl), fn_Stretch_init F2 T C C_lifted, He.glo_ok X GN (c.1.fact 23 (f := .glo "Stretch") rfl), bi_Stretch_init F2, .nil⟩
  have C_Stretch_lift : C8.Met P w K mg base 1 (He.ga K "Stretch") "lift" (sp_Stretch_lift K ⟨He.ga K "CopiesDiffer", He.ga K "LotError", He.ga K "OnecopyError", He.ga K "Stretch"⟩) [] := ⟨_, _, _, [], C.c_Stretch, He.meth_ok (c.1.fact 3 (f := .meth "Stretch" "lift") rfl), fn_Stretch_lift F3 T C , bi_Stretch_lift F3, .nil⟩
  have C_Stretch_add : GX.AddX P w K mg base 5 (He.ga K "Stretch") (sp_Stretch_add K ⟨He.ga K "CopiesDiffer", He.ga K "LotError", He.ga K "OnecopyError", He.ga K "Stretch"⟩) := ⟨_, _, _, fn_Stretch_add F4 T C C_CopiesDiffer C_Stretch_init, (He.meth_ok (c.1.fact 4 (f := .meth "Stretch" "__add__") rfl)).at_, (He.meth_ok (c.1.fact 4 (f := .meth "Stretch" "__add__") rfl)).fn, bi_Stretch_add F4, GX.first_ok (c.more 11 (e := .first "Stretch") rfl)⟩
  have C_Stretch_eq : GX.EqX P w K mg base 1 (He.ga K "Stretch") (sp_Stretch_eq K ⟨He.ga K "CopiesDiffer", He.ga K "LotError", He.ga K "OnecopyError", He.ga K "Stretch"⟩) := ⟨_, _, _, fn_Stretch_eq F5 T C , (He.meth_ok (c.1.fact 5 (f := .meth "Stretch" "__eq__") rfl)).at_, (He.meth_ok (c.1.fact 5 (f := .meth "Stretch" "__eq__") rfl)).fn, bi_Stretch_eq F5⟩
  have C_Stretch_is_keepable : C8.Met P w K mg base 1 (He.ga K "Stretch") "is_keepable" (sp_Stretch_is_keepable K ⟨He.ga K "CopiesDiffer", He.ga K "LotError", He.ga K "OnecopyError", He.ga K "Stretch"⟩) [] := ⟨_, _, _, [], C.c_Stretch, He.meth_ok (c.1.fact 6 (f := .meth "Stretch" "is_keepable") rfl), fn_Stretch_is_keepable F6 T C , bi_Stretch_is_keepable F6, .nil⟩
  have C_law_is_integer : C8.Cal P w K mg base 1 "_law_is_integer" (sp_law_is_integer K ⟨He.ga K "CopiesDiffer", He.ga K "LotError", He.ga K "OnecopyError", He.ga K "Stretch"⟩) [] := ⟨_, _, _, [], fn_law_is_integer F7 T C , He.glo_ok X GN (c.1.fact 7 (f := .glo "_law_is_integer") rfl), F7.kp, bi_law_is_integer F7, .nil⟩
  have Ch_law_is_integer : GX.HotX P w K mg base 1 "_law_is_integer" (fun _ _ _ => sp_law_is_integer K ⟨He.ga K "CopiesDiffer", He.ga K "LotError", He.ga K "OnecopyError", He.ga K "Stretch"⟩) := ⟨_, _, _, fnh_law_is_integer F7 T, He.glo_ok X GN (c.1.fact 7 (f := .glo "_law_is_integer") rfl), F7.kp, bi_law_is_integer F7⟩
  have C_law_bag : C8.Cal P w K mg base 1 "_law_bag" (sp_law_bag K ⟨He.ga K "CopiesDiffer", He.ga K "LotError", He.ga K "OnecopyError", He.ga K "Stretch"⟩) [] := ⟨_, _, _, [], fn_law_bag F8 T C , He.glo_ok X GN (c.1.fact 8 (f := .glo "_law_bag") rfl), F8.kp, bi_law_bag F8, .nil⟩
  have C_law_take : C8.Cal P w K mg base 1 "_law_take" (sp_law_take K ⟨He.ga K "CopiesDiffer", He.ga K "LotError", He.ga K "OnecopyError", He.ga K "Stretch"⟩) [] := ⟨_, _, _, [], fn_law_take F9 T C , He.glo_ok X GN (c.1.fact 9 (f := .glo "_law_take") rfl), F9.kp, bi_law_take F9, .nil⟩
  have C_law_copies : C8.Cal P w K mg base 2 "_law_copies" (sp_law_copies K ⟨He.ga K "CopiesDiffer", He.ga K "LotError", He.ga K "OnecopyError", He.ga K "Stretch"⟩) [] := ⟨_, _, _, [], fn_law_copies F10 T C C_law_take, He.glo_ok X GN (c.1.fact 10 (f := .glo "_law_copies") rfl), F10.kp, bi_law_copies F10, .nil⟩
  have C_law_page : C8.Cal P w K mg base 2 "_law_page" (sp_law_page K ⟨He.ga K "CopiesDiffer", He.ga K "LotError", He.ga K "OnecopyError", He.ga K "Stretch"⟩) [] := ⟨_, _, _, [], fn_law_page F11 T C C_law_take, He.glo_ok X GN (c.1.fact 11 (f := .glo "_law_page") rfl), F11.kp, bi_law_page F11, .nil⟩
  have C_law_pages : C8.Cal P w K mg base 3 "_law_pages" (sp_law_pages K ⟨He.ga K "CopiesDiffer", He.ga K "LotError", He.ga K "OnecopyError", He.ga K "Stretch"⟩) [] := ⟨_, _, _, [], fn_law_pages F12 T C C_law_page C_law_take, He.glo_ok X GN (c.1.fact 12 (f := .glo "_law_pages") rfl), F12.kp, bi_law_pages F12, .nil⟩
  have C_law_height : C8.Cal P w K mg base 1 "_law_height" (sp_law_height K ⟨He.ga K "CopiesDiffer", He.ga K "LotError", He.ga K "OnecopyError", He.ga K "Stretch"⟩) [] := ⟨_, _, _, [], fn_law_height F13 T C , He.glo_ok X GN (c.1.fact 13 (f := .glo "_law_height") rfl), F13.kp, bi_law_height F13, .nil⟩
  have C_law_rise : C8.Cal P w K mg base 2 "_law_rise" (sp_law_rise K ⟨He.ga K "CopiesDiffer", He.ga K "LotError", He.ga K "OnecopyError", He.ga K "Stretch"⟩) [] := ⟨_, _, _, [], fn_law_rise F14 T C C_law_height, He.glo_ok X GN (c.1.fact 14 (f := .glo "_law_rise") rfl), F14.kp, bi_law_rise F14, .nil⟩
  have C_law_lift : C8.Cal P w K mg base 3 "_law_lift" (sp_law_lift K ⟨He.ga K "CopiesDiffer", He.ga K "LotError", He.ga K "OnecopyError", He.ga K "Stretch"⟩) [] := ⟨_, _, _, [], fn_law_lift F15 T C C_law_rise, He.glo_ok X GN (c.1.fact 15 (f := .glo "_law_lift") rfl), F15.kp, bi_law_lift F15, .nil⟩
  have C_law_fits : C8.Cal P w K mg base 4 "_law_fits" (sp_law_fits K ⟨He.ga K "CopiesDiffer", He.ga K "LotError", He.ga K "OnecopyError", He.ga K "Stretch"⟩) [] := ⟨_, _, _, [], fn_law_fits F16 T C C_Stretch_is_keepable C_Stretch_lift C_law_is_integer C_law_lift, He.glo_ok X GN (c.1.fact 16 (f := .glo "_law_fits") rfl), F16.kp, bi_law_fits F16, .nil⟩
  have C_law_differs : C8.Cal P w K mg base 6 "_law_differs" (sp_law_differs K ⟨He.ga K "CopiesDiffer", He.ga K "LotError", He.ga K "OnecopyError", He.ga K "Stretch"⟩) [] := ⟨_, _, _, [], fn_law_differs F17 T C Ch_law_is_integer C_Stretch_add, He.glo_ok X GN (c.1.fact 17 (f := .glo "_law_differs") rfl), F17.kp, bi_law_differs F17, .nil⟩
  have C_law_sums : C8.Cal P w K mg base 6 "_law_sums" (sp_law_sums K ⟨He.ga K "CopiesDiffer", He.ga K "LotError", He.ga K "OnecopyError", He.ga K "Stretch"⟩) [] := ⟨_, _, _, [], fn_law_sums F18 T C C_Stretch_add C_Stretch_eq C_Stretch_init C_law_fits, He.glo_ok X GN (c.1.fact 18 (f := .glo "_law_sums") rfl), F18.kp, bi_law_sums F18, .nil⟩
  exact fn_law F19 T C C_Stretch_add C_Stretch_eq C_Stretch_init C_law_bag C_law_copies C_law_differs C_law_fits C_law_pages C_law_sums C_law_take
end G

open PySem PySem.W PySem.Calls PyProof.Rows in
set_option maxRecDepth 100000 in
set_option maxHeartbeats 0 in
theorem PySem.Challenge.cw_onecopy_k28_stretch_sums_holds : PySem.Challenge.rw_onecopy_k28_stretch_sums.Holds := by
  w_on; o_law
  refine HandSHeadRun.head_any (r := OpenLaw.row PySem.Challenge.rw_onecopy_k28_stretch_sums) (q := view (OpenLaw.row PySem.Challenge.rw_onecopy_k28_stretch_sums).prog [21]) (H := G.hkS) (ob := G.obS) (M := 8000) (loose := G.looseS) (d := HandSHeadRun.topDef (OpenLaw.row PySem.Challenge.rw_onecopy_k28_stretch_sums).prog 21) (kwd := []) G.obS_eq
    (by kernel_rfl) (fun s => by kernel_rfl) G.runS (by kernel_rfl) (by kernel_rfl) (by kernel_rfl) (by rfl) (by first | assumption | decide +kernel) (by decide +kernel) ⟨rfl, rfl, rfl, rfl, rfl, by decide +kernel⟩ ?hw ?hc
  case hw => w_witness2
  case hc =>
    refine L2.walk_ofE (l := PySem.Challenge.rw_onecopy_k28_stretch_sums) (n := 63) (k := 7) (x := "script") (CX := L2.CX0) rfl (by decide) (by kernel_rfl) ⟨rfl, by decide, by decide⟩ ?F (fun _ _ _ _ z => z)
    intro w mg fa h Y GN hmg0
    obtain ⟨K, KX, c⟩ := Y
    have hmg : mg ("law" : PySem.Str) = some (.ref fa) := by
      have e : (HandSHeadRun.topDef (OpenLaw.row PySem.Challenge.rw_onecopy_k28_stretch_sums).prog 21).name = ("law" : PySem.Str) := by kernel_rfl
      rw [← e]
      exact hmg0
    obtain ⟨fd, hb, hF⟩ := G.factsS (P := (PySem.Challenge.rw_onecopy_k28_stretch_sums).prog) (w := w) KX GN hmg c
    exact ⟨K, fd, G.sp_law K _, KX, hb, fun H a ns hl _ hS => ⟨a, ns, rfl, hS, hl, fun _ => rfl⟩, hF⟩