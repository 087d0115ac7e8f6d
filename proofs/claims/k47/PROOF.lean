import PyProof.Rows.All
import Wide.All
import OpenK.AllK
import Wide.FinOn
import HandS.ForMost
import HandS.Deep
import HandS.Flow
import HandS.IsInst
import HandS.Conv
import HandS.SortRule
import HandS.SortInts
import HandS.SetFor
import HandS.More
import HandS.Codes
import HandS.Style
import HandS.Walk
import HandS.ForExc
import HandS.ExcInit
import HandS.ExcField
import HandS.ExcIs
import HandS.ExcOwn
import HandS.TryOnly
import HandS.WordsExc
import HandS.HotCalls
import HandS.OwnEq
import HandS.Property
import OpenK.KMeth
import KE.KExcIs
import HandS.MethStar
import HandS.SetFor
import HandS.Set
import HandS.Strs
import HandS.SortInts
import HandS.Comp
import HandS.TryMany
import HandS.Star
import HandS.Conv
import HandS.Rev
import HandS.RevRange
import KE.KStateDown
import HandS.Defaults
import HandS.Head0
import HandS.Head1
import HandS.Head2
import HandS.HeadEnd
import HandS.HeadHook1
import HandS.HeadHook2
import HandS.HeadNt
import HandS.ClsMeth
import HandS.Zip
import HandS.TupAny
import HandS.MakeKwOnly
import HandS.Walk
import HandS.CallSlots
import HandS.Iter
import PySem.Challenge.RW_onecopy_k47_whole_least_start
set_option Elab.async false
set_option linter.all false
set_option maxRecDepth 100000
set_option maxHeartbeats 4000000

/-! The ground: relations under names of their own, steps of a reading, facts of heaps. -/
namespace G
open PySem PySem.Spec PyProof.Rows L2

/-! ### relations by name -/
def oAdd : R2 := rI0 fun i j => .int (i + j)
def oSub : R2 := rI0 fun i j => .int (i - j)
def oMul : R2 := rI CMul fun i j => .int (i * j)
def oDiv : R2 := rI CDiv fun i j => .int (i / j)
def oMod : R2 := rI (fun _ j => 0 < j) fun i j => .int (i % j)
def oPow : R2 := rI CPow fun i j => .int (i ^ j.toNat)
def oLt : R2 := rI0 fun i j => .bl (decide (i < j))
def oLe : R2 := rI0 fun i j => .bl (decide (i ≤ j))
def oGt : R2 := rI0 fun i j => .bl (decide (j < i))
def oGe : R2 := rI0 fun i j => .bl (decide (j ≤ i))
def oNeg : V → Hp → VK → Prop := rU fun i => .int (-i)
abbrev RL := List V → Hp → VK → Prop
def oAbs : RL := fun xs H Q => ∃ i, xs = [.int i] ∧ Q (.int (if i < 0 then -i else i)) H
def oMax2 : RL := fun xs H Q => ∃ i j, xs = [.int i, .int j] ∧ Q (.int (if j > i then j else i)) H
def oMin2 : RL := fun xs H Q => ∃ i j, xs = [.int i, .int j] ∧ Q (.int (if j < i then j else i)) H
def oInt : RL := fun xs H Q => (∃ i, xs = [.int i] ∧ Q (.int i) H) ∨ ∃ k, xs = [.bl k] ∧ Q (.int (if k then 1 else 0)) H
def rLenQ (K : PySem.W.Frag) : RL := fun xs H Q => ∃ p ys, xs = [.ref p] ∧ (SqL K H p ys ∨ SqT K H p ys) ∧ Q (.int ys.length) H
def oListOf (K : PySem.W.Frag) : RL := fun xs H Q => ∃ p ys, xs = [.ref p] ∧ (SqL K H p ys ∨ SqT K H p ys) ∧ ∀ l, H l = none → Q (.ref l) (upd H l (.lst ys))
def oListD : RL := fun xs H Q => ∃ d kvs, xs = [V.ref d] ∧ Rd H d (.dT kvs) ∧ ∀ p bs, H p = none → IsKeys H kvs bs → Q (.ref p) (upd H p (.lst (bs.map V.ref)))
def oInsert : V → List V → Hp → VK → Prop := fun x vs H Q => ∃ (l : Addr) (xs : List V) (i : Int) (y : V), x = .ref l ∧ vs = [.int i, y] ∧ H l = some (.lst xs) ∧ xs.length < sizeLine ∧ 0 ≤ i ∧ i < 2 ^ 63 ∧
    Q .non (upd H l (.lst (xs.take i.toNat ++ [y] ++ xs.drop i.toNat)))
def tTruK (K : PySem.W.Frag) (ta : TE) : TT := fun σ H Q => ta σ H fun x H' => ∃ k, TruV K x H' k ∧ Q k H'

theorem hu65 {A : Around} {k : Nat} (hr : Room k A) : A.units + 65 < cLine := by have := hr.un; omega
/-- xs[i] op= e -/
theorem pget_list {X : Cx} : PGet X (rIxL X.K) := by
  intro pn st sg Hh xo yo vo uo Qo Io r1 r2 hyp
  obtain ⟨pp, items, ii, zz, rfl, rfl, hsq, hat, hQ⟩ := hyp
  cases r1
  obtain ⟨tk, rfl⟩ := r2
  obtain ⟨raw, rel, isl, _⟩ := Io.list hsq
  obtain ⟨jj, e1, e2, e3, e4, e5⟩ := atI_get hat
  obtain ⟨ww, e6, rw'⟩ := rel.get e2
  have hlen := rel.length
  have h63 := line63
  have done : EP X pn sg Qo ww st := ⟨zz, Hh, Io, rw', hQ⟩
  by_cases hn : 0 ≤ ii
  · have ej : ii.toNat = jj := by
      rw [seqIndex_of hn e5] at e1; exact Option.some.inj e1
    exact wpAny_getItem_list isl.isList hn (by omega) (by rw [ej]; simpa using e6) done
  · have ej : (ii + (raw.toArray.size : Int)).toNat = jj := by
      rw [seqIndex_neg (by omega) e4] at e1; rw [List.size_toArray, ← hlen]; exact Option.some.inj e1
    exact wpAny_getItem_list_neg isl.isList (by omega) (by rw [List.size_toArray] <;> omega) (by omega) (by rw [ej]; simpa using e6) done

/-! ### heaps -/
section
variable {H H' H1 H2 H3 : Hp} {p q s : Addr} {o o' : HO}
theorem keep (h : H q = some o) (hp : H p = none) : upd H p o' q = some o := by rw [upd_ne (ne_of_none h hp)]; exact h
theorem keepNe (h : H q = some o) (hp : q ≠ p) : upd H p o' q = some o := by rw [upd_ne hp]; exact h
theorem same_new (h : H p = none) : Same H (upd H p o) := fun _ _ e => keep e h
theorem same_mut (e : Same H H') (h : H p = none) : Same H (upd H' p o) := fun b u hb => by rw [upd_ne (ne_of_none hb h)]; exact e b u hb
/-- all that was tracked is as it was, s aside -/
def But (s : Addr) (H H' : Hp) : Prop := ∀ b o, b ≠ s → H b = some o → H' b = some o
theorem But.refl : But s H H := fun _ _ _ h => h
theorem Same.but (e : Same H H') : But s H H' := fun b o _ h => e b o h
theorem But.trans (a : But s H H1) (b : But s H1 H2) : But s H H2 := fun c o n h => b c o n (a c o n h)
theorem But.new (e : But s H H') (h : H' p = none) : But s H (upd H' p o) := fun b u n hb => keep (e b u n hb) h
theorem But.mut (e : But s H H') (h : H p = none) : But s H (upd H' p o) := fun b u n hb => by rw [upd_ne (ne_of_none hb h)]; exact e b u n hb
theorem But.self (e : But s H H') : But s H (upd H' s o) := fun b u n hb => by rw [upd_ne n]; exact e b u n hb
theorem But.free (e : But s H H') (h : H s = some o) (hs : H' s = some o') (hp : H' p = none) : H p = none := by
  cases q : H p with
  | none => rfl
  | some u =>
    by_cases hn : p = s
    · rw [hn, hs] at hp; cases hp
    · rw [e p u hn q] at hp; cases hp
theorem SqL.same {K : PySem.W.Frag} {xs : List V} (h : SqL K H p xs) (e : Same H H') : SqL K H' p xs := e.seq h
theorem SqL.but {K : PySem.W.Frag} {xs ys : List V} (e : But s H H') (hs : H s = some (.lst ys)) (hn : p ≠ s) (h : SqL K H p xs) : SqL K H' p xs := by
  rcases h with (h | ⟨o, h⟩) | h
  · exact .inl (.inl (e _ _ hn h))
  · exact .inl (.inr ⟨o, e _ _ hn h⟩)
  · exact .inr h
end

/-! ### steps -/
section
variable {K : PySem.W.Frag} {σ : L2.St} {H : Hp} {Q : VK} {D : Ends} {v x y : V} {i : Nat} {ta tb tc te tv to ti : TE} {t u : TS} {tt tu : TT} {tl tr : TA} {p C dx : Addr}
theorem w_seq (h : t { D with nx := u D } σ H) : tSeq t u D σ H := h
theorem w_next (h : D.nx σ H) : tNext D σ H := h
theorem w_ret (h : te σ H D.rt) : tRet te D σ H := h
theorem w_retN (h : D.rt .non H) : tRetN D σ H := h
theorem w_drop (h : te σ H fun _ H1 => D.nx σ H1) : tDrop te D σ H := h
theorem w_brk (h : D.bk σ H) : tBreak D σ H := h
theorem w_cont (h : D.ct σ H) : tCont D σ H := h
theorem w_asg {g : TG} (h : te σ H fun x H1 => g x σ H1 D.nx) : tAsg te g D σ H := h
theorem w_name {R : L2.St → Hp → Prop} (h : R (σ.set i (some v)) H) : gName i v σ H R := h
theorem w_sub {R : L2.St → Hp → Prop} {ts : TSet} (h : to σ H fun o H1 => ti σ H1 fun j H2 => ts o j v H2 fun H3 => R σ H3) : gSub to ti ts v σ H R := h
theorem w_setL {R : Hp → Prop} {xs : List V} {k : Int} {j : Nat} (h : H p = some (.lst xs)) (hj : ixN xs.length k = some j) (q : R (upd H p (.lst (xs.set j v)))) : rSetL (.ref p) (.int k) v H R := ⟨p, xs, k, j, rfl, rfl, h, hj, q⟩
theorem w_var (h : σ[i]? = some (some v)) (q : Q v H) : tVar i σ H Q := ⟨v, h, q⟩
theorem w_c (q : Q v H) : tC v σ H Q := q
theorem w_op {r : R2} (h : ta σ H fun x H1 => tb σ H1 fun y H2 => r x y H2 Q) : tOp r ta tb σ H Q := h
theorem w_un {r : V → Hp → VK → Prop} (h : ta σ H fun x H1 => r x H1 Q) : tUn r ta σ H Q := h
theorem w_oAdd {a b : Int} (q : Q (.int (a + b)) H) : oAdd (.int a) (.int b) H Q := ⟨a, b, rfl, rfl, q⟩
theorem w_oSub {a b : Int} (q : Q (.int (a - b)) H) : oSub (.int a) (.int b) H Q := ⟨a, b, rfl, rfl, q⟩
theorem w_oMulL {a b : Int} (h0 : -18446744073709551616 < a) (h1 : a < 18446744073709551616) (q : Q (.int (a * b)) H) : oMul (.int a) (.int b) H Q := ⟨a, b, rfl, rfl, .inl ⟨h0, h1⟩, q⟩
theorem w_oMulR {a b : Int} (h0 : -18446744073709551616 < b) (h1 : b < 18446744073709551616) (q : Q (.int (a * b)) H) : oMul (.int a) (.int b) H Q := ⟨a, b, rfl, rfl, .inr ⟨h0, h1⟩, q⟩
theorem w_oDiv {a b : Int} (h0 : 0 < b) (h1 : b < 1073741824) (q : Q (.int (a / b)) H) : oDiv (.int a) (.int b) H Q := ⟨a, b, rfl, rfl, ⟨h0, h1⟩, q⟩
theorem w_oMod {a b : Int} (hc : 0 < b) (q : Q (.int (a % b)) H) : oMod (.int a) (.int b) H Q := ⟨a, b, rfl, rfl, hc, q⟩
theorem w_oPow {a b : Int} (h0 : 0 ≤ b) (h1 : b ≤ 1000000) (h2 : a.natAbs < 18446744073709551616) (q : Q (.int (a ^ b.toNat)) H) : oPow (.int a) (.int b) H Q := ⟨a, b, rfl, rfl, ⟨h0, h1, h2⟩, q⟩
theorem w_oLt {a b : Int} (q : Q (.bl (decide (a < b))) H) : oLt (.int a) (.int b) H Q := ⟨a, b, rfl, rfl, q⟩
theorem w_oLe {a b : Int} (q : Q (.bl (decide (a ≤ b))) H) : oLe (.int a) (.int b) H Q := ⟨a, b, rfl, rfl, q⟩
theorem w_oGt {a b : Int} (q : Q (.bl (decide (b < a))) H) : oGt (.int a) (.int b) H Q := ⟨a, b, rfl, rfl, q⟩
theorem w_oGe {a b : Int} (q : Q (.bl (decide (b ≤ a))) H) : oGe (.int a) (.int b) H Q := ⟨a, b, rfl, rfl, q⟩
theorem w_oNeg {a : Int} (q : Q (.int (-a)) H) : oNeg (.int a) H Q := ⟨a, rfl, q⟩
theorem w_eqI {a b : Int} (q : Q (.bl (decide (a = b))) H) : rEq (.int a) (.int b) H Q := ⟨rfl, by
  have e : (decide (V.int a = V.int b)) = decide (a = b) := by simp
  rw [e]; exact q⟩
theorem w_neI {a b : Int} (q : Q (.bl (!decide (a = b))) H) : rNe (.int a) (.int b) H Q := ⟨rfl, by
  have e : (decide (V.int a = V.int b)) = decide (a = b) := by simp
  rw [e]; exact q⟩
theorem w_eqB {a b : Bool} (q : Q (.bl (decide (a = b))) H) : rEq (.bl a) (.bl b) H Q := ⟨rfl, by
  have e : (decide (V.bl a = V.bl b)) = decide (a = b) := by simp
  rw [e]; exact q⟩
theorem w_chain {r r' : R2} (h : ta σ H fun x H1 => tb σ H1 fun y H2 => r x y H2 fun z H3 => ∃ k, z = .bl k ∧ (if k = true then tc σ H3 fun w' H4 => r' y w' H4 Q else Q (.bl false) H3)) : tChain r r' ta tb tc σ H Q := h
/-- a known answer -/
theorem w_ex {P : Bool → Prop} {b : Bool} (q : P b) : ∃ k, V.bl b = .bl k ∧ P k := ⟨b, rfl, q⟩
theorem w_test {Qb : Bool → Hp → Prop} (h : te σ H fun x H' => ∃ k, x = .bl k ∧ Qb k H') : tTest te σ H Qb := h
theorem w_tB {Qb : Bool → Hp → Prop} (h : te σ H fun x H' => ∃ k, x = .bl k ∧ Qb k H') : tB te σ H Qb := h
theorem w_and {Qb : Bool → Hp → Prop} (h : tt σ H fun c H1 => if c = true then tu σ H1 Qb else Qb false H1) : tAnd tt tu σ H Qb := h
theorem w_or {Qb : Bool → Hp → Prop} (h : tt σ H fun c H1 => if c = true then Qb true H1 else tu σ H1 Qb) : tOr tt tu σ H Qb := h
theorem w_not {Qb : Bool → Hp → Prop} (h : tt σ H fun c H1 => Qb (!c) H1) : tNot tt σ H Qb := h
theorem w_andV (h : ta σ H fun x H1 => ∃ c, x = .bl c ∧ (if c = true then tb σ H1 Q else Q (.bl false) H1)) : tAndV ta tb σ H Q := h
theorem w_orV (h : ta σ H fun x H1 => ∃ c, x = .bl c ∧ (if c = true then Q (.bl true) H1 else tb σ H1 Q)) : tOrV ta tb σ H Q := h
theorem w_notV (h : ta σ H fun x H1 => ∃ c, x = .bl c ∧ Q (.bl (!c)) H1) : tNotV ta σ H Q := h
theorem w_if (h : tt σ H fun b H1 => if b = true then t D σ H1 else u D σ H1) : tIfS tt t u D σ H := h
theorem w_ifE (h : tt σ H fun c H1 => if c = true then ta σ H1 Q else tb σ H1 Q) : tIf tt ta tb σ H Q := h
theorem w_nil {Ql : List V → Hp → Prop} (h : Ql [] H) : tNil σ H Ql := h
theorem w_cons {Ql : List V → Hp → Prop} (h : ta σ H fun x H1 => tr σ H1 fun xs H2 => Ql (x :: xs) H2) : tCons ta tr σ H Ql := h
theorem w_tup (h : tl σ H fun xs H1 => xs.length ≤ sizeLine ∧ ∀ p, H1 p = none → Q (.ref p) (upd H1 p (.tup xs))) : tTup tl σ H Q := h
theorem w_lst (h : tl σ H fun xs H1 => xs.length ≤ sizeLine ∧ ∀ p, H1 p = none → Q (.ref p) (upd H1 p (.lst xs))) : tLst tl σ H Q := h
theorem w_small {n : Nat} {P : Prop} (hn : n ≤ 100) (h : P) : n ≤ sizeLine ∧ P := ⟨Nat.le_trans hn (by decide), h⟩
theorem w_call {sp : Sp} {E : XK} (h : tl σ H fun vs H1 => sp vs H1 Q E) : tCall sp [] E tl σ H Q := by
  show tl σ H fun vs H1 => sp (vs ++ []) H1 Q E
  simp only [List.append_nil]; exact h
theorem w_meth {sp : Sp} {m : Str} {E : XK} (h : ta σ H fun x H1 => ∃ a dx fs, x = .ref a ∧ H1 a = some (.ins C dx fs) ∧ fs.lookup m = none ∧ tl σ H1 fun vs H2 => sp (x :: vs) H2 Q E) : tMeth C m sp [] E ta tl σ H Q := by
  show ta σ H fun x H1 => ∃ a dx fs, x = .ref a ∧ H1 a = some (.ins C dx fs) ∧ fs.lookup m = none ∧ tl σ H1 fun vs H2 => sp (x :: (vs ++ [])) H2 Q E
  simp only [List.append_nil]; exact h
theorem w_make {sp : Sp} {E : XK} (h : tl σ H fun vs H1 => ∀ x dx, H1 x = none → H1 dx = none → dx ≠ x → sp (.ref x :: vs) (upd (upd H1 dx (.own x)) x (.ins C dx [])) (fun v H2 => v = .non ∧ Q (.ref x) H2) E) : tMake C sp [] E tl σ H Q := by
  show tl σ H fun vs H1 => ∀ x dx, H1 x = none → H1 dx = none → dx ≠ x → sp (.ref x :: (vs ++ [])) (upd (upd H1 dx (.own x)) x (.ins C dx [])) (fun v H2 => v = .non ∧ Q (.ref x) H2) E
  simp only [List.append_nil]; exact h
theorem w_cb {r : RL} (h : tl σ H fun vs H1 => r vs H1 Q) : tCB r tl σ H Q := h
theorem w_oInt {a : Int} (q : Q (.int a) H) : oInt [.int a] H Q := .inl ⟨a, rfl, q⟩
theorem w_oAbs {a : Int} (q : Q (.int (if a < 0 then -a else a)) H) : oAbs [.int a] H Q := ⟨a, rfl, q⟩
theorem w_oMax2 {a b : Int} (q : Q (.int (if b > a then b else a)) H) : oMax2 [.int a, .int b] H Q := ⟨a, b, rfl, q⟩
theorem w_oMin2 {a b : Int} (q : Q (.int (if b < a then b else a)) H) : oMin2 [.int a, .int b] H Q := ⟨a, b, rfl, q⟩
theorem w_lenL {xs : List V} (h : SqL K H p xs) (q : Q (.int xs.length) H) : rLenQ K [.ref p] H Q := ⟨p, xs, rfl, .inl h, q⟩
theorem w_listL {xs : List V} (h : SqL K H p xs) (q : ∀ l, H l = none → Q (.ref l) (upd H l (.lst xs))) : oListOf K [.ref p] H Q := ⟨p, xs, rfl, .inl h, q⟩
theorem w_ixL {xs : List V} {k : Int} (h : SqL K H p xs) (ha : atI xs k = some v) (q : Q v H) : rIxL K (.ref p) (.int k) H Q := ⟨p, xs, k, v, rfl, rfl, h, ha, q⟩
theorem w_ixT {xs : List V} {k : Int} (h : H p = some (.tup xs)) (ha : atI xs k = some v) (q : Q v H) : rIxT K (.ref p) (.int k) H Q := ⟨p, xs, k, v, rfl, rfl, .inl (.inl h), ha, q⟩
theorem w_fld {f : Str} (h : ta σ H fun x H1 => ∃ a C dx fs v, x = .ref a ∧ H1 a = some (.ins C dx fs) ∧ Cls K C ∧ NoAttr K C f ∧ fs.lookup f = some v ∧ Q v H1) : tFld K ta f σ H Q := h
theorem w_bm {Tn : String} {r : V → List V → Hp → VK → Prop} (h : to σ H fun x H1 => tyV K Tn x H1 ∧ tl σ H1 fun xs H2 => r x xs H2 Q) : tBM K Tn r to tl σ H Q := h
theorem w_bm0 {Tn : String} {r : V → List V → Hp → VK → Prop} (h : to σ H fun x H1 => tyV K Tn x H1 ∧ r x [] H1 Q) : tBM0 K Tn r to σ H Q := h
theorem w_tyL {P : Prop} {xs : List V} (h : SqL K H p xs) (q : P) : tyV K "list" (.ref p) H ∧ P := ⟨.inl ⟨rfl, xs, h⟩, q⟩
theorem w_append {xs : List V} (h : H p = some (.lst xs)) (hl : xs.length < sizeLine) (q : Q .non (upd H p (.lst (xs ++ [v])))) : rAppend (.ref p) [v] H Q := ⟨p, xs, v, rfl, rfl, h, hl, q⟩
theorem w_cat {b : Addr} {xs ys : List V} (h : H p = some (.lst xs)) (hb : H b = some (.lst ys)) (hl : xs.length + ys.length ≤ sizeLine) (q : ∀ l, H l = none → Q (.ref l) (upd H l (.lst (xs ++ ys)))) : rCat (.ref p) (.ref b) H Q := ⟨p, b, xs, ys, rfl, rfl, h, hb, hl, q⟩
theorem w_sl {r : V → Option Int → Option Int → Hp → VK → Prop} {lo hi : TO} (h : te σ H fun x H1 => lo σ H1 fun l H2 => hi σ H2 fun u H3 => r x l u H3 Q) : tSl r te lo hi σ H Q := h
theorem w_noPart {R : Option Int → Hp → Prop} (h : R none H) : tNoPart σ H R := h
theorem w_part {R : Option Int → Hp → Prop} (h : te σ H fun x H1 => ∃ i, x = .int i ∧ R (some i) H1) : tPart te σ H R := h
theorem w_exI {P : Int → Prop} {a : Int} (q : P a) : ∃ k, V.int a = .int k ∧ P k := ⟨a, rfl, q⟩
theorem w_slL {xs : List V} {lo hi : Option Int} (h : SqL K H p xs) (q : ∀ l, H l = none → Q (.ref l) (upd H l (.lst (cutV xs lo hi)))) : rSlL K (.ref p) lo hi H Q := ⟨p, xs, rfl, h, q⟩
theorem w_gNil {R : L2.St → Hp → Prop} (h : R σ H) : gNil [] σ H R := ⟨rfl, h⟩
theorem w_gCons {R : L2.St → Hp → Prop} {g : TG} {gs : TGs} {vs : List V} (h : g v σ H fun σ' H' => gs vs σ' H' R) : gCons g gs (v :: vs) σ H R := ⟨v, vs, rfl, h⟩
theorem w_gTup {R : L2.St → Hp → Prop} {n : Nat} {gs : TGs} {vs : List V} (h : H p = some (.tup vs)) (hn : vs.length = n) (q : gs vs σ H R) : gTup K n gs (.ref p) σ H R := ⟨p, vs, rfl, .inl (.inl h), hn, q⟩
theorem w_listRg {te : L2.St → Hp → (Int → Int → Hp → Prop) → Prop} (h : te σ H fun a b H1 => RgOk a b ∧ ∀ q, H1 q = none → Q (.ref q) (upd H1 q (.lst (rgV a b)))) : tLstRg te σ H Q := h
theorem w_rg1 {R : Int → Int → Hp → Prop} (h : ta σ H fun x H1 => ∃ n, x = .int n ∧ R 0 n H1) : tRg1 ta σ H R := h
theorem w_augS {tget : V → V → Hp → VK → Prop} {tip : TIp} {ts : TSet} (h : to σ H fun o H1 => ti σ H1 fun i H2 => tget o i H2 fun x H3 => te σ H3 fun y H4 => tip x y H4 fun z H5 => ts o i z H5 fun H6 => D.nx σ H6) : tAugS to ti te tget tip ts D σ H := h
theorem w_ipI {f : Int → Int → Int} {a b : Int} (q : Q (.int (f a b)) H) : ipI f (.int a) (.int b) H Q := ⟨a, b, rfl, rfl, q⟩
theorem w_sum {xs : List Int} (h : SqL K H p (xs.map V.int)) (q : Q (.int xs.sum) H) : rSum K [.ref p] H Q := ⟨p, xs, rfl, h, q⟩
theorem w_iteD {A B : Prop} {c : Prop} [Decidable c] (h1 : c → A) (h2 : ¬ c → B) : if decide c = true then A else B := by
  by_cases h : c
  · rw [decide_eq_true h]; exact h1 h
  · rw [decide_eq_false h, if_neg Bool.false_ne_true]; exact h2 h
theorem w_iteN {A B : Prop} {c : Prop} [Decidable c] (h1 : ¬ c → A) (h2 : c → B) : if (!decide c) = true then A else B := by
  by_cases h : c
  · rw [decide_eq_true h]; exact h2 h
  · rw [decide_eq_false h]; exact h1 h
theorem w_iteT {A B : Prop} (h : A) : if true = true then A else B := h
theorem w_iteF {A B : Prop} (h : B) : if false = true then A else B := by rw [if_neg Bool.false_ne_true]; exact h

theorem w_cut (M : L2.St → Hp → Prop) (h1 : t { D with nx := M } σ H) (h2 : ∀ σ1 H1, M σ1 H1 → u D σ1 H1) : C8.tCut t u D σ H := ⟨M, h1, h2⟩
theorem w_yes {R : Bool → Hp → Prop} (q : R true H) : tYes σ H R := q
theorem w_exA {P : Int → Prop} {n : Int} (q : P n) : ∃ m, [V.int n] = [V.int m] ∧ P m := ⟨n, rfl, q⟩
theorem w_exA2 {P : Int → Int → Prop} {n m : Int} (q : P n m) : ∃ a b, [V.int n, V.int m] = [V.int a, V.int b] ∧ P a b := ⟨n, m, rfl, q⟩
theorem w_exR {P : Addr → Prop} (q : P p) : ∃ m, V.ref p = .ref m ∧ P m := ⟨p, rfl, q⟩
theorem w_exRA {P : Addr → Prop} (q : P p) : ∃ m, [V.ref p] = [.ref m] ∧ P m := ⟨p, rfl, q⟩
theorem w_exRA2 {P : Addr → Addr → Prop} {p2 : Addr} (q : P p p2) : ∃ m m2, [V.ref p, .ref p2] = [.ref m, .ref m2] ∧ P m m2 := ⟨p, p2, rfl, q⟩
theorem w_acc {xs : List V} {P : List V → Prop} (h : H p = some (.lst xs)) (hl : xs.length < sizeLine) (q : P xs) : ∃ acc, H p = some (.lst acc) ∧ acc.length < sizeLine ∧ P acc := ⟨xs, h, hl, q⟩
theorem w_fld2 {P : V → Prop} {f : Str} {fs : List (Str × V)} (h : H p = some (.ins C dx fs)) (hc : Cls K C) (hn : NoAttr K C f) (hl : fs.lookup f = some v) (q : P v) :
    ∃ a C dx fs w, V.ref p = .ref a ∧ H a = some (.ins C dx fs) ∧ Cls K C ∧ NoAttr K C f ∧ fs.lookup f = some w ∧ P w := ⟨p, C, dx, fs, v, rfl, h, hc, hn, hl, q⟩
theorem w_mth {P : Addr → Prop} {m : Str} {fs : List (Str × V)} (h : H p = some (.ins C dx fs)) (hl : fs.lookup m = none) (q : P p) :
    ∃ a dx fs, V.ref p = .ref a ∧ H a = some (.ins C dx fs) ∧ fs.lookup m = none ∧ P p := ⟨p, dx, fs, rfl, h, hl, q⟩
theorem w_sfld {f : Str} (h : tv σ H fun y H1 => to σ H1 fun x H2 => ∃ a C dx fs, x = .ref a ∧ H2 a = some (.ins C dx fs) ∧ Cls K C ∧ NoAttr K C f ∧ fs.length < 1000 ∧ D.nx σ (upd H2 a (.ins C dx (putF f y fs)))) : sFld K to tv f D σ H := h
theorem w_sfld2 {P : Hp → Prop} {f : Str} {fs : List (Str × V)} (h : H p = some (.ins C dx fs)) (hc : Cls K C) (hn : NoAttr K C f) (hl : fs.length < 1000) (q : P (upd H p (.ins C dx (putF f v fs)))) :
    ∃ a C dx fs, V.ref p = .ref a ∧ H a = some (.ins C dx fs) ∧ Cls K C ∧ NoAttr K C f ∧ fs.length < 1000 ∧ P (upd H a (.ins C dx (putF f v fs))) := ⟨p, C, dx, fs, rfl, h, hc, hn, hl, q⟩
theorem w_never (h : False) : tNever D σ H := h
theorem w_augName {ti : TIp} (h : σ[i]? = some (some v)) (q : te σ H fun y H1 => ti v y H1 fun z H2 => D.nx (σ.set i (some z)) H2) : tAug i te ti D σ H := ⟨v, h, q⟩

theorem at0 {a : V} {r : List V} : atI (a :: r) 0 = some a := atI_nat (xs := a :: r) (j := 0) rfl
theorem at1 {a b : V} {r : List V} : atI (a :: b :: r) 1 = some b := atI_nat (xs := a :: b :: r) (j := 1) rfl
theorem at2 {a b c : V} {r : List V} : atI (a :: b :: c :: r) 2 = some c := atI_nat (xs := a :: b :: c :: r) (j := 2) rfl
theorem at3 {a b c d : V} {r : List V} : atI (a :: b :: c :: d :: r) 3 = some d := atI_nat (xs := a :: b :: c :: d :: r) (j := 3) rfl
theorem at4 {a b c d e : V} {r : List V} : atI (a :: b :: c :: d :: e :: r) 4 = some e := atI_nat (xs := a :: b :: c :: d :: e :: r) (j := 4) rfl
theorem ixn {n : Nat} {k : Int} {j : Nat} (e : k = (j : Int)) (h : j < n) : ixN n k = some j := by
  unfold ixN; rw [e, if_pos (by omega), if_pos (by omega)]; simp
theorem ix0 {a : V} {r : List V} : ixN (a :: r).length 0 = some 0 := ixn rfl (by simp)
theorem ix1 {a b : V} {r : List V} : ixN (a :: b :: r).length 1 = some 1 := ixn rfl (by simp)
theorem ix2 {a b c : V} {r : List V} : ixN (a :: b :: c :: r).length 2 = some 2 := ixn rfl (by simp)
theorem atn {xs : List V} {k : Int} {j : Nat} {v : V} (e : k = (j : Int)) (h : xs[j]? = some v) : atI xs k = some v := by rw [e]; exact atI_nat h
theorem ati {xs : List Int} {k : Int} (h0 : 0 ≤ k) (h1 : k < xs.length) : atI (xs.map V.int) k = some (V.int (xs.getD k.toNat 0)) := by
  refine atn (j := k.toNat) (by omega) ?_
  rw [List.getElem?_map, List.getElem?_eq_getElem (by omega), List.getD_eq_getElem?_getD, List.getElem?_eq_getElem (by omega)]; rfl

/-! ### loops -/
/-- a loop whose iterator has come -/
def ForW (J : It) (g : TG) (tb : TS) (D : Ends) (σ : L2.St) (H : Hp) : Prop := tFor (fun _ H R => R J H) g tb D σ H
theorem w_forR1 {g : TG} {tb : TS} (h : tl σ H fun vs H1 => ∃ n : Int, vs = [.int n] ∧ -(2 ^ 62) ≤ n ∧ n < 2 ^ 62 ∧ ForW (Itr 0 n.toNat) g tb D σ H1) : tFor (iRng1 tl) g tb D σ H := h
theorem w_forR2 {g : TG} {tb : TS} (h : tl σ H fun vs H1 => ∃ m n : Int, vs = [.int m, .int n] ∧ (-(2 ^ 62) ≤ m ∧ m < 2 ^ 62 ∧ -(2 ^ 62) ≤ n ∧ n < 2 ^ 62) ∧ ForW (Itr m (n - m).toNat) g tb D σ H1) : tFor (iRng2 tl) g tb D σ H := h
theorem w_forL {g : TG} {tb : TS} (h : te σ H fun x H1 => ∃ a, x = .ref a ∧ (∃ xs, SqL K H1 a xs) ∧ ForW (Itl K a) g tb D σ H1) : tFor (iList K te) g tb D σ H := h
theorem w_forZ {g : TG} {tb : TS} (h : tl σ H fun vs H1 => ∃ a b xs ys, vs = [.ref a, .ref b] ∧ SqL K H1 a xs ∧ SqL K H1 b ys ∧ ForW (Itz K a b) g tb D σ H1) : tFor (iZip K tl) g tb D σ H := h
theorem w_forE {g : TG} {tb : TS} (h : tl σ H fun vs H1 => ∃ a xs, vs = [.ref a] ∧ SqL K H1 a xs ∧ ForW (Ite K a) g tb D σ H1) : tFor (iEnum K tl) g tb D σ H := h
theorem w_bd1 {n : Int} {P : Prop} (h0 : -4611686018427387904 ≤ n) (h1 : n < 4611686018427387904) (q : P) : -(2 ^ 62) ≤ n ∧ n < 2 ^ 62 ∧ P := ⟨by omega, by omega, q⟩
theorem w_bd2 {m n : Int} {P : Prop} (h0 : -4611686018427387904 ≤ m) (h1 : m < 4611686018427387904) (h2 : -4611686018427387904 ≤ n) (h3 : n < 4611686018427387904) (q : P) : (-(2 ^ 62) ≤ m ∧ m < 2 ^ 62 ∧ -(2 ^ 62) ≤ n ∧ n < 2 ^ 62) ∧ P := ⟨⟨by omega, by omega, by omega, by omega⟩, q⟩
theorem w_sqE {xs : List V} {P : Prop} (h : SqL K H p xs) (q : P) : (∃ ys, SqL K H p ys) ∧ P := ⟨⟨xs, h⟩, q⟩
theorem forR {lo : Int} {n : Nat} {g : TG} {tb : TS} (Pv : Nat → L2.St → Hp → Prop) (h0 : Pv 0 σ H)
    (hs : ∀ i σ1 H1, i < n → Pv i σ1 H1 → g (.int (lo + i)) σ1 H1 fun σ2 H2 => tb { D with nx := Pv (i + 1), ct := Pv (i + 1), bk := D.nx } σ2 H2) (hd : ∀ σ1 H1, Pv n σ1 H1 → D.nx σ1 H1) : ForW (Itr lo n) g tb D σ H := for_range Pv h0 hs hd
theorem forL {a : Addr} {xs : List V} {g : TG} {tb : TS} (Pv : Nat → L2.St → Hp → Prop) (h0 : Pv 0 σ H) (hl : ∀ i σ1 H1, i ≤ xs.length → Pv i σ1 H1 → SqL K H1 a xs)
    (hs : ∀ i x σ1 H1, xs[i]? = some x → Pv i σ1 H1 → g x σ1 H1 fun σ2 H2 => tb { D with nx := Pv (i + 1), ct := Pv (i + 1), bk := D.nx } σ2 H2) (hd : ∀ σ1 H1, Pv xs.length σ1 H1 → D.nx σ1 H1) : ForW (Itl K a) g tb D σ H := for_list (xs := xs) Pv h0 hl hs hd
/-- a comprehension whose iterator has come -/
def LcW (J : It) (g : TG) (tt : TT) (te : TE) (vs : List Nat) (σ : L2.St) (H : Hp) (Q : VK) : Prop := tLc (fun _ H R => R J H) g tt te vs σ H Q
theorem w_lcR1 {g : TG} {vs : List Nat} (h : tl σ H fun us H1 => ∃ n : Int, us = [.int n] ∧ -(2 ^ 62) ≤ n ∧ n < 2 ^ 62 ∧ LcW (Itr 0 n.toNat) g tt te vs σ H1 Q) : tLc (iRng1 tl) g tt te vs σ H Q := h
theorem w_lcL {g : TG} {vs : List Nat} {tz : TE} (h : tz σ H fun x H1 => ∃ a, x = .ref a ∧ (∃ xs, SqL K H1 a xs) ∧ LcW (Itl K a) g tt te vs σ H1 Q) : tLc (iList K tz) g tt te vs σ H Q := h
/-- one turn of a comprehension -/
def LcT (tt : TT) (te : TE) (Dl : Addr) (N : Hp → Prop) (σ : L2.St) (H : Hp) : Prop := tt σ H fun b H3 =>
  if b = true then te σ H3 fun y H4 => ∃ acc, H4 Dl = some (.lst acc) ∧ acc.length < sizeLine ∧ N (upd H4 Dl (.lst (acc ++ [y]))) else N H3
theorem lcR {lo : Int} {n : Nat} {g : TG} {vs : List Nat} (Pv : Addr → Nat → Hp → Prop) (h0 : ∀ Dl, H Dl = none → Pv Dl 0 (upd H Dl (.lst [])))
    (hs : ∀ Dl i H1, H Dl = none → i < n → Pv Dl i H1 → g (.int (lo + i)) (wipe σ vs) H1 fun σ2 H2 => wipe σ2 vs = wipe σ vs ∧ LcT tt te Dl (Pv Dl (i + 1)) σ2 H2) (hd : ∀ Dl H1, H Dl = none → Pv Dl n H1 → Q (.ref Dl) H1) : LcW (Itr lo n) g tt te vs σ H Q :=
  fun Dl hD => lc_range (Pv Dl) (h0 Dl hD) (fun i H1 hi p => hs Dl i H1 hD hi p) (fun H1 p => hd Dl H1 hD p)
theorem lcL {a : Addr} {xs : List V} {g : TG} {vs : List Nat} (Pv : Addr → Nat → Hp → Prop) (h0 : ∀ Dl, H Dl = none → Pv Dl 0 (upd H Dl (.lst []))) (hl : ∀ Dl i H1, H Dl = none → i ≤ xs.length → Pv Dl i H1 → SqL K H1 a xs)
    (hs : ∀ Dl i x H1, H Dl = none → xs[i]? = some x → Pv Dl i H1 → g x (wipe σ vs) H1 fun σ2 H2 => wipe σ2 vs = wipe σ vs ∧ LcT tt te Dl (Pv Dl (i + 1)) σ2 H2) (hd : ∀ Dl H1, H Dl = none → Pv Dl xs.length H1 → Q (.ref Dl) H1) : LcW (Itl K a) g tt te vs σ H Q :=
  fun Dl hD => lc_list (K := K) (a := a) (xs := xs) (Pv Dl) (h0 Dl hD) (fun i H1 hi p => hl Dl i H1 hD hi p) (fun i x H1 hx p => hs Dl i x H1 hD hx p) (fun H1 p => hd Dl H1 hD p)
theorem w_lcT {Dl : Addr} {N : Hp → Prop} (h : te σ H fun y H4 => ∃ acc, H4 Dl = some (.lst acc) ∧ acc.length < sizeLine ∧ N (upd H4 Dl (.lst (acc ++ [y])))) : LcT tYes te Dl N σ H := h
theorem w_lcTif {Dl : Addr} {N : Hp → Prop} (h : tt σ H fun b H3 => if b = true then (te σ H3 fun y H4 => ∃ acc, H4 Dl = some (.lst acc) ∧ acc.length < sizeLine ∧ N (upd H4 Dl (.lst (acc ++ [y])))) else N H3) : LcT tt te Dl N σ H := h
theorem w_wipe {σ1 : L2.St} {P : Prop} (h : σ = σ1) (q : P) : σ = σ1 ∧ P := ⟨h, q⟩
end
/-! ### sources of draws: lists of three ints -/
section
variable {H H' H1 H2 H3 : Hp} {p q s : Addr} {o o' : HO} {xs : List V}
def Src (H : Hp) (s : Addr) : Prop := ∃ x y z : Int, H s = some (.lst [.int x, .int y, .int z])
theorem Src.ex (h : Src H s) : ∃ xs, H s = some (.lst xs) := let ⟨_, _, _, e⟩ := h; ⟨_, e⟩
theorem Src.neFree (h : Src H s) (hq : H q = none) : q ≠ s := fun e => by obtain ⟨_, _, _, hs⟩ := h; rw [e, hs] at hq; cases hq
theorem Src.neTup {xs : List V} (h : Src H s) (hq : H q = some (.tup xs)) : q ≠ s := fun e => by obtain ⟨_, _, _, hs⟩ := h; rw [e, hs] at hq; cases hq
theorem Src.neIns {C dx : Addr} {fs : List (Str × V)} (h : Src H s) (hq : H q = some (.ins C dx fs)) : q ≠ s := fun e => by obtain ⟨_, _, _, hs⟩ := h; rw [e, hs] at hq; cases hq
theorem Src.new (h : Src H s) (hp : H p = none) : Src (upd H p o) s := let ⟨x, y, z, e⟩ := h; ⟨x, y, z, keep e hp⟩
theorem Src.mut (h : Src H s) (hp : p ≠ s) : Src (upd H p o) s := let ⟨x, y, z, e⟩ := h; ⟨x, y, z, keepNe e hp.symm⟩
theorem Src.same (e : Same H H') (h : Src H s) : Src H' s := let ⟨x, y, z, q⟩ := h; ⟨x, y, z, e _ _ q⟩
theorem But.at (b : But s H H') (hn : q ≠ s) (h : H q = some o) : H' q = some o := b _ _ hn h
theorem But.back (b : But s H H') (h2 : Src H' s) (hp : H' p = none) : H p = none := by
  cases hq : H p with
  | none => rfl
  | some u => rw [b p u (h2.neFree hp) hq] at hp; cases hp
theorem But.trans' (b : But s H1 H2) (a : But s H H1) : But s H H2 := a.trans b
theorem Same.trans' (b : Same H1 H2) (a : Same H H1) : Same H H2 := a.trans b
theorem Same.at (e : Same H H') (h : H q = some o) : H' q = some o := e _ _ h
theorem ne1 (hl : H p = none) (hq : H q = some o) : q ≠ p := ne_of_none hq hl
theorem free_upd (h : upd H p o q = none) : H q = none := by
  cases e : H q with
  | none => rfl
  | some u =>
    by_cases hn : q = p
    · rw [hn, upd_same] at h; cases h
    · rw [upd_ne hn, e] at h; cases h
/-- a pair of ints at a value; a list of such pairs -/
def PR (H : Hp) (v : V) (r : Int × Int) : Prop := ∃ t, v = .ref t ∧ H t = some (.tup [.int r.1, .int r.2])
def RowsAt (H : Hp) (p : Addr) (rows : List (Int × Int)) : Prop := ∃ vs, H p = some (.lst vs) ∧ Paired (PR H) vs rows
theorem PR.but {v : V} {r : Int × Int} (b : But s H H') (hs : Src H s) (h : PR H v r) : PR H' v r := let ⟨t, e, ht⟩ := h; ⟨t, e, b.at (hs.neTup ht) ht⟩
theorem PR.same {v : V} {r : Int × Int} (b : Same H H') (h : PR H v r) : PR H' v r := let ⟨t, e, ht⟩ := h; ⟨t, e, b _ _ ht⟩
theorem PR.mutL {v : V} {r : Int × Int} {xs : List V} (hp : H p = some (.lst xs)) (h : PR H v r) : PR (upd H p o) v r := let ⟨t, e, ht⟩ := h; ⟨t, e, keepNe ht (ne_of ht hp (by intro z; cases z))⟩
theorem PRs.but {vs : List V} {rows : List (Int × Int)} (b : But s H H') (hs : Src H s) (h : Paired (PR H) vs rows) : Paired (PR H') vs rows := h.mono fun _ _ q => PR.but b hs q
theorem PRs.same {vs : List V} {rows : List (Int × Int)} (b : Same H H') (h : Paired (PR H) vs rows) : Paired (PR H') vs rows := h.mono fun _ _ q => PR.same b q
theorem PRs.mutL {vs xs : List V} {rows : List (Int × Int)} (hp : H p = some (.lst xs)) (h : Paired (PR H) vs rows) : Paired (PR (upd H p o)) vs rows := h.mono fun _ _ q => PR.mutL hp q
theorem PRs.new {vs : List V} {rows : List (Int × Int)} (hp : H p = none) (h : Paired (PR H) vs rows) : Paired (PR (upd H p o)) vs rows := h.mono fun _ _ q => PR.same (same_new hp) q
theorem RowsAt.but {rows : List (Int × Int)} (b : But s H H') (hs : Src H s) (hn : p ≠ s) (h : RowsAt H p rows) : RowsAt H' p rows := let ⟨vs, e, k⟩ := h; ⟨vs, b.at hn e, PRs.but b hs k⟩
theorem RowsAt.same {rows : List (Int × Int)} (b : Same H H') (h : RowsAt H p rows) : RowsAt H' p rows := let ⟨vs, e, k⟩ := h; ⟨vs, b _ _ e, PRs.same b k⟩
theorem RowsAt.neFree {rows : List (Int × Int)} (h : RowsAt H q rows) (hp : H p = none) : q ≠ p := let ⟨_, e, _⟩ := h; ne_of_none e hp
theorem Paired.at {α β : Type} {F : α → β → Prop} : ∀ {l₁ : List α} {l₂ : List β}, Paired F l₁ l₂ → ∀ {i : Nat} {b : β}, l₂[i]? = some b → ∃ a, l₁[i]? = some a ∧ F a b
  | _, _, .nil, i, b, h => by simp at h
  | _, _, .cons f r, 0, b, h => by
    have e := Option.some.inj h
    subst e; exact ⟨_, rfl, f⟩
  | _, _, .cons f r, i + 1, b, h => by
    obtain ⟨a, h1, h2⟩ := Paired.at r (i := i) (b := b) (by simpa using h)
    exact ⟨a, by simpa using h1, h2⟩
theorem Paired.at' {α β : Type} {F : α → β → Prop} : ∀ {l₁ : List α} {l₂ : List β}, Paired F l₁ l₂ → ∀ {i : Nat} {a : α}, l₁[i]? = some a → ∃ b, l₂[i]? = some b ∧ F a b
  | _, _, .nil, i, b, h => by simp at h
  | _, _, .cons f r, 0, b, h => by
    have e := Option.some.inj h
    subst e; exact ⟨_, rfl, f⟩
  | _, _, .cons f r, i + 1, b, h => by
    obtain ⟨a, h1, h2⟩ := Paired.at' r (i := i) (a := b) (by simpa using h)
    exact ⟨a, by simpa using h1, h2⟩
end
end G

namespace G
open PySem L2
structure CA where
  InvalidPointer : Addr
  InvalidStanding : Addr
  LotError : Addr
  NoIndex : Addr
  NoLine : Addr
  NoPage : Addr
  NoStart : Addr
  OnecopyError : Addr
  Standing : Addr
  Web : Addr
end G

/-! ### the tactic: walk_at "go" -/
local macro_rules | `(tactic| walk_at "hp") => `(tactic| first
  | assumption | exact L2.upd_same
  | exact G.keep (by walk_at "hp") (by assumption)
  | exact G.keepNe (by walk_at "hp") (by walk_at "ne")
  | exact G.But.at (by assumption) (by walk_at "ne") (by walk_at "hp")
  | exact G.Same.at (by assumption) (by walk_at "hp"))
local macro_rules | `(tactic| walk_at "ne") => `(tactic| first
  | assumption | exact Ne.symm (by assumption)
  | exact G.Src.neFree (by assumption) (by assumption) | exact (G.Src.neFree (by assumption) (by assumption)).symm
  | exact G.ne1 (by assumption) (by walk_at "hp") | exact (G.ne1 (by assumption) (by walk_at "hp")).symm)
local macro_rules | `(tactic| walk_at "src") => `(tactic| first
  | assumption | exact G.Src.new (by walk_at "src") (by assumption) | exact G.Src.mut (by walk_at "src") (by walk_at "ne") | exact G.Src.same (by assumption) (by walk_at "src"))
local macro_rules | `(tactic| walk_at "but") => `(tactic| first
  | assumption | exact G.But.refl
  | exact G.But.mut (by walk_at "but") (by assumption) | exact G.But.new (by walk_at "but") (by assumption) | exact G.But.self (by walk_at "but")
  | exact G.But.trans' (by assumption) (by walk_at "but") | exact G.But.trans' (G.Same.but (by assumption)) (by walk_at "but"))
local macro_rules | `(tactic| walk_at "same") => `(tactic| first
  | assumption | exact L2.Same.refl _
  | exact G.same_mut (by walk_at "same") (by assumption) | exact G.Same.trans' (G.same_new (by assumption)) (by walk_at "same") | exact G.Same.trans' (by assumption) (by walk_at "same"))
local macro_rules | `(tactic| walk_at "sq") => `(tactic| first
  | assumption | exact G.SqL.same (by assumption) (by walk_at "same") | exact L2.SqL.of (by walk_at "hp"))
local macro_rules | `(tactic| walk_at "at") => `(tactic| first
  | assumption | exact L2.atI_nat (by assumption) | exact G.at0 | exact G.at1 | exact G.at2 | exact G.at3 | exact G.at4)
local macro_rules | `(tactic| walk_at "ix") => `(tactic| first
  | assumption | exact G.ix0 | exact G.ix1 | exact G.ix2)
local macro_rules | `(tactic| walk_at "ar") => `(tactic| first | assumption | omega | decide)
local macro_rules | `(tactic| walk_at "one") => `(tactic| (with_reducible first
  | refine' G.w_seq ?_ | refine' G.w_asg ?_ | (refine' G.w_var ?g1 ?_; (case g1 => with_unfolding_all rfl)) | refine' G.w_c ?_ | refine' G.w_name ?_ | refine' G.w_op ?_
  | refine' G.w_oAdd ?_ | refine' G.w_oSub ?_ | (refine' G.w_oMulR ?g1 ?g2 ?_; (case g1 => walk_at "ar"); (case g2 => walk_at "ar")) | (refine' G.w_oMulL ?g1 ?g2 ?_; (case g1 => walk_at "ar"); (case g2 => walk_at "ar")) | (refine' G.w_oDiv ?g1 ?g2 ?_; (case g1 => walk_at "ar"); (case g2 => walk_at "ar")) | (refine' G.w_oMod ?g1 ?_; (case g1 => walk_at "ar")) | (refine' G.w_oPow ?g1 ?g2 ?g3 ?_; (case g1 => walk_at "ar"); (case g2 => walk_at "ar"); (case g3 => with_unfolding_all decide))
  | refine' G.w_oLt ?_ | refine' G.w_oLe ?_ | refine' G.w_oGt ?_ | refine' G.w_oGe ?_ | refine' G.w_un ?_ | refine' G.w_oNeg ?_ | refine' G.w_brk ?_ | refine' G.w_cont ?_ | refine' G.w_eqI ?_ | refine' G.w_neI ?_ | refine' G.w_eqB ?_
  | refine' G.w_cons ?_ | refine' G.w_nil ?_ | refine' G.w_ex ?_ | refine' G.w_exI ?_
  | refine' G.w_ret ?_ | refine' G.w_drop ?_ | refine' G.w_next ?_ | refine' G.w_retN ?_ | refine' G.w_if ?_ | refine' G.w_test ?_ | refine' G.w_tB ?_ | refine' G.w_ifE ?_
  | refine' G.w_iteT ?_ | refine' G.w_iteF ?_
  | refine' G.w_cb ?_ | refine' G.w_oInt ?_ | refine' G.w_oAbs ?_ | refine' G.w_oMax2 ?_ | refine' G.w_oMin2 ?_ | refine' G.w_call ?_ | refine' G.w_meth ?_ | refine' G.w_make ?_
  | refine' G.w_tup ?_ | refine' G.w_lst ?_ | (refine' G.w_small ?g1 ?_; (case g1 => with_unfolding_all exact Nat.le_of_ble_eq_true rfl))
  | (refine' G.w_ixL ?g1 ?g2 ?_; (case g1 => walk_at "sq"); (case g2 => with_unfolding_all walk_at "at"))
  | (refine' G.w_ixT ?g1 ?g2 ?_; (case g1 => walk_at "hp"); (case g2 => with_unfolding_all walk_at "at"))
  | (refine' G.w_lenL ?g1 ?_; (case g1 => walk_at "sq")) | (refine' G.w_listL ?g1 ?_; (case g1 => walk_at "sq")) | (refine' G.w_sum ?g1 ?_; (case g1 => walk_at "sq"))
  | refine' G.w_bm ?_ | refine' G.w_bm0 ?_ | (refine' G.w_tyL ?g1 ?_; (case g1 => walk_at "sq"))
  | (refine' G.w_append ?g1 ?g2 ?_; (case g1 => walk_at "hp"); (case g2 => walk_at "sz"))
  | refine' G.w_sub ?_ | (refine' G.w_setL ?g1 ?g2 ?_; (case g1 => walk_at "hp"); (case g2 => with_unfolding_all walk_at "ix"))
  | (refine' G.w_cat ?g1 ?g2 ?g3 ?_; (case g1 => walk_at "hp"); (case g2 => walk_at "hp"); (case g3 => walk_at "sz"))
  | refine' G.w_sl ?_ | refine' G.w_noPart ?_ | refine' G.w_part ?_ | (refine' G.w_slL ?g1 ?_; (case g1 => walk_at "sq"))
  | refine' G.w_gCons ?_ | refine' G.w_gNil ?_ | (refine' G.w_gTup ?g1 ?g2 ?_; (case g1 => walk_at "hp"); (case g2 => with_unfolding_all rfl))
  | refine' G.w_chain ?_ | refine' G.w_and ?_ | refine' G.w_or ?_ | refine' G.w_not ?_ | refine' G.w_andV ?_ | refine' G.w_orV ?_ | refine' G.w_notV ?_
  | refine' G.w_listRg ?_ | refine' G.w_rg1 ?_ | refine' G.w_augS ?_ | refine' G.w_ipI ?_
  | refine' G.w_fld ?_ | refine' G.w_sfld ?_ | refine' G.w_yes ?_ | refine' G.w_exA ?_ | refine' G.w_exA2 ?_ | refine' G.w_exR ?_ | refine' G.w_exRA ?_
  | (refine' G.w_acc ?g1 ?g2 ?_; (case g1 => walk_at "hp"); (case g2 => walk_at "sz"))
  | refine' G.w_forR1 ?_ | refine' G.w_forR2 ?_ | refine' G.w_forL ?_ | refine' G.w_forZ ?_ | refine' G.w_forE ?_ | refine' G.w_lcR1 ?_ | refine' G.w_lcL ?_
  | (refine' G.w_bd1 ?g1 ?g2 ?_; (case g1 => walk_at "ar"); (case g2 => walk_at "ar"))
  | (refine' G.w_bd2 ?g1 ?g2 ?g3 ?g4 ?_; (case g1 => walk_at "ar"); (case g2 => walk_at "ar"); (case g3 => walk_at "ar"); (case g4 => walk_at "ar"))
  | (refine' G.w_sqE ?g1 ?_; (case g1 => walk_at "sq"))
  | (refine' G.w_wipe ?g1 ?_; (case g1 => with_unfolding_all rfl)) | refine' G.w_lcT ?_ | refine' G.w_lcTif ?_
  | (refine' G.w_augName ?g1 ?_; (case g1 => with_unfolding_all rfl))
  | walk_at "call"))
local macro_rules | `(tactic| walk_at "sz") => `(tactic| first | assumption | exact L2.small1000 (by omega) | omega | exact L2.small1000 (by simp only [List.length_map, List.length_append, List.length_cons, List.length_nil, List.length_range, List.length_take, List.length_drop, List.length_set]; omega) | exact Nat.le_of_lt (L2.small1000 (by simp only [List.length_map, List.length_append, List.length_cons, List.length_nil, List.length_range, List.length_take, List.length_drop, List.length_set]; omega)))
local macro_rules | `(tactic| walk_at "go") => `(tactic| repeat walk_at "one")

/-! ### calls of methods and of makers that may raise, within a try: what is wanted of the error may speak of the slots -/
namespace GX
open PySem PySem.Spec PyProof.Rows L2
section
variable {X : Cx} {CX : CXT} {k : Nat} {f C : Addr} {fd : FuncData} {ps : List Str} {sp : Sp} {E : L2.St → XK} {x m : Str} {p pos apos : Pos} {e o : Expr} {es : List Expr} {ta : TE} {t : TA}
def tMethS (C : Addr) (m : Str) (sp : Sp) (E : L2.St → XK) (ta : TE) (t : TA) : TE := fun σ H Q => ta σ H fun x H1 => ∃ a dx fs, x = .ref a ∧ H1 a = some (.ins C dx fs) ∧ fs.lookup m = none ∧
  t σ H1 fun vs H2 => sp (x :: vs) H2 Q (E σ)
def tMakeS (C : Addr) (sp : Sp) (E : L2.St → XK) (t : TA) : TE := fun σ H Q => t σ H fun vs H1 => ∀ x dx, H1 x = none → H1 dx = none → dx ≠ x →
  sp (.ref x :: vs) (upd (upd H1 dx (.own x)) x (.ins C dx [])) (fun v H2 => v = .non ∧ Q (.ref x) H2) (E σ)
theorem pe_methS {pl : Sem Bool} (he : PE X o ta) (c : Cls X.K C) (hm : Meth X.K C m f) (F : FnOk X.prog X.w X.K X.mg X.base CX k f fd ps sp) (hr : Room k X.A) (hb : Binds X.K fd ps []) (hx : ∀ σ, PassesAt CX X σ (E σ)) (ha : PA X (e :: es) t)
    (hst : starEach (e :: es) X.env = (false, eval e X.env) :: starEach es X.env := by rfl) (hpl : (backTo pos (starEach es X.env)).any (·.1) = false := by rfl)
    (ht : eval (.Call (.Attribute o m apos) (e :: es) [] pos) X.env = (do
      let ov ← eval o X.env
      standAt apos.atName
      let (f, first) ← holding [ov] (getMethod ov m pl)
      callWith pos f first (backTo pos (starEach (e :: es) X.env)) (backToKw pos (keywordEach [] X.env))) := by rfl) :
    PE X (.Call (.Attribute o m apos) (e :: es) [] pos) (tMethS C m sp E ta t) := by
  refine ⟨fun pins s σ H Q I h => ?_⟩
  refine PySem.W.methodCall_KW (pl := pl) (thn (he.run pins s σ H _ I h) fun u s1 ⟨x, H1, I1, rx, a, dx, fs, ex, ea, l, q⟩ => ?_) ht
  subst ex
  obtain rfl : u = Value.ref a := rx
  refine getmeth_ok I1 ea c hm l ?_
  refine PySem.W.callWith_K (first := [.ref a]) (h₀ := X.base) I.ok.mod.kin hm.kp (thn (ha.run pos pins s1 σ H1 _ I1 q) fun us s2 ⟨vs, H2, I2, r, q2⟩ => ⟨I2.kIn, ?_⟩) hst hpl
  exact run_fnS (us := .ref a :: us) (vs := .ref a :: vs) F hr hb (hx σ) I2 (.cons rfl r) q2
theorem run_makeS {pins : List (Addr × Obj)} {σ : L2.St} {H : Hp} {s : Shared} {Q : VK} {us : List Value} {vs : List V} (M : Mk X.K C f) (F : FnOk X.prog X.w X.K X.mg X.base CX k f fd ps sp) (hr : Room (k + 1) X.A) (hb : Binds X.K fd ps [])
    (hx : PassesAt CX X σ (E σ)) (I : Inv X pins σ H s) (r : Vals vs us)
    (h : ∀ x dx, H x = none → H dx = none → dx ≠ x → sp (.ref x :: vs) (upd (upd H dx (.own x)) x (.ins C dx [])) (fun v H2 => v = .non ∧ Q (.ref x) H2) (E σ)) :
    wpAny (model X.prog X.w) X.A (call (.ref C) us) (EP X pins σ Q) X.xe s := by
  have hq := h (s.heap.objs.size + 1) s.heap.objs.size (I.hok.fresh (Nat.le_succ _)) (I.hok.fresh (Nat.le_refl _)) (Nat.ne_of_lt (Nat.lt_succ_self _))
  have I2 := Inv.made (C := C) I
  have r2 : Vals (V.ref (s.heap.objs.size + 1) :: vs) (Value.ref (s.heap.objs.size + 1) :: us) := .cons rfl r
  have hl : (Value.ref (s.heap.objs.size + 1) :: us ++ []).length = ps.length := by
    have e := r2.length
    rw [F.len _ _ _ _ hq] at e
    rw [List.append_nil]
    exact e.symm
  have b := hb _ (Value.ref (s.heap.objs.size + 1) :: us) I2.kIn hl
  rw [List.append_nil] at b
  refine wpAny_call (make_map (f := f) I.kIn M.makes M.init (beq_iff_eq.mp M.fn) (codeAny_mono (F.run _ X.stack _ _ ⟨Value.ref (s.heap.objs.size + 1) :: us, []⟩ (Value.ref (s.heap.objs.size + 1) :: us) _ _ (E σ) (hr.make C us [])
    (I2.env0.make C us []) b r2 hq) fun r s' hq' => ?_))
  cases r with
  | error e => exact hx pins _ _ e s' I2 hq'
  | ok fl =>
    cases fl with
    | ret u =>
      obtain ⟨v, H', I3, rv, ev, q3⟩ := I2.after hq'
      subst ev
      exact ⟨rv, ⟨V.ref (s.heap.objs.size + 1), H', I3, rfl, q3⟩⟩
    | next => exact False.elim hq'
    | brk => exact False.elim hq'
    | cont => exact False.elim hq'
theorem pe_makeS (M : Mk X.K C f) (F : FnOk X.prog X.w X.K X.mg X.base CX k f fd ps sp) (hr : Room (k + 1) X.A) (hg : Gl X x) (hm : X.mg x = some (.ref C)) (hb : Binds X.K fd ps []) (hx : ∀ σ, PassesAt CX X σ (E σ))
    (ha : PA X (e :: es) t) (hdb : (x == ("__debug__" : Str)) = false := by decide) (he : starEach (e :: es) X.env = (false, eval e X.env) :: starEach es X.env := by rfl) (hpl : (backTo pos (starEach es X.env)).any (·.1) = false := by rfl) :
    PE X (.Call (.Name x p) (e :: es) [] pos) (tMakeS C sp E t) := by
  refine ⟨fun pins s σ H Q I h => ?_⟩
  refine wpAny_Call_Name_kw (ld_glob I hg hm ?_ hdb)
  refine PySem.W.callWith_K (h₀ := X.base) I.ok.mod.kin M.kp (thn (ha.run pos pins s σ H _ I h) fun us s1 ⟨vs, H1, I1, r, q⟩ => ⟨I1.kIn, ?_⟩) he hpl
  exact run_makeS M F hr hb (hx σ) I1 r q
end
end GX
/-! ### isinstance of a caught error that has a dict of its own -/
namespace GX
open PySem PySem.Spec PyProof.Rows L2
def rIsX (K : PySem.W.Frag) (a : Addr) (cls : Value) (d : Option Addr) : List V → Hp → VK → Prop := fun xs H Q => ∃ (c : V) (u : Value) (b : Bool) (D dd : Addr) (fs : List (Str × V)),
  xs = [.ref a, c] ∧ ClsV c u ∧ cls = .ref D ∧ d = some dd ∧ ExcC K D ∧ H dd = some (.xd fs) ∧ PySem.W.kitOne K (.ref D) u = some b ∧ Q (.bl b) H
def rIsXT (K : PySem.W.Frag) (a : Addr) (cls : Value) (d : Option Addr) : List V → Hp → VK → Prop := fun xs H Q => ∃ (tp : Addr) (cs : List V) (us : List Value) (b : Bool) (D dd : Addr) (fs : List (Str × V)),
  xs = [.ref a, .ref tp] ∧ H tp = some (.tup cs) ∧ Paired ClsV cs us ∧ cls = .ref D ∧ d = some dd ∧ ExcC K D ∧ H dd = some (.xd fs) ∧ PySem.W.kitAny K (.ref D) us = some b ∧ Q (.bl b) H
section
variable {X : Cx} {a : Addr} {oe : Obj} {cls : Value} {d : Option Addr} {pn : List (Addr × Obj)}
theorem kit_here {K : PySem.W.Frag} {D : Addr} {x : Addr} {o : Obj} {od : Option Obj} (C : ExcC K D) : PySem.W.KitX K (.ref x) (.ref D) (fun h => PySem.W.InstAt h x o D od) := by
  have hc : (PySem.W.clsIn K D).isSome = true := by
    obtain ⟨cd, e, _⟩ := PySem.W.any_some C.hd
    rw [e]; rfl
  exact PySem.W.kitx_exc hc C.hg C.hk C.hs C.ha C.hn C.ht C.hm
theorem inst_here {pins : List (Addr × Obj)} {σ : L2.St} {H : Hp} {s : Shared} {D dd : Addr} {fs : List (Str × V)} (I : Inv (X.suite a ((a, oe) :: pn)) pins σ H s) (hz : Zc (.ref D) (some dd) oe) (hf : ∃ vs, oe.data = .fields vs) (hd : H dd = some (.xd fs)) :
    ∃ od, PySem.W.InstAt s.heap a oe D (some od) := by
  obtain ⟨hget, _⟩ := I.pin (a, oe) (List.mem_append_left _ List.mem_cons_self)
  obtain ⟨vs, hv⟩ := hf
  have ho : ObjOk X.prog X.w H s.heap dd (.xd fs) := I.hok dd _ hd
  obtain ⟨mA, hns, _⟩ := ho
  obtain ⟨od, e, _⟩ := lookIn_ns hns
  exact ⟨od, hget, hz.1, by unfold PySem.W.notCls; rw [hv] <;> rfl, by rw [hz.2]; exact e⟩
theorem call_isX (hz : Zc cls d oe) (hf : ∃ vs, oe.data = .fields vs) : CallR (X.suite a ((a, oe) :: pn)) (.builtin "isinstance") (rIsX X.K a cls d) := by
  intro pins s σ H xs us Q I r h
  obtain ⟨c, u, b, D, dd, fs, rfl, hc, rfl, rfl, C, hd, e, q⟩ := h
  obtain ⟨u1, u2, rfl, r1, r2⟩ := vals2 r
  cases (show u1 = Value.ref a from r1)
  cases hc.eq r2
  obtain ⟨od, J⟩ := inst_here I hz hf hd
  exact PySem.W.kia_one (kit_here C) I.kIn J e (fun z => nomatch z) fun tk => ⟨.bl b, H, I.tok tk, rfl, q⟩
theorem call_isXT (hz : Zc cls d oe) (hf : ∃ vs, oe.data = .fields vs) : CallR (X.suite a ((a, oe) :: pn)) (.builtin "isinstance") (rIsXT X.K a cls d) := by
  intro pins s σ H xs us Q I r h
  obtain ⟨tp, cs, ws, b, D, dd, fs, rfl, hT, hc, rfl, rfl, C, hd, e, q⟩ := h
  obtain ⟨u1, u2, rfl, r1, r2⟩ := vals2 r
  cases (show u1 = Value.ref a from r1)
  cases (show u2 = Value.ref tp from r2)
  obtain ⟨od, J⟩ := inst_here I hz hf hd
  have ho : ObjOk X.prog X.w H s.heap tp (.tup cs) := I.hok tp _ hT
  obtain ⟨_, its, rv, o, h1, h2, n, h3⟩ := ho
  cases ClsV.all hc rv
  obtain ⟨oc, od', dt, sl⟩ := o
  simp only at h2 h3
  cases h2
  cases h3
  exact PySem.W.kia_tup (kit_here C) I.kIn J h1 e (fun z => nomatch z) fun tk => ⟨.bl b, H, I.tok tk, rfl, q⟩
end
end GX

/-! ### calls, methods, makers and errors by one name each (defs that may raise) -/
namespace GX
open PySem PySem.Spec PyProof.Rows L2
structure CalX (P : Program) (w : World) (K : PySem.W.Frag) (mg : Str → Option Value) (base : Heap) (k : Nat) (x : Str) (sp : Sp) : Prop where
  ex : ∃ (f : Addr) (fd : FuncData) (ps : List Str), FnOk P w K mg base (L2.CX P w) k f fd ps sp ∧ mg x = some (.ref f) ∧ PySem.W.keepIn K (.ref f) = true ∧ L2.Binds K fd ps []
structure MetX (P : Program) (w : World) (K : PySem.W.Frag) (mg : Str → Option Value) (base : Heap) (k : Nat) (C : Addr) (m : Str) (sp : Sp) : Prop where
  ex : ∃ (f : Addr) (fd : FuncData) (ps : List Str), Cls K C ∧ Meth K C m f ∧ FnOk P w K mg base (L2.CX P w) k f fd ps sp ∧ L2.Binds K fd ps []
structure MakX (P : Program) (w : World) (K : PySem.W.Frag) (mg : Str → Option Value) (base : Heap) (k : Nat) (x : Str) (C : Addr) (sp : Sp) : Prop where
  ex : ∃ (f : Addr) (fd : FuncData) (ps : List Str), Mk K C f ∧ FnOk P w K mg base (L2.CX P w) k f fd ps sp ∧ mg x = some (.ref C) ∧ L2.Binds K fd ps []
structure ErrX (P : Program) (w : World) (K : PySem.W.Frag) (mg : Str → Option Value) (base : Heap) (k : Nat) (x : Str) (C : Addr) (sp : Sp) : Prop where
  oex : OexC K C
  ex : ∃ (f : Addr) (fd : FuncData) (ps : List Str), PySem.W.findIn K (.ref C) "__init__" = some (some (.ref f)) ∧ PySem.W.typeIn K (.ref f) = some (.type "function") ∧ FnOk P w K mg base CX0 k f fd ps sp ∧ mg x = some (.ref C) ∧ L2.Binds K fd ps []
/-- raise C(e, ..) -/
def tRaiseO (C : Addr) (sp : Sp) (E : XK) (ta : TA) : TS := fun _ σ H => tMkO C sp [] ta σ H fun cls d H' => E cls d H'
section
variable {X : Cx} {k j : Nat} {C : Addr} {x m : Str} {sp : Sp} {p pos apos pos2 : Pos} {e o : Expr} {es : List Expr} {ta : TE} {t : TA} {E : XK}
theorem pe_cX (c : CalX X.prog X.w X.K X.mg X.base k x sp) (hr : Room j X.A) (hk : k ≤ j) (hg : Gl X x) (hx : Passes (L2.CX X.prog X.w) X E) (ha : PA X (e :: es) t) (hdb : (x == ("__debug__" : Str)) = false := by decide)
    (he : starEach (e :: es) X.env = (false, eval e X.env) :: starEach es X.env := by rfl) (hpl : (backTo pos (starEach es X.env)).any (·.1) = false := by rfl) : PE X (.Call (.Name x p) (e :: es) [] pos) (tCall sp [] E t) :=
  let ⟨_, _, _, F, hm, kp, b⟩ := c.ex
  pe_call F (hr.mono hk) hg hm kp b .nil hx ha hdb he hpl
theorem pe_mkX (c : MakX X.prog X.w X.K X.mg X.base k x C sp) (hr : Room j X.A) (hk : k + 1 ≤ j) (hg : Gl X x) (hx : Passes (L2.CX X.prog X.w) X E) (ha : PA X (e :: es) t) (hdb : (x == ("__debug__" : Str)) = false := by decide)
    (he : starEach (e :: es) X.env = (false, eval e X.env) :: starEach es X.env := by rfl) (hpl : (backTo pos (starEach es X.env)).any (·.1) = false := by rfl) : PE X (.Call (.Name x p) (e :: es) [] pos) (tMake C sp [] E t) :=
  let ⟨_, _, _, M, F, hm, b⟩ := c.ex
  pe_make M F (hr.mono hk) hg hm b .nil hx ha hdb he hpl
theorem pe_mtX {pl : Sem Bool} (c : MetX X.prog X.w X.K X.mg X.base k C m sp) (hr : Room j X.A) (hk : k ≤ j) (hx : Passes (L2.CX X.prog X.w) X E) (he : PE X o ta) (ha : PA X (e :: es) t)
    (hst : starEach (e :: es) X.env = (false, eval e X.env) :: starEach es X.env := by rfl) (hpl : (backTo pos (starEach es X.env)).any (·.1) = false := by rfl)
    (ht : eval (.Call (.Attribute o m apos) (e :: es) [] pos) X.env = (do
      let ov ← eval o X.env; standAt apos.atName; let (f, first) ← holding [ov] (getMethod ov m pl)
      callWith pos f first (backTo pos (starEach (e :: es) X.env)) (backToKw pos (keywordEach [] X.env))) := by rfl) : PE X (.Call (.Attribute o m apos) (e :: es) [] pos) (tMeth C m sp [] E ta t) :=
  let ⟨_, _, _, hc, hm, F, b⟩ := c.ex
  pe_meth (pl := pl) he hc hm F (hr.mono hk) b .nil hx ha hst hpl ht
theorem pe_mtXT {W : WX} {pl : Sem Bool} (c : MetX X.prog X.w X.K X.mg X.base k C m sp) (hr : Room j X.A) (hk : k ≤ j) (tk : Takes X W) (he : PE X o ta) (ha : PA X (e :: es) t)
    (hst : starEach (e :: es) X.env = (false, eval e X.env) :: starEach es X.env := by rfl) (hpl : (backTo pos (starEach es X.env)).any (·.1) = false := by rfl)
    (ht : eval (.Call (.Attribute o m apos) (e :: es) [] pos) X.env = (do
      let ov ← eval o X.env; standAt apos.atName; let (f, first) ← holding [ov] (getMethod ov m pl)
      callWith pos f first (backTo pos (starEach (e :: es) X.env)) (backToKw pos (keywordEach [] X.env))) := by rfl) : PE X (.Call (.Attribute o m apos) (e :: es) [] pos) (tMethS C m sp (WE W) ta t) :=
  let ⟨_, _, _, hc, hm, F, b⟩ := c.ex
  pe_methS (pl := pl) he hc hm F (hr.mono hk) b (fun σ => passAt tk σ) ha hst hpl ht
theorem pe_mkXT {W : WX} (c : MakX X.prog X.w X.K X.mg X.base k x C sp) (hr : Room j X.A) (hk : k + 1 ≤ j) (hg : Gl X x) (tk : Takes X W) (ha : PA X (e :: es) t) (hdb : (x == ("__debug__" : Str)) = false := by decide)
    (he : starEach (e :: es) X.env = (false, eval e X.env) :: starEach es X.env := by rfl) (hpl : (backTo pos (starEach es X.env)).any (·.1) = false := by rfl) : PE X (.Call (.Name x p) (e :: es) [] pos) (tMakeS C sp (WE W) t) :=
  let ⟨_, _, _, M, F, hm, b⟩ := c.ex
  pe_makeS M F (hr.mono hk) hg hm b (fun σ => passAt tk σ) ha hdb he hpl
theorem ps_raiseO (c : ErrX X.prog X.w X.K X.mg X.base k x C sp) (hr : Room j X.A) (hk : k + 1 ≤ j) (hc : X.calm = true) (hg : Gl X x) (tk : Takes X (fun cls d _ H => E cls d H)) (ha : PA X (e :: es) t) (hdb : (x == ("__debug__" : Str)) = false := by decide)
    (he : starEach (e :: es) X.env = (false, eval e X.env) :: starEach es X.env := by rfl) (hpl : (backTo pos (starEach es X.env)).any (·.1) = false := by rfl) : PS X (.Raise (some (.Call (.Name x p) (e :: es) [] pos)) none pos2) (tRaiseO C sp E t) :=
  let ⟨_, _, _, iC, tI, F, hm, b⟩ := c.ex
  ps_raise hc tk (pmk_oex c.oex iC tI F (hr.mono hk) b .nil pass0 hg hm ha hdb he hpl)
end
/-- what an error with one field tells -/
def Raised (C : Addr) (f : Str) (v : V) (H : Hp) (E : XK) : Prop := ∀ (d : Addr) (H' : Hp), H d = none → Same H H' → H' d = some (.xd [(f, v)]) → E (.ref C) (some d) H'
/-- the promise of an error's __init__(self, v): self.f = v -/
def sp_err (K : PySem.W.Frag) (C : Addr) (f : Str) : Sp := fun vs H Q _ => ∃ (a : Addr) (v : V), vs = [.ref a, v] ∧ OexC K C ∧ PySem.W.findIn K (.ref C) f = some none ∧ H a = some (exo a C none) ∧
  ∀ dx, H dx = none → dx ≠ a → Q .non (upd (upd H dx (exd dx [(f, v)])) a (exo a C (some dx)))
def t_err (K : PySem.W.Frag) (f : Str) : TS := tOst K f (tVar 0) (tVar 1)
theorem rd_err {K : PySem.W.Frag} {C : Addr} {f p1 p2 : Str} {vs : List V} {H : Hp} {Q : VK} {E : XK} (h : sp_err K C f vs H Q E) : t_err K f { nx := fun _ H' => Q .non H', rt := Q } (start [p1, p2] vs) H := by
  obtain ⟨a, v, rfl, T, hno, ha, q⟩ := h
  exact ⟨_, rfl, _, rfl, a, C, rfl, T, hno, .inl ⟨ha, q⟩⟩
theorem w_raiseO {K : PySem.W.Frag} {C : Addr} {f : Str} {E : XK} {ta : TA} {D : Ends} {σ : L2.St} {H : Hp} {v : V} {H1 : Hp} (T : OexC K C) (hno : PySem.W.findIn K (.ref C) f = some none) (e1 : ∀ Q, Q [v] H1 → ta σ H Q) (r : Raised C f v H1 E) : tRaiseO C (sp_err K C f) E ta D σ H := by
  refine e1 _ ⟨(by show 1 ≤ 1000; decide), fun a ha => ⟨a, v, rfl, T, hno, upd_same, fun dx hdx ndx => ⟨rfl, dx, [(f, v)], upd_same, by rw [upd_ne ndx]; exact upd_same, ?_, ?_⟩⟩⟩
  · rw [upd_ne ndx] at hdx; exact hdx
  · have hd0 : H1 dx = none := by rw [upd_ne ndx] at hdx; exact hdx
    refine r dx _ hd0 (fun b o e => ?_) upd_same
    have nb : b ≠ dx := ne_of_none e hd0
    have na : b ≠ a := ne_of_none e ha
    rw [upd_ne nb, del_ne na, upd_ne na, upd_ne nb, upd_ne na]; exact e
end GX

/-! ### + by an own __add__; defs called within an except suite; errors with two fields -/
namespace GX
open PySem PySem.Spec PyProof.Rows L2
def rOwnAdd (C : Addr) (sp : Sp) (E : XK) : R2 := fun x y H Q => ∃ (a b dx dy : Addr) (fs gs : List (Str × V)), x = .ref a ∧ y = .ref b ∧ H a = some (.ins C dx fs) ∧ H b = some (.ins C dy gs) ∧
  sp [.ref a, .ref b] H (fun v H' => ∃ p, v = .ref p ∧ Q (.ref p) H') E
structure AddX (P : Program) (w : World) (K : PySem.W.Frag) (mg : Str → Option Value) (base : Heap) (k : Nat) (C : Addr) (sp : Sp) : Prop where
  ex : ∃ (f : Addr) (fd : FuncData) (ps : List Str), FnOk P w K mg base (L2.CX P w) k f fd ps sp ∧ PySem.W.findIn K (.ref C) "__add__" = some (some (.ref f)) ∧ PySem.W.isFn K (.ref f) = true ∧ L2.Binds K fd ps [] ∧ PySem.W.selfFirst K C = true
structure EqX (P : Program) (w : World) (K : PySem.W.Frag) (mg : Str → Option Value) (base : Heap) (k : Nat) (C : Addr) (sp : Sp) : Prop where
  ex : ∃ (f : Addr) (fd : FuncData) (ps : List Str), FnOk P w K mg base CX0 k f fd ps sp ∧ PySem.W.findIn K (.ref C) "__eq__" = some (some (.ref f)) ∧ PySem.W.isFn K (.ref f) = true ∧ L2.Binds K fd ps []
/-- x == y of two instances of a class with an own __eq__ -/
def rOwnEq2 (C : Addr) (sp : Sp) (E : XK) : R2 := fun x y H Q => ∃ (a b dx dy : Addr) (fs gs : List (Str × V)), x = .ref a ∧ y = .ref b ∧ H a = some (.ins C dx fs) ∧ H b = some (.ins C dy gs) ∧
  sp [.ref a, .ref b] H (fun v H' => ∃ r, v = .bl r ∧ Q (.bl r) H') E
section
variable {X : Cx} {k j : Nat} {C : Addr} {sp : Sp}
theorem looks_ins {pins : List (Addr × Obj)} {σ : L2.St} {H : Hp} {s : Shared} {b dy : Addr} {gs : List (Str × V)} (J0 : Inv X pins σ H s) (hb : H b = some (.ins C dy gs)) : PySem.W.Looks (model X.prog X.w) s.heap (typeOf (.ref b)) (.ref C) := by
  obtain ⟨_, J, _⟩ := ins_get J0.hok hb
  obtain ⟨_, J, _⟩ := J.look
  exact J.type
theorem run_add (c : AddX X.prog X.w X.K X.mg X.base k C sp) (room : Room j X.A) (le : k ≤ j) {pins : List (Addr × Obj)} {σ : L2.St} {H : Hp} {s : Shared} {x y : V} {v u : Value} {Q : VK} {E : XK} (out : PassesAt (L2.CX X.prog X.w) X σ E) (J0 : Inv X pins σ H s) (rx : RelV x v) (ry : RelV y u) (h : rOwnAdd C sp E x y H Q) :
    wpAny (model X.prog X.w) X.A (binaryOp .Add v u) (EP X pins σ Q) X.xe s := by
  obtain ⟨f, fd, ps, F, hs, hf, hbd, hself⟩ := c.ex
  obtain ⟨a, b, dx, dy, fs, gs, rfl, rfl, ha, hb, hsp⟩ := h
  cases rx
  cases ry
  have look := looks_ins J0 hb
  obtain ⟨_, J, _⟩ := ins_get J0.hok ha
  obtain ⟨_, J, _⟩ := J.look
  obtain ⟨m, hF⟩ := J0.fr
  have args2 : Vals [V.ref a, V.ref b] [Value.ref a, Value.ref b] := .cons rfl (.cons rfl .nil)
  have two := F.len _ _ _ _ hsp
  have bound := hbd s [.ref a, .ref b] J0.kIn (by simpa using two)
  refine PySem.W.binop_K (op := .Add) hF J0.ok.mod.kin J look hself hs hf (wpAny_call (codeAny_mono (F.run X.A X.stack s H ⟨[.ref a, .ref b], []⟩ _ _ _ E (room.mono le) J0.env0 (by simpa using bound) args2 hsp) fun r s' back => ?_))
  cases r with
  | error e => exact out pins H s e s' J0 back
  | ok fl =>
    cases fl with
    | ret w =>
      obtain ⟨z, H', J', rz, p, ez, q⟩ := J0.after back
      subst ez
      cases rz
      exact ⟨.ref p, H', J', rfl, q⟩
    | next => exact back.elim
    | brk => exact back.elim
    | cont => exact back.elim
theorem op_addX {E : XK} (c : AddX X.prog X.w X.K X.mg X.base k C sp) (room : Room j X.A) (le : k ≤ j) (out : Passes (L2.CX X.prog X.w) X E) : OpR X (binaryOp .Add) (rOwnAdd C sp E) :=
  fun pins s σ H x y v u Q J rx ry h => run_add c room le (fun pins H s e s' => out pins σ H s e s') J rx ry h
/-- a + b within a try -/
def tAddS (C : Addr) (sp : Sp) (E : L2.St → XK) (ta tb : TE) : TE := fun σ H Q => ta σ H fun x H1 => tb σ H1 fun y H2 => rOwnAdd C sp (E σ) x y H2 Q
theorem pe_addS {W : WX} {a b : Expr} {ta tb : TE} {pos : Pos} (c : AddX X.prog X.w X.K X.mg X.base k C sp) (room : Room j X.A) (le : k ≤ j) (tk : Takes X W) (ha : PE X a ta) (hb : PE X b tb) : PE X (.BinOp a .Add b pos) (tAddS C sp (WE W) ta tb) :=
  ⟨fun pins s σ H Q J h => wpAny_BinOp (binT (R := fun x y H2 => rOwnAdd C sp (WE W σ) x y H2 Q) ha hb J h fun v u s2 x y H2 J2 rx ry q => run_add c room le (passAt tk σ) J2 rx ry q)⟩
theorem op_eqX (c : EqX X.prog X.w X.K X.mg X.base k C sp) (room : Room j X.A) (le : k ≤ j) : OpR X (compareOp .Eq) (rOwnEq2 C sp E0) := by
  intro pins s σ H x y v u Q J0 rx ry h
  obtain ⟨f, fd, ps, F, hs, hf, hbd⟩ := c.ex
  obtain ⟨a, b, dx, dy, fs, gs, rfl, rfl, ha, hb, hsp⟩ := h
  cases rx
  cases ry
  have look := looks_ins J0 hb
  obtain ⟨_, J, _⟩ := ins_get J0.hok ha
  obtain ⟨_, J, _⟩ := J.look
  obtain ⟨m, hF⟩ := J0.fr
  have args2 : Vals [V.ref a, V.ref b] [Value.ref a, Value.ref b] := .cons rfl (.cons rfl .nil)
  have two := F.len _ _ _ _ hsp
  have bound := hbd s [.ref a, .ref b] J0.kIn (by simpa using two)
  show wpAny (model X.prog X.w) X.A (richCompare .Eq (.ref a) (.ref b)) (EP X pins σ Q) X.xe s
  refine PySem.W.cmp_K (op := .Eq) room.units0 hF J0.ok.mod.kin J look (by simp [PySem.W.notFirst]) hs hf (wpAny_call (codeAny_mono (F.run X.A X.stack s H ⟨[.ref a, .ref b], []⟩ _ _ _ E0 (room.mono le) J0.env0 (by simpa using bound) args2 hsp) fun r s' back => ?_))
  cases r with
  | error e => exact back.elim
  | ok fl =>
    cases fl with
    | ret w =>
      obtain ⟨z, H', J', rz, p, ez, q⟩ := J0.after back
      subst ez
      cases rz
      exact ⟨.bl p, H', J', rfl, q⟩
    | next => exact back.elim
    | brk => exact back.elim
    | cont => exact back.elim
end
end GX

/-! ### a def called while an exception is held: what it promises may speak of that exception -/
namespace GX
open PySem PySem.Spec PyProof.Rows L2
abbrev SpE := Addr → Value → Option Addr → Sp
structure FnG (P : Program) (w : World) (K : PySem.W.Frag) (mg : Str → Option Value) (base : Heap) (k : Nat) (f : Addr) (fd : FuncData) (ps : List Str) (sp : SpE) : Prop where
  len : ∀ a c d vs H Q, sp a c d vs H Q E0 → vs.length = ps.length
  run : ∀ (A : Around) (outer : List Env) (s : Shared) (H : Hp) (args : Args) (us : List Value) (vs : List V) (Q : VK) (p : Addr × Obj), L2H.RoomH k A → L2H.PinOk outer H s p → (∃ fv, p.2.data = .fields fv) →
    Env0 P w K mg base A outer s H → BindsTo s fd args (ps.zip us) → Vals vs us → sp p.1 p.2.cls p.2.dict vs H Q E0 → codeAny (model P w) A (.call (.ref f) args) (CR CX0 outer P w H s Q E0) s
abbrev cxG (P : Program) (w : World) (K : PySem.W.Frag) (mg : Str → Option Value) (base : Heap) (N : List Str) (qual : Str) (scope : Scope) (f : Addr) (cd : Value) (A : Around) (outer : List Env) (s : Shared) (H : Hp) (p : Addr × Obj) : Cx :=
  L2H.cxH CX0 P w K mg base N qual scope f cd A outer s H E0 p
theorem _root_.L2.Fun.okG {P : Program} {w : World} {K : PySem.W.Frag} {mg : Str → Option Value} {base : Heap} {x qual : Str} {st : Stmt} {f : Addr} {fd : FuncData} {N ps : List Str} {k : Nat} {sp : SpE} (F : Fun K x qual st f fd) (S : FnScope N ps (defScope st))
    (len : ∀ a c d vs H Q, sp a c d vs H Q E0 → vs.length = ps.length)
    (walks : ∀ (cdv : Value) (A : Around) (outer : List Env) (s : Shared) (H : Hp) (vs : List V) (Q : VK) (p : Addr × Obj), (∃ fv, p.2.data = .fields fv) → sp p.1 p.2.cls p.2.dict vs H Q E0 →
      ∃ t, PSs (cxG P w K mg base N qual (defScope st) f cdv A outer s H p) (defBody st) t ∧ t { nx := fun _ H' => Q .non H', rt := Q } (start N vs) H) : FnG P w K mg base (k + 1) f fd ps sp := by
  obtain ⟨oc, od, kV, doc, pm, an, cdv, ct, osl, rfl, at_, code⟩ := F.ex
  constructor
  · exact len
  intro A outer s H args us vs Q p room pin fields env bound rel promise
  have many := len _ _ _ _ _ _ promise
  have inK : K.In s.heap := env.mod.kin.keeps fun b o e => (env.bs b o e).1
  have free : s.heap.NoLimit := env.mod.nolimit.keeps fun b o e => (env.bs b o e).1
  have kinds : ∀ y ∈ ps.zip us, (defScope st).names.lookup y.1 = some .local ∨ ((defScope st).names.lookup y.1 = some .cell ∧ ((cellsFrom (s.heap.objs.size + 1) (defScope st).names []).lookup y.1).isSome = true) := by
    rintro ⟨n, v⟩ hy
    cases S.par n (List.of_mem_zip hy).1 with
    | inl q => exact .inl q
    | inr q => exact .inr ⟨q, PySem.W.cellsFrom_some _ _ _ (.inl q)⟩
  refine codeAny_call_function room.depth (inK _ _ at_) rfl S.co S.gen rfl (PySem.W.codeRec_of inK code) (bound _ _ _ _ (wpAny_newFunctionEnv_cells S.kind kinds fun e0 he s1 x => ?_))
  subst he
  refine ⟨free.keeps x.toInCall.keep, codeAny_func ?_⟩
  obtain ⟨t, der, goal⟩ := walks cdv A outer s H vs Q p fields promise
  have J : Inv (cxG P w K mg base N qual (defScope st) f cdv A outer s H p) [] (start N vs) H s1 := L2H.inv_startH S pin env many rel x
  refine wpAny_mono (der.run [] s1 (start N vs) H _ J goal) (fun r s' back => ?_) fun e s' back => back
  cases r with
  | ret u =>
    obtain ⟨v, σ', H', J', rv, q⟩ := back
    exact ⟨v, H', J'.os, J'.bare, J'.base, J'.hok, rv, q⟩
  | next =>
    obtain ⟨σ', H', J', q⟩ := back
    exact ⟨.non, H', J'.os, J'.bare, J'.base, J'.hok, rfl, q⟩
  | brk => obtain ⟨_, _, _, z⟩ := back; exact False.elim z
  | cont => obtain ⟨_, _, _, z⟩ := back; exact False.elim z
structure HotX (P : Program) (w : World) (K : PySem.W.Frag) (mg : Str → Option Value) (base : Heap) (k : Nat) (x : Str) (sp : SpE) : Prop where
  ex : ∃ (f : Addr) (fd : FuncData) (ps : List Str), FnG P w K mg base k f fd ps sp ∧ mg x = some (.ref f) ∧ PySem.W.keepIn K (.ref f) = true ∧ L2.Binds K fd ps []
/-- f(..) within an except suite -/
def tCallG (sp : Sp) (t : TA) : TE := fun σ H Q => t σ H fun vs H1 => sp vs H1 Q E0
theorem pe_callG {X : Cx} {k j : Nat} {x : Str} {sp : SpE} {p pos : Pos} {e : Expr} {es : List Expr} {t : TA} {a : Addr} {oe : Obj} {cls : Value} {d : Option Addr} {pn : List (Addr × Obj)} (c : HotX X.prog X.w X.K X.mg X.base k x sp) (room : Room j X.A) (le : k ≤ j) (hz : Zc cls d oe) (hf : ∃ vs, oe.data = .fields vs)
    (hg : Gl (X.suite a ((a, oe) :: pn)) x) (ha : PA (X.suite a ((a, oe) :: pn)) (e :: es) t) (hdb : (x == ("__debug__" : Str)) = false := by decide)
    (he : starEach (e :: es) X.env = (false, eval e X.env) :: starEach es X.env := by rfl) (hpl : (backTo pos (starEach es X.env)).any (·.1) = false := by rfl) : PE (X.suite a ((a, oe) :: pn)) (.Call (.Name x p) (e :: es) [] pos) (tCallG (sp a cls d) t) := by
  obtain ⟨f, fd, ps, F, hm, kp, hbd⟩ := c.ex
  obtain ⟨rfl, rfl⟩ := hz
  refine ⟨fun pins s σ H Q J0 h => ?_⟩
  refine wpAny_Call_Name_kw (ld_glob J0 hg hm (PySem.W.callWith_K (h₀ := X.base) J0.ok.mod.kin kp (thn (ha.run pos pins s σ H _ J0 h) fun us s1 ⟨vs, H1, J1, rel, q⟩ => ⟨J1.kIn, ?_⟩) he hpl) hdb)
  have two := F.len _ _ _ _ _ _ q
  have bound := hbd s1 us J1.kIn (by rw [List.append_nil, ← rel.length]; exact two)
  rw [List.append_nil] at bound
  have P1 := J1.pin (a, oe) (List.mem_append_left _ List.mem_cons_self)
  have pin : L2H.PinOk (X.suite a ((a, oe) :: pn)).stack H1 s1 (a, oe) := ⟨P1.1, P1.2.1, fun hmm => (List.mem_cons.mp (J1.stkSub a hmm)).elim P1.2.2.1 P1.2.2.2.1, P1.2.2.2.2⟩
  refine wpAny_call (codeAny_mono (F.run _ (X.suite a ((a, oe) :: pn)).stack s1 H1 ⟨us, []⟩ us vs Q (a, oe) ⟨(room.mono le).dp, (room.mono le).un⟩ pin hf J1.env0 bound rel q) fun r s' back => ?_)
  cases r with
  | error e => exact back.elim
  | ok fl =>
    cases fl with
    | ret u => exact J1.after back
    | next => exact back.elim
    | brk => exact back.elim
    | cont => exact back.elim
/-- isinstance of the exception that is held, within a def that is called in the suite -/
theorem call_isG {P : Program} {w : World} {K : PySem.W.Frag} {mg : Str → Option Value} {base : Heap} {N : List Str} {qual : Str} {scope : Scope} {f : Addr} {cd : Value} {A : Around} {outer : List Env} {s0 : Shared} {H0 : Hp} {p : Addr × Obj} (hf : ∃ vs, p.2.data = .fields vs) :
    CallR (cxG P w K mg base N qual scope f cd A outer s0 H0 p) (.builtin "isinstance") (rIsX K p.1 p.2.cls p.2.dict) := by
  intro pins s σ H xs us Q J0 r h
  obtain ⟨c, u, b, D, dd, fs, rfl, hc, ecls, edict, C, hd, e, q⟩ := h
  obtain ⟨u1, u2, rfl, r1, r2⟩ := vals2 r
  cases (show u1 = Value.ref p.1 from r1)
  cases hc.eq r2
  obtain ⟨hget, _⟩ := J0.pin p (List.mem_append_left _ (by show p ∈ [p]; simp))
  obtain ⟨vs, hv⟩ := hf
  have ho : ObjOk P w H s.heap dd (.xd fs) := J0.hok dd _ hd
  obtain ⟨mA, hns, _⟩ := ho
  obtain ⟨od, e2, _⟩ := lookIn_ns hns
  have J : PySem.W.InstAt s.heap p.1 p.2 D (some od) := ⟨hget, ecls, by unfold PySem.W.notCls; rw [hv] <;> rfl, by rw [edict]; exact e2⟩
  exact PySem.W.kia_one (kit_here C) J0.kIn J e (fun z => nomatch z) fun tk => ⟨.bl b, H, J0.tok tk, rfl, q⟩
/-! ### errors with two fields -/
def sp_err2 (K : PySem.W.Frag) (C : Addr) (f g : Str) : Sp := fun vs H Q _ => ∃ (a : Addr) (v u : V), vs = [.ref a, v, u] ∧ OexC K C ∧ PySem.W.findIn K (.ref C) f = some none ∧ PySem.W.findIn K (.ref C) g = some none ∧ H a = some (exo a C none) ∧
  ∀ dx (H' : Hp), H dx = none → dx ≠ a → H' a = some (exo a C (some dx)) → H' dx = some (exd dx [(g, u), (f, v)]) → (∀ b, b ≠ a → b ≠ dx → H' b = H b) → Q .non H'
def t_err2 (K : PySem.W.Frag) (f g : Str) : TS := tSeq (tOst K f (tVar 0) (tVar 1)) (tOst K g (tVar 0) (tVar 2))
theorem rd_err2 {K : PySem.W.Frag} {C : Addr} {f g p1 p2 p3 : Str} {vs : List V} {H : Hp} {Q : VK} {E : XK} (h : sp_err2 K C f g vs H Q E) : t_err2 K f g { nx := fun _ H' => Q .non H', rt := Q } (start [p1, p2, p3] vs) H := by
  obtain ⟨a, v, u, rfl, T, hf, hg, ha, q⟩ := h
  refine ⟨_, rfl, _, rfl, a, C, rfl, T, hf, .inl ⟨ha, fun dx hdx ndx => ?_⟩⟩
  refine ⟨_, rfl, _, rfl, a, C, rfl, T, hg, .inr ⟨dx, [(f, v)], upd_same, by rw [upd_ne ndx]; exact upd_same, by show 1 ≤ 900; decide, ?_⟩⟩
  refine q dx _ hdx ndx (by rw [upd_ne ndx.symm]; exact upd_same) upd_same fun b nb nd => ?_
  rw [upd_ne nd, upd_ne nb, upd_ne nd]
/-- what an error with two fields tells -/
def Raised2 (C : Addr) (f g : Str) (v u : V) (H : Hp) (E : XK) : Prop := ∀ (d : Addr) (H' : Hp), H d = none → Same H H' → H' d = some (.xd [(g, u), (f, v)]) → E (.ref C) (some d) H'
theorem w_raiseO2 {K : PySem.W.Frag} {C : Addr} {f g : Str} {E : XK} {ta : TA} {D : Ends} {σ : L2.St} {H : Hp} {v u : V} {H1 : Hp} (T : OexC K C) (hf : PySem.W.findIn K (.ref C) f = some none) (hg : PySem.W.findIn K (.ref C) g = some none) (e1 : ∀ Q, Q [v, u] H1 → ta σ H Q) (r : Raised2 C f g v u H1 E) : tRaiseO C (sp_err2 K C f g) E ta D σ H := by
  refine e1 _ ⟨(by show 2 ≤ 1000; decide), fun a ha => ⟨a, v, u, rfl, T, hf, hg, upd_same, fun dx H' hdx ndx h1 h2 h3 => ⟨rfl, dx, _, h1, h2, ?_, ?_⟩⟩⟩
  · rw [upd_ne ndx] at hdx; exact hdx
  · have hd0 : H1 dx = none := by rw [upd_ne ndx] at hdx; exact hdx
    refine r dx _ hd0 (fun b o e => ?_) upd_same
    have nb : b ≠ dx := ne_of_none e hd0
    have na : b ≠ a := ne_of_none e ha
    rw [upd_ne nb, del_ne na, h3 b na nb, upd_ne na]; exact e
end GX

/-! ### facts of the head about error classes and own operators -/
namespace GX
open PySem PySem.Spec PyProof.Rows L2
def clsB (K : PySem.W.Frag) (C : Addr) : Bool := match K.lookup C with
  | some ⟨.type t, _, .cls cd, sl⟩ => (match cd.mro, sl.toList with
    | .ref C2 :: bm, [_, _, _, _, some (.builtin n), _] => t == "type" && (C2 == C && (n == "ValueError.__new__" && (!cd.hasDel && (cd.hasDict && PySem.HandSPX.refsVE bm))))
    | _, _ => false)
  | _ => false
theorem clsB_ok {K : PySem.W.Frag} {C : Addr} (h : clsB K C = true) : ∃ nm q N bs bm sn sub ab col dd k0 k1 k2 k3 k5, K.lookup C = some (excClassObj nm q C N bs bm true sn sub ab col dd k0 k1 k2 k3 k5 "ValueError.__new__") ∧ PySem.HandSPX.refsVE bm = true := by
  unfold clsB at h
  split at h
  · rename_i t dd cd sl found
    split at h
    · rename_i C2 bm k0 k1 k2 k3 n k5 em es
      simp only [Bool.and_eq_true, beq_iff_eq, Bool.not_eq_true'] at h
      obtain ⟨rfl, rfl, rfl, nodel, hasd, tail⟩ := h
      obtain ⟨nm, bs, mro, ns, qn, hd, sn, sub, ab, col, del⟩ := cd
      dsimp only at em nodel hasd
      subst em nodel hasd
      obtain ⟨l⟩ := sl
      simp only at es
      subst es
      exact ⟨nm, qn, ns, bs, bm, sn, sub, ab, col, dd, k0, k1, k2, k3, k5, found, tail⟩
    · cases h
  · cases h
inductive Ex where
  | oex (x : Str)
  | exc (x : Str)
  | xf (x : Str)
  | noat (x f : Str)
  | ini (x : Str)
  | kit (x y : Str) (b : Bool)
  | kitT (x : Str) (t : String) (b : Bool)
  | exm (x y : Str) (b : Bool)
  | first (x : Str)
  | ins (x : Str)
  | kitR (t : String) (x : Str) (b : Bool)
  | kitA (x : Str) (ys : List Str) (b : Bool)
  | nfst (x : Str) (t : String)
def Ex.ok (K : PySem.W.Frag) : Ex → Bool
  | .oex x => clsB K (He.ga K x) && (decide (PySem.W.findIn K (.ref (He.ga K x)) "__setattr__" = some (some (.builtin "object.__setattr__"))) && (decide (PySem.W.subIn K (.ref (He.ga K x)) (.type "BaseException") = some true) && (decide (PySem.W.typeIn K (.ref (He.ga K x)) = some (.type "type")) && PySem.W.keepIn K (.ref (He.ga K x)))))
  | .exc x => decide (PySem.W.findIn K (.ref (He.ga K x)) "__getattribute__" = some (some (.builtin "BaseException.__getattribute__"))) && (decide (PySem.W.findIn K (.ref (He.ga K x)) "__getattr__" = some none) && (decide (PySem.W.subIn K (.ref (He.ga K x)) (.type "BaseException") = some true) &&
      (PySem.W.hasDictIn K (He.ga K x) && (decide (PySem.W.findIn K (.ref (He.ga K x)) "__class__" = some (some (.builtin "object.__class__"))) && (decide (PySem.W.specialIn K (.builtin "object.__class__") "__get__" = some (some (.builtin "getset_descriptor.__get__"))) &&
      (decide (PySem.W.takesIn K (.builtin "object.__class__") = some true) && decide (PySem.W.mroIn K (He.ga K x) (.type "object") = some true)))))))
  | .xf x => xfB K (He.ga K x)
  | .noat x f => decide (PySem.W.findIn K (.ref (He.ga K x)) f = some none)
  | .ini x => decide (PySem.W.findIn K (.ref (He.ga K x)) "__init__" = some (some (.ref (He.ma K (He.ga K x) "__init__")))) && decide (PySem.W.typeIn K (.ref (He.ma K (He.ga K x) "__init__")) = some (.type "function"))
  | .kit x y b => decide (PySem.W.kitOne K (.ref (He.ga K x)) (.ref (He.ga K y)) = some b)
  | .kitT x t b => decide (PySem.W.kitOne K (.ref (He.ga K x)) (.type t) = some b)
  | .exm x y b => decide (PySem.W.exmOne K (.ref (He.ga K x)) (.ref (He.ga K y)) = some b)
  | .first x => PySem.W.selfFirst K (He.ga K x)
  | .kitR t x b => decide (PySem.W.kitOne K (.type t) (.ref (He.ga K x)) = some b)
  | .kitA x ys b => decide (PySem.W.kitAny K (.ref (He.ga K x)) (ys.map fun y => .ref (He.ga K y)) = some b)
  | .nfst x t => PySem.W.notFirst K (He.ga K x) (.type t)
  | .ins x => decide (PySem.W.findIn K (.ref (He.ga K x)) "__class__" = some (some (.builtin "object.__class__"))) && (decide (PySem.W.specialIn K (.builtin "object.__class__") "__get__" = some (some (.builtin "getset_descriptor.__get__"))) &&
      (decide (PySem.W.takesIn K (.builtin "object.__class__") = some true) && decide (PySem.W.mroIn K (He.ga K x) (.type "object") = some true)))
structure InsC (K : PySem.W.Frag) (C : Addr) : Prop where
  ha : PySem.W.findIn K (.ref C) "__class__" = some (some (.builtin "object.__class__"))
  hn : PySem.W.specialIn K (.builtin "object.__class__") "__get__" = some (some (.builtin "getset_descriptor.__get__"))
  ht : PySem.W.takesIn K (.builtin "object.__class__") = some true
  hm : PySem.W.mroIn K C (.type "object") = some true
section
variable {K : PySem.W.Frag} {x y f : Str} {t : String} {b : Bool}
theorem oex_ok (h : (Ex.oex x).ok K = true) : OexC K (He.ga K x) := by
  obtain ⟨h1, h⟩ := He.ba h
  obtain ⟨h2, h⟩ := He.ba h
  obtain ⟨h3, h⟩ := He.ba h
  obtain ⟨h4, h5⟩ := He.ba h
  exact ⟨clsB_ok h1, of_decide_eq_true h2, of_decide_eq_true h3, of_decide_eq_true h4, h5⟩
theorem exc_ok (h : (Ex.exc x).ok K = true) : ExcC K (He.ga K x) := by
  obtain ⟨h1, h⟩ := He.ba h
  obtain ⟨h2, h⟩ := He.ba h
  obtain ⟨h3, h⟩ := He.ba h
  obtain ⟨h4, h⟩ := He.ba h
  obtain ⟨h5, h⟩ := He.ba h
  obtain ⟨h6, h⟩ := He.ba h
  obtain ⟨h7, h8⟩ := He.ba h
  exact ⟨of_decide_eq_true h1, of_decide_eq_true h2, of_decide_eq_true h3, h4, of_decide_eq_true h5, of_decide_eq_true h6, of_decide_eq_true h7, of_decide_eq_true h8⟩
theorem xf_ok (h : (Ex.xf x).ok K = true) : XfC K (He.ga K x) := xfB_ok h
theorem noat_ok (h : (Ex.noat x f).ok K = true) : PySem.W.findIn K (.ref (He.ga K x)) f = some none := of_decide_eq_true h
theorem ini_ok (h : (Ex.ini x).ok K = true) : PySem.W.findIn K (.ref (He.ga K x)) "__init__" = some (some (.ref (He.ma K (He.ga K x) "__init__"))) ∧ PySem.W.typeIn K (.ref (He.ma K (He.ga K x) "__init__")) = some (.type "function") := by
  obtain ⟨h1, h2⟩ := He.ba h
  exact ⟨of_decide_eq_true h1, of_decide_eq_true h2⟩
theorem kit_ok (h : (Ex.kit x y b).ok K = true) : PySem.W.kitOne K (.ref (He.ga K x)) (.ref (He.ga K y)) = some b := of_decide_eq_true h
theorem kitT_ok (h : (Ex.kitT x t b).ok K = true) : PySem.W.kitOne K (.ref (He.ga K x)) (.type t) = some b := of_decide_eq_true h
theorem exm_ok (h : (Ex.exm x y b).ok K = true) : PySem.W.exmOne K (.ref (He.ga K x)) (.ref (He.ga K y)) = some b := of_decide_eq_true h
theorem kitR_ok (h : (Ex.kitR t x b).ok K = true) : PySem.W.kitOne K (.type t) (.ref (He.ga K x)) = some b := of_decide_eq_true h
theorem kitA_ok {ys : List Str} (h : (Ex.kitA x ys b).ok K = true) : PySem.W.kitAny K (.ref (He.ga K x)) (ys.map fun y => .ref (He.ga K y)) = some b := of_decide_eq_true h
theorem nfst_ok (h : (Ex.nfst x t).ok K = true) : PySem.W.notFirst K (He.ga K x) (.type t) = true := h
theorem first_ok (h : (Ex.first x).ok K = true) : PySem.W.selfFirst K (He.ga K x) = true := h
theorem ins_ok (h : (Ex.ins x).ok K = true) : InsC K (He.ga K x) := by
  obtain ⟨h5, h⟩ := He.ba h
  obtain ⟨h6, h⟩ := He.ba h
  obtain ⟨h7, h8⟩ := He.ba h
  exact ⟨of_decide_eq_true h5, of_decide_eq_true h6, of_decide_eq_true h7, of_decide_eq_true h8⟩
end
abbrev AlE : Type := He.AlD × Bool
def obsE (fa : List He.Fa) (fn : List He.DefD) (ex : List Ex) (K : PySem.W.Frag) : AlE := (He.obsD fa fn K, ex.all fun e => e.ok K)
def obsEG (n : Nat) (fa : List He.Fa) (fn : List He.DefD) (ex : List Ex) (g : Addr → Option Obj) : AlE := obsE fa fn ex (He.frG g (He.asD g n))
def SaysE (fa : List He.Fa) (fn : List He.DefD) (ex : List Ex) (K : PySem.W.Frag) : Prop := He.SaysD fa fn K ∧ (ex.all fun e => e.ok K) = true
def hookE (n : Nat) (fa : List He.Fa) (fn : List He.DefD) (ex : List Ex) : PySem.W.Hook where
  α := AlE
  obs := fun s => obsEG n fa fn ex s.heap.get?
  val := fun _ => (He.valD fn, true)
  says := fun _ h => ∃ K : PySem.W.Frag, K.In h ∧ SaysE fa fn ex K
  of := fun _ _ e => ⟨_, He.frG_in, congrArg (fun z : AlE => z.1) e, congrArg (fun z : AlE => z.2) e⟩
  keeps := fun _ _ _ ⟨K, hK, c⟩ k => ⟨K, PySem.W.Frag.In.keeps hK k, c⟩
theorem obsEG_eq {n : Nat} {fa : List He.Fa} {fn : List He.DefD} {ex : List Ex} {g : Addr → Option Obj} {s : Shared} (h : ∀ a, g a = s.heap.get? a) : obsEG n fa fn ex g = (hookE n fa fn ex).obs s := by
  obtain rfl : g = s.heap.get? := funext h
  rfl
theorem SaysE.more {fa : List He.Fa} {fn : List He.DefD} {ex : List Ex} {K : PySem.W.Frag} (c : SaysE fa fn ex K) (i : Nat) {e : Ex} (h : ex[i]? = some e := by rfl) : e.ok K = true := List.all_eq_true.mp c.2 e (List.mem_of_getElem? h)
end GX

namespace GX
open PySem L2 G
/-- try: body; except C as n: suite (n in slot i) -/
def tTryAs (K : PySem.W.Frag) (C : Addr) (i : Nat) (tb : WX → TS) (ts : Addr → Value → Option Addr → TS) : TS := fun D σ H => tb (wAs K (.ref C) i ts (fun _ _ _ _ => False) D) D σ H
theorem w_isX {K : PySem.W.Frag} {a D dd : Addr} {c : V} {u : Value} {b : Bool} {fs : List (Str × V)} {H : Hp} {Q : VK} (hc : ClsV c u) (C : ExcC K D) (hd : H dd = some (.xd fs)) (e : PySem.W.kitOne K (.ref D) u = some b) (q : Q (.bl b) H) :
    rIsX K a (.ref D) (some dd) [.ref a, c] H Q := ⟨c, u, b, D, dd, fs, rfl, hc, rfl, rfl, C, hd, e, q⟩
theorem w_xf {a C dd : Addr} {f : Str} {fs : List (Str × V)} {v : V} {te : TE} {σ : L2.St} {H : Hp} {Q : VK} (h : ∀ Q : VK, Q (.ref a) H → te σ H Q) (hd : H dd = some (.xd fs)) (l : fs.lookup f = some v) (q : Q v H) : tXf a (.ref C) (some dd) C f te σ H Q :=
  h _ ⟨rfl, rfl, dd, fs, v, rfl, hd, l, q⟩
theorem w_callG {sp : Sp} {tl : TA} {σ : L2.St} {H : Hp} {Q : VK} (h : tl σ H fun vs H1 => sp vs H1 Q E0) : tCallG sp tl σ H Q := h
theorem w_addS {C : Addr} {sp : Sp} {E : L2.St → XK} {ta tb : TE} {σ : L2.St} {H : Hp} {Q : VK} (h : ta σ H fun x H1 => tb σ H1 fun y H2 => rOwnAdd C sp (E σ) x y H2 Q) : tAddS C sp E ta tb σ H Q := h
end GX
namespace GX
open PySem PySem.Spec PyProof.Rows L2
/-- f(..) of a def that may raise, within a try -/
def tCallS (sp : Sp) (E : L2.St → XK) (t : TA) : TE := fun σ H Q => t σ H fun vs H1 => sp vs H1 Q (E σ)
theorem w_callS {sp : Sp} {E : L2.St → XK} {tl : TA} {σ : L2.St} {H : Hp} {Q : VK} (h : tl σ H fun vs H1 => sp vs H1 Q (E σ)) : tCallS sp E tl σ H Q := h
theorem pe_cXT {X : Cx} {k j : Nat} {x : Str} {sp : Sp} {W : WX} {p pos : Pos} {e : Expr} {es : List Expr} {t : TA} (c : CalX X.prog X.w X.K X.mg X.base k x sp) (hr : Room j X.A) (hk : k ≤ j) (hg : Gl X x) (tk : Takes X W) (ha : PA X (e :: es) t) (hdb : (x == ("__debug__" : Str)) = false := by decide)
    (he : starEach (e :: es) X.env = (false, eval e X.env) :: starEach es X.env := by rfl) (hpl : (backTo pos (starEach es X.env)).any (·.1) = false := by rfl) : PE X (.Call (.Name x p) (e :: es) [] pos) (tCallS sp (WE W) t) := by
  obtain ⟨f, fd, ps, F, hm, kp, hbd⟩ := c.ex
  refine ⟨fun pins s σ H Q J0 h => ?_⟩
  exact wpAny_Call_Name_kw (ld_glob J0 hg hm (PySem.W.callWith_K (h₀ := X.base) J0.ok.mod.kin kp (thn (ha.run pos pins s σ H _ J0 h) fun us s1 ⟨vs, H1, J1, rel, q⟩ => ⟨J1.kIn, run_fnS F (hr.mono hk) hbd (passAt tk σ) J1 rel q⟩) he hpl) hdb)
end GX
namespace GX
open PySem L2 G
def oInsert : V → List V → Hp → VK → Prop := fun x vs H Q => ∃ (l : Addr) (xs : List V) (i : Int) (y : V), x = .ref l ∧ vs = [.int i, y] ∧ H l = some (.lst xs) ∧ xs.length < sizeLine ∧ 0 ≤ i ∧ i < 2 ^ 63 ∧ Q .non (upd H l (.lst (xs.take i.toNat ++ [y] ++ xs.drop i.toNat)))
theorem mt_ins {X : Cx} : MtR X "list.insert" oInsert := mt_insert
theorem w_insert {H : Hp} {Q : VK} {p : Addr} {xs : List V} {i : Int} {y : V} (h : H p = some (.lst xs)) (hz : xs.length ≤ 900) (h0 : 0 ≤ i) (h1 : i < 1000000) (q : ∀ zs, Q .non (upd H p (.lst zs))) : oInsert (.ref p) [.int i, y] H Q :=
  ⟨p, xs, i, y, rfl, rfl, h, small1000 (by omega), h0, by omega, q _⟩
end GX

/-! ### several except clauses with names; walks over what is a list or a tuple -/
namespace GY
open PySem PySem.Spec PyProof.Rows L2
abbrev Cls3 := Value × Nat × (Addr → Value → Option Addr → TS)
def wManyAs (K : PySem.W.Frag) (Wout : WX) (D : Ends) : List Cls3 → WX
  | [] => Wout
  | (c, i, ts) :: r => fun cls d σ H => ∃ b, PySem.W.exmOne K cls c = some b ∧
      (b = true → ∀ a, H a = none → ts a cls d { nx := fun σ' H' => D.nx (σ'.set i none) H', rt := D.rt, bk := fun σ' H' => D.bk (σ'.set i none) H', ct := fun σ' H' => D.ct (σ'.set i none) H' } (σ.set i (some (.ref a))) H) ∧
      (b = false → wManyAs K Wout D r cls d σ H)
inductive HdsAs (X : Cx) : List ExceptHandler → List Cls3 → Prop
  | nil : HdsAs X [] []
  | cons {x n : Str} {c : Value} {i : Nat} {ts : Addr → Value → Option Addr → TS} {b₀ : Stmt} {suite : List Stmt} {np pos' : Pos} {hds : List ExceptHandler} {l : List Cls3} (hi : X.N[i]? = some n) (hln : X.env.kindOf n = some .local) (hc : Names X x c)
      (hsu : ∀ (a : Addr) (oe : Obj) (cls : Value) (d : Option Addr) (pn : List (Addr × Obj)), Zc cls d oe → (∃ vs, oe.data = .fields vs) → PSs (X.suite a ((a, oe) :: pn)) (b₀ :: suite) (ts a cls d)) (r : HdsAs X hds l) :
      HdsAs X (.ExceptHandler (some (.Name x np)) (some n) (b₀ :: suite) pos' :: hds) ((c, i, ts) :: l)
def tTryMany (K : PySem.W.Frag) (l : List Cls3) (tb : WX → TS) : TS := fun D σ H => tb (wManyAs K (fun _ _ _ _ => False) D l) D σ H
section
variable {X : Cx} {body : List Stmt} {h₀ : ExceptHandler} {hds : List ExceptHandler} {l : List Cls3} {pos : Pos} {tb : WX → TS}
theorem ps_try_manyAs (hs : X.stack = X.env :: X.outer) (hf : X.env.frame = some X.env.locals) (hN : X.N.Nodup) (tk : Takes X (fun _ _ _ _ => False))
    (hb : ∀ (W : WX) (pn : List (Addr × Obj)) (xe : Value → Shared → Prop), Takes (X.tr pn xe) W → PassesOwn (model X.prog X.w) X.A X.env xe → PSs (X.tr pn xe) body (tb W))
    (hh : HdsAs X (h₀ :: hds) l) : PS X (.Try body (h₀ :: hds) [] [] pos) (tTryMany X.K l tb) := by
  refine ⟨fun pins s σ H D I h => ?_⟩
  have ok := I.ok
  have hfr : X.A.frames = some (X.env :: X.outer) := by rw [ok.frames, hs]
  refine wpAny_Try_except ?_
  refine wpAny_mono ((hb (wManyAs X.K (fun _ _ _ _ => False) D l) (X.pn ++ pins) (fun e s₁ => wpAny (model X.prog X.w) X.A (noteFrame e X.env) (fun _ s₂ => wpAny (model X.prog X.w) X.A (setFlight e none) (fun _ s₃ =>
    wpAny (model X.prog X.w) X.A (handleBy e X.env (h₀ :: hds)) (SP X pins D) X.xe s₃) X.xe s₂) X.xe s₁) (fun u s' xx => ?_) PassesOwn.looking).run [] s σ H D (I.toTry _) h) (fun f s1 hsp => ?_) (fun e s1 he => he)
  · obtain ⟨a, B, sI, pins', σ', H', cls, d, rfl, J', nb, up, sky, na, os, ag, w⟩ := xx
    have J : Inv X pins σ' H' sI := J'.ofTry ok
    have sky' : Sky B (X.env :: X.outer) a (Zc cls d) X.env.locals s'.heap := by rw [← hs]; exact sky
    show wpAny (model X.prog X.w) X.A (noteFrame (.ref a) X.env) _ _ _
    refine Sky.land Zc.steady hfr hf sky' fun h3 fl3 up3 => ?_
    have J3 : Inv X pins σ' H' { s' with heap := h3 } := J.landed nb fl3.1 (up.trans up3) os ag
    obtain ⟨oe3, vs3, he3, hz3, hd3⟩ := fl3.there
    have notFr : ∀ {h : Heap} {o : Obj} {vs : Array Value}, h.FunFrames B (X.env :: X.outer) → h.get? a = some o → o.data = .fields vs → a ∉ frs (X.env :: X.outer) := fun {h o vs} ff e dd hm => by
      obtain ⟨_, o', e', hnf⟩ := ff.mem hm
      rw [e] at e'; cases e'
      exact hnf _ dd
    have nfr := notFr fl3.2.2.1 he3 hd3
    have nL : a ≠ X.env.locals := fun z => nfr (List.mem_filterMap.mpr ⟨X.env, List.mem_cons_self, by rw [hf, z]⟩)
    have nF : a ∉ X.fs := fun hm => by
      obtain ⟨e, he, q⟩ := List.mem_filterMap.mp hm
      exact nfr (List.mem_filterMap.mpr ⟨e, List.mem_cons_of_mem _ he, q⟩)
    have S3 := J3.suite he3 hd3 na nL nF
    have go : ∀ {hds' : List ExceptHandler} {l' : List Cls3}, HdsAs X hds' l' → wManyAs X.K (fun _ _ _ _ => False) D l' cls d σ' H' →
        wpAny (model X.prog X.w) X.A (handleBy (.ref a) X.env hds') (SP X pins D) X.xe { s' with heap := h3 } := by
      intro hds' l' hk
      induction hk with
      | nil => exact fun w => w.elim
      | @cons x n c i ts b₀ suite np pos' hds2 l2 hi hln hc hsu r ih =>
        intro w
        have hloc : Loc X.env.scope n := .inl hln
        obtain ⟨b, hb1, hyes, hno⟩ := w
        refine wpAny_handleBy_cons (codeAny_handlers_test ?_) (by intro q; cases q)
        have LT : PySem.W.Looks (model X.prog X.w) h3 (typeOf (.ref a)) cls := fun A Q E s k q => wpAny_typeOf_ref (k _ _ he3) (by rw [hz3.1]; exact q)
        have LM := PySem.W.exm_one (M := model X.prog X.w) (J3.kIn) LT hb1
        have test : ∀ {Q : Value → Shared → Prop} {E : Value → Shared → Prop}, Q c { s' with heap := h3 } → wpAny (model X.prog X.w) (X.A.mark (some (.ref a))) (eval (.Name x np) X.env) Q E { s' with heap := h3 } := fun {Q E} q => by
          obtain ⟨hg, hdbg, hm | ⟨hm, hv, hnn⟩⟩ := hc
          · exact ld_glob (X := X.suite a ((a, oe3) :: (X.pn ++ pins))) S3 hg hm q hdbg
          · exact ld_blt (X := X.suite a ((a, oe3) :: (X.pn ++ pins))) S3 hg hm hv q hnn hdbg
        refine test (LM.here ?_)
        cases b with
        | true =>
          refine codeAny_handlers_suite_as ?_
          refine HandSPX.lands_againZ fl3 fun h4 fl4 up4 => ?_
          have J4 : Inv X pins σ' H' { s' with heap := h4 } := J.landed nb fl4.1 ((up.trans up3).trans up4) os ag
          obtain ⟨oe4, vs4, he4, hz4, hd4⟩ := fl4.there
          have S4 := J4.suite he4 hd4 na nL nF
          refine store_ok (X := X.suite a ((a, oe4) :: (X.pn ++ pins))) (v := .ref a) S4 hN hi hloc rfl (fun s5 S5 => ?_) (.inr hln)
          refine wpAny_mono ((hsu a oe4 cls d (X.pn ++ pins) hz4 ⟨_, hd4⟩).run [] s5 _ H' _ S5 (hyes rfl a na)) (fun f s6 hsp => ?_) (fun _ _ z => False.elim z)
          have end_ : ∀ {σ6 : L2.St} {H6 : Hp} {Q : Shared → Prop}, Inv (X.suite a ((a, oe4) :: (X.pn ++ pins))) [] σ6 H6 s6 → (∀ s7, Inv X pins (σ6.set i none) H6 s7 → Q s7) →
              wpAny (model X.prog X.w) X.A (do bindName X.env n .none; unbindBehindTheSuite X.env n pos') (fun _ s7 => Q s7) X.xe s6 := fun {σ6 H6 Q} S6 hq => gone_ok (S6.unsuite ok) hN hi hln hq
          cases f with
          | next =>
            obtain ⟨σ6, H6, S6, q6⟩ := hsp
            exact end_ S6 fun s7 J7 => ⟨_, _, J7, q6⟩
          | brk =>
            obtain ⟨σ6, H6, S6, q6⟩ := hsp
            exact end_ S6 fun s7 J7 => ⟨_, _, J7, q6⟩
          | cont =>
            obtain ⟨σ6, H6, S6, q6⟩ := hsp
            exact end_ S6 fun s7 J7 => ⟨_, _, J7, q6⟩
          | ret u =>
            obtain ⟨v6, σ6, H6, S6, r6, q6⟩ := hsp
            exact end_ S6 fun s7 J7 => ⟨_, _, _, J7, r6, q6⟩
        | false =>
          show wpAny _ X.A (handleBy (.ref a) X.env hds2) _ _ _
          exact ih (hno rfl)
    exact go hh w
  · cases f with
    | next =>
      obtain ⟨σ', H', J', q⟩ := hsp
      exact wpAny_execs_nil ⟨σ', H', J'.ofTry ok, q⟩
    | brk =>
      obtain ⟨σ', H', J', q⟩ := hsp
      exact ⟨σ', H', J'.ofTry ok, q⟩
    | cont =>
      obtain ⟨σ', H', J', q⟩ := hsp
      exact ⟨σ', H', J'.ofTry ok, q⟩
    | ret u =>
      obtain ⟨v, σ', H', J', r, q⟩ := hsp
      exact ⟨v, σ', H', J'.ofTry ok, r, q⟩
end
/-- what is walked: a list or a tuple -/
def iSeq (K : PySem.W.Frag) (tl : TE) : TI := fun σ H R => tl σ H fun x H1 => ∃ a, x = .ref a ∧ (((∃ xs, SqL K H1 a xs) ∧ R (Itl K a) H1) ∨ ((∃ xs, SqT K H1 a xs) ∧ R (Itt K a) H1))
theorem pi_seq {X : Cx} {tg l : Expr} {tl : TE} (hl : PE X l tl) : PI X tg l (iSeq X.K tl) := by
  refine ⟨fun pins s σ H R I h => ?_⟩
  refine thn (hl.run pins s σ H _ I h) fun v s1 ⟨x, H1, I1, r1, a, e, q⟩ => ?_
  subst e
  cases r1
  rcases q with ⟨⟨xs, hq⟩, q⟩ | ⟨⟨xs, hq⟩, q⟩
  · obtain ⟨its, rv, p, _⟩ := I1.list hq
    refine wpAny_pyIter_list p.isList ?_
    refine ⟨s1.heap.objs.size, [s1.heap.objs.size], _, _, H1, rfl, I1.kept (t' := s1.toks) fun b o e => Heap.get?_push_of_some _ e, turn_list a _, ⟨_, Heap.get?_push_size _ rfl, rfl, rfl⟩, fun b hb => ?_, q⟩
    obtain rfl : b = s1.heap.objs.size := by simpa using hb
    exact I1.fpOk (Nat.le_refl _) (I1.hok.fresh (Nat.le_refl _))
  · obtain ⟨its, rv, p, _⟩ := I1.tuple hq
    refine wpAny_pyIter_tuple (show s1.heap.IsTuple a its.toArray from p) ?_
    refine ⟨s1.heap.objs.size, [s1.heap.objs.size], _, _, H1, rfl, I1.kept (t' := s1.toks) fun b o e => Heap.get?_push_of_some _ e, turn_tuple a _, ⟨_, Heap.get?_push_size _ rfl, rfl, rfl⟩, fun b hb => ?_, q⟩
    obtain rfl : b = s1.heap.objs.size := by simpa using hb
    exact I1.fpOk (Nat.le_refl _) (I1.hok.fresh (Nat.le_refl _))
end GY

namespace GX
open PySem PySem.Spec PyProof.Rows L2
/-- x == y where x's class has an own __eq__; y: an instance of that class, or a list -/
def rOwnEq (C : Addr) (sp : Sp) (E : XK) : R2 := fun x y H Q => ∃ (a b dx : Addr) (fs : List (Str × V)), x = .ref a ∧ y = .ref b ∧ H a = some (.ins C dx fs) ∧ ((∃ dy gs, H b = some (.ins C dy gs)) ∨ ∃ ys, H b = some (.lst ys)) ∧
  sp [.ref a, .ref b] H (fun v H' => ∃ r, v = .bl r ∧ Q (.bl r) H') E
section
variable {X : Cx} {CX : CXT} {n : Nat} {C f : Addr} {fd : FuncData} {ps : List Str} {sp : Sp} {E : XK}
theorem op_eqO (F : FnOk X.prog X.w X.K X.mg X.base CX n f fd ps sp) (hs : PySem.W.findIn X.K (.ref C) "__eq__" = some (some (.ref f))) (hf : PySem.W.isFn X.K (.ref f) = true) (hb : L2.Binds X.K fd ps []) (hx : Passes CX X E) (hr : Room n X.A)
    (hl : PySem.W.notFirst X.K C (.type "list") = true) : OpR X (compareOp .Eq) (rOwnEq C sp E) := by
  intro pins s σ H x y v u Q I rx ry hq
  obtain ⟨a, b, dx, fs, rfl, rfl, ha, hbb, hsp⟩ := hq
  cases rx
  cases ry
  obtain ⟨mA, J, _⟩ := ins_get I.hok ha
  obtain ⟨od, J, _⟩ := J.look
  obtain ⟨m, hF⟩ := I.fr
  have two : ∃ t, PySem.W.Looks (model X.prog X.w) s.heap (typeOf (.ref b)) t ∧ PySem.W.notFirst X.K C t = true := by
    rcases hbb with ⟨dy, gs, hbb⟩ | ⟨ys, hbb⟩
    · obtain ⟨mB, J', _⟩ := ins_get I.hok hbb
      obtain ⟨od', J', _⟩ := J'.look
      exact ⟨.ref C, J'.type, by simp [PySem.W.notFirst]⟩
    · obtain ⟨its, _, p, _⟩ := I.list (SqL.of hbb)
      obtain ⟨o, k, e1, e2, _⟩ := p
      exact ⟨.type "list", PySem.W.kitAt_ty _ _ ⟨o, e1, e2⟩, hl⟩
  obtain ⟨t, ht, hn⟩ := two
  show wpAny (model X.prog X.w) X.A (richCompare .Eq (.ref a) (.ref b)) (EP X pins σ Q) X.xe s
  refine PySem.W.cmp_K (op := .Eq) hr.units0 hF I.ok.mod.kin J ht hn hs hf ?_
  have hlen := F.len _ _ _ _ hsp
  have r2 : Vals [V.ref a, V.ref b] [Value.ref a, Value.ref b] := .cons rfl (.cons rfl .nil)
  have bd := hb s [.ref a, .ref b] I.kIn (by simpa using hlen)
  refine wpAny_call (codeAny_mono (F.run X.A X.stack s H ⟨[.ref a, .ref b], []⟩ _ _ _ E hr I.env0 (by simpa using bd) r2 hsp) fun r s' back => ?_)
  cases r with
  | error e => exact hx pins σ H s e s' I back
  | ok fl =>
    cases fl with
    | ret w =>
      obtain ⟨z, H', I', rz, c, ez, q⟩ := I.after back
      subst ez
      cases rz
      exact ⟨.bl c, H', I', rfl, q⟩
    | next => exact back.elim
    | brk => exact back.elim
    | cont => exact back.elim
end
end GX

namespace GX
open PySem PySem.Spec PyProof.Rows L2
/-- y in x where x's class has an own __contains__ -/
def rOwnIn (C : Addr) (sp : Sp) (E : XK) : R2 := fun y x H Q => ∃ (a dx : Addr) (fs : List (Str × V)), x = .ref a ∧ H a = some (.ins C dx fs) ∧ sp [.ref a, y] H (fun v H' => ∃ r, v = .bl r ∧ Q (.bl r) H') E
section
variable {X : Cx} {CX : CXT} {n : Nat} {C f : Addr} {fd : FuncData} {ps : List Str} {sp : Sp} {E : XK}
theorem op_inO (F : FnOk X.prog X.w X.K X.mg X.base CX n f fd ps sp) (hs : PySem.W.findIn X.K (.ref C) "__contains__" = some (some (.ref f))) (hf : PySem.W.isFn X.K (.ref f) = true) (hb : L2.Binds X.K fd ps []) (hx : Passes CX X E) (hr : Room n X.A) :
    OpR X (compareOp .In) (rOwnIn C sp E) := by
  intro pins s σ H y x v u Q I ry rx hq
  obtain ⟨a, dx, fs, rfl, ha, hsp⟩ := hq
  cases rx
  obtain ⟨mA, J, _⟩ := ins_get I.hok ha
  obtain ⟨od, J, _⟩ := J.look
  obtain ⟨m, hF⟩ := I.fr
  refine PySem.W.in_K hF I.ok.mod.kin J hs hf ?_
  have hlen := F.len _ _ _ _ hsp
  have r2 : Vals [V.ref a, y] [Value.ref a, v] := .cons rfl (.cons ry .nil)
  have bd := hb s [.ref a, v] I.kIn (by simpa using hlen)
  refine wpAny_call (codeAny_mono (F.run X.A X.stack s H ⟨[.ref a, v], []⟩ _ _ _ E hr I.env0 (by simpa using bd) r2 hsp) fun r s' back => ?_)
  cases r with
  | error e => exact hx pins σ H s e s' I back
  | ok fl =>
    cases fl with
    | ret w =>
      obtain ⟨z, H', I', rz, c, ez, q⟩ := I.after back
      subst ez
      cases rz
      exact wpAny_pure ⟨.bl c, H', I', rfl, q⟩
    | next => exact back.elim
    | brk => exact back.elim
    | cont => exact back.elim
end
end GX

namespace GX
open PySem PySem.Spec PyProof.Rows L2
/-- x is y, both truth values -/
def rIsB : R2 := fun x y H Q => ∃ a b, x = .bl a ∧ y = .bl b ∧ Q (.bl (decide (a = b))) H
theorem op_isB {X : Cx} : OpR X (compareOp .Is) rIsB := by
  intro pins s σ H x y v u Q I rx ry h
  obtain ⟨a, b, rfl, rfl, q⟩ := h
  cases rx
  cases ry
  refine wpAny_bind (wpAny_pure (wpAny_pure ⟨.bl (decide (a = b)), H, I, ?_, q⟩))
  cases a <;> cases b <;> rfl
end GX

/-! ### own ==, own in, by one name each -/
namespace GX
open PySem PySem.Spec PyProof.Rows L2
structure EqO (P : Program) (w : World) (K : PySem.W.Frag) (mg : Str → Option Value) (base : Heap) (k : Nat) (C : Addr) (sp : Sp) : Prop where
  ex : ∃ (f : Addr) (fd : FuncData) (ps : List Str), FnOk P w K mg base CX0 k f fd ps sp ∧ PySem.W.findIn K (.ref C) "__eq__" = some (some (.ref f)) ∧ PySem.W.isFn K (.ref f) = true ∧ L2.Binds K fd ps [] ∧ PySem.W.notFirst K C (.type "list") = true
structure InO (P : Program) (w : World) (K : PySem.W.Frag) (mg : Str → Option Value) (base : Heap) (k : Nat) (C : Addr) (sp : Sp) : Prop where
  ex : ∃ (f : Addr) (fd : FuncData) (ps : List Str), FnOk P w K mg base CX0 k f fd ps sp ∧ PySem.W.findIn K (.ref C) "__contains__" = some (some (.ref f)) ∧ PySem.W.isFn K (.ref f) = true ∧ L2.Binds K fd ps []
section
variable {X : Cx} {k j : Nat} {C : Addr} {sp : Sp}
theorem op_eqB (c : EqO X.prog X.w X.K X.mg X.base k C sp) (room : Room j X.A) (le : k ≤ j) : OpR X (compareOp .Eq) (rOwnEq C sp E0) :=
  let ⟨_, _, _, F, hs, hf, hb, hl⟩ := c.ex
  op_eqO F hs hf hb pass0 (room.mono le) hl
theorem op_inB (c : InO X.prog X.w X.K X.mg X.base k C sp) (room : Room j X.A) (le : k ≤ j) : OpR X (compareOp .In) (rOwnIn C sp E0) :=
  let ⟨_, _, _, F, hs, hf, hb⟩ := c.ex
  op_inO F hs hf hb pass0 (room.mono le)
end
end GX

namespace GX
open PySem PySem.Spec PyProof.Rows L2
abbrev freshSet (w : World) : Obj := { cls := .type "set", dict := none, data := .set #[] 0 (.fresh 0 0 (!w.params.followText "set-order")) }
section
variable {P : Program} {w : World} {A : Around} {E : Value → Shared → Prop} {s : Shared}
/-- the fresh set takes what a list of ints holds -/
theorem fillSet {l : Addr} {items : Array Value} (ns : List Int) {R : Result → Shared → Prop} (hA : A.in1.in1.in1.handled = none) (hl : s.heap.IsList l items) (hit : IntsAre items.toList ns) (hb : ns.length + 1 < scanBound)
    (fin : ∀ (h' : Heap) (tk c : Nat), SetR w h' s.heap.objs.size (fun j => decide (j ∈ ns)) c → c ≤ ns.length → (∀ b o, s.heap.get? b = some o → h'.get? b = some o) → R (.ok (.ret .none)) { s with heap := h', toks := tk }) :
    codeAny (model P w) A.in1.in1 (.builtin "set.update.loop" ⟨[.ref s.heap.objs.size, .ref (s.heap.objs.size + 1)], []⟩) R { s with heap := (s.heap.push (freshSet w)).push { cls := .type "list_iterator", data := .fields #[.ref l, .int 0 0] } } := by
  have n0 : items.size = ns.length := by
    have q := IntsAre.length hit
    rwa [Array.length_toList] at q
  have hold : ∀ b o, s.heap.get? b = some o → ((s.heap.push (freshSet w)).push { cls := .type "list_iterator", data := .fields #[.ref l, .int 0 0] }).get? b = some o := fun b o e =>
    Heap.get?_push_of_some _ (Heap.get?_push_of_some _ e)
  have z1 : (s.heap.push (freshSet w)).objs.size = s.heap.objs.size + 1 := Heap.size_push ..
  have lt : l < s.heap.objs.size := by
    obtain ⟨o, ho, _⟩ := hl
    exact Heap.lt_size ho
  have nl : l ≠ s.heap.objs.size + 1 := Nat.ne_of_lt (Nat.lt_succ_of_lt lt)
  have nf : s.heap.objs.size ∉ [s.heap.objs.size + 1, l] := by
    simp only [List.mem_cons, List.mem_singleton, List.not_mem_nil, or_false, not_or]
    exact ⟨Nat.ne_of_lt (Nat.lt_succ_self _), Nat.ne_of_gt lt⟩
  have vals : ∀ (i : Nat) (v : Value), items[i]? = some v → ∃ k t, ns[i]? = some k ∧ v = .int k t := fun i v hv => by
    obtain ⟨hi, _⟩ := Array.getElem?_eq_some_iff.mp hv
    rw [n0] at hi
    obtain ⟨t, e⟩ := IntsAre.int_at hit i v (by rw [Array.getElem?_toList]; exact hv)
    exact ⟨ns[i], t, List.getElem?_eq_getElem hi, by rw [e, List.getD_eq_getElem?_getD, List.getElem?_eq_getElem hi] <;> rfl⟩
  have itAt : ((s.heap.push (freshSet w)).push { cls := .type "list_iterator", data := .fields #[.ref l, .int 0 0] }).get? (s.heap.objs.size + 1) = some { cls := .type "list_iterator", data := .fields #[.ref l, .int 0 0] } := by
    rw [← z1]
    exact Heap.get?_push_size _ rfl
  have stAt : ((s.heap.push (freshSet w)).push { cls := .type "list_iterator", data := .fields #[.ref l, .int 0 0] }).get? s.heap.objs.size = some (freshSet w) := Heap.get?_push_of_some _ (Heap.get?_push_size _ rfl)
  have hl2 : ((s.heap.push (freshSet w)).push { cls := .type "list_iterator", data := .fields #[.ref l, .int 0 0] }).IsList l items := hl.at fun o e => hold l o e
  refine set_update_ints ((Walks.list hA (s.heap.objs.size + 1) l nl items).toS) s.heap.objs.size nf ns n0 hb vals (items.size - 0) 0 _ (by omega) (Nat.zero_le _)
    ⟨⟨_, itAt, rfl, rfl⟩, hl2⟩ ⟨0, Nat.le_refl 0, setR_new_at stAt⟩ fun s' c m hc hS => ?_
  obtain ⟨h', g, d, tk, os⟩ := s'
  obtain rfl : g = s.gens := m.gens
  obtain rfl : d = s.drawn := m.drawn
  obtain rfl : os = s.os := m.os
  rw [n0] at hc
  refine fin h' tk c hS hc fun b o e => ?_
  have b0 : b < s.heap.objs.size := Heap.lt_size e
  exact m.heap b o (by simp only [List.mem_cons, List.mem_singleton, List.not_mem_nil, or_false, not_or]; exact ⟨Nat.ne_of_lt b0, Nat.ne_of_lt (Nat.lt_succ_of_lt b0)⟩) (hold b o e)
/-- set(l), l a list of ints -/
theorem mkSet {l : Addr} {items : Array Value} (ns : List Int) {Q : Value → Shared → Prop} (hA : A.handled = none) (hl : s.heap.IsList l items) (hit : IntsAre items.toList ns) (hb : ns.length + 1 < scanBound)
    (fin : ∀ (h' : Heap) (tk c : Nat), SetR w h' s.heap.objs.size (fun j => decide (j ∈ ns)) c → c ≤ ns.length → (∀ b o, s.heap.get? b = some o → h'.get? b = some o) → Q (.ref s.heap.objs.size) { s with heap := h', toks := tk }) :
    wpAny (model P w) A (call (.type "set") [.ref l]) Q E s := by
  obtain ⟨c, tl, hmro⟩ := PySem.F.called_set.mro
  have hmade := PySem.F.called_set.made
  have hsub := PySem.F.called_set.sub
  have g1 := PySem.F.called_set.notType
  have g2 := PySem.F.called_set.canCreate
  have g3 := PySem.F.typeCall_set_1 (.ref l)
  refine wpAny_call (codeAny_of_tree ?_)
  show wpAny _ _ (callAny (.type "set") _) _ _ _
  refine wpAny_pure ⟨Code.quiet_builtin _ (by decide +kernel), codeAny_builtin PySem.F.entry_type_call ?_⟩
  rw [Around.under_plain (weight_type_call_type "set" [.ref l] []) rfl]
  repeat (any_goals (first | assumption | wp_step))
  refine codeAny_mono (code_set_led1 (.ref l) (E := E) (Q₁ := fun obj s₁ => obj = .ref s.heap.objs.size ∧ s₁ = { s with heap := s.heap.push (freshSet w) }) ⟨rfl, rfl⟩) fun r s₁ hr => ?_
  rcases r with e | f
  · exact hr
  cases f with
  | ret obj =>
    obtain ⟨rfl, rfl⟩ := hr
    have hS : (s.heap.push (freshSet w)).get? s.heap.objs.size = some (freshSet w) := Heap.get?_push_size _ rfl
    have hT : Shared.TypeIs { s with heap := s.heap.push (freshSet w) } (.ref s.heap.objs.size) "set" := ⟨_, hS, rfl⟩
    have hli := PySem.F.called_set.init.lookup
    have hbi := PySem.F.called_set.init.bind (.ref s.heap.objs.size)
    repeat (any_goals (first | assumption | wp_step))
    refine codeAny_mono (codeAny_call_builtin (R := wants (fun r s₂ => r = .none ∧ ∃ h' tk c, s₂ = { s with heap := h', toks := tk } ∧ SetR w h' s.heap.objs.size (fun j => decide (j ∈ ns)) c ∧ c ≤ ns.length ∧
          (∀ b o, s.heap.get? b = some o → h'.get? b = some o)) E) PySem.F.called_set.init.plain PySem.F.entry_set_init (check_set_init_1 hT ?_)) fun r₂ s₂ hr₂ => ?_
    · obtain ⟨⟨oc, od, dt, sl⟩, ho, hc, n, hd⟩ := id hl
      cases hc
      cases hd
      have ho2 : (s.heap.push (freshSet w)).get? l = some { cls := .type "list", dict := od, data := .seq items n, slots := sl } := Heap.get?_push_of_some _ ho
      have hl1 : (s.heap.push (freshSet w)).IsList l items := ⟨_, ho2, rfl, n, rfl⟩
      have u1 := PySem.F.sub_list_set
      have u2 := PySem.F.sub_list_frozenset
      have u3 : (Value.type "list" == Value.type "dict") = false := by decide
      unfold Builtin.«set.__init__» noKeywords Builtin.Frozenset.updateFrom
      generalize hPI : pyIter = PI
      wp_walk
      subst hPI
      refine wpAny_pyIter_list hl1 ?_
      refine wpAny_bind (wpAny_runValue ?_)
      have z1 : (s.heap.push (freshSet w)).objs.size = s.heap.objs.size + 1 := Heap.size_push ..
      rw [z1]
      refine fillSet ns (s := s) (by simp [hA]) hl hit hb fun h' tk c R c1 keep => ?_
      show wpAny _ _ _ _ _ _
      refine wpAny_pure ?_
      show wpAny _ _ (ret Value.none) _ _ _
      exact wpAny_pure ⟨rfl, h', tk, c, rfl, R, c1, keep⟩
    · rcases r₂ with e | f
      · exact hr₂
      cases f with
      | ret r =>
        obtain ⟨rfl, h', tk, c, rfl, R, c1, keep⟩ := hr₂
        repeat (any_goals (first | assumption | wp_step))
        exact fin _ _ _ R c1 keep
      | _ => exact hr₂.elim
  | _ => exact hr.elim
end
section
variable {X : Cx}
/-- set(l), l a list of ints -/
def rSetLI (w : World) : List V → Hp → VK → Prop := fun vs H Q => ∃ (l : Addr) (ns : List Int), vs = [V.ref l] ∧ H l = some (.lst (ns.map V.int)) ∧ ns.length ≤ 1000 ∧
  ∀ (p : Addr) (n : Nat), n ≤ ns.length → H p = none → Q (.ref p) (upd H p (SetO w p (fun j => decide (j ∈ ns)) n))
theorem cr_setLI (hc : X.calm = true) : CallR X (.type "set") (rSetLI X.w) := by
  intro pins s σ H vs us Q I r h
  obtain ⟨l, ns, rfl, hl, hn, q⟩ := h
  obtain ⟨its, rv, pl, hz⟩ := I.list (SqL.of hl)
  rw [Vals.ref1 r]
  refine mkSet ns (I.ok.hd hc) pl.isList (by simpa using rv.ints) (by unfold scanBound; omega) fun h' tk c R hc keep => ?_
  exact ⟨.ref _, upd H s.heap.objs.size (SetO X.w s.heap.objs.size (fun j => decide (j ∈ ns)) c), I.laid (t' := tk) keep (Nat.le_refl _) (setO_new R), rfl, q _ c hc (I.hok.fresh (Nat.le_refl _))⟩
section
variable {P : Program} {w : World} {A : Around} {E : Value → Shared → Prop} {s : Shared}
/-- sorted(a set of ints) -/
theorem sortedSet {a : Addr} {S : Int → Bool} {n : Nat} {Q : Value → Shared → Prop} (R : SetR w s.heap a S n) (hA : A.handled = none)
    (fin : ∀ s' p (out : Array Value) (c : Nat) (ns : List Int), (∀ b o, s.heap.get? b = some o → s'.heap.get? b = some o) → s'.gens = s.gens → s'.os = s.os → s.heap.objs.size ≤ p →
      s'.heap.get? p = some (seqObj "list" out c) → IntsAre out.toList ns → ns.Pairwise (· < ·) → (∀ k, k ∈ ns ↔ S k = true) → ns.length = n → Q (.ref p) s') :
    wpAny (model P w) A (call (.builtin "sorted") [.ref a]) Q E s := by
  obtain ⟨o, es, ep, t, ho, hex, hd, g, nd, mem, few, fits, cnt, ris, led⟩ := R
  refine Calls.call_function_entry kind_sorted plain_sorted entry_sorted (args_sorted1 _) ?_
  unfold Builtin.«sorted»
  refine wpAny_bind (m := checkCount "sorted" 1 1 _) (wpAny_pure ?_)
  refine wpAny_bind (collect_set (A := A.in1) hA ⟨o, ho, hex.1, hd⟩ fits few ris led fun s1 vs keep up g1 o1 pm => ?_)
  have vl : vs.length = n := by rw [pm.length_eq, List.length_map, Array.length_toList]; exact cnt
  have vz : vs.length ≤ sizeLine := fits_of_scanBound (by rw [vl, ← cnt]; exact few)
  have hI : IntsAre vs (vs.map SrtO.iv) := SrtO.ints_iv fun v hv => by
    obtain ⟨e, he, z⟩ := List.mem_map.mp (pm.mem_iff.mp hv)
    obtain ⟨k, tk, h1, _⟩ := g e he
    exact ⟨k, tk, z ▸ h1⟩
  have ek : ∀ e ∈ es.toList, SrtO.iv e.2 = keyOf e := fun e he => by
    obtain ⟨k, tk, h1, _⟩ := g e he
    unfold keyOf
    rw [h1] <;> rfl
  have pk : (vs.map SrtO.iv).Perm (es.toList.map keyOf) := by
    have z := pm.map SrtO.iv
    rw [List.map_map] at z
    exact z.trans (.of_eq (List.map_congr_left fun e he => ek e he))
  refine wpAny_bind (wpAny_newList ?_ vz)
  have at1 : (s1.heap.push (seqObj "list" vs.toArray 0)).get? s1.heap.objs.size = some (seqObj "list" vs.toArray 0) := Heap.get?_push_size _ rfl
  refine wpAny_bind (wpAny_holding (wpAny_call_entry slot_list_sort ⟨_, at1, rfl⟩ entry_list_sort
    (SrtO.list_sort_ord SrtO.swo_int at1 vz (fun h2 => SrtO.ints_sortable hI h2) fun out so sb => ⟨_, rfl, ?_⟩) (args_list_sort _)))
  obtain ⟨k1, k2, k3⟩ := SrtO.ints_out hI so sb
  obtain ⟨c, hc⟩ := sortedHeap_at (vs := vs) (out := out.toArray) at1
  have pn : (out.map SrtO.iv).Perm (es.toList.map keyOf) := k2.trans pk
  refine wpAny_pure ⟨_, rfl, fin _ s1.heap.objs.size out.toArray c (out.map SrtO.iv) (fun b u e => ?_) g1 o1 up hc (by simpa using k1) (lt_of_le_nodup _ k3 (pn.nodup_iff.mpr nd)) (fun k => by rw [pn.mem_iff, ← mem k]) ?_⟩
  · have z := keep b u e
    have lt := Heap.lt_size z
    show (sortedHeap (s1.heap.push (seqObj "list" vs.toArray 0)) s1.heap.objs.size vs out.toArray).get? b = some u
    rw [sortedHeap_old (Nat.ne_of_lt lt) (by rw [size_push']; exact Nat.lt_succ_of_lt lt)]
    exact Heap.get?_push_of_some _ z
  · rw [pn.length_eq, List.length_map, Array.length_toList]; exact cnt
end
/-- sorted(a set of ints) -/
def rSortSet (w : World) : List V → Hp → VK → Prop := fun vs H Q => ∃ (a : Addr) (S : Int → Bool) (n : Nat), vs = [V.ref a] ∧ H a = some (SetO w a S n) ∧ n ≤ 1000 ∧
  ∀ (ns : List Int) (p : Addr), ns.Pairwise (· < ·) → (∀ k : Int, k ∈ ns ↔ S k = true) → ns.length = n → H p = none → Q (.ref p) (upd H p (.lst (ns.map V.int)))
theorem cr_sortSet (hc : X.calm = true) : CallR X (.builtin "sorted") (rSortSet X.w) := by
  intro pins s σ H vs us Q I r h
  obtain ⟨a, S, n, rfl, ha, n1, q⟩ := h
  rw [Vals.ref1 r]
  refine sortedSet (setO_get I ha) (I.ok.hd hc) fun s' p out c ns keep g o hp at' hi hs hm hl => ?_
  have fresh : H p = none := I.hok.fresh hp
  have len : (ns.map V.int).length ≤ sizeLine := by rw [List.length_map, hl, sizeLine_eq]; omega
  have J : Inv X pins σ (upd H p (.lst (ns.map V.int))) { s with heap := s'.heap, gens := s'.gens, drawn := s'.drawn, toks := s'.toks } :=
    I.call (ch := []) (Un.laid keep hp fresh) (I.hok.laid keep hp ⟨len, out.toList, c, vals_of_ints hi, at'⟩) (by rw [g]; exact I.bare) (fun _ z => nomatch z)
  obtain ⟨h', g', d', t', o'⟩ := s'
  cases o
  exact ⟨.ref p, _, J, rfl, q ns p hs hm hl fresh⟩
end
end GX

/-! ### sets from tuples; methods with a star parameter -/
namespace GX
open PySem PySem.Spec PyProof.Rows L2
section
variable {X : Cx}
/-- set(t), t a tuple of ints -/
def rSetTI (K : PySem.W.Frag) (w : World) : List V → Hp → VK → Prop := fun vs H Q => ∃ (l : Addr) (ns : List Int), vs = [V.ref l] ∧ SqT K H l (ns.map V.int) ∧ ns.length ≤ 1000 ∧
  ∀ (p : Addr) (n : Nat), n ≤ ns.length → H p = none → Q (.ref p) (upd H p (SetO w p (fun j => decide (j ∈ ns)) n))
theorem cr_setTI (hc : X.calm = true) : CallR X (.type "set") (rSetTI X.K X.w) := by
  intro pins s σ H vs us Q I r h
  obtain ⟨l, ns, rfl, hl, hn, q⟩ := h
  obtain ⟨its, rv, pl, hz⟩ := I.tuple hl
  rw [Vals.ref1 r]
  refine call_set_tupI ns (I.ok.hd hc) pl (by simpa using rv.ints) (by unfold scanBound; omega) fun h' tk c R hc keep => ?_
  exact ⟨.ref _, upd H s.heap.objs.size (SetO X.w s.heap.objs.size (fun j => decide (j ∈ ns)) c), I.laid (t' := tk) keep (Nat.le_refl _) (setO_new R), rfl, q _ c hc (I.hok.fresh (Nat.le_refl _))⟩
end
/-- a method with a star parameter: positional promises -/
structure MetR (P : Program) (w : World) (K : PySem.W.Frag) (mg : Str → Option Value) (base : Heap) (k : Nat) (C : Addr) (m : Str) (sp : Sp) : Prop where
  ex : ∃ (f : Addr), Cls K C ∧ Meth K C m f ∧ FnR P w K mg base (L2.CX P w) k f sp
section
variable {X : Cx} {CX : CXT} {k j : Nat} {C f : Addr} {m : Str} {sp : Sp} {E : XK} {o e : Expr} {es : List Expr} {ta : TE} {t : TA} {apos pos : Pos}
theorem pe_mtR {pl : Sem Bool} (c : MetR X.prog X.w X.K X.mg X.base k C m sp) (hr : Room j X.A) (hk : k ≤ j) (hx : Passes (L2.CX X.prog X.w) X E) (he : PE X o ta) (ha : PA X (e :: es) t)
    (hst : starEach (e :: es) X.env = (false, eval e X.env) :: starEach es X.env := by rfl) (hpl : (backTo pos (starEach es X.env)).any (·.1) = false := by rfl)
    (ht : eval (.Call (.Attribute o m apos) (e :: es) [] pos) X.env = (do
      let ov ← eval o X.env; standAt apos.atName; let (f, first) ← holding [ov] (getMethod ov m pl)
      callWith pos f first (backTo pos (starEach (e :: es) X.env)) (backToKw pos (keywordEach [] X.env))) := by rfl) : PE X (.Call (.Attribute o m apos) (e :: es) [] pos) (tMeth C m sp [] E ta t) := by
  obtain ⟨f, hc, hm, F⟩ := c.ex
  refine ⟨fun pins s σ H Q I h => ?_⟩
  refine PySem.W.methodCall_KW (pl := pl) (thn (he.run pins s σ H _ I h) fun u s1 ⟨x, H1, I1, rx, a, dx, fs, ex, ea, l, q⟩ => ?_) ht
  subst ex
  obtain rfl : u = Value.ref a := rx
  refine getmeth_ok I1 ea hc hm l ?_
  refine PySem.W.callWith_K (first := [.ref a]) (h₀ := X.base) I.ok.mod.kin hm.kp (thn (ha.run pos pins s1 σ H1 _ I1 q) fun us s2 ⟨vs, H2, I2, r, q2⟩ => ⟨I2.kIn, ?_⟩) hst hpl
  exact wpAny_call (run_fnR (us := .ref a :: us) (vs := .ref a :: vs) (F.mono hk) hr hx I2 (.cons rfl r) (by simpa using q2))
end
end GX
/-! ### a def with a star parameter as it stands behind the top -/
namespace GX
open PySem PySem.Spec PyProof.Rows L2
/-- the promise by positional values: what is left over comes as one tuple -/
def starSp (m : Nat) (sp : Sp) : Sp := fun vs H Q E => ∃ ws rest, vs = ws ++ rest ∧ ws.length = m ∧ rest.length ≤ sizeLine ∧ ∀ p, H p = none → sp (ws ++ [V.ref p]) (upd H p (.tup rest)) Q E
theorem okStar {P : Program} {w : World} {K : PySem.W.Frag} {mg : Str → Option Value} {base : Heap} {x qual : Str} {st : Stmt} {f : Addr} {fd : FuncData} {N ps : List Str} {pv : Str} {k : Nat} {sp : Sp} (F : L2.Fun K x qual st f fd) (S : FnScope N (ps ++ [pv]) (defScope st))
    (hb : ∀ (kV doc pm : Value) (an : Option Addr) (cdv ct : Value) (us rest : List Value), us.length = ps.length → bindArgs (PySem.W.fnOf x qual (defArgs st) (defBody st) (defScope st) .none kV doc pm an cdv ct) ⟨us ++ rest, []⟩ = (newTuple rest >>= fun t => pure (ps.zip us ++ [(pv, t)])))
    (hbody : ∀ (cdv : Value) (A : Around) (outer : List Env) (s : Shared) (H : Hp) (vs : List V) (Q : VK) (E : XK), Room k (A.deeper (envOfC qual (defScope st) s.heap.objs.size f cdv)) → sp vs H Q E →
      ∃ t, PSs (cxOf (L2.CX P w) P w K mg base N qual (defScope st) f cdv A outer s H E) (defBody st) t ∧ t { nx := fun _ H' => Q .non H', rt := Q } (start N vs) H) : FnR P w K mg base (L2.CX P w) (k + 1) f (starSp ps.length sp) := by
  obtain ⟨oc, od, kV, doc, pm, an, cdv, ct, osl, rfl, lk, hcd⟩ := F.ex
  exact StX.fn_star lk hcd S StX.cxUp (hb kV doc pm an cdv ct) fun A outer s H vs Q E hr hsp => hbody cdv A outer s H vs Q E hr hsp
end GX

/-! ### classmethods of own classes; a class held by a variable -/
namespace GX
open PySem PySem.Spec PyProof.Rows L2
structure CmX (P : Program) (w : World) (K : PySem.W.Frag) (mg : Str → Option Value) (base : Heap) (k : Nat) (C : Addr) (m : Str) (sp : Sp) : Prop where
  ex : ∃ (p g : Addr), ClX.CRead K C (.type "type") ∧ ClX.CMet K C (.type "type") m p g ∧ FnR P w K mg base (L2.CX P w) k g sp
theorem rawX {P : Program} {w : World} {K : PySem.W.Frag} {mg : Str → Option Value} {base : Heap} {k : Nat} {f : Addr} {fd : FuncData} {ps : List Str} {sp : Sp} (F : FnOk P w K mg base (L2.CX P w) k f fd ps sp) (hb : L2.Binds K fd ps []) : FnR P w K mg base (L2.CX P w) k f sp :=
  (F.raw hb .nil).imp fun vs H Q E h => by rw [List.append_nil]; exact h
section
variable {X : Cx} {k j : Nat} {C : Addr} {x m : Str} {sp : Sp} {p pos apos : Pos} {e o : Expr} {es : List Expr} {ta tf : TE} {t : TA} {E : XK}
theorem pe_cmX {pl : Sem Bool} (c : CmX X.prog X.w X.K X.mg X.base k C m sp) (hr : Room j X.A) (hk : k ≤ j) (hx : Passes (L2.CX X.prog X.w) X E) (he : PE X o ta) (ha : PA X (e :: es) t)
    (hst : starEach (e :: es) X.env = (false, eval e X.env) :: starEach es X.env := by rfl) (hpl : (backTo pos (starEach es X.env)).any (·.1) = false := by rfl)
    (ht : eval (.Call (.Attribute o m apos) (e :: es) [] pos) X.env = (do
      let ov ← eval o X.env; standAt apos.atName; let (f, first) ← holding [ov] (getMethod ov m pl)
      callWith pos f first (backTo pos (starEach (e :: es) X.env)) (backToKw pos (keywordEach [] X.env))) := by rfl) : PE X (.Call (.Attribute o m apos) (e :: es) [] pos) (ClX.tCMeth C sp E ta t) := by
  obtain ⟨p, g, r, c, F⟩ := c.ex
  exact ClX.pe_cmeth (pl := pl) he r c F (hr.mono hk) hx ha hst hpl ht
/-- cls(..), cls a variable that holds the class at C -/
def tMakeV (C : Addr) (sp : Sp) (E : XK) (tf : TE) (t : TA) : TE := fun σ H Q => tf σ H fun x H1 => x = .ref C ∧ tMake C sp [] E t σ H1 Q
theorem pe_mkV {y : Str} (c : MakX X.prog X.w X.K X.mg X.base k y C sp) (hr : Room j X.A) (hk : k + 1 ≤ j) (hx : Passes (L2.CX X.prog X.w) X E) (hf : PE X (.Name x p) tf) (ha : PA X (e :: es) t)
    (he : starEach (e :: es) X.env = (false, eval e X.env) :: starEach es X.env := by rfl) (hpl : (backTo pos (starEach es X.env)).any (·.1) = false := by rfl) : PE X (.Call (.Name x p) (e :: es) [] pos) (tMakeV C sp E tf t) := by
  obtain ⟨f, fd, ps, M, F, hm, b⟩ := c.ex
  refine ⟨fun pins s σ H Q I h => ?_⟩
  refine wpAny_Call_Name_kw (thn (hf.run pins s σ H _ I h) fun u s1 ⟨v, H1, I1, rx, ex, q⟩ => ?_)
  subst ex
  obtain rfl : u = Value.ref C := rx
  refine PySem.W.callWith_K (h₀ := X.base) I1.ok.mod.kin M.kp (thn (ha.run pos pins s1 σ H1 _ I1 q) fun us s2 ⟨vs, H2, I2, r, q2⟩ => ⟨I2.kIn, ?_⟩) he hpl
  exact run_make M F (hr.mono hk) b .nil hx I2 r q2
end
end GX
namespace G
open PySem L2
theorem w_cmeth {C : Addr} {sp : Sp} {E : XK} {ta : TE} {t : TA} {σ : L2.St} {H : Hp} {Q : VK} (h : ta σ H fun x H1 => x = .ref C ∧ t σ H1 fun vs H2 => sp (.ref C :: vs) H2 Q E) : ClX.tCMeth C sp E ta t σ H Q := h
theorem w_makeV {C : Addr} {sp : Sp} {E : XK} {tf : TE} {t : TA} {σ : L2.St} {H : Hp} {Q : VK} (h : tf σ H fun x H1 => x = .ref C ∧ tMake C sp [] E t σ H1 Q) : GX.tMakeV C sp E tf t σ H Q := h
theorem w_isref {C : Addr} {P : Prop} (q : P) : V.ref C = .ref C ∧ P := ⟨rfl, q⟩
end G

/-! ### the head's facts, with classmethods -/
namespace GX
open PySem PySem.Spec PyProof.Rows L2
inductive Ey where
  | ex (e : Ex)
  | cm (x m : Str)
  | bm (x m : Str)
def Ey.ok (K : PySem.W.Frag) : Ey → Bool
  | .ex e => e.ok K
  | .cm x m => He5.wrapB K (He.ga K x) "classmethod" "classmethod.__get__" m && (PySem.W.fnIn K (He5.wf K (He.ga K x) "classmethod" m) && PySem.W.readsIn K (He.ga K x) (.type "type"))
  | .bm x m => (PySem.W.specialIn K (.ref (He.ma K (He.ga K x) m)) "__get__" == some (some (.builtin "function.__get__"))) && ((PySem.W.takesIn K (.ref (He.ma K (He.ga K x) m)) == some false) && (!(PySem.W.copiedNames.contains m) && PySem.W.fnIn K (He.ma K (He.ga K x) m)))
theorem cread_ok {K : PySem.W.Frag} {C : Addr} (h : PySem.W.readsIn K C (.type "type") = true) : ClX.CRead K C (.type "type") := by
  refine ⟨h, ?_⟩
  unfold PySem.W.readsIn at h
  obtain ⟨h, _⟩ := He.ba h
  obtain ⟨h, _⟩ := He.ba h
  obtain ⟨h, h3⟩ := He.ba h
  obtain ⟨_, h2⟩ := He.ba h
  unfold PySem.W.specialIn
  rw [beq_iff_eq.mp h2, Option.bind_some]
  exact beq_iff_eq.mp h3
theorem cm_ok {K : PySem.W.Frag} {x m : Str} (h : (Ey.cm x m).ok K = true) : ClX.CRead K (He.ga K x) (.type "type") ∧ ClX.CMet K (He.ga K x) (.type "type") m (He.ma K (He.ga K x) m) (He5.wf K (He.ga K x) "classmethod" m) := by
  obtain ⟨h1, h⟩ := He.ba h
  obtain ⟨h2, h3⟩ := He.ba h
  exact ⟨cread_ok h3, He5.cmet_of h1 h2⟩
theorem bm_ok {K : PySem.W.Frag} {x m : Str} (h : (Ey.bm x m).ok K = true) (mt : Meth K (He.ga K x) m (He.ma K (He.ga K x) m)) : BMeth K (He.ga K x) m (He.ma K (He.ga K x) m) := by
  obtain ⟨h1, h⟩ := He.ba h
  obtain ⟨h2, h⟩ := He.ba h
  obtain ⟨h3, h4⟩ := He.ba h
  exact ⟨mt, beq_iff_eq.mp h1, beq_iff_eq.mp h2, by rw [Bool.not_eq_true'] at h3; exact h3, h4⟩
/-- f(e, e, k = v): a keyword-only parameter that is written -/
structure CalN (P : Program) (w : World) (K : PySem.W.Frag) (mg : Str → Option Value) (base : Heap) (k : Nat) (x : Str) (sp : Sp) (ks : List Str) : Prop where
  ex : ∃ (f : Addr) (fd : FuncData) (ps : List Str) (g : List Value → List Value → List Value), FnOk P w K mg base CX0 k f fd ps sp ∧ mg x = some (.ref f) ∧ PySem.W.keepIn K (.ref f) = true ∧ KBn K fd ps 2 ks g (fun a b => a ++ b)
theorem callN_eq {sp : Sp} {gV : List V → List V → List V} {E : XK} {t1 t2 t3 : TE} : L2.tCallN 2 1 sp gV E (tCons t1 (tCons t2 tNil)) (tCons t3 tNil) = tCallK sp gV E (tCons t1 (tCons t2 tNil)) (tCons t3 tNil) := by
  funext σ H Q
  have e : ∀ (x y z : V) (P : Prop), (([x, y] : List V).length = 2 ∧ ([z] : List V).length = 1 ∧ P) = P := fun x y z P => by simp
  show (t1 σ H fun x H1 => t2 σ H1 fun y H2 => t3 σ H2 fun z H3 => (([x, y] : List V).length = 2 ∧ ([z] : List V).length = 1 ∧ sp (gV [x, y] [z]) H3 Q E)) = (t1 σ H fun x H1 => t2 σ H1 fun y H2 => t3 σ H2 fun z H3 => sp (gV [x, y] [z]) H3 Q E)
  simp only [e]
theorem pe_cN {X : Cx} {k j : Nat} {x nm : Str} {sp : Sp} {e1 e2 e3 : Expr} {p pos kpos : Pos} {t1 t2 t3 : TE} (c : CalN X.prog X.w X.K X.mg X.base k x sp [nm]) (hr : Room j X.A) (hk : k ≤ j) (hg : Gl X x) (ha : PA X [e1, e2] (tCons t1 (tCons t2 tNil))) (hkw : PK X [⟨some nm, e3, kpos⟩] (tCons t3 tNil))
    (hall : (backToKw pos (keywordEach [⟨some nm, e3, kpos⟩] X.env)).all (·.1.isSome) = true := by rfl) (hks : (backToKw pos (keywordEach [⟨some nm, e3, kpos⟩] X.env)).filterMap (·.1) = [nm] := by rfl)
    (hdb : (x == ("__debug__" : Str)) = false := by decide) (he : starEach [e1, e2] X.env = (false, eval e1 X.env) :: starEach [e2] X.env := by rfl)
    (hpl : ((backTo pos (starEach [e1, e2] X.env)).any (·.1) || (backToKw pos (keywordEach [⟨some nm, e3, kpos⟩] X.env)).any (·.1.isNone)) = false := by rfl) :
    PE X (.Call (.Name x p) [e1, e2] [⟨some nm, e3, kpos⟩] pos) (tCallK sp (fun a b => a ++ b) E0 (tCons t1 (tCons t2 tNil)) (tCons t3 tNil)) := by
  obtain ⟨f, fd, ps, g, F, hm, kp, b⟩ := c.ex
  have q := pe_callN (E := E0) (p := p) F (hr.mono hk) hg hm kp b (fun _ _ _ _ _ _ _ h => h.elim) ha hkw hall hks hdb he hpl
  rw [show ([nm] : List Str).length = 1 from rfl, callN_eq] at q
  exact q
abbrev AlF : Type := He.AlD × Bool
def obsF (fa : List He.Fa) (fn : List He5.DefA) (ex : List Ey) (K : PySem.W.Frag) : AlF := (He5.obsA fa fn K, ex.all fun e => e.ok K)
def obsFG (n : Nat) (fa : List He.Fa) (fn : List He5.DefA) (ex : List Ey) (g : Addr → Option Obj) : AlF := obsF fa fn ex (He.frG g (He5.asA g n))
def SaysF (fa : List He.Fa) (fn : List He5.DefA) (ex : List Ey) (K : PySem.W.Frag) : Prop := He5.SaysA fa fn K ∧ (ex.all fun e => e.ok K) = true
def hookF (n : Nat) (fa : List He.Fa) (fn : List He5.DefA) (ex : List Ey) : PySem.W.Hook where
  α := AlF
  obs := fun s => obsFG n fa fn ex s.heap.get?
  val := fun _ => (He5.valA fn, true)
  says := fun _ h => ∃ K : PySem.W.Frag, K.In h ∧ SaysF fa fn ex K
  of := fun _ _ e => ⟨_, He.frG_in, congrArg (fun z : AlF => z.1) e, congrArg (fun z : AlF => z.2) e⟩
  keeps := fun _ _ _ ⟨K, hK, c⟩ k => ⟨K, PySem.W.Frag.In.keeps hK k, c⟩
theorem obsFG_eq {n : Nat} {fa : List He.Fa} {fn : List He5.DefA} {ex : List Ey} {g : Addr → Option Obj} {s : Shared} (h : ∀ a, g a = s.heap.get? a) : obsFG n fa fn ex g = (hookF n fa fn ex).obs s := by
  obtain rfl : g = s.heap.get? := funext h
  rfl
theorem SaysF.more {fa : List He.Fa} {fn : List He5.DefA} {ex : List Ey} {K : PySem.W.Frag} (c : SaysF fa fn ex K) (i : Nat) {e : Ey} (h : ex[i]? = some e := by rfl) : e.ok K = true := List.all_eq_true.mp c.2 e (List.mem_of_getElem? h)
end GX

namespace G
open PySem L2
def topS (i : Nat) : Stmt := PySem.Challenge.pw_onecopy_k47_whole_least_start.main.body.getD i (.Pass ⟨0, 0, 0, 0⟩)
abbrev s_InvalidPointer_init : Stmt := inClass (topS 5) 0
abbrev s_InvalidStanding_init : Stmt := inClass (topS 6) 0
abbrev s_NoLine_init : Stmt := inClass (topS 7) 0
abbrev s_NoPage_init : Stmt := inClass (topS 4) 0
abbrev s_NoStart_init : Stmt := inClass (topS 9) 0
abbrev s_check_pages : Stmt := topS 11
abbrev s_is_pointer : Stmt := topS 12
abbrev s_as_known : Stmt := topS 13
abbrev s_grouped : Stmt := topS 14
abbrev s_Web_init : Stmt := inClass (topS 15) 0
abbrev s_Web_arrows : Stmt := inClass (topS 15) 6
abbrev s_Web_holders : Stmt := inClass (topS 15) 7
abbrev s_lines_used : Stmt := topS 17
abbrev s_Standing_init : Stmt := inClass (topS 18) 0
abbrev s_Standing_blanks : Stmt := inClass (topS 18) 3
abbrev s_Standingcheck_lines : Stmt := inClass (topS 18) 8
abbrev s_Standing_after : Stmt := inClass (topS 18) 7
abbrev s_is_ascending : Stmt := topS 20
abbrev s_fault_of : Stmt := topS 21
abbrev s_judge_log : Stmt := topS 22
abbrev s_law_box : Stmt := topS 25
abbrev s_law_take : Stmt := topS 26
abbrev s_law_pages : Stmt := topS 27
abbrev s_law_built : Stmt := topS 28
abbrev s_law_pairs : Stmt := topS 29
abbrev s_law_step : Stmt := topS 30
abbrev s_law_reason : Stmt := topS 31
abbrev s_law_judged : Stmt := topS 32
abbrev s_law_answer : Stmt := topS 33
abbrev s_law_better : Stmt := topS 34
abbrev s_law_rows : Stmt := topS 35
abbrev s_law_strange : Stmt := topS 36
abbrev s_law_spoilt : Stmt := topS 37
abbrev s_law_whole : Stmt := topS 38
abbrev s_Standing_fresh : Stmt := inClass (topS 18) 1
abbrev s_least_start : Stmt := topS 23
abbrev s_law_bills : Stmt := topS 39
abbrev s_law_paid : Stmt := topS 40
abbrev s_law_numbers : Stmt := topS 42
abbrev s_law_end : Stmt := topS 43
abbrev s_law_least : Stmt := topS 44
abbrev s_law_told : Stmt := topS 41
abbrev s_law_asked : Stmt := topS 45
abbrev s_law : Stmt := topS 46
/-! ### the head: facts by names, the run -/
def d_InvalidPointer_init : He5.DefA := ⟨(fun K => He.fAd K ("InvalidPointer", some "__init__")), "__init__", "InvalidPointer.__init__", defArgs s_InvalidPointer_init, defBody s_InvalidPointer_init, defScope s_InvalidPointer_init, [], []⟩
def d_InvalidStanding_init : He5.DefA := ⟨(fun K => He.fAd K ("InvalidStanding", some "__init__")), "__init__", "InvalidStanding.__init__", defArgs s_InvalidStanding_init, defBody s_InvalidStanding_init, defScope s_InvalidStanding_init, [], []⟩
def d_NoLine_init : He5.DefA := ⟨(fun K => He.fAd K ("NoLine", some "__init__")), "__init__", "NoLine.__init__", defArgs s_NoLine_init, defBody s_NoLine_init, defScope s_NoLine_init, [], []⟩
def d_NoPage_init : He5.DefA := ⟨(fun K => He.fAd K ("NoPage", some "__init__")), "__init__", "NoPage.__init__", defArgs s_NoPage_init, defBody s_NoPage_init, defScope s_NoPage_init, [], []⟩
def d_NoStart_init : He5.DefA := ⟨(fun K => He.fAd K ("NoStart", some "__init__")), "__init__", "NoStart.__init__", defArgs s_NoStart_init, defBody s_NoStart_init, defScope s_NoStart_init, [], []⟩
def d_check_pages : He5.DefA := ⟨(fun K => He.fAd K ("check_pages", none)), "check_pages", "check_pages", defArgs s_check_pages, defBody s_check_pages, defScope s_check_pages, [], []⟩
def d_is_pointer : He5.DefA := ⟨(fun K => He.fAd K ("_is_pointer", none)), "_is_pointer", "_is_pointer", defArgs s_is_pointer, defBody s_is_pointer, defScope s_is_pointer, [], []⟩
def d_as_known : He5.DefA := ⟨(fun K => He.fAd K ("_as_known", none)), "_as_known", "_as_known", defArgs s_as_known, defBody s_as_known, defScope s_as_known, [], []⟩
def d_grouped : He5.DefA := ⟨(fun K => He.fAd K ("_grouped", none)), "_grouped", "_grouped", defArgs s_grouped, defBody s_grouped, defScope s_grouped, [], []⟩
def d_Web_init : He5.DefA := ⟨(fun K => He.fAd K ("Web", some "__init__")), "__init__", "Web.__init__", defArgs s_Web_init, defBody s_Web_init, defScope s_Web_init, [], []⟩
def d_Web_arrows : He5.DefA := ⟨(fun K => He.fAd K ("Web", some "arrows")), "arrows", "Web.arrows", defArgs s_Web_arrows, defBody s_Web_arrows, defScope s_Web_arrows, [], []⟩
def d_Web_holders : He5.DefA := ⟨(fun K => He.fAd K ("Web", some "holders")), "holders", "Web.holders", defArgs s_Web_holders, defBody s_Web_holders, defScope s_Web_holders, [], []⟩
def d_lines_used : He5.DefA := ⟨(fun K => He.fAd K ("lines_used", none)), "lines_used", "lines_used", defArgs s_lines_used, defBody s_lines_used, defScope s_lines_used, [], []⟩
def d_Standing_init : He5.DefA := ⟨(fun K => He.fAd K ("Standing", some "__init__")), "__init__", "Standing.__init__", defArgs s_Standing_init, defBody s_Standing_init, defScope s_Standing_init, [], []⟩
def d_Standing_blanks : He5.DefA := ⟨(fun K => He.fAd K ("Standing", some "blanks")), "blanks", "Standing.blanks", defArgs s_Standing_blanks, defBody s_Standing_blanks, defScope s_Standing_blanks, [], []⟩
def d_Standingcheck_lines : He5.DefA := ⟨(fun K => He.fAd K ("Standing", some "_check_lines")), "_check_lines", "Standing._check_lines", defArgs s_Standingcheck_lines, defBody s_Standingcheck_lines, defScope s_Standingcheck_lines, [], []⟩
def d_Standing_after : He5.DefA := ⟨(fun K => He.fAd K ("Standing", some "after")), "after", "Standing.after", defArgs s_Standing_after, defBody s_Standing_after, defScope s_Standing_after, [], []⟩
def d_is_ascending : He5.DefA := ⟨(fun K => He.fAd K ("_is_ascending", none)), "_is_ascending", "_is_ascending", defArgs s_is_ascending, defBody s_is_ascending, defScope s_is_ascending, [], []⟩
def d_fault_of : He5.DefA := ⟨(fun K => He.fAd K ("_fault_of", none)), "_fault_of", "_fault_of", defArgs s_fault_of, defBody s_fault_of, defScope s_fault_of, [], []⟩
def d_judge_log : He5.DefA := ⟨(fun K => He.fAd K ("judge_log", none)), "judge_log", "judge_log", defArgs s_judge_log, defBody s_judge_log, defScope s_judge_log, [], [("copies", He.Dv.int 1)]⟩
def d_law_box : He5.DefA := ⟨(fun K => He.fAd K ("_law_box", none)), "_law_box", "_law_box", defArgs s_law_box, defBody s_law_box, defScope s_law_box, [], []⟩
def d_law_take : He5.DefA := ⟨(fun K => He.fAd K ("_law_take", none)), "_law_take", "_law_take", defArgs s_law_take, defBody s_law_take, defScope s_law_take, [], []⟩
def d_law_pages : He5.DefA := ⟨(fun K => He.fAd K ("_law_pages", none)), "_law_pages", "_law_pages", defArgs s_law_pages, defBody s_law_pages, defScope s_law_pages, [], []⟩
def d_law_built : He5.DefA := ⟨(fun K => He.fAd K ("_law_built", none)), "_law_built", "_law_built", defArgs s_law_built, defBody s_law_built, defScope s_law_built, [], []⟩
def d_law_pairs : He5.DefA := ⟨(fun K => He.fAd K ("_law_pairs", none)), "_law_pairs", "_law_pairs", defArgs s_law_pairs, defBody s_law_pairs, defScope s_law_pairs, [], []⟩
def d_law_step : He5.DefA := ⟨(fun K => He.fAd K ("_law_step", none)), "_law_step", "_law_step", defArgs s_law_step, defBody s_law_step, defScope s_law_step, [], []⟩
def d_law_reason : He5.DefA := ⟨(fun K => He.fAd K ("_law_reason", none)), "_law_reason", "_law_reason", defArgs s_law_reason, defBody s_law_reason, defScope s_law_reason, [], []⟩
def d_law_judged : He5.DefA := ⟨(fun K => He.fAd K ("_law_judged", none)), "_law_judged", "_law_judged", defArgs s_law_judged, defBody s_law_judged, defScope s_law_judged, [], []⟩
def d_law_answer : He5.DefA := ⟨(fun K => He.fAd K ("_law_answer", none)), "_law_answer", "_law_answer", defArgs s_law_answer, defBody s_law_answer, defScope s_law_answer, [], []⟩
def d_law_better : He5.DefA := ⟨(fun K => He.fAd K ("_law_better", none)), "_law_better", "_law_better", defArgs s_law_better, defBody s_law_better, defScope s_law_better, [], []⟩
def d_law_rows : He5.DefA := ⟨(fun K => He.fAd K ("_law_rows", none)), "_law_rows", "_law_rows", defArgs s_law_rows, defBody s_law_rows, defScope s_law_rows, [], []⟩
def d_law_strange : He5.DefA := ⟨(fun K => He.fAd K ("_law_strange", none)), "_law_strange", "_law_strange", defArgs s_law_strange, defBody s_law_strange, defScope s_law_strange, [], []⟩
def d_law_spoilt : He5.DefA := ⟨(fun K => He.fAd K ("_law_spoilt", none)), "_law_spoilt", "_law_spoilt", defArgs s_law_spoilt, defBody s_law_spoilt, defScope s_law_spoilt, [], []⟩
def d_law_whole : He5.DefA := ⟨(fun K => He.fAd K ("_law_whole", none)), "_law_whole", "_law_whole", defArgs s_law_whole, defBody s_law_whole, defScope s_law_whole, [], []⟩
def d_Standing_fresh : He5.DefA := ⟨(fun K => He5.wf K (He.ga K "Standing") "classmethod" "fresh"), "fresh", "Standing.fresh", defArgs s_Standing_fresh, defBody s_Standing_fresh, defScope s_Standing_fresh, [], []⟩
def d_least_start : He5.DefA := ⟨(fun K => He.fAd K ("least_start", none)), "least_start", "least_start", defArgs s_least_start, defBody s_least_start, defScope s_least_start, [], [("copies", He.Dv.int 1)]⟩
def d_law_bills : He5.DefA := ⟨(fun K => He.fAd K ("_law_bills", none)), "_law_bills", "_law_bills", defArgs s_law_bills, defBody s_law_bills, defScope s_law_bills, [], []⟩
def d_law_paid : He5.DefA := ⟨(fun K => He.fAd K ("_law_paid", none)), "_law_paid", "_law_paid", defArgs s_law_paid, defBody s_law_paid, defScope s_law_paid, [], []⟩
def d_law_numbers : He5.DefA := ⟨(fun K => He.fAd K ("_law_numbers", none)), "_law_numbers", "_law_numbers", defArgs s_law_numbers, defBody s_law_numbers, defScope s_law_numbers, [], []⟩
def d_law_end : He5.DefA := ⟨(fun K => He.fAd K ("_law_end", none)), "_law_end", "_law_end", defArgs s_law_end, defBody s_law_end, defScope s_law_end, [], []⟩
def d_law_least : He5.DefA := ⟨(fun K => He.fAd K ("_law_least", none)), "_law_least", "_law_least", defArgs s_law_least, defBody s_law_least, defScope s_law_least, [], []⟩
def d_law_told : He5.DefA := ⟨(fun K => He.fAd K ("_law_told", none)), "_law_told", "_law_told", defArgs s_law_told, defBody s_law_told, defScope s_law_told, [], []⟩
def d_law_asked : He5.DefA := ⟨(fun K => He.fAd K ("_law_asked", none)), "_law_asked", "_law_asked", defArgs s_law_asked, defBody s_law_asked, defScope s_law_asked, [], []⟩
def d_law : He5.DefA := ⟨(fun K => He.fAd K ("law", none)), "law", "law", defArgs s_law, defBody s_law, defScope s_law, [], []⟩
def fnS : List He5.DefA := [d_InvalidPointer_init, d_InvalidStanding_init, d_NoLine_init, d_NoPage_init, d_NoStart_init, d_check_pages, d_is_pointer, d_as_known, d_grouped, d_Web_init, d_Web_arrows, d_Web_holders, d_lines_used, d_Standing_init, d_Standing_blanks, d_Standingcheck_lines, d_Standing_after, d_is_ascending, d_fault_of, d_judge_log, d_law_box, d_law_take, d_law_pages, d_law_built, d_law_pairs, d_law_step, d_law_reason, d_law_judged, d_law_answer, d_law_better, d_law_rows, d_law_strange, d_law_spoilt, d_law_whole, d_Standing_fresh, d_least_start, d_law_bills, d_law_paid, d_law_numbers, d_law_end, d_law_least, d_law_told, d_law_asked, d_law]
def fa0 : List He.Fa := [.glo "check_pages", .glo "_is_pointer", .glo "_as_known", .glo "_grouped", .mkr "Web", .meth "Web" "arrows", .meth "Web" "holders", .glo "lines_used", .mkr "Standing", .meth "Standing" "blanks", .meth "Standing" "_check_lines", .meth "Standing" "after", .glo "_is_ascending", .glo "_fault_of", .glo "judge_log", .glo "_law_box", .glo "_law_take", .glo "_law_pages", .glo "_law_built", .glo "_law_pairs", .glo "_law_step", .glo "_law_reason", .glo "_law_judged", .glo "_law_answer", .glo "_law_better", .glo "_law_rows", .glo "_law_strange", .glo "_law_spoilt", .glo "_law_whole", .glo "least_start"]
def fa1 : List He.Fa := [.glo "_law_bills", .glo "_law_paid", .glo "_law_numbers", .glo "_law_end", .glo "_law_least", .glo "_law_told", .glo "_law_asked", .glo "law", .glo "InvalidPointer", .glo "InvalidStanding", .glo "LotError", .glo "NoIndex", .glo "NoLine", .glo "NoPage", .glo "NoStart", .glo "OnecopyError", .glo "Standing", .glo "Web", .cls "Standing", .noat "Standing" "_blank", .noat "Standing" "lines", .noat "Standing" "web", .cls "Web", .noat "Web" "_arrows", .noat "Web" "_holders", .noat "Web" "_known", .noat "Web" "_targets", .noat "Web" "pages", .free "ValueError", .free "abs"]
def fa2 : List He.Fa := [.free "all", .free "any", .free "bool", .free "enumerate", .free "int", .free "isinstance", .free "len", .free "list", .free "min", .free "range", .free "set", .free "sorted", .free "tuple", .free "zip"]
def faS : List He.Fa := fa0 ++ fa1 ++ fa2
def exS : List GX.Ey := [.ex (.oex "NoPage"), .ex (.noat "NoPage" "page"), .ex (.oex "InvalidPointer"), .ex (.noat "InvalidPointer" "index"), .ex (.oex "NoLine"), .ex (.noat "NoLine" "page"), .ex (.oex "InvalidStanding"), .ex (.noat "InvalidStanding" "page"), .ex (.exm "NoLine" "NoLine" true), .ex (.oex "NoStart"), .ex (.noat "NoStart" "index"), .ex (.exc "NoStart"), .ex (.xf "NoStart"), .ex (.exm "NoStart" "NoStart" true), .ex (.kit "NoStart" "OnecopyError" true), .ex (.kitT "NoStart" "ValueError" true), .ex (.kitA "NoStart" ["LotError", "NoIndex", "NoLine", "NoPage"] false), .ex (.ins "Web"), .ex (.ins "Standing"), .cm "Standing" "fresh", .bm "Standing" "after", .ex (.ini "InvalidPointer"), .ex (.ini "InvalidStanding"), .ex (.ini "NoLine"), .ex (.ini "NoPage"), .ex (.ini "NoStart")]
def looseS : List PySem.Str := (["_wall", "OnecopyError", "LotError", "NoPage", "InvalidPointer", "InvalidStanding", "NoLine", "NoIndex", "NoStart", "check_pages", "_is_pointer", "_as_known", "_grouped", "Web", "lines_used", "Standing", "_is_ascending", "_fault_of", "judge_log", "least_start", "_law_box", "_law_take", "_law_pages", "_law_built", "_law_pairs", "_law_step", "_law_reason", "_law_judged", "_law_answer", "_law_better"] : List PySem.Str) ++ (["_law_rows", "_law_strange", "_law_spoilt", "_law_whole", "_law_bills", "_law_paid", "_law_told", "_law_numbers", "_law_end", "_law_least", "_law_asked"] : List PySem.Str)
abbrev RowS : PySem.W.OpenRow := PySem.W.OpenLaw.row PySem.Challenge.rw_onecopy_k47_whole_least_start
abbrev hkS : PySem.W.Hook := GX.hookF 5 faS fnS exS
def obS (s : PySem.W.SharedT) : GX.AlF := GX.obsFG 5 faS fnS exS (HandSHeadRun.getT s)
theorem obS_eq (s : PySem.W.SharedT) : obS s = hkS.obs s.abs := GX.obsFG_eq (HandSHeadRun.getT_eq s)
theorem runS (w : World) : HandSHeadRun.RunEq RowS (PySem.W.view RowS.prog [46]) hkS obS 8000 looseS w := by
  intro os
  kernel_rfl
end G

section
namespace G
open PySem PySem.Spec PyProof.Rows L2
/-! ### any(xs) of a list of ints -/
theorem truth_ints {prog : Program} {w : World} {A : Around} {ns : List Int} {its : List Value} (rv : Vals (ns.map V.int) its) :
    TruthOf prog w A (fun i v => its.toArray[i]? = some v) (fun i => (ns.map fun z => z != 0).getD i false) := fun i v s Q E hv hq => by
  have hv' : its[i]? = some v := by simpa using hv
  obtain ⟨x, hx, r⟩ := Paired.at rv hv'
  rw [List.getElem?_map] at hx
  obtain ⟨n, hn, rfl⟩ := Option.map_eq_some_iff.mp hx
  obtain ⟨t, rfl⟩ := r
  have hg : (ns.map fun z => z != 0).getD i false = (n != 0) := by rw [List.getD_eq_getElem?_getD, List.getElem?_map, hn] <;> rfl
  have hq' : Q ((ns.map fun z => z != 0).getD i false) s := hq
  rw [hg] at hq'
  exact PySem.P.truthy_int hq'
def rAnyI (K : PySem.W.Frag) : List V → Hp → VK → Prop := fun vs H Q => ∃ (a : Addr) (ns : List Int), vs = [V.ref a] ∧ SqL K H a (ns.map V.int) ∧ Q (.bl (ns.any fun z => decide (z ≠ 0))) H
theorem cr_anyI {X : Cx} (hc : X.calm = true) : CallR X (.builtin "any") (rAnyI X.K) := by
  intro pins s σ H vs us Q I r h
  obtain ⟨a, ns, rfl, hs, q⟩ := h
  obtain ⟨its, rv, hl, _⟩ := I.list hs
  rw [Vals.ref1 r]
  have hlen := rv.length
  refine call_any_walk (iter_any hl.isList fun s₂ e2 st hne => ?_)
  subst e2
  refine ⟨_, _, _, _, _, _, _, rfl, Walks.list (A := X.A.in1) (I.ok.hd hc) _ a hne its.toArray, st, truth_ints rv, fun h' tk hk => ?_⟩
  refine ⟨.bl _, H, I.kept fun b o eo => hk b o (fun hmem => ?_) (Heap.get?_push_of_some _ eo), ?_, q⟩
  · rcases List.mem_cons.mp hmem with e1 | hmem
    · exact absurd (e1 ▸ Heap.lt_size eo) (Nat.lt_irrefl _)
    · cases hmem
  · show Value.bool _ = Value.bool _
    rw [show its.toArray.size = (ns.map fun z => z != 0).length by rw [List.size_toArray, ← hlen, List.length_map, List.length_map], L2.any_range, List.any_map]
    congr 1
    apply congrArg (ns.any)
    funext z
    by_cases hz : z = 0 <;> simp [hz]
theorem w_anyI {K : PySem.W.Frag} {H : Hp} {Q : VK} {p : Addr} {ns : List Int} (h : SqL K H p (ns.map V.int)) (q : Q (.bl (ns.any fun z => decide (z ≠ 0))) H) : rAnyI K [.ref p] H Q := ⟨p, ns, rfl, h, q⟩
/-! ### comprehensions over enumerate(list) -/
section
variable {K : PySem.W.Frag} {σ : L2.St} {H : Hp} {Q : VK} {tt : TT} {te : TE} {tl : TA}
theorem w_lcE {g : TG} {vs : List Nat} (h : tl σ H fun us H1 => ∃ a xs, us = [.ref a] ∧ SqL K H1 a xs ∧ LcW (Ite K a) g tt te vs σ H1 Q) : tLc (iEnum K tl) g tt te vs σ H Q := h
theorem lcE {a : Addr} {xs : List V} {g : TG} {vs : List Nat} (Pv : Addr → Nat → Hp → Prop) (h0 : ∀ Dl, H Dl = none → Pv Dl 0 (upd H Dl (.lst []))) (hl : ∀ Dl i H1, H Dl = none → i ≤ xs.length → Pv Dl i H1 → SqL K H1 a xs)
    (hs : ∀ Dl i x T H1, H Dl = none → xs[i]? = some x → Pv Dl i H1 → H1 T = none → g (.ref T) (wipe σ vs) (upd H1 T (.tup [.int (i : Nat), x])) fun σ2 H2 => wipe σ2 vs = wipe σ vs ∧ LcT tt te Dl (Pv Dl (i + 1)) σ2 H2)
    (hd : ∀ Dl H1, H Dl = none → Pv Dl xs.length H1 → Q (.ref Dl) H1) : LcW (Ite K a) g tt te vs σ H Q :=
  fun Dl hD => lc_it (walk_enum (K := K) (a := a) (xs := xs)) (Pv Dl) (h0 Dl hD) (fun i H1 hi p => hl Dl i H1 hD hi p) (fun i x H1 H' hi p y => by
    obtain ⟨T, u, v, rfl, hT, rfl, e1, e2⟩ := y
    have e1 := Option.some.inj e1
    subst e1
    exact hs Dl i v T H1 hD e2 p hT) (fun H1 p => hd Dl H1 hD p)
theorem w_enumSq {a : Addr} {xs : List V} {P : Addr → Prop} (h : SqL K H a xs) (q : P a) : ∃ b ys, [V.ref a] = [.ref b] ∧ SqL K H b ys ∧ P b := ⟨a, xs, rfl, h, q⟩
end
/-! ### ints in lists: deep equality -/
theorem dp_is {K : PySem.W.Frag} {H : Hp} : ∀ xs : List Int, DpAll K H (xs.map V.int) (xs.map PyData.int)
  | [] => .nil
  | x :: xs => .cons (.int x) (dp_is xs)
theorem dp_ints {K : PySem.W.Frag} {H : Hp} {p : Addr} {xs : List Int} (h : SqL K H p (xs.map V.int)) : Dp K H (.ref p) (.list (xs.map PyData.int)) := .lst h (dp_is xs)
theorem di_lay : ∀ xs : List Int, PyData.canLayAll0 (xs.map PyData.int) = true
  | [] => rfl
  | x :: xs => by
    rw [List.map_cons]
    show (PyData.canLay0 (.int x) && PyData.canLayAll0 (xs.map PyData.int)) = true
    rw [di_lay xs]; rfl
theorem di_depth : ∀ xs : List Int, PyData.depthAll (xs.map PyData.int) = 0
  | [] => rfl
  | x :: xs => by
    rw [List.map_cons]
    show max (PyData.depth (.int x)) (PyData.depthAll (xs.map PyData.int)) = 0
    rw [di_depth xs]; rfl
theorem di_shaped (xs : List Int) : SeqAt.shaped (.list (xs.map PyData.int)) = true := by
  have h1 : PyData.canLay0 (.list (xs.map PyData.int)) = true := di_lay xs
  have h2 : PyData.depth (.list (xs.map PyData.int)) ≤ 64 := by
    show PyData.depthAll (xs.map PyData.int) + 1 ≤ 64
    rw [di_depth]; decide
  show (PyData.canLay0 (.list (xs.map PyData.int)) && decide (PyData.depth (.list (xs.map PyData.int)) ≤ 64)) = true
  rw [h1, decide_eq_true h2]; rfl
theorem di_eqv : ∀ xs ys : List Int, PyData.eqvAll (xs.map PyData.int) (ys.map PyData.int) = decide (xs = ys)
  | [], [] => rfl
  | [], y :: ys => by simp [PyData.eqvAll]
  | x :: xs, [] => by simp [PyData.eqvAll]
  | x :: xs, y :: ys => by
    rw [List.map_cons, List.map_cons]
    simp only [PyData.eqvAll, PyData.eqv, di_eqv xs ys]
    by_cases h : x = y
    · by_cases h2 : xs = ys <;> simp [h, h2]
    · simp [h]
theorem w_neI2 {K : PySem.W.Frag} {H : Hp} {Q : VK} {p q : Addr} {xs ys : List Int} (hp : SqL K H p (xs.map V.int)) (hq : SqL K H q (ys.map V.int)) (k : Q (.bl (!decide (xs = ys))) H) : rNeD K (.ref p) (.ref q) H Q := by
  refine ⟨_, _, dp_ints hp, dp_ints hq, di_shaped xs, di_shaped ys, ?_⟩
  show Q (.bl (!PyData.eqvAll (xs.map PyData.int) (ys.map PyData.int))) H
  rw [di_eqv]; exact k
theorem w_eqI2 {K : PySem.W.Frag} {H : Hp} {Q : VK} {p q : Addr} {xs ys : List Int} (hp : SqL K H p (xs.map V.int)) (hq : SqL K H q (ys.map V.int)) (k : Q (.bl (decide (xs = ys))) H) : rEqD K (.ref p) (.ref q) H Q := by
  refine ⟨_, _, dp_ints hp, dp_ints hq, di_shaped xs, di_shaped ys, ?_⟩
  show Q (.bl (PyData.eqvAll (xs.map PyData.int) (ys.map PyData.int))) H
  rw [di_eqv]; exact k
end G
local macro_rules | `(tactic| walk_at "call") => `(tactic| first
  | (refine' G.w_anyI ?g1 ?_; (case g1 => walk_at "sq")) | refine' G.w_lcE ?_ | (refine' G.w_enumSq ?g1 ?_; (case g1 => walk_at "sq"))
  | (refine' G.w_neI2 ?g1 ?g2 ?_; (case g1 => walk_at "sq"); (case g2 => walk_at "sq")) | (refine' G.w_eqI2 ?g1 ?g2 ?_; (case g1 => walk_at "sq"); (case g2 => walk_at "sq")))

end
section
local macro_rules | `(tactic| walk_at "call") => `(tactic| first
  | (refine' G.w_anyI ?g1 ?_; (case g1 => walk_at "sq")) | refine' G.w_lcE ?_ | (refine' G.w_enumSq ?g1 ?_; (case g1 => walk_at "sq"))
  | (refine' G.w_neI2 ?g1 ?g2 ?_; (case g1 => walk_at "sq"); (case g2 => walk_at "sq")) | (refine' G.w_eqI2 ?g1 ?g2 ?_; (case g1 => walk_at "sq"); (case g2 => walk_at "sq")))

namespace G
open PySem L2
/-! ### more words -/
section
variable {K : PySem.W.Frag} {σ : L2.St} {H : Hp} {Q : VK} {D : Ends} {v x y : V} {ta te : TE} {p : Addr}
theorem w_tru {Qb : Bool → Hp → Prop} (h : ta σ H fun x H' => ∃ k, TruV K x H' k ∧ Qb k H') : tTruK K ta σ H Qb := h
theorem w_truL {xs : List V} {Qb : Bool → Prop} (h : SqL K H p xs) (q : Qb (!xs.isEmpty)) : ∃ k, TruV K (.ref p) H k ∧ Qb k := ⟨_, .inl ⟨xs, h, rfl⟩, q⟩
theorem w_revL (h : te σ H fun x H1 => ∃ a xs, x = .ref a ∧ SqL K H1 a xs ∧ ∀ p, H1 p = none → Q (.ref p) (upd H1 p (.lst xs.reverse))) : tRevL K te σ H Q := h
theorem w_revL2 {xs : List V} {P : Addr → List V → Prop} (h : SqL K H p xs) (q : P p xs) : ∃ a ys, V.ref p = .ref a ∧ SqL K H a ys ∧ P a ys := ⟨p, xs, rfl, h, q⟩
theorem w_rep {xs : List V} {k : Int} (h : H p = some (.lst xs)) (h0 : -4611686018427387904 ≤ k) (h1 : k < 4611686018427387904) (hl : xs.length * k.toNat ≤ sizeLine)
    (q : ∀ l, H l = none → Q (.ref l) (upd H l (.lst (List.replicate k.toNat xs).flatten))) : rRep (.ref p) (.int k) H Q := ⟨p, k, xs, rfl, rfl, h, by omega, by omega, hl, q⟩
theorem w_isNr (h : ta σ H fun x H1 => Q (.bl (decide (x = .non))) H1) : tIsN ta σ H Q := h
theorem w_notN (h : ta σ H fun x H1 => Q (.bl (!decide (x = .non))) H1) : tNotN ta σ H Q := h
theorem w_any {bs : List Bool} (h : SqL K H p (bs.map V.bl)) (q : Q (.bl (bs.any id)) H) : rAny K [.ref p] H Q := ⟨p, bs, rfl, h, q⟩
theorem w_all {bs : List Bool} (h : SqL K H p (bs.map V.bl)) (q : Q (.bl (bs.all id)) H) : rAll K [.ref p] H Q := ⟨p, bs, rfl, h, q⟩
theorem w_isT {t u : String} {b : Bool} (ty : TyX K H x (.type t)) (e : PySem.W.kitOne K (.type t) (.type u) = some b) (q : Q (.bl b) H) : rIsi K [x, .ty u] H Q :=
  ⟨x, .ty u, .type t, .type u, b, rfl, ClsV.ty u, ty, e, q⟩
theorem w_isII {a : Int} (q : Q (.bl true) H) : rIsi K [.int a, .ty "int"] H Q := w_isT (t := "int") (b := true) (TyX.base (TyOf.int a)) (kit_ty (by decide +kernel)) q
theorem w_isIB {a : Int} (q : Q (.bl false) H) : rIsi K [.int a, .ty "bool"] H Q := w_isT (t := "int") (b := false) (TyX.base (TyOf.int a)) (kit_ty (by decide +kernel)) q
theorem w_isBB {a : Bool} (q : Q (.bl true) H) : rIsi K [.bl a, .ty "bool"] H Q := w_isT (t := "bool") (b := true) (TyX.base (TyOf.bl a)) (kit_ty (by decide +kernel)) q
theorem w_isLL {xs : List V} (h : H p = some (.lst xs)) (q : Q (.bl true) H) : rIsi K [.ref p, .ty "list"] H Q := w_isT (t := "list") (b := true) (TyX.base (TyOf.lst h)) (kit_ty (by decide +kernel)) q
end
theorem w_iteNT {A B : Prop} (h : B) : if (!true) = true then A else B := h
theorem w_iteNF {A B : Prop} (h : A) : if (!false) = true then A else B := h
theorem w_iteRf {α : Type} {a : α} {i : Decidable (a = a)} {A B : Prop} (h : A) : if (@decide (a = a) i) = true then A else B := by rw [decide_eq_true rfl]; exact h
theorem w_iteNRf {α : Type} {a : α} {i : Decidable (a = a)} {A B : Prop} (h : B) : if (!(@decide (a = a) i)) = true then A else B := by rw [decide_eq_true rfl]; exact h
theorem at_of {xs : List V} {k : Int} {j : Nat} {v : V} (e : k = (j : Int)) (h : xs[j]? = some v) : atI xs k = some v := atn e h
end G
local macro_rules | `(tactic| walk_at "call") => `(tactic| first
  | refine' G.w_iteNT ?_ | refine' G.w_iteNF ?_ | refine' G.w_iteRf ?_ | refine' G.w_iteNRf ?_ | refine' G.w_tru ?_ | (refine' G.w_truL ?g1 ?_; (case g1 => walk_at "sq")) | refine' G.w_revL ?_ | (refine' G.w_revL2 ?g1 ?_; (case g1 => walk_at "sq"))
  | (refine' G.w_rep ?g1 ?g2 ?g3 ?g4 ?_; (case g1 => walk_at "hp"); (case g2 => walk_at "ar"); (case g3 => walk_at "ar"); (case g4 => walk_at "sz"))
  | refine' G.w_isNr ?_ | refine' G.w_notN ?_ | refine' G.w_isII ?_ | refine' G.w_isIB ?_ | refine' G.w_isBB ?_ | (refine' G.w_isLL ?g1 ?_; (case g1 => walk_at "hp")))

end
section
local macro_rules | `(tactic| walk_at "call") => `(tactic| first
  | (refine' G.w_anyI ?g1 ?_; (case g1 => walk_at "sq")) | refine' G.w_lcE ?_ | (refine' G.w_enumSq ?g1 ?_; (case g1 => walk_at "sq"))
  | (refine' G.w_neI2 ?g1 ?g2 ?_; (case g1 => walk_at "sq"); (case g2 => walk_at "sq")) | (refine' G.w_eqI2 ?g1 ?g2 ?_; (case g1 => walk_at "sq"); (case g2 => walk_at "sq")))

local macro_rules | `(tactic| walk_at "call") => `(tactic| first
  | refine' G.w_iteNT ?_ | refine' G.w_iteNF ?_ | refine' G.w_iteRf ?_ | refine' G.w_iteNRf ?_ | refine' G.w_tru ?_ | (refine' G.w_truL ?g1 ?_; (case g1 => walk_at "sq")) | refine' G.w_revL ?_ | (refine' G.w_revL2 ?g1 ?_; (case g1 => walk_at "sq"))
  | (refine' G.w_rep ?g1 ?g2 ?g3 ?g4 ?_; (case g1 => walk_at "hp"); (case g2 => walk_at "ar"); (case g3 => walk_at "ar"); (case g4 => walk_at "sz"))
  | refine' G.w_isNr ?_ | refine' G.w_notN ?_ | refine' G.w_isII ?_ | refine' G.w_isIB ?_ | refine' G.w_isBB ?_ | (refine' G.w_isLL ?g1 ?_; (case g1 => walk_at "hp")))

namespace G
open PySem L2
variable {K : PySem.W.Frag} {A : CA} {vs : List V} {H : Hp} {Q : VK} {E : XK}
/-- chains: numbers from 0 to 60 -/
def Chn (c : List Int) : Prop := ∀ n ∈ c, 0 ≤ n ∧ n ≤ 60
theorem Chn.app {a b : List Int} (h : Chn a) (k : Chn b) : Chn (a ++ b) := fun n hn => by
  rcases List.mem_append.mp hn with q | q
  · exact h n q
  · exact k n q
theorem Chn.set {a : List Int} {i : Nat} {v : Int} (h : Chn a) (h0 : 0 ≤ v) (h1 : v ≤ 60) : Chn (a.set i v) := fun n hn => by
  rcases List.mem_or_eq_of_mem_set hn with q | q
  · exact h n q
  · rw [q]; exact ⟨h0, h1⟩
theorem Chn.sub {a b : List Int} (h : Chn a) (k : ∀ x ∈ b, x ∈ a) : Chn b := fun n hn => h n (k n hn)
theorem Chn.rep {a : List Int} {k : Nat} (h : Chn a) : Chn (List.replicate k a).flatten := h.sub fun x hx => by
  obtain ⟨l, hl, hm⟩ := List.mem_flatten.mp hx
  rw [(List.mem_replicate.mp hl).2] at hm; exact hm
theorem map_rep {a : List Int} {k : Nat} : (List.replicate k (a.map V.int)).flatten = ((List.replicate k a).flatten).map V.int := by
  rw [List.map_flatten, List.map_replicate]
theorem len_rep {α : Type} {a : List α} {k : Nat} : (List.replicate k a).flatten.length = k * a.length := by
  simp [List.length_flatten, List.map_replicate, List.sum_replicate_nat]
theorem snocI (xs : List Int) (z : Int) : xs.map V.int ++ [V.int z] = (xs ++ [z]).map V.int := by rw [List.map_append]; rfl
end G

namespace G
open PySem L2
theorem sIx_nat (n k : Nat) (d : Nat) : HT.sIx n d (some (k : Int)) = min k n := by
  unfold HT.sIx
  simp
  omega
theorem cut_map (c : List Int) (i j : Nat) : cutV (c.map V.int) (some (i : Int)) (some (j : Int)) = ((c.drop i).take (j - i)).map V.int := by
  unfold cutV
  rw [sIx_nat, sIx_nat, List.length_map, ← List.map_drop, ← List.map_take]
  congr 1
  by_cases h : i ≤ c.length
  · rw [show min i c.length = i by omega]
    by_cases h2 : j ≤ c.length
    · rw [show min j c.length = j by omega]
    · rw [show min j c.length = c.length by omega, List.take_of_length_le (by simp), List.take_of_length_le (by simp; omega)]
  · rw [show min i c.length = c.length by omega, List.drop_eq_nil_of_le (Nat.le_refl _), List.drop_eq_nil_of_le (by omega)]
    simp
theorem cut_mapFrom (c : List Int) (i : Nat) : cutV (c.map V.int) (some (i : Int)) none = (c.drop i).map V.int := by
  unfold cutV
  rw [sIx_nat, List.length_map, ← List.map_drop, ← List.map_take]
  congr 1
  show List.take (c.length - _) _ = _
  by_cases h : i ≤ c.length
  · rw [show min i c.length = i by omega, List.take_of_length_le (by simp)]
  · rw [List.drop_eq_nil_of_le (show c.length ≤ i by omega), List.drop_eq_nil_of_le (by omega)]; simp
theorem cut_mapTo (c : List Int) (j : Nat) : cutV (c.map V.int) none (some (j : Int)) = (c.take j).map V.int := by
  unfold cutV
  rw [sIx_nat, List.length_map, ← List.map_drop, ← List.map_take]
  congr 1
  show List.take (_ - 0) (List.drop 0 c) = _
  rw [List.drop_zero, Nat.sub_zero]
  by_cases h : j ≤ c.length
  · rw [show min j c.length = j by omega]
  · rw [List.take_of_length_le (by omega), List.take_of_length_le (by omega)]
variable {K : PySem.W.Frag} {A : CA} {vs : List V} {H : Hp} {Q : VK} {E : XK}
theorem w_oIntB {b : Bool} (q : Q (.int (if b then 1 else 0)) H) : oInt [.bl b] H Q := .inr ⟨b, rfl, q⟩
theorem getI {c : List Int} {i : Nat} {x : V} (h : (c.map V.int)[i]? = some x) : ∃ hi : i < c.length, x = V.int c[i] := by
  rw [List.getElem?_map] at h
  have hi : i < c.length := by
    by_cases hc : i < c.length
    · exact hc
    · rw [List.getElem?_eq_none (by omega)] at h; cases h
  rw [List.getElem?_eq_getElem hi] at h
  exact ⟨hi, (Option.some.inj h).symm⟩
end G
local macro_rules | `(tactic| walk_at "call") => `(tactic| refine' G.w_oIntB ?_)

namespace G
open PySem L2
/-! ### made lists -/
section
variable {K : PySem.W.Frag} {σ : L2.St} {H : Hp} {ta tb : TE} {xs ys : List Int} {k a : Int} {i : Nat}
/-- the expression makes a new list of these ints -/
def Mk (ta : TE) (σ : L2.St) (H : Hp) (xs : List Int) : Prop := ∀ Q : VK, (∀ p H', H p = none → Same H H' → H' p = some (.lst (xs.map V.int)) → Q (.ref p) H') → ta σ H Q
/-- the expression is this int and changes nothing -/
def Iv (tb : TE) (σ : L2.St) (k : Int) : Prop := ∀ (H : Hp) (Q : VK), Q (.int k) H → tb σ H Q
theorem Iv.var (h : σ[i]? = some (some (.int k))) : Iv (tVar i) σ k := fun _ _ q => w_var h q
theorem Iv.c : Iv (tC (.int k)) σ k := fun _ _ q => q
theorem Iv.sub {m : Int} (h : Iv ta σ k) (h2 : Iv tb σ m) : Iv (tOp oSub ta tb) σ (k - m) := fun _ _ q => w_op (h _ _ (h2 _ _ (w_oSub q)))
theorem Iv.add {m : Int} (h : Iv ta σ k) (h2 : Iv tb σ m) : Iv (tOp oAdd ta tb) σ (k + m) := fun _ _ q => w_op (h _ _ (h2 _ _ (w_oAdd q)))
theorem Mk.one (h : Iv ta σ a) : Mk (tLst (tCons ta tNil)) σ H [a] := fun Q q => w_lst (w_cons (h _ _ (w_nil ⟨Nat.le_trans (by simp : [V.int a].length ≤ 1) (by decide), fun p hp => q p _ hp (same_new hp) upd_same⟩)))
theorem Mk.rep (h : Mk ta σ H xs) (h2 : Iv tb σ k) (h0 : -4611686018427387904 ≤ k) (h1 : k < 4611686018427387904) (hl : xs.length * k.toNat ≤ 100000) : Mk (tOp rRep ta tb) σ H (List.replicate k.toNat xs).flatten := fun Q q =>
  w_op (h _ fun p H1 hp e hx => h2 _ _ (w_rep hx h0 h1 (by rw [List.length_map]; exact Nat.le_trans hl (by decide)) fun l hl => q l _ (e.free hl) (e.trans (same_new hl)) (by rw [map_rep]; exact upd_same)))
theorem Mk.cat (h : Mk ta σ H xs) (h2 : ∀ H', Same H H' → Mk tb σ H' ys) (hl : xs.length + ys.length ≤ 100000) : Mk (tOp rCat ta tb) σ H (xs ++ ys) := fun Q q =>
  w_op (h _ fun p H1 hp e hx => h2 H1 e _ fun p2 H2 hp2 e2 hy => w_cat (e2 _ _ hx) hy (by rw [List.length_map, List.length_map]; exact Nat.le_trans hl (by decide)) fun l hl => q l _ ((e.trans e2).free hl) ((e.trans e2).trans (same_new hl)) (by rw [← List.map_append]; exact upd_same))
theorem Mk.same {H' : Hp} (e : Same H H') (h : ∀ H1, Mk ta σ H1 xs) : Mk ta σ H' xs := h H'
end
theorem flat_one {α : Type} (k : Nat) (x : α) : (List.replicate k [x]).flatten = List.replicate k x := by
  induction k with
  | zero => rfl
  | succ k ih => rw [List.replicate_succ, List.flatten_cons, ih]; rfl
end G

end
section
local macro_rules | `(tactic| walk_at "call") => `(tactic| first
  | (refine' G.w_anyI ?g1 ?_; (case g1 => walk_at "sq")) | refine' G.w_lcE ?_ | (refine' G.w_enumSq ?g1 ?_; (case g1 => walk_at "sq"))
  | (refine' G.w_neI2 ?g1 ?g2 ?_; (case g1 => walk_at "sq"); (case g2 => walk_at "sq")) | (refine' G.w_eqI2 ?g1 ?g2 ?_; (case g1 => walk_at "sq"); (case g2 => walk_at "sq")))

local macro_rules | `(tactic| walk_at "call") => `(tactic| first
  | refine' G.w_iteNT ?_ | refine' G.w_iteNF ?_ | refine' G.w_iteRf ?_ | refine' G.w_iteNRf ?_ | refine' G.w_tru ?_ | (refine' G.w_truL ?g1 ?_; (case g1 => walk_at "sq")) | refine' G.w_revL ?_ | (refine' G.w_revL2 ?g1 ?_; (case g1 => walk_at "sq"))
  | (refine' G.w_rep ?g1 ?g2 ?g3 ?g4 ?_; (case g1 => walk_at "hp"); (case g2 => walk_at "ar"); (case g3 => walk_at "ar"); (case g4 => walk_at "sz"))
  | refine' G.w_isNr ?_ | refine' G.w_notN ?_ | refine' G.w_isII ?_ | refine' G.w_isIB ?_ | refine' G.w_isBB ?_ | (refine' G.w_isLL ?g1 ?_; (case g1 => walk_at "hp")))

local macro_rules | `(tactic| walk_at "call") => `(tactic| refine' G.w_oIntB ?_)

namespace G
open PySem PySem.Spec PyProof.Rows L2
/-! ### list(range(i, j, c)), shifts, reversed ranges -/
def tLstRg3 (ta : TA) : TE := fun σ H Q => ta σ H fun vs H1 => ∃ (i j c : Int) (n : Nat), vs = [.int i, .int j, .int c] ∧ RgC i j c n ∧ n ≤ 2 ^ 20 ∧ ∀ q, H1 q = none → Q (.ref q) (upd H1 q (.lst ((List.range n).map fun (m : Nat) => V.int (i + (m : Int) * c))))
theorem pe_listRg3 {X : Cx} {a b c : Expr} {ta : TA} {p p2 pos pos2 : Pos} (hc : X.calm = true) (hgl : Gl X "list") (hml : X.mg "list" = none) (hg : Gl X "range") (hm : X.mg "range" = none) (ha : PA X [a, b, c] ta)
    (hs : starEach [a, b, c] X.env = (false, eval a X.env) :: starEach [b, c] X.env := by rfl) (hpl : (backTo pos (starEach [b, c] X.env)).any (·.1) = false := by rfl)
    (na : starEach [.Call (.Name "range" p) [a, b, c] [] pos] X.env = (false, eval (.Call (.Name "range" p) [a, b, c] [] pos) X.env) :: starEach [] X.env := by rfl) :
    PE X (.Call (.Name "list" p2) [.Call (.Name "range" p) [a, b, c] [] pos] [] pos2) (tLstRg3 ta) := by
  refine ⟨fun pins s σ H Q I h => ?_⟩
  refine Call_ (ld_blt I hgl hml boot_list (PyProof.Rows.callWith_type1 (args_cons ?_ na) na))
  refine Call_ (ld_blt I hg hm boot_range (PyProof.Rows.callWith_type1 (thn (ha.run pos pins s σ H _ I h) fun us s1 ⟨vs, H1, I1, r1, q1⟩ => ?_) hs hpl))
  obtain ⟨i, j, k, n, e, ⟨c0, c1, c2, c3⟩, hn, q⟩ := q1
  subst e
  cases r1 with
  | cons r rr =>
    cases rr with
    | cons r' rr =>
      cases rr with
      | cons r'' rr =>
        cases rr
        obtain ⟨t, rfl⟩ := r
        obtain ⟨t', rfl⟩ := r'
        obtain ⟨t'', rfl⟩ := r''
        refine call_range_3 c0 ?_ (.inl (PyProof.noPylong_small c1))
        refine args_nil ?_
        have I2 : Inv X pins σ H1 { s1 with heap := s1.heap.push { cls := .type "range", data := .fields #[.int i t, .int j t', .int k t''] } } := I1.kept (t' := s1.toks) fun b o e => Heap.get?_push_of_some _ e
        refine call_list_range (n := n) (I2.ok.hd hc) (IsRange.new ..) c2 c3 (Nat.le_trans hn (by decide)) fun h' tk acc c' hk e' hi => ?_
        have e : acc.toList.length = n := by rw [Array.length_toList]; exact hi.1
        refine ⟨.ref _, upd H1 _ (.lst ((List.range n).map fun (m : Nat) => V.int (i + (m : Int) * k))), I2.laid hk (Nat.le_refl _) (show ObjOk X.prog X.w _ _ _ (.lst ((List.range n).map fun (m : Nat) => V.int (i + (m : Int) * k))) from ⟨?_, acc.toList, c', ?_, ?_⟩), rfl, q _ (I2.hok.fresh (Nat.le_refl _))⟩
        · rw [List.length_map, List.length_range, sizeLine_eq]; omega
        · rw [← e]
          refine vals_of_get acc.toList _ fun j u hj => ?_
          obtain ⟨t, rfl⟩ := hi.2 j u (by rw [← hj, Array.getElem?_toList])
          exact ⟨t, rfl⟩
        · rw [Array.toArray_toList]; exact e'
theorem rg_down {a b : Int} {w n : Nat} (hw : 1 ≤ w) (hw1 : w ≤ 1000000) (ha : 0 ≤ a) (ha' : a ≤ 1000000) (hb : 0 ≤ b) (hn : 1 ≤ n) (e : a = b + ((n * w : Nat) : Int)) : RgC a b (-(w : Int)) n := by
  have hnw : 1 * 1 ≤ n * w := Nat.mul_le_mul hn hw
  have hs : Builtin.Range.rangeSize a b (-(w : Int)) = n := by
    unfold Builtin.Range.rangeSize
    rw [if_neg (by omega), if_pos (by omega), Int.neg_neg]
    have h1 : a - b - 1 = ((n * w - 1 : Nat) : Int) := by omega
    rw [h1, ← Int.natCast_ediv]
    have h2 : (n * w - 1) / w = n - 1 := by
      obtain ⟨m, rfl⟩ : ∃ m, n = m + 1 := ⟨n - 1, by omega⟩
      have e3 : (m + 1) * w - 1 = w * m + (w - 1) := by rw [Nat.add_mul, Nat.mul_comm]; omega
      rw [e3, Nat.mul_add_div (by omega), Nat.div_eq_of_lt (by omega)]; simp
    rw [h2]; omega
  have hnn : n ≤ n * w := Nat.le_mul_of_pos_right _ hw
  refine ⟨by omega, by omega, ?_, hs⟩
  unfold Builtin.Range.small
  rw [hs, if_neg (by omega)]
  unfold Builtin.Range.rangeFitsLong
  simp only [Bool.and_eq_true, Bool.or_eq_true, decide_eq_true_eq, beq_iff_eq]
  omega
def oShl1 : R2 := fun x y H Q => ∃ k : Nat, x = .int 1 ∧ y = .int (k : Int) ∧ k ≤ 134217727 ∧ Q (.int (2 ^ k)) H
def oShrN : R2 := fun x y H Q => ∃ (i : Int) (k : Nat), x = .int i ∧ y = .int (k : Int) ∧ Q (.int (i / 2 ^ k)) H
def oOdd : R2 := fun x y H Q => ∃ n : Nat, x = .int (n : Int) ∧ y = .int 1 ∧ Q (.int ((n % 2 : Nat) : Int)) H
section
variable {K : PySem.W.Frag} {σ : L2.St} {H : Hp} {Q : VK} {p : Addr} {ns : List Int} {i : Int}
theorem inV_int : ∀ (ns : List Int) (i : Int), inV (.int i) (ns.map V.int) = decide (i ∈ ns)
  | [], i => rfl
  | n :: ns, i => by
    have ih := inV_int ns i
    unfold inV at ih ⊢
    rw [List.map_cons, List.any_cons, ih]
    show (decide (n = i) || decide (i ∈ ns)) = _
    by_cases c : n = i
    · subst c; simp
    · by_cases c2 : i ∈ ns <;> simp [c, c2, Ne.symm c]
theorem all_flat : ∀ ns : List Int, (ns.map V.int).all flatV = true
  | [] => rfl
  | n :: ns => by rw [List.map_cons, List.all_cons, all_flat ns]; rfl
theorem w_inI (h : SqL K H p (ns.map V.int)) (q : Q (.bl (decide (i ∈ ns))) H) : rIn K false (.int i) (.ref p) H Q := ⟨p, _, rfl, .inl h, rfl, all_flat ns, by rw [inV_int]; exact q⟩
theorem w_max (h : SqL K H p (ns.map V.int)) (h0 : 0 < ns.length) (q : ∀ m, m ∈ ns → (∀ y, y ∈ ns → y ≤ m) → Q (.int m) H) : rMax K [.ref p] H Q := ⟨p, ns, rfl, h, h0, q⟩
theorem w_forRev {ta : TE} {g : TG} {tb : TS} {D : Ends} (h : ta σ H fun x H1 => ∃ n : Int, x = .int n ∧ -(2 ^ 62) ≤ (0 : Int) ∧ (0 : Int) < 2 ^ 62 ∧ -(2 ^ 62) ≤ n ∧ n < 2 ^ 62 ∧ ForW (Itc (0 + (((n - 0).toNat : Nat) : Int) - 1) (-1) (n - 0).toNat) g tb D σ H1) : tFor (iRevR (tRg1 ta)) g tb D σ H := h
theorem w_bdR {n : Int} {P : Prop} (h0 : -4611686018427387904 ≤ n) (h1 : n < 4611686018427387904) (q : P) : -(2 ^ 62) ≤ (0 : Int) ∧ (0 : Int) < 2 ^ 62 ∧ -(2 ^ 62) ≤ n ∧ n < 2 ^ 62 ∧ P := ⟨by omega, by omega, by omega, by omega, q⟩
/-- reversed(range(n)): the place of turn t is n - 1 - t -/
theorem forC {n : Nat} {g : TG} {tb : TS} {D : Ends} (Pv : Nat → L2.St → Hp → Prop) (h0 : Pv 0 σ H)
    (hs : ∀ i σ1 H1, i < n → Pv i σ1 H1 → g (.int ((n - 1 - i : Nat) : Int)) σ1 H1 fun σ2 H2 => tb { D with nx := Pv (i + 1), ct := Pv (i + 1), bk := D.nx } σ2 H2) (hd : ∀ σ1 H1, Pv n σ1 H1 → D.nx σ1 H1) :
    ForW (Itc (0 + ((((n : Nat) : Int) - 0).toNat : Int) - 1) (-1) (((n : Nat) : Int) - 0).toNat) g tb D σ H := by
  rw [show (((n : Nat) : Int) - 0).toNat = n by omega]
  refine for_rangeC Pv h0 (fun i σ1 H1 hi p => ?_) hd
  have e : (0 : Int) + ((n : Nat) : Int) - 1 + ((i : Nat) : Int) * -1 = ((n - 1 - i : Nat) : Int) := by omega
  rw [e]
  exact hs i σ1 H1 hi p
end
theorem at_int {xs : List Int} {j : Nat} {v : Int} (h : xs[j]? = some v) : atI (xs.map V.int) (j : Int) = some (V.int v) := at_of (j := j) rfl (by rw [List.getElem?_map, h]; rfl)
theorem w_lstRg3 {σ : L2.St} {H : Hp} {Q : VK} {ta : TA} (h : ta σ H fun vs H1 => ∃ (i j c : Int) (n : Nat), vs = [.int i, .int j, .int c] ∧ RgC i j c n ∧ n ≤ 2 ^ 20 ∧ ∀ q, H1 q = none → Q (.ref q) (upd H1 q (.lst ((List.range n).map fun (m : Nat) => V.int (i + (m : Int) * c))))) : tLstRg3 ta σ H Q := h
theorem w_ninI {K : PySem.W.Frag} {H : Hp} {Q : VK} {p : Addr} {ns : List Int} {i : Int} (h : SqL K H p (ns.map V.int)) (q : Q (.bl (!decide (i ∈ ns))) H) : rIn K true (.int i) (.ref p) H Q := ⟨p, _, rfl, .inl h, rfl, all_flat ns, by rw [inV_int]; exact q⟩
theorem w_min {K : PySem.W.Frag} {H : Hp} {Q : VK} {p : Addr} {ns : List Int} (h : SqL K H p (ns.map V.int)) (h0 : 0 < ns.length) (q : ∀ m, m ∈ ns → (∀ y, y ∈ ns → m ≤ y) → Q (.int m) H) : rMin K [.ref p] H Q := ⟨p, ns, rfl, h, h0, q⟩
theorem w_sortI {K : PySem.W.Frag} {H : Hp} {Q : VK} {p : Addr} {ns : List Int} (h : SqL K H p (ns.map V.int)) (q : ∀ (ns' : List Int) (l : Addr), ns'.Perm ns → ns'.Pairwise (· ≤ ·) → H l = none → Q (.ref l) (upd H l (.lst (ns'.map V.int)))) : rSortedI K [.ref p] H Q := ⟨p, ns, rfl, h, q⟩
theorem sorted_eq {xs ys : List Int} (hp : xs.Perm ys) (hx : xs.Pairwise (· ≤ ·)) (hy : ys.Pairwise (· ≤ ·)) : xs = ys := hp.eq_of_pairwise (fun a b _ _ h1 h2 => by omega) hx hy
theorem at_last1 {xs : List V} {v : V} : atI (xs ++ [v]) (-1) = some v := atI_last _ _
/-- natural numbers as ints -/
abbrev nI (l : List Nat) : List Int := l.map fun (n : Nat) => (n : Int)
theorem mem_nI {l : List Nat} {i : Nat} : (i : Int) ∈ nI l ↔ i ∈ l := by
  constructor
  · intro h
    obtain ⟨j, hj, e⟩ := List.mem_map.mp h
    rw [← Int.ofNat_inj.mp e]; exact hj
  · exact fun h => List.mem_map.mpr ⟨i, h, rfl⟩
theorem w_wl {c : TT} {tb : TS} {D : Ends} {σ : L2.St} {H : Hp} (W : Nat → L2.St → Hp → Prop) (m : Nat) (h0 : W m σ H) (hs : ∀ m σ H, W m σ H → c σ H fun b H1 => if b = true then tb { D with nx := fun σ' H' => ∃ m', m' < m ∧ W m' σ' H', ct := fun σ' H' => ∃ m', m' < m ∧ W m' σ' H', bk := D.nx } σ H1 else D.nx σ H1)
    (mono : ∀ σ H Q Q', (∀ b H1, Q b H1 → Q' b H1) → c σ H Q → c σ H Q') : tWhile c tb D σ H := by
  refine ⟨W, ⟨m, h0⟩, fun m σ H p => mono σ H _ _ (fun b H1 q => ?_) (hs m σ H p)⟩
  cases b with
  | true => exact ⟨_, fun _ _ h => h, q⟩
  | false => exact q
end G
namespace GY
open PySem L2 G
def oTupOf (K : PySem.W.Frag) : RL := fun xs H Q => ∃ p ys, xs = [.ref p] ∧ ((SqL K H p ys ∧ ∀ l, H l = none → Q (.ref l) (upd H l (.tup ys))) ∨ (SqT K H p ys ∧ Q (.ref p) H))
section
variable {K : PySem.W.Frag} {σ : L2.St} {H : Hp} {Q : VK} {p : Addr} {xs ys : List V} {te tz : TE} {t : TA} {tt : TT}
theorem w_tupL (h : SqL K H p ys) (q : ∀ l, H l = none → Q (.ref l) (upd H l (.tup ys))) : oTupOf K [.ref p] H Q := ⟨p, ys, rfl, .inl ⟨h, q⟩⟩
theorem w_star {Ql : List V → Hp → Prop} (h : te σ H fun x H1 => ∃ p xs, x = V.ref p ∧ (SqT K H1 p xs ∨ SqL K H1 p xs) ∧ t σ H1 fun ys H2 => Ql (xs ++ ys) H2) : _root_.StX.tStar K te t σ H Ql := h
theorem w_starL {P : List V → Prop} (h : SqL K H p xs) (q : P xs) : ∃ a ys, V.ref p = V.ref a ∧ (SqT K H a ys ∨ SqL K H a ys) ∧ P ys := ⟨p, xs, rfl, .inr h, q⟩
theorem w_listT (h : SqT K H p ys) (q : ∀ l, H l = none → Q (.ref l) (upd H l (.lst ys))) : oListOf K [.ref p] H Q := ⟨p, ys, rfl, .inr h, q⟩
theorem w_lcS {g : TG} {vs : List Nat} (h : tz σ H fun x H1 => ∃ a, x = .ref a ∧ (((∃ xs, SqL K H1 a xs) ∧ LcW (Itl K a) g tt te vs σ H1 Q) ∨ ((∃ xs, SqT K H1 a xs) ∧ LcW (Itt K a) g tt te vs σ H1 Q))) : tLc (iSeq K tz) g tt te vs σ H Q := h
theorem lcT {a : Addr} {g : TG} {vs : List Nat} (Pv : Addr → Nat → Hp → Prop) (h0 : ∀ Dl, H Dl = none → Pv Dl 0 (upd H Dl (.lst []))) (hl : ∀ Dl i H1, H Dl = none → i ≤ xs.length → Pv Dl i H1 → SqT K H1 a xs)
    (hs : ∀ Dl i x H1, H Dl = none → xs[i]? = some x → Pv Dl i H1 → g x (wipe σ vs) H1 fun σ2 H2 => wipe σ2 vs = wipe σ vs ∧ LcT tt te Dl (Pv Dl (i + 1)) σ2 H2) (hd : ∀ Dl H1, H Dl = none → Pv Dl xs.length H1 → Q (.ref Dl) H1) : LcW (Itt K a) g tt te vs σ H Q :=
  fun Dl hD => lc_tup (K := K) (a := a) (xs := xs) (Pv Dl) (h0 Dl hD) (fun i H1 hi p => hl Dl i H1 hD hi p) (fun i x H1 hx p => hs Dl i x H1 hD hx p) (fun H1 p => hd Dl H1 hD p)
end
end GY
local macro_rules | `(tactic| walk_at "sqt") => `(tactic| first | assumption | exact L2.SqT.of (by walk_at "hp"))
local macro_rules | `(tactic| walk_at "call") => `(tactic| first
  | (refine' G.w_inI ?g1 ?_; (case g1 => walk_at "sq")) | (refine' G.w_ninI ?g1 ?_; (case g1 => walk_at "sq")) | refine' G.w_forRev ?_ | refine' G.w_lstRg3 ?_ | (refine' G.w_bdR ?g1 ?g2 ?_; (case g1 => walk_at "ar"); (case g2 => walk_at "ar"))
  | (refine' G.w_max ?g1 ?g2 ?_; (case g1 => walk_at "sq"); (case g2 => walk_at "ar")) | (refine' G.w_min ?g1 ?g2 ?_; (case g1 => walk_at "sq"); (case g2 => walk_at "ar"))
  | (refine' G.w_sortI ?g1 ?_; (case g1 => walk_at "sq")) | (refine' GY.w_tupL ?g1 ?_; (case g1 => walk_at "sq")) | refine' GY.w_star ?_ | (refine' GY.w_starL ?g1 ?_; (case g1 => walk_at "sq")) | (refine' GY.w_listT ?g1 ?_; (case g1 => walk_at "sqt")))

end
section
local macro_rules | `(tactic| walk_at "call") => `(tactic| first
  | (refine' G.w_anyI ?g1 ?_; (case g1 => walk_at "sq")) | refine' G.w_lcE ?_ | (refine' G.w_enumSq ?g1 ?_; (case g1 => walk_at "sq"))
  | (refine' G.w_neI2 ?g1 ?g2 ?_; (case g1 => walk_at "sq"); (case g2 => walk_at "sq")) | (refine' G.w_eqI2 ?g1 ?g2 ?_; (case g1 => walk_at "sq"); (case g2 => walk_at "sq")))

local macro_rules | `(tactic| walk_at "call") => `(tactic| first
  | refine' G.w_iteNT ?_ | refine' G.w_iteNF ?_ | refine' G.w_iteRf ?_ | refine' G.w_iteNRf ?_ | refine' G.w_tru ?_ | (refine' G.w_truL ?g1 ?_; (case g1 => walk_at "sq")) | refine' G.w_revL ?_ | (refine' G.w_revL2 ?g1 ?_; (case g1 => walk_at "sq"))
  | (refine' G.w_rep ?g1 ?g2 ?g3 ?g4 ?_; (case g1 => walk_at "hp"); (case g2 => walk_at "ar"); (case g3 => walk_at "ar"); (case g4 => walk_at "sz"))
  | refine' G.w_isNr ?_ | refine' G.w_notN ?_ | refine' G.w_isII ?_ | refine' G.w_isIB ?_ | refine' G.w_isBB ?_ | (refine' G.w_isLL ?g1 ?_; (case g1 => walk_at "hp")))

local macro_rules | `(tactic| walk_at "call") => `(tactic| refine' G.w_oIntB ?_)

local macro_rules | `(tactic| walk_at "sqt") => `(tactic| first | assumption | exact L2.SqT.of (by walk_at "hp"))
local macro_rules | `(tactic| walk_at "call") => `(tactic| first
  | (refine' G.w_inI ?g1 ?_; (case g1 => walk_at "sq")) | (refine' G.w_ninI ?g1 ?_; (case g1 => walk_at "sq")) | refine' G.w_forRev ?_ | refine' G.w_lstRg3 ?_ | (refine' G.w_bdR ?g1 ?g2 ?_; (case g1 => walk_at "ar"); (case g2 => walk_at "ar"))
  | (refine' G.w_max ?g1 ?g2 ?_; (case g1 => walk_at "sq"); (case g2 => walk_at "ar")) | (refine' G.w_min ?g1 ?g2 ?_; (case g1 => walk_at "sq"); (case g2 => walk_at "ar"))
  | (refine' G.w_sortI ?g1 ?_; (case g1 => walk_at "sq")) | (refine' GY.w_tupL ?g1 ?_; (case g1 => walk_at "sq")) | refine' GY.w_star ?_ | (refine' GY.w_starL ?g1 ?_; (case g1 => walk_at "sq")) | (refine' GY.w_listT ?g1 ?_; (case g1 => walk_at "sqt")))

namespace G
open PySem PySem.Spec PyProof.Rows L2
section
variable {K : PySem.W.Frag} {A : CA} {vs : List V} {H : Hp} {Q : VK} {E : XK}
theorem map_drop_take (xs : List Int) (a b : Nat) : ((xs.map V.int).drop a).take b = ((xs.drop a).take b).map V.int := by rw [← List.map_drop, ← List.map_take]
theorem cut_ints (xs : List Int) (lo hi : Option Int) : ∃ ys : List Int, cutV (xs.map V.int) lo hi = ys.map V.int := ⟨_, map_drop_take xs _ _⟩
end
section
def Par (ps : List Int) : Prop := ∀ (k : Nat) (z : Int), ps[k]? = some z → -1 ≤ z ∧ z < (k : Int)
theorem Par.snoc {ps : List Int} {z : Int} (h : Par ps) (h0 : -1 ≤ z) (h1 : z < ps.length) : Par (ps ++ [z]) := by
  intro k w hk
  by_cases hc : k < ps.length
  · rw [List.getElem?_append_left hc] at hk; exact h k w hk
  · rw [List.getElem?_append_right (by omega)] at hk
    have e : k - ps.length = 0 := by
      cases hd : k - ps.length with
      | zero => rfl
      | succ n => rw [hd] at hk; simp at hk
    rw [e] at hk
    have := Option.some.inj hk
    subst this; omega
theorem par1 : Par [-1] := by
  intro k z hk
  cases k with
  | zero =>
    have e : (-1 : Int) = z := Option.some.inj hk
    subst e; decide
  | succ n => simp at hk
end
section
/-- rows of pairs of pages below m, two different ones each, none twice -/
structure RG (m : Int) (rows : List (Int × Int)) : Prop where
  bd : ∀ r ∈ rows, 0 ≤ r.1 ∧ r.1 < m ∧ 0 ≤ r.2 ∧ r.2 < m ∧ r.1 ≠ r.2
  nd : rows.Nodup
theorem RG.nil {m : Int} : RG m [] := ⟨fun _ h => (by cases h), List.nodup_nil⟩
theorem RG.snoc {m n : Int} {rows : List (Int × Int)} {r : Int × Int} (h : RG m rows) (hm : m ≤ n) (h0 : 0 ≤ r.1) (h1 : r.1 < n) (h2 : 0 ≤ r.2) (h3 : r.2 < n) (h4 : r.1 ≠ r.2) (hn : r ∉ rows) : RG n (rows ++ [r]) := by
  refine ⟨fun x hx => ?_, ?_⟩
  · rcases List.mem_append.mp hx with k | k
    · have := h.bd x k; omega
    · have e := List.mem_singleton.mp k
      subst e; exact ⟨h0, h1, h2, h3, h4⟩
  · rw [List.nodup_append]
    exact ⟨h.nd, by simp, fun a ha b hb e => by
      have e2 := List.mem_singleton.mp hb
      subst e2; subst e; exact hn ha⟩
theorem RG.mono {m n : Int} {rows : List (Int × Int)} (h : RG m rows) (hm : m ≤ n) : RG n rows := ⟨fun x hx => by have := h.bd x hx; omega, h.nd⟩
theorem RG.no {m : Int} {rows : List (Int × Int)} {r : Int × Int} (h : RG m rows) (hr : m ≤ r.1 ∨ m ≤ r.2) : r ∉ rows := fun hm => by have := h.bd r hm; omega
variable {H : Hp} {q t : Addr} {vs : List V} {rows : List (Int × Int)} {a b : Int} {o o2 : HO}
theorem push_row (hq : H q = some (.lst vs)) (hp : Paired (PR H) vs rows) (ht : H t = none) : Paired (PR (upd (upd H t (.tup [.int a, .int b])) q o)) (vs ++ [.ref t]) (rows ++ [(a, b)]) := by
  have hqt : q ≠ t := ne_of_none hq ht
  exact (PRs.mutL (keep hq ht) (PRs.new ht hp)).snoc ⟨t, rfl, keepNe upd_same hqt.symm⟩
end
section
/-- each page once -/
structure NM (m : Int) (ns : List Int) : Prop where
  len : (ns.length : Int) = m
  bd : ∀ z ∈ ns, 0 ≤ z ∧ z < m
  inj : ∀ (i j : Nat) (a : Int), ns[i]? = some a → ns[j]? = some a → i = j
theorem rng_ints (n : Nat) : rgV 0 (n : Int) = ((List.range n).map fun i => ((i : Nat) : Int)).map V.int := by
  unfold rgV
  rw [List.map_map]
  have e : ((n : Int) - 0).toNat = n := by omega
  rw [e]
  refine List.map_congr_left fun i _ => ?_
  show V.int (0 + (i : Int)) = V.int (i : Int)
  rw [Int.zero_add]
theorem nm_map {n : Nat} {f : Nat → Int} (hb : ∀ i, i < n → 0 ≤ f i ∧ f i < (n : Int)) (hi : ∀ i j, i < n → j < n → f i = f j → i = j) : NM (n : Int) ((List.range n).map f) := by
  refine ⟨by simp, fun z hz => ?_, fun i j a h1 h2 => ?_⟩
  · obtain ⟨i, h, rfl⟩ := List.mem_map.mp hz
    exact hb i (List.mem_range.mp h)
  · rw [List.getElem?_map] at h1 h2
    cases e1 : (List.range n)[i]? with
    | none => rw [e1] at h1; cases h1
    | some x =>
      cases e2 : (List.range n)[j]? with
      | none => rw [e2] at h2; cases h2
      | some y =>
        rw [e1] at h1; rw [e2] at h2
        have g1 := List.getElem?_eq_some_iff.mp e1
        have g2 := List.getElem?_eq_some_iff.mp e2
        obtain ⟨l1, k1⟩ := g1
        obtain ⟨l2, k2⟩ := g2
        rw [List.getElem_range] at k1 k2
        rw [List.length_range] at l1 l2
        have f1 : f x = a := Option.some.inj h1
        have f2 : f y = a := Option.some.inj h2
        subst k1; subst k2
        exact hi _ _ l1 l2 (f1.trans f2.symm)
theorem NM.swap {m : Int} {ns : List Int} {i j : Nat} {a b : Int} (h : NM m ns) (hi : ns[i]? = some a) (hj : ns[j]? = some b) : NM m ((ns.set i b).set j a) := by
  have li := (List.getElem?_eq_some_iff.mp hi).1
  have lj := (List.getElem?_eq_some_iff.mp hj).1
  have key : ∀ (k : Nat) (z : Int), ((ns.set i b).set j a)[k]? = some z → (k = j ∧ z = a) ∨ (k ≠ j ∧ k = i ∧ z = b) ∨ (k ≠ j ∧ k ≠ i ∧ ns[k]? = some z) := by
    intro k z hk
    rw [List.getElem?_set] at hk
    by_cases c1 : j = k
    · rw [if_pos c1, if_pos (by rw [List.length_set]; exact lj)] at hk
      exact .inl ⟨c1.symm, (Option.some.inj hk).symm⟩
    · rw [if_neg c1, List.getElem?_set] at hk
      by_cases c2 : i = k
      · rw [if_pos c2, if_pos li] at hk
        exact .inr (.inl ⟨fun e => c1 e.symm, c2.symm, (Option.some.inj hk).symm⟩)
      · rw [if_neg c2] at hk
        exact .inr (.inr ⟨fun e => c1 e.symm, fun e => c2 e.symm, hk⟩)
  refine ⟨by rw [List.length_set, List.length_set]; exact h.len, fun z hz => ?_, fun k l z h1 h2 => ?_⟩
  · obtain ⟨k, hk⟩ := List.getElem?_of_mem hz
    rcases key k z hk with ⟨_, rfl⟩ | ⟨_, _, rfl⟩ | ⟨_, _, e⟩
    · exact h.bd _ (List.mem_of_getElem? hi)
    · exact h.bd _ (List.mem_of_getElem? hj)
    · exact h.bd _ (List.mem_of_getElem? e)
  · rcases key k z h1 with ⟨rfl, rfl⟩ | ⟨n1, rfl, rfl⟩ | ⟨n1, n2, e⟩ <;> rcases key l _ h2 with ⟨q1, q2⟩ | ⟨m1, q1, q2⟩ | ⟨m1, m2, e'⟩
    · omega
    · subst q2; have := h.inj _ _ _ hi hj; omega
    · have := h.inj _ _ _ hi e'; omega
    · subst q2; have := h.inj _ _ _ hi hj; omega
    · omega
    · have := h.inj _ _ _ hj e'; omega
    · subst q2; have := h.inj _ _ _ hi e; omega
    · subst q2; have := h.inj _ _ _ hj e; omega
    · exact h.inj _ _ _ e e'
theorem NM.get {m : Int} {ns : List Int} (h : NM m ns) {k : Int} (h0 : 0 ≤ k) (h1 : k < m) : ∃ z, ns[k.toNat]? = some z ∧ atI (ns.map V.int) k = some (V.int z) ∧ 0 ≤ z ∧ z < m := by
  have hl := h.len
  have hk : k.toNat < ns.length := by omega
  have hb := h.bd _ (List.getElem_mem hk)
  exact ⟨ns[k.toNat], List.getElem?_eq_getElem hk, at_of (j := k.toNat) (by omega) (by simp [hk]), hb.1, hb.2⟩
def ren (ns : List Int) (r : Int × Int) : Int × Int := (ns.getD r.1.toNat 0, ns.getD r.2.toNat 0)
theorem NM.at {m : Int} {ns : List Int} (h : NM m ns) {k : Int} (h0 : 0 ≤ k) (h1 : k < m) : atI (ns.map V.int) k = some (V.int (ns.getD k.toNat 0)) ∧ 0 ≤ ns.getD k.toNat 0 ∧ ns.getD k.toNat 0 < m := by
  obtain ⟨z, e1, e2, e3, e4⟩ := h.get h0 h1
  have e : ns.getD k.toNat 0 = z := by rw [List.getD_eq_getElem?_getD, e1]; rfl
  rw [e]; exact ⟨e2, e3, e4⟩
theorem NM.inj' {m : Int} {ns : List Int} (h : NM m ns) {k l : Int} (h0 : 0 ≤ k) (h1 : k < m) (l0 : 0 ≤ l) (l1 : l < m) (e : ns.getD k.toNat 0 = ns.getD l.toNat 0) : k = l := by
  obtain ⟨z, e1, _⟩ := h.get h0 h1
  obtain ⟨w, e2, _⟩ := h.get l0 l1
  rw [List.getD_eq_getElem?_getD, e1, List.getD_eq_getElem?_getD, e2] at e
  have e : z = w := e
  subst e
  have := h.inj _ _ _ e1 e2
  omega
theorem RG.ren {m : Int} {ns : List Int} {rows : List (Int × Int)} (h : RG m rows) (hN : NM m ns) : RG m (rows.map (ren ns)) := by
  refine ⟨fun r hr => ?_, ?_⟩
  · obtain ⟨x, hx, rfl⟩ := List.mem_map.mp hr
    obtain ⟨a, b, c, d, e⟩ := h.bd x hx
    have f1 := hN.at a b
    have f2 := hN.at c d
    exact ⟨f1.2.1, f1.2.2, f2.2.1, f2.2.2, fun z => e (hN.inj' a b c d z)⟩
  · have hb := h.bd
    have hd := h.nd
    clear h
    induction rows with
    | nil => exact List.nodup_nil
    | cons x r ih =>
      rw [List.map_cons, List.nodup_cons]
      rw [List.nodup_cons] at hd
      refine ⟨fun hm => ?_, ih (fun y hy => hb y (List.mem_cons_of_mem _ hy)) hd.2⟩
      obtain ⟨y, hy, e⟩ := List.mem_map.mp hm
      have h1 := hb x List.mem_cons_self
      have h2 := hb y (List.mem_cons_of_mem _ hy)
      have e1 := hN.inj' h2.1 h2.2.1 h1.1 h1.2.1 (congrArg Prod.fst e)
      have e2 := hN.inj' h2.2.2.1 h2.2.2.2.1 h1.2.2.1 h1.2.2.2.1 (congrArg Prod.snd e)
      have : y = x := Prod.ext e1 e2
      subst this; exact hd.1 hy
theorem RG.rot {m : Int} {rows : List (Int × Int)} (k : Nat) (h : RG m rows) : RG m (rows.drop k ++ rows.take k) := by
  have hp : (rows.drop k ++ rows.take k).Perm rows := (List.perm_append_comm).trans (by rw [List.take_append_drop])
  exact ⟨fun r hr => h.bd r (hp.mem_iff.mp hr), hp.nodup_iff.mpr h.nd⟩
theorem cut_from (xs : List V) (t : Nat) (h : t ≤ xs.length) : cutV xs (some (t : Int)) none = xs.drop t := by
  unfold cutV
  rw [show HT.sIx xs.length 0 (some (t : Int)) = t by rw [HT.sIx_nat]; omega, HT.sIx_none]
  exact List.take_of_length_le (by rw [List.length_drop]; omega)
theorem cut_to (xs : List V) (t : Nat) (h : t ≤ xs.length) : cutV xs none (some (t : Int)) = xs.take t := by
  unfold cutV
  rw [show HT.sIx xs.length xs.length (some (t : Int)) = t by rw [HT.sIx_nat]; omega, HT.sIx_none]
  rfl
theorem Paired.drop {α β : Type} {F : α → β → Prop} : ∀ (k : Nat) {l₁ : List α} {l₂ : List β}, Paired F l₁ l₂ → Paired F (l₁.drop k) (l₂.drop k)
  | 0, _, _, h => h
  | _ + 1, _, _, .nil => .nil
  | k + 1, _, _, .cons _ r => Paired.drop k r
theorem Paired.take {α β : Type} {F : α → β → Prop} : ∀ (k : Nat) {l₁ : List α} {l₂ : List β}, Paired F l₁ l₂ → Paired F (l₁.take k) (l₂.take k)
  | 0, _, _, _ => .nil
  | _ + 1, _, _, .nil => .nil
  | k + 1, _, _, .cons f r => .cons f (Paired.take k r)
theorem Paired.app {α β : Type} {F : α → β → Prop} {l₃ : List α} {l₄ : List β} (h2 : Paired F l₃ l₄) : ∀ {l₁ : List α} {l₂ : List β}, Paired F l₁ l₂ → Paired F (l₁ ++ l₃) (l₂ ++ l₄)
  | _, _, .nil => h2
  | _, _, .cons f r => .cons f (Paired.app h2 r)
end
section
def RB (m : Int) (rows : List (Int × Int)) : Prop := ∀ r ∈ rows, 0 ≤ r.1 ∧ r.1 < m ∧ 0 ≤ r.2 ∧ r.2 < m
theorem RB.snoc {m a b : Int} {rows : List (Int × Int)} (h : RB m rows) (h0 : 0 ≤ a) (h1 : a < m) (h2 : 0 ≤ b) (h3 : b < m) : RB m (rows ++ [(a, b)]) := fun x hx => by
  rcases List.mem_append.mp hx with k | k
  · exact h x k
  · have e := List.mem_singleton.mp k
    subst e; exact ⟨h0, h1, h2, h3⟩
/-- a growing list of rows at q beside the source s, behind H0 -/
structure Grow (H0 : Hp) (s q : Addr) (us : List V) (rows : List (Int × Int)) (H : Hp) : Prop where
  b : But s H0 H
  src : Src H s
  at_ : H q = some (.lst us)
  pr : Paired (PR H) us rows
theorem Grow.step {H0 H H' : Hp} {s q : Addr} {us : List V} {rows : List (Int × Int)} (g : Grow H0 s q us rows H) (hn : q ≠ s) (b : But s H H') (hs : Src H' s) : Grow H0 s q us rows H' :=
  ⟨g.b.trans b, hs, b.at hn g.at_, PRs.but b g.src g.pr⟩
theorem Grow.push {H0 H : Hp} {s q t : Addr} {us : List V} {rows : List (Int × Int)} {a b : Int} (g : Grow H0 s q us rows H) (hn : q ≠ s) (h0 : H0 q = none) (ht : H t = none) :
    Grow H0 s q (us ++ [.ref t]) (rows ++ [(a, b)]) (upd (upd H t (.tup [.int a, .int b])) q (.lst (us ++ [.ref t]))) :=
  ⟨(g.b.new ht).mut h0, (g.src.new ht).mut hn, upd_same, push_row g.at_ g.pr ht⟩
theorem Grow.start {H : Hp} {s q : Addr} (hs : Src H s) (hq : H q = none) : Grow H s q [] [] (upd H q (.lst [])) := ⟨But.refl.new hq, hs.new hq, upd_same, .nil⟩
end
section
def pd (r : Int × Int) : PyData := .tuple [.int r.1, .int r.2]
theorem pd_eqv (r s : Int × Int) : PyData.eqv (pd r) (pd s) = decide (r = s) := by
  show (PyData.eqv (.int r.1) (.int s.1) && (PyData.eqv (.int r.2) (.int s.2) && PyData.eqvAll [] [])) = _
  simp only [PyData.eqv, PyData.eqvAll, Bool.and_true]
  by_cases h1 : r.1 = s.1
  · by_cases h2 : r.2 = s.2
    · have : r = s := Prod.ext h1 h2
      subst this; simp
    · have : ¬ r = s := fun e => h2 (congrArg Prod.snd e)
      simp [h1, h2, this]
  · have : ¬ r = s := fun e => h1 (congrArg Prod.fst e)
    simp [h1, this]
theorem pd_any (rows : List (Int × Int)) (r : Int × Int) : ((rows.map pd).any fun z => PyData.eqv z (pd r)) = decide (r ∈ rows) := by
  induction rows with
  | nil => simp
  | cons x xs ih =>
    rw [List.map_cons, List.any_cons, ih, pd_eqv]
    by_cases h : x = r
    · subst h; simp
    · have h' : ¬ r = x := fun e => h e.symm
      simp [h, h']
theorem pd_shaped (r : Int × Int) : SeqAt.shaped (pd r) = true := rfl
theorem pd_lay (rows : List (Int × Int)) : PyData.canLayAll0 (rows.map pd) = true := by
  induction rows with
  | nil => rfl
  | cons x xs ih => rw [List.map_cons]; simp only [PyData.canLayAll0, ih, Bool.and_true]; rfl
theorem pd_depth (rows : List (Int × Int)) : PyData.depthAll (rows.map pd) ≤ 1 := by
  induction rows with
  | nil => exact Nat.zero_le _
  | cons x xs ih =>
    rw [List.map_cons]
    show max (PyData.depth (pd x)) (PyData.depthAll (xs.map pd)) ≤ 1
    exact Nat.max_le.mpr ⟨Nat.le_refl 1, ih⟩
theorem pds_shaped (rows : List (Int × Int)) : SeqAt.shaped (.list (rows.map pd)) = true := by
  have h1 : PyData.canLay0 (.list (rows.map pd)) = true := pd_lay rows
  have h2 : PyData.depth (.list (rows.map pd)) ≤ 64 := by
    show PyData.depthAll (rows.map pd) + 1 ≤ 64
    have := pd_depth rows; omega
  show (PyData.canLay0 (.list (rows.map pd)) && decide (PyData.depth (.list (rows.map pd)) ≤ 64)) = true
  rw [h1, decide_eq_true h2]; rfl
theorem dp_row {K : PySem.W.Frag} {H : Hp} {v : V} {r : Int × Int} (h : PR H v r) : Dp K H v (pd r) := by
  obtain ⟨t, rfl, ht⟩ := h
  exact .tup (.inl (.inl ht)) (.cons (.int _) (.cons (.int _) .nil))
theorem dp_all {K : PySem.W.Frag} {H : Hp} : ∀ {vs : List V} {rows : List (Int × Int)}, Paired (PR H) vs rows → DpAll K H vs (rows.map pd)
  | _, _, .nil => .nil
  | _, _, .cons f r => .cons (dp_row f) (dp_all r)
theorem dp_rows {K : PySem.W.Frag} {H : Hp} {p : Addr} {vs : List V} {rows : List (Int × Int)} (hp : H p = some (.lst vs)) (h : Paired (PR H) vs rows) : Dp K H (.ref p) (.list (rows.map pd)) := .lst (SqL.of hp) (dp_all h)
theorem Src.but {s s0 : Addr} {H H' : Hp} (b : But s H H') (hn : s0 ≠ s) (h : Src H s0) : Src H' s0 := let ⟨x, y, z, e⟩ := h; ⟨x, y, z, b.at hn e⟩
theorem same_but {s : Addr} {H H1 H2 : Hp} (e : Same H H1) (hs : H s = none) (b : But s H1 H2) : Same H H2 := fun c o h => b c o (ne_of_none h hs) (e c o h)
end
section
/-- blank numbers within the lines -/
structure BK (lines : Int) (n : Nat) (bs : List Int) : Prop where
  len : bs.length = n
  bd : ∀ b ∈ bs, 0 ≤ b ∧ b ≤ lines
theorem BK.set {lines v : Int} {n i : Nat} {bs : List Int} (h : BK lines n bs) (h0 : 0 ≤ v) (h1 : v ≤ lines) : BK lines n (bs.set i v) := by
  refine ⟨by rw [List.length_set]; exact h.len, fun b hb => ?_⟩
  rcases List.mem_or_eq_of_mem_set hb with k | k
  · exact h.bd b k
  · subst k; exact ⟨h0, h1⟩
theorem BK.get {lines : Int} {n : Nat} {bs : List Int} (h : BK lines n bs) {k : Int} (h0 : 0 ≤ k) (h1 : k < n) : ∃ z, bs[k.toNat]? = some z ∧ atI (bs.map V.int) k = some (V.int z) ∧ ixN (bs.map V.int).length k = some k.toNat ∧ 0 ≤ z ∧ z ≤ lines := by
  have hl := h.len
  have hk : k.toNat < bs.length := by omega
  have hb := h.bd _ (List.getElem_mem hk)
  exact ⟨bs[k.toNat], List.getElem?_eq_getElem hk, at_of (j := k.toNat) (by omega) (by simp [hk]), ixn (by omega) (by rw [List.length_map]; omega), hb.1, hb.2⟩
end
section
theorem w_cnt {K : PySem.W.Frag} {H : Hp} {Q : VK} {p : Addr} {ns : List Int} {k : Int} (h : SqL K H p (ns.map V.int)) (q : Q (.int (ns.count k : Nat)) H) : rCntI K (.ref p) [.int k] H Q := ⟨p, ns, k, rfl, rfl, h, q⟩
end
section
theorem w_iteB {A B : Prop} {b : Bool} (h1 : b = true → A) (h2 : b = false → B) : if b = true then A else B := by
  cases b with
  | true => exact h1 rfl
  | false => rw [if_neg Bool.false_ne_true]; exact h2 rfl
/-- owners that are a dealing -/
structure DealP (rows : List (Int × Int)) (bs os : List Int) : Prop where
  len : os.length = rows.length
  ends : ∀ (i : Nat) (o : Int) (r : Int × Int), os[i]? = some o → rows[i]? = some r → o = r.1 ∨ o = r.2
  fit : ∀ (p : Nat) (b : Int), bs[p]? = some b → ((os.count (p : Int) : Nat) : Int) ≤ b
theorem count_take {os : List Int} {i : Nat} {o : Int} (h : os[i]? = some o) (z : Int) : (os.take (i + 1)).count z = (os.take i).count z + (if o = z then 1 else 0) := by
  rw [List.take_succ, h, List.count_append]
  show _ + List.count z [o] = _
  by_cases e : o = z
  · subst e; simp
  · simp [e]
/-- what is left behind the first i owners -/
def LeftAt (bs os : List Int) (i : Nat) (left : List Int) : Prop := left.length = bs.length ∧ ∀ (p : Nat) (b : Int), bs[p]? = some b → left[p]? = some (b - (((os.take i).count (p : Int) : Nat) : Int))
theorem LeftAt.start (bs os : List Int) : LeftAt bs os 0 bs := ⟨rfl, fun p b h => by rw [h]; simp⟩
theorem LeftAt.step {bs os left : List Int} {i : Nat} {o z : Int} (h : LeftAt bs os i left) (ho : os[i]? = some o) (h0 : 0 ≤ o) (hz : left[o.toNat]? = some z) : LeftAt bs os (i + 1) (left.set o.toNat (z - 1)) := by
  refine ⟨by rw [List.length_set]; exact h.1, fun p b hb => ?_⟩
  have hl := h.2 p b hb
  rw [List.getElem?_set, count_take ho]
  by_cases e : o.toNat = p
  · have e2 : o = (p : Int) := by omega
    have hlt : o.toNat < left.length := (List.getElem?_eq_some_iff.mp hz).1
    rw [if_pos e, if_pos hlt, if_pos e2]
    rw [e] at hz
    rw [hz] at hl
    have := Option.some.inj hl
    congr 1; omega
  · have e2 : ¬ o = (p : Int) := fun q => e (by omega)
    rw [if_neg e, if_neg e2, hl]; rfl
theorem cut_le (xs : List Int) (lo hi : Option Int) : ∃ ys : List Int, cutV (xs.map V.int) lo hi = ys.map V.int ∧ ys.length ≤ xs.length := by
  refine ⟨_, map_drop_take xs _ _, ?_⟩
  rw [List.length_take, List.length_drop]; omega
theorem cut_one (xs : List Int) {p : Int} (h : 0 ≤ p) : ∃ ys : List Int, cutV (xs.map V.int) (some p) (some (p + 1)) = ys.map V.int ∧ ys.length ≤ 1 := by
  refine ⟨_, map_drop_take xs _ _, ?_⟩
  rw [List.length_take, List.length_drop]
  obtain ⟨n, rfl⟩ : ∃ n : Nat, p = (n : Int) := ⟨p.toNat, by omega⟩
  rw [show ((n : Int) + 1) = ((n + 1 : Nat) : Int) by omega, HT.sIx_nat, HT.sIx_nat]
  omega
theorem cut_fst (xs : List Int) {p : Int} (h : 0 ≤ p) : ∃ ys : List Int, cutV (xs.map V.int) none (some p) = ys.map V.int ∧ ys.length ≤ p.toNat := by
  refine ⟨_, map_drop_take xs _ _, ?_⟩
  rw [List.length_take, List.length_drop]
  obtain ⟨n, rfl⟩ : ∃ n : Nat, p = (n : Int) := ⟨p.toNat, by omega⟩
  rw [HT.sIx_nat, HT.sIx_none]
  omega
theorem cut_snd (xs : List Int) {p : Int} (h : 0 ≤ p) : ∃ ys : List Int, cutV (xs.map V.int) (some p) none = ys.map V.int ∧ ys.length ≤ xs.length - p.toNat := by
  refine ⟨_, map_drop_take xs _ _, ?_⟩
  rw [List.length_take, List.length_drop]
  obtain ⟨n, rfl⟩ : ∃ n : Nat, p = (n : Int) := ⟨p.toNat, by omega⟩
  rw [HT.sIx_nat, HT.sIx_none, List.length_map]
  omega
end
section
variable {K : PySem.W.Frag} {a b : Addr} {xs ys : List V} {g : TG} {tb : TS} {D : Ends} {σ : L2.St} {H : Hp}
theorem forE (Pv : Nat → L2.St → Hp → Prop) (h0 : Pv 0 σ H) (hl : ∀ i σ1 H1, i ≤ xs.length → Pv i σ1 H1 → SqL K H1 a xs)
    (hs : ∀ i x T σ1 H1, xs[i]? = some x → Pv i σ1 H1 → H1 T = none → g (.ref T) σ1 (upd H1 T (.tup [.int (i : Nat), x])) fun σ2 H2 => tb { D with nx := Pv (i + 1), ct := Pv (i + 1), bk := D.nx } σ2 H2)
    (hd : ∀ σ1 H1, Pv xs.length σ1 H1 → D.nx σ1 H1) : ForW (Ite K a) g tb D σ H := by
  refine ⟨fun i m s1 G1 => m = xs.length - i ∧ i ≤ xs.length ∧ Pv i s1 G1, ⟨xs.length, rfl, Nat.zero_le _, h0⟩, ?_⟩
  rintro i m s1 G1 ⟨rfl, hi, p⟩
  have hq := hl i s1 G1 hi p
  by_cases lt : i < xs.length
  · refine Or.inr ⟨⟨xs, xs[i], hq, List.getElem?_eq_getElem lt⟩, Pv (i + 1), fun s2 G2 p2 => ⟨xs.length - (i + 1), by omega, rfl, lt, p2⟩, ?_⟩
    rintro v G2 ⟨T, x, rfl, hT, rfl, hx⟩
    exact hs i x T s1 G1 (hx xs hq) p hT
  · have e : i = xs.length := by omega
    subst e
    exact Or.inl ⟨⟨xs, hq, Nat.le_refl _⟩, hd s1 G1 p⟩
theorem forZ (hl : xs.length = ys.length) (Pv : Nat → L2.St → Hp → Prop) (h0 : Pv 0 σ H) (hq : ∀ i σ1 H1, Pv i σ1 H1 → SqL K H1 a xs ∧ SqL K H1 b ys)
    (hs : ∀ i x y T σ1 H1, xs[i]? = some x → ys[i]? = some y → Pv i σ1 H1 → H1 T = none → i < xs.length → g (.ref T) σ1 (upd H1 T (.tup [x, y])) fun σ2 H2 => tb { D with nx := Pv (i + 1), ct := Pv (i + 1), bk := D.nx } σ2 H2)
    (hd : ∀ σ1 H1, Pv xs.length σ1 H1 → D.nx σ1 H1) : ForW (Itz K a b) g tb D σ H := by
  refine ⟨fun i m s1 G1 => m = xs.length - i ∧ i ≤ xs.length ∧ Pv i s1 G1, ⟨xs.length, rfl, Nat.zero_le _, h0⟩, ?_⟩
  rintro i m s1 G1 ⟨rfl, hi, p⟩
  have hh := hq i s1 G1 p
  by_cases lt : i < xs.length
  · refine Or.inr ⟨⟨xs, ys, xs[i], ys[i], hh.1, hh.2, List.getElem?_eq_getElem lt, List.getElem?_eq_getElem (by omega)⟩, Pv (i + 1), fun s2 G2 p2 => ⟨xs.length - (i + 1), by omega, rfl, lt, p2⟩, ?_⟩
    rintro v G2 ⟨T, x, y, rfl, hT, rfl, hx, hy⟩
    exact hs i x y T s1 G1 (hx xs hh.1) (hy ys hh.2) p hT lt
  · have e : i = xs.length := by omega
    subst e
    exact Or.inl ⟨⟨xs, ys, hh.1, hh.2, Or.inl (Nat.le_refl _)⟩, hd s1 G1 p⟩
def SO (l : List (Int × Int)) : Prop := l.Pairwise fun a b => SrtO.lexB b a = false
theorem lex_anti {a b : Int × Int} (h1 : SrtO.lexB a b = false) (h2 : SrtO.lexB b a = false) : a = b := by
  have g1 := SrtO.lexB_no.mp h1
  have g2 := SrtO.lexB_no.mp h2
  have e1 : a.1 = b.1 := by omega
  exact Prod.ext e1 (by omega)
theorem SO.uniq : ∀ {l m : List (Int × Int)}, SO l → SO m → l.Perm m → l = m
  | [], m, _, _, h => h.nil_eq
  | x :: l, [], _, _, h => absurd h.length_eq (by simp)
  | x :: l, y :: m, hl, hm, h => by
    have hx := List.pairwise_cons.mp hl
    have hy := List.pairwise_cons.mp hm
    have e : x = y := by
      have h1 : y ∈ x :: l := h.mem_iff.mpr List.mem_cons_self
      have h2 : x ∈ y :: m := h.mem_iff.mp List.mem_cons_self
      rcases List.mem_cons.mp h1 with k | k
      · exact k.symm
      · rcases List.mem_cons.mp h2 with k2 | k2
        · exact k2
        · exact lex_anti (hy.1 x k2) (hx.1 y k)
    subst e
    rw [SO.uniq hx.2 hy.2 h.cons_inv]
structure SortedOf (rows rs : List (Int × Int)) : Prop where
  perm : rs.Perm rows
  so : SO rs
theorem SortedOf.uniq {rows l m : List (Int × Int)} (h1 : SortedOf rows l) (h2 : SortedOf rows m) : l = m := SO.uniq h1.so h2.so (h1.perm.trans h2.perm.symm)
theorem SortedOf.rg {n : Int} {rows rs : List (Int × Int)} (h : SortedOf rows rs) (hR : RG n rows) : RG n rs := ⟨fun r hr => hR.bd r (h.perm.mem_iff.mp hr), h.perm.nodup_iff.mpr hR.nd⟩
/-- sorted(..) of a list of pairs -/
theorem w_sortP {K : PySem.W.Frag} {H : Hp} {Q : VK} {p : Addr} {us : List V} {rows : List (Int × Int)} (hp : H p = some (.lst us)) (hP : Paired (PR H) us rows)
    (q : ∀ (rs : List (Int × Int)) (ys : List V) (l : Addr), SortedOf rows rs → H l = none → ys.length = us.length → Paired (PR H) ys rs → Q (.ref l) (upd H l (.lst ys))) : rSortedPO K [.ref p] H Q := by
  have pick : ∀ v ∈ us, ∃ r, PR H v r := fun v hv => by
    obtain ⟨i, hi⟩ := List.getElem?_of_mem hv
    obtain ⟨r, _, h⟩ := Paired.at' hP hi
    exact ⟨r, h⟩
  let k : V → Int × Int := fun v => match v with
    | .ref t => match H t with
      | some (.tup [.int i, .int j]) => (i, j)
      | _ => (0, 0)
    | _ => (0, 0)
  have hk : ∀ {v : V} {r : Int × Int}, PR H v r → k v = r := fun {v r} h => by
    obtain ⟨t, rfl, ht⟩ := h
    show (match H t with
      | some (.tup [.int i, .int j]) => (i, j)
      | _ => (0, 0)) = r
    rw [ht]
  have hmap : ∀ {l : List V} {s : List (Int × Int)}, Paired (PR H) l s → l.map k = s := fun {l s} h => by
    induction h with
    | nil => rfl
    | cons f _ ih => rw [List.map_cons, hk f, ih]
  refine ⟨p, us, k, rfl, SqL.of hp, fun v hv => ?_, fun ys l h1 h2 hl => ?_⟩
  · obtain ⟨r, hr⟩ := pick v hv
    obtain ⟨t, rfl, ht⟩ := id hr
    exact ⟨t, rfl, by rw [hk hr]; exact ht⟩
  · have hy : ∀ v ∈ ys, PR H v (k v) := fun v hv => by
      obtain ⟨r, hr⟩ := pick v (h2.perm.mem_iff.mp hv)
      rw [hk hr]; exact hr
    have hpy : Paired (PR H) ys (ys.map k) := by
      clear h1 h2
      induction ys with
      | nil => exact .nil
      | cons v r ih => exact .cons (hy v List.mem_cons_self) (ih fun w hw => hy w (List.mem_cons_of_mem _ hw))
    refine q (ys.map k) ys l ⟨?_, ?_⟩ hl h2.perm.length_eq hpy
    · rw [← hmap hP]; exact h2.perm.map k
    · exact List.pairwise_map.mpr h1
def key (r : Int × Int) : List L2.Key := [.inl r.1, .inl r.2]
def ent (r : Int × Int) : List L2.Key × V := (key r, .bl true)
theorem key_inj {r s : Int × Int} (h : key r = key s) : r = s := by
  unfold key at h
  have h1 := List.cons.inj h
  have h2 := List.cons.inj h1.2
  exact Prod.ext (Sum.inl.inj h1.1) (Sum.inl.inj h2.1)
theorem no_key {r : Int × Int} : ∀ {l : List (Int × Int)}, r ∉ l → valV (l.map ent) (key r) = none
  | [], _ => rfl
  | x :: l, h => by
    rw [List.map_cons, valV_neg (p := ent x) (fun e => h (by rw [key_inj e]; exact List.mem_cons_self))]
    exact no_key fun m => h (List.mem_cons_of_mem _ m)
end
section
theorem sne {f g : Str} (h : decide (f = g) = false) : ¬ f = g := of_decide_eq_false h
def webFs (n : Int) (d ar tg hd : Addr) : List (Str × V) := putF "_holders" (.ref hd) (putF "_targets" (.ref tg) (putF "_arrows" (.ref ar) (putF "_known" (.ref d) (putF "pages" (.int n) []))))
theorem web_pages {n : Int} {d ar tg hd : Addr} : (webFs n d ar tg hd).lookup ("pages" : Str) = some (.int n) := by
  unfold webFs
  rw [lookup_putF, if_neg (by decide +kernel), lookup_putF, if_neg (by decide +kernel), lookup_putF, if_neg (by decide +kernel), lookup_putF, if_neg (by decide +kernel), lookup_putF, if_pos rfl]
theorem web_arrows {n : Int} {d ar tg hd : Addr} : (webFs n d ar tg hd).lookup ("_arrows" : Str) = some (.ref ar) := by
  unfold webFs
  rw [lookup_putF, if_neg (by decide +kernel), lookup_putF, if_neg (by decide +kernel), lookup_putF, if_pos rfl]
theorem web_noarrows {n : Int} {d ar tg hd : Addr} : (webFs n d ar tg hd).lookup ("arrows" : Str) = none := by
  unfold webFs
  rw [lookup_putF, if_neg (by decide +kernel), lookup_putF, if_neg (by decide +kernel), lookup_putF, if_neg (by decide +kernel), lookup_putF, if_neg (by decide +kernel), lookup_putF, if_neg (by decide +kernel)]
  rfl
theorem len_put1 {f : Str} {v : V} {fs : List (Str × V)} {k : Nat} (h : fs.length ≤ k) : (putF f v fs).length ≤ k + 1 := Nat.le_trans (length_putF f v fs) (Nat.succ_le_succ h)
structure WebAt (A : CA) (H : Hp) (w : Addr) (n : Int) (rs : List (Int × Int)) : Prop where
  ex : ∃ (dx d ar tg hd : Addr) (us : List V), H w = some (.ins A.Web dx (webFs n d ar tg hd)) ∧ H ar = some (.lst us) ∧ Paired (PR H) us rs ∧ us.length ≤ 600
theorem WebAt.same {A : CA} {H H' : Hp} {w : Addr} {n : Int} {rs : List (Int × Int)} (e : Same H H') (h : WebAt A H w n rs) : WebAt A H' w n rs :=
  let ⟨dx, d, ar, tg, hd, us, h1, h2, h3, h4⟩ := h.ex; ⟨dx, d, ar, tg, hd, us, e _ _ h1, e _ _ h2, PRs.same e h3, h4⟩
end
section
theorem w_mth2 {H : Hp} {p C dx : Addr} {P : Prop} {m : Str} {fs : List (Str × V)} (h : H p = some (.ins C dx fs)) (hl : fs.lookup m = none) (q : P) :
    ∃ a dx fs, V.ref p = .ref a ∧ H a = some (.ins C dx fs) ∧ fs.lookup m = none ∧ P := ⟨p, dx, fs, rfl, h, hl, q⟩
theorem inV2 (o a b : Int) : inV (.int o) [.int a, .int b] = decide (o = a ∨ o = b) := by
  show (eqV (.int a) (.int o) || (eqV (.int b) (.int o) || false)) = _
  show ((a == o) || ((b == o) || false)) = _
  rw [Bool.or_false]
  by_cases h1 : o = a
  · subst h1; simp
  · by_cases h2 : o = b
    · subst h2; simp
    · have e1 : (a == o) = false := by simpa using fun e => h1 e.symm
      have e2 : (b == o) = false := by simpa using fun e => h2 e.symm
      rw [e1, e2]; simp [h1, h2]
theorem pds_eqv : ∀ rows : List (Int × Int), PyData.eqvAll (rows.map pd) (rows.map pd) = true
  | [] => rfl
  | r :: rows => by
    rw [List.map_cons]
    show (PyData.eqv (pd r) (pd r) && PyData.eqvAll (rows.map pd) (rows.map pd)) = true
    rw [pd_eqv, pds_eqv rows]; simp
theorem w_eqR {K : PySem.W.Frag} {H : Hp} {Q : VK} {p q : Addr} {us ws : List V} {rs : List (Int × Int)} (hp : H p = some (.lst us)) (h1 : Paired (PR H) us rs) (hq : H q = some (.lst ws)) (h2 : Paired (PR H) ws rs) (k : Q (.bl true) H) : rEqD K (.ref p) (.ref q) H Q := by
  refine ⟨_, _, dp_rows hp h1, dp_rows hq h2, pds_shaped rs, pds_shaped rs, ?_⟩
  show Q (.bl (PyData.eqvAll (rs.map pd) (rs.map pd))) H
  rw [pds_eqv]; exact k
end
end G

end
section
/-! ### o.m(e, *y) where m has a star parameter, within a try; keyword-only parameters; slices of tuples -/
namespace GX
open PySem PySem.Spec PyProof.Rows L2
structure MetB (P : Program) (w : World) (K : PySem.W.Frag) (mg : Str → Option Value) (base : Heap) (k : Nat) (C : Addr) (m : Str) (sp : Sp) : Prop where
  ex : ∃ (g : Addr), Cls K C ∧ BMeth K C m g ∧ FnR P w K mg base (L2.CX P w) k g sp
structure CalK (P : Program) (w : World) (K : PySem.W.Frag) (mg : Str → Option Value) (base : Heap) (k : Nat) (x : Str) (sp : Sp) (ks : List Str) : Prop where
  ex : ∃ (f : Addr) (fd : FuncData) (ps : List Str), FnOk P w K mg base CX0 k f fd ps sp ∧ mg x = some (.ref f) ∧ PySem.W.keepIn K (.ref f) = true ∧ KBinds K fd ps ks (fun a b => a ++ b) (fun a b => a ++ b)
section
variable {X : Cx} {CX : CXT} {k j : Nat} {C f : Addr} {x m : Str} {sp : Sp} {o e e1 e2 : Expr} {es : List Expr} {ta t1 t2 : TE} {t tk : TA} {p apos pos : Pos} {kws : List Keyword} {ks : List Str}
theorem run_fnRS {E : L2.St → XK} {pins : List (Addr × Obj)} {σ : L2.St} {H : Hp} {s : Shared} {Q : VK} {us : List Value} {vs : List V} (F : FnR X.prog X.w X.K X.mg X.base CX k f sp) (hr : Room k X.A) (hx : PassesAt CX X σ (E σ)) (I : Inv X pins σ H s) (r : Vals vs us) (h : sp vs H Q (E σ)) :
    codeAny (model X.prog X.w) X.A (.call (.ref f) ⟨us, []⟩) (fun r s' => match r with | .ok (.ret v) => EP X pins σ Q v s' | .ok _ => False | .error e => X.xe e s') s := by
  refine codeAny_mono (F X.A X.stack s H us vs Q (E σ) hr I.env0 r h) fun r s' hq => ?_
  cases r with
  | error e => exact hx pins H s e s' I hq
  | ok fl =>
    cases fl with
    | ret u => exact I.after hq
    | next => exact False.elim hq
    | brk => exact False.elim hq
    | cont => exact False.elim hq
/-- o.m(e1, *e2): a bound method first, then the arguments; its exceptions go where E says -/
def tMethSBS (K : PySem.W.Frag) (C : Addr) (m : Str) (sp : Sp) (E : L2.St → XK) (ta t1 t2 : TE) : TE := fun σ H Q => ta σ H fun x H1 => ∃ a dx fs, x = .ref a ∧ H1 a = some (.ins C dx fs) ∧ fs.lookup m = none ∧
  ∀ g q, H1 q = none → t1 σ (upd H1 q (.met g a)) fun y1 H2 => t2 σ H2 fun y2 H3 => ∃ b vs, y2 = .ref b ∧ (SqT K H3 b vs ∨ SqL K H3 b vs) ∧ H3 q = some (.met g a) ∧ sp (.ref a :: y1 :: vs) H3 Q (E σ)
theorem pe_sbT {W : WX} (c : MetB X.prog X.w X.K X.mg X.base k C m sp) (hr : Room j X.A) (hk : k ≤ j) (tk : Takes X W) (he : PE X o ta)
    (h1 : PE X e1 t1) (h2 : PE X e2 t2) (hbase : attributeBase o m X.env (eval o X.env) = eval o X.env := by rfl)
    (hst : starEach [e1, .Starred e2 p] X.env = [(false, eval e1 X.env), (true, eval e2 X.env)] := by rfl) : PE X (.Call (.Attribute o m apos) [e1, .Starred e2 p] [] pos) (tMethSBS X.K C m sp (WE W) ta t1 t2) := by
  obtain ⟨g, cc, b, F⟩ := c.ex
  refine ⟨fun pins s σ H Q I h => ?_⟩
  refine starcall2_of hbase hst (thn (he.run pins s σ H _ I h) fun u s1 ⟨x, H1, I1, rx, a, dx, fs, ex, ea, l, q⟩ => ?_)
  subst ex
  obtain rfl : u = Value.ref a := rx
  refine getbound_ok I1 ea cc b l fun q1 s2 hq1 I2 => ?_
  refine PySem.W.ks_call (P := PySem.W.MethP X.K q1 g (.ref a)) rfl (PySem.W.keeps_M b.fi) (Calls.evalArgs_plain (Calls.spliced_cons (thn (h1.run pins s2 σ _ _ I2 (q g q1 hq1)) fun v1 s3 ⟨y1, H2, I3, ry1, q2⟩ =>
    PySem.W.ks_spliced (thn (h2.run pins s3 σ H2 _ I3 q2) fun v2 s4 ⟨y2, H3, I4, ry2, t, vs, ey, ht, hm, hsp⟩ => ?_))))
  subst ey
  obtain rfl : v2 = Value.ref t := ry2
  refine StX.star_any I4 ht fun us s5 I5 rv => Calls.spliced_nil ?_
  show PySem.W.MethP X.K q1 g (.ref a) s5.heap ∧ wpAny (model X.prog X.w) X.A (call (.ref q1) (v1 :: (us ++ [])) []) (EP X pins σ Q) X.xe s5
  rw [List.append_nil]
  exact ⟨met_P I5 hm, wpAny_call (PySem.W.method_call (met_P I5 hm).1 (run_fnRS (E := WE W) (us := Value.ref a :: v1 :: us) (vs := V.ref a :: y1 :: vs) F (hr.mono hk) (passAt tk σ) I5 (.cons rfl (.cons ry1 rv)) hsp))⟩
theorem pe_cK (c : CalK X.prog X.w X.K X.mg X.base k x sp ks) (hr : Room j X.A) (hk : k ≤ j) (hg : Gl X x) (ha : PA X (e :: es) t) (hkw : PK X kws tk)
    (hall : (backToKw pos (keywordEach kws X.env)).all (·.1.isSome) = true := by rfl) (hks : (backToKw pos (keywordEach kws X.env)).filterMap (·.1) = ks := by rfl)
    (hdb : (x == ("__debug__" : Str)) = false := by decide) (he : starEach (e :: es) X.env = (false, eval e X.env) :: starEach es X.env := by rfl)
    (hpl : ((backTo pos (starEach (e :: es) X.env)).any (·.1) || (backToKw pos (keywordEach kws X.env)).any (·.1.isNone)) = false := by rfl) :
    PE X (.Call (.Name x p) (e :: es) kws pos) (tCallK sp (fun a b => a ++ b) E0 t tk) := by
  obtain ⟨f, fd, ps, F, hm, kp, b⟩ := c.ex
  exact pe_callK F (hr.mono hk) hg hm kp b (fun _ _ _ _ _ _ _ h => h.elim) ha hkw hall hks hdb he hpl
end
end GX
namespace G
open PySem L2
theorem w_sbS {K : PySem.W.Frag} {C : Addr} {m : Str} {sp : Sp} {E : L2.St → XK} {ta t1 t2 : TE} {σ : L2.St} {H : Hp} {Q : VK} (h : ta σ H fun x H1 => ∃ a dx fs, x = .ref a ∧ H1 a = some (.ins C dx fs) ∧ fs.lookup m = none ∧
  ∀ g q, H1 q = none → t1 σ (upd H1 q (.met g a)) fun y1 H2 => t2 σ H2 fun y2 H3 => ∃ b vs, y2 = .ref b ∧ (SqT K H3 b vs ∨ SqL K H3 b vs) ∧ H3 q = some (.met g a) ∧ sp (.ref a :: y1 :: vs) H3 Q (E σ)) : GX.tMethSBS K C m sp E ta t1 t2 σ H Q := h
theorem w_callK {sp : Sp} {gV : List V → List V → List V} {E : XK} {t tk : TA} {σ : L2.St} {H : Hp} {Q : VK} (h : t σ H fun vs H1 => tk σ H1 fun zs H2 => sp (gV vs zs) H2 Q E) : tCallK sp gV E t tk σ H Q := h
theorem w_slA {K : PySem.W.Frag} {H : Hp} {Q : VK} {p : Addr} {xs : List V} {lo hi : Option Int} (h : SqT K H p xs) (q : ∀ a H', SqT K H' a (cutV xs lo hi) → Same H H' → Q (.ref a) H') : rSlA K (.ref p) lo hi H Q := by
  refine ⟨p, xs, rfl, h, fun c => ?_, fun _ a ha => q a _ (SqT.of upd_same) (same_new ha)⟩
  refine q p H ?_ (fun _ _ z => z)
  have e : cutV xs lo hi = xs := by
    unfold cutV
    rw [c.1, c.2, List.drop_zero, Nat.sub_zero, List.take_length]
  rw [e]; exact h
end G

end
section
local macro_rules | `(tactic| walk_at "call") => `(tactic| (refine' G.w_cnt ?g1 ?_; (case g1 => walk_at "sq")))

local macro_rules | `(tactic| walk_at "call") => `(tactic| (refine' G.w_popAt ?g1 ?g2 ?g3 ?g4 ?_; (case g1 => walk_at "hp"); (case g2 => walk_at "ar"); (case g3 => walk_at "ar"); (case g4 => walk_at "ar")))

namespace G
open PySem PySem.Spec PyProof.Rows L2 RT
section
variable {prog : Program} {w : World} {A : Around} {E : Value → Shared → Prop} {s : Shared}
theorem list_init_rev {R : Result → Shared → Prop} {it l : Addr} {items : Array Value} (hh : A.handled = none) (hit : s.heap.IsRevIter it l ((items.size : Int) - 1)) (hl : s.heap.IsList l items) (hne : l ≠ it) (hn : items.size ≤ sizeLine)
    (S : Addr) (hSi : S ≠ it) (hSl : S ≠ l) (hS : s.heap.get? S = some { cls := .type "list", data := .seq #[] })
    (hR : ∀ h' tk acc' c', (∀ b o, b ≠ S → b ≠ it → s.heap.get? b = some o → h'.get? b = some o) → h'.get? S = some { cls := .type "list", dict := none, data := .seq acc' c', slots := #[] } →
      ItemsOf (fun i v => items[items.size - 1 - i]? = some v) acc' items.size → R (.ok (.ret .none)) { s with heap := h', toks := tk }) :
    wpAny (model prog w) A.in1 (Builtin.«list.__init__» ⟨[.ref S, .ref it], []⟩)
      (fun fin s' => match fin with | .done f => R (.ok f) s' | .again c' => c'.quiet = true ∧ codeAny (model prog w) A c' R s') (fun e s' => R (.error e) s') s := by
  have hSf : S ∉ [it, l] := by simp only [List.mem_cons, List.not_mem_nil, or_false, not_or]; exact ⟨hSi, hSl⟩
  show wpAny _ _ (do let old ← Builtin.List.listItems (.ref S); Builtin.List.listUpdate (.ref S) (fun _ => #[]); letGo old.toList.reverse; Builtin.List.listExtendWith (.ref S) (.ref it) .none) _ _ s
  refine wpAny_bind ?_
  unfold Builtin.List.listItems
  refine wpAny_bind (wpAny_seqItems hS rfl (wpAny_pure ?_))
  show wpAny _ _ (updateSeq S (fun _ => #[]) >>= fun _ => letGo (#[] : Array Value).toList.reverse >>= fun _ => Builtin.List.listExtendWith (.ref S) (.ref it) .none) _ _ s
  refine wpAny_bind (wpAny_updateSeq hS rfl ?_)
  have hS₂ := Heap.get?_update_self (Obj.mapSeq (fun _ => (#[] : Array Value))) hS rfl
  have oth : ∀ b o, b ≠ S → s.heap.get? b = some o → (s.heap.update S (Obj.mapSeq (fun _ => (#[] : Array Value)))).get? b = some o :=
    fun b o hb e => (Heap.get?_update_other _ _ (Ne.symm hb)).trans e
  refine wpAny_bind (wpAny_letGo ?_)
  have hit1 : (s.heap.update S (Obj.mapSeq (fun _ => (#[] : Array Value)))).IsRevIter it l ((items.size : Int) - 1) := hit.at fun o e => oth it o (Ne.symm hSi) e
  have hl1 : (s.heap.update S (Obj.mapSeq (fun _ => (#[] : Array Value)))).IsList l items := let ⟨ol, e, r⟩ := hl; ⟨ol, oth l ol (Ne.symm hSl) e, r⟩
  have hT : ({ s with heap := s.heap.update S (Obj.mapSeq (fun _ => (#[] : Array Value))) } : Shared).TypeIs (.ref it) "list_reverseiterator" := Heap.IsRevIter.typeIs (s := { s with heap := s.heap.update S (Obj.mapSeq (fun _ => (#[] : Array Value))) }) hit1
  have h1 : Builtin.List.listSameRef (.ref S) (.ref it) = false := by simp [Builtin.List.listSameRef, hSi]
  have W := (Walks.listRev (prog := prog) (w := w) (A := A.in1) hh it l hne items).toS
  unfold Builtin.List.listExtendWith
  refine wpAny_bind (wpAny_typeOf hT ?_)
  rw [if_neg (by rw [h1]; decide)]
  refine wpAny_bind (wpAny_pyIter_revIter (s := { s with heap := s.heap.update S (Obj.mapSeq (fun _ => (#[] : Array Value))) }) hit1 ?_)
  refine wpAny_bind (wpAny_holding ?_)
  unfold Builtin.List.listLengthHint
  refine wpAny_bind (wpAny_specialOf hT nolen_lri ?_)
  show wpAny _ A.in1 (specialOf (Value.ref it) (Str.ofString "__length_hint__") >>= _) _ _ _
  refine wpAny_bind (wpAny_specialOf hT hint_lri ?_)
  generalize hid : ("list_reverseiterator.__length_hint__" : String) = id0
  wp_delta
  rw [show splitId id0 = some ("list_reverseiterator", "__length_hint__") from by subst hid; decide +kernel]
  subst hid
  refine wpAny_bind (wpAny_isInstance (b := true) hT (by rw [isSubtype_type]; kernel_rfl) ?_)
  refine wpAny_pure ?_
  rw [if_neg (by decide)]
  have e0 : ((items.size : Nat) : Int) - 1 - ((0 : Nat) : Int) = (items.size : Int) - 1 := by omega
  refine wpAny_pure ⟨plainId_quiet F.plain_extend_loop _, codeAny_extend_loopS W hn _ hSf _ items.size 0 _ _ _ rfl (Nat.zero_le _) ⟨Nat.zero_le _, by rw [e0]; exact hit1, hl1⟩ hS₂ (ItemsOf.nil _) fun s' acc' c' hm hS' hacc => ?_⟩
  rw [Moved.eq_with hm]
  refine hR s'.heap s'.toks acc' c' (fun b o hb hb2 e => ?_) hS' hacc
  refine hm.heap b o (fun hmem => ?_) (oth b o hb e)
  rcases List.mem_cons.mp hmem with e' | hmem
  · exact hb e'
  · exact hb2 (List.mem_singleton.mp hmem)
theorem call_list_rev {Q : Value → Shared → Prop} {it l : Addr} {items : Array Value} (hh : A.handled = none) (hit : s.heap.IsRevIter it l ((items.size : Int) - 1)) (hl : s.heap.IsList l items) (hne : l ≠ it) (hn : items.size ≤ sizeLine)
    (hQ : ∀ h' tk acc' c', (∀ b o, b ≠ it → s.heap.get? b = some o → h'.get? b = some o) →
      h'.get? s.heap.objs.size = some { cls := .type "list", dict := none, data := .seq acc' c', slots := #[] } → ItemsOf (fun i v => items[items.size - 1 - i]? = some v) acc' items.size → Q (.ref s.heap.objs.size) { s with heap := h', toks := tk }) :
    wpAny (model prog w) A (call (.type "list") [.ref it]) Q E s := by
  refine callType_codes (Q₁ := fun obj s₁ => obj = .ref s.heap.objs.size ∧ s₁ = { s with heap := s.heap.push { cls := .type "list", data := .seq #[] } }) F.called_list (F.typeCall_list_1 _) F.entry_list_init
    (code_list_new _ ⟨rfl, rfl⟩) fun obj s₁ h₁ => ?_
  obtain ⟨rfl, rfl⟩ := h₁
  have hS : (s.heap.push { cls := .type "list", data := .seq #[] }).get? s.heap.objs.size = some { cls := .type "list", data := .seq #[] } := Heap.get?_push_size _ rfl
  obtain ⟨oi, hoi, _⟩ := id hit
  obtain ⟨ol, hol, _⟩ := id hl
  have hSi : s.heap.objs.size ≠ it := Nat.ne_of_gt (Heap.lt_size hoi)
  have hSl : s.heap.objs.size ≠ l := Nat.ne_of_gt (Heap.lt_size hol)
  refine ⟨⟨_, hS, rfl⟩, F.args_list_init_2 _ _, list_init_rev (A := A.in1) hh (hit.at fun o e => Heap.get?_push_of_some _ e) (hl.push _) hne hn _ hSi hSl hS fun h' tk acc' c' hk hS' hacc => ?_⟩
  exact ⟨rfl, hQ h' tk acc' c' (fun b o hb e => hk b o (Nat.ne_of_lt (Heap.lt_size e)) hb (Heap.get?_push_of_some _ e)) hS' hacc⟩
end
/-- list(reversed(x)), x a list: a new list -/
def tLstRev (K : PySem.W.Frag) (te : TE) : TE := fun σ H Q => te σ H fun v H1 => ∃ (a : Addr) (xs : List V), v = .ref a ∧ SqL K H1 a xs ∧ ∀ q, H1 q = none → Q (.ref q) (upd H1 q (.lst xs.reverse))
section
variable {X : Cx}
theorem pe_listRev {e : Expr} {te : TE} {p p2 pos pos2 : Pos} (hc : X.calm = true) (hg : Gl X "list") (hm : X.mg "list" = none) (hg2 : Gl X "reversed") (hm2 : X.mg "reversed" = none) (he : PE X e te)
    (hs : starEach [e] X.env = (false, eval e X.env) :: starEach [] X.env := by rfl)
    (hs2 : starEach [.Call (.Name "reversed" p2) [e] [] pos2] X.env = (false, eval (.Call (.Name "reversed" p2) [e] [] pos2) X.env) :: starEach [] X.env := by rfl) :
    PE X (.Call (.Name "list" p) [.Call (.Name "reversed" p2) [e] [] pos2] [] pos) (tLstRev X.K te) := by
  refine ⟨fun pins s σ H Q I h => ?_⟩
  refine Call_ (ld_blt I hg hm boot_list (PyProof.Rows.callWith_type1 (args_cons (Call_ (ld_blt I hg2 hm2 PyProof.Rows.boot_reversed (PyProof.Rows.callWith_type1 (args_cons (thn (he.run pins s σ H _ I h) fun u s1 ⟨v, H1, I1, r1, q1⟩ => args_nil ?_) hs) hs rfl))) hs2) hs2))
  obtain ⟨a, xs, ev, hq, q⟩ := q1
  subst ev
  obtain rfl : u = Value.ref a := r1
  obtain ⟨its, rv, p', hz⟩ := I1.list hq
  refine call_reversed_list p'.isList (args_nil ?_)
  have hl := p'.isList
  obtain ⟨ol, hol, _⟩ := id hl
  have hne : a ≠ s1.heap.objs.size := Nat.ne_of_lt (Heap.lt_size hol)
  have hn : its.toArray.size ≤ sizeLine := by rw [List.size_toArray, ← rv.length]; exact hz
  have hf := I1.fpOk (H' := H1) (b := s1.heap.objs.size) (Nat.le_refl _) (I1.hok.fresh (Nat.le_refl _))
  refine call_list_rev (s := { s1 with heap := s1.heap.push (revObj a ((its.toArray.size : Int) - 1)) }) (I1.ok.hd hc) ⟨_, Heap.get?_push_size _ rfl, rfl, rfl⟩ (hl.push _) hne hn fun h' tk acc c' hk e' hi => ?_
  have hT : s1.heap.objs.size ≤ (s1.heap.push (revObj a ((its.toArray.size : Int) - 1))).objs.size := by
    have hp : (s1.heap.push (revObj a ((its.toArray.size : Int) - 1))).get? s1.heap.objs.size = some (revObj a ((its.toArray.size : Int) - 1)) := Heap.get?_push_size _ rfl
    exact Nat.le_of_lt (Heap.lt_size hp)
  refine ⟨.ref _, upd H1 _ (.lst xs.reverse), I1.turnedNew (t' := tk) (ch := [s1.heap.objs.size]) (fun b o hb e => hk b o (fun z => hb (by simp [z])) (Heap.get?_push_of_some _ e)) (fun b hb => by obtain rfl : b = _ := List.mem_singleton.mp hb; exact hf) hT
    (show ObjOk X.prog X.w _ _ _ (.lst xs.reverse) from ⟨by rw [List.length_reverse]; exact hz, acc.toList, c', vals_rev rv hi, by rw [Array.toArray_toList]; exact e'⟩), rfl, q _ (I1.hok.fresh hT)⟩
end
end G

end
section
local macro_rules | `(tactic| walk_at "call") => `(tactic| (refine' G.w_cnt ?g1 ?_; (case g1 => walk_at "sq")))

local macro_rules | `(tactic| walk_at "call") => `(tactic| (refine' G.w_popAt ?g1 ?g2 ?g3 ?g4 ?_; (case g1 => walk_at "hp"); (case g2 => walk_at "ar"); (case g3 => walk_at "ar"); (case g4 => walk_at "ar")))

namespace G
open PySem PySem.Spec PyProof.Rows L2 GX
structure CTB (K : PySem.W.Frag) (A : CA) : Prop where
  c_Web : Cls K A.Web
  n_Web__arrows : NoAttr K A.Web "_arrows"
  n_Web__holders : NoAttr K A.Web "_holders"
  n_Web__known : NoAttr K A.Web "_known"
  n_Web__targets : NoAttr K A.Web "_targets"
  n_Web_pages : NoAttr K A.Web "pages"
  e_NoPage : OexC K A.NoPage
  f_NoPage : PySem.W.findIn K (.ref A.NoPage) "page" = some none
  e_InvalidPointer : OexC K A.InvalidPointer
  f_InvalidPointer : PySem.W.findIn K (.ref A.InvalidPointer) "index" = some none
end G

end
section
local macro_rules | `(tactic| walk_at "call") => `(tactic| (refine' G.w_cnt ?g1 ?_; (case g1 => walk_at "sq")))

local macro_rules | `(tactic| walk_at "call") => `(tactic| (refine' G.w_popAt ?g1 ?g2 ?g3 ?g4 ?_; (case g1 => walk_at "hp"); (case g2 => walk_at "ar"); (case g3 => walk_at "ar"); (case g4 => walk_at "ar")))

namespace G
open PySem L2 GX
/-! ### pages that are not there -/
def isOut (n z : Int) : Bool := !(decide (0 ≤ z) && decide (z < n))
theorem in_of {n z : Int} (h : isOut n z = false) : 0 ≤ z ∧ z < n := by
  unfold isOut at h
  simpa using h
theorem isOut_in {n z : Int} (h0 : 0 ≤ z) (h1 : z < n) : isOut n z = false := by
  unfold isOut
  simp [h0, h1]
/-- check_pages: nothing, or NoPage with the first page outside -/
def Checked (K : PySem.W.Frag) (A : CA) (n : Int) (ps : List Int) (H : Hp) (E : XK) (R : Prop) : Prop :=
  (∀ z, ps.find? (isOut n) = some z → Raised A.NoPage "page" (.int z) H E) ∧ (ps.find? (isOut n) = none → R)
def sp_check_pages (K : PySem.W.Frag) (A : CA) : Sp := fun vs H Q E => ∃ (w p dx : Addr) (fs : List (Str × V)) (n : Int) (ps : List Int), vs = [.ref w, .ref p] ∧ H w = some (.ins A.Web dx fs) ∧ fs.lookup ("pages" : Str) = some (V.int n) ∧ SqL K H p (ps.map V.int) ∧
  Checked K A n ps H E (Q .non H)
def t_check_pages (K : PySem.W.Frag) (A : CA) (E : XK) : TS :=
  (tFor (iList K (tVar 1)) (gName 2)
  (tIfS (tNot (tTest (tChain oLe oLt (tC (.int 0)) (tVar 2) (tFld K (tVar 0) "pages")))) (GX.tRaiseO A.NoPage (GX.sp_err K A.NoPage "page") E (tCons (tVar 2) tNil)) tNext))

theorem find_take {n : Int} : ∀ {ps : List Int} {i : Nat} {z : Int}, (∀ y ∈ ps.take i, isOut n y = false) → ps[i]? = some z → isOut n z = true → ps.find? (isOut n) = some z
  | [], i, z, _, h, _ => by cases h
  | a :: l, 0, z, _, h, o => by
    obtain rfl : a = z := Option.some.inj h
    rw [List.find?_cons, o]
  | a :: l, i + 1, z, k, h, o => by
    rw [List.find?_cons, k a (by rw [List.take_succ_cons]; exact List.mem_cons_self)]
    exact find_take (fun y hy => k y (by rw [List.take_succ_cons]; exact List.mem_cons_of_mem _ hy)) h o
theorem rd_check_pages {K : PySem.W.Frag} {A : CA} (T : CTB K A) {vs : List V} {H : Hp} {Q : VK} {E : XK} (h : sp_check_pages K A vs H Q E) :
    t_check_pages K A E { nx := fun _ H' => Q .non H', rt := Q } (start ["web", "pages", "page"] vs) H := by
  obtain ⟨w, p, dx, fs, n, ps, rfl, hw, hn, hp, k1, k2⟩ := h
  unfold t_check_pages
  walk_at "go"
  refine forL (xs := ps.map V.int) (fun i σ H' => ∃ k2 : Option V, σ = [some (.ref w), some (.ref p), k2] ∧ H' = H ∧ ∀ y ∈ ps.take i, isOut n y = false) ?_ ?_ ?_ ?_
  · exact ⟨none, rfl, rfl, fun y hy => by cases hy⟩
  · rintro i σ H1 _ ⟨k2, rfl, rfl, _⟩
    exact hp
  · rintro i x σ H1 hx ⟨k3, rfl, rfl, hin⟩
    obtain ⟨z, hz, rfl⟩ : ∃ z, ps[i]? = some z ∧ x = V.int z := by
      rw [List.getElem?_map] at hx
      cases e : ps[i]? with
      | none => rw [e] at hx; cases hx
      | some z => rw [e] at hx; exact ⟨z, rfl, (Option.some.inj hx).symm⟩
    have no : (h0 : 0 ≤ z) → (h1 : z < n) → ∃ k2 : Option V, [some (V.ref w), some (.ref p), some (.int z)] = [some (.ref w), some (.ref p), k2] ∧ H1 = H1 ∧ ∀ y ∈ ps.take (i + 1), isOut n y = false := fun h0 h1 => ⟨_, rfl, rfl, fun y hy => by
      rw [List.take_succ, hz] at hy
      rcases List.mem_append.mp hy with k | k
      · exact hin y k
      · obtain rfl : y = z := by simpa using k
        exact isOut_in h0 h1⟩
    have out : isOut n z = true → tRaiseO A.NoPage (sp_err K A.NoPage "page") E (tCons (tVar 2) tNil) { nx := fun σ H' => ∃ k2 : Option V, σ = [some (.ref w), some (.ref p), k2] ∧ H' = H1 ∧ ∀ y ∈ ps.take (i + 1), isOut n y = false, rt := Q } [some (V.ref w), some (.ref p), some (.int z)] H1 := fun o =>
      w_raiseO (v := .int z) (H1 := H1) T.e_NoPage T.f_NoPage (fun Q q => by walk_at "go"; exact q) (k1 z (find_take hin hz o))
    walk_at "go"
    refine w_iteD (fun c1 => ?_) (fun c1 => ?_)
    · walk_at "go"
      refine w_fld2 hw T.c_Web T.n_Web_pages hn ?_
      walk_at "go"
      by_cases c2 : z < n
      · rw [decide_eq_true c2]
        walk_at "go"
        exact no c1 c2
      · rw [decide_eq_false c2]
        walk_at "go"
        exact out (by unfold isOut; simp [c2])
    · walk_at "go"
      exact out (by unfold isOut; simp [c1])
  · rintro σ H1 ⟨k3, rfl, rfl, hin⟩
    rw [List.length_map, List.take_length] at hin
    exact k2 (List.find?_eq_none.mpr fun y hy => by rw [hin y hy]; decide)
/-! ### pointers -/
def isPtr (n a b : Int) : Bool := decide (0 ≤ a ∧ a < n ∧ 0 ≤ b ∧ b < n ∧ a ≠ b)
def sp_is_pointer (K : PySem.W.Frag) (A : CA) : Sp := fun vs H Q _ => ∃ (n a b : Int), vs = [.int n, .int a, .int b] ∧ Q (.bl (isPtr n a b)) H
def t_is_pointer (K : PySem.W.Frag) (A : CA) : TS :=
  (tRet (tAndV (tChain oLe oLt (tC (.int 0)) (tVar 1) (tVar 0)) (tAndV (tChain oLe oLt (tC (.int 0)) (tVar 2) (tVar 0)) (tOp rNe (tVar 1) (tVar 2)))))

theorem rd_is_pointer {K : PySem.W.Frag} {A : CA} {vs : List V} {H : Hp} {Q : VK} {E : XK} (h : sp_is_pointer K A vs H Q E) :
    t_is_pointer K A { nx := fun _ H' => Q .non H', rt := Q } (start ["pages", "holder", "target"] vs) H := by
  obtain ⟨n, a, b, rfl, q⟩ := h
  unfold t_is_pointer
  walk_at "go"
  have no : ¬ (0 ≤ a ∧ a < n ∧ 0 ≤ b ∧ b < n ∧ a ≠ b) → Q (.bl false) H := fun c => by
    have e : isPtr n a b = false := decide_eq_false c
    rw [e] at q; exact q
  refine w_iteD (fun c1 => ?_) (fun c1 => ?_)
  · walk_at "go"
    by_cases c2 : a < n
    · rw [decide_eq_true c2]
      walk_at "go"
      refine w_iteD (fun c3 => ?_) (fun c3 => ?_)
      · walk_at "go"
        by_cases c4 : b < n
        · rw [decide_eq_true c4]
          walk_at "go"
          by_cases c5 : a = b
          · rw [decide_eq_true c5]
            exact no (by omega)
          · rw [decide_eq_false c5]
            have e : isPtr n a b = true := decide_eq_true ⟨c1, c2, c3, c4, c5⟩
            rw [e] at q; exact q
        · rw [decide_eq_false c4]
          walk_at "go"
          exact no (by omega)
      · walk_at "go"
        exact no (by omega)
    · rw [decide_eq_false c2]
      walk_at "go"
      exact no (by omega)
  · walk_at "go"
    exact no (by omega)
end G

end
section
local macro_rules | `(tactic| walk_at "call") => `(tactic| (refine' G.w_cnt ?g1 ?_; (case g1 => walk_at "sq")))

local macro_rules | `(tactic| walk_at "call") => `(tactic| (refine' G.w_popAt ?g1 ?g2 ?g3 ?g4 ?_; (case g1 => walk_at "hp"); (case g2 => walk_at "ar"); (case g3 => walk_at "ar"); (case g4 => walk_at "ar")))

namespace G
open PySem L2 GX
theorem Raised.at {C : Addr} {f : Str} {v : V} {H H1 : Hp} {E : XK} (e : Same H H1) (r : Raised C f v H E) : Raised C f v H1 E := fun d H' hd e' h => r d H' (e.free hd) (e.trans e') h
/-- the rows before the i-th one are pointers, each for the first time -/
def OkTo (n : Int) (rows : List (Int × Int)) (i : Nat) : Prop := ∀ j r, j < i → rows[j]? = some r → isPtr n r.1 r.2 = true ∧ r ∉ rows.take j
theorem isPtr_iff {n a b : Int} : isPtr n a b = true ↔ 0 ≤ a ∧ a < n ∧ 0 ≤ b ∧ b < n ∧ a ≠ b := by
  unfold isPtr
  exact decide_eq_true_iff
def sp_as_known (K : PySem.W.Frag) (A : CA) : Sp := fun vs H Q E => ∃ (n : Int) (pq : Addr) (us : List V) (rows : List (Int × Int)), vs = [.int n, .ref pq] ∧ H pq = some (.lst us) ∧ Paired (PR H) us rows ∧ us.length ≤ 600 ∧
  (∀ k r, rows[k]? = some r → OkTo n rows k → (isPtr n r.1 r.2 = false ∨ r ∈ rows.take k) → Raised A.InvalidPointer "index" (.int (k : Nat)) H E) ∧
  (OkTo n rows rows.length → ∀ (d : Addr) (H' : Hp), H d = none → Same H H' → H' d = some (.dT (rows.map ent)) → Q (.ref d) H')
theorem has_key {r : Int × Int} : ∀ {l : List (Int × Int)}, r ∈ l → valV (l.map ent) (key r) = some (.bl true)
  | x :: l, h => by
    by_cases c : x = r
    · subst c; exact valV_pos (p := ent x) rfl
    · rw [List.map_cons, valV_neg (p := ent x) (fun e => c (key_inj e))]
      rcases List.mem_cons.mp h with z | z
      · exact absurd z.symm c
      · exact has_key z
def t_as_known (K : PySem.W.Frag) (A : CA) (E : XK) : TS :=
  (tSeq (tAsg tDNewT (gName 2))
  (tSeq (tFor (iEnum K (tCons (tVar 1) tNil)) (gTup K 2 (gCons (gName 3) (gCons (gTup K 2 (gCons (gName 4) (gCons (gName 5) gNil))) gNil)))
  (tSeq (tIfS (tOr (tNot (tB (tCall (sp_is_pointer K A) [] E0 (tCons (tVar 0) (tCons (tVar 4) (tCons (tVar 5) tNil)))))) (tB (tDIn (tTup (tCons (tVar 4) (tCons (tVar 5) tNil))) (tVar 2)))) (GX.tRaiseO A.InvalidPointer (GX.sp_err K A.InvalidPointer "index") E (tCons (tVar 3) tNil)) tNext)
  (sDPut (tVar 2) (tTup (tCons (tVar 4) (tCons (tVar 5) tNil))) (tC (.bl true)))))
  (tRet (tVar 2))))

theorem rd_as_known {K : PySem.W.Frag} {A : CA} (T : CTB K A) {vs : List V} {H : Hp} {Q : VK} {E : XK} (h : sp_as_known K A vs H Q E) :
    t_as_known K A E { nx := fun _ H' => Q .non H', rt := Q } (start ["pages", "pointers", "known", "index", "holder", "target"] vs) H := by
  obtain ⟨n, pq, us, rows, rfl, hq, hP, hl, kW, q⟩ := h
  have hlen := hP.length
  unfold t_as_known
  walk_at "go"
  intro d hd
  walk_at "go"
  refine ⟨pq, us, rfl, SqL.of (keep hq hd), ?_⟩
  refine forE (xs := us) (fun i σ H' => ∃ k3 k4 k5 : Option V, σ = [some (.int n), some (.ref pq), some (.ref d), k3, k4, k5] ∧ OkTo n rows i ∧ Same H H' ∧ H' d = some (.dT ((rows.take i).map ent))) ?_ ?_ ?_ ?_
  · exact ⟨none, none, none, rfl, fun j r hj => absurd hj (Nat.not_lt_zero _), same_new hd, upd_same⟩
  · rintro i σ H1 _ ⟨k3, k4, k5, rfl, _, e, _⟩
    exact SqL.of (e _ _ hq)
  · rintro i x T0 σ H1 hx ⟨k3, k4, k5, rfl, ok, e, hdd⟩ hT
    obtain ⟨r, hr, t, rfl, ht⟩ := Paired.at' hP hx
    have hi : i < us.length := (List.getElem?_eq_some_iff.mp hx).1
    have htT : (upd H1 T0 (.tup [.int (i : Nat), .ref t])) t = some (.tup [.int r.1, .int r.2]) := keep (e _ _ ht) hT
    have hTd : d ≠ T0 := ne_of_none hdd hT
    have out : ∀ (H2 : Hp), Same H1 H2 → (isPtr n r.1 r.2 = false ∨ r ∈ rows.take i) → tRaiseO A.InvalidPointer (sp_err K A.InvalidPointer "index") E (tCons (tVar 3) tNil) { nx := fun _ _ => True, rt := Q } [some (V.int n), some (.ref pq), some (.ref d), some (.int (i : Nat)), some (.int r.1), some (.int r.2)] H2 := fun H2 e2 hb =>
      w_raiseO (v := .int (i : Nat)) (H1 := H2) T.e_InvalidPointer T.f_InvalidPointer (fun Q q => by walk_at "go"; exact q) (Raised.at (e.trans e2) (kW i r hr ok hb))
    walk_at "go"
    refine ⟨n, r.1, r.2, rfl, ?_⟩
    walk_at "go"
    cases hp : isPtr n r.1 r.2 with
    | false =>
      walk_at "go"
      exact out _ (same_new hT) (.inl hp)
    | true =>
    walk_at "go"
    show (tB (tDIn (tTup (tCons (tVar 4) (tCons (tVar 5) tNil))) (tVar 2))) _ _ _
    unfold tDIn
    walk_at "go"
    intro t2 ht2
    walk_at "go"
    refine ⟨d, _, rfl, DGet.t (k := key r) (keep (keep hdd hT) ht2) upd_same, ?_⟩
    by_cases hm : r ∈ rows.take i
    · rw [has_key hm]
      walk_at "go"
      exact w_iteT (out _ ((same_new hT).trans (same_new ht2)) (.inr hm))
    rw [no_key hm]
    walk_at "go"
    refine w_iteF ?_
    unfold sDPut
    walk_at "go"
    intro t3 ht3
    have hd3 : (upd (upd (upd H1 T0 (.tup [.int (i : Nat), .ref t])) t2 (.tup [.int r.1, .int r.2])) t3 (.tup [.int r.1, .int r.2])) d = some (.dT ((rows.take i).map ent)) := keep (keep (keep hdd hT) ht2) ht3
    refine ⟨d, _, rfl, DPut.t (k := key r) hd3 upd_same (small1000 (by rw [List.length_map, List.length_take]; omega)), ?_⟩
    rw [putK_new _ (no_key hm)]
    refine ⟨_, _, _, rfl, ?_, same_mut (((e.trans (same_new hT)).trans (same_new ht2)).trans (same_new ht3)) hd, ?_⟩
    · intro j s hj hs
      by_cases c : j < i
      · exact ok j s c hs
      · obtain rfl : j = i := by omega
        rw [hr] at hs
        cases hs
        exact ⟨hp, hm⟩
    · rw [List.take_succ, hr, List.map_append]
      exact upd_same
  · rintro σ H1 ⟨k3, k4, k5, rfl, ok, e, hdd⟩
    rw [hlen, List.take_length] at hdd
    rw [hlen] at ok
    walk_at "go"
    exact q ok d H1 hd e hdd
/-! ### tables of lists -/
structure TabAt (H : Hp) (p : Addr) (ls : List (List Int)) : Prop where
  ex : ∃ qs : List Addr, H p = some (.lst (qs.map V.ref)) ∧ qs.length = ls.length ∧ ∀ (k : Nat) (q : Addr) (l : List Int), qs[k]? = some q → ls[k]? = some l → H q = some (.lst (l.map V.int))
theorem TabAt.same {H H' : Hp} {p : Addr} {ls : List (List Int)} (e : Same H H') (h : TabAt H p ls) : TabAt H' p ls := let ⟨qs, a, b, c⟩ := h.ex; ⟨qs, e _ _ a, b, fun k q l x y => e _ _ (c k q l x y)⟩
def grp (rows : List (Int × Int)) (k : Nat) : List Int := (rows.filter fun r => decide (r.1 = (k : Int))).map (·.2)
def grps (n : Int) (rows : List (Int × Int)) : List (List Int) := (List.range n.toNat).map (grp rows)
theorem grp_snoc {rows : List (Int × Int)} {r : Int × Int} {k : Nat} : grp (rows ++ [r]) k = if r.1 = (k : Int) then grp rows k ++ [r.2] else grp rows k := by
  unfold grp
  rw [List.filter_append, List.map_append]
  by_cases c : r.1 = (k : Int)
  · simp [c]
  · simp [c]
/-- the heap without what stands at l -/
def cutL (l : Addr) (H : Hp) : Hp := fun b => if b = l then none else H b
theorem cutL_at {l b : Addr} {H : Hp} {o : HO} (h : H b = some o) (n : b ≠ l) : cutL l H b = some o := by
  unfold cutL; rw [if_neg n]; exact h
theorem cutL_same {l : Addr} {H H' : Hp} (e : Same H H') : Same (cutL l H) (cutL l H') := fun b o h => by
  unfold cutL at h ⊢
  by_cases c : b = l
  · rw [if_pos c] at h; cases h
  · rw [if_neg c] at h ⊢; exact e b o h
theorem cutL_upd {l p : Addr} {H : Hp} {o : HO} (n : p ≠ l) : cutL l (upd H p o) = upd (cutL l H) p o := funext fun b => by
  by_cases c : b = p
  · subst c; rw [upd_same]; exact cutL_at upd_same n
  · rw [upd_ne c]
    unfold cutL
    rw [upd_ne c]
theorem cutL_of {l : Addr} {H H' : Hp} (e : Same H H') (h : H l = none) : Same H (cutL l H') := fun b o hb => cutL_at (e b o hb) (ne_of_none hb h)
theorem cutL_to {l : Addr} {H H' : Hp} (h : ∀ b o, b ≠ l → H b = some o → H' b = some o) : Same (cutL l H) H' := fun b o hb => by
  unfold cutL at hb
  by_cases c : b = l
  · rw [if_pos c] at hb; cases hb
  · rw [if_neg c] at hb; exact h b o c hb
def sp_grouped (K : PySem.W.Frag) (A : CA) : Sp := fun vs H Q _ => ∃ (n : Int) (pq : Addr) (us : List V) (rows : List (Int × Int)), vs = [.int n, .ref pq] ∧ H pq = some (.lst us) ∧ Paired (PR H) us rows ∧ (∀ r ∈ rows, 0 ≤ r.1 ∧ r.1 < n) ∧ us.length ≤ 600 ∧ 0 ≤ n ∧ n ≤ 500 ∧
  ∀ (f : Addr) (H' : Hp), H f = none → Same H H' → TabAt H' f (grps n rows) → (∀ (l : Addr) (o : HO), H l = some o → TabAt (cutL l H') f (grps n rows)) → Q (.ref f) H'
def t_grouped (K : PySem.W.Frag) (A : CA) : TS :=
  (tSeq (tAsg (tLc (iRng1 (tCons (tVar 0) tNil)) (gName 3) tYes (tLst tNil) [3]) (gName 2))
  (tSeq (tFor (iList K (tVar 1)) (gTup K 2 (gCons (gName 4) (gCons (gName 5) gNil)))
  (tDrop (tBM K "list" rAppend (tOp (rIxL K) (tVar 2) (tVar 4)) (tCons (tVar 5) tNil))))
  (tRet (tVar 2))))

theorem rd_grouped {K : PySem.W.Frag} {A : CA} {vs : List V} {H : Hp} {Q : VK} {E : XK} (h : sp_grouped K A vs H Q E) :
    t_grouped K A { nx := fun _ H' => Q .non H', rt := Q } (start ["pages", "pairs", "found", "_", "page", "other"] vs) H := by
  obtain ⟨n, pq, us, rows, rfl, hq, hP, hR, hl, n0, n1, q⟩ := h
  have hlen := hP.length
  unfold t_grouped
  walk_at "go"
  refine lcR (fun Dl i H' => Same H H' ∧ ∃ ls : List Addr, H' Dl = some (.lst (ls.map V.ref)) ∧ ls.length = i ∧ ls.Nodup ∧ ∀ l ∈ ls, H l = none ∧ l ≠ Dl ∧ H' l = some (.lst [])) (fun Dl hD => ⟨same_new hD, [], upd_same, rfl, List.nodup_nil, fun _ h => by cases h⟩) ?_ ?_
  · rintro Dl i H1 hD hi ⟨e, ls, hL, hll, hnd, hls⟩
    walk_at "go"
    intro l hl0
    have hL1 := keep (o' := .lst []) hL hl0
    walk_at "go"
    refine ⟨same_mut (e.trans (same_new hl0)) hD, ls ++ [l], by rw [List.map_append]; exact upd_same, by simp [hll], ?_, fun x hx => ?_⟩
    · refine List.nodup_append.mpr ⟨hnd, List.nodup_cons.mpr ⟨List.not_mem_nil, List.nodup_nil⟩, fun a ha b hb => ?_⟩
      rw [List.mem_singleton.mp hb]
      exact ne_of_none (hls a ha).2.2 hl0
    rcases List.mem_append.mp hx with k | k
    · obtain ⟨a1, a2, a3⟩ := hls x k
      exact ⟨a1, a2, keepNe (keep a3 hl0) a2⟩
    · rw [List.mem_singleton.mp k]
      have hne : l ≠ Dl := (ne_of_none hL hl0).symm
      exact ⟨e.free hl0, hne, keepNe upd_same hne⟩
  · rintro Dl H1 hD ⟨e, ls, hL, hll, hnd, hls⟩
    have hq1 := e _ _ hq
    walk_at "go"
    refine forL (xs := us) (fun i σ H' => ∃ k3 k4 k5 : Option V, σ = [some (.int n), some (.ref pq), some (.ref Dl), k3, k4, k5] ∧ Same H H' ∧ H' Dl = some (.lst (ls.map V.ref)) ∧ ∀ k l, ls[k]? = some l → H' l = some (.lst ((grp (rows.take i) k).map V.int))) ?_ ?_ ?_ ?_
    · exact ⟨_, _, _, rfl, e, hL, fun k l hl => (hls l (List.mem_of_getElem? hl)).2.2⟩
    · rintro i σ H2 _ ⟨k3, k4, k5, rfl, e2, _⟩
      exact SqL.of (e2 _ _ hq)
    · rintro i x σ H2 hx ⟨k3, k4, k5, rfl, e2, hL2, hls2⟩
      obtain ⟨r, hr, t, rfl, ht⟩ := Paired.at' hP hx
      have hb := hR r (List.mem_of_getElem? hr)
      have hi : i < us.length := (List.getElem?_eq_some_iff.mp hx).1
      have ht2 := e2 _ _ ht
      have hk : r.1.toNat < ls.length := by omega
      have hm := List.getElem_mem hk
      have hxx : atI (ls.map V.ref) r.1 = some (V.ref ls[r.1.toNat]) := atn (j := r.1.toNat) (by omega) (by simp [hk])
      have hgl : ls[r.1.toNat]? = some ls[r.1.toNat] := List.getElem?_eq_getElem hk
      obtain ⟨a1, a2, _⟩ := hls _ hm
      have a3 := hls2 _ _ hgl
      have a4 : (grp (rows.take i) r.1.toNat).length ≤ 600 := by
        unfold grp
        rw [List.length_map]
        refine Nat.le_trans (List.length_filter_le _ _) ?_
        rw [List.length_take]; omega
      generalize hle : ls[r.1.toNat] = l at hxx a1 a2 a3 hgl
      have a5 : ((grp (rows.take i) r.1.toNat).map V.int).length ≤ 600 := by rw [List.length_map]; exact a4
      walk_at "go"
      refine ⟨_, _, _, rfl, same_mut e2 a1, keepNe hL2 a2.symm, fun k y hy => ?_⟩
      rw [List.take_succ, hr]
      show _ = some (HO.lst ((grp (rows.take i ++ [r]) k).map V.int))
      rw [grp_snoc]
      by_cases c : k = r.1.toNat
      · subst c
        rw [hgl] at hy
        cases hy
        rw [if_pos (by omega), List.map_append]
        exact upd_same
      · rw [if_neg (by omega)]
        have hyl : y ≠ l := fun z => c (nd_ix hnd hy (by rw [z]; exact hgl))
        exact keepNe (hls2 k y hy) hyl
    · rintro σ H2 ⟨k3, k4, k5, rfl, e2, hL2, hls2⟩
      walk_at "go"
      have T : ∀ H3 : Hp, H3 Dl = some (.lst (ls.map V.ref)) → (∀ k l, ls[k]? = some l → H3 l = some (.lst ((grp (rows.take us.length) k).map V.int))) → TabAt H3 Dl (grps n rows) := fun H3 hL3 hls3 => by
        refine ⟨ls, hL3, ?_, fun k p l hk hl2 => ?_⟩
        · unfold grps; rw [List.length_map, List.length_range]; omega
        · have z := hls3 k p hk
          rw [hlen, List.take_length] at z
          unfold grps at hl2
          rw [List.getElem?_map] at hl2
          have hkn : k < n.toNat := by
            have := (List.getElem?_eq_some_iff.mp hk).1
            omega
          rw [List.getElem?_range hkn] at hl2
          cases hl2
          exact z
      exact q Dl H2 hD e2 (T H2 hL2 hls2) fun l o hl => T _ (cutL_at hL2 (ne_of_none hl hD).symm) fun k p hk => cutL_at (hls2 k p hk) (ne_of_none hl (hls p (List.mem_of_getElem? hk)).1).symm
end G

end
section
local macro_rules | `(tactic| walk_at "call") => `(tactic| (refine' G.w_cnt ?g1 ?_; (case g1 => walk_at "sq")))

local macro_rules | `(tactic| walk_at "call") => `(tactic| (refine' G.w_popAt ?g1 ?g2 ?g3 ?g4 ?_; (case g1 => walk_at "hp"); (case g2 => walk_at "ar"); (case g3 => walk_at "ar"); (case g4 => walk_at "ar")))

namespace G
open PySem L2 GX
def swp (r : Int × Int) : Int × Int := (r.2, r.1)
structure WebX (A : CA) (H : Hp) (w : Addr) (n : Int) (rs : List (Int × Int)) : Prop where
  ex : ∃ (dx d ar tg hd : Addr) (us : List V) (ks : List (Int × Int)), H w = some (.ins A.Web dx (webFs n d ar tg hd)) ∧ H d = some (.dT (ks.map ent)) ∧ (∀ r, r ∈ ks ↔ r ∈ rs) ∧ H ar = some (.lst us) ∧ Paired (PR H) us rs ∧ us.length ≤ 600 ∧
    TabAt H tg (grps n rs) ∧ TabAt H hd (grps n (rs.map swp))
theorem WebX.same {A : CA} {H H' : Hp} {w : Addr} {n : Int} {rs : List (Int × Int)} (e : Same H H') (h : WebX A H w n rs) : WebX A H' w n rs :=
  let ⟨dx, d, ar, tg, hd, us, ks, h1, h2, h3, h4, h5, h6, h7, h8⟩ := h.ex; ⟨dx, d, ar, tg, hd, us, ks, e _ _ h1, e _ _ h2, h3, e _ _ h4, PRs.same e h5, h6, h7.same e, h8.same e⟩
theorem TabAt.mutI {H : Hp} {w p C dx : Addr} {fs : List (Str × V)} {o : HO} {ls : List (List Int)} (hw : H w = some (.ins C dx fs)) (h : TabAt H p ls) : TabAt (upd H w o) p ls :=
  let ⟨qs, a, b, c⟩ := h.ex
  ⟨qs, keepNe a (ne_of a hw (by intro z; cases z)), b, fun k q l x y => keepNe (c k q l x y) (ne_of (c k q l x y) hw (by intro z; cases z))⟩
theorem OkTo.rg {n : Int} {rows : List (Int × Int)} (h : OkTo n rows rows.length) : RG n rows := by
  refine ⟨fun r hr => ?_, ?_⟩
  · obtain ⟨j, hj⟩ := List.getElem?_of_mem hr
    exact isPtr_iff.mp (h j r (List.getElem?_eq_some_iff.mp hj).1 hj).1
  · refine List.pairwise_iff_getElem.mpr fun i j hi hj hij e => ?_
    have h1 := List.getElem?_eq_getElem hj
    have h2 := (h j _ hj h1).2
    refine h2 (List.mem_of_getElem? (i := i) ?_)
    rw [List.getElem?_take_of_lt hij, List.getElem?_eq_getElem hi, e]
def sp_Web_init (K : PySem.W.Frag) (A : CA) : Sp := fun vs H Q E => ∃ (H0 : Hp) (w dx pq : Addr) (n : Int) (us : List V) (rows : List (Int × Int)), vs = [.ref w, .int n, .ref pq] ∧ H = upd (upd H0 dx (.own w)) w (.ins A.Web dx []) ∧ H0 w = none ∧ H0 dx = none ∧ dx ≠ w ∧ H0 pq = some (.lst us) ∧ Paired (PR H0) us rows ∧ us.length ≤ 600 ∧ 1 ≤ n ∧ n ≤ 500 ∧
  (∀ k r, rows[k]? = some r → OkTo n rows k → (isPtr n r.1 r.2 = false ∨ r ∈ rows.take k) → Raised A.InvalidPointer "index" (.int (k : Nat)) H0 E) ∧
  (OkTo n rows rows.length → ∀ (rs : List (Int × Int)) (H' : Hp), SortedOf rows rs → RG n rs → Same H0 H' → WebX A H' w n rs → (∀ (l : Addr) (vs : List V), H0 l = some (.lst vs) → WebX A (cutL l H') w n rs) → Q .non H')
def t_Web_init (K : PySem.W.Frag) (A : CA) (E : XK) : TS :=
  (tSeq (sFld K (tVar 0) (tVar 1) "pages")
  (tSeq (sFld K (tVar 0) (tCall (sp_as_known K A) [] E (tCons (tVar 1) (tCons (tVar 2) tNil))) "_known")
  (tSeq (sFld K (tVar 0) (tCB (rSortedPO K) (tCons (tCB oListD (tCons (tFld K (tVar 0) "_known") tNil)) tNil)) "_arrows")
  (tSeq (sFld K (tVar 0) (tCall (sp_grouped K A) [] E0 (tCons (tVar 1) (tCons (tFld K (tVar 0) "_arrows") tNil))) "_targets")
  (sFld K (tVar 0) (tCall (sp_grouped K A) [] E0 (tCons (tVar 1) (tCons (tLc (iList K (tFld K (tVar 0) "_arrows")) (gTup K 2 (gCons (gName 3) (gCons (gName 4) gNil))) tYes (tTup (tCons (tVar 4) (tCons (tVar 3) tNil))) [3, 4]) tNil))) "_holders")))))

theorem rd_Web_init {K : PySem.W.Frag} {A : CA} (T : CTB K A) {vs : List V} {H : Hp} {Q : VK} {E : XK} (h : sp_Web_init K A vs H Q E) :
    t_Web_init K A E { nx := fun _ H' => Q .non H', rt := Q } (start ["self", "pages", "pointers", "holder", "target"] vs) H := by
  obtain ⟨H0, w, dx, pq, n, us, rows, rfl, rfl, fw, fdx, ndx, hq, hP, hl, n1, n2, kW, q⟩ := h
  have hlen := hP.length
  have e0 : Same H0 (upd (upd H0 dx (.own w)) w (.ins A.Web dx [])) := same_mut (same_new fdx) fw
  unfold t_Web_init
  walk_at "go"
  refine w_sfld2 upd_same T.c_Web T.n_Web_pages (by decide) ?_
  -- the instance stands at w, all else as it was
  have st : ∀ (fs : List (Str × V)) (H1 H2 : Hp), Same H0 H1 → Same H0 (upd H1 w (.ins A.Web dx fs)) := fun fs H1 _ e => same_mut e fw
  have e1 := same_mut (o := .ins A.Web dx (putF "pages" (.int n) [])) e0 fw
  have hw1 : (upd (upd (upd H0 dx (.own w)) w (.ins A.Web dx [])) w (.ins A.Web dx (putF "pages" (.int n) []))) w = some (.ins A.Web dx (putF "pages" (.int n) [])) := upd_same
  generalize upd (upd (upd H0 dx (.own w)) w (.ins A.Web dx [])) w (.ins A.Web dx (putF "pages" (.int n) [])) = H1 at e1 hw1
  walk_at "go"
  refine ⟨n, pq, us, rows, rfl, e1 _ _ hq, PRs.same e1 hP, hl, fun k r hk ok hb => Raised.at e1 (kW k r hk ok hb), fun ok d H2 fd e2 hd => ?_⟩
  have hR := OkTo.rg ok
  walk_at "go"
  refine w_sfld2 (e2 _ _ hw1) T.c_Web T.n_Web__known (Nat.lt_of_le_of_lt (len_put1 (Nat.zero_le 0)) (by decide)) ?_
  have nd : d ≠ w := (ne_of_none hw1 fd).symm
  have E2 := same_mut (o := .ins A.Web dx (putF "_known" (.ref d) (putF "pages" (.int n) []))) (e1.trans e2) fw
  have hw2 : (upd H2 w (.ins A.Web dx (putF "_known" (.ref d) (putF "pages" (.int n) [])))) w = some (.ins A.Web dx (putF "_known" (.ref d) (putF "pages" (.int n) []))) := upd_same
  have hd2 : (upd H2 w (.ins A.Web dx (putF "_known" (.ref d) (putF "pages" (.int n) [])))) d = some (.dT (rows.map ent)) := keepNe hd nd
  generalize upd H2 w (.ins A.Web dx (putF "_known" (.ref d) (putF "pages" (.int n) []))) = H3 at E2 hw2 hd2
  walk_at "go"
  refine w_fld2 hw2 T.c_Web T.n_Web__known (by rw [lookup_putF, if_pos rfl]) ?_
  walk_at "go"
  refine ⟨d, _, rfl, Or.inl hd2, fun kl bs fkl hk => ?_⟩
  have hkP : Paired (PR (upd H3 kl (.lst (bs.map V.ref)))) (bs.map V.ref) rows := by
    have hk2 : ∀ {l : List (Int × Int)} {cs : List Addr}, IsKeys H3 (l.map ent) cs → Paired (PR H3) (cs.map V.ref) l := fun {l} => by
      induction l with
      | nil => intro cs h; cases h; exact .nil
      | cons x r ih => intro cs h; cases h with
        | cons f g => exact .cons ⟨_, rfl, f⟩ (ih g)
    exact PRs.new fkl (hk2 hk)
  have hkl : (upd H3 kl (.lst (bs.map V.ref))) kl = some (.lst (bs.map V.ref)) := upd_same
  have E4 := E2.trans (same_new (o := .lst (bs.map V.ref)) fkl)
  have hd4 : (upd H3 kl (.lst (bs.map V.ref))) d = some (.dT (rows.map ent)) := keep hd2 fkl
  have hw4 : (upd H3 kl (.lst (bs.map V.ref))) w = _ := keep hw2 fkl
  generalize upd H3 kl (.lst (bs.map V.ref)) = H4 at hkP hkl E4 hw4 hd4
  walk_at "go"
  refine w_sortP hkl hkP fun rs ys ar hS far hyl hyP => ?_
  have hyl2 : ys.length ≤ 600 := by have := hkP.length; omega
  have harw : ar ≠ w := (ne_of_none hw4 far).symm
  walk_at "go"
  refine w_sfld2 (keep hw4 far) T.c_Web T.n_Web__arrows (Nat.lt_of_le_of_lt (len_put1 (len_put1 (Nat.zero_le 0))) (by decide)) ?_
  have E5 := same_mut (o := .ins A.Web dx (putF "_arrows" (.ref ar) (putF "_known" (.ref d) (putF "pages" (.int n) [])))) (E4.trans (same_new (o := .lst ys) far)) fw
  have har5 : (upd (upd H4 ar (.lst ys)) w (.ins A.Web dx (putF "_arrows" (.ref ar) (putF "_known" (.ref d) (putF "pages" (.int n) []))))) ar = some (.lst ys) := keepNe upd_same harw
  have hw5 : (upd (upd H4 ar (.lst ys)) w (.ins A.Web dx (putF "_arrows" (.ref ar) (putF "_known" (.ref d) (putF "pages" (.int n) []))))) w = some (.ins A.Web dx (putF "_arrows" (.ref ar) (putF "_known" (.ref d) (putF "pages" (.int n) [])))) := upd_same
  have hP5 : Paired (PR (upd (upd H4 ar (.lst ys)) w (.ins A.Web dx (putF "_arrows" (.ref ar) (putF "_known" (.ref d) (putF "pages" (.int n) [])))))) ys rs := (PRs.new far hyP).mono fun v r ⟨t, e, ht⟩ => ⟨t, e, keepNe ht (ne_of ht (keep hw4 far) (by intro z; cases z))⟩
  have hd5 : (upd (upd H4 ar (.lst ys)) w (.ins A.Web dx (putF "_arrows" (.ref ar) (putF "_known" (.ref d) (putF "pages" (.int n) []))))) d = some (.dT (rows.map ent)) := keepNe (keep hd4 far) nd
  generalize upd (upd H4 ar (.lst ys)) w (.ins A.Web dx (putF "_arrows" (.ref ar) (putF "_known" (.ref d) (putF "pages" (.int n) [])))) = H5 at E5 har5 hw5 hP5 hd5
  have hRs := hS.rg hR
  have lk5 : (putF "_arrows" (V.ref ar) (putF "_known" (.ref d) (putF "pages" (.int n) []))).lookup ("_arrows" : Str) = some (.ref ar) := by rw [lookup_putF, if_pos rfl]
  walk_at "go"
  refine w_fld2 hw5 T.c_Web T.n_Web__arrows lk5 ?_
  walk_at "go"
  refine ⟨n, ar, ys, rs, rfl, har5, hP5, fun r hr => ⟨(hRs.bd r hr).1, (hRs.bd r hr).2.1⟩, hyl2, by omega, n2, fun tg H6 ftg e6 htg ctg => ?_⟩
  walk_at "go"
  refine w_sfld2 (e6 _ _ hw5) T.c_Web T.n_Web__targets (Nat.lt_of_le_of_lt (len_put1 (len_put1 (len_put1 (Nat.zero_le 0)))) (by decide)) ?_
  have ntg : tg ≠ w := (ne_of_none hw5 ftg).symm
  have E7 := same_mut (o := .ins A.Web dx (putF "_targets" (.ref tg) (putF "_arrows" (.ref ar) (putF "_known" (.ref d) (putF "pages" (.int n) []))))) (E5.trans e6) fw
  have har7 : (upd H6 w (.ins A.Web dx (putF "_targets" (.ref tg) (putF "_arrows" (.ref ar) (putF "_known" (.ref d) (putF "pages" (.int n) [])))))) ar = some (.lst ys) := keepNe (e6 _ _ har5) harw
  have hw7 : (upd H6 w (.ins A.Web dx (putF "_targets" (.ref tg) (putF "_arrows" (.ref ar) (putF "_known" (.ref d) (putF "pages" (.int n) [])))))) w = some (.ins A.Web dx (putF "_targets" (.ref tg) (putF "_arrows" (.ref ar) (putF "_known" (.ref d) (putF "pages" (.int n) []))))) := upd_same
  have hP7 : Paired (PR (upd H6 w (.ins A.Web dx (putF "_targets" (.ref tg) (putF "_arrows" (.ref ar) (putF "_known" (.ref d) (putF "pages" (.int n) []))))))) ys rs := (PRs.same e6 hP5).mono fun v r ⟨t, e, ht⟩ => ⟨t, e, keepNe ht (ne_of ht (e6 _ _ hw5) (by intro z; cases z))⟩
  have hd7 : (upd H6 w (.ins A.Web dx (putF "_targets" (.ref tg) (putF "_arrows" (.ref ar) (putF "_known" (.ref d) (putF "pages" (.int n) [])))))) d = some (.dT (rows.map ent)) := keepNe (e6 _ _ hd5) nd
  have htg7 := TabAt.mutI (o := .ins A.Web dx (putF "_targets" (.ref tg) (putF "_arrows" (.ref ar) (putF "_known" (.ref d) (putF "pages" (.int n) []))))) (e6 _ _ hw5) htg
  have ctg7 : ∀ (l : Addr) (vs : List V), H0 l = some (.lst vs) → TabAt (cutL l (upd H6 w (.ins A.Web dx (putF "_targets" (.ref tg) (putF "_arrows" (.ref ar) (putF "_known" (.ref d) (putF "pages" (.int n) []))))))) tg (grps n rs) := fun l vs hl => by
    have nw : w ≠ l := (ne_of_none hl fw).symm
    rw [cutL_upd nw]
    exact TabAt.mutI (cutL_at (e6 _ _ hw5) nw) (ctg l _ (E5 _ _ hl))
  generalize upd H6 w (.ins A.Web dx (putF "_targets" (.ref tg) (putF "_arrows" (.ref ar) (putF "_known" (.ref d) (putF "pages" (.int n) []))))) = H7 at E7 har7 hw7 hP7 hd7 htg7 ctg7
  have lk7 : (putF "_targets" (V.ref tg) (putF "_arrows" (V.ref ar) (putF "_known" (.ref d) (putF "pages" (.int n) [])))).lookup ("_arrows" : Str) = some (.ref ar) := by rw [lookup_putF, if_neg (by decide +kernel), lookup_putF, if_pos rfl]
  walk_at "go"
  refine w_fld2 hw7 T.c_Web T.n_Web__arrows lk7 ?_
  walk_at "go"
  refine lcL (xs := ys) (fun Dl i H' => Same H7 H' ∧ ∃ ws, H' Dl = some (.lst ws) ∧ ws.length = i ∧ Paired (PR H') ws ((rs.map fun r => (r.2, r.1)).take i)) (fun Dl hD => ⟨same_new hD, [], upd_same, rfl, .nil⟩) (fun Dl i H' hD hi ⟨e, _⟩ => SqL.of (e _ _ har7)) ?_ ?_
  · rintro Dl i x H8 hD hx ⟨e, ws, hDl, hwl, hW⟩
    obtain ⟨r, hr, t, rfl, ht⟩ := Paired.at' hP7 hx
    have hi : i < ys.length := (List.getElem?_eq_some_iff.mp hx).1
    have ht8 := e _ _ ht
    walk_at "go"
    intro t2 ht2
    walk_at "go"
    refine ⟨same_mut (e.trans (same_new ht2)) hD, _, upd_same, by simp [hwl], ?_⟩
    rw [List.take_succ, List.getElem?_map, hr]
    exact push_row hDl hW ht2
  · rintro Dl H8 hD ⟨e, ws, hDl, hwl, hW⟩
    have hyrs := hP7.length
    rw [hyrs, List.take_of_length_le (by rw [List.length_map]; exact Nat.le_refl _)] at hW
    walk_at "go"
    refine ⟨n, Dl, ws, _, rfl, hDl, hW, fun r hr => ?_, by omega, by omega, n2, fun hd H9 fhd e9 hhd chd => ?_⟩
    · obtain ⟨y, hy, rfl⟩ := List.mem_map.mp hr
      exact ⟨(hRs.bd y hy).2.2.1, (hRs.bd y hy).2.2.2.1⟩
    · walk_at "go"
      have hw9 := e9 _ _ (e _ _ hw7)
      refine w_sfld2 hw9 T.c_Web T.n_Web__holders (Nat.lt_of_le_of_lt (len_put1 (len_put1 (len_put1 (len_put1 (Nat.zero_le 0))))) (by decide)) ?_
      have hmut := fun {p : Addr} {ls : List (List Int)} (h : TabAt H9 p ls) => TabAt.mutI (o := .ins A.Web dx (putF "_holders" (.ref hd) (putF "_targets" (.ref tg) (putF "_arrows" (.ref ar) (putF "_known" (.ref d) (putF "pages" (.int n) [])))))) hw9 h
      refine q ok rs _ hS hRs (same_mut ((E7.trans e).trans e9) fw) ⟨dx, d, ar, tg, hd, ys, rows, upd_same, keepNe (e9 _ _ (e _ _ hd7)) nd, fun r => hS.perm.mem_iff.symm, keepNe (e9 _ _ (e _ _ har7)) harw, ?_, hyl2, hmut ((htg7.same e).same e9), hmut hhd⟩ fun l vs hl => ?_
      · exact (PRs.same e9 (PRs.same e hP7)).mono fun v r ⟨t, z, ht⟩ => ⟨t, z, keepNe ht (ne_of ht hw9 (by intro z; cases z))⟩
      · have nw : w ≠ l := (ne_of_none hl fw).symm
        have hl9 := e9 _ _ (e _ _ (E7 _ _ hl))
        rw [cutL_upd nw]
        have cut := fun {p : Addr} {ls : List (List Int)} (h : TabAt (cutL l H9) p ls) => TabAt.mutI (o := .ins A.Web dx (putF "_holders" (.ref hd) (putF "_targets" (.ref tg) (putF "_arrows" (.ref ar) (putF "_known" (.ref d) (putF "pages" (.int n) [])))))) (cutL_at hw9 nw) h
        refine ⟨dx, d, ar, tg, hd, ys, rows, upd_same, keepNe (cutL_at (e9 _ _ (e _ _ hd7)) (ne_of_none (e1 _ _ hl) fd).symm) nd, fun r => hS.perm.mem_iff.symm, keepNe (cutL_at (e9 _ _ (e _ _ har7)) (ne_of_none (E4 _ _ hl) far).symm) harw, ?_, hyl2, cut (((ctg7 l vs hl).same (cutL_same e)).same (cutL_same e9)), cut (chd l _ (e _ _ (E7 _ _ hl)))⟩
        exact (PRs.same e9 (PRs.same e hP7)).mono fun v r ⟨t, z, ht⟩ => ⟨t, z, keepNe (cutL_at ht (ne_of ht hl9 (by intro z; cases z))) (ne_of ht hw9 (by intro z; cases z))⟩
end G

end
section
local macro_rules | `(tactic| walk_at "call") => `(tactic| (refine' G.w_cnt ?g1 ?_; (case g1 => walk_at "sq")))

local macro_rules | `(tactic| walk_at "call") => `(tactic| (refine' G.w_popAt ?g1 ?g2 ?g3 ?g4 ?_; (case g1 => walk_at "hp"); (case g2 => walk_at "ar"); (case g3 => walk_at "ar"); (case g4 => walk_at "ar")))

local macro_rules | `(tactic| walk_at "call") => `(tactic| (refine' G.i_whole ?_))

namespace G
open PySem L2 GX
def sp_Web_arrows (K : PySem.W.Frag) (A : CA) : Sp := fun vs H Q _ => ∃ (w : Addr) (n : Int) (rs : List (Int × Int)), vs = [.ref w] ∧ WebX A H w n rs ∧
  ∀ (us : List V) (p : Addr) (H' : Hp), H p = none → Same H H' → H' p = some (.lst us) → Paired (PR H') us rs → us.length ≤ 600 → Q (.ref p) H'
def t_Web_arrows (K : PySem.W.Frag) (A : CA) : TS :=
  (tRet (tCB (oListOf K) (tCons (tFld K (tVar 0) "_arrows") tNil)))

theorem rd_Web_arrows {K : PySem.W.Frag} {A : CA} (T : CTB K A) {vs : List V} {H : Hp} {Q : VK} {E : XK} (h : sp_Web_arrows K A vs H Q E) :
    t_Web_arrows K A { nx := fun _ H' => Q .non H', rt := Q } (start ["self"] vs) H := by
  obtain ⟨w, n, rs, rfl, hW, q⟩ := h
  obtain ⟨dx, d, ar, tg, hd, us, ks, h1, _, _, h2, h3, h4, _⟩ := hW.ex
  unfold t_Web_arrows
  walk_at "go"
  refine w_fld2 h1 T.c_Web T.n_Web__arrows web_arrows ?_
  walk_at "go"
  intro p hp
  exact q us p _ hp (same_new hp) upd_same (PRs.new hp h3) h4
theorem web_targets {n : Int} {d ar tg hd : Addr} : (webFs n d ar tg hd).lookup ("_targets" : Str) = some (.ref tg) := by
  unfold webFs
  rw [lookup_putF, if_neg (by decide +kernel), lookup_putF, if_pos rfl]
theorem web_holders {n : Int} {d ar tg hd : Addr} : (webFs n d ar tg hd).lookup ("_holders" : Str) = some (.ref hd) := by
  unfold webFs
  rw [lookup_putF, if_pos rfl]
theorem web_known {n : Int} {d ar tg hd : Addr} : (webFs n d ar tg hd).lookup ("_known" : Str) = some (.ref d) := by
  unfold webFs
  rw [lookup_putF, if_neg (by decide +kernel), lookup_putF, if_neg (by decide +kernel), lookup_putF, if_neg (by decide +kernel), lookup_putF, if_pos rfl]
theorem i_check {K : PySem.W.Frag} {A : CA} {H : Hp} {Q : VK} {E : XK} {w q dx : Addr} {fs : List (Str × V)} {n p : Int} (hw : H w = some (.ins A.Web dx fs)) (hn : fs.lookup ("pages" : Str) = some (.int n)) (hq : H q = some (.lst [.int p]))
    (bad : isOut n p = true → Raised A.NoPage "page" (.int p) H E) (good : 0 ≤ p → p < n → Q .non H) : sp_check_pages K A [.ref w, .ref q] H Q E := by
  refine ⟨w, q, dx, fs, n, [p], rfl, hw, hn, SqL.of hq, fun z hz => ?_, fun hz => ?_⟩
  · have hz1 := List.find?_some hz
    have hz2 : z = p := List.mem_singleton.mp (List.mem_of_find?_eq_some hz)
    subst hz2
    exact bad hz1
  · have h1 := List.find?_eq_none.mp hz p List.mem_cons_self
    have h2 := in_of (n := n) (z := p) (by simpa using h1)
    exact good h2.1 h2.2
theorem TabAt.get {H : Hp} {t : Addr} {n : Int} {rows : List (Int × Int)} (h : TabAt H t (grps n rows)) {p : Int} (h0 : 0 ≤ p) (h1 : p < n) : ∃ (qs : List V) (q : Addr), H t = some (.lst qs) ∧ atI qs p = some (.ref q) ∧ H q = some (.lst ((grp rows p.toNat).map V.int)) := by
  obtain ⟨qs, a, b, c⟩ := h.ex
  have hp : p.toNat < n.toNat := by omega
  have hq : p.toNat < qs.length := by
    rw [b]; unfold grps; rw [List.length_map, List.length_range]; exact hp
  refine ⟨_, qs[p.toNat], a, at_of (j := p.toNat) (by omega) (by simp [hq]), c p.toNat _ _ (List.getElem?_eq_getElem hq) ?_⟩
  unfold grps
  rw [List.getElem?_map, List.getElem?_range hp]
  rfl
def Told (A : CA) (n p : Int) (l : List Int) (H : Hp) (Q : VK) (E : XK) : Prop :=
  (isOut n p = true → Raised A.NoPage "page" (.int p) H E) ∧ (0 ≤ p → p < n → ∀ (q : Addr) (H' : Hp), H q = none → Same H H' → H' q = some (.lst (l.map V.int)) → Q (.ref q) H')
def sp_Web_holders (K : PySem.W.Frag) (A : CA) : Sp := fun vs H Q E => ∃ (w : Addr) (n p : Int) (rs : List (Int × Int)), vs = [.ref w, .int p] ∧ WebX A H w n rs ∧ Told A n p (grp (rs.map swp) p.toNat) H Q E
def t_Web_holders (K : PySem.W.Frag) (A : CA) (E : XK) : TS :=
  (tSeq (tDrop (tCall (sp_check_pages K A) [] E (tCons (tVar 0) (tCons (tLst (tCons (tVar 1) tNil)) tNil))))
  (tRet (tCB (oListOf K) (tCons (tOp (rIxL K) (tFld K (tVar 0) "_holders") (tVar 1)) tNil))))

theorem rd_Web_holders {K : PySem.W.Frag} {A : CA} (T : CTB K A) {vs : List V} {H : Hp} {Q : VK} {E : XK} (h : sp_Web_holders K A vs H Q E) :
    t_Web_holders K A E { nx := fun _ H' => Q .non H', rt := Q } (start ["self", "page"] vs) H := by
  obtain ⟨w, n, p, rs, rfl, hW, k1, k2⟩ := h
  obtain ⟨dx, d, ar, tg, hd, us, ks, h1, _, _, _, _, _, _, ht⟩ := hW.ex
  unfold t_Web_holders
  walk_at "go"
  intro q hq
  have e := same_new (o := .lst [V.int p]) hq
  walk_at "go"
  refine i_check (keep h1 hq) web_pages upd_same (fun o => Raised.at e (k1 o)) fun p0 p1 => ?_
  walk_at "go"
  refine w_fld2 (keep h1 hq) T.c_Web T.n_Web__holders web_holders ?_
  obtain ⟨qs, r, t1, t2, t3⟩ := (ht.same e).get p0 p1
  walk_at "go"
  intro l hl
  exact k2 p0 p1 l _ (e.free hl) (e.trans (same_new hl)) upd_same
end G

end
section
local macro_rules | `(tactic| walk_at "call") => `(tactic| (refine' G.w_cnt ?g1 ?_; (case g1 => walk_at "sq")))

local macro_rules | `(tactic| walk_at "call") => `(tactic| (refine' G.w_popAt ?g1 ?g2 ?g3 ?g4 ?_; (case g1 => walk_at "hp"); (case g2 => walk_at "ar"); (case g3 => walk_at "ar"); (case g4 => walk_at "ar")))

local macro_rules | `(tactic| walk_at "call") => `(tactic| (refine' G.i_whole ?_))

namespace G
open PySem L2 GX
theorem web_noholders {n : Int} {d ar tg hd : Addr} : (webFs n d ar tg hd).lookup ("holders" : Str) = none := by
  unfold webFs
  rw [lookup_putF, if_neg (by decide +kernel), lookup_putF, if_neg (by decide +kernel), lookup_putF, if_neg (by decide +kernel), lookup_putF, if_neg (by decide +kernel), lookup_putF, if_neg (by decide +kernel)]
  rfl
theorem WebX.obj {A : CA} {H : Hp} {w : Addr} {n : Int} {rs : List (Int × Int)} (h : WebX A H w n rs) : ∃ (dx d ar tg hd : Addr), H w = some (.ins A.Web dx (webFs n d ar tg hd)) :=
  let ⟨dx, d, ar, tg, hd, _, _, h1, _⟩ := h.ex; ⟨dx, d, ar, tg, hd, h1⟩
theorem i_told {A : CA} {n p : Int} {l : List Int} {H : Hp} {Q : VK} {E : XK} (p0 : 0 ≤ p) (p1 : p < n) (k : ∀ (q : Addr) (H' : Hp), H q = none → Same H H' → H' q = some (.lst (l.map V.int)) → Q (.ref q) H') : Told A n p l H Q E :=
  ⟨fun o => (by rw [isOut_in p0 p1] at o; cases o), fun _ _ => k⟩
theorem grp_len {rs : List (Int × Int)} {k : Nat} : (grp rs k).length ≤ rs.length := by
  unfold grp
  rw [List.length_map]
  exact List.length_filter_le _ _
theorem w_reverse {H : Hp} {Q : VK} {p : Addr} {xs : List V} (h : H p = some (.lst xs)) (q : Q .non (upd H p (.lst xs.reverse))) : rReverse (.ref p) [] H Q := ⟨p, xs, rfl, rfl, h, q⟩
end G

end
section
local macro_rules | `(tactic| walk_at "call") => `(tactic| (refine' G.w_cnt ?g1 ?_; (case g1 => walk_at "sq")))

local macro_rules | `(tactic| walk_at "call") => `(tactic| (refine' G.w_popAt ?g1 ?g2 ?g3 ?g4 ?_; (case g1 => walk_at "hp"); (case g2 => walk_at "ar"); (case g3 => walk_at "ar"); (case g4 => walk_at "ar")))

local macro_rules | `(tactic| walk_at "call") => `(tactic| (refine' G.i_whole ?_))

namespace G
open PySem L2 GX
theorem RG.perm {n : Int} {rows rs : List (Int × Int)} (h : rs.Perm rows) (hR : RG n rows) : RG n rs := ⟨fun r hr => hR.bd r (h.mem_iff.mp hr), h.nodup_iff.mpr hR.nd⟩
theorem out_of {n z : Int} (h : z < 0 ∨ n ≤ z) : isOut n z = true := by
  unfold isOut
  rcases h with h | h
  · have : ¬ 0 ≤ z := by omega
    simp [this]
  · have : ¬ z < n := by omega
    simp [this]
end G

end
section
local macro_rules | `(tactic| walk_at "call") => `(tactic| (refine' G.w_cnt ?g1 ?_; (case g1 => walk_at "sq")))

local macro_rules | `(tactic| walk_at "call") => `(tactic| (refine' G.w_popAt ?g1 ?g2 ?g3 ?g4 ?_; (case g1 => walk_at "hp"); (case g2 => walk_at "ar"); (case g3 => walk_at "ar"); (case g4 => walk_at "ar")))

local macro_rules | `(tactic| walk_at "call") => `(tactic| (refine' G.i_whole ?_))

namespace G
open PySem L2 GX
/-- xs.insert(i, y) -/
theorem w_insert {H : Hp} {Q : VK} {p : Addr} {xs : List V} {i : Int} {y : V} (h : H p = some (.lst xs)) (hz : xs.length ≤ 900) (h0 : 0 ≤ i) (h1 : i < 1000000) (q : Q .non (upd H p (.lst (xs.take i.toNat ++ [y] ++ xs.drop i.toNat)))) : GX.oInsert (.ref p) [.int i, y] H Q :=
  ⟨p, xs, i, y, rfl, rfl, h, L2.small1000 (by omega), h0, by omega, q⟩
def within (xs : List Int) (rows : List (Int × Int)) : List (Int × Int) := rows.filter fun r => decide (r.1 ∈ xs) && decide (r.2 ∈ xs)
theorem within_snoc {xs : List Int} {rows : List (Int × Int)} {r : Int × Int} : within xs (rows ++ [r]) = if r.1 ∈ xs ∧ r.2 ∈ xs then within xs rows ++ [r] else within xs rows := by
  unfold within
  rw [List.filter_append]
  by_cases c : r.1 ∈ xs ∧ r.2 ∈ xs
  · rw [if_pos c]; simp [c.1, c.2]
  · rw [if_neg c]
    have : (decide (r.1 ∈ xs) && decide (r.2 ∈ xs)) = false := by
      by_cases c1 : r.1 ∈ xs
      · have c2 : ¬ r.2 ∈ xs := fun z => c ⟨c1, z⟩
        simp [c2]
      · simp [c1]
    simp [this]
theorem rg_ins {n : Int} {cur : List (Int × Int)} {r : Int × Int} {i : Nat} (h : RG n (cur.take i ++ [r] ++ cur.drop i)) : RG n cur ∧ (0 ≤ r.1 ∧ r.1 < n ∧ 0 ≤ r.2 ∧ r.2 < n ∧ r.1 ≠ r.2) ∧ r ∉ cur := by
  have p : (r :: cur).Perm (cur.take i ++ [r] ++ cur.drop i) := by
    rw [List.append_assoc]
    have := (List.perm_middle (a := r) (l₁ := cur.take i) (l₂ := cur.drop i)).symm
    rw [List.take_append_drop] at this
    exact this
  have g := G.RG.perm p h
  have nd := List.nodup_cons.mp g.nd
  exact ⟨⟨fun x hx => g.bd x (List.mem_cons_of_mem _ hx), nd.2⟩, g.bd r List.mem_cons_self, nd.1⟩
end G

end
section
local macro_rules | `(tactic| walk_at "call") => `(tactic| (refine' G.w_cnt ?g1 ?_; (case g1 => walk_at "sq")))

local macro_rules | `(tactic| walk_at "call") => `(tactic| (refine' G.w_popAt ?g1 ?g2 ?g3 ?g4 ?_; (case g1 => walk_at "hp"); (case g2 => walk_at "ar"); (case g3 => walk_at "ar"); (case g4 => walk_at "ar")))

local macro_rules | `(tactic| walk_at "call") => `(tactic| (refine' G.i_whole ?_))

namespace G
open PySem L2 GX
theorem rg_okto {n : Int} {rows : List (Int × Int)} (h : RG n rows) : ∀ i, OkTo n rows i := fun i j r _ hr => by
  refine ⟨isPtr_iff.mpr (h.bd r (List.mem_of_getElem? hr)), fun hm => ?_⟩
  obtain ⟨m, hm2⟩ := List.getElem?_of_mem hm
  have hmj : m < j := by
    have := (List.getElem?_eq_some_iff.mp hm2).1
    rw [List.length_take] at this; omega
  rw [List.getElem?_take_of_lt hmj] at hm2
  have := nd_ix h.nd hm2 hr
  omega
theorem rg_good {n : Int} {rows : List (Int × Int)} (h : RG n rows) {k : Nat} {r : Int × Int} (hr : rows[k]? = some r) : ¬ (isPtr n r.1 r.2 = false ∨ r ∈ rows.take k) := fun c => by
  have z := rg_okto h (k + 1) k r (Nat.lt_succ_self k) hr
  rcases c with c | c
  · rw [z.1] at c; cases c
  · exact z.2 c
/-- Web(n, rows) of rows that are right -/
theorem i_web {K : PySem.W.Frag} {A : CA} {H : Hp} {Q : VK} {E : XK} {x dx pq : Addr} {n : Int} {us : List V} {rows : List (Int × Int)} (hx : H x = none) (hdx : H dx = none) (nx : dx ≠ x) (hq : H pq = some (.lst us)) (hP : Paired (PR H) us rows) (hl : us.length ≤ 600) (n0 : 1 ≤ n) (n1 : n ≤ 500) (hR : RG n rows)
    (q : ∀ (rs : List (Int × Int)) (H' : Hp), SortedOf rows rs → RG n rs → Same H H' → WebX A H' x n rs → (∀ (l : Addr) (vs : List V), H l = some (.lst vs) → WebX A (cutL l H') x n rs) → Q .non H') : sp_Web_init K A [.ref x, .int n, .ref pq] (upd (upd H dx (.own x)) x (.ins A.Web dx [])) Q E :=
  ⟨H, x, dx, pq, n, us, rows, rfl, rfl, hx, hdx, nx, hq, hP, hl, n0, n1, fun _ _ hk _ hb => absurd hb (rg_good hR hk), fun _ rs H' hS hR' e hW hC => q rs H' hS hR' e hW hC⟩
end G

end
section
local macro_rules | `(tactic| walk_at "call") => `(tactic| (refine' G.w_cnt ?g1 ?_; (case g1 => walk_at "sq")))

local macro_rules | `(tactic| walk_at "call") => `(tactic| (refine' G.w_popAt ?g1 ?g2 ?g3 ?g4 ?_; (case g1 => walk_at "hp"); (case g2 => walk_at "ar"); (case g3 => walk_at "ar"); (case g4 => walk_at "ar")))

local macro_rules | `(tactic| walk_at "call") => `(tactic| (refine' G.i_whole ?_))

namespace G
open PySem L2 GX
/-- a comprehension with two fors over lists: the second list stands at an address that the first names -/
theorem lc2L {K : PySem.W.Frag} {a : Addr} {xs : List V} {t1 : TE} {tt : TT} {te : TE} {vs vs1 : List Nat} {s1 s2 : Nat} {σ : L2.St} {H : Hp} {Q : VK} (Pv : Addr → Nat → Hp → Prop) (Pw : Addr → Nat → Nat → Hp → Prop)
    (h0 : ∀ D, H D = none → Pv D 0 (upd H D (.lst []))) (hl : ∀ D i H1, H D = none → Pv D i H1 → SqL K H1 a xs)
    (w1 : ∀ x, wipe ((wipe σ vs).set s1 (some x)) vs = wipe σ vs) (w2 : ∀ x y, wipe ((wipe ((wipe σ vs).set s1 (some x)) vs1).set s2 (some y)) vs1 = wipe ((wipe σ vs).set s1 (some x)) vs1)
    (hs : ∀ D i x H1, H D = none → xs[i]? = some x → Pv D i H1 → ∃ (b : Addr) (ys : List V), (∀ R : VK, R (.ref b) H1 → t1 ((wipe σ vs).set s1 (some x)) H1 R) ∧ Pw D i 0 H1 ∧ (∀ j H4, Pw D i j H4 → SqL K H4 b ys) ∧
      (∀ j y H4, ys[j]? = some y → Pw D i j H4 → LcT tt te D (Pw D i (j + 1)) ((wipe ((wipe σ vs).set s1 (some x)) vs1).set s2 (some y)) H4) ∧ (∀ H4, Pw D i ys.length H4 → Pv D (i + 1) H4))
    (hd : ∀ D H1, H D = none → Pv D xs.length H1 → Q (.ref D) H1) : tLc2 (fun _ H R => R (Itl K a) H) (gName s1) tYes (iList K t1) (gName s2) tt te vs vs1 σ H Q := by
  intro D hD
  refine ⟨fun i m H' => i ≤ xs.length ∧ m = xs.length - i ∧ Pv D i H', ⟨_, Nat.zero_le _, rfl, h0 D hD⟩, ?_⟩
  rintro i m H' ⟨hi, rfl, p⟩
  rcases Nat.lt_or_eq_of_le hi with c | c
  · right
    obtain ⟨x, hx⟩ : ∃ x, xs[i]? = some x := ⟨_, List.getElem?_eq_getElem c⟩
    refine ⟨⟨xs, x, hl D i H' hD p, hx⟩, fun H2 => Pv D (i + 1) H2, fun H2 q => ⟨xs.length - (i + 1), by omega, by omega, rfl, q⟩, ?_⟩
    rintro y H2 ⟨rfl, hy⟩
    obtain rfl : x = y := Option.some.inj (hx.symm.trans (hy xs (hl D i _ hD p)))
    obtain ⟨b, ys, k1, k2, k3, k4, k5⟩ := hs D i x _ hD hx p
    refine And.intro (w1 x) ?_
    refine k1 _ ⟨b, rfl, ⟨ys, k3 0 _ k2⟩, ?_⟩
    refine ⟨fun j k H4 => j ≤ ys.length ∧ k = ys.length - j ∧ Pw D i j H4, ⟨_, Nat.zero_le _, rfl, k2⟩, ?_⟩
    rintro j k H4 ⟨hj, rfl, r⟩
    rcases Nat.lt_or_eq_of_le hj with c2 | c2
    · right
      obtain ⟨y, hy2⟩ : ∃ y, ys[j]? = some y := ⟨_, List.getElem?_eq_getElem c2⟩
      refine ⟨⟨ys, y, k3 j H4 r, hy2⟩, fun H5 => Pw D i (j + 1) H5, fun H5 q => ⟨ys.length - (j + 1), by omega, by omega, rfl, q⟩, ?_⟩
      rintro z H5 ⟨rfl, hz⟩
      obtain rfl : y = z := Option.some.inj (hy2.symm.trans (hz ys (k3 j _ r)))
      exact And.intro (w2 x y) (k4 j y _ hy2 r)
    · left
      subst c2
      exact ⟨⟨ys, k3 _ H4 r, Nat.le_refl _⟩, k5 H4 r⟩
  · left
    subst c
    exact ⟨⟨xs, hl D _ H' hD p, Nat.le_refl _⟩, hd D H' hD p⟩
theorem w_lc2L {K : PySem.W.Frag} {g g1 : TG} {tt tt1 : TT} {wi1 : TI} {te tz : TE} {vs vs1 : List Nat} {σ : L2.St} {H : Hp} {Q : VK} (h : tz σ H fun x H1 => ∃ a, x = .ref a ∧ (∃ xs, SqL K H1 a xs) ∧ tLc2 (fun _ H R => R (Itl K a) H) g tt wi1 g1 tt1 te vs vs1 σ H1 Q) :
    tLc2 (iList K tz) g tt wi1 g1 tt1 te vs vs1 σ H Q := h
/-- the pointers among the pages ps, page by page -/
theorem count_by : ∀ (ps : List Int) (S : Int → Bool) (rs : List (Int × Int)), ps.Nodup → (∀ p ∈ ps, 0 ≤ p) → (∀ r ∈ rs, 0 ≤ r.1) →
    (ps.flatMap fun p => (grp rs p.toNat).filter S).length = (rs.filter fun r => decide (r.1 ∈ ps) && S r.2).length
  | [], S, rs, _, _, _ => by
    have : (rs.filter fun r => decide (r.1 ∈ ([] : List Int)) && S r.2) = [] := List.filter_eq_nil_iff.mpr fun r _ h => by simp at h
    rw [this]; rfl
  | p :: ps, S, rs, nd, h0, hr => by
    obtain ⟨nd1, nd2⟩ := List.nodup_cons.mp nd
    have ih := count_by ps S rs nd2 (fun q hq => h0 q (List.mem_cons_of_mem _ hq)) hr
    have hp := h0 p List.mem_cons_self
    rw [List.flatMap_cons, List.length_append, ih]
    clear ih
    have e : ((p.toNat : Nat) : Int) = p := Int.toNat_of_nonneg hp
    unfold grp
    rw [e]
    clear hr
    induction rs with
    | nil => rfl
    | cons r rs ih2 =>
      by_cases c : r.1 = p
      · have n1 : decide (r.1 ∈ ps) = false := decide_eq_false (c ▸ nd1)
        have n2 : decide (r.1 ∈ p :: ps) = true := decide_eq_true (by rw [c]; exact List.mem_cons_self)
        rw [List.filter_cons, List.filter_cons, List.filter_cons, if_pos (decide_eq_true c), n1, n2, List.map_cons, List.filter_cons, Bool.false_and, Bool.true_and, if_neg Bool.false_ne_true]
        cases hS : S r.2
        · rw [if_neg Bool.false_ne_true, if_neg Bool.false_ne_true]; exact ih2
        · rw [if_pos (show true = true from rfl), if_pos (show true = true from rfl), List.length_cons, List.length_cons]; omega
      · have n2 : decide (r.1 ∈ p :: ps) = decide (r.1 ∈ ps) := by
          rw [Bool.eq_iff_iff, decide_eq_true_iff, decide_eq_true_iff, List.mem_cons]
          exact ⟨fun h => h.resolve_left c, Or.inr⟩
        rw [List.filter_cons, List.filter_cons, List.filter_cons, if_neg (by simp [c]), n2]
        cases (decide (r.1 ∈ ps) && S r.2)
        · rw [if_neg Bool.false_ne_true, if_neg Bool.false_ne_true]; exact ih2
        · rw [if_pos (show true = true from rfl), if_pos (show true = true from rfl), List.length_cons, List.length_cons]; omega
theorem inner_count {ps xs : List Int} {rs : List (Int × Int)} (hp : ps.Pairwise (· < ·)) (hm : ∀ k : Int, k ∈ ps ↔ k ∈ xs) (h0 : ∀ x ∈ xs, 0 ≤ x) (hr : ∀ r ∈ rs, 0 ≤ r.1) :
    (ps.flatMap fun p => (grp rs p.toNat).filter fun t => decide (t ∈ xs)).length = (within xs rs).length := by
  rw [count_by ps _ rs (hp.imp fun h => Int.ne_of_lt h) (fun p hq => h0 p ((hm p).mp hq)) hr]
  unfold within
  congr 1
  refine List.filter_congr fun r _ => ?_
  have : decide (r.1 ∈ ps) = decide (r.1 ∈ xs) := decide_eq_decide.mpr (hm r.1)
  rw [this]
theorem flat_take {α β : Type} {f : α → List β} {l : List α} {i : Nat} {x : α} (h : l[i]? = some x) : (l.take (i + 1)).flatMap f = (l.take i).flatMap f ++ f x := by
  rw [List.take_succ, h, List.flatMap_append]
  simp
theorem part_le {α β : Type} {f : α → List β} {l : List α} {i : Nat} : ((l.take i).flatMap f).length ≤ (l.flatMap f).length := by
  have e : l.flatMap f = (l.take i).flatMap f ++ (l.drop i).flatMap f := by rw [← List.flatMap_append, List.take_append_drop]
  rw [e, List.length_append]; omega
theorem partF_le {β : Type} {S : β → Bool} {g : List β} {j : Nat} : ((g.take j).filter S).length ≤ (g.filter S).length := by
  have e : g.filter S = (g.take j).filter S ++ (g.drop j).filter S := by rw [← List.filter_append, List.take_append_drop]
  rw [e, List.length_append]; omega
end G

end
section
local macro_rules | `(tactic| walk_at "call") => `(tactic| (refine' G.w_cnt ?g1 ?_; (case g1 => walk_at "sq")))

local macro_rules | `(tactic| walk_at "call") => `(tactic| (refine' G.w_popAt ?g1 ?g2 ?g3 ?g4 ?_; (case g1 => walk_at "hp"); (case g2 => walk_at "ar"); (case g3 => walk_at "ar"); (case g4 => walk_at "ar")))

local macro_rules | `(tactic| walk_at "call") => `(tactic| (refine' G.i_whole ?_))

namespace G
open PySem L2 GX
def stFs (w : Addr) (lines : Int) (lb : Addr) : List (Str × V) := putF "_blank" (.ref lb) (putF "lines" (.int lines) (putF "web" (.ref w) []))
theorem st_web {w lb : Addr} {l : Int} : (stFs w l lb).lookup ("web" : Str) = some (.ref w) := by
  unfold stFs
  rw [lookup_putF, if_neg (by decide +kernel), lookup_putF, if_neg (by decide +kernel), lookup_putF, if_pos rfl]
theorem st_blank {w lb : Addr} {l : Int} : (stFs w l lb).lookup ("_blank" : Str) = some (.ref lb) := by
  unfold stFs
  rw [lookup_putF, if_pos rfl]
theorem st_noblanks {w lb : Addr} {l : Int} : (stFs w l lb).lookup ("blanks" : Str) = none := by
  unfold stFs
  rw [lookup_putF, if_neg (by decide +kernel), lookup_putF, if_neg (by decide +kernel), lookup_putF, if_neg (by decide +kernel)]
  rfl
structure StAt (A : CA) (H : Hp) (st w : Addr) (n : Int) (rs : List (Int × Int)) (lines : Int) (bs : List Int) : Prop where
  ex : ∃ (dx lb : Addr), H st = some (.ins A.Standing dx (stFs w lines lb)) ∧ H lb = some (.lst (bs.map V.int))
  web : WebX A H w n rs
theorem StAt.same {A : CA} {H H' : Hp} {st w : Addr} {n lines : Int} {rs : List (Int × Int)} {bs : List Int} (e : Same H H') (h : StAt A H st w n rs lines bs) : StAt A H' st w n rs lines bs :=
  ⟨let ⟨dx, lb, h1, h2⟩ := h.ex; ⟨dx, lb, e _ _ h1, e _ _ h2⟩, h.web.same e⟩
/-- a new standing: it and its list of blank lines came behind H -/
structure StNew (A : CA) (H H' : Hp) (st w : Addr) (lines : Int) (bs : List Int) : Prop where
  ex : ∃ (dx lb : Addr), H' st = some (.ins A.Standing dx (stFs w lines lb)) ∧ H' lb = some (.lst (bs.map V.int)) ∧ H lb = none
  no : H st = none
theorem StNew.base {A : CA} {H0 H H' : Hp} {st w : Addr} {lines : Int} {bs : List Int} (e : Same H0 H) (h : StNew A H H' st w lines bs) : StNew A H0 H' st w lines bs :=
  ⟨let ⟨dx, lb, a, b, c⟩ := h.ex; ⟨dx, lb, a, b, e.free c⟩, e.free h.no⟩
theorem StNew.same {A : CA} {H0 H H' : Hp} {st w : Addr} {lines : Int} {bs : List Int} (e : Same H H') (h : StNew A H0 H st w lines bs) : StNew A H0 H' st w lines bs :=
  ⟨let ⟨dx, lb, a, b, c⟩ := h.ex; ⟨dx, lb, e _ _ a, e _ _ b, c⟩, h.no⟩
/-- without a list that stood before -/
theorem StNew.cut {A : CA} {H0 H : Hp} {st w l : Addr} {lines : Int} {bs : List Int} {o : HO} (hl : H0 l = some o) (h : StNew A H0 H st w lines bs) : StNew A H0 (cutL l H) st w lines bs :=
  ⟨let ⟨dx, lb, a, b, c⟩ := h.ex; ⟨dx, lb, cutL_at a (ne_of_none hl h.no).symm, cutL_at b (ne_of_none hl c).symm, c⟩, h.no⟩
theorem StNew.at' {A : CA} {H0 H : Hp} {st w : Addr} {n lines : Int} {rs : List (Int × Int)} {bs : List Int} (h : StNew A H0 H st w lines bs) (hW : WebX A H w n rs) : StAt A H st w n rs lines bs :=
  ⟨let ⟨dx, lb, a, b, _⟩ := h.ex; ⟨dx, lb, a, b⟩, hW⟩
structure CTS (K : PySem.W.Frag) (A : CA) : Prop where
  b : CTB K A
  c_Standing : Cls K A.Standing
  n_Standing__blank : NoAttr K A.Standing "_blank"
  n_Standing_lines : NoAttr K A.Standing "lines"
  n_Standing_web : NoAttr K A.Standing "web"
  e_NoLine : OexC K A.NoLine
  f_NoLine : PySem.W.findIn K (.ref A.NoLine) "page" = some none
  e_IS : OexC K A.InvalidStanding
  f_IS : PySem.W.findIn K (.ref A.InvalidStanding) "page" = some none
theorem st_lines {w lb : Addr} {l : Int} : (stFs w l lb).lookup ("lines" : Str) = some (.int l) := by
  unfold stFs
  rw [lookup_putF, if_neg (by decide +kernel), lookup_putF, if_pos rfl]
/-- the first number that is out of bounds -/
def badK (lines : Int) (bs : List Int) (k : Nat) : Prop := ∃ b, bs[k]? = some b ∧ (b < 0 ∨ lines < b) ∧ ∀ (j : Nat) (c : Int), j < k → bs[j]? = some c → 0 ≤ c ∧ c ≤ lines
def sp_Standing_init (K : PySem.W.Frag) (A : CA) : Sp := fun vs H Q E => ∃ (H0 : Hp) (st dx w pb : Addr) (n lines : Int) (rs : List (Int × Int)) (bs : List Int), vs = [.ref st, .ref w, .int lines, .ref pb] ∧ H = upd (upd H0 dx (.own st)) st (.ins A.Standing dx []) ∧ H0 st = none ∧ H0 dx = none ∧ dx ≠ st ∧ WebX A H0 w n rs ∧ 1 ≤ n ∧ n ≤ 500 ∧ H0 pb = some (.lst (bs.map V.int)) ∧ bs.length ≤ 1000 ∧
  (bs.length ≠ n.toNat → Raised A.InvalidStanding "page" .non H0 E) ∧ (bs.length = n.toNat → ∀ k : Nat, badK lines bs k → Raised A.InvalidStanding "page" (.int (k : Nat)) H0 E) ∧
  (BK lines n.toNat bs → ∀ (H' : Hp), StNew A H0 H' st w lines bs → Same H0 H' → StAt A H' st w n rs lines bs → Q .non H')
def t_Standing_init (K : PySem.W.Frag) (A : CA) (E : XK) : TS :=
  (tSeq (tIfS (tTest (tOp rNe (tCB (rLenQ K) (tCons (tVar 3) tNil)) (tFld K (tVar 1) "pages"))) (GX.tRaiseO A.InvalidStanding (GX.sp_err K A.InvalidStanding "page") E (tCons (tC .non) tNil)) tNext)
  (tSeq (tFor (iEnum K (tCons (tVar 3) tNil)) (gTup K 2 (gCons (gName 4) (gCons (gName 5) gNil)))
  (tIfS (tNot (tTest (tChain oLe oLe (tC (.int 0)) (tVar 5) (tVar 2)))) (GX.tRaiseO A.InvalidStanding (GX.sp_err K A.InvalidStanding "page") E (tCons (tVar 4) tNil)) tNext))
  (tSeq (sFld K (tVar 0) (tVar 1) "web")
  (tSeq (sFld K (tVar 0) (tVar 2) "lines")
  (sFld K (tVar 0) (tCB (oListOf K) (tCons (tVar 3) tNil)) "_blank")))))

theorem rd_Standing_init {K : PySem.W.Frag} {A : CA} (T : CTS K A) {vs : List V} {H : Hp} {Q : VK} {E : XK} (h : sp_Standing_init K A vs H Q E) :
    t_Standing_init K A E { nx := fun _ H' => Q .non H', rt := Q } (start ["self", "web", "lines", "blank", "page", "number"] vs) H := by
  obtain ⟨H0, st, dx, w, pb, n, lines, rs, bs, rfl, rfl, fst_, fdx, ndx, hW, n1, n2, hb, hbl, kL, kB, q⟩ := h
  have e0 : Same H0 (upd (upd H0 dx (.own st)) st (.ins A.Standing dx [])) := same_mut (same_new fdx) fst_
  have hst : (upd (upd H0 dx (.own st)) st (.ins A.Standing dx [])) st = some (.ins A.Standing dx []) := upd_same
  generalize upd (upd H0 dx (.own st)) st (.ins A.Standing dx []) = H1 at e0 hst
  have hb1 := e0 _ _ hb
  obtain ⟨dw, d, ar, tg, hd, h1⟩ := (hW.same e0).obj
  unfold t_Standing_init
  walk_at "go"
  refine w_fld2 h1 T.b.c_Web T.b.n_Web_pages web_pages ?_
  walk_at "go"
  rw [List.length_map]
  refine w_iteN (fun c => ?_) (fun c => ?_)
  · refine w_raiseO (v := .non) (H1 := H1) T.e_IS T.f_IS (fun Q q => by walk_at "go"; exact q) (Raised.at e0 (kL (by omega)))
  have hlen : bs.length = n.toNat := by omega
  walk_at "go"
  refine ⟨pb, _, rfl, SqL.of hb1, ?_⟩
  refine forE (xs := bs.map V.int) (fun i σ H' => ∃ k4 k5 : Option V, σ = [some (.ref st), some (.ref w), some (.int lines), some (.ref pb), k4, k5] ∧ Same H1 H' ∧ ∀ (j : Nat) (c : Int), j < i → bs[j]? = some c → 0 ≤ c ∧ c ≤ lines) ?_ ?_ ?_ ?_
  · exact ⟨none, none, rfl, Same.refl _, fun j c hj => absurd hj (Nat.not_lt_zero j)⟩
  · rintro i σ H2 _ ⟨k4, k5, rfl, e, _⟩
    exact SqL.of (e _ _ hb1)
  · rintro i x Tt σ H2 hx ⟨k4, k5, rfl, e, ok⟩ hT
    obtain ⟨z, hz, rfl⟩ : ∃ z, bs[i]? = some z ∧ V.int z = x := by
      rw [List.getElem?_map] at hx
      cases hbi : bs[i]? with
      | none => rw [hbi] at hx; cases hx
      | some z => rw [hbi] at hx; exact ⟨z, rfl, Option.some.inj hx⟩
    have ok' : 0 ≤ z → z ≤ lines → ∀ (j : Nat) (c : Int), j < i + 1 → bs[j]? = some c → 0 ≤ c ∧ c ≤ lines := fun z0 z1 j c hj hc => by
      rcases Nat.lt_or_ge j i with h | h
      · exact ok j c h hc
      · have : j = i := by omega
        subst this
        rw [hz] at hc
        cases hc
        exact ⟨z0, z1⟩
    have eT := same_new (o := .tup [V.int (i : Nat), .int z]) hT
    have bad : (z < 0 ∨ lines < z) → ∀ H3 : Hp, Same H1 H3 → Raised A.InvalidStanding "page" (.int (i : Nat)) H3 E := fun c H3 e3 => Raised.at (e0.trans e3) (kB hlen i ⟨z, hz, c, ok⟩)
    walk_at "go"
    refine w_iteD (fun c => ?_) (fun c => ?_)
    · walk_at "go"
      by_cases c2 : z ≤ lines
      · rw [decide_eq_true c2]
        refine w_iteF ?_
        walk_at "go"
        exact ⟨_, _, rfl, e.trans eT, ok' c c2⟩
      · rw [decide_eq_false c2]
        refine w_iteNF ?_
        exact w_raiseO (v := .int (i : Nat)) T.e_IS T.f_IS (fun Q q => by walk_at "go"; exact q) (bad (.inr (by omega)) _ (e.trans eT))
    · walk_at "go"
      exact w_raiseO (D := { nx := fun _ _ => True, rt := fun _ _ => True }) (v := .int (i : Nat)) T.e_IS T.f_IS (fun Q q => by walk_at "go"; exact q) (bad (.inl (by omega)) _ (e.trans eT))
  · rintro σ H2 ⟨k4, k5, rfl, e, ok⟩
    have hB : BK lines n.toNat bs := ⟨hlen, fun b hb => by
      obtain ⟨j, hj⟩ := List.getElem?_of_mem hb
      exact ok j b (by rw [List.length_map]; exact (List.getElem?_eq_some_iff.mp hj).1) hj⟩
    have hst2 := e _ _ hst
    walk_at "go"
    refine w_sfld2 hst2 T.c_Standing T.n_Standing_web (by decide) ?_
    walk_at "go"
    refine w_sfld2 upd_same T.c_Standing T.n_Standing_lines (Nat.lt_of_le_of_lt (len_put1 (Nat.zero_le 0)) (by decide)) ?_
    have nbs : pb ≠ st := ne_of_none hb fst_
    have hb3 : (upd (upd H2 st (.ins A.Standing dx (putF "web" (.ref w) []))) st (.ins A.Standing dx (putF "lines" (.int lines) (putF "web" (.ref w) [])))) pb = some (.lst (bs.map V.int)) := keepNe (keepNe (e _ _ hb1) nbs) nbs
    have E3 := same_mut (o := .ins A.Standing dx (putF "lines" (.int lines) (putF "web" (.ref w) []))) (same_mut (o := .ins A.Standing dx (putF "web" (.ref w) [])) (e0.trans e) fst_) fst_
    have hst3 : (upd (upd H2 st (.ins A.Standing dx (putF "web" (.ref w) []))) st (.ins A.Standing dx (putF "lines" (.int lines) (putF "web" (.ref w) [])))) st = some (.ins A.Standing dx (putF "lines" (.int lines) (putF "web" (.ref w) []))) := upd_same
    generalize upd (upd H2 st (.ins A.Standing dx (putF "web" (.ref w) []))) st (.ins A.Standing dx (putF "lines" (.int lines) (putF "web" (.ref w) []))) = H3 at hb3 E3 hst3
    walk_at "go"
    intro lb hlb
    walk_at "go"
    have nlb : lb ≠ st := (ne_of_none hst3 hlb).symm
    refine w_sfld2 (keep hst3 hlb) T.c_Standing T.n_Standing__blank (Nat.lt_of_le_of_lt (len_put1 (len_put1 (Nat.zero_le 0))) (by decide)) ?_
    have EE := same_mut (o := .ins A.Standing dx (stFs w lines lb)) (E3.trans (same_new (o := .lst (bs.map V.int)) hlb)) fst_
    exact q hB _ ⟨⟨dx, lb, upd_same, keepNe upd_same nlb, E3.free hlb⟩, fst_⟩ EE ⟨⟨dx, lb, upd_same, keepNe upd_same nlb⟩, hW.same EE⟩
def sp_Standing_blanks (K : PySem.W.Frag) (A : CA) : Sp := fun vs H Q _ => ∃ (st w : Addr) (n lines : Int) (rs : List (Int × Int)) (bs : List Int), vs = [.ref st] ∧ StAt A H st w n rs lines bs ∧
  ∀ (p : Addr) (H' : Hp), H p = none → Same H H' → H' p = some (.lst (bs.map V.int)) → Q (.ref p) H'
def t_Standing_blanks (K : PySem.W.Frag) (A : CA) : TS :=
  (tRet (tCB (oListOf K) (tCons (tFld K (tVar 0) "_blank") tNil)))

theorem rd_Standing_blanks {K : PySem.W.Frag} {A : CA} (T : CTS K A) {vs : List V} {H : Hp} {Q : VK} {E : XK} (h : sp_Standing_blanks K A vs H Q E) :
    t_Standing_blanks K A { nx := fun _ H' => Q .non H', rt := Q } (start ["self"] vs) H := by
  obtain ⟨st, w, n, lines, rs, bs, rfl, hS, q⟩ := h
  obtain ⟨dx, lb, h1, h2⟩ := hS.ex
  unfold t_Standing_blanks
  walk_at "go"
  refine w_fld2 h1 T.c_Standing T.n_Standing__blank st_blank ?_
  walk_at "go"
  intro p hp
  exact q p _ hp (same_new hp) upd_same
end G

end
section
local macro_rules | `(tactic| walk_at "call") => `(tactic| (refine' G.w_cnt ?g1 ?_; (case g1 => walk_at "sq")))

local macro_rules | `(tactic| walk_at "call") => `(tactic| (refine' G.w_popAt ?g1 ?g2 ?g3 ?g4 ?_; (case g1 => walk_at "hp"); (case g2 => walk_at "ar"); (case g3 => walk_at "ar"); (case g4 => walk_at "ar")))

local macro_rules | `(tactic| walk_at "call") => `(tactic| (refine' G.i_whole ?_))

namespace G
open PySem L2 GX
/-- how many lines of page k an answer (the copied pages cs, the page p written) takes -/
def uses (rs : List (Int × Int)) (p : Int) (cs : List Int) (k : Int) : Int :=
  (if p ∉ cs ∧ k = p then 1 else 0) + ((rs.filter fun r => decide (r.1 = k) && (decide (r.2 ∈ cs) && !decide (r.1 ∈ cs))).length : Nat)
/-- a dict of numbers: a page stands in it where the number isn't 0 -/
structure UsedAt (H : Hp) (d : Addr) (m : Nat) (f : Int → Int) : Prop where
  ex : ∃ kvs : List (Key × V), H d = some (.dK kvs) ∧ kvs.length ≤ m ∧ (∀ k : Int, valV kvs (Sum.inl k) = if f k = 0 then none else some (.int (f k))) ∧ ((∀ kv ∈ kvs, ∃ k : Int, kv.1 = Sum.inl k ∧ f k ≠ 0) ∧ (kvs.map Prod.fst).Nodup)
theorem UsedAt.same {H H' : Hp} {d : Addr} {m : Nat} {f : Int → Int} (e : Same H H') (h : UsedAt H d m f) : UsedAt H' d m f := let ⟨kvs, a, b⟩ := h.ex; ⟨kvs, e _ _ a, b⟩
theorem UsedAt.mut {H : Hp} {d p : Addr} {o : HO} {m : Nat} {f : Int → Int} (n : d ≠ p) (h : UsedAt H d m f) : UsedAt (upd H p o) d m f := let ⟨kvs, a, b⟩ := h.ex; ⟨kvs, keepNe a n, b⟩
theorem keys_put {κ : Type} [DecidableEq κ] {kvs : List (κ × V)} {k : κ} {v : V} {kv : κ × V} (h : kv ∈ putK kvs k v) : kv.1 = k ∨ ∃ kv' ∈ kvs, kv'.1 = kv.1 := by
  unfold putK at h
  split at h
  · obtain ⟨y, hy, e⟩ := List.mem_map.mp h
    split at e
    · next c => left; rw [← e]; first | exact c | rfl
    · right; exact ⟨y, hy, by rw [← e]⟩
  · rcases List.mem_append.mp h with q | q
    · right; exact ⟨kv, q, rfl⟩
    · left; rw [List.mem_singleton.mp q]
theorem putK_nodup {κ : Type} [DecidableEq κ] {kvs : List (κ × V)} {k : κ} {v : V} (h : (kvs.map Prod.fst).Nodup) : ((putK kvs k v).map Prod.fst).Nodup := by
  unfold putK
  split
  · rw [List.map_map]
    have e : (Prod.fst ∘ fun kv : κ × V => if kv.1 = k then (kv.1, v) else kv) = Prod.fst := funext fun kv => by
      show (if kv.1 = k then (kv.1, v) else kv).1 = kv.1
      split <;> rfl
    rw [e]; exact h
  · next c =>
    rw [List.map_append]
    refine List.nodup_append.mpr ⟨h, List.nodup_cons.mpr ⟨List.not_mem_nil, List.nodup_nil⟩, fun a ha b hb => ?_⟩
    obtain ⟨kv, hkv, rfl⟩ := List.mem_map.mp ha
    have hb2 : b = k := by simpa using hb
    rw [hb2]
    intro z
    exact c (List.any_eq_true.mpr ⟨kv, hkv, decide_eq_true z⟩)
theorem UsedAt.put {H : Hp} {d : Addr} {m : Nat} {f g : Int → Int} {k v : Int} (h : UsedAt H d m f) (hm : m < 1000000) (hv : v = g k) (g0 : g k ≠ 0) (he : ∀ j, j ≠ k → g j = f j) {D : L2.St → Hp → Prop} {σ : L2.St} (q : ∀ H', (∃ o, H' = upd H d o) → UsedAt H' d (m + 1) g → D σ H') :
    ∃ (a : Addr) (H4 : Hp), V.ref d = V.ref a ∧ DPut H a (.int k) (.int v) H4 ∧ D σ H4 := by
  subst hv
  obtain ⟨kvs, hd, hl, hv, hk, hn⟩ := h.ex
  refine ⟨d, _, rfl, DPut.k (k := Sum.inl k) hd (by rw [sizeLine_eq]; omega), q _ ⟨_, rfl⟩ ⟨_, upd_same, Nat.le_trans (length_putK _ _ _) (by omega), fun j => ?_, fun kv hkv => ?_, putK_nodup hn⟩⟩
  · rw [valV_put]
    by_cases c : j = k
    · subst c; rw [if_pos rfl, if_neg g0]
    · rw [if_neg (fun z => c (Sum.inl.inj z)), hv, he j c]
  · rcases keys_put hkv with z | ⟨kv', hkv', z⟩
    · exact ⟨k, z, g0⟩
    · obtain ⟨j, e, f0⟩ := hk kv' hkv'
      refine ⟨j, z ▸ e, ?_⟩
      by_cases c : j = k
      · subst c; exact g0
      · rw [he j c]; exact f0
theorem UsedAt.get {H : Hp} {d : Addr} {m : Nat} {f : Int → Int} {k : Int} (h : UsedAt H d m f) : ∃ o, DGet H d (.int k) o ∧ o.getD (.int 0) = .int (f k) := by
  obtain ⟨kvs, hd, hl, hv, hk⟩ := h.ex
  refine ⟨_, DGet.k (k := Sum.inl k) hd, ?_⟩
  rw [hv]
  by_cases c : f k = 0
  · rw [if_pos c, c]; rfl
  · rw [if_neg c]; rfl
theorem UsedAt.isD {H : Hp} {d : Addr} {m : Nat} {f : Int → Int} (h : UsedAt H d m f) : IsD H d := let ⟨kvs, hd, _⟩ := h.ex; .inl ⟨kvs, .inl hd⟩
def sp_lines_used (K : PySem.W.Frag) (A : CA) : Sp := fun vs H Q E => ∃ (w t : Addr) (n p : Int) (cs : List Int) (rs : List (Int × Int)), vs = [.ref w, .int p, .ref t] ∧ WebX A H w n rs ∧ RG n rs ∧ SqT K H t (cs.map V.int) ∧ cs.length ≤ 100 ∧ (∀ c ∈ cs, 0 ≤ c ∧ c < n) ∧
  ∀ (d : Addr) (H' : Hp), H d = none → Same H H' → UsedAt H' d 100000 (uses rs p cs) → Q (.ref d) H'
def cntD (cs done : List Int) (k : Int) : Nat := (done.filter fun h => decide (h = k) && !decide (h ∈ cs)).length
theorem cntD_out {y k : Int} {cs done : List Int} (h : y ∈ cs) : cntD cs (done ++ [y]) k = cntD cs done k := by
  unfold cntD
  rw [List.filter_append, List.filter_cons, if_neg (by simp [h]), List.filter_nil, List.append_nil]
theorem cntD_in {y k : Int} {cs done : List Int} (h : y ∉ cs) : cntD cs (done ++ [y]) k = if k = y then cntD cs done k + 1 else cntD cs done k := by
  unfold cntD
  rw [List.filter_append, List.length_append, List.filter_cons]
  by_cases c : k = y
  · subst c
    rw [if_pos (by simp [h]), if_pos rfl]
    rfl
  · rw [if_neg (by simp [Ne.symm c]), if_neg c]
    rfl
/-- after the holders in done -/
def usesD (p : Int) (cs done : List Int) (k : Int) : Int := (if p ∉ cs ∧ k = p then 1 else 0) + (cntD cs done k : Nat)
theorem usesD_nn {p : Int} {cs done : List Int} {k : Int} : 0 ≤ usesD p cs done k := by
  unfold usesD; split <;> omega
theorem usesD_out {p y : Int} {cs done : List Int} (h : y ∈ cs) : usesD p cs (done ++ [y]) = usesD p cs done := funext fun k => by
  unfold usesD
  rw [cntD_out h]
theorem usesD_in {p y k : Int} {cs done : List Int} (h : y ∉ cs) : usesD p cs (done ++ [y]) k = if k = y then usesD p cs done k + 1 else usesD p cs done k := by
  unfold usesD
  rw [cntD_in h]
  by_cases c : k = y
  · rw [if_pos c, if_pos c]; omega
  · rw [if_neg c, if_neg c]
theorem usesD_all {p : Int} {cs ns : List Int} {rs : List (Int × Int)} (hs : ns.Pairwise (· < ·)) (hm : ∀ k : Int, k ∈ ns ↔ k ∈ cs) (h0 : ∀ c ∈ cs, 0 ≤ c) (hr : ∀ r ∈ rs, 0 ≤ r.2) :
    usesD p cs (ns.flatMap fun c => grp (rs.map swp) c.toNat) = uses rs p cs := funext fun k => by
  unfold usesD uses cntD
  have e := count_by ns (fun h => decide (h = k) && !decide (h ∈ cs)) (rs.map swp) (hs.imp fun h => Int.ne_of_lt h) (fun c hc => h0 c ((hm c).mp hc)) (fun r hr2 => by
    obtain ⟨y, hy, rfl⟩ := List.mem_map.mp hr2
    exact hr y hy)
  rw [List.filter_flatMap, e, List.filter_map, List.length_map]
  congr 3
  refine List.filter_congr fun r _ => ?_
  have z : decide (r.2 ∈ ns) = decide (r.2 ∈ cs) := decide_eq_decide.mpr (hm r.2)
  show (decide (r.2 ∈ ns) && (decide (r.1 = k) && !decide (r.1 ∈ cs))) = _
  rw [z]
  cases decide (r.2 ∈ cs) <;> cases decide (r.1 = k) <;> rfl
theorem w_dput {td ty tv : TE} {D : Ends} {σ : L2.St} {H : Hp} (h : tv σ H fun v H1 => td σ H1 fun x H2 => ty σ H2 fun y H3 => ∃ a H4, x = V.ref a ∧ DPut H3 a y v H4 ∧ D.nx σ H4) : sDPut td ty tv D σ H := h
theorem w_dget2 {td ty tx : TE} {σ : L2.St} {H : Hp} {Q : VK} (h : td σ H fun x H1 => ∃ a, x = .ref a ∧ IsD H1 a ∧ ty σ H1 fun y H2 => tx σ H2 fun z H3 => ∃ o, DGet H3 a y o ∧ Q (o.getD z) H3) : tDGet2 td ty tx σ H Q := h
def t_lines_used (K : PySem.W.Frag) (A : CA) (w : World) (E : XK) : TS :=
  (tSeq (tAsg (tCB (GX.rSetTI K w) (tCons (tVar 2) tNil)) (gName 3))
  (tSeq (tAsg tDNewK (gName 4))
  (C8.tCut (tIfS (tTest (tOp (rSNotIn w) (tVar 1) (tVar 3))) (sDPut (tVar 4) (tVar 1) (tC (.int 1))) tNext)
  (tSeq (tFor (iList K (tCB (GX.rSortSet w) (tCons (tVar 3) tNil))) (gName 5)
  (tFor (iList K (tMeth A.Web "holders" (sp_Web_holders K A) [] E (tVar 0) (tCons (tVar 5) tNil))) (gName 6)
  (tIfS (tTest (tOp (rSNotIn w) (tVar 6) (tVar 3))) (sDPut (tVar 4) (tVar 6) (tOp oAdd (tDGet2 (tVar 4) (tVar 6) (tC (.int 0))) (tC (.int 1)))) tNext)))
  (tRet (tVar 4))))))

theorem rd_lines_used {K : PySem.W.Frag} {A : CA} {w0 : World} {vs : List V} {H : Hp} {Q : VK} {E : XK} (h : sp_lines_used K A vs H Q E) :
    t_lines_used K A w0 E { nx := fun _ H' => Q .non H', rt := Q } (start ["web", "page", "copied", "anew", "used", "target", "holder"] vs) H := by
  obtain ⟨w, t, n, p, cs, rs, rfl, hW, hR, ht, hcl, hcb, q⟩ := h
  unfold t_lines_used
  walk_at "go"
  refine ⟨t, cs, rfl, ht, by omega, fun sa m hm hsa => ?_⟩
  walk_at "go"
  intro d hd
  have nsd : sa ≠ d := ne_of_none (o := SetO w0 sa (fun j => decide (j ∈ cs)) m) upd_same hd
  have hd0 : H d = none := by
    have z := hd
    rw [upd_ne nsd.symm] at z
    exact z
  have e1 : Same H (upd (upd H sa (SetO w0 sa (fun j => decide (j ∈ cs)) m)) d (.dK [])) := (same_new hsa).trans (same_new hd)
  have hs1 : (upd (upd H sa (SetO w0 sa (fun j => decide (j ∈ cs)) m)) d (.dK [])) sa = some (SetO w0 sa (fun j => decide (j ∈ cs)) m) := keep upd_same hd
  have U1 : UsedAt (upd (upd H sa (SetO w0 sa (fun j => decide (j ∈ cs)) m)) d (.dK [])) d 0 (fun _ => 0) := ⟨[], upd_same, Nat.le_refl _, fun k => rfl, (fun kv h => by cases h), List.nodup_nil⟩
  generalize upd (upd H sa (SetO w0 sa (fun j => decide (j ∈ cs)) m)) d (.dK []) = H1 at e1 hs1 U1
  walk_at "go"
  refine w_cut (fun σ H' => σ = [some (.ref w), some (.int p), some (.ref t), some (.ref sa), some (.ref d), none, none] ∧ Same H H' ∧ H' sa = some (SetO w0 sa (fun j => decide (j ∈ cs)) m) ∧ UsedAt H' d 1 (usesD p cs [])) ?_ ?_
  · walk_at "go"
    refine ⟨p, sa, _, m, rfl, rfl, hs1, ?_⟩
    refine ⟨_, rfl, ?_⟩
    by_cases c : p ∈ cs
    · rw [decide_eq_true c]
      walk_at "go"
      refine ⟨rfl, e1, hs1, ?_⟩
      have z : usesD p cs [] = fun _ => 0 := funext fun k => by unfold usesD cntD; simp [c]
      rw [z]
      obtain ⟨kvs, a, b, c2⟩ := U1.ex
      exact ⟨kvs, a, by omega, c2⟩
    · rw [decide_eq_false c]
      refine w_iteNF ?_
      refine w_dput ?_
      walk_at "go"
      refine U1.put (g := usesD p cs []) (by decide) (by unfold usesD cntD; simp [c]) (by unfold usesD cntD; simp [c]) (fun j hj => by unfold usesD cntD; simp [hj]) ?_
      rintro H2 ⟨o, rfl⟩ U2
      exact ⟨rfl, same_mut e1 hd0, keepNe hs1 nsd, U2⟩
  rintro σ H2 ⟨rfl, e2, hs2, U2⟩
  clear U1 hs1 e1 hd hsa
  walk_at "go"
  refine ⟨sa, _, m, rfl, hs2, by omega, fun ns p1 hso hmem hlen hp1 => ?_⟩
  have hmem2 : ∀ k : Int, k ∈ ns ↔ k ∈ cs := fun k => (hmem k).trans (by simp)
  have e3 := e2.trans (same_new (o := .lst (ns.map V.int)) hp1)
  have hs3 : (upd H2 p1 (.lst (ns.map V.int))) sa = some (SetO w0 sa (fun j => decide (j ∈ cs)) m) := keep hs2 hp1
  have g3 : (upd H2 p1 (.lst (ns.map V.int))) p1 = some (.lst (ns.map V.int)) := upd_same
  have npd : p1 ≠ d := fun z => by
    obtain ⟨kvs, a, _⟩ := U2.ex
    rw [← z, hp1] at a; cases a
  have U3 := U2.mut (o := .lst (ns.map V.int)) npd.symm
  generalize upd H2 p1 (.lst (ns.map V.int)) = H3 at e3 hs3 g3 U3
  clear U2 hs2 e2 hp1
  have nl : ns.length ≤ 100 := by omega
  walk_at "go"
  refine forL (xs := ns.map V.int) (fun i σ H' => ∃ k5 k6 : Option V, σ = [some (.ref w), some (.int p), some (.ref t), some (.ref sa), some (.ref d), k5, k6] ∧ Same H H' ∧ H' sa = some (SetO w0 sa (fun j => decide (j ∈ cs)) m) ∧ H' p1 = some (.lst (ns.map V.int)) ∧ UsedAt H' d (1 + 600 * i) (usesD p cs ((ns.take i).flatMap fun c => grp (rs.map swp) c.toNat))) ?_ ?_ ?_ ?_
  · exact ⟨none, none, rfl, e3, hs3, g3, U3⟩
  · rintro i σ H4 _ ⟨k5, k6, rfl, _, _, g4, _⟩
    exact SqL.of g4
  · rintro i x σ H4 hx ⟨k5, k6, rfl, e4, hs4, g4, U4⟩
    obtain ⟨z, hz, rfl⟩ : ∃ z, ns[i]? = some z ∧ x = V.int z := by
      rw [List.getElem?_map] at hx
      cases e : ns[i]? with
      | none => rw [e] at hx; cases hx
      | some z => rw [e] at hx; exact ⟨z, rfl, (Option.some.inj hx).symm⟩
    have zb := hcb z ((hmem2 z).mp (List.mem_of_getElem? hz))
    have il : i < ns.length := (List.getElem?_eq_some_iff.mp hz).1
    have hW4 := hW.same e4
    obtain ⟨dx, dd, ar, tg, hd, h1⟩ := hW4.obj
    obtain ⟨_, _, _, _, _, us, _, _, _, _, _, h5, h6, _⟩ := hW4.ex
    have glen : (grp (rs.map swp) z.toNat).length ≤ 600 := by
      have a := grp_len (rs := rs.map swp) (k := z.toNat)
      have b := h5.length
      rw [List.length_map] at a
      omega
    clear h5 h6
    walk_at "go"
    refine w_mth2 h1 web_noholders ?_
    walk_at "go"
    refine ⟨w, n, z, rs, rfl, hW4, i_told zb.1 zb.2 fun q5 H5 hq5 e5 g5 => ?_⟩
    have nq : q5 ≠ d := fun y => by
      obtain ⟨kvs, a, _⟩ := U4.ex
      rw [← y, hq5] at a; cases a
    have e6 := e4.trans e5
    have hs5 := e5 _ _ hs4
    have g45 := e5 _ _ g4
    have U5 := U4.same e5
    rw [flat_take hz]
    generalize (ns.take i).flatMap (fun c => grp (rs.map swp) c.toNat) = done at U5
    generalize grp (rs.map swp) z.toNat = l at glen g5
    walk_at "go"
    refine forL (xs := l.map V.int) (fun j σ H' => ∃ k6 : Option V, σ = [some (.ref w), some (.int p), some (.ref t), some (.ref sa), some (.ref d), some (.int z), k6] ∧ Same H H' ∧ H' sa = some (SetO w0 sa (fun j => decide (j ∈ cs)) m) ∧ H' p1 = some (.lst (ns.map V.int)) ∧ H' q5 = some (.lst (l.map V.int)) ∧ UsedAt H' d (1 + 600 * i + j) (usesD p cs (done ++ l.take j))) ?_ ?_ ?_ ?_
    · refine ⟨_, rfl, e6, hs5, g45, g5, ?_⟩
      rw [List.take_zero, List.append_nil]
      exact U5
    · rintro j σ H6 _ ⟨k6, rfl, _, _, _, g6, _⟩
      exact SqL.of g6
    · rintro j y σ H6 hy ⟨k6, rfl, e7, hs6, g46, g6, U6⟩
      obtain ⟨h, hh, rfl⟩ : ∃ h, l[j]? = some h ∧ y = V.int h := by
        rw [List.getElem?_map] at hy
        cases e : l[j]? with
        | none => rw [e] at hy; cases hy
        | some h => rw [e] at hy; exact ⟨h, rfl, (Option.some.inj hy).symm⟩
      have jl : j < l.length := (List.getElem?_eq_some_iff.mp hh).1
      have step : done ++ l.take (j + 1) = (done ++ l.take j) ++ [h] := by rw [List.take_succ, hh, List.append_assoc]; rfl
      walk_at "go"
      refine ⟨h, sa, _, m, rfl, rfl, hs6, _, rfl, ?_⟩
      rw [step]
      by_cases c : h ∈ cs
      · rw [decide_eq_true c]
        walk_at "go"
        refine ⟨_, rfl, e7, hs6, g46, g6, ?_⟩
        rw [usesD_out c]
        obtain ⟨kvs, a, b, c2⟩ := U6.ex
        exact ⟨kvs, a, by omega, c2⟩
      · rw [decide_eq_false c]
        refine w_iteNF ?_
        refine w_dput ?_
        walk_at "go"
        refine w_dget2 ?_
        walk_at "go"
        obtain ⟨o, ho, hv⟩ := U6.get (k := h)
        refine ⟨U6.isD, ?_⟩
        walk_at "go"
        refine ⟨o, ho, ?_⟩
        rw [hv]
        have nn := usesD_nn (p := p) (cs := cs) (done := done ++ l.take j) (k := h)
        have vv : usesD p cs (done ++ l.take j ++ [h]) h = usesD p cs (done ++ l.take j) h + 1 := by rw [usesD_in c, if_pos rfl]
        walk_at "go"
        refine U6.put (g := usesD p cs (done ++ l.take j ++ [h])) (by omega) vv.symm (by omega) (fun y hy => by rw [usesD_in c, if_neg hy]) ?_
        rintro H7 ⟨o', rfl⟩ U7
        have g6d : q5 ≠ d := nq
        exact ⟨_, rfl, same_mut e7 hd0, keepNe hs6 nsd, keepNe g46 npd, keepNe g6 nq, U7⟩
    · rintro σ H6 ⟨k6, rfl, e7, hs6, g46, g6, U6⟩
      rw [List.length_map, List.take_length] at U6
      refine ⟨_, _, rfl, e7, hs6, g46, ?_⟩
      obtain ⟨kvs, a, b, c2⟩ := U6.ex
      exact ⟨kvs, a, by omega, c2⟩
  · rintro σ H4 ⟨k5, k6, rfl, e4, hs4, g4, U4⟩
    rw [List.length_map, List.take_length, usesD_all hso hmem2 (fun c hc => (hcb c hc).1) (fun r hr => (hR.bd r hr).2.2.1)] at U4
    walk_at "go"
    obtain ⟨kvs, a, b, c2⟩ := U4.ex
    exact q d H4 hd0 e4 ⟨kvs, a, by omega, c2⟩
end G

end
section
local macro_rules | `(tactic| walk_at "call") => `(tactic| (refine' G.w_cnt ?g1 ?_; (case g1 => walk_at "sq")))

local macro_rules | `(tactic| walk_at "call") => `(tactic| (refine' G.w_popAt ?g1 ?g2 ?g3 ?g4 ?_; (case g1 => walk_at "hp"); (case g2 => walk_at "ar"); (case g3 => walk_at "ar"); (case g4 => walk_at "ar")))

local macro_rules | `(tactic| walk_at "call") => `(tactic| (refine' G.i_whole ?_))

namespace G
open PySem L2 GX
/-- the numbers stand: no page takes more lines than it has blank -/
def Fits (n : Int) (bs : List Int) (f : Int → Int) : Prop := ∀ k, 0 ≤ k → k < n → f k ≤ bs.getD k.toNat 0
def sp_Standingcheck_lines (K : PySem.W.Frag) (A : CA) : Sp := fun vs H Q E => ∃ (st w d : Addr) (n L : Int) (m : Nat) (rs : List (Int × Int)) (bs : List Int) (f : Int → Int), vs = [.ref st, .ref d] ∧ StAt A H st w n rs L bs ∧ BK L n.toNat bs ∧ UsedAt H d m f ∧ (∀ k, f k ≠ 0 → 0 ≤ k ∧ k < n) ∧
  (∀ z, 0 ≤ z → z < n → bs.getD z.toNat 0 < f z → (∀ y, 0 ≤ y → y < z → f y ≤ bs.getD y.toNat 0) → Raised A.NoLine "page" (.int z) H E) ∧ (Fits n bs f → ∀ H', Same H H' → Q .non H')
theorem w_dget {td ty : TE} {σ : L2.St} {H : Hp} {Q : VK} (h : td σ H fun x H1 => ty σ H1 fun y H2 => ∃ a v, x = V.ref a ∧ DGet H2 a y (some v) ∧ Q v H2) : tDGet td ty σ H Q := h
theorem w_listD {H : Hp} {Q : VK} {p : Addr} {kvs : List (Key × V)} (h : H p = some (.dK kvs)) (q : ∀ l, H l = none → Q (.ref l) (upd H l (.lst (kvs.map fun kv => kV kv.1)))) : rListD [.ref p] H Q := ⟨p, kvs, rfl, h, q⟩
theorem keys_int : ∀ {kvs : List (Key × V)} {P : Int → Prop}, (∀ kv ∈ kvs, ∃ k : Int, kv.1 = Sum.inl k ∧ P k) → ∃ ks : List Int, (kvs.map fun kv => kV kv.1) = ks.map V.int ∧ ks.length = kvs.length ∧ ∀ k, k ∈ ks ↔ ∃ kv ∈ kvs, kv.1 = Sum.inl k
  | [], _, _ => ⟨[], rfl, rfl, fun k => by simp⟩
  | kv :: r, P, h => by
    obtain ⟨ks, e, l, m⟩ := keys_int (kvs := r) (P := P) fun x hx => h x (List.mem_cons_of_mem _ hx)
    obtain ⟨k, hk, _⟩ := h kv List.mem_cons_self
    refine ⟨k :: ks, ?_, by simp [l], fun j => ?_⟩
    · rw [List.map_cons, List.map_cons, e, hk]; rfl
    · rw [List.mem_cons, m j]
      constructor
      · rintro (rfl | ⟨x, hx, e⟩)
        · exact ⟨kv, List.mem_cons_self, hk⟩
        · exact ⟨x, List.mem_cons_of_mem _ hx, e⟩
      · rintro ⟨x, hx, e⟩
        rcases List.mem_cons.mp hx with rfl | hx
        · left; rw [hk] at e; exact (Sum.inl.inj e).symm
        · exact .inr ⟨x, hx, e⟩
theorem UsedAt.keys {H : Hp} {d : Addr} {m : Nat} {f : Int → Int} (h : UsedAt H d m f) : ∃ kvs ks, H d = some (.dK kvs) ∧ (kvs.map fun kv => kV kv.1) = List.map V.int ks ∧ ks.length ≤ m ∧ ∀ k, k ∈ ks ↔ f k ≠ 0 := by
  obtain ⟨kvs, hd, hl, hv, hk, _⟩ := h.ex
  obtain ⟨ks, e, l, mm⟩ := keys_int hk
  refine ⟨kvs, ks, hd, e, by omega, fun k => (mm k).trans ⟨fun ⟨kv, hkv, e2⟩ => ?_, fun f0 => ?_⟩⟩
  · obtain ⟨j, e3, f0⟩ := hk kv hkv
    rw [e2] at e3
    rw [Sum.inl.inj e3]; exact f0
  · have z := hv k
    rw [if_neg f0] at z
    unfold valV at z
    cases hf : kvs.find? fun kv => decide (kv.1 = Sum.inl k) with
    | none => rw [hf] at z; cases z
    | some kv => exact ⟨kv, List.mem_of_find?_eq_some hf, by simpa using List.find?_some hf⟩
theorem UsedAt.getS {H : Hp} {d : Addr} {m : Nat} {f : Int → Int} {k : Int} (h : UsedAt H d m f) (f0 : f k ≠ 0) : DGet H d (.int k) (some (.int (f k))) := by
  obtain ⟨kvs, hd, hl, hv, hk⟩ := h.ex
  have z := DGet.k (k := Sum.inl k) hd
  rw [hv, if_neg f0] at z
  exact z
def t_Standingcheck_lines (K : PySem.W.Frag) (A : CA) (E : XK) : TS :=
  (tFor (iList K (tCB (rSortedI K) (tCons (tCB rListD (tCons (tVar 1) tNil)) tNil))) (gName 2)
  (tIfS (tTest (tOp oGt (tDGet (tVar 1) (tVar 2)) (tOp (rIxL K) (tFld K (tVar 0) "_blank") (tVar 2)))) (GX.tRaiseO A.NoLine (GX.sp_err K A.NoLine "page") E (tCons (tVar 2) tNil)) tNext))

theorem rd_Standingcheck_lines {K : PySem.W.Frag} {A : CA} (T : CTS K A) {vs : List V} {H : Hp} {Q : VK} {E : XK} (h : sp_Standingcheck_lines K A vs H Q E) :
    t_Standingcheck_lines K A E { nx := fun _ H' => Q .non H', rt := Q } (start ["self", "used", "page"] vs) H := by
  obtain ⟨st, w, d, n, L, m, rs, bs, f, rfl, hS, hB, hU, hf, k1, k2⟩ := h
  obtain ⟨dx, lb, h1, h2⟩ := hS.ex
  obtain ⟨kvs, ks, hd, ek, _, hks⟩ := hU.keys
  unfold t_Standingcheck_lines
  walk_at "go"
  refine w_listD hd fun l1 hl1 => ?_
  rw [ek]
  have e1 := same_new (o := .lst (ks.map V.int)) hl1
  have g1 : (upd H l1 (.lst (ks.map V.int))) l1 = some (.lst (ks.map V.int)) := upd_same
  generalize upd H l1 (.lst (ks.map V.int)) = H1 at e1 g1
  walk_at "go"
  refine w_sortI (SqL.of g1) fun ns l2 pm so hl2 => ?_
  have hns : ∀ k, k ∈ ns ↔ f k ≠ 0 := fun k => pm.mem_iff.trans (hks k)
  have e2 := e1.trans (same_new (o := .lst (ns.map V.int)) hl2)
  have g2 : (upd H1 l2 (.lst (ns.map V.int))) l2 = some (.lst (ns.map V.int)) := upd_same
  generalize upd H1 l2 (.lst (ns.map V.int)) = H2 at e2 g2
  have b0 : ∀ y : Int, 0 ≤ bs.getD y.toNat 0 := fun y => by
    rw [List.getD_eq_getElem?_getD]
    cases hy : bs[y.toNat]? with
    | none => exact Int.le_refl 0
    | some b => exact (hB.bd b (List.mem_of_getElem? hy)).1
  walk_at "go"
  refine forL (xs := ns.map V.int) (fun i σ H' => ∃ k2 : Option V, σ = [some (.ref st), some (.ref d), k2] ∧ H' = H2 ∧ ∀ y ∈ ns.take i, f y ≤ bs.getD y.toNat 0) ?_ ?_ ?_ ?_
  · exact ⟨none, rfl, rfl, fun y hy => by cases hy⟩
  · rintro i σ H3 _ ⟨k2, rfl, rfl, _⟩
    exact SqL.of g2
  · rintro i x σ H3 hx ⟨k3, rfl, rfl, hin⟩
    obtain ⟨z, hz, rfl⟩ : ∃ z, ns[i]? = some z ∧ x = V.int z := by
      rw [List.getElem?_map] at hx
      cases e : ns[i]? with
      | none => rw [e] at hx; cases hx
      | some z => rw [e] at hx; exact ⟨z, rfl, (Option.some.inj hx).symm⟩
    have f0 := (hns z).mp (List.mem_of_getElem? hz)
    have zb := hf z f0
    obtain ⟨b, b1, b2, _, _⟩ := hB.get (k := z) zb.1 (by omega)
    have bd : bs.getD z.toNat 0 = b := by rw [List.getD_eq_getElem?_getD, b1]; rfl
    walk_at "go"
    refine w_dget ?_
    walk_at "go"
    refine ⟨d, _, rfl, (hU.same e2).getS f0, ?_⟩
    have lbH := e2 _ _ h2
    walk_at "go"
    refine w_fld2 (e2 _ _ h1) T.c_Standing T.n_Standing__blank st_blank ?_
    walk_at "go"
    refine w_iteD (fun c => ?_) (fun c => ?_)
    · refine w_raiseO (v := .int z) (H1 := H3) T.e_NoLine T.f_NoLine (fun Q q => by walk_at "go"; exact q) (Raised.at e2 (k1 z zb.1 zb.2 (by omega) fun y y0 yz => ?_))
      by_cases fy : f y = 0
      · rw [fy]; exact b0 y
      · obtain ⟨j, hj⟩ := List.getElem?_of_mem ((hns y).mpr fy)
        rcases Nat.lt_or_ge j i with c2 | c2
        · exact hin y (List.mem_of_getElem? (i := j) (by rw [List.getElem?_take_of_lt c2]; exact hj))
        · exfalso
          obtain ⟨hi, ei⟩ := List.getElem?_eq_some_iff.mp hz
          obtain ⟨hj2, ej⟩ := List.getElem?_eq_some_iff.mp hj
          rcases Nat.lt_or_eq_of_le c2 with c3 | c3
          · have := List.pairwise_iff_getElem.mp so i j hi hj2 c3
            omega
          · subst c3; omega
    · walk_at "go"
      refine ⟨_, rfl, rfl, fun y hy => ?_⟩
      rw [List.take_succ, hz] at hy
      rcases List.mem_append.mp hy with k | k
      · exact hin y k
      · obtain rfl : y = z := by simpa using k
        omega
  · rintro σ H3 ⟨k3, rfl, rfl, hin⟩
    rw [List.length_map, List.take_length] at hin
    walk_at "go"
    refine k2 (fun k k0 k1 => ?_) H3 e2
    by_cases fk : f k = 0
    · rw [fk]; exact b0 k
    · exact hin k ((hns k).mpr fk)
end G

end
section
local macro_rules | `(tactic| walk_at "call") => `(tactic| (refine' G.w_cnt ?g1 ?_; (case g1 => walk_at "sq")))

local macro_rules | `(tactic| walk_at "call") => `(tactic| (refine' G.w_popAt ?g1 ?g2 ?g3 ?g4 ?_; (case g1 => walk_at "hp"); (case g2 => walk_at "ar"); (case g3 => walk_at "ar"); (case g4 => walk_at "ar")))

local macro_rules | `(tactic| walk_at "call") => `(tactic| (refine' G.i_whole ?_))

namespace G
open PySem L2 GX
theorem st_no {w lb : Addr} {l : Int} {m : Str} (h1 : ("_blank" : Str) ≠ m) (h2 : ("lines" : Str) ≠ m) (h3 : ("web" : Str) ≠ m) : (stFs w l lb).lookup m = none := by
  unfold stFs
  rw [lookup_putF, if_neg (fun z => h1 z.symm), lookup_putF, if_neg (fun z => h2 z.symm), lookup_putF, if_neg (fun z => h3 z.symm)]
  rfl
end G

end
section
local macro_rules | `(tactic| walk_at "call") => `(tactic| (refine' G.w_cnt ?g1 ?_; (case g1 => walk_at "sq")))

local macro_rules | `(tactic| walk_at "call") => `(tactic| (refine' G.w_popAt ?g1 ?g2 ?g3 ?g4 ?_; (case g1 => walk_at "hp"); (case g2 => walk_at "ar"); (case g3 => walk_at "ar"); (case g4 => walk_at "ar")))

local macro_rules | `(tactic| walk_at "call") => `(tactic| (refine' G.i_whole ?_))

namespace G
open PySem L2 GX
/-- the blank lines behind an answer -/
def aft (n : Int) (rs : List (Int × Int)) (bs : List Int) (L p : Int) (cs : List Int) : List Int := (List.range n.toNat).map fun k : Nat => if (k : Int) ∈ cs then L else bs.getD k 0 - uses rs p cs k
theorem aft_len {n : Int} {rs : List (Int × Int)} {bs : List Int} {L p : Int} {cs : List Int} : (aft n rs bs L p cs).length = n.toNat := by
  unfold aft; rw [List.length_map, List.length_range]
theorem uses_nn {rs : List (Int × Int)} {p : Int} {cs : List Int} {k : Int} : 0 ≤ uses rs p cs k := by
  unfold uses; split <;> omega
theorem uses_in {n : Int} {rs : List (Int × Int)} {p : Int} {cs : List Int} (hR : RG n rs) (hp : 0 ≤ p ∧ p < n) {k : Int} (h : uses rs p cs k ≠ 0) : 0 ≤ k ∧ k < n := by
  unfold uses at h
  by_cases c : p ∉ cs ∧ k = p
  · rw [c.2]; exact hp
  · rw [if_neg c] at h
    have l : 0 < (rs.filter fun r => decide (r.1 = k) && (decide (r.2 ∈ cs) && !decide (r.1 ∈ cs))).length := by omega
    obtain ⟨r, hr⟩ := List.exists_mem_of_length_pos l
    obtain ⟨h1, h2⟩ := List.mem_filter.mp hr
    have e : r.1 = k := by
      have z := (Bool.and_eq_true_iff.mp h2).1
      exact of_decide_eq_true z
    have := hR.bd r h1
    omega
theorem aft_bk {n : Int} {rs : List (Int × Int)} {bs : List Int} {L p : Int} {cs : List Int} (hB : BK L n.toNat bs) (hL : 0 ≤ L) (hF : Fits n bs (uses rs p cs)) : BK L n.toNat (aft n rs bs L p cs) := by
  refine ⟨aft_len, fun b hb => ?_⟩
  obtain ⟨k, hk, rfl⟩ := List.mem_map.mp hb
  have kn := List.mem_range.mp hk
  by_cases c : (k : Int) ∈ cs
  · rw [if_pos c]; exact ⟨hL, Int.le_refl L⟩
  · rw [if_neg c]
    have a := hF k (by omega) (by omega)
    have b := uses_nn (rs := rs) (p := p) (cs := cs) (k := k)
    rw [Int.toNat_natCast] at a
    have d : bs.getD k 0 ≤ L := by
      rw [List.getD_eq_getElem?_getD]
      cases e : bs[k]? with
      | none => exact hL
      | some z => exact (hB.bd z (List.mem_of_getElem? e)).2
    omega
theorem sqT_same {K : PySem.W.Frag} {H H' : Hp} {p : Addr} {xs : List V} (h : SqT K H p xs) (e : Same H H') : SqT K H' p xs := by
  rcases h with (h | ⟨o, h⟩) | h
  · exact .inl (.inl (e _ _ h))
  · exact .inl (.inr ⟨o, e _ _ h⟩)
  · exact .inr h
theorem w_forT {K : PySem.W.Frag} {te : TE} {g : TG} {tb : TS} {D : Ends} {σ : L2.St} {H : Hp} (h : te σ H fun x H1 => ∃ a, x = .ref a ∧ (∃ xs, SqT K H1 a xs) ∧ ForW (Itt K a) g tb D σ H1) : tFor (iTup K te) g tb D σ H := h
theorem forT {K : PySem.W.Frag} {g : TG} {tb : TS} {D : Ends} {σ : L2.St} {H : Hp} {a : Addr} {xs : List V} (Pv : Nat → L2.St → Hp → Prop) (h0 : Pv 0 σ H) (hl : ∀ i σ1 H1, i ≤ xs.length → Pv i σ1 H1 → SqT K H1 a xs)
    (hs : ∀ i x σ1 H1, xs[i]? = some x → Pv i σ1 H1 → g x σ1 H1 fun σ2 H2 => tb { D with nx := Pv (i + 1), ct := Pv (i + 1), bk := D.nx } σ2 H2) (hd : ∀ σ1 H1, Pv xs.length σ1 H1 → D.nx σ1 H1) : ForW (Itt K a) g tb D σ H := for_tup (xs := xs) Pv h0 hl hs hd
theorem set_range {m j : Nat} {f : Nat → Int} {v : Int} (hj : j < m) : (((List.range m).map f).map V.int).set j (.int v) = ((List.range m).map fun k => if k = j then v else f k).map V.int := by
  refine List.ext_getElem? fun k => ?_
  rw [List.getElem?_set]
  by_cases c : j = k
  · subst c
    rw [if_pos rfl, if_pos (by rw [List.length_map, List.length_map, List.length_range]; exact hj)]
    simp [hj]
  · rw [if_neg c]
    rcases Nat.lt_or_ge k m with h | h
    · simp [h, Ne.symm c]
    · simp [h]
def sp_Standing_after (K : PySem.W.Frag) (A : CA) : Sp := fun vs H Q E => ∃ (st w t : Addr) (n L p : Int) (rs : List (Int × Int)) (bs cs : List Int), vs = [.ref st, .int p, .ref t] ∧ StAt A H st w n rs L bs ∧ RG n rs ∧ BK L n.toNat bs ∧ 1 ≤ n ∧ n ≤ 500 ∧ 0 ≤ L ∧ SqT K H t (cs.map V.int) ∧ cs.length ≤ 50 ∧
  (∀ z, (p :: cs).find? (isOut n) = some z → Raised A.NoPage "page" (.int z) H E) ∧
  ((p :: cs).find? (isOut n) = none → (∀ z, 0 ≤ z → z < n → bs.getD z.toNat 0 < uses rs p cs z → (∀ y, 0 ≤ y → y < z → uses rs p cs y ≤ bs.getD y.toNat 0) → Raised A.NoLine "page" (.int z) H E) ∧
    (Fits n bs (uses rs p cs) → ∀ (s2 : Addr) (H' : Hp), StNew A H H' s2 w L (aft n rs bs L p cs) → Same H H' → StAt A H' s2 w n rs L (aft n rs bs L p cs) → Q (.ref s2) H'))
theorem BK.noBad {L : Int} {n : Nat} {bs : List Int} (h : BK L n bs) (k : Nat) : ¬ badK L bs k := fun ⟨b, hb, c, _⟩ => by have := h.bd b (List.mem_of_getElem? hb); omega
def t_Standing_after (K : PySem.W.Frag) (A : CA) (E : XK) : TS :=
  (tSeq (tDrop (tCall (sp_check_pages K A) [] E (tCons (tFld K (tVar 0) "web") (tCons (tLst (tCons (tVar 1) (_root_.StX.tStar K (tVar 2) tNil))) tNil))))
  (tSeq (tAsg (tCall (sp_lines_used K A) [] E (tCons (tFld K (tVar 0) "web") (tCons (tVar 1) (tCons (tVar 2) tNil)))) (gName 3))
  (tSeq (tDrop (tMeth A.Standing "_check_lines" (sp_Standingcheck_lines K A) [] E (tVar 0) (tCons (tVar 3) tNil)))
  (tSeq (tAsg (tLc (iEnum K (tCons (tFld K (tVar 0) "_blank") tNil)) (gTup K 2 (gCons (gName 5) (gCons (gName 6) gNil))) tYes (tOp oSub (tVar 6) (tDGet2 (tVar 3) (tVar 5) (tC (.int 0)))) [5, 6]) (gName 4))
  (tSeq (tFor (iTup K (tVar 2)) (gName 7)
  (tAsg (tFld K (tVar 0) "lines") (gSub (tVar 4) (tVar 7) rSetL)))
  (tRet (tMake A.Standing (sp_Standing_init K A) [] E (tCons (tFld K (tVar 0) "web") (tCons (tFld K (tVar 0) "lines") (tCons (tVar 4) tNil))))))))))

theorem rd_Standing_after {K : PySem.W.Frag} {A : CA} (T : CTS K A) {vs : List V} {H : Hp} {Q : VK} {E : XK} (h : sp_Standing_after K A vs H Q E) :
    t_Standing_after K A E { nx := fun _ H' => Q .non H', rt := Q } (start ["self", "page", "copied", "used", "blank", "at", "number", "target"] vs) H := by
  obtain ⟨st, w, t, n, L, p, rs, bs, cs, rfl, hS, hR, hB, n0, n1, L0, ht, hcl, k1, k2⟩ := h
  obtain ⟨dx, lb, h1, h2⟩ := hS.ex
  obtain ⟨dw, d0, ar, tg, hd0, g1⟩ := hS.web.obj
  unfold t_Standing_after
  walk_at "go"
  refine w_fld2 h1 T.c_Standing T.n_Standing_web st_web ?_
  walk_at "go"
  refine GY.w_star ?_
  walk_at "go"
  refine ⟨t, _, rfl, .inl ht, ?_⟩
  walk_at "go"
  refine ⟨Nat.le_of_lt (small1000 (by rw [List.length_cons, List.length_append, List.length_map, List.length_nil]; omega)), fun l1 hl1 => ?_⟩
  rw [List.append_nil]
  have e1 := same_new (o := .lst (V.int p :: cs.map V.int)) hl1
  have gl1 : (upd H l1 (.lst (V.int p :: cs.map V.int))) l1 = some (.lst ((p :: cs).map V.int)) := upd_same
  generalize upd H l1 (.lst (V.int p :: cs.map V.int)) = H1 at e1 gl1
  walk_at "go"
  refine ⟨w, l1, dw, _, n, p :: cs, rfl, e1 _ _ g1, web_pages, SqL.of gl1, fun z hz => Raised.at e1 (k1 z hz), fun hz => ?_⟩
  obtain ⟨k2, k3⟩ := k2 hz
  have inn : ∀ z ∈ p :: cs, 0 ≤ z ∧ z < n := fun z hz2 => in_of (by simpa using List.find?_eq_none.mp hz z hz2)
  have pb := inn p List.mem_cons_self
  have cb : ∀ c ∈ cs, 0 ≤ c ∧ c < n := fun c hc => inn c (List.mem_cons_of_mem _ hc)
  clear k1 gl1
  walk_at "go"
  refine w_fld2 (e1 _ _ h1) T.c_Standing T.n_Standing_web st_web ?_
  walk_at "go"
  refine ⟨w, t, n, p, cs, rs, rfl, hS.web.same e1, hR, sqT_same ht e1, by omega, cb, fun d H2 hd e2 hU => ?_⟩
  have E2 := e1.trans e2
  walk_at "go"
  refine w_mth2 (E2 _ _ h1) (st_no (by decide) (by decide) (by decide)) ?_
  walk_at "go"
  refine ⟨st, w, d, n, L, 100000, rs, bs, uses rs p cs, rfl, hS.same E2, hB, hU, fun k hk => uses_in hR pb hk, fun z z0 z1 c1 c2 => Raised.at E2 (k2 z z0 z1 c1 c2), fun hF H3 e3 => ?_⟩
  have E3 := E2.trans e3
  have hU3 := hU.same e3
  have h13 := E3 _ _ h1
  have h23 := E3 _ _ h2
  walk_at "go"
  refine w_lcE ?_
  walk_at "go"
  refine w_fld2 h13 T.c_Standing T.n_Standing__blank st_blank ?_
  walk_at "go"
  refine ⟨lb, bs.map V.int, rfl, SqL.of h23, ?_⟩
  refine lcE (xs := bs.map V.int) (fun Dl i H' => Same H3 H' ∧ H' Dl = some (.lst (((List.range i).map fun k : Nat => bs.getD k 0 - uses rs p cs k).map V.int))) (fun Dl hD => ⟨same_new hD, upd_same⟩) (fun Dl i H' hD hi ⟨e, _⟩ => SqL.of (e _ _ h23)) ?_ ?_
  · rintro Dl i x Tt H4 hD hx ⟨e4, g4⟩ hT
    obtain ⟨b, hb, rfl⟩ : ∃ b, bs[i]? = some b ∧ x = V.int b := by
      rw [List.getElem?_map] at hx
      cases e : bs[i]? with
      | none => rw [e] at hx; cases hx
      | some b => rw [e] at hx; exact ⟨b, rfl, (Option.some.inj hx).symm⟩
    have il : i < bs.length := (List.getElem?_eq_some_iff.mp hb).1
    have bl := hB.len
    have bd : bs.getD i 0 = b := by rw [List.getD_eq_getElem?_getD, hb]; rfl
    have e5 := e4.trans (same_new (o := .tup [V.int (i : Nat), .int b]) hT)
    have g5 : (upd H4 Tt (.tup [V.int (i : Nat), .int b])) Dl = _ := keep g4 hT
    have gT : (upd H4 Tt (.tup [V.int (i : Nat), .int b])) Tt = some (.tup [V.int (i : Nat), .int b]) := upd_same
    have hU5 := hU3.same e5
    have sl : (((List.range i).map fun k : Nat => bs.getD k 0 - uses rs p cs k).map V.int).length < sizeLine := small1000 (by rw [List.length_map, List.length_map, List.length_range]; omega)
    generalize upd H4 Tt (.tup [V.int (i : Nat), .int b]) = H5 at e5 g5 gT hU5
    walk_at "go"
    refine w_dget2 ?_
    walk_at "go"
    obtain ⟨o, ho, hv⟩ := hU5.get (k := (i : Int))
    refine ⟨hU5.isD, ?_⟩
    walk_at "go"
    refine ⟨o, ho, ?_⟩
    rw [hv]
    walk_at "go"
    refine ⟨same_mut e5 hD, ?_⟩
    rw [List.range_succ, List.map_append, List.map_append]
    show _ = some (HO.lst (_ ++ [V.int (bs.getD i 0 - uses rs p cs i)]))
    rw [bd]
    exact upd_same
  rintro b2 H4 hb2 ⟨e4, g4⟩
  rw [List.length_map, hB.len] at g4
  have E4 := E3.trans e4
  have b2H : H b2 = none := E3.free hb2
  walk_at "go"
  refine w_forT ?_
  walk_at "go"
  refine ⟨⟨_, sqT_same ht E4⟩, ?_⟩
  refine forT (xs := cs.map V.int) (fun i σ H' => ∃ k7 : Option V, σ = [some (.ref st), some (.int p), some (.ref t), some (.ref d), some (.ref b2), none, none, k7] ∧ Same H H' ∧ H' b2 = some (.lst (((List.range n.toNat).map fun k : Nat => if (k : Int) ∈ cs.take i then L else bs.getD k 0 - uses rs p cs k).map V.int))) ?_ ?_ ?_ ?_
  · refine ⟨none, rfl, E4, ?_⟩
    rw [g4]
    congr 3
  · rintro i σ H5 _ ⟨k7, rfl, e5, _⟩
    exact sqT_same ht e5
  · rintro i x σ H5 hx ⟨k7, rfl, e5, g5⟩
    obtain ⟨c, hc, rfl⟩ : ∃ c, cs[i]? = some c ∧ x = V.int c := by
      rw [List.getElem?_map] at hx
      cases e : cs[i]? with
      | none => rw [e] at hx; cases hx
      | some c => rw [e] at hx; exact ⟨c, rfl, (Option.some.inj hx).symm⟩
    have cb1 := cb c (List.mem_of_getElem? hc)
    obtain ⟨_, _, _, hj, _, _⟩ := hB.get (k := c) cb1.1 (by omega)
    rw [List.length_map, hB.len] at hj
    walk_at "go"
    refine w_fld2 (e5 _ _ h1) T.c_Standing T.n_Standing_lines st_lines ?_
    refine w_sub ?_
    walk_at "go"
    refine w_setL g5 (by rw [List.length_map, List.length_map, List.length_range]; exact hj) ?_
    walk_at "go"
    refine ⟨_, rfl, same_mut e5 b2H, ?_⟩
    rw [set_range (by omega), upd_same]
    congr 3
    refine List.map_congr_left fun k hk => ?_
    have tk : cs.take (i + 1) = cs.take i ++ [c] := by rw [List.take_succ, hc]; rfl
    rw [tk]
    by_cases ck : k = c.toNat
    · have : (k : Int) = c := by omega
      rw [if_pos ck, this, if_pos (List.mem_append_right _ List.mem_cons_self)]
    · have nk : ¬ (k : Int) = c := fun z => ck (by omega)
      rw [if_neg ck]
      by_cases m : (k : Int) ∈ cs.take i
      · rw [if_pos m, if_pos (List.mem_append_left _ m)]
      · rw [if_neg m, if_neg (fun z => by
          rcases List.mem_append.mp z with z | z
          · exact m z
          · exact nk (List.mem_singleton.mp z))]
  · rintro σ H5 ⟨k7, rfl, e5, g5⟩
    rw [List.length_map, List.take_length] at g5
    have g5' : H5 b2 = some (.lst ((aft n rs bs L p cs).map V.int)) := g5
    walk_at "go"
    refine w_fld2 (e5 _ _ h1) T.c_Standing T.n_Standing_web st_web ?_
    walk_at "go"
    refine w_fld2 (e5 _ _ h1) T.c_Standing T.n_Standing_lines st_lines ?_
    walk_at "go"
    intro s2 dx2 hs2 hdx2 nx2
    refine ⟨H5, s2, dx2, w, b2, n, L, rs, aft n rs bs L p cs, rfl, rfl, hs2, hdx2, nx2, hS.web.same e5, n0, n1, g5', by rw [aft_len]; omega, fun c => absurd aft_len c, fun _ k hk => absurd hk (BK.noBad (aft_bk hB L0 hF) k), fun _ H6 n6 e6 hS6 => ?_⟩
    refine ⟨rfl, ?_⟩
    exact k3 hF s2 H6 (n6.base e5) (e5.trans e6) hS6
end G

end
section
local macro_rules | `(tactic| walk_at "call") => `(tactic| (refine' G.w_cnt ?g1 ?_; (case g1 => walk_at "sq")))

local macro_rules | `(tactic| walk_at "call") => `(tactic| (refine' G.w_popAt ?g1 ?g2 ?g3 ?g4 ?_; (case g1 => walk_at "hp"); (case g2 => walk_at "ar"); (case g3 => walk_at "ar"); (case g4 => walk_at "ar")))

local macro_rules | `(tactic| walk_at "call") => `(tactic| (refine' G.i_whole ?_))

local macro_rules | `(tactic| walk_at "bx") => `(tactic| first | assumption | exact G.Bx.new (by walk_at "bx") (by assumption) | exact G.Bx.same (by assumption) (by walk_at "bx"))
local macro_rules | `(tactic| walk_at "call") => `(tactic| (refine' G.i_take ?g1 ?g2 ?g3 ?_; (case g1 => walk_at "bx"); (case g2 => walk_at "ar"); (case g3 => walk_at "ar")))

namespace G
open PySem L2 GX
/-- the box: a list of numbers, a place in it, three numbers more -/
def Bx (H : Hp) (s a : Addr) : Prop := ∃ (i x y z : Int) (ns : List Int), H s = some (.lst [.ref a, .int i, .int x, .int y, .int z]) ∧ H a = some (.lst (ns.map V.int)) ∧ 0 ≤ i ∧ a ≠ s
theorem Bx.neS {H : Hp} {s a p : Addr} (h : Bx H s a) (hp : H p = none) : p ≠ s := let ⟨_, _, _, _, _, h1, _⟩ := h; (ne_of_none h1 hp).symm
theorem Bx.neA {H : Hp} {s a p : Addr} (h : Bx H s a) (hp : H p = none) : p ≠ a := let ⟨_, _, _, _, _, _, h2, _⟩ := h; (ne_of_none h2 hp).symm
theorem Bx.same {H H' : Hp} {s a : Addr} (e : Same H H') (h : Bx H s a) : Bx H' s a := let ⟨i, x, y, z, ns, h1, h2, r⟩ := h; ⟨i, x, y, z, ns, e _ _ h1, e _ _ h2, r⟩
theorem Bx.new {H : Hp} {s a p : Addr} {o : HO} (h : Bx H s a) (hp : H p = none) : Bx (upd H p o) s a := h.same (same_new hp)
theorem Bx.mut {H : Hp} {s a p : Addr} {o : HO} (h : Bx H s a) (n1 : p ≠ s) (n2 : p ≠ a) : Bx (upd H p o) s a := let ⟨i, x, y, z, ns, h1, h2, r⟩ := h; ⟨i, x, y, z, ns, keepNe h1 n1.symm, keepNe h2 n2.symm, r⟩
theorem But.backB {H H' : Hp} {s a p : Addr} (b : But s H H') (h : Bx H' s a) (hp : H' p = none) : H p = none := by
  cases e : H p with
  | none => rfl
  | some o =>
    have := b p o (h.neS hp) e
    rw [this] at hp; cases hp
theorem ix3 {a b c d : V} {r : List V} : ixN (a :: b :: c :: d :: r).length 3 = some 3 := ixn rfl (by simp)
theorem ix4 {a b c d e : V} {r : List V} : ixN (a :: b :: c :: d :: e :: r).length 4 = some 4 := ixn rfl (by simp)
def sp_law_take (K : PySem.W.Frag) (A : CA) : Sp := fun vs H Q _ => ∃ (s a : Addr) (m : Int), vs = [.ref s, .int m] ∧ Bx H s a ∧ 0 < m ∧ m < 1000000 ∧ ∀ (r : Int) (H' : Hp), 0 ≤ r → r < m → But s H H' → Bx H' s a → Q (.int r) H'
theorem i_take {K : PySem.W.Frag} {A : CA} {H : Hp} {Q : VK} {E : XK} {s a : Addr} {m : Int} (hs : Bx H s a) (h0 : 0 < m) (h1 : m < 1000000)
    (k : ∀ (r : Int) (H' : Hp), 0 ≤ r → r < m → But s H H' → Bx H' s a → Q (.int r) H') : sp_law_take K A [.ref s, .int m] H Q E := ⟨s, a, m, rfl, hs, h0, h1, k⟩
def t_law_take (K : PySem.W.Frag) (A : CA) : TS :=
  (C8.tCut (tIfS (tAnd (tTest (tOp rEq (tOp (rIxL K) (tVar 0) (tC (.int 2))) (tC (.int 0)))) (tTest (tOp oLt (tOp (rIxL K) (tVar 0) (tC (.int 1))) (tCB (rLenQ K) (tCons (tOp (rIxL K) (tVar 0) (tC (.int 0))) tNil))))) (tSeq (tAsg (tOp (rIxL K) (tOp (rIxL K) (tVar 0) (tC (.int 0))) (tOp (rIxL K) (tVar 0) (tC (.int 1)))) (gName 2))
  (tSeq (tAsg (tOp oAdd (tOp (rIxL K) (tVar 0) (tC (.int 1))) (tC (.int 1))) (gSub (tVar 0) (tC (.int 1)) rSetL))
  (tIfS (tTest (tOp oGe (tVar 2) (tOp oPow (tC (.int 10)) (tC (.int 18))))) (tAsg (tVar 2) (gSub (tVar 0) (tC (.int 2)) rSetL)) (tAsg (tOp oMod (tCB oInt (tCons (tOp oAdd (tOp oAdd (tOp oMul (tOp (rIxL K) (tVar 0) (tC (.int 3))) (tC (.int 31))) (tOp oMul (tVar 2) (tC (.int 7)))) (tC (.int 1))) tNil)) (tC (.int 2147483647))) (gSub (tVar 0) (tC (.int 3)) rSetL))))) tNext)
  (tSeq (tIfS (tTest (tOp oGt (tOp (rIxL K) (tVar 0) (tC (.int 2))) (tC (.int 0)))) (tSeq (tAsg (tOp oMod (tCB oInt (tCons (tOp (rIxL K) (tVar 0) (tC (.int 2))) tNil)) (tVar 1)) (gName 3))
  (tSeq (tAsg (tOp oDiv (tOp (rIxL K) (tVar 0) (tC (.int 2))) (tVar 1)) (gSub (tVar 0) (tC (.int 2)) rSetL))
  (tRet (tVar 3)))) tNext)
  (tSeq (tAsg (tOp oAdd (tOp (rIxL K) (tVar 0) (tC (.int 4))) (tC (.int 1))) (gSub (tVar 0) (tC (.int 4)) rSetL))
  (tSeq (tAsg (tOp oMod (tCB oInt (tCons (tOp oAdd (tOp oAdd (tOp oMul (tOp (rIxL K) (tVar 0) (tC (.int 3))) (tC (.int 48271))) (tOp oMul (tOp (rIxL K) (tVar 0) (tC (.int 4))) (tC (.int 69621)))) (tC (.int 11))) tNil)) (tC (.int 2147483629))) (gSub (tVar 0) (tC (.int 3)) rSetL))
  (tSeq (tAsg (tOp oMod (tCB oInt (tCons (tOp oAdd (tOp oMul (tOp (rIxL K) (tVar 0) (tC (.int 3))) (tOp oAdd (tOp (rIxL K) (tVar 0) (tC (.int 3))) (tOp (rIxL K) (tVar 0) (tC (.int 4))))) (tOp oMul (tC (.int 7919)) (tOp (rIxL K) (tVar 0) (tC (.int 4))))) tNil)) (tC (.int 998244353))) (gName 4))
  (tSeq (tAsg (tOp oMod (tCB oInt (tCons (tOp oAdd (tOp oMul (tVar 4) (tC (.int 16807))) (tOp oDiv (tOp (rIxL K) (tVar 0) (tC (.int 3))) (tC (.int 4096)))) tNil)) (tC (.int 2147483587))) (gName 5))
  (tRet (tOp oMod (tCB oInt (tCons (tOp oDiv (tVar 5) (tC (.int 16))) tNil)) (tVar 1)))))))))

theorem rd_law_take {K : PySem.W.Frag} {A : CA} {vs : List V} {H : Hp} {Q : VK} {E : XK} (h : sp_law_take K A vs H Q E) :
    t_law_take K A { nx := fun _ H' => Q .non H', rt := Q } (start ["box", "many", "cell", "digit", "once", "twice"] vs) H := by
  obtain ⟨s, a, m, rfl, ⟨i, x, y, z, ns, h1, h2, i0, nas⟩, m0, m1, q⟩ := h
  have bs : ∀ {H1 : Hp} {o : HO}, But s H H1 → But s H (upd H1 s o) := fun b => b.self
  unfold t_law_take
  walk_at "go"
  refine w_cut (fun σ H' => ∃ (k2 : Option V) (i x y z : Int), σ = [some (.ref s), some (.int m), k2, none, none, none] ∧ But s H H' ∧ H' s = some (.lst [.ref a, .int i, .int x, .int y, .int z]) ∧ H' a = some (.lst (ns.map V.int)) ∧ 0 ≤ i) ?_ ?_
  · walk_at "go"
    refine w_iteD (fun c => ?_) (fun c => ?_)
    · walk_at "go"
      refine w_iteD (fun c2 => ?_) (fun c2 => ?_)
      · rw [List.length_map] at c2
        obtain ⟨n, hn⟩ : ∃ n, ns[i.toNat]? = some n := ⟨_, List.getElem?_eq_getElem (by omega)⟩
        have av : atI (ns.map V.int) i = some (.int n) := at_of (j := i.toNat) (by omega) (by rw [List.getElem?_map, hn]; rfl)
        walk_at "go"
        have h3 : (upd H s (.lst ([V.ref a, .int i, .int x, .int y, .int z].set 1 (.int (i + 1))))) s = some (.lst [V.ref a, .int (i + 1), .int x, .int y, .int z]) := upd_same
        have h4 := keepNe (o' := .lst ([V.ref a, .int i, .int x, .int y, .int z].set 1 (.int (i + 1)))) h2 nas
        have b3 : But s H (upd H s (.lst ([V.ref a, .int i, .int x, .int y, .int z].set 1 (.int (i + 1))))) := bs But.refl
        generalize upd H s (.lst ([V.ref a, .int i, .int x, .int y, .int z].set 1 (.int (i + 1)))) = H3 at h3 h4 b3
        walk_at "go"
        refine w_iteD (fun c3 => ?_) (fun c3 => ?_)
        · walk_at "go"
          exact ⟨_, i + 1, n, y, z, rfl, bs b3, upd_same, keepNe h4 nas, by omega⟩
        · walk_at "go"
          refine w_setL h3 ix3 ?_
          exact ⟨_, i + 1, x, _, z, rfl, bs b3, upd_same, keepNe h4 nas, by omega⟩
      · walk_at "go"
        exact ⟨none, i, x, y, z, rfl, But.refl, h1, h2, i0⟩
    · walk_at "go"
      exact ⟨none, i, x, y, z, rfl, But.refl, h1, h2, i0⟩
  clear h1 h2 i0
  rintro σ H1 ⟨k2, i, x, y, z, rfl, b1, h1, h2, i0⟩
  walk_at "go"
  refine w_iteD (fun c => ?_) (fun c => ?_)
  · walk_at "go"
    exact q _ _ (Int.emod_nonneg _ (by omega)) (Int.emod_lt_of_pos _ m0) (bs b1) ⟨i, _, y, z, ns, upd_same, keepNe h2 nas, i0, nas⟩
  walk_at "go"
  refine w_setL h1 ix4 ?_
  have h3 : (upd H1 s (.lst ([V.ref a, .int i, .int x, .int y, .int z].set 4 (.int (z + 1))))) s = some (.lst [V.ref a, .int i, .int x, .int y, .int (z + 1)]) := upd_same
  have h4 := keepNe (o' := .lst ([V.ref a, .int i, .int x, .int y, .int z].set 4 (.int (z + 1)))) h2 nas
  have b3 := bs (o := .lst ([V.ref a, .int i, .int x, .int y, .int z].set 4 (.int (z + 1)))) b1
  generalize upd H1 s (.lst ([V.ref a, .int i, .int x, .int y, .int z].set 4 (.int (z + 1)))) = H3 at h3 h4 b3
  clear h1 h2 b1
  walk_at "go"
  refine w_setL h3 ix3 ?_
  have y0 := Int.emod_nonneg (y * 48271 + (z + 1) * 69621 + 11) (b := 2147483629) (by decide)
  have y1 := Int.emod_lt_of_pos (y * 48271 + (z + 1) * 69621 + 11) (b := 2147483629) (by decide)
  generalize (y * 48271 + (z + 1) * 69621 + 11) % 2147483629 = y2 at y0 y1
  have h5 : (upd H3 s (.lst ([V.ref a, .int i, .int x, .int y, .int (z + 1)].set 3 (.int y2)))) s = some (.lst [V.ref a, .int i, .int x, .int y2, .int (z + 1)]) := upd_same
  have h6 := keepNe (o' := .lst ([V.ref a, .int i, .int x, .int y, .int (z + 1)].set 3 (.int y2))) h4 nas
  have b5 := bs (o := .lst ([V.ref a, .int i, .int x, .int y, .int (z + 1)].set 3 (.int y2))) b3
  generalize upd H3 s (.lst ([V.ref a, .int i, .int x, .int y, .int (z + 1)].set 3 (.int y2))) = H5 at h5 h6 b5
  clear h3 h4 b3
  walk_at "go"
  exact q _ _ (Int.emod_nonneg _ (by omega)) (Int.emod_lt_of_pos _ m0) b5 ⟨i, x, y2, z + 1, ns, h5, h6, i0, nas⟩
end G

end
section
local macro_rules | `(tactic| walk_at "call") => `(tactic| (refine' G.w_cnt ?g1 ?_; (case g1 => walk_at "sq")))

local macro_rules | `(tactic| walk_at "call") => `(tactic| (refine' G.w_popAt ?g1 ?g2 ?g3 ?g4 ?_; (case g1 => walk_at "hp"); (case g2 => walk_at "ar"); (case g3 => walk_at "ar"); (case g4 => walk_at "ar")))

local macro_rules | `(tactic| walk_at "call") => `(tactic| (refine' G.i_whole ?_))

local macro_rules | `(tactic| walk_at "bx") => `(tactic| first | assumption | exact G.Bx.new (by walk_at "bx") (by assumption) | exact G.Bx.same (by assumption) (by walk_at "bx"))
local macro_rules | `(tactic| walk_at "call") => `(tactic| (refine' G.i_take ?g1 ?g2 ?g3 ?_; (case g1 => walk_at "bx"); (case g2 => walk_at "ar"); (case g3 => walk_at "ar")))

namespace G
open PySem L2 GX
def sp_law_box (K : PySem.W.Frag) (A : CA) : Sp := fun vs H Q _ => ∃ (p : Addr) (ns : List Int), vs = [.ref p] ∧ SqL K H p (ns.map V.int) ∧ ns.length ≤ 63 ∧ ∀ (s a : Addr) (H' : Hp), H s = none → Same H H' → Bx H' s a → Q (.ref s) H'
def t_law_box (K : PySem.W.Frag) (A : CA) : TS :=
  (tRet (tLst (tCons (tLc (iList K (tSl (rSlL K) (tVar 0) tNoPart (tPart (tC (.int 63))))) (gName 1) tYes (tCB oAbs (tCons (tCB oInt (tCons (tVar 1) tNil)) tNil)) [1]) (tCons (tC (.int 0)) (tCons (tC (.int 0)) (tCons (tC (.int 46)) (tCons (tC (.int 0)) tNil)))))))

theorem rd_law_box {K : PySem.W.Frag} {A : CA} {vs : List V} {H : Hp} {Q : VK} {E : XK} (h : sp_law_box K A vs H Q E) :
    t_law_box K A { nx := fun _ H' => Q .non H', rt := Q } (start ["script", "cell"] vs) H := by
  obtain ⟨p, ns, rfl, hp, hn, q⟩ := h
  unfold t_law_box
  walk_at "go"
  intro l1 hl1
  rw [show (63 : Int) = ((63 : Nat) : Int) from rfl, cut_mapTo]
  have e1 := same_new (o := .lst ((ns.take 63).map V.int)) hl1
  have g1 : (upd H l1 (.lst ((ns.take 63).map V.int))) l1 = some (.lst ((ns.take 63).map V.int)) := upd_same
  generalize upd H l1 (.lst ((ns.take 63).map V.int)) = H1 at e1 g1
  have ml : (ns.take 63).length ≤ 63 := List.length_take_le _ _
  generalize ns.take 63 = ms at g1 ml
  walk_at "go"
  refine lcL (xs := ms.map V.int) (fun Dl i H' => Same H1 H' ∧ ∃ xs : List Int, H' Dl = some (.lst (xs.map V.int)) ∧ xs.length = i) (fun Dl hD => ⟨same_new hD, [], upd_same, rfl⟩) (fun Dl i H' hD hi ⟨e, _⟩ => SqL.of (e _ _ g1)) ?_ ?_
  · rintro Dl i y H' hD hy ⟨e, xs, gD, xl⟩
    obtain ⟨b, hb, rfl⟩ : ∃ b, ms[i]? = some b ∧ y = V.int b := by
      rw [List.getElem?_map] at hy
      cases e : ms[i]? with
      | none => rw [e] at hy; cases hy
      | some b => rw [e] at hy; exact ⟨b, rfl, (Option.some.inj hy).symm⟩
    have il : i < ms.length := (List.getElem?_eq_some_iff.mp hb).1
    have sl : (xs.map V.int).length < sizeLine := small1000 (by rw [List.length_map]; omega)
    walk_at "go"
    exact ⟨same_mut e hD, xs ++ [_], by rw [upd_same, List.map_append]; rfl, by rw [List.length_append, List.length_singleton, xl]⟩
  rintro Dl H2 hD ⟨e2, xs, g2, _⟩
  walk_at "go"
  intro s hs
  exact q s Dl _ (e1.free (e2.free hs)) ((e1.trans e2).trans (same_new hs)) ⟨0, 0, 46, 0, xs, upd_same, keep g2 hs, by decide, ne_of_none g2 hs⟩
def sp_law_pages (K : PySem.W.Frag) (A : CA) : Sp := fun vs H Q _ => ∃ (s a : Addr), vs = [.ref s] ∧ Bx H s a ∧ ∀ (n : Int) (H' : Hp), 1 ≤ n → n ≤ 40 → But s H H' → Bx H' s a → Q (.int n) H'
def t_law_pages (K : PySem.W.Frag) (A : CA) : TS :=
  (tSeq (tAsg (tOp oAdd (tC (.int 1)) (tCall (sp_law_take K A) [] E0 (tCons (tVar 0) (tCons (tC (.int 7)) tNil)))) (gName 1))
  (C8.tCut (tIfS (tTest (tOp rEq (tCall (sp_law_take K A) [] E0 (tCons (tVar 0) (tCons (tC (.int 8)) tNil))) (tC (.int 7)))) (tAsg (tOp oAdd (tC (.int 10)) (tCall (sp_law_take K A) [] E0 (tCons (tVar 0) (tCons (tC (.int 31)) tNil)))) (gName 1)) tNext)
  (tRet (tVar 1))))

theorem rd_law_pages {K : PySem.W.Frag} {A : CA} {vs : List V} {H : Hp} {Q : VK} {E : XK} (h : sp_law_pages K A vs H Q E) :
    t_law_pages K A { nx := fun _ H' => Q .non H', rt := Q } (start ["box", "pages"] vs) H := by
  obtain ⟨s, a, rfl, hs, q⟩ := h
  unfold t_law_pages
  walk_at "go"
  intro r H1 r0 r1 b1 s1
  walk_at "go"
  refine w_cut (fun σ H' => ∃ n : Int, σ = [some (.ref s), some (.int n)] ∧ 1 ≤ n ∧ n ≤ 40 ∧ But s H H' ∧ Bx H' s a) ?_ ?_
  · walk_at "go"
    intro y H2 y0 y1 b2 s2
    walk_at "go"
    refine w_iteD (fun c => ?_) (fun c => ?_)
    · walk_at "go"
      intro z H3 z0 z1 b3 s3
      walk_at "go"
      exact ⟨_, rfl, by omega, by omega, (b1.trans b2).trans b3, s3⟩
    · walk_at "go"
      exact ⟨_, rfl, by omega, by omega, b1.trans b2, s2⟩
  rintro σ H2 ⟨n, rfl, n0, n1, b2, s2⟩
  walk_at "go"
  exact q n H2 n0 n1 b2 s2
def sp_law_strange (K : PySem.W.Frag) (A : CA) : Sp := fun vs H Q _ => ∃ (s a : Addr) (n : Int), vs = [.ref s, .int n] ∧ Bx H s a ∧ 1 ≤ n ∧ n ≤ 40 ∧ ∀ (z : Int) (H' : Hp), But s H H' → Bx H' s a → Q (.int z) H'
def t_law_strange (K : PySem.W.Frag) (A : CA) : TS :=
  (tSeq (tAsg (tCall (sp_law_take K A) [] E0 (tCons (tVar 0) (tCons (tC (.int 5)) tNil))) (gName 2))
  (tSeq (tIfS (tTest (tOp rEq (tVar 2) (tC (.int 0)))) (tRet (tUn oNeg (tC (.int 1)))) tNext)
  (tSeq (tIfS (tTest (tOp rEq (tVar 2) (tC (.int 1)))) (tRet (tVar 1)) tNext)
  (tSeq (tIfS (tTest (tOp rEq (tVar 2) (tC (.int 2)))) (tRet (tOp oAdd (tOp oAdd (tVar 1) (tC (.int 1))) (tCall (sp_law_take K A) [] E0 (tCons (tVar 0) (tCons (tC (.int 1000)) tNil))))) tNext)
  (tSeq (tIfS (tTest (tOp rEq (tVar 2) (tC (.int 3)))) (tRet (tOp oSub (tUn oNeg (tC (.int 2))) (tCall (sp_law_take K A) [] E0 (tCons (tVar 0) (tCons (tC (.int 1000)) tNil))))) tNext)
  (tRet (tOp oPow (tC (.int 10)) (tC (.int 30)))))))))

theorem rd_law_strange {K : PySem.W.Frag} {A : CA} {vs : List V} {H : Hp} {Q : VK} {E : XK} (h : sp_law_strange K A vs H Q E) :
    t_law_strange K A { nx := fun _ H' => Q .non H', rt := Q } (start ["box", "pages", "way"] vs) H := by
  obtain ⟨s, a, n, rfl, hs, n0, n1, q⟩ := h
  unfold t_law_strange
  walk_at "go"
  intro r H1 r0 r1 b1 s1
  walk_at "go"
  refine w_iteD (fun c => ?_) (fun c => ?_)
  · walk_at "go"
    exact q _ H1 b1 s1
  walk_at "go"
  refine w_iteD (fun c => ?_) (fun c => ?_)
  · walk_at "go"
    exact q _ H1 b1 s1
  walk_at "go"
  refine w_iteD (fun c => ?_) (fun c => ?_)
  · walk_at "go"
    intro z H2 z0 z1 b2 s2
    walk_at "go"
    exact q _ H2 (b1.trans b2) s2
  walk_at "go"
  refine w_iteD (fun c => ?_) (fun c => ?_)
  · walk_at "go"
    intro z H2 z0 z1 b2 s2
    walk_at "go"
    exact q _ H2 (b1.trans b2) s2
  · walk_at "go"
    exact q _ H1 b1 s1
def sp_law_answer (K : PySem.W.Frag) (A : CA) : Sp := fun vs H Q _ => ∃ (s a : Addr) (n p m : Int), vs = [.ref s, .int n, .int p, .int m] ∧ Bx H s a ∧ 1 ≤ n ∧ n ≤ 40 ∧ 0 ≤ p ∧ p < n ∧ 0 ≤ m ∧ m ≤ 5 ∧ ∀ (cs : List Int) (u : Addr) (H' : Hp), cs.length ≤ 5 → (∀ c ∈ cs, 0 ≤ c ∧ c < n) → H u = none → But s H H' → Bx H' s a → H' u = some (.tup (cs.map V.int)) → Q (.ref u) H'
def t_law_answer (K : PySem.W.Frag) (A : CA) : TS :=
  (tSeq (tAsg (tCall (sp_law_take K A) [] E0 (tCons (tVar 0) (tCons (tC (.int 8)) tNil))) (gName 4))
  (tSeq (tIfS (tTest (tOp oLt (tVar 4) (tC (.int 3)))) (tRet (tTup tNil)) tNext)
  (tSeq (tIfS (tTest (tOp rEq (tVar 4) (tC (.int 3)))) (tRet (tTup (tCons (tVar 2) tNil))) tNext)
  (tSeq (tIfS (tTest (tOp rEq (tVar 4) (tC (.int 4)))) (tRet (tTup (tCons (tCall (sp_law_take K A) [] E0 (tCons (tVar 0) (tCons (tVar 1) tNil))) tNil))) tNext)
  (tSeq (tAsg (tLst tNil) (gName 5))
  (tSeq (tFor (iRng1 (tCons (tVar 3) tNil)) (gName 6)
  (tSeq (tAsg (tCall (sp_law_take K A) [] E0 (tCons (tVar 0) (tCons (tVar 1) tNil))) (gName 2))
  (tIfS (tTest (tOp (rIn K true) (tVar 2) (tVar 5))) (tDrop (tBM K "list" rAppend (tVar 5) (tCons (tVar 2) tNil))) tNext)))
  (tRet (tCB (GY.oTupOf K) (tCons (tCB (rSortedI K) (tCons (tVar 5) tNil)) tNil)))))))))

theorem rd_law_answer {K : PySem.W.Frag} {A : CA} {vs : List V} {H : Hp} {Q : VK} {E : XK} (h : sp_law_answer K A vs H Q E) :
    t_law_answer K A { nx := fun _ H' => Q .non H', rt := Q } (start ["box", "pages", "page", "most", "way", "chosen", "k"] vs) H := by
  obtain ⟨s, a, n, p, m, rfl, hs, n0, n1, p0, p1, m0, m1, q⟩ := h
  unfold t_law_answer
  walk_at "go"
  intro r H1 r0 r1 b1 s1
  walk_at "go"
  refine w_iteD (fun c => ?_) (fun c => ?_)
  · walk_at "go"
    intro u hu
    exact q [] u _ (by decide) (fun _ h => nomatch h) (b1.backB s1 hu) (b1.new hu) (s1.new hu) upd_same
  walk_at "go"
  refine w_iteD (fun c => ?_) (fun c => ?_)
  · walk_at "go"
    intro u hu
    exact q [p] u _ (by simp) (fun x h => by rw [List.mem_singleton.mp h]; exact ⟨p0, p1⟩) (b1.backB s1 hu) (b1.new hu) (s1.new hu) upd_same
  walk_at "go"
  refine w_iteD (fun c => ?_) (fun c => ?_)
  · walk_at "go"
    intro z H2 z0 z1 b2 s2
    walk_at "go"
    intro u hu
    exact q [z] u _ (by simp) (fun x h => by rw [List.mem_singleton.mp h]; exact ⟨z0, z1⟩) ((b1.trans b2).backB s2 hu) ((b1.trans b2).new hu) (s2.new hu) upd_same
  walk_at "go"
  intro l hl
  have lH : H l = none := b1.backB s1 hl
  have nlS := s1.neS hl
  have nlA := s1.neA hl
  have b2 := b1.new (o := .lst []) hl
  have s2 := Bx.new (o := .lst []) s1 hl
  have g2 : (upd H1 l (.lst [])) l = some (.lst (([] : List Int).map V.int)) := upd_same
  generalize upd H1 l (.lst []) = H2 at b2 s2 g2
  walk_at "go"
  refine forR (fun i σ H' => ∃ (k2 k6 : Option V) (xs : List Int), σ = [some (.ref s), some (.int n), k2, some (.int m), some (.int r), some (.ref l), k6] ∧ xs.length ≤ i ∧ (∀ x ∈ xs, 0 ≤ x ∧ x < n) ∧ But s H H' ∧ Bx H' s a ∧ H' l = some (.lst (xs.map V.int))) ?_ ?_ ?_
  · exact ⟨_, none, [], rfl, Nat.le_refl _, (fun _ h => nomatch h), b2, s2, g2⟩
  · rintro i σ H3 hi ⟨k2, k6, xs, rfl, xl, xb, b3, s3, g3⟩
    walk_at "go"
    intro z H4 z0 z1 b4 s4
    have g4 := b4.at nlS g3
    have sl : (xs.map V.int).length < sizeLine := small1000 (by rw [List.length_map]; omega)
    walk_at "go"
    refine w_ninI (SqL.of g4) ?_
    refine ⟨_, rfl, ?_⟩
    by_cases c : z ∈ xs
    · rw [decide_eq_true c]
      refine w_iteNT ?_
      walk_at "go"
      exact ⟨_, _, xs, rfl, by omega, xb, b3.trans b4, s4, g4⟩
    · rw [decide_eq_false c]
      refine w_iteNF ?_
      walk_at "go"
      exact ⟨_, _, xs ++ [z], rfl, by rw [List.length_append, List.length_singleton]; omega, fun x hx => by
        rcases List.mem_append.mp hx with h | h
        · exact xb x h
        · rw [List.mem_singleton.mp h]; exact ⟨z0, z1⟩, (b3.trans b4).mut lH, s4.mut nlS nlA, by rw [upd_same, List.map_append]; rfl⟩
  · rintro σ H3 ⟨k2, k6, xs, rfl, xl, xb, b3, s3, g3⟩
    walk_at "go"
    refine w_sortI (SqL.of g3) fun ys l4 pm _ hl4 => ?_
    have b4 := b3.new (o := .lst (ys.map V.int)) hl4
    have s4 := Bx.new (o := .lst (ys.map V.int)) s3 hl4
    have g4 : (upd H3 l4 (.lst (ys.map V.int))) l4 = some (.lst (ys.map V.int)) := upd_same
    generalize upd H3 l4 (.lst (ys.map V.int)) = H4 at b4 s4 g4
    have yl := pm.length_eq
    walk_at "go"
    refine GY.w_tupL (SqL.of g4) fun u hu => ?_
    exact q ys u _ (by omega) (fun x hx => xb x (pm.mem_iff.mp hx)) (b4.backB s4 hu) (b4.new hu) (s4.new hu) upd_same
end G

end
section
local macro_rules | `(tactic| walk_at "call") => `(tactic| (refine' G.w_cnt ?g1 ?_; (case g1 => walk_at "sq")))

local macro_rules | `(tactic| walk_at "call") => `(tactic| (refine' G.w_popAt ?g1 ?g2 ?g3 ?g4 ?_; (case g1 => walk_at "hp"); (case g2 => walk_at "ar"); (case g3 => walk_at "ar"); (case g4 => walk_at "ar")))

local macro_rules | `(tactic| walk_at "call") => `(tactic| (refine' G.i_whole ?_))

local macro_rules | `(tactic| walk_at "bx") => `(tactic| first | assumption | exact G.Bx.new (by walk_at "bx") (by assumption) | exact G.Bx.same (by assumption) (by walk_at "bx"))
local macro_rules | `(tactic| walk_at "call") => `(tactic| (refine' G.i_take ?g1 ?g2 ?g3 ?_; (case g1 => walk_at "bx"); (case g2 => walk_at "ar"); (case g3 => walk_at "ar")))

namespace G
open PySem L2 GX
theorem PRs.butB {H H' : Hp} {s a : Addr} {us : List V} {rows : List (Int × Int)} (b : But s H H') (h : Bx H s a) (hp : Paired (PR H) us rows) : Paired (PR H') us rows := by
  obtain ⟨_, _, _, _, _, hs, _⟩ := h
  exact hp.mono fun v r ⟨t, z, ht⟩ => ⟨t, z, b t _ (ne_of ht hs (by intro z; cases z)) ht⟩
theorem w_ninRows {K : PySem.W.Frag} {H : Hp} {Q : VK} {p t : Addr} {us : List V} {rows : List (Int × Int)} {r : Int × Int} (hp : H p = some (.lst us)) (hP : Paired (PR H) us rows) (ht : H t = some (.tup [.int r.1, .int r.2])) (q : Q (.bl (!decide (r ∈ rows))) H) : rNotInD K (.ref t) (.ref p) H Q :=
  ⟨pd r, rows.map pd, dp_row ⟨t, rfl, ht⟩, dp_rows hp hP, pd_shaped r, pds_shaped _, by rw [pd_any]; exact q⟩
structure GrowB (H0 : Hp) (s a q : Addr) (us : List V) (rows : List (Int × Int)) (H : Hp) : Prop where
  b : But s H0 H
  bx : Bx H s a
  at_ : H q = some (.lst us)
  pr : Paired (PR H) us rows
  fr : H0 q = none
  ns : q ≠ s
  na : q ≠ a
theorem GrowB.step {H0 H H' : Hp} {s a q : Addr} {us : List V} {rows : List (Int × Int)} (g : GrowB H0 s a q us rows H) (b : But s H H') (hs : Bx H' s a) : GrowB H0 s a q us rows H' :=
  ⟨g.b.trans b, hs, b.at g.ns g.at_, PRs.butB b g.bx g.pr, g.fr, g.ns, g.na⟩
theorem GrowB.push {H0 H : Hp} {s a q t : Addr} {us : List V} {rows : List (Int × Int)} {x y : Int} (g : GrowB H0 s a q us rows H) (ht : H t = none) :
    GrowB H0 s a q (us ++ [.ref t]) (rows ++ [(x, y)]) (upd (upd H t (.tup [.int x, .int y])) q (.lst (us ++ [.ref t]))) :=
  ⟨(g.b.new ht).mut g.fr, (g.bx.new ht).mut g.ns g.na, upd_same, push_row g.at_ g.pr ht, g.fr, g.ns, g.na⟩
theorem GrowB.len {H0 H : Hp} {s a q : Addr} {us : List V} {rows : List (Int × Int)} (g : GrowB H0 s a q us rows H) : us.length = rows.length := g.pr.length
/-- both ends of an or go on alike -/
theorem w_share {A B : Prop} {c P : Prop} [Decidable c] (hP : c → P) (hA : P → A) (hB : ¬ c → (P → A) → B) : if decide c = true then A else B := w_iteD (fun h => hA (hP h)) (fun h => hB h hA)
/-- all pairs lie below k -/
def Top (k : Int) (rows : List (Int × Int)) : Prop := ∀ r ∈ rows, r.1 < k ∧ r.2 < k
theorem Top.le {k m : Int} {rows : List (Int × Int)} (h : Top k rows) (c : k ≤ m) : Top m rows := fun r hr => by have := h r hr; omega
theorem Top.snoc {k : Int} {rows : List (Int × Int)} {x y : Int} (h : Top k rows) (h1 : x < k) (h2 : y < k) : Top k (rows ++ [(x, y)]) := fun r hr => by
  rcases List.mem_append.mp hr with z | z
  · exact h r z
  · rw [List.mem_singleton.mp z]; exact ⟨h1, h2⟩
def sp_law_built (K : PySem.W.Frag) (A : CA) : Sp := fun vs H Q _ => ∃ (s a : Addr) (n : Int), vs = [.ref s, .int n] ∧ Bx H s a ∧ 1 ≤ n ∧ n ≤ 40 ∧
  ∀ (us : List V) (rows : List (Int × Int)) (p : Addr) (H' : Hp), us.length ≤ 100 → RG n rows → GrowB H s a p us rows H' → Q (.ref p) H'
def t_law_built (K : PySem.W.Frag) (A : CA) : TS :=
  (tSeq (tAsg (tCall (sp_law_take K A) [] E0 (tCons (tVar 0) (tCons (tC (.int 7)) tNil))) (gName 2))
  (tSeq (tAsg (tLst tNil) (gName 3))
  (C8.tCut (tIfS (tTest (tOp oLt (tVar 2) (tC (.int 3)))) (tFor (iRng1 (tCons (tOp oSub (tVar 1) (tC (.int 1))) tNil)) (gName 4)
  (tSeq (tDrop (tBM K "list" rAppend (tVar 3) (tCons (tTup (tCons (tVar 4) (tCons (tOp oAdd (tVar 4) (tC (.int 1))) tNil))) tNil)))
  (tIfS (tTest (tOp rEq (tVar 2) (tC (.int 1)))) (tDrop (tBM K "list" rAppend (tVar 3) (tCons (tTup (tCons (tOp oAdd (tVar 4) (tC (.int 1))) (tCons (tVar 4) tNil))) tNil))) tNext))) tNext)
  (C8.tCut (tIfS (tAnd (tTest (tOp rEq (tVar 2) (tC (.int 2)))) (tTest (tOp oGt (tVar 1) (tC (.int 1))))) (tDrop (tBM K "list" rAppend (tVar 3) (tCons (tTup (tCons (tOp oSub (tVar 1) (tC (.int 1))) (tCons (tC (.int 0)) tNil))) tNil))) tNext)
  (C8.tCut (tIfS (tOr (tTest (tOp rEq (tVar 2) (tC (.int 3)))) (tTest (tOp rEq (tVar 2) (tC (.int 4))))) (tFor (iRng2 (tCons (tC (.int 1)) (tCons (tVar 1) tNil))) (gName 4)
  (tSeq (tAsg (tC (.int 0)) (gName 5))
  (C8.tCut (tIfS (tTest (tOp rEq (tVar 2) (tC (.int 4)))) (tAsg (tCall (sp_law_take K A) [] E0 (tCons (tVar 0) (tCons (tVar 4) tNil))) (gName 5)) tNext)
  (tSeq (tAsg (tCall (sp_law_take K A) [] E0 (tCons (tVar 0) (tCons (tC (.int 3)) tNil))) (gName 6))
  (C8.tCut (tIfS (tTest (tOp rNe (tVar 6) (tC (.int 1)))) (tDrop (tBM K "list" rAppend (tVar 3) (tCons (tTup (tCons (tVar 5) (tCons (tVar 4) tNil))) tNil))) tNext)
  (tIfS (tTest (tOp rNe (tVar 6) (tC (.int 0)))) (tDrop (tBM K "list" rAppend (tVar 3) (tCons (tTup (tCons (tVar 4) (tCons (tVar 5) tNil))) tNil))) tNext)))))) tNext)
  (C8.tCut (tIfS (tTest (tOp rEq (tVar 2) (tC (.int 5)))) (tFor (iRng1 (tCons (tCall (sp_law_take K A) [] E0 (tCons (tVar 0) (tCons (tC (.int 13)) tNil))) tNil)) (gName 4)
  (tSeq (tAsg (tCall (sp_law_take K A) [] E0 (tCons (tVar 0) (tCons (tVar 1) tNil))) (gName 7))
  (tSeq (tAsg (tCall (sp_law_take K A) [] E0 (tCons (tVar 0) (tCons (tVar 1) tNil))) (gName 8))
  (tIfS (tAnd (tTest (tOp rNe (tVar 7) (tVar 8))) (tTest (tOp (rNotInD K) (tTup (tCons (tVar 7) (tCons (tVar 8) tNil))) (tVar 3)))) (tDrop (tBM K "list" rAppend (tVar 3) (tCons (tTup (tCons (tVar 7) (tCons (tVar 8) tNil))) tNil))) tNext)))) tNext)
  (tRet (tVar 3))))))))

theorem rd_law_built {K : PySem.W.Frag} {A : CA} {vs : List V} {H : Hp} {Q : VK} {E : XK} (h : sp_law_built K A vs H Q E) :
    t_law_built K A { nx := fun _ H' => Q .non H', rt := Q } (start ["box", "pages", "shape", "pairs", "k", "near", "way", "first", "second"] vs) H := by
  obtain ⟨s, a, n, rfl, hs, n0, n1, q⟩ := h
  unfold t_law_built
  walk_at "go"
  intro sh H1 h0 h1 b1 s1
  walk_at "go"
  intro p hp
  have pH : H p = none := b1.backB s1 hp
  have g2 : GrowB H s a p [] [] (upd H1 p (.lst [])) := ⟨b1.new hp, s1.new hp, upd_same, .nil, pH, s1.neS hp, s1.neA hp⟩
  generalize upd H1 p (.lst []) = H2 at g2
  clear hp b1 s1 hs pH
  walk_at "go"
  refine w_cut (fun σ H' => ∃ (us : List V) (rows : List (Int × Int)) (k4 : Option V), σ = [some (.ref s), some (.int n), some (.int sh), some (.ref p), k4, none, none, none, none] ∧ us.length ≤ 80 ∧ RG n rows ∧ (sh = 2 → ∀ r ∈ rows, r.2 = r.1 + 1) ∧ (3 ≤ sh → rows = []) ∧ GrowB H s a p us rows H') ?_ ?_
  · walk_at "go"
    refine w_iteD (fun c => ?_) (fun c => ?_)
    · walk_at "go"
      refine forR (fun i σ H' => ∃ (us : List V) (rows : List (Int × Int)) (k4 : Option V), σ = [some (.ref s), some (.int n), some (.int sh), some (.ref p), k4, none, none, none, none] ∧ us.length ≤ 2 * i ∧ RG n rows ∧ Top (i + 1) rows ∧ (sh = 2 → ∀ r ∈ rows, r.2 = r.1 + 1) ∧ GrowB H s a p us rows H') ?_ ?_ ?_
      · exact ⟨[], [], none, rfl, Nat.le_refl _, ⟨(fun r h => nomatch h), List.nodup_nil⟩, (fun r h => nomatch h), (fun _ r h => nomatch h), g2⟩
      · rintro i σ H3 hi ⟨us, rows, k4, rfl, ul, hR, hT, h2, g⟩
        have sl : us.length < sizeLine := small1000 (by omega)
        have ga := g.at_
        walk_at "go"
        intro t ht
        have nin : (0 + (i : Int), 0 + (i : Int) + 1) ∉ rows := fun z => by have := hT _ z; simp only at this; omega
        have gp := g.push (x := 0 + (i : Int)) (y := 0 + (i : Int) + 1) ht
        have hR2 : RG n (rows ++ [(0 + (i : Int), 0 + (i : Int) + 1)]) := hR.snoc (Int.le_refl n) (by simp only; omega) (by simp only; omega) (by simp only; omega) (by simp only; omega) (by simp only; omega) nin
        have hT2 : Top (i + 1 + 1) (rows ++ [(0 + (i : Int), 0 + (i : Int) + 1)]) := (hT.le (by omega)).snoc (by omega) (by omega)
        have h22 : sh = 2 → ∀ r ∈ rows ++ [(0 + (i : Int), 0 + (i : Int) + 1)], r.2 = r.1 + 1 := fun e r hr => by
          rcases List.mem_append.mp hr with z | z
          · exact h2 e r z
          · rw [List.mem_singleton.mp z]
        have at3 := keep (o' := .tup [V.int (0 + (i : Int)), .int (0 + (i : Int) + 1)]) ga ht
        walk_at "go"
        generalize upd (upd H3 t (.tup [V.int (0 + (i : Int)), .int (0 + (i : Int) + 1)])) p (.lst (us ++ [V.ref t])) = H4 at gp
        have ul2 : (us ++ [V.ref t]).length ≤ 2 * i + 1 := by rw [List.length_append, List.length_singleton]; omega
        generalize us ++ [V.ref t] = us2 at gp ul2
        refine w_iteD (fun c1 => ?_) (fun c1 => ?_)
        · have sl2 : us2.length < sizeLine := small1000 (by omega)
          have ga4 := gp.at_
          walk_at "go"
          intro t2 ht2
          have nin2 : (0 + (i : Int) + 1, 0 + (i : Int)) ∉ rows ++ [(0 + (i : Int), 0 + (i : Int) + 1)] := fun z => by
            rcases List.mem_append.mp z with z | z
            · have := hT _ z; simp only at this; omega
            · have := List.mem_singleton.mp z
              simp only [Prod.mk.injEq] at this
              omega
          have gq := gp.push (x := 0 + (i : Int) + 1) (y := 0 + (i : Int)) ht2
          have at4 := keep (o' := .tup [V.int (0 + (i : Int) + 1), .int (0 + (i : Int))]) ga4 ht2
          walk_at "go"
          exact ⟨_, _, _, rfl, by rw [List.length_append, List.length_singleton]; omega, hR2.snoc (Int.le_refl n) (by simp only; omega) (by simp only; omega) (by simp only; omega) (by simp only; omega) (by simp only; omega) nin2, hT2.snoc (by omega) (by omega), (fun e => by omega), gq⟩
        · walk_at "go"
          exact ⟨_, _, _, rfl, by omega, hR2, hT2, h22, gp⟩
      · rintro σ H3 ⟨us, rows, k4, rfl, ul, hR, hT, h2, g⟩
        exact ⟨us, rows, k4, rfl, by omega, hR, h2, (fun e => by omega), g⟩
    · walk_at "go"
      exact ⟨[], [], none, rfl, by decide, ⟨(fun r h => nomatch h), List.nodup_nil⟩, (fun _ r h => nomatch h), (fun _ => rfl), g2⟩
  clear g2
  rintro σ H3 ⟨us, rows, k4, rfl, ul, hR, h2, h3, g⟩
  walk_at "go"
  refine w_cut (fun σ H' => ∃ (us : List V) (rows : List (Int × Int)) (k4 : Option V), σ = [some (.ref s), some (.int n), some (.int sh), some (.ref p), k4, none, none, none, none] ∧ us.length ≤ 81 ∧ RG n rows ∧ (3 ≤ sh → rows = []) ∧ GrowB H s a p us rows H') ?_ ?_
  · have keep2 : ∃ (us' : List V) (rows' : List (Int × Int)) (k4' : Option V), [some (V.ref s), some (.int n), some (.int sh), some (.ref p), k4, none, none, none, none] = [some (.ref s), some (.int n), some (.int sh), some (.ref p), k4', none, none, none, none] ∧ us'.length ≤ 81 ∧ RG n rows' ∧ (3 ≤ sh → rows' = []) ∧ GrowB H s a p us' rows' H3 := ⟨us, rows, k4, rfl, by omega, hR, h3, g⟩
    walk_at "go"
    refine w_iteD (fun c => ?_) (fun c => ?_)
    · walk_at "go"
      refine w_iteD (fun c1 => ?_) (fun c1 => ?_)
      · have sl : us.length < sizeLine := small1000 (by omega)
        have ga := g.at_
        walk_at "go"
        intro t ht
        have nin : (n - 1, (0 : Int)) ∉ rows := fun z => by have := h2 c _ z; simp only at this; omega
        have gp := g.push (x := n - 1) (y := 0) ht
        have at3 := keep (o' := .tup [V.int (n - 1), .int 0]) ga ht
        walk_at "go"
        exact ⟨_, _, _, rfl, by rw [List.length_append, List.length_singleton]; omega, hR.snoc (Int.le_refl n) (by simp only; omega) (by simp only; omega) (by simp only; omega) (by simp only; omega) (by simp only; omega) nin, (fun e => by omega), gp⟩
      · walk_at "go"
        exact keep2
    · walk_at "go"
      exact keep2
  clear ul hR h2 h3 g
  rintro σ H4 ⟨us, rows, k4, rfl, ul, hR, h3, g⟩
  walk_at "go"
  refine w_cut (fun σ H' => ∃ (us : List V) (rows : List (Int × Int)) (k4 k5 k6 : Option V), σ = [some (.ref s), some (.int n), some (.int sh), some (.ref p), k4, k5, k6, none, none] ∧ us.length ≤ 81 ∧ RG n rows ∧ (sh = 5 → rows = []) ∧ GrowB H s a p us rows H') ?_ ?_
  · have keep3 : (¬ (3 ≤ sh ∧ sh ≤ 4)) → ∃ (us' : List V) (rows' : List (Int × Int)) (k4' k5 k6 : Option V), [some (V.ref s), some (.int n), some (.int sh), some (.ref p), k4, none, none, none, none] = [some (.ref s), some (.int n), some (.int sh), some (.ref p), k4', k5, k6, none, none] ∧ us'.length ≤ 81 ∧ RG n rows' ∧ (sh = 5 → rows' = []) ∧ GrowB H s a p us' rows' H4 := fun c => ⟨us, rows, k4, none, none, rfl, ul, hR, (fun e => h3 (by omega)), g⟩
    walk_at "go"
    refine w_share (P := 3 ≤ sh ∧ sh ≤ 4) (fun c => by omega) (fun c => ?_) (fun c X => ?_)
    · have r0 := h3 c.1
      subst r0
      have u0 : us = [] := List.length_eq_zero_iff.mp (by rw [g.len]; rfl)
      subst u0
      walk_at "go"
      refine forR (fun i σ H' => ∃ (us : List V) (rows : List (Int × Int)) (k4 k5 k6 : Option V), σ = [some (.ref s), some (.int n), some (.int sh), some (.ref p), k4, k5, k6, none, none] ∧ us.length ≤ 2 * i ∧ RG n rows ∧ Top (i + 1) rows ∧ GrowB H s a p us rows H') ?_ ?_ ?_
      · exact ⟨[], [], k4, none, none, rfl, Nat.le_refl _, hR, (fun r h => nomatch h), g⟩
      · rintro i σ H5 hi ⟨us, rows, k4', k5, k6, rfl, ul, hR, hT, g⟩
        walk_at "go"
        refine w_cut (fun σ H' => ∃ nr : Int, σ = [some (.ref s), some (.int n), some (.int sh), some (.ref p), some (.int (1 + (i : Int))), some (.int nr), k6, none, none] ∧ 0 ≤ nr ∧ nr < 1 + (i : Int) ∧ GrowB H s a p us rows H') ?_ ?_
        · have bx := g.bx
          walk_at "go"
          refine w_iteD (fun c => ?_) (fun c => ?_)
          · walk_at "go"
            intro z H6 z0 z1 b6 s6
            exact ⟨z, rfl, z0, z1, g.step b6 s6⟩
          · walk_at "go"
            exact ⟨0, rfl, by omega, by omega, g⟩
        clear g
        rintro σ H6 ⟨nr, rfl, n0', n1', g⟩
        have bx := g.bx
        walk_at "go"
        intro w H7 w0 w1 b7 s7
        have g7 := g.step b7 s7
        clear bx g b7
        walk_at "go"
        have nin1 : (nr, 1 + (i : Int)) ∉ rows := fun z => by have := hT _ z; simp only at this; omega
        have nin2 : (1 + (i : Int), nr) ∉ rows := fun z => by have := hT _ z; simp only at this; omega
        refine w_cut (fun σ H' => ∃ (us' : List V) (rows' : List (Int × Int)), σ = [some (.ref s), some (.int n), some (.int sh), some (.ref p), some (.int (1 + (i : Int))), some (.int nr), some (.int w), none, none] ∧ us'.length ≤ 2 * i + 1 ∧ RG n rows' ∧ Top (i + 1 + 1) rows' ∧ (1 + (i : Int), nr) ∉ rows' ∧ GrowB H s a p us' rows' H') ?_ ?_
        · walk_at "go"
          refine w_iteN (fun c => ?_) (fun c => ?_)
          · have sl : us.length < sizeLine := small1000 (by omega)
            have ga := g7.at_
            walk_at "go"
            intro t ht
            have gp := g7.push (x := nr) (y := 1 + (i : Int)) ht
            have at3 := keep (o' := .tup [V.int nr, .int (1 + (i : Int))]) ga ht
            walk_at "go"
            exact ⟨_, _, rfl, by rw [List.length_append, List.length_singleton]; omega, hR.snoc (Int.le_refl n) (by simp only; omega) (by simp only; omega) (by simp only; omega) (by simp only; omega) (by simp only; omega) nin1, (hT.le (by omega)).snoc (by omega) (by omega), (fun z => by
              rcases List.mem_append.mp z with z | z
              · exact nin2 z
              · have := List.mem_singleton.mp z
                simp only [Prod.mk.injEq] at this
                omega), gp⟩
          · walk_at "go"
            exact ⟨_, _, rfl, by omega, hR, hT.le (by omega), nin2, g7⟩
        clear g7 s7 ul hR hT nin1 nin2
        rintro σ H8 ⟨us, rows, rfl, ul, hR, hT, nin2, g⟩
        walk_at "go"
        refine w_iteN (fun c => ?_) (fun c => ?_)
        · have sl : us.length < sizeLine := small1000 (by omega)
          have ga := g.at_
          walk_at "go"
          intro t ht
          have gp := g.push (x := 1 + (i : Int)) (y := nr) ht
          have at3 := keep (o' := .tup [V.int (1 + (i : Int)), .int nr]) ga ht
          walk_at "go"
          exact ⟨_, _, _, _, _, rfl, by rw [List.length_append, List.length_singleton]; omega, hR.snoc (Int.le_refl n) (by simp only; omega) (by simp only; omega) (by simp only; omega) (by simp only; omega) (by simp only; omega) nin2, hT.snoc (by omega) (by omega), gp⟩
        · walk_at "go"
          exact ⟨_, _, _, _, _, rfl, by omega, hR, hT, g⟩
      · rintro σ H5 ⟨us, rows, k4', k5, k6, rfl, ul, hR, hT, g⟩
        exact ⟨us, rows, k4', k5, k6, rfl, by omega, hR, (fun e => by omega), g⟩
    · walk_at "go"
      refine w_iteD (fun c4 => X (by omega)) (fun c4 => ?_)
      walk_at "go"
      exact keep3 (by omega)
  clear ul hR h3 g
  rintro σ H5 ⟨us, rows, k4, k5, k6, rfl, ul, hR, h5, g⟩
  walk_at "go"
  refine w_cut (fun σ H' => ∃ (us : List V) (rows : List (Int × Int)) (k4 k5 k6 k7 k8 : Option V), σ = [some (.ref s), some (.int n), some (.int sh), some (.ref p), k4, k5, k6, k7, k8] ∧ us.length ≤ 100 ∧ RG n rows ∧ GrowB H s a p us rows H') ?_ ?_
  · walk_at "go"
    refine w_iteD (fun c => ?_) (fun c => ?_)
    · have r0 := h5 c
      subst r0
      have u0 : us = [] := List.length_eq_zero_iff.mp (by rw [g.len]; rfl)
      subst u0
      have bx := g.bx
      walk_at "go"
      intro m H6 m0 m1 b6 s6
      have g6 := g.step b6 s6
      clear g bx b6
      walk_at "go"
      refine forR (fun i σ H' => ∃ (us : List V) (rows : List (Int × Int)) (k4 k7 k8 : Option V), σ = [some (.ref s), some (.int n), some (.int sh), some (.ref p), k4, k5, k6, k7, k8] ∧ us.length ≤ i ∧ RG n rows ∧ GrowB H s a p us rows H') ?_ ?_ ?_
      · exact ⟨[], [], k4, none, none, rfl, Nat.le_refl _, hR, g6⟩
      · clear g6 s6
        rintro i σ H7 hi ⟨us, rows, k4', k7, k8, rfl, ul, hR, g⟩
        have bx := g.bx
        walk_at "go"
        intro x H8 x0 x1 b8 s8
        have g8 := g.step b8 s8
        clear g bx b8
        walk_at "go"
        intro y H9 y0 y1 b9 s9
        have g9 := g8.step b9 s9
        clear g8 s8 b9
        walk_at "go"
        refine w_iteN (fun c1 => ?_) (fun c1 => ?_)
        · walk_at "go"
          intro t0 ht0
          have ga := g9.at_
          have e10 := same_new (o := .tup [V.int x, .int y]) ht0
          have g10 : GrowB H s a p us rows (upd H9 t0 (.tup [V.int x, .int y])) := g9.step (fun b o _ h => e10 b o h) (g9.bx.new ht0)
          have gt0 : (upd H9 t0 (.tup [V.int x, .int y])) t0 = some (.tup [V.int x, .int y]) := upd_same
          generalize upd H9 t0 (.tup [V.int x, .int y]) = H10 at e10 g10 gt0
          walk_at "go"
          refine w_ninRows (r := (x, y)) g10.at_ g10.pr gt0 ?_
          refine ⟨_, rfl, ?_⟩
          by_cases c2 : (x, y) ∈ rows
          · rw [decide_eq_true c2]
            refine w_iteNT ?_
            walk_at "go"
            exact ⟨us, rows, _, _, _, rfl, by omega, hR, g10⟩
          · rw [decide_eq_false c2]
            refine w_iteNF ?_
            have sl : us.length < sizeLine := small1000 (by omega)
            have ga2 := g10.at_
            walk_at "go"
            intro t ht
            have gp := g10.push (x := x) (y := y) ht
            have at3 := keep (o' := .tup [V.int x, .int y]) ga2 ht
            walk_at "go"
            exact ⟨_, _, _, _, _, rfl, by rw [List.length_append, List.length_singleton]; omega, hR.snoc (Int.le_refl n) x0 x1 y0 y1 c1 c2, gp⟩
        · walk_at "go"
          exact ⟨us, rows, _, _, _, rfl, by omega, hR, g9⟩
      · rintro σ H7 ⟨us, rows, k4', k7, k8, rfl, ul, hR, g⟩
        exact ⟨us, rows, k4', k5, k6, k7, k8, rfl, by omega, hR, g⟩
    · walk_at "go"
      exact ⟨us, rows, k4, k5, k6, none, none, rfl, by omega, hR, g⟩
  rintro σ H6 ⟨us, rows, k4, k5, k6, k7, k8, rfl, ul, hR, g⟩
  walk_at "go"
  exact q us rows p H6 ul hR g
end G

end
section
local macro_rules | `(tactic| walk_at "call") => `(tactic| (refine' G.w_cnt ?g1 ?_; (case g1 => walk_at "sq")))

local macro_rules | `(tactic| walk_at "call") => `(tactic| (refine' G.w_popAt ?g1 ?g2 ?g3 ?g4 ?_; (case g1 => walk_at "hp"); (case g2 => walk_at "ar"); (case g3 => walk_at "ar"); (case g4 => walk_at "ar")))

local macro_rules | `(tactic| walk_at "call") => `(tactic| (refine' G.i_whole ?_))

local macro_rules | `(tactic| walk_at "bx") => `(tactic| first | assumption | exact G.Bx.new (by walk_at "bx") (by assumption) | exact G.Bx.same (by assumption) (by walk_at "bx"))
local macro_rules | `(tactic| walk_at "call") => `(tactic| (refine' G.i_take ?g1 ?g2 ?g3 ?_; (case g1 => walk_at "bx"); (case g2 => walk_at "ar"); (case g3 => walk_at "ar")))

namespace G
open PySem L2 GX
theorem sub_mod {n x y : Int} (h : x % n = y % n) (h1 : x - y < n) (h2 : y - x < n) : x = y := by
  have e : (x - y) % n = 0 := Int.emod_eq_emod_iff_emod_sub_eq_zero.mp h
  have e2 : (y - x) % n = 0 := Int.emod_eq_emod_iff_emod_sub_eq_zero.mp h.symm
  rcases Int.le_total y x with c | c
  · rw [Int.emod_eq_of_lt (by omega) h1] at e; omega
  · rw [Int.emod_eq_of_lt (by omega) h2] at e2; omega
theorem nm_inj {n sh st x y : Int} (h : st = 1 ∨ st = n - 1) (x0 : 0 ≤ x) (x1 : x < n) (y0 : 0 ≤ y) (y1 : y < n) (e : (sh + st * x) % n = (sh + st * y) % n) : x = y := by
  rcases h with rfl | rfl
  · rw [Int.one_mul, Int.one_mul] at e
    have := sub_mod e (by omega) (by omega)
    omega
  · have r : ∀ z : Int, (sh + (n - 1) * z) % n = (sh - z) % n := fun z => by
      have : sh + (n - 1) * z = sh - z + n * z := by rw [Int.sub_mul]; omega
      rw [this, Int.add_mul_emod_self_left]
    rw [r, r] at e
    have := sub_mod e (by omega) (by omega)
    omega
def nmR (n sh st : Int) (r : Int × Int) : Int × Int := ((sh + st * r.1) % n, (sh + st * r.2) % n)
theorem RG.names {n sh st : Int} {rows : List (Int × Int)} (n0 : 1 ≤ n) (h : st = 1 ∨ st = n - 1) (hR : RG n rows) : RG n (rows.map (nmR n sh st)) := by
  refine ⟨fun r hr => ?_, List.pairwise_map.mpr ?_⟩
  · obtain ⟨y, hy, rfl⟩ := List.mem_map.mp hr
    have b := hR.bd y hy
    refine ⟨Int.emod_nonneg _ (by omega), Int.emod_lt_of_pos _ (by omega), Int.emod_nonneg _ (by omega), Int.emod_lt_of_pos _ (by omega), fun z => b.2.2.2.2 (nm_inj h b.1 b.2.1 b.2.2.1 b.2.2.2.1 z)⟩
  · have all : ∀ l : List (Int × Int), (∀ r ∈ l, 0 ≤ r.1 ∧ r.1 < n ∧ 0 ≤ r.2 ∧ r.2 < n) → l.Nodup → l.Pairwise fun a b => nmR n sh st a ≠ nmR n sh st b := by
      intro l
      induction l with
      | nil => intro _ _; exact .nil
      | cons a l ih =>
        intro hb hn
        obtain ⟨h1, h2⟩ := List.nodup_cons.mp hn
        refine List.pairwise_cons.mpr ⟨fun b hb2 z => ?_, ih (fun r hr => hb r (List.mem_cons_of_mem _ hr)) h2⟩
        have ba := hb a List.mem_cons_self
        have bb := hb b (List.mem_cons_of_mem _ hb2)
        have z1 : (sh + st * a.1) % n = (sh + st * b.1) % n := congrArg Prod.fst z
        have z2 : (sh + st * a.2) % n = (sh + st * b.2) % n := congrArg Prod.snd z
        have e1 := nm_inj h ba.1 ba.2.1 bb.1 bb.2.1 z1
        have e2 := nm_inj h ba.2.2.1 ba.2.2.2 bb.2.2.1 bb.2.2.2 z2
        exact h1 (by rw [show a = b from Prod.ext e1 e2]; exact hb2)
    exact all rows (fun r hr => by have := hR.bd r hr; exact ⟨this.1, this.2.1, this.2.2.1, this.2.2.2.1⟩) hR.nd
def sp_law_pairs (K : PySem.W.Frag) (A : CA) : Sp := fun vs H Q _ => ∃ (s a : Addr) (n : Int), vs = [.ref s, .int n] ∧ Bx H s a ∧ 1 ≤ n ∧ n ≤ 40 ∧
  ∀ (us : List V) (rows : List (Int × Int)) (p : Addr) (H' : Hp), us.length ≤ 100 → RG n rows → GrowB H s a p us rows H' → Q (.ref p) H'
def t_law_pairs (K : PySem.W.Frag) (A : CA) : TS :=
  (tSeq (tAsg (tCall (sp_law_built K A) [] E0 (tCons (tVar 0) (tCons (tVar 1) tNil))) (gName 2))
  (tSeq (tAsg (tCall (sp_law_take K A) [] E0 (tCons (tVar 0) (tCons (tVar 1) tNil))) (gName 3))
  (tSeq (tAsg (tC (.int 1)) (gName 4))
  (C8.tCut (tIfS (tTest (tOp rEq (tCall (sp_law_take K A) [] E0 (tCons (tVar 0) (tCons (tC (.int 2)) tNil))) (tC (.int 1)))) (tAsg (tOp oSub (tVar 1) (tC (.int 1))) (gName 4)) tNext)
  (tSeq (tAsg (tLc (iRng1 (tCons (tVar 1) tNil)) (gName 6) tYes (tOp oMod (tCB oInt (tCons (tOp oAdd (tVar 3) (tOp oMul (tVar 4) (tVar 6))) tNil)) (tVar 1)) [6]) (gName 5))
  (tRet (tLc (iList K (tVar 2)) (gName 7) tYes (tTup (tCons (tOp (rIxL K) (tVar 5) (tOp (rIxT K) (tVar 7) (tC (.int 0)))) (tCons (tOp (rIxL K) (tVar 5) (tOp (rIxT K) (tVar 7) (tC (.int 1)))) tNil))) [7])))))))

theorem rd_law_pairs {K : PySem.W.Frag} {A : CA} {vs : List V} {H : Hp} {Q : VK} {E : XK} (h : sp_law_pairs K A vs H Q E) :
    t_law_pairs K A { nx := fun _ H' => Q .non H', rt := Q } (start ["box", "pages", "pairs", "shift", "step", "names", "k", "pair"] vs) H := by
  obtain ⟨s, a, n, rfl, hs, n0, n1, q⟩ := h
  unfold t_law_pairs
  walk_at "go"
  refine ⟨s, a, n, rfl, hs, n0, n1, fun us rows p H1 ul hR g1 => ?_⟩
  have bx := g1.bx
  walk_at "go"
  intro sh H2 sh0 sh1 b2 s2
  have g2 := g1.step b2 s2
  clear g1 bx b2
  walk_at "go"
  refine w_cut (fun σ H' => ∃ st : Int, σ = [some (.ref s), some (.int n), some (.ref p), some (.int sh), some (.int st), none, none, none] ∧ (st = 1 ∨ st = n - 1) ∧ GrowB H s a p us rows H') ?_ ?_
  · walk_at "go"
    intro z H3 z0 z1 b3 s3
    have g3 := g2.step b3 s3
    walk_at "go"
    refine w_iteD (fun c => ?_) (fun c => ?_)
    · walk_at "go"
      exact ⟨_, rfl, .inr rfl, g3⟩
    · walk_at "go"
      exact ⟨_, rfl, .inl rfl, g3⟩
  clear g2 s2
  rintro σ H3 ⟨st, rfl, hst, g⟩
  have st0 : -18446744073709551616 < st := by omega
  have st1 : st < 18446744073709551616 := by omega
  walk_at "go"
  refine lcR (fun Dl i H' => Same H3 H' ∧ H' Dl = some (.lst (((List.range i).map fun k : Nat => (sh + st * (k : Int)) % n).map V.int))) (fun Dl hD => ⟨same_new hD, upd_same⟩) ?_ ?_
  · rintro Dl i H4 hD hi ⟨e4, g4⟩
    have sl : (((List.range i).map fun k : Nat => (sh + st * (k : Int)) % n).map V.int).length < sizeLine := small1000 (by rw [List.length_map, List.length_map, List.length_range]; omega)
    walk_at "go"
    refine ⟨same_mut e4 hD, ?_⟩
    rw [List.range_succ, List.map_append, List.map_append, upd_same, Int.zero_add]
    rfl
  rintro nm H4 hnm ⟨e4, g4⟩
  have ga := e4 _ _ g.at_
  have hP := PRs.same e4 g.pr
  have gl := g.len
  walk_at "go"
  refine lcL (xs := us) (fun Dl i H' => Same H4 H' ∧ ∃ ws, H' Dl = some (.lst ws) ∧ ws.length = i ∧ Paired (PR H') ws ((rows.map (nmR n sh st)).take i)) (fun Dl hD => ⟨same_new hD, [], upd_same, rfl, .nil⟩) (fun Dl i H' hD hi ⟨e, _⟩ => SqL.of (e _ _ ga)) ?_ ?_
  · rintro Dl i y H5 hD hy ⟨e5, ws, gD, wl, hW⟩
    obtain ⟨r, hr, t, rfl, ht⟩ := Paired.at' hP hy
    have il : i < us.length := (List.getElem?_eq_some_iff.mp hy).1
    have b := hR.bd r (List.mem_of_getElem? hr)
    have ht5 := e5 _ _ ht
    have g5 := e5 _ _ g4
    have at_ : ∀ z : Int, 0 ≤ z → z < n → atI (((List.range n.toNat).map fun k : Nat => (sh + st * (k : Int)) % n).map V.int) z = some (V.int ((sh + st * z) % n)) := fun z z0 z1 => at_of (j := z.toNat) (by omega) (by
      have zl : z.toNat < n.toNat := by omega
      have ez : ((z.toNat : Nat) : Int) = z := by omega
      simp [zl, ez])
    have a1 := at_ r.1 b.1 b.2.1
    have a2 := at_ r.2 b.2.2.1 b.2.2.2.1
    walk_at "go"
    intro t2 ht2
    walk_at "go"
    refine ⟨same_mut (e5.trans (same_new ht2)) hD, _, upd_same, by rw [List.length_append, List.length_singleton, wl], ?_⟩
    rw [List.take_succ, List.getElem?_map, hr]
    exact push_row gD hW ht2
  rintro p2 H5 hp2 ⟨e5, ws, g5, wl, hW⟩
  rw [List.take_of_length_le (by rw [List.length_map]; omega)] at hW
  have E5 := e4.trans e5
  have np2 : H p2 = none := g.b.backB g.bx (e4.free hp2)
  have nS := (g.bx.same e4).neS hp2
  have nA := (g.bx.same e4).neA hp2
  walk_at "go"
  exact q ws _ p2 H5 (by omega) (hR.names n0 hst) ⟨fun b o nb h => E5 b o (g.b b o nb h), g.bx.same E5, g5, hW, np2, nS, nA⟩
end G

end
section
local macro_rules | `(tactic| walk_at "call") => `(tactic| (refine' G.w_cnt ?g1 ?_; (case g1 => walk_at "sq")))

local macro_rules | `(tactic| walk_at "call") => `(tactic| (refine' G.w_popAt ?g1 ?g2 ?g3 ?g4 ?_; (case g1 => walk_at "hp"); (case g2 => walk_at "ar"); (case g3 => walk_at "ar"); (case g4 => walk_at "ar")))

local macro_rules | `(tactic| walk_at "call") => `(tactic| (refine' G.i_whole ?_))

local macro_rules | `(tactic| walk_at "bx") => `(tactic| first | assumption | exact G.Bx.new (by walk_at "bx") (by assumption) | exact G.Bx.same (by assumption) (by walk_at "bx"))
local macro_rules | `(tactic| walk_at "call") => `(tactic| (refine' G.i_take ?g1 ?g2 ?g3 ?_; (case g1 => walk_at "bx"); (case g2 => walk_at "ar"); (case g3 => walk_at "ar")))

namespace G
open PySem L2 GX
end G

namespace G
open PySem L2 GX
theorem uses_perm {rs rows : List (Int × Int)} (h : rs.Perm rows) (p : Int) (cs : List Int) : uses rs p cs = uses rows p cs := funext fun k => by
  unfold uses
  rw [(h.filter _).length_eq]
theorem uses_snoc {rows : List (Int × Int)} {r : Int × Int} {p k : Int} {cs : List Int} : uses (rows ++ [r]) p cs k = if k = r.1 ∧ r.2 ∈ cs ∧ r.1 ∉ cs then uses rows p cs k + 1 else uses rows p cs k := by
  unfold uses
  rw [List.filter_append, List.length_append, List.filter_cons, List.filter_nil]
  by_cases c : k = r.1 ∧ r.2 ∈ cs ∧ r.1 ∉ cs
  · rw [if_pos c]
    have z : (decide (r.1 = k) && (decide (r.2 ∈ cs) && !decide (r.1 ∈ cs))) = true := by simp [c.1, c.2.1, c.2.2]
    have y : ∀ q : Bool, q = true → (if q = true then [r] else []).length = 1 := fun q e => by rw [e]; rfl
    rw [y _ z]; omega
  · rw [if_neg c]
    have z : (decide (r.1 = k) && (decide (r.2 ∈ cs) && !decide (r.1 ∈ cs))) = false := by
      rw [Bool.eq_false_iff]
      intro h
      have h := (Bool.and_eq_true_iff.mp h)
      have h2 := Bool.and_eq_true_iff.mp h.2
      exact c ⟨(of_decide_eq_true h.1).symm, of_decide_eq_true h2.1, by simpa using h2.2⟩
    have y : ∀ q : Bool, q = false → (if q = true then [r] else []).length = 0 := fun q e => by rw [e]; rfl
    rw [y _ z]; omega
/-- the list of uses, page by page -/
def usesL (n : Int) (rows : List (Int × Int)) (p : Int) (cs : List Int) : List Int := (List.range n.toNat).map fun k : Nat => uses rows p cs k
end G

end
section
local macro_rules | `(tactic| walk_at "call") => `(tactic| (refine' G.w_cnt ?g1 ?_; (case g1 => walk_at "sq")))

local macro_rules | `(tactic| walk_at "call") => `(tactic| (refine' G.w_popAt ?g1 ?g2 ?g3 ?g4 ?_; (case g1 => walk_at "hp"); (case g2 => walk_at "ar"); (case g3 => walk_at "ar"); (case g4 => walk_at "ar")))

local macro_rules | `(tactic| walk_at "call") => `(tactic| (refine' G.i_whole ?_))

local macro_rules | `(tactic| walk_at "bx") => `(tactic| first | assumption | exact G.Bx.new (by walk_at "bx") (by assumption) | exact G.Bx.same (by assumption) (by walk_at "bx"))
local macro_rules | `(tactic| walk_at "call") => `(tactic| (refine' G.i_take ?g1 ?g2 ?g3 ?_; (case g1 => walk_at "bx"); (case g2 => walk_at "ar"); (case g3 => walk_at "ar")))

namespace G
open PySem L2 GX
theorem w_inT {K : PySem.W.Frag} {H : Hp} {Q : VK} {p : Addr} {ns : List Int} {i : Int} (h : SqT K H p (ns.map V.int)) (q : Q (.bl (decide (i ∈ ns))) H) : rIn K false (.int i) (.ref p) H Q := ⟨p, _, rfl, .inr h, rfl, all_flat ns, by rw [inV_int]; exact q⟩
theorem w_ninT {K : PySem.W.Frag} {H : Hp} {Q : VK} {p : Addr} {ns : List Int} {i : Int} (h : SqT K H p (ns.map V.int)) (q : Q (.bl (!decide (i ∈ ns))) H) : rIn K true (.int i) (.ref p) H Q := ⟨p, _, rfl, .inr h, rfl, all_flat ns, by rw [inV_int]; exact q⟩
def fitsB (n : Int) (bs : List Int) (f : Int → Int) : Bool := (List.range n.toNat).all fun k : Nat => decide (f k ≤ bs.getD k 0)
theorem fitsB_iff {n : Int} {bs : List Int} {f : Int → Int} : fitsB n bs f = true ↔ Fits n bs f := by
  unfold fitsB Fits
  rw [List.all_eq_true]
  constructor
  · intro h k k0 k1
    have z := of_decide_eq_true (h k.toNat (List.mem_range.mpr (by omega)))
    have e : ((k.toNat : Nat) : Int) = k := by omega
    rw [e] at z; exact z
  · intro h k hk
    have kn := List.mem_range.mp hk
    have z := h k (by omega) (by omega)
    rw [Int.toNat_natCast] at z
    exact decide_eq_true z
theorem fitsB_false {n : Int} {bs : List Int} {f : Int → Int} {k : Int} (k0 : 0 ≤ k) (k1 : k < n) (h : bs.getD k.toNat 0 < f k) : fitsB n bs f = false := by
  rw [Bool.eq_false_iff]
  intro y
  have := fitsB_iff.mp y k k0 k1
  omega
/-- a row: a page and an answer -/
def RW (H : Hp) (v : V) (r : Int × List Int) : Prop := ∃ t u, v = .ref t ∧ H t = some (.tup [.int r.1, .ref u]) ∧ H u = some (.tup (r.2.map V.int))
theorem RW.same {H H' : Hp} {v : V} {r : Int × List Int} (e : Same H H') (h : RW H v r) : RW H' v r := let ⟨t, u, a, b, c⟩ := h; ⟨t, u, a, e _ _ b, e _ _ c⟩
theorem RWs.same {H H' : Hp} {us : List V} {l : List (Int × List Int)} (e : Same H H') (h : Paired (RW H) us l) : Paired (RW H') us l := h.mono fun _ _ => RW.same e
theorem RW.butB {H H' : Hp} {s a : Addr} {v : V} {r : Int × List Int} (b : But s H H') (hs : Bx H s a) (h : RW H v r) : RW H' v r := by
  obtain ⟨_, _, _, _, _, h1, _⟩ := hs
  obtain ⟨t, u, x, y, z⟩ := h
  exact ⟨t, u, x, b t _ (ne_of y h1 (by intro w; cases w)) y, b u _ (ne_of z h1 (by intro w; cases w)) z⟩
theorem RWs.butB {H H' : Hp} {s a : Addr} {us : List V} {l : List (Int × List Int)} (b : But s H H') (hs : Bx H s a) (h : Paired (RW H) us l) : Paired (RW H') us l := h.mono fun _ _ => RW.butB b hs
theorem RW.mutL {H : Hp} {p : Addr} {o : HO} {xs : List V} {v : V} {r : Int × List Int} (hp : H p = some (.lst xs)) (h : RW H v r) : RW (upd H p o) v r := by
  obtain ⟨t, u, x, y, z⟩ := h
  exact ⟨t, u, x, keepNe y (ne_of y hp (by intro w; cases w)), keepNe z (ne_of z hp (by intro w; cases w))⟩
structure WDat (H : Hp) (w : Addr) (n L : Int) (rows : List (Int × Int)) : Prop where
  ex : ∃ (pq : Addr) (us : List V), H w = some (.tup [.int n, .ref pq, .int L]) ∧ H pq = some (.lst us) ∧ Paired (PR H) us rows ∧ us.length ≤ 100
  rg : RG n rows
  n0 : 1 ≤ n
  n1 : n ≤ 40
  L0 : 0 ≤ L
  L1 : L ≤ 60
theorem WDat.same {H H' : Hp} {w : Addr} {n L : Int} {rows : List (Int × Int)} (e : Same H H') (h : WDat H w n L rows) : WDat H' w n L rows :=
  ⟨let ⟨pq, us, a, b, c, d⟩ := h.ex; ⟨pq, us, e _ _ a, e _ _ b, PRs.same e c, d⟩, h.rg, h.n0, h.n1, h.L0, h.L1⟩
def sp_law_step (K : PySem.W.Frag) (A : CA) : Sp := fun vs H Q _ => ∃ (w pb t u : Addr) (n L p : Int) (rows : List (Int × Int)) (bs cs : List Int), vs = [.ref w, .ref pb, .ref t] ∧ WDat H w n L rows ∧ H pb = some (.lst (bs.map V.int)) ∧ BK L n.toNat bs ∧ H t = some (.tup [.int p, .ref u]) ∧ H u = some (.tup (cs.map V.int)) ∧ 0 ≤ p ∧ p < n ∧ (∀ c ∈ cs, 0 ≤ c ∧ c < n) ∧
  (fitsB n bs (uses rows p cs) = false → ∀ H', Same H H' → Q .non H') ∧ (fitsB n bs (uses rows p cs) = true → ∀ (l : Addr) (H' : Hp), H l = none → Same H H' → H' l = some (.lst ((aft n rows bs L p cs).map V.int)) → Q (.ref l) H')
def t_law_step (K : PySem.W.Frag) (A : CA) : TS :=
  (tSeq (tAsg (tOp (rIxT K) (tVar 0) (tC (.int 0))) (gName 3))
  (tSeq (tAsg (tLc (iRng1 (tCons (tVar 3) tNil)) (gName 5) tYes (tC (.int 0)) [5]) (gName 4))
  (C8.tCut (tIfS (tTest (tOp (rIn K true) (tOp (rIxT K) (tVar 2) (tC (.int 0))) (tOp (rIxT K) (tVar 2) (tC (.int 1))))) (tAsg (tC (.int 1)) (gSub (tVar 4) (tOp (rIxT K) (tVar 2) (tC (.int 0))) rSetL)) tNext)
  (tSeq (tFor (iList K (tOp (rIxT K) (tVar 0) (tC (.int 1)))) (gName 6)
  (tIfS (tAnd (tTest (tOp (rIn K false) (tOp (rIxT K) (tVar 6) (tC (.int 1))) (tOp (rIxT K) (tVar 2) (tC (.int 1))))) (tTest (tOp (rIn K true) (tOp (rIxT K) (tVar 6) (tC (.int 0))) (tOp (rIxT K) (tVar 2) (tC (.int 1)))))) (tAsg (tOp oAdd (tOp (rIxL K) (tVar 4) (tOp (rIxT K) (tVar 6) (tC (.int 0)))) (tC (.int 1))) (gSub (tVar 4) (tOp (rIxT K) (tVar 6) (tC (.int 0))) rSetL)) tNext))
  (tSeq (tFor (iRng1 (tCons (tVar 3) tNil)) (gName 5)
  (tIfS (tTest (tOp oGt (tOp (rIxL K) (tVar 4) (tVar 5)) (tOp (rIxL K) (tVar 1) (tVar 5)))) (tRet (tC .non)) tNext))
  (tSeq (tAsg (tLc (iRng1 (tCons (tVar 3) tNil)) (gName 5) tYes (tOp oSub (tOp (rIxL K) (tVar 1) (tVar 5)) (tOp (rIxL K) (tVar 4) (tVar 5))) [5]) (gName 7))
  (tSeq (tFor (iTup K (tOp (rIxT K) (tVar 2) (tC (.int 1)))) (gName 8)
  (tAsg (tOp (rIxT K) (tVar 0) (tC (.int 2))) (gSub (tVar 7) (tVar 8) rSetL)))
  (tRet (tVar 7)))))))))

theorem rd_law_step {K : PySem.W.Frag} {A : CA} {vs : List V} {H : Hp} {Q : VK} {E : XK} (h : sp_law_step K A vs H Q E) :
    t_law_step K A { nx := fun _ H' => Q .non H', rt := Q } (start ["world", "blank", "row", "pages", "uses", "k", "pair", "after", "page"] vs) H := by
  obtain ⟨w, pb, t, u, n, L, p, rows, bs, cs, rfl, hW, hb, hB, ht, hu, p0, p1, cb, q1, q2⟩ := h
  obtain ⟨pq, us, hw, hq, hP, hul⟩ := hW.ex
  have n0 := hW.n0
  have n1 := hW.n1
  have hR := hW.rg
  have bl := hB.len
  unfold t_law_step
  walk_at "go"
  refine lcR (fun Dl i H' => Same H H' ∧ H' Dl = some (.lst (((List.range i).map fun _ => (0 : Int)).map V.int))) (fun Dl hD => ⟨same_new hD, upd_same⟩) ?_ ?_
  · rintro Dl i H' hD hi ⟨e, gD⟩
    have sl : (((List.range i).map fun _ => (0 : Int)).map V.int).length < sizeLine := small1000 (by rw [List.length_map, List.length_map, List.length_range]; omega)
    walk_at "go"
    refine ⟨same_mut e hD, ?_⟩
    rw [List.range_succ, List.map_append, List.map_append, upd_same]; rfl
  rintro l H1 lH ⟨e1, g1⟩
  have ixn : ∀ k : Int, 0 ≤ k → k < n → ∀ f : Nat → Int, ixN (((List.range n.toNat).map f).map V.int).length k = some k.toNat := fun k k0 k1 f => by
    have B : BK 0 n.toNat ((List.range n.toNat).map fun _ => (0 : Int)) := ⟨by rw [List.length_map, List.length_range], fun b hb => by
      obtain ⟨_, _, rfl⟩ := List.mem_map.mp hb
      exact ⟨Int.le_refl 0, Int.le_refl 0⟩⟩
    obtain ⟨_, _, _, hj, _, _⟩ := B.get (k := k) k0 (by omega)
    rw [List.length_map, List.length_map, List.length_range] at hj ⊢
    exact hj
  walk_at "go"
  refine w_cut (fun σ H' => σ = [some (.ref w), some (.ref pb), some (.ref t), some (.int n), some (.ref l), none, none, none, none] ∧ Same H H' ∧ H' l = some (.lst (((List.range n.toNat).map fun k : Nat => uses [] p cs k).map V.int))) ?_ ?_
  · have ht1 := e1 _ _ ht
    have hu1 := e1 _ _ hu
    walk_at "go"
    refine w_ninT (SqT.of hu1) ?_
    refine ⟨_, rfl, ?_⟩
    by_cases c : p ∈ cs
    · rw [decide_eq_true c]
      refine w_iteNT ?_
      walk_at "go"
      refine ⟨e1, ?_⟩
      rw [g1]
      congr 3
      refine List.map_congr_left fun k _ => ?_
      unfold uses; simp [c]
    · rw [decide_eq_false c]
      refine w_iteNF ?_
      walk_at "go"
      refine w_setL g1 (ixn p p0 p1 _) ?_
      refine ⟨rfl, same_mut e1 lH, ?_⟩
      rw [upd_same, set_range (by omega)]
      congr 3
      refine List.map_congr_left fun k _ => ?_
      unfold uses
      by_cases ck : k = p.toNat
      · have : (k : Int) = p := by omega
        simp [ck, c]; omega
      · have : ¬ (k : Int) = p := fun z => ck (by omega)
        simp [ck, this]
  clear g1 e1
  rintro σ H2 ⟨rfl, e2, g2⟩
  have hq2 := e2 _ _ hq
  have hw2 := e2 _ _ hw
  walk_at "go"
  refine forL (xs := us) (fun i σ H' => ∃ k6 : Option V, σ = [some (.ref w), some (.ref pb), some (.ref t), some (.int n), some (.ref l), none, k6, none, none] ∧ Same H H' ∧ H' l = some (.lst ((usesL n (rows.take i) p cs).map V.int))) ?_ ?_ ?_ ?_
  · exact ⟨none, rfl, e2, g2⟩
  · rintro i σ H3 _ ⟨k5, rfl, e3, _⟩
    exact SqL.of (e3 _ _ hq)
  · rintro i x σ H3 hx ⟨k5, rfl, e3, g3⟩
    obtain ⟨r, hr, tr, rfl, htr⟩ := Paired.at' hP hx
    have hb := hR.bd r (List.mem_of_getElem? hr)
    have htr3 := e3 _ _ htr
    have ht3 := e3 _ _ ht
    have hu3 := e3 _ _ hu
    have tk : rows.take (i + 1) = rows.take i ++ [r] := by rw [List.take_succ, hr]; rfl
    have keepL : (¬ (r.2 ∈ cs ∧ r.1 ∉ cs)) → usesL n (rows.take (i + 1)) p cs = usesL n (rows.take i) p cs := fun h => by
      unfold usesL
      refine List.map_congr_left fun k _ => ?_
      rw [tk, uses_snoc, if_neg (fun z => h z.2)]
    walk_at "go"
    refine w_inT (SqT.of hu3) ?_
    walk_at "go"
    refine w_iteD (fun c1 => ?_) (fun c1 => ?_)
    · walk_at "go"
      refine w_ninT (SqT.of hu3) ?_
      refine ⟨_, rfl, ?_⟩
      by_cases c2 : r.1 ∈ cs
      · rw [decide_eq_true c2]
        refine w_iteNT ?_
        walk_at "go"
        exact ⟨_, rfl, e3, by rw [keepL (fun z => z.2 c2)]; exact g3⟩
      · rw [decide_eq_false c2]
        refine w_iteNF ?_
        have kn : r.1.toNat < n.toNat := by omega
        have av : atI ((usesL n (rows.take i) p cs).map V.int) r.1 = some (V.int (uses (rows.take i) p cs r.1)) := at_of (j := r.1.toNat) (by omega) (by
          unfold usesL
          have e : ((r.1.toNat : Nat) : Int) = r.1 := by omega
          simp [kn, e])
        walk_at "go"
        refine w_setL g3 (ixn r.1 hb.1 hb.2.1 _) ?_
        refine ⟨_, rfl, same_mut e3 lH, ?_⟩
        rw [upd_same]
        unfold usesL
        rw [set_range kn]
        congr 3
        refine List.map_congr_left fun k _ => ?_
        rw [tk, uses_snoc]
        by_cases ck : k = r.1.toNat
        · have e : (k : Int) = r.1 := by omega
          rw [if_pos ck, e, if_pos ⟨rfl, c1, c2⟩]
        · rw [if_neg ck, if_neg (fun z => ck (by omega))]
    · walk_at "go"
      exact ⟨_, rfl, e3, by rw [keepL (fun z => c1 z.1)]; exact g3⟩
  clear hq2 hw2 g2 e2
  rintro σ H3 ⟨k6, rfl, e3, g3⟩
  rw [hP.length, List.take_length] at g3
  have uv : ∀ i : Nat, i < n.toNat → atI ((usesL n rows p cs).map V.int) (0 + (i : Int)) = some (V.int (uses rows p cs i)) := fun i hi => at_of (j := i) (by omega) (by
    unfold usesL
    simp [hi])
  have bv : ∀ i : Nat, i < n.toNat → atI (bs.map V.int) (0 + (i : Int)) = some (V.int (bs.getD i 0)) := fun i hi => at_of (j := i) (by omega) (by
    rw [List.getElem?_map, List.getElem?_eq_getElem (by omega), List.getD_eq_getElem?_getD, List.getElem?_eq_getElem (by omega)]; rfl)
  walk_at "go"
  refine forR (fun i σ H' => ∃ k5 : Option V, σ = [some (.ref w), some (.ref pb), some (.ref t), some (.int n), some (.ref l), k5, k6, none, none] ∧ H' = H3 ∧ ∀ j : Nat, j < i → uses rows p cs j ≤ bs.getD j 0) ?_ ?_ ?_
  · exact ⟨none, rfl, rfl, fun j hj => absurd hj (Nat.not_lt_zero j)⟩
  · rintro i σ H4 hi ⟨k5, rfl, rfl, ok⟩
    have u1 := uv i hi
    have b1 := bv i hi
    have hb4 := e3 _ _ hb
    walk_at "go"
    refine w_iteD (fun c => ?_) (fun c => ?_)
    · walk_at "go"
      exact q1 (fitsB_false (k := (i : Int)) (by omega) (by omega) (by rw [Int.toNat_natCast]; omega)) _ e3
    · walk_at "go"
      exact ⟨_, rfl, rfl, fun j hj => by
        rcases Nat.lt_or_ge j i with h | h
        · exact ok j h
        · have : j = i := by omega
          rw [this]; omega⟩
  rintro σ H4 ⟨k5, rfl, rfl, ok⟩
  have hF : fitsB n bs (uses rows p cs) = true := fitsB_iff.mpr fun k k0 k1 => by
    have := ok k.toNat (by omega)
    rw [show ((k.toNat : Nat) : Int) = k by omega] at this
    exact this
  walk_at "go"
  refine lcR (fun Dl j H' => Same H4 H' ∧ H' Dl = some (.lst (((List.range j).map fun k : Nat => bs.getD k 0 - uses rows p cs k).map V.int))) (fun Dl hD => ⟨same_new hD, upd_same⟩) ?_ ?_
  · rintro Dl j H' hD hj ⟨e, gD⟩
    have u1 := uv j hj
    have b1 := bv j hj
    have gb := e _ _ (e3 _ _ hb)
    have gu := e _ _ g3
    have sl : (((List.range j).map fun k : Nat => bs.getD k 0 - uses rows p cs k).map V.int).length < sizeLine := small1000 (by rw [List.length_map, List.length_map, List.length_range]; omega)
    walk_at "go"
    refine ⟨same_mut e hD, ?_⟩
    rw [List.range_succ, List.map_append, List.map_append]
    exact upd_same
  rintro nb H5 hnb ⟨e5, g5⟩
  have E5 := e3.trans e5
  have nbH : H nb = none := e3.free hnb
  have ht5 := E5 _ _ ht
  have hu5 := E5 _ _ hu
  walk_at "go"
  refine w_forT ?_
  walk_at "go"
  refine ⟨⟨_, SqT.of hu5⟩, ?_⟩
  refine forT (xs := cs.map V.int) (fun i σ H' => ∃ k8 : Option V, σ = [some (.ref w), some (.ref pb), some (.ref t), some (.int n), some (.ref l), k5, k6, some (.ref nb), k8] ∧ Same H H' ∧ H' nb = some (.lst (((List.range n.toNat).map fun k : Nat => if (k : Int) ∈ cs.take i then L else bs.getD k 0 - uses rows p cs k).map V.int))) ?_ ?_ ?_ ?_
  · refine ⟨none, rfl, E5, ?_⟩
    rw [g5]
    congr 3
  · rintro i σ H6 _ ⟨k7, rfl, e6, _⟩
    exact SqT.of (e6 _ _ hu)
  · rintro i x σ H6 hx ⟨k7, rfl, e6, g6⟩
    obtain ⟨c, hc, rfl⟩ : ∃ c, cs[i]? = some c ∧ x = V.int c := by
      rw [List.getElem?_map] at hx
      cases e : cs[i]? with
      | none => rw [e] at hx; cases hx
      | some c => rw [e] at hx; exact ⟨c, rfl, (Option.some.inj hx).symm⟩
    have cb1 := cb c (List.mem_of_getElem? hc)
    have hw6 := e6 _ _ hw
    walk_at "go"
    refine w_setL g6 (ixn c cb1.1 cb1.2 _) ?_
    refine ⟨_, rfl, same_mut e6 nbH, ?_⟩
    rw [set_range (by omega), upd_same]
    congr 3
    refine List.map_congr_left fun k hk => ?_
    have tk : cs.take (i + 1) = cs.take i ++ [c] := by rw [List.take_succ, hc]; rfl
    rw [tk]
    by_cases ck : k = c.toNat
    · have : (k : Int) = c := by omega
      rw [if_pos ck, this, if_pos (List.mem_append_right _ List.mem_cons_self)]
    · have nk : ¬ (k : Int) = c := fun z => ck (by omega)
      rw [if_neg ck]
      by_cases m : (k : Int) ∈ cs.take i
      · rw [if_pos m, if_pos (List.mem_append_left _ m)]
      · rw [if_neg m, if_neg (fun z => by
          rcases List.mem_append.mp z with z | z
          · exact m z
          · exact nk (List.mem_singleton.mp z))]
  · rintro σ H6 ⟨k8, rfl, e6, g6⟩
    rw [List.length_map, List.take_length] at g6
    walk_at "go"
    exact q2 hF nb H6 nbH e6 g6
end G

end
section
local macro_rules | `(tactic| walk_at "call") => `(tactic| (refine' G.w_cnt ?g1 ?_; (case g1 => walk_at "sq")))

local macro_rules | `(tactic| walk_at "call") => `(tactic| (refine' G.w_popAt ?g1 ?g2 ?g3 ?g4 ?_; (case g1 => walk_at "hp"); (case g2 => walk_at "ar"); (case g3 => walk_at "ar"); (case g4 => walk_at "ar")))

local macro_rules | `(tactic| walk_at "call") => `(tactic| (refine' G.i_whole ?_))

local macro_rules | `(tactic| walk_at "bx") => `(tactic| first | assumption | exact G.Bx.new (by walk_at "bx") (by assumption) | exact G.Bx.same (by assumption) (by walk_at "bx"))
local macro_rules | `(tactic| walk_at "call") => `(tactic| (refine' G.i_take ?g1 ?g2 ?g3 ?_; (case g1 => walk_at "bx"); (case g2 => walk_at "ar"); (case g3 => walk_at "ar")))

namespace G
open PySem L2 GX
theorem w_lenT {K : PySem.W.Frag} {H : Hp} {Q : VK} {p : Addr} {xs : List V} (h : SqT K H p xs) (q : Q (.int xs.length) H) : rLenQ K [.ref p] H Q := ⟨p, xs, rfl, .inr h, q⟩
theorem w_ixTS {K : PySem.W.Frag} {H : Hp} {Q : VK} {p : Addr} {xs : List V} {k : Int} {v : V} (h : SqT K H p xs) (ha : atI xs k = some v) (q : Q v H) : rIxT K (.ref p) (.int k) H Q := ⟨p, xs, k, v, rfl, rfl, h, ha, q⟩
def ascB (cs : List Int) : Bool := (List.range (cs.length - 1)).all fun k => decide (cs.getD k 0 < cs.getD (k + 1) 0)
theorem ascB_iff {cs : List Int} : ascB cs = true ↔ ∀ k : Nat, k + 1 < cs.length → cs.getD k 0 < cs.getD (k + 1) 0 := by
  unfold ascB
  rw [List.all_eq_true]
  constructor
  · intro h k hk
    exact of_decide_eq_true (h k (List.mem_range.mpr (by omega)))
  · intro h k hk
    have := List.mem_range.mp hk
    exact decide_eq_true (h k (by omega))
/-- what is wrong with a row -/
def rsn (n most p : Int) (cs : List Int) : Option Str := if (p :: cs).any (isOut n) = true then some ("page" : PySem.Str) else if ascB cs = true ∧ (cs.length : Int) ≤ most then none else some ("answer" : PySem.Str)
def rsV : Option Str → V
  | none => .non
  | some x => .str x
theorem rsn_out {n most p z : Int} {cs : List Int} (h : z ∈ p :: cs) (o : isOut n z = true) : rsn n most p cs = some ("page" : PySem.Str) := by
  unfold rsn
  rw [if_pos (List.any_eq_true.mpr ⟨z, h, o⟩)]
theorem rsn_ans {n most p : Int} {cs : List Int} (h : ∀ z ∈ p :: cs, isOut n z = false) (c : ¬ (ascB cs = true ∧ (cs.length : Int) ≤ most)) : rsn n most p cs = some ("answer" : PySem.Str) := by
  unfold rsn
  rw [if_neg, if_neg c]
  intro z
  obtain ⟨y, hy, ho⟩ := List.any_eq_true.mp z
  rw [h y hy] at ho; cases ho
theorem rsn_ok {n most p : Int} {cs : List Int} (h : ∀ z ∈ p :: cs, isOut n z = false) (c : ascB cs = true ∧ (cs.length : Int) ≤ most) : rsn n most p cs = none := by
  unfold rsn
  rw [if_neg, if_pos c]
  intro z
  obtain ⟨y, hy, ho⟩ := List.any_eq_true.mp z
  rw [h y hy] at ho; cases ho
theorem rsn_in {n most p : Int} {cs : List Int} (h : rsn n most p cs = none) : (∀ z ∈ p :: cs, 0 ≤ z ∧ z < n) ∧ (cs.length : Int) ≤ most := by
  unfold rsn at h
  split at h
  · cases h
  · next c =>
    split at h
    · next c2 =>
      refine ⟨fun z hz => in_of (?_), c2.2⟩
      cases o : isOut n z with
      | false => rfl
      | true => exact absurd (List.any_eq_true.mpr ⟨z, hz, o⟩) c
    · cases h
def sp_law_reason (K : PySem.W.Frag) (A : CA) : Sp := fun vs H Q _ => ∃ (t u : Addr) (n most p : Int) (cs : List Int), vs = [.int n, .int most, .ref t] ∧ H t = some (.tup [.int p, .ref u]) ∧ H u = some (.tup (cs.map V.int)) ∧ cs.length ≤ 100 ∧ ∀ H', Same H H' → Q (rsV (rsn n most p cs)) H'
def t_law_reason (K : PySem.W.Frag) (A : CA) : TS :=
  (tSeq (tFor (iList K (tOp rCat (tLst (tCons (tOp (rIxT K) (tVar 2) (tC (.int 0))) tNil)) (tCB (oListOf K) (tCons (tOp (rIxT K) (tVar 2) (tC (.int 1))) tNil)))) (gName 3)
  (tIfS (tOr (tTest (tOp oLt (tVar 3) (tC (.int 0)))) (tTest (tOp oGe (tVar 3) (tVar 0)))) (tRet (tC (.str "page"))) tNext))
  (tSeq (tFor (iRng2 (tCons (tC (.int 1)) (tCons (tCB (rLenQ K) (tCons (tOp (rIxT K) (tVar 2) (tC (.int 1))) tNil)) tNil))) (gName 4)
  (tIfS (tTest (tOp oGe (tOp (rIxT K) (tOp (rIxT K) (tVar 2) (tC (.int 1))) (tOp oSub (tVar 4) (tC (.int 1)))) (tOp (rIxT K) (tOp (rIxT K) (tVar 2) (tC (.int 1))) (tVar 4)))) (tRet (tC (.str "answer"))) tNext))
  (tSeq (tIfS (tTest (tOp oGt (tCB (rLenQ K) (tCons (tOp (rIxT K) (tVar 2) (tC (.int 1))) tNil)) (tVar 1))) (tRet (tC (.str "answer"))) tNext)
  (tRet (tC .non)))))

theorem rd_law_reason {K : PySem.W.Frag} {A : CA} {vs : List V} {H : Hp} {Q : VK} {E : XK} (h : sp_law_reason K A vs H Q E) :
    t_law_reason K A { nx := fun _ H' => Q .non H', rt := Q } (start ["pages", "most", "row", "page", "k"] vs) H := by
  obtain ⟨t, u, n, most, p, cs, rfl, ht, hu, cl, q⟩ := h
  unfold t_law_reason
  walk_at "go"
  intro l1 hl1
  have e1 := same_new (o := .lst [V.int p]) hl1
  have g1 : (upd H l1 (.lst [V.int p])) l1 = some (.lst [V.int p]) := upd_same
  have ht1 := e1 _ _ ht
  have hu1 := e1 _ _ hu
  generalize upd H l1 (.lst [V.int p]) = H1 at e1 g1 ht1 hu1
  walk_at "go"
  refine GY.w_listT (SqT.of hu1) fun l2 hl2 => ?_
  have e2 := e1.trans (same_new (o := .lst (cs.map V.int)) hl2)
  have g2 : (upd H1 l2 (.lst (cs.map V.int))) l2 = some (.lst (cs.map V.int)) := upd_same
  have g12 := keep (o' := .lst (cs.map V.int)) g1 hl2
  generalize upd H1 l2 (.lst (cs.map V.int)) = H2 at e2 g2 g12
  have sz : [V.int p].length + (cs.map V.int).length ≤ sizeLine := Nat.le_of_lt (small1000 (by rw [List.length_map, List.length_singleton]; omega))
  walk_at "go"
  intro l3 hl3
  have e3 := e2.trans (same_new (o := .lst ([V.int p] ++ cs.map V.int)) hl3)
  have g3 : (upd H2 l3 (.lst ([V.int p] ++ cs.map V.int))) l3 = some (.lst ((p :: cs).map V.int)) := upd_same
  generalize upd H2 l3 (.lst ([V.int p] ++ cs.map V.int)) = H3 at e3 g3
  have ht3 := e3 _ _ ht
  have hu3 := e3 _ _ hu
  clear e1 e2 g1 g2 g12 ht1 hu1 hl1 hl2 hl3 sz
  walk_at "go"
  refine forL (xs := (p :: cs).map V.int) (fun i σ H' => ∃ k3 : Option V, σ = [some (.int n), some (.int most), some (.ref t), k3, none] ∧ H' = H3 ∧ ∀ z ∈ (p :: cs).take i, isOut n z = false) ?_ ?_ ?_ ?_
  · exact ⟨none, rfl, rfl, fun z hz => nomatch hz⟩
  · rintro i σ H4 _ ⟨k3, rfl, rfl, _⟩
    exact SqL.of g3
  · rintro i x σ H4 hx ⟨k3, rfl, rfl, ok⟩
    obtain ⟨z, hz, rfl⟩ : ∃ z, (p :: cs)[i]? = some z ∧ x = V.int z := by
      rw [List.getElem?_map] at hx
      cases e : (p :: cs)[i]? with
      | none => rw [e] at hx; cases hx
      | some z => rw [e] at hx; exact ⟨z, rfl, (Option.some.inj hx).symm⟩
    have out : isOut n z = true → Q (.str "page") H4 := fun o => by
      have := q H4 e3
      rw [rsn_out (List.mem_of_getElem? hz) o] at this
      exact this
    walk_at "go"
    refine w_iteD (fun c => ?_) (fun c => ?_)
    · walk_at "go"
      exact out (out_of (.inl c))
    walk_at "go"
    refine w_iteD (fun c2 => ?_) (fun c2 => ?_)
    · walk_at "go"
      exact out (out_of (.inr c2))
    · walk_at "go"
      refine ⟨_, rfl, rfl, fun y hy => ?_⟩
      rw [List.take_succ, hz] at hy
      rcases List.mem_append.mp hy with w | w
      · exact ok y w
      · rw [List.mem_singleton.mp w]; exact isOut_in (by omega) (by omega)
  rintro σ H4 ⟨k3, rfl, rfl, ok⟩
  rw [List.length_map, List.take_length] at ok
  have gv : ∀ k : Nat, k < cs.length → ∀ z : Int, z = (k : Int) → atI (cs.map V.int) z = some (V.int (cs.getD k 0)) := fun k hk z hz => at_of (j := k) hz (by
    rw [List.getElem?_map, List.getD_eq_getElem?_getD, List.getElem?_eq_getElem hk]; rfl)
  walk_at "go"
  refine w_lenT (SqT.of hu3) ?_
  rw [List.length_map]
  walk_at "go"
  refine forR (fun i σ H' => ∃ k4 : Option V, σ = [some (.int n), some (.int most), some (.ref t), k3, k4] ∧ H' = H4 ∧ ∀ k : Nat, k < i → cs.getD k 0 < cs.getD (k + 1) 0) ?_ ?_ ?_
  · exact ⟨none, rfl, rfl, fun k hk => absurd hk (Nat.not_lt_zero k)⟩
  · rintro i σ H5 hi ⟨k4, rfl, rfl, asc⟩
    walk_at "go"
    refine w_ixTS (SqT.of hu3) (gv i (by omega) (1 + (i : Int) - 1) (by omega)) ?_
    walk_at "go"
    refine w_ixTS (SqT.of hu3) (gv (i + 1) (by omega) (1 + (i : Int)) (by omega)) ?_
    walk_at "go"
    refine w_iteD (fun c => ?_) (fun c => ?_)
    · walk_at "go"
      have := q H5 e3
      rw [rsn_ans ok (fun z => by have := ascB_iff.mp z.1 i (by omega); omega)] at this
      exact this
    · walk_at "go"
      exact ⟨_, rfl, rfl, fun k hk => by
        rcases Nat.lt_or_ge k i with w | w
        · exact asc k w
        · have : k = i := by omega
          rw [this]; omega⟩
  rintro σ H5 ⟨k4, rfl, rfl, asc⟩
  have ha : ascB cs = true := ascB_iff.mpr fun k hk => asc k (by omega)
  walk_at "go"
  refine w_lenT (SqT.of hu3) ?_
  rw [List.length_map]
  walk_at "go"
  refine w_iteD (fun c => ?_) (fun c => ?_)
  · walk_at "go"
    have := q H5 e3
    rw [rsn_ans ok (fun z => by omega)] at this
    exact this
  · walk_at "go"
    have := q H5 e3
    rw [rsn_ok ok ⟨ha, by omega⟩] at this
    exact this
end G

end
section
local macro_rules | `(tactic| walk_at "call") => `(tactic| (refine' G.w_cnt ?g1 ?_; (case g1 => walk_at "sq")))

local macro_rules | `(tactic| walk_at "call") => `(tactic| (refine' G.w_popAt ?g1 ?g2 ?g3 ?g4 ?_; (case g1 => walk_at "hp"); (case g2 => walk_at "ar"); (case g3 => walk_at "ar"); (case g4 => walk_at "ar")))

local macro_rules | `(tactic| walk_at "call") => `(tactic| (refine' G.i_whole ?_))

local macro_rules | `(tactic| walk_at "bx") => `(tactic| first | assumption | exact G.Bx.new (by walk_at "bx") (by assumption) | exact G.Bx.same (by assumption) (by walk_at "bx"))
local macro_rules | `(tactic| walk_at "call") => `(tactic| (refine' G.i_take ?g1 ?g2 ?g3 ?_; (case g1 => walk_at "bx"); (case g2 => walk_at "ar"); (case g3 => walk_at "ar")))

namespace G
open PySem L2 GX
/-- the judge: where the first wrong row stands, what is wrong with it, the blank lines ahead of it -/
def jud (n most L : Int) (rows : List (Int × Int)) : List Int → List (Int × List Int) → Nat → Option Nat × Option PySem.Str × List Int
  | bs, [], _ => (none, none, bs)
  | bs, r :: rest, k => match rsn n most r.1 r.2 with
    | some x => (some k, some x, bs)
    | none => if fitsB n bs (uses rows r.1 r.2) = true then jud n most L rows (aft n rows bs L r.1 r.2) rest (k + 1) else (some k, some "line", bs)
def kV : Option Nat → V
  | none => .non
  | some k => .int (k : Nat)
theorem jud_step {n most L : Int} {rows : List (Int × Int)} {bs : List Int} {rws : List (Int × List Int)} {i : Nat} {r : Int × List Int} (h : rws[i]? = some r) :
    jud n most L rows bs (rws.drop i) i = (match rsn n most r.1 r.2 with
    | some x => (some i, some x, bs)
    | none => if fitsB n bs (uses rows r.1 r.2) = true then jud n most L rows (aft n rows bs L r.1 r.2) (rws.drop (i + 1)) (i + 1) else (some i, some ("line" : PySem.Str), bs)) := by
  have e : rws.drop i = r :: rws.drop (i + 1) := by
    obtain ⟨hi, e⟩ := List.getElem?_eq_some_iff.mp h
    rw [List.drop_eq_getElem_cons hi, e]
  rw [e]; rfl
theorem jud_end {n most L : Int} {rows : List (Int × Int)} {bs : List Int} {rws : List (Int × List Int)} : jud n most L rows bs (rws.drop rws.length) rws.length = (none, none, bs) := by
  rw [List.drop_length]; rfl
theorem w_isNr2 {ta : TE} {σ : L2.St} {H : Hp} {Q : VK} (h : ta σ H fun x H1 => Q (.bl (decide (x = .non))) H1) : tIsN ta σ H Q := h
theorem w_notNr {ta : TE} {σ : L2.St} {H : Hp} {Q : VK} (h : ta σ H fun x H1 => Q (.bl (!decide (x = .non))) H1) : tNotN ta σ H Q := h
theorem rsV_some {x : PySem.Str} : (!decide (rsV (some x) = .non)) = true := by
  have : ¬ rsV (some x) = .non := fun z => nomatch z
  rw [decide_eq_false this]; rfl
theorem rsV_none : (!decide (rsV none = .non)) = false := by
  show (!decide (V.non = V.non)) = false
  rw [decide_eq_true rfl]; rfl
theorem ref_non {p : Addr} : decide (V.ref p = .non) = false := decide_eq_false fun z => nomatch z
theorem RW.get {H : Hp} {v : V} {r : Int × List Int} (h : RW H v r) : ∃ t u, v = .ref t ∧ H t = some (.tup [.int r.1, .ref u]) ∧ H u = some (.tup (r.2.map V.int)) := h
def sp_law_judged (K : PySem.W.Frag) (A : CA) : Sp := fun vs H Q _ => ∃ (w pb pr : Addr) (n most L : Int) (rows : List (Int × Int)) (bs : List Int) (vs' : List V) (rws : List (Int × List Int)), vs = [.ref w, .int most, .ref pb, .ref pr] ∧ WDat H w n L rows ∧ H pb = some (.lst (bs.map V.int)) ∧ BK L n.toNat bs ∧ H pr = some (.lst vs') ∧ Paired (RW H) vs' rws ∧ vs'.length ≤ 100 ∧ (∀ r ∈ rws, r.2.length ≤ 100) ∧
  ∀ (q l : Addr) (H' : Hp), H q = none → H l = none → Same H H' → H' q = some (.tup [kV (jud n most L rows bs rws 0).1, rsV (jud n most L rows bs rws 0).2.1, .ref l]) → H' l = some (.lst ((jud n most L rows bs rws 0).2.2.map V.int)) → Q (.ref q) H'
def t_law_judged (K : PySem.W.Frag) (A : CA) : TS :=
  (tSeq (tAsg (tCB (oListOf K) (tCons (tVar 2) tNil)) (gName 4))
  (tSeq (tFor (iRng1 (tCons (tCB (rLenQ K) (tCons (tVar 3) tNil)) tNil)) (gName 5)
  (tSeq (tAsg (tCall (sp_law_reason K A) [] E0 (tCons (tOp (rIxT K) (tVar 0) (tC (.int 0))) (tCons (tVar 1) (tCons (tOp (rIxL K) (tVar 3) (tVar 5)) tNil)))) (gName 6))
  (tSeq (tIfS (tB (tNotN (tVar 6))) (tRet (tTup (tCons (tVar 5) (tCons (tVar 6) (tCons (tVar 4) tNil))))) tNext)
  (tSeq (tAsg (tCall (sp_law_step K A) [] E0 (tCons (tVar 0) (tCons (tVar 4) (tCons (tOp (rIxL K) (tVar 3) (tVar 5)) tNil)))) (gName 7))
  (tSeq (tIfS (tB (tIsN (tVar 7))) (tRet (tTup (tCons (tVar 5) (tCons (tC (.str "line")) (tCons (tVar 4) tNil))))) tNext)
  (tAsg (tVar 7) (gName 4)))))))
  (tRet (tTup (tCons (tC .non) (tCons (tC .non) (tCons (tVar 4) tNil)))))))

theorem rd_law_judged {K : PySem.W.Frag} {A : CA} {vs : List V} {H : Hp} {Q : VK} {E : XK} (h : sp_law_judged K A vs H Q E) :
    t_law_judged K A { nx := fun _ H' => Q .non H', rt := Q } (start ["world", "most", "blank", "rows", "now", "k", "reason", "after"] vs) H := by
  obtain ⟨w, pb, pr, n, most, L, rows, bs, us, rws, rfl, hW, hb, hB, hr, hP, hul, hrl, q⟩ := h
  obtain ⟨pq, us2, hw, _⟩ := hW.ex
  have hlen := hP.length
  unfold t_law_judged
  walk_at "go"
  intro l0 hl0
  have e0 := same_new (o := .lst (bs.map V.int)) hl0
  have g0 : (upd H l0 (.lst (bs.map V.int))) l0 = some (.lst (bs.map V.int)) := upd_same
  have hr0 := e0 _ _ hr
  generalize upd H l0 (.lst (bs.map V.int)) = H0 at e0 g0 hr0
  walk_at "go"
  refine forR (fun i σ H' => ∃ (k5 k6 k7 : Option V) (l : Addr) (cur : List Int), σ = [some (.ref w), some (.int most), some (.ref pb), some (.ref pr), some (.ref l), k5, k6, k7] ∧ Same H H' ∧ H l = none ∧ H' l = some (.lst (cur.map V.int)) ∧ BK L n.toNat cur ∧ jud n most L rows bs rws 0 = jud n most L rows cur (rws.drop i) i) ?_ ?_ ?_
  · exact ⟨none, none, none, l0, bs, rfl, e0, hl0, g0, hB, by rw [List.drop_zero]⟩
  · rintro i σ H1 hi ⟨k5, k6, k7, l, cur, rfl, e1, lH, g1, hC, ej⟩
    have il : i < us.length := hi
    obtain ⟨v, hv⟩ : ∃ v, us[i]? = some v := ⟨_, List.getElem?_eq_getElem il⟩
    obtain ⟨r, hrr, hRW⟩ := Paired.at' hP hv
    obtain ⟨t, u, rfl, ht, hu⟩ := hRW
    have rl := hrl r (List.mem_of_getElem? hrr)
    rw [jud_step hrr] at ej
    have hw1 := e1 _ _ hw
    have hr1 := e1 _ _ hr
    have av : atI us (0 + (i : Int)) = some (.ref t) := at_of (j := i) (by omega) hv
    walk_at "go"
    refine ⟨t, u, n, most, r.1, r.2, rfl, e1 _ _ ht, e1 _ _ hu, rl, fun H2 e2 => ?_⟩
    have E2 := e1.trans e2
    have g2 := e2 _ _ g1
    have hr2 := e2 _ _ hr1
    walk_at "go"
    refine w_notNr ?_
    walk_at "go"
    cases hq : rsn n most r.1 r.2 with
    | some x =>
      rw [hq] at ej
      rw [rsV_some]
      walk_at "go"
      intro q1 hq1
      refine q q1 l _ (E2.free hq1) lH (E2.trans (same_new hq1)) ?_ ?_
      · rw [ej, upd_same, show (0 : Int) + (i : Int) = ((i : Nat) : Int) by omega]; rfl
      · rw [ej]; exact keep g2 hq1
    | none =>
      rw [hq] at ej
      obtain ⟨inn, _⟩ := rsn_in hq
      rw [rsV_none]
      refine w_iteF ?_
      walk_at "go"
      refine ⟨w, l, t, u, n, L, r.1, rows, cur, r.2, rfl, hW.same E2, g2, hC, E2 _ _ ht, E2 _ _ hu, (inn r.1 List.mem_cons_self).1, (inn r.1 List.mem_cons_self).2, (fun c hc => inn c (List.mem_cons_of_mem _ hc)), fun hf H3 e3 => ?_, fun hf l3 H3 hl3 e3 g3 => ?_⟩
      · rw [hf] at ej
        have E3 := E2.trans e3
        have g23 := e3 _ _ g2
        walk_at "go"
        refine w_isNr2 ?_
        walk_at "go"
        refine w_iteRf ?_
        walk_at "go"
        intro q1 hq1
        refine q q1 l _ (E3.free hq1) lH (E3.trans (same_new hq1)) ?_ ?_
        · rw [ej, upd_same, show (0 : Int) + (i : Int) = ((i : Nat) : Int) by omega]; rfl
        · rw [ej]; exact keep g23 hq1
      · rw [hf, if_pos rfl] at ej
        have E3 := E2.trans e3
        walk_at "go"
        refine w_isNr2 ?_
        walk_at "go"
        rw [ref_non]
        refine w_iteF ?_
        walk_at "go"
        exact ⟨_, _, _, l3, _, rfl, E3, E2.free hl3, g3, aft_bk hC hW.L0 (fitsB_iff.mp hf), ej⟩
  · rintro σ H1 ⟨k5, k6, k7, l, cur, rfl, e1, lH, g1, hC, ej⟩
    rw [show ((us.length : Int)).toNat = rws.length by omega, jud_end] at ej
    walk_at "go"
    intro q1 hq1
    refine q q1 l _ (e1.free hq1) lH (e1.trans (same_new hq1)) ?_ ?_
    · rw [ej, upd_same]; rfl
    · rw [ej]; exact keep g1 hq1
end G

end
section
local macro_rules | `(tactic| walk_at "call") => `(tactic| (refine' G.w_cnt ?g1 ?_; (case g1 => walk_at "sq")))

local macro_rules | `(tactic| walk_at "call") => `(tactic| (refine' G.w_popAt ?g1 ?g2 ?g3 ?g4 ?_; (case g1 => walk_at "hp"); (case g2 => walk_at "ar"); (case g3 => walk_at "ar"); (case g4 => walk_at "ar")))

local macro_rules | `(tactic| walk_at "call") => `(tactic| (refine' G.i_whole ?_))

local macro_rules | `(tactic| walk_at "bx") => `(tactic| first | assumption | exact G.Bx.new (by walk_at "bx") (by assumption) | exact G.Bx.same (by assumption) (by walk_at "bx"))
local macro_rules | `(tactic| walk_at "call") => `(tactic| (refine' G.i_take ?g1 ?g2 ?g3 ?_; (case g1 => walk_at "bx"); (case g2 => walk_at "ar"); (case g3 => walk_at "ar")))

namespace G
open PySem L2 GX
/-- a tuple of ints -/
def TP (H : Hp) (v : V) (cs : List Int) : Prop := ∃ t, v = .ref t ∧ H t = some (.tup (cs.map V.int))
theorem TPs.same {H H' : Hp} {us : List V} {l : List (List Int)} (e : Same H H') (h : Paired (TP H) us l) : Paired (TP H') us l := h.mono fun _ _ ⟨t, a, b⟩ => ⟨t, a, e _ _ b⟩
def GoodR (n : Int) (r : Int × List Int) : Prop := 0 ≤ r.1 ∧ r.1 < n ∧ (∀ c ∈ r.2, 0 ≤ c ∧ c < n) ∧ r.2.length ≤ 5
def sp_law_better (K : PySem.W.Frag) (A : CA) : Sp := fun vs H Q _ => ∃ (w pb t u : Addr) (n L p : Int) (rows : List (Int × Int)) (bs cs : List Int), vs = [.ref w, .ref pb, .ref t] ∧ WDat H w n L rows ∧ H pb = some (.lst (bs.map V.int)) ∧ BK L n.toNat bs ∧ H t = some (.tup [.int p, .ref u]) ∧ H u = some (.tup (cs.map V.int)) ∧ GoodR n (p, cs) ∧
  ∀ (v : V) (r : Int × List Int) (H' : Hp), Same H H' → RW H' v r → GoodR n r → Q v H'
def t_law_better (K : PySem.W.Frag) (A : CA) : TS :=
  (tSeq (tIfS (tB (tNotN (tCall (sp_law_step K A) [] E0 (tCons (tVar 0) (tCons (tVar 1) (tCons (tVar 2) tNil)))))) (tRet (tVar 2)) tNext)
  (tSeq (tAsg (tOp (rIxT K) (tVar 0) (tC (.int 0))) (gName 3))
  (tSeq (tAsg (tOp rCat (tLst (tCons (tTup tNil) tNil)) (tLc (iRng1 (tCons (tCB oMin2 (tCons (tC (.int 8)) (tCons (tVar 3) tNil))) tNil)) (gName 5) tYes (tTup (tCons (tOp oMod (tCB oInt (tCons (tOp oAdd (tOp (rIxT K) (tVar 2) (tC (.int 0))) (tVar 5)) tNil)) (tVar 3)) tNil)) [5])) (gName 4))
  (tSeq (tFor (iList K (tVar 4)) (gName 6)
  (tIfS (tB (tNotN (tCall (sp_law_step K A) [] E0 (tCons (tVar 0) (tCons (tVar 1) (tCons (tTup (tCons (tOp (rIxT K) (tVar 2) (tC (.int 0))) (tCons (tVar 6) tNil))) tNil)))))) (tRet (tTup (tCons (tOp (rIxT K) (tVar 2) (tC (.int 0))) (tCons (tVar 6) tNil)))) tNext))
  (tRet (tVar 2))))))

theorem rd_law_better {K : PySem.W.Frag} {A : CA} {vs : List V} {H : Hp} {Q : VK} {E : XK} (h : sp_law_better K A vs H Q E) :
    t_law_better K A { nx := fun _ H' => Q .non H', rt := Q } (start ["world", "blank", "row", "pages", "tries", "k", "answer"] vs) H := by
  obtain ⟨w, pb, t, u, n, L, p, rows, bs, cs, rfl, hW, hb, hB, ht, hu, hG, q⟩ := h
  obtain ⟨pq, us2, hw, _⟩ := hW.ex
  have n0 := hW.n0
  have n1 := hW.n1
  have orig : ∀ H', Same H H' → Q (.ref t) H' := fun H' e => q (.ref t) (p, cs) H' e ⟨t, u, rfl, e _ _ ht, e _ _ hu⟩ hG
  unfold t_law_better
  walk_at "go"
  refine w_notNr ?_
  walk_at "go"
  refine ⟨w, pb, t, u, n, L, p, rows, bs, cs, rfl, hW, hb, hB, ht, hu, hG.1, hG.2.1, hG.2.2.1, fun _ H1 e1 => ?_, fun _ l1 H1 _ e1 _ => ?_⟩
  rotate_left
  · refine ⟨true, rfl, w_iteT ?_⟩
    walk_at "go"
    exact orig H1 e1
  refine ⟨false, rfl, w_iteF ?_⟩
  have hw1 := e1 _ _ hw
  have ht1 := e1 _ _ ht
  walk_at "go"
  intro l2 hl2
  have e2 := e1.trans (same_new (o := .tup []) hl2)
  have g2 : (upd H1 l2 (.tup [])) l2 = some (.tup (([] : List Int).map V.int)) := upd_same
  generalize upd H1 l2 (.tup []) = H2 at e2 g2
  walk_at "go"
  intro l3 hl3
  have e3 := e2.trans (same_new (o := .lst [V.ref l2]) hl3)
  have g3 : (upd H2 l3 (.lst [V.ref l2])) l3 = some (.lst [V.ref l2]) := upd_same
  have g23 := keep (o' := .lst [V.ref l2]) g2 hl3
  generalize upd H2 l3 (.lst [V.ref l2]) = H3 at e3 g3 g23
  have ht3 := e3 _ _ ht
  walk_at "go"
  have m1 : (if n < 8 then n else 8).toNat ≤ 8 := by split <;> omega
  generalize (if n < 8 then n else 8).toNat = M at m1
  refine lcR (fun Dl i H' => Same H3 H' ∧ ∃ (ws : List V) (tl : List (List Int)), H' Dl = some (.lst ws) ∧ ws.length = i ∧ Paired (fun v c => TP H' v c ∧ v ≠ .ref Dl) ws tl ∧ ∀ c ∈ tl, ∃ z : Int, c = [z] ∧ 0 ≤ z ∧ z < n) (fun Dl hD => ⟨same_new hD, [], [], upd_same, rfl, .nil, fun _ h => nomatch h⟩) ?_ ?_
  · rintro Dl i H4 hD hi ⟨e4, ws, tl, g4, wl, hP4, hz⟩
    have sl : ws.length < sizeLine := small1000 (by omega)
    have ht4 := e4 _ _ ht3
    walk_at "go"
    intro t5 ht5
    have nt : t5 ≠ Dl := (ne_of_none g4 ht5).symm
    have z0 := Int.emod_nonneg (p + (0 + (i : Int))) (b := n) (by omega)
    have z1 := Int.emod_lt_of_pos (p + (0 + (i : Int))) (b := n) (by omega)
    have e5 := same_new (o := .tup [V.int ((p + (0 + (i : Int))) % n)]) ht5
    walk_at "go"
    refine ⟨same_mut (e4.trans e5) hD, _, tl ++ [[(p + (0 + (i : Int))) % n]], upd_same, by rw [List.length_append, List.length_singleton, wl], ?_, fun c hc => ?_⟩
    · refine Paired.snoc (hP4.mono fun v c ⟨⟨t', x, y⟩, n1⟩ => ⟨⟨t', x, keepNe (e5 _ _ y) (fun z => n1 (by rw [x, z]))⟩, n1⟩) ⟨⟨t5, rfl, ?_⟩, fun z => nt (by cases z; rfl)⟩
      rw [keepNe upd_same nt]; rfl
    · rcases List.mem_append.mp hc with h | h
      · exact hz c h
      · exact ⟨_, List.mem_singleton.mp h, z0, z1⟩
  rintro l4 H4 hD4 ⟨e4, ws, tl, g4, wl, hP4, hz⟩
  have sz : [V.ref l2].length + ws.length ≤ sizeLine := Nat.le_of_lt (small1000 (by rw [List.length_singleton]; omega))
  have g34 := e4 _ _ g3
  walk_at "go"
  intro l5 hl5
  have e5 := (e3.trans e4).trans (same_new (o := .lst ([V.ref l2] ++ ws)) hl5)
  have g5 : (upd H4 l5 (.lst ([V.ref l2] ++ ws))) l5 = some (.lst ([V.ref l2] ++ ws)) := upd_same
  have hP5 : Paired (TP (upd H4 l5 (.lst ([V.ref l2] ++ ws)))) ([V.ref l2] ++ ws) ([[]] ++ tl) := .cons ⟨l2, rfl, keep (e4 _ _ g23) hl5⟩ (hP4.mono fun v c ⟨⟨t', x, y⟩, _⟩ => ⟨t', x, keep y hl5⟩)
  have good : ∀ c ∈ [[]] ++ tl, GoodR n (p, c) := fun c hc => by
    rcases List.mem_append.mp hc with h | h
    · rw [List.mem_singleton.mp h]
      exact ⟨hG.1, hG.2.1, (fun _ z => nomatch z), Nat.zero_le _⟩
    · obtain ⟨z, rfl, z0, z1⟩ := hz c h
      exact ⟨hG.1, hG.2.1, (fun y hy => by rw [List.mem_singleton.mp hy]; exact ⟨z0, z1⟩), (by show 1 ≤ 5; decide)⟩
  generalize upd H4 l5 (.lst ([V.ref l2] ++ ws)) = H5 at e5 g5 hP5
  generalize [V.ref l2] ++ ws = cv at g5 hP5
  generalize [[]] ++ tl = ctl at hP5 good
  clear e1 hw1 ht1 e2 g2 e3 g3 g23 ht3 e4 g4 hP4 g34 sz hl5 hD4 hl2 hl3
  walk_at "go"
  refine forL (xs := cv) (fun i σ H' => ∃ k6 : Option V, σ = [some (.ref w), some (.ref pb), some (.ref t), some (.int n), some (.ref l5), none, k6] ∧ Same H5 H') ?_ ?_ ?_ ?_
  · exact ⟨none, rfl, fun _ _ z => z⟩
  · rintro i σ H6 _ ⟨k6, rfl, e6⟩
    exact SqL.of (e6 _ _ g5)
  · rintro i x σ H6 hx ⟨k6, rfl, e6⟩
    obtain ⟨c, hc, y, rfl, hy⟩ := Paired.at' hP5 hx
    have gc := good c (List.mem_of_getElem? hc)
    have E6 := e5.trans e6
    have ht6 := E6 _ _ ht
    have hy6 := e6 _ _ hy
    walk_at "go"
    refine w_notNr ?_
    walk_at "go"
    intro t7 ht7
    have e7 := same_new (o := .tup [V.int p, .ref y]) ht7
    have g7 : (upd H6 t7 (.tup [V.int p, .ref y])) t7 = some (.tup [V.int p, .ref y]) := upd_same
    generalize upd H6 t7 (.tup [V.int p, .ref y]) = H7 at e7 g7
    have E7 := E6.trans e7
    walk_at "go"
    refine ⟨w, pb, t7, y, n, L, p, rows, bs, c, rfl, hW.same E7, E7 _ _ hb, hB, g7, e7 _ _ hy6, gc.1, gc.2.1, gc.2.2.1, fun _ H8 e8 => ?_, fun _ l8 H8 _ e8 _ => ?_⟩
    · refine ⟨false, rfl, w_iteF ?_⟩
      walk_at "go"
      exact ⟨_, rfl, (e6.trans e7).trans e8⟩
    · refine ⟨true, rfl, w_iteT ?_⟩
      have ht8 := e8 _ _ (e7 _ _ ht6)
      walk_at "go"
      intro t9 ht9
      exact q (.ref t9) (p, c) _ ((E7.trans e8).trans (same_new ht9)) ⟨t9, y, rfl, upd_same, keep (e8 _ _ (e7 _ _ hy6)) ht9⟩ gc
  · rintro σ H6 ⟨k6, rfl, e6⟩
    walk_at "go"
    exact orig H6 (e5.trans e6)
end G

end
section
local macro_rules | `(tactic| walk_at "call") => `(tactic| (refine' G.w_cnt ?g1 ?_; (case g1 => walk_at "sq")))

local macro_rules | `(tactic| walk_at "call") => `(tactic| (refine' G.w_popAt ?g1 ?g2 ?g3 ?g4 ?_; (case g1 => walk_at "hp"); (case g2 => walk_at "ar"); (case g3 => walk_at "ar"); (case g4 => walk_at "ar")))

local macro_rules | `(tactic| walk_at "call") => `(tactic| (refine' G.i_whole ?_))

local macro_rules | `(tactic| walk_at "bx") => `(tactic| first | assumption | exact G.Bx.new (by walk_at "bx") (by assumption) | exact G.Bx.same (by assumption) (by walk_at "bx"))
local macro_rules | `(tactic| walk_at "call") => `(tactic| (refine' G.i_take ?g1 ?g2 ?g3 ?_; (case g1 => walk_at "bx"); (case g2 => walk_at "ar"); (case g3 => walk_at "ar")))

namespace G
open PySem L2 GX
/-- all that stood in H0 stands; the box at s came behind it -/
structure FB (H0 H : Hp) (s a : Addr) : Prop where
  no : H0 s = none
  all : Same H0 H
  bx : Bx H s a
theorem FB.but {H0 H H' : Hp} {s a : Addr} (f : FB H0 H s a) (b : But s H H') (hs : Bx H' s a) : FB H0 H' s a := ⟨f.no, fun p o e => b p o (ne_of_none e f.no) (f.all p o e), hs⟩
theorem FB.same {H0 H H' : Hp} {s a : Addr} (f : FB H0 H s a) (e : Same H H') : FB H0 H' s a := ⟨f.no, f.all.trans e, f.bx.same e⟩
theorem FB.new {H0 H : Hp} {s a p : Addr} {o : HO} (f : FB H0 H s a) (hp : H p = none) : FB H0 (upd H p o) s a := f.same (same_new hp)
theorem FB.free {H0 H : Hp} {s a p : Addr} (f : FB H0 H s a) (h : H p = none) : H0 p = none := Same.free f.all h
theorem FB.mut {H0 H : Hp} {s a p : Addr} {o : HO} (f : FB H0 H s a) (h : H0 p = none) (n1 : p ≠ s) (n2 : p ≠ a) : FB H0 (upd H p o) s a := ⟨f.no, same_mut f.all h, f.bx.mut n1 n2⟩
def sp_law_rows (K : PySem.W.Frag) (A : CA) : Sp := fun vs H Q _ => ∃ (H0 : Hp) (s a w pb : Addr) (n L most : Int) (rows : List (Int × Int)) (bs : List Int), vs = [.ref s, .ref w, .ref pb, .int most] ∧ FB H0 H s a ∧ WDat H0 w n L rows ∧ H0 pb = some (.lst (bs.map V.int)) ∧ BK L n.toNat bs ∧ 0 ≤ most ∧ most ≤ 5 ∧
  ∀ (us : List V) (rws : List (Int × List Int)) (p : Addr) (H' : Hp), us.length ≤ 41 → (∀ r ∈ rws, GoodR n r) → H0 p = none → p ≠ s → p ≠ a → FB H0 H' s a → H' p = some (.lst us) → Paired (RW H') us rws → Q (.ref p) H'
def t_law_rows (K : PySem.W.Frag) (A : CA) : TS :=
  (tSeq (tAsg (tCall (sp_law_take K A) [] E0 (tCons (tVar 0) (tCons (tC (.int 13)) tNil))) (gName 4))
  (C8.tCut (tIfS (tTest (tOp rEq (tCall (sp_law_take K A) [] E0 (tCons (tVar 0) (tCons (tC (.int 6)) tNil))) (tC (.int 5)))) (tAsg (tOp oAdd (tC (.int 24)) (tCall (sp_law_take K A) [] E0 (tCons (tVar 0) (tCons (tC (.int 17)) tNil)))) (gName 4)) tNext)
  (tSeq (tAsg (tOp oGt (tCall (sp_law_take K A) [] E0 (tCons (tVar 0) (tCons (tC (.int 6)) tNil))) (tC (.int 0))) (gName 5))
  (tSeq (tAsg (tLst tNil) (gName 6))
  (tSeq (tAsg (tCB (oListOf K) (tCons (tVar 2) tNil)) (gName 7))
  (tSeq (tAsg (tC (.int 0)) (gName 8))
  (tSeq (tFor (iRng1 (tCons (tVar 4) tNil)) (gName 9)
  (C8.tCut (tIfS (tOr (tTest (tOp oLt (tCall (sp_law_take K A) [] E0 (tCons (tVar 0) (tCons (tC (.int 3)) tNil))) (tC (.int 2)))) (tTest (tOp rEq (tVar 9) (tC (.int 0))))) (tAsg (tCall (sp_law_take K A) [] E0 (tCons (tVar 0) (tCons (tOp (rIxT K) (tVar 1) (tC (.int 0))) tNil))) (gName 8)) tNext)
  (tSeq (tAsg (tTup (tCons (tVar 8) (tCons (tCall (sp_law_answer K A) [] E0 (tCons (tVar 0) (tCons (tOp (rIxT K) (tVar 1) (tC (.int 0))) (tCons (tVar 8) (tCons (tVar 3) tNil))))) tNil))) (gName 10))
  (C8.tCut (tIfS (tB (tVar 5)) (tAsg (tCall (sp_law_better K A) [] E0 (tCons (tVar 1) (tCons (tVar 7) (tCons (tVar 10) tNil)))) (gName 10)) tNext)
  (tSeq (tDrop (tBM K "list" rAppend (tVar 6) (tCons (tVar 10) tNil)))
  (tSeq (tAsg (tCall (sp_law_step K A) [] E0 (tCons (tVar 1) (tCons (tVar 7) (tCons (tVar 10) tNil)))) (gName 11))
  (tIfS (tB (tNotN (tVar 11))) (tAsg (tVar 11) (gName 7)) tNext)))))))
  (tRet (tVar 6)))))))))

theorem rd_law_rows {K : PySem.W.Frag} {A : CA} {vs : List V} {H : Hp} {Q : VK} {E : XK} (h : sp_law_rows K A vs H Q E) :
    t_law_rows K A { nx := fun _ H' => Q .non H', rt := Q } (start ["box", "world", "blank", "most", "many", "better", "rows", "now", "page", "k", "row", "after"] vs) H := by
  obtain ⟨H0, s, a, w, pb, n, L, most, rows, bs, rfl, f0, hW, hb, hB, m0, m1, q⟩ := h
  obtain ⟨pq, us2, hw, _⟩ := hW.ex
  have n0 := hW.n0
  have n1 := hW.n1
  have bx0 := f0.bx
  unfold t_law_rows
  walk_at "go"
  intro my H1 y0 y1 b1 s1
  have f1 := f0.but b1 s1
  clear bx0 b1
  walk_at "go"
  refine w_cut (fun σ H' => ∃ m : Int, σ = [some (.ref s), some (.ref w), some (.ref pb), some (.int most), some (.int m), none, none, none, none, none, none, none] ∧ 0 ≤ m ∧ m ≤ 41 ∧ FB H0 H' s a) ?_ ?_
  · walk_at "go"
    intro z H2 z0 z1 b2 s2
    have f2 := f1.but b2 s2
    walk_at "go"
    refine w_iteD (fun c => ?_) (fun c => ?_)
    · walk_at "go"
      intro x H3 x0 x1 b3 s3
      walk_at "go"
      exact ⟨_, rfl, by omega, by omega, f2.but b3 s3⟩
    · walk_at "go"
      exact ⟨_, rfl, by omega, by omega, f2⟩
  clear f1 s1 y0 y1
  rintro σ H2 ⟨m, rfl, mm0, mm1, f2⟩
  have s2 := f2.bx
  walk_at "go"
  intro z H3 z0 z1 b3 s3
  have f3 := f2.but b3 s3
  clear f2 s2 b3
  walk_at "go"
  generalize decide ((0 : Int) < z) = bt
  intro pr hpr
  have prH : H0 pr = none := f3.free hpr
  have prS := s3.neS hpr
  have prA := s3.neA hpr
  have f4 := f3.new (o := .lst []) hpr
  have g4 : (upd H3 pr (.lst [])) pr = some (.lst []) := upd_same
  generalize upd H3 pr (.lst []) = H4 at f4 g4
  clear f3 s3 hpr z0 z1
  have gb4 := f4.all _ _ hb
  have s4 := f4.bx
  walk_at "go"
  intro nw hnw
  have nwS := s4.neS hnw
  have nwp : nw ≠ pr := (ne_of_none g4 hnw).symm
  have f5 := f4.new (o := .lst (bs.map V.int)) hnw
  have g5 : (upd H4 nw (.lst (bs.map V.int))) nw = some (.lst (bs.map V.int)) := upd_same
  have g45 := keep (o' := .lst (bs.map V.int)) g4 hnw
  generalize upd H4 nw (.lst (bs.map V.int)) = H5 at f5 g5 g45
  clear f4 g4 gb4 s4 hnw
  walk_at "go"
  refine forR (fun i σ H' => ∃ (pg : Int) (nw : Addr) (cur : List Int) (us : List V) (rws : List (Int × List Int)) (k9 k10 k11 : Option V), σ = [some (.ref s), some (.ref w), some (.ref pb), some (.int most), some (.int m), some (.bl bt), some (.ref pr), some (.ref nw), some (.int pg), k9, k10, k11] ∧ FB H0 H' s a ∧ H' pr = some (.lst us) ∧ us.length ≤ i ∧ Paired (RW H') us rws ∧ (∀ r ∈ rws, GoodR n r) ∧ H' nw = some (.lst (cur.map V.int)) ∧ nw ≠ s ∧ nw ≠ pr ∧ BK L n.toNat cur ∧ 0 ≤ pg ∧ pg < n) ?_ ?_ ?_
  · exact ⟨0, nw, bs, [], [], none, none, none, rfl, f5, g45, Nat.le_refl _, .nil, (fun _ h => nomatch h), g5, nwS, nwp, hB, Int.le_refl 0, by omega⟩
  · clear f5 g5 g45 nwS nwp
    rintro i σ H6 hi ⟨pg, nw, cur, us, rws, k9, k10, k11, rfl, f6, g6, ul, hP6, hG, gn6, nwS, nwp, hC, pg0, pg1⟩
    have hw6 := f6.all _ _ hw
    walk_at "go"
    refine w_cut (fun σ H' => ∃ pg : Int, σ = [some (.ref s), some (.ref w), some (.ref pb), some (.int most), some (.int m), some (.bl bt), some (.ref pr), some (.ref nw), some (.int pg), some (.int (0 + (i : Int))), k10, k11] ∧ FB H0 H' s a ∧ H' pr = some (.lst us) ∧ Paired (RW H') us rws ∧ H' nw = some (.lst (cur.map V.int)) ∧ 0 ≤ pg ∧ pg < n) ?_ ?_
    · have s6 := f6.bx
      walk_at "go"
      intro x H7 x0 x1 b7 s7
      have f7 := f6.but b7 s7
      have g7 := b7.at prS g6
      have hP7 := RWs.butB b7 s6 hP6
      have gn7 := b7.at nwS gn6
      have hw7 := f7.all _ _ hw
      walk_at "go"
      refine w_share (P := True) (fun _ => trivial) (fun _ => ?_) (fun _ X => ?_)
      · walk_at "go"
        intro y H8 y0 y1 b8 s8
        walk_at "go"
        exact ⟨y, rfl, f7.but b8 s8, b8.at prS g7, RWs.butB b8 s7 hP7, b8.at nwS gn7, y0, y1⟩
      · walk_at "go"
        refine w_iteD (fun _ => X trivial) (fun _ => ?_)
        walk_at "go"
        exact ⟨pg, rfl, f7, g7, hP7, gn7, pg0, pg1⟩
    clear f6 g6 hP6 gn6 hw6 pg0 pg1
    rintro σ H7 ⟨pg, rfl, f7, g7, hP7, gn7, pg0, pg1⟩
    have hw7 := f7.all _ _ hw
    walk_at "go"
    refine ⟨s, a, n, pg, most, rfl, f7.bx, n0, n1, pg0, pg1, m0, m1, fun cs u H8 cl cb hu b8 s8 gu => ?_⟩
    have f8 := f7.but b8 s8
    have g8 := b8.at prS g7
    have hP8 := RWs.butB b8 f7.bx hP7
    have gn8 := b8.at nwS gn7
    clear g7 hP7 gn7 hw7 b8 f7 hu
    walk_at "go"
    intro t ht
    have e9 := same_new (o := .tup [V.int pg, .ref u]) ht
    have f9 := f8.same e9
    have g9 := e9 _ _ g8
    have hP9 := RWs.same e9 hP8
    have gn9 := e9 _ _ gn8
    have gu9 := e9 _ _ gu
    have gt9 : (upd H8 t (.tup [V.int pg, .ref u])) t = some (.tup [V.int pg, .ref u]) := upd_same
    generalize upd H8 t (.tup [V.int pg, .ref u]) = H9 at e9 f9 g9 hP9 gn9 gu9 gt9
    clear g8 hP8 gn8 gu f8 s8 e9 ht
    have good : GoodR n (pg, cs) := ⟨pg0, pg1, cb, cl⟩
    walk_at "go"
    refine w_cut (fun σ H' => ∃ (v : V) (r : Int × List Int), σ = [some (.ref s), some (.ref w), some (.ref pb), some (.int most), some (.int m), some (.bl bt), some (.ref pr), some (.ref nw), some (.int pg), some (.int (0 + (i : Int))), some v, k11] ∧ FB H0 H' s a ∧ H' pr = some (.lst us) ∧ Paired (RW H') us rws ∧ H' nw = some (.lst (cur.map V.int)) ∧ RW H' v r ∧ GoodR n r) ?_ ?_
    · walk_at "go"
      cases bt with
      | true =>
        walk_at "go"
        refine ⟨w, nw, t, u, n, L, pg, rows, cur, cs, rfl, hW.same f9.all, gn9, hC, gt9, gu9, good, fun v r H10 e10 hr hg => ?_⟩
        walk_at "go"
        exact ⟨v, r, rfl, f9.same e10, e10 _ _ g9, RWs.same e10 hP9, e10 _ _ gn9, hr, hg⟩
      | false =>
        walk_at "go"
        exact ⟨_, (pg, cs), rfl, f9, g9, hP9, gn9, ⟨t, u, rfl, gt9, gu9⟩, good⟩
    clear f9 g9 hP9 gn9 gt9 gu9 good cb cl
    rintro σ H10 ⟨v, r, rfl, f10, g10, hP10, gn10, hr, hg⟩
    have sl : us.length < sizeLine := small1000 (by omega)
    walk_at "go"
    have f11 := f10.mut (o := .lst (us ++ [v])) prH prS prA
    have g11 : (upd H10 pr (.lst (us ++ [v]))) pr = some (.lst (us ++ [v])) := upd_same
    have hP11 : Paired (RW (upd H10 pr (.lst (us ++ [v])))) (us ++ [v]) (rws ++ [r]) := (hP10.mono fun _ _ h => RW.mutL g10 h).snoc (RW.mutL g10 hr)
    have hr11 := RW.mutL (o := .lst (us ++ [v])) g10 hr
    have gn11 := keepNe (o' := .lst (us ++ [v])) gn10 nwp
    generalize upd H10 pr (.lst (us ++ [v])) = H11 at f11 g11 hP11 hr11 gn11
    clear f10 g10 hP10 gn10 hr
    obtain ⟨t2, u2, rfl, gt2, gu2⟩ := hr11
    have hG2 : ∀ y ∈ rws ++ [r], GoodR n y := fun y hy => by
      rcases List.mem_append.mp hy with h | h
      · exact hG y h
      · rw [List.mem_singleton.mp h]; exact hg
    have ul2 : (us ++ [V.ref t2]).length ≤ i + 1 := by rw [List.length_append, List.length_singleton]; omega
    refine ⟨w, nw, t2, u2, n, L, r.1, rows, cur, r.2, rfl, hW.same f11.all, gn11, hC, gt2, gu2, hg.1, hg.2.1, hg.2.2.1, fun _ H12 e12 => ?_, fun hf l12 H12 hl12 e12 g12 => ?_⟩
    · walk_at "go"
      refine w_notNr ?_
      walk_at "go"
      refine w_iteNRf ?_
      walk_at "go"
      exact ⟨pg, nw, cur, _, _, _, _, _, rfl, f11.same e12, e12 _ _ g11, ul2, RWs.same e12 hP11, hG2, e12 _ _ gn11, nwS, nwp, hC, pg0, pg1⟩
    · walk_at "go"
      refine w_notNr ?_
      walk_at "go"
      rw [ref_non]
      refine w_iteNF ?_
      walk_at "go"
      exact ⟨pg, l12, _, _, _, _, _, _, rfl, f11.same e12, e12 _ _ g11, ul2, RWs.same e12 hP11, hG2, g12, f11.bx.neS hl12, (ne_of_none g11 hl12).symm, aft_bk hC hW.L0 (fitsB_iff.mp hf), pg0, pg1⟩
  · rintro σ H6 ⟨pg, nw, cur, us, rws, k9, k10, k11, rfl, f6, g6, ul, hP6, hG, gn6, nwS, nwp, hC, pg0, pg1⟩
    walk_at "go"
    exact q us rws pr H6 (by omega) hG prH prS prA f6 g6 hP6
end G

end
section
local macro_rules | `(tactic| walk_at "call") => `(tactic| (refine' G.w_cnt ?g1 ?_; (case g1 => walk_at "sq")))

local macro_rules | `(tactic| walk_at "call") => `(tactic| (refine' G.w_popAt ?g1 ?g2 ?g3 ?g4 ?_; (case g1 => walk_at "hp"); (case g2 => walk_at "ar"); (case g3 => walk_at "ar"); (case g4 => walk_at "ar")))

local macro_rules | `(tactic| walk_at "call") => `(tactic| (refine' G.i_whole ?_))

local macro_rules | `(tactic| walk_at "bx") => `(tactic| first | assumption | exact G.Bx.new (by walk_at "bx") (by assumption) | exact G.Bx.same (by assumption) (by walk_at "bx"))
local macro_rules | `(tactic| walk_at "call") => `(tactic| (refine' G.i_take ?g1 ?g2 ?g3 ?_; (case g1 => walk_at "bx"); (case g2 => walk_at "ar"); (case g3 => walk_at "ar")))

namespace G
open PySem L2 GX
theorem map_ins (xs : List Int) (z : Nat) (y : Int) : (xs.map V.int).take z ++ [V.int y] ++ (xs.map V.int).drop z = (xs.take z ++ [y] ++ xs.drop z).map V.int := by
  rw [List.map_append, List.map_append, List.map_take, List.map_drop]; rfl
theorem ins_len {xs : List Int} {z : Nat} {y : Int} : (xs.take z ++ [y] ++ xs.drop z).length = xs.length + 1 := by
  rw [List.length_append, List.length_append, List.length_take, List.length_drop, List.length_singleton]; omega
/-- the list being spoilt -/
structure Sp5 (H H' : Hp) (s a l : Addr) (m : Nat) (xs : List Int) : Prop where
  b : But s H H'
  bx : Bx H' s a
  fr : H l = none
  g : H' l = some (.lst (xs.map V.int))
  le : xs.length ≤ m
theorem Sp5.ns {H H' : Hp} {s a l : Addr} {m : Nat} {xs : List Int} (h0 : Bx H s a) (h : Sp5 H H' s a l m xs) : l ≠ s := h0.neS h.fr
theorem Sp5.na {H H' : Hp} {s a l : Addr} {m : Nat} {xs : List Int} (h0 : Bx H s a) (h : Sp5 H H' s a l m xs) : l ≠ a := h0.neA h.fr
theorem Sp5.new {H H' : Hp} {s a l l2 : Addr} {m m2 : Nat} {xs ys : List Int} (h : Sp5 H H' s a l m xs) (hl : H' l2 = none) (hy : ys.length ≤ m2) : Sp5 H (upd H' l2 (.lst (ys.map V.int))) s a l2 m2 ys :=
  ⟨h.b.new hl, h.bx.new hl, h.b.backB h.bx hl, upd_same, hy⟩
theorem Sp5.mut {H H' : Hp} {s a l : Addr} {m m2 : Nat} {xs ys : List Int} (h0 : Bx H s a) (h : Sp5 H H' s a l m xs) (hy : ys.length ≤ m2) : Sp5 H (upd H' l (.lst (ys.map V.int))) s a l m2 ys :=
  ⟨h.b.mut h.fr, h.bx.mut (h.ns h0) (h.na h0), h.fr, upd_same, hy⟩
theorem Sp5.step {H H' H2 : Hp} {s a l : Addr} {m : Nat} {xs : List Int} (h0 : Bx H s a) (h : Sp5 H H' s a l m xs) (b : But s H' H2) (s2 : Bx H2 s a) : Sp5 H H2 s a l m xs :=
  ⟨h.b.trans b, s2, h.fr, b.at (h.ns h0) h.g, h.le⟩
theorem Sp5.same {H H' H2 : Hp} {s a l : Addr} {m : Nat} {xs : List Int} (h : Sp5 H H' s a l m xs) (e : Same H' H2) : Sp5 H H2 s a l m xs :=
  ⟨h.b.trans (fun p o _ z => e p o z), h.bx.same e, h.fr, e _ _ h.g, h.le⟩
theorem Sp5.le' {H H' : Hp} {s a l : Addr} {m m2 : Nat} {xs : List Int} (h : Sp5 H H' s a l m xs) (c : xs.length ≤ m2) : Sp5 H H' s a l m2 xs := ⟨h.b, h.bx, h.fr, h.g, c⟩
def sp_law_spoilt (K : PySem.W.Frag) (A : CA) : Sp := fun vs H Q _ => ∃ (s a t u : Addr) (n most p : Int) (cs : List Int) (m : Nat), vs = [.ref s, .int n, .int most, .ref t] ∧ Bx H s a ∧ H t = some (.tup [.int p, .ref u]) ∧ H u = some (.tup (cs.map V.int)) ∧ cs.length ≤ m ∧ 7 ≤ m ∧ m ≤ 60 ∧ 1 ≤ n ∧ n ≤ 40 ∧ 0 ≤ most ∧ most ≤ 5 ∧
  ∀ (v : V) (r : Int × List Int) (H' : Hp), But s H H' → Bx H' s a → RW H' v r → r.2.length ≤ m + 1 → Q v H'
def t_law_spoilt (K : PySem.W.Frag) (A : CA) : TS :=
  (tSeq (tAsg (tOp (rIxT K) (tVar 3) (tC (.int 0))) (gName 4))
  (tSeq (tAsg (tCB (oListOf K) (tCons (tOp (rIxT K) (tVar 3) (tC (.int 1))) tNil)) (gName 5))
  (tSeq (tAsg (tCall (sp_law_take K A) [] E0 (tCons (tVar 0) (tCons (tC (.int 9)) tNil))) (gName 6))
  (tSeq (tAsg (tCall (sp_law_take K A) [] E0 (tCons (tVar 0) (tCons (tOp oAdd (tCB (rLenQ K) (tCons (tVar 5) tNil)) (tC (.int 1))) tNil))) (gName 7))
  (C8.tCut (tIfS (tTest (tOp oLt (tVar 6) (tC (.int 2)))) (tAsg (tCall (sp_law_strange K A) [] E0 (tCons (tVar 0) (tCons (tVar 1) tNil))) (gName 4)) tNext)
  (C8.tCut (tIfS (tOr (tTest (tOp rEq (tVar 6) (tC (.int 2)))) (tTest (tOp rEq (tVar 6) (tC (.int 3))))) (tDrop (tBM K "list" GX.oInsert (tVar 5) (tCons (tVar 7) (tCons (tCall (sp_law_strange K A) [] E0 (tCons (tVar 0) (tCons (tVar 1) tNil))) tNil)))) tNext)
  (C8.tCut (tIfS (tAnd (tTest (tOp rEq (tVar 6) (tC (.int 4)))) (tTest (tOp oLt (tCB (rLenQ K) (tCons (tVar 5) tNil)) (tC (.int 2))))) (tAsg (tLst (tCons (tC (.int 0)) (tCons (tOp oSub (tVar 1) (tC (.int 1))) tNil))) (gName 5)) tNext)
  (C8.tCut (tIfS (tTest (tOp rEq (tVar 6) (tC (.int 4)))) (tAsg (tRevL K (tVar 5)) (gName 5)) tNext)
  (C8.tCut (tIfS (tAnd (tTest (tOp rEq (tVar 6) (tC (.int 5)))) (tTest (tOp (rEqD K) (tVar 5) (tLst tNil)))) (tAsg (tLst (tCons (tCall (sp_law_take K A) [] E0 (tCons (tVar 0) (tCons (tVar 1) tNil))) tNil)) (gName 5)) tNext)
  (C8.tCut (tIfS (tTest (tOp rEq (tVar 6) (tC (.int 5)))) (tDrop (tBM K "list" GX.oInsert (tVar 5) (tCons (tVar 7) (tCons (tOp (rIxL K) (tVar 5) (tCB oMin2 (tCons (tVar 7) (tCons (tOp oSub (tCB (rLenQ K) (tCons (tVar 5) tNil)) (tC (.int 1))) tNil)))) tNil)))) tNext)
  (C8.tCut (tIfS (tTest (tOp rEq (tVar 6) (tC (.int 6)))) (tAsg (tLc (iRng1 (tCons (tCB oMin2 (tCons (tOp oAdd (tVar 2) (tC (.int 1))) (tCons (tVar 1) tNil))) tNil)) (gName 8) tYes (tVar 8) [8]) (gName 5)) tNext)
  (C8.tCut (tIfS (tTest (tOp rEq (tVar 6) (tC (.int 7)))) (tAsg (tLst tNil) (gName 5)) tNext)
  (C8.tCut (tIfS (tTest (tOp rEq (tVar 6) (tC (.int 8)))) (tAsg (tLst (tCons (tCall (sp_law_take K A) [] E0 (tCons (tVar 0) (tCons (tVar 1) tNil))) tNil)) (gName 5)) tNext)
  (tRet (tTup (tCons (tVar 4) (tCons (tCB (GY.oTupOf K) (tCons (tVar 5) tNil)) tNil)))))))))))))))))

theorem rd_law_spoilt {K : PySem.W.Frag} {A : CA} {vs : List V} {H : Hp} {Q : VK} {E : XK} (h : sp_law_spoilt K A vs H Q E) :
    t_law_spoilt K A { nx := fun _ H' => Q .non H', rt := Q } (start ["box", "pages", "most", "row", "page", "copied", "way", "at", "k"] vs) H := by
  obtain ⟨s, a, t, u, n, most, p, cs, m, rfl, hs, ht, hu, cl, m7, m60, n0, n1, mm0, mm1, q⟩ := h
  unfold t_law_spoilt
  walk_at "go"
  refine GY.w_listT (SqT.of hu) fun l hl => ?_
  have f1 : But s H (upd H l (.lst (cs.map V.int))) := But.refl.new hl
  have s1 := Bx.new (o := .lst (cs.map V.int)) hs hl
  have g1 : (upd H l (.lst (cs.map V.int))) l = some (.lst (cs.map V.int)) := upd_same
  generalize upd H l (.lst (cs.map V.int)) = H1 at f1 s1 g1
  walk_at "go"
  intro way H2 w0 w1 b2 s2
  have g2 := b2.at (hs.neS hl) g1
  walk_at "go"
  rw [List.length_map]
  walk_at "go"
  intro at_ H3 a0 a1 b3 s3
  have F3 : Sp5 H H3 s a l m cs := ⟨(f1.trans b2).trans b3, s3, hl, b3.at (hs.neS hl) g2, cl⟩
  clear f1 s1 g1 b2 s2 g2 b3 s3 hl
  walk_at "go"
  refine w_cut (fun σ H' => ∃ pg : Int, σ = [some (.ref s), some (.int n), some (.int most), some (.ref t), some (.int pg), some (.ref l), some (.int way), some (.int at_), none] ∧ Sp5 H H' s a l m cs) ?_ ?_
  · walk_at "go"
    refine w_iteD (fun c => ?_) (fun c => ?_)
    · walk_at "go"
      refine ⟨s, a, n, rfl, F3.bx, n0, n1, fun z H4 b4 s4 => ?_⟩
      walk_at "go"
      exact ⟨z, rfl, F3.step hs b4 s4⟩
    · walk_at "go"
      exact ⟨p, rfl, F3⟩
  clear F3
  rintro σ H3 ⟨pg, rfl, F3⟩
  have gl := F3.g
  walk_at "go"
  -- an outsider put in
  refine w_cut (fun σ H' => ∃ xs : List Int, σ = [some (.ref s), some (.int n), some (.int most), some (.ref t), some (.int pg), some (.ref l), some (.int way), some (.int at_), none] ∧ ((way = 2 ∨ way = 3) ∨ xs.length ≤ m) ∧ Sp5 H H' s a l (m + 1) xs) ?_ ?_
  · walk_at "go"
    refine w_share (P := way = 2 ∨ way = 3) (fun c => .inl c) (fun c5 => ?_) (fun c X => ?_)
    · walk_at "go"
      refine ⟨s, a, n, rfl, F3.bx, n0, n1, fun z H4 b4 s4 => ?_⟩
      have F4 := F3.step hs b4 s4
      walk_at "go"
      refine w_insert F4.g (by rw [List.length_map]; omega) a0 (by omega) ?_
      rw [map_ins]
      exact ⟨_, rfl, .inl c5, F4.mut hs (by rw [ins_len]; omega)⟩
    · walk_at "go"
      refine w_iteD (fun c3 => X (.inr c3)) (fun c3 => ?_)
      walk_at "go"
      exact ⟨cs, rfl, .inr F3.le, F3.le' (Nat.le_succ_of_le F3.le)⟩
  clear gl F3
  rintro σ H4 ⟨xs, rfl, hx, F4⟩
  -- no order
  walk_at "go"
  refine w_cut (fun σ H' => ∃ (l : Addr) (xs : List Int), σ = [some (.ref s), some (.int n), some (.int most), some (.ref t), some (.int pg), some (.ref l), some (.int way), some (.int at_), none] ∧ ((way = 2 ∨ way = 3) ∨ xs.length ≤ m) ∧ Sp5 H H' s a l (m + 1) xs) ?_ ?_
  · have gl := F4.g
    walk_at "go"
    refine w_iteD (fun c => ?_) (fun c => ?_)
    · walk_at "go"
      refine w_iteD (fun c2 => ?_) (fun c2 => ?_)
      · walk_at "go"
        intro l2 hl2
        exact ⟨l2, [0, n - 1], rfl, .inr (by show 2 ≤ m; omega), F4.new (ys := [0, n - 1]) hl2 (by show 2 ≤ m + 1; omega)⟩
      · walk_at "go"
        exact ⟨l, xs, rfl, hx, F4⟩
    · walk_at "go"
      exact ⟨l, xs, rfl, hx, F4⟩
  clear F4 hx
  rintro σ H4 ⟨l, xs, rfl, hx, F4⟩
  walk_at "go"
  refine w_cut (fun σ H' => ∃ (l : Addr) (xs : List Int), σ = [some (.ref s), some (.int n), some (.int most), some (.ref t), some (.int pg), some (.ref l), some (.int way), some (.int at_), none] ∧ ((way = 2 ∨ way = 3) ∨ xs.length ≤ m) ∧ Sp5 H H' s a l (m + 1) xs) ?_ ?_
  · have gl := F4.g
    walk_at "go"
    refine w_iteD (fun c => ?_) (fun c => ?_)
    · walk_at "go"
      refine w_revL ?_
      walk_at "go"
      refine ⟨l, _, rfl, SqL.of gl, fun l2 hl2 => ?_⟩
      rw [← List.map_reverse]
      refine ⟨l2, xs.reverse, rfl, by rw [List.length_reverse]; exact hx, F4.new hl2 (by rw [List.length_reverse]; exact F4.le)⟩
    · walk_at "go"
      exact ⟨l, xs, rfl, hx, F4⟩
  clear F4 hx
  rintro σ H4 ⟨l, xs, rfl, hx, F4⟩
  -- a copy twice
  walk_at "go"
  refine w_cut (fun σ H' => ∃ (l : Addr) (xs : List Int), σ = [some (.ref s), some (.int n), some (.int most), some (.ref t), some (.int pg), some (.ref l), some (.int way), some (.int at_), none] ∧ ((way = 2 ∨ way = 3) ∨ xs.length ≤ m) ∧ (way = 5 → 0 < xs.length) ∧ Sp5 H H' s a l (m + 1) xs) ?_ ?_
  · have gl := F4.g
    walk_at "go"
    refine w_iteD (fun c => ?_) (fun c => ?_)
    · walk_at "go"
      intro l2 hl2
      refine w_eqI2 (xs := xs) (ys := []) (SqL.of (keep gl hl2)) (SqL.of upd_same) ?_
      have F5 := F4.same (same_new (o := .lst []) hl2)
      generalize upd H4 l2 (.lst []) = H5 at F5
      refine ⟨_, rfl, ?_⟩
      refine w_iteD (fun c2 => ?_) (fun c2 => ?_)
      · have bx5 := F5.bx
        walk_at "go"
        intro z H6 z0 z1 b6 s6
        have F6 := F5.step hs b6 s6
        walk_at "go"
        intro l3 hl3
        exact ⟨l3, [z], rfl, .inr (by show 1 ≤ m; omega), (fun _ => by show 0 < 1; decide), F6.new (ys := [z]) hl3 (by show 1 ≤ m + 1; omega)⟩
      · walk_at "go"
        exact ⟨l, xs, rfl, hx, (fun _ => List.length_pos_iff.mpr c2), F5⟩
    · walk_at "go"
      exact ⟨l, xs, rfl, hx, (fun e => absurd e c), F4⟩
  clear F4 hx
  rintro σ H4 ⟨l, xs, rfl, hx, hx5, F4⟩
  walk_at "go"
  refine w_cut (fun σ H' => ∃ (l : Addr) (xs : List Int), σ = [some (.ref s), some (.int n), some (.int most), some (.ref t), some (.int pg), some (.ref l), some (.int way), some (.int at_), none] ∧ Sp5 H H' s a l (m + 1) xs) ?_ ?_
  · have gl := F4.g
    walk_at "go"
    refine w_iteD (fun c => ?_) (fun c => ?_)
    · have x0 := hx5 c
      have xm : xs.length ≤ m := by
        rcases hx with h | h
        · omega
        · exact h
      walk_at "go"
      rw [List.length_map]
      obtain ⟨j, hj, hjl⟩ : ∃ j : Nat, (if (xs.length : Int) - 1 < at_ then (xs.length : Int) - 1 else at_) = (j : Int) ∧ j < xs.length := by
        split
        · exact ⟨xs.length - 1, by omega, by omega⟩
        · exact ⟨at_.toNat, by omega, by omega⟩
      rw [hj]
      refine w_ixL (SqL.of gl) (at_of (v := V.int (xs.getD j 0)) (j := j) rfl (by rw [List.getElem?_map, List.getD_eq_getElem?_getD, List.getElem?_eq_getElem hjl]; rfl)) ?_
      walk_at "go"
      refine w_insert gl (by rw [List.length_map]; omega) a0 (by omega) ?_
      rw [map_ins]
      exact ⟨l, _, rfl, F4.mut hs (by rw [ins_len]; omega)⟩
    · walk_at "go"
      exact ⟨l, xs, rfl, F4⟩
  clear F4 hx hx5
  rintro σ H4 ⟨l, xs, rfl, F4⟩
  -- too many, none, one
  walk_at "go"
  refine w_cut (fun σ H' => ∃ (l : Addr) (xs : List Int), σ = [some (.ref s), some (.int n), some (.int most), some (.ref t), some (.int pg), some (.ref l), some (.int way), some (.int at_), none] ∧ Sp5 H H' s a l (m + 1) xs) ?_ ?_
  · walk_at "go"
    refine w_iteD (fun c => ?_) (fun c => ?_)
    · walk_at "go"
      have M6 : (if n < most + 1 then n else most + 1).toNat ≤ 6 := by split <;> omega
      generalize (if n < most + 1 then n else most + 1).toNat = M at M6
      refine lcR (fun Dl i H' => Same H4 H' ∧ ∃ ys : List Int, H' Dl = some (.lst (ys.map V.int)) ∧ ys.length = i) (fun Dl hD => ⟨same_new hD, [], upd_same, rfl⟩) ?_ ?_
      · rintro Dl i H5 hD hi ⟨e5, ys, g5, yl⟩
        have sl : (ys.map V.int).length < sizeLine := small1000 (by rw [List.length_map]; omega)
        walk_at "go"
        exact ⟨same_mut e5 hD, ys ++ [_], by rw [upd_same, List.map_append]; rfl, by rw [List.length_append, List.length_singleton, yl]⟩
      rintro Dl H5 hD ⟨e5, ys, g5, yl⟩
      have F5 := F4.same e5
      walk_at "go"
      exact ⟨Dl, ys, rfl, F5.b, F5.bx, F4.b.backB F4.bx hD, g5, by omega⟩
    · walk_at "go"
      exact ⟨l, xs, rfl, F4⟩
  clear F4
  rintro σ H4 ⟨l, xs, rfl, F4⟩
  walk_at "go"
  refine w_cut (fun σ H' => ∃ (l : Addr) (xs : List Int), σ = [some (.ref s), some (.int n), some (.int most), some (.ref t), some (.int pg), some (.ref l), some (.int way), some (.int at_), none] ∧ Sp5 H H' s a l (m + 1) xs) ?_ ?_
  · walk_at "go"
    refine w_iteD (fun c => ?_) (fun c => ?_)
    · walk_at "go"
      intro l2 hl2
      exact ⟨l2, [], rfl, F4.new (ys := []) hl2 (Nat.zero_le _)⟩
    · walk_at "go"
      exact ⟨l, xs, rfl, F4⟩
  clear F4
  rintro σ H4 ⟨l, xs, rfl, F4⟩
  walk_at "go"
  refine w_cut (fun σ H' => ∃ (l : Addr) (xs : List Int), σ = [some (.ref s), some (.int n), some (.int most), some (.ref t), some (.int pg), some (.ref l), some (.int way), some (.int at_), none] ∧ Sp5 H H' s a l (m + 1) xs) ?_ ?_
  · have bx4 := F4.bx
    walk_at "go"
    refine w_iteD (fun c => ?_) (fun c => ?_)
    · walk_at "go"
      intro z H6 z0 z1 b6 s6
      have F6 := F4.step hs b6 s6
      walk_at "go"
      intro l3 hl3
      exact ⟨l3, [z], rfl, F6.new (ys := [z]) hl3 (by show 1 ≤ m + 1; omega)⟩
    · walk_at "go"
      exact ⟨l, xs, rfl, F4⟩
  clear F4
  rintro σ H4 ⟨l, xs, rfl, F4⟩
  have gl := F4.g
  walk_at "go"
  refine GY.w_tupL (SqL.of gl) fun u2 hu2 => ?_
  have F5 := F4.same (same_new (o := .tup (xs.map V.int)) hu2)
  have gu : (upd H4 u2 (.tup (xs.map V.int))) u2 = some (.tup (xs.map V.int)) := upd_same
  generalize upd H4 u2 (.tup (xs.map V.int)) = H5 at F5 gu
  walk_at "go"
  intro t2 ht2
  have F6 := F5.same (same_new (o := .tup [V.int pg, .ref u2]) ht2)
  exact q (.ref t2) (pg, xs) _ F6.b F6.bx ⟨t2, u2, rfl, upd_same, keep gu ht2⟩ F4.le
end G

end
section
local macro_rules | `(tactic| walk_at "call") => `(tactic| (refine' G.w_cnt ?g1 ?_; (case g1 => walk_at "sq")))

local macro_rules | `(tactic| walk_at "call") => `(tactic| (refine' G.w_popAt ?g1 ?g2 ?g3 ?g4 ?_; (case g1 => walk_at "hp"); (case g2 => walk_at "ar"); (case g3 => walk_at "ar"); (case g4 => walk_at "ar")))

local macro_rules | `(tactic| walk_at "call") => `(tactic| (refine' G.i_whole ?_))

local macro_rules | `(tactic| walk_at "bx") => `(tactic| first | assumption | exact G.Bx.new (by walk_at "bx") (by assumption) | exact G.Bx.same (by assumption) (by walk_at "bx"))
local macro_rules | `(tactic| walk_at "call") => `(tactic| (refine' G.i_take ?g1 ?g2 ?g3 ?_; (case g1 => walk_at "bx"); (case g2 => walk_at "ar"); (case g3 => walk_at "ar")))

namespace G
open PySem L2 GX RZ
section
variable {K : PySem.W.Frag} {a b : Addr} {xs ys : List V}
theorem walk_zipT {n : Nat} (hn : n = min xs.length ys.length) : Walk (ItzT K a b) n (fun H => SqT K H a xs ∧ SqT K H b ys) (YPair (fun i => xs[i]?) (fun i => ys[i]?)) := by
  subst hn
  refine ⟨fun i _ hi q => ?_, fun _ q => ⟨xs, ys, q.1, q.2, by omega⟩, fun i H v H' _ q y => ?_⟩
  · have h1 : i < xs.length := by omega
    have h2 : i < ys.length := by omega
    exact ⟨xs, ys, xs[i], ys[i], q.1, q.2, by simp [h1], by simp [h2]⟩
  · obtain ⟨T, x, z, h1, h2, h3, h4, h5⟩ := y
    exact ⟨T, x, z, h1, h2, h3, h4 xs q.1, h5 ys q.2⟩
variable {te : TE} {tt : TT} {g : TG} {vs : List Nat} {σ : L2.St} {H : Hp} {Q : VK}
theorem w_lcZA {tl : TA} (h : tl σ H fun vs' H1 => ∃ a b xs ys, vs' = [.ref a, .ref b] ∧ ((SqL K H1 a xs ∧ SqL K H1 b ys ∧ LcW (Itz K a b) g tt te vs σ H1 Q) ∨ (SqT K H1 a xs ∧ SqT K H1 b ys ∧ LcW (ItzT K a b) g tt te vs σ H1 Q))) : tLc (iZipA K tl) g tt te vs σ H Q := h
theorem lcZT {n : Nat} (hn : n = min xs.length ys.length) (Pv : Addr → Nat → Hp → Prop) (h0 : ∀ Dl, H Dl = none → Pv Dl 0 (upd H Dl (.lst []))) (hl : ∀ Dl i H1, H Dl = none → i ≤ n → Pv Dl i H1 → SqT K H1 a xs ∧ SqT K H1 b ys)
    (hs : ∀ Dl i x y T H1, H Dl = none → xs[i]? = some x → ys[i]? = some y → Pv Dl i H1 → H1 T = none → g (.ref T) (wipe σ vs) (upd H1 T (.tup [x, y])) fun σ2 H2 => wipe σ2 vs = wipe σ vs ∧ LcT tt te Dl (Pv Dl (i + 1)) σ2 H2)
    (hd : ∀ Dl H1, H Dl = none → Pv Dl n H1 → Q (.ref Dl) H1) : LcW (ItzT K a b) g tt te vs σ H Q :=
  fun Dl hD => lc_it (walk_zipT (K := K) (a := a) (b := b) hn) (Pv Dl) (h0 Dl hD) (fun i H1 hi p => hl Dl i H1 hD hi p) (fun i x H1 H' hi p y => by
    obtain ⟨T, u, v, rfl, hT, rfl, e1, e2⟩ := y
    exact hs Dl i u v T H1 hD e1 e2 p hT) (fun H1 p => hd Dl H1 hD p)
end
theorem all_map {α : Type} {l : List α} {f : α → Bool} : ((l.map f).all id) = l.all f := by
  induction l with
  | nil => rfl
  | cons a l ih => simp
def sp_is_ascending (K : PySem.W.Frag) (A : CA) : Sp := fun vs H Q _ => ∃ (u : Addr) (cs : List Int), vs = [.ref u] ∧ SqT K H u (cs.map V.int) ∧ cs.length ≤ 100 ∧ ∀ H', Same H H' → Q (.bl (ascB cs)) H'
def t_is_ascending (K : PySem.W.Frag) (A : CA) : TS :=
  (tRet (tCB (rAll K) (tCons (tLc (iZipA K (tCons (tVar 0) (tCons (tSl (rSlA K) (tVar 0) (tPart (tC (.int 1))) tNoPart) tNil))) (gTup K 2 (gCons (gName 1) (gCons (gName 2) gNil))) tYes (tOp oLt (tVar 1) (tVar 2)) [1, 2]) tNil)))

theorem rd_is_ascending {K : PySem.W.Frag} {A : CA} {vs : List V} {H : Hp} {Q : VK} {E : XK} (h : sp_is_ascending K A vs H Q E) :
    t_is_ascending K A { nx := fun _ H' => Q .non H', rt := Q } (start ["pages", "before", "after"] vs) H := by
  obtain ⟨u, cs, rfl, hu, cl, q⟩ := h
  unfold t_is_ascending
  walk_at "go"
  refine w_lcZA ?_
  walk_at "go"
  refine w_slA hu fun u2 H1 hu2 e1 => ?_
  rw [show (1 : Int) = ((1 : Nat) : Int) from rfl, cut_mapFrom] at hu2
  have hu1 := sqT_same hu e1
  walk_at "go"
  refine ⟨u, u2, cs.map V.int, (cs.drop 1).map V.int, rfl, .inr ⟨hu1, hu2, ?_⟩⟩
  have nn : cs.length - 1 = min (cs.map V.int).length ((cs.drop 1).map V.int).length := by rw [List.length_map, List.length_map, List.length_drop]; omega
  refine lcZT nn (fun Dl i H' => Same H1 H' ∧ H' Dl = some (.lst (((List.range i).map fun k => decide (cs.getD k 0 < cs.getD (k + 1) 0)).map V.bl))) (fun Dl hD => ⟨same_new hD, upd_same⟩) (fun Dl i H' hD hi ⟨e, _⟩ => ⟨sqT_same hu1 e, sqT_same hu2 e⟩) ?_ ?_
  · rintro Dl i x y T H' hD hx hy ⟨e, gD⟩ hT
    obtain ⟨b, hb, rfl⟩ : ∃ b, cs[i]? = some b ∧ x = V.int b := by
      rw [List.getElem?_map] at hx
      cases e : cs[i]? with
      | none => rw [e] at hx; cases hx
      | some b => rw [e] at hx; exact ⟨b, rfl, (Option.some.inj hx).symm⟩
    obtain ⟨c, hc, rfl⟩ : ∃ c, cs[i + 1]? = some c ∧ y = V.int c := by
      rw [List.getElem?_map, List.getElem?_drop, Nat.add_comm 1 i] at hy
      cases e : cs[i + 1]? with
      | none => rw [e] at hy; cases hy
      | some b => rw [e] at hy; exact ⟨b, rfl, (Option.some.inj hy).symm⟩
    have il : i < cs.length := (List.getElem?_eq_some_iff.mp hb).1
    have eb : cs.getD i 0 = b := by rw [List.getD_eq_getElem?_getD, hb]; rfl
    have ec : cs.getD (i + 1) 0 = c := by rw [List.getD_eq_getElem?_getD, hc]; rfl
    have eT := same_new (o := .tup [V.int b, .int c]) hT
    have sl : (((List.range i).map fun k => decide (cs.getD k 0 < cs.getD (k + 1) 0)).map V.bl).length < sizeLine := small1000 (by rw [List.length_map, List.length_map, List.length_range]; omega)
    have gT : (upd H' T (.tup [V.int b, .int c])) T = some (.tup [V.int b, .int c]) := upd_same
    have gD2 := keep (o' := .tup [V.int b, .int c]) gD hT
    generalize upd H' T (.tup [V.int b, .int c]) = H2 at eT gT gD2
    walk_at "go"
    refine ⟨same_mut (e.trans eT) hD, ?_⟩
    rw [List.range_succ, List.map_append, List.map_append]
    show _ = some (HO.lst (_ ++ [V.bl (decide (cs.getD i 0 < cs.getD (i + 1) 0))]))
    rw [eb, ec]
    exact upd_same
  rintro Dl H2 hD ⟨e2, g2⟩
  walk_at "go"
  refine w_all (SqL.of g2) ?_
  rw [all_map]
  exact q H2 (e1.trans e2)
end G

end
section
local macro_rules | `(tactic| walk_at "call") => `(tactic| (refine' G.w_cnt ?g1 ?_; (case g1 => walk_at "sq")))

local macro_rules | `(tactic| walk_at "call") => `(tactic| (refine' G.w_popAt ?g1 ?g2 ?g3 ?g4 ?_; (case g1 => walk_at "hp"); (case g2 => walk_at "ar"); (case g3 => walk_at "ar"); (case g4 => walk_at "ar")))

local macro_rules | `(tactic| walk_at "call") => `(tactic| (refine' G.i_whole ?_))

local macro_rules | `(tactic| walk_at "bx") => `(tactic| first | assumption | exact G.Bx.new (by walk_at "bx") (by assumption) | exact G.Bx.same (by assumption) (by walk_at "bx"))
local macro_rules | `(tactic| walk_at "call") => `(tactic| (refine' G.i_take ?g1 ?g2 ?g3 ?_; (case g1 => walk_at "bx"); (case g2 => walk_at "ar"); (case g3 => walk_at "ar")))

namespace GX
open PySem L2
/-- try: body; except C: suite -/
def tTryO (K : PySem.W.Frag) (C : Addr) (tb : WX → TS) (ts : Addr → Value → Option Addr → TS) : TS := fun D σ H => tb (wOnly K (.ref C) ts (fun _ _ _ _ => False) D) D σ H
end GX
namespace G
open PySem L2 GX
theorem jud_perm {n most L : Int} {rs rows : List (Int × Int)} (h : rs.Perm rows) : ∀ (rws : List (Int × List Int)) (bs : List Int) (k : Nat), jud n most L rs bs rws k = jud n most L rows bs rws k
  | [], _, _ => rfl
  | r :: rest, bs, k => by
    unfold jud
    cases rsn n most r.1 r.2 with
    | some x => rfl
    | none =>
      have e : aft n rs bs L r.1 r.2 = aft n rows bs L r.1 r.2 := by unfold aft; rw [uses_perm h]
      simp only [uses_perm h, e, jud_perm h rest]
theorem any_map {α : Type} {l : List α} {f : α → Bool} : ((l.map f).any id) = l.any f := by
  induction l with
  | nil => rfl
  | cons a l ih => simp
def sp_fault_of (K : PySem.W.Frag) (A : CA) : Sp := fun vs H Q _ => ∃ (w u : Addr) (n most p : Int) (rs : List (Int × Int)) (cs : List Int), vs = [.ref w, .int p, .ref u, .int most] ∧ WebX A H w n rs ∧ SqT K H u (cs.map V.int) ∧ cs.length ≤ 100 ∧ ∀ H', Same H H' → Q (rsV (rsn n most p cs)) H'
def t_fault_of (K : PySem.W.Frag) (A : CA) : TS :=
  (tSeq (tIfS (tB (tCB (rAny K) (tCons (tLc (iList K (tLst (tCons (tVar 1) (_root_.StX.tStar K (tVar 2) tNil)))) (gName 4) tYes (tNotV (tChain oLe oLt (tC (.int 0)) (tVar 4) (tFld K (tVar 0) "pages"))) [4]) tNil))) (tRet (tC (.str "page"))) tNext)
  (tSeq (tIfS (tOr (tTest (tOp oGt (tCB (rLenQ K) (tCons (tVar 2) tNil)) (tVar 3))) (tNot (tB (tCall (sp_is_ascending K A) [] E0 (tCons (tVar 2) tNil))))) (tRet (tC (.str "answer"))) tNext)
  (tRet (tC .non))))

theorem rd_fault_of {K : PySem.W.Frag} {A : CA} (T : CTB K A) {vs : List V} {H : Hp} {Q : VK} {E : XK} (h : sp_fault_of K A vs H Q E) :
    t_fault_of K A { nx := fun _ H' => Q .non H', rt := Q } (start ["web", "page", "answer", "copies", "at"] vs) H := by
  obtain ⟨w, u, n, most, p, rs, cs, rfl, hW, hu, cl, q⟩ := h
  obtain ⟨dw, d0, ar, tg, hd0, gw⟩ := hW.obj
  unfold t_fault_of
  walk_at "go"
  refine GY.w_star ?_
  walk_at "go"
  refine ⟨u, _, rfl, .inl hu, ?_⟩
  walk_at "go"
  refine ⟨Nat.le_of_lt (small1000 (by rw [List.length_cons, List.length_append, List.length_map, List.length_nil]; omega)), fun l1 hl1 => ?_⟩
  rw [List.append_nil]
  have e1 := same_new (o := .lst (V.int p :: cs.map V.int)) hl1
  have g1 : (upd H l1 (.lst (V.int p :: cs.map V.int))) l1 = some (.lst ((p :: cs).map V.int)) := upd_same
  generalize upd H l1 (.lst (V.int p :: cs.map V.int)) = H1 at e1 g1
  walk_at "go"
  refine lcL (xs := (p :: cs).map V.int) (fun Dl i H' => Same H1 H' ∧ H' Dl = some (.lst ((((p :: cs).take i).map (isOut n)).map V.bl))) (fun Dl hD => ⟨same_new hD, upd_same⟩) (fun Dl i H' hD hi ⟨e, _⟩ => SqL.of (e _ _ g1)) ?_ ?_
  · rintro Dl i x H' hD hx ⟨e, gD⟩
    obtain ⟨z, hz, rfl⟩ : ∃ z, (p :: cs)[i]? = some z ∧ x = V.int z := by
      rw [List.getElem?_map] at hx
      cases e : (p :: cs)[i]? with
      | none => rw [e] at hx; cases hx
      | some z => rw [e] at hx; exact ⟨z, rfl, (Option.some.inj hx).symm⟩
    have tk : (p :: cs).take (i + 1) = (p :: cs).take i ++ [z] := by rw [List.take_succ, hz]; rfl
    have sl : ((((p :: cs).take i).map (isOut n)).map V.bl).length < sizeLine := small1000 (by rw [List.length_map, List.length_map, List.length_take, List.length_cons]; omega)
    have fin : ∀ b : Bool, isOut n z = b → Same H1 (upd H' Dl (.lst ((((p :: cs).take i).map (isOut n)).map V.bl ++ [V.bl b]))) ∧ (upd H' Dl (.lst ((((p :: cs).take i).map (isOut n)).map V.bl ++ [V.bl b]))) Dl = some (.lst ((((p :: cs).take (i + 1)).map (isOut n)).map V.bl)) := fun b hb => ⟨same_mut e hD, by
      rw [tk, List.map_append, List.map_append, upd_same]
      show _ = some (HO.lst (_ ++ [V.bl (isOut n z)]))
      rw [hb]⟩
    walk_at "go"
    refine w_iteD (fun c => ?_) (fun c => ?_)
    · walk_at "go"
      refine w_fld2 (e _ _ (e1 _ _ gw)) T.c_Web T.n_Web_pages web_pages ?_
      walk_at "go"
      refine fin _ ?_
      by_cases c2 : z < n
      · rw [isOut_in c c2, decide_eq_true c2]; rfl
      · rw [out_of (.inr (by omega)), decide_eq_false c2]; rfl
    · walk_at "go"
      exact fin _ (out_of (.inl (by omega)))
  rintro Dl H2 hD ⟨e2, g2⟩
  rw [List.length_map, List.take_length] at g2
  have E2 := e1.trans e2
  have hu2 := sqT_same hu E2
  walk_at "go"
  refine w_any (SqL.of g2) ?_
  rw [any_map]
  refine ⟨_, rfl, ?_⟩
  cases ha : (p :: cs).any (isOut n) with
  | true =>
    obtain ⟨z, hz, ho⟩ := List.any_eq_true.mp ha
    have := q H2 E2
    rw [rsn_out hz ho] at this
    walk_at "go"
    exact this
  | false =>
    have ok : ∀ z ∈ p :: cs, isOut n z = false := fun z hz => by
      cases ho : isOut n z with
      | false => rfl
      | true => rw [List.any_eq_true.mpr ⟨z, hz, ho⟩] at ha; cases ha
    refine w_iteF ?_
    have q' : ∀ H', Same H2 H' → Q (rsV (rsn n most p cs)) H' := fun H' e => q H' (E2.trans e)
    clear e1 e2 g1 g2 hD hl1 gw hu q E2
    refine w_next (w_seq (w_if (w_or (w_test (w_op (w_cb (w_cons (w_var rfl (w_nil (w_lenT hu2 ?_))))))))))
    rw [List.length_map]
    walk_at "go"
    refine w_iteD (fun c => ?_) (fun c => ?_)
    · have := q' H2 (Same.refl _)
      rw [rsn_ans ok (fun z => by omega)] at this
      walk_at "go"
      exact this
    · walk_at "go"
      refine ⟨u, cs, rfl, hu2, cl, fun H3 e3 => ?_⟩
      have := q' H3 e3
      refine ⟨_, rfl, ?_⟩
      cases hb : ascB cs with
      | true =>
        rw [rsn_ok ok ⟨hb, by omega⟩] at this
        refine w_iteNT ?_
        walk_at "go"
        exact this
      | false =>
        rw [rsn_ans ok (fun z => by rw [hb] at z; cases z.1)] at this
        refine w_iteNF ?_
        walk_at "go"
        exact this
end G

end
section
local macro_rules | `(tactic| walk_at "call") => `(tactic| (refine' G.w_cnt ?g1 ?_; (case g1 => walk_at "sq")))

local macro_rules | `(tactic| walk_at "call") => `(tactic| (refine' G.w_popAt ?g1 ?g2 ?g3 ?g4 ?_; (case g1 => walk_at "hp"); (case g2 => walk_at "ar"); (case g3 => walk_at "ar"); (case g4 => walk_at "ar")))

local macro_rules | `(tactic| walk_at "call") => `(tactic| (refine' G.i_whole ?_))

local macro_rules | `(tactic| walk_at "bx") => `(tactic| first | assumption | exact G.Bx.new (by walk_at "bx") (by assumption) | exact G.Bx.same (by assumption) (by walk_at "bx"))
local macro_rules | `(tactic| walk_at "call") => `(tactic| (refine' G.i_take ?g1 ?g2 ?g3 ?_; (case g1 => walk_at "bx"); (case g2 => walk_at "ar"); (case g3 => walk_at "ar")))

namespace G
open PySem L2 GX
structure CTG (K : PySem.W.Frag) (A : CA) : Prop where
  m_NoLine : PySem.W.exmOne K (.ref A.NoLine) (.ref A.NoLine) = some true
def sp_judge_log (K : PySem.W.Frag) (A : CA) : Sp := fun vs H Q _ => ∃ (st w pr : Addr) (n most L : Int) (rs : List (Int × Int)) (bs : List Int) (us : List V) (rws : List (Int × List Int)), vs = [.ref st, .ref pr, .int most] ∧ StAt A H st w n rs L bs ∧ RG n rs ∧ BK L n.toNat bs ∧ 1 ≤ n ∧ n ≤ 500 ∧ 0 ≤ L ∧ most ≤ 10 ∧ H pr = some (.lst us) ∧ Paired (RW H) us rws ∧ us.length ≤ 100 ∧ (∀ r ∈ rws, r.2.length ≤ 100) ∧
  ∀ (q s2 : Addr) (H' : Hp), H q = none → Same H H' → H' q = some (.tup [kV (jud n most L rs bs rws 0).1, rsV (jud n most L rs bs rws 0).2.1, .ref s2]) → StAt A H' s2 w n rs L (jud n most L rs bs rws 0).2.2 → BK L n.toNat (jud n most L rs bs rws 0).2.2 → Q (.ref q) H'
def t_judge_log (K : PySem.W.Frag) (A : CA) : TS :=
  (tSeq (tAsg (tVar 0) (gName 3))
  (tSeq (tFor (iEnum K (tCons (tVar 1) tNil)) (gTup K 2 (gCons (gName 4) (gCons (gTup K 2 (gCons (gName 6) (gCons (gName 7) gNil))) gNil)))
  (tSeq (tAsg (tCall (sp_fault_of K A) [] E0 (tCons (tFld K (tVar 0) "web") (tCons (tVar 6) (tCons (tVar 7) (tCons (tVar 2) tNil))))) (gName 5))
  (tSeq (tIfS (tB (tNotN (tVar 5))) (tRet (tTup (tCons (tVar 4) (tCons (tVar 5) (tCons (tVar 3) tNil))))) tNext)
  (GX.tTryO K A.NoLine (fun W => (tAsg (GX.tMethSBS K A.Standing "after" (GX.starSp 2 (sp_Standing_after K A)) (WE W) (tVar 3) (tVar 6) (tVar 7)) (gName 3))) (fun a cls d => (tRet (tTup (tCons (tVar 4) (tCons (tC (.str "line")) (tCons (tVar 3) tNil))))))))))
  (tRet (tTup (tCons (tC .non) (tCons (tC .non) (tCons (tVar 3) tNil)))))))

theorem rd_judge_log {K : PySem.W.Frag} {A : CA} (T : CTS K A) (G' : CTG K A) {vs : List V} {H : Hp} {Q : VK} {E : XK} (h : sp_judge_log K A vs H Q E) :
    t_judge_log K A { nx := fun _ H' => Q .non H', rt := Q } (start ["standing", "rows", "copies", "present", "index", "fault", "page", "answer"] vs) H := by
  obtain ⟨st, w, pr, n, most, L, rs, bs, us, rws, rfl, hS, hR, hB, n0, n1, L0, mo, hr, hP, hul, hrl, q⟩ := h
  have hlen := hP.length
  obtain ⟨dx0, lb0, hst, _⟩ := hS.ex
  unfold t_judge_log
  walk_at "go"
  refine ⟨pr, us, rfl, SqL.of hr, ?_⟩
  refine forE (xs := us) (fun i σ H' => ∃ (st' : Addr) (cur : List Int) (k4 k5 k6 k7 : Option V), σ = [some (.ref st), some (.ref pr), some (.int most), some (.ref st'), k4, k5, k6, k7] ∧ Same H H' ∧ StAt A H' st' w n rs L cur ∧ BK L n.toNat cur ∧ jud n most L rs bs rws 0 = jud n most L rs cur (rws.drop i) i) ?_ ?_ ?_ ?_
  · exact ⟨st, bs, none, none, none, none, rfl, fun _ _ z => z, hS, hB, by rw [List.drop_zero]⟩
  · rintro i σ H1 _ ⟨st', cur, k4, k5, k6, k7, rfl, e1, _⟩
    exact SqL.of (e1 _ _ hr)
  · rintro i x Tt σ H1 hx ⟨st', cur, k4, k5, k6, k7, rfl, e1, hS1, hC, ej⟩ hT
    obtain ⟨r, hrr, t, u, rfl, ht, hu⟩ := Paired.at' hP hx
    have rl := hrl r (List.mem_of_getElem? hrr)
    rw [jud_step hrr] at ej
    have eT := same_new (o := .tup [V.int (i : Nat), .ref t]) hT
    have gT : (upd H1 Tt (.tup [V.int (i : Nat), .ref t])) Tt = some (.tup [V.int (i : Nat), .ref t]) := upd_same
    generalize upd H1 Tt (.tup [V.int (i : Nat), .ref t]) = H2 at eT gT
    have E2 := e1.trans eT
    have ht2 := E2 _ _ ht
    have hu2 := E2 _ _ hu
    have hS2 := hS1.same eT
    have hst2 := E2 _ _ hst
    walk_at "go"
    refine w_fld2 hst2 T.c_Standing T.n_Standing_web st_web ?_
    walk_at "go"
    refine ⟨w, u, n, most, r.1, rs, r.2, rfl, hS2.web, SqT.of hu2, rl, fun H3 e3 => ?_⟩
    have E3 := E2.trans e3
    have hS3 := hS2.same e3
    have hu3 := e3 _ _ hu2
    walk_at "go"
    refine w_notNr ?_
    walk_at "go"
    cases hq : rsn n most r.1 r.2 with
    | some x =>
      rw [hq] at ej
      rw [rsV_some]
      walk_at "go"
      intro q1 hq1
      refine q q1 st' _ (E3.free hq1) (E3.trans (same_new hq1)) ?_ ?_ ?_
      · rw [ej, upd_same]; rfl
      · rw [ej]; exact hS3.same (same_new hq1)
      · rw [ej]; exact hC
    | none =>
      rw [hq] at ej
      obtain ⟨inn, len10⟩ := rsn_in hq
      rw [rsV_none]
      refine w_iteF ?_
      walk_at "go"
      unfold tTryO
      obtain ⟨dx, lb, h3, _⟩ := hS3.ex
      show tAsg (GX.tMethSBS K A.Standing "after" (starSp 2 (sp_Standing_after K A)) (WE _) (tVar 3) (tVar 6) (tVar 7)) (gName 3) _ _ _
      refine w_asg (w_sbS ?_)
      walk_at "go"
      refine ⟨st', dx, _, rfl, h3, st_no (by decide) (by decide) (by decide), fun g qm hqm => ?_⟩
      have e4 := same_new (o := .met g st') hqm
      have g4 : (upd H3 qm (.met g st')) qm = some (.met g st') := upd_same
      have hu4 := e4 _ _ hu3
      generalize upd H3 qm (.met g st') = H4 at e4 g4 hu4
      have E4 := E3.trans e4
      have hS4 := hS3.same e4
      walk_at "go"
      refine ⟨u, _, rfl, .inl (SqT.of hu4), g4, ?_⟩
      refine ⟨[.ref st', .int r.1], r.2.map V.int, rfl, rfl, Nat.le_of_lt (small1000 (by rw [List.length_map]; omega)), fun t5 ht5 => ?_⟩
      have e5 := same_new (o := .tup (r.2.map V.int)) ht5
      have none_ : (r.1 :: r.2).find? (isOut n) = none := List.find?_eq_none.mpr fun y hy => by
        rw [isOut_in (inn y hy).1 (inn y hy).2]; decide
      have E5 := E4.trans e5
      refine ⟨st', w, t5, n, L, r.1, rs, cur, r.2, rfl, hS4.same e5, hR, hC, n0, n1, L0, SqT.of upd_same, by omega, fun y hy => (by rw [none_] at hy; cases hy), fun _ => ⟨fun z z0 z1 cz _ => ?_, fun hF s6 H6 _ e6 hS6 => ?_⟩⟩
      · intro dd H6 hdd e6 hx6
        have hf : fitsB n cur (uses rs r.1 r.2) = false := fitsB_false z0 z1 cz
        rw [hf] at ej
        have E6 := E5.trans e6
        refine ⟨true, G'.m_NoLine, fun _ a _ => ?_, fun z => nomatch z⟩
        walk_at "go"
        intro q1 hq1
        refine q q1 st' _ (E6.free hq1) (E6.trans (same_new hq1)) ?_ ?_ ?_
        · rw [ej, upd_same]; rfl
        · rw [ej]; exact ((hS4.same e5).same e6).same (same_new hq1)
        · rw [ej]; exact hC
      · have hf : fitsB n cur (uses rs r.1 r.2) = true := fitsB_iff.mpr hF
        rw [hf, if_pos rfl] at ej
        walk_at "go"
        exact ⟨s6, _, _, _, _, _, rfl, E5.trans e6, hS6, aft_bk hC L0 hF, ej⟩
  · rintro σ H1 ⟨st', cur, k4, k5, k6, k7, rfl, e1, hS1, hC, ej⟩
    rw [hlen, jud_end] at ej
    walk_at "go"
    intro q1 hq1
    refine q q1 st' _ (e1.free hq1) (e1.trans (same_new hq1)) ?_ ?_ ?_
    · rw [ej, upd_same]; rfl
    · rw [ej]; exact hS1.same (same_new hq1)
    · rw [ej]; exact hC
end G

end
section
local macro_rules | `(tactic| walk_at "call") => `(tactic| (refine' G.w_cnt ?g1 ?_; (case g1 => walk_at "sq")))

local macro_rules | `(tactic| walk_at "call") => `(tactic| (refine' G.w_popAt ?g1 ?g2 ?g3 ?g4 ?_; (case g1 => walk_at "hp"); (case g2 => walk_at "ar"); (case g3 => walk_at "ar"); (case g4 => walk_at "ar")))

local macro_rules | `(tactic| walk_at "call") => `(tactic| (refine' G.i_whole ?_))

local macro_rules | `(tactic| walk_at "bx") => `(tactic| first | assumption | exact G.Bx.new (by walk_at "bx") (by assumption) | exact G.Bx.same (by assumption) (by walk_at "bx"))
local macro_rules | `(tactic| walk_at "call") => `(tactic| (refine' G.i_take ?g1 ?g2 ?g3 ?_; (case g1 => walk_at "bx"); (case g2 => walk_at "ar"); (case g3 => walk_at "ar")))

namespace G
open PySem L2 GX
theorem w_listT {K : PySem.W.Frag} {p : Addr} {xs : List V} {H : Hp} {Q : VK} (h : H p = some (.tup xs)) (q : ∀ l, H l = none → Q (.ref l) (upd H l (.lst xs))) : oListOf K [.ref p] H Q := ⟨p, xs, rfl, .inr (.inl (.inl h)), q⟩
def sp_law_whole (K : PySem.W.Frag) (A : CA) : Sp := fun vs H Q _ => ∃ a : Int, vs = [.int a, .int a] ∧ Q (.bl true) H
def t_law_whole (K : PySem.W.Frag) (A : CA) : TS :=
  (tRet (tAndV (tCB (rIsi K) (tCons (tVar 0) (tCons (tC (.ty "int")) tNil))) (tAndV (tNotV (tCB (rIsi K) (tCons (tVar 0) (tCons (tC (.ty "bool")) tNil)))) (tOp rEq (tVar 0) (tVar 1)))))

theorem rd_law_whole {K : PySem.W.Frag} {A : CA} {vs : List V} {H : Hp} {Q : VK} {E : XK} (h : sp_law_whole K A vs H Q E) :
    t_law_whole K A { nx := fun _ H' => Q .non H', rt := Q } (start ["told", "due"] vs) H := by
  obtain ⟨a, rfl, q⟩ := h
  unfold t_law_whole
  walk_at "go"
  refine w_isT (t := "int") (b := true) (TyX.base (TyOf.int a)) (kit_ty (by decide +kernel)) ?_
  walk_at "go"
  refine w_isT (t := "int") (b := false) (TyX.base (TyOf.int a)) (kit_ty (by decide +kernel)) ?_
  walk_at "go"
  refine w_iteT ?_
  walk_at "go"
  rw [decide_eq_true rfl]
  exact q
theorem i_whole {K : PySem.W.Frag} {A : CA} {H : Hp} {Q : VK} {E : XK} {a : Int} (q : Q (.bl true) H) : sp_law_whole K A [.int a, .int a] H Q E := ⟨a, rfl, q⟩
end G

end
section
local macro_rules | `(tactic| walk_at "call") => `(tactic| (refine' G.w_cnt ?g1 ?_; (case g1 => walk_at "sq")))

local macro_rules | `(tactic| walk_at "call") => `(tactic| (refine' G.w_popAt ?g1 ?g2 ?g3 ?g4 ?_; (case g1 => walk_at "hp"); (case g2 => walk_at "ar"); (case g3 => walk_at "ar"); (case g4 => walk_at "ar")))

local macro_rules | `(tactic| walk_at "call") => `(tactic| (refine' G.i_whole ?_))

local macro_rules | `(tactic| walk_at "bx") => `(tactic| first | assumption | exact G.Bx.new (by walk_at "bx") (by assumption) | exact G.Bx.same (by assumption) (by walk_at "bx"))
local macro_rules | `(tactic| walk_at "call") => `(tactic| (refine' G.i_take ?g1 ?g2 ?g3 ?_; (case g1 => walk_at "bx"); (case g2 => walk_at "ar"); (case g3 => walk_at "ar")))

local macro_rules | `(tactic| walk_at "call") => `(tactic| (refine' G.i_whole ?_))

local macro_rules | `(tactic| walk_at "call") => `(tactic| first | refine' G.w_makeV ?_ | refine' G.w_isref ?_ | refine' G.w_cmeth ?_)

/-! ### a dict made by a call, walked by items; raising defs with a keyword-only parameter within a try -/
namespace GF
open PySem PySem.Spec PyProof.Rows L2
/-- the value is a thing that is locked for good -/
def tFreeze (t : TE) : TE := fun σ H Q => t σ H fun x H1 => ∃ d u, x = .ref d ∧ H1 d = some u ∧ Mut (some u) ∧ ∀ od, Q x (upd H1 d (.frz od u))
theorem pe_freeze {X : Cx} {e : Expr} {t : TE} (h : PE X e t) : PE X e (tFreeze t) := by
  refine ⟨fun pins s σ H Q I hw => ?_⟩
  refine thn (h.run pins s σ H _ I hw) fun v s1 ⟨x, H1, I1, r, d, u, ex, hd, mu, q⟩ => ?_
  obtain ⟨od, I2⟩ := I1.lock hd mu
  exact ⟨x, _, I2, r, q od⟩
structure CalNX (P : Program) (w : World) (K : PySem.W.Frag) (mg : Str → Option Value) (base : Heap) (k : Nat) (x : Str) (sp : Sp) (n : Nat) (ks : List Str) : Prop where
  ex : ∃ (f : Addr) (fd : FuncData) (ps : List Str) (g : List Value → List Value → List Value), FnOk P w K mg base (L2.CX P w) k f fd ps sp ∧ mg x = some (.ref f) ∧ PySem.W.keepIn K (.ref f) = true ∧ KBn K fd ps n ks g (fun a b => a ++ b)
structure CalDX (P : Program) (w : World) (K : PySem.W.Frag) (mg : Str → Option Value) (base : Heap) (k : Nat) (x : Str) (sp : Sp) (dvs : List V) : Prop where
  ex : ∃ (f : Addr) (fd : FuncData) (ps : List Str) (ds : List Value), FnOk P w K mg base (L2.CX P w) k f fd ps sp ∧ mg x = some (.ref f) ∧ PySem.W.keepIn K (.ref f) = true ∧ L2.Binds K fd ps ds ∧ Vals dvs ds
/-- f(e, .., k = v) within a try -/
def tCallNS (n : Nat) (sp : Sp) (E : L2.St → XK) (t tk : TA) : TE := fun σ H Q => t σ H fun vs H1 => tk σ H1 fun zs H2 => vs.length = n ∧ zs.length = 1 ∧ sp (vs ++ zs) H2 Q (E σ)
def tCallDS (sp : Sp) (dvs : List V) (E : L2.St → XK) (t : TA) : TE := fun σ H Q => t σ H fun vs H1 => sp (vs ++ dvs) H1 Q (E σ)
section
variable {X : Cx} {CX : CXT} {k j n : Nat} {f : Addr} {fd : FuncData} {ps ks : List Str} {x nm : Str} {sp : Sp} {e e3 : Expr} {es : List Expr} {p pos kpos : Pos} {t : TA} {t3 : TA} {g : List Value → List Value → List Value} {gV : List V → List V → List V}
theorem run_fnNS {E : L2.St → XK} {pins : List (Addr × Obj)} {σ : L2.St} {H : Hp} {s : Shared} {Q : VK} {us ws : List Value} {vs zs : List V} (F : FnOk X.prog X.w X.K X.mg X.base CX k f fd ps sp) (hr : Room k X.A) (hb : KBn X.K fd ps n ks g gV) (hx : PassesAt CX X σ (E σ))
    (I : Inv X pins σ H s) (r : Vals vs us) (rz : Vals zs ws) (l1 : vs.length = n) (l2 : zs.length = ks.length) (h : sp (gV vs zs) H Q (E σ)) : wpAny (model X.prog X.w) X.A (call (.ref f) us (ks.zip ws)) (EP X pins σ Q) X.xe s := by
  have r2 := hb.rel r rz
  refine wpAny_call (codeAny_mono (F.run X.A X.stack s H ⟨us, ks.zip ws⟩ (g us ws) (gV vs zs) Q (E σ) hr I.env0 (hb.to s us ws I.kIn (r.length.symm.trans l1) (rz.length.symm.trans l2)) r2 h) fun r s' hq => ?_)
  cases r with
  | error e => exact hx pins H s e s' I hq
  | ok fl =>
    cases fl with
    | ret u => exact I.after hq
    | next => exact False.elim hq
    | brk => exact False.elim hq
    | cont => exact False.elim hq
theorem pe_cNT {W : WX} (c : CalNX X.prog X.w X.K X.mg X.base k x sp n [nm]) (hr : Room j X.A) (hk : k ≤ j) (hg : Gl X x) (tk : Takes X W) (ha : PA X (e :: es) t) (hkw : PK X [⟨some nm, e3, kpos⟩] t3)
    (hall : (backToKw pos (keywordEach [⟨some nm, e3, kpos⟩] X.env)).all (·.1.isSome) = true := by rfl) (hks : (backToKw pos (keywordEach [⟨some nm, e3, kpos⟩] X.env)).filterMap (·.1) = [nm] := by rfl)
    (hdb : (x == ("__debug__" : Str)) = false := by decide) (he : starEach (e :: es) X.env = (false, eval e X.env) :: starEach es X.env := by rfl)
    (hpl : ((backTo pos (starEach (e :: es) X.env)).any (·.1) || (backToKw pos (keywordEach [⟨some nm, e3, kpos⟩] X.env)).any (·.1.isNone)) = false := by rfl) :
    PE X (.Call (.Name x p) (e :: es) [⟨some nm, e3, kpos⟩] pos) (tCallNS n sp (WE W) t t3) := by
  obtain ⟨f, fd, ps, g, F, hm, kp, b⟩ := c.ex
  refine ⟨fun pins s σ H Q I h => ?_⟩
  refine wpAny_Call_Name_kw (ld_glob I hg hm ?_ hdb)
  refine PySem.W.callWith_KW (h₀ := X.base) I.ok.mod.kin kp hall (thn (ha.run pos pins s σ H _ I h) fun us s1 ⟨vs, H1, I1, r, q⟩ => ?_) hpl he
  refine thn (hkw.run pos pins s1 σ H1 _ I1 q) fun ws s2 ⟨zs, H2, I2, rz, l1, l2, q2⟩ => ⟨I2.kIn, ?_⟩
  rw [hks]
  exact run_fnNS (E := WE W) F (hr.mono hk) b (passAt tk σ) I2 r rz l1 l2 q2
theorem pe_cDT {dvs : List V} {W : WX} (c : CalDX X.prog X.w X.K X.mg X.base k x sp dvs) (hr : Room j X.A) (hk : k ≤ j) (hg : Gl X x) (tk : Takes X W) (ha : PA X (e :: es) t) (hdb : (x == ("__debug__" : Str)) = false := by decide)
    (he : starEach (e :: es) X.env = (false, eval e X.env) :: starEach es X.env := by rfl) (hpl : (backTo pos (starEach es X.env)).any (·.1) = false := by rfl) : PE X (.Call (.Name x p) (e :: es) [] pos) (tCallDS sp dvs (WE W) t) := by
  obtain ⟨f, fd, ps, ds, F, hm, kp, b, hd⟩ := c.ex
  exact pe_callSD (E := WE W) F (hr.mono hk) hg hm kp b hd (passAt tk) ha hdb he hpl
end
/-- x is not y, both truth values -/
def rIsNB : R2 := fun x y H Q => ∃ a b, x = .bl a ∧ y = .bl b ∧ Q (.bl (!decide (a = b))) H
theorem op_isNB {X : Cx} : OpR X (compareOp .IsNot) rIsNB := by
  intro pins s σ H x y v u Q I rx ry h
  obtain ⟨a, b, rfl, rfl, q⟩ := h
  cases rx
  cases ry
  refine wpAny_bind (wpAny_pure (wpAny_pure ⟨.bl (!decide (a = b)), H, I, ?_, q⟩))
  cases a <;> cases b <;> rfl
end GF
namespace G
open PySem L2 GX
theorem w_isNB {a b : Bool} {H : Hp} {Q : VK} (q : Q (.bl (!decide (a = b))) H) : GF.rIsNB (.bl a) (.bl b) H Q := ⟨a, b, rfl, rfl, q⟩
theorem w_callNS {n : Nat} {sp : Sp} {E : L2.St → XK} {t tk : TA} {σ : L2.St} {H : Hp} {Q : VK} (h : t σ H fun vs H1 => tk σ H1 fun zs H2 => vs.length = n ∧ zs.length = 1 ∧ sp (vs ++ zs) H2 Q (E σ)) : GF.tCallNS n sp E t tk σ H Q := h
theorem w_callDS {sp : Sp} {dvs : List V} {E : L2.St → XK} {t : TA} {σ : L2.St} {H : Hp} {Q : VK} (h : t σ H fun vs H1 => sp (vs ++ dvs) H1 Q (E σ)) : GF.tCallDS sp dvs E t σ H Q := h
theorem w_freeze {t : TE} {σ : L2.St} {H : Hp} {Q : VK} (h : t σ H fun x H1 => ∃ d u, x = V.ref d ∧ H1 d = some u ∧ Mut (some u) ∧ ∀ od, Q x (upd H1 d (.frz od u))) : GF.tFreeze t σ H Q := h
theorem w_forI {te : TE} {g : TG} {tb : TS} {D : Ends} {σ : L2.St} {H : Hp} (h : te σ H fun x H1 => ∃ d o kvs, x = .ref d ∧ H1 d = some (.frz o (.dK kvs)) ∧ ForW (Iti d o kvs) g tb D σ H1) : tFor (iItems te) g tb D σ H := h
theorem forI {d : Addr} {od : Obj} {kvs : List (Key × V)} {g : TG} {tb : TS} {D : Ends} {σ : L2.St} {H : Hp} (Pv : Nat → L2.St → Hp → Prop) (h0 : Pv 0 σ H) (hl : ∀ i σ1 H1, i ≤ kvs.length → Pv i σ1 H1 → H1 d = some (.frz od (.dK kvs)))
    (hs : ∀ (i : Nat) (k : Key) (v : V) (T : Addr) (σ1 : L2.St) (H1 : Hp), kvs[i]? = some (k, v) → Pv i σ1 H1 → H1 T = none → g (.ref T) σ1 (upd H1 T (.tup [L2.kV k, v])) fun σ2 H2 => tb { D with nx := Pv (i + 1), ct := Pv (i + 1), bk := D.nx } σ2 H2) (hd : ∀ σ1 H1, Pv kvs.length σ1 H1 → D.nx σ1 H1) : ForW (Iti d od kvs) g tb D σ H :=
  for_it walk_items Pv h0 hl (fun i x σ1 H1 H' hi p y => by
    obtain ⟨T, a, b, rfl, hT, rfl, ea, eb⟩ := y
    have e : kvs[i]? = some kvs[i] := List.getElem?_eq_getElem hi
    replace ea : kvs[i]?.map (fun kv => L2.kV kv.1) = some a := ea
    replace eb : kvs[i]?.map Prod.snd = some b := eb
    rw [e, Option.map_some] at ea eb
    have ea := Option.some.inj ea
    have eb := Option.some.inj eb
    subst ea eb
    exact hs i _ _ T σ1 H1 e p hT) hd
end G

end
section
local macro_rules | `(tactic| walk_at "call") => `(tactic| (refine' G.w_cnt ?g1 ?_; (case g1 => walk_at "sq")))

local macro_rules | `(tactic| walk_at "call") => `(tactic| (refine' G.w_popAt ?g1 ?g2 ?g3 ?g4 ?_; (case g1 => walk_at "hp"); (case g2 => walk_at "ar"); (case g3 => walk_at "ar"); (case g4 => walk_at "ar")))

local macro_rules | `(tactic| walk_at "call") => `(tactic| (refine' G.i_whole ?_))

local macro_rules | `(tactic| walk_at "bx") => `(tactic| first | assumption | exact G.Bx.new (by walk_at "bx") (by assumption) | exact G.Bx.same (by assumption) (by walk_at "bx"))
local macro_rules | `(tactic| walk_at "call") => `(tactic| (refine' G.i_take ?g1 ?g2 ?g3 ?_; (case g1 => walk_at "bx"); (case g2 => walk_at "ar"); (case g3 => walk_at "ar")))

local macro_rules | `(tactic| walk_at "call") => `(tactic| (refine' G.i_whole ?_))

local macro_rules | `(tactic| walk_at "call") => `(tactic| first | refine' G.w_makeV ?_ | refine' G.w_isref ?_ | refine' G.w_cmeth ?_)

namespace G
open PySem L2 GX
theorem pds_eqv2 : ∀ r s : List (Int × Int), PyData.eqvAll (r.map pd) (s.map pd) = decide (r = s)
  | [], [] => rfl
  | [], b :: s => by simp [PyData.eqvAll]
  | a :: r, [] => by simp [PyData.eqvAll]
  | a :: r, b :: s => by
    rw [List.map_cons, List.map_cons]
    show (PyData.eqv (pd a) (pd b) && PyData.eqvAll (r.map pd) (s.map pd)) = _
    rw [pd_eqv, pds_eqv2 r s]
    by_cases h1 : a = b
    · by_cases h2 : r = s
      · simp [h1, h2]
      · simp [h1, h2]
    · simp [h1]
theorem w_neRR {K : PySem.W.Frag} {H : Hp} {Q : VK} {p q : Addr} {us ws : List V} {r s : List (Int × Int)} (hp : H p = some (.lst us)) (h1 : Paired (PR H) us r) (hq : H q = some (.lst ws)) (h2 : Paired (PR H) ws s) (k : Q (.bl (!decide (r = s))) H) : rNeD K (.ref p) (.ref q) H Q := by
  refine ⟨_, _, dp_rows hp h1, dp_rows hq h2, pds_shaped r, pds_shaped s, ?_⟩
  show Q (.bl (!PyData.eqvAll (r.map pd) (s.map pd))) H
  rw [pds_eqv2]; exact k
/-- a row, deep -/
def rdD (r : Int × List Int) : PyData := .tuple [.int r.1, .tuple (r.2.map PyData.int)]
theorem rdD_eqv (r : Int × List Int) : PyData.eqv (rdD r) (rdD r) = true := by
  show (decide (r.1 = r.1) && (PyData.eqvAll (r.2.map PyData.int) (r.2.map PyData.int) && true)) = true
  rw [di_eqv]; simp
theorem rdDs_eqv : ∀ l : List (Int × List Int), PyData.eqvAll (l.map rdD) (l.map rdD) = true
  | [] => rfl
  | r :: l => by
    rw [List.map_cons]
    show (PyData.eqv (rdD r) (rdD r) && PyData.eqvAll (l.map rdD) (l.map rdD)) = true
    rw [rdD_eqv, rdDs_eqv l]; rfl
theorem rdD_lay (r : Int × List Int) : PyData.canLay0 (rdD r) = true := by
  show (PyData.canLay0 (.int r.1) && (PyData.canLayAll0 (r.2.map PyData.int) && true)) = true
  rw [di_lay]; rfl
theorem rdDs_lay : ∀ l : List (Int × List Int), PyData.canLayAll0 (l.map rdD) = true
  | [] => rfl
  | r :: l => by
    rw [List.map_cons]
    show (PyData.canLay0 (rdD r) && PyData.canLayAll0 (l.map rdD)) = true
    rw [rdDs_lay l, rdD_lay]; rfl
theorem rdD_depth (r : Int × List Int) : PyData.depth (rdD r) ≤ 3 := by
  show max (PyData.depth (.int r.1)) (max (PyData.depthAll (r.2.map PyData.int) + 1) 0) + 1 ≤ 3
  have e : PyData.depth (.int r.1) = 0 := rfl
  rw [di_depth, e]; decide
theorem rdDs_depth : ∀ l : List (Int × List Int), PyData.depthAll (l.map rdD) ≤ 3
  | [] => Nat.zero_le _
  | r :: l => by
    rw [List.map_cons]
    show max (PyData.depth (rdD r)) (PyData.depthAll (l.map rdD)) ≤ 3
    have := rdDs_depth l
    have := rdD_depth r
    omega
theorem rdDs_shaped (l : List (Int × List Int)) : SeqAt.shaped (.list (l.map rdD)) = true := by
  have h1 : PyData.canLay0 (.list (l.map rdD)) = true := rdDs_lay l
  have h2 : PyData.depth (.list (l.map rdD)) ≤ 64 := by
    show PyData.depthAll (l.map rdD) + 1 ≤ 64
    have := rdDs_depth l
    omega
  show (PyData.canLay0 (.list (l.map rdD)) && decide (PyData.depth (.list (l.map rdD)) ≤ 64)) = true
  rw [h1, decide_eq_true h2]; rfl
theorem dp_rw {K : PySem.W.Frag} {H : Hp} {v : V} {r : Int × List Int} (h : RW H v r) : Dp K H v (rdD r) := by
  obtain ⟨t, u, rfl, ht, hu⟩ := h
  exact .tup (SqT.of ht) (.cons (.int r.1) (.cons (.tup (SqT.of hu) (dp_is r.2)) .nil))
theorem dp_rws {K : PySem.W.Frag} {H : Hp} : ∀ {us : List V} {l : List (Int × List Int)}, Paired (RW H) us l → DpAll K H us (l.map rdD)
  | _, _, .nil => .nil
  | _, _, .cons a b => .cons (dp_rw a) (dp_rws b)
theorem w_neRws {K : PySem.W.Frag} {H : Hp} {Q : VK} {p q : Addr} {us ws : List V} {l : List (Int × List Int)} (hp : H p = some (.lst us)) (h1 : Paired (RW H) us l) (hq : H q = some (.lst ws)) (h2 : Paired (RW H) ws l) (k : Q (.bl false) H) : rNeD K (.ref p) (.ref q) H Q := by
  refine ⟨.list (l.map rdD), .list (l.map rdD), .lst (SqL.of hp) (dp_rws h1), .lst (SqL.of hq) (dp_rws h2), rdDs_shaped l, rdDs_shaped l, ?_⟩
  show Q (.bl (!PyData.eqvAll (l.map rdD) (l.map rdD))) H
  rw [rdDs_eqv]; exact k
theorem w_eqS {x : PySem.Str} {H : Hp} {Q : VK} (q : Q (.bl true) H) : rEq (.str x) (.str x) H Q := ⟨rfl, by
  have e : (decide (V.str x = V.str x)) = true := decide_eq_true rfl
  rw [e]; exact q⟩
theorem jud_kr {n most L : Int} {rows : List (Int × Int)} : ∀ (rws : List (Int × List Int)) (bs : List Int) (k : Nat), ((jud n most L rows bs rws k).1 = none ∧ (jud n most L rows bs rws k).2.1 = none) ∨ ∃ j x, (jud n most L rows bs rws k).1 = some j ∧ (jud n most L rows bs rws k).2.1 = some x
  | [], _, _ => .inl ⟨rfl, rfl⟩
  | r :: rest, bs, k => by
    unfold jud
    cases rsn n most r.1 r.2 with
    | some x => exact .inr ⟨k, x, rfl, rfl⟩
    | none =>
      by_cases c : fitsB n bs (uses rows r.1 r.2) = true
      · simp only [if_pos c]
        exact jud_kr rest _ _
      · simp only [if_neg c]
        exact .inr ⟨k, _, rfl, rfl⟩
theorem kit_self {K : PySem.W.Frag} {C : Addr} : PySem.W.kitOne K (.ref C) (.ref C) = some true := by
  unfold PySem.W.kitOne
  simp
theorem w_neIf {b : Bool} {A B : Prop} (e : b = false) (h : B) : if b = true then A else B := by rw [e]; exact h
theorem w_ifT {b : Bool} {A B : Prop} (e : b = true) (h : A) : if b = true then A else B := by rw [e]; exact h
theorem kV_n : decide (kV none = V.non) = true := decide_eq_true rfl
theorem kV_s (j : Nat) : decide (kV (some j) = V.non) = false := decide_eq_false (fun h => V.noConfusion h)
theorem nkV_n : (!decide (kV none = V.non)) = false := by rw [kV_n]; rfl
theorem nkV_s (j : Nat) : (!decide (kV (some j) = V.non)) = true := by rw [kV_s]; rfl
theorem nrsV_n : (!decide (rsV none = V.non)) = false := by rw [show decide (rsV none = V.non) = true from decide_eq_true rfl]; rfl
theorem rsV_n : decide (rsV none = V.non) = true := decide_eq_true rfl
end G

end
section
local macro_rules | `(tactic| walk_at "call") => `(tactic| (refine' G.w_cnt ?g1 ?_; (case g1 => walk_at "sq")))

local macro_rules | `(tactic| walk_at "call") => `(tactic| (refine' G.w_popAt ?g1 ?g2 ?g3 ?g4 ?_; (case g1 => walk_at "hp"); (case g2 => walk_at "ar"); (case g3 => walk_at "ar"); (case g4 => walk_at "ar")))

local macro_rules | `(tactic| walk_at "call") => `(tactic| (refine' G.i_whole ?_))

local macro_rules | `(tactic| walk_at "bx") => `(tactic| first | assumption | exact G.Bx.new (by walk_at "bx") (by assumption) | exact G.Bx.same (by assumption) (by walk_at "bx"))
local macro_rules | `(tactic| walk_at "call") => `(tactic| (refine' G.i_take ?g1 ?g2 ?g3 ?_; (case g1 => walk_at "bx"); (case g2 => walk_at "ar"); (case g3 => walk_at "ar")))

local macro_rules | `(tactic| walk_at "call") => `(tactic| (refine' G.i_whole ?_))

local macro_rules | `(tactic| walk_at "call") => `(tactic| first | refine' G.w_makeV ?_ | refine' G.w_isref ?_ | refine' G.w_cmeth ?_)

namespace G
open PySem L2 GX
/-- all rows paid: the blank lines behind them -/
def pay (n L : Int) (rows : List (Int × Int)) : List Int → List (Int × List Int) → Option (List Int)
  | bs, [] => some bs
  | bs, r :: rest => if fitsB n bs (uses rows r.1 r.2) = true then pay n L rows (aft n rows bs L r.1 r.2) rest else none
theorem jud_none {n most L : Int} {rows : List (Int × Int)} : ∀ (rws : List (Int × List Int)) (bs : List Int) (k : Nat), (jud n most L rows bs rws k).1 = none →
    (∀ r ∈ rws, rsn n most r.1 r.2 = none) ∧ ∃ e, pay n L rows bs rws = some e ∧ jud n most L rows bs rws k = (none, none, e)
  | [], bs, k, _ => ⟨fun _ h => (nomatch h), bs, rfl, rfl⟩
  | r :: rest, bs, k, h => by
    unfold jud at h ⊢
    unfold pay
    cases hr : rsn n most r.1 r.2 with
    | some x => rw [hr] at h; cases h
    | none =>
      rw [hr] at h
      by_cases c : fitsB n bs (uses rows r.1 r.2) = true
      · simp only [if_pos c] at h ⊢
        obtain ⟨a, e, b, d⟩ := jud_none rest _ (k + 1) h
        refine ⟨fun r' hr' => ?_, e, b, d⟩
        rcases List.mem_cons.mp hr' with rfl | z
        · exact hr
        · exact a r' z
      · simp only [if_neg c] at h; cases h
theorem jud_pay {n most L : Int} {rows : List (Int × Int)} : ∀ (rws : List (Int × List Int)) (bs : List Int) (k : Nat), (∀ r ∈ rws, rsn n most r.1 r.2 = none) →
    (∀ e, pay n L rows bs rws = some e → jud n most L rows bs rws k = (none, none, e)) ∧ (pay n L rows bs rws = none → ∃ j x, jud n most L rows bs rws k = (some j, some ("line" : PySem.Str), x))
  | [], bs, k, _ => ⟨fun e h => by cases h; rfl, fun h => nomatch h⟩
  | r :: rest, bs, k, h => by
    unfold jud pay
    rw [h r List.mem_cons_self]
    by_cases c : fitsB n bs (uses rows r.1 r.2) = true
    · simp only [if_pos c]
      exact jud_pay rest _ (k + 1) fun r' hr' => h r' (List.mem_cons_of_mem _ hr')
    · simp only [if_neg c]
      exact ⟨fun e z => (nomatch z), fun _ => ⟨k, bs, rfl⟩⟩
theorem aft_perm {n L : Int} {rs rows : List (Int × Int)} (h : rs.Perm rows) {bs : List Int} {p : Int} {cs : List Int} : aft n rs bs L p cs = aft n rows bs L p cs := by
  unfold aft
  rw [uses_perm h]
theorem pay_perm {n L : Int} {rs rows : List (Int × Int)} (h : rs.Perm rows) : ∀ (rws : List (Int × List Int)) (bs : List Int), pay n L rs bs rws = pay n L rows bs rws
  | [], _ => rfl
  | r :: rest, bs => by
    unfold pay
    rw [uses_perm h, aft_perm h, pay_perm h rest]
/-- what a page pays out of the lines that it had at the beginning -/
def need (rows : List (Int × Int)) (k : Int) : List (Int × List Int) → Int
  | [] => 0
  | r :: rest => uses rows r.1 r.2 k + (if k ∈ r.2 then 0 else need rows k rest)
def needL (n : Int) (rows : List (Int × Int)) (rws : List (Int × List Int)) : List Int := (List.range n.toNat).map fun k : Nat => need rows k rws
theorem need_perm {rs rows : List (Int × Int)} (h : rs.Perm rows) {k : Int} : ∀ rws : List (Int × List Int), need rs k rws = need rows k rws
  | [] => rfl
  | r :: rest => by
    unfold need
    rw [uses_perm h, need_perm h rest]
theorem needL_perm {n : Int} {rs rows : List (Int × Int)} (h : rs.Perm rows) {rws : List (Int × List Int)} : needL n rs rws = needL n rows rws := by
  unfold needL
  exact List.map_congr_left fun k _ => need_perm h rws
theorem need_nn {rows : List (Int × Int)} {k : Int} : ∀ rws : List (Int × List Int), 0 ≤ need rows k rws
  | [] => Int.le_refl 0
  | r :: rest => by
    unfold need
    have a := uses_nn (rs := rows) (p := r.1) (cs := r.2) (k := k)
    have b := need_nn (rows := rows) (k := k) rest
    by_cases c : k ∈ r.2
    · rw [if_pos c]; omega
    · rw [if_neg c]; omega
theorem uses_cop {rows : List (Int × Int)} {p k : Int} {cs : List Int} (h : k ∈ cs) : uses rows p cs k = 0 := by
  unfold uses
  have e : (rows.filter fun r => decide (r.1 = k) && (decide (r.2 ∈ cs) && !decide (r.1 ∈ cs))) = [] := List.filter_eq_nil_iff.mpr fun r _ z => by
    have z1 := Bool.and_eq_true_iff.mp z
    have z2 := Bool.and_eq_true_iff.mp z1.2
    have e1 : r.1 = k := of_decide_eq_true z1.1
    rw [e1, decide_eq_true h] at z2
    exact absurd z2.2 (by decide)
  rw [e, if_neg (fun z => by rw [← z.2] at z; exact z.1 h)]
  rfl
theorem aft_get {n L p k : Int} {rs : List (Int × Int)} {bs cs : List Int} (k0 : 0 ≤ k) (k1 : k < n) : (aft n rs bs L p cs).getD k.toNat 0 = if k ∈ cs then L else bs.getD k.toNat 0 - uses rs p cs k := by
  have e : ((k.toNat : Nat) : Int) = k := by omega
  have kn : k.toNat < n.toNat := by omega
  unfold aft
  rw [List.getD_eq_getElem?_getD, List.getElem?_map, List.getElem?_range kn, Option.map_some, Option.getD_some, e]
theorem BK.nn {L : Int} {n : Nat} {bs : List Int} (h : BK L n bs) (k : Nat) : 0 ≤ bs.getD k 0 := by
  rw [List.getD_eq_getElem?_getD]
  cases e : bs[k]? with
  | none => exact Int.le_refl 0
  | some z => exact (h.bd z (List.mem_of_getElem? e)).1
theorem pay_need {n L : Int} {rows : List (Int × Int)} (L0 : 0 ≤ L) : ∀ (rws : List (Int × List Int)) (bs e : List Int), BK L n.toNat bs → pay n L rows bs rws = some e → ∀ k, 0 ≤ k → k < n → need rows k rws ≤ bs.getD k.toNat 0
  | [], bs, e, hB, _, k, _, _ => hB.nn k.toNat
  | r :: rest, bs, e, hB, h, k, k0, k1 => by
    unfold pay at h
    by_cases c : fitsB n bs (uses rows r.1 r.2) = true
    · rw [if_pos c] at h
      have F := fitsB_iff.mp c
      have ih := pay_need L0 rest _ e (aft_bk hB L0 F) h k k0 k1
      have fk := F k k0 k1
      unfold need
      rw [aft_get k0 k1] at ih
      by_cases m : k ∈ r.2
      · rw [if_pos m]; omega
      · rw [if_neg m]
        rw [if_neg m] at ih
        omega
    · rw [if_neg c] at h; cases h
theorem need_pay {n L : Int} {rows : List (Int × Int)} (L0 : 0 ≤ L) : ∀ (rws : List (Int × List Int)) (b0 bs e0 : List Int), BK L n.toNat b0 → BK L n.toNat bs → pay n L rows b0 rws = some e0 → (∀ k, 0 ≤ k → k < n → need rows k rws ≤ bs.getD k.toNat 0) →
    ∃ e, pay n L rows bs rws = some e ∧ BK L n.toNat e
  | [], _, bs, _, _, hB, _, _ => ⟨bs, rfl, hB⟩
  | r :: rest, b0, bs, e0, hB0, hB, h, hk => by
    unfold pay at h ⊢
    by_cases c : fitsB n b0 (uses rows r.1 r.2) = true
    · rw [if_pos c] at h
      have F0 := fitsB_iff.mp c
      have F : Fits n bs (uses rows r.1 r.2) := fun k k0 k1 => by
        have a := hk k k0 k1
        unfold need at a
        have b := need_nn (rows := rows) (k := k) rest
        by_cases m : k ∈ r.2
        · rw [if_pos m] at a; omega
        · rw [if_neg m] at a; omega
      rw [if_pos (fitsB_iff.mpr F)]
      refine need_pay L0 rest _ _ e0 (aft_bk hB0 L0 F0) (aft_bk hB L0 F) h fun k k0 k1 => ?_
      rw [aft_get k0 k1]
      by_cases m : k ∈ r.2
      · have z := pay_need L0 rest _ e0 (aft_bk hB0 L0 F0) h k k0 k1
        rw [aft_get k0 k1, if_pos m] at z
        rw [if_pos m]; exact z
      · have a := hk k k0 k1
        unfold need at a
        rw [if_neg m] at a ⊢
        omega
    · rw [if_neg c] at h; cases h
theorem needL_get {n k : Int} {rows : List (Int × Int)} {rws : List (Int × List Int)} (k0 : 0 ≤ k) (k1 : k < n) : (needL n rows rws).getD k.toNat 0 = need rows k rws := by
  have e : ((k.toNat : Nat) : Int) = k := by omega
  have kn : k.toNat < n.toNat := by omega
  unfold needL
  rw [List.getD_eq_getElem?_getD, List.getElem?_map, List.getElem?_range kn, Option.map_some, Option.getD_some, e]
theorem rep_get {n L k : Int} (k0 : 0 ≤ k) (k1 : k < n) : (List.replicate n.toNat L).getD k.toNat 0 = L := by
  rw [List.getD_eq_getElem?_getD, List.getElem?_replicate, if_pos (by omega)]; rfl
theorem needL_bk {n L : Int} {rows : List (Int × Int)} {rws : List (Int × List Int)} {e : List Int} (L0 : 0 ≤ L) (h : pay n L rows (List.replicate n.toNat L) rws = some e) : BK L n.toNat (needL n rows rws) := by
  have B : BK L n.toNat (List.replicate n.toNat L) := ⟨List.length_replicate, fun b hb => by rw [List.eq_of_mem_replicate hb]; exact ⟨L0, Int.le_refl L⟩⟩
  refine ⟨by unfold needL; rw [List.length_map, List.length_range], fun b hb => ?_⟩
  obtain ⟨k, hk, rfl⟩ := List.mem_map.mp hb
  have kn := List.mem_range.mp hk
  have z := pay_need L0 rws _ e B h (k : Int) (by omega) (by omega)
  rw [rep_get (by omega) (by omega)] at z
  exact ⟨need_nn rws, z⟩
theorem needL_pay {n L : Int} {rows : List (Int × Int)} {rws : List (Int × List Int)} {e : List Int} (L0 : 0 ≤ L) (h : pay n L rows (List.replicate n.toNat L) rws = some e) : ∃ e', pay n L rows (needL n rows rws) rws = some e' ∧ BK L n.toNat e' := by
  have B : BK L n.toNat (List.replicate n.toNat L) := ⟨List.length_replicate, fun b hb => by rw [List.eq_of_mem_replicate hb]; exact ⟨L0, Int.le_refl L⟩⟩
  exact need_pay L0 rws _ _ e B (needL_bk L0 h) h fun k k0 k1 => by rw [needL_get k0 k1]; exact Int.le_refl _
/-- one line fewer on a page, and some row isn't paid -/
def fewer (bs : List Int) (j : Nat) : List Int := (List.range bs.length).map fun k : Nat => bs.getD k 0 - if k = j then 1 else 0
theorem fewer_get {bs : List Int} {j k : Nat} (h : k < bs.length) : (fewer bs j).getD k 0 = bs.getD k 0 - if k = j then 1 else 0 := by
  unfold fewer
  rw [List.getD_eq_getElem?_getD, List.getElem?_map, List.getElem?_range h, Option.map_some, Option.getD_some]
theorem fewer_bk {L : Int} {n j : Nat} {bs : List Int} (hB : BK L n bs) (hj : 0 < bs.getD j 0) : BK L n (fewer bs j) := by
  refine ⟨by unfold fewer; rw [List.length_map, List.length_range, hB.len], fun b hb => ?_⟩
  obtain ⟨k, hk, rfl⟩ := List.mem_map.mp hb
  have kn := List.mem_range.mp hk
  have e : bs.getD k 0 = bs[k] := by rw [List.getD_eq_getElem?_getD, List.getElem?_eq_getElem kn]; rfl
  have b1 := hB.bd bs[k] (List.getElem_mem kn)
  by_cases c : k = j
  · subst c; rw [if_pos rfl]; omega
  · rw [if_neg c]; omega
theorem fewer_pay {n L : Int} {rows : List (Int × Int)} {rws : List (Int × List Int)} {j : Nat} (L0 : 0 ≤ L) (hj : j < n.toNat) (hB : BK L n.toNat (needL n rows rws)) (p : 0 < (needL n rows rws).getD j 0) : pay n L rows (fewer (needL n rows rws) j) rws = none := by
  cases h : pay n L rows (fewer (needL n rows rws) j) rws with
  | none => rfl
  | some e =>
    have z := pay_need L0 rws _ e (fewer_bk hB p) h (j : Int) (by omega) (by omega)
    have a := needL_get (n := n) (rows := rows) (rws := rws) (k := (j : Int)) (by omega) (by omega)
    rw [Int.toNat_natCast] at z a
    rw [fewer_get (by rw [hB.len]; exact hj), if_pos rfl, a] at z
    omega
end G

end
section
local macro_rules | `(tactic| walk_at "call") => `(tactic| (refine' G.w_cnt ?g1 ?_; (case g1 => walk_at "sq")))

local macro_rules | `(tactic| walk_at "call") => `(tactic| (refine' G.w_popAt ?g1 ?g2 ?g3 ?g4 ?_; (case g1 => walk_at "hp"); (case g2 => walk_at "ar"); (case g3 => walk_at "ar"); (case g4 => walk_at "ar")))

local macro_rules | `(tactic| walk_at "call") => `(tactic| (refine' G.i_whole ?_))

local macro_rules | `(tactic| walk_at "bx") => `(tactic| first | assumption | exact G.Bx.new (by walk_at "bx") (by assumption) | exact G.Bx.same (by assumption) (by walk_at "bx"))
local macro_rules | `(tactic| walk_at "call") => `(tactic| (refine' G.i_take ?g1 ?g2 ?g3 ?_; (case g1 => walk_at "bx"); (case g2 => walk_at "ar"); (case g3 => walk_at "ar")))

local macro_rules | `(tactic| walk_at "call") => `(tactic| (refine' G.i_whole ?_))

local macro_rules | `(tactic| walk_at "call") => `(tactic| first | refine' G.w_makeV ?_ | refine' G.w_isref ?_ | refine' G.w_cmeth ?_)

namespace G
open PySem L2 GX
/-- Standing(w, L, bs) of numbers that are right -/
theorem i_standing {K : PySem.W.Frag} {A : CA} {H : Hp} {Q : VK} {E : XK} {x dx w pb : Addr} {n L : Int} {rs : List (Int × Int)} {bs : List Int} (hx : H x = none) (hdx : H dx = none) (nx : dx ≠ x) (hW : WebX A H w n rs) (n0 : 1 ≤ n) (n1 : n ≤ 500) (hb : H pb = some (.lst (bs.map V.int))) (hB : BK L n.toNat bs)
    (q : ∀ H', StNew A H H' x w L bs → Same H H' → StAt A H' x w n rs L bs → Q .non H') : sp_Standing_init K A [.ref x, .ref w, .int L, .ref pb] (upd (upd H dx (.own x)) x (.ins A.Standing dx [])) Q E :=
  ⟨H, x, dx, w, pb, n, L, rs, bs, rfl, rfl, hx, hdx, nx, hW, n0, n1, hb, by rw [hB.len]; omega, fun c => absurd hB.len c, fun _ k hk => absurd hk (hB.noBad k), fun _ => q⟩
theorem BK.rep {L : Int} {n : Nat} (h : 0 ≤ L) : BK L n (List.replicate n L) := ⟨List.length_replicate, fun b hb => by rw [List.eq_of_mem_replicate hb]; exact ⟨h, Int.le_refl L⟩⟩
def sp_Standing_fresh (K : PySem.W.Frag) (A : CA) : Sp := fun vs H Q _ => ∃ (w : Addr) (n L : Int) (rs : List (Int × Int)), vs = [.ref A.Standing, .ref w, .int L] ∧ WebX A H w n rs ∧ 1 ≤ n ∧ n ≤ 500 ∧ 0 ≤ L ∧
  ∀ (st : Addr) (H' : Hp), StNew A H H' st w L (List.replicate n.toNat L) → Same H H' → StAt A H' st w n rs L (List.replicate n.toNat L) → Q (.ref st) H'
def t_Standing_fresh (K : PySem.W.Frag) (A : CA) (E : XK) : TS :=
  (tRet (GX.tMakeV A.Standing (sp_Standing_init K A) E (tVar 0) (tCons (tVar 1) (tCons (tVar 2) (tCons (tOp rRep (tLst (tCons (tVar 2) tNil)) (tFld K (tVar 1) "pages")) tNil)))))

theorem rd_Standing_fresh {K : PySem.W.Frag} {A : CA} (T : CTS K A) {vs : List V} {H : Hp} {Q : VK} {E : XK} (h : sp_Standing_fresh K A vs H Q E) :
    t_Standing_fresh K A E { nx := fun _ H' => Q .non H', rt := Q } (start ["cls", "web", "lines"] vs) H := by
  obtain ⟨w, n, L, rs, rfl, hW, n0, n1, L0, q⟩ := h
  obtain ⟨dw, d, ar, tg, hd, g1⟩ := hW.obj
  unfold t_Standing_fresh
  walk_at "go"
  intro l0 hl0
  have e0 := same_new (o := .lst [V.int L]) hl0
  have g0 : (upd H l0 (.lst [V.int L])) l0 = some (.lst [V.int L]) := upd_same
  have h1 := e0 _ _ g1
  generalize upd H l0 (.lst [V.int L]) = H0 at e0 g0 h1
  walk_at "go"
  refine w_fld2 h1 T.b.c_Web T.b.n_Web_pages web_pages ?_
  refine w_rep g0 (by omega) (by omega) (Nat.le_of_lt (small1000 (by rw [List.length_singleton]; omega))) fun l hl => ?_
  rw [flat_one]
  have e1 := e0.trans (same_new (o := .lst (List.replicate n.toNat (V.int L))) hl)
  have g2 : (upd H0 l (.lst (List.replicate n.toNat (V.int L)))) l = some (.lst ((List.replicate n.toNat L).map V.int)) := by rw [upd_same, List.map_replicate]
  generalize upd H0 l (.lst (List.replicate n.toNat (V.int L))) = H1 at e1 g2
  walk_at "go"
  intro x dx hx hdx nx
  refine i_standing hx hdx nx (hW.same e1) n0 n1 g2 (BK.rep L0) fun H2 N2 e2 hS2 => ⟨rfl, ?_⟩
  exact q x H2 (N2.base e1) (e1.trans e2) hS2
end G

end
section
local macro_rules | `(tactic| walk_at "call") => `(tactic| (refine' G.w_cnt ?g1 ?_; (case g1 => walk_at "sq")))

local macro_rules | `(tactic| walk_at "call") => `(tactic| (refine' G.w_popAt ?g1 ?g2 ?g3 ?g4 ?_; (case g1 => walk_at "hp"); (case g2 => walk_at "ar"); (case g3 => walk_at "ar"); (case g4 => walk_at "ar")))

local macro_rules | `(tactic| walk_at "call") => `(tactic| (refine' G.i_whole ?_))

local macro_rules | `(tactic| walk_at "bx") => `(tactic| first | assumption | exact G.Bx.new (by walk_at "bx") (by assumption) | exact G.Bx.same (by assumption) (by walk_at "bx"))
local macro_rules | `(tactic| walk_at "call") => `(tactic| (refine' G.i_take ?g1 ?g2 ?g3 ?_; (case g1 => walk_at "bx"); (case g2 => walk_at "ar"); (case g3 => walk_at "ar")))

local macro_rules | `(tactic| walk_at "call") => `(tactic| (refine' G.i_whole ?_))

local macro_rules | `(tactic| walk_at "call") => `(tactic| first | refine' G.w_makeV ?_ | refine' G.w_isref ?_ | refine' G.w_cmeth ?_)

namespace G
open PySem L2 GX
/-- a dict of truth values: a page stands in it where c says so -/
structure CopAt (H : Hp) (d : Addr) (m : Nat) (c : Int → Bool) : Prop where
  ex : ∃ kvs : List (Key × V), H d = some (.dK kvs) ∧ kvs.length ≤ m ∧ ∀ k : Int, (valV kvs (Sum.inl k)).isSome = c k
theorem CopAt.same {H H' : Hp} {d : Addr} {m : Nat} {c : Int → Bool} (e : Same H H') (h : CopAt H d m c) : CopAt H' d m c := let ⟨kvs, a, b⟩ := h.ex; ⟨kvs, e _ _ a, b⟩
theorem CopAt.mut {H : Hp} {d p : Addr} {o : HO} {m : Nat} {c : Int → Bool} (n : d ≠ p) (h : CopAt H d m c) : CopAt (upd H p o) d m c := let ⟨kvs, a, b⟩ := h.ex; ⟨kvs, keepNe a n, b⟩
theorem CopAt.put {H : Hp} {d : Addr} {m : Nat} {c : Int → Bool} {k : Int} (h : CopAt H d m c) (hm : m < 1000000) {D : L2.St → Hp → Prop} {σ : L2.St} (q : ∀ H', (∃ o, H' = upd H d o) → CopAt H' d (m + 1) (fun j => decide (j = k) || c j) → D σ H') :
    ∃ (a : Addr) (H4 : Hp), V.ref d = V.ref a ∧ DPut H a (.int k) (.bl true) H4 ∧ D σ H4 := by
  obtain ⟨kvs, hd, hl, hv⟩ := h.ex
  refine ⟨d, _, rfl, DPut.k (k := Sum.inl k) hd (by rw [sizeLine_eq]; omega), q _ ⟨_, rfl⟩ ⟨_, upd_same, Nat.le_trans (length_putK _ _ _) (by omega), fun j => ?_⟩⟩
  rw [valV_put]
  by_cases e : j = k
  · subst e; rw [if_pos rfl]; simp
  · rw [if_neg (fun z => e (Sum.inl.inj z)), hv]; simp [e]
theorem CopAt.get {H : Hp} {d : Addr} {m : Nat} {c : Int → Bool} {k : Int} (h : CopAt H d m c) : ∃ o, DGet H d (.int k) o ∧ o.isSome = c k := by
  obtain ⟨kvs, hd, hl, hv⟩ := h.ex
  exact ⟨_, DGet.k (k := Sum.inl k) hd, hv k⟩
theorem valV_mem {κ : Type} [DecidableEq κ] : ∀ {kvs : List (κ × V)} {k : κ} {v : V}, (kvs.map Prod.fst).Nodup → (k, v) ∈ kvs → valV kvs k = some v
  | [], _, _, _, h => nomatch h
  | p :: r, k, v, hn, h => by
    rw [List.map_cons, List.nodup_cons] at hn
    rcases List.mem_cons.mp h with e | e
    · rw [← e]; exact valV_pos rfl
    · rw [valV_neg (fun z => hn.1 (by rw [z]; exact List.mem_map.mpr ⟨(k, v), e, rfl⟩))]
      exact valV_mem hn.2 e
theorem nodup_take {α β : Type} {l : List (α × β)} (h : (l.map Prod.fst).Nodup) {j : Nat} {x : α × β} (hx : l[j]? = some x) : x.1 ∉ (l.take j).map Prod.fst := by
  intro hm
  obtain ⟨y, hy, e⟩ := List.mem_map.mp hm
  obtain ⟨i, hi⟩ := List.getElem?_of_mem hy
  rw [List.getElem?_take] at hi
  split at hi
  · next c =>
    obtain ⟨hjl, ej⟩ := List.getElem?_eq_some_iff.mp hx
    obtain ⟨hil, ei⟩ := List.getElem?_eq_some_iff.mp hi
    have z := List.pairwise_iff_getElem.mp h i j (by rw [List.length_map]; exact hil) (by rw [List.length_map]; exact hjl) c
    rw [List.getElem_map, List.getElem_map, ei, ej] at z
    exact z e
  · cases hi
theorem w_dnin {td ty : TE} {σ : L2.St} {H : Hp} {Q : VK} (h : ty σ H fun y H1 => td σ H1 fun x H2 => ∃ a o, x = V.ref a ∧ DGet H2 a y o ∧ Q (.bl (!o.isSome)) H2) : tDNotIn ty td σ H Q := h
def hasK (l : List (Key × V)) (k : Int) : Bool := l.any fun kv => decide (kv.1 = Sum.inl k)
theorem hasK_snoc {l : List (Key × V)} {k k' : Int} {v : V} : hasK (l ++ [(Sum.inl k, v)]) k' = (hasK l k' || decide (k' = k)) := by
  unfold hasK
  rw [List.any_append]
  by_cases c : k' = k
  · subst c; simp
  · have : ¬ (Sum.inl k : Key) = Sum.inl k' := fun z => c (Sum.inl.inj z).symm
    simp [c, Ne.symm c]
theorem hasK_no {kvs : List (Key × V)} {j : Nat} {k : Int} {v : V} (hn : (kvs.map Prod.fst).Nodup) (hx : kvs[j]? = some (Sum.inl k, v)) : hasK (kvs.take j) k = false := by
  rw [Bool.eq_false_iff]
  intro z
  obtain ⟨y, hy, e⟩ := List.any_eq_true.mp z
  exact nodup_take hn hx (List.mem_map.mpr ⟨y, hy, of_decide_eq_true e⟩)
theorem keys_of {kvs : List (Key × V)} {f : Int → Int} (hv : ∀ k : Int, valV kvs (Sum.inl k) = if f k = 0 then none else some (.int (f k))) {k : Int} (h : hasK kvs k = false) : f k = 0 := by
  have z := hv k
  by_cases f0 : f k = 0
  · exact f0
  · rw [if_neg f0] at z
    unfold valV at z
    cases hf : kvs.find? fun kv => decide (kv.1 = Sum.inl k) with
    | none => rw [hf] at z; cases z
    | some kv =>
      have e : kv.1 = Sum.inl k := by simpa using List.find?_some hf
      have : hasK kvs k = true := List.any_eq_true.mpr ⟨kv, List.mem_of_find?_eq_some hf, decide_eq_true e⟩
      rw [h] at this; cases this
structure CTN (K : PySem.W.Frag) (A : CA) : Prop where
  e : OexC K A.NoStart
  f : PySem.W.findIn K (.ref A.NoStart) "index" = some none
def sp_least_start (K : PySem.W.Frag) (A : CA) : Sp := fun vs H Q E => ∃ (wb pr : Addr) (n L most : Int) (rs : List (Int × Int)) (us : List V) (rws : List (Int × List Int)), vs = [.ref wb, .int L, .ref pr, .int most] ∧ WebX A H wb n rs ∧ RG n rs ∧ 1 ≤ n ∧ n ≤ 500 ∧ 0 ≤ L ∧ most ≤ 10 ∧ H pr = some (.lst us) ∧ Paired (RW H) us rws ∧ us.length ≤ 100 ∧ (∀ r ∈ rws, r.2.length ≤ 100) ∧
  (∀ j, (jud n most L rs (List.replicate n.toNat L) rws 0).1 = some j → Raised A.NoStart "index" (.int (j : Nat)) H E) ∧
  ((jud n most L rs (List.replicate n.toNat L) rws 0).1 = none → ∀ (st : Addr) (H' : Hp), Same H H' → StAt A H' st wb n rs L (needL n rs rws) → Q (.ref st) H')
def t_least_start (K : PySem.W.Frag) (A : CA) (E : XK) : TS :=
  (tSeq (tAsg (tCallK (sp_judge_log K A) (fun a b => a ++ b) E0 (tCons (ClX.tCMeth A.Standing (sp_Standing_fresh K A) E (tC (.ref A.Standing)) (tCons (tVar 0) (tCons (tVar 1) tNil))) (tCons (tVar 2) tNil)) (tCons (tVar 3) tNil)) (gTup K 3 (gCons (gName 4) (gCons (gName 5) (gCons (gName 5) gNil)))))
  (tSeq (tIfS (tB (tNotN (tVar 4))) (GX.tRaiseO A.NoStart (GX.sp_err K A.NoStart "index") E (tCons (tVar 4) tNil)) tNext)
  (tSeq (tAsg (tOp rRep (tLst (tCons (tC (.int 0)) tNil)) (tFld K (tVar 0) "pages")) (gName 6))
  (tSeq (tAsg tDNewK (gName 7))
  (tSeq (tFor (iList K (tVar 2)) (gTup K 2 (gCons (gName 8) (gCons (gName 9) gNil)))
  (tSeq (tFor (iItems (GF.tFreeze (tCall (sp_lines_used K A) [] E (tCons (tVar 0) (tCons (tVar 8) (tCons (tVar 9) tNil)))))) (gTup K 2 (gCons (gName 11) (gCons (gName 12) gNil)))
  (tIfS (tB (tDNotIn (tVar 11) (tVar 7))) (tAugS (tVar 6) (tVar 11) (tVar 12) (rIxL K) (ipI fun i j => i + j) rSetL) tNext))
  (tFor (iTup K (tVar 9)) (gName 10)
  (sDPut (tVar 7) (tVar 10) (tC (.bl true))))))
  (tRet (tMake A.Standing (sp_Standing_init K A) [] E (tCons (tVar 0) (tCons (tVar 1) (tCons (tVar 6) tNil))))))))))

theorem rd_least_start {K : PySem.W.Frag} {A : CA} (T : CTS K A) (N' : CTN K A) {vs : List V} {H : Hp} {Q : VK} {E : XK} (h : sp_least_start K A vs H Q E) :
    t_least_start K A E { nx := fun _ H' => Q .non H', rt := Q } (start ["web", "lines", "rows", "copies", "index", "_", "needed", "copied", "page", "answer", "target", "user", "number"] vs) H := by
  obtain ⟨wb, pr, n, L, most, rs, us, rws, rfl, hW, hR, n0, n1, L0, mo, hr, hP, hul, hrl, k1, k2⟩ := h
  obtain ⟨dw, d0, ar, tg, hd0, gw⟩ := hW.obj
  have hlen := hP.length
  unfold t_least_start
  walk_at "go"
  refine w_callK ?_
  walk_at "go"
  refine ⟨wb, n, L, rs, rfl, hW, n0, n1, L0, fun st H1 _ e1 hS1 => ?_⟩
  have hr1 := e1 _ _ hr
  walk_at "go"
  refine ⟨st, wb, pr, n, most, L, rs, List.replicate n.toNat L, us, rws, rfl, hS1, hR, BK.rep L0, n0, n1, L0, mo, hr1, RWs.same e1 hP, hul, hrl, fun q s2 H2 hq e2 hq2 hS2 hB2 => ?_⟩
  have E2 := e1.trans e2
  have hr2 := E2 _ _ hr
  clear hS1 hS2 hB2 hr1 e1 e2
  walk_at "go"
  refine w_notNr ?_
  walk_at "go"
  cases hj : (jud n most L rs (List.replicate n.toNat L) rws 0).1 with
  | some j =>
    refine w_ifT (nkV_s j) ?_
    exact w_raiseO (v := .int (j : Nat)) (H1 := H2) N'.e N'.f (fun Q q => by walk_at "go"; exact q) (Raised.at E2 (k1 j hj))
  | none =>
  refine w_neIf nkV_n ?_
  obtain ⟨ok, fin, hpay, _⟩ := jud_none rws _ 0 hj
  have k2 := k2 hj
  clear k1 hq2 hq
  walk_at "go"
  intro l0 hl0
  have e3 := E2.trans (same_new (o := .lst [V.int 0]) hl0)
  have g3 : (upd H2 l0 (.lst [V.int 0])) l0 = some (.lst [V.int 0]) := upd_same
  generalize upd H2 l0 (.lst [V.int 0]) = H3 at e3 g3
  have gw3 := e3 _ _ gw
  walk_at "go"
  refine w_fld2 gw3 T.b.c_Web T.b.n_Web_pages web_pages ?_
  refine w_rep g3 (by omega) (by omega) (Nat.le_of_lt (small1000 (by rw [List.length_singleton]; omega))) fun l hl => ?_
  rw [flat_one]
  have e4 := e3.trans (same_new (o := .lst (List.replicate n.toNat (V.int 0))) hl)
  have g4 : (upd H3 l (.lst (List.replicate n.toNat (V.int 0)))) l = some (.lst (((List.range n.toNat).map fun k : Nat => (fun _ => 0 : Int → Int) k).map V.int)) := by
    rw [upd_same]
    congr 2
    rw [List.map_map]
    refine List.ext_getElem? fun k => ?_
    rw [List.getElem?_replicate, List.getElem?_map]
    by_cases c : k < n.toNat
    · rw [if_pos c, List.getElem?_range c]; rfl
    · rw [if_neg c, List.getElem?_eq_none (by rw [List.length_range]; omega)]; rfl
  have lH : H l = none := e3.free hl
  generalize upd H3 l (.lst (List.replicate n.toNat (V.int 0))) = H4 at e4 g4
  clear g3 gw3 hl0 hl e3 hr2
  walk_at "go"
  intro d hd
  have e5 := e4.trans (same_new (o := .dK []) hd)
  have g5 := keep (o' := .dK []) g4 hd
  have C5 : CopAt (upd H4 d (.dK [])) d 0 (fun _ => false) := ⟨[], upd_same, Nat.le_refl _, fun k => rfl⟩
  have dH : H d = none := e4.free hd
  have ld : l ≠ d := ne_of_none g4 hd
  generalize upd H4 d (.dK []) = H5 at e5 g5 C5
  have hr5 := e5 _ _ hr
  clear e4 g4 hd E2
  walk_at "go"
  refine forL (xs := us) (fun i σ H' => ∃ (k8 k9 k10 k11 k12 : Option V) (m : Nat) (N : Int → Int) (c : Int → Bool), σ = [some (.ref wb), some (.int L), some (.ref pr), some (.int most), some (kV none), some (.ref s2), some (.ref l), some (.ref d), k8, k9, k10, k11, k12] ∧ Same H H' ∧
    H' l = some (.lst (((List.range n.toNat).map fun k : Nat => N k).map V.int)) ∧ CopAt H' d m c ∧ m ≤ 100 * i ∧ ∀ k, need rs k rws = N k + if c k = true then 0 else need rs k (rws.drop i)) ?_ ?_ ?_ ?_
  · exact ⟨none, none, none, none, none, 0, (fun _ => 0), (fun _ => false), rfl, e5, g5, C5, Nat.zero_le _, fun k => by rw [List.drop_zero]; simp⟩
  · rintro i σ H6 _ ⟨k8, k9, k10, k11, k12, m, N, c, rfl, e6, _⟩
    exact SqL.of (e6 _ _ hr)
  · clear e5 g5 C5 hr5
    rintro i x σ H6 hx ⟨k8, k9, k10, k11, k12, m, N, c, rfl, e6, g6, C6, ml, inv⟩
    obtain ⟨r, hrr, t, u, rfl, ht, hu⟩ := Paired.at' hP hx
    have il : i < us.length := (List.getElem?_eq_some_iff.mp hx).1
    have ht6 := e6 _ _ ht
    have hu6 := e6 _ _ hu
    obtain ⟨inn, _⟩ := rsn_in (ok r (List.mem_of_getElem? hrr))
    have pb := inn r.1 List.mem_cons_self
    have cb : ∀ z ∈ r.2, 0 ≤ z ∧ z < n := fun z hz => inn z (List.mem_cons_of_mem _ hz)
    have rl := hrl r (List.mem_of_getElem? hrr)
    have hW6 := hW.same e6
    have dr : rws.drop i = r :: rws.drop (i + 1) := by
      obtain ⟨hi, e⟩ := List.getElem?_eq_some_iff.mp hrr
      rw [List.drop_eq_getElem_cons hi, e]
    walk_at "go"
    refine w_forI (w_freeze ?_)
    walk_at "go"
    refine ⟨wb, u, n, r.1, r.2, rs, rfl, hW6, hR, SqT.of hu6, rl, cb, fun d2 H7 hd2 e7 hU => ?_⟩
    obtain ⟨kvs, hd7, hkl, hv, hk, hn⟩ := hU.ex
    refine ⟨d2, .dK kvs, rfl, hd7, trivial, fun od => ⟨d2, od, kvs, rfl, upd_same, ?_⟩⟩
    have e8 : Same H6 (upd H7 d2 (.frz od (.dK kvs))) := same_mut e7 hd2
    have gd8 : (upd H7 d2 (.frz od (.dK kvs))) d2 = some (.frz od (.dK kvs)) := upd_same
    have nld : d2 ≠ l := fun z => by rw [z, g6] at hd2; cases hd2
    generalize upd H7 d2 (.frz od (.dK kvs)) = H8 at e8 gd8
    have g8 := e8 _ _ g6
    have C8 := C6.same e8
    have E8 := e6.trans e8
    clear hd7 hU e7 hd2 e8 ht6 hu6 hW6 g6 C6
    refine forI (fun j σ H' => ∃ (k11 k12 : Option V), σ = [some (.ref wb), some (.int L), some (.ref pr), some (.int most), some (kV none), some (.ref s2), some (.ref l), some (.ref d), some (.int r.1), some (.ref u), k10, k11, k12] ∧ Same H H' ∧
      H' l = some (.lst (((List.range n.toNat).map fun k : Nat => N k + if (!c k && hasK (kvs.take j) k) = true then uses rs r.1 r.2 k else 0).map V.int)) ∧ CopAt H' d m c ∧ H' d2 = some (.frz od (.dK kvs))) ?_ ?_ ?_ ?_
    · refine ⟨_, _, rfl, E8, ?_, C8, gd8⟩
      rw [g8]
      congr 3
      refine List.map_congr_left fun k _ => ?_
      simp [hasK]
    · rintro j σ H9 _ ⟨_, _, rfl, _, _, _, gd9⟩
      exact gd9
    · clear g8 C8 gd8 E8
      rintro j kk v Tt σ H9 hkv ⟨k11', k12', rfl, e9, g9, C9, gd9⟩ hT
      obtain ⟨k, ek, f0⟩ := hk (kk, v) (List.mem_of_getElem? hkv)
      have ek : kk = Sum.inl k := ek
      subst ek
      have hvv : v = .int (uses rs r.1 r.2 k) := by
        have z := valV_mem hn (List.mem_of_getElem? hkv)
        rw [hv, if_neg f0] at z; exact (Option.some.inj z).symm
      subst hvv
      have kb := uses_in hR pb f0
      have nk := hasK_no hn hkv
      have tk : ∀ k', hasK (kvs.take (j + 1)) k' = (hasK (kvs.take j) k' || decide (k' = k)) := fun k' => by rw [List.take_succ, hkv]; exact hasK_snoc
      have eT := same_new (o := .tup [L2.kV (Sum.inl k), .int (uses rs r.1 r.2 k)]) hT
      have gT : (upd H9 Tt (.tup [L2.kV (Sum.inl k), .int (uses rs r.1 r.2 k)])) Tt = some (.tup [V.int k, .int (uses rs r.1 r.2 k)]) := upd_same
      have g10 := keep (o' := .tup [L2.kV (Sum.inl k), .int (uses rs r.1 r.2 k)]) g9 hT
      have C10 := C9.same eT
      have gd10 := keep (o' := .tup [L2.kV (Sum.inl k), .int (uses rs r.1 r.2 k)]) gd9 hT
      generalize upd H9 Tt (.tup [L2.kV (Sum.inl k), .int (uses rs r.1 r.2 k)]) = H10 at eT gT g10 C10 gd10
      have e10 := e9.trans eT
      clear g9 C9 gd9 eT hT e9
      walk_at "go"
      refine w_dnin ?_
      walk_at "go"
      obtain ⟨o, ho, hc⟩ := C10.get (k := k)
      refine ⟨d, o, rfl, ho, ?_⟩
      rw [hc]
      refine ⟨_, rfl, ?_⟩
      cases hck : c k with
      | true =>
        refine w_iteNT ?_
        walk_at "go"
        refine ⟨_, _, rfl, e10, ?_, C10, gd10⟩
        rw [g10]
        congr 3
        refine List.map_congr_left fun k' _ => ?_
        rw [tk]
        by_cases e : (k' : Int) = k
        · rw [e, hck]; rfl
        · simp [e]
      | false =>
        refine w_iteNF ?_
        have kn : k.toNat < n.toNat := by omega
        have ekk : ((k.toNat : Nat) : Int) = k := by omega
        have av : atI (((List.range n.toNat).map fun k : Nat => N k + if (!c k && hasK (kvs.take j) k) = true then uses rs r.1 r.2 k else 0).map V.int) k = some (V.int (N k)) := at_of (j := k.toNat) (by omega) (by
          rw [List.getElem?_map, List.getElem?_map, List.getElem?_range kn, Option.map_some, Option.map_some, ekk, nk, Bool.and_false, if_neg Bool.false_ne_true, Int.add_zero])
        walk_at "go"
        refine w_setL g10 (ixn (j := k.toNat) (by omega) (by rw [List.length_map, List.length_map, List.length_range]; exact kn)) ?_
        refine ⟨_, _, rfl, same_mut e10 lH, ?_, C10.mut ld.symm, keepNe gd10 nld⟩
        rw [upd_same, set_range kn]
        congr 3
        refine List.map_congr_left fun k' _ => ?_
        rw [tk]
        by_cases e : k' = k.toNat
        · rw [if_pos e, e, ekk, hck]; simp
        · have : ¬ (k' : Int) = k := fun z => e (by omega)
          rw [if_neg e]; simp [this]
    · clear g8 C8 gd8 E8
      rintro σ H9 ⟨k11', k12', rfl, e9, g9, C9, -⟩
      rw [List.take_length] at g9
      show tFor (iTup K (tVar 9)) (gName 10) _ _ _ _
      refine w_forT ?_
      walk_at "go"
      refine ⟨⟨_, SqT.of (e9 _ _ hu)⟩, ?_⟩
      refine forT (xs := r.2.map V.int) (fun j σ H' => ∃ (k10 : Option V), σ = [some (.ref wb), some (.int L), some (.ref pr), some (.int most), some (kV none), some (.ref s2), some (.ref l), some (.ref d), some (.int r.1), some (.ref u), k10, k11', k12'] ∧ Same H H' ∧
        H' l = some (.lst (((List.range n.toNat).map fun k : Nat => N k + if (!c k && hasK kvs k) = true then uses rs r.1 r.2 k else 0).map V.int)) ∧ CopAt H' d (m + j) (fun k => decide (k ∈ r.2.take j) || c k)) ?_ ?_ ?_ ?_
      · refine ⟨_, rfl, e9, g9, ?_⟩
        have : (fun k => decide (k ∈ r.2.take 0) || c k) = c := funext fun k => by simp
        rw [this]; exact C9
      · rintro j σ H10 _ ⟨_, rfl, e10, _⟩
        exact SqT.of (e10 _ _ hu)
      · rintro j x σ H10 hx ⟨k10', rfl, e10, g10, C10⟩
        obtain ⟨y, hy, rfl⟩ : ∃ y, r.2[j]? = some y ∧ x = V.int y := by
          rw [List.getElem?_map] at hx
          cases e : r.2[j]? with
          | none => rw [e] at hx; cases hx
          | some y => rw [e] at hx; exact ⟨y, rfl, (Option.some.inj hx).symm⟩
        have jl : j < r.2.length := (List.getElem?_eq_some_iff.mp hy).1
        walk_at "go"
        refine w_dput ?_
        walk_at "go"
        refine C10.put (by omega) ?_
        rintro H11 ⟨o, rfl⟩ C11
        refine ⟨_, rfl, same_mut e10 dH, keepNe g10 ld, ?_⟩
        have : (fun k => decide (k = y) || (decide (k ∈ r.2.take j) || c k)) = fun k => decide (k ∈ r.2.take (j + 1)) || c k := funext fun k => by
          rw [List.take_succ, hy]
          simp only [Option.toList, List.mem_append, List.mem_singleton]
          cases c k <;> simp [Bool.or_comm, or_comm]
        rw [← this]; exact C11
      · rintro σ H10 ⟨k10', rfl, e10, g10, C10⟩
        rw [List.length_map, List.take_length] at C10
        refine ⟨_, _, _, _, _, m + r.2.length, (fun k => N k + if (!c k && hasK kvs k) = true then uses rs r.1 r.2 k else 0), _, rfl, e10, g10, C10, (by have := hrl r (List.mem_of_getElem? hrr); omega), fun k => ?_⟩
        rw [inv k, dr]
        show N k + (if c k = true then 0 else uses rs r.1 r.2 k + (if k ∈ r.2 then 0 else need rs k (rws.drop (i + 1)))) = (N k + if (!c k && hasK kvs k) = true then uses rs r.1 r.2 k else 0) + (if (decide (k ∈ r.2) || c k) = true then 0 else need rs k (rws.drop (i + 1)))
        by_cases ck : c k = true
        · simp [ck]
        · have ck : c k = false := by simpa using ck
          cases ke : hasK kvs k with
          | true =>
            by_cases m : k ∈ r.2
            · simp [ck, m]
            · simp [ck, m]; omega
          | false =>
            have z := keys_of hv ke
            by_cases m : k ∈ r.2
            · simp [ck, m, z]
            · simp [ck, m, z]
  · rintro σ H6 ⟨k8, k9, k10, k11, k12, m, N, c, rfl, e6, g6, C6, ml, inv⟩
    have en : ((List.range n.toNat).map fun k : Nat => N k) = needL n rs rws := by
      unfold needL
      refine List.map_congr_left fun k _ => ?_
      rw [inv (k : Int), hlen, List.drop_length]
      unfold need
      by_cases ck : c (k : Int) = true
      · rw [if_pos ck, Int.add_zero]
      · rw [if_neg ck, Int.add_zero]
    rw [en] at g6
    walk_at "go"
    intro x dx hx hdx nx
    refine i_standing hx hdx nx (hW.same e6) n0 n1 g6 (needL_bk L0 hpay) fun H7 _ e7 hS7 => ⟨rfl, ?_⟩
    exact k2 x H7 (e6.trans e7) hS7
end G

end
section
local macro_rules | `(tactic| walk_at "call") => `(tactic| (refine' G.w_cnt ?g1 ?_; (case g1 => walk_at "sq")))

local macro_rules | `(tactic| walk_at "call") => `(tactic| (refine' G.w_popAt ?g1 ?g2 ?g3 ?g4 ?_; (case g1 => walk_at "hp"); (case g2 => walk_at "ar"); (case g3 => walk_at "ar"); (case g4 => walk_at "ar")))

local macro_rules | `(tactic| walk_at "call") => `(tactic| (refine' G.i_whole ?_))

local macro_rules | `(tactic| walk_at "bx") => `(tactic| first | assumption | exact G.Bx.new (by walk_at "bx") (by assumption) | exact G.Bx.same (by assumption) (by walk_at "bx"))
local macro_rules | `(tactic| walk_at "call") => `(tactic| (refine' G.i_take ?g1 ?g2 ?g3 ?_; (case g1 => walk_at "bx"); (case g2 => walk_at "ar"); (case g3 => walk_at "ar")))

local macro_rules | `(tactic| walk_at "call") => `(tactic| (refine' G.i_whole ?_))

local macro_rules | `(tactic| walk_at "call") => `(tactic| first | refine' G.w_makeV ?_ | refine' G.w_isref ?_ | refine' G.w_cmeth ?_)

namespace G
open PySem L2 GX
/-- a bill: what a row takes of each page, and its copied pages -/
def BL (l : Addr) (n : Int) (rows : List (Int × Int)) (H : Hp) (v : V) (r : Int × List Int) : Prop := ∃ t ul u, v = .ref t ∧ ul ≠ l ∧ H t = some (.tup [.ref ul, .ref u]) ∧ H ul = some (.lst ((usesL n rows r.1 r.2).map V.int)) ∧ H u = some (.tup (r.2.map V.int))
theorem BL.same {l : Addr} {n : Int} {rows : List (Int × Int)} {H H' : Hp} {v : V} {r : Int × List Int} (e : Same H H') (h : BL l n rows H v r) : BL l n rows H' v r := let ⟨t, ul, u, a, b, c, d, f⟩ := h; ⟨t, ul, u, a, b, e _ _ c, e _ _ d, e _ _ f⟩
theorem BLs.same {l : Addr} {n : Int} {rows : List (Int × Int)} {H H' : Hp} {vs : List V} {rws : List (Int × List Int)} (e : Same H H') (h : Paired (BL l n rows H) vs rws) : Paired (BL l n rows H') vs rws := h.mono fun _ _ => BL.same e
theorem BL.mut {l : Addr} {n : Int} {rows : List (Int × Int)} {H : Hp} {o : HO} {xs : List V} {v : V} {r : Int × List Int} (hl : H l = some (.lst xs)) (h : BL l n rows H v r) : BL l n rows (upd H l o) v r := by
  obtain ⟨t, ul, u, a, b, c, d, f⟩ := h
  exact ⟨t, ul, u, a, b, keepNe c (ne_of c hl (by intro w; cases w)), keepNe d b, keepNe f (ne_of f hl (by intro w; cases w))⟩
theorem psnoc47 {α β : Type} {F : α → β → Prop} : ∀ {l₁ : List α} {l₂ : List β} {a : α} {b : β}, Paired F l₁ l₂ → F a b → Paired F (l₁ ++ [a]) (l₂ ++ [b])
  | _, _, _, _, .nil, f => .cons f .nil
  | _, _, _, _, .cons g r, f => .cons g (psnoc47 r f)
def sp_law_bills (K : PySem.W.Frag) (A : CA) : Sp := fun vs H Q _ => ∃ (w pr : Addr) (n L : Int) (rows : List (Int × Int)) (us : List V) (rws : List (Int × List Int)), vs = [.ref w, .ref pr] ∧ WDat H w n L rows ∧ H pr = some (.lst us) ∧ Paired (RW H) us rws ∧ us.length ≤ 100 ∧ (∀ r ∈ rws, ∀ z ∈ r.1 :: r.2, 0 ≤ z ∧ z < n) ∧
  ∀ (l : Addr) (H' : Hp) (bv : List V), H l = none → Same H H' → H' l = some (.lst bv) → Paired (BL l n rows H') bv rws → Q (.ref l) H'
def t_law_bills (K : PySem.W.Frag) (A : CA) : TS :=
  (tSeq (tAsg (tLst tNil) (gName 2))
  (tSeq (tFor (iList K (tVar 1)) (gName 3)
  (tSeq (tAsg (tLc (iRng1 (tCons (tOp (rIxT K) (tVar 0) (tC (.int 0))) tNil)) (gName 6) tYes (tC (.int 0)) [6]) (gName 4))
  (C8.tCut (tIfS (tTest (tOp (rIn K true) (tOp (rIxT K) (tVar 3) (tC (.int 0))) (tOp (rIxT K) (tVar 3) (tC (.int 1))))) (tAsg (tC (.int 1)) (gSub (tVar 4) (tOp (rIxT K) (tVar 3) (tC (.int 0))) rSetL)) tNext)
  (tSeq (tFor (iList K (tOp (rIxT K) (tVar 0) (tC (.int 1)))) (gName 5)
  (tIfS (tAnd (tTest (tOp (rIn K false) (tOp (rIxT K) (tVar 5) (tC (.int 1))) (tOp (rIxT K) (tVar 3) (tC (.int 1))))) (tTest (tOp (rIn K true) (tOp (rIxT K) (tVar 5) (tC (.int 0))) (tOp (rIxT K) (tVar 3) (tC (.int 1)))))) (tAsg (tOp oAdd (tOp (rIxL K) (tVar 4) (tOp (rIxT K) (tVar 5) (tC (.int 0)))) (tC (.int 1))) (gSub (tVar 4) (tOp (rIxT K) (tVar 5) (tC (.int 0))) rSetL)) tNext))
  (tDrop (tBM K "list" rAppend (tVar 2) (tCons (tTup (tCons (tVar 4) (tCons (tOp (rIxT K) (tVar 3) (tC (.int 1))) tNil))) tNil)))))))
  (tRet (tVar 2))))

theorem rd_law_bills {K : PySem.W.Frag} {A : CA} {vs : List V} {H : Hp} {Q : VK} {E : XK} (h : sp_law_bills K A vs H Q E) :
    t_law_bills K A { nx := fun _ H' => Q .non H', rt := Q } (start ["world", "rows", "bills", "row", "uses", "pair", "k"] vs) H := by
  obtain ⟨w, pr, n, L, rows, us, rws, rfl, hW, hr, hP, hul, inn, q⟩ := h
  obtain ⟨pq, us2, hw, hq, hP2, hul2⟩ := hW.ex
  have n0 := hW.n0
  have n1 := hW.n1
  have hR := hW.rg
  have hlen := hP.length
  unfold t_law_bills
  walk_at "go"
  intro l hl
  have e1 := same_new (o := .lst []) hl
  have g1 : (upd H l (.lst [])) l = some (.lst []) := upd_same
  generalize upd H l (.lst []) = H1 at e1 g1
  have hr1 := e1 _ _ hr
  walk_at "go"
  refine forL (xs := us) (fun i σ H' => ∃ (k3 k4 k5 : Option V) (bv : List V), σ = [some (.ref w), some (.ref pr), some (.ref l), k3, k4, k5, none] ∧ Same H H' ∧ H' l = some (.lst bv) ∧ Paired (BL l n rows H') bv (rws.take i)) ?_ ?_ ?_ ?_
  · exact ⟨none, none, none, [], rfl, e1, g1, by rw [List.take_zero]; exact .nil⟩
  · rintro i σ H2 _ ⟨k3, k4, k5, bv, rfl, e2, _⟩
    exact SqL.of (e2 _ _ hr)
  · clear hr1 g1 e1
    rintro i x σ H2 hx ⟨k3, k4, k5, bv, rfl, e2, g2, B2⟩
    obtain ⟨r, hrr, t, u, rfl, ht, hu⟩ := Paired.at' hP hx
    have il : i < us.length := (List.getElem?_eq_some_iff.mp hx).1
    have inr := inn r (List.mem_of_getElem? hrr)
    have pb := inr r.1 List.mem_cons_self
    have cb : ∀ z ∈ r.2, 0 ≤ z ∧ z < n := fun z hz => inr z (List.mem_cons_of_mem _ hz)
    have bl : bv.length = (rws.take i).length := B2.length
    rw [List.length_take] at bl
    have hw2 := e2 _ _ hw
    have ixn' : ∀ k : Int, 0 ≤ k → k < n → ∀ f : Nat → Int, ixN (((List.range n.toNat).map f).map V.int).length k = some k.toNat := fun k k0 k1 f =>
      ixn (j := k.toNat) (by omega) (by rw [List.length_map, List.length_map, List.length_range]; omega)
    walk_at "go"
    refine lcR (fun Dl j H' => Same H2 H' ∧ H' Dl = some (.lst (((List.range j).map fun _ => (0 : Int)).map V.int))) (fun Dl hD => ⟨same_new hD, upd_same⟩) ?_ ?_
    · rintro Dl j H' hD hj ⟨e, gD⟩
      have sl : (((List.range j).map fun _ => (0 : Int)).map V.int).length < sizeLine := small1000 (by rw [List.length_map, List.length_map, List.length_range]; omega)
      walk_at "go"
      refine ⟨same_mut e hD, ?_⟩
      rw [List.range_succ, List.map_append, List.map_append, upd_same]; rfl
    rintro ul H3 ulH ⟨e3, g3⟩
    have nul : ul ≠ l := fun z => by rw [z, g2] at ulH; cases ulH
    have ulH0 : H ul = none := e2.free ulH
    walk_at "go"
    refine w_cut (fun σ H' => σ = [some (.ref w), some (.ref pr), some (.ref l), some (.ref t), some (.ref ul), k5, none] ∧ Same H2 H' ∧ H' ul = some (.lst (((List.range n.toNat).map fun k : Nat => uses [] r.1 r.2 k).map V.int))) ?_ ?_
    · have ht1 := (e2.trans e3) _ _ ht
      have hu1 := (e2.trans e3) _ _ hu
      walk_at "go"
      refine w_ninT (SqT.of hu1) ?_
      refine ⟨_, rfl, ?_⟩
      by_cases c : r.1 ∈ r.2
      · rw [decide_eq_true c]
        refine w_iteNT ?_
        walk_at "go"
        refine ⟨e3, ?_⟩
        rw [g3]
        congr 3
        refine List.map_congr_left fun k _ => ?_
        unfold uses; simp [c]
      · rw [decide_eq_false c]
        refine w_iteNF ?_
        walk_at "go"
        refine w_setL g3 (ixn' r.1 pb.1 pb.2 _) ?_
        refine ⟨rfl, same_mut e3 ulH, ?_⟩
        rw [upd_same, set_range (by omega)]
        congr 3
        refine List.map_congr_left fun k _ => ?_
        unfold uses
        by_cases ck : k = r.1.toNat
        · have : (k : Int) = r.1 := by omega
          simp [ck, c]; omega
        · have : ¬ (k : Int) = r.1 := fun z => ck (by omega)
          simp [ck, this]
    clear g3 e3
    rintro σ H4 ⟨rfl, e4, g4⟩
    have hw4 := (e2.trans e4) _ _ hw
    have hq4 := (e2.trans e4) _ _ hq
    walk_at "go"
    refine forL (xs := us2) (fun j σ H' => ∃ k5 : Option V, σ = [some (.ref w), some (.ref pr), some (.ref l), some (.ref t), some (.ref ul), k5, none] ∧ Same H2 H' ∧ H' ul = some (.lst ((usesL n (rows.take j) r.1 r.2).map V.int))) ?_ ?_ ?_ ?_
    · exact ⟨_, rfl, e4, g4⟩
    · rintro j σ H5 _ ⟨k5, rfl, e5, _⟩
      exact SqL.of ((e2.trans e5) _ _ hq)
    · clear hw4 hq4 g4 e4
      rintro j x σ H5 hx ⟨k5', rfl, e5, g5⟩
      obtain ⟨y, hy, ty, rfl, hty⟩ := Paired.at' hP2 hx
      have hb := hR.bd y (List.mem_of_getElem? hy)
      have E5 := e2.trans e5
      have hty5 := E5 _ _ hty
      have ht5 := E5 _ _ ht
      have hu5 := E5 _ _ hu
      have tk : rows.take (j + 1) = rows.take j ++ [y] := by rw [List.take_succ, hy]; rfl
      have keepL : (¬ (y.2 ∈ r.2 ∧ y.1 ∉ r.2)) → usesL n (rows.take (j + 1)) r.1 r.2 = usesL n (rows.take j) r.1 r.2 := fun h => by
        unfold usesL
        refine List.map_congr_left fun k _ => ?_
        rw [tk, uses_snoc, if_neg (fun z => h z.2)]
      walk_at "go"
      refine w_inT (SqT.of hu5) ?_
      walk_at "go"
      refine w_iteD (fun c1 => ?_) (fun c1 => ?_)
      · walk_at "go"
        refine w_ninT (SqT.of hu5) ?_
        refine ⟨_, rfl, ?_⟩
        by_cases c2 : y.1 ∈ r.2
        · rw [decide_eq_true c2]
          refine w_iteNT ?_
          walk_at "go"
          exact ⟨_, rfl, e5, by rw [keepL (fun z => z.2 c2)]; exact g5⟩
        · rw [decide_eq_false c2]
          refine w_iteNF ?_
          have kn : y.1.toNat < n.toNat := by omega
          have av : atI ((usesL n (rows.take j) r.1 r.2).map V.int) y.1 = some (V.int (uses (rows.take j) r.1 r.2 y.1)) := at_of (j := y.1.toNat) (by omega) (by
            unfold usesL
            have e : ((y.1.toNat : Nat) : Int) = y.1 := by omega
            simp [kn, e])
          walk_at "go"
          refine w_setL g5 (ixn' y.1 hb.1 hb.2.1 _) ?_
          refine ⟨_, rfl, same_mut e5 ulH, ?_⟩
          rw [upd_same]
          unfold usesL
          rw [set_range kn]
          congr 3
          refine List.map_congr_left fun k _ => ?_
          rw [tk, uses_snoc]
          by_cases ck : k = y.1.toNat
          · have e : (k : Int) = y.1 := by omega
            rw [if_pos ck, e, if_pos ⟨rfl, c1, c2⟩]
          · rw [if_neg ck, if_neg (fun z => ck (by omega))]
      · walk_at "go"
        exact ⟨_, rfl, e5, by rw [keepL (fun z => c1 z.1)]; exact g5⟩
    · clear hw4 hq4 g4 e4
      rintro σ H5 ⟨k5', rfl, e5, g5⟩
      rw [hP2.length, List.take_length] at g5
      have E5 := e2.trans e5
      have ht5 := E5 _ _ ht
      have hu5 := E5 _ _ hu
      have gl5 := e5 _ _ g2
      have B5 := BLs.same e5 B2
      walk_at "go"
      intro tb htb
      have e6 := same_new (o := .tup [V.ref ul, .ref u]) htb
      have g6 : (upd H5 tb (.tup [V.ref ul, .ref u])) tb = some (.tup [V.ref ul, .ref u]) := upd_same
      have gl6 := e6 _ _ gl5
      have gu6 := e6 _ _ g5
      have hu6 := e6 _ _ hu5
      have B6 := BLs.same e6 B5
      generalize upd H5 tb (.tup [V.ref ul, .ref u]) = H6 at e6 g6 gl6 gu6 hu6 B6
      have sz : bv.length < sizeLine := small1000 (by omega)
      walk_at "go"
      refine ⟨_, _, _, _, rfl, same_mut (E5.trans e6) hl, upd_same, ?_⟩
      rw [List.take_succ, hrr]
      exact psnoc47 (B6.mono fun _ _ z => BL.mut gl6 z) (BL.mut gl6 ⟨tb, ul, u, rfl, nul, g6, gu6, hu6⟩)
  · rintro σ H2 ⟨k3, k4, k5, bv, rfl, e2, g2, B2⟩
    rw [hlen, List.take_length] at B2
    walk_at "go"
    exact q l H2 bv hl e2 g2 B2
end G

end
section
local macro_rules | `(tactic| walk_at "call") => `(tactic| (refine' G.w_cnt ?g1 ?_; (case g1 => walk_at "sq")))

local macro_rules | `(tactic| walk_at "call") => `(tactic| (refine' G.w_popAt ?g1 ?g2 ?g3 ?g4 ?_; (case g1 => walk_at "hp"); (case g2 => walk_at "ar"); (case g3 => walk_at "ar"); (case g4 => walk_at "ar")))

local macro_rules | `(tactic| walk_at "call") => `(tactic| (refine' G.i_whole ?_))

local macro_rules | `(tactic| walk_at "bx") => `(tactic| first | assumption | exact G.Bx.new (by walk_at "bx") (by assumption) | exact G.Bx.same (by assumption) (by walk_at "bx"))
local macro_rules | `(tactic| walk_at "call") => `(tactic| (refine' G.i_take ?g1 ?g2 ?g3 ?_; (case g1 => walk_at "bx"); (case g2 => walk_at "ar"); (case g3 => walk_at "ar")))

local macro_rules | `(tactic| walk_at "call") => `(tactic| (refine' G.i_whole ?_))

local macro_rules | `(tactic| walk_at "call") => `(tactic| first | refine' G.w_makeV ?_ | refine' G.w_isref ?_ | refine' G.w_cmeth ?_)

namespace G
open PySem L2 GX
def sp_law_paid (K : PySem.W.Frag) (A : CA) : Sp := fun vs H Q _ => ∃ (l pb : Addr) (n L : Int) (rows : List (Int × Int)) (bs : List Int) (bv : List V) (rws : List (Int × List Int)), vs = [.ref l, .int L, .ref pb] ∧ H l = some (.lst bv) ∧ Paired (BL l n rows H) bv rws ∧ bv.length ≤ 100 ∧ H pb = some (.lst (bs.map V.int)) ∧ BK L n.toNat bs ∧ 1 ≤ n ∧ n ≤ 500 ∧ 0 ≤ L ∧
  (∀ r ∈ rws, ∀ z ∈ r.1 :: r.2, 0 ≤ z ∧ z < n) ∧
  (∀ e (q m : Addr) (H' : Hp), pay n L rows bs rws = some e → Same H H' → H' q = some (.tup [.non, .ref m]) → H' m = some (.lst (e.map V.int)) → Q (.ref q) H') ∧
  (pay n L rows bs rws = none → ∀ (k : Nat) (q m : Addr) (H' : Hp), Same H H' → H' q = some (.tup [.int (k : Nat), .ref m]) → Q (.ref q) H')
def t_law_paid (K : PySem.W.Frag) (A : CA) : TS :=
  (tSeq (tAsg (tCB (oListOf K) (tCons (tVar 2) tNil)) (gName 3))
  (tSeq (tFor (iRng1 (tCons (tCB (rLenQ K) (tCons (tVar 0) tNil)) tNil)) (gName 4)
  (tSeq (tAsg (tOp (rIxT K) (tOp (rIxL K) (tVar 0) (tVar 4)) (tC (.int 0))) (gName 5))
  (tSeq (tFor (iRng1 (tCons (tCB (rLenQ K) (tCons (tVar 3) tNil)) tNil)) (gName 6)
  (tSeq (tAsg (tOp oSub (tOp (rIxL K) (tVar 3) (tVar 6)) (tOp (rIxL K) (tVar 5) (tVar 6))) (gSub (tVar 3) (tVar 6) rSetL))
  (tIfS (tTest (tOp oLt (tOp (rIxL K) (tVar 3) (tVar 6)) (tC (.int 0)))) (tRet (tTup (tCons (tVar 4) (tCons (tVar 3) tNil)))) tNext)))
  (tFor (iTup K (tOp (rIxT K) (tOp (rIxL K) (tVar 0) (tVar 4)) (tC (.int 1)))) (gName 7)
  (tAsg (tVar 1) (gSub (tVar 3) (tVar 7) rSetL))))))
  (tRet (tTup (tCons (tC .non) (tCons (tVar 3) tNil))))))

theorem rd_law_paid {K : PySem.W.Frag} {A : CA} {vs : List V} {H : Hp} {Q : VK} {E : XK} (h : sp_law_paid K A vs H Q E) :
    t_law_paid K A { nx := fun _ H' => Q .non H', rt := Q } (start ["bills", "lines", "blank", "now", "at", "uses", "k", "page"] vs) H := by
  obtain ⟨l, pb, n, L, rows, bs, bv, rws, rfl, hl, hP, hbl, hb, hB, n0, n1, L0, inn, k1, k2⟩ := h
  have hlen := hP.length
  unfold t_law_paid
  walk_at "go"
  intro l0 hl0
  have e0 := same_new (o := .lst (bs.map V.int)) hl0
  have g0 : (upd H l0 (.lst (bs.map V.int))) l0 = some (.lst (bs.map V.int)) := upd_same
  have hl1 := e0 _ _ hl
  generalize upd H l0 (.lst (bs.map V.int)) = H0 at e0 g0 hl1
  walk_at "go"
  refine forR (fun i σ H' => ∃ (k4 k5 k6 k7 : Option V) (cur : List Int), σ = [some (.ref l), some (.int L), some (.ref pb), some (.ref l0), k4, k5, k6, k7] ∧ Same H H' ∧ H' l0 = some (.lst (cur.map V.int)) ∧ BK L n.toNat cur ∧ pay n L rows bs rws = pay n L rows cur (rws.drop i)) ?_ ?_ ?_
  · exact ⟨none, none, none, none, bs, rfl, e0, g0, hB, by rw [List.drop_zero]⟩
  · clear hl1 g0 e0
    rintro i σ H1 hi ⟨k4, k5, k6, k7, cur, rfl, e1, g1, hC, ep⟩
    have il : i < bv.length := by omega
    obtain ⟨v, hv⟩ : ∃ v, bv[i]? = some v := ⟨_, List.getElem?_eq_getElem il⟩
    obtain ⟨r, hrr, t, ul, u, rfl, nul, ht, hul, hu⟩ := Paired.at' hP hv
    have dr : rws.drop i = r :: rws.drop (i + 1) := by
      obtain ⟨hi, e⟩ := List.getElem?_eq_some_iff.mp hrr
      rw [List.drop_eq_getElem_cons hi, e]
    rw [dr] at ep
    have cb : ∀ z ∈ r.2, 0 ≤ z ∧ z < n := fun z hz => inn r (List.mem_of_getElem? hrr) z (List.mem_cons_of_mem _ hz)
    have cl := hC.len
    have av : atI bv (0 + (i : Int)) = some (.ref t) := at_of (j := i) (by omega) hv
    have hl1 := e1 _ _ hl
    have ht1 := e1 _ _ ht
    have n0' : l0 ≠ ul := fun z => by rw [z, hul] at hl0; cases hl0
    have cN : ((cur.map V.int).length : Int) = n := by rw [List.length_map]; omega
    walk_at "go"
    rw [cN]
    walk_at "go"
    refine forR (fun j σ H' => ∃ (k6 : Option V), σ = [some (.ref l), some (.int L), some (.ref pb), some (.ref l0), some (.int (0 + (i : Int))), some (.ref ul), k6, k7] ∧ Same H H' ∧
      H' l0 = some (.lst (((List.range n.toNat).map fun k : Nat => if k < j then cur.getD k 0 - uses rows r.1 r.2 k else cur.getD k 0).map V.int)) ∧ ∀ k : Nat, k < j → uses rows r.1 r.2 k ≤ cur.getD k 0) ?_ ?_ ?_
    · refine ⟨_, rfl, e1, ?_, fun k hk => absurd hk (Nat.not_lt_zero k)⟩
      rw [g1]
      congr 3
      refine List.ext_getElem? fun k => ?_
      rw [List.getElem?_map]
      by_cases c : k < n.toNat
      · rw [List.getElem?_range c, Option.map_some, if_neg (Nat.not_lt_zero k), List.getD_eq_getElem?_getD, List.getElem?_eq_getElem (by omega)]; rfl
      · rw [List.getElem?_eq_none (by omega), List.getElem?_eq_none (by rw [List.length_range]; omega)]; rfl
    · rintro j σ H2 hj ⟨k6', rfl, e2, g2, ok⟩
      have jn : j < n.toNat := hj
      have hul2 := e2 _ _ hul
      have a1 : atI (((List.range n.toNat).map fun k : Nat => if k < j then cur.getD k 0 - uses rows r.1 r.2 k else cur.getD k 0).map V.int) (0 + (j : Int)) = some (V.int (cur.getD j 0)) := at_of (j := j) (by omega) (by
        rw [List.getElem?_map, List.getElem?_map, List.getElem?_range jn, Option.map_some, Option.map_some, if_neg (Nat.lt_irrefl j)])
      have a2 : atI ((usesL n rows r.1 r.2).map V.int) (0 + (j : Int)) = some (V.int (uses rows r.1 r.2 j)) := at_of (j := j) (by omega) (by
        unfold usesL
        rw [List.getElem?_map, List.getElem?_map, List.getElem?_range jn, Option.map_some, Option.map_some])
      walk_at "go"
      refine w_setL g2 (ixn (j := j) (by omega) (by rw [List.length_map, List.length_map, List.length_range]; exact jn)) ?_
      rw [set_range jn]
      have en : ((List.range n.toNat).map fun k : Nat => if k = j then cur.getD j 0 - uses rows r.1 r.2 j else if k < j then cur.getD k 0 - uses rows r.1 r.2 k else cur.getD k 0) = (List.range n.toNat).map fun k : Nat => if k < j + 1 then cur.getD k 0 - uses rows r.1 r.2 k else cur.getD k 0 := List.map_congr_left fun k _ => by
        by_cases c : k = j
        · rw [if_pos c, if_pos (by omega), c]
        · rw [if_neg c]
          by_cases c2 : k < j
          · rw [if_pos c2, if_pos (by omega)]
          · rw [if_neg c2, if_neg (by omega)]
      rw [en]
      have e3 := same_mut (o := .lst (((List.range n.toNat).map fun k : Nat => if k < j + 1 then cur.getD k 0 - uses rows r.1 r.2 k else cur.getD k 0).map V.int)) e2 hl0
      have g3 : (upd H2 l0 (.lst (((List.range n.toNat).map fun k : Nat => if k < j + 1 then cur.getD k 0 - uses rows r.1 r.2 k else cur.getD k 0).map V.int))) l0 = some (.lst (((List.range n.toNat).map fun k : Nat => if k < j + 1 then cur.getD k 0 - uses rows r.1 r.2 k else cur.getD k 0).map V.int)) := upd_same
      have a3 : atI (((List.range n.toNat).map fun k : Nat => if k < j + 1 then cur.getD k 0 - uses rows r.1 r.2 k else cur.getD k 0).map V.int) (0 + (j : Int)) = some (V.int (cur.getD j 0 - uses rows r.1 r.2 j)) := at_of (j := j) (by omega) (by
        rw [List.getElem?_map, List.getElem?_map, List.getElem?_range jn, Option.map_some, Option.map_some, if_pos (Nat.lt_succ_self j)])
      generalize upd H2 l0 (.lst (((List.range n.toNat).map fun k : Nat => if k < j + 1 then cur.getD k 0 - uses rows r.1 r.2 k else cur.getD k 0).map V.int)) = H3 at e3 g3
      walk_at "go"
      refine w_iteD (fun c => ?_) (fun c => ?_)
      · walk_at "go"
        intro q hq
        have np : pay n L rows bs rws = none := by
          rw [ep]
          show (if fitsB n cur (uses rows r.1 r.2) = true then pay n L rows (aft n rows cur L r.1 r.2) (rws.drop (i + 1)) else none) = _
          rw [fitsB_false (k := (j : Int)) (by omega) (by omega) (by rw [Int.toNat_natCast]; omega), if_neg Bool.false_ne_true]
        rw [show (0 : Int) + (i : Int) = ((i : Nat) : Int) by omega]
        exact k2 np i q l0 _ (e3.trans (same_new hq)) upd_same
      · walk_at "go"
        exact ⟨_, rfl, e3, g3, fun k hk => by
          rcases Nat.lt_or_ge k j with h | h
          · exact ok k h
          · have : k = j := by omega
            rw [this]; omega⟩
    · clear g1
      rintro σ H2 ⟨k6', rfl, e2, g2, ok⟩
      have hl2 := e2 _ _ hl
      have ht2 := e2 _ _ ht
      have hu2 := e2 _ _ hu
      have hF : fitsB n cur (uses rows r.1 r.2) = true := fitsB_iff.mpr fun k k0 k1 => by
        have := ok k.toNat (by omega)
        rw [show ((k.toNat : Nat) : Int) = k by omega] at this
        exact this
      have F := fitsB_iff.mp hF
      have ep : pay n L rows bs rws = pay n L rows (aft n rows cur L r.1 r.2) (rws.drop (i + 1)) := by
        rw [ep]
        show (if fitsB n cur (uses rows r.1 r.2) = true then pay n L rows (aft n rows cur L r.1 r.2) (rws.drop (i + 1)) else none) = _
        rw [if_pos hF]
      show tFor (iTup K (tOp (rIxT K) (tOp (rIxL K) (tVar 0) (tVar 4)) (tC (.int 1)))) (gName 7) (tAsg (tVar 1) (gSub (tVar 3) (tVar 7) rSetL)) _ _ _
      refine w_forT ?_
      walk_at "go"
      refine ⟨⟨_, SqT.of hu2⟩, ?_⟩
      refine forT (xs := r.2.map V.int) (fun j σ H' => ∃ k7 : Option V, σ = [some (.ref l), some (.int L), some (.ref pb), some (.ref l0), some (.int (0 + (i : Int))), some (.ref ul), k6', k7] ∧ Same H H' ∧ H' l0 = some (.lst (((List.range n.toNat).map fun k : Nat => if (k : Int) ∈ r.2.take j then L else cur.getD k 0 - uses rows r.1 r.2 k).map V.int))) ?_ ?_ ?_ ?_
      · refine ⟨_, rfl, e2, ?_⟩
        rw [g2]
        congr 3
        refine List.map_congr_left fun k hk => ?_
        have := List.mem_range.mp hk
        rw [if_pos (show k < n.toNat from this)]
        simp
      · rintro j σ H3 _ ⟨_, rfl, e3, _⟩
        exact SqT.of (e3 _ _ hu)
      · rintro j x σ H3 hx ⟨k7', rfl, e3, g3⟩
        obtain ⟨c, hc, rfl⟩ : ∃ c, r.2[j]? = some c ∧ x = V.int c := by
          rw [List.getElem?_map] at hx
          cases e : r.2[j]? with
          | none => rw [e] at hx; cases hx
          | some c => rw [e] at hx; exact ⟨c, rfl, (Option.some.inj hx).symm⟩
        have cb1 := cb c (List.mem_of_getElem? hc)
        walk_at "go"
        refine w_setL g3 (ixn (j := c.toNat) (by omega) (by rw [List.length_map, List.length_map, List.length_range]; omega)) ?_
        refine ⟨_, rfl, same_mut e3 hl0, ?_⟩
        rw [set_range (by omega), upd_same]
        congr 3
        refine List.map_congr_left fun k hk => ?_
        have tk : r.2.take (j + 1) = r.2.take j ++ [c] := by rw [List.take_succ, hc]; rfl
        rw [tk]
        by_cases ck : k = c.toNat
        · have : (k : Int) = c := by omega
          rw [if_pos ck, this, if_pos (List.mem_append_right _ List.mem_cons_self)]
        · have nk : ¬ (k : Int) = c := fun z => ck (by omega)
          rw [if_neg ck]
          by_cases m : (k : Int) ∈ r.2.take j
          · rw [if_pos m, if_pos (List.mem_append_left _ m)]
          · rw [if_neg m, if_neg (fun z => by
              rcases List.mem_append.mp z with z | z
              · exact m z
              · exact nk (List.mem_singleton.mp z))]
      · rintro σ H3 ⟨k7', rfl, e3, g3⟩
        rw [List.length_map, List.take_length] at g3
        exact ⟨_, _, _, _, aft n rows cur L r.1 r.2, rfl, e3, g3, aft_bk hC L0 F, ep⟩
  · rintro σ H1 ⟨k4, k5, k6, k7, cur, rfl, e1, g1, hC, ep⟩
    rw [show ((bv.length : Int)).toNat = rws.length by omega, List.drop_length] at ep
    walk_at "go"
    intro q hq
    exact k1 cur q l0 _ ep (e1.trans (same_new hq)) upd_same (keep g1 hq)
end G

end
section
local macro_rules | `(tactic| walk_at "call") => `(tactic| (refine' G.w_cnt ?g1 ?_; (case g1 => walk_at "sq")))

local macro_rules | `(tactic| walk_at "call") => `(tactic| (refine' G.w_popAt ?g1 ?g2 ?g3 ?g4 ?_; (case g1 => walk_at "hp"); (case g2 => walk_at "ar"); (case g3 => walk_at "ar"); (case g4 => walk_at "ar")))

local macro_rules | `(tactic| walk_at "call") => `(tactic| (refine' G.i_whole ?_))

local macro_rules | `(tactic| walk_at "bx") => `(tactic| first | assumption | exact G.Bx.new (by walk_at "bx") (by assumption) | exact G.Bx.same (by assumption) (by walk_at "bx"))
local macro_rules | `(tactic| walk_at "call") => `(tactic| (refine' G.i_take ?g1 ?g2 ?g3 ?_; (case g1 => walk_at "bx"); (case g2 => walk_at "ar"); (case g3 => walk_at "ar")))

local macro_rules | `(tactic| walk_at "call") => `(tactic| (refine' G.i_whole ?_))

local macro_rules | `(tactic| walk_at "call") => `(tactic| first | refine' G.w_makeV ?_ | refine' G.w_isref ?_ | refine' G.w_cmeth ?_)

namespace G
open PySem L2 GX
structure CTI (K : PySem.W.Frag) (A : CA) : Prop where
  s : CTS K A
  iW : InsC K A.Web
  iS : InsC K A.Standing
def sp_law_numbers (K : PySem.W.Frag) (A : CA) : Sp := fun vs H Q _ => ∃ (p : Addr) (n L : Int) (bs : List Int), vs = [.ref p, .int n, .int L] ∧ H p = some (.lst (bs.map V.int)) ∧ BK L n.toNat bs ∧ 0 ≤ n ∧ Q (.bl true) H
def t_law_numbers (K : PySem.W.Frag) (A : CA) : TS :=
  (tSeq (tIfS (tOr (tNot (tB (tCB (rIsi K) (tCons (tVar 0) (tCons (tC (.ty "list")) tNil))))) (tTest (tOp rNe (tCB (rLenQ K) (tCons (tVar 0) tNil)) (tVar 1)))) (tRet (tC (.bl false))) tNext)
  (tSeq (tFor (iList K (tVar 0)) (gName 3)
  (tIfS (tOr (tNot (tB (tCB (rIsi K) (tCons (tVar 3) (tCons (tC (.ty "int")) tNil))))) (tOr (tB (tCB (rIsi K) (tCons (tVar 3) (tCons (tC (.ty "bool")) tNil)))) (tOr (tTest (tOp oLt (tVar 3) (tC (.int 0)))) (tTest (tOp oGt (tVar 3) (tVar 2)))))) (tRet (tC (.bl false))) tNext))
  (tRet (tC (.bl true)))))

theorem rd_law_numbers {K : PySem.W.Frag} {A : CA} {vs : List V} {H : Hp} {Q : VK} {E : XK} (h : sp_law_numbers K A vs H Q E) :
    t_law_numbers K A { nx := fun _ H' => Q .non H', rt := Q } (start ["told", "size", "lines", "number"] vs) H := by
  obtain ⟨p, n, L, bs, rfl, hp, hB, n0, q⟩ := h
  have bl := hB.len
  unfold t_law_numbers
  walk_at "go"
  refine w_isT (t := "list") (b := true) (TyX.base (TyOf.lst hp)) (kit_ty (by decide +kernel)) ?_
  refine ⟨true, rfl, w_iteNT ?_⟩
  walk_at "go"
  rw [List.length_map]
  refine w_iteN (fun c => absurd (show (bs.length : Int) = n by omega) c) (fun _ => ?_)
  walk_at "go"
  refine forL (xs := bs.map V.int) (fun i σ H' => ∃ k3 : Option V, σ = [some (.ref p), some (.int n), some (.int L), k3] ∧ H' = H) ?_ ?_ ?_ ?_
  · exact ⟨none, rfl, rfl⟩
  · rintro i σ H' _ ⟨k3, rfl, rfl⟩
    exact SqL.of hp
  · rintro i x σ H' hx ⟨k3, rfl, rfl⟩
    obtain ⟨b, hb, rfl⟩ : ∃ b, bs[i]? = some b ∧ x = V.int b := by
      rw [List.getElem?_map] at hx
      cases e : bs[i]? with
      | none => rw [e] at hx; cases hx
      | some b => rw [e] at hx; exact ⟨b, rfl, (Option.some.inj hx).symm⟩
    have bb := hB.bd b (List.mem_of_getElem? hb)
    walk_at "go"
    refine w_isT (t := "int") (b := true) (TyX.base (TyOf.int b)) (kit_ty (by decide +kernel)) ?_
    refine ⟨true, rfl, w_iteNT ?_⟩
    walk_at "go"
    refine w_isT (t := "int") (b := false) (TyX.base (TyOf.int b)) (kit_ty (by decide +kernel)) ?_
    refine ⟨false, rfl, w_iteF ?_⟩
    walk_at "go"
    refine w_iteD (fun c => absurd c (by omega)) (fun _ => ?_)
    walk_at "go"
    refine w_iteD (fun c => absurd c (by omega)) (fun _ => ?_)
    walk_at "go"
    exact ⟨_, rfl, rfl⟩
  · rintro σ H' ⟨k3, rfl, rfl⟩
    walk_at "go"
    exact q
def sp_law_end (K : PySem.W.Frag) (A : CA) : Sp := fun vs H Q _ => ∃ (q st wb l : Addr) (n L : Int) (k : Option Nat) (r : Option PySem.Str) (rs : List (Int × Int)) (bs : List Int), vs = [.ref q, kV k, rsV r, .ref l] ∧ H q = some (.tup [kV k, rsV r, .ref st]) ∧ ((k = none ∧ r = none) ∨ ∃ j x, k = some j ∧ r = some x) ∧
  StAt A H st wb n rs L bs ∧ H l = some (.lst (bs.map V.int)) ∧ ∀ H', Same H H' → Q (.bl true) H'
def t_law_end (K : PySem.W.Frag) (A : CA) : TS :=
  (tSeq (tIfS (tOr (tNot (tB (tCB (rIsi K) (tCons (tVar 0) (tCons (tC (.ty "tuple")) tNil))))) (tOr (tTest (tOp rNe (tCB (rLenQ K) (tCons (tVar 0) tNil)) (tC (.int 3)))) (tNot (tB (tCB (rIsi K) (tCons (tOp (rIxT K) (tVar 0) (tC (.int 2))) (tCons (tC (.ref A.Standing)) tNil))))))) (tRet (tC (.bl false))) tNext)
  (tSeq (tIfS (tAnd (tB (tIsN (tVar 1))) (tOr (tB (tNotN (tOp (rIxT K) (tVar 0) (tC (.int 0))))) (tB (tNotN (tOp (rIxT K) (tVar 0) (tC (.int 1))))))) (tRet (tC (.bl false))) tNext)
  (tSeq (tIfS (tAnd (tB (tNotN (tVar 1))) (tNot (tAnd (tB (tCall (sp_law_whole K A) [] E0 (tCons (tOp (rIxT K) (tVar 0) (tC (.int 0))) (tCons (tVar 1) tNil)))) (tTest (tOp rEq (tOp (rIxT K) (tVar 0) (tC (.int 1))) (tVar 2)))))) (tRet (tC (.bl false))) tNext)
  (tRet (tOp (rEqD K) (tMeth A.Standing "blanks" (sp_Standing_blanks K A) [] E0 (tOp (rIxT K) (tVar 0) (tC (.int 2))) tNil) (tVar 3))))))

theorem rd_law_end {K : PySem.W.Frag} {A : CA} (T : CTI K A) {vs : List V} {H : Hp} {Q : VK} {E : XK} (h : sp_law_end K A vs H Q E) :
    t_law_end K A { nx := fun _ H' => Q .non H', rt := Q } (start ["told", "index", "reason", "blank"] vs) H := by
  obtain ⟨q, st, wb, l, n, L, k, r, rs, bs, rfl, hq, hkr, hS, hl, k0⟩ := h
  obtain ⟨dx, lb, h1, _⟩ := hS.ex
  have fin : (tRet (tOp (rEqD K) (tMeth A.Standing "blanks" (sp_Standing_blanks K A) [] E0 (tOp (rIxT K) (tVar 0) (tC (.int 2))) tNil) (tVar 3))) { nx := fun _ H' => Q .non H', rt := Q } [some (.ref q), some (kV k), some (rsV r), some (.ref l)] H := by
    walk_at "go"
    refine w_mth2 h1 (st_no (by decide) (by decide) (by decide)) ?_
    walk_at "go"
    refine ⟨st, wb, n, L, rs, bs, rfl, hS, fun q5 H5 hq5 e5 g5 => ?_⟩
    have hl5 := e5 _ _ hl
    walk_at "go"
    refine w_eqI2 (SqL.of g5) (SqL.of hl5) ?_
    rw [decide_eq_true rfl]
    exact k0 _ e5
  unfold t_law_end
  walk_at "go"
  refine w_isT (t := "tuple") (b := true) (TyX.base (TyOf.tup hq)) (kit_ty (by decide +kernel)) ?_
  refine ⟨true, rfl, w_iteNT ?_⟩
  walk_at "go"
  refine w_lenT (SqT.of hq) ?_
  walk_at "go"
  refine w_iteN (fun c => absurd rfl c) (fun _ => ?_)
  walk_at "go"
  refine ⟨.ref st, .ref A.Standing, .ref A.Standing, .ref A.Standing, true, rfl, ClsV.own _, TyX.base (TyOf.ins h1 T.s.c_Standing T.iS.ha T.iS.hn T.iS.ht T.iS.hm), kit_self, ?_⟩
  refine ⟨true, rfl, w_iteNT ?_⟩
  walk_at "go"
  rcases hkr with ⟨rfl, rfl⟩ | ⟨j, x, rfl, rfl⟩
  · refine w_isNr2 ?_
    walk_at "go"
    refine w_ifT kV_n ?_
    walk_at "go"
    refine w_notNr ?_
    walk_at "go"
    refine w_neIf nkV_n ?_
    walk_at "go"
    refine w_notNr ?_
    walk_at "go"
    refine w_neIf nrsV_n ?_
    walk_at "go"
    refine w_notNr ?_
    walk_at "go"
    refine w_neIf nkV_n ?_
    exact fin
  · refine w_isNr2 ?_
    walk_at "go"
    refine w_neIf (kV_s j) ?_
    walk_at "go"
    refine w_notNr ?_
    walk_at "go"
    refine w_ifT (nkV_s j) ?_
    walk_at "go"
    refine i_whole ?_
    walk_at "go"
    refine w_eqS (x := x) ?_
    refine ⟨true, rfl, ?_⟩
    refine w_iteNT ?_
    exact fin
end G

end
section
local macro_rules | `(tactic| walk_at "call") => `(tactic| (refine' G.w_cnt ?g1 ?_; (case g1 => walk_at "sq")))

local macro_rules | `(tactic| walk_at "call") => `(tactic| (refine' G.w_popAt ?g1 ?g2 ?g3 ?g4 ?_; (case g1 => walk_at "hp"); (case g2 => walk_at "ar"); (case g3 => walk_at "ar"); (case g4 => walk_at "ar")))

local macro_rules | `(tactic| walk_at "call") => `(tactic| (refine' G.i_whole ?_))

local macro_rules | `(tactic| walk_at "bx") => `(tactic| first | assumption | exact G.Bx.new (by walk_at "bx") (by assumption) | exact G.Bx.same (by assumption) (by walk_at "bx"))
local macro_rules | `(tactic| walk_at "call") => `(tactic| (refine' G.i_take ?g1 ?g2 ?g3 ?_; (case g1 => walk_at "bx"); (case g2 => walk_at "ar"); (case g3 => walk_at "ar")))

local macro_rules | `(tactic| walk_at "call") => `(tactic| (refine' G.i_whole ?_))

local macro_rules | `(tactic| walk_at "call") => `(tactic| first | refine' G.w_makeV ?_ | refine' G.w_isref ?_ | refine' G.w_cmeth ?_)

namespace G
open PySem L2 GX
theorem w_fork47 {t u : TS} {D : Ends} {σ : L2.St} {H : Hp} (M : L2.St → Hp → Prop) (h2 : ∀ σ1 H1, M σ1 H1 → u D σ1 H1) (h1 : (∀ σ1 H1, M σ1 H1 → u D σ1 H1) → t { D with nx := u D } σ H) : tSeq t u D σ H := h1 h2
structure LeastIn (A : CA) (H : Hp) (st wb w pr pb : Addr) (n L most pick : Int) (rows rs : List (Int × Int)) (us : List V) (rws : List (Int × List Int)) (bsd e0 : List Int) : Prop where
  st : StAt A H st wb n rs L (needL n rows rws)
  so : SortedOf rows rs
  wd : WDat H w n L rows
  hr : H pr = some (.lst us)
  hP : Paired (RW H) us rws
  ul : us.length ≤ 100
  rl : ∀ r ∈ rws, r.2.length ≤ 100
  mo : most ≤ 10
  hb : H pb = some (.lst (bsd.map V.int))
  bd : BK L n.toNat bsd
  ok : ∀ r ∈ rws, rsn n most r.1 r.2 = none
  pay : pay n L rows (List.replicate n.toNat L) rws = some e0
  p0 : 0 ≤ pick
  p1 : pick < n
def sp_law_least (K : PySem.W.Frag) (A : CA) : Sp := fun vs H Q _ => ∃ (st wb w pr pb : Addr) (n L most pick : Int) (rows rs : List (Int × Int)) (us : List V) (rws : List (Int × List Int)) (bsd e0 : List Int), vs = [.ref st, .ref wb, .ref w, .ref pr, .int most, .ref pb, .int pick] ∧ LeastIn A H st wb w pr pb n L most pick rows rs us rws bsd e0 ∧ ∀ H', Same H H' → Q (.bl true) H'
theorem bk_at {L : Int} {n : Nat} {bs : List Int} (hB : BK L n bs) {j : Nat} (hj : j < n) {z : Int} (e : z = (j : Int)) : atI (bs.map V.int) z = some (V.int (bs.getD j 0)) := at_of (j := j) e (by
  rw [List.getElem?_map, List.getD_eq_getElem?_getD, List.getElem?_eq_getElem (by rw [hB.len]; exact hj)]; rfl)
def t_law_least (K : PySem.W.Frag) (A : CA) : TS :=
  (tSeq (tAsg (tOp (rIxT K) (tVar 2) (tC (.int 2))) (gName 7))
  (tSeq (tIfS (tOr (tNot (tB (tCB (rIsi K) (tCons (tVar 0) (tCons (tC (.ref A.Standing)) tNil))))) (tNot (tB (tCB (rIsi K) (tCons (tFld K (tVar 0) "web") (tCons (tC (.ref A.Web)) tNil)))))) (tRet (tC (.bl false))) tNext)
  (tSeq (tIfS (tOr (tNot (tB (tCall (sp_law_whole K A) [] E0 (tCons (tFld K (tFld K (tVar 0) "web") "pages") (tCons (tOp (rIxT K) (tVar 2) (tC (.int 0))) tNil))))) (tTest (tOp (rNeD K) (tMeth A.Web "arrows" (sp_Web_arrows K A) [] E0 (tFld K (tVar 0) "web") tNil) (tCB (rSortedPO K) (tCons (tOp (rIxT K) (tVar 2) (tC (.int 1))) tNil))))) (tRet (tC (.bl false))) tNext)
  (tSeq (tAsg (tMeth A.Standing "blanks" (sp_Standing_blanks K A) [] E0 (tVar 0) tNil) (gName 8))
  (tSeq (tIfS (tOr (tNot (tB (tCall (sp_law_whole K A) [] E0 (tCons (tFld K (tVar 0) "lines") (tCons (tVar 7) tNil))))) (tNot (tB (tCall (sp_law_numbers K A) [] E0 (tCons (tVar 8) (tCons (tOp (rIxT K) (tVar 2) (tC (.int 0))) (tCons (tVar 7) tNil))))))) (tRet (tC (.bl false))) tNext)
  (tSeq (tAsg (tCall (sp_law_bills K A) [] E0 (tCons (tVar 2) (tCons (tVar 3) tNil))) (gName 9))
  (tSeq (tAsg (tCall (sp_law_paid K A) [] E0 (tCons (tVar 9) (tCons (tVar 7) (tCons (tVar 8) tNil)))) (gName 10))
  (tSeq (tIfS (tB (tNotN (tOp (rIxT K) (tVar 10) (tC (.int 0))))) (tRet (tC (.bl false))) tNext)
  (tSeq (tFor (iRng1 (tCons (tOp (rIxT K) (tVar 2) (tC (.int 0))) tNil)) (gName 11)
  (tIfS (tTest (tOp oGt (tOp (rIxL K) (tVar 8) (tVar 11)) (tC (.int 0)))) (tSeq (tAsg (tLc (iRng1 (tCons (tOp (rIxT K) (tVar 2) (tC (.int 0))) tNil)) (gName 13) tYes (tOp oSub (tOp (rIxL K) (tVar 8) (tVar 13)) (tCB oInt (tCons (tOp rEq (tVar 13) (tVar 11)) tNil))) [13]) (gName 12))
  (tIfS (tB (tIsN (tOp (rIxT K) (tCall (sp_law_paid K A) [] E0 (tCons (tVar 9) (tCons (tVar 7) (tCons (tVar 12) tNil)))) (tC (.int 0))))) (tRet (tC (.bl false))) tNext)) tNext))
  (tSeq (tIfS (tB (tIsN (tOp (rIxT K) (tCall (sp_law_paid K A) [] E0 (tCons (tVar 9) (tCons (tVar 7) (tCons (tVar 5) tNil)))) (tC (.int 0))))) (tFor (iRng1 (tCons (tOp (rIxT K) (tVar 2) (tC (.int 0))) tNil)) (gName 13)
  (tIfS (tTest (tOp oLt (tOp (rIxL K) (tVar 5) (tVar 13)) (tOp (rIxL K) (tVar 8) (tVar 13)))) (tRet (tC (.bl false))) tNext)) tNext)
  (tSeq (tIfS (tNot (tB (tCall (sp_law_end K A) [] E0 (tCons (tCallK (sp_judge_log K A) (fun a b => a ++ b) E0 (tCons (tVar 0) (tCons (tCB (oListOf K) (tCons (tVar 3) tNil)) tNil)) (tCons (tVar 4) tNil)) (tCons (tC .non) (tCons (tC .non) (tCons (tOp (rIxT K) (tVar 10) (tC (.int 1))) tNil))))))) (tRet (tC (.bl false))) tNext)
  (tSeq (tIfS (tTest (tOp rEq (tOp (rIxL K) (tVar 8) (tVar 6)) (tC (.int 0)))) (tRet (tC (.bl true))) tNext)
  (tSeq (tAsg (tLc (iRng1 (tCons (tOp (rIxT K) (tVar 2) (tC (.int 0))) tNil)) (gName 13) tYes (tOp oSub (tOp (rIxL K) (tVar 8) (tVar 13)) (tCB oInt (tCons (tOp rEq (tVar 13) (tVar 6)) tNil))) [13]) (gName 12))
  (tSeq (tAsg (tCall (sp_law_judged K A) [] E0 (tCons (tVar 2) (tCons (tVar 4) (tCons (tVar 12) (tCons (tVar 3) tNil))))) (gName 14))
  (tSeq (tAsg (tCallK (sp_judge_log K A) (fun a b => a ++ b) E0 (tCons (tMake A.Standing (sp_Standing_init K A) [] E0 (tCons (tVar 1) (tCons (tVar 7) (tCons (tCB (oListOf K) (tCons (tVar 12) tNil)) tNil)))) (tCons (tCB (oListOf K) (tCons (tVar 3) tNil)) tNil)) (tCons (tVar 4) tNil)) (gName 15))
  (tRet (tAndV (tOp rEq (tOp (rIxT K) (tVar 14) (tC (.int 1))) (tC (.str "line"))) (tCall (sp_law_end K A) [] E0 (tCons (tVar 15) (tCons (tOp (rIxT K) (tVar 14) (tC (.int 0))) (tCons (tC (.str "line")) (tCons (tOp (rIxT K) (tVar 14) (tC (.int 2))) tNil))))))))))))))))))))))

theorem rd_law_least {K : PySem.W.Frag} {A : CA} (T : CTI K A) {vs : List V} {H : Hp} {Q : VK} {E : XK} (h : sp_law_least K A vs H Q E) :
    t_law_least K A { nx := fun _ H' => Q .non H', rt := Q } (start ["start", "web", "world", "rows", "most", "beside", "pick", "lines", "blank", "bills", "end", "page", "fewer", "k", "due", "told"] vs) H := by
  obtain ⟨st, wb, w, pr, pb, n, L, most, pick, rows, rs, us, rws, bsd, e0, rfl, ⟨hS, hso, hW, hr, hP, hul, hrl, mo, hpb, hBb, ok, hpay0, pk0, pk1⟩, k0⟩ := h
  obtain ⟨pq, us2, hw, hpq, hP2, hul2⟩ := hW.ex
  obtain ⟨dx, lb, h1, _⟩ := hS.ex
  obtain ⟨dw, d0, ar, tg, hd0, gw⟩ := hS.web.obj
  have n0 := hW.n0
  have n1 := hW.n1
  have L0 := hW.L0
  have hR := hso.rg hW.rg
  have hB : BK L n.toNat (needL n rows rws) := needL_bk L0 hpay0
  obtain ⟨e1v, hpay, hE1⟩ := needL_pay L0 hpay0
  have least := fun (bs e : List Int) (hb : BK L n.toNat bs) (h : pay n L rows bs rws = some e) => pay_need L0 rws bs e hb h
  have ng : ∀ j : Nat, j < n.toNat → (needL n rows rws).getD j 0 = need rows (j : Int) rws := fun j hj => by
    have := needL_get (n := n) (rows := rows) (rws := rws) (k := (j : Int)) (by omega) (by omega)
    rwa [Int.toNat_natCast] at this
  have few := fun (j : Nat) (hj : j < n.toNat) (p : 0 < (needL n rows rws).getD j 0) => fewer_pay (rows := rows) (rws := rws) L0 hj hB p
  have inn : ∀ r ∈ rws, ∀ z ∈ r.1 :: r.2, 0 ≤ z ∧ z < n := fun r hr => (rsn_in (ok r hr)).1
  have hjud : ∀ most', most' = most → jud n most' L rs (needL n rows rws) rws 0 = (none, none, e1v) := fun m e => by
    rw [e, jud_perm hso.perm]; exact (jud_pay rws _ 0 ok).1 e1v hpay
  clear hpay0
  generalize hbs : needL n rows rws = bs at hS hB hpay ng few hjud
  have bl := hB.len
  unfold t_law_least
  walk_at "go"
  refine ⟨.ref st, .ref A.Standing, .ref A.Standing, .ref A.Standing, true, rfl, ClsV.own _, TyX.base (TyOf.ins h1 T.s.c_Standing T.iS.ha T.iS.hn T.iS.ht T.iS.hm), kit_self, ?_⟩
  refine ⟨true, rfl, w_iteNT ?_⟩
  walk_at "go"
  refine w_fld2 h1 T.s.c_Standing T.s.n_Standing_web st_web ?_
  walk_at "go"
  refine ⟨.ref wb, .ref A.Web, .ref A.Web, .ref A.Web, true, rfl, ClsV.own _, TyX.base (TyOf.ins gw T.s.b.c_Web T.iW.ha T.iW.hn T.iW.ht T.iW.hm), kit_self, ?_⟩
  refine ⟨true, rfl, w_iteNT ?_⟩
  walk_at "go"
  refine w_fld2 h1 T.s.c_Standing T.s.n_Standing_web st_web ?_
  walk_at "go"
  refine w_fld2 gw T.s.b.c_Web T.s.b.n_Web_pages web_pages ?_
  walk_at "go"
  refine w_iteNT ?_
  walk_at "go"
  refine w_fld2 h1 T.s.c_Standing T.s.n_Standing_web st_web ?_
  walk_at "go"
  refine w_mth2 gw web_noarrows ?_
  walk_at "go"
  refine ⟨wb, n, rs, rfl, hS.web, fun us1 p1 H1 hp1 e1 g1 hP1 hl1 => ?_⟩
  have hw1 := e1 _ _ hw
  have hpq1 := e1 _ _ hpq
  walk_at "go"
  refine w_sortP hpq1 (PRs.same e1 hP2) fun rs2 ys l2 hso2 hl2 _ hys => ?_
  obtain rfl : rs2 = rs := hso2.uniq hso
  have e2 := same_new (o := .lst ys) hl2
  refine w_neRR (e2 _ _ g1) (PRs.same e2 hP1) upd_same (PRs.new hl2 hys) ?_
  have E2 := e1.trans e2
  generalize upd H1 l2 (.lst ys) = H2 at e2 E2
  refine ⟨_, rfl, w_iteNRf ?_⟩
  clear e1 e2 g1 hP1 hp1 hw1 hpq1 hys hl2
  have h12 := E2 _ _ h1
  walk_at "go"
  refine w_mth2 h12 (st_no (by decide) (by decide) (by decide)) ?_
  walk_at "go"
  refine ⟨st, wb, n, L, rs2, bs, rfl, hS.same E2, fun q3 H3 hq3 e3 g3 => ?_⟩
  have E3 := E2.trans e3
  have hw3 := E3 _ _ hw
  have h13 := E3 _ _ h1
  clear e3 E2 h12 hq3
  walk_at "go"
  refine w_fld2 h13 T.s.c_Standing T.s.n_Standing_lines st_lines ?_
  walk_at "go"
  refine w_iteNT ?_
  walk_at "go"
  refine ⟨q3, n, L, bs, rfl, g3, hB, by omega, ?_⟩
  walk_at "go"
  refine w_iteNT ?_
  walk_at "go"
  refine ⟨w, pr, n, L, rows, us, rws, rfl, hW.same E3, E3 _ _ hr, RWs.same E3 hP, hul, inn, fun bi H4 bv hbi e4 g4 hBv => ?_⟩
  have E4 := E3.trans e4
  have gq4 := e4 _ _ g3
  have bvl : bv.length ≤ 100 := by rw [hBv.length, ← hP.length]; exact hul
  clear e4 h13 hw3 g3 E3
  walk_at "go"
  refine ⟨bi, q3, n, L, rows, bs, bv, rws, rfl, g4, hBv, bvl, gq4, hB, n0, by omega, L0, inn, fun e q5 m5 H5 he e5 hq5 hm5 => ?_, fun z => by rw [hpay] at z; cases z⟩
  obtain rfl : e1v = e := by rw [hpay] at he; exact Option.some.inj he
  have E5 := E4.trans e5
  have g45 := e5 _ _ g4
  have gq5 := e5 _ _ gq4
  have hBv5 := BLs.same e5 hBv
  clear g4 gq4 hBv e5 E4 he
  walk_at "go"
  refine w_notNr ?_
  walk_at "go"
  refine w_neIf nkV_n ?_
  have hw5 := E5 _ _ hw
  walk_at "go"
  refine forR (fun i σ H' => ∃ (k11 k12 k13 : Option V), σ = [some (.ref st), some (.ref wb), some (.ref w), some (.ref pr), some (.int most), some (.ref pb), some (.int pick), some (.int L), some (.ref q3), some (.ref bi), some (.ref q5), k11, k12, k13, none, none] ∧ Same H5 H') ?_ ?_ ?_
  · exact ⟨none, none, none, rfl, fun _ _ z => z⟩
  · rintro i σ H6 hi ⟨k11, k12, k13, rfl, e6⟩
    have iN : i < n.toNat := hi
    have gq6 := e6 _ _ gq5
    have av := bk_at hB iN (z := 0 + (i : Int)) (by omega)
    walk_at "go"
    refine w_iteD (fun c => ?_) (fun c => ?_)
    · have hw6 := e6 _ _ hw5
      walk_at "go"
      refine lcR (fun Dl j H' => Same H6 H' ∧ H' Dl = some (.lst (((List.range j).map fun k : Nat => bs.getD k 0 - if k = i then 1 else 0).map V.int))) (fun Dl hD => ⟨same_new hD, upd_same⟩) ?_ ?_
      · rintro Dl j H7 hD hj ⟨e7, g7⟩
        have jN : j < n.toNat := hj
        have gq7 := e7 _ _ gq6
        have av := bk_at hB jN (z := 0 + (j : Int)) (by omega)
        have sl : (((List.range j).map fun k : Nat => bs.getD k 0 - if k = i then (1 : Int) else 0).map V.int).length < sizeLine := small1000 (by rw [List.length_map, List.length_map, List.length_range]; omega)
        walk_at "go"
        refine w_oIntB ?_
        walk_at "go"
        refine ⟨same_mut e7 hD, ?_⟩
        rw [List.range_succ, List.map_append, List.map_append, upd_same]
        have : (if decide ((0 : Int) + (j : Int) = 0 + (i : Int)) = true then (1 : Int) else 0) = if j = i then 1 else 0 := by
          by_cases c : j = i
          · rw [if_pos c, decide_eq_true (by omega), if_pos rfl]
          · rw [if_neg c, decide_eq_false (by omega), if_neg Bool.false_ne_true]
        rw [this]; rfl
      rintro fw H7 hfw ⟨e7, g7⟩
      have ef : ((List.range n.toNat).map fun k : Nat => bs.getD k 0 - if k = i then (1 : Int) else 0) = fewer bs i := by unfold fewer; rw [bl]
      have g7 : H7 fw = some (.lst ((fewer bs i).map V.int)) := by rw [← ef]; exact g7
      have g47 := e7 _ _ (e6 _ _ g45)
      have hBv7 := BLs.same (e6.trans e7) hBv5
      have np := few i iN (by omega)
      walk_at "go"
      refine w_isNr2 ?_
      walk_at "go"
      refine ⟨bi, fw, n, L, rows, fewer bs i, bv, rws, rfl, g47, hBv7, bvl, g7, fewer_bk hB (by omega), n0, by omega, L0, inn, fun e q8 m8 H8 he => (by rw [np] at he; cases he), fun _ k q8 m8 H8 e8 hq8 => ?_⟩
      walk_at "go"
      refine w_neIf (kV_s k) ?_
      walk_at "go"
      exact ⟨_, _, _, rfl, (e6.trans e7).trans e8⟩
    · walk_at "go"
      exact ⟨_, _, _, rfl, e6⟩
  · rintro σ H6 ⟨k11, k12, k13, rfl, e6⟩
    have E6 := E5.trans e6
    have g46 := e6 _ _ g45
    have gq6 := e6 _ _ gq5
    have hq6 := e6 _ _ hq5
    have hm6 := e6 _ _ hm5
    have hBv6 := BLs.same e6 hBv5
    clear g45 gq5 hq5 hm5 hBv5 e6 E5 hw5
    with_reducible refine w_fork47 (fun σ H' => ∃ (k13 : Option V), σ = [some (.ref st), some (.ref wb), some (.ref w), some (.ref pr), some (.int most), some (.ref pb), some (.int pick), some (.int L), some (.ref q3), some (.ref bi), some (.ref q5), k11, k12, k13, none, none] ∧ Same H6 H') ?_ fun rest => ?_
    · clear g46 hBv6
      rintro σ H7 ⟨k13, rfl, e7⟩
      have E7 := E6.trans e7
      have gq7 := e7 _ _ gq6
      have hq7 := e7 _ _ hq6
      have hm7 := e7 _ _ hm6
      have hr7 := E7 _ _ hr
      clear gq6 hq6 hm6 e7 E6
      walk_at "go"
      refine w_callK ?_
      walk_at "go"
      intro l8 hl8
      have e8 := same_new (o := .lst us) hl8
      have g8 : (upd H7 l8 (.lst us)) l8 = some (.lst us) := upd_same
      generalize upd H7 l8 (.lst us) = H8 at e8 g8
      have E8 := E7.trans e8
      walk_at "go"
      refine ⟨st, wb, l8, n, most, L, rs2, bs, us, rws, rfl, hS.same E8, hR, hB, n0, by omega, L0, mo, g8, RWs.same E8 hP, hul, hrl, fun t9 s9 H9 _ e9 ht9 hS9 _ => ?_⟩
      rw [hjud most rfl] at ht9 hS9
      have E9 := E8.trans e9
      have hq9 := (e8.trans e9) _ _ hq7
      have hm9 := (e8.trans e9) _ _ hm7
      have gq9 := (e8.trans e9) _ _ gq7
      clear e8 g8 hl8 e9 E8 hq7 hm7 gq7 hr7 E7
      walk_at "go"
      refine ⟨t9, s9, wb, m5, n, L, none, none, rs2, e1v, rfl, ht9, .inl ⟨rfl, rfl⟩, hS9, hm9, fun H10 e10 => ?_⟩
      have E10 := E9.trans e10
      have gq10 := e10 _ _ gq9
      clear ht9 hS9 e10 E9 hq9 hm9 gq9
      walk_at "go"
      refine w_iteNT ?_
      have pN : pick.toNat < n.toNat := by omega
      have av := bk_at hB pN (z := pick) (by omega)
      walk_at "go"
      refine w_iteD (fun c => ?_) (fun c => ?_)
      · walk_at "go"
        exact k0 _ E10
      have pp : 0 < bs.getD pick.toNat 0 := by
        have := hB.nn pick.toNat
        omega
      have np := few pick.toNat pN pp
      have hw10 := E10 _ _ hw
      have hr10 := E10 _ _ hr
      clear av
      walk_at "go"
      refine lcR (fun Dl j H' => Same H10 H' ∧ H' Dl = some (.lst (((List.range j).map fun k : Nat => bs.getD k 0 - if k = pick.toNat then 1 else 0).map V.int))) (fun Dl hD => ⟨same_new hD, upd_same⟩) ?_ ?_
      · rintro Dl j H7 hD hj ⟨e7, g7⟩
        have jN : j < n.toNat := hj
        have gq7 := e7 _ _ gq10
        have av := bk_at hB jN (z := 0 + (j : Int)) (by omega)
        have sl : (((List.range j).map fun k : Nat => bs.getD k 0 - if k = pick.toNat then (1 : Int) else 0).map V.int).length < sizeLine := small1000 (by rw [List.length_map, List.length_map, List.length_range]; omega)
        walk_at "go"
        refine w_oIntB ?_
        walk_at "go"
        refine ⟨same_mut e7 hD, ?_⟩
        rw [List.range_succ, List.map_append, List.map_append, upd_same]
        have : (if decide ((0 : Int) + (j : Int) = pick) = true then (1 : Int) else 0) = if j = pick.toNat then 1 else 0 := by
          by_cases c : j = pick.toNat
          · rw [if_pos c, decide_eq_true (by omega), if_pos rfl]
          · rw [if_neg c, decide_eq_false (by omega), if_neg Bool.false_ne_true]
        rw [this]; rfl
      rintro fw H11 hfw ⟨e11, g11⟩
      have ef : ((List.range n.toNat).map fun k : Nat => bs.getD k 0 - if k = pick.toNat then (1 : Int) else 0) = fewer bs pick.toNat := by unfold fewer; rw [bl]
      have g11 : H11 fw = some (.lst ((fewer bs pick.toNat).map V.int)) := by rw [← ef]; exact g11
      have hF := fewer_bk hB pp
      obtain ⟨jx, xx, ej⟩ := (jud_pay (most := most) rws (fewer bs pick.toNat) 0 ok).2 np
      generalize fewer bs pick.toNat = fb at g11 hF ej
      have E11 := E10.trans e11
      have hr11 := E11 _ _ hr
      clear hw10 hr10 gq10 E10 e11 hfw
      walk_at "go"
      refine ⟨w, fw, pr, n, most, L, rows, fb, us, rws, rfl, hW.same E11, g11, hF, hr11, RWs.same E11 hP, hul, hrl, fun q12 l12 H12 _ _ e12 hq12 hl12 => ?_⟩
      rw [ej] at hq12 hl12
      have E12 := E11.trans e12
      have g12 := e12 _ _ g11
      have hr12 := e12 _ _ hr11
      clear e12 g11 hr11 E11
      walk_at "go"
      refine w_callK ?_
      walk_at "go"
      intro l13 hl13
      have e13 := same_new (o := .lst (fb.map V.int)) hl13
      have g13 : (upd H12 l13 (.lst (fb.map V.int))) l13 = some (.lst (fb.map V.int)) := upd_same
      generalize upd H12 l13 (.lst (fb.map V.int)) = H13 at e13 g13
      have E13 := E12.trans e13
      have hq13 := e13 _ _ hq12
      have hl13' := e13 _ _ hl12
      clear hl13 e13 hq12 hl12 g12 hr12 E12
      walk_at "go"
      intro x14 dx14 hx14 hdx14 nx14
      refine i_standing hx14 hdx14 nx14 (hS.web.same E13) n0 (by omega) g13 hF fun H14 _ e14 hS14 => ⟨rfl, ?_⟩
      have E14 := E13.trans e14
      have hq14 := e14 _ _ hq13
      have hl14 := e14 _ _ hl13'
      have hr14 := E14 _ _ hr
      clear hx14 hdx14 nx14 hq13 hl13' e14 E13 g13
      walk_at "go"
      intro l15 hl15
      have e15 := same_new (o := .lst us) hl15
      have g15 : (upd H14 l15 (.lst us)) l15 = some (.lst us) := upd_same
      generalize upd H14 l15 (.lst us) = H15 at e15 g15
      have E15 := E14.trans e15
      have hq15 := e15 _ _ hq14
      have hl15' := e15 _ _ hl14
      have hS15 := hS14.same e15
      clear hl15 e15 hq14 hl14 hS14 hr14 E14
      walk_at "go"
      refine ⟨x14, wb, l15, n, most, L, rs2, fb, us, rws, rfl, hS15, hR, hF, n0, by omega, L0, mo, g15, RWs.same E15 hP, hul, hrl, fun t16 s16 H16 _ e16 ht16 hS16 _ => ?_⟩
      rw [jud_perm hso.perm, ej] at ht16 hS16
      have hq16 := e16 _ _ hq15
      have hl16 := e16 _ _ hl15'
      have E16 := E15.trans e16
      clear e16 hq15 hl15' hS15 g15 E15
      replace hq16 : H16 q12 = some (.tup [kV (some jx), rsV (some "line"), .ref l12]) := hq16
      replace hl16 : H16 l12 = some (.lst (xx.map V.int)) := hl16
      walk_at "go"
      refine w_eqS (x := "line") ?_
      walk_at "go"
      exact ⟨t16, s16, wb, l12, n, L, some jx, some "line", rs2, xx, rfl, ht16, .inr ⟨jx, _, rfl, rfl⟩, hS16, hl16, fun H17 e17 => k0 _ (E16.trans e17)⟩
    have g56 := E6 _ _ hpb
    walk_at "go"
    refine w_isNr2 ?_
    walk_at "go"
    refine ⟨bi, pb, n, L, rows, bsd, bv, rws, rfl, g46, hBv6, bvl, g56, hBb, n0, by omega, L0, inn, fun e q8 m8 H8 he e8 hq8 hm8 => ?_, fun _ k q8 m8 H8 e8 hq8 => ?_⟩
    · walk_at "go"
      refine w_ifT kV_n ?_
      have hw8 := e8 _ _ (E6 _ _ hw)
      walk_at "go"
      refine forR (fun i σ H' => ∃ (k13 : Option V), σ = [some (.ref st), some (.ref wb), some (.ref w), some (.ref pr), some (.int most), some (.ref pb), some (.int pick), some (.int L), some (.ref q3), some (.ref bi), some (.ref q5), k11, k12, k13, none, none] ∧ H' = H8) ?_ ?_ ?_
      · exact ⟨_, rfl, rfl⟩
      · rintro i σ H9 hi ⟨k13', rfl, rfl⟩
        have iN : i < n.toNat := hi
        have av1 := bk_at hBb iN (z := 0 + (i : Int)) (by omega)
        have av2 := bk_at hB iN (z := 0 + (i : Int)) (by omega)
        have gq9 := e8 _ _ gq6
        have g59 := e8 _ _ g56
        have nd := least bsd e hBb he (i : Int) (by omega) (by omega)
        rw [Int.toNat_natCast, ← ng i iN] at nd
        walk_at "go"
        refine w_iteD (fun c => absurd c (by omega)) (fun _ => ?_)
        walk_at "go"
        exact ⟨_, rfl, rfl⟩
      · rintro σ H9 ⟨k13', rfl, rfl⟩
        exact rest _ _ ⟨_, rfl, e8⟩
    · walk_at "go"
      refine w_neIf (kV_s k) ?_
      exact rest _ _ ⟨_, rfl, e8⟩
end G

end
section
local macro_rules | `(tactic| walk_at "call") => `(tactic| (refine' G.w_cnt ?g1 ?_; (case g1 => walk_at "sq")))

local macro_rules | `(tactic| walk_at "call") => `(tactic| (refine' G.w_popAt ?g1 ?g2 ?g3 ?g4 ?_; (case g1 => walk_at "hp"); (case g2 => walk_at "ar"); (case g3 => walk_at "ar"); (case g4 => walk_at "ar")))

local macro_rules | `(tactic| walk_at "call") => `(tactic| (refine' G.i_whole ?_))

local macro_rules | `(tactic| walk_at "bx") => `(tactic| first | assumption | exact G.Bx.new (by walk_at "bx") (by assumption) | exact G.Bx.same (by assumption) (by walk_at "bx"))
local macro_rules | `(tactic| walk_at "call") => `(tactic| (refine' G.i_take ?g1 ?g2 ?g3 ?_; (case g1 => walk_at "bx"); (case g2 => walk_at "ar"); (case g3 => walk_at "ar")))

local macro_rules | `(tactic| walk_at "call") => `(tactic| (refine' G.i_whole ?_))

local macro_rules | `(tactic| walk_at "call") => `(tactic| first | refine' G.w_makeV ?_ | refine' G.w_isref ?_ | refine' G.w_cmeth ?_)

namespace G
open PySem L2 GX
structure CTM (K : PySem.W.Frag) (A : CA) : Prop where
  exc : ExcC K A.NoStart
  self : PySem.W.exmOne K (.ref A.NoStart) (.ref A.NoStart) = some true
  base : PySem.W.kitOne K (.ref A.NoStart) (.ref A.OnecopyError) = some true
  val : PySem.W.kitOne K (.ref A.NoStart) (.type "ValueError") = some true
  oth : PySem.W.kitAny K (.ref A.NoStart) [.ref A.LotError, .ref A.NoIndex, .ref A.NoLine, .ref A.NoPage] = some false
theorem w_isXT {K : PySem.W.Frag} {a D dd tp : Addr} {cs : List V} {us : List Value} {b : Bool} {fs : List (Str × V)} {H : Hp} {Q : VK} (hT : H tp = some (.tup cs)) (hc : Paired ClsV cs us) (C : ExcC K D) (hd : H dd = some (.xd fs)) (e : PySem.W.kitAny K (.ref D) us = some b) (q : Q (.bl b) H) :
    rIsXT K a (.ref D) (some dd) [.ref a, .ref tp] H Q := ⟨tp, cs, us, b, D, dd, fs, rfl, hT, hc, rfl, rfl, C, hd, e, q⟩
theorem w_eqRws {K : PySem.W.Frag} {H : Hp} {Q : VK} {p q : Addr} {us ws : List V} {l : List (Int × List Int)} (hp : H p = some (.lst us)) (h1 : Paired (RW H) us l) (hq : H q = some (.lst ws)) (h2 : Paired (RW H) ws l) (k : Q (.bl true) H) : rEqD K (.ref p) (.ref q) H Q := by
  refine ⟨.list (l.map rdD), .list (l.map rdD), .lst (SqL.of hp) (dp_rws h1), .lst (SqL.of hq) (dp_rws h2), rdDs_shaped l, rdDs_shaped l, ?_⟩
  show Q (.bl (PyData.eqvAll (l.map rdD) (l.map rdD))) H
  rw [rdDs_eqv]; exact k
/-- the number of copies that is meant -/
def mst (m : Int) : Int := if m = 0 then 1 else m
def sp_law_told (K : PySem.W.Frag) (A : CA) : Sp := fun vs H Q _ => ∃ (wb pr : Addr) (n L most : Int) (rs : List (Int × Int)) (us : List V) (rws : List (Int × List Int)), vs = [.ref wb, .int L, .ref pr, .int most] ∧ WebX A H wb n rs ∧ RG n rs ∧ 1 ≤ n ∧ n ≤ 500 ∧ 0 ≤ L ∧ most ≤ 10 ∧ H pr = some (.lst us) ∧ Paired (RW H) us rws ∧ us.length ≤ 100 ∧ (∀ r ∈ rws, r.2.length ≤ 100) ∧
  (∀ (j : Nat) (q : Addr) (H' : Hp), (jud n (mst most) L rs (List.replicate n.toNat L) rws 0).1 = some j → Same H H' → H' q = some (.tup [.str "refused", .int (j : Nat), .bl true]) → Q (.ref q) H') ∧
  (∀ (st q : Addr) (H' : Hp), (jud n (mst most) L rs (List.replicate n.toNat L) rws 0).1 = none → Same H H' → H' q = some (.tup [.str "start", .ref st, .bl true]) → StAt A H' st wb n rs L (needL n rs rws) → Q (.ref q) H')
def t_law_told (K : PySem.W.Frag) (A : CA) : TS :=
  (tSeq (tAsg (tCB (oListOf K) (tCons (tVar 2) tNil)) (gName 4))
  (tSeq (GX.tTryAs K A.NoStart 5 (fun W => (tIfS (tTest (tOp rEq (tVar 3) (tC (.int 0)))) (tAsg (GF.tCallDS (sp_least_start K A) [.int 1] (WE W) (tCons (tVar 0) (tCons (tVar 1) (tCons (tVar 4) tNil)))) (gName 6)) (tAsg (GF.tCallNS 3 (sp_least_start K A) (WE W) (tCons (tVar 0) (tCons (tVar 1) (tCons (tVar 4) tNil))) (tCons (tVar 3) tNil)) (gName 6)))) (fun a cls d => (tSeq (tAsg (tAndV (tCB (GX.rIsX K a cls d) (tCons (tVar 5) (tCons (tC (.ref A.OnecopyError)) tNil))) (tAndV (tCB (GX.rIsX K a cls d) (tCons (tVar 5) (tCons (tC (.ty "ValueError")) tNil))) (tOp (rEqD K) (tVar 4) (tVar 2)))) (gName 7))
  (tSeq (tIfS (tB (tCB (GX.rIsXT K a cls d) (tCons (tVar 5) (tCons (tTup (tCons (tC (.ref A.LotError)) (tCons (tC (.ref A.NoIndex)) (tCons (tC (.ref A.NoLine)) (tCons (tC (.ref A.NoPage)) tNil))))) tNil)))) (tAsg (tC (.bl false)) (gName 7)) tNext)
  (tRet (tTup (tCons (tC (.str "refused")) (tCons (tXf a cls d A.NoStart "index" (tVar 5)) (tCons (tVar 7) tNil)))))))))
  (tRet (tTup (tCons (tC (.str "start")) (tCons (tVar 6) (tCons (tOp (rEqD K) (tVar 4) (tVar 2)) tNil)))))))

theorem rd_law_told {K : PySem.W.Frag} {A : CA} (M : CTM K A) {vs : List V} {H : Hp} {Q : VK} {E : XK} (h : sp_law_told K A vs H Q E) :
    t_law_told K A { nx := fun _ H' => Q .non H', rt := Q } (start ["web", "lines", "rows", "most", "handed", "raised", "start", "right"] vs) H := by
  obtain ⟨wb, pr, n, L, most, rs, us, rws, rfl, hW, hR, n0, n1, L0, mo, hr, hP, hul, hrl, k1, k2⟩ := h
  unfold t_law_told
  walk_at "go"
  intro hd hhd
  have e1 := same_new (o := .lst us) hhd
  have g1 : (upd H hd (.lst us)) hd = some (.lst us) := upd_same
  generalize upd H hd (.lst us) = H1 at e1 g1
  have hW1 := hW.same e1
  have hP1 := RWs.same e1 hP
  walk_at "go"
  unfold GX.tTryAs
  walk_at "go"
  refine w_iteD (fun c => ?_) (fun c => ?_)
  · have em : mst most = 1 := by unfold mst; rw [if_pos c]
    rw [em] at k1 k2
    refine w_asg (w_callDS ?_)
    walk_at "go"
    refine ⟨wb, hd, n, L, 1, rs, us, rws, rfl, hW1, hR, n0, n1, L0, by omega, g1, hP1, hul, hrl, fun j hj => ?_, fun hj st H2 e2 hS2 => ?_⟩
    · intro dd H2 hdd e2 hx
      have E2 := e1.trans e2
      have g2 := e2 _ _ g1
      have hr2 := E2 _ _ hr
      refine ⟨true, M.self, fun _ a _ => ?_, fun z => nomatch z⟩
      walk_at "go"
      refine GX.w_isX (ClsV.own _) M.exc hx M.base ?_
      walk_at "go"
      refine GX.w_isX (ClsV.ty _) M.exc hx M.val ?_
      walk_at "go"
      refine w_eqRws g2 (RWs.same E2 hP) hr2 (RWs.same E2 hP) ?_
      walk_at "go"
      intro tp htp
      have e3 := same_new (o := .tup [V.ref A.LotError, .ref A.NoIndex, .ref A.NoLine, .ref A.NoPage]) htp
      have hx3 := e3 _ _ hx
      have gt3 : (upd H2 tp (.tup [V.ref A.LotError, .ref A.NoIndex, .ref A.NoLine, .ref A.NoPage])) tp = some (.tup [V.ref A.LotError, .ref A.NoIndex, .ref A.NoLine, .ref A.NoPage]) := upd_same
      generalize upd H2 tp (.tup [V.ref A.LotError, .ref A.NoIndex, .ref A.NoLine, .ref A.NoPage]) = H3 at e3 hx3 gt3
      walk_at "go"
      refine w_isXT gt3 (.cons (ClsV.own _) (.cons (ClsV.own _) (.cons (ClsV.own _) (.cons (ClsV.own _) .nil)))) M.exc hx3 M.oth ?_
      refine ⟨false, rfl, w_iteF ?_⟩
      walk_at "go"
      refine GX.w_xf (fun Q q => by walk_at "go"; exact q) hx3 (by rfl) ?_
      walk_at "go"
      intro q hq
      exact k1 j q _ hj ((E2.trans e3).trans (same_new hq)) upd_same
    · have E2 := e1.trans e2
      have g2 := e2 _ _ g1
      have hr2 := E2 _ _ hr
      walk_at "go"
      refine w_eqRws g2 (RWs.same E2 hP) hr2 (RWs.same E2 hP) ?_
      walk_at "go"
      intro q hq
      exact k2 st q _ hj (E2.trans (same_new hq)) upd_same (hS2.same (same_new hq))
  · have em : mst most = most := by unfold mst; rw [if_neg c]
    rw [em] at k1 k2
    refine w_asg (w_callNS ?_)
    walk_at "go"
    refine ⟨rfl, rfl, ?_⟩
    refine ⟨wb, hd, n, L, most, rs, us, rws, rfl, hW1, hR, n0, n1, L0, by omega, g1, hP1, hul, hrl, fun j hj => ?_, fun hj st H2 e2 hS2 => ?_⟩
    · intro dd H2 hdd e2 hx
      have E2 := e1.trans e2
      have g2 := e2 _ _ g1
      have hr2 := E2 _ _ hr
      refine ⟨true, M.self, fun _ a _ => ?_, fun z => nomatch z⟩
      walk_at "go"
      refine GX.w_isX (ClsV.own _) M.exc hx M.base ?_
      walk_at "go"
      refine GX.w_isX (ClsV.ty _) M.exc hx M.val ?_
      walk_at "go"
      refine w_eqRws g2 (RWs.same E2 hP) hr2 (RWs.same E2 hP) ?_
      walk_at "go"
      intro tp htp
      have e3 := same_new (o := .tup [V.ref A.LotError, .ref A.NoIndex, .ref A.NoLine, .ref A.NoPage]) htp
      have hx3 := e3 _ _ hx
      have gt3 : (upd H2 tp (.tup [V.ref A.LotError, .ref A.NoIndex, .ref A.NoLine, .ref A.NoPage])) tp = some (.tup [V.ref A.LotError, .ref A.NoIndex, .ref A.NoLine, .ref A.NoPage]) := upd_same
      generalize upd H2 tp (.tup [V.ref A.LotError, .ref A.NoIndex, .ref A.NoLine, .ref A.NoPage]) = H3 at e3 hx3 gt3
      walk_at "go"
      refine w_isXT gt3 (.cons (ClsV.own _) (.cons (ClsV.own _) (.cons (ClsV.own _) (.cons (ClsV.own _) .nil)))) M.exc hx3 M.oth ?_
      refine ⟨false, rfl, w_iteF ?_⟩
      walk_at "go"
      refine GX.w_xf (fun Q q => by walk_at "go"; exact q) hx3 (by rfl) ?_
      walk_at "go"
      intro q hq
      exact k1 j q _ hj ((E2.trans e3).trans (same_new hq)) upd_same
    · have E2 := e1.trans e2
      have g2 := e2 _ _ g1
      have hr2 := E2 _ _ hr
      walk_at "go"
      refine w_eqRws g2 (RWs.same E2 hP) hr2 (RWs.same E2 hP) ?_
      walk_at "go"
      intro q hq
      exact k2 st q _ hj (E2.trans (same_new hq)) upd_same (hS2.same (same_new hq))
end G

end
section
local macro_rules | `(tactic| walk_at "call") => `(tactic| (refine' G.w_cnt ?g1 ?_; (case g1 => walk_at "sq")))

local macro_rules | `(tactic| walk_at "call") => `(tactic| (refine' G.w_popAt ?g1 ?g2 ?g3 ?g4 ?_; (case g1 => walk_at "hp"); (case g2 => walk_at "ar"); (case g3 => walk_at "ar"); (case g4 => walk_at "ar")))

local macro_rules | `(tactic| walk_at "call") => `(tactic| (refine' G.i_whole ?_))

local macro_rules | `(tactic| walk_at "bx") => `(tactic| first | assumption | exact G.Bx.new (by walk_at "bx") (by assumption) | exact G.Bx.same (by assumption) (by walk_at "bx"))
local macro_rules | `(tactic| walk_at "call") => `(tactic| (refine' G.i_take ?g1 ?g2 ?g3 ?_; (case g1 => walk_at "bx"); (case g2 => walk_at "ar"); (case g3 => walk_at "ar")))

local macro_rules | `(tactic| walk_at "call") => `(tactic| (refine' G.i_whole ?_))

local macro_rules | `(tactic| walk_at "call") => `(tactic| first | refine' G.w_makeV ?_ | refine' G.w_isref ?_ | refine' G.w_cmeth ?_)

namespace G
open PySem L2 GX
structure Ask47 (A : CA) (H : Hp) (wb w pr pb : Addr) (n L most pick : Int) (rows rs : List (Int × Int)) (us : List V) (rws : List (Int × List Int)) (bsd : List Int) : Prop where
  hW : WebX A H wb n rs
  so : SortedOf rows rs
  wd : WDat H w n L rows
  hr : H pr = some (.lst us)
  hP : Paired (RW H) us rws
  ul : us.length ≤ 100
  rl : ∀ r ∈ rws, r.2.length ≤ 100
  m0 : 1 ≤ most
  mo : most ≤ 10
  hb : H pb = some (.lst (bsd.map V.int))
  bd : BK L n.toNat bsd
  p0 : 0 ≤ pick
  p1 : pick < n
theorem Ask47.same {A : CA} {H H' : Hp} {wb w pr pb : Addr} {n L most pick : Int} {rows rs : List (Int × Int)} {us : List V} {rws : List (Int × List Int)} {bsd : List Int} (e : Same H H') (h : Ask47 A H wb w pr pb n L most pick rows rs us rws bsd) : Ask47 A H' wb w pr pb n L most pick rows rs us rws bsd :=
  ⟨h.hW.same e, h.so, h.wd.same e, e _ _ h.hr, RWs.same e h.hP, h.ul, h.rl, h.m0, h.mo, e _ _ h.hb, h.bd, h.p0, h.p1⟩
def sp_law_asked (K : PySem.W.Frag) (A : CA) : Sp := fun vs H Q _ => ∃ (wb w pr pb : Addr) (n L most pick : Int) (plain : Bool) (rows rs : List (Int × Int)) (us : List V) (rws : List (Int × List Int)) (bsd : List Int), vs = [.ref wb, .ref w, .ref pr, .int most, .bl plain, .ref pb, .int pick] ∧ Ask47 A H wb w pr pb n L most pick rows rs us rws bsd ∧ (plain = true → most = 1) ∧ ∀ H', Same H H' → Q (.bl true) H'
def t_law_asked (K : PySem.W.Frag) (A : CA) : TS :=
  (tSeq (tAsg (tCall (sp_law_judged K A) [] E0 (tCons (tVar 1) (tCons (tVar 3) (tCons (tLc (iRng1 (tCons (tOp (rIxT K) (tVar 1) (tC (.int 0))) tNil)) (gName 8) tYes (tOp (rIxT K) (tVar 1) (tC (.int 2))) [8]) (tCons (tVar 2) tNil))))) (gName 7))
  (tSeq (tAsg (tCall (sp_law_told K A) [] E0 (tCons (tVar 0) (tCons (tOp (rIxT K) (tVar 1) (tC (.int 2))) (tCons (tVar 2) (tCons (tOp oMul (tVar 3) (tCB oInt (tCons (tNotV (tVar 4)) tNil))) tNil))))) (gName 9))
  (tSeq (tIfS (tTest (tOp GF.rIsNB (tOp (rIxT K) (tVar 9) (tC (.int 2))) (tC (.bl true)))) (tRet (tC (.bl false))) tNext)
  (tSeq (tIfS (tB (tNotN (tOp (rIxT K) (tVar 7) (tC (.int 0))))) (tRet (tAndV (tOp rEq (tOp (rIxT K) (tVar 9) (tC (.int 0))) (tC (.str "refused"))) (tCall (sp_law_whole K A) [] E0 (tCons (tOp (rIxT K) (tVar 9) (tC (.int 1))) (tCons (tOp (rIxT K) (tVar 7) (tC (.int 0))) tNil))))) tNext)
  (tRet (tAndV (tOp rEq (tOp (rIxT K) (tVar 9) (tC (.int 0))) (tC (.str "start"))) (tCall (sp_law_least K A) [] E0 (tCons (tOp (rIxT K) (tVar 9) (tC (.int 1))) (tCons (tVar 0) (tCons (tVar 1) (tCons (tVar 2) (tCons (tVar 3) (tCons (tVar 5) (tCons (tVar 6) tNil))))))))))))))

theorem rd_law_asked {K : PySem.W.Frag} {A : CA} {vs : List V} {H : Hp} {Q : VK} {E : XK} (h : sp_law_asked K A vs H Q E) :
    t_law_asked K A { nx := fun _ H' => Q .non H', rt := Q } (start ["web", "world", "rows", "most", "plain", "beside", "pick", "due", "k", "told"] vs) H := by
  obtain ⟨wb, w, pr, pb, n, L, most, pick, plain, rows, rs, us, rws, bsd, rfl, hA, hpl, k0⟩ := h
  obtain ⟨pq, us2, hw, hpq, hP2, hul2⟩ := hA.wd.ex
  have n0 := hA.wd.n0
  have n1 := hA.wd.n1
  have L0 := hA.wd.L0
  have mo := hA.mo
  have m0 := hA.m0
  have hR := hA.so.rg hA.wd.rg
  unfold t_law_asked
  walk_at "go"
  refine lcR (fun Dl j H' => Same H H' ∧ H' Dl = some (.lst ((List.replicate j L).map V.int))) (fun Dl hD => ⟨same_new hD, upd_same⟩) ?_ ?_
  · rintro Dl j H1 hD hj ⟨e1, g1⟩
    have hw1 := e1 _ _ hw
    have sl : ((List.replicate j L).map V.int).length < sizeLine := small1000 (by rw [List.length_map, List.length_replicate]; omega)
    walk_at "go"
    refine ⟨same_mut e1 hD, ?_⟩
    rw [upd_same, List.replicate_succ', List.map_append]; rfl
  rintro fl H1 hfl ⟨e1, g1⟩
  have hA1 := hA.same e1
  walk_at "go"
  refine ⟨w, fl, pr, n, most, L, rows, List.replicate n.toNat L, us, rws, rfl, hA1.wd, g1, BK.rep L0, hA1.hr, hA1.hP, hA1.ul, hA1.rl, fun q2 l2 H2 _ _ e2 hq2 _ => ?_⟩
  have E2 := e1.trans e2
  have hA2 := hA.same E2
  have hw2 := E2 _ _ hw
  clear hA1 g1 hfl e1 e2
  walk_at "go"
  refine w_oIntB ?_
  refine w_oMulR (by cases plain <;> decide) (by cases plain <;> decide) ?_
  have em : mst (most * (if (!plain) = true then 1 else 0)) = most := by
    unfold mst
    cases plain with
    | true =>
      have := hpl rfl
      simp [this]
    | false =>
      have e : most * (if (!false) = true then (1 : Int) else 0) = most := by simp
      rw [e, if_neg (by omega)]
  have lem : most * (if (!plain) = true then 1 else 0) ≤ 10 := by
    cases plain with
    | true =>
      have e : most * (if (!true) = true then (1 : Int) else 0) = 0 := by simp
      rw [e]; decide
    | false =>
      have e : most * (if (!false) = true then (1 : Int) else 0) = most := by simp
      rw [e]; exact mo
  walk_at "go"
  refine ⟨wb, pr, n, L, _, rs, us, rws, rfl, hA2.hW, hR, n0, by omega, L0, lem, hA2.hr, hA2.hP, hA2.ul, hA2.rl, ?_, ?_⟩
  · rw [em]
    intro j q3 H3 hj e3 hq3
    rw [jud_perm hA.so.perm] at hj
    have hd3 := e3 _ _ hq2
    rw [hj] at hd3
    walk_at "go"
    refine w_isNB ?_
    refine ⟨_, rfl, w_neIf (by decide) ?_⟩
    walk_at "go"
    refine w_notNr ?_
    walk_at "go"
    refine w_ifT (nkV_s j) ?_
    walk_at "go"
    refine w_eqS (x := "refused") ?_
    walk_at "go"
    refine i_whole ?_
    exact k0 _ (E2.trans e3)
  · rw [em]
    intro st q3 H3 hj e3 hq3 hS3
    rw [jud_perm hA.so.perm] at hj
    obtain ⟨ok, e0, hpay, _⟩ := jud_none rws _ 0 hj
    have hd3 := e3 _ _ hq2
    rw [hj] at hd3
    have E3 := E2.trans e3
    have hA3 := hA.same E3
    rw [needL_perm hA.so.perm] at hS3
    walk_at "go"
    refine w_isNB ?_
    refine ⟨_, rfl, w_neIf (by decide) ?_⟩
    walk_at "go"
    refine w_notNr ?_
    walk_at "go"
    refine w_neIf nkV_n ?_
    walk_at "go"
    refine w_eqS (x := "start") ?_
    walk_at "go"
    exact ⟨st, wb, w, pr, pb, n, L, most, pick, rows, rs, us, rws, bsd, e0, rfl, ⟨hS3, hA.so, hA3.wd, hA3.hr, hA3.hP, hA.ul, hA.rl, mo, hA3.hb, hA.bd, ok, hpay, hA.p0, hA.p1⟩, fun H' e => k0 _ (E3.trans e)⟩
end G

end
section
local macro_rules | `(tactic| walk_at "call") => `(tactic| (refine' G.w_cnt ?g1 ?_; (case g1 => walk_at "sq")))

local macro_rules | `(tactic| walk_at "call") => `(tactic| (refine' G.w_popAt ?g1 ?g2 ?g3 ?g4 ?_; (case g1 => walk_at "hp"); (case g2 => walk_at "ar"); (case g3 => walk_at "ar"); (case g4 => walk_at "ar")))

local macro_rules | `(tactic| walk_at "call") => `(tactic| (refine' G.i_whole ?_))

local macro_rules | `(tactic| walk_at "bx") => `(tactic| first | assumption | exact G.Bx.new (by walk_at "bx") (by assumption) | exact G.Bx.same (by assumption) (by walk_at "bx"))
local macro_rules | `(tactic| walk_at "call") => `(tactic| (refine' G.i_take ?g1 ?g2 ?g3 ?_; (case g1 => walk_at "bx"); (case g2 => walk_at "ar"); (case g3 => walk_at "ar")))

local macro_rules | `(tactic| walk_at "call") => `(tactic| (refine' G.i_whole ?_))

local macro_rules | `(tactic| walk_at "call") => `(tactic| first | refine' G.w_makeV ?_ | refine' G.w_isref ?_ | refine' G.w_cmeth ?_)

namespace G
open PySem L2 GX
theorem FB.cut {H : Hp} {s a : Addr} (h : Bx H s a) : FB (cutL s H) H s a := ⟨by unfold cutL; rw [if_pos rfl], cutL_to fun _ _ _ z => z, h⟩
theorem but_cut {H : Hp} {s : Addr} : But s H (cutL s H) := fun _ _ n h => cutL_at h n
theorem pick8 {r : Int} (h0 : 0 ≤ r) (h1 : r < 8) : ∃ L : Int, [(1 : Int), 2, 3, 4, 5, 0, 2, 60][r.toNat]? = some L ∧ 0 ≤ L ∧ L ≤ 60 := by
  have : r = 0 ∨ r = 1 ∨ r = 2 ∨ r = 3 ∨ r = 4 ∨ r = 5 ∨ r = 6 ∨ r = 7 := by omega
  rcases this with rfl | rfl | rfl | rfl | rfl | rfl | rfl | rfl <;> exact ⟨_, rfl, by decide, by decide⟩
theorem pick5 {r : Int} (h0 : 0 ≤ r) (h1 : r < 5) : ∃ L : Int, [(1 : Int), 1, 2, 3, 5][r.toNat]? = some L ∧ 1 ≤ L ∧ L ≤ 5 := by
  have : r = 0 ∨ r = 1 ∨ r = 2 ∨ r = 3 ∨ r = 4 := by omega
  rcases this with rfl | rfl | rfl | rfl | rfl <;> exact ⟨_, rfl, by decide, by decide⟩
theorem pset47 {α β : Type} {F : α → β → Prop} : ∀ {l₁ : List α} {l₂ : List β} {a : α} {b : β} (i : Nat), Paired F l₁ l₂ → F a b → Paired F (l₁.set i a) (l₂.set i b)
  | _, _, _, _, _, .nil, _ => .nil
  | _, _, _, _, 0, .cons _ r, f => .cons f r
  | _, _, _, _, i + 1, .cons g r, f => .cons g (pset47 i r f)
theorem w_neRws0 {K : PySem.W.Frag} {H : Hp} {Q : VK} {p q : Addr} {us : List V} {l : List (Int × List Int)} (hp : H p = some (.lst us)) (h1 : Paired (RW H) us l) (hq : H q = some (.lst [])) (k : Q (.bl (!decide (us = []))) H) : rNeD K (.ref p) (.ref q) H Q := by
  refine ⟨.list (l.map rdD), .list [], .lst (SqL.of hp) (dp_rws h1), .lst (SqL.of hq) .nil, rdDs_shaped l, (by decide +kernel), ?_⟩
  show Q (.bl (!PyData.eqvAll (l.map rdD) [])) H
  have e : PyData.eqvAll (l.map rdD) [] = decide (us = []) := by
    cases h1 with
    | nil => rfl
    | cons a b => rfl
  rw [e]; exact k
theorem w_eqRR {K : PySem.W.Frag} {H : Hp} {Q : VK} {p q : Addr} {us ws : List V} {r s : List (Int × Int)} (hp : H p = some (.lst us)) (h1 : Paired (PR H) us r) (hq : H q = some (.lst ws)) (h2 : Paired (PR H) ws s) (k : Q (.bl (decide (r = s))) H) : rEqD K (.ref p) (.ref q) H Q := by
  refine ⟨_, _, dp_rows hp h1, dp_rows hq h2, pds_shaped r, pds_shaped s, ?_⟩
  show Q (.bl (PyData.eqvAll (r.map pd) (s.map pd))) H
  rw [pds_eqv2]; exact k
def sp_law (K : PySem.W.Frag) (A : CA) : Sp := fun vs H Q _ => ∃ (a : Addr) (ns : List Int), vs = [.ref a] ∧ SqL K H a (ns.map V.int) ∧ ns.length ≤ 63 ∧ ∀ H', Q (.bl true) H'
def t_law (K : PySem.W.Frag) (A : CA) : TS :=
  (tSeq (tAsg (tCall (sp_law_box K A) [] E0 (tCons (tVar 0) tNil)) (gName 1))
  (tSeq (tAsg (tCall (sp_law_pages K A) [] E0 (tCons (tVar 1) tNil)) (gName 2))
  (tSeq (tAsg (tOp (rIxL K) (tLst (tCons (tC (.int 1)) (tCons (tC (.int 2)) (tCons (tC (.int 3)) (tCons (tC (.int 4)) (tCons (tC (.int 5)) (tCons (tC (.int 0)) (tCons (tC (.int 2)) (tCons (tC (.int 60)) tNil))))))))) (tCall (sp_law_take K A) [] E0 (tCons (tVar 1) (tCons (tC (.int 8)) tNil)))) (gName 3))
  (tSeq (tAsg (tTup (tCons (tVar 2) (tCons (tCall (sp_law_pairs K A) [] E0 (tCons (tVar 1) (tCons (tVar 2) tNil))) (tCons (tVar 3) tNil)))) (gName 4))
  (tSeq (tAsg (tOp (rIxL K) (tLst (tCons (tC (.int 1)) (tCons (tC (.int 1)) (tCons (tC (.int 2)) (tCons (tC (.int 3)) (tCons (tC (.int 5)) tNil)))))) (tCall (sp_law_take K A) [] E0 (tCons (tVar 1) (tCons (tC (.int 5)) tNil)))) (gName 5))
  (tSeq (tAsg (tCall (sp_law_rows K A) [] E0 (tCons (tVar 1) (tCons (tVar 4) (tCons (tLc (iRng1 (tCons (tVar 2) tNil)) (gName 7) tYes (tVar 3) [7]) (tCons (tVar 5) tNil))))) (gName 6))
  (C8.tCut (tIfS (tAnd (tTest (tOp rEq (tCall (sp_law_take K A) [] E0 (tCons (tVar 1) (tCons (tC (.int 3)) tNil))) (tC (.int 2)))) (tTest (tOp (rNeD K) (tVar 6) (tLst tNil)))) (tSeq (tAsg (tCall (sp_law_take K A) [] E0 (tCons (tVar 1) (tCons (tCB (rLenQ K) (tCons (tVar 6) tNil)) tNil))) (gName 8))
  (tAsg (tCall (sp_law_spoilt K A) [] E0 (tCons (tVar 1) (tCons (tVar 2) (tCons (tVar 5) (tCons (tOp (rIxL K) (tVar 6) (tVar 8)) tNil))))) (gSub (tVar 6) (tVar 8) rSetL))) tNext)
  (tSeq (tAsg (tCall (sp_law_take K A) [] E0 (tCons (tVar 1) (tCons (tOp oAdd (tCB (rLenQ K) (tCons (tVar 6) tNil)) (tC (.int 1))) tNil))) (gName 9))
  (tSeq (tAsg (tOp oAdd (tC (.int 1)) (tCall (sp_law_take K A) [] E0 (tCons (tVar 1) (tCons (tC (.int 6)) tNil)))) (gName 10))
  (tSeq (tAsg (tLc (iRng1 (tCons (tVar 2) tNil)) (gName 7) tYes (tVar 3) [7]) (gName 11))
  (tSeq (tFor (iRng1 (tCons (tVar 2) tNil)) (gName 7)
  (tIfS (tTest (tOp rEq (tCall (sp_law_take K A) [] E0 (tCons (tVar 1) (tCons (tC (.int 2)) tNil))) (tC (.int 1)))) (tAsg (tCall (sp_law_take K A) [] E0 (tCons (tVar 1) (tCons (tOp oAdd (tVar 3) (tC (.int 1))) tNil))) (gSub (tVar 11) (tVar 7) rSetL)) tNext))
  (tSeq (tAsg (tCall (sp_law_take K A) [] E0 (tCons (tVar 1) (tCons (tVar 2) tNil))) (gName 12))
  (tSeq (tAsg (tMake A.Web (sp_Web_init K A) [] E0 (tCons (tVar 2) (tCons (tCB (oListOf K) (tCons (tOp (rIxT K) (tVar 4) (tC (.int 1))) tNil)) tNil))) (gName 13))
  (tSeq (tAsg (tCB (rSortedPO K) (tCons (tOp (rIxT K) (tVar 4) (tC (.int 1))) tNil)) (gName 14))
  (tSeq (tIfS (tNot (tB (tCall (sp_law_asked K A) [] E0 (tCons (tVar 13) (tCons (tVar 4) (tCons (tVar 6) (tCons (tVar 5) (tCons (tC (.bl false)) (tCons (tVar 11) (tCons (tVar 12) tNil)))))))))) (tRet (tC (.bl false))) tNext)
  (tSeq (tIfS (tAnd (tTest (tOp rEq (tVar 5) (tC (.int 1)))) (tNot (tB (tCall (sp_law_asked K A) [] E0 (tCons (tVar 13) (tCons (tVar 4) (tCons (tVar 6) (tCons (tC (.int 1)) (tCons (tC (.bl true)) (tCons (tVar 11) (tCons (tVar 12) tNil))))))))))) (tRet (tC (.bl false))) tNext)
  (tSeq (tIfS (tNot (tB (tCall (sp_law_asked K A) [] E0 (tCons (tVar 13) (tCons (tVar 4) (tCons (tSl (rSlL K) (tVar 6) tNoPart (tPart (tVar 9))) (tCons (tVar 5) (tCons (tC (.bl false)) (tCons (tVar 11) (tCons (tVar 12) tNil)))))))))) (tRet (tC (.bl false))) tNext)
  (tSeq (tIfS (tNot (tB (tCall (sp_law_asked K A) [] E0 (tCons (tVar 13) (tCons (tVar 4) (tCons (tVar 6) (tCons (tVar 10) (tCons (tC (.bl false)) (tCons (tVar 11) (tCons (tVar 12) tNil)))))))))) (tRet (tC (.bl false))) tNext)
  (tRet (tOp (rEqD K) (tMeth A.Web "arrows" (sp_Web_arrows K A) [] E0 (tVar 13) tNil) (tVar 14)))))))))))))))))))))

theorem rd_law {K : PySem.W.Frag} {A : CA} {vs : List V} {H : Hp} {Q : VK} {E : XK} (h : sp_law K A vs H Q E) :
    t_law K A { nx := fun _ H' => Q .non H', rt := Q } (start ["script", "box", "pages", "lines", "world", "most", "rows", "k", "at", "cut", "other", "beside", "pick", "web", "arrows"] vs) H := by
  obtain ⟨a0, ns, rfl, ht, hn, q⟩ := h
  unfold t_law
  walk_at "go"
  refine ⟨a0, ns, rfl, ht, hn, fun s a H1 hs e1 s1 => ?_⟩
  walk_at "go"
  refine ⟨s, a, rfl, s1, fun n H2 n0 n1 b2 s2 => ?_⟩
  clear b2 s1
  walk_at "go"
  intro l3 hl3
  have s3 := Bx.new (o := .lst [V.int 1, V.int 2, V.int 3, V.int 4, V.int 5, V.int 0, V.int 2, V.int 60]) s2 hl3
  have g3 : (upd H2 l3 (.lst [V.int 1, V.int 2, V.int 3, V.int 4, V.int 5, V.int 0, V.int 2, V.int 60])) l3 = some (.lst [V.int 1, V.int 2, V.int 3, V.int 4, V.int 5, V.int 0, V.int 2, V.int 60]) := upd_same
  have nl3 := s2.neS hl3
  generalize upd H2 l3 (.lst [V.int 1, V.int 2, V.int 3, V.int 4, V.int 5, V.int 0, V.int 2, V.int 60]) = H3 at s3 g3
  clear s2 hl3
  walk_at "go"
  intro r8 H4 x0 x1 b4 s4
  have g4 := b4.at nl3 g3
  clear s3 b4 g3
  obtain ⟨L, hL, L0, L1⟩ := pick8 x0 x1
  have av : atI [V.int 1, V.int 2, V.int 3, V.int 4, V.int 5, V.int 0, V.int 2, V.int 60] r8 = some (V.int L) := at_of (j := r8.toNat) (by omega) (show ([(1 : Int), 2, 3, 4, 5, 0, 2, 60].map V.int)[r8.toNat]? = _ by rw [List.getElem?_map, hL]; rfl)
  walk_at "go"
  clear g4 av
  refine ⟨s, a, n, rfl, s4, n0, n1, fun us rows pq H5 hul hR gr => ?_⟩
  obtain ⟨-, s5, gp, hP, -, np, -⟩ := gr
  clear s4
  walk_at "go"
  intro w hw
  have e6 := same_new (o := .tup [V.int n, .ref pq, .int L]) hw
  have gw : (upd H5 w (.tup [V.int n, .ref pq, .int L])) w = some (.tup [V.int n, .ref pq, .int L]) := upd_same
  generalize upd H5 w (.tup [V.int n, .ref pq, .int L]) = H6 at e6 gw
  have s6 := s5.same e6
  have nw := s5.neS hw
  have gp6 := e6 _ _ gp
  have hP6 := PRs.same e6 hP
  clear s5 hw e6 gp hP
  walk_at "go"
  intro l8 hl8
  have e7 := same_new (o := .lst [V.int 1, .int 1, .int 2, .int 3, .int 5]) hl8
  have g7 : (upd H6 l8 (.lst [V.int 1, .int 1, .int 2, .int 3, .int 5])) l8 = some (.lst [V.int 1, .int 1, .int 2, .int 3, .int 5]) := upd_same
  have nl8 := s6.neS hl8
  generalize upd H6 l8 (.lst [V.int 1, .int 1, .int 2, .int 3, .int 5]) = H7 at e7 g7
  have s7 := s6.same e7
  have gw7 := e7 _ _ gw
  have gp7 := e7 _ _ gp6
  have hP7 := PRs.same e7 hP6
  clear s6 gw gp6 hP6 hl8 e7
  walk_at "go"
  intro r5 H8 y0 y1 b8 s8
  have g8 := b8.at nl8 g7
  have gw8 := b8.at nw gw7
  have gp8 := b8.at np gp7
  have hP8 := PRs.butB b8 s7 hP7
  clear s7 gw7 gp7 hP7 b8 g7
  obtain ⟨most, hM, m0, m1⟩ := pick5 y0 y1
  have av : atI [V.int 1, .int 1, .int 2, .int 3, .int 5] r5 = some (V.int most) := at_of (j := r5.toNat) (by omega) (show ([(1 : Int), 1, 2, 3, 5].map V.int)[r5.toNat]? = _ by rw [List.getElem?_map, hM]; rfl)
  walk_at "go"
  clear g8 av
  refine lcR (fun Dl j H' => Same H8 H' ∧ H' Dl = some (.lst ((List.replicate j L).map V.int))) (fun Dl hD => ⟨same_new hD, upd_same⟩) ?_ ?_
  · rintro Dl j H9 hD hj ⟨e9, g9⟩
    have sl : ((List.replicate j L).map V.int).length < sizeLine := small1000 (by rw [List.length_map, List.length_replicate]; omega)
    walk_at "go"
    refine ⟨same_mut e9 hD, ?_⟩
    rw [upd_same, List.replicate_succ', List.map_append]; rfl
  rintro pb H9 hpb ⟨e9, g9⟩
  have npb := s8.neS hpb
  have s9 := s8.same e9
  obtain ⟨B, f9, WB, gB⟩ : ∃ B, FB B H9 s a ∧ WDat B w n L rows ∧ B pb = some (.lst ((List.replicate n.toNat L).map V.int)) := ⟨cutL s H9, FB.cut s9, ⟨⟨pq, us, cutL_at (e9 _ _ gw8) nw, cutL_at (e9 _ _ gp8) np, PRs.butB but_cut s9 (PRs.same e9 hP8), hul⟩, hR, n0, n1, L0, L1⟩, cutL_at g9 npb⟩
  clear s8 gw8 gp8 hP8 nw np e9 g9 hpb npb s9
  walk_at "go"
  refine ⟨B, s, a, w, pb, n, L, most, rows, _, rfl, f9, WB, gB, BK.rep L0, by omega, m1, fun rus rws pr H10 rul hG prB prS prA f10 g10 hPr => ?_⟩
  clear f9 gB
  have s10 := f10.bx
  have rl10 : ∀ r ∈ rws, r.2.length ≤ 7 := fun r hr => Nat.le_trans (hG r hr).2.2.2 (by decide)
  walk_at "go"
  refine w_cut (fun σ H' => ∃ (k8 : Option V) (us : List V) (rws : List (Int × List Int)), σ = [some (.ref a0), some (.ref s), some (.int n), some (.int L), some (.ref w), some (.int most), some (.ref pr), none, k8, none, none, none, none, none, none] ∧ FB B H' s a ∧ H' pr = some (.lst us) ∧ Paired (RW H') us rws ∧ us.length ≤ 41 ∧ ∀ r ∈ rws, r.2.length ≤ 8) ?_ ?_
  · walk_at "go"
    intro t3 H11 z0 z1 b11 s11
    have f11 := f10.but b11 s11
    have g11 := b11.at prS g10
    have hPr11 := RWs.butB b11 s10 hPr
    clear f10 g10 hPr s10 b11
    walk_at "go"
    refine w_iteD (fun c => ?_) (fun c => ?_)
    · walk_at "go"
      intro le hle
      have e12 := same_new (o := .lst []) hle
      have gle : (upd H11 le (.lst [])) le = some (.lst []) := upd_same
      have f12 := f11.new (o := .lst []) hle
      have g12 := e12 _ _ g11
      have hPr12 := RWs.same e12 hPr11
      generalize upd H11 le (.lst []) = H12 at e12 gle f12 g12 hPr12
      clear f11 g11 hPr11 e12 s11
      have s12 := f12.bx
      refine w_neRws0 g12 hPr12 gle ?_
      refine ⟨_, rfl, ?_⟩
      clear gle
      refine w_iteN (fun c2 => ?_) (fun c2 => ?_)
      · have pos : 0 < rus.length := List.length_pos_iff.mpr c2
        have cU : 0 < ((rus.length : Nat) : Int) := by omega
        have cL : ((rus.length : Nat) : Int) < 1000000 := by omega
        walk_at "go"
        intro at_ H13 a0_ a1_ b13 s13
        have f13 := f12.but b13 s13
        have g13 := b13.at prS g12
        have hP13 := RWs.butB b13 s12 hPr12
        clear f12 g12 hPr12 s12 b13
        obtain ⟨v, hv⟩ : ∃ v, rus[at_.toNat]? = some v := ⟨_, List.getElem?_eq_getElem (by omega)⟩
        obtain ⟨r, hr, t, u, rfl, gt, gu⟩ := Paired.at' hP13 hv
        have av : atI rus at_ = some (.ref t) := at_of (j := at_.toNat) (by omega) hv
        have rl1 := rl10 r (List.mem_of_getElem? hr)
        walk_at "go"
        refine ⟨s, a, t, u, n, most, r.1, r.2, 7, rfl, s13, gt, gu, rl1, by omega, by omega, n0, n1, by omega, m1, fun v' r' H14 b14 s14 hv' hl' => ?_⟩
        have f14 := f13.but b14 s14
        have g14 := b14.at prS g13
        have hP14 := RWs.butB b14 s13 hP13
        walk_at "go"
        have hP15 : Paired (RW (upd H14 pr (.lst (rus.set at_.toNat v')))) rus rws := hP14.mono fun _ _ z => RW.mutL g14 z
        refine w_setL g14 (ixn (j := at_.toNat) (by omega) (by omega)) ?_
        exact ⟨_, rus.set at_.toNat v', rws.set at_.toNat r', rfl, f14.mut prB prS prA, upd_same, pset47 _ hP15 (RW.mutL g14 hv'), by rw [List.length_set]; exact rul, fun y hy => (by
          rcases List.mem_or_eq_of_mem_set hy with h | h
          · have := rl10 y h; omega
          · subst h; omega)⟩
      · walk_at "go"
        exact ⟨_, rus, rws, rfl, f12, g12, hPr12, rul, fun y hy => (by have := rl10 y hy; omega)⟩
    · walk_at "go"
      exact ⟨_, rus, rws, rfl, f11, g11, hPr11, rul, fun y hy => (by have := rl10 y hy; omega)⟩
  clear f10 g10 hPr s10 rl10 rul hG
  rintro σ H13 ⟨k8, us2, rws2, rfl, f13, g13, hP13, ul, rl⟩
  have s13 := f13.bx
  have cU : 0 < ((us2.length : Nat) : Int) + 1 := by omega
  have cL : ((us2.length : Nat) : Int) + 1 < 1000000 := by omega
  walk_at "go"
  intro cut H14 c0 c1 b14 s14
  have f14 := f13.but b14 s14
  have g14 := b14.at prS g13
  have hP14 := RWs.butB b14 s13 hP13
  clear f13 g13 hP13 s13 b14
  walk_at "go"
  intro o6 H15 o0 o1 b15 s15
  have f15 := f14.but b15 s15
  have g15 := b15.at prS g14
  have hP15 := RWs.butB b15 s14 hP14
  clear f14 g14 hP14 s14 b15 cU cL
  walk_at "go"
  refine lcR (fun Dl j H' => Same H15 H' ∧ H' Dl = some (.lst ((List.replicate j L).map V.int))) (fun Dl hD => ⟨same_new hD, upd_same⟩) ?_ ?_
  · rintro Dl j H9 hD hj ⟨e9, g9⟩
    have sl : ((List.replicate j L).map V.int).length < sizeLine := small1000 (by rw [List.length_map, List.length_replicate]; omega)
    walk_at "go"
    refine ⟨same_mut e9 hD, ?_⟩
    rw [upd_same, List.replicate_succ', List.map_append]; rfl
  rintro bd H16 hbd ⟨e16, g16⟩
  have nbS := s15.neS hbd
  have nbA := s15.neA hbd
  have bdB : B bd = none := f15.free hbd
  have nbp : bd ≠ pr := fun z => by rw [z, g15] at hbd; cases hbd
  have f16 := f15.same e16
  have gr16 := e16 _ _ g15
  have hP16 := RWs.same e16 hP15
  clear f15 g15 hP15 s15 e16 hbd
  walk_at "go"
  refine forR (fun i σ H' => ∃ (k7 : Option V) (xs : List Int), σ = [some (.ref a0), some (.ref s), some (.int n), some (.int L), some (.ref w), some (.int most), some (.ref pr), k7, k8, some (.int cut), some (.int (1 + o6)), some (.ref bd), none, none, none] ∧ FB B H' s a ∧ H' pr = some (.lst us2) ∧ Paired (RW H') us2 rws2 ∧ H' bd = some (.lst (xs.map V.int)) ∧ BK L n.toNat xs) ?_ ?_ ?_
  · exact ⟨none, _, rfl, f16, gr16, hP16, g16, BK.rep L0⟩
  · clear f16 gr16 hP16 g16
    rintro i σ H17 hi ⟨k7, xs, rfl, f17, gr17, hP17, gb17, hB17⟩
    have iN : i < n.toNat := hi
    have s17 := f17.bx
    have xl := hB17.len
    walk_at "go"
    intro t2 H18 z0 z1 b18 s18
    have f18 := f17.but b18 s18
    have gr18 := b18.at prS gr17
    have gb18 := b18.at nbS gb17
    have hP18 := RWs.butB b18 s17 hP17
    clear f17 gr17 gb17 hP17 s17 b18
    have cL : L + 1 < 1000000 := by omega
    walk_at "go"
    refine w_iteD (fun c => ?_) (fun c => ?_)
    · walk_at "go"
      intro z H19 y0 y1 b19 s19
      have f19 := f18.but b19 s19
      have gr19 := b19.at prS gr18
      have gb19 := b19.at nbS gb18
      have hP19 := RWs.butB b19 s18 hP18
      clear f18 gr18 gb18 hP18 s18 b19
      walk_at "go"
      refine w_setL gb19 (ixn (j := i) (by omega) (by rw [List.length_map]; omega)) ?_
      exact ⟨_, xs.set i z, rfl, f19.mut bdB nbS nbA, keepNe gr19 nbp.symm, hP19.mono fun _ _ q => RW.mutL gb19 q, by rw [upd_same, List.map_set], hB17.set y0 (by omega)⟩
    · walk_at "go"
      exact ⟨_, xs, rfl, f18, gr18, hP18, gb18, hB17⟩
  clear f16 gr16 hP16 g16
  rintro σ H17 ⟨k7, xs, rfl, f17, gr17, hP17, gb17, hB17⟩
  have s17 := f17.bx
  walk_at "go"
  intro pick H18 p0 p1 b18 s18
  have f18 := f17.but b18 s18
  have gr18 := b18.at prS gr17
  have gb18 := b18.at nbS gb17
  have hP18 := RWs.butB b18 s17 hP17
  have W18 := WB.same f18.all
  clear f17 gr17 gb17 hP17 s17 b18 f18 s18 prB prS prA WB nbS nbA bdB nbp
  obtain ⟨pq2, us3, gw, gp, hPq, ul3⟩ := W18.ex
  walk_at "go"
  intro l19 hl19
  have e19 := same_new (o := .lst us3) hl19
  have g19 : (upd H18 l19 (.lst us3)) l19 = some (.lst us3) := upd_same
  have hP19 := PRs.same e19 hPq
  generalize upd H18 l19 (.lst us3) = H19 at e19 g19 hP19
  walk_at "go"
  intro x dx hx hdx nx
  refine i_web hx hdx nx g19 hP19 (by omega) n0 (by omega) hR fun rs H20 hS hRs e20 hW _ => ⟨rfl, ?_⟩
  have e20 := e19.trans e20
  have gw20 := e20 _ _ gw
  have gp20 := e20 _ _ gp
  have gr20 := e20 _ _ gr18
  clear hx hdx nx hP19 g19 hl19 e19
  walk_at "go"
  refine w_sortP gp20 (PRs.same e20 hPq) fun rs2 ys ar hso2 har _ hys => ?_
  obtain rfl : rs2 = rs := hso2.uniq hS
  have e21 := same_new (o := .lst ys) har
  have gar : (upd H20 ar (.lst ys)) ar = some (.lst ys) := upd_same
  have hys21 := PRs.new (o := .lst ys) har hys
  have hW21 := hW.same e21
  have E21 := e20.trans e21
  generalize upd H20 ar (.lst ys) = H21 at e21 gar hys21 hW21 E21
  have hul2 : us2.length = rws2.length := hP18.length
  have A21 : ∀ m : Int, 1 ≤ m → m ≤ 10 → Ask47 A H21 x w pr bd n L m pick rows rs2 us2 rws2 xs := fun m h0 h1 => ⟨hW21, hso2, W18.same E21, E21 _ _ gr18, RWs.same E21 hP18, by omega, fun r hr => by have := rl r hr; omega, h0, h1, E21 _ _ gb18, hB17, p0, p1⟩
  clear gw20 gp20 gr20 e20 e21 har hys hW gw gp hPq gr18 gb18 hP18 W18 E21
  walk_at "go"
  refine ⟨x, w, pr, bd, n, L, most, pick, false, rows, rs2, us2, rws2, xs, rfl, A21 most m0 (by omega), (fun z => nomatch z), fun H22 e22 => ?_⟩
  walk_at "go"
  refine w_iteNT ?_
  have ct : ∃ c : Nat, cut = (c : Int) := ⟨cut.toNat, by omega⟩
  obtain ⟨ct, rfl⟩ := ct
  have cle : ct ≤ us2.length := by omega
  refine w_next ?_
  with_reducible refine w_fork47 (fun σ H' => σ = [some (.ref a0), some (.ref s), some (.int n), some (.int L), some (.ref w), some (.int most), some (.ref pr), k7, k8, some (.int ct), some (.int (1 + o6)), some (.ref bd), some (.int pick), some (.ref x), some (.ref ar)] ∧ Same H21 H') ?_ fun rest => ?_
  · clear e22
    rintro σ H23 ⟨rfl, e23⟩
    have gr23 := ((A21 1 (by omega) (by omega)).same e23).hr
    walk_at "go"
    rw [cut_to us2 ct cle]
    intro l24 hl24
    have e24 := same_new (o := .lst (us2.take ct)) hl24
    have g24 : (upd H23 l24 (.lst (us2.take ct))) l24 = some (.lst (us2.take ct)) := upd_same
    generalize upd H23 l24 (.lst (us2.take ct)) = H24 at e24 g24
    have E24 := e23.trans e24
    clear hl24 e24 gr23
    have A24 := (A21 most m0 (by omega)).same E24
    have tl : (us2.take ct).length ≤ 100 := by rw [List.length_take]; omega
    walk_at "go"
    refine ⟨x, w, l24, bd, n, L, most, pick, false, rows, rs2, us2.take ct, rws2.take ct, xs, rfl, ⟨A24.hW, A24.so, A24.wd, g24, Paired.take ct A24.hP, tl, fun r hr => A24.rl r (List.mem_of_mem_take hr), A24.m0, A24.mo, A24.hb, A24.bd, A24.p0, A24.p1⟩, (fun z => nomatch z), fun H25 e25 => ?_⟩
    have E25 := E24.trans e25
    clear A24 g24 E24 e25
    walk_at "go"
    refine w_iteNT ?_
    walk_at "go"
    refine ⟨x, w, pr, bd, n, L, 1 + o6, pick, false, rows, rs2, us2, rws2, xs, rfl, (A21 (1 + o6) (by omega) (by omega)).same E25, (fun z => nomatch z), fun H26 e26 => ?_⟩
    have E26 := E25.trans e26
    clear e26 E25
    have hW26 := hW21.same E26
    obtain ⟨dw, d0, ar1, tg, hd0, gw⟩ := hW26.obj
    walk_at "go"
    refine w_iteNT ?_
    walk_at "go"
    refine w_mth2 gw web_noarrows ?_
    walk_at "go"
    refine ⟨x, n, rs2, rfl, hW26, fun us4 p4 H27 hp4 e27 g27 hP27 hl27 => ?_⟩
    have gar27 := e27 _ _ (E26 _ _ gar)
    have hys27 := PRs.same (E26.trans e27) hys21
    walk_at "go"
    refine w_eqRR g27 hP27 gar27 hys27 ?_
    rw [decide_eq_true rfl]
    exact q _
  · walk_at "go"
    refine w_iteD (fun c => ?_) (fun _ => rest _ _ ⟨rfl, e22⟩)
    subst c
    walk_at "go"
    refine ⟨x, w, pr, bd, n, L, 1, pick, true, rows, rs2, us2, rws2, xs, rfl, (A21 1 (by omega) (by omega)).same e22, (fun _ => rfl), fun H23 e23 => ?_⟩
    walk_at "go"
    refine w_iteNT ?_
    exact rest _ _ ⟨rfl, e22.trans e23⟩
end G

end
namespace G
open PySem L2 GX
structure CT (K : PySem.W.Frag) (A : CA) : Prop where
  c_Web : Cls K A.Web
  n_Web__arrows : NoAttr K A.Web "_arrows"
  n_Web__holders : NoAttr K A.Web "_holders"
  n_Web__known : NoAttr K A.Web "_known"
  n_Web__targets : NoAttr K A.Web "_targets"
  n_Web_pages : NoAttr K A.Web "pages"
  e_NoPage : OexC K A.NoPage
  f_NoPage_page : PySem.W.findIn K (.ref A.NoPage) "page" = some none
  e_InvalidPointer : OexC K A.InvalidPointer
  f_InvalidPointer_index : PySem.W.findIn K (.ref A.InvalidPointer) "index" = some none
  c_Standing : Cls K A.Standing
  n_Standing__blank : NoAttr K A.Standing "_blank"
  n_Standing_lines : NoAttr K A.Standing "lines"
  n_Standing_web : NoAttr K A.Standing "web"
  e_NoLine : OexC K A.NoLine
  f_NoLine_page : PySem.W.findIn K (.ref A.NoLine) "page" = some none
  e_InvalidStanding : OexC K A.InvalidStanding
  f_InvalidStanding_page : PySem.W.findIn K (.ref A.InvalidStanding) "page" = some none
  m_NoLine : PySem.W.exmOne K (.ref A.NoLine) (.ref A.NoLine) = some true
  e_NoStart : OexC K A.NoStart
  f_NoStart_index : PySem.W.findIn K (.ref A.NoStart) "index" = some none
  x_NoStart : ExcC K A.NoStart
  xf_NoStart : XfC K A.NoStart
  m_NoStart : PySem.W.exmOne K (.ref A.NoStart) (.ref A.NoStart) = some true
  k_NoStart_OnecopyError : PySem.W.kitOne K (.ref A.NoStart) (.ref A.OnecopyError) = some true
  k_NoStart_ValueError : PySem.W.kitOne K (.ref A.NoStart) (.type "ValueError") = some true
  ka_NoStart : PySem.W.kitAny K (.ref A.NoStart) [.ref A.LotError, .ref A.NoIndex, .ref A.NoLine, .ref A.NoPage] = some false
  i_Web : InsC K A.Web
  i_Standing : InsC K A.Standing
section
variable {K : PySem.W.Frag} {A : CA} (C : CT K A)
include C
theorem CT.b : CTB K A := ⟨C.c_Web, C.n_Web__arrows, C.n_Web__holders, C.n_Web__known, C.n_Web__targets, C.n_Web_pages, C.e_NoPage, C.f_NoPage_page, C.e_InvalidPointer, C.f_InvalidPointer_index⟩
theorem CT.s : CTS K A := ⟨C.b, C.c_Standing, C.n_Standing__blank, C.n_Standing_lines, C.n_Standing_web, C.e_NoLine, C.f_NoLine_page, C.e_InvalidStanding, C.f_InvalidStanding_page⟩
theorem CT.g : CTG K A := ⟨C.m_NoLine⟩
theorem CT.n : CTN K A := ⟨C.e_NoStart, C.f_NoStart_index⟩
theorem CT.i : CTI K A := ⟨C.s, C.i_Web, C.i_Standing⟩
theorem CT.m : CTM K A := ⟨C.x_NoStart, C.m_NoStart, C.k_NoStart_OnecopyError, C.k_NoStart_ValueError, C.ka_NoStart⟩
end
end G

namespace G
open PySem L2
structure Txt (mg : Str → Option Value) (A : CA) : Prop where
  b_ValueError : mg "ValueError" = none
  b_abs : mg "abs" = none
  b_all : mg "all" = none
  b_any : mg "any" = none
  b_bool : mg "bool" = none
  b_enumerate : mg "enumerate" = none
  b_int : mg "int" = none
  b_isinstance : mg "isinstance" = none
  b_len : mg "len" = none
  b_list : mg "list" = none
  b_min : mg "min" = none
  b_range : mg "range" = none
  b_set : mg "set" = none
  b_sorted : mg "sorted" = none
  b_tuple : mg "tuple" = none
  b_zip : mg "zip" = none
  g_LotError : mg "LotError" = some (.ref A.LotError)
  g_NoIndex : mg "NoIndex" = some (.ref A.NoIndex)
  g_NoLine : mg "NoLine" = some (.ref A.NoLine)
  g_NoPage : mg "NoPage" = some (.ref A.NoPage)
  g_NoStart : mg "NoStart" = some (.ref A.NoStart)
  g_OnecopyError : mg "OnecopyError" = some (.ref A.OnecopyError)
  g_Standing : mg "Standing" = some (.ref A.Standing)
  g_Web : mg "Web" = some (.ref A.Web)
variable {P : Program} {w : World} {K : PySem.W.Frag} {mg : Str → Option Value} {base : Heap} {A : CA}
theorem sc_InvalidPointer_init : FnScope ["self", "index"] ["self", "index"] (defScope s_InvalidPointer_init) := ⟨rfl, rfl, rfl, by decide +kernel, rfl, by decide +kernel, by decide +kernel⟩
theorem fn_InvalidPointer_init {f : Addr} {fd : FuncData} (F : Fun K "__init__" "InvalidPointer.__init__" s_InvalidPointer_init f fd) : FnOk P w K mg base CX0 1 f fd ["self", "index"] (GX.sp_err K A.InvalidPointer "index") :=
  F.ok sc_InvalidPointer_init (fun vs H Q E h => by obtain ⟨_, _, rfl, _⟩ := h; rfl) (fun cdv Ar outer s H vs Q E hr h => ⟨GX.t_err K "index", (pss_one (ps_ost (pv 0) (pv 1))), GX.rd_err h⟩)
theorem bi_InvalidPointer_init {f : Addr} {fd : FuncData} (F : Fun K "__init__" "InvalidPointer.__init__" s_InvalidPointer_init f fd) : Binds K fd ["self", "index"] [] := F.binds fun _ _ _ _ _ _ us hl => match us, hl with | [_, _], _ => rfl
theorem sc_InvalidStanding_init : FnScope ["self", "page"] ["self", "page"] (defScope s_InvalidStanding_init) := ⟨rfl, rfl, rfl, by decide +kernel, rfl, by decide +kernel, by decide +kernel⟩
theorem fn_InvalidStanding_init {f : Addr} {fd : FuncData} (F : Fun K "__init__" "InvalidStanding.__init__" s_InvalidStanding_init f fd) : FnOk P w K mg base CX0 1 f fd ["self", "page"] (GX.sp_err K A.InvalidStanding "page") :=
  F.ok sc_InvalidStanding_init (fun vs H Q E h => by obtain ⟨_, _, rfl, _⟩ := h; rfl) (fun cdv Ar outer s H vs Q E hr h => ⟨GX.t_err K "page", (pss_one (ps_ost (pv 0) (pv 1))), GX.rd_err h⟩)
theorem bi_InvalidStanding_init {f : Addr} {fd : FuncData} (F : Fun K "__init__" "InvalidStanding.__init__" s_InvalidStanding_init f fd) : Binds K fd ["self", "page"] [] := F.binds fun _ _ _ _ _ _ us hl => match us, hl with | [_, _], _ => rfl
theorem sc_NoLine_init : FnScope ["self", "page"] ["self", "page"] (defScope s_NoLine_init) := ⟨rfl, rfl, rfl, by decide +kernel, rfl, by decide +kernel, by decide +kernel⟩
theorem fn_NoLine_init {f : Addr} {fd : FuncData} (F : Fun K "__init__" "NoLine.__init__" s_NoLine_init f fd) : FnOk P w K mg base CX0 1 f fd ["self", "page"] (GX.sp_err K A.NoLine "page") :=
  F.ok sc_NoLine_init (fun vs H Q E h => by obtain ⟨_, _, rfl, _⟩ := h; rfl) (fun cdv Ar outer s H vs Q E hr h => ⟨GX.t_err K "page", (pss_one (ps_ost (pv 0) (pv 1))), GX.rd_err h⟩)
theorem bi_NoLine_init {f : Addr} {fd : FuncData} (F : Fun K "__init__" "NoLine.__init__" s_NoLine_init f fd) : Binds K fd ["self", "page"] [] := F.binds fun _ _ _ _ _ _ us hl => match us, hl with | [_, _], _ => rfl
theorem sc_NoPage_init : FnScope ["self", "page"] ["self", "page"] (defScope s_NoPage_init) := ⟨rfl, rfl, rfl, by decide +kernel, rfl, by decide +kernel, by decide +kernel⟩
theorem fn_NoPage_init {f : Addr} {fd : FuncData} (F : Fun K "__init__" "NoPage.__init__" s_NoPage_init f fd) : FnOk P w K mg base CX0 1 f fd ["self", "page"] (GX.sp_err K A.NoPage "page") :=
  F.ok sc_NoPage_init (fun vs H Q E h => by obtain ⟨_, _, rfl, _⟩ := h; rfl) (fun cdv Ar outer s H vs Q E hr h => ⟨GX.t_err K "page", (pss_one (ps_ost (pv 0) (pv 1))), GX.rd_err h⟩)
theorem bi_NoPage_init {f : Addr} {fd : FuncData} (F : Fun K "__init__" "NoPage.__init__" s_NoPage_init f fd) : Binds K fd ["self", "page"] [] := F.binds fun _ _ _ _ _ _ us hl => match us, hl with | [_, _], _ => rfl
theorem sc_NoStart_init : FnScope ["self", "index"] ["self", "index"] (defScope s_NoStart_init) := ⟨rfl, rfl, rfl, by decide +kernel, rfl, by decide +kernel, by decide +kernel⟩
theorem fn_NoStart_init {f : Addr} {fd : FuncData} (F : Fun K "__init__" "NoStart.__init__" s_NoStart_init f fd) : FnOk P w K mg base CX0 1 f fd ["self", "index"] (GX.sp_err K A.NoStart "index") :=
  F.ok sc_NoStart_init (fun vs H Q E h => by obtain ⟨_, _, rfl, _⟩ := h; rfl) (fun cdv Ar outer s H vs Q E hr h => ⟨GX.t_err K "index", (pss_one (ps_ost (pv 0) (pv 1))), GX.rd_err h⟩)
theorem bi_NoStart_init {f : Addr} {fd : FuncData} (F : Fun K "__init__" "NoStart.__init__" s_NoStart_init f fd) : Binds K fd ["self", "index"] [] := F.binds fun _ _ _ _ _ _ us hl => match us, hl with | [_, _], _ => rfl
theorem sc_check_pages : FnScope ["web", "pages", "page"] ["web", "pages"] (defScope s_check_pages) := ⟨rfl, rfl, rfl, by decide +kernel, rfl, by decide +kernel, by decide +kernel⟩
theorem ln_check_pages {vs : List V} {H : Hp} {Q : VK} {E : XK} (h : sp_check_pages K A vs H Q E) : vs.length = 2 := by
  first | (obtain ⟨_, rfl, _⟩ := h; rfl) | (obtain ⟨_, _, rfl, _⟩ := h; rfl) | (obtain ⟨_, _, _, rfl, _⟩ := h; rfl) | (obtain ⟨_, _, _, _, rfl, _⟩ := h; rfl) | (obtain ⟨_, _, _, _, _, rfl, _⟩ := h; rfl) | (obtain ⟨_, _, _, _, _, _, rfl, _⟩ := h; rfl) | (obtain ⟨_, _, _, _, _, _, _, rfl, _⟩ := h; rfl) | (obtain ⟨_, _, _, _, _, _, _, _, rfl, _⟩ := h; rfl) | (obtain ⟨_, _, _, _, _, _, _, _, _, rfl, _⟩ := h; rfl) | (obtain ⟨_, _, _, _, _, _, _, _, _, _, rfl, _⟩ := h; rfl) | (obtain ⟨_, _, _, _, _, _, _, _, _, _, _, rfl, _⟩ := h; rfl) | (obtain ⟨_, _, _, _, _, _, _, _, _, _, _, _, rfl, _⟩ := h; rfl) | (obtain ⟨_, _, _, _, _, _, _, _, _, _, _, _, _, rfl, _⟩ := h; rfl) | (obtain ⟨_, _, _, _, _, _, _, _, _, _, _, _, _, _, rfl, _⟩ := h; rfl) | (obtain ⟨_, _, _, _, _, _, _, _, _, _, _, _, _, _, _, rfl, _⟩ := h; rfl) | (obtain ⟨_, _, _, _, _, _, _, _, _, _, _, _, _, _, _, _, rfl, _⟩ := h; rfl) | (obtain ⟨_, _, _, _, _, _, _, _, _, _, _, _, _, _, _, _, _, rfl, _⟩ := h; rfl) | (obtain ⟨_, _, _, _, _, _, _, _, _, _, _, _, _, _, _, _, _, _, rfl, _⟩ := h; rfl) | (obtain ⟨_, _, _, _, _, _, _, _, _, _, _, _, _, _, _, _, _, _, _, rfl, _⟩ := h; rfl)
theorem fn_check_pages {f : Addr} {fd : FuncData} (F : Fun K "check_pages" "check_pages" s_check_pages f fd) (T : Txt mg A) (C : CT K A) (C_NoPage : GX.ErrX P w K mg base 1 "NoPage" A.NoPage (GX.sp_err K A.NoPage "page")) : FnOk P w K mg base (L2.CX P w) 3 f fd ["web", "pages"] (sp_check_pages K A) :=
  F.okX sc_check_pages (fun vs H Q E h => ln_check_pages h) (fun cdv Ar outer s H vs Q E hr h => ⟨t_check_pages K A E, (pss_one (ps_for (passes_of rfl) rfl (pi_list (pv 1)) (pg_name (i := 2) sc_check_pages.nd rfl (by first | exact Or.inl rfl | exact Or.inr rfl))
  (pss_one (ps_if (pt_not (pt_chain op_le op_lt pe_int (pv 2) (pe_fld (pv 0) rfl))) (pss_one (GX.ps_raiseO C_NoPage hr (by decide) rfl (by rfl) (takes_of rfl rfl rfl rfl) (pa_cons (pv 2) pa_nil))) pss_nil)))), rd_check_pages C.b h⟩)
theorem bi_check_pages {f : Addr} {fd : FuncData} (F : Fun K "check_pages" "check_pages" s_check_pages f fd) : Binds K fd ["web", "pages"] [] := F.binds fun _ _ _ _ _ _ us hl => match us, hl with | [_, _], _ => rfl
theorem sc_is_pointer : FnScope ["pages", "holder", "target"] ["pages", "holder", "target"] (defScope s_is_pointer) := ⟨rfl, rfl, rfl, by decide +kernel, rfl, by decide +kernel, by decide +kernel⟩
theorem ln_is_pointer {vs : List V} {H : Hp} {Q : VK} {E : XK} (h : sp_is_pointer K A vs H Q E) : vs.length = 3 := by
  first | (obtain ⟨_, rfl, _⟩ := h; rfl) | (obtain ⟨_, _, rfl, _⟩ := h; rfl) | (obtain ⟨_, _, _, rfl, _⟩ := h; rfl) | (obtain ⟨_, _, _, _, rfl, _⟩ := h; rfl) | (obtain ⟨_, _, _, _, _, rfl, _⟩ := h; rfl) | (obtain ⟨_, _, _, _, _, _, rfl, _⟩ := h; rfl) | (obtain ⟨_, _, _, _, _, _, _, rfl, _⟩ := h; rfl) | (obtain ⟨_, _, _, _, _, _, _, _, rfl, _⟩ := h; rfl) | (obtain ⟨_, _, _, _, _, _, _, _, _, rfl, _⟩ := h; rfl) | (obtain ⟨_, _, _, _, _, _, _, _, _, _, rfl, _⟩ := h; rfl) | (obtain ⟨_, _, _, _, _, _, _, _, _, _, _, rfl, _⟩ := h; rfl) | (obtain ⟨_, _, _, _, _, _, _, _, _, _, _, _, rfl, _⟩ := h; rfl) | (obtain ⟨_, _, _, _, _, _, _, _, _, _, _, _, _, rfl, _⟩ := h; rfl) | (obtain ⟨_, _, _, _, _, _, _, _, _, _, _, _, _, _, rfl, _⟩ := h; rfl) | (obtain ⟨_, _, _, _, _, _, _, _, _, _, _, _, _, _, _, rfl, _⟩ := h; rfl) | (obtain ⟨_, _, _, _, _, _, _, _, _, _, _, _, _, _, _, _, rfl, _⟩ := h; rfl) | (obtain ⟨_, _, _, _, _, _, _, _, _, _, _, _, _, _, _, _, _, rfl, _⟩ := h; rfl) | (obtain ⟨_, _, _, _, _, _, _, _, _, _, _, _, _, _, _, _, _, _, rfl, _⟩ := h; rfl) | (obtain ⟨_, _, _, _, _, _, _, _, _, _, _, _, _, _, _, _, _, _, _, rfl, _⟩ := h; rfl)
theorem fn_is_pointer {f : Addr} {fd : FuncData} (F : Fun K "_is_pointer" "_is_pointer" s_is_pointer f fd) (T : Txt mg A) (C : CT K A)  : FnOk P w K mg base CX0 1 f fd ["pages", "holder", "target"] (sp_is_pointer K A) :=
  F.ok sc_is_pointer (fun vs H Q E h => ln_is_pointer h) (fun cdv Ar outer s H vs Q E hr h => ⟨t_is_pointer K A, (pss_one (ps_ret (pe_and (pe_chain op_le op_lt pe_int (pv 1) (pv 0)) (pe_and (pe_chain op_le op_lt pe_int (pv 2) (pv 0)) (pe_one (pe_cmpR op_ne (pv 1) (pv 2) (nomark _))))))), rd_is_pointer h⟩)
theorem bi_is_pointer {f : Addr} {fd : FuncData} (F : Fun K "_is_pointer" "_is_pointer" s_is_pointer f fd) : Binds K fd ["pages", "holder", "target"] [] := F.binds fun _ _ _ _ _ _ us hl => match us, hl with | [_, _, _], _ => rfl
theorem sc_as_known : FnScope ["pages", "pointers", "known", "index", "holder", "target"] ["pages", "pointers"] (defScope s_as_known) := ⟨rfl, rfl, rfl, by decide +kernel, rfl, by decide +kernel, by decide +kernel⟩
theorem ln_as_known {vs : List V} {H : Hp} {Q : VK} {E : XK} (h : sp_as_known K A vs H Q E) : vs.length = 2 := by
  first | (obtain ⟨_, rfl, _⟩ := h; rfl) | (obtain ⟨_, _, rfl, _⟩ := h; rfl) | (obtain ⟨_, _, _, rfl, _⟩ := h; rfl) | (obtain ⟨_, _, _, _, rfl, _⟩ := h; rfl) | (obtain ⟨_, _, _, _, _, rfl, _⟩ := h; rfl) | (obtain ⟨_, _, _, _, _, _, rfl, _⟩ := h; rfl) | (obtain ⟨_, _, _, _, _, _, _, rfl, _⟩ := h; rfl) | (obtain ⟨_, _, _, _, _, _, _, _, rfl, _⟩ := h; rfl) | (obtain ⟨_, _, _, _, _, _, _, _, _, rfl, _⟩ := h; rfl) | (obtain ⟨_, _, _, _, _, _, _, _, _, _, rfl, _⟩ := h; rfl) | (obtain ⟨_, _, _, _, _, _, _, _, _, _, _, rfl, _⟩ := h; rfl) | (obtain ⟨_, _, _, _, _, _, _, _, _, _, _, _, rfl, _⟩ := h; rfl) | (obtain ⟨_, _, _, _, _, _, _, _, _, _, _, _, _, rfl, _⟩ := h; rfl) | (obtain ⟨_, _, _, _, _, _, _, _, _, _, _, _, _, _, rfl, _⟩ := h; rfl) | (obtain ⟨_, _, _, _, _, _, _, _, _, _, _, _, _, _, _, rfl, _⟩ := h; rfl) | (obtain ⟨_, _, _, _, _, _, _, _, _, _, _, _, _, _, _, _, rfl, _⟩ := h; rfl) | (obtain ⟨_, _, _, _, _, _, _, _, _, _, _, _, _, _, _, _, _, rfl, _⟩ := h; rfl) | (obtain ⟨_, _, _, _, _, _, _, _, _, _, _, _, _, _, _, _, _, _, rfl, _⟩ := h; rfl) | (obtain ⟨_, _, _, _, _, _, _, _, _, _, _, _, _, _, _, _, _, _, _, rfl, _⟩ := h; rfl)
theorem fn_as_known {f : Addr} {fd : FuncData} (F : Fun K "_as_known" "_as_known" s_as_known f fd) (T : Txt mg A) (C : CT K A) (C_InvalidPointer : GX.ErrX P w K mg base 1 "InvalidPointer" A.InvalidPointer (GX.sp_err K A.InvalidPointer "index")) (C_is_pointer : C8.Cal P w K mg base 1 "_is_pointer" (sp_is_pointer K A) []) : FnOk P w K mg base (L2.CX P w) 3 f fd ["pages", "pointers"] (sp_as_known K A) :=
  F.okX sc_as_known (fun vs H Q E h => ln_as_known h) (fun cdv Ar outer s H vs Q E hr h => ⟨t_as_known K A E, (pss_cons (ps_set (i := 2) sc_as_known.nd rfl (by first | exact Or.inl rfl | exact Or.inr rfl) pe_dnewT)
  (pss_cons (ps_for (passes_of rfl) rfl (pi_enum (by rfl) T.b_enumerate (pa_cons (pv 1) pa_nil)) (pg_tup rfl (pgs_cons (pg_name (i := 3) sc_as_known.nd rfl (by first | exact Or.inl rfl | exact Or.inr rfl)) (pgs_cons (pg_tup rfl (pgs_cons (pg_name (i := 4) sc_as_known.nd rfl (by first | exact Or.inl rfl | exact Or.inr rfl)) (pgs_cons (pg_name (i := 5) sc_as_known.nd rfl (by first | exact Or.inl rfl | exact Or.inr rfl)) pgs_nil))) pgs_nil)))
  (pss_cons (ps_if (PW.pt (pw_or (pt_not (pt_val (C8.pe_c C_is_pointer hr (by decide) (by rfl) (pa_cons (pv 0) (pa_cons (pv 4) (pa_cons (pv 5) pa_nil)))) (by intro _; rfl))) (pw_or1 (pt_cmp (pc_din (hu_of hr) (pe_tup (pa_cons (pv 4) (pa_cons (pv 5) pa_nil))) (pv 2)))))) (pss_one (GX.ps_raiseO C_InvalidPointer hr (by decide) rfl (by rfl) (takes_of rfl rfl rfl rfl) (pa_cons (pv 3) pa_nil))) pss_nil)
  (pss_one (ps_dput (hu_of hr) (pv 2) (pe_tup (pa_cons (pv 4) (pa_cons (pv 5) pa_nil))) pe_bl rfl))))
  (pss_one (ps_ret (pv 2))))), rd_as_known C.b h⟩)
theorem bi_as_known {f : Addr} {fd : FuncData} (F : Fun K "_as_known" "_as_known" s_as_known f fd) : Binds K fd ["pages", "pointers"] [] := F.binds fun _ _ _ _ _ _ us hl => match us, hl with | [_, _], _ => rfl
theorem sc_grouped : FnScope ["pages", "pairs", "found", "_", "page", "other"] ["pages", "pairs"] (defScope s_grouped) := ⟨rfl, rfl, rfl, by decide +kernel, rfl, by decide +kernel, by decide +kernel⟩
theorem ln_grouped {vs : List V} {H : Hp} {Q : VK} {E : XK} (h : sp_grouped K A vs H Q E) : vs.length = 2 := by
  first | (obtain ⟨_, rfl, _⟩ := h; rfl) | (obtain ⟨_, _, rfl, _⟩ := h; rfl) | (obtain ⟨_, _, _, rfl, _⟩ := h; rfl) | (obtain ⟨_, _, _, _, rfl, _⟩ := h; rfl) | (obtain ⟨_, _, _, _, _, rfl, _⟩ := h; rfl) | (obtain ⟨_, _, _, _, _, _, rfl, _⟩ := h; rfl) | (obtain ⟨_, _, _, _, _, _, _, rfl, _⟩ := h; rfl) | (obtain ⟨_, _, _, _, _, _, _, _, rfl, _⟩ := h; rfl) | (obtain ⟨_, _, _, _, _, _, _, _, _, rfl, _⟩ := h; rfl) | (obtain ⟨_, _, _, _, _, _, _, _, _, _, rfl, _⟩ := h; rfl) | (obtain ⟨_, _, _, _, _, _, _, _, _, _, _, rfl, _⟩ := h; rfl) | (obtain ⟨_, _, _, _, _, _, _, _, _, _, _, _, rfl, _⟩ := h; rfl) | (obtain ⟨_, _, _, _, _, _, _, _, _, _, _, _, _, rfl, _⟩ := h; rfl) | (obtain ⟨_, _, _, _, _, _, _, _, _, _, _, _, _, _, rfl, _⟩ := h; rfl) | (obtain ⟨_, _, _, _, _, _, _, _, _, _, _, _, _, _, _, rfl, _⟩ := h; rfl) | (obtain ⟨_, _, _, _, _, _, _, _, _, _, _, _, _, _, _, _, rfl, _⟩ := h; rfl) | (obtain ⟨_, _, _, _, _, _, _, _, _, _, _, _, _, _, _, _, _, rfl, _⟩ := h; rfl) | (obtain ⟨_, _, _, _, _, _, _, _, _, _, _, _, _, _, _, _, _, _, rfl, _⟩ := h; rfl) | (obtain ⟨_, _, _, _, _, _, _, _, _, _, _, _, _, _, _, _, _, _, _, rfl, _⟩ := h; rfl)
theorem fn_grouped {f : Addr} {fd : FuncData} (F : Fun K "_grouped" "_grouped" s_grouped f fd) (T : Txt mg A) (C : CT K A)  : FnOk P w K mg base CX0 1 f fd ["pages", "pairs"] (sp_grouped K A) :=
  F.ok sc_grouped (fun vs H Q E h => ln_grouped h) (fun cdv Ar outer s H vs Q E hr h => ⟨t_grouped K A, (pss_cons (ps_setLc (i := 2) (own := [("_", 3)]) (g := (gName 3)) (tt := tYes) rfl sc_grouped.nd rfl rfl (sw_true rfl rfl rfl (by decide +kernel)) (pi_range1 (by rfl) T.b_range (pa_cons (pv 0) pa_nil)) (blkOk_by (own := [("_", 3)]) (N := ["pages", "pairs", "found", "_", "page", "other"]) (sc := defScope s_grouped) (by decide +kernel)) (fun _ _ _ _ _ => (pg_name (i := 3) sc_grouped.nd rfl (by first | exact Or.inl rfl | exact Or.inr rfl))) (fun _ _ _ _ _ => pts_nil) (fun _ _ _ _ _ => (pe_lst pa_nil)))
  (pss_cons (ps_for PassesOwn.never rfl (pi_list (pv 1)) (pg_tup rfl (pgs_cons (pg_name (i := 4) sc_grouped.nd rfl (by first | exact Or.inl rfl | exact Or.inr rfl)) (pgs_cons (pg_name (i := 5) sc_grouped.nd rfl (by first | exact Or.inl rfl | exact Or.inr rfl)) pgs_nil)))
  (pss_one (ps_expr (pe_bm PySem.F.plainAttrs_list PySem.F.slot_list_append PySem.F.type_list_append mt_append (pe_ix ix_list (pv 2) (pv 4) (fun _ _ => rfl)) (pa_cons (pv 5) pa_nil)))))
  (pss_one (ps_ret (pv 2))))), rd_grouped h⟩)
theorem bi_grouped {f : Addr} {fd : FuncData} (F : Fun K "_grouped" "_grouped" s_grouped f fd) : Binds K fd ["pages", "pairs"] [] := F.binds fun _ _ _ _ _ _ us hl => match us, hl with | [_, _], _ => rfl
theorem sc_Web_init : FnScope ["self", "pages", "pointers", "holder", "target"] ["self", "pages", "pointers"] (defScope s_Web_init) := ⟨rfl, rfl, rfl, by decide +kernel, rfl, by decide +kernel, by decide +kernel⟩
theorem ln_Web_init {vs : List V} {H : Hp} {Q : VK} {E : XK} (h : sp_Web_init K A vs H Q E) : vs.length = 3 := by
  first | (obtain ⟨_, rfl, _⟩ := h; rfl) | (obtain ⟨_, _, rfl, _⟩ := h; rfl) | (obtain ⟨_, _, _, rfl, _⟩ := h; rfl) | (obtain ⟨_, _, _, _, rfl, _⟩ := h; rfl) | (obtain ⟨_, _, _, _, _, rfl, _⟩ := h; rfl) | (obtain ⟨_, _, _, _, _, _, rfl, _⟩ := h; rfl) | (obtain ⟨_, _, _, _, _, _, _, rfl, _⟩ := h; rfl) | (obtain ⟨_, _, _, _, _, _, _, _, rfl, _⟩ := h; rfl) | (obtain ⟨_, _, _, _, _, _, _, _, _, rfl, _⟩ := h; rfl) | (obtain ⟨_, _, _, _, _, _, _, _, _, _, rfl, _⟩ := h; rfl) | (obtain ⟨_, _, _, _, _, _, _, _, _, _, _, rfl, _⟩ := h; rfl) | (obtain ⟨_, _, _, _, _, _, _, _, _, _, _, _, rfl, _⟩ := h; rfl) | (obtain ⟨_, _, _, _, _, _, _, _, _, _, _, _, _, rfl, _⟩ := h; rfl) | (obtain ⟨_, _, _, _, _, _, _, _, _, _, _, _, _, _, rfl, _⟩ := h; rfl) | (obtain ⟨_, _, _, _, _, _, _, _, _, _, _, _, _, _, _, rfl, _⟩ := h; rfl) | (obtain ⟨_, _, _, _, _, _, _, _, _, _, _, _, _, _, _, _, rfl, _⟩ := h; rfl) | (obtain ⟨_, _, _, _, _, _, _, _, _, _, _, _, _, _, _, _, _, rfl, _⟩ := h; rfl) | (obtain ⟨_, _, _, _, _, _, _, _, _, _, _, _, _, _, _, _, _, _, rfl, _⟩ := h; rfl) | (obtain ⟨_, _, _, _, _, _, _, _, _, _, _, _, _, _, _, _, _, _, _, rfl, _⟩ := h; rfl)
theorem fn_Web_init {f : Addr} {fd : FuncData} (F : Fun K "__init__" "Web.__init__" s_Web_init f fd) (T : Txt mg A) (C : CT K A) (C_as_known : GX.CalX P w K mg base 3 "_as_known" (sp_as_known K A)) (C_grouped : C8.Cal P w K mg base 1 "_grouped" (sp_grouped K A) []) : FnOk P w K mg base (L2.CX P w) 4 f fd ["self", "pages", "pointers"] (sp_Web_init K A) :=
  F.okX sc_Web_init (fun vs H Q E h => ln_Web_init h) (fun cdv Ar outer s H vs Q E hr h => ⟨t_Web_init K A E, (pss_cons (ps_fld (pv 0) (pv 1) rfl)
  (pss_cons (ps_fld (pv 0) (GX.pe_cX C_as_known hr (by decide) (by rfl) (passes_call (takes_of rfl rfl rfl rfl) (fun _ _ _ _ h => h)) (pa_cons (pv 1) (pa_cons (pv 2) pa_nil))) rfl)
  (pss_cons (ps_fld (pv 0) (pe_callB cr_sortedPO (by rfl) T.b_sorted (by decide +kernel) (pa_cons (pe_callTy (call_list_dT rfl) (by rfl) T.b_list (by decide +kernel) (pa_cons (pe_fld (pv 0) rfl) pa_nil)) pa_nil)) rfl)
  (pss_cons (ps_fld (pv 0) (C8.pe_c C_grouped hr (by decide) (by rfl) (pa_cons (pv 1) (pa_cons (pe_fld (pv 0) rfl) pa_nil))) rfl)
  (pss_one (ps_fld (pv 0) (C8.pe_c C_grouped hr (by decide) (by rfl) (pa_cons (pv 1) (pa_cons (pe_lc (own := [("holder", 3), ("target", 4)]) (g := (gTup K 2 (gCons (gName 3) (gCons (gName 4) gNil)))) (tt := tYes) rfl sc_Web_init.nd (pi_list (pe_fld (pv 0) rfl)) (blkOk_by (own := [("holder", 3), ("target", 4)]) (N := ["self", "pages", "pointers", "holder", "target"]) (sc := defScope s_Web_init) (by decide +kernel)) (fun _ _ _ _ _ => (pg_tup rfl (pgs_cons (pg_name (i := 3) sc_Web_init.nd rfl (by first | exact Or.inl rfl | exact Or.inr rfl)) (pgs_cons (pg_name (i := 4) sc_Web_init.nd rfl (by first | exact Or.inl rfl | exact Or.inr rfl)) pgs_nil)))) (fun _ _ _ _ _ => pts_nil) (fun _ _ _ _ _ => (pe_tup (pa_cons (pv 4) (pa_cons (pv 3) pa_nil))))) pa_nil))) rfl)))))), rd_Web_init C.b h⟩)
theorem bi_Web_init {f : Addr} {fd : FuncData} (F : Fun K "__init__" "Web.__init__" s_Web_init f fd) : Binds K fd ["self", "pages", "pointers"] [] := F.binds fun _ _ _ _ _ _ us hl => match us, hl with | [_, _, _], _ => rfl
theorem sc_Web_arrows : FnScope ["self"] ["self"] (defScope s_Web_arrows) := ⟨rfl, rfl, rfl, by decide +kernel, rfl, by decide +kernel, by decide +kernel⟩
theorem ln_Web_arrows {vs : List V} {H : Hp} {Q : VK} {E : XK} (h : sp_Web_arrows K A vs H Q E) : vs.length = 1 := by
  first | (obtain ⟨_, rfl, _⟩ := h; rfl) | (obtain ⟨_, _, rfl, _⟩ := h; rfl) | (obtain ⟨_, _, _, rfl, _⟩ := h; rfl) | (obtain ⟨_, _, _, _, rfl, _⟩ := h; rfl) | (obtain ⟨_, _, _, _, _, rfl, _⟩ := h; rfl) | (obtain ⟨_, _, _, _, _, _, rfl, _⟩ := h; rfl) | (obtain ⟨_, _, _, _, _, _, _, rfl, _⟩ := h; rfl) | (obtain ⟨_, _, _, _, _, _, _, _, rfl, _⟩ := h; rfl) | (obtain ⟨_, _, _, _, _, _, _, _, _, rfl, _⟩ := h; rfl) | (obtain ⟨_, _, _, _, _, _, _, _, _, _, rfl, _⟩ := h; rfl) | (obtain ⟨_, _, _, _, _, _, _, _, _, _, _, rfl, _⟩ := h; rfl) | (obtain ⟨_, _, _, _, _, _, _, _, _, _, _, _, rfl, _⟩ := h; rfl) | (obtain ⟨_, _, _, _, _, _, _, _, _, _, _, _, _, rfl, _⟩ := h; rfl) | (obtain ⟨_, _, _, _, _, _, _, _, _, _, _, _, _, _, rfl, _⟩ := h; rfl) | (obtain ⟨_, _, _, _, _, _, _, _, _, _, _, _, _, _, _, rfl, _⟩ := h; rfl) | (obtain ⟨_, _, _, _, _, _, _, _, _, _, _, _, _, _, _, _, rfl, _⟩ := h; rfl) | (obtain ⟨_, _, _, _, _, _, _, _, _, _, _, _, _, _, _, _, _, rfl, _⟩ := h; rfl) | (obtain ⟨_, _, _, _, _, _, _, _, _, _, _, _, _, _, _, _, _, _, rfl, _⟩ := h; rfl) | (obtain ⟨_, _, _, _, _, _, _, _, _, _, _, _, _, _, _, _, _, _, _, rfl, _⟩ := h; rfl)
theorem fn_Web_arrows {f : Addr} {fd : FuncData} (F : Fun K "arrows" "Web.arrows" s_Web_arrows f fd) (T : Txt mg A) (C : CT K A)  : FnOk P w K mg base CX0 1 f fd ["self"] (sp_Web_arrows K A) :=
  F.ok sc_Web_arrows (fun vs H Q E h => ln_Web_arrows h) (fun cdv Ar outer s H vs Q E hr h => ⟨t_Web_arrows K A, (pss_one (ps_ret (pe_callTy call_list_of (by rfl) T.b_list (by decide +kernel) (pa_cons (pe_fld (pv 0) rfl) pa_nil)))), rd_Web_arrows C.b h⟩)
theorem bi_Web_arrows {f : Addr} {fd : FuncData} (F : Fun K "arrows" "Web.arrows" s_Web_arrows f fd) : Binds K fd ["self"] [] := F.binds fun _ _ _ _ _ _ us hl => match us, hl with | [_], _ => rfl
theorem sc_Web_holders : FnScope ["self", "page"] ["self", "page"] (defScope s_Web_holders) := ⟨rfl, rfl, rfl, by decide +kernel, rfl, by decide +kernel, by decide +kernel⟩
theorem ln_Web_holders {vs : List V} {H : Hp} {Q : VK} {E : XK} (h : sp_Web_holders K A vs H Q E) : vs.length = 2 := by
  first | (obtain ⟨_, rfl, _⟩ := h; rfl) | (obtain ⟨_, _, rfl, _⟩ := h; rfl) | (obtain ⟨_, _, _, rfl, _⟩ := h; rfl) | (obtain ⟨_, _, _, _, rfl, _⟩ := h; rfl) | (obtain ⟨_, _, _, _, _, rfl, _⟩ := h; rfl) | (obtain ⟨_, _, _, _, _, _, rfl, _⟩ := h; rfl) | (obtain ⟨_, _, _, _, _, _, _, rfl, _⟩ := h; rfl) | (obtain ⟨_, _, _, _, _, _, _, _, rfl, _⟩ := h; rfl) | (obtain ⟨_, _, _, _, _, _, _, _, _, rfl, _⟩ := h; rfl) | (obtain ⟨_, _, _, _, _, _, _, _, _, _, rfl, _⟩ := h; rfl) | (obtain ⟨_, _, _, _, _, _, _, _, _, _, _, rfl, _⟩ := h; rfl) | (obtain ⟨_, _, _, _, _, _, _, _, _, _, _, _, rfl, _⟩ := h; rfl) | (obtain ⟨_, _, _, _, _, _, _, _, _, _, _, _, _, rfl, _⟩ := h; rfl) | (obtain ⟨_, _, _, _, _, _, _, _, _, _, _, _, _, _, rfl, _⟩ := h; rfl) | (obtain ⟨_, _, _, _, _, _, _, _, _, _, _, _, _, _, _, rfl, _⟩ := h; rfl) | (obtain ⟨_, _, _, _, _, _, _, _, _, _, _, _, _, _, _, _, rfl, _⟩ := h; rfl) | (obtain ⟨_, _, _, _, _, _, _, _, _, _, _, _, _, _, _, _, _, rfl, _⟩ := h; rfl) | (obtain ⟨_, _, _, _, _, _, _, _, _, _, _, _, _, _, _, _, _, _, rfl, _⟩ := h; rfl) | (obtain ⟨_, _, _, _, _, _, _, _, _, _, _, _, _, _, _, _, _, _, _, rfl, _⟩ := h; rfl)
theorem fn_Web_holders {f : Addr} {fd : FuncData} (F : Fun K "holders" "Web.holders" s_Web_holders f fd) (T : Txt mg A) (C : CT K A) (C_check_pages : GX.CalX P w K mg base 3 "check_pages" (sp_check_pages K A)) : FnOk P w K mg base (L2.CX P w) 4 f fd ["self", "page"] (sp_Web_holders K A) :=
  F.okX sc_Web_holders (fun vs H Q E h => ln_Web_holders h) (fun cdv Ar outer s H vs Q E hr h => ⟨t_Web_holders K A E, (pss_cons (ps_expr (GX.pe_cX C_check_pages hr (by decide) (by rfl) (passes_call (takes_of rfl rfl rfl rfl) (fun _ _ _ _ h => h)) (pa_cons (pv 0) (pa_cons (pe_lst (pa_cons (pv 1) pa_nil)) pa_nil))))
  (pss_one (ps_ret (pe_callTy call_list_of (by rfl) T.b_list (by decide +kernel) (pa_cons (pe_ix ix_list (pe_fld (pv 0) rfl) (pv 1) (fun _ _ => rfl)) pa_nil))))), rd_Web_holders C.b h⟩)
theorem bi_Web_holders {f : Addr} {fd : FuncData} (F : Fun K "holders" "Web.holders" s_Web_holders f fd) : Binds K fd ["self", "page"] [] := F.binds fun _ _ _ _ _ _ us hl => match us, hl with | [_, _], _ => rfl
theorem sc_lines_used : FnScope ["web", "page", "copied", "anew", "used", "target", "holder"] ["web", "page", "copied"] (defScope s_lines_used) := ⟨rfl, rfl, rfl, by decide +kernel, rfl, by decide +kernel, by decide +kernel⟩
theorem ln_lines_used {vs : List V} {H : Hp} {Q : VK} {E : XK} (h : sp_lines_used K A vs H Q E) : vs.length = 3 := by
  first | (obtain ⟨_, rfl, _⟩ := h; rfl) | (obtain ⟨_, _, rfl, _⟩ := h; rfl) | (obtain ⟨_, _, _, rfl, _⟩ := h; rfl) | (obtain ⟨_, _, _, _, rfl, _⟩ := h; rfl) | (obtain ⟨_, _, _, _, _, rfl, _⟩ := h; rfl) | (obtain ⟨_, _, _, _, _, _, rfl, _⟩ := h; rfl) | (obtain ⟨_, _, _, _, _, _, _, rfl, _⟩ := h; rfl) | (obtain ⟨_, _, _, _, _, _, _, _, rfl, _⟩ := h; rfl) | (obtain ⟨_, _, _, _, _, _, _, _, _, rfl, _⟩ := h; rfl) | (obtain ⟨_, _, _, _, _, _, _, _, _, _, rfl, _⟩ := h; rfl) | (obtain ⟨_, _, _, _, _, _, _, _, _, _, _, rfl, _⟩ := h; rfl) | (obtain ⟨_, _, _, _, _, _, _, _, _, _, _, _, rfl, _⟩ := h; rfl) | (obtain ⟨_, _, _, _, _, _, _, _, _, _, _, _, _, rfl, _⟩ := h; rfl) | (obtain ⟨_, _, _, _, _, _, _, _, _, _, _, _, _, _, rfl, _⟩ := h; rfl) | (obtain ⟨_, _, _, _, _, _, _, _, _, _, _, _, _, _, _, rfl, _⟩ := h; rfl) | (obtain ⟨_, _, _, _, _, _, _, _, _, _, _, _, _, _, _, _, rfl, _⟩ := h; rfl) | (obtain ⟨_, _, _, _, _, _, _, _, _, _, _, _, _, _, _, _, _, rfl, _⟩ := h; rfl) | (obtain ⟨_, _, _, _, _, _, _, _, _, _, _, _, _, _, _, _, _, _, rfl, _⟩ := h; rfl) | (obtain ⟨_, _, _, _, _, _, _, _, _, _, _, _, _, _, _, _, _, _, _, rfl, _⟩ := h; rfl)
theorem fn_lines_used {f : Addr} {fd : FuncData} (F : Fun K "lines_used" "lines_used" s_lines_used f fd) (T : Txt mg A) (C : CT K A) (C_Web_holders : GX.MetX P w K mg base 4 A.Web "holders" (sp_Web_holders K A)) : FnOk P w K mg base (L2.CX P w) 5 f fd ["web", "page", "copied"] (sp_lines_used K A) :=
  F.okX sc_lines_used (fun vs H Q E h => ln_lines_used h) (fun cdv Ar outer s H vs Q E hr h => ⟨t_lines_used K A w E, (pss_cons (ps_set (i := 3) sc_lines_used.nd rfl (by first | exact Or.inl rfl | exact Or.inr rfl) (pe_callTy (GX.cr_setTI rfl) (by rfl) T.b_set (by decide +kernel) (pa_cons (pv 2) pa_nil)))
  (pss_cons (ps_set (i := 4) sc_lines_used.nd rfl (by first | exact Or.inl rfl | exact Or.inr rfl) pe_dnewK)
  (C8.pss_cut (ps_if (pt_cmpR or_snotin (pv 1) (pv 3) (by rfl)) (pss_one (ps_dput (hu_of hr) (pv 4) (pv 1) pe_int rfl)) pss_nil)
  (pss_cons (ps_for (passes_of rfl) rfl (pi_list (pe_callB (GX.cr_sortSet rfl) (by rfl) T.b_sorted (by decide +kernel) (pa_cons (pv 3) pa_nil))) (pg_name (i := 5) sc_lines_used.nd rfl (by first | exact Or.inl rfl | exact Or.inr rfl))
  (pss_one (ps_for (passes_of rfl) rfl (pi_list (GX.pe_mtX C_Web_holders hr (by decide) (passes_call (takes_of rfl rfl rfl rfl) (fun _ _ _ _ h => h)) (pv 0) (pa_cons (pv 5) pa_nil))) (pg_name (i := 6) sc_lines_used.nd rfl (by first | exact Or.inl rfl | exact Or.inr rfl))
  (pss_one (ps_if (pt_cmpR or_snotin (pv 6) (pv 3) (by rfl)) (pss_one (ps_dput (hu_of hr) (pv 4) (pv 6) (pe_op op_add (pe_dget2 (hu_of hr) (pv 4) (pv 6) pe_int ⟨rfl, rfl, rfl, rfl⟩) pe_int) rfl)) pss_nil)))))
  (pss_one (ps_ret (pv 4))))))), rd_lines_used h⟩)
theorem bi_lines_used {f : Addr} {fd : FuncData} (F : Fun K "lines_used" "lines_used" s_lines_used f fd) : Binds K fd ["web", "page", "copied"] [] := F.binds fun _ _ _ _ _ _ us hl => match us, hl with | [_, _, _], _ => rfl
theorem sc_Standing_init : FnScope ["self", "web", "lines", "blank", "page", "number"] ["self", "web", "lines", "blank"] (defScope s_Standing_init) := ⟨rfl, rfl, rfl, by decide +kernel, rfl, by decide +kernel, by decide +kernel⟩
theorem ln_Standing_init {vs : List V} {H : Hp} {Q : VK} {E : XK} (h : sp_Standing_init K A vs H Q E) : vs.length = 4 := by
  first | (obtain ⟨_, rfl, _⟩ := h; rfl) | (obtain ⟨_, _, rfl, _⟩ := h; rfl) | (obtain ⟨_, _, _, rfl, _⟩ := h; rfl) | (obtain ⟨_, _, _, _, rfl, _⟩ := h; rfl) | (obtain ⟨_, _, _, _, _, rfl, _⟩ := h; rfl) | (obtain ⟨_, _, _, _, _, _, rfl, _⟩ := h; rfl) | (obtain ⟨_, _, _, _, _, _, _, rfl, _⟩ := h; rfl) | (obtain ⟨_, _, _, _, _, _, _, _, rfl, _⟩ := h; rfl) | (obtain ⟨_, _, _, _, _, _, _, _, _, rfl, _⟩ := h; rfl) | (obtain ⟨_, _, _, _, _, _, _, _, _, _, rfl, _⟩ := h; rfl) | (obtain ⟨_, _, _, _, _, _, _, _, _, _, _, rfl, _⟩ := h; rfl) | (obtain ⟨_, _, _, _, _, _, _, _, _, _, _, _, rfl, _⟩ := h; rfl) | (obtain ⟨_, _, _, _, _, _, _, _, _, _, _, _, _, rfl, _⟩ := h; rfl) | (obtain ⟨_, _, _, _, _, _, _, _, _, _, _, _, _, _, rfl, _⟩ := h; rfl) | (obtain ⟨_, _, _, _, _, _, _, _, _, _, _, _, _, _, _, rfl, _⟩ := h; rfl) | (obtain ⟨_, _, _, _, _, _, _, _, _, _, _, _, _, _, _, _, rfl, _⟩ := h; rfl) | (obtain ⟨_, _, _, _, _, _, _, _, _, _, _, _, _, _, _, _, _, rfl, _⟩ := h; rfl) | (obtain ⟨_, _, _, _, _, _, _, _, _, _, _, _, _, _, _, _, _, _, rfl, _⟩ := h; rfl) | (obtain ⟨_, _, _, _, _, _, _, _, _, _, _, _, _, _, _, _, _, _, _, rfl, _⟩ := h; rfl)
theorem fn_Standing_init {f : Addr} {fd : FuncData} (F : Fun K "__init__" "Standing.__init__" s_Standing_init f fd) (T : Txt mg A) (C : CT K A) (C_InvalidStanding : GX.ErrX P w K mg base 1 "InvalidStanding" A.InvalidStanding (GX.sp_err K A.InvalidStanding "page")) : FnOk P w K mg base (L2.CX P w) 3 f fd ["self", "web", "lines", "blank"] (sp_Standing_init K A) :=
  F.okX sc_Standing_init (fun vs H Q E h => ln_Standing_init h) (fun cdv Ar outer s H vs Q E hr h => ⟨t_Standing_init K A E, (pss_cons (ps_if (pt_cmpR op_ne (pe_callB call_len_seq (by rfl) T.b_len (by decide +kernel) (pa_cons (pv 3) pa_nil)) (pe_fld (pv 1) rfl) (nomark _)) (pss_one (GX.ps_raiseO C_InvalidStanding hr (by decide) rfl (by rfl) (takes_of rfl rfl rfl rfl) (pa_cons pe_non pa_nil))) pss_nil)
  (pss_cons (ps_for (passes_of rfl) rfl (pi_enum (by rfl) T.b_enumerate (pa_cons (pv 3) pa_nil)) (pg_tup rfl (pgs_cons (pg_name (i := 4) sc_Standing_init.nd rfl (by first | exact Or.inl rfl | exact Or.inr rfl)) (pgs_cons (pg_name (i := 5) sc_Standing_init.nd rfl (by first | exact Or.inl rfl | exact Or.inr rfl)) pgs_nil)))
  (pss_one (ps_if (pt_not (pt_chain op_le op_le pe_int (pv 5) (pv 2))) (pss_one (GX.ps_raiseO C_InvalidStanding hr (by decide) rfl (by rfl) (takes_of rfl rfl rfl rfl) (pa_cons (pv 4) pa_nil))) pss_nil)))
  (pss_cons (ps_fld (pv 0) (pv 1) rfl)
  (pss_cons (ps_fld (pv 0) (pv 2) rfl)
  (pss_one (ps_fld (pv 0) (pe_callTy call_list_of (by rfl) T.b_list (by decide +kernel) (pa_cons (pv 3) pa_nil)) rfl)))))), rd_Standing_init C.s h⟩)
theorem bi_Standing_init {f : Addr} {fd : FuncData} (F : Fun K "__init__" "Standing.__init__" s_Standing_init f fd) : Binds K fd ["self", "web", "lines", "blank"] [] := F.binds fun _ _ _ _ _ _ us hl => match us, hl with | [_, _, _, _], _ => rfl
theorem sc_Standing_blanks : FnScope ["self"] ["self"] (defScope s_Standing_blanks) := ⟨rfl, rfl, rfl, by decide +kernel, rfl, by decide +kernel, by decide +kernel⟩
theorem ln_Standing_blanks {vs : List V} {H : Hp} {Q : VK} {E : XK} (h : sp_Standing_blanks K A vs H Q E) : vs.length = 1 := by
  first | (obtain ⟨_, rfl, _⟩ := h; rfl) | (obtain ⟨_, _, rfl, _⟩ := h; rfl) | (obtain ⟨_, _, _, rfl, _⟩ := h; rfl) | (obtain ⟨_, _, _, _, rfl, _⟩ := h; rfl) | (obtain ⟨_, _, _, _, _, rfl, _⟩ := h; rfl) | (obtain ⟨_, _, _, _, _, _, rfl, _⟩ := h; rfl) | (obtain ⟨_, _, _, _, _, _, _, rfl, _⟩ := h; rfl) | (obtain ⟨_, _, _, _, _, _, _, _, rfl, _⟩ := h; rfl) | (obtain ⟨_, _, _, _, _, _, _, _, _, rfl, _⟩ := h; rfl) | (obtain ⟨_, _, _, _, _, _, _, _, _, _, rfl, _⟩ := h; rfl) | (obtain ⟨_, _, _, _, _, _, _, _, _, _, _, rfl, _⟩ := h; rfl) | (obtain ⟨_, _, _, _, _, _, _, _, _, _, _, _, rfl, _⟩ := h; rfl) | (obtain ⟨_, _, _, _, _, _, _, _, _, _, _, _, _, rfl, _⟩ := h; rfl) | (obtain ⟨_, _, _, _, _, _, _, _, _, _, _, _, _, _, rfl, _⟩ := h; rfl) | (obtain ⟨_, _, _, _, _, _, _, _, _, _, _, _, _, _, _, rfl, _⟩ := h; rfl) | (obtain ⟨_, _, _, _, _, _, _, _, _, _, _, _, _, _, _, _, rfl, _⟩ := h; rfl) | (obtain ⟨_, _, _, _, _, _, _, _, _, _, _, _, _, _, _, _, _, rfl, _⟩ := h; rfl) | (obtain ⟨_, _, _, _, _, _, _, _, _, _, _, _, _, _, _, _, _, _, rfl, _⟩ := h; rfl) | (obtain ⟨_, _, _, _, _, _, _, _, _, _, _, _, _, _, _, _, _, _, _, rfl, _⟩ := h; rfl)
theorem fn_Standing_blanks {f : Addr} {fd : FuncData} (F : Fun K "blanks" "Standing.blanks" s_Standing_blanks f fd) (T : Txt mg A) (C : CT K A)  : FnOk P w K mg base CX0 1 f fd ["self"] (sp_Standing_blanks K A) :=
  F.ok sc_Standing_blanks (fun vs H Q E h => ln_Standing_blanks h) (fun cdv Ar outer s H vs Q E hr h => ⟨t_Standing_blanks K A, (pss_one (ps_ret (pe_callTy call_list_of (by rfl) T.b_list (by decide +kernel) (pa_cons (pe_fld (pv 0) rfl) pa_nil)))), rd_Standing_blanks C.s h⟩)
theorem bi_Standing_blanks {f : Addr} {fd : FuncData} (F : Fun K "blanks" "Standing.blanks" s_Standing_blanks f fd) : Binds K fd ["self"] [] := F.binds fun _ _ _ _ _ _ us hl => match us, hl with | [_], _ => rfl
theorem sc_Standingcheck_lines : FnScope ["self", "used", "page"] ["self", "used"] (defScope s_Standingcheck_lines) := ⟨rfl, rfl, rfl, by decide +kernel, rfl, by decide +kernel, by decide +kernel⟩
theorem ln_Standingcheck_lines {vs : List V} {H : Hp} {Q : VK} {E : XK} (h : sp_Standingcheck_lines K A vs H Q E) : vs.length = 2 := by
  first | (obtain ⟨_, rfl, _⟩ := h; rfl) | (obtain ⟨_, _, rfl, _⟩ := h; rfl) | (obtain ⟨_, _, _, rfl, _⟩ := h; rfl) | (obtain ⟨_, _, _, _, rfl, _⟩ := h; rfl) | (obtain ⟨_, _, _, _, _, rfl, _⟩ := h; rfl) | (obtain ⟨_, _, _, _, _, _, rfl, _⟩ := h; rfl) | (obtain ⟨_, _, _, _, _, _, _, rfl, _⟩ := h; rfl) | (obtain ⟨_, _, _, _, _, _, _, _, rfl, _⟩ := h; rfl) | (obtain ⟨_, _, _, _, _, _, _, _, _, rfl, _⟩ := h; rfl) | (obtain ⟨_, _, _, _, _, _, _, _, _, _, rfl, _⟩ := h; rfl) | (obtain ⟨_, _, _, _, _, _, _, _, _, _, _, rfl, _⟩ := h; rfl) | (obtain ⟨_, _, _, _, _, _, _, _, _, _, _, _, rfl, _⟩ := h; rfl) | (obtain ⟨_, _, _, _, _, _, _, _, _, _, _, _, _, rfl, _⟩ := h; rfl) | (obtain ⟨_, _, _, _, _, _, _, _, _, _, _, _, _, _, rfl, _⟩ := h; rfl) | (obtain ⟨_, _, _, _, _, _, _, _, _, _, _, _, _, _, _, rfl, _⟩ := h; rfl) | (obtain ⟨_, _, _, _, _, _, _, _, _, _, _, _, _, _, _, _, rfl, _⟩ := h; rfl) | (obtain ⟨_, _, _, _, _, _, _, _, _, _, _, _, _, _, _, _, _, rfl, _⟩ := h; rfl) | (obtain ⟨_, _, _, _, _, _, _, _, _, _, _, _, _, _, _, _, _, _, rfl, _⟩ := h; rfl) | (obtain ⟨_, _, _, _, _, _, _, _, _, _, _, _, _, _, _, _, _, _, _, rfl, _⟩ := h; rfl)
theorem fn_Standingcheck_lines {f : Addr} {fd : FuncData} (F : Fun K "_check_lines" "Standing._check_lines" s_Standingcheck_lines f fd) (T : Txt mg A) (C : CT K A) (C_NoLine : GX.ErrX P w K mg base 1 "NoLine" A.NoLine (GX.sp_err K A.NoLine "page")) : FnOk P w K mg base (L2.CX P w) 3 f fd ["self", "used"] (sp_Standingcheck_lines K A) :=
  F.okX sc_Standingcheck_lines (fun vs H Q E h => ln_Standingcheck_lines h) (fun cdv Ar outer s H vs Q E hr h => ⟨t_Standingcheck_lines K A E, (pss_one (ps_for (passes_of rfl) rfl (pi_list (pe_callB cr_sortedI (by rfl) T.b_sorted (by decide +kernel) (pa_cons (pe_callTy (call_list_dK rfl) (by rfl) T.b_list (by decide +kernel) (pa_cons (pv 1) pa_nil)) pa_nil))) (pg_name (i := 2) sc_Standingcheck_lines.nd rfl (by first | exact Or.inl rfl | exact Or.inr rfl))
  (pss_one (ps_if (pt_cmpR op_gt (pe_dget (hu_of hr) (pv 1) (pv 2) (fun _ _ => rfl)) (pe_ix ix_list (pe_fld (pv 0) rfl) (pv 2) (fun _ _ => rfl)) (nomark _)) (pss_one (GX.ps_raiseO C_NoLine hr (by decide) rfl (by rfl) (takes_of rfl rfl rfl rfl) (pa_cons (pv 2) pa_nil))) pss_nil)))), rd_Standingcheck_lines C.s h⟩)
theorem bi_Standingcheck_lines {f : Addr} {fd : FuncData} (F : Fun K "_check_lines" "Standing._check_lines" s_Standingcheck_lines f fd) : Binds K fd ["self", "used"] [] := F.binds fun _ _ _ _ _ _ us hl => match us, hl with | [_, _], _ => rfl
theorem sc_Standing_after : FnScope ["self", "page", "copied", "used", "blank", "at", "number", "target"] ["self", "page", "copied"] (defScope s_Standing_after) := ⟨rfl, rfl, rfl, by decide +kernel, rfl, by decide +kernel, by decide +kernel⟩
theorem fn_Standing_after {f : Addr} {fd : FuncData} (F : Fun K "after" "Standing.after" s_Standing_after f fd) (T : Txt mg A) (C : CT K A) (C_Standing_init : GX.MakX P w K mg base 3 "Standing" A.Standing (sp_Standing_init K A)) (C_Standingcheck_lines : GX.MetX P w K mg base 3 A.Standing "_check_lines" (sp_Standingcheck_lines K A)) (C_check_pages : GX.CalX P w K mg base 3 "check_pages" (sp_check_pages K A)) (C_lines_used : GX.CalX P w K mg base 5 "lines_used" (sp_lines_used K A)) : FnR P w K mg base (L2.CX P w) 6 f (GX.starSp 2 (sp_Standing_after K A)) :=
  GX.okStar (ps := ["self", "page"]) (pv := "copied") F sc_Standing_after (fun kV doc pm an cdv ct => StX.bind_star2 (B := fun l => bindArgs (PySem.W.fnOf "after" "Standing.after" (defArgs s_Standing_after) (defBody s_Standing_after) (defScope s_Standing_after) .none kV doc pm an cdv ct) ⟨l, []⟩) (fun _ _ => rfl) (fun _ _ _ _ => rfl)) (fun cdv Ar outer s H vs Q E hr h => ⟨t_Standing_after K A E, (pss_cons (ps_expr (GX.pe_cX C_check_pages hr (by decide) (by rfl) (passes_call (takes_of rfl rfl rfl rfl) (fun _ _ _ _ h => h)) (pa_cons (pe_fld (pv 0) rfl) (pa_cons (pe_lst (pa_cons (pv 1) (_root_.StX.pa_star (pv 2) pa_nil))) pa_nil))))
  (pss_cons (ps_set (i := 3) sc_Standing_after.nd rfl (by first | exact Or.inl rfl | exact Or.inr rfl) (GX.pe_cX C_lines_used hr (by decide) (by rfl) (passes_call (takes_of rfl rfl rfl rfl) (fun _ _ _ _ h => h)) (pa_cons (pe_fld (pv 0) rfl) (pa_cons (pv 1) (pa_cons (pv 2) pa_nil)))))
  (pss_cons (ps_expr (GX.pe_mtX C_Standingcheck_lines hr (by decide) (passes_call (takes_of rfl rfl rfl rfl) (fun _ _ _ _ h => h)) (pv 0) (pa_cons (pv 3) pa_nil)))
  (pss_cons (ps_setLc (i := 4) (own := [("at", 5), ("number", 6)]) (g := (gTup K 2 (gCons (gName 5) (gCons (gName 6) gNil)))) (tt := tYes) rfl sc_Standing_after.nd rfl rfl (sw_true rfl rfl rfl (by decide +kernel)) (pi_enum (by rfl) T.b_enumerate (pa_cons (pe_fld (pv 0) rfl) pa_nil)) (blkOk_by (own := [("at", 5), ("number", 6)]) (N := ["self", "page", "copied", "used", "blank", "at", "number", "target"]) (sc := defScope s_Standing_after) (by decide +kernel)) (fun _ _ _ _ _ => (pg_tup rfl (pgs_cons (pg_name (i := 5) sc_Standing_after.nd rfl (by first | exact Or.inl rfl | exact Or.inr rfl)) (pgs_cons (pg_name (i := 6) sc_Standing_after.nd rfl (by first | exact Or.inl rfl | exact Or.inr rfl)) pgs_nil)))) (fun _ _ _ _ _ => pts_nil) (fun _ _ _ _ _ => (pe_op op_sub (pv 6) (pe_dget2 (hu_of hr) (pv 3) (pv 5) pe_int ⟨rfl, rfl, rfl, rfl⟩))))
  (pss_cons (ps_for (passes_of rfl) rfl (pi_tup (pv 2)) (pg_name (i := 7) sc_Standing_after.nd rfl (by first | exact Or.inl rfl | exact Or.inr rfl))
  (pss_one (ps_asg (pe_fld (pv 0) rfl) (pg_sub (pv 4) (pv 7) set_list))))
  (pss_one (ps_ret (GX.pe_mkX C_Standing_init hr (by decide) (by rfl) (passes_call (takes_of rfl rfl rfl rfl) (fun _ _ _ _ h => h)) (pa_cons (pe_fld (pv 0) rfl) (pa_cons (pe_fld (pv 0) rfl) (pa_cons (pv 4) pa_nil))))))))))), rd_Standing_after C.s h⟩)
theorem sc_is_ascending : FnScope ["pages", "before", "after"] ["pages"] (defScope s_is_ascending) := ⟨rfl, rfl, rfl, by decide +kernel, rfl, by decide +kernel, by decide +kernel⟩
theorem ln_is_ascending {vs : List V} {H : Hp} {Q : VK} {E : XK} (h : sp_is_ascending K A vs H Q E) : vs.length = 1 := by
  first | (obtain ⟨_, rfl, _⟩ := h; rfl) | (obtain ⟨_, _, rfl, _⟩ := h; rfl) | (obtain ⟨_, _, _, rfl, _⟩ := h; rfl) | (obtain ⟨_, _, _, _, rfl, _⟩ := h; rfl) | (obtain ⟨_, _, _, _, _, rfl, _⟩ := h; rfl) | (obtain ⟨_, _, _, _, _, _, rfl, _⟩ := h; rfl) | (obtain ⟨_, _, _, _, _, _, _, rfl, _⟩ := h; rfl) | (obtain ⟨_, _, _, _, _, _, _, _, rfl, _⟩ := h; rfl) | (obtain ⟨_, _, _, _, _, _, _, _, _, rfl, _⟩ := h; rfl) | (obtain ⟨_, _, _, _, _, _, _, _, _, _, rfl, _⟩ := h; rfl) | (obtain ⟨_, _, _, _, _, _, _, _, _, _, _, rfl, _⟩ := h; rfl) | (obtain ⟨_, _, _, _, _, _, _, _, _, _, _, _, rfl, _⟩ := h; rfl) | (obtain ⟨_, _, _, _, _, _, _, _, _, _, _, _, _, rfl, _⟩ := h; rfl) | (obtain ⟨_, _, _, _, _, _, _, _, _, _, _, _, _, _, rfl, _⟩ := h; rfl) | (obtain ⟨_, _, _, _, _, _, _, _, _, _, _, _, _, _, _, rfl, _⟩ := h; rfl) | (obtain ⟨_, _, _, _, _, _, _, _, _, _, _, _, _, _, _, _, rfl, _⟩ := h; rfl) | (obtain ⟨_, _, _, _, _, _, _, _, _, _, _, _, _, _, _, _, _, rfl, _⟩ := h; rfl) | (obtain ⟨_, _, _, _, _, _, _, _, _, _, _, _, _, _, _, _, _, _, rfl, _⟩ := h; rfl) | (obtain ⟨_, _, _, _, _, _, _, _, _, _, _, _, _, _, _, _, _, _, _, rfl, _⟩ := h; rfl)
theorem fn_is_ascending {f : Addr} {fd : FuncData} (F : Fun K "_is_ascending" "_is_ascending" s_is_ascending f fd) (T : Txt mg A) (C : CT K A)  : FnOk P w K mg base CX0 1 f fd ["pages"] (sp_is_ascending K A) :=
  F.ok sc_is_ascending (fun vs H Q E h => ln_is_ascending h) (fun cdv Ar outer s H vs Q E hr h => ⟨t_is_ascending K A, (pss_one (ps_ret (pe_callB (cr_all rfl) (by rfl) T.b_all (by decide +kernel) (pa_cons (pe_lc (own := [("before", 1), ("after", 2)]) (g := (gTup K 2 (gCons (gName 1) (gCons (gName 2) gNil)))) (tt := tYes) rfl sc_is_ascending.nd (RZ.pi_zipA (by rfl) T.b_zip (pa_cons (pv 0) (pa_cons (pe_slice sl_tupA (pv 0) (po_some pe_int) po_none) pa_nil))) (blkOk_by (own := [("before", 1), ("after", 2)]) (N := ["pages", "before", "after"]) (sc := defScope s_is_ascending) (by decide +kernel)) (fun _ _ _ _ _ => (pg_tup rfl (pgs_cons (pg_name (i := 1) sc_is_ascending.nd rfl (by first | exact Or.inl rfl | exact Or.inr rfl)) (pgs_cons (pg_name (i := 2) sc_is_ascending.nd rfl (by first | exact Or.inl rfl | exact Or.inr rfl)) pgs_nil)))) (fun _ _ _ _ _ => pts_nil) (fun _ _ _ _ _ => (pe_cmpR op_lt (pv 1) (pv 2) (nomark _)))) pa_nil)))), rd_is_ascending h⟩)
theorem bi_is_ascending {f : Addr} {fd : FuncData} (F : Fun K "_is_ascending" "_is_ascending" s_is_ascending f fd) : Binds K fd ["pages"] [] := F.binds fun _ _ _ _ _ _ us hl => match us, hl with | [_], _ => rfl
theorem sc_fault_of : FnScope ["web", "page", "answer", "copies", "at"] ["web", "page", "answer", "copies"] (defScope s_fault_of) := ⟨rfl, rfl, rfl, by decide +kernel, rfl, by decide +kernel, by decide +kernel⟩
theorem ln_fault_of {vs : List V} {H : Hp} {Q : VK} {E : XK} (h : sp_fault_of K A vs H Q E) : vs.length = 4 := by
  first | (obtain ⟨_, rfl, _⟩ := h; rfl) | (obtain ⟨_, _, rfl, _⟩ := h; rfl) | (obtain ⟨_, _, _, rfl, _⟩ := h; rfl) | (obtain ⟨_, _, _, _, rfl, _⟩ := h; rfl) | (obtain ⟨_, _, _, _, _, rfl, _⟩ := h; rfl) | (obtain ⟨_, _, _, _, _, _, rfl, _⟩ := h; rfl) | (obtain ⟨_, _, _, _, _, _, _, rfl, _⟩ := h; rfl) | (obtain ⟨_, _, _, _, _, _, _, _, rfl, _⟩ := h; rfl) | (obtain ⟨_, _, _, _, _, _, _, _, _, rfl, _⟩ := h; rfl) | (obtain ⟨_, _, _, _, _, _, _, _, _, _, rfl, _⟩ := h; rfl) | (obtain ⟨_, _, _, _, _, _, _, _, _, _, _, rfl, _⟩ := h; rfl) | (obtain ⟨_, _, _, _, _, _, _, _, _, _, _, _, rfl, _⟩ := h; rfl) | (obtain ⟨_, _, _, _, _, _, _, _, _, _, _, _, _, rfl, _⟩ := h; rfl) | (obtain ⟨_, _, _, _, _, _, _, _, _, _, _, _, _, _, rfl, _⟩ := h; rfl) | (obtain ⟨_, _, _, _, _, _, _, _, _, _, _, _, _, _, _, rfl, _⟩ := h; rfl) | (obtain ⟨_, _, _, _, _, _, _, _, _, _, _, _, _, _, _, _, rfl, _⟩ := h; rfl) | (obtain ⟨_, _, _, _, _, _, _, _, _, _, _, _, _, _, _, _, _, rfl, _⟩ := h; rfl) | (obtain ⟨_, _, _, _, _, _, _, _, _, _, _, _, _, _, _, _, _, _, rfl, _⟩ := h; rfl) | (obtain ⟨_, _, _, _, _, _, _, _, _, _, _, _, _, _, _, _, _, _, _, rfl, _⟩ := h; rfl)
theorem fn_fault_of {f : Addr} {fd : FuncData} (F : Fun K "_fault_of" "_fault_of" s_fault_of f fd) (T : Txt mg A) (C : CT K A) (C_is_ascending : C8.Cal P w K mg base 1 "_is_ascending" (sp_is_ascending K A) []) : FnOk P w K mg base CX0 2 f fd ["web", "page", "answer", "copies"] (sp_fault_of K A) :=
  F.ok sc_fault_of (fun vs H Q E h => ln_fault_of h) (fun cdv Ar outer s H vs Q E hr h => ⟨t_fault_of K A, (pss_cons (ps_if (pt_val (pe_callB (cr_any rfl) (by rfl) T.b_any (by decide +kernel) (pa_cons (pe_lc (own := [("at", 4)]) (g := (gName 4)) (tt := tYes) rfl sc_fault_of.nd (pi_list (pe_lst (pa_cons (pv 1) (_root_.StX.pa_star (pv 2) pa_nil)))) (blkOk_by (own := [("at", 4)]) (N := ["web", "page", "answer", "copies", "at"]) (sc := defScope s_fault_of) (by decide +kernel)) (fun _ _ _ _ _ => (pg_name (i := 4) sc_fault_of.nd rfl (by first | exact Or.inl rfl | exact Or.inr rfl))) (fun _ _ _ _ _ => pts_nil) (fun _ _ _ _ _ => (pe_not (pe_chain op_le op_lt pe_int (pv 4) (pe_fld (pv 0) rfl))))) pa_nil)) (by intro _; rfl)) (pss_one (ps_ret pe_str)) pss_nil)
  (pss_cons (ps_if (PW.pt (pw_or (pt_cmpR op_gt (pe_callB call_len_seq (by rfl) T.b_len (by decide +kernel) (pa_cons (pv 2) pa_nil)) (pv 3) (nomark _)) (pw_or1 (pt_not (pt_val (C8.pe_c C_is_ascending hr (by decide) (by rfl) (pa_cons (pv 2) pa_nil)) (by intro _; rfl)))))) (pss_one (ps_ret pe_str)) pss_nil)
  (pss_one (ps_ret pe_non)))), rd_fault_of C.b h⟩)
theorem bi_fault_of {f : Addr} {fd : FuncData} (F : Fun K "_fault_of" "_fault_of" s_fault_of f fd) : Binds K fd ["web", "page", "answer", "copies"] [] := F.binds fun _ _ _ _ _ _ us hl => match us, hl with | [_, _, _, _], _ => rfl
theorem sc_judge_log : FnScope ["standing", "rows", "copies", "present", "index", "fault", "page", "answer"] ["standing", "rows", "copies"] (defScope s_judge_log) := ⟨rfl, rfl, rfl, by decide +kernel, rfl, by decide +kernel, by decide +kernel⟩
theorem ln_judge_log {vs : List V} {H : Hp} {Q : VK} {E : XK} (h : sp_judge_log K A vs H Q E) : vs.length = 3 := by
  first | (obtain ⟨_, rfl, _⟩ := h; rfl) | (obtain ⟨_, _, rfl, _⟩ := h; rfl) | (obtain ⟨_, _, _, rfl, _⟩ := h; rfl) | (obtain ⟨_, _, _, _, rfl, _⟩ := h; rfl) | (obtain ⟨_, _, _, _, _, rfl, _⟩ := h; rfl) | (obtain ⟨_, _, _, _, _, _, rfl, _⟩ := h; rfl) | (obtain ⟨_, _, _, _, _, _, _, rfl, _⟩ := h; rfl) | (obtain ⟨_, _, _, _, _, _, _, _, rfl, _⟩ := h; rfl) | (obtain ⟨_, _, _, _, _, _, _, _, _, rfl, _⟩ := h; rfl) | (obtain ⟨_, _, _, _, _, _, _, _, _, _, rfl, _⟩ := h; rfl) | (obtain ⟨_, _, _, _, _, _, _, _, _, _, _, rfl, _⟩ := h; rfl) | (obtain ⟨_, _, _, _, _, _, _, _, _, _, _, _, rfl, _⟩ := h; rfl) | (obtain ⟨_, _, _, _, _, _, _, _, _, _, _, _, _, rfl, _⟩ := h; rfl) | (obtain ⟨_, _, _, _, _, _, _, _, _, _, _, _, _, _, rfl, _⟩ := h; rfl) | (obtain ⟨_, _, _, _, _, _, _, _, _, _, _, _, _, _, _, rfl, _⟩ := h; rfl) | (obtain ⟨_, _, _, _, _, _, _, _, _, _, _, _, _, _, _, _, rfl, _⟩ := h; rfl) | (obtain ⟨_, _, _, _, _, _, _, _, _, _, _, _, _, _, _, _, _, rfl, _⟩ := h; rfl) | (obtain ⟨_, _, _, _, _, _, _, _, _, _, _, _, _, _, _, _, _, _, rfl, _⟩ := h; rfl) | (obtain ⟨_, _, _, _, _, _, _, _, _, _, _, _, _, _, _, _, _, _, _, rfl, _⟩ := h; rfl)
theorem fn_judge_log {f : Addr} {fd : FuncData} (F : Fun K "judge_log" "judge_log" s_judge_log f fd) (T : Txt mg A) (C : CT K A) (B_Standing_after : GX.MetB P w K mg base 6 A.Standing "after" (GX.starSp 2 (sp_Standing_after K A))) (C_fault_of : C8.Cal P w K mg base 2 "_fault_of" (sp_fault_of K A) []) : FnOk P w K mg base CX0 7 f fd ["standing", "rows", "copies"] (sp_judge_log K A) :=
  F.ok sc_judge_log (fun vs H Q E h => ln_judge_log h) (fun cdv Ar outer s H vs Q E hr h => ⟨t_judge_log K A, (pss_cons (ps_set (i := 3) sc_judge_log.nd rfl (by first | exact Or.inl rfl | exact Or.inr rfl) (pv 0))
  (pss_cons (ps_for PassesOwn.never rfl (pi_enum (by rfl) T.b_enumerate (pa_cons (pv 1) pa_nil)) (pg_tup rfl (pgs_cons (pg_name (i := 4) sc_judge_log.nd rfl (by first | exact Or.inl rfl | exact Or.inr rfl)) (pgs_cons (pg_tup rfl (pgs_cons (pg_name (i := 6) sc_judge_log.nd rfl (by first | exact Or.inl rfl | exact Or.inr rfl)) (pgs_cons (pg_name (i := 7) sc_judge_log.nd rfl (by first | exact Or.inl rfl | exact Or.inr rfl)) pgs_nil))) pgs_nil)))
  (pss_cons (ps_set (i := 5) sc_judge_log.nd rfl (by first | exact Or.inl rfl | exact Or.inr rfl) (C8.pe_c C_fault_of hr (by decide) (by rfl) (pa_cons (pe_fld (pv 0) rfl) (pa_cons (pv 6) (pa_cons (pv 7) (pa_cons (pv 2) pa_nil))))))
  (pss_cons (ps_if (pt_cmp (pc_notN (pv 5))) (pss_one (ps_ret (pe_tup (pa_cons (pv 4) (pa_cons (pv 5) (pa_cons (pv 3) pa_nil)))))) pss_nil)
  (pss_one (ps_try_only (tb := fun W => (tAsg (GX.tMethSBS K A.Standing "after" (GX.starSp 2 (sp_Standing_after K A)) (WE W) (tVar 3) (tVar 6) (tVar 7)) (gName 3))) (ts := fun a cls d => (tRet (tTup (tCons (tVar 4) (tCons (tC (.str "line")) (tCons (tVar 3) tNil)))))) (Wout := fun _ _ _ _ => False) rfl rfl ⟨rfl, by decide, Or.inl T.g_NoLine⟩ takes0
  (fun W pn xe tk _ => (pss_one (ps_set (i := 3) sc_judge_log.nd rfl (by first | exact Or.inl rfl | exact Or.inr rfl) (GX.pe_sbT B_Standing_after hr (by decide) tk (pv 3) (pv 6) (pv 7)))))
  (fun a oe cls d pn hz hf => (pss_one (ps_ret (pe_tup (pa_cons (pv 4) (pa_cons pe_str (pa_cons (pv 3) pa_nil))))))))))))
  (pss_one (ps_ret (pe_tup (pa_cons pe_non (pa_cons pe_non (pa_cons (pv 3) pa_nil)))))))), rd_judge_log C.s C.g h⟩)
theorem bn_judge_log {f : Addr} {fd : FuncData} (D : FunD K "judge_log" "judge_log" (defArgs s_judge_log) (defBody s_judge_log) (defScope s_judge_log) [] [("copies", .int 1)] f fd) : ∃ ds, Vals [V.int 1] ds ∧ Binds K fd ["standing", "rows", "copies"] ds :=
  D.binds0 2 (by simp) rfl fun _ _ _ _ _ _ us ks h1 h2 => match us, h1, ks, h2 with | [_, _], _, [_], _ => ⟨_, _, _, _, _, _, rfl, rfl, rfl⟩
theorem kb_judge_log {f : Addr} {fd : FuncData} (D : FunD K "judge_log" "judge_log" (defArgs s_judge_log) (defBody s_judge_log) (defScope s_judge_log) [] [("copies", .int 1)] f fd) : ∃ mv : List Value, KBn K fd ["standing", "rows", "copies"] 2 ["copies"] (fun us ws => (fun us (_ : List Value) ws => us ++ ws) us mv ws) (fun vs zs => vs ++ zs) :=
  D.kbinds0 2 ["copies"] [] (fun us _ ws => us ++ ws) (by simp) (fun _ h => nomatch h) (fun r1 _ r3 => r1.append r3) fun _ _ _ _ _ _ us mv ws h1 h2 h3 => match us, h1, mv, h2, ws, h3 with | [_, _], _, [], _, [_], _ => rfl
theorem sc_law_box : FnScope ["script", "cell"] ["script"] (defScope s_law_box) := ⟨rfl, rfl, rfl, by decide +kernel, rfl, by decide +kernel, by decide +kernel⟩
theorem ln_law_box {vs : List V} {H : Hp} {Q : VK} {E : XK} (h : sp_law_box K A vs H Q E) : vs.length = 1 := by
  first | (obtain ⟨_, rfl, _⟩ := h; rfl) | (obtain ⟨_, _, rfl, _⟩ := h; rfl) | (obtain ⟨_, _, _, rfl, _⟩ := h; rfl) | (obtain ⟨_, _, _, _, rfl, _⟩ := h; rfl) | (obtain ⟨_, _, _, _, _, rfl, _⟩ := h; rfl) | (obtain ⟨_, _, _, _, _, _, rfl, _⟩ := h; rfl) | (obtain ⟨_, _, _, _, _, _, _, rfl, _⟩ := h; rfl) | (obtain ⟨_, _, _, _, _, _, _, _, rfl, _⟩ := h; rfl) | (obtain ⟨_, _, _, _, _, _, _, _, _, rfl, _⟩ := h; rfl) | (obtain ⟨_, _, _, _, _, _, _, _, _, _, rfl, _⟩ := h; rfl) | (obtain ⟨_, _, _, _, _, _, _, _, _, _, _, rfl, _⟩ := h; rfl) | (obtain ⟨_, _, _, _, _, _, _, _, _, _, _, _, rfl, _⟩ := h; rfl) | (obtain ⟨_, _, _, _, _, _, _, _, _, _, _, _, _, rfl, _⟩ := h; rfl) | (obtain ⟨_, _, _, _, _, _, _, _, _, _, _, _, _, _, rfl, _⟩ := h; rfl) | (obtain ⟨_, _, _, _, _, _, _, _, _, _, _, _, _, _, _, rfl, _⟩ := h; rfl) | (obtain ⟨_, _, _, _, _, _, _, _, _, _, _, _, _, _, _, _, rfl, _⟩ := h; rfl) | (obtain ⟨_, _, _, _, _, _, _, _, _, _, _, _, _, _, _, _, _, rfl, _⟩ := h; rfl) | (obtain ⟨_, _, _, _, _, _, _, _, _, _, _, _, _, _, _, _, _, _, rfl, _⟩ := h; rfl) | (obtain ⟨_, _, _, _, _, _, _, _, _, _, _, _, _, _, _, _, _, _, _, rfl, _⟩ := h; rfl)
theorem fn_law_box {f : Addr} {fd : FuncData} (F : Fun K "_law_box" "_law_box" s_law_box f fd) (T : Txt mg A) (C : CT K A)  : FnOk P w K mg base CX0 1 f fd ["script"] (sp_law_box K A) :=
  F.ok sc_law_box (fun vs H Q E h => ln_law_box h) (fun cdv Ar outer s H vs Q E hr h => ⟨t_law_box K A, (pss_one (ps_ret (pe_lst (pa_cons (pe_lc (own := [("cell", 1)]) (g := (gName 1)) (tt := tYes) rfl sc_law_box.nd (pi_list (pe_slice sl_list (pv 0) po_none (po_some pe_int))) (blkOk_by (own := [("cell", 1)]) (N := ["script", "cell"]) (sc := defScope s_law_box) (by decide +kernel)) (fun _ _ _ _ _ => (pg_name (i := 1) sc_law_box.nd rfl (by first | exact Or.inl rfl | exact Or.inr rfl))) (fun _ _ _ _ _ => pts_nil) (fun _ _ _ _ _ => (pe_callB call_abs (by rfl) T.b_abs (by decide +kernel) (pa_cons (pe_callTy call_int1 (by rfl) T.b_int (by decide +kernel) (pa_cons (pv 1) pa_nil)) pa_nil)))) (pa_cons pe_int (pa_cons pe_int (pa_cons pe_int (pa_cons pe_int pa_nil)))))))), rd_law_box h⟩)
theorem bi_law_box {f : Addr} {fd : FuncData} (F : Fun K "_law_box" "_law_box" s_law_box f fd) : Binds K fd ["script"] [] := F.binds fun _ _ _ _ _ _ us hl => match us, hl with | [_], _ => rfl
theorem sc_law_take : FnScope ["box", "many", "cell", "digit", "once", "twice"] ["box", "many"] (defScope s_law_take) := ⟨rfl, rfl, rfl, by decide +kernel, rfl, by decide +kernel, by decide +kernel⟩
theorem ln_law_take {vs : List V} {H : Hp} {Q : VK} {E : XK} (h : sp_law_take K A vs H Q E) : vs.length = 2 := by
  first | (obtain ⟨_, rfl, _⟩ := h; rfl) | (obtain ⟨_, _, rfl, _⟩ := h; rfl) | (obtain ⟨_, _, _, rfl, _⟩ := h; rfl) | (obtain ⟨_, _, _, _, rfl, _⟩ := h; rfl) | (obtain ⟨_, _, _, _, _, rfl, _⟩ := h; rfl) | (obtain ⟨_, _, _, _, _, _, rfl, _⟩ := h; rfl) | (obtain ⟨_, _, _, _, _, _, _, rfl, _⟩ := h; rfl) | (obtain ⟨_, _, _, _, _, _, _, _, rfl, _⟩ := h; rfl) | (obtain ⟨_, _, _, _, _, _, _, _, _, rfl, _⟩ := h; rfl) | (obtain ⟨_, _, _, _, _, _, _, _, _, _, rfl, _⟩ := h; rfl) | (obtain ⟨_, _, _, _, _, _, _, _, _, _, _, rfl, _⟩ := h; rfl) | (obtain ⟨_, _, _, _, _, _, _, _, _, _, _, _, rfl, _⟩ := h; rfl) | (obtain ⟨_, _, _, _, _, _, _, _, _, _, _, _, _, rfl, _⟩ := h; rfl) | (obtain ⟨_, _, _, _, _, _, _, _, _, _, _, _, _, _, rfl, _⟩ := h; rfl) | (obtain ⟨_, _, _, _, _, _, _, _, _, _, _, _, _, _, _, rfl, _⟩ := h; rfl) | (obtain ⟨_, _, _, _, _, _, _, _, _, _, _, _, _, _, _, _, rfl, _⟩ := h; rfl) | (obtain ⟨_, _, _, _, _, _, _, _, _, _, _, _, _, _, _, _, _, rfl, _⟩ := h; rfl) | (obtain ⟨_, _, _, _, _, _, _, _, _, _, _, _, _, _, _, _, _, _, rfl, _⟩ := h; rfl) | (obtain ⟨_, _, _, _, _, _, _, _, _, _, _, _, _, _, _, _, _, _, _, rfl, _⟩ := h; rfl)
theorem fn_law_take {f : Addr} {fd : FuncData} (F : Fun K "_law_take" "_law_take" s_law_take f fd) (T : Txt mg A) (C : CT K A)  : FnOk P w K mg base CX0 1 f fd ["box", "many"] (sp_law_take K A) :=
  F.ok sc_law_take (fun vs H Q E h => ln_law_take h) (fun cdv Ar outer s H vs Q E hr h => ⟨t_law_take K A, (C8.pss_cut (ps_if (PW.pt (pw_and (pt_cmpR op_eq (pe_ix ix_list (pv 0) pe_int (fun _ _ => rfl)) pe_int (nomark _)) (pw_and1 (pt_cmpR op_lt (pe_ix ix_list (pv 0) pe_int (fun _ _ => rfl)) (pe_callB call_len_seq (by rfl) T.b_len (by decide +kernel) (pa_cons (pe_ix ix_list (pv 0) pe_int (fun _ _ => rfl)) pa_nil)) (nomark _))))) (pss_cons (ps_set (i := 2) sc_law_take.nd rfl (by first | exact Or.inl rfl | exact Or.inr rfl) (pe_ix ix_list (pe_ix ix_list (pv 0) pe_int (fun _ _ => rfl)) (pe_ix ix_list (pv 0) pe_int (fun _ _ => rfl)) (fun _ _ => rfl)))
  (pss_cons (ps_asg (pe_op op_add (pe_ix ix_list (pv 0) pe_int (fun _ _ => rfl)) pe_int) (pg_sub (pv 0) pe_int set_list))
  (pss_one (ps_if (pt_cmpR op_ge (pv 2) (pe_op op_pow pe_int pe_int) (nomark _)) (pss_one (ps_asg (pv 2) (pg_sub (pv 0) pe_int set_list))) (pss_one (ps_asg (pe_op op_mod (pe_callTy call_int1 (by rfl) T.b_int (by decide +kernel) (pa_cons (pe_op op_add (pe_op op_add (pe_op op_mul (pe_ix ix_list (pv 0) pe_int (fun _ _ => rfl)) pe_int) (pe_op op_mul (pv 2) pe_int)) pe_int) pa_nil)) pe_int) (pg_sub (pv 0) pe_int set_list))))))) pss_nil)
  (pss_cons (ps_if (pt_cmpR op_gt (pe_ix ix_list (pv 0) pe_int (fun _ _ => rfl)) pe_int (nomark _)) (pss_cons (ps_set (i := 3) sc_law_take.nd rfl (by first | exact Or.inl rfl | exact Or.inr rfl) (pe_op op_mod (pe_callTy call_int1 (by rfl) T.b_int (by decide +kernel) (pa_cons (pe_ix ix_list (pv 0) pe_int (fun _ _ => rfl)) pa_nil)) (pv 1)))
  (pss_cons (ps_asg (pe_op op_fdiv (pe_ix ix_list (pv 0) pe_int (fun _ _ => rfl)) (pv 1)) (pg_sub (pv 0) pe_int set_list))
  (pss_one (ps_ret (pv 3))))) pss_nil)
  (pss_cons (ps_asg (pe_op op_add (pe_ix ix_list (pv 0) pe_int (fun _ _ => rfl)) pe_int) (pg_sub (pv 0) pe_int set_list))
  (pss_cons (ps_asg (pe_op op_mod (pe_callTy call_int1 (by rfl) T.b_int (by decide +kernel) (pa_cons (pe_op op_add (pe_op op_add (pe_op op_mul (pe_ix ix_list (pv 0) pe_int (fun _ _ => rfl)) pe_int) (pe_op op_mul (pe_ix ix_list (pv 0) pe_int (fun _ _ => rfl)) pe_int)) pe_int) pa_nil)) pe_int) (pg_sub (pv 0) pe_int set_list))
  (pss_cons (ps_set (i := 4) sc_law_take.nd rfl (by first | exact Or.inl rfl | exact Or.inr rfl) (pe_op op_mod (pe_callTy call_int1 (by rfl) T.b_int (by decide +kernel) (pa_cons (pe_op op_add (pe_op op_mul (pe_ix ix_list (pv 0) pe_int (fun _ _ => rfl)) (pe_op op_add (pe_ix ix_list (pv 0) pe_int (fun _ _ => rfl)) (pe_ix ix_list (pv 0) pe_int (fun _ _ => rfl)))) (pe_op op_mul pe_int (pe_ix ix_list (pv 0) pe_int (fun _ _ => rfl)))) pa_nil)) pe_int))
  (pss_cons (ps_set (i := 5) sc_law_take.nd rfl (by first | exact Or.inl rfl | exact Or.inr rfl) (pe_op op_mod (pe_callTy call_int1 (by rfl) T.b_int (by decide +kernel) (pa_cons (pe_op op_add (pe_op op_mul (pv 4) pe_int) (pe_op op_fdiv (pe_ix ix_list (pv 0) pe_int (fun _ _ => rfl)) pe_int)) pa_nil)) pe_int))
  (pss_one (ps_ret (pe_op op_mod (pe_callTy call_int1 (by rfl) T.b_int (by decide +kernel) (pa_cons (pe_op op_fdiv (pv 5) pe_int) pa_nil)) (pv 1)))))))))), rd_law_take h⟩)
theorem bi_law_take {f : Addr} {fd : FuncData} (F : Fun K "_law_take" "_law_take" s_law_take f fd) : Binds K fd ["box", "many"] [] := F.binds fun _ _ _ _ _ _ us hl => match us, hl with | [_, _], _ => rfl
theorem sc_law_pages : FnScope ["box", "pages"] ["box"] (defScope s_law_pages) := ⟨rfl, rfl, rfl, by decide +kernel, rfl, by decide +kernel, by decide +kernel⟩
theorem ln_law_pages {vs : List V} {H : Hp} {Q : VK} {E : XK} (h : sp_law_pages K A vs H Q E) : vs.length = 1 := by
  first | (obtain ⟨_, rfl, _⟩ := h; rfl) | (obtain ⟨_, _, rfl, _⟩ := h; rfl) | (obtain ⟨_, _, _, rfl, _⟩ := h; rfl) | (obtain ⟨_, _, _, _, rfl, _⟩ := h; rfl) | (obtain ⟨_, _, _, _, _, rfl, _⟩ := h; rfl) | (obtain ⟨_, _, _, _, _, _, rfl, _⟩ := h; rfl) | (obtain ⟨_, _, _, _, _, _, _, rfl, _⟩ := h; rfl) | (obtain ⟨_, _, _, _, _, _, _, _, rfl, _⟩ := h; rfl) | (obtain ⟨_, _, _, _, _, _, _, _, _, rfl, _⟩ := h; rfl) | (obtain ⟨_, _, _, _, _, _, _, _, _, _, rfl, _⟩ := h; rfl) | (obtain ⟨_, _, _, _, _, _, _, _, _, _, _, rfl, _⟩ := h; rfl) | (obtain ⟨_, _, _, _, _, _, _, _, _, _, _, _, rfl, _⟩ := h; rfl) | (obtain ⟨_, _, _, _, _, _, _, _, _, _, _, _, _, rfl, _⟩ := h; rfl) | (obtain ⟨_, _, _, _, _, _, _, _, _, _, _, _, _, _, rfl, _⟩ := h; rfl) | (obtain ⟨_, _, _, _, _, _, _, _, _, _, _, _, _, _, _, rfl, _⟩ := h; rfl) | (obtain ⟨_, _, _, _, _, _, _, _, _, _, _, _, _, _, _, _, rfl, _⟩ := h; rfl) | (obtain ⟨_, _, _, _, _, _, _, _, _, _, _, _, _, _, _, _, _, rfl, _⟩ := h; rfl) | (obtain ⟨_, _, _, _, _, _, _, _, _, _, _, _, _, _, _, _, _, _, rfl, _⟩ := h; rfl) | (obtain ⟨_, _, _, _, _, _, _, _, _, _, _, _, _, _, _, _, _, _, _, rfl, _⟩ := h; rfl)
theorem fn_law_pages {f : Addr} {fd : FuncData} (F : Fun K "_law_pages" "_law_pages" s_law_pages f fd) (T : Txt mg A) (C : CT K A) (C_law_take : C8.Cal P w K mg base 1 "_law_take" (sp_law_take K A) []) : FnOk P w K mg base CX0 2 f fd ["box"] (sp_law_pages K A) :=
  F.ok sc_law_pages (fun vs H Q E h => ln_law_pages h) (fun cdv Ar outer s H vs Q E hr h => ⟨t_law_pages K A, (pss_cons (ps_set (i := 1) sc_law_pages.nd rfl (by first | exact Or.inl rfl | exact Or.inr rfl) (pe_op op_add pe_int (C8.pe_c C_law_take hr (by decide) (by rfl) (pa_cons (pv 0) (pa_cons pe_int pa_nil)))))
  (C8.pss_cut (ps_if (pt_cmpR op_eq (C8.pe_c C_law_take hr (by decide) (by rfl) (pa_cons (pv 0) (pa_cons pe_int pa_nil))) pe_int (nomark _)) (pss_one (ps_set (i := 1) sc_law_pages.nd rfl (by first | exact Or.inl rfl | exact Or.inr rfl) (pe_op op_add pe_int (C8.pe_c C_law_take hr (by decide) (by rfl) (pa_cons (pv 0) (pa_cons pe_int pa_nil)))))) pss_nil)
  (pss_one (ps_ret (pv 1))))), rd_law_pages h⟩)
theorem bi_law_pages {f : Addr} {fd : FuncData} (F : Fun K "_law_pages" "_law_pages" s_law_pages f fd) : Binds K fd ["box"] [] := F.binds fun _ _ _ _ _ _ us hl => match us, hl with | [_], _ => rfl
theorem sc_law_built : FnScope ["box", "pages", "shape", "pairs", "k", "near", "way", "first", "second"] ["box", "pages"] (defScope s_law_built) := ⟨rfl, rfl, rfl, by decide +kernel, rfl, by decide +kernel, by decide +kernel⟩
theorem ln_law_built {vs : List V} {H : Hp} {Q : VK} {E : XK} (h : sp_law_built K A vs H Q E) : vs.length = 2 := by
  first | (obtain ⟨_, rfl, _⟩ := h; rfl) | (obtain ⟨_, _, rfl, _⟩ := h; rfl) | (obtain ⟨_, _, _, rfl, _⟩ := h; rfl) | (obtain ⟨_, _, _, _, rfl, _⟩ := h; rfl) | (obtain ⟨_, _, _, _, _, rfl, _⟩ := h; rfl) | (obtain ⟨_, _, _, _, _, _, rfl, _⟩ := h; rfl) | (obtain ⟨_, _, _, _, _, _, _, rfl, _⟩ := h; rfl) | (obtain ⟨_, _, _, _, _, _, _, _, rfl, _⟩ := h; rfl) | (obtain ⟨_, _, _, _, _, _, _, _, _, rfl, _⟩ := h; rfl) | (obtain ⟨_, _, _, _, _, _, _, _, _, _, rfl, _⟩ := h; rfl) | (obtain ⟨_, _, _, _, _, _, _, _, _, _, _, rfl, _⟩ := h; rfl) | (obtain ⟨_, _, _, _, _, _, _, _, _, _, _, _, rfl, _⟩ := h; rfl) | (obtain ⟨_, _, _, _, _, _, _, _, _, _, _, _, _, rfl, _⟩ := h; rfl) | (obtain ⟨_, _, _, _, _, _, _, _, _, _, _, _, _, _, rfl, _⟩ := h; rfl) | (obtain ⟨_, _, _, _, _, _, _, _, _, _, _, _, _, _, _, rfl, _⟩ := h; rfl) | (obtain ⟨_, _, _, _, _, _, _, _, _, _, _, _, _, _, _, _, rfl, _⟩ := h; rfl) | (obtain ⟨_, _, _, _, _, _, _, _, _, _, _, _, _, _, _, _, _, rfl, _⟩ := h; rfl) | (obtain ⟨_, _, _, _, _, _, _, _, _, _, _, _, _, _, _, _, _, _, rfl, _⟩ := h; rfl) | (obtain ⟨_, _, _, _, _, _, _, _, _, _, _, _, _, _, _, _, _, _, _, rfl, _⟩ := h; rfl)
theorem fn_law_built {f : Addr} {fd : FuncData} (F : Fun K "_law_built" "_law_built" s_law_built f fd) (T : Txt mg A) (C : CT K A) (C_law_take : C8.Cal P w K mg base 1 "_law_take" (sp_law_take K A) []) : FnOk P w K mg base CX0 2 f fd ["box", "pages"] (sp_law_built K A) :=
  F.ok sc_law_built (fun vs H Q E h => ln_law_built h) (fun cdv Ar outer s H vs Q E hr h => ⟨t_law_built K A, (pss_cons (ps_set (i := 2) sc_law_built.nd rfl (by first | exact Or.inl rfl | exact Or.inr rfl) (C8.pe_c C_law_take hr (by decide) (by rfl) (pa_cons (pv 0) (pa_cons pe_int pa_nil))))
  (pss_cons (ps_set (i := 3) sc_law_built.nd rfl (by first | exact Or.inl rfl | exact Or.inr rfl) (pe_lst pa_nil))
  (C8.pss_cut (ps_if (pt_cmpR op_lt (pv 2) pe_int (nomark _)) (pss_one (ps_for PassesOwn.never rfl (pi_range1 (by rfl) T.b_range (pa_cons (pe_op op_sub (pv 1) pe_int) pa_nil)) (pg_name (i := 4) sc_law_built.nd rfl (by first | exact Or.inl rfl | exact Or.inr rfl))
  (pss_cons (ps_expr (pe_bm PySem.F.plainAttrs_list PySem.F.slot_list_append PySem.F.type_list_append mt_append (pv 3) (pa_cons (pe_tup (pa_cons (pv 4) (pa_cons (pe_op op_add (pv 4) pe_int) pa_nil))) pa_nil)))
  (pss_one (ps_if (pt_cmpR op_eq (pv 2) pe_int (nomark _)) (pss_one (ps_expr (pe_bm PySem.F.plainAttrs_list PySem.F.slot_list_append PySem.F.type_list_append mt_append (pv 3) (pa_cons (pe_tup (pa_cons (pe_op op_add (pv 4) pe_int) (pa_cons (pv 4) pa_nil))) pa_nil)))) pss_nil))))) pss_nil)
  (C8.pss_cut (ps_if (PW.pt (pw_and (pt_cmpR op_eq (pv 2) pe_int (nomark _)) (pw_and1 (pt_cmpR op_gt (pv 1) pe_int (nomark _))))) (pss_one (ps_expr (pe_bm PySem.F.plainAttrs_list PySem.F.slot_list_append PySem.F.type_list_append mt_append (pv 3) (pa_cons (pe_tup (pa_cons (pe_op op_sub (pv 1) pe_int) (pa_cons pe_int pa_nil))) pa_nil)))) pss_nil)
  (C8.pss_cut (ps_if (PW.pt (pw_or (pt_cmpR op_eq (pv 2) pe_int (nomark _)) (pw_or1 (pt_cmpR op_eq (pv 2) pe_int (nomark _))))) (pss_one (ps_for PassesOwn.never rfl (pi_range2 (by rfl) T.b_range (pa_cons pe_int (pa_cons (pv 1) pa_nil))) (pg_name (i := 4) sc_law_built.nd rfl (by first | exact Or.inl rfl | exact Or.inr rfl))
  (pss_cons (ps_set (i := 5) sc_law_built.nd rfl (by first | exact Or.inl rfl | exact Or.inr rfl) pe_int)
  (C8.pss_cut (ps_if (pt_cmpR op_eq (pv 2) pe_int (nomark _)) (pss_one (ps_set (i := 5) sc_law_built.nd rfl (by first | exact Or.inl rfl | exact Or.inr rfl) (C8.pe_c C_law_take hr (by decide) (by rfl) (pa_cons (pv 0) (pa_cons (pv 4) pa_nil))))) pss_nil)
  (pss_cons (ps_set (i := 6) sc_law_built.nd rfl (by first | exact Or.inl rfl | exact Or.inr rfl) (C8.pe_c C_law_take hr (by decide) (by rfl) (pa_cons (pv 0) (pa_cons pe_int pa_nil))))
  (C8.pss_cut (ps_if (pt_cmpR op_ne (pv 6) pe_int (nomark _)) (pss_one (ps_expr (pe_bm PySem.F.plainAttrs_list PySem.F.slot_list_append PySem.F.type_list_append mt_append (pv 3) (pa_cons (pe_tup (pa_cons (pv 5) (pa_cons (pv 4) pa_nil))) pa_nil)))) pss_nil)
  (pss_one (ps_if (pt_cmpR op_ne (pv 6) pe_int (nomark _)) (pss_one (ps_expr (pe_bm PySem.F.plainAttrs_list PySem.F.slot_list_append PySem.F.type_list_append mt_append (pv 3) (pa_cons (pe_tup (pa_cons (pv 4) (pa_cons (pv 5) pa_nil))) pa_nil)))) pss_nil)))))))) pss_nil)
  (C8.pss_cut (ps_if (pt_cmpR op_eq (pv 2) pe_int (nomark _)) (pss_one (ps_for PassesOwn.never rfl (pi_range1 (by rfl) T.b_range (pa_cons (C8.pe_c C_law_take hr (by decide) (by rfl) (pa_cons (pv 0) (pa_cons pe_int pa_nil))) pa_nil)) (pg_name (i := 4) sc_law_built.nd rfl (by first | exact Or.inl rfl | exact Or.inr rfl))
  (pss_cons (ps_set (i := 7) sc_law_built.nd rfl (by first | exact Or.inl rfl | exact Or.inr rfl) (C8.pe_c C_law_take hr (by decide) (by rfl) (pa_cons (pv 0) (pa_cons (pv 1) pa_nil))))
  (pss_cons (ps_set (i := 8) sc_law_built.nd rfl (by first | exact Or.inl rfl | exact Or.inr rfl) (C8.pe_c C_law_take hr (by decide) (by rfl) (pa_cons (pv 0) (pa_cons (pv 1) pa_nil))))
  (pss_one (ps_if (PW.pt (pw_and (pt_cmpR op_ne (pv 7) (pv 8) (nomark _)) (pw_and1 (pt_cmpR (op_notInD (hu65 hr)) (pe_tup (pa_cons (pv 7) (pa_cons (pv 8) pa_nil))) (pv 3) (by rfl))))) (pss_one (ps_expr (pe_bm PySem.F.plainAttrs_list PySem.F.slot_list_append PySem.F.type_list_append mt_append (pv 3) (pa_cons (pe_tup (pa_cons (pv 7) (pa_cons (pv 8) pa_nil))) pa_nil)))) pss_nil)))))) pss_nil)
  (pss_one (ps_ret (pv 3))))))))), rd_law_built h⟩)
theorem bi_law_built {f : Addr} {fd : FuncData} (F : Fun K "_law_built" "_law_built" s_law_built f fd) : Binds K fd ["box", "pages"] [] := F.binds fun _ _ _ _ _ _ us hl => match us, hl with | [_, _], _ => rfl
theorem sc_law_pairs : FnScope ["box", "pages", "pairs", "shift", "step", "names", "k", "pair"] ["box", "pages"] (defScope s_law_pairs) := ⟨rfl, rfl, rfl, by decide +kernel, rfl, by decide +kernel, by decide +kernel⟩
theorem ln_law_pairs {vs : List V} {H : Hp} {Q : VK} {E : XK} (h : sp_law_pairs K A vs H Q E) : vs.length = 2 := by
  first | (obtain ⟨_, rfl, _⟩ := h; rfl) | (obtain ⟨_, _, rfl, _⟩ := h; rfl) | (obtain ⟨_, _, _, rfl, _⟩ := h; rfl) | (obtain ⟨_, _, _, _, rfl, _⟩ := h; rfl) | (obtain ⟨_, _, _, _, _, rfl, _⟩ := h; rfl) | (obtain ⟨_, _, _, _, _, _, rfl, _⟩ := h; rfl) | (obtain ⟨_, _, _, _, _, _, _, rfl, _⟩ := h; rfl) | (obtain ⟨_, _, _, _, _, _, _, _, rfl, _⟩ := h; rfl) | (obtain ⟨_, _, _, _, _, _, _, _, _, rfl, _⟩ := h; rfl) | (obtain ⟨_, _, _, _, _, _, _, _, _, _, rfl, _⟩ := h; rfl) | (obtain ⟨_, _, _, _, _, _, _, _, _, _, _, rfl, _⟩ := h; rfl) | (obtain ⟨_, _, _, _, _, _, _, _, _, _, _, _, rfl, _⟩ := h; rfl) | (obtain ⟨_, _, _, _, _, _, _, _, _, _, _, _, _, rfl, _⟩ := h; rfl) | (obtain ⟨_, _, _, _, _, _, _, _, _, _, _, _, _, _, rfl, _⟩ := h; rfl) | (obtain ⟨_, _, _, _, _, _, _, _, _, _, _, _, _, _, _, rfl, _⟩ := h; rfl) | (obtain ⟨_, _, _, _, _, _, _, _, _, _, _, _, _, _, _, _, rfl, _⟩ := h; rfl) | (obtain ⟨_, _, _, _, _, _, _, _, _, _, _, _, _, _, _, _, _, rfl, _⟩ := h; rfl) | (obtain ⟨_, _, _, _, _, _, _, _, _, _, _, _, _, _, _, _, _, _, rfl, _⟩ := h; rfl) | (obtain ⟨_, _, _, _, _, _, _, _, _, _, _, _, _, _, _, _, _, _, _, rfl, _⟩ := h; rfl)
theorem fn_law_pairs {f : Addr} {fd : FuncData} (F : Fun K "_law_pairs" "_law_pairs" s_law_pairs f fd) (T : Txt mg A) (C : CT K A) (C_law_built : C8.Cal P w K mg base 2 "_law_built" (sp_law_built K A) []) (C_law_take : C8.Cal P w K mg base 1 "_law_take" (sp_law_take K A) []) : FnOk P w K mg base CX0 3 f fd ["box", "pages"] (sp_law_pairs K A) :=
  F.ok sc_law_pairs (fun vs H Q E h => ln_law_pairs h) (fun cdv Ar outer s H vs Q E hr h => ⟨t_law_pairs K A, (pss_cons (ps_set (i := 2) sc_law_pairs.nd rfl (by first | exact Or.inl rfl | exact Or.inr rfl) (C8.pe_c C_law_built hr (by decide) (by rfl) (pa_cons (pv 0) (pa_cons (pv 1) pa_nil))))
  (pss_cons (ps_set (i := 3) sc_law_pairs.nd rfl (by first | exact Or.inl rfl | exact Or.inr rfl) (C8.pe_c C_law_take hr (by decide) (by rfl) (pa_cons (pv 0) (pa_cons (pv 1) pa_nil))))
  (pss_cons (ps_set (i := 4) sc_law_pairs.nd rfl (by first | exact Or.inl rfl | exact Or.inr rfl) pe_int)
  (C8.pss_cut (ps_if (pt_cmpR op_eq (C8.pe_c C_law_take hr (by decide) (by rfl) (pa_cons (pv 0) (pa_cons pe_int pa_nil))) pe_int (nomark _)) (pss_one (ps_set (i := 4) sc_law_pairs.nd rfl (by first | exact Or.inl rfl | exact Or.inr rfl) (pe_op op_sub (pv 1) pe_int))) pss_nil)
  (pss_cons (ps_set (i := 5) sc_law_pairs.nd rfl (by first | exact Or.inl rfl | exact Or.inr rfl) (pe_lc (own := [("k", 6)]) (g := (gName 6)) (tt := tYes) rfl sc_law_pairs.nd (pi_range1 (by rfl) T.b_range (pa_cons (pv 1) pa_nil)) (blkOk_by (own := [("k", 6)]) (N := ["box", "pages", "pairs", "shift", "step", "names", "k", "pair"]) (sc := defScope s_law_pairs) (by decide +kernel)) (fun _ _ _ _ _ => (pg_name (i := 6) sc_law_pairs.nd rfl (by first | exact Or.inl rfl | exact Or.inr rfl))) (fun _ _ _ _ _ => pts_nil) (fun _ _ _ _ _ => (pe_op op_mod (pe_callTy call_int1 (by rfl) T.b_int (by decide +kernel) (pa_cons (pe_op op_add (pv 3) (pe_op op_mul (pv 4) (pv 6))) pa_nil)) (pv 1)))))
  (pss_one (ps_ret (pe_lc (own := [("pair", 7)]) (g := (gName 7)) (tt := tYes) rfl sc_law_pairs.nd (pi_list (pv 2)) (blkOk_by (own := [("pair", 7)]) (N := ["box", "pages", "pairs", "shift", "step", "names", "k", "pair"]) (sc := defScope s_law_pairs) (by decide +kernel)) (fun _ _ _ _ _ => (pg_name (i := 7) sc_law_pairs.nd rfl (by first | exact Or.inl rfl | exact Or.inr rfl))) (fun _ _ _ _ _ => pts_nil) (fun _ _ _ _ _ => (pe_tup (pa_cons (pe_ix ix_list (pv 5) (pe_ix ix_tup (pv 7) pe_int (fun _ _ => rfl)) (fun _ _ => rfl)) (pa_cons (pe_ix ix_list (pv 5) (pe_ix ix_tup (pv 7) pe_int (fun _ _ => rfl)) (fun _ _ => rfl)) pa_nil)))))))))))), rd_law_pairs h⟩)
theorem bi_law_pairs {f : Addr} {fd : FuncData} (F : Fun K "_law_pairs" "_law_pairs" s_law_pairs f fd) : Binds K fd ["box", "pages"] [] := F.binds fun _ _ _ _ _ _ us hl => match us, hl with | [_, _], _ => rfl
theorem sc_law_step : FnScope ["world", "blank", "row", "pages", "uses", "k", "pair", "after", "page"] ["world", "blank", "row"] (defScope s_law_step) := ⟨rfl, rfl, rfl, by decide +kernel, rfl, by decide +kernel, by decide +kernel⟩
theorem ln_law_step {vs : List V} {H : Hp} {Q : VK} {E : XK} (h : sp_law_step K A vs H Q E) : vs.length = 3 := by
  first | (obtain ⟨_, rfl, _⟩ := h; rfl) | (obtain ⟨_, _, rfl, _⟩ := h; rfl) | (obtain ⟨_, _, _, rfl, _⟩ := h; rfl) | (obtain ⟨_, _, _, _, rfl, _⟩ := h; rfl) | (obtain ⟨_, _, _, _, _, rfl, _⟩ := h; rfl) | (obtain ⟨_, _, _, _, _, _, rfl, _⟩ := h; rfl) | (obtain ⟨_, _, _, _, _, _, _, rfl, _⟩ := h; rfl) | (obtain ⟨_, _, _, _, _, _, _, _, rfl, _⟩ := h; rfl) | (obtain ⟨_, _, _, _, _, _, _, _, _, rfl, _⟩ := h; rfl) | (obtain ⟨_, _, _, _, _, _, _, _, _, _, rfl, _⟩ := h; rfl) | (obtain ⟨_, _, _, _, _, _, _, _, _, _, _, rfl, _⟩ := h; rfl) | (obtain ⟨_, _, _, _, _, _, _, _, _, _, _, _, rfl, _⟩ := h; rfl) | (obtain ⟨_, _, _, _, _, _, _, _, _, _, _, _, _, rfl, _⟩ := h; rfl) | (obtain ⟨_, _, _, _, _, _, _, _, _, _, _, _, _, _, rfl, _⟩ := h; rfl) | (obtain ⟨_, _, _, _, _, _, _, _, _, _, _, _, _, _, _, rfl, _⟩ := h; rfl) | (obtain ⟨_, _, _, _, _, _, _, _, _, _, _, _, _, _, _, _, rfl, _⟩ := h; rfl) | (obtain ⟨_, _, _, _, _, _, _, _, _, _, _, _, _, _, _, _, _, rfl, _⟩ := h; rfl) | (obtain ⟨_, _, _, _, _, _, _, _, _, _, _, _, _, _, _, _, _, _, rfl, _⟩ := h; rfl) | (obtain ⟨_, _, _, _, _, _, _, _, _, _, _, _, _, _, _, _, _, _, _, rfl, _⟩ := h; rfl)
theorem fn_law_step {f : Addr} {fd : FuncData} (F : Fun K "_law_step" "_law_step" s_law_step f fd) (T : Txt mg A) (C : CT K A)  : FnOk P w K mg base CX0 1 f fd ["world", "blank", "row"] (sp_law_step K A) :=
  F.ok sc_law_step (fun vs H Q E h => ln_law_step h) (fun cdv Ar outer s H vs Q E hr h => ⟨t_law_step K A, (pss_cons (ps_set (i := 3) sc_law_step.nd rfl (by first | exact Or.inl rfl | exact Or.inr rfl) (pe_ix ix_tup (pv 0) pe_int (fun _ _ => rfl)))
  (pss_cons (ps_set (i := 4) sc_law_step.nd rfl (by first | exact Or.inl rfl | exact Or.inr rfl) (pe_lc (own := [("k", 5)]) (g := (gName 5)) (tt := tYes) rfl sc_law_step.nd (pi_range1 (by rfl) T.b_range (pa_cons (pv 3) pa_nil)) (blkOk_by (own := [("k", 5)]) (N := ["world", "blank", "row", "pages", "uses", "k", "pair", "after", "page"]) (sc := defScope s_law_step) (by decide +kernel)) (fun _ _ _ _ _ => (pg_name (i := 5) sc_law_step.nd rfl (by first | exact Or.inl rfl | exact Or.inr rfl))) (fun _ _ _ _ _ => pts_nil) (fun _ _ _ _ _ => pe_int)))
  (C8.pss_cut (ps_if (pt_cmpR op_notIn_seq (pe_ix ix_tup (pv 2) pe_int (fun _ _ => rfl)) (pe_ix ix_tup (pv 2) pe_int (fun _ _ => rfl)) (by rfl)) (pss_one (ps_asg pe_int (pg_sub (pv 4) (pe_ix ix_tup (pv 2) pe_int (fun _ _ => rfl)) set_list))) pss_nil)
  (pss_cons (ps_for PassesOwn.never rfl (pi_list (pe_ix ix_tup (pv 0) pe_int (fun _ _ => rfl))) (pg_name (i := 6) sc_law_step.nd rfl (by first | exact Or.inl rfl | exact Or.inr rfl))
  (pss_one (ps_if (PW.pt (pw_and (pt_cmpR op_in_seq (pe_ix ix_tup (pv 6) pe_int (fun _ _ => rfl)) (pe_ix ix_tup (pv 2) pe_int (fun _ _ => rfl)) (by rfl)) (pw_and1 (pt_cmpR op_notIn_seq (pe_ix ix_tup (pv 6) pe_int (fun _ _ => rfl)) (pe_ix ix_tup (pv 2) pe_int (fun _ _ => rfl)) (by rfl))))) (pss_one (ps_asg (pe_op op_add (pe_ix ix_list (pv 4) (pe_ix ix_tup (pv 6) pe_int (fun _ _ => rfl)) (fun _ _ => rfl)) pe_int) (pg_sub (pv 4) (pe_ix ix_tup (pv 6) pe_int (fun _ _ => rfl)) set_list))) pss_nil)))
  (pss_cons (ps_for PassesOwn.never rfl (pi_range1 (by rfl) T.b_range (pa_cons (pv 3) pa_nil)) (pg_name (i := 5) sc_law_step.nd rfl (by first | exact Or.inl rfl | exact Or.inr rfl))
  (pss_one (ps_if (pt_cmpR op_gt (pe_ix ix_list (pv 4) (pv 5) (fun _ _ => rfl)) (pe_ix ix_list (pv 1) (pv 5) (fun _ _ => rfl)) (nomark _)) (pss_one (ps_ret pe_non)) pss_nil)))
  (pss_cons (ps_setLc (i := 7) (own := [("k", 5)]) (g := (gName 5)) (tt := tYes) rfl sc_law_step.nd rfl rfl (sw_true rfl rfl rfl (by decide +kernel)) (pi_range1 (by rfl) T.b_range (pa_cons (pv 3) pa_nil)) (blkOk_by (own := [("k", 5)]) (N := ["world", "blank", "row", "pages", "uses", "k", "pair", "after", "page"]) (sc := defScope s_law_step) (by decide +kernel)) (fun _ _ _ _ _ => (pg_name (i := 5) sc_law_step.nd rfl (by first | exact Or.inl rfl | exact Or.inr rfl))) (fun _ _ _ _ _ => pts_nil) (fun _ _ _ _ _ => (pe_op op_sub (pe_ix ix_list (pv 1) (pv 5) (fun _ _ => rfl)) (pe_ix ix_list (pv 4) (pv 5) (fun _ _ => rfl)))))
  (pss_cons (ps_for PassesOwn.never rfl (pi_tup (pe_ix ix_tup (pv 2) pe_int (fun _ _ => rfl))) (pg_name (i := 8) sc_law_step.nd rfl (by first | exact Or.inl rfl | exact Or.inr rfl))
  (pss_one (ps_asg (pe_ix ix_tup (pv 0) pe_int (fun _ _ => rfl)) (pg_sub (pv 7) (pv 8) set_list))))
  (pss_one (ps_ret (pv 7)))))))))), rd_law_step h⟩)
theorem bi_law_step {f : Addr} {fd : FuncData} (F : Fun K "_law_step" "_law_step" s_law_step f fd) : Binds K fd ["world", "blank", "row"] [] := F.binds fun _ _ _ _ _ _ us hl => match us, hl with | [_, _, _], _ => rfl
theorem sc_law_reason : FnScope ["pages", "most", "row", "page", "k"] ["pages", "most", "row"] (defScope s_law_reason) := ⟨rfl, rfl, rfl, by decide +kernel, rfl, by decide +kernel, by decide +kernel⟩
theorem ln_law_reason {vs : List V} {H : Hp} {Q : VK} {E : XK} (h : sp_law_reason K A vs H Q E) : vs.length = 3 := by
  first | (obtain ⟨_, rfl, _⟩ := h; rfl) | (obtain ⟨_, _, rfl, _⟩ := h; rfl) | (obtain ⟨_, _, _, rfl, _⟩ := h; rfl) | (obtain ⟨_, _, _, _, rfl, _⟩ := h; rfl) | (obtain ⟨_, _, _, _, _, rfl, _⟩ := h; rfl) | (obtain ⟨_, _, _, _, _, _, rfl, _⟩ := h; rfl) | (obtain ⟨_, _, _, _, _, _, _, rfl, _⟩ := h; rfl) | (obtain ⟨_, _, _, _, _, _, _, _, rfl, _⟩ := h; rfl) | (obtain ⟨_, _, _, _, _, _, _, _, _, rfl, _⟩ := h; rfl) | (obtain ⟨_, _, _, _, _, _, _, _, _, _, rfl, _⟩ := h; rfl) | (obtain ⟨_, _, _, _, _, _, _, _, _, _, _, rfl, _⟩ := h; rfl) | (obtain ⟨_, _, _, _, _, _, _, _, _, _, _, _, rfl, _⟩ := h; rfl) | (obtain ⟨_, _, _, _, _, _, _, _, _, _, _, _, _, rfl, _⟩ := h; rfl) | (obtain ⟨_, _, _, _, _, _, _, _, _, _, _, _, _, _, rfl, _⟩ := h; rfl) | (obtain ⟨_, _, _, _, _, _, _, _, _, _, _, _, _, _, _, rfl, _⟩ := h; rfl) | (obtain ⟨_, _, _, _, _, _, _, _, _, _, _, _, _, _, _, _, rfl, _⟩ := h; rfl) | (obtain ⟨_, _, _, _, _, _, _, _, _, _, _, _, _, _, _, _, _, rfl, _⟩ := h; rfl) | (obtain ⟨_, _, _, _, _, _, _, _, _, _, _, _, _, _, _, _, _, _, rfl, _⟩ := h; rfl) | (obtain ⟨_, _, _, _, _, _, _, _, _, _, _, _, _, _, _, _, _, _, _, rfl, _⟩ := h; rfl)
theorem fn_law_reason {f : Addr} {fd : FuncData} (F : Fun K "_law_reason" "_law_reason" s_law_reason f fd) (T : Txt mg A) (C : CT K A)  : FnOk P w K mg base CX0 1 f fd ["pages", "most", "row"] (sp_law_reason K A) :=
  F.ok sc_law_reason (fun vs H Q E h => ln_law_reason h) (fun cdv Ar outer s H vs Q E hr h => ⟨t_law_reason K A, (pss_cons (ps_for PassesOwn.never rfl (pi_list (pe_op op_cat (pe_lst (pa_cons (pe_ix ix_tup (pv 2) pe_int (fun _ _ => rfl)) pa_nil)) (pe_callTy call_list_of (by rfl) T.b_list (by decide +kernel) (pa_cons (pe_ix ix_tup (pv 2) pe_int (fun _ _ => rfl)) pa_nil)))) (pg_name (i := 3) sc_law_reason.nd rfl (by first | exact Or.inl rfl | exact Or.inr rfl))
  (pss_one (ps_if (PW.pt (pw_or (pt_cmpR op_lt (pv 3) pe_int (nomark _)) (pw_or1 (pt_cmpR op_ge (pv 3) (pv 0) (nomark _))))) (pss_one (ps_ret pe_str)) pss_nil)))
  (pss_cons (ps_for PassesOwn.never rfl (pi_range2 (by rfl) T.b_range (pa_cons pe_int (pa_cons (pe_callB call_len_seq (by rfl) T.b_len (by decide +kernel) (pa_cons (pe_ix ix_tup (pv 2) pe_int (fun _ _ => rfl)) pa_nil)) pa_nil))) (pg_name (i := 4) sc_law_reason.nd rfl (by first | exact Or.inl rfl | exact Or.inr rfl))
  (pss_one (ps_if (pt_cmpR op_ge (pe_ix ix_tup (pe_ix ix_tup (pv 2) pe_int (fun _ _ => rfl)) (pe_op op_sub (pv 4) pe_int) (fun _ _ => rfl)) (pe_ix ix_tup (pe_ix ix_tup (pv 2) pe_int (fun _ _ => rfl)) (pv 4) (fun _ _ => rfl)) (nomark _)) (pss_one (ps_ret pe_str)) pss_nil)))
  (pss_cons (ps_if (pt_cmpR op_gt (pe_callB call_len_seq (by rfl) T.b_len (by decide +kernel) (pa_cons (pe_ix ix_tup (pv 2) pe_int (fun _ _ => rfl)) pa_nil)) (pv 1) (nomark _)) (pss_one (ps_ret pe_str)) pss_nil)
  (pss_one (ps_ret pe_non))))), rd_law_reason h⟩)
theorem bi_law_reason {f : Addr} {fd : FuncData} (F : Fun K "_law_reason" "_law_reason" s_law_reason f fd) : Binds K fd ["pages", "most", "row"] [] := F.binds fun _ _ _ _ _ _ us hl => match us, hl with | [_, _, _], _ => rfl
theorem sc_law_judged : FnScope ["world", "most", "blank", "rows", "now", "k", "reason", "after"] ["world", "most", "blank", "rows"] (defScope s_law_judged) := ⟨rfl, rfl, rfl, by decide +kernel, rfl, by decide +kernel, by decide +kernel⟩
theorem ln_law_judged {vs : List V} {H : Hp} {Q : VK} {E : XK} (h : sp_law_judged K A vs H Q E) : vs.length = 4 := by
  first | (obtain ⟨_, rfl, _⟩ := h; rfl) | (obtain ⟨_, _, rfl, _⟩ := h; rfl) | (obtain ⟨_, _, _, rfl, _⟩ := h; rfl) | (obtain ⟨_, _, _, _, rfl, _⟩ := h; rfl) | (obtain ⟨_, _, _, _, _, rfl, _⟩ := h; rfl) | (obtain ⟨_, _, _, _, _, _, rfl, _⟩ := h; rfl) | (obtain ⟨_, _, _, _, _, _, _, rfl, _⟩ := h; rfl) | (obtain ⟨_, _, _, _, _, _, _, _, rfl, _⟩ := h; rfl) | (obtain ⟨_, _, _, _, _, _, _, _, _, rfl, _⟩ := h; rfl) | (obtain ⟨_, _, _, _, _, _, _, _, _, _, rfl, _⟩ := h; rfl) | (obtain ⟨_, _, _, _, _, _, _, _, _, _, _, rfl, _⟩ := h; rfl) | (obtain ⟨_, _, _, _, _, _, _, _, _, _, _, _, rfl, _⟩ := h; rfl) | (obtain ⟨_, _, _, _, _, _, _, _, _, _, _, _, _, rfl, _⟩ := h; rfl) | (obtain ⟨_, _, _, _, _, _, _, _, _, _, _, _, _, _, rfl, _⟩ := h; rfl) | (obtain ⟨_, _, _, _, _, _, _, _, _, _, _, _, _, _, _, rfl, _⟩ := h; rfl) | (obtain ⟨_, _, _, _, _, _, _, _, _, _, _, _, _, _, _, _, rfl, _⟩ := h; rfl) | (obtain ⟨_, _, _, _, _, _, _, _, _, _, _, _, _, _, _, _, _, rfl, _⟩ := h; rfl) | (obtain ⟨_, _, _, _, _, _, _, _, _, _, _, _, _, _, _, _, _, _, rfl, _⟩ := h; rfl) | (obtain ⟨_, _, _, _, _, _, _, _, _, _, _, _, _, _, _, _, _, _, _, rfl, _⟩ := h; rfl)
theorem fn_law_judged {f : Addr} {fd : FuncData} (F : Fun K "_law_judged" "_law_judged" s_law_judged f fd) (T : Txt mg A) (C : CT K A) (C_law_reason : C8.Cal P w K mg base 1 "_law_reason" (sp_law_reason K A) []) (C_law_step : C8.Cal P w K mg base 1 "_law_step" (sp_law_step K A) []) : FnOk P w K mg base CX0 2 f fd ["world", "most", "blank", "rows"] (sp_law_judged K A) :=
  F.ok sc_law_judged (fun vs H Q E h => ln_law_judged h) (fun cdv Ar outer s H vs Q E hr h => ⟨t_law_judged K A, (pss_cons (ps_set (i := 4) sc_law_judged.nd rfl (by first | exact Or.inl rfl | exact Or.inr rfl) (pe_callTy call_list_of (by rfl) T.b_list (by decide +kernel) (pa_cons (pv 2) pa_nil)))
  (pss_cons (ps_for PassesOwn.never rfl (pi_range1 (by rfl) T.b_range (pa_cons (pe_callB call_len_seq (by rfl) T.b_len (by decide +kernel) (pa_cons (pv 3) pa_nil)) pa_nil)) (pg_name (i := 5) sc_law_judged.nd rfl (by first | exact Or.inl rfl | exact Or.inr rfl))
  (pss_cons (ps_set (i := 6) sc_law_judged.nd rfl (by first | exact Or.inl rfl | exact Or.inr rfl) (C8.pe_c C_law_reason hr (by decide) (by rfl) (pa_cons (pe_ix ix_tup (pv 0) pe_int (fun _ _ => rfl)) (pa_cons (pv 1) (pa_cons (pe_ix ix_list (pv 3) (pv 5) (fun _ _ => rfl)) pa_nil)))))
  (pss_cons (ps_if (pt_cmp (pc_notN (pv 6))) (pss_one (ps_ret (pe_tup (pa_cons (pv 5) (pa_cons (pv 6) (pa_cons (pv 4) pa_nil)))))) pss_nil)
  (pss_cons (ps_set (i := 7) sc_law_judged.nd rfl (by first | exact Or.inl rfl | exact Or.inr rfl) (C8.pe_c C_law_step hr (by decide) (by rfl) (pa_cons (pv 0) (pa_cons (pv 4) (pa_cons (pe_ix ix_list (pv 3) (pv 5) (fun _ _ => rfl)) pa_nil)))))
  (pss_cons (ps_if (pt_cmp (pc_isN (pv 7))) (pss_one (ps_ret (pe_tup (pa_cons (pv 5) (pa_cons pe_str (pa_cons (pv 4) pa_nil)))))) pss_nil)
  (pss_one (ps_set (i := 4) sc_law_judged.nd rfl (by first | exact Or.inl rfl | exact Or.inr rfl) (pv 7))))))))
  (pss_one (ps_ret (pe_tup (pa_cons pe_non (pa_cons pe_non (pa_cons (pv 4) pa_nil)))))))), rd_law_judged h⟩)
theorem bi_law_judged {f : Addr} {fd : FuncData} (F : Fun K "_law_judged" "_law_judged" s_law_judged f fd) : Binds K fd ["world", "most", "blank", "rows"] [] := F.binds fun _ _ _ _ _ _ us hl => match us, hl with | [_, _, _, _], _ => rfl
theorem sc_law_answer : FnScope ["box", "pages", "page", "most", "way", "chosen", "k"] ["box", "pages", "page", "most"] (defScope s_law_answer) := ⟨rfl, rfl, rfl, by decide +kernel, rfl, by decide +kernel, by decide +kernel⟩
theorem ln_law_answer {vs : List V} {H : Hp} {Q : VK} {E : XK} (h : sp_law_answer K A vs H Q E) : vs.length = 4 := by
  first | (obtain ⟨_, rfl, _⟩ := h; rfl) | (obtain ⟨_, _, rfl, _⟩ := h; rfl) | (obtain ⟨_, _, _, rfl, _⟩ := h; rfl) | (obtain ⟨_, _, _, _, rfl, _⟩ := h; rfl) | (obtain ⟨_, _, _, _, _, rfl, _⟩ := h; rfl) | (obtain ⟨_, _, _, _, _, _, rfl, _⟩ := h; rfl) | (obtain ⟨_, _, _, _, _, _, _, rfl, _⟩ := h; rfl) | (obtain ⟨_, _, _, _, _, _, _, _, rfl, _⟩ := h; rfl) | (obtain ⟨_, _, _, _, _, _, _, _, _, rfl, _⟩ := h; rfl) | (obtain ⟨_, _, _, _, _, _, _, _, _, _, rfl, _⟩ := h; rfl) | (obtain ⟨_, _, _, _, _, _, _, _, _, _, _, rfl, _⟩ := h; rfl) | (obtain ⟨_, _, _, _, _, _, _, _, _, _, _, _, rfl, _⟩ := h; rfl) | (obtain ⟨_, _, _, _, _, _, _, _, _, _, _, _, _, rfl, _⟩ := h; rfl) | (obtain ⟨_, _, _, _, _, _, _, _, _, _, _, _, _, _, rfl, _⟩ := h; rfl) | (obtain ⟨_, _, _, _, _, _, _, _, _, _, _, _, _, _, _, rfl, _⟩ := h; rfl) | (obtain ⟨_, _, _, _, _, _, _, _, _, _, _, _, _, _, _, _, rfl, _⟩ := h; rfl) | (obtain ⟨_, _, _, _, _, _, _, _, _, _, _, _, _, _, _, _, _, rfl, _⟩ := h; rfl) | (obtain ⟨_, _, _, _, _, _, _, _, _, _, _, _, _, _, _, _, _, _, rfl, _⟩ := h; rfl) | (obtain ⟨_, _, _, _, _, _, _, _, _, _, _, _, _, _, _, _, _, _, _, rfl, _⟩ := h; rfl)
theorem fn_law_answer {f : Addr} {fd : FuncData} (F : Fun K "_law_answer" "_law_answer" s_law_answer f fd) (T : Txt mg A) (C : CT K A) (C_law_take : C8.Cal P w K mg base 1 "_law_take" (sp_law_take K A) []) : FnOk P w K mg base CX0 2 f fd ["box", "pages", "page", "most"] (sp_law_answer K A) :=
  F.ok sc_law_answer (fun vs H Q E h => ln_law_answer h) (fun cdv Ar outer s H vs Q E hr h => ⟨t_law_answer K A, (pss_cons (ps_set (i := 4) sc_law_answer.nd rfl (by first | exact Or.inl rfl | exact Or.inr rfl) (C8.pe_c C_law_take hr (by decide) (by rfl) (pa_cons (pv 0) (pa_cons pe_int pa_nil))))
  (pss_cons (ps_if (pt_cmpR op_lt (pv 4) pe_int (nomark _)) (pss_one (ps_ret (pe_tup pa_nil))) pss_nil)
  (pss_cons (ps_if (pt_cmpR op_eq (pv 4) pe_int (nomark _)) (pss_one (ps_ret (pe_tup (pa_cons (pv 2) pa_nil)))) pss_nil)
  (pss_cons (ps_if (pt_cmpR op_eq (pv 4) pe_int (nomark _)) (pss_one (ps_ret (pe_tup (pa_cons (C8.pe_c C_law_take hr (by decide) (by rfl) (pa_cons (pv 0) (pa_cons (pv 1) pa_nil))) pa_nil)))) pss_nil)
  (pss_cons (ps_set (i := 5) sc_law_answer.nd rfl (by first | exact Or.inl rfl | exact Or.inr rfl) (pe_lst pa_nil))
  (pss_cons (ps_for PassesOwn.never rfl (pi_range1 (by rfl) T.b_range (pa_cons (pv 3) pa_nil)) (pg_name (i := 6) sc_law_answer.nd rfl (by first | exact Or.inl rfl | exact Or.inr rfl))
  (pss_cons (ps_set (i := 2) sc_law_answer.nd rfl (by first | exact Or.inl rfl | exact Or.inr rfl) (C8.pe_c C_law_take hr (by decide) (by rfl) (pa_cons (pv 0) (pa_cons (pv 1) pa_nil))))
  (pss_one (ps_if (pt_cmpR op_notIn_seq (pv 2) (pv 5) (by rfl)) (pss_one (ps_expr (pe_bm PySem.F.plainAttrs_list PySem.F.slot_list_append PySem.F.type_list_append mt_append (pv 5) (pa_cons (pv 2) pa_nil)))) pss_nil))))
  (pss_one (ps_ret (pe_callTy call_tuple_of (by rfl) T.b_tuple (by decide +kernel) (pa_cons (pe_callB cr_sortedI (by rfl) T.b_sorted (by decide +kernel) (pa_cons (pv 5) pa_nil)) pa_nil)))))))))), rd_law_answer h⟩)
theorem bi_law_answer {f : Addr} {fd : FuncData} (F : Fun K "_law_answer" "_law_answer" s_law_answer f fd) : Binds K fd ["box", "pages", "page", "most"] [] := F.binds fun _ _ _ _ _ _ us hl => match us, hl with | [_, _, _, _], _ => rfl
theorem sc_law_better : FnScope ["world", "blank", "row", "pages", "tries", "k", "answer"] ["world", "blank", "row"] (defScope s_law_better) := ⟨rfl, rfl, rfl, by decide +kernel, rfl, by decide +kernel, by decide +kernel⟩
theorem ln_law_better {vs : List V} {H : Hp} {Q : VK} {E : XK} (h : sp_law_better K A vs H Q E) : vs.length = 3 := by
  first | (obtain ⟨_, rfl, _⟩ := h; rfl) | (obtain ⟨_, _, rfl, _⟩ := h; rfl) | (obtain ⟨_, _, _, rfl, _⟩ := h; rfl) | (obtain ⟨_, _, _, _, rfl, _⟩ := h; rfl) | (obtain ⟨_, _, _, _, _, rfl, _⟩ := h; rfl) | (obtain ⟨_, _, _, _, _, _, rfl, _⟩ := h; rfl) | (obtain ⟨_, _, _, _, _, _, _, rfl, _⟩ := h; rfl) | (obtain ⟨_, _, _, _, _, _, _, _, rfl, _⟩ := h; rfl) | (obtain ⟨_, _, _, _, _, _, _, _, _, rfl, _⟩ := h; rfl) | (obtain ⟨_, _, _, _, _, _, _, _, _, _, rfl, _⟩ := h; rfl) | (obtain ⟨_, _, _, _, _, _, _, _, _, _, _, rfl, _⟩ := h; rfl) | (obtain ⟨_, _, _, _, _, _, _, _, _, _, _, _, rfl, _⟩ := h; rfl) | (obtain ⟨_, _, _, _, _, _, _, _, _, _, _, _, _, rfl, _⟩ := h; rfl) | (obtain ⟨_, _, _, _, _, _, _, _, _, _, _, _, _, _, rfl, _⟩ := h; rfl) | (obtain ⟨_, _, _, _, _, _, _, _, _, _, _, _, _, _, _, rfl, _⟩ := h; rfl) | (obtain ⟨_, _, _, _, _, _, _, _, _, _, _, _, _, _, _, _, rfl, _⟩ := h; rfl) | (obtain ⟨_, _, _, _, _, _, _, _, _, _, _, _, _, _, _, _, _, rfl, _⟩ := h; rfl) | (obtain ⟨_, _, _, _, _, _, _, _, _, _, _, _, _, _, _, _, _, _, rfl, _⟩ := h; rfl) | (obtain ⟨_, _, _, _, _, _, _, _, _, _, _, _, _, _, _, _, _, _, _, rfl, _⟩ := h; rfl)
theorem fn_law_better {f : Addr} {fd : FuncData} (F : Fun K "_law_better" "_law_better" s_law_better f fd) (T : Txt mg A) (C : CT K A) (C_law_step : C8.Cal P w K mg base 1 "_law_step" (sp_law_step K A) []) : FnOk P w K mg base CX0 2 f fd ["world", "blank", "row"] (sp_law_better K A) :=
  F.ok sc_law_better (fun vs H Q E h => ln_law_better h) (fun cdv Ar outer s H vs Q E hr h => ⟨t_law_better K A, (pss_cons (ps_if (pt_cmp (pc_notN (C8.pe_c C_law_step hr (by decide) (by rfl) (pa_cons (pv 0) (pa_cons (pv 1) (pa_cons (pv 2) pa_nil)))))) (pss_one (ps_ret (pv 2))) pss_nil)
  (pss_cons (ps_set (i := 3) sc_law_better.nd rfl (by first | exact Or.inl rfl | exact Or.inr rfl) (pe_ix ix_tup (pv 0) pe_int (fun _ _ => rfl)))
  (pss_cons (ps_set (i := 4) sc_law_better.nd rfl (by first | exact Or.inl rfl | exact Or.inr rfl) (pe_op op_cat (pe_lst (pa_cons (pe_tup pa_nil) pa_nil)) (pe_lc (own := [("k", 5)]) (g := (gName 5)) (tt := tYes) rfl sc_law_better.nd (pi_range1 (by rfl) T.b_range (pa_cons (pe_callB (call_min2 rfl) (by rfl) T.b_min (by decide +kernel) (pa_cons pe_int (pa_cons (pv 3) pa_nil))) pa_nil)) (blkOk_by (own := [("k", 5)]) (N := ["world", "blank", "row", "pages", "tries", "k", "answer"]) (sc := defScope s_law_better) (by decide +kernel)) (fun _ _ _ _ _ => (pg_name (i := 5) sc_law_better.nd rfl (by first | exact Or.inl rfl | exact Or.inr rfl))) (fun _ _ _ _ _ => pts_nil) (fun _ _ _ _ _ => (pe_tup (pa_cons (pe_op op_mod (pe_callTy call_int1 (by rfl) T.b_int (by decide +kernel) (pa_cons (pe_op op_add (pe_ix ix_tup (pv 2) pe_int (fun _ _ => rfl)) (pv 5)) pa_nil)) (pv 3)) pa_nil))))))
  (pss_cons (ps_for PassesOwn.never rfl (pi_list (pv 4)) (pg_name (i := 6) sc_law_better.nd rfl (by first | exact Or.inl rfl | exact Or.inr rfl))
  (pss_one (ps_if (pt_cmp (pc_notN (C8.pe_c C_law_step hr (by decide) (by rfl) (pa_cons (pv 0) (pa_cons (pv 1) (pa_cons (pe_tup (pa_cons (pe_ix ix_tup (pv 2) pe_int (fun _ _ => rfl)) (pa_cons (pv 6) pa_nil))) pa_nil)))))) (pss_one (ps_ret (pe_tup (pa_cons (pe_ix ix_tup (pv 2) pe_int (fun _ _ => rfl)) (pa_cons (pv 6) pa_nil))))) pss_nil)))
  (pss_one (ps_ret (pv 2))))))), rd_law_better h⟩)
theorem bi_law_better {f : Addr} {fd : FuncData} (F : Fun K "_law_better" "_law_better" s_law_better f fd) : Binds K fd ["world", "blank", "row"] [] := F.binds fun _ _ _ _ _ _ us hl => match us, hl with | [_, _, _], _ => rfl
theorem sc_law_rows : FnScope ["box", "world", "blank", "most", "many", "better", "rows", "now", "page", "k", "row", "after"] ["box", "world", "blank", "most"] (defScope s_law_rows) := ⟨rfl, rfl, rfl, by decide +kernel, rfl, by decide +kernel, by decide +kernel⟩
theorem ln_law_rows {vs : List V} {H : Hp} {Q : VK} {E : XK} (h : sp_law_rows K A vs H Q E) : vs.length = 4 := by
  first | (obtain ⟨_, rfl, _⟩ := h; rfl) | (obtain ⟨_, _, rfl, _⟩ := h; rfl) | (obtain ⟨_, _, _, rfl, _⟩ := h; rfl) | (obtain ⟨_, _, _, _, rfl, _⟩ := h; rfl) | (obtain ⟨_, _, _, _, _, rfl, _⟩ := h; rfl) | (obtain ⟨_, _, _, _, _, _, rfl, _⟩ := h; rfl) | (obtain ⟨_, _, _, _, _, _, _, rfl, _⟩ := h; rfl) | (obtain ⟨_, _, _, _, _, _, _, _, rfl, _⟩ := h; rfl) | (obtain ⟨_, _, _, _, _, _, _, _, _, rfl, _⟩ := h; rfl) | (obtain ⟨_, _, _, _, _, _, _, _, _, _, rfl, _⟩ := h; rfl) | (obtain ⟨_, _, _, _, _, _, _, _, _, _, _, rfl, _⟩ := h; rfl) | (obtain ⟨_, _, _, _, _, _, _, _, _, _, _, _, rfl, _⟩ := h; rfl) | (obtain ⟨_, _, _, _, _, _, _, _, _, _, _, _, _, rfl, _⟩ := h; rfl) | (obtain ⟨_, _, _, _, _, _, _, _, _, _, _, _, _, _, rfl, _⟩ := h; rfl) | (obtain ⟨_, _, _, _, _, _, _, _, _, _, _, _, _, _, _, rfl, _⟩ := h; rfl) | (obtain ⟨_, _, _, _, _, _, _, _, _, _, _, _, _, _, _, _, rfl, _⟩ := h; rfl) | (obtain ⟨_, _, _, _, _, _, _, _, _, _, _, _, _, _, _, _, _, rfl, _⟩ := h; rfl) | (obtain ⟨_, _, _, _, _, _, _, _, _, _, _, _, _, _, _, _, _, _, rfl, _⟩ := h; rfl) | (obtain ⟨_, _, _, _, _, _, _, _, _, _, _, _, _, _, _, _, _, _, _, rfl, _⟩ := h; rfl)
theorem fn_law_rows {f : Addr} {fd : FuncData} (F : Fun K "_law_rows" "_law_rows" s_law_rows f fd) (T : Txt mg A) (C : CT K A) (C_law_answer : C8.Cal P w K mg base 2 "_law_answer" (sp_law_answer K A) []) (C_law_better : C8.Cal P w K mg base 2 "_law_better" (sp_law_better K A) []) (C_law_step : C8.Cal P w K mg base 1 "_law_step" (sp_law_step K A) []) (C_law_take : C8.Cal P w K mg base 1 "_law_take" (sp_law_take K A) []) : FnOk P w K mg base CX0 3 f fd ["box", "world", "blank", "most"] (sp_law_rows K A) :=
  F.ok sc_law_rows (fun vs H Q E h => ln_law_rows h) (fun cdv Ar outer s H vs Q E hr h => ⟨t_law_rows K A, (pss_cons (ps_set (i := 4) sc_law_rows.nd rfl (by first | exact Or.inl rfl | exact Or.inr rfl) (C8.pe_c C_law_take hr (by decide) (by rfl) (pa_cons (pv 0) (pa_cons pe_int pa_nil))))
  (C8.pss_cut (ps_if (pt_cmpR op_eq (C8.pe_c C_law_take hr (by decide) (by rfl) (pa_cons (pv 0) (pa_cons pe_int pa_nil))) pe_int (nomark _)) (pss_one (ps_set (i := 4) sc_law_rows.nd rfl (by first | exact Or.inl rfl | exact Or.inr rfl) (pe_op op_add pe_int (C8.pe_c C_law_take hr (by decide) (by rfl) (pa_cons (pv 0) (pa_cons pe_int pa_nil)))))) pss_nil)
  (pss_cons (ps_set (i := 5) sc_law_rows.nd rfl (by first | exact Or.inl rfl | exact Or.inr rfl) (pe_cmpR op_gt (C8.pe_c C_law_take hr (by decide) (by rfl) (pa_cons (pv 0) (pa_cons pe_int pa_nil))) pe_int (nomark _)))
  (pss_cons (ps_set (i := 6) sc_law_rows.nd rfl (by first | exact Or.inl rfl | exact Or.inr rfl) (pe_lst pa_nil))
  (pss_cons (ps_set (i := 7) sc_law_rows.nd rfl (by first | exact Or.inl rfl | exact Or.inr rfl) (pe_callTy call_list_of (by rfl) T.b_list (by decide +kernel) (pa_cons (pv 2) pa_nil)))
  (pss_cons (ps_set (i := 8) sc_law_rows.nd rfl (by first | exact Or.inl rfl | exact Or.inr rfl) pe_int)
  (pss_cons (ps_for PassesOwn.never rfl (pi_range1 (by rfl) T.b_range (pa_cons (pv 4) pa_nil)) (pg_name (i := 9) sc_law_rows.nd rfl (by first | exact Or.inl rfl | exact Or.inr rfl))
  (C8.pss_cut (ps_if (PW.pt (pw_or (pt_cmpR op_lt (C8.pe_c C_law_take hr (by decide) (by rfl) (pa_cons (pv 0) (pa_cons pe_int pa_nil))) pe_int (nomark _)) (pw_or1 (pt_cmpR op_eq (pv 9) pe_int (nomark _))))) (pss_one (ps_set (i := 8) sc_law_rows.nd rfl (by first | exact Or.inl rfl | exact Or.inr rfl) (C8.pe_c C_law_take hr (by decide) (by rfl) (pa_cons (pv 0) (pa_cons (pe_ix ix_tup (pv 1) pe_int (fun _ _ => rfl)) pa_nil))))) pss_nil)
  (pss_cons (ps_set (i := 10) sc_law_rows.nd rfl (by first | exact Or.inl rfl | exact Or.inr rfl) (pe_tup (pa_cons (pv 8) (pa_cons (C8.pe_c C_law_answer hr (by decide) (by rfl) (pa_cons (pv 0) (pa_cons (pe_ix ix_tup (pv 1) pe_int (fun _ _ => rfl)) (pa_cons (pv 8) (pa_cons (pv 3) pa_nil))))) pa_nil))))
  (C8.pss_cut (ps_if (pt_val (pv 5) (by intro _; rfl)) (pss_one (ps_set (i := 10) sc_law_rows.nd rfl (by first | exact Or.inl rfl | exact Or.inr rfl) (C8.pe_c C_law_better hr (by decide) (by rfl) (pa_cons (pv 1) (pa_cons (pv 7) (pa_cons (pv 10) pa_nil)))))) pss_nil)
  (pss_cons (ps_expr (pe_bm PySem.F.plainAttrs_list PySem.F.slot_list_append PySem.F.type_list_append mt_append (pv 6) (pa_cons (pv 10) pa_nil)))
  (pss_cons (ps_set (i := 11) sc_law_rows.nd rfl (by first | exact Or.inl rfl | exact Or.inr rfl) (C8.pe_c C_law_step hr (by decide) (by rfl) (pa_cons (pv 1) (pa_cons (pv 7) (pa_cons (pv 10) pa_nil)))))
  (pss_one (ps_if (pt_cmp (pc_notN (pv 11))) (pss_one (ps_set (i := 7) sc_law_rows.nd rfl (by first | exact Or.inl rfl | exact Or.inr rfl) (pv 11))) pss_nil))))))))
  (pss_one (ps_ret (pv 6)))))))))), rd_law_rows h⟩)
theorem bi_law_rows {f : Addr} {fd : FuncData} (F : Fun K "_law_rows" "_law_rows" s_law_rows f fd) : Binds K fd ["box", "world", "blank", "most"] [] := F.binds fun _ _ _ _ _ _ us hl => match us, hl with | [_, _, _, _], _ => rfl
theorem sc_law_strange : FnScope ["box", "pages", "way"] ["box", "pages"] (defScope s_law_strange) := ⟨rfl, rfl, rfl, by decide +kernel, rfl, by decide +kernel, by decide +kernel⟩
theorem ln_law_strange {vs : List V} {H : Hp} {Q : VK} {E : XK} (h : sp_law_strange K A vs H Q E) : vs.length = 2 := by
  first | (obtain ⟨_, rfl, _⟩ := h; rfl) | (obtain ⟨_, _, rfl, _⟩ := h; rfl) | (obtain ⟨_, _, _, rfl, _⟩ := h; rfl) | (obtain ⟨_, _, _, _, rfl, _⟩ := h; rfl) | (obtain ⟨_, _, _, _, _, rfl, _⟩ := h; rfl) | (obtain ⟨_, _, _, _, _, _, rfl, _⟩ := h; rfl) | (obtain ⟨_, _, _, _, _, _, _, rfl, _⟩ := h; rfl) | (obtain ⟨_, _, _, _, _, _, _, _, rfl, _⟩ := h; rfl) | (obtain ⟨_, _, _, _, _, _, _, _, _, rfl, _⟩ := h; rfl) | (obtain ⟨_, _, _, _, _, _, _, _, _, _, rfl, _⟩ := h; rfl) | (obtain ⟨_, _, _, _, _, _, _, _, _, _, _, rfl, _⟩ := h; rfl) | (obtain ⟨_, _, _, _, _, _, _, _, _, _, _, _, rfl, _⟩ := h; rfl) | (obtain ⟨_, _, _, _, _, _, _, _, _, _, _, _, _, rfl, _⟩ := h; rfl) | (obtain ⟨_, _, _, _, _, _, _, _, _, _, _, _, _, _, rfl, _⟩ := h; rfl) | (obtain ⟨_, _, _, _, _, _, _, _, _, _, _, _, _, _, _, rfl, _⟩ := h; rfl) | (obtain ⟨_, _, _, _, _, _, _, _, _, _, _, _, _, _, _, _, rfl, _⟩ := h; rfl) | (obtain ⟨_, _, _, _, _, _, _, _, _, _, _, _, _, _, _, _, _, rfl, _⟩ := h; rfl) | (obtain ⟨_, _, _, _, _, _, _, _, _, _, _, _, _, _, _, _, _, _, rfl, _⟩ := h; rfl) | (obtain ⟨_, _, _, _, _, _, _, _, _, _, _, _, _, _, _, _, _, _, _, rfl, _⟩ := h; rfl)
theorem fn_law_strange {f : Addr} {fd : FuncData} (F : Fun K "_law_strange" "_law_strange" s_law_strange f fd) (T : Txt mg A) (C : CT K A) (C_law_take : C8.Cal P w K mg base 1 "_law_take" (sp_law_take K A) []) : FnOk P w K mg base CX0 2 f fd ["box", "pages"] (sp_law_strange K A) :=
  F.ok sc_law_strange (fun vs H Q E h => ln_law_strange h) (fun cdv Ar outer s H vs Q E hr h => ⟨t_law_strange K A, (pss_cons (ps_set (i := 2) sc_law_strange.nd rfl (by first | exact Or.inl rfl | exact Or.inr rfl) (C8.pe_c C_law_take hr (by decide) (by rfl) (pa_cons (pv 0) (pa_cons pe_int pa_nil))))
  (pss_cons (ps_if (pt_cmpR op_eq (pv 2) pe_int (nomark _)) (pss_one (ps_ret (pe_un un_neg pe_int))) pss_nil)
  (pss_cons (ps_if (pt_cmpR op_eq (pv 2) pe_int (nomark _)) (pss_one (ps_ret (pv 1))) pss_nil)
  (pss_cons (ps_if (pt_cmpR op_eq (pv 2) pe_int (nomark _)) (pss_one (ps_ret (pe_op op_add (pe_op op_add (pv 1) pe_int) (C8.pe_c C_law_take hr (by decide) (by rfl) (pa_cons (pv 0) (pa_cons pe_int pa_nil)))))) pss_nil)
  (pss_cons (ps_if (pt_cmpR op_eq (pv 2) pe_int (nomark _)) (pss_one (ps_ret (pe_op op_sub (pe_un un_neg pe_int) (C8.pe_c C_law_take hr (by decide) (by rfl) (pa_cons (pv 0) (pa_cons pe_int pa_nil)))))) pss_nil)
  (pss_one (ps_ret (pe_op op_pow pe_int pe_int)))))))), rd_law_strange h⟩)
theorem bi_law_strange {f : Addr} {fd : FuncData} (F : Fun K "_law_strange" "_law_strange" s_law_strange f fd) : Binds K fd ["box", "pages"] [] := F.binds fun _ _ _ _ _ _ us hl => match us, hl with | [_, _], _ => rfl
theorem sc_law_spoilt : FnScope ["box", "pages", "most", "row", "page", "copied", "way", "at", "k"] ["box", "pages", "most", "row"] (defScope s_law_spoilt) := ⟨rfl, rfl, rfl, by decide +kernel, rfl, by decide +kernel, by decide +kernel⟩
theorem ln_law_spoilt {vs : List V} {H : Hp} {Q : VK} {E : XK} (h : sp_law_spoilt K A vs H Q E) : vs.length = 4 := by
  first | (obtain ⟨_, rfl, _⟩ := h; rfl) | (obtain ⟨_, _, rfl, _⟩ := h; rfl) | (obtain ⟨_, _, _, rfl, _⟩ := h; rfl) | (obtain ⟨_, _, _, _, rfl, _⟩ := h; rfl) | (obtain ⟨_, _, _, _, _, rfl, _⟩ := h; rfl) | (obtain ⟨_, _, _, _, _, _, rfl, _⟩ := h; rfl) | (obtain ⟨_, _, _, _, _, _, _, rfl, _⟩ := h; rfl) | (obtain ⟨_, _, _, _, _, _, _, _, rfl, _⟩ := h; rfl) | (obtain ⟨_, _, _, _, _, _, _, _, _, rfl, _⟩ := h; rfl) | (obtain ⟨_, _, _, _, _, _, _, _, _, _, rfl, _⟩ := h; rfl) | (obtain ⟨_, _, _, _, _, _, _, _, _, _, _, rfl, _⟩ := h; rfl) | (obtain ⟨_, _, _, _, _, _, _, _, _, _, _, _, rfl, _⟩ := h; rfl) | (obtain ⟨_, _, _, _, _, _, _, _, _, _, _, _, _, rfl, _⟩ := h; rfl) | (obtain ⟨_, _, _, _, _, _, _, _, _, _, _, _, _, _, rfl, _⟩ := h; rfl) | (obtain ⟨_, _, _, _, _, _, _, _, _, _, _, _, _, _, _, rfl, _⟩ := h; rfl) | (obtain ⟨_, _, _, _, _, _, _, _, _, _, _, _, _, _, _, _, rfl, _⟩ := h; rfl) | (obtain ⟨_, _, _, _, _, _, _, _, _, _, _, _, _, _, _, _, _, rfl, _⟩ := h; rfl) | (obtain ⟨_, _, _, _, _, _, _, _, _, _, _, _, _, _, _, _, _, _, rfl, _⟩ := h; rfl) | (obtain ⟨_, _, _, _, _, _, _, _, _, _, _, _, _, _, _, _, _, _, _, rfl, _⟩ := h; rfl)
theorem fn_law_spoilt {f : Addr} {fd : FuncData} (F : Fun K "_law_spoilt" "_law_spoilt" s_law_spoilt f fd) (T : Txt mg A) (C : CT K A) (C_law_strange : C8.Cal P w K mg base 2 "_law_strange" (sp_law_strange K A) []) (C_law_take : C8.Cal P w K mg base 1 "_law_take" (sp_law_take K A) []) : FnOk P w K mg base CX0 3 f fd ["box", "pages", "most", "row"] (sp_law_spoilt K A) :=
  F.ok sc_law_spoilt (fun vs H Q E h => ln_law_spoilt h) (fun cdv Ar outer s H vs Q E hr h => ⟨t_law_spoilt K A, (pss_cons (ps_set (i := 4) sc_law_spoilt.nd rfl (by first | exact Or.inl rfl | exact Or.inr rfl) (pe_ix ix_tup (pv 3) pe_int (fun _ _ => rfl)))
  (pss_cons (ps_set (i := 5) sc_law_spoilt.nd rfl (by first | exact Or.inl rfl | exact Or.inr rfl) (pe_callTy call_list_of (by rfl) T.b_list (by decide +kernel) (pa_cons (pe_ix ix_tup (pv 3) pe_int (fun _ _ => rfl)) pa_nil)))
  (pss_cons (ps_set (i := 6) sc_law_spoilt.nd rfl (by first | exact Or.inl rfl | exact Or.inr rfl) (C8.pe_c C_law_take hr (by decide) (by rfl) (pa_cons (pv 0) (pa_cons pe_int pa_nil))))
  (pss_cons (ps_set (i := 7) sc_law_spoilt.nd rfl (by first | exact Or.inl rfl | exact Or.inr rfl) (C8.pe_c C_law_take hr (by decide) (by rfl) (pa_cons (pv 0) (pa_cons (pe_op op_add (pe_callB call_len_seq (by rfl) T.b_len (by decide +kernel) (pa_cons (pv 5) pa_nil)) pe_int) pa_nil))))
  (C8.pss_cut (ps_if (pt_cmpR op_lt (pv 6) pe_int (nomark _)) (pss_one (ps_set (i := 4) sc_law_spoilt.nd rfl (by first | exact Or.inl rfl | exact Or.inr rfl) (C8.pe_c C_law_strange hr (by decide) (by rfl) (pa_cons (pv 0) (pa_cons (pv 1) pa_nil))))) pss_nil)
  (C8.pss_cut (ps_if (PW.pt (pw_or (pt_cmpR op_eq (pv 6) pe_int (nomark _)) (pw_or1 (pt_cmpR op_eq (pv 6) pe_int (nomark _))))) (pss_one (ps_expr (pe_bm PySem.F.plainAttrs_list PySem.F.slot_list_insert PySem.F.type_list_insert GX.mt_ins (pv 5) (pa_cons (pv 7) (pa_cons (C8.pe_c C_law_strange hr (by decide) (by rfl) (pa_cons (pv 0) (pa_cons (pv 1) pa_nil))) pa_nil))))) pss_nil)
  (C8.pss_cut (ps_if (PW.pt (pw_and (pt_cmpR op_eq (pv 6) pe_int (nomark _)) (pw_and1 (pt_cmpR op_lt (pe_callB call_len_seq (by rfl) T.b_len (by decide +kernel) (pa_cons (pv 5) pa_nil)) pe_int (nomark _))))) (pss_one (ps_set (i := 5) sc_law_spoilt.nd rfl (by first | exact Or.inl rfl | exact Or.inr rfl) (pe_lst (pa_cons pe_int (pa_cons (pe_op op_sub (pv 1) pe_int) pa_nil))))) pss_nil)
  (C8.pss_cut (ps_if (pt_cmpR op_eq (pv 6) pe_int (nomark _)) (pss_one (ps_set (i := 5) sc_law_spoilt.nd rfl (by first | exact Or.inl rfl | exact Or.inr rfl) (pe_revL (pv 5)))) pss_nil)
  (C8.pss_cut (ps_if (PW.pt (pw_and (pt_cmpR op_eq (pv 6) pe_int (nomark _)) (pw_and1 (pt_cmpR (op_eqD hr.units) (pv 5) (pe_lst pa_nil) (nomark _))))) (pss_one (ps_set (i := 5) sc_law_spoilt.nd rfl (by first | exact Or.inl rfl | exact Or.inr rfl) (pe_lst (pa_cons (C8.pe_c C_law_take hr (by decide) (by rfl) (pa_cons (pv 0) (pa_cons (pv 1) pa_nil))) pa_nil)))) pss_nil)
  (C8.pss_cut (ps_if (pt_cmpR op_eq (pv 6) pe_int (nomark _)) (pss_one (ps_expr (pe_bm PySem.F.plainAttrs_list PySem.F.slot_list_insert PySem.F.type_list_insert GX.mt_ins (pv 5) (pa_cons (pv 7) (pa_cons (pe_ix ix_list (pv 5) (pe_callB (call_min2 rfl) (by rfl) T.b_min (by decide +kernel) (pa_cons (pv 7) (pa_cons (pe_op op_sub (pe_callB call_len_seq (by rfl) T.b_len (by decide +kernel) (pa_cons (pv 5) pa_nil)) pe_int) pa_nil))) (fun _ _ => rfl)) pa_nil))))) pss_nil)
  (C8.pss_cut (ps_if (pt_cmpR op_eq (pv 6) pe_int (nomark _)) (pss_one (ps_setLc (i := 5) (own := [("k", 8)]) (g := (gName 8)) (tt := tYes) rfl sc_law_spoilt.nd rfl rfl (sw_true rfl rfl rfl (by decide +kernel)) (pi_range1 (by rfl) T.b_range (pa_cons (pe_callB (call_min2 rfl) (by rfl) T.b_min (by decide +kernel) (pa_cons (pe_op op_add (pv 2) pe_int) (pa_cons (pv 1) pa_nil))) pa_nil)) (blkOk_by (own := [("k", 8)]) (N := ["box", "pages", "most", "row", "page", "copied", "way", "at", "k"]) (sc := defScope s_law_spoilt) (by decide +kernel)) (fun _ _ _ _ _ => (pg_name (i := 8) sc_law_spoilt.nd rfl (by first | exact Or.inl rfl | exact Or.inr rfl))) (fun _ _ _ _ _ => pts_nil) (fun _ _ _ _ _ => (pv 8)))) pss_nil)
  (C8.pss_cut (ps_if (pt_cmpR op_eq (pv 6) pe_int (nomark _)) (pss_one (ps_set (i := 5) sc_law_spoilt.nd rfl (by first | exact Or.inl rfl | exact Or.inr rfl) (pe_lst pa_nil))) pss_nil)
  (C8.pss_cut (ps_if (pt_cmpR op_eq (pv 6) pe_int (nomark _)) (pss_one (ps_set (i := 5) sc_law_spoilt.nd rfl (by first | exact Or.inl rfl | exact Or.inr rfl) (pe_lst (pa_cons (C8.pe_c C_law_take hr (by decide) (by rfl) (pa_cons (pv 0) (pa_cons (pv 1) pa_nil))) pa_nil)))) pss_nil)
  (pss_one (ps_ret (pe_tup (pa_cons (pv 4) (pa_cons (pe_callTy call_tuple_of (by rfl) T.b_tuple (by decide +kernel) (pa_cons (pv 5) pa_nil)) pa_nil)))))))))))))))))), rd_law_spoilt h⟩)
theorem bi_law_spoilt {f : Addr} {fd : FuncData} (F : Fun K "_law_spoilt" "_law_spoilt" s_law_spoilt f fd) : Binds K fd ["box", "pages", "most", "row"] [] := F.binds fun _ _ _ _ _ _ us hl => match us, hl with | [_, _, _, _], _ => rfl
theorem sc_law_whole : FnScope ["told", "due"] ["told", "due"] (defScope s_law_whole) := ⟨rfl, rfl, rfl, by decide +kernel, rfl, by decide +kernel, by decide +kernel⟩
theorem ln_law_whole {vs : List V} {H : Hp} {Q : VK} {E : XK} (h : sp_law_whole K A vs H Q E) : vs.length = 2 := by
  first | (obtain ⟨_, rfl, _⟩ := h; rfl) | (obtain ⟨_, _, rfl, _⟩ := h; rfl) | (obtain ⟨_, _, _, rfl, _⟩ := h; rfl) | (obtain ⟨_, _, _, _, rfl, _⟩ := h; rfl) | (obtain ⟨_, _, _, _, _, rfl, _⟩ := h; rfl) | (obtain ⟨_, _, _, _, _, _, rfl, _⟩ := h; rfl) | (obtain ⟨_, _, _, _, _, _, _, rfl, _⟩ := h; rfl) | (obtain ⟨_, _, _, _, _, _, _, _, rfl, _⟩ := h; rfl) | (obtain ⟨_, _, _, _, _, _, _, _, _, rfl, _⟩ := h; rfl) | (obtain ⟨_, _, _, _, _, _, _, _, _, _, rfl, _⟩ := h; rfl) | (obtain ⟨_, _, _, _, _, _, _, _, _, _, _, rfl, _⟩ := h; rfl) | (obtain ⟨_, _, _, _, _, _, _, _, _, _, _, _, rfl, _⟩ := h; rfl) | (obtain ⟨_, _, _, _, _, _, _, _, _, _, _, _, _, rfl, _⟩ := h; rfl) | (obtain ⟨_, _, _, _, _, _, _, _, _, _, _, _, _, _, rfl, _⟩ := h; rfl) | (obtain ⟨_, _, _, _, _, _, _, _, _, _, _, _, _, _, _, rfl, _⟩ := h; rfl) | (obtain ⟨_, _, _, _, _, _, _, _, _, _, _, _, _, _, _, _, rfl, _⟩ := h; rfl) | (obtain ⟨_, _, _, _, _, _, _, _, _, _, _, _, _, _, _, _, _, rfl, _⟩ := h; rfl) | (obtain ⟨_, _, _, _, _, _, _, _, _, _, _, _, _, _, _, _, _, _, rfl, _⟩ := h; rfl) | (obtain ⟨_, _, _, _, _, _, _, _, _, _, _, _, _, _, _, _, _, _, _, rfl, _⟩ := h; rfl)
theorem fn_law_whole {f : Addr} {fd : FuncData} (F : Fun K "_law_whole" "_law_whole" s_law_whole f fd) (T : Txt mg A) (C : CT K A)  : FnOk P w K mg base CX0 1 f fd ["told", "due"] (sp_law_whole K A) :=
  F.ok sc_law_whole (fun vs H Q E h => ln_law_whole h) (fun cdv Ar outer s H vs Q E hr h => ⟨t_law_whole K A, (pss_one (ps_ret (pe_and (pe_callB call_isi (by rfl) T.b_isinstance (by decide +kernel) (pa_cons (pv 0) (pa_cons (pe_bltn (v := .ty "int") (by rfl) T.b_int (by decide +kernel) rfl) pa_nil))) (pe_and (pe_not (pe_callB call_isi (by rfl) T.b_isinstance (by decide +kernel) (pa_cons (pv 0) (pa_cons (pe_bltn (v := .ty "bool") (by rfl) T.b_bool (by decide +kernel) rfl) pa_nil)))) (pe_one (pe_cmpR op_eq (pv 0) (pv 1) (nomark _))))))), rd_law_whole h⟩)
theorem bi_law_whole {f : Addr} {fd : FuncData} (F : Fun K "_law_whole" "_law_whole" s_law_whole f fd) : Binds K fd ["told", "due"] [] := F.binds fun _ _ _ _ _ _ us hl => match us, hl with | [_, _], _ => rfl
theorem sc_Standing_fresh : FnScope ["cls", "web", "lines"] ["cls", "web", "lines"] (defScope s_Standing_fresh) := ⟨rfl, rfl, rfl, by decide +kernel, rfl, by decide +kernel, by decide +kernel⟩
theorem ln_Standing_fresh {vs : List V} {H : Hp} {Q : VK} {E : XK} (h : sp_Standing_fresh K A vs H Q E) : vs.length = 3 := by
  first | (obtain ⟨_, rfl, _⟩ := h; rfl) | (obtain ⟨_, _, rfl, _⟩ := h; rfl) | (obtain ⟨_, _, _, rfl, _⟩ := h; rfl) | (obtain ⟨_, _, _, _, rfl, _⟩ := h; rfl) | (obtain ⟨_, _, _, _, _, rfl, _⟩ := h; rfl) | (obtain ⟨_, _, _, _, _, _, rfl, _⟩ := h; rfl) | (obtain ⟨_, _, _, _, _, _, _, rfl, _⟩ := h; rfl) | (obtain ⟨_, _, _, _, _, _, _, _, rfl, _⟩ := h; rfl) | (obtain ⟨_, _, _, _, _, _, _, _, _, rfl, _⟩ := h; rfl) | (obtain ⟨_, _, _, _, _, _, _, _, _, _, rfl, _⟩ := h; rfl) | (obtain ⟨_, _, _, _, _, _, _, _, _, _, _, rfl, _⟩ := h; rfl) | (obtain ⟨_, _, _, _, _, _, _, _, _, _, _, _, rfl, _⟩ := h; rfl) | (obtain ⟨_, _, _, _, _, _, _, _, _, _, _, _, _, rfl, _⟩ := h; rfl) | (obtain ⟨_, _, _, _, _, _, _, _, _, _, _, _, _, _, rfl, _⟩ := h; rfl) | (obtain ⟨_, _, _, _, _, _, _, _, _, _, _, _, _, _, _, rfl, _⟩ := h; rfl) | (obtain ⟨_, _, _, _, _, _, _, _, _, _, _, _, _, _, _, _, rfl, _⟩ := h; rfl) | (obtain ⟨_, _, _, _, _, _, _, _, _, _, _, _, _, _, _, _, _, rfl, _⟩ := h; rfl) | (obtain ⟨_, _, _, _, _, _, _, _, _, _, _, _, _, _, _, _, _, _, rfl, _⟩ := h; rfl) | (obtain ⟨_, _, _, _, _, _, _, _, _, _, _, _, _, _, _, _, _, _, _, rfl, _⟩ := h; rfl)
theorem fn_Standing_fresh {f : Addr} {fd : FuncData} (F : Fun K "fresh" "Standing.fresh" s_Standing_fresh f fd) (T : Txt mg A) (C : CT K A) (C_Standing_init : GX.MakX P w K mg base 3 "Standing" A.Standing (sp_Standing_init K A)) : FnOk P w K mg base (L2.CX P w) 5 f fd ["cls", "web", "lines"] (sp_Standing_fresh K A) :=
  F.okX sc_Standing_fresh (fun vs H Q E h => ln_Standing_fresh h) (fun cdv Ar outer s H vs Q E hr h => ⟨t_Standing_fresh K A E, (pss_one (ps_ret (GX.pe_mkV C_Standing_init hr (by decide) (passes_call (takes_of rfl rfl rfl rfl) (fun _ _ _ _ h => h)) (pv 0) (pa_cons (pv 1) (pa_cons (pv 2) (pa_cons (pe_op op_rep (pe_lst (pa_cons (pv 2) pa_nil)) (pe_fld (pv 1) rfl)) pa_nil)))))), rd_Standing_fresh C.s h⟩)
theorem bi_Standing_fresh {f : Addr} {fd : FuncData} (F : Fun K "fresh" "Standing.fresh" s_Standing_fresh f fd) : Binds K fd ["cls", "web", "lines"] [] := F.binds fun _ _ _ _ _ _ us hl => match us, hl with | [_, _, _], _ => rfl
theorem sc_least_start : FnScope ["web", "lines", "rows", "copies", "index", "_", "needed", "copied", "page", "answer", "target", "user", "number"] ["web", "lines", "rows", "copies"] (defScope s_least_start) := ⟨rfl, rfl, rfl, by decide +kernel, rfl, by decide +kernel, by decide +kernel⟩
theorem ln_least_start {vs : List V} {H : Hp} {Q : VK} {E : XK} (h : sp_least_start K A vs H Q E) : vs.length = 4 := by
  first | (obtain ⟨_, rfl, _⟩ := h; rfl) | (obtain ⟨_, _, rfl, _⟩ := h; rfl) | (obtain ⟨_, _, _, rfl, _⟩ := h; rfl) | (obtain ⟨_, _, _, _, rfl, _⟩ := h; rfl) | (obtain ⟨_, _, _, _, _, rfl, _⟩ := h; rfl) | (obtain ⟨_, _, _, _, _, _, rfl, _⟩ := h; rfl) | (obtain ⟨_, _, _, _, _, _, _, rfl, _⟩ := h; rfl) | (obtain ⟨_, _, _, _, _, _, _, _, rfl, _⟩ := h; rfl) | (obtain ⟨_, _, _, _, _, _, _, _, _, rfl, _⟩ := h; rfl) | (obtain ⟨_, _, _, _, _, _, _, _, _, _, rfl, _⟩ := h; rfl) | (obtain ⟨_, _, _, _, _, _, _, _, _, _, _, rfl, _⟩ := h; rfl) | (obtain ⟨_, _, _, _, _, _, _, _, _, _, _, _, rfl, _⟩ := h; rfl) | (obtain ⟨_, _, _, _, _, _, _, _, _, _, _, _, _, rfl, _⟩ := h; rfl) | (obtain ⟨_, _, _, _, _, _, _, _, _, _, _, _, _, _, rfl, _⟩ := h; rfl) | (obtain ⟨_, _, _, _, _, _, _, _, _, _, _, _, _, _, _, rfl, _⟩ := h; rfl) | (obtain ⟨_, _, _, _, _, _, _, _, _, _, _, _, _, _, _, _, rfl, _⟩ := h; rfl) | (obtain ⟨_, _, _, _, _, _, _, _, _, _, _, _, _, _, _, _, _, rfl, _⟩ := h; rfl) | (obtain ⟨_, _, _, _, _, _, _, _, _, _, _, _, _, _, _, _, _, _, rfl, _⟩ := h; rfl) | (obtain ⟨_, _, _, _, _, _, _, _, _, _, _, _, _, _, _, _, _, _, _, rfl, _⟩ := h; rfl)
theorem fn_least_start {f : Addr} {fd : FuncData} (F : Fun K "least_start" "least_start" s_least_start f fd) (T : Txt mg A) (C : CT K A) (C_NoStart : GX.ErrX P w K mg base 1 "NoStart" A.NoStart (GX.sp_err K A.NoStart "index")) (K_judge_log : GX.CalN P w K mg base 7 "judge_log" (sp_judge_log K A) ["copies"]) (C_Standing_init : GX.MakX P w K mg base 3 "Standing" A.Standing (sp_Standing_init K A)) (C_Standing_fresh : GX.CmX P w K mg base 5 A.Standing "fresh" (sp_Standing_fresh K A)) (C_lines_used : GX.CalX P w K mg base 5 "lines_used" (sp_lines_used K A)) : FnOk P w K mg base (L2.CX P w) 8 f fd ["web", "lines", "rows", "copies"] (sp_least_start K A) :=
  F.okX sc_least_start (fun vs H Q E h => ln_least_start h) (fun cdv Ar outer s H vs Q E hr h => ⟨t_least_start K A E, (pss_cons (ps_asg (GX.pe_cN K_judge_log hr (by decide) (by rfl) (pa_cons (GX.pe_cmX C_Standing_fresh hr (by decide) (passes_call (takes_of rfl rfl rfl rfl) (fun _ _ _ _ h => h)) (pe_glob (by rfl) T.g_Standing rfl) (pa_cons (pv 0) (pa_cons (pv 1) pa_nil))) (pa_cons (pv 2) pa_nil)) (pk_cons (pv 3) pk_nil)) (pg_tup rfl (pgs_cons (pg_name (i := 4) sc_least_start.nd rfl (by first | exact Or.inl rfl | exact Or.inr rfl)) (pgs_cons (pg_name (i := 5) sc_least_start.nd rfl (by first | exact Or.inl rfl | exact Or.inr rfl)) (pgs_cons (pg_name (i := 5) sc_least_start.nd rfl (by first | exact Or.inl rfl | exact Or.inr rfl)) pgs_nil)))))
  (pss_cons (ps_if (pt_cmp (pc_notN (pv 4))) (pss_one (GX.ps_raiseO C_NoStart hr (by decide) rfl (by rfl) (takes_of rfl rfl rfl rfl) (pa_cons (pv 4) pa_nil))) pss_nil)
  (pss_cons (ps_set (i := 6) sc_least_start.nd rfl (by first | exact Or.inl rfl | exact Or.inr rfl) (pe_op op_rep (pe_lst (pa_cons pe_int pa_nil)) (pe_fld (pv 0) rfl)))
  (pss_cons (ps_set (i := 7) sc_least_start.nd rfl (by first | exact Or.inl rfl | exact Or.inr rfl) pe_dnewK)
  (pss_cons (ps_for (passes_of rfl) rfl (pi_list (pv 2)) (pg_tup rfl (pgs_cons (pg_name (i := 8) sc_least_start.nd rfl (by first | exact Or.inl rfl | exact Or.inr rfl)) (pgs_cons (pg_name (i := 9) sc_least_start.nd rfl (by first | exact Or.inl rfl | exact Or.inr rfl)) pgs_nil)))
  (pss_cons (ps_for (passes_of rfl) rfl (pi_items (GF.pe_freeze (GX.pe_cX C_lines_used hr (by decide) (by rfl) (passes_call (takes_of rfl rfl rfl rfl) (fun _ _ _ _ h => h)) (pa_cons (pv 0) (pa_cons (pv 8) (pa_cons (pv 9) pa_nil)))))) (pg_tup rfl (pgs_cons (pg_name (i := 11) sc_least_start.nd rfl (by first | exact Or.inl rfl | exact Or.inr rfl)) (pgs_cons (pg_name (i := 12) sc_least_start.nd rfl (by first | exact Or.inl rfl | exact Or.inr rfl)) pgs_nil)))
  (pss_one (ps_if (pt_cmp (pc_dnotin (hu_of hr) (pv 11) (pv 7))) (pss_one (ps_augS (pv 6) (pv 11) pget_list (pv 12) ip_add set_list)) pss_nil)))
  (pss_one (ps_for (passes_of rfl) rfl (pi_tup (pv 9)) (pg_name (i := 10) sc_least_start.nd rfl (by first | exact Or.inl rfl | exact Or.inr rfl))
  (pss_one (ps_dput (hu_of hr) (pv 7) (pv 10) pe_bl rfl))))))
  (pss_one (ps_ret (GX.pe_mkX C_Standing_init hr (by decide) (by rfl) (passes_call (takes_of rfl rfl rfl rfl) (fun _ _ _ _ h => h)) (pa_cons (pv 0) (pa_cons (pv 1) (pa_cons (pv 6) pa_nil))))))))))), rd_least_start C.s C.n h⟩)
theorem bn_least_start {f : Addr} {fd : FuncData} (D : FunD K "least_start" "least_start" (defArgs s_least_start) (defBody s_least_start) (defScope s_least_start) [] [("copies", .int 1)] f fd) : ∃ ds, Vals [V.int 1] ds ∧ Binds K fd ["web", "lines", "rows", "copies"] ds :=
  D.binds0 3 (by simp) rfl fun _ _ _ _ _ _ us ks h1 h2 => match us, h1, ks, h2 with | [_, _, _], _, [_], _ => ⟨_, _, _, _, _, _, rfl, rfl, rfl⟩
theorem kb_least_start {f : Addr} {fd : FuncData} (D : FunD K "least_start" "least_start" (defArgs s_least_start) (defBody s_least_start) (defScope s_least_start) [] [("copies", .int 1)] f fd) : ∃ mv : List Value, KBn K fd ["web", "lines", "rows", "copies"] 3 ["copies"] (fun us ws => (fun us (_ : List Value) ws => us ++ ws) us mv ws) (fun vs zs => vs ++ zs) :=
  D.kbinds0 3 ["copies"] [] (fun us _ ws => us ++ ws) (by simp) (fun _ h => nomatch h) (fun r1 _ r3 => r1.append r3) fun _ _ _ _ _ _ us mv ws h1 h2 h3 => match us, h1, mv, h2, ws, h3 with | [_, _, _], _, [], _, [_], _ => rfl
theorem sc_law_bills : FnScope ["world", "rows", "bills", "row", "uses", "pair", "k"] ["world", "rows"] (defScope s_law_bills) := ⟨rfl, rfl, rfl, by decide +kernel, rfl, by decide +kernel, by decide +kernel⟩
theorem ln_law_bills {vs : List V} {H : Hp} {Q : VK} {E : XK} (h : sp_law_bills K A vs H Q E) : vs.length = 2 := by
  first | (obtain ⟨_, rfl, _⟩ := h; rfl) | (obtain ⟨_, _, rfl, _⟩ := h; rfl) | (obtain ⟨_, _, _, rfl, _⟩ := h; rfl) | (obtain ⟨_, _, _, _, rfl, _⟩ := h; rfl) | (obtain ⟨_, _, _, _, _, rfl, _⟩ := h; rfl) | (obtain ⟨_, _, _, _, _, _, rfl, _⟩ := h; rfl) | (obtain ⟨_, _, _, _, _, _, _, rfl, _⟩ := h; rfl) | (obtain ⟨_, _, _, _, _, _, _, _, rfl, _⟩ := h; rfl) | (obtain ⟨_, _, _, _, _, _, _, _, _, rfl, _⟩ := h; rfl) | (obtain ⟨_, _, _, _, _, _, _, _, _, _, rfl, _⟩ := h; rfl) | (obtain ⟨_, _, _, _, _, _, _, _, _, _, _, rfl, _⟩ := h; rfl) | (obtain ⟨_, _, _, _, _, _, _, _, _, _, _, _, rfl, _⟩ := h; rfl) | (obtain ⟨_, _, _, _, _, _, _, _, _, _, _, _, _, rfl, _⟩ := h; rfl) | (obtain ⟨_, _, _, _, _, _, _, _, _, _, _, _, _, _, rfl, _⟩ := h; rfl) | (obtain ⟨_, _, _, _, _, _, _, _, _, _, _, _, _, _, _, rfl, _⟩ := h; rfl) | (obtain ⟨_, _, _, _, _, _, _, _, _, _, _, _, _, _, _, _, rfl, _⟩ := h; rfl) | (obtain ⟨_, _, _, _, _, _, _, _, _, _, _, _, _, _, _, _, _, rfl, _⟩ := h; rfl) | (obtain ⟨_, _, _, _, _, _, _, _, _, _, _, _, _, _, _, _, _, _, rfl, _⟩ := h; rfl) | (obtain ⟨_, _, _, _, _, _, _, _, _, _, _, _, _, _, _, _, _, _, _, rfl, _⟩ := h; rfl)
theorem fn_law_bills {f : Addr} {fd : FuncData} (F : Fun K "_law_bills" "_law_bills" s_law_bills f fd) (T : Txt mg A) (C : CT K A)  : FnOk P w K mg base CX0 1 f fd ["world", "rows"] (sp_law_bills K A) :=
  F.ok sc_law_bills (fun vs H Q E h => ln_law_bills h) (fun cdv Ar outer s H vs Q E hr h => ⟨t_law_bills K A, (pss_cons (ps_set (i := 2) sc_law_bills.nd rfl (by first | exact Or.inl rfl | exact Or.inr rfl) (pe_lst pa_nil))
  (pss_cons (ps_for PassesOwn.never rfl (pi_list (pv 1)) (pg_name (i := 3) sc_law_bills.nd rfl (by first | exact Or.inl rfl | exact Or.inr rfl))
  (pss_cons (ps_setLc (i := 4) (own := [("k", 6)]) (g := (gName 6)) (tt := tYes) rfl sc_law_bills.nd rfl rfl (sw_true rfl rfl rfl (by decide +kernel)) (pi_range1 (by rfl) T.b_range (pa_cons (pe_ix ix_tup (pv 0) pe_int (fun _ _ => rfl)) pa_nil)) (blkOk_by (own := [("k", 6)]) (N := ["world", "rows", "bills", "row", "uses", "pair", "k"]) (sc := defScope s_law_bills) (by decide +kernel)) (fun _ _ _ _ _ => (pg_name (i := 6) sc_law_bills.nd rfl (by first | exact Or.inl rfl | exact Or.inr rfl))) (fun _ _ _ _ _ => pts_nil) (fun _ _ _ _ _ => pe_int))
  (C8.pss_cut (ps_if (pt_cmpR op_notIn_seq (pe_ix ix_tup (pv 3) pe_int (fun _ _ => rfl)) (pe_ix ix_tup (pv 3) pe_int (fun _ _ => rfl)) (by rfl)) (pss_one (ps_asg pe_int (pg_sub (pv 4) (pe_ix ix_tup (pv 3) pe_int (fun _ _ => rfl)) set_list))) pss_nil)
  (pss_cons (ps_for PassesOwn.never rfl (pi_list (pe_ix ix_tup (pv 0) pe_int (fun _ _ => rfl))) (pg_name (i := 5) sc_law_bills.nd rfl (by first | exact Or.inl rfl | exact Or.inr rfl))
  (pss_one (ps_if (PW.pt (pw_and (pt_cmpR op_in_seq (pe_ix ix_tup (pv 5) pe_int (fun _ _ => rfl)) (pe_ix ix_tup (pv 3) pe_int (fun _ _ => rfl)) (by rfl)) (pw_and1 (pt_cmpR op_notIn_seq (pe_ix ix_tup (pv 5) pe_int (fun _ _ => rfl)) (pe_ix ix_tup (pv 3) pe_int (fun _ _ => rfl)) (by rfl))))) (pss_one (ps_asg (pe_op op_add (pe_ix ix_list (pv 4) (pe_ix ix_tup (pv 5) pe_int (fun _ _ => rfl)) (fun _ _ => rfl)) pe_int) (pg_sub (pv 4) (pe_ix ix_tup (pv 5) pe_int (fun _ _ => rfl)) set_list))) pss_nil)))
  (pss_one (ps_expr (pe_bm PySem.F.plainAttrs_list PySem.F.slot_list_append PySem.F.type_list_append mt_append (pv 2) (pa_cons (pe_tup (pa_cons (pv 4) (pa_cons (pe_ix ix_tup (pv 3) pe_int (fun _ _ => rfl)) pa_nil))) pa_nil))))))))
  (pss_one (ps_ret (pv 2))))), rd_law_bills h⟩)
theorem bi_law_bills {f : Addr} {fd : FuncData} (F : Fun K "_law_bills" "_law_bills" s_law_bills f fd) : Binds K fd ["world", "rows"] [] := F.binds fun _ _ _ _ _ _ us hl => match us, hl with | [_, _], _ => rfl
theorem sc_law_paid : FnScope ["bills", "lines", "blank", "now", "at", "uses", "k", "page"] ["bills", "lines", "blank"] (defScope s_law_paid) := ⟨rfl, rfl, rfl, by decide +kernel, rfl, by decide +kernel, by decide +kernel⟩
theorem ln_law_paid {vs : List V} {H : Hp} {Q : VK} {E : XK} (h : sp_law_paid K A vs H Q E) : vs.length = 3 := by
  first | (obtain ⟨_, rfl, _⟩ := h; rfl) | (obtain ⟨_, _, rfl, _⟩ := h; rfl) | (obtain ⟨_, _, _, rfl, _⟩ := h; rfl) | (obtain ⟨_, _, _, _, rfl, _⟩ := h; rfl) | (obtain ⟨_, _, _, _, _, rfl, _⟩ := h; rfl) | (obtain ⟨_, _, _, _, _, _, rfl, _⟩ := h; rfl) | (obtain ⟨_, _, _, _, _, _, _, rfl, _⟩ := h; rfl) | (obtain ⟨_, _, _, _, _, _, _, _, rfl, _⟩ := h; rfl) | (obtain ⟨_, _, _, _, _, _, _, _, _, rfl, _⟩ := h; rfl) | (obtain ⟨_, _, _, _, _, _, _, _, _, _, rfl, _⟩ := h; rfl) | (obtain ⟨_, _, _, _, _, _, _, _, _, _, _, rfl, _⟩ := h; rfl) | (obtain ⟨_, _, _, _, _, _, _, _, _, _, _, _, rfl, _⟩ := h; rfl) | (obtain ⟨_, _, _, _, _, _, _, _, _, _, _, _, _, rfl, _⟩ := h; rfl) | (obtain ⟨_, _, _, _, _, _, _, _, _, _, _, _, _, _, rfl, _⟩ := h; rfl) | (obtain ⟨_, _, _, _, _, _, _, _, _, _, _, _, _, _, _, rfl, _⟩ := h; rfl) | (obtain ⟨_, _, _, _, _, _, _, _, _, _, _, _, _, _, _, _, rfl, _⟩ := h; rfl) | (obtain ⟨_, _, _, _, _, _, _, _, _, _, _, _, _, _, _, _, _, rfl, _⟩ := h; rfl) | (obtain ⟨_, _, _, _, _, _, _, _, _, _, _, _, _, _, _, _, _, _, rfl, _⟩ := h; rfl) | (obtain ⟨_, _, _, _, _, _, _, _, _, _, _, _, _, _, _, _, _, _, _, rfl, _⟩ := h; rfl)
theorem fn_law_paid {f : Addr} {fd : FuncData} (F : Fun K "_law_paid" "_law_paid" s_law_paid f fd) (T : Txt mg A) (C : CT K A)  : FnOk P w K mg base CX0 1 f fd ["bills", "lines", "blank"] (sp_law_paid K A) :=
  F.ok sc_law_paid (fun vs H Q E h => ln_law_paid h) (fun cdv Ar outer s H vs Q E hr h => ⟨t_law_paid K A, (pss_cons (ps_set (i := 3) sc_law_paid.nd rfl (by first | exact Or.inl rfl | exact Or.inr rfl) (pe_callTy call_list_of (by rfl) T.b_list (by decide +kernel) (pa_cons (pv 2) pa_nil)))
  (pss_cons (ps_for PassesOwn.never rfl (pi_range1 (by rfl) T.b_range (pa_cons (pe_callB call_len_seq (by rfl) T.b_len (by decide +kernel) (pa_cons (pv 0) pa_nil)) pa_nil)) (pg_name (i := 4) sc_law_paid.nd rfl (by first | exact Or.inl rfl | exact Or.inr rfl))
  (pss_cons (ps_set (i := 5) sc_law_paid.nd rfl (by first | exact Or.inl rfl | exact Or.inr rfl) (pe_ix ix_tup (pe_ix ix_list (pv 0) (pv 4) (fun _ _ => rfl)) pe_int (fun _ _ => rfl)))
  (pss_cons (ps_for PassesOwn.never rfl (pi_range1 (by rfl) T.b_range (pa_cons (pe_callB call_len_seq (by rfl) T.b_len (by decide +kernel) (pa_cons (pv 3) pa_nil)) pa_nil)) (pg_name (i := 6) sc_law_paid.nd rfl (by first | exact Or.inl rfl | exact Or.inr rfl))
  (pss_cons (ps_asg (pe_op op_sub (pe_ix ix_list (pv 3) (pv 6) (fun _ _ => rfl)) (pe_ix ix_list (pv 5) (pv 6) (fun _ _ => rfl))) (pg_sub (pv 3) (pv 6) set_list))
  (pss_one (ps_if (pt_cmpR op_lt (pe_ix ix_list (pv 3) (pv 6) (fun _ _ => rfl)) pe_int (nomark _)) (pss_one (ps_ret (pe_tup (pa_cons (pv 4) (pa_cons (pv 3) pa_nil))))) pss_nil))))
  (pss_one (ps_for PassesOwn.never rfl (pi_tup (pe_ix ix_tup (pe_ix ix_list (pv 0) (pv 4) (fun _ _ => rfl)) pe_int (fun _ _ => rfl))) (pg_name (i := 7) sc_law_paid.nd rfl (by first | exact Or.inl rfl | exact Or.inr rfl))
  (pss_one (ps_asg (pv 1) (pg_sub (pv 3) (pv 7) set_list))))))))
  (pss_one (ps_ret (pe_tup (pa_cons pe_non (pa_cons (pv 3) pa_nil))))))), rd_law_paid h⟩)
theorem bi_law_paid {f : Addr} {fd : FuncData} (F : Fun K "_law_paid" "_law_paid" s_law_paid f fd) : Binds K fd ["bills", "lines", "blank"] [] := F.binds fun _ _ _ _ _ _ us hl => match us, hl with | [_, _, _], _ => rfl
theorem sc_law_numbers : FnScope ["told", "size", "lines", "number"] ["told", "size", "lines"] (defScope s_law_numbers) := ⟨rfl, rfl, rfl, by decide +kernel, rfl, by decide +kernel, by decide +kernel⟩
theorem ln_law_numbers {vs : List V} {H : Hp} {Q : VK} {E : XK} (h : sp_law_numbers K A vs H Q E) : vs.length = 3 := by
  first | (obtain ⟨_, rfl, _⟩ := h; rfl) | (obtain ⟨_, _, rfl, _⟩ := h; rfl) | (obtain ⟨_, _, _, rfl, _⟩ := h; rfl) | (obtain ⟨_, _, _, _, rfl, _⟩ := h; rfl) | (obtain ⟨_, _, _, _, _, rfl, _⟩ := h; rfl) | (obtain ⟨_, _, _, _, _, _, rfl, _⟩ := h; rfl) | (obtain ⟨_, _, _, _, _, _, _, rfl, _⟩ := h; rfl) | (obtain ⟨_, _, _, _, _, _, _, _, rfl, _⟩ := h; rfl) | (obtain ⟨_, _, _, _, _, _, _, _, _, rfl, _⟩ := h; rfl) | (obtain ⟨_, _, _, _, _, _, _, _, _, _, rfl, _⟩ := h; rfl) | (obtain ⟨_, _, _, _, _, _, _, _, _, _, _, rfl, _⟩ := h; rfl) | (obtain ⟨_, _, _, _, _, _, _, _, _, _, _, _, rfl, _⟩ := h; rfl) | (obtain ⟨_, _, _, _, _, _, _, _, _, _, _, _, _, rfl, _⟩ := h; rfl) | (obtain ⟨_, _, _, _, _, _, _, _, _, _, _, _, _, _, rfl, _⟩ := h; rfl) | (obtain ⟨_, _, _, _, _, _, _, _, _, _, _, _, _, _, _, rfl, _⟩ := h; rfl) | (obtain ⟨_, _, _, _, _, _, _, _, _, _, _, _, _, _, _, _, rfl, _⟩ := h; rfl) | (obtain ⟨_, _, _, _, _, _, _, _, _, _, _, _, _, _, _, _, _, rfl, _⟩ := h; rfl) | (obtain ⟨_, _, _, _, _, _, _, _, _, _, _, _, _, _, _, _, _, _, rfl, _⟩ := h; rfl) | (obtain ⟨_, _, _, _, _, _, _, _, _, _, _, _, _, _, _, _, _, _, _, rfl, _⟩ := h; rfl)
theorem fn_law_numbers {f : Addr} {fd : FuncData} (F : Fun K "_law_numbers" "_law_numbers" s_law_numbers f fd) (T : Txt mg A) (C : CT K A)  : FnOk P w K mg base CX0 1 f fd ["told", "size", "lines"] (sp_law_numbers K A) :=
  F.ok sc_law_numbers (fun vs H Q E h => ln_law_numbers h) (fun cdv Ar outer s H vs Q E hr h => ⟨t_law_numbers K A, (pss_cons (ps_if (PW.pt (pw_or (pt_not (pt_val (pe_callB call_isi (by rfl) T.b_isinstance (by decide +kernel) (pa_cons (pv 0) (pa_cons (pe_bltn (v := .ty "list") (by rfl) T.b_list (by decide +kernel) rfl) pa_nil))) (by intro _; rfl))) (pw_or1 (pt_cmpR op_ne (pe_callB call_len_seq (by rfl) T.b_len (by decide +kernel) (pa_cons (pv 0) pa_nil)) (pv 1) (nomark _))))) (pss_one (ps_ret pe_bl)) pss_nil)
  (pss_cons (ps_for PassesOwn.never rfl (pi_list (pv 0)) (pg_name (i := 3) sc_law_numbers.nd rfl (by first | exact Or.inl rfl | exact Or.inr rfl))
  (pss_one (ps_if (PW.pt (pw_or (pt_not (pt_val (pe_callB call_isi (by rfl) T.b_isinstance (by decide +kernel) (pa_cons (pv 3) (pa_cons (pe_bltn (v := .ty "int") (by rfl) T.b_int (by decide +kernel) rfl) pa_nil))) (by intro _; rfl))) (pw_or (pt_val (pe_callB call_isi (by rfl) T.b_isinstance (by decide +kernel) (pa_cons (pv 3) (pa_cons (pe_bltn (v := .ty "bool") (by rfl) T.b_bool (by decide +kernel) rfl) pa_nil))) (by intro _; rfl)) (pw_or (pt_cmpR op_lt (pv 3) pe_int (nomark _)) (pw_or1 (pt_cmpR op_gt (pv 3) (pv 2) (nomark _))))))) (pss_one (ps_ret pe_bl)) pss_nil)))
  (pss_one (ps_ret pe_bl)))), rd_law_numbers h⟩)
theorem bi_law_numbers {f : Addr} {fd : FuncData} (F : Fun K "_law_numbers" "_law_numbers" s_law_numbers f fd) : Binds K fd ["told", "size", "lines"] [] := F.binds fun _ _ _ _ _ _ us hl => match us, hl with | [_, _, _], _ => rfl
theorem sc_law_end : FnScope ["told", "index", "reason", "blank"] ["told", "index", "reason", "blank"] (defScope s_law_end) := ⟨rfl, rfl, rfl, by decide +kernel, rfl, by decide +kernel, by decide +kernel⟩
theorem ln_law_end {vs : List V} {H : Hp} {Q : VK} {E : XK} (h : sp_law_end K A vs H Q E) : vs.length = 4 := by
  first | (obtain ⟨_, rfl, _⟩ := h; rfl) | (obtain ⟨_, _, rfl, _⟩ := h; rfl) | (obtain ⟨_, _, _, rfl, _⟩ := h; rfl) | (obtain ⟨_, _, _, _, rfl, _⟩ := h; rfl) | (obtain ⟨_, _, _, _, _, rfl, _⟩ := h; rfl) | (obtain ⟨_, _, _, _, _, _, rfl, _⟩ := h; rfl) | (obtain ⟨_, _, _, _, _, _, _, rfl, _⟩ := h; rfl) | (obtain ⟨_, _, _, _, _, _, _, _, rfl, _⟩ := h; rfl) | (obtain ⟨_, _, _, _, _, _, _, _, _, rfl, _⟩ := h; rfl) | (obtain ⟨_, _, _, _, _, _, _, _, _, _, rfl, _⟩ := h; rfl) | (obtain ⟨_, _, _, _, _, _, _, _, _, _, _, rfl, _⟩ := h; rfl) | (obtain ⟨_, _, _, _, _, _, _, _, _, _, _, _, rfl, _⟩ := h; rfl) | (obtain ⟨_, _, _, _, _, _, _, _, _, _, _, _, _, rfl, _⟩ := h; rfl) | (obtain ⟨_, _, _, _, _, _, _, _, _, _, _, _, _, _, rfl, _⟩ := h; rfl) | (obtain ⟨_, _, _, _, _, _, _, _, _, _, _, _, _, _, _, rfl, _⟩ := h; rfl) | (obtain ⟨_, _, _, _, _, _, _, _, _, _, _, _, _, _, _, _, rfl, _⟩ := h; rfl) | (obtain ⟨_, _, _, _, _, _, _, _, _, _, _, _, _, _, _, _, _, rfl, _⟩ := h; rfl) | (obtain ⟨_, _, _, _, _, _, _, _, _, _, _, _, _, _, _, _, _, _, rfl, _⟩ := h; rfl) | (obtain ⟨_, _, _, _, _, _, _, _, _, _, _, _, _, _, _, _, _, _, _, rfl, _⟩ := h; rfl)
theorem fn_law_end {f : Addr} {fd : FuncData} (F : Fun K "_law_end" "_law_end" s_law_end f fd) (T : Txt mg A) (C : CT K A) (C_Standing_blanks : C8.Met P w K mg base 1 A.Standing "blanks" (sp_Standing_blanks K A) []) (C_law_whole : C8.Cal P w K mg base 1 "_law_whole" (sp_law_whole K A) []) : FnOk P w K mg base CX0 2 f fd ["told", "index", "reason", "blank"] (sp_law_end K A) :=
  F.ok sc_law_end (fun vs H Q E h => ln_law_end h) (fun cdv Ar outer s H vs Q E hr h => ⟨t_law_end K A, (pss_cons (ps_if (PW.pt (pw_or (pt_not (pt_val (pe_callB call_isi (by rfl) T.b_isinstance (by decide +kernel) (pa_cons (pv 0) (pa_cons (pe_bltn (v := .ty "tuple") (by rfl) T.b_tuple (by decide +kernel) rfl) pa_nil))) (by intro _; rfl))) (pw_or (pt_cmpR op_ne (pe_callB call_len_seq (by rfl) T.b_len (by decide +kernel) (pa_cons (pv 0) pa_nil)) pe_int (nomark _)) (pw_or1 (pt_not (pt_val (pe_callB call_isi (by rfl) T.b_isinstance (by decide +kernel) (pa_cons (pe_ix ix_tup (pv 0) pe_int (fun _ _ => rfl)) (pa_cons (pe_glob (v := .ref A.Standing) (by rfl) T.g_Standing rfl) pa_nil))) (by intro _; rfl))))))) (pss_one (ps_ret pe_bl)) pss_nil)
  (pss_cons (ps_if (PW.pt (pw_and (pt_cmp (pc_isN (pv 1))) (pw_and1 (PW.pt (pw_or (pt_cmp (pc_notN (pe_ix ix_tup (pv 0) pe_int (fun _ _ => rfl)))) (pw_or1 (pt_cmp (pc_notN (pe_ix ix_tup (pv 0) pe_int (fun _ _ => rfl)))))))))) (pss_one (ps_ret pe_bl)) pss_nil)
  (pss_cons (ps_if (PW.pt (pw_and (pt_cmp (pc_notN (pv 1))) (pw_and1 (pt_not (PW.pt (pw_and (pt_val (C8.pe_c C_law_whole hr (by decide) (by rfl) (pa_cons (pe_ix ix_tup (pv 0) pe_int (fun _ _ => rfl)) (pa_cons (pv 1) pa_nil))) (by intro _; rfl)) (pw_and1 (pt_cmpR op_eq (pe_ix ix_tup (pv 0) pe_int (fun _ _ => rfl)) (pv 2) (nomark _))))))))) (pss_one (ps_ret pe_bl)) pss_nil)
  (pss_one (ps_ret (pe_cmpR (op_eqD hr.units) (C8.pe_mt0 C_Standing_blanks hr (by decide) (pe_ix ix_tup (pv 0) pe_int (fun _ _ => rfl))) (pv 3) (nomark _))))))), rd_law_end C.i h⟩)
theorem bi_law_end {f : Addr} {fd : FuncData} (F : Fun K "_law_end" "_law_end" s_law_end f fd) : Binds K fd ["told", "index", "reason", "blank"] [] := F.binds fun _ _ _ _ _ _ us hl => match us, hl with | [_, _, _, _], _ => rfl
theorem sc_law_least : FnScope ["start", "web", "world", "rows", "most", "beside", "pick", "lines", "blank", "bills", "end", "page", "fewer", "k", "due", "told"] ["start", "web", "world", "rows", "most", "beside", "pick"] (defScope s_law_least) := ⟨rfl, rfl, rfl, by decide +kernel, rfl, by decide +kernel, by decide +kernel⟩
theorem ln_law_least {vs : List V} {H : Hp} {Q : VK} {E : XK} (h : sp_law_least K A vs H Q E) : vs.length = 7 := by
  first | (obtain ⟨_, rfl, _⟩ := h; rfl) | (obtain ⟨_, _, rfl, _⟩ := h; rfl) | (obtain ⟨_, _, _, rfl, _⟩ := h; rfl) | (obtain ⟨_, _, _, _, rfl, _⟩ := h; rfl) | (obtain ⟨_, _, _, _, _, rfl, _⟩ := h; rfl) | (obtain ⟨_, _, _, _, _, _, rfl, _⟩ := h; rfl) | (obtain ⟨_, _, _, _, _, _, _, rfl, _⟩ := h; rfl) | (obtain ⟨_, _, _, _, _, _, _, _, rfl, _⟩ := h; rfl) | (obtain ⟨_, _, _, _, _, _, _, _, _, rfl, _⟩ := h; rfl) | (obtain ⟨_, _, _, _, _, _, _, _, _, _, rfl, _⟩ := h; rfl) | (obtain ⟨_, _, _, _, _, _, _, _, _, _, _, rfl, _⟩ := h; rfl) | (obtain ⟨_, _, _, _, _, _, _, _, _, _, _, _, rfl, _⟩ := h; rfl) | (obtain ⟨_, _, _, _, _, _, _, _, _, _, _, _, _, rfl, _⟩ := h; rfl) | (obtain ⟨_, _, _, _, _, _, _, _, _, _, _, _, _, _, rfl, _⟩ := h; rfl) | (obtain ⟨_, _, _, _, _, _, _, _, _, _, _, _, _, _, _, rfl, _⟩ := h; rfl) | (obtain ⟨_, _, _, _, _, _, _, _, _, _, _, _, _, _, _, _, rfl, _⟩ := h; rfl) | (obtain ⟨_, _, _, _, _, _, _, _, _, _, _, _, _, _, _, _, _, rfl, _⟩ := h; rfl) | (obtain ⟨_, _, _, _, _, _, _, _, _, _, _, _, _, _, _, _, _, _, rfl, _⟩ := h; rfl) | (obtain ⟨_, _, _, _, _, _, _, _, _, _, _, _, _, _, _, _, _, _, _, rfl, _⟩ := h; rfl)
theorem fn_law_least {f : Addr} {fd : FuncData} (F : Fun K "_law_least" "_law_least" s_law_least f fd) (T : Txt mg A) (C : CT K A) (K_judge_log : GX.CalN P w K mg base 7 "judge_log" (sp_judge_log K A) ["copies"]) (C_Standing_init : GX.MakX P w K mg base 3 "Standing" A.Standing (sp_Standing_init K A)) (C_Standing_blanks : C8.Met P w K mg base 1 A.Standing "blanks" (sp_Standing_blanks K A) []) (C_Web_arrows : C8.Met P w K mg base 1 A.Web "arrows" (sp_Web_arrows K A) []) (C_law_bills : C8.Cal P w K mg base 1 "_law_bills" (sp_law_bills K A) []) (C_law_end : C8.Cal P w K mg base 2 "_law_end" (sp_law_end K A) []) (C_law_judged : C8.Cal P w K mg base 2 "_law_judged" (sp_law_judged K A) []) (C_law_numbers : C8.Cal P w K mg base 1 "_law_numbers" (sp_law_numbers K A) []) (C_law_paid : C8.Cal P w K mg base 1 "_law_paid" (sp_law_paid K A) []) (C_law_whole : C8.Cal P w K mg base 1 "_law_whole" (sp_law_whole K A) []) : FnOk P w K mg base CX0 8 f fd ["start", "web", "world", "rows", "most", "beside", "pick"] (sp_law_least K A) :=
  F.ok sc_law_least (fun vs H Q E h => ln_law_least h) (fun cdv Ar outer s H vs Q E hr h => ⟨t_law_least K A, (pss_cons (ps_set (i := 7) sc_law_least.nd rfl (by first | exact Or.inl rfl | exact Or.inr rfl) (pe_ix ix_tup (pv 2) pe_int (fun _ _ => rfl)))
  (pss_cons (ps_if (PW.pt (pw_or (pt_not (pt_val (pe_callB call_isi (by rfl) T.b_isinstance (by decide +kernel) (pa_cons (pv 0) (pa_cons (pe_glob (v := .ref A.Standing) (by rfl) T.g_Standing rfl) pa_nil))) (by intro _; rfl))) (pw_or1 (pt_not (pt_val (pe_callB call_isi (by rfl) T.b_isinstance (by decide +kernel) (pa_cons (pe_fld (pv 0) rfl) (pa_cons (pe_glob (v := .ref A.Web) (by rfl) T.g_Web rfl) pa_nil))) (by intro _; rfl)))))) (pss_one (ps_ret pe_bl)) pss_nil)
  (pss_cons (ps_if (PW.pt (pw_or (pt_not (pt_val (C8.pe_c C_law_whole hr (by decide) (by rfl) (pa_cons (pe_fld (pe_fld (pv 0) rfl) rfl) (pa_cons (pe_ix ix_tup (pv 2) pe_int (fun _ _ => rfl)) pa_nil))) (by intro _; rfl))) (pw_or1 (pt_cmpR (op_neD hr.units) (C8.pe_mt0 C_Web_arrows hr (by decide) (pe_fld (pv 0) rfl)) (pe_callB cr_sortedPO (by rfl) T.b_sorted (by decide +kernel) (pa_cons (pe_ix ix_tup (pv 2) pe_int (fun _ _ => rfl)) pa_nil)) (nomark _))))) (pss_one (ps_ret pe_bl)) pss_nil)
  (pss_cons (ps_set (i := 8) sc_law_least.nd rfl (by first | exact Or.inl rfl | exact Or.inr rfl) (C8.pe_mt0 C_Standing_blanks hr (by decide) (pv 0)))
  (pss_cons (ps_if (PW.pt (pw_or (pt_not (pt_val (C8.pe_c C_law_whole hr (by decide) (by rfl) (pa_cons (pe_fld (pv 0) rfl) (pa_cons (pv 7) pa_nil))) (by intro _; rfl))) (pw_or1 (pt_not (pt_val (C8.pe_c C_law_numbers hr (by decide) (by rfl) (pa_cons (pv 8) (pa_cons (pe_ix ix_tup (pv 2) pe_int (fun _ _ => rfl)) (pa_cons (pv 7) pa_nil)))) (by intro _; rfl)))))) (pss_one (ps_ret pe_bl)) pss_nil)
  (pss_cons (ps_set (i := 9) sc_law_least.nd rfl (by first | exact Or.inl rfl | exact Or.inr rfl) (C8.pe_c C_law_bills hr (by decide) (by rfl) (pa_cons (pv 2) (pa_cons (pv 3) pa_nil))))
  (pss_cons (ps_set (i := 10) sc_law_least.nd rfl (by first | exact Or.inl rfl | exact Or.inr rfl) (C8.pe_c C_law_paid hr (by decide) (by rfl) (pa_cons (pv 9) (pa_cons (pv 7) (pa_cons (pv 8) pa_nil)))))
  (pss_cons (ps_if (pt_cmp (pc_notN (pe_ix ix_tup (pv 10) pe_int (fun _ _ => rfl)))) (pss_one (ps_ret pe_bl)) pss_nil)
  (pss_cons (ps_for PassesOwn.never rfl (pi_range1 (by rfl) T.b_range (pa_cons (pe_ix ix_tup (pv 2) pe_int (fun _ _ => rfl)) pa_nil)) (pg_name (i := 11) sc_law_least.nd rfl (by first | exact Or.inl rfl | exact Or.inr rfl))
  (pss_one (ps_if (pt_cmpR op_gt (pe_ix ix_list (pv 8) (pv 11) (fun _ _ => rfl)) pe_int (nomark _)) (pss_cons (ps_setLc (i := 12) (own := [("k", 13)]) (g := (gName 13)) (tt := tYes) rfl sc_law_least.nd rfl rfl (sw_true rfl rfl rfl (by decide +kernel)) (pi_range1 (by rfl) T.b_range (pa_cons (pe_ix ix_tup (pv 2) pe_int (fun _ _ => rfl)) pa_nil)) (blkOk_by (own := [("k", 13)]) (N := ["start", "web", "world", "rows", "most", "beside", "pick", "lines", "blank", "bills", "end", "page", "fewer", "k", "due", "told"]) (sc := defScope s_law_least) (by decide +kernel)) (fun _ _ _ _ _ => (pg_name (i := 13) sc_law_least.nd rfl (by first | exact Or.inl rfl | exact Or.inr rfl))) (fun _ _ _ _ _ => pts_nil) (fun _ _ _ _ _ => (pe_op op_sub (pe_ix ix_list (pv 8) (pv 13) (fun _ _ => rfl)) (pe_callTy call_int1 (by rfl) T.b_int (by decide +kernel) (pa_cons (pe_cmpR op_eq (pv 13) (pv 11) (nomark _)) pa_nil)))))
  (pss_one (ps_if (pt_cmp (pc_isN (pe_ix ix_tup (C8.pe_c C_law_paid hr (by decide) (by rfl) (pa_cons (pv 9) (pa_cons (pv 7) (pa_cons (pv 12) pa_nil)))) pe_int (fun _ _ => rfl)))) (pss_one (ps_ret pe_bl)) pss_nil))) pss_nil)))
  (pss_cons (ps_if (pt_cmp (pc_isN (pe_ix ix_tup (C8.pe_c C_law_paid hr (by decide) (by rfl) (pa_cons (pv 9) (pa_cons (pv 7) (pa_cons (pv 5) pa_nil)))) pe_int (fun _ _ => rfl)))) (pss_one (ps_for PassesOwn.never rfl (pi_range1 (by rfl) T.b_range (pa_cons (pe_ix ix_tup (pv 2) pe_int (fun _ _ => rfl)) pa_nil)) (pg_name (i := 13) sc_law_least.nd rfl (by first | exact Or.inl rfl | exact Or.inr rfl))
  (pss_one (ps_if (pt_cmpR op_lt (pe_ix ix_list (pv 5) (pv 13) (fun _ _ => rfl)) (pe_ix ix_list (pv 8) (pv 13) (fun _ _ => rfl)) (nomark _)) (pss_one (ps_ret pe_bl)) pss_nil)))) pss_nil)
  (pss_cons (ps_if (pt_not (pt_val (C8.pe_c C_law_end hr (by decide) (by rfl) (pa_cons (GX.pe_cN K_judge_log hr (by decide) (by rfl) (pa_cons (pv 0) (pa_cons (pe_callTy call_list_of (by rfl) T.b_list (by decide +kernel) (pa_cons (pv 3) pa_nil)) pa_nil)) (pk_cons (pv 4) pk_nil)) (pa_cons pe_non (pa_cons pe_non (pa_cons (pe_ix ix_tup (pv 10) pe_int (fun _ _ => rfl)) pa_nil))))) (by intro _; rfl))) (pss_one (ps_ret pe_bl)) pss_nil)
  (pss_cons (ps_if (pt_cmpR op_eq (pe_ix ix_list (pv 8) (pv 6) (fun _ _ => rfl)) pe_int (nomark _)) (pss_one (ps_ret pe_bl)) pss_nil)
  (pss_cons (ps_setLc (i := 12) (own := [("k", 13)]) (g := (gName 13)) (tt := tYes) rfl sc_law_least.nd rfl rfl (sw_true rfl rfl rfl (by decide +kernel)) (pi_range1 (by rfl) T.b_range (pa_cons (pe_ix ix_tup (pv 2) pe_int (fun _ _ => rfl)) pa_nil)) (blkOk_by (own := [("k", 13)]) (N := ["start", "web", "world", "rows", "most", "beside", "pick", "lines", "blank", "bills", "end", "page", "fewer", "k", "due", "told"]) (sc := defScope s_law_least) (by decide +kernel)) (fun _ _ _ _ _ => (pg_name (i := 13) sc_law_least.nd rfl (by first | exact Or.inl rfl | exact Or.inr rfl))) (fun _ _ _ _ _ => pts_nil) (fun _ _ _ _ _ => (pe_op op_sub (pe_ix ix_list (pv 8) (pv 13) (fun _ _ => rfl)) (pe_callTy call_int1 (by rfl) T.b_int (by decide +kernel) (pa_cons (pe_cmpR op_eq (pv 13) (pv 6) (nomark _)) pa_nil)))))
  (pss_cons (ps_set (i := 14) sc_law_least.nd rfl (by first | exact Or.inl rfl | exact Or.inr rfl) (C8.pe_c C_law_judged hr (by decide) (by rfl) (pa_cons (pv 2) (pa_cons (pv 4) (pa_cons (pv 12) (pa_cons (pv 3) pa_nil))))))
  (pss_cons (ps_set (i := 15) sc_law_least.nd rfl (by first | exact Or.inl rfl | exact Or.inr rfl) (GX.pe_cN K_judge_log hr (by decide) (by rfl) (pa_cons (GX.pe_mkX C_Standing_init hr (by decide) (by rfl) passL (pa_cons (pv 1) (pa_cons (pv 7) (pa_cons (pe_callTy call_list_of (by rfl) T.b_list (by decide +kernel) (pa_cons (pv 12) pa_nil)) pa_nil)))) (pa_cons (pe_callTy call_list_of (by rfl) T.b_list (by decide +kernel) (pa_cons (pv 3) pa_nil)) pa_nil)) (pk_cons (pv 4) pk_nil)))
  (pss_one (ps_ret (pe_and (pe_cmpR op_eq (pe_ix ix_tup (pv 14) pe_int (fun _ _ => rfl)) pe_str (nomark _)) (pe_one (C8.pe_c C_law_end hr (by decide) (by rfl) (pa_cons (pv 15) (pa_cons (pe_ix ix_tup (pv 14) pe_int (fun _ _ => rfl)) (pa_cons pe_str (pa_cons (pe_ix ix_tup (pv 14) pe_int (fun _ _ => rfl)) pa_nil)))))))))))))))))))))))), rd_law_least C.i h⟩)
theorem bi_law_least {f : Addr} {fd : FuncData} (F : Fun K "_law_least" "_law_least" s_law_least f fd) : Binds K fd ["start", "web", "world", "rows", "most", "beside", "pick"] [] := F.binds fun _ _ _ _ _ _ us hl => match us, hl with | [_, _, _, _, _, _, _], _ => rfl
theorem sc_law_told : FnScope ["web", "lines", "rows", "most", "handed", "raised", "start", "right"] ["web", "lines", "rows", "most"] (defScope s_law_told) := ⟨rfl, rfl, rfl, by decide +kernel, rfl, by decide +kernel, by decide +kernel⟩
theorem ln_law_told {vs : List V} {H : Hp} {Q : VK} {E : XK} (h : sp_law_told K A vs H Q E) : vs.length = 4 := by
  first | (obtain ⟨_, rfl, _⟩ := h; rfl) | (obtain ⟨_, _, rfl, _⟩ := h; rfl) | (obtain ⟨_, _, _, rfl, _⟩ := h; rfl) | (obtain ⟨_, _, _, _, rfl, _⟩ := h; rfl) | (obtain ⟨_, _, _, _, _, rfl, _⟩ := h; rfl) | (obtain ⟨_, _, _, _, _, _, rfl, _⟩ := h; rfl) | (obtain ⟨_, _, _, _, _, _, _, rfl, _⟩ := h; rfl) | (obtain ⟨_, _, _, _, _, _, _, _, rfl, _⟩ := h; rfl) | (obtain ⟨_, _, _, _, _, _, _, _, _, rfl, _⟩ := h; rfl) | (obtain ⟨_, _, _, _, _, _, _, _, _, _, rfl, _⟩ := h; rfl) | (obtain ⟨_, _, _, _, _, _, _, _, _, _, _, rfl, _⟩ := h; rfl) | (obtain ⟨_, _, _, _, _, _, _, _, _, _, _, _, rfl, _⟩ := h; rfl) | (obtain ⟨_, _, _, _, _, _, _, _, _, _, _, _, _, rfl, _⟩ := h; rfl) | (obtain ⟨_, _, _, _, _, _, _, _, _, _, _, _, _, _, rfl, _⟩ := h; rfl) | (obtain ⟨_, _, _, _, _, _, _, _, _, _, _, _, _, _, _, rfl, _⟩ := h; rfl) | (obtain ⟨_, _, _, _, _, _, _, _, _, _, _, _, _, _, _, _, rfl, _⟩ := h; rfl) | (obtain ⟨_, _, _, _, _, _, _, _, _, _, _, _, _, _, _, _, _, rfl, _⟩ := h; rfl) | (obtain ⟨_, _, _, _, _, _, _, _, _, _, _, _, _, _, _, _, _, _, rfl, _⟩ := h; rfl) | (obtain ⟨_, _, _, _, _, _, _, _, _, _, _, _, _, _, _, _, _, _, _, rfl, _⟩ := h; rfl)
theorem fn_law_told {f : Addr} {fd : FuncData} (F : Fun K "_law_told" "_law_told" s_law_told f fd) (T : Txt mg A) (C : CT K A) (K_least_start : GF.CalNX P w K mg base 8 "least_start" (sp_least_start K A) 3 ["copies"]) (N_least_start : GF.CalDX P w K mg base 8 "least_start" (sp_least_start K A) [.int 1]) : FnOk P w K mg base CX0 9 f fd ["web", "lines", "rows", "most"] (sp_law_told K A) :=
  F.ok sc_law_told (fun vs H Q E h => ln_law_told h) (fun cdv Ar outer s H vs Q E hr h => ⟨t_law_told K A, (pss_cons (ps_set (i := 4) sc_law_told.nd rfl (by first | exact Or.inl rfl | exact Or.inr rfl) (pe_callTy call_list_of (by rfl) T.b_list (by decide +kernel) (pa_cons (pv 2) pa_nil)))
  (pss_cons (ps_try_as (i := 5) (tb := fun W => (tIfS (tTest (tOp rEq (tVar 3) (tC (.int 0)))) (tAsg (GF.tCallDS (sp_least_start K A) [.int 1] (WE W) (tCons (tVar 0) (tCons (tVar 1) (tCons (tVar 4) tNil)))) (gName 6)) (tAsg (GF.tCallNS 3 (sp_least_start K A) (WE W) (tCons (tVar 0) (tCons (tVar 1) (tCons (tVar 4) tNil))) (tCons (tVar 3) tNil)) (gName 6)))) (ts := fun a cls d => (tSeq (tAsg (tAndV (tCB (GX.rIsX K a cls d) (tCons (tVar 5) (tCons (tC (.ref A.OnecopyError)) tNil))) (tAndV (tCB (GX.rIsX K a cls d) (tCons (tVar 5) (tCons (tC (.ty "ValueError")) tNil))) (tOp (rEqD K) (tVar 4) (tVar 2)))) (gName 7))
  (tSeq (tIfS (tB (tCB (GX.rIsXT K a cls d) (tCons (tVar 5) (tCons (tTup (tCons (tC (.ref A.LotError)) (tCons (tC (.ref A.NoIndex)) (tCons (tC (.ref A.NoLine)) (tCons (tC (.ref A.NoPage)) tNil))))) tNil)))) (tAsg (tC (.bl false)) (gName 7)) tNext)
  (tRet (tTup (tCons (tC (.str "refused")) (tCons (tXf a cls d A.NoStart "index" (tVar 5)) (tCons (tVar 7) tNil)))))))) (Wout := fun _ _ _ _ => False) rfl rfl sc_law_told.nd rfl rfl ⟨rfl, by decide, Or.inl T.g_NoStart⟩ takes0
  (fun W pn xe tk _ => (pss_one (ps_if (pt_cmpR op_eq (pv 3) pe_int (nomark _)) (pss_one (ps_set (i := 6) sc_law_told.nd rfl (by first | exact Or.inl rfl | exact Or.inr rfl) (GF.pe_cDT N_least_start hr (by decide) (by rfl) tk (pa_cons (pv 0) (pa_cons (pv 1) (pa_cons (pv 4) pa_nil)))))) (pss_one (ps_set (i := 6) sc_law_told.nd rfl (by first | exact Or.inl rfl | exact Or.inr rfl) (GF.pe_cNT K_least_start hr (by decide) (by rfl) tk (pa_cons (pv 0) (pa_cons (pv 1) (pa_cons (pv 4) pa_nil))) (pk_cons (pv 3) pk_nil)))))))
  (fun a oe cls d pn hz hf => (pss_cons (ps_set (i := 7) sc_law_told.nd rfl (by first | exact Or.inl rfl | exact Or.inr rfl) (pe_and (pe_callB (GX.call_isX hz hf) (by rfl) T.b_isinstance (by decide +kernel) (pa_cons (pv 5) (pa_cons (pe_glob (v := .ref A.OnecopyError) (by rfl) T.g_OnecopyError rfl) pa_nil))) (pe_and (pe_callB (GX.call_isX hz hf) (by rfl) T.b_isinstance (by decide +kernel) (pa_cons (pv 5) (pa_cons (pe_bltn (v := .ty "ValueError") (by rfl) T.b_ValueError (by decide +kernel) rfl) pa_nil))) (pe_one (pe_cmpR (op_eqD hr.units) (pv 4) (pv 2) (nomark _))))))
  (pss_cons (ps_if (pt_val (pe_callB (GX.call_isXT hz hf) (by rfl) T.b_isinstance (by decide +kernel) (pa_cons (pv 5) (pa_cons (pe_tup (pa_cons (pe_glob (v := .ref A.LotError) (by rfl) T.g_LotError rfl) (pa_cons (pe_glob (v := .ref A.NoIndex) (by rfl) T.g_NoIndex rfl) (pa_cons (pe_glob (v := .ref A.NoLine) (by rfl) T.g_NoLine rfl) (pa_cons (pe_glob (v := .ref A.NoPage) (by rfl) T.g_NoPage rfl) pa_nil))))) pa_nil))) (by intro _; rfl)) (pss_one (ps_set (i := 7) sc_law_told.nd rfl (by first | exact Or.inl rfl | exact Or.inr rfl) pe_bl)) pss_nil)
  (pss_one (ps_ret (pe_tup (pa_cons pe_str (pa_cons (pe_xf C.xf_NoStart C.f_NoStart_index hz hf (pv 5)) (pa_cons (pv 7) pa_nil))))))))))
  (pss_one (ps_ret (pe_tup (pa_cons pe_str (pa_cons (pv 6) (pa_cons (pe_cmpR (op_eqD hr.units) (pv 4) (pv 2) (nomark _)) pa_nil)))))))), rd_law_told C.m h⟩)
theorem bi_law_told {f : Addr} {fd : FuncData} (F : Fun K "_law_told" "_law_told" s_law_told f fd) : Binds K fd ["web", "lines", "rows", "most"] [] := F.binds fun _ _ _ _ _ _ us hl => match us, hl with | [_, _, _, _], _ => rfl
theorem sc_law_asked : FnScope ["web", "world", "rows", "most", "plain", "beside", "pick", "due", "k", "told"] ["web", "world", "rows", "most", "plain", "beside", "pick"] (defScope s_law_asked) := ⟨rfl, rfl, rfl, by decide +kernel, rfl, by decide +kernel, by decide +kernel⟩
theorem ln_law_asked {vs : List V} {H : Hp} {Q : VK} {E : XK} (h : sp_law_asked K A vs H Q E) : vs.length = 7 := by
  first | (obtain ⟨_, rfl, _⟩ := h; rfl) | (obtain ⟨_, _, rfl, _⟩ := h; rfl) | (obtain ⟨_, _, _, rfl, _⟩ := h; rfl) | (obtain ⟨_, _, _, _, rfl, _⟩ := h; rfl) | (obtain ⟨_, _, _, _, _, rfl, _⟩ := h; rfl) | (obtain ⟨_, _, _, _, _, _, rfl, _⟩ := h; rfl) | (obtain ⟨_, _, _, _, _, _, _, rfl, _⟩ := h; rfl) | (obtain ⟨_, _, _, _, _, _, _, _, rfl, _⟩ := h; rfl) | (obtain ⟨_, _, _, _, _, _, _, _, _, rfl, _⟩ := h; rfl) | (obtain ⟨_, _, _, _, _, _, _, _, _, _, rfl, _⟩ := h; rfl) | (obtain ⟨_, _, _, _, _, _, _, _, _, _, _, rfl, _⟩ := h; rfl) | (obtain ⟨_, _, _, _, _, _, _, _, _, _, _, _, rfl, _⟩ := h; rfl) | (obtain ⟨_, _, _, _, _, _, _, _, _, _, _, _, _, rfl, _⟩ := h; rfl) | (obtain ⟨_, _, _, _, _, _, _, _, _, _, _, _, _, _, rfl, _⟩ := h; rfl) | (obtain ⟨_, _, _, _, _, _, _, _, _, _, _, _, _, _, _, rfl, _⟩ := h; rfl) | (obtain ⟨_, _, _, _, _, _, _, _, _, _, _, _, _, _, _, _, rfl, _⟩ := h; rfl) | (obtain ⟨_, _, _, _, _, _, _, _, _, _, _, _, _, _, _, _, _, rfl, _⟩ := h; rfl) | (obtain ⟨_, _, _, _, _, _, _, _, _, _, _, _, _, _, _, _, _, _, rfl, _⟩ := h; rfl) | (obtain ⟨_, _, _, _, _, _, _, _, _, _, _, _, _, _, _, _, _, _, _, rfl, _⟩ := h; rfl)
theorem fn_law_asked {f : Addr} {fd : FuncData} (F : Fun K "_law_asked" "_law_asked" s_law_asked f fd) (T : Txt mg A) (C : CT K A) (C_law_judged : C8.Cal P w K mg base 2 "_law_judged" (sp_law_judged K A) []) (C_law_least : C8.Cal P w K mg base 8 "_law_least" (sp_law_least K A) []) (C_law_told : C8.Cal P w K mg base 9 "_law_told" (sp_law_told K A) []) (C_law_whole : C8.Cal P w K mg base 1 "_law_whole" (sp_law_whole K A) []) : FnOk P w K mg base CX0 10 f fd ["web", "world", "rows", "most", "plain", "beside", "pick"] (sp_law_asked K A) :=
  F.ok sc_law_asked (fun vs H Q E h => ln_law_asked h) (fun cdv Ar outer s H vs Q E hr h => ⟨t_law_asked K A, (pss_cons (ps_set (i := 7) sc_law_asked.nd rfl (by first | exact Or.inl rfl | exact Or.inr rfl) (C8.pe_c C_law_judged hr (by decide) (by rfl) (pa_cons (pv 1) (pa_cons (pv 3) (pa_cons (pe_lc (own := [("k", 8)]) (g := (gName 8)) (tt := tYes) rfl sc_law_asked.nd (pi_range1 (by rfl) T.b_range (pa_cons (pe_ix ix_tup (pv 1) pe_int (fun _ _ => rfl)) pa_nil)) (blkOk_by (own := [("k", 8)]) (N := ["web", "world", "rows", "most", "plain", "beside", "pick", "due", "k", "told"]) (sc := defScope s_law_asked) (by decide +kernel)) (fun _ _ _ _ _ => (pg_name (i := 8) sc_law_asked.nd rfl (by first | exact Or.inl rfl | exact Or.inr rfl))) (fun _ _ _ _ _ => pts_nil) (fun _ _ _ _ _ => (pe_ix ix_tup (pv 1) pe_int (fun _ _ => rfl)))) (pa_cons (pv 2) pa_nil))))))
  (pss_cons (ps_set (i := 9) sc_law_asked.nd rfl (by first | exact Or.inl rfl | exact Or.inr rfl) (C8.pe_c C_law_told hr (by decide) (by rfl) (pa_cons (pv 0) (pa_cons (pe_ix ix_tup (pv 1) pe_int (fun _ _ => rfl)) (pa_cons (pv 2) (pa_cons (pe_op op_mul (pv 3) (pe_callTy call_int1 (by rfl) T.b_int (by decide +kernel) (pa_cons (pe_not (pv 4)) pa_nil))) pa_nil))))))
  (pss_cons (ps_if (pt_cmpR GF.op_isNB (pe_ix ix_tup (pv 9) pe_int (fun _ _ => rfl)) pe_bl (nomark _)) (pss_one (ps_ret pe_bl)) pss_nil)
  (pss_cons (ps_if (pt_cmp (pc_notN (pe_ix ix_tup (pv 7) pe_int (fun _ _ => rfl)))) (pss_one (ps_ret (pe_and (pe_cmpR op_eq (pe_ix ix_tup (pv 9) pe_int (fun _ _ => rfl)) pe_str (nomark _)) (pe_one (C8.pe_c C_law_whole hr (by decide) (by rfl) (pa_cons (pe_ix ix_tup (pv 9) pe_int (fun _ _ => rfl)) (pa_cons (pe_ix ix_tup (pv 7) pe_int (fun _ _ => rfl)) pa_nil))))))) pss_nil)
  (pss_one (ps_ret (pe_and (pe_cmpR op_eq (pe_ix ix_tup (pv 9) pe_int (fun _ _ => rfl)) pe_str (nomark _)) (pe_one (C8.pe_c C_law_least hr (by decide) (by rfl) (pa_cons (pe_ix ix_tup (pv 9) pe_int (fun _ _ => rfl)) (pa_cons (pv 0) (pa_cons (pv 1) (pa_cons (pv 2) (pa_cons (pv 3) (pa_cons (pv 5) (pa_cons (pv 6) pa_nil)))))))))))))))), rd_law_asked h⟩)
theorem bi_law_asked {f : Addr} {fd : FuncData} (F : Fun K "_law_asked" "_law_asked" s_law_asked f fd) : Binds K fd ["web", "world", "rows", "most", "plain", "beside", "pick"] [] := F.binds fun _ _ _ _ _ _ us hl => match us, hl with | [_, _, _, _, _, _, _], _ => rfl
theorem sc_law : FnScope ["script", "box", "pages", "lines", "world", "most", "rows", "k", "at", "cut", "other", "beside", "pick", "web", "arrows"] ["script"] (defScope s_law) := ⟨rfl, rfl, rfl, by decide +kernel, rfl, by decide +kernel, by decide +kernel⟩
theorem ln_law {vs : List V} {H : Hp} {Q : VK} {E : XK} (h : sp_law K A vs H Q E) : vs.length = 1 := by
  first | (obtain ⟨_, rfl, _⟩ := h; rfl) | (obtain ⟨_, _, rfl, _⟩ := h; rfl) | (obtain ⟨_, _, _, rfl, _⟩ := h; rfl) | (obtain ⟨_, _, _, _, rfl, _⟩ := h; rfl) | (obtain ⟨_, _, _, _, _, rfl, _⟩ := h; rfl) | (obtain ⟨_, _, _, _, _, _, rfl, _⟩ := h; rfl) | (obtain ⟨_, _, _, _, _, _, _, rfl, _⟩ := h; rfl) | (obtain ⟨_, _, _, _, _, _, _, _, rfl, _⟩ := h; rfl) | (obtain ⟨_, _, _, _, _, _, _, _, _, rfl, _⟩ := h; rfl) | (obtain ⟨_, _, _, _, _, _, _, _, _, _, rfl, _⟩ := h; rfl) | (obtain ⟨_, _, _, _, _, _, _, _, _, _, _, rfl, _⟩ := h; rfl) | (obtain ⟨_, _, _, _, _, _, _, _, _, _, _, _, rfl, _⟩ := h; rfl) | (obtain ⟨_, _, _, _, _, _, _, _, _, _, _, _, _, rfl, _⟩ := h; rfl) | (obtain ⟨_, _, _, _, _, _, _, _, _, _, _, _, _, _, rfl, _⟩ := h; rfl) | (obtain ⟨_, _, _, _, _, _, _, _, _, _, _, _, _, _, _, rfl, _⟩ := h; rfl) | (obtain ⟨_, _, _, _, _, _, _, _, _, _, _, _, _, _, _, _, rfl, _⟩ := h; rfl) | (obtain ⟨_, _, _, _, _, _, _, _, _, _, _, _, _, _, _, _, _, rfl, _⟩ := h; rfl) | (obtain ⟨_, _, _, _, _, _, _, _, _, _, _, _, _, _, _, _, _, _, rfl, _⟩ := h; rfl) | (obtain ⟨_, _, _, _, _, _, _, _, _, _, _, _, _, _, _, _, _, _, _, rfl, _⟩ := h; rfl)
theorem fn_law {f : Addr} {fd : FuncData} (F : Fun K "law" "law" s_law f fd) (T : Txt mg A) (C : CT K A) (C_Web_init : GX.MakX P w K mg base 4 "Web" A.Web (sp_Web_init K A)) (C_Web_arrows : C8.Met P w K mg base 1 A.Web "arrows" (sp_Web_arrows K A) []) (C_law_asked : C8.Cal P w K mg base 10 "_law_asked" (sp_law_asked K A) []) (C_law_box : C8.Cal P w K mg base 1 "_law_box" (sp_law_box K A) []) (C_law_pages : C8.Cal P w K mg base 2 "_law_pages" (sp_law_pages K A) []) (C_law_pairs : C8.Cal P w K mg base 3 "_law_pairs" (sp_law_pairs K A) []) (C_law_rows : C8.Cal P w K mg base 3 "_law_rows" (sp_law_rows K A) []) (C_law_spoilt : C8.Cal P w K mg base 3 "_law_spoilt" (sp_law_spoilt K A) []) (C_law_take : C8.Cal P w K mg base 1 "_law_take" (sp_law_take K A) []) : FnOk P w K mg base CX0 11 f fd ["script"] (sp_law K A) :=
  F.ok sc_law (fun vs H Q E h => ln_law h) (fun cdv Ar outer s H vs Q E hr h => ⟨t_law K A, (pss_cons (ps_set (i := 1) sc_law.nd rfl (by first | exact Or.inl rfl | exact Or.inr rfl) (C8.pe_c C_law_box hr (by decide) (by rfl) (pa_cons (pv 0) pa_nil)))
  (pss_cons (ps_set (i := 2) sc_law.nd rfl (by first | exact Or.inl rfl | exact Or.inr rfl) (C8.pe_c C_law_pages hr (by decide) (by rfl) (pa_cons (pv 1) pa_nil)))
  (pss_cons (ps_set (i := 3) sc_law.nd rfl (by first | exact Or.inl rfl | exact Or.inr rfl) (pe_ix ix_list (pe_lst (pa_cons pe_int (pa_cons pe_int (pa_cons pe_int (pa_cons pe_int (pa_cons pe_int (pa_cons pe_int (pa_cons pe_int (pa_cons pe_int pa_nil))))))))) (C8.pe_c C_law_take hr (by decide) (by rfl) (pa_cons (pv 1) (pa_cons pe_int pa_nil))) (fun _ _ => rfl)))
  (pss_cons (ps_set (i := 4) sc_law.nd rfl (by first | exact Or.inl rfl | exact Or.inr rfl) (pe_tup (pa_cons (pv 2) (pa_cons (C8.pe_c C_law_pairs hr (by decide) (by rfl) (pa_cons (pv 1) (pa_cons (pv 2) pa_nil))) (pa_cons (pv 3) pa_nil)))))
  (pss_cons (ps_set (i := 5) sc_law.nd rfl (by first | exact Or.inl rfl | exact Or.inr rfl) (pe_ix ix_list (pe_lst (pa_cons pe_int (pa_cons pe_int (pa_cons pe_int (pa_cons pe_int (pa_cons pe_int pa_nil)))))) (C8.pe_c C_law_take hr (by decide) (by rfl) (pa_cons (pv 1) (pa_cons pe_int pa_nil))) (fun _ _ => rfl)))
  (pss_cons (ps_set (i := 6) sc_law.nd rfl (by first | exact Or.inl rfl | exact Or.inr rfl) (C8.pe_c C_law_rows hr (by decide) (by rfl) (pa_cons (pv 1) (pa_cons (pv 4) (pa_cons (pe_lc (own := [("k", 7)]) (g := (gName 7)) (tt := tYes) rfl sc_law.nd (pi_range1 (by rfl) T.b_range (pa_cons (pv 2) pa_nil)) (blkOk_by (own := [("k", 7)]) (N := ["script", "box", "pages", "lines", "world", "most", "rows", "k", "at", "cut", "other", "beside", "pick", "web", "arrows"]) (sc := defScope s_law) (by decide +kernel)) (fun _ _ _ _ _ => (pg_name (i := 7) sc_law.nd rfl (by first | exact Or.inl rfl | exact Or.inr rfl))) (fun _ _ _ _ _ => pts_nil) (fun _ _ _ _ _ => (pv 3))) (pa_cons (pv 5) pa_nil))))))
  (C8.pss_cut (ps_if (PW.pt (pw_and (pt_cmpR op_eq (C8.pe_c C_law_take hr (by decide) (by rfl) (pa_cons (pv 1) (pa_cons pe_int pa_nil))) pe_int (nomark _)) (pw_and1 (pt_cmpR (op_neD hr.units) (pv 6) (pe_lst pa_nil) (nomark _))))) (pss_cons (ps_set (i := 8) sc_law.nd rfl (by first | exact Or.inl rfl | exact Or.inr rfl) (C8.pe_c C_law_take hr (by decide) (by rfl) (pa_cons (pv 1) (pa_cons (pe_callB call_len_seq (by rfl) T.b_len (by decide +kernel) (pa_cons (pv 6) pa_nil)) pa_nil))))
  (pss_one (ps_asg (C8.pe_c C_law_spoilt hr (by decide) (by rfl) (pa_cons (pv 1) (pa_cons (pv 2) (pa_cons (pv 5) (pa_cons (pe_ix ix_list (pv 6) (pv 8) (fun _ _ => rfl)) pa_nil))))) (pg_sub (pv 6) (pv 8) set_list)))) pss_nil)
  (pss_cons (ps_set (i := 9) sc_law.nd rfl (by first | exact Or.inl rfl | exact Or.inr rfl) (C8.pe_c C_law_take hr (by decide) (by rfl) (pa_cons (pv 1) (pa_cons (pe_op op_add (pe_callB call_len_seq (by rfl) T.b_len (by decide +kernel) (pa_cons (pv 6) pa_nil)) pe_int) pa_nil))))
  (pss_cons (ps_set (i := 10) sc_law.nd rfl (by first | exact Or.inl rfl | exact Or.inr rfl) (pe_op op_add pe_int (C8.pe_c C_law_take hr (by decide) (by rfl) (pa_cons (pv 1) (pa_cons pe_int pa_nil)))))
  (pss_cons (ps_setLc (i := 11) (own := [("k", 7)]) (g := (gName 7)) (tt := tYes) rfl sc_law.nd rfl rfl (sw_true rfl rfl rfl (by decide +kernel)) (pi_range1 (by rfl) T.b_range (pa_cons (pv 2) pa_nil)) (blkOk_by (own := [("k", 7)]) (N := ["script", "box", "pages", "lines", "world", "most", "rows", "k", "at", "cut", "other", "beside", "pick", "web", "arrows"]) (sc := defScope s_law) (by decide +kernel)) (fun _ _ _ _ _ => (pg_name (i := 7) sc_law.nd rfl (by first | exact Or.inl rfl | exact Or.inr rfl))) (fun _ _ _ _ _ => pts_nil) (fun _ _ _ _ _ => (pv 3)))
  (pss_cons (ps_for PassesOwn.never rfl (pi_range1 (by rfl) T.b_range (pa_cons (pv 2) pa_nil)) (pg_name (i := 7) sc_law.nd rfl (by first | exact Or.inl rfl | exact Or.inr rfl))
  (pss_one (ps_if (pt_cmpR op_eq (C8.pe_c C_law_take hr (by decide) (by rfl) (pa_cons (pv 1) (pa_cons pe_int pa_nil))) pe_int (nomark _)) (pss_one (ps_asg (C8.pe_c C_law_take hr (by decide) (by rfl) (pa_cons (pv 1) (pa_cons (pe_op op_add (pv 3) pe_int) pa_nil))) (pg_sub (pv 11) (pv 7) set_list))) pss_nil)))
  (pss_cons (ps_set (i := 12) sc_law.nd rfl (by first | exact Or.inl rfl | exact Or.inr rfl) (C8.pe_c C_law_take hr (by decide) (by rfl) (pa_cons (pv 1) (pa_cons (pv 2) pa_nil))))
  (pss_cons (ps_set (i := 13) sc_law.nd rfl (by first | exact Or.inl rfl | exact Or.inr rfl) (GX.pe_mkX C_Web_init hr (by decide) (by rfl) passL (pa_cons (pv 2) (pa_cons (pe_callTy call_list_of (by rfl) T.b_list (by decide +kernel) (pa_cons (pe_ix ix_tup (pv 4) pe_int (fun _ _ => rfl)) pa_nil)) pa_nil))))
  (pss_cons (ps_set (i := 14) sc_law.nd rfl (by first | exact Or.inl rfl | exact Or.inr rfl) (pe_callB cr_sortedPO (by rfl) T.b_sorted (by decide +kernel) (pa_cons (pe_ix ix_tup (pv 4) pe_int (fun _ _ => rfl)) pa_nil)))
  (pss_cons (ps_if (pt_not (pt_val (C8.pe_c C_law_asked hr (by decide) (by rfl) (pa_cons (pv 13) (pa_cons (pv 4) (pa_cons (pv 6) (pa_cons (pv 5) (pa_cons pe_bl (pa_cons (pv 11) (pa_cons (pv 12) pa_nil)))))))) (by intro _; rfl))) (pss_one (ps_ret pe_bl)) pss_nil)
  (pss_cons (ps_if (PW.pt (pw_and (pt_cmpR op_eq (pv 5) pe_int (nomark _)) (pw_and1 (pt_not (pt_val (C8.pe_c C_law_asked hr (by decide) (by rfl) (pa_cons (pv 13) (pa_cons (pv 4) (pa_cons (pv 6) (pa_cons pe_int (pa_cons pe_bl (pa_cons (pv 11) (pa_cons (pv 12) pa_nil)))))))) (by intro _; rfl)))))) (pss_one (ps_ret pe_bl)) pss_nil)
  (pss_cons (ps_if (pt_not (pt_val (C8.pe_c C_law_asked hr (by decide) (by rfl) (pa_cons (pv 13) (pa_cons (pv 4) (pa_cons (pe_slice sl_list (pv 6) po_none (po_some (pv 9))) (pa_cons (pv 5) (pa_cons pe_bl (pa_cons (pv 11) (pa_cons (pv 12) pa_nil)))))))) (by intro _; rfl))) (pss_one (ps_ret pe_bl)) pss_nil)
  (pss_cons (ps_if (pt_not (pt_val (C8.pe_c C_law_asked hr (by decide) (by rfl) (pa_cons (pv 13) (pa_cons (pv 4) (pa_cons (pv 6) (pa_cons (pv 10) (pa_cons pe_bl (pa_cons (pv 11) (pa_cons (pv 12) pa_nil)))))))) (by intro _; rfl))) (pss_one (ps_ret pe_bl)) pss_nil)
  (pss_one (ps_ret (pe_cmpR (op_eqD hr.units) (C8.pe_mt0 C_Web_arrows hr (by decide) (pv 13)) (pv 14) (nomark _)))))))))))))))))))))), rd_law h⟩)
theorem bi_law {f : Addr} {fd : FuncData} (F : Fun K "law" "law" s_law f fd) : Binds K fd ["script"] [] := F.binds fun _ _ _ _ _ _ us hl => match us, hl with | [_], _ => rfl

theorem factsS {P : Program} {w : World} {K : PySem.W.Frag} {h : Heap} {mg : Str → Option Value} {fa : Addr} (X : K.In h) (GN : h.Ns mainGlobals mg) (hfa : mg ("law" : Str) = some (.ref fa)) (c : GX.SaysF faS fnS exS K) :
    ∃ fd : FuncData, (∀ (s : Shared) (v : Value), BindsTo s fd ⟨[v], []⟩ [("script", v)]) ∧ ∀ base : Heap, K.In base → base.Ns mainGlobals mg → FnOk P w K mg base CX0 11 fa fd ["script"] (sp_law K ⟨He.ga K "InvalidPointer", He.ga K "InvalidStanding", He.ga K "LotError", He.ga K "NoIndex", He.ga K "NoLine", He.ga K "NoPage", He.ga K "NoStart", He.ga K "OnecopyError", He.ga K "Standing", He.ga K "Web"⟩) := by
  have T : Txt mg ⟨He.ga K "InvalidPointer", He.ga K "InvalidStanding", He.ga K "LotError", He.ga K "NoIndex", He.ga K "NoLine", He.ga K "NoPage", He.ga K "NoStart", He.ga K "OnecopyError", He.ga K "Standing", He.ga K "Web"⟩ := ⟨He.free_ok X GN (c.1.fact 58 (f := .free "ValueError") rfl), He.free_ok X GN (c.1.fact 59 (f := .free "abs") rfl), He.free_ok X GN (c.1.fact 60 (f := .free "all") rfl), He.free_ok X GN (c.1.fact 61 (f := .free "any") rfl), He.free_ok X GN (c.1.fact 62 (f := .free "bool") rfl), He.free_ok X GN (c.1.fact 63 (f := .free "enumerate") rfl), He.free_ok X GN (c.1.fact 64 (f := .free "int") rfl), He.free_ok X GN (c.1.fact 65 (f := .free "isinstance") rfl), He.free_ok X GN (c.1.fact 66 (f := .free "len") rfl), He.free_ok X GN (c.1.fact 67 (f := .free "list") rfl), He.free_ok X GN (c.1.fact 68 (f := .free "min") rfl), He.free_ok X GN (c.1.fact 69 (f := .free "range") rfl), He.free_ok X GN (c.1.fact 70 (f := .free "set") rfl), He.free_ok X GN (c.1.fact 71 (f := .free "sorted") rfl), He.free_ok X GN (c.1.fact 72 (f := .free "tuple") rfl), He.free_ok X GN (c.1.fact 73 (f := .free "zip") rfl), He.glo_ok X GN (c.1.fact 40 (f := .glo "LotError") rfl), He.glo_ok X GN (c.1.fact 41 (f := .glo "NoIndex") rfl), He.glo_ok X GN (c.1.fact 42 (f := .glo "NoLine") rfl), He.glo_ok X GN (c.1.fact 43 (f := .glo "NoPage") rfl), He.glo_ok X GN (c.1.fact 44 (f := .glo "NoStart") rfl), He.glo_ok X GN (c.1.fact 45 (f := .glo "OnecopyError") rfl), He.glo_ok X GN (c.1.fact 46 (f := .glo "Standing") rfl), He.glo_ok X GN (c.1.fact 47 (f := .glo "Web") rfl)⟩
  have C : CT K ⟨He.ga K "InvalidPointer", He.ga K "InvalidStanding", He.ga K "LotError", He.ga K "NoIndex", He.ga K "NoLine", He.ga K "NoPage", He.ga K "NoStart", He.ga K "OnecopyError", He.ga K "Standing", He.ga K "Web"⟩ := ⟨He.cls_ok (c.1.fact 52 (f := .cls "Web") rfl), He.noat_ok (c.1.fact 53 (f := .noat "Web" "_arrows") rfl), He.noat_ok (c.1.fact 54 (f := .noat "Web" "_holders") rfl), He.noat_ok (c.1.fact 55 (f := .noat "Web" "_known") rfl), He.noat_ok (c.1.fact 56 (f := .noat "Web" "_targets") rfl), He.noat_ok (c.1.fact 57 (f := .noat "Web" "pages") rfl), GX.oex_ok (c.more 0 (e := .ex (.oex "NoPage")) rfl), GX.noat_ok (c.more 1 (e := .ex (.noat "NoPage" "page")) rfl), GX.oex_ok (c.more 2 (e := .ex (.oex "InvalidPointer")) rfl), GX.noat_ok (c.more 3 (e := .ex (.noat "InvalidPointer" "index")) rfl), He.cls_ok (c.1.fact 48 (f := .cls "Standing") rfl), He.noat_ok (c.1.fact 49 (f := .noat "Standing" "_blank") rfl), He.noat_ok (c.1.fact 50 (f := .noat "Standing" "lines") rfl), He.noat_ok (c.1.fact 51 (f := .noat "Standing" "web") rfl), GX.oex_ok (c.more 4 (e := .ex (.oex "NoLine")) rfl), GX.noat_ok (c.more 5 (e := .ex (.noat "NoLine" "page")) rfl), GX.oex_ok (c.more 6 (e := .ex (.oex "InvalidStanding")) rfl), GX.noat_ok (c.more 7 (e := .ex (.noat "InvalidStanding" "page")) rfl), GX.exm_ok (c.more 8 (e := .ex (.exm "NoLine" "NoLine" true)) rfl), GX.oex_ok (c.more 9 (e := .ex (.oex "NoStart")) rfl), GX.noat_ok (c.more 10 (e := .ex (.noat "NoStart" "index")) rfl), GX.exc_ok (c.more 11 (e := .ex (.exc "NoStart")) rfl), GX.xf_ok (c.more 12 (e := .ex (.xf "NoStart")) rfl), GX.exm_ok (c.more 13 (e := .ex (.exm "NoStart" "NoStart" true)) rfl), GX.kit_ok (c.more 14 (e := .ex (.kit "NoStart" "OnecopyError" true)) rfl), GX.kitT_ok (c.more 15 (e := .ex (.kitT "NoStart" "ValueError" true)) rfl), GX.kitA_ok (c.more 16 (e := .ex (.kitA "NoStart" ["LotError", "NoIndex", "NoLine", "NoPage"] false)) rfl), GX.ins_ok (c.more 17 (e := .ex (.ins "Web")) rfl), GX.ins_ok (c.more 18 (e := .ex (.ins "Standing")) rfl)⟩
  have e := hfa.symm.trans (He.glo_ok X GN (c.1.fact 37 (f := .glo "law") rfl))
  cases e
  obtain ⟨fdE0, DE0⟩ := c.1.def_ 0 (d := d_InvalidPointer_init) rfl
  have FE0 := He5.fun_of (st := s_InvalidPointer_init) DE0
  obtain ⟨fdE1, DE1⟩ := c.1.def_ 1 (d := d_InvalidStanding_init) rfl
  have FE1 := He5.fun_of (st := s_InvalidStanding_init) DE1
  obtain ⟨fdE2, DE2⟩ := c.1.def_ 2 (d := d_NoLine_init) rfl
  have FE2 := He5.fun_of (st := s_NoLine_init) DE2
  obtain ⟨fdE3, DE3⟩ := c.1.def_ 3 (d := d_NoPage_init) rfl
  have FE3 := He5.fun_of (st := s_NoPage_init) DE3
  obtain ⟨fdE4, DE4⟩ := c.1.def_ 4 (d := d_NoStart_init) rfl
  have FE4 := He5.fun_of (st := s_NoStart_init) DE4
  obtain ⟨fd0, D0⟩ := c.1.def_ 5 (d := d_check_pages) rfl
  have F0 := He5.fun_of (st := s_check_pages) D0
  obtain ⟨fd1, D1⟩ := c.1.def_ 6 (d := d_is_pointer) rfl
  have F1 := He5.fun_of (st := s_is_pointer) D1
  obtain ⟨fd2, D2⟩ := c.1.def_ 7 (d := d_as_known) rfl
  have F2 := He5.fun_of (st := s_as_known) D2
  obtain ⟨fd3, D3⟩ := c.1.def_ 8 (d := d_grouped) rfl
  have F3 := He5.fun_of (st := s_grouped) D3
  obtain ⟨fd4, D4⟩ := c.1.def_ 9 (d := d_Web_init) rfl
  have F4 := He5.fun_of (st := s_Web_init) D4
  obtain ⟨fd5, D5⟩ := c.1.def_ 10 (d := d_Web_arrows) rfl
  have F5 := He5.fun_of (st := s_Web_arrows) D5
  obtain ⟨fd6, D6⟩ := c.1.def_ 11 (d := d_Web_holders) rfl
  have F6 := He5.fun_of (st := s_Web_holders) D6
  obtain ⟨fd7, D7⟩ := c.1.def_ 12 (d := d_lines_used) rfl
  have F7 := He5.fun_of (st := s_lines_used) D7
  obtain ⟨fd8, D8⟩ := c.1.def_ 13 (d := d_Standing_init) rfl
  have F8 := He5.fun_of (st := s_Standing_init) D8
  obtain ⟨fd9, D9⟩ := c.1.def_ 14 (d := d_Standing_blanks) rfl
  have F9 := He5.fun_of (st := s_Standing_blanks) D9
  obtain ⟨fd10, D10⟩ := c.1.def_ 15 (d := d_Standingcheck_lines) rfl
  have F10 := He5.fun_of (st := s_Standingcheck_lines) D10
  obtain ⟨fd11, D11⟩ := c.1.def_ 16 (d := d_Standing_after) rfl
  have F11 := He5.fun_of (st := s_Standing_after) D11
  obtain ⟨fd12, D12⟩ := c.1.def_ 17 (d := d_is_ascending) rfl
  have F12 := He5.fun_of (st := s_is_ascending) D12
  obtain ⟨fd13, D13⟩ := c.1.def_ 18 (d := d_fault_of) rfl
  have F13 := He5.fun_of (st := s_fault_of) D13
  obtain ⟨fd14, D14⟩ := c.1.def_ 19 (d := d_judge_log) rfl
  have F14 := He5.fun_of (st := s_judge_log) D14
  obtain ⟨fd15, D15⟩ := c.1.def_ 20 (d := d_law_box) rfl
  have F15 := He5.fun_of (st := s_law_box) D15
  obtain ⟨fd16, D16⟩ := c.1.def_ 21 (d := d_law_take) rfl
  have F16 := He5.fun_of (st := s_law_take) D16
  obtain ⟨fd17, D17⟩ := c.1.def_ 22 (d := d_law_pages) rfl
  have F17 := He5.fun_of (st := s_law_pages) D17
  obtain ⟨fd18, D18⟩ := c.1.def_ 23 (d := d_law_built) rfl
  have F18 := He5.fun_of (st := s_law_built) D18
  obtain ⟨fd19, D19⟩ := c.1.def_ 24 (d := d_law_pairs) rfl
  have F19 := He5.fun_of (st := s_law_pairs) D19
  obtain ⟨fd20, D20⟩ := c.1.def_ 25 (d := d_law_step) rfl
  have F20 := He5.fun_of (st := s_law_step) D20
  obtain ⟨fd21, D21⟩ := c.1.def_ 26 (d := d_law_reason) rfl
  have F21 := He5.fun_of (st := s_law_reason) D21
  obtain ⟨fd22, D22⟩ := c.1.def_ 27 (d := d_law_judged) rfl
  have F22 := He5.fun_of (st := s_law_judged) D22
  obtain ⟨fd23, D23⟩ := c.1.def_ 28 (d := d_law_answer) rfl
  have F23 := He5.fun_of (st := s_law_answer) D23
  obtain ⟨fd24, D24⟩ := c.1.def_ 29 (d := d_law_better) rfl
  have F24 := He5.fun_of (st := s_law_better) D24
  obtain ⟨fd25, D25⟩ := c.1.def_ 30 (d := d_law_rows) rfl
  have F25 := He5.fun_of (st := s_law_rows) D25
  obtain ⟨fd26, D26⟩ := c.1.def_ 31 (d := d_law_strange) rfl
  have F26 := He5.fun_of (st := s_law_strange) D26
  obtain ⟨fd27, D27⟩ := c.1.def_ 32 (d := d_law_spoilt) rfl
  have F27 := He5.fun_of (st := s_law_spoilt) D27
  obtain ⟨fd28, D28⟩ := c.1.def_ 33 (d := d_law_whole) rfl
  have F28 := He5.fun_of (st := s_law_whole) D28
  obtain ⟨fd29, D29⟩ := c.1.def_ 34 (d := d_Standing_fresh) rfl
  have F29 := He5.fun_of (st := s_Standing_fresh) D29
  obtain ⟨fd30, D30⟩ := c.1.def_ 35 (d := d_least_start) rfl
  have F30 := He5.fun_of (st := s_least_start) D30
  obtain ⟨fd31, D31⟩ := c.1.def_ 36 (d := d_law_bills) rfl
  have F31 := He5.fun_of (st := s_law_bills) D31
  obtain ⟨fd32, D32⟩ := c.1.def_ 37 (d := d_law_paid) rfl
  have F32 := He5.fun_of (st := s_law_paid) D32
  obtain ⟨fd33, D33⟩ := c.1.def_ 38 (d := d_law_numbers) rfl
  have F33 := He5.fun_of (st := s_law_numbers) D33
  obtain ⟨fd34, D34⟩ := c.1.def_ 39 (d := d_law_end) rfl
  have F34 := He5.fun_of (st := s_law_end) D34
  obtain ⟨fd35, D35⟩ := c.1.def_ 40 (d := d_law_least) rfl
  have F35 := He5.fun_of (st := s_law_least) D35
  obtain ⟨fd36, D36⟩ := c.1.def_ 41 (d := d_law_told) rfl
  have F36 := He5.fun_of (st := s_law_told) D36
  obtain ⟨fd37, D37⟩ := c.1.def_ 42 (d := d_law_asked) rfl
  have F37 := He5.fun_of (st := s_law_asked) D37
  obtain ⟨fd38, D38⟩ := c.1.def_ 43 (d := d_law) rfl
  have F38 := He5.fun_of (st := s_law) D38
  have b := FunD.bindsA (ps := ["script"]) D38 fun _ _ _ _ _ _ us hl => match us, hl with | [_], _ => rfl
  refine ⟨fd38, fun s v => b s [v] rfl, fun base _ _ => ?_⟩
  have C_InvalidPointer : GX.ErrX P w K mg base 1 "InvalidPointer" (He.ga K "InvalidPointer") (GX.sp_err K (He.ga K "InvalidPointer") "index") := ⟨GX.oex_ok (c.more 2 (e := .ex (.oex "InvalidPointer")) rfl), _, _, _, (GX.ini_ok (c.more 21 (e := .ex (.ini "InvalidPointer")) rfl)).1, (GX.ini_ok (c.more 21 (e := .ex (.ini "InvalidPointer")) rfl)).2, fn_InvalidPointer_init (A := ⟨He.ga K "InvalidPointer", He.ga K "InvalidStanding", He.ga K "LotError", He.ga K "NoIndex", He.ga K "NoLine", He.ga K "NoPage", He.ga K "NoStart", He.ga K "OnecopyError", He.ga K "Standing", He.ga K "Web"⟩) FE0, He.glo_ok X GN (c.1.fact 38 (f := .glo "InvalidPointer") rfl), bi_InvalidPointer_init FE0⟩
  have C_InvalidStanding : GX.ErrX P w K mg base 1 "InvalidStanding" (He.ga K "InvalidStanding") (GX.sp_err K (He.ga K "InvalidStanding") "page") := ⟨GX.oex_ok (c.more 6 (e := .ex (.oex "InvalidStanding")) rfl), _, _, _, (GX.ini_ok (c.more 22 (e := .ex (.ini "InvalidStanding")) rfl)).1, (GX.ini_ok (c.more 22 (e := .ex (.ini "InvalidStanding")) rfl)).2, fn_InvalidStanding_init (A := ⟨He.ga K "InvalidPointer", He.ga K "InvalidStanding", He.ga K "LotError", He.ga K "NoIndex", He.ga K "NoLine", He.ga K "NoPage", He.ga K "NoStart", He.ga K "OnecopyError", He.ga K "Standing", He.ga K "Web"⟩) FE1, He.glo_ok X GN (c.1.fact 39 (f := .glo "InvalidStanding") rfl), bi_InvalidStanding_init FE1⟩
  have C_NoLine : GX.ErrX P w K mg base 1 "NoLine" (He.ga K "NoLine") (GX.sp_err K (He.ga K "NoLine") "page") := ⟨GX.oex_ok (c.more 4 (e := .ex (.oex "NoLine")) rfl), _, _, _, (GX.ini_ok (c.more 23 (e := .ex (.ini "NoLine")) rfl)).1, (GX.ini_ok (c.more 23 (e := .ex (.ini "NoLine")) rfl)).2, fn_NoLine_init (A := ⟨He.ga K "InvalidPointer", He.ga K "InvalidStanding", He.ga K "LotError", He.ga K "NoIndex", He.ga K "NoLine", He.ga K "NoPage", He.ga K "NoStart", He.ga K "OnecopyError", He.ga K "Standing", He.ga K "Web"⟩) FE2, He.glo_ok X GN (c.1.fact 42 (f := .glo "NoLine") rfl), bi_NoLine_init FE2⟩
  have C_NoPage : GX.ErrX P w K mg base 1 "NoPage" (He.ga K "NoPage") (GX.sp_err K (He.ga K "NoPage") "page") := ⟨GX.oex_ok (c.more 0 (e := .ex (.oex "NoPage")) rfl), _, _, _, (GX.ini_ok (c.more 24 (e := .ex (.ini "NoPage")) rfl)).1, (GX.ini_ok (c.more 24 (e := .ex (.ini "NoPage")) rfl)).2, fn_NoPage_init (A := ⟨He.ga K "InvalidPointer", He.ga K "InvalidStanding", He.ga K "LotError", He.ga K "NoIndex", He.ga K "NoLine", He.ga K "NoPage", He.ga K "NoStart", He.ga K "OnecopyError", He.ga K "Standing", He.ga K "Web"⟩) FE3, He.glo_ok X GN (c.1.fact 43 (f := .glo "NoPage") rfl), bi_NoPage_init FE3⟩
  have C_NoStart : GX.ErrX P w K mg base 1 "NoStart" (He.ga K "NoStart") (GX.sp_err K (He.ga K "NoStart") "index") := ⟨GX.oex_ok (c.more 9 (e := .ex (.oex "NoStart")) rfl), _, _, _, (GX.ini_ok (c.more 25 (e := .ex (.ini "NoStart")) rfl)).1, (GX.ini_ok (c.more 25 (e := .ex (.ini "NoStart")) rfl)).2, fn_NoStart_init (A := ⟨He.ga K "InvalidPointer", He.ga K "InvalidStanding", He.ga K "LotError", He.ga K "NoIndex", He.ga K "NoLine", He.ga K "NoPage", He.ga K "NoStart", He.ga K "OnecopyError", He.ga K "Standing", He.ga K "Web"⟩) FE4, He.glo_ok X GN (c.1.fact 44 (f := .glo "NoStart") rfl), bi_NoStart_init FE4⟩
  have C_check_pages : GX.CalX P w K mg base 3 "check_pages" (sp_check_pages K ⟨He.ga K "InvalidPointer", He.ga K "InvalidStanding", He.ga K "LotError", He.ga K "NoIndex", He.ga K "NoLine", He.ga K "NoPage", He.ga K "NoStart", He.ga K "OnecopyError", He.ga K "Standing", He.ga K "Web"⟩) := ⟨_, _, _, fn_check_pages F0 T C C_NoPage, He.glo_ok X GN (c.1.fact 0 (f := .glo "check_pages") rfl), F0.kp, bi_check_pages F0⟩
  have C_is_pointer : C8.Cal P w K mg base 1 "_is_pointer" (sp_is_pointer K ⟨He.ga K "InvalidPointer", He.ga K "InvalidStanding", He.ga K "LotError", He.ga K "NoIndex", He.ga K "NoLine", He.ga K "NoPage", He.ga K "NoStart", He.ga K "OnecopyError", He.ga K "Standing", He.ga K "Web"⟩) [] := ⟨_, _, _, [], fn_is_pointer F1 T C , He.glo_ok X GN (c.1.fact 1 (f := .glo "_is_pointer") rfl), F1.kp, bi_is_pointer F1, .nil⟩
  have C_as_known : GX.CalX P w K mg base 3 "_as_known" (sp_as_known K ⟨He.ga K "InvalidPointer", He.ga K "InvalidStanding", He.ga K "LotError", He.ga K "NoIndex", He.ga K "NoLine", He.ga K "NoPage", He.ga K "NoStart", He.ga K "OnecopyError", He.ga K "Standing", He.ga K "Web"⟩) := ⟨_, _, _, fn_as_known F2 T C C_InvalidPointer C_is_pointer, He.glo_ok X GN (c.1.fact 2 (f := .glo "_as_known") rfl), F2.kp, bi_as_known F2⟩
  have C_grouped : C8.Cal P w K mg base 1 "_grouped" (sp_grouped K ⟨He.ga K "InvalidPointer", He.ga K "InvalidStanding", He.ga K "LotError", He.ga K "NoIndex", He.ga K "NoLine", He.ga K "NoPage", He.ga K "NoStart", He.ga K "OnecopyError", He.ga K "Standing", He.ga K "Web"⟩) [] := ⟨_, _, _, [], fn_grouped F3 T C , He.glo_ok X GN (c.1.fact 3 (f := .glo "_grouped") rfl), F3.kp, bi_grouped F3, .nil⟩
  have C_Web_init : GX.MakX P w K mg base 4 "Web" (He.ga K "Web") (sp_Web_init K ⟨He.ga K "InvalidPointer", He.ga K "InvalidStanding", He.ga K "LotError", He.ga K "NoIndex", He.ga K "NoLine", He.ga K "NoPage", He.ga K "NoStart", He.ga K "OnecopyError", He.ga K "Standing", He.ga K "Web"⟩) := ⟨_, _, _, He.mkr_ok (c.1.fact 4 (f := .mkr "Web") rfl), fn_Web_init F4 T C C_as_known C_grouped, He.glo_ok X GN (c.1.fact 47 (f := .glo "Web") rfl), bi_Web_init F4⟩
  have C_Web_arrows : C8.Met P w K mg base 1 (He.ga K "Web") "arrows" (sp_Web_arrows K ⟨He.ga K "InvalidPointer", He.ga K "InvalidStanding", He.ga K "LotError", He.ga K "NoIndex", He.ga K "NoLine", He.ga K "NoPage", He.ga K "NoStart", He.ga K "OnecopyError", He.ga K "Standing", He.ga K "Web"⟩) [] := ⟨_, _, _, [], C.c_Web, He.meth_ok (c.1.fact 5 (f := .meth "Web" "arrows") rfl), fn_Web_arrows F5 T C , bi_Web_arrows F5, .nil⟩
  have C_Web_holders : GX.MetX P w K mg base 4 (He.ga K "Web") "holders" (sp_Web_holders K ⟨He.ga K "InvalidPointer", He.ga K "InvalidStanding", He.ga K "LotError", He.ga K "NoIndex", He.ga K "NoLine", He.ga K "NoPage", He.ga K "NoStart", He.ga K "OnecopyError", He.ga K "Standing", He.ga K "Web"⟩) := ⟨_, _, _, C.c_Web, He.meth_ok (c.1.fact 6 (f := .meth "Web" "holders") rfl), fn_Web_holders F6 T C C_check_pages, bi_Web_holders F6⟩
  have C_lines_used : GX.CalX P w K mg base 5 "lines_used" (sp_lines_used K ⟨He.ga K "InvalidPointer", He.ga K "InvalidStanding", He.ga K "LotError", He.ga K "NoIndex", He.ga K "NoLine", He.ga K "NoPage", He.ga K "NoStart", He.ga K "OnecopyError", He.ga K "Standing", He.ga K "Web"⟩) := ⟨_, _, _, fn_lines_used F7 T C C_Web_holders, He.glo_ok X GN (c.1.fact 7 (f := .glo "lines_used") rfl), F7.kp, bi_lines_used F7⟩
  have C_Standing_init : GX.MakX P w K mg base 3 "Standing" (He.ga K "Standing") (sp_Standing_init K ⟨He.ga K "InvalidPointer", He.ga K "InvalidStanding", He.ga K "LotError", He.ga K "NoIndex", He.ga K "NoLine", He.ga K "NoPage", He.ga K "NoStart", He.ga K "OnecopyError", He.ga K "Standing", He.ga K "Web"⟩) := ⟨_, _, _, He.mkr_ok (c.1.fact 8 (f := .mkr "Standing") rfl), fn_Standing_init F8 T C C_InvalidStanding, He.glo_ok X GN (c.1.fact 46 (f := .glo "Standing") rfl), bi_Standing_init F8⟩
  have C_Standing_blanks : C8.Met P w K mg base 1 (He.ga K "Standing") "blanks" (sp_Standing_blanks K ⟨He.ga K "InvalidPointer", He.ga K "InvalidStanding", He.ga K "LotError", He.ga K "NoIndex", He.ga K "NoLine", He.ga K "NoPage", He.ga K "NoStart", He.ga K "OnecopyError", He.ga K "Standing", He.ga K "Web"⟩) [] := ⟨_, _, _, [], C.c_Standing, He.meth_ok (c.1.fact 9 (f := .meth "Standing" "blanks") rfl), fn_Standing_blanks F9 T C , bi_Standing_blanks F9, .nil⟩
  have C_Standingcheck_lines : GX.MetX P w K mg base 3 (He.ga K "Standing") "_check_lines" (sp_Standingcheck_lines K ⟨He.ga K "InvalidPointer", He.ga K "InvalidStanding", He.ga K "LotError", He.ga K "NoIndex", He.ga K "NoLine", He.ga K "NoPage", He.ga K "NoStart", He.ga K "OnecopyError", He.ga K "Standing", He.ga K "Web"⟩) := ⟨_, _, _, C.c_Standing, He.meth_ok (c.1.fact 10 (f := .meth "Standing" "_check_lines") rfl), fn_Standingcheck_lines F10 T C C_NoLine, bi_Standingcheck_lines F10⟩
  have B_Standing_after : GX.MetB P w K mg base 6 (He.ga K "Standing") "after" (GX.starSp 2 (sp_Standing_after K ⟨He.ga K "InvalidPointer", He.ga K "InvalidStanding", He.ga K "LotError", He.ga K "NoIndex", He.ga K "NoLine", He.ga K "NoPage", He.ga K "NoStart", He.ga K "OnecopyError", He.ga K "Standing", He.ga K "Web"⟩)) := ⟨⟨_, C.c_Standing, GX.bm_ok (c.more 20 (e := .bm "Standing" "after") rfl) (He.meth_ok (c.1.fact 11 (f := .meth "Standing" "after") rfl)), fn_Standing_after F11 T C C_Standing_init C_Standingcheck_lines C_check_pages C_lines_used⟩⟩
  have C_is_ascending : C8.Cal P w K mg base 1 "_is_ascending" (sp_is_ascending K ⟨He.ga K "InvalidPointer", He.ga K "InvalidStanding", He.ga K "LotError", He.ga K "NoIndex", He.ga K "NoLine", He.ga K "NoPage", He.ga K "NoStart", He.ga K "OnecopyError", He.ga K "Standing", He.ga K "Web"⟩) [] := ⟨_, _, _, [], fn_is_ascending F12 T C , He.glo_ok X GN (c.1.fact 12 (f := .glo "_is_ascending") rfl), F12.kp, bi_is_ascending F12, .nil⟩
  have C_fault_of : C8.Cal P w K mg base 2 "_fault_of" (sp_fault_of K ⟨He.ga K "InvalidPointer", He.ga K "InvalidStanding", He.ga K "LotError", He.ga K "NoIndex", He.ga K "NoLine", He.ga K "NoPage", He.ga K "NoStart", He.ga K "OnecopyError", He.ga K "Standing", He.ga K "Web"⟩) [] := ⟨_, _, _, [], fn_fault_of F13 T C C_is_ascending, He.glo_ok X GN (c.1.fact 13 (f := .glo "_fault_of") rfl), F13.kp, bi_fault_of F13, .nil⟩
  obtain ⟨mv14, kb14⟩ := kb_judge_log D14
  have K_judge_log : GX.CalN P w K mg base 7 "judge_log" (sp_judge_log K ⟨He.ga K "InvalidPointer", He.ga K "InvalidStanding", He.ga K "LotError", He.ga K "NoIndex", He.ga K "NoLine", He.ga K "NoPage", He.ga K "NoStart", He.ga K "OnecopyError", He.ga K "Standing", He.ga K "Web"⟩) ["copies"] := ⟨⟨_, _, _, _, fn_judge_log F14 T C B_Standing_after C_fault_of, He.glo_ok X GN (c.1.fact 14 (f := .glo "judge_log") rfl), F14.kp, kb14⟩⟩
  obtain ⟨ds14, dv14, db14⟩ := bn_judge_log D14
  have N_judge_log : C8.Cal P w K mg base 7 "judge_log" (sp_judge_log K ⟨He.ga K "InvalidPointer", He.ga K "InvalidStanding", He.ga K "LotError", He.ga K "NoIndex", He.ga K "NoLine", He.ga K "NoPage", He.ga K "NoStart", He.ga K "OnecopyError", He.ga K "Standing", He.ga K "Web"⟩) [.int 1] := ⟨_, _, _, ds14, fn_judge_log F14 T C B_Standing_after C_fault_of, He.glo_ok X GN (c.1.fact 14 (f := .glo "judge_log") rfl), F14.kp, db14, dv14⟩
  have C_law_box : C8.Cal P w K mg base 1 "_law_box" (sp_law_box K ⟨He.ga K "InvalidPointer", He.ga K "InvalidStanding", He.ga K "LotError", He.ga K "NoIndex", He.ga K "NoLine", He.ga K "NoPage", He.ga K "NoStart", He.ga K "OnecopyError", He.ga K "Standing", He.ga K "Web"⟩) [] := ⟨_, _, _, [], fn_law_box F15 T C , He.glo_ok X GN (c.1.fact 15 (f := .glo "_law_box") rfl), F15.kp, bi_law_box F15, .nil⟩
  have C_law_take : C8.Cal P w K mg base 1 "_law_take" (sp_law_take K ⟨He.ga K "InvalidPointer", He.ga K "InvalidStanding", He.ga K "LotError", He.ga K "NoIndex", He.ga K "NoLine", He.ga K "NoPage", He.ga K "NoStart", He.ga K "OnecopyError", He.ga K "Standing", He.ga K "Web"⟩) [] := ⟨_, _, _, [], fn_law_take F16 T C , He.glo_ok X GN (c.1.fact 16 (f := .glo "_law_take") rfl), F16.kp, bi_law_take F16, .nil⟩
  have C_law_pages : C8.Cal P w K mg base 2 "_law_pages" (sp_law_pages K ⟨He.ga K "InvalidPointer", He.ga K "InvalidStanding", He.ga K "LotError", He.ga K "NoIndex", He.ga K "NoLine", He.ga K "NoPage", He.ga K "NoStart", He.ga K "OnecopyError", He.ga K "Standing", He.ga K "Web"⟩) [] := ⟨_, _, _, [], fn_law_pages F17 T C C_law_take, He.glo_ok X GN (c.1.fact 17 (f := .glo "_law_pages") rfl), F17.kp, bi_law_pages F17, .nil⟩
  have C_law_built : C8.Cal P w K mg base 2 "_law_built" (sp_law_built K ⟨He.ga K "InvalidPointer", He.ga K "InvalidStanding", He.ga K "LotError", He.ga K "NoIndex", He.ga K "NoLine", He.ga K "NoPage", He.ga K "NoStart", He.ga K "OnecopyError", He.ga K "Standing", He.ga K "Web"⟩) [] := ⟨_, _, _, [], fn_law_built F18 T C C_law_take, He.glo_ok X GN (c.1.fact 18 (f := .glo "_law_built") rfl), F18.kp, bi_law_built F18, .nil⟩
  have C_law_pairs : C8.Cal P w K mg base 3 "_law_pairs" (sp_law_pairs K ⟨He.ga K "InvalidPointer", He.ga K "InvalidStanding", He.ga K "LotError", He.ga K "NoIndex", He.ga K "NoLine", He.ga K "NoPage", He.ga K "NoStart", He.ga K "OnecopyError", He.ga K "Standing", He.ga K "Web"⟩) [] := ⟨_, _, _, [], fn_law_pairs F19 T C C_law_built C_law_take, He.glo_ok X GN (c.1.fact 19 (f := .glo "_law_pairs") rfl), F19.kp, bi_law_pairs F19, .nil⟩
  have C_law_step : C8.Cal P w K mg base 1 "_law_step" (sp_law_step K ⟨He.ga K "InvalidPointer", He.ga K "InvalidStanding", He.ga K "LotError", He.ga K "NoIndex", He.ga K "NoLine", He.ga K "NoPage", He.ga K "NoStart", He.ga K "OnecopyError", He.ga K "Standing", He.ga K "Web"⟩) [] := ⟨_, _, _, [], fn_law_step F20 T C , He.glo_ok X GN (c.1.fact 20 (f := .glo "_law_step") rfl), F20.kp, bi_law_step F20, .nil⟩
  have C_law_reason : C8.Cal P w K mg base 1 "_law_reason" (sp_law_reason K ⟨He.ga K "InvalidPointer", He.ga K "InvalidStanding", He.ga K "LotError", He.ga K "NoIndex", He.ga K "NoLine", He.ga K "NoPage", He.ga K "NoStart", He.ga K "OnecopyError", He.ga K "Standing", He.ga K "Web"⟩) [] := ⟨_, _, _, [], fn_law_reason F21 T C , He.glo_ok X GN (c.1.fact 21 (f := .glo "_law_reason") rfl), F21.kp, bi_law_reason F21, .nil⟩
  have C_law_judged : C8.Cal P w K mg base 2 "_law_judged" (sp_law_judged K ⟨He.ga K "InvalidPointer", He.ga K "InvalidStanding", He.ga K "LotError", He.ga K "NoIndex", He.ga K "NoLine", He.ga K "NoPage", He.ga K "NoStart", He.ga K "OnecopyError", He.ga K "Standing", He.ga K "Web"⟩) [] := ⟨_, _, _, [], fn_law_judged F22 T C C_law_reason C_law_step, He.glo_ok X GN (c.1.fact 22 (f := .glo "_law_judged") rfl), F22.kp, bi_law_judged F22, .nil⟩
  have C_law_answer : C8.Cal P w K mg base 2 "_law_answer" (sp_law_answer K ⟨He.ga K "InvalidPointer", He.ga K "InvalidStanding", He.ga K "LotError", He.ga K "NoIndex", He.ga K "NoLine", He.ga K "NoPage", He.ga K "NoStart", He.ga K "OnecopyError", He.ga K "Standing", He.ga K "Web"⟩) [] := ⟨_, _, _, [], fn_law_answer F23 T C C_law_take, He.glo_ok X GN (c.1.fact 23 (f := .glo "_law_answer") rfl), F23.kp, bi_law_answer F23, .nil⟩
  have C_law_better : C8.Cal P w K mg base 2 "_law_better" (sp_law_better K ⟨He.ga K "InvalidPointer", He.ga K "InvalidStanding", He.ga K "LotError", He.ga K "NoIndex", He.ga K "NoLine", He.ga K "NoPage", He.ga K "NoStart", He.ga K "OnecopyError", He.ga K "Standing", He.ga K "Web"⟩) [] := ⟨_, _, _, [], fn_law_better F24 T C C_law_step, He.glo_ok X GN (c.1.fact 24 (f := .glo "_law_better") rfl), F24.kp, bi_law_better F24, .nil⟩
  have C_law_rows : C8.Cal P w K mg base 3 "_law_rows" (sp_law_rows K ⟨He.ga K "InvalidPointer", He.ga K "InvalidStanding", He.ga K "LotError", He.ga K "NoIndex", He.ga K "NoLine", He.ga K "NoPage", He.ga K "NoStart", He.ga K "OnecopyError", He.ga K "Standing", He.ga K "Web"⟩) [] := ⟨_, _, _, [], fn_law_rows F25 T C C_law_answer C_law_better C_law_step C_law_take, He.glo_ok X GN (c.1.fact 25 (f := .glo "_law_rows") rfl), F25.kp, bi_law_rows F25, .nil⟩
  have C_law_strange : C8.Cal P w K mg base 2 "_law_strange" (sp_law_strange K ⟨He.ga K "InvalidPointer", He.ga K "InvalidStanding", He.ga K "LotError", He.ga K "NoIndex", He.ga K "NoLine", He.ga K "NoPage", He.ga K "NoStart", He.ga K "OnecopyError", He.ga K "Standing", He.ga K "Web"⟩) [] := ⟨_, _, _, [], fn_law_strange F26 T C C_law_take, He.glo_ok X GN (c.1.fact 26 (f := .glo "_law_strange") rfl), F26.kp, bi_law_strange F26, .nil⟩
  have C_law_spoilt : C8.Cal P w K mg base 3 "_law_spoilt" (sp_law_spoilt K ⟨He.ga K "InvalidPointer", He.ga K "InvalidStanding", He.ga K "LotError", He.ga K "NoIndex", He.ga K "NoLine", He.ga K "NoPage", He.ga K "NoStart", He.ga K "OnecopyError", He.ga K "Standing", He.ga K "Web"⟩) [] := ⟨_, _, _, [], fn_law_spoilt F27 T C C_law_strange C_law_take, He.glo_ok X GN (c.1.fact 27 (f := .glo "_law_spoilt") rfl), F27.kp, bi_law_spoilt F27, .nil⟩
  have C_law_whole : C8.Cal P w K mg base 1 "_law_whole" (sp_law_whole K ⟨He.ga K "InvalidPointer", He.ga K "InvalidStanding", He.ga K "LotError", He.ga K "NoIndex", He.ga K "NoLine", He.ga K "NoPage", He.ga K "NoStart", He.ga K "OnecopyError", He.ga K "Standing", He.ga K "Web"⟩) [] := ⟨_, _, _, [], fn_law_whole F28 T C , He.glo_ok X GN (c.1.fact 28 (f := .glo "_law_whole") rfl), F28.kp, bi_law_whole F28, .nil⟩
  have C_Standing_fresh : GX.CmX P w K mg base 5 (He.ga K "Standing") "fresh" (sp_Standing_fresh K ⟨He.ga K "InvalidPointer", He.ga K "InvalidStanding", He.ga K "LotError", He.ga K "NoIndex", He.ga K "NoLine", He.ga K "NoPage", He.ga K "NoStart", He.ga K "OnecopyError", He.ga K "Standing", He.ga K "Web"⟩) := ⟨⟨_, _, (GX.cm_ok (c.more 19 (e := .cm "Standing" "fresh") rfl)).1, (GX.cm_ok (c.more 19 (e := .cm "Standing" "fresh") rfl)).2, GX.rawX (fn_Standing_fresh F29 T C C_Standing_init) (bi_Standing_fresh F29)⟩⟩
  obtain ⟨mv30, kb30⟩ := kb_least_start D30
  have K_least_start : GF.CalNX P w K mg base 8 "least_start" (sp_least_start K ⟨He.ga K "InvalidPointer", He.ga K "InvalidStanding", He.ga K "LotError", He.ga K "NoIndex", He.ga K "NoLine", He.ga K "NoPage", He.ga K "NoStart", He.ga K "OnecopyError", He.ga K "Standing", He.ga K "Web"⟩) 3 ["copies"] := ⟨⟨_, _, _, _, fn_least_start F30 T C C_NoStart K_judge_log C_Standing_init C_Standing_fresh C_lines_used, He.glo_ok X GN (c.1.fact 29 (f := .glo "least_start") rfl), F30.kp, kb30⟩⟩
  obtain ⟨ds30, dv30, db30⟩ := bn_least_start D30
  have N_least_start : GF.CalDX P w K mg base 8 "least_start" (sp_least_start K ⟨He.ga K "InvalidPointer", He.ga K "InvalidStanding", He.ga K "LotError", He.ga K "NoIndex", He.ga K "NoLine", He.ga K "NoPage", He.ga K "NoStart", He.ga K "OnecopyError", He.ga K "Standing", He.ga K "Web"⟩) [.int 1] := ⟨⟨_, _, _, ds30, fn_least_start F30 T C C_NoStart K_judge_log C_Standing_init C_Standing_fresh C_lines_used, He.glo_ok X GN (c.1.fact 29 (f := .glo "least_start") rfl), F30.kp, db30, dv30⟩⟩
  have C_law_bills : C8.Cal P w K mg base 1 "_law_bills" (sp_law_bills K ⟨He.ga K "InvalidPointer", He.ga K "InvalidStanding", He.ga K "LotError", He.ga K "NoIndex", He.ga K "NoLine", He.ga K "NoPage", He.ga K "NoStart", He.ga K "OnecopyError", He.ga K "Standing", He.ga K "Web"⟩) [] := ⟨_, _, _, [], fn_law_bills F31 T C , He.glo_ok X GN (c.1.fact 30 (f := .glo "_law_bills") rfl), F31.kp, bi_law_bills F31, .nil⟩
  have C_law_paid : C8.Cal P w K mg base 1 "_law_paid" (sp_law_paid K ⟨He.ga K "InvalidPointer", He.ga K "InvalidStanding", He.ga K "LotError", He.ga K "NoIndex", He.ga K "NoLine", He.ga K "NoPage", He.ga K "NoStart", He.ga K "OnecopyError", He.ga K "Standing", He.ga K "Web"⟩) [] := ⟨_, _, _, [], fn_law_paid F32 T C , He.glo_ok X GN (c.1.fact 31 (f := .glo "_law_paid") rfl), F32.kp, bi_law_paid F32, .nil⟩
  have C_law_numbers : C8.Cal P w K mg base 1 "_law_numbers" (sp_law_numbers K ⟨He.ga K "InvalidPointer", He.ga K "InvalidStanding", He.ga K "LotError", He.ga K "NoIndex", He.ga K "NoLine", He.ga K "NoPage", He.ga K "NoStart", He.ga K "OnecopyError", He.ga K "Standing", He.ga K "Web"⟩) [] := ⟨_, _, _, [], fn_law_numbers F33 T C , He.glo_ok X GN (c.1.fact 32 (f := .glo "_law_numbers") rfl), F33.kp, bi_law_numbers F33, .nil⟩
  have C_law_end : C8.Cal P w K mg base 2 "_law_end" (sp_law_end K ⟨He.ga K "InvalidPointer", He.ga K "InvalidStanding", He.ga K "LotError", He.ga K "NoIndex", He.ga K "NoLine", He.ga K "NoPage", He.ga K "NoStart", He.ga K "OnecopyError", He.ga K "Standing", He.ga K "Web"⟩) [] := ⟨_, _, _, [], fn_law_end F34 T C C_Standing_blanks C_law_whole, He.glo_ok X GN (c.1.fact 33 (f := .glo "_law_end") rfl), F34.kp, bi_law_end F34, .nil⟩
  have C_law_least : C8.Cal P w K mg base 8 "_law_least" (sp_law_least K ⟨He.ga K "InvalidPointer", He.ga K "InvalidStanding", He.ga K "LotError", He.ga K "NoIndex", He.ga K "NoLine", He.ga K "NoPage", He.ga K "NoStart", He.ga K "OnecopyError", He.ga K "Standing", He.ga K "Web"⟩) [] := ⟨_, _, _, [], fn_law_least F35 T C K_judge_log C_Standing_init C_Standing_blanks C_Web_arrows C_law_bills C_law_end C_law_judged C_law_numbers C_law_paid C_law_whole, He.glo_ok X GN (c.1.fact 34 (f := .glo "_law_least") rfl), F35.kp, bi_law_least F35, .nil⟩
  have C_law_told : C8.Cal P w K mg base 9 "_law_told" (sp_law_told K ⟨He.ga K "InvalidPointer", He.ga K "InvalidStanding", He.ga K "LotError", He.ga K "NoIndex", He.ga K "NoLine", He.ga K "NoPage", He.ga K "NoStart", He.ga K "OnecopyError", He.ga K "Standing", He.ga K "Web"⟩) [] := ⟨_, _, _, [], fn_law_told F36 T C K_least_start N_least_start, He.glo_ok X GN (c.1.fact 35 (f := .glo "_law_told") rfl), F36.kp, bi_law_told F36, .nil⟩
  have C_law_asked : C8.Cal P w K mg base 10 "_law_asked" (sp_law_asked K ⟨He.ga K "InvalidPointer", He.ga K "InvalidStanding", He.ga K "LotError", He.ga K "NoIndex", He.ga K "NoLine", He.ga K "NoPage", He.ga K "NoStart", He.ga K "OnecopyError", He.ga K "Standing", He.ga K "Web"⟩) [] := ⟨_, _, _, [], fn_law_asked F37 T C C_law_judged C_law_least C_law_told C_law_whole, He.glo_ok X GN (c.1.fact 36 (f := .glo "_law_asked") rfl), F37.kp, bi_law_asked F37, .nil⟩
  exact fn_law F38 T C C_Web_init C_Web_arrows C_law_asked C_law_box C_law_pages C_law_pairs C_law_rows C_law_spoilt C_law_take
end G

open PySem PySem.W PySem.Calls PyProof.Rows in
set_option maxRecDepth 100000 in
set_option maxHeartbeats 0 in
theorem PySem.Challenge.cw_onecopy_k47_whole_least_start_holds : PySem.Challenge.rw_onecopy_k47_whole_least_start.Holds := by
  w_on; o_law
  refine HandSHeadRun.head_any (r := OpenLaw.row PySem.Challenge.rw_onecopy_k47_whole_least_start) (q := view (OpenLaw.row PySem.Challenge.rw_onecopy_k47_whole_least_start).prog [46]) (H := G.hkS) (ob := G.obS) (M := 8000) (loose := G.looseS) (d := HandSHeadRun.topDef (OpenLaw.row PySem.Challenge.rw_onecopy_k47_whole_least_start).prog 46) (kwd := []) G.obS_eq
    (by kernel_rfl) (fun s => by kernel_rfl) G.runS (by kernel_rfl) (by kernel_rfl) (by kernel_rfl) (by rfl) (by first | assumption | decide +kernel) (by decide +kernel) ⟨rfl, rfl, rfl, rfl, rfl, by decide +kernel⟩ ?hw ?hc
  case hw => w_witness2
  case hc =>
    refine L2.walk_ofE (l := PySem.Challenge.rw_onecopy_k47_whole_least_start) (n := 63) (k := 11) (x := "script") (CX := L2.CX0) rfl (by decide) (by kernel_rfl) ⟨rfl, by decide, by decide⟩ ?F (fun _ _ _ _ z => z)
    intro w mg fa h Y GN hmg0
    obtain ⟨K, KX, c⟩ := Y
    have hmg : mg ("law" : PySem.Str) = some (.ref fa) := by
      have e : (HandSHeadRun.topDef (OpenLaw.row PySem.Challenge.rw_onecopy_k47_whole_least_start).prog 46).name = ("law" : PySem.Str) := by kernel_rfl
      rw [← e]
      exact hmg0
    obtain ⟨fd, hb, hF⟩ := G.factsS (P := (PySem.Challenge.rw_onecopy_k47_whole_least_start).prog) (w := w) KX GN hmg c
    exact ⟨K, fd, G.sp_law K _, KX, hb, fun H a ns hl _ hS => ⟨a, ns, rfl, hS, hl, fun _ => rfl⟩, hF⟩