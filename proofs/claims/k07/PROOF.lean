import PyProof.Rows.All
import Wide.All
import OpenK.AllK
import Wide.FinOn
import HandS.ForMost
import HandS.Deep
import HandS.Flow
import HandS.IsInst
import HandS.Conv
import HandS.SortRule
import HandS.SortInts
import HandS.SetFor
import HandS.More
import HandS.Codes
import HandS.Style
import HandS.Walk
import HandS.ForExc
import HandS.ExcInit
import HandS.ExcField
import HandS.ExcIs
import HandS.ExcOwn
import HandS.TryOnly
import HandS.WordsExc
import HandS.HotCalls
import HandS.OwnEq
import HandS.Property
import OpenK.KMeth
import KE.KExcIs
import HandS.MethStar
import HandS.SetFor
import HandS.Set
import HandS.Strs
import HandS.SortInts
import HandS.Comp
import HandS.TryMany
import HandS.Star
import HandS.Conv
import HandS.Rev
import HandS.RevRange
import KE.KStateDown
import HandS.Defaults
import HandS.Head0
import HandS.Head1
import HandS.Head2
import HandS.HeadEnd
import HandS.HeadHook1
import HandS.HeadHook2
import HandS.HeadNt
import KE.KExcSuper
import HandS.Nested
import KE.KSuper
import HandS.IterNext
import KE.KDictWalk
import HandS.Iter
import HandS.DictTup
import HandS.DictComp
import HandS.Comp
import HandS.WideBits
import HandS.ClsMeth
import HandS.MakeKwOnly
import PySem.Challenge.RW_onecopy_k07_whole_slack
set_option Elab.async false
set_option linter.all false
set_option maxRecDepth 100000
set_option maxHeartbeats 4000000

/-! The ground: relations under names of their own, steps of a reading, facts of heaps. -/
namespace G
open PySem PySem.Spec PyProof.Rows L2

/-! ### relations by name -/
def oAdd : R2 := rI0 fun i j => .int (i + j)
def oSub : R2 := rI0 fun i j => .int (i - j)
def oMul : R2 := rI CMul fun i j => .int (i * j)
def oDiv : R2 := rI CDiv fun i j => .int (i / j)
def oMod : R2 := rI (fun _ j => 0 < j) fun i j => .int (i % j)
def oPow : R2 := rI CPow fun i j => .int (i ^ j.toNat)
def oLt : R2 := rI0 fun i j => .bl (decide (i < j))
def oLe : R2 := rI0 fun i j => .bl (decide (i ≤ j))
def oGt : R2 := rI0 fun i j => .bl (decide (j < i))
def oGe : R2 := rI0 fun i j => .bl (decide (j ≤ i))
def oNeg : V → Hp → VK → Prop := rU fun i => .int (-i)
abbrev RL := List V → Hp → VK → Prop
def oAbs : RL := fun xs H Q => ∃ i, xs = [.int i] ∧ Q (.int (if i < 0 then -i else i)) H
def oMax2 : RL := fun xs H Q => ∃ i j, xs = [.int i, .int j] ∧ Q (.int (if j > i then j else i)) H
def oMin2 : RL := fun xs H Q => ∃ i j, xs = [.int i, .int j] ∧ Q (.int (if j < i then j else i)) H
def oInt : RL := fun xs H Q => (∃ i, xs = [.int i] ∧ Q (.int i) H) ∨ ∃ k, xs = [.bl k] ∧ Q (.int (if k then 1 else 0)) H
def rLenQ (K : PySem.W.Frag) : RL := fun xs H Q => ∃ p ys, xs = [.ref p] ∧ (SqL K H p ys ∨ SqT K H p ys) ∧ Q (.int ys.length) H
def oListOf (K : PySem.W.Frag) : RL := fun xs H Q => ∃ p ys, xs = [.ref p] ∧ (SqL K H p ys ∨ SqT K H p ys) ∧ ∀ l, H l = none → Q (.ref l) (upd H l (.lst ys))
def oListD : RL := fun xs H Q => ∃ d kvs, xs = [V.ref d] ∧ Rd H d (.dT kvs) ∧ ∀ p bs, H p = none → IsKeys H kvs bs → Q (.ref p) (upd H p (.lst (bs.map V.ref)))
def oInsert : V → List V → Hp → VK → Prop := fun x vs H Q => ∃ (l : Addr) (xs : List V) (i : Int) (y : V), x = .ref l ∧ vs = [.int i, y] ∧ H l = some (.lst xs) ∧ xs.length < sizeLine ∧ 0 ≤ i ∧ i < 2 ^ 63 ∧
    Q .non (upd H l (.lst (xs.take i.toNat ++ [y] ++ xs.drop i.toNat)))
def tTruK (K : PySem.W.Frag) (ta : TE) : TT := fun σ H Q => ta σ H fun x H' => ∃ k, TruV K x H' k ∧ Q k H'

theorem hu65 {A : Around} {k : Nat} (hr : Room k A) : A.units + 65 < cLine := by have := hr.un; omega
/-- xs[i] op= e -/
theorem pget_list {X : Cx} : PGet X (rIxL X.K) := by
  intro pn st sg Hh xo yo vo uo Qo Io r1 r2 hyp
  obtain ⟨pp, items, ii, zz, rfl, rfl, hsq, hat, hQ⟩ := hyp
  cases r1
  obtain ⟨tk, rfl⟩ := r2
  obtain ⟨raw, rel, isl, _⟩ := Io.list hsq
  obtain ⟨jj, e1, e2, e3, e4, e5⟩ := atI_get hat
  obtain ⟨ww, e6, rw'⟩ := rel.get e2
  have hlen := rel.length
  have h63 := line63
  have done : EP X pn sg Qo ww st := ⟨zz, Hh, Io, rw', hQ⟩
  by_cases hn : 0 ≤ ii
  · have ej : ii.toNat = jj := by
      rw [seqIndex_of hn e5] at e1; exact Option.some.inj e1
    exact wpAny_getItem_list isl.isList hn (by omega) (by rw [ej]; simpa using e6) done
  · have ej : (ii + (raw.toArray.size : Int)).toNat = jj := by
      rw [seqIndex_neg (by omega) e4] at e1; rw [List.size_toArray, ← hlen]; exact Option.some.inj e1
    exact wpAny_getItem_list_neg isl.isList (by omega) (by rw [List.size_toArray] <;> omega) (by omega) (by rw [ej]; simpa using e6) done

/-! ### heaps -/
section
variable {H H' H1 H2 H3 : Hp} {p q s : Addr} {o o' : HO}
theorem keep (h : H q = some o) (hp : H p = none) : upd H p o' q = some o := by rw [upd_ne (ne_of_none h hp)]; exact h
theorem keepNe (h : H q = some o) (hp : q ≠ p) : upd H p o' q = some o := by rw [upd_ne hp]; exact h
theorem same_new (h : H p = none) : Same H (upd H p o) := fun _ _ e => keep e h
theorem same_mut (e : Same H H') (h : H p = none) : Same H (upd H' p o) := fun b u hb => by rw [upd_ne (ne_of_none hb h)]; exact e b u hb
/-- all that was tracked is as it was, s aside -/
def But (s : Addr) (H H' : Hp) : Prop := ∀ b o, b ≠ s → H b = some o → H' b = some o
theorem But.refl : But s H H := fun _ _ _ h => h
theorem Same.but (e : Same H H') : But s H H' := fun b o _ h => e b o h
theorem But.trans (a : But s H H1) (b : But s H1 H2) : But s H H2 := fun c o n h => b c o n (a c o n h)
theorem But.new (e : But s H H') (h : H' p = none) : But s H (upd H' p o) := fun b u n hb => keep (e b u n hb) h
theorem But.mut (e : But s H H') (h : H p = none) : But s H (upd H' p o) := fun b u n hb => by rw [upd_ne (ne_of_none hb h)]; exact e b u n hb
theorem But.self (e : But s H H') : But s H (upd H' s o) := fun b u n hb => by rw [upd_ne n]; exact e b u n hb
theorem But.free (e : But s H H') (h : H s = some o) (hs : H' s = some o') (hp : H' p = none) : H p = none := by
  cases q : H p with
  | none => rfl
  | some u =>
    by_cases hn : p = s
    · rw [hn, hs] at hp; cases hp
    · rw [e p u hn q] at hp; cases hp
theorem SqL.same {K : PySem.W.Frag} {xs : List V} (h : SqL K H p xs) (e : Same H H') : SqL K H' p xs := e.seq h
theorem SqL.but {K : PySem.W.Frag} {xs ys : List V} (e : But s H H') (hs : H s = some (.lst ys)) (hn : p ≠ s) (h : SqL K H p xs) : SqL K H' p xs := by
  rcases h with (h | ⟨o, h⟩) | h
  · exact .inl (.inl (e _ _ hn h))
  · exact .inl (.inr ⟨o, e _ _ hn h⟩)
  · exact .inr h
end

/-! ### steps -/
section
variable {K : PySem.W.Frag} {σ : L2.St} {H : Hp} {Q : VK} {D : Ends} {v x y : V} {i : Nat} {ta tb tc te tv to ti : TE} {t u : TS} {tt tu : TT} {tl tr : TA} {p C dx : Addr}
theorem w_seq (h : t { D with nx := u D } σ H) : tSeq t u D σ H := h
theorem w_next (h : D.nx σ H) : tNext D σ H := h
theorem w_ret (h : te σ H D.rt) : tRet te D σ H := h
theorem w_retN (h : D.rt .non H) : tRetN D σ H := h
theorem w_drop (h : te σ H fun _ H1 => D.nx σ H1) : tDrop te D σ H := h
theorem w_brk (h : D.bk σ H) : tBreak D σ H := h
theorem w_cont (h : D.ct σ H) : tCont D σ H := h
theorem w_asg {g : TG} (h : te σ H fun x H1 => g x σ H1 D.nx) : tAsg te g D σ H := h
theorem w_name {R : L2.St → Hp → Prop} (h : R (σ.set i (some v)) H) : gName i v σ H R := h
theorem w_sub {R : L2.St → Hp → Prop} {ts : TSet} (h : to σ H fun o H1 => ti σ H1 fun j H2 => ts o j v H2 fun H3 => R σ H3) : gSub to ti ts v σ H R := h
theorem w_setL {R : Hp → Prop} {xs : List V} {k : Int} {j : Nat} (h : H p = some (.lst xs)) (hj : ixN xs.length k = some j) (q : R (upd H p (.lst (xs.set j v)))) : rSetL (.ref p) (.int k) v H R := ⟨p, xs, k, j, rfl, rfl, h, hj, q⟩
theorem w_var (h : σ[i]? = some (some v)) (q : Q v H) : tVar i σ H Q := ⟨v, h, q⟩
theorem w_c (q : Q v H) : tC v σ H Q := q
theorem w_op {r : R2} (h : ta σ H fun x H1 => tb σ H1 fun y H2 => r x y H2 Q) : tOp r ta tb σ H Q := h
theorem w_un {r : V → Hp → VK → Prop} (h : ta σ H fun x H1 => r x H1 Q) : tUn r ta σ H Q := h
theorem w_oAdd {a b : Int} (q : Q (.int (a + b)) H) : oAdd (.int a) (.int b) H Q := ⟨a, b, rfl, rfl, q⟩
theorem w_oSub {a b : Int} (q : Q (.int (a - b)) H) : oSub (.int a) (.int b) H Q := ⟨a, b, rfl, rfl, q⟩
theorem w_oMulL {a b : Int} (h0 : -18446744073709551616 < a) (h1 : a < 18446744073709551616) (q : Q (.int (a * b)) H) : oMul (.int a) (.int b) H Q := ⟨a, b, rfl, rfl, .inl ⟨h0, h1⟩, q⟩
theorem w_oMulR {a b : Int} (h0 : -18446744073709551616 < b) (h1 : b < 18446744073709551616) (q : Q (.int (a * b)) H) : oMul (.int a) (.int b) H Q := ⟨a, b, rfl, rfl, .inr ⟨h0, h1⟩, q⟩
theorem w_oDiv {a b : Int} (h0 : 0 < b) (h1 : b < 1073741824) (q : Q (.int (a / b)) H) : oDiv (.int a) (.int b) H Q := ⟨a, b, rfl, rfl, ⟨h0, h1⟩, q⟩
theorem w_oMod {a b : Int} (hc : 0 < b) (q : Q (.int (a % b)) H) : oMod (.int a) (.int b) H Q := ⟨a, b, rfl, rfl, hc, q⟩
theorem w_oPow {a b : Int} (h0 : 0 ≤ b) (h1 : b ≤ 1000000) (h2 : a.natAbs < 18446744073709551616) (q : Q (.int (a ^ b.toNat)) H) : oPow (.int a) (.int b) H Q := ⟨a, b, rfl, rfl, ⟨h0, h1, h2⟩, q⟩
theorem w_oLt {a b : Int} (q : Q (.bl (decide (a < b))) H) : oLt (.int a) (.int b) H Q := ⟨a, b, rfl, rfl, q⟩
theorem w_oLe {a b : Int} (q : Q (.bl (decide (a ≤ b))) H) : oLe (.int a) (.int b) H Q := ⟨a, b, rfl, rfl, q⟩
theorem w_oGt {a b : Int} (q : Q (.bl (decide (b < a))) H) : oGt (.int a) (.int b) H Q := ⟨a, b, rfl, rfl, q⟩
theorem w_oGe {a b : Int} (q : Q (.bl (decide (b ≤ a))) H) : oGe (.int a) (.int b) H Q := ⟨a, b, rfl, rfl, q⟩
theorem w_oNeg {a : Int} (q : Q (.int (-a)) H) : oNeg (.int a) H Q := ⟨a, rfl, q⟩
theorem w_eqI {a b : Int} (q : Q (.bl (decide (a = b))) H) : rEq (.int a) (.int b) H Q := ⟨rfl, by
  have e : (decide (V.int a = V.int b)) = decide (a = b) := by simp
  rw [e]; exact q⟩
theorem w_neI {a b : Int} (q : Q (.bl (!decide (a = b))) H) : rNe (.int a) (.int b) H Q := ⟨rfl, by
  have e : (decide (V.int a = V.int b)) = decide (a = b) := by simp
  rw [e]; exact q⟩
theorem w_eqB {a b : Bool} (q : Q (.bl (decide (a = b))) H) : rEq (.bl a) (.bl b) H Q := ⟨rfl, by
  have e : (decide (V.bl a = V.bl b)) = decide (a = b) := by simp
  rw [e]; exact q⟩
theorem w_chain {r r' : R2} (h : ta σ H fun x H1 => tb σ H1 fun y H2 => r x y H2 fun z H3 => ∃ k, z = .bl k ∧ (if k = true then tc σ H3 fun w' H4 => r' y w' H4 Q else Q (.bl false) H3)) : tChain r r' ta tb tc σ H Q := h
/-- a known answer -/
theorem w_ex {P : Bool → Prop} {b : Bool} (q : P b) : ∃ k, V.bl b = .bl k ∧ P k := ⟨b, rfl, q⟩
theorem w_test {Qb : Bool → Hp → Prop} (h : te σ H fun x H' => ∃ k, x = .bl k ∧ Qb k H') : tTest te σ H Qb := h
theorem w_tB {Qb : Bool → Hp → Prop} (h : te σ H fun x H' => ∃ k, x = .bl k ∧ Qb k H') : tB te σ H Qb := h
theorem w_and {Qb : Bool → Hp → Prop} (h : tt σ H fun c H1 => if c = true then tu σ H1 Qb else Qb false H1) : tAnd tt tu σ H Qb := h
theorem w_or {Qb : Bool → Hp → Prop} (h : tt σ H fun c H1 => if c = true then Qb true H1 else tu σ H1 Qb) : tOr tt tu σ H Qb := h
theorem w_not {Qb : Bool → Hp → Prop} (h : tt σ H fun c H1 => Qb (!c) H1) : tNot tt σ H Qb := h
theorem w_andV (h : ta σ H fun x H1 => ∃ c, x = .bl c ∧ (if c = true then tb σ H1 Q else Q (.bl false) H1)) : tAndV ta tb σ H Q := h
theorem w_orV (h : ta σ H fun x H1 => ∃ c, x = .bl c ∧ (if c = true then Q (.bl true) H1 else tb σ H1 Q)) : tOrV ta tb σ H Q := h
theorem w_notV (h : ta σ H fun x H1 => ∃ c, x = .bl c ∧ Q (.bl (!c)) H1) : tNotV ta σ H Q := h
theorem w_if (h : tt σ H fun b H1 => if b = true then t D σ H1 else u D σ H1) : tIfS tt t u D σ H := h
theorem w_ifE (h : tt σ H fun c H1 => if c = true then ta σ H1 Q else tb σ H1 Q) : tIf tt ta tb σ H Q := h
theorem w_nil {Ql : List V → Hp → Prop} (h : Ql [] H) : tNil σ H Ql := h
theorem w_cons {Ql : List V → Hp → Prop} (h : ta σ H fun x H1 => tr σ H1 fun xs H2 => Ql (x :: xs) H2) : tCons ta tr σ H Ql := h
theorem w_tup (h : tl σ H fun xs H1 => xs.length ≤ sizeLine ∧ ∀ p, H1 p = none → Q (.ref p) (upd H1 p (.tup xs))) : tTup tl σ H Q := h
theorem w_lst (h : tl σ H fun xs H1 => xs.length ≤ sizeLine ∧ ∀ p, H1 p = none → Q (.ref p) (upd H1 p (.lst xs))) : tLst tl σ H Q := h
theorem w_small {n : Nat} {P : Prop} (hn : n ≤ 100) (h : P) : n ≤ sizeLine ∧ P := ⟨Nat.le_trans hn (by decide), h⟩
theorem w_call {sp : Sp} {E : XK} (h : tl σ H fun vs H1 => sp vs H1 Q E) : tCall sp [] E tl σ H Q := by
  show tl σ H fun vs H1 => sp (vs ++ []) H1 Q E
  simp only [List.append_nil]; exact h
theorem w_meth {sp : Sp} {m : Str} {E : XK} (h : ta σ H fun x H1 => ∃ a dx fs, x = .ref a ∧ H1 a = some (.ins C dx fs) ∧ fs.lookup m = none ∧ tl σ H1 fun vs H2 => sp (x :: vs) H2 Q E) : tMeth C m sp [] E ta tl σ H Q := by
  show ta σ H fun x H1 => ∃ a dx fs, x = .ref a ∧ H1 a = some (.ins C dx fs) ∧ fs.lookup m = none ∧ tl σ H1 fun vs H2 => sp (x :: (vs ++ [])) H2 Q E
  simp only [List.append_nil]; exact h
theorem w_make {sp : Sp} {E : XK} (h : tl σ H fun vs H1 => ∀ x dx, H1 x = none → H1 dx = none → dx ≠ x → sp (.ref x :: vs) (upd (upd H1 dx (.own x)) x (.ins C dx [])) (fun v H2 => v = .non ∧ Q (.ref x) H2) E) : tMake C sp [] E tl σ H Q := by
  show tl σ H fun vs H1 => ∀ x dx, H1 x = none → H1 dx = none → dx ≠ x → sp (.ref x :: (vs ++ [])) (upd (upd H1 dx (.own x)) x (.ins C dx [])) (fun v H2 => v = .non ∧ Q (.ref x) H2) E
  simp only [List.append_nil]; exact h
theorem w_cb {r : RL} (h : tl σ H fun vs H1 => r vs H1 Q) : tCB r tl σ H Q := h
theorem w_oInt {a : Int} (q : Q (.int a) H) : oInt [.int a] H Q := .inl ⟨a, rfl, q⟩
theorem w_oAbs {a : Int} (q : Q (.int (if a < 0 then -a else a)) H) : oAbs [.int a] H Q := ⟨a, rfl, q⟩
theorem w_oMax2 {a b : Int} (q : Q (.int (if b > a then b else a)) H) : oMax2 [.int a, .int b] H Q := ⟨a, b, rfl, q⟩
theorem w_oMin2 {a b : Int} (q : Q (.int (if b < a then b else a)) H) : oMin2 [.int a, .int b] H Q := ⟨a, b, rfl, q⟩
theorem w_lenL {xs : List V} (h : SqL K H p xs) (q : Q (.int xs.length) H) : rLenQ K [.ref p] H Q := ⟨p, xs, rfl, .inl h, q⟩
theorem w_listL {xs : List V} (h : SqL K H p xs) (q : ∀ l, H l = none → Q (.ref l) (upd H l (.lst xs))) : oListOf K [.ref p] H Q := ⟨p, xs, rfl, .inl h, q⟩
theorem w_ixL {xs : List V} {k : Int} (h : SqL K H p xs) (ha : atI xs k = some v) (q : Q v H) : rIxL K (.ref p) (.int k) H Q := ⟨p, xs, k, v, rfl, rfl, h, ha, q⟩
theorem w_ixT {xs : List V} {k : Int} (h : H p = some (.tup xs)) (ha : atI xs k = some v) (q : Q v H) : rIxT K (.ref p) (.int k) H Q := ⟨p, xs, k, v, rfl, rfl, .inl (.inl h), ha, q⟩
theorem w_fld {f : Str} (h : ta σ H fun x H1 => ∃ a C dx fs v, x = .ref a ∧ H1 a = some (.ins C dx fs) ∧ Cls K C ∧ NoAttr K C f ∧ fs.lookup f = some v ∧ Q v H1) : tFld K ta f σ H Q := h
theorem w_bm {Tn : String} {r : V → List V → Hp → VK → Prop} (h : to σ H fun x H1 => tyV K Tn x H1 ∧ tl σ H1 fun xs H2 => r x xs H2 Q) : tBM K Tn r to tl σ H Q := h
theorem w_bm0 {Tn : String} {r : V → List V → Hp → VK → Prop} (h : to σ H fun x H1 => tyV K Tn x H1 ∧ r x [] H1 Q) : tBM0 K Tn r to σ H Q := h
theorem w_tyL {P : Prop} {xs : List V} (h : SqL K H p xs) (q : P) : tyV K "list" (.ref p) H ∧ P := ⟨.inl ⟨rfl, xs, h⟩, q⟩
theorem w_append {xs : List V} (h : H p = some (.lst xs)) (hl : xs.length < sizeLine) (q : Q .non (upd H p (.lst (xs ++ [v])))) : rAppend (.ref p) [v] H Q := ⟨p, xs, v, rfl, rfl, h, hl, q⟩
theorem w_cat {b : Addr} {xs ys : List V} (h : H p = some (.lst xs)) (hb : H b = some (.lst ys)) (hl : xs.length + ys.length ≤ sizeLine) (q : ∀ l, H l = none → Q (.ref l) (upd H l (.lst (xs ++ ys)))) : rCat (.ref p) (.ref b) H Q := ⟨p, b, xs, ys, rfl, rfl, h, hb, hl, q⟩
theorem w_sl {r : V → Option Int → Option Int → Hp → VK → Prop} {lo hi : TO} (h : te σ H fun x H1 => lo σ H1 fun l H2 => hi σ H2 fun u H3 => r x l u H3 Q) : tSl r te lo hi σ H Q := h
theorem w_noPart {R : Option Int → Hp → Prop} (h : R none H) : tNoPart σ H R := h
theorem w_part {R : Option Int → Hp → Prop} (h : te σ H fun x H1 => ∃ i, x = .int i ∧ R (some i) H1) : tPart te σ H R := h
theorem w_exI {P : Int → Prop} {a : Int} (q : P a) : ∃ k, V.int a = .int k ∧ P k := ⟨a, rfl, q⟩
theorem w_slL {xs : List V} {lo hi : Option Int} (h : SqL K H p xs) (q : ∀ l, H l = none → Q (.ref l) (upd H l (.lst (cutV xs lo hi)))) : rSlL K (.ref p) lo hi H Q := ⟨p, xs, rfl, h, q⟩
theorem w_gNil {R : L2.St → Hp → Prop} (h : R σ H) : gNil [] σ H R := ⟨rfl, h⟩
theorem w_gCons {R : L2.St → Hp → Prop} {g : TG} {gs : TGs} {vs : List V} (h : g v σ H fun σ' H' => gs vs σ' H' R) : gCons g gs (v :: vs) σ H R := ⟨v, vs, rfl, h⟩
theorem w_gTup {R : L2.St → Hp → Prop} {n : Nat} {gs : TGs} {vs : List V} (h : H p = some (.tup vs)) (hn : vs.length = n) (q : gs vs σ H R) : gTup K n gs (.ref p) σ H R := ⟨p, vs, rfl, .inl (.inl h), hn, q⟩
theorem w_listRg {te : L2.St → Hp → (Int → Int → Hp → Prop) → Prop} (h : te σ H fun a b H1 => RgOk a b ∧ ∀ q, H1 q = none → Q (.ref q) (upd H1 q (.lst (rgV a b)))) : tLstRg te σ H Q := h
theorem w_rg1 {R : Int → Int → Hp → Prop} (h : ta σ H fun x H1 => ∃ n, x = .int n ∧ R 0 n H1) : tRg1 ta σ H R := h
theorem w_augS {tget : V → V → Hp → VK → Prop} {tip : TIp} {ts : TSet} (h : to σ H fun o H1 => ti σ H1 fun i H2 => tget o i H2 fun x H3 => te σ H3 fun y H4 => tip x y H4 fun z H5 => ts o i z H5 fun H6 => D.nx σ H6) : tAugS to ti te tget tip ts D σ H := h
theorem w_ipI {f : Int → Int → Int} {a b : Int} (q : Q (.int (f a b)) H) : ipI f (.int a) (.int b) H Q := ⟨a, b, rfl, rfl, q⟩
theorem w_sum {xs : List Int} (h : SqL K H p (xs.map V.int)) (q : Q (.int xs.sum) H) : rSum K [.ref p] H Q := ⟨p, xs, rfl, h, q⟩
theorem w_iteD {A B : Prop} {c : Prop} [Decidable c] (h1 : c → A) (h2 : ¬ c → B) : if decide c = true then A else B := by
  by_cases h : c
  · rw [decide_eq_true h]; exact h1 h
  · rw [decide_eq_false h, if_neg Bool.false_ne_true]; exact h2 h
theorem w_iteN {A B : Prop} {c : Prop} [Decidable c] (h1 : ¬ c → A) (h2 : c → B) : if (!decide c) = true then A else B := by
  by_cases h : c
  · rw [decide_eq_true h]; exact h2 h
  · rw [decide_eq_false h]; exact h1 h
theorem w_iteT {A B : Prop} (h : A) : if true = true then A else B := h
theorem w_iteF {A B : Prop} (h : B) : if false = true then A else B := by rw [if_neg Bool.false_ne_true]; exact h

theorem w_cut (M : L2.St → Hp → Prop) (h1 : t { D with nx := M } σ H) (h2 : ∀ σ1 H1, M σ1 H1 → u D σ1 H1) : C8.tCut t u D σ H := ⟨M, h1, h2⟩
theorem w_yes {R : Bool → Hp → Prop} (q : R true H) : tYes σ H R := q
theorem w_exA {P : Int → Prop} {n : Int} (q : P n) : ∃ m, [V.int n] = [V.int m] ∧ P m := ⟨n, rfl, q⟩
theorem w_exA2 {P : Int → Int → Prop} {n m : Int} (q : P n m) : ∃ a b, [V.int n, V.int m] = [V.int a, V.int b] ∧ P a b := ⟨n, m, rfl, q⟩
theorem w_exR {P : Addr → Prop} (q : P p) : ∃ m, V.ref p = .ref m ∧ P m := ⟨p, rfl, q⟩
theorem w_exRA {P : Addr → Prop} (q : P p) : ∃ m, [V.ref p] = [.ref m] ∧ P m := ⟨p, rfl, q⟩
theorem w_exRA2 {P : Addr → Addr → Prop} {p2 : Addr} (q : P p p2) : ∃ m m2, [V.ref p, .ref p2] = [.ref m, .ref m2] ∧ P m m2 := ⟨p, p2, rfl, q⟩
theorem w_acc {xs : List V} {P : List V → Prop} (h : H p = some (.lst xs)) (hl : xs.length < sizeLine) (q : P xs) : ∃ acc, H p = some (.lst acc) ∧ acc.length < sizeLine ∧ P acc := ⟨xs, h, hl, q⟩
theorem w_fld2 {P : V → Prop} {f : Str} {fs : List (Str × V)} (h : H p = some (.ins C dx fs)) (hc : Cls K C) (hn : NoAttr K C f) (hl : fs.lookup f = some v) (q : P v) :
    ∃ a C dx fs w, V.ref p = .ref a ∧ H a = some (.ins C dx fs) ∧ Cls K C ∧ NoAttr K C f ∧ fs.lookup f = some w ∧ P w := ⟨p, C, dx, fs, v, rfl, h, hc, hn, hl, q⟩
theorem w_mth {P : Addr → Prop} {m : Str} {fs : List (Str × V)} (h : H p = some (.ins C dx fs)) (hl : fs.lookup m = none) (q : P p) :
    ∃ a dx fs, V.ref p = .ref a ∧ H a = some (.ins C dx fs) ∧ fs.lookup m = none ∧ P p := ⟨p, dx, fs, rfl, h, hl, q⟩
theorem w_sfld {f : Str} (h : tv σ H fun y H1 => to σ H1 fun x H2 => ∃ a C dx fs, x = .ref a ∧ H2 a = some (.ins C dx fs) ∧ Cls K C ∧ NoAttr K C f ∧ fs.length < 1000 ∧ D.nx σ (upd H2 a (.ins C dx (putF f y fs)))) : sFld K to tv f D σ H := h
theorem w_sfld2 {P : Hp → Prop} {f : Str} {fs : List (Str × V)} (h : H p = some (.ins C dx fs)) (hc : Cls K C) (hn : NoAttr K C f) (hl : fs.length < 1000) (q : P (upd H p (.ins C dx (putF f v fs)))) :
    ∃ a C dx fs, V.ref p = .ref a ∧ H a = some (.ins C dx fs) ∧ Cls K C ∧ NoAttr K C f ∧ fs.length < 1000 ∧ P (upd H a (.ins C dx (putF f v fs))) := ⟨p, C, dx, fs, rfl, h, hc, hn, hl, q⟩
theorem w_never (h : False) : tNever D σ H := h
theorem w_augName {ti : TIp} (h : σ[i]? = some (some v)) (q : te σ H fun y H1 => ti v y H1 fun z H2 => D.nx (σ.set i (some z)) H2) : tAug i te ti D σ H := ⟨v, h, q⟩

theorem at0 {a : V} {r : List V} : atI (a :: r) 0 = some a := atI_nat (xs := a :: r) (j := 0) rfl
theorem at1 {a b : V} {r : List V} : atI (a :: b :: r) 1 = some b := atI_nat (xs := a :: b :: r) (j := 1) rfl
theorem at2 {a b c : V} {r : List V} : atI (a :: b :: c :: r) 2 = some c := atI_nat (xs := a :: b :: c :: r) (j := 2) rfl
theorem at3 {a b c d : V} {r : List V} : atI (a :: b :: c :: d :: r) 3 = some d := atI_nat (xs := a :: b :: c :: d :: r) (j := 3) rfl
theorem at4 {a b c d e : V} {r : List V} : atI (a :: b :: c :: d :: e :: r) 4 = some e := atI_nat (xs := a :: b :: c :: d :: e :: r) (j := 4) rfl
theorem ixn {n : Nat} {k : Int} {j : Nat} (e : k = (j : Int)) (h : j < n) : ixN n k = some j := by
  unfold ixN; rw [e, if_pos (by omega), if_pos (by omega)]; simp
theorem ix0 {a : V} {r : List V} : ixN (a :: r).length 0 = some 0 := ixn rfl (by simp)
theorem ix1 {a b : V} {r : List V} : ixN (a :: b :: r).length 1 = some 1 := ixn rfl (by simp)
theorem ix2 {a b c : V} {r : List V} : ixN (a :: b :: c :: r).length 2 = some 2 := ixn rfl (by simp)
theorem atn {xs : List V} {k : Int} {j : Nat} {v : V} (e : k = (j : Int)) (h : xs[j]? = some v) : atI xs k = some v := by rw [e]; exact atI_nat h
theorem ati {xs : List Int} {k : Int} (h0 : 0 ≤ k) (h1 : k < xs.length) : atI (xs.map V.int) k = some (V.int (xs.getD k.toNat 0)) := by
  refine atn (j := k.toNat) (by omega) ?_
  rw [List.getElem?_map, List.getElem?_eq_getElem (by omega), List.getD_eq_getElem?_getD, List.getElem?_eq_getElem (by omega)]; rfl

/-! ### loops -/
/-- a loop whose iterator has come -/
def ForW (J : It) (g : TG) (tb : TS) (D : Ends) (σ : L2.St) (H : Hp) : Prop := tFor (fun _ H R => R J H) g tb D σ H
theorem w_forR1 {g : TG} {tb : TS} (h : tl σ H fun vs H1 => ∃ n : Int, vs = [.int n] ∧ -(2 ^ 62) ≤ n ∧ n < 2 ^ 62 ∧ ForW (Itr 0 n.toNat) g tb D σ H1) : tFor (iRng1 tl) g tb D σ H := h
theorem w_forR2 {g : TG} {tb : TS} (h : tl σ H fun vs H1 => ∃ m n : Int, vs = [.int m, .int n] ∧ (-(2 ^ 62) ≤ m ∧ m < 2 ^ 62 ∧ -(2 ^ 62) ≤ n ∧ n < 2 ^ 62) ∧ ForW (Itr m (n - m).toNat) g tb D σ H1) : tFor (iRng2 tl) g tb D σ H := h
theorem w_forL {g : TG} {tb : TS} (h : te σ H fun x H1 => ∃ a, x = .ref a ∧ (∃ xs, SqL K H1 a xs) ∧ ForW (Itl K a) g tb D σ H1) : tFor (iList K te) g tb D σ H := h
theorem w_forZ {g : TG} {tb : TS} (h : tl σ H fun vs H1 => ∃ a b xs ys, vs = [.ref a, .ref b] ∧ SqL K H1 a xs ∧ SqL K H1 b ys ∧ ForW (Itz K a b) g tb D σ H1) : tFor (iZip K tl) g tb D σ H := h
theorem w_forE {g : TG} {tb : TS} (h : tl σ H fun vs H1 => ∃ a xs, vs = [.ref a] ∧ SqL K H1 a xs ∧ ForW (Ite K a) g tb D σ H1) : tFor (iEnum K tl) g tb D σ H := h
theorem w_bd1 {n : Int} {P : Prop} (h0 : -4611686018427387904 ≤ n) (h1 : n < 4611686018427387904) (q : P) : -(2 ^ 62) ≤ n ∧ n < 2 ^ 62 ∧ P := ⟨by omega, by omega, q⟩
theorem w_bd2 {m n : Int} {P : Prop} (h0 : -4611686018427387904 ≤ m) (h1 : m < 4611686018427387904) (h2 : -4611686018427387904 ≤ n) (h3 : n < 4611686018427387904) (q : P) : (-(2 ^ 62) ≤ m ∧ m < 2 ^ 62 ∧ -(2 ^ 62) ≤ n ∧ n < 2 ^ 62) ∧ P := ⟨⟨by omega, by omega, by omega, by omega⟩, q⟩
theorem w_sqE {xs : List V} {P : Prop} (h : SqL K H p xs) (q : P) : (∃ ys, SqL K H p ys) ∧ P := ⟨⟨xs, h⟩, q⟩
theorem forR {lo : Int} {n : Nat} {g : TG} {tb : TS} (Pv : Nat → L2.St → Hp → Prop) (h0 : Pv 0 σ H)
    (hs : ∀ i σ1 H1, i < n → Pv i σ1 H1 → g (.int (lo + i)) σ1 H1 fun σ2 H2 => tb { D with nx := Pv (i + 1), ct := Pv (i + 1), bk := D.nx } σ2 H2) (hd : ∀ σ1 H1, Pv n σ1 H1 → D.nx σ1 H1) : ForW (Itr lo n) g tb D σ H := for_range Pv h0 hs hd
theorem forL {a : Addr} {xs : List V} {g : TG} {tb : TS} (Pv : Nat → L2.St → Hp → Prop) (h0 : Pv 0 σ H) (hl : ∀ i σ1 H1, i ≤ xs.length → Pv i σ1 H1 → SqL K H1 a xs)
    (hs : ∀ i x σ1 H1, xs[i]? = some x → Pv i σ1 H1 → g x σ1 H1 fun σ2 H2 => tb { D with nx := Pv (i + 1), ct := Pv (i + 1), bk := D.nx } σ2 H2) (hd : ∀ σ1 H1, Pv xs.length σ1 H1 → D.nx σ1 H1) : ForW (Itl K a) g tb D σ H := for_list (xs := xs) Pv h0 hl hs hd
/-- a comprehension whose iterator has come -/
def LcW (J : It) (g : TG) (tt : TT) (te : TE) (vs : List Nat) (σ : L2.St) (H : Hp) (Q : VK) : Prop := tLc (fun _ H R => R J H) g tt te vs σ H Q
theorem w_lcR1 {g : TG} {vs : List Nat} (h : tl σ H fun us H1 => ∃ n : Int, us = [.int n] ∧ -(2 ^ 62) ≤ n ∧ n < 2 ^ 62 ∧ LcW (Itr 0 n.toNat) g tt te vs σ H1 Q) : tLc (iRng1 tl) g tt te vs σ H Q := h
theorem w_lcL {g : TG} {vs : List Nat} {tz : TE} (h : tz σ H fun x H1 => ∃ a, x = .ref a ∧ (∃ xs, SqL K H1 a xs) ∧ LcW (Itl K a) g tt te vs σ H1 Q) : tLc (iList K tz) g tt te vs σ H Q := h
/-- one turn of a comprehension -/
def LcT (tt : TT) (te : TE) (Dl : Addr) (N : Hp → Prop) (σ : L2.St) (H : Hp) : Prop := tt σ H fun b H3 =>
  if b = true then te σ H3 fun y H4 => ∃ acc, H4 Dl = some (.lst acc) ∧ acc.length < sizeLine ∧ N (upd H4 Dl (.lst (acc ++ [y]))) else N H3
theorem lcR {lo : Int} {n : Nat} {g : TG} {vs : List Nat} (Pv : Addr → Nat → Hp → Prop) (h0 : ∀ Dl, H Dl = none → Pv Dl 0 (upd H Dl (.lst [])))
    (hs : ∀ Dl i H1, H Dl = none → i < n → Pv Dl i H1 → g (.int (lo + i)) (wipe σ vs) H1 fun σ2 H2 => wipe σ2 vs = wipe σ vs ∧ LcT tt te Dl (Pv Dl (i + 1)) σ2 H2) (hd : ∀ Dl H1, H Dl = none → Pv Dl n H1 → Q (.ref Dl) H1) : LcW (Itr lo n) g tt te vs σ H Q :=
  fun Dl hD => lc_range (Pv Dl) (h0 Dl hD) (fun i H1 hi p => hs Dl i H1 hD hi p) (fun H1 p => hd Dl H1 hD p)
theorem lcL {a : Addr} {xs : List V} {g : TG} {vs : List Nat} (Pv : Addr → Nat → Hp → Prop) (h0 : ∀ Dl, H Dl = none → Pv Dl 0 (upd H Dl (.lst []))) (hl : ∀ Dl i H1, H Dl = none → i ≤ xs.length → Pv Dl i H1 → SqL K H1 a xs)
    (hs : ∀ Dl i x H1, H Dl = none → xs[i]? = some x → Pv Dl i H1 → g x (wipe σ vs) H1 fun σ2 H2 => wipe σ2 vs = wipe σ vs ∧ LcT tt te Dl (Pv Dl (i + 1)) σ2 H2) (hd : ∀ Dl H1, H Dl = none → Pv Dl xs.length H1 → Q (.ref Dl) H1) : LcW (Itl K a) g tt te vs σ H Q :=
  fun Dl hD => lc_list (K := K) (a := a) (xs := xs) (Pv Dl) (h0 Dl hD) (fun i H1 hi p => hl Dl i H1 hD hi p) (fun i x H1 hx p => hs Dl i x H1 hD hx p) (fun H1 p => hd Dl H1 hD p)
theorem w_lcT {Dl : Addr} {N : Hp → Prop} (h : te σ H fun y H4 => ∃ acc, H4 Dl = some (.lst acc) ∧ acc.length < sizeLine ∧ N (upd H4 Dl (.lst (acc ++ [y])))) : LcT tYes te Dl N σ H := h
theorem w_lcTif {Dl : Addr} {N : Hp → Prop} (h : tt σ H fun b H3 => if b = true then (te σ H3 fun y H4 => ∃ acc, H4 Dl = some (.lst acc) ∧ acc.length < sizeLine ∧ N (upd H4 Dl (.lst (acc ++ [y])))) else N H3) : LcT tt te Dl N σ H := h
theorem w_wipe {σ1 : L2.St} {P : Prop} (h : σ = σ1) (q : P) : σ = σ1 ∧ P := ⟨h, q⟩
end
/-! ### sources of draws: lists of three ints -/
section
variable {H H' H1 H2 H3 : Hp} {p q s : Addr} {o o' : HO} {xs : List V}
def Src (H : Hp) (s : Addr) : Prop := ∃ x y z : Int, H s = some (.lst [.int x, .int y, .int z])
theorem Src.ex (h : Src H s) : ∃ xs, H s = some (.lst xs) := let ⟨_, _, _, e⟩ := h; ⟨_, e⟩
theorem Src.neFree (h : Src H s) (hq : H q = none) : q ≠ s := fun e => by obtain ⟨_, _, _, hs⟩ := h; rw [e, hs] at hq; cases hq
theorem Src.neTup {xs : List V} (h : Src H s) (hq : H q = some (.tup xs)) : q ≠ s := fun e => by obtain ⟨_, _, _, hs⟩ := h; rw [e, hs] at hq; cases hq
theorem Src.neIns {C dx : Addr} {fs : List (Str × V)} (h : Src H s) (hq : H q = some (.ins C dx fs)) : q ≠ s := fun e => by obtain ⟨_, _, _, hs⟩ := h; rw [e, hs] at hq; cases hq
theorem Src.new (h : Src H s) (hp : H p = none) : Src (upd H p o) s := let ⟨x, y, z, e⟩ := h; ⟨x, y, z, keep e hp⟩
theorem Src.mut (h : Src H s) (hp : p ≠ s) : Src (upd H p o) s := let ⟨x, y, z, e⟩ := h; ⟨x, y, z, keepNe e hp.symm⟩
theorem Src.same (e : Same H H') (h : Src H s) : Src H' s := let ⟨x, y, z, q⟩ := h; ⟨x, y, z, e _ _ q⟩
theorem But.at (b : But s H H') (hn : q ≠ s) (h : H q = some o) : H' q = some o := b _ _ hn h
theorem But.back (b : But s H H') (h2 : Src H' s) (hp : H' p = none) : H p = none := by
  cases hq : H p with
  | none => rfl
  | some u => rw [b p u (h2.neFree hp) hq] at hp; cases hp
theorem But.trans' (b : But s H1 H2) (a : But s H H1) : But s H H2 := a.trans b
theorem Same.trans' (b : Same H1 H2) (a : Same H H1) : Same H H2 := a.trans b
theorem Same.at (e : Same H H') (h : H q = some o) : H' q = some o := e _ _ h
theorem ne1 (hl : H p = none) (hq : H q = some o) : q ≠ p := ne_of_none hq hl
theorem free_upd (h : upd H p o q = none) : H q = none := by
  cases e : H q with
  | none => rfl
  | some u =>
    by_cases hn : q = p
    · rw [hn, upd_same] at h; cases h
    · rw [upd_ne hn, e] at h; cases h
/-- a pair of ints at a value; a list of such pairs -/
def PR (H : Hp) (v : V) (r : Int × Int) : Prop := ∃ t, v = .ref t ∧ H t = some (.tup [.int r.1, .int r.2])
def RowsAt (H : Hp) (p : Addr) (rows : List (Int × Int)) : Prop := ∃ vs, H p = some (.lst vs) ∧ Paired (PR H) vs rows
theorem PR.but {v : V} {r : Int × Int} (b : But s H H') (hs : Src H s) (h : PR H v r) : PR H' v r := let ⟨t, e, ht⟩ := h; ⟨t, e, b.at (hs.neTup ht) ht⟩
theorem PR.same {v : V} {r : Int × Int} (b : Same H H') (h : PR H v r) : PR H' v r := let ⟨t, e, ht⟩ := h; ⟨t, e, b _ _ ht⟩
theorem PR.mutL {v : V} {r : Int × Int} {xs : List V} (hp : H p = some (.lst xs)) (h : PR H v r) : PR (upd H p o) v r := let ⟨t, e, ht⟩ := h; ⟨t, e, keepNe ht (ne_of ht hp (by intro z; cases z))⟩
theorem PRs.but {vs : List V} {rows : List (Int × Int)} (b : But s H H') (hs : Src H s) (h : Paired (PR H) vs rows) : Paired (PR H') vs rows := h.mono fun _ _ q => PR.but b hs q
theorem PRs.same {vs : List V} {rows : List (Int × Int)} (b : Same H H') (h : Paired (PR H) vs rows) : Paired (PR H') vs rows := h.mono fun _ _ q => PR.same b q
theorem PRs.mutL {vs xs : List V} {rows : List (Int × Int)} (hp : H p = some (.lst xs)) (h : Paired (PR H) vs rows) : Paired (PR (upd H p o)) vs rows := h.mono fun _ _ q => PR.mutL hp q
theorem PRs.new {vs : List V} {rows : List (Int × Int)} (hp : H p = none) (h : Paired (PR H) vs rows) : Paired (PR (upd H p o)) vs rows := h.mono fun _ _ q => PR.same (same_new hp) q
theorem RowsAt.but {rows : List (Int × Int)} (b : But s H H') (hs : Src H s) (hn : p ≠ s) (h : RowsAt H p rows) : RowsAt H' p rows := let ⟨vs, e, k⟩ := h; ⟨vs, b.at hn e, PRs.but b hs k⟩
theorem RowsAt.same {rows : List (Int × Int)} (b : Same H H') (h : RowsAt H p rows) : RowsAt H' p rows := let ⟨vs, e, k⟩ := h; ⟨vs, b _ _ e, PRs.same b k⟩
theorem RowsAt.neFree {rows : List (Int × Int)} (h : RowsAt H q rows) (hp : H p = none) : q ≠ p := let ⟨_, e, _⟩ := h; ne_of_none e hp
theorem Paired.at {α β : Type} {F : α → β → Prop} : ∀ {l₁ : List α} {l₂ : List β}, Paired F l₁ l₂ → ∀ {i : Nat} {b : β}, l₂[i]? = some b → ∃ a, l₁[i]? = some a ∧ F a b
  | _, _, .nil, i, b, h => by simp at h
  | _, _, .cons f r, 0, b, h => by
    have e := Option.some.inj h
    subst e; exact ⟨_, rfl, f⟩
  | _, _, .cons f r, i + 1, b, h => by
    obtain ⟨a, h1, h2⟩ := Paired.at r (i := i) (b := b) (by simpa using h)
    exact ⟨a, by simpa using h1, h2⟩
theorem Paired.at' {α β : Type} {F : α → β → Prop} : ∀ {l₁ : List α} {l₂ : List β}, Paired F l₁ l₂ → ∀ {i : Nat} {a : α}, l₁[i]? = some a → ∃ b, l₂[i]? = some b ∧ F a b
  | _, _, .nil, i, b, h => by simp at h
  | _, _, .cons f r, 0, b, h => by
    have e := Option.some.inj h
    subst e; exact ⟨_, rfl, f⟩
  | _, _, .cons f r, i + 1, b, h => by
    obtain ⟨a, h1, h2⟩ := Paired.at' r (i := i) (a := b) (by simpa using h)
    exact ⟨a, by simpa using h1, h2⟩
end
end G

namespace G
open PySem L2
structure CA where
  InvalidPointer : Addr
  InvalidStanding : Addr
  LotError : Addr
  NoPage : Addr
  NoRoom : Addr
  NotShort : Addr
  OnecopyError : Addr
  Owners : Addr
  ShortLot : Addr
  Standing : Addr
  Web : Addr
end G

/-! ### the tactic: walk_at "go" -/
local macro_rules | `(tactic| walk_at "hp") => `(tactic| first
  | assumption | exact L2.upd_same
  | exact G.keep (by walk_at "hp") (by assumption)
  | exact G.keepNe (by walk_at "hp") (by walk_at "ne")
  | exact G.But.at (by assumption) (by walk_at "ne") (by walk_at "hp")
  | exact G.Same.at (by assumption) (by walk_at "hp"))
local macro_rules | `(tactic| walk_at "ne") => `(tactic| first
  | assumption | exact Ne.symm (by assumption)
  | exact G.Src.neFree (by assumption) (by assumption) | exact (G.Src.neFree (by assumption) (by assumption)).symm
  | exact G.ne1 (by assumption) (by walk_at "hp") | exact (G.ne1 (by assumption) (by walk_at "hp")).symm)
local macro_rules | `(tactic| walk_at "src") => `(tactic| first
  | assumption | exact G.Src.new (by walk_at "src") (by assumption) | exact G.Src.mut (by walk_at "src") (by walk_at "ne") | exact G.Src.same (by assumption) (by walk_at "src"))
local macro_rules | `(tactic| walk_at "but") => `(tactic| first
  | assumption | exact G.But.refl
  | exact G.But.mut (by walk_at "but") (by assumption) | exact G.But.new (by walk_at "but") (by assumption) | exact G.But.self (by walk_at "but")
  | exact G.But.trans' (by assumption) (by walk_at "but") | exact G.But.trans' (G.Same.but (by assumption)) (by walk_at "but"))
local macro_rules | `(tactic| walk_at "same") => `(tactic| first
  | assumption | exact L2.Same.refl _
  | exact G.same_mut (by walk_at "same") (by assumption) | exact G.Same.trans' (G.same_new (by assumption)) (by walk_at "same") | exact G.Same.trans' (by assumption) (by walk_at "same"))
local macro_rules | `(tactic| walk_at "sq") => `(tactic| first
  | assumption | exact G.SqL.same (by assumption) (by walk_at "same") | exact L2.SqL.of (by walk_at "hp"))
local macro_rules | `(tactic| walk_at "at") => `(tactic| first
  | assumption | exact L2.atI_nat (by assumption) | exact G.at0 | exact G.at1 | exact G.at2 | exact G.at3 | exact G.at4)
local macro_rules | `(tactic| walk_at "ix") => `(tactic| first
  | assumption | exact G.ix0 | exact G.ix1 | exact G.ix2)
local macro_rules | `(tactic| walk_at "ar") => `(tactic| first | assumption | omega | decide)
local macro_rules | `(tactic| walk_at "one") => `(tactic| (with_reducible first
  | refine' G.w_seq ?_ | refine' G.w_asg ?_ | (refine' G.w_var ?g1 ?_; (case g1 => with_unfolding_all rfl)) | refine' G.w_c ?_ | refine' G.w_name ?_ | refine' G.w_op ?_
  | refine' G.w_oAdd ?_ | refine' G.w_oSub ?_ | (refine' G.w_oMulR ?g1 ?g2 ?_; (case g1 => walk_at "ar"); (case g2 => walk_at "ar")) | (refine' G.w_oMulL ?g1 ?g2 ?_; (case g1 => walk_at "ar"); (case g2 => walk_at "ar")) | (refine' G.w_oDiv ?g1 ?g2 ?_; (case g1 => walk_at "ar"); (case g2 => walk_at "ar")) | (refine' G.w_oMod ?g1 ?_; (case g1 => walk_at "ar")) | (refine' G.w_oPow ?g1 ?g2 ?g3 ?_; (case g1 => walk_at "ar"); (case g2 => walk_at "ar"); (case g3 => with_unfolding_all decide))
  | refine' G.w_oLt ?_ | refine' G.w_oLe ?_ | refine' G.w_oGt ?_ | refine' G.w_oGe ?_ | refine' G.w_un ?_ | refine' G.w_oNeg ?_ | refine' G.w_brk ?_ | refine' G.w_cont ?_ | refine' G.w_eqI ?_ | refine' G.w_neI ?_ | refine' G.w_eqB ?_
  | refine' G.w_cons ?_ | refine' G.w_nil ?_ | refine' G.w_ex ?_ | refine' G.w_exI ?_
  | refine' G.w_ret ?_ | refine' G.w_drop ?_ | refine' G.w_next ?_ | refine' G.w_retN ?_ | refine' G.w_if ?_ | refine' G.w_test ?_ | refine' G.w_tB ?_ | refine' G.w_ifE ?_
  | refine' G.w_iteT ?_ | refine' G.w_iteF ?_
  | refine' G.w_cb ?_ | refine' G.w_oInt ?_ | refine' G.w_oAbs ?_ | refine' G.w_oMax2 ?_ | refine' G.w_oMin2 ?_ | refine' G.w_call ?_ | refine' G.w_meth ?_ | refine' G.w_make ?_
  | refine' G.w_tup ?_ | refine' G.w_lst ?_ | (refine' G.w_small ?g1 ?_; (case g1 => with_unfolding_all exact Nat.le_of_ble_eq_true rfl))
  | (refine' G.w_ixL ?g1 ?g2 ?_; (case g1 => walk_at "sq"); (case g2 => with_unfolding_all walk_at "at"))
  | (refine' G.w_ixT ?g1 ?g2 ?_; (case g1 => walk_at "hp"); (case g2 => with_unfolding_all walk_at "at"))
  | (refine' G.w_lenL ?g1 ?_; (case g1 => walk_at "sq")) | (refine' G.w_listL ?g1 ?_; (case g1 => walk_at "sq")) | (refine' G.w_sum ?g1 ?_; (case g1 => walk_at "sq"))
  | refine' G.w_bm ?_ | refine' G.w_bm0 ?_ | (refine' G.w_tyL ?g1 ?_; (case g1 => walk_at "sq"))
  | (refine' G.w_append ?g1 ?g2 ?_; (case g1 => walk_at "hp"); (case g2 => walk_at "sz"))
  | refine' G.w_sub ?_ | (refine' G.w_setL ?g1 ?g2 ?_; (case g1 => walk_at "hp"); (case g2 => with_unfolding_all walk_at "ix"))
  | (refine' G.w_cat ?g1 ?g2 ?g3 ?_; (case g1 => walk_at "hp"); (case g2 => walk_at "hp"); (case g3 => walk_at "sz"))
  | refine' G.w_sl ?_ | refine' G.w_noPart ?_ | refine' G.w_part ?_ | (refine' G.w_slL ?g1 ?_; (case g1 => walk_at "sq"))
  | refine' G.w_gCons ?_ | refine' G.w_gNil ?_ | (refine' G.w_gTup ?g1 ?g2 ?_; (case g1 => walk_at "hp"); (case g2 => with_unfolding_all rfl))
  | refine' G.w_chain ?_ | refine' G.w_and ?_ | refine' G.w_or ?_ | refine' G.w_not ?_ | refine' G.w_andV ?_ | refine' G.w_orV ?_ | refine' G.w_notV ?_
  | refine' G.w_listRg ?_ | refine' G.w_rg1 ?_ | refine' G.w_augS ?_ | refine' G.w_ipI ?_
  | refine' G.w_fld ?_ | refine' G.w_sfld ?_ | refine' G.w_yes ?_ | refine' G.w_exA ?_ | refine' G.w_exA2 ?_ | refine' G.w_exR ?_ | refine' G.w_exRA ?_
  | (refine' G.w_acc ?g1 ?g2 ?_; (case g1 => walk_at "hp"); (case g2 => walk_at "sz"))
  | refine' G.w_forR1 ?_ | refine' G.w_forR2 ?_ | refine' G.w_forL ?_ | refine' G.w_forZ ?_ | refine' G.w_forE ?_ | refine' G.w_lcR1 ?_ | refine' G.w_lcL ?_
  | (refine' G.w_bd1 ?g1 ?g2 ?_; (case g1 => walk_at "ar"); (case g2 => walk_at "ar"))
  | (refine' G.w_bd2 ?g1 ?g2 ?g3 ?g4 ?_; (case g1 => walk_at "ar"); (case g2 => walk_at "ar"); (case g3 => walk_at "ar"); (case g4 => walk_at "ar"))
  | (refine' G.w_sqE ?g1 ?_; (case g1 => walk_at "sq"))
  | (refine' G.w_wipe ?g1 ?_; (case g1 => with_unfolding_all rfl)) | refine' G.w_lcT ?_ | refine' G.w_lcTif ?_
  | (refine' G.w_augName ?g1 ?_; (case g1 => with_unfolding_all rfl))
  | walk_at "call"))
local macro_rules | `(tactic| walk_at "sz") => `(tactic| first | assumption | exact L2.small1000 (by omega) | omega | exact L2.small1000 (by simp only [List.length_map, List.length_append, List.length_cons, List.length_nil, List.length_range, List.length_take, List.length_drop, List.length_set]; omega) | exact Nat.le_of_lt (L2.small1000 (by simp only [List.length_map, List.length_append, List.length_cons, List.length_nil, List.length_range, List.length_take, List.length_drop, List.length_set]; omega)))
local macro_rules | `(tactic| walk_at "go") => `(tactic| repeat walk_at "one")

/-! ### calls of methods and of makers that may raise, within a try: what is wanted of the error may speak of the slots -/
namespace GX
open PySem PySem.Spec PyProof.Rows L2
section
variable {X : Cx} {CX : CXT} {k : Nat} {f C : Addr} {fd : FuncData} {ps : List Str} {sp : Sp} {E : L2.St → XK} {x m : Str} {p pos apos : Pos} {e o : Expr} {es : List Expr} {ta : TE} {t : TA}
def tMethS (C : Addr) (m : Str) (sp : Sp) (E : L2.St → XK) (ta : TE) (t : TA) : TE := fun σ H Q => ta σ H fun x H1 => ∃ a dx fs, x = .ref a ∧ H1 a = some (.ins C dx fs) ∧ fs.lookup m = none ∧
  t σ H1 fun vs H2 => sp (x :: vs) H2 Q (E σ)
def tMakeS (C : Addr) (sp : Sp) (E : L2.St → XK) (t : TA) : TE := fun σ H Q => t σ H fun vs H1 => ∀ x dx, H1 x = none → H1 dx = none → dx ≠ x →
  sp (.ref x :: vs) (upd (upd H1 dx (.own x)) x (.ins C dx [])) (fun v H2 => v = .non ∧ Q (.ref x) H2) (E σ)
theorem pe_methS {pl : Sem Bool} (he : PE X o ta) (c : Cls X.K C) (hm : Meth X.K C m f) (F : FnOk X.prog X.w X.K X.mg X.base CX k f fd ps sp) (hr : Room k X.A) (hb : Binds X.K fd ps []) (hx : ∀ σ, PassesAt CX X σ (E σ)) (ha : PA X (e :: es) t)
    (hst : starEach (e :: es) X.env = (false, eval e X.env) :: starEach es X.env := by rfl) (hpl : (backTo pos (starEach es X.env)).any (·.1) = false := by rfl)
    (ht : eval (.Call (.Attribute o m apos) (e :: es) [] pos) X.env = (do
      let ov ← eval o X.env
      standAt apos.atName
      let (f, first) ← holding [ov] (getMethod ov m pl)
      callWith pos f first (backTo pos (starEach (e :: es) X.env)) (backToKw pos (keywordEach [] X.env))) := by rfl) :
    PE X (.Call (.Attribute o m apos) (e :: es) [] pos) (tMethS C m sp E ta t) := by
  refine ⟨fun pins s σ H Q I h => ?_⟩
  refine PySem.W.methodCall_KW (pl := pl) (thn (he.run pins s σ H _ I h) fun u s1 ⟨x, H1, I1, rx, a, dx, fs, ex, ea, l, q⟩ => ?_) ht
  subst ex
  obtain rfl : u = Value.ref a := rx
  refine getmeth_ok I1 ea c hm l ?_
  refine PySem.W.callWith_K (first := [.ref a]) (h₀ := X.base) I.ok.mod.kin hm.kp (thn (ha.run pos pins s1 σ H1 _ I1 q) fun us s2 ⟨vs, H2, I2, r, q2⟩ => ⟨I2.kIn, ?_⟩) hst hpl
  exact run_fnS (us := .ref a :: us) (vs := .ref a :: vs) F hr hb (hx σ) I2 (.cons rfl r) q2
theorem run_makeS {pins : List (Addr × Obj)} {σ : L2.St} {H : Hp} {s : Shared} {Q : VK} {us : List Value} {vs : List V} (M : Mk X.K C f) (F : FnOk X.prog X.w X.K X.mg X.base CX k f fd ps sp) (hr : Room (k + 1) X.A) (hb : Binds X.K fd ps [])
    (hx : PassesAt CX X σ (E σ)) (I : Inv X pins σ H s) (r : Vals vs us)
    (h : ∀ x dx, H x = none → H dx = none → dx ≠ x → sp (.ref x :: vs) (upd (upd H dx (.own x)) x (.ins C dx [])) (fun v H2 => v = .non ∧ Q (.ref x) H2) (E σ)) :
    wpAny (model X.prog X.w) X.A (call (.ref C) us) (EP X pins σ Q) X.xe s := by
  have hq := h (s.heap.objs.size + 1) s.heap.objs.size (I.hok.fresh (Nat.le_succ _)) (I.hok.fresh (Nat.le_refl _)) (Nat.ne_of_lt (Nat.lt_succ_self _))
  have I2 := Inv.made (C := C) I
  have r2 : Vals (V.ref (s.heap.objs.size + 1) :: vs) (Value.ref (s.heap.objs.size + 1) :: us) := .cons rfl r
  have hl : (Value.ref (s.heap.objs.size + 1) :: us ++ []).length = ps.length := by
    have e := r2.length
    rw [F.len _ _ _ _ hq] at e
    rw [List.append_nil]
    exact e.symm
  have b := hb _ (Value.ref (s.heap.objs.size + 1) :: us) I2.kIn hl
  rw [List.append_nil] at b
  refine wpAny_call (make_map (f := f) I.kIn M.makes M.init (beq_iff_eq.mp M.fn) (codeAny_mono (F.run _ X.stack _ _ ⟨Value.ref (s.heap.objs.size + 1) :: us, []⟩ (Value.ref (s.heap.objs.size + 1) :: us) _ _ (E σ) (hr.make C us [])
    (I2.env0.make C us []) b r2 hq) fun r s' hq' => ?_))
  cases r with
  | error e => exact hx pins _ _ e s' I2 hq'
  | ok fl =>
    cases fl with
    | ret u =>
      obtain ⟨v, H', I3, rv, ev, q3⟩ := I2.after hq'
      subst ev
      exact ⟨rv, ⟨V.ref (s.heap.objs.size + 1), H', I3, rfl, q3⟩⟩
    | next => exact False.elim hq'
    | brk => exact False.elim hq'
    | cont => exact False.elim hq'
theorem pe_makeS (M : Mk X.K C f) (F : FnOk X.prog X.w X.K X.mg X.base CX k f fd ps sp) (hr : Room (k + 1) X.A) (hg : Gl X x) (hm : X.mg x = some (.ref C)) (hb : Binds X.K fd ps []) (hx : ∀ σ, PassesAt CX X σ (E σ))
    (ha : PA X (e :: es) t) (hdb : (x == ("__debug__" : Str)) = false := by decide) (he : starEach (e :: es) X.env = (false, eval e X.env) :: starEach es X.env := by rfl) (hpl : (backTo pos (starEach es X.env)).any (·.1) = false := by rfl) :
    PE X (.Call (.Name x p) (e :: es) [] pos) (tMakeS C sp E t) := by
  refine ⟨fun pins s σ H Q I h => ?_⟩
  refine wpAny_Call_Name_kw (ld_glob I hg hm ?_ hdb)
  refine PySem.W.callWith_K (h₀ := X.base) I.ok.mod.kin M.kp (thn (ha.run pos pins s σ H _ I h) fun us s1 ⟨vs, H1, I1, r, q⟩ => ⟨I1.kIn, ?_⟩) he hpl
  exact run_makeS M F hr hb (hx σ) I1 r q
end
end GX
/-! ### isinstance of a caught error that has a dict of its own -/
namespace GX
open PySem PySem.Spec PyProof.Rows L2
def rIsX (K : PySem.W.Frag) (a : Addr) (cls : Value) (d : Option Addr) : List V → Hp → VK → Prop := fun xs H Q => ∃ (c : V) (u : Value) (b : Bool) (D dd : Addr) (fs : List (Str × V)),
  xs = [.ref a, c] ∧ ClsV c u ∧ cls = .ref D ∧ d = some dd ∧ ExcC K D ∧ H dd = some (.xd fs) ∧ PySem.W.kitOne K (.ref D) u = some b ∧ Q (.bl b) H
def rIsXT (K : PySem.W.Frag) (a : Addr) (cls : Value) (d : Option Addr) : List V → Hp → VK → Prop := fun xs H Q => ∃ (tp : Addr) (cs : List V) (us : List Value) (b : Bool) (D dd : Addr) (fs : List (Str × V)),
  xs = [.ref a, .ref tp] ∧ H tp = some (.tup cs) ∧ Paired ClsV cs us ∧ cls = .ref D ∧ d = some dd ∧ ExcC K D ∧ H dd = some (.xd fs) ∧ PySem.W.kitAny K (.ref D) us = some b ∧ Q (.bl b) H
section
variable {X : Cx} {a : Addr} {oe : Obj} {cls : Value} {d : Option Addr} {pn : List (Addr × Obj)}
theorem kit_here {K : PySem.W.Frag} {D : Addr} {x : Addr} {o : Obj} {od : Option Obj} (C : ExcC K D) : PySem.W.KitX K (.ref x) (.ref D) (fun h => PySem.W.InstAt h x o D od) := by
  have hc : (PySem.W.clsIn K D).isSome = true := by
    obtain ⟨cd, e, _⟩ := PySem.W.any_some C.hd
    rw [e]; rfl
  exact PySem.W.kitx_exc hc C.hg C.hk C.hs C.ha C.hn C.ht C.hm
theorem inst_here {pins : List (Addr × Obj)} {σ : L2.St} {H : Hp} {s : Shared} {D dd : Addr} {fs : List (Str × V)} (I : Inv (X.suite a ((a, oe) :: pn)) pins σ H s) (hz : Zc (.ref D) (some dd) oe) (hf : ∃ vs, oe.data = .fields vs) (hd : H dd = some (.xd fs)) :
    ∃ od, PySem.W.InstAt s.heap a oe D (some od) := by
  obtain ⟨hget, _⟩ := I.pin (a, oe) (List.mem_append_left _ List.mem_cons_self)
  obtain ⟨vs, hv⟩ := hf
  have ho : ObjOk X.prog X.w H s.heap dd (.xd fs) := I.hok dd _ hd
  obtain ⟨mA, hns, _⟩ := ho
  obtain ⟨od, e, _⟩ := lookIn_ns hns
  exact ⟨od, hget, hz.1, by unfold PySem.W.notCls; rw [hv] <;> rfl, by rw [hz.2]; exact e⟩
theorem call_isX (hz : Zc cls d oe) (hf : ∃ vs, oe.data = .fields vs) : CallR (X.suite a ((a, oe) :: pn)) (.builtin "isinstance") (rIsX X.K a cls d) := by
  intro pins s σ H xs us Q I r h
  obtain ⟨c, u, b, D, dd, fs, rfl, hc, rfl, rfl, C, hd, e, q⟩ := h
  obtain ⟨u1, u2, rfl, r1, r2⟩ := vals2 r
  cases (show u1 = Value.ref a from r1)
  cases hc.eq r2
  obtain ⟨od, J⟩ := inst_here I hz hf hd
  exact PySem.W.kia_one (kit_here C) I.kIn J e (fun z => nomatch z) fun tk => ⟨.bl b, H, I.tok tk, rfl, q⟩
theorem call_isXT (hz : Zc cls d oe) (hf : ∃ vs, oe.data = .fields vs) : CallR (X.suite a ((a, oe) :: pn)) (.builtin "isinstance") (rIsXT X.K a cls d) := by
  intro pins s σ H xs us Q I r h
  obtain ⟨tp, cs, ws, b, D, dd, fs, rfl, hT, hc, rfl, rfl, C, hd, e, q⟩ := h
  obtain ⟨u1, u2, rfl, r1, r2⟩ := vals2 r
  cases (show u1 = Value.ref a from r1)
  cases (show u2 = Value.ref tp from r2)
  obtain ⟨od, J⟩ := inst_here I hz hf hd
  have ho : ObjOk X.prog X.w H s.heap tp (.tup cs) := I.hok tp _ hT
  obtain ⟨_, its, rv, o, h1, h2, n, h3⟩ := ho
  cases ClsV.all hc rv
  obtain ⟨oc, od', dt, sl⟩ := o
  simp only at h2 h3
  cases h2
  cases h3
  exact PySem.W.kia_tup (kit_here C) I.kIn J h1 e (fun z => nomatch z) fun tk => ⟨.bl b, H, I.tok tk, rfl, q⟩
end
end GX

/-! ### calls, methods, makers and errors by one name each (defs that may raise) -/
namespace GX
open PySem PySem.Spec PyProof.Rows L2
structure CalX (P : Program) (w : World) (K : PySem.W.Frag) (mg : Str → Option Value) (base : Heap) (k : Nat) (x : Str) (sp : Sp) : Prop where
  ex : ∃ (f : Addr) (fd : FuncData) (ps : List Str), FnOk P w K mg base (L2.CX P w) k f fd ps sp ∧ mg x = some (.ref f) ∧ PySem.W.keepIn K (.ref f) = true ∧ L2.Binds K fd ps []
structure MetX (P : Program) (w : World) (K : PySem.W.Frag) (mg : Str → Option Value) (base : Heap) (k : Nat) (C : Addr) (m : Str) (sp : Sp) : Prop where
  ex : ∃ (f : Addr) (fd : FuncData) (ps : List Str), Cls K C ∧ Meth K C m f ∧ FnOk P w K mg base (L2.CX P w) k f fd ps sp ∧ L2.Binds K fd ps []
structure MakX (P : Program) (w : World) (K : PySem.W.Frag) (mg : Str → Option Value) (base : Heap) (k : Nat) (x : Str) (C : Addr) (sp : Sp) : Prop where
  ex : ∃ (f : Addr) (fd : FuncData) (ps : List Str), Mk K C f ∧ FnOk P w K mg base (L2.CX P w) k f fd ps sp ∧ mg x = some (.ref C) ∧ L2.Binds K fd ps []
structure ErrX (P : Program) (w : World) (K : PySem.W.Frag) (mg : Str → Option Value) (base : Heap) (k : Nat) (x : Str) (C : Addr) (sp : Sp) : Prop where
  oex : OexC K C
  ex : ∃ (f : Addr) (fd : FuncData) (ps : List Str), PySem.W.findIn K (.ref C) "__init__" = some (some (.ref f)) ∧ PySem.W.typeIn K (.ref f) = some (.type "function") ∧ FnOk P w K mg base CX0 k f fd ps sp ∧ mg x = some (.ref C) ∧ L2.Binds K fd ps []
/-- raise C(e, ..) -/
def tRaiseO (C : Addr) (sp : Sp) (E : XK) (ta : TA) : TS := fun _ σ H => tMkO C sp [] ta σ H fun cls d H' => E cls d H'
section
variable {X : Cx} {k j : Nat} {C : Addr} {x m : Str} {sp : Sp} {p pos apos pos2 : Pos} {e o : Expr} {es : List Expr} {ta : TE} {t : TA} {E : XK}
theorem pe_cX (c : CalX X.prog X.w X.K X.mg X.base k x sp) (hr : Room j X.A) (hk : k ≤ j) (hg : Gl X x) (hx : Passes (L2.CX X.prog X.w) X E) (ha : PA X (e :: es) t) (hdb : (x == ("__debug__" : Str)) = false := by decide)
    (he : starEach (e :: es) X.env = (false, eval e X.env) :: starEach es X.env := by rfl) (hpl : (backTo pos (starEach es X.env)).any (·.1) = false := by rfl) : PE X (.Call (.Name x p) (e :: es) [] pos) (tCall sp [] E t) :=
  let ⟨_, _, _, F, hm, kp, b⟩ := c.ex
  pe_call F (hr.mono hk) hg hm kp b .nil hx ha hdb he hpl
theorem pe_mkX (c : MakX X.prog X.w X.K X.mg X.base k x C sp) (hr : Room j X.A) (hk : k + 1 ≤ j) (hg : Gl X x) (hx : Passes (L2.CX X.prog X.w) X E) (ha : PA X (e :: es) t) (hdb : (x == ("__debug__" : Str)) = false := by decide)
    (he : starEach (e :: es) X.env = (false, eval e X.env) :: starEach es X.env := by rfl) (hpl : (backTo pos (starEach es X.env)).any (·.1) = false := by rfl) : PE X (.Call (.Name x p) (e :: es) [] pos) (tMake C sp [] E t) :=
  let ⟨_, _, _, M, F, hm, b⟩ := c.ex
  pe_make M F (hr.mono hk) hg hm b .nil hx ha hdb he hpl
theorem pe_mtX {pl : Sem Bool} (c : MetX X.prog X.w X.K X.mg X.base k C m sp) (hr : Room j X.A) (hk : k ≤ j) (hx : Passes (L2.CX X.prog X.w) X E) (he : PE X o ta) (ha : PA X (e :: es) t)
    (hst : starEach (e :: es) X.env = (false, eval e X.env) :: starEach es X.env := by rfl) (hpl : (backTo pos (starEach es X.env)).any (·.1) = false := by rfl)
    (ht : eval (.Call (.Attribute o m apos) (e :: es) [] pos) X.env = (do
      let ov ← eval o X.env; standAt apos.atName; let (f, first) ← holding [ov] (getMethod ov m pl)
      callWith pos f first (backTo pos (starEach (e :: es) X.env)) (backToKw pos (keywordEach [] X.env))) := by rfl) : PE X (.Call (.Attribute o m apos) (e :: es) [] pos) (tMeth C m sp [] E ta t) :=
  let ⟨_, _, _, hc, hm, F, b⟩ := c.ex
  pe_meth (pl := pl) he hc hm F (hr.mono hk) b .nil hx ha hst hpl ht
theorem pe_mtXT {W : WX} {pl : Sem Bool} (c : MetX X.prog X.w X.K X.mg X.base k C m sp) (hr : Room j X.A) (hk : k ≤ j) (tk : Takes X W) (he : PE X o ta) (ha : PA X (e :: es) t)
    (hst : starEach (e :: es) X.env = (false, eval e X.env) :: starEach es X.env := by rfl) (hpl : (backTo pos (starEach es X.env)).any (·.1) = false := by rfl)
    (ht : eval (.Call (.Attribute o m apos) (e :: es) [] pos) X.env = (do
      let ov ← eval o X.env; standAt apos.atName; let (f, first) ← holding [ov] (getMethod ov m pl)
      callWith pos f first (backTo pos (starEach (e :: es) X.env)) (backToKw pos (keywordEach [] X.env))) := by rfl) : PE X (.Call (.Attribute o m apos) (e :: es) [] pos) (tMethS C m sp (WE W) ta t) :=
  let ⟨_, _, _, hc, hm, F, b⟩ := c.ex
  pe_methS (pl := pl) he hc hm F (hr.mono hk) b (fun σ => passAt tk σ) ha hst hpl ht
theorem pe_mkXT {W : WX} (c : MakX X.prog X.w X.K X.mg X.base k x C sp) (hr : Room j X.A) (hk : k + 1 ≤ j) (hg : Gl X x) (tk : Takes X W) (ha : PA X (e :: es) t) (hdb : (x == ("__debug__" : Str)) = false := by decide)
    (he : starEach (e :: es) X.env = (false, eval e X.env) :: starEach es X.env := by rfl) (hpl : (backTo pos (starEach es X.env)).any (·.1) = false := by rfl) : PE X (.Call (.Name x p) (e :: es) [] pos) (tMakeS C sp (WE W) t) :=
  let ⟨_, _, _, M, F, hm, b⟩ := c.ex
  pe_makeS M F (hr.mono hk) hg hm b (fun σ => passAt tk σ) ha hdb he hpl
theorem ps_raiseO (c : ErrX X.prog X.w X.K X.mg X.base k x C sp) (hr : Room j X.A) (hk : k + 1 ≤ j) (hc : X.calm = true) (hg : Gl X x) (tk : Takes X (fun cls d _ H => E cls d H)) (ha : PA X (e :: es) t) (hdb : (x == ("__debug__" : Str)) = false := by decide)
    (he : starEach (e :: es) X.env = (false, eval e X.env) :: starEach es X.env := by rfl) (hpl : (backTo pos (starEach es X.env)).any (·.1) = false := by rfl) : PS X (.Raise (some (.Call (.Name x p) (e :: es) [] pos)) none pos2) (tRaiseO C sp E t) :=
  let ⟨_, _, _, iC, tI, F, hm, b⟩ := c.ex
  ps_raise hc tk (pmk_oex c.oex iC tI F (hr.mono hk) b .nil pass0 hg hm ha hdb he hpl)
end
/-- what an error with one field tells -/
def Raised (C : Addr) (f : Str) (v : V) (H : Hp) (E : XK) : Prop := ∀ (d : Addr) (H' : Hp), H d = none → Same H H' → H' d = some (.xd [(f, v)]) → E (.ref C) (some d) H'
/-- the promise of an error's __init__(self, v): self.f = v -/
def sp_err (K : PySem.W.Frag) (C : Addr) (f : Str) : Sp := fun vs H Q _ => ∃ (a : Addr) (v : V), vs = [.ref a, v] ∧ OexC K C ∧ PySem.W.findIn K (.ref C) f = some none ∧ H a = some (exo a C none) ∧
  ∀ dx, H dx = none → dx ≠ a → Q .non (upd (upd H dx (exd dx [(f, v)])) a (exo a C (some dx)))
def t_err (K : PySem.W.Frag) (f : Str) : TS := tOst K f (tVar 0) (tVar 1)
theorem rd_err {K : PySem.W.Frag} {C : Addr} {f p1 p2 : Str} {vs : List V} {H : Hp} {Q : VK} {E : XK} (h : sp_err K C f vs H Q E) : t_err K f { nx := fun _ H' => Q .non H', rt := Q } (start [p1, p2] vs) H := by
  obtain ⟨a, v, rfl, T, hno, ha, q⟩ := h
  exact ⟨_, rfl, _, rfl, a, C, rfl, T, hno, .inl ⟨ha, q⟩⟩
theorem w_raiseO {K : PySem.W.Frag} {C : Addr} {f : Str} {E : XK} {ta : TA} {D : Ends} {σ : L2.St} {H : Hp} {v : V} {H1 : Hp} (T : OexC K C) (hno : PySem.W.findIn K (.ref C) f = some none) (e1 : ∀ Q, Q [v] H1 → ta σ H Q) (r : Raised C f v H1 E) : tRaiseO C (sp_err K C f) E ta D σ H := by
  refine e1 _ ⟨(by show 1 ≤ 1000; decide), fun a ha => ⟨a, v, rfl, T, hno, upd_same, fun dx hdx ndx => ⟨rfl, dx, [(f, v)], upd_same, by rw [upd_ne ndx]; exact upd_same, ?_, ?_⟩⟩⟩
  · rw [upd_ne ndx] at hdx; exact hdx
  · have hd0 : H1 dx = none := by rw [upd_ne ndx] at hdx; exact hdx
    refine r dx _ hd0 (fun b o e => ?_) upd_same
    have nb : b ≠ dx := ne_of_none e hd0
    have na : b ≠ a := ne_of_none e ha
    rw [upd_ne nb, del_ne na, upd_ne na, upd_ne nb, upd_ne na]; exact e
end GX

/-! ### + by an own __add__; defs called within an except suite; errors with two fields -/
namespace GX
open PySem PySem.Spec PyProof.Rows L2
def rOwnAdd (C : Addr) (sp : Sp) (E : XK) : R2 := fun x y H Q => ∃ (a b dx dy : Addr) (fs gs : List (Str × V)), x = .ref a ∧ y = .ref b ∧ H a = some (.ins C dx fs) ∧ H b = some (.ins C dy gs) ∧
  sp [.ref a, .ref b] H (fun v H' => ∃ p, v = .ref p ∧ Q (.ref p) H') E
structure AddX (P : Program) (w : World) (K : PySem.W.Frag) (mg : Str → Option Value) (base : Heap) (k : Nat) (C : Addr) (sp : Sp) : Prop where
  ex : ∃ (f : Addr) (fd : FuncData) (ps : List Str), FnOk P w K mg base (L2.CX P w) k f fd ps sp ∧ PySem.W.findIn K (.ref C) "__add__" = some (some (.ref f)) ∧ PySem.W.isFn K (.ref f) = true ∧ L2.Binds K fd ps [] ∧ PySem.W.selfFirst K C = true
structure EqX (P : Program) (w : World) (K : PySem.W.Frag) (mg : Str → Option Value) (base : Heap) (k : Nat) (C : Addr) (sp : Sp) : Prop where
  ex : ∃ (f : Addr) (fd : FuncData) (ps : List Str), FnOk P w K mg base CX0 k f fd ps sp ∧ PySem.W.findIn K (.ref C) "__eq__" = some (some (.ref f)) ∧ PySem.W.isFn K (.ref f) = true ∧ L2.Binds K fd ps []
/-- x == y of two instances of a class with an own __eq__ -/
def rOwnEq2 (C : Addr) (sp : Sp) (E : XK) : R2 := fun x y H Q => ∃ (a b dx dy : Addr) (fs gs : List (Str × V)), x = .ref a ∧ y = .ref b ∧ H a = some (.ins C dx fs) ∧ H b = some (.ins C dy gs) ∧
  sp [.ref a, .ref b] H (fun v H' => ∃ r, v = .bl r ∧ Q (.bl r) H') E
section
variable {X : Cx} {k j : Nat} {C : Addr} {sp : Sp}
theorem looks_ins {pins : List (Addr × Obj)} {σ : L2.St} {H : Hp} {s : Shared} {b dy : Addr} {gs : List (Str × V)} (J0 : Inv X pins σ H s) (hb : H b = some (.ins C dy gs)) : PySem.W.Looks (model X.prog X.w) s.heap (typeOf (.ref b)) (.ref C) := by
  obtain ⟨_, J, _⟩ := ins_get J0.hok hb
  obtain ⟨_, J, _⟩ := J.look
  exact J.type
theorem run_add (c : AddX X.prog X.w X.K X.mg X.base k C sp) (room : Room j X.A) (le : k ≤ j) {pins : List (Addr × Obj)} {σ : L2.St} {H : Hp} {s : Shared} {x y : V} {v u : Value} {Q : VK} {E : XK} (out : PassesAt (L2.CX X.prog X.w) X σ E) (J0 : Inv X pins σ H s) (rx : RelV x v) (ry : RelV y u) (h : rOwnAdd C sp E x y H Q) :
    wpAny (model X.prog X.w) X.A (binaryOp .Add v u) (EP X pins σ Q) X.xe s := by
  obtain ⟨f, fd, ps, F, hs, hf, hbd, hself⟩ := c.ex
  obtain ⟨a, b, dx, dy, fs, gs, rfl, rfl, ha, hb, hsp⟩ := h
  cases rx
  cases ry
  have look := looks_ins J0 hb
  obtain ⟨_, J, _⟩ := ins_get J0.hok ha
  obtain ⟨_, J, _⟩ := J.look
  obtain ⟨m, hF⟩ := J0.fr
  have args2 : Vals [V.ref a, V.ref b] [Value.ref a, Value.ref b] := .cons rfl (.cons rfl .nil)
  have two := F.len _ _ _ _ hsp
  have bound := hbd s [.ref a, .ref b] J0.kIn (by simpa using two)
  refine PySem.W.binop_K (op := .Add) hF J0.ok.mod.kin J look hself hs hf (wpAny_call (codeAny_mono (F.run X.A X.stack s H ⟨[.ref a, .ref b], []⟩ _ _ _ E (room.mono le) J0.env0 (by simpa using bound) args2 hsp) fun r s' back => ?_))
  cases r with
  | error e => exact out pins H s e s' J0 back
  | ok fl =>
    cases fl with
    | ret w =>
      obtain ⟨z, H', J', rz, p, ez, q⟩ := J0.after back
      subst ez
      cases rz
      exact ⟨.ref p, H', J', rfl, q⟩
    | next => exact back.elim
    | brk => exact back.elim
    | cont => exact back.elim
theorem op_addX {E : XK} (c : AddX X.prog X.w X.K X.mg X.base k C sp) (room : Room j X.A) (le : k ≤ j) (out : Passes (L2.CX X.prog X.w) X E) : OpR X (binaryOp .Add) (rOwnAdd C sp E) :=
  fun pins s σ H x y v u Q J rx ry h => run_add c room le (fun pins H s e s' => out pins σ H s e s') J rx ry h
/-- a + b within a try -/
def tAddS (C : Addr) (sp : Sp) (E : L2.St → XK) (ta tb : TE) : TE := fun σ H Q => ta σ H fun x H1 => tb σ H1 fun y H2 => rOwnAdd C sp (E σ) x y H2 Q
theorem pe_addS {W : WX} {a b : Expr} {ta tb : TE} {pos : Pos} (c : AddX X.prog X.w X.K X.mg X.base k C sp) (room : Room j X.A) (le : k ≤ j) (tk : Takes X W) (ha : PE X a ta) (hb : PE X b tb) : PE X (.BinOp a .Add b pos) (tAddS C sp (WE W) ta tb) :=
  ⟨fun pins s σ H Q J h => wpAny_BinOp (binT (R := fun x y H2 => rOwnAdd C sp (WE W σ) x y H2 Q) ha hb J h fun v u s2 x y H2 J2 rx ry q => run_add c room le (passAt tk σ) J2 rx ry q)⟩
theorem op_eqX (c : EqX X.prog X.w X.K X.mg X.base k C sp) (room : Room j X.A) (le : k ≤ j) : OpR X (compareOp .Eq) (rOwnEq2 C sp E0) := by
  intro pins s σ H x y v u Q J0 rx ry h
  obtain ⟨f, fd, ps, F, hs, hf, hbd⟩ := c.ex
  obtain ⟨a, b, dx, dy, fs, gs, rfl, rfl, ha, hb, hsp⟩ := h
  cases rx
  cases ry
  have look := looks_ins J0 hb
  obtain ⟨_, J, _⟩ := ins_get J0.hok ha
  obtain ⟨_, J, _⟩ := J.look
  obtain ⟨m, hF⟩ := J0.fr
  have args2 : Vals [V.ref a, V.ref b] [Value.ref a, Value.ref b] := .cons rfl (.cons rfl .nil)
  have two := F.len _ _ _ _ hsp
  have bound := hbd s [.ref a, .ref b] J0.kIn (by simpa using two)
  show wpAny (model X.prog X.w) X.A (richCompare .Eq (.ref a) (.ref b)) (EP X pins σ Q) X.xe s
  refine PySem.W.cmp_K (op := .Eq) room.units0 hF J0.ok.mod.kin J look (by simp [PySem.W.notFirst]) hs hf (wpAny_call (codeAny_mono (F.run X.A X.stack s H ⟨[.ref a, .ref b], []⟩ _ _ _ E0 (room.mono le) J0.env0 (by simpa using bound) args2 hsp) fun r s' back => ?_))
  cases r with
  | error e => exact back.elim
  | ok fl =>
    cases fl with
    | ret w =>
      obtain ⟨z, H', J', rz, p, ez, q⟩ := J0.after back
      subst ez
      cases rz
      exact ⟨.bl p, H', J', rfl, q⟩
    | next => exact back.elim
    | brk => exact back.elim
    | cont => exact back.elim
end
end GX

/-! ### a def called while an exception is held: what it promises may speak of that exception -/
namespace GX
open PySem PySem.Spec PyProof.Rows L2
abbrev SpE := Addr → Value → Option Addr → Sp
structure FnG (P : Program) (w : World) (K : PySem.W.Frag) (mg : Str → Option Value) (base : Heap) (k : Nat) (f : Addr) (fd : FuncData) (ps : List Str) (sp : SpE) : Prop where
  len : ∀ a c d vs H Q, sp a c d vs H Q E0 → vs.length = ps.length
  run : ∀ (A : Around) (outer : List Env) (s : Shared) (H : Hp) (args : Args) (us : List Value) (vs : List V) (Q : VK) (p : Addr × Obj), L2H.RoomH k A → L2H.PinOk outer H s p → (∃ fv, p.2.data = .fields fv) →
    Env0 P w K mg base A outer s H → BindsTo s fd args (ps.zip us) → Vals vs us → sp p.1 p.2.cls p.2.dict vs H Q E0 → codeAny (model P w) A (.call (.ref f) args) (CR CX0 outer P w H s Q E0) s
abbrev cxG (P : Program) (w : World) (K : PySem.W.Frag) (mg : Str → Option Value) (base : Heap) (N : List Str) (qual : Str) (scope : Scope) (f : Addr) (cd : Value) (A : Around) (outer : List Env) (s : Shared) (H : Hp) (p : Addr × Obj) : Cx :=
  L2H.cxH CX0 P w K mg base N qual scope f cd A outer s H E0 p
theorem _root_.L2.Fun.okG {P : Program} {w : World} {K : PySem.W.Frag} {mg : Str → Option Value} {base : Heap} {x qual : Str} {st : Stmt} {f : Addr} {fd : FuncData} {N ps : List Str} {k : Nat} {sp : SpE} (F : Fun K x qual st f fd) (S : FnScope N ps (defScope st))
    (len : ∀ a c d vs H Q, sp a c d vs H Q E0 → vs.length = ps.length)
    (walks : ∀ (cdv : Value) (A : Around) (outer : List Env) (s : Shared) (H : Hp) (vs : List V) (Q : VK) (p : Addr × Obj), (∃ fv, p.2.data = .fields fv) → sp p.1 p.2.cls p.2.dict vs H Q E0 →
      ∃ t, PSs (cxG P w K mg base N qual (defScope st) f cdv A outer s H p) (defBody st) t ∧ t { nx := fun _ H' => Q .non H', rt := Q } (start N vs) H) : FnG P w K mg base (k + 1) f fd ps sp := by
  obtain ⟨oc, od, kV, doc, pm, an, cdv, ct, osl, rfl, at_, code⟩ := F.ex
  constructor
  · exact len
  intro A outer s H args us vs Q p room pin fields env bound rel promise
  have many := len _ _ _ _ _ _ promise
  have inK : K.In s.heap := env.mod.kin.keeps fun b o e => (env.bs b o e).1
  have free : s.heap.NoLimit := env.mod.nolimit.keeps fun b o e => (env.bs b o e).1
  have kinds : ∀ y ∈ ps.zip us, (defScope st).names.lookup y.1 = some .local ∨ ((defScope st).names.lookup y.1 = some .cell ∧ ((cellsFrom (s.heap.objs.size + 1) (defScope st).names []).lookup y.1).isSome = true) := by
    rintro ⟨n, v⟩ hy
    cases S.par n (List.of_mem_zip hy).1 with
    | inl q => exact .inl q
    | inr q => exact .inr ⟨q, PySem.W.cellsFrom_some _ _ _ (.inl q)⟩
  refine codeAny_call_function room.depth (inK _ _ at_) rfl S.co S.gen rfl (PySem.W.codeRec_of inK code) (bound _ _ _ _ (wpAny_newFunctionEnv_cells S.kind kinds fun e0 he s1 x => ?_))
  subst he
  refine ⟨free.keeps x.toInCall.keep, codeAny_func ?_⟩
  obtain ⟨t, der, goal⟩ := walks cdv A outer s H vs Q p fields promise
  have J : Inv (cxG P w K mg base N qual (defScope st) f cdv A outer s H p) [] (start N vs) H s1 := L2H.inv_startH S pin env many rel x
  refine wpAny_mono (der.run [] s1 (start N vs) H _ J goal) (fun r s' back => ?_) fun e s' back => back
  cases r with
  | ret u =>
    obtain ⟨v, σ', H', J', rv, q⟩ := back
    exact ⟨v, H', J'.os, J'.bare, J'.base, J'.hok, rv, q⟩
  | next =>
    obtain ⟨σ', H', J', q⟩ := back
    exact ⟨.non, H', J'.os, J'.bare, J'.base, J'.hok, rfl, q⟩
  | brk => obtain ⟨_, _, _, z⟩ := back; exact False.elim z
  | cont => obtain ⟨_, _, _, z⟩ := back; exact False.elim z
structure HotX (P : Program) (w : World) (K : PySem.W.Frag) (mg : Str → Option Value) (base : Heap) (k : Nat) (x : Str) (sp : SpE) : Prop where
  ex : ∃ (f : Addr) (fd : FuncData) (ps : List Str), FnG P w K mg base k f fd ps sp ∧ mg x = some (.ref f) ∧ PySem.W.keepIn K (.ref f) = true ∧ L2.Binds K fd ps []
/-- f(..) within an except suite -/
def tCallG (sp : Sp) (t : TA) : TE := fun σ H Q => t σ H fun vs H1 => sp vs H1 Q E0
theorem pe_callG {X : Cx} {k j : Nat} {x : Str} {sp : SpE} {p pos : Pos} {e : Expr} {es : List Expr} {t : TA} {a : Addr} {oe : Obj} {cls : Value} {d : Option Addr} {pn : List (Addr × Obj)} (c : HotX X.prog X.w X.K X.mg X.base k x sp) (room : Room j X.A) (le : k ≤ j) (hz : Zc cls d oe) (hf : ∃ vs, oe.data = .fields vs)
    (hg : Gl (X.suite a ((a, oe) :: pn)) x) (ha : PA (X.suite a ((a, oe) :: pn)) (e :: es) t) (hdb : (x == ("__debug__" : Str)) = false := by decide)
    (he : starEach (e :: es) X.env = (false, eval e X.env) :: starEach es X.env := by rfl) (hpl : (backTo pos (starEach es X.env)).any (·.1) = false := by rfl) : PE (X.suite a ((a, oe) :: pn)) (.Call (.Name x p) (e :: es) [] pos) (tCallG (sp a cls d) t) := by
  obtain ⟨f, fd, ps, F, hm, kp, hbd⟩ := c.ex
  obtain ⟨rfl, rfl⟩ := hz
  refine ⟨fun pins s σ H Q J0 h => ?_⟩
  refine wpAny_Call_Name_kw (ld_glob J0 hg hm (PySem.W.callWith_K (h₀ := X.base) J0.ok.mod.kin kp (thn (ha.run pos pins s σ H _ J0 h) fun us s1 ⟨vs, H1, J1, rel, q⟩ => ⟨J1.kIn, ?_⟩) he hpl) hdb)
  have two := F.len _ _ _ _ _ _ q
  have bound := hbd s1 us J1.kIn (by rw [List.append_nil, ← rel.length]; exact two)
  rw [List.append_nil] at bound
  have P1 := J1.pin (a, oe) (List.mem_append_left _ List.mem_cons_self)
  have pin : L2H.PinOk (X.suite a ((a, oe) :: pn)).stack H1 s1 (a, oe) := ⟨P1.1, P1.2.1, fun hmm => (List.mem_cons.mp (J1.stkSub a hmm)).elim P1.2.2.1 P1.2.2.2.1, P1.2.2.2.2⟩
  refine wpAny_call (codeAny_mono (F.run _ (X.suite a ((a, oe) :: pn)).stack s1 H1 ⟨us, []⟩ us vs Q (a, oe) ⟨(room.mono le).dp, (room.mono le).un⟩ pin hf J1.env0 bound rel q) fun r s' back => ?_)
  cases r with
  | error e => exact back.elim
  | ok fl =>
    cases fl with
    | ret u => exact J1.after back
    | next => exact back.elim
    | brk => exact back.elim
    | cont => exact back.elim
/-- isinstance of the exception that is held, within a def that is called in the suite -/
theorem call_isG {P : Program} {w : World} {K : PySem.W.Frag} {mg : Str → Option Value} {base : Heap} {N : List Str} {qual : Str} {scope : Scope} {f : Addr} {cd : Value} {A : Around} {outer : List Env} {s0 : Shared} {H0 : Hp} {p : Addr × Obj} (hf : ∃ vs, p.2.data = .fields vs) :
    CallR (cxG P w K mg base N qual scope f cd A outer s0 H0 p) (.builtin "isinstance") (rIsX K p.1 p.2.cls p.2.dict) := by
  intro pins s σ H xs us Q J0 r h
  obtain ⟨c, u, b, D, dd, fs, rfl, hc, ecls, edict, C, hd, e, q⟩ := h
  obtain ⟨u1, u2, rfl, r1, r2⟩ := vals2 r
  cases (show u1 = Value.ref p.1 from r1)
  cases hc.eq r2
  obtain ⟨hget, _⟩ := J0.pin p (List.mem_append_left _ (by show p ∈ [p]; simp))
  obtain ⟨vs, hv⟩ := hf
  have ho : ObjOk P w H s.heap dd (.xd fs) := J0.hok dd _ hd
  obtain ⟨mA, hns, _⟩ := ho
  obtain ⟨od, e2, _⟩ := lookIn_ns hns
  have J : PySem.W.InstAt s.heap p.1 p.2 D (some od) := ⟨hget, ecls, by unfold PySem.W.notCls; rw [hv] <;> rfl, by rw [edict]; exact e2⟩
  exact PySem.W.kia_one (kit_here C) J0.kIn J e (fun z => nomatch z) fun tk => ⟨.bl b, H, J0.tok tk, rfl, q⟩
/-! ### errors with two fields -/
def sp_err2 (K : PySem.W.Frag) (C : Addr) (f g : Str) : Sp := fun vs H Q _ => ∃ (a : Addr) (v u : V), vs = [.ref a, v, u] ∧ OexC K C ∧ PySem.W.findIn K (.ref C) f = some none ∧ PySem.W.findIn K (.ref C) g = some none ∧ H a = some (exo a C none) ∧
  ∀ dx (H' : Hp), H dx = none → dx ≠ a → H' a = some (exo a C (some dx)) → H' dx = some (exd dx [(g, u), (f, v)]) → (∀ b, b ≠ a → b ≠ dx → H' b = H b) → Q .non H'
def t_err2 (K : PySem.W.Frag) (f g : Str) : TS := tSeq (tOst K f (tVar 0) (tVar 1)) (tOst K g (tVar 0) (tVar 2))
theorem rd_err2 {K : PySem.W.Frag} {C : Addr} {f g p1 p2 p3 : Str} {vs : List V} {H : Hp} {Q : VK} {E : XK} (h : sp_err2 K C f g vs H Q E) : t_err2 K f g { nx := fun _ H' => Q .non H', rt := Q } (start [p1, p2, p3] vs) H := by
  obtain ⟨a, v, u, rfl, T, hf, hg, ha, q⟩ := h
  refine ⟨_, rfl, _, rfl, a, C, rfl, T, hf, .inl ⟨ha, fun dx hdx ndx => ?_⟩⟩
  refine ⟨_, rfl, _, rfl, a, C, rfl, T, hg, .inr ⟨dx, [(f, v)], upd_same, by rw [upd_ne ndx]; exact upd_same, by show 1 ≤ 900; decide, ?_⟩⟩
  refine q dx _ hdx ndx (by rw [upd_ne ndx.symm]; exact upd_same) upd_same fun b nb nd => ?_
  rw [upd_ne nd, upd_ne nb, upd_ne nd]
/-- what an error with two fields tells -/
def Raised2 (C : Addr) (f g : Str) (v u : V) (H : Hp) (E : XK) : Prop := ∀ (d : Addr) (H' : Hp), H d = none → Same H H' → H' d = some (.xd [(g, u), (f, v)]) → E (.ref C) (some d) H'
theorem w_raiseO2 {K : PySem.W.Frag} {C : Addr} {f g : Str} {E : XK} {ta : TA} {D : Ends} {σ : L2.St} {H : Hp} {v u : V} {H1 : Hp} (T : OexC K C) (hf : PySem.W.findIn K (.ref C) f = some none) (hg : PySem.W.findIn K (.ref C) g = some none) (e1 : ∀ Q, Q [v, u] H1 → ta σ H Q) (r : Raised2 C f g v u H1 E) : tRaiseO C (sp_err2 K C f g) E ta D σ H := by
  refine e1 _ ⟨(by show 2 ≤ 1000; decide), fun a ha => ⟨a, v, u, rfl, T, hf, hg, upd_same, fun dx H' hdx ndx h1 h2 h3 => ⟨rfl, dx, _, h1, h2, ?_, ?_⟩⟩⟩
  · rw [upd_ne ndx] at hdx; exact hdx
  · have hd0 : H1 dx = none := by rw [upd_ne ndx] at hdx; exact hdx
    refine r dx _ hd0 (fun b o e => ?_) upd_same
    have nb : b ≠ dx := ne_of_none e hd0
    have na : b ≠ a := ne_of_none e ha
    rw [upd_ne nb, del_ne na, h3 b na nb, upd_ne na]; exact e
end GX

/-! ### facts of the head about error classes and own operators -/
namespace GX
open PySem PySem.Spec PyProof.Rows L2
def clsB (K : PySem.W.Frag) (C : Addr) : Bool := match K.lookup C with
  | some ⟨.type t, _, .cls cd, sl⟩ => (match cd.mro, sl.toList with
    | .ref C2 :: bm, [_, _, _, _, some (.builtin n), _] => t == "type" && (C2 == C && (n == "ValueError.__new__" && (!cd.hasDel && (cd.hasDict && PySem.HandSPX.refsVE bm))))
    | _, _ => false)
  | _ => false
theorem clsB_ok {K : PySem.W.Frag} {C : Addr} (h : clsB K C = true) : ∃ nm q N bs bm sn sub ab col dd k0 k1 k2 k3 k5, K.lookup C = some (excClassObj nm q C N bs bm true sn sub ab col dd k0 k1 k2 k3 k5 "ValueError.__new__") ∧ PySem.HandSPX.refsVE bm = true := by
  unfold clsB at h
  split at h
  · rename_i t dd cd sl found
    split at h
    · rename_i C2 bm k0 k1 k2 k3 n k5 em es
      simp only [Bool.and_eq_true, beq_iff_eq, Bool.not_eq_true'] at h
      obtain ⟨rfl, rfl, rfl, nodel, hasd, tail⟩ := h
      obtain ⟨nm, bs, mro, ns, qn, hd, sn, sub, ab, col, del⟩ := cd
      dsimp only at em nodel hasd
      subst em nodel hasd
      obtain ⟨l⟩ := sl
      simp only at es
      subst es
      exact ⟨nm, qn, ns, bs, bm, sn, sub, ab, col, dd, k0, k1, k2, k3, k5, found, tail⟩
    · cases h
  · cases h
inductive Ex where
  | oex (x : Str)
  | exc (x : Str)
  | xf (x : Str)
  | noat (x f : Str)
  | ini (x : Str)
  | kit (x y : Str) (b : Bool)
  | kitT (x : Str) (t : String) (b : Bool)
  | exm (x y : Str) (b : Bool)
  | first (x : Str)
  | ins (x : Str)
  | kitR (t : String) (x : Str) (b : Bool)
  | kitA (x : Str) (ys : List Str) (b : Bool)
  | nfst (x : Str) (t : String)
def Ex.ok (K : PySem.W.Frag) : Ex → Bool
  | .oex x => clsB K (He.ga K x) && (decide (PySem.W.findIn K (.ref (He.ga K x)) "__setattr__" = some (some (.builtin "object.__setattr__"))) && (decide (PySem.W.subIn K (.ref (He.ga K x)) (.type "BaseException") = some true) && (decide (PySem.W.typeIn K (.ref (He.ga K x)) = some (.type "type")) && PySem.W.keepIn K (.ref (He.ga K x)))))
  | .exc x => decide (PySem.W.findIn K (.ref (He.ga K x)) "__getattribute__" = some (some (.builtin "BaseException.__getattribute__"))) && (decide (PySem.W.findIn K (.ref (He.ga K x)) "__getattr__" = some none) && (decide (PySem.W.subIn K (.ref (He.ga K x)) (.type "BaseException") = some true) &&
      (PySem.W.hasDictIn K (He.ga K x) && (decide (PySem.W.findIn K (.ref (He.ga K x)) "__class__" = some (some (.builtin "object.__class__"))) && (decide (PySem.W.specialIn K (.builtin "object.__class__") "__get__" = some (some (.builtin "getset_descriptor.__get__"))) &&
      (decide (PySem.W.takesIn K (.builtin "object.__class__") = some true) && decide (PySem.W.mroIn K (He.ga K x) (.type "object") = some true)))))))
  | .xf x => xfB K (He.ga K x)
  | .noat x f => decide (PySem.W.findIn K (.ref (He.ga K x)) f = some none)
  | .ini x => decide (PySem.W.findIn K (.ref (He.ga K x)) "__init__" = some (some (.ref (He.ma K (He.ga K x) "__init__")))) && decide (PySem.W.typeIn K (.ref (He.ma K (He.ga K x) "__init__")) = some (.type "function"))
  | .kit x y b => decide (PySem.W.kitOne K (.ref (He.ga K x)) (.ref (He.ga K y)) = some b)
  | .kitT x t b => decide (PySem.W.kitOne K (.ref (He.ga K x)) (.type t) = some b)
  | .exm x y b => decide (PySem.W.exmOne K (.ref (He.ga K x)) (.ref (He.ga K y)) = some b)
  | .first x => PySem.W.selfFirst K (He.ga K x)
  | .kitR t x b => decide (PySem.W.kitOne K (.type t) (.ref (He.ga K x)) = some b)
  | .kitA x ys b => decide (PySem.W.kitAny K (.ref (He.ga K x)) (ys.map fun y => .ref (He.ga K y)) = some b)
  | .nfst x t => PySem.W.notFirst K (He.ga K x) (.type t)
  | .ins x => decide (PySem.W.findIn K (.ref (He.ga K x)) "__class__" = some (some (.builtin "object.__class__"))) && (decide (PySem.W.specialIn K (.builtin "object.__class__") "__get__" = some (some (.builtin "getset_descriptor.__get__"))) &&
      (decide (PySem.W.takesIn K (.builtin "object.__class__") = some true) && decide (PySem.W.mroIn K (He.ga K x) (.type "object") = some true)))
structure InsC (K : PySem.W.Frag) (C : Addr) : Prop where
  ha : PySem.W.findIn K (.ref C) "__class__" = some (some (.builtin "object.__class__"))
  hn : PySem.W.specialIn K (.builtin "object.__class__") "__get__" = some (some (.builtin "getset_descriptor.__get__"))
  ht : PySem.W.takesIn K (.builtin "object.__class__") = some true
  hm : PySem.W.mroIn K C (.type "object") = some true
section
variable {K : PySem.W.Frag} {x y f : Str} {t : String} {b : Bool}
theorem oex_ok (h : (Ex.oex x).ok K = true) : OexC K (He.ga K x) := by
  obtain ⟨h1, h⟩ := He.ba h
  obtain ⟨h2, h⟩ := He.ba h
  obtain ⟨h3, h⟩ := He.ba h
  obtain ⟨h4, h5⟩ := He.ba h
  exact ⟨clsB_ok h1, of_decide_eq_true h2, of_decide_eq_true h3, of_decide_eq_true h4, h5⟩
theorem exc_ok (h : (Ex.exc x).ok K = true) : ExcC K (He.ga K x) := by
  obtain ⟨h1, h⟩ := He.ba h
  obtain ⟨h2, h⟩ := He.ba h
  obtain ⟨h3, h⟩ := He.ba h
  obtain ⟨h4, h⟩ := He.ba h
  obtain ⟨h5, h⟩ := He.ba h
  obtain ⟨h6, h⟩ := He.ba h
  obtain ⟨h7, h8⟩ := He.ba h
  exact ⟨of_decide_eq_true h1, of_decide_eq_true h2, of_decide_eq_true h3, h4, of_decide_eq_true h5, of_decide_eq_true h6, of_decide_eq_true h7, of_decide_eq_true h8⟩
theorem xf_ok (h : (Ex.xf x).ok K = true) : XfC K (He.ga K x) := xfB_ok h
theorem noat_ok (h : (Ex.noat x f).ok K = true) : PySem.W.findIn K (.ref (He.ga K x)) f = some none := of_decide_eq_true h
theorem ini_ok (h : (Ex.ini x).ok K = true) : PySem.W.findIn K (.ref (He.ga K x)) "__init__" = some (some (.ref (He.ma K (He.ga K x) "__init__"))) ∧ PySem.W.typeIn K (.ref (He.ma K (He.ga K x) "__init__")) = some (.type "function") := by
  obtain ⟨h1, h2⟩ := He.ba h
  exact ⟨of_decide_eq_true h1, of_decide_eq_true h2⟩
theorem kit_ok (h : (Ex.kit x y b).ok K = true) : PySem.W.kitOne K (.ref (He.ga K x)) (.ref (He.ga K y)) = some b := of_decide_eq_true h
theorem kitT_ok (h : (Ex.kitT x t b).ok K = true) : PySem.W.kitOne K (.ref (He.ga K x)) (.type t) = some b := of_decide_eq_true h
theorem exm_ok (h : (Ex.exm x y b).ok K = true) : PySem.W.exmOne K (.ref (He.ga K x)) (.ref (He.ga K y)) = some b := of_decide_eq_true h
theorem kitR_ok (h : (Ex.kitR t x b).ok K = true) : PySem.W.kitOne K (.type t) (.ref (He.ga K x)) = some b := of_decide_eq_true h
theorem kitA_ok {ys : List Str} (h : (Ex.kitA x ys b).ok K = true) : PySem.W.kitAny K (.ref (He.ga K x)) (ys.map fun y => .ref (He.ga K y)) = some b := of_decide_eq_true h
theorem nfst_ok (h : (Ex.nfst x t).ok K = true) : PySem.W.notFirst K (He.ga K x) (.type t) = true := h
theorem first_ok (h : (Ex.first x).ok K = true) : PySem.W.selfFirst K (He.ga K x) = true := h
theorem ins_ok (h : (Ex.ins x).ok K = true) : InsC K (He.ga K x) := by
  obtain ⟨h5, h⟩ := He.ba h
  obtain ⟨h6, h⟩ := He.ba h
  obtain ⟨h7, h8⟩ := He.ba h
  exact ⟨of_decide_eq_true h5, of_decide_eq_true h6, of_decide_eq_true h7, of_decide_eq_true h8⟩
end
abbrev AlE : Type := He.AlD × Bool
def obsE (fa : List He.Fa) (fn : List He.DefD) (ex : List Ex) (K : PySem.W.Frag) : AlE := (He.obsD fa fn K, ex.all fun e => e.ok K)
def obsEG (n : Nat) (fa : List He.Fa) (fn : List He.DefD) (ex : List Ex) (g : Addr → Option Obj) : AlE := obsE fa fn ex (He.frG g (He.asD g n))
def SaysE (fa : List He.Fa) (fn : List He.DefD) (ex : List Ex) (K : PySem.W.Frag) : Prop := He.SaysD fa fn K ∧ (ex.all fun e => e.ok K) = true
def hookE (n : Nat) (fa : List He.Fa) (fn : List He.DefD) (ex : List Ex) : PySem.W.Hook where
  α := AlE
  obs := fun s => obsEG n fa fn ex s.heap.get?
  val := fun _ => (He.valD fn, true)
  says := fun _ h => ∃ K : PySem.W.Frag, K.In h ∧ SaysE fa fn ex K
  of := fun _ _ e => ⟨_, He.frG_in, congrArg (fun z : AlE => z.1) e, congrArg (fun z : AlE => z.2) e⟩
  keeps := fun _ _ _ ⟨K, hK, c⟩ k => ⟨K, PySem.W.Frag.In.keeps hK k, c⟩
theorem obsEG_eq {n : Nat} {fa : List He.Fa} {fn : List He.DefD} {ex : List Ex} {g : Addr → Option Obj} {s : Shared} (h : ∀ a, g a = s.heap.get? a) : obsEG n fa fn ex g = (hookE n fa fn ex).obs s := by
  obtain rfl : g = s.heap.get? := funext h
  rfl
theorem SaysE.more {fa : List He.Fa} {fn : List He.DefD} {ex : List Ex} {K : PySem.W.Frag} (c : SaysE fa fn ex K) (i : Nat) {e : Ex} (h : ex[i]? = some e := by rfl) : e.ok K = true := List.all_eq_true.mp c.2 e (List.mem_of_getElem? h)
end GX

namespace GX
open PySem L2 G
/-- try: body; except C as n: suite (n in slot i) -/
def tTryAs (K : PySem.W.Frag) (C : Addr) (i : Nat) (tb : WX → TS) (ts : Addr → Value → Option Addr → TS) : TS := fun D σ H => tb (wAs K (.ref C) i ts (fun _ _ _ _ => False) D) D σ H
theorem w_isX {K : PySem.W.Frag} {a D dd : Addr} {c : V} {u : Value} {b : Bool} {fs : List (Str × V)} {H : Hp} {Q : VK} (hc : ClsV c u) (C : ExcC K D) (hd : H dd = some (.xd fs)) (e : PySem.W.kitOne K (.ref D) u = some b) (q : Q (.bl b) H) :
    rIsX K a (.ref D) (some dd) [.ref a, c] H Q := ⟨c, u, b, D, dd, fs, rfl, hc, rfl, rfl, C, hd, e, q⟩
theorem w_xf {a C dd : Addr} {f : Str} {fs : List (Str × V)} {v : V} {te : TE} {σ : L2.St} {H : Hp} {Q : VK} (h : ∀ Q : VK, Q (.ref a) H → te σ H Q) (hd : H dd = some (.xd fs)) (l : fs.lookup f = some v) (q : Q v H) : tXf a (.ref C) (some dd) C f te σ H Q :=
  h _ ⟨rfl, rfl, dd, fs, v, rfl, hd, l, q⟩
theorem w_callG {sp : Sp} {tl : TA} {σ : L2.St} {H : Hp} {Q : VK} (h : tl σ H fun vs H1 => sp vs H1 Q E0) : tCallG sp tl σ H Q := h
theorem w_addS {C : Addr} {sp : Sp} {E : L2.St → XK} {ta tb : TE} {σ : L2.St} {H : Hp} {Q : VK} (h : ta σ H fun x H1 => tb σ H1 fun y H2 => rOwnAdd C sp (E σ) x y H2 Q) : tAddS C sp E ta tb σ H Q := h
end GX
namespace GX
open PySem PySem.Spec PyProof.Rows L2
/-- f(..) of a def that may raise, within a try -/
def tCallS (sp : Sp) (E : L2.St → XK) (t : TA) : TE := fun σ H Q => t σ H fun vs H1 => sp vs H1 Q (E σ)
theorem w_callS {sp : Sp} {E : L2.St → XK} {tl : TA} {σ : L2.St} {H : Hp} {Q : VK} (h : tl σ H fun vs H1 => sp vs H1 Q (E σ)) : tCallS sp E tl σ H Q := h
theorem pe_cXT {X : Cx} {k j : Nat} {x : Str} {sp : Sp} {W : WX} {p pos : Pos} {e : Expr} {es : List Expr} {t : TA} (c : CalX X.prog X.w X.K X.mg X.base k x sp) (hr : Room j X.A) (hk : k ≤ j) (hg : Gl X x) (tk : Takes X W) (ha : PA X (e :: es) t) (hdb : (x == ("__debug__" : Str)) = false := by decide)
    (he : starEach (e :: es) X.env = (false, eval e X.env) :: starEach es X.env := by rfl) (hpl : (backTo pos (starEach es X.env)).any (·.1) = false := by rfl) : PE X (.Call (.Name x p) (e :: es) [] pos) (tCallS sp (WE W) t) := by
  obtain ⟨f, fd, ps, F, hm, kp, hbd⟩ := c.ex
  refine ⟨fun pins s σ H Q J0 h => ?_⟩
  exact wpAny_Call_Name_kw (ld_glob J0 hg hm (PySem.W.callWith_K (h₀ := X.base) J0.ok.mod.kin kp (thn (ha.run pos pins s σ H _ J0 h) fun us s1 ⟨vs, H1, J1, rel, q⟩ => ⟨J1.kIn, run_fnS F (hr.mono hk) hbd (passAt tk σ) J1 rel q⟩) he hpl) hdb)
end GX
namespace GX
open PySem L2 G
def oInsert : V → List V → Hp → VK → Prop := fun x vs H Q => ∃ (l : Addr) (xs : List V) (i : Int) (y : V), x = .ref l ∧ vs = [.int i, y] ∧ H l = some (.lst xs) ∧ xs.length < sizeLine ∧ 0 ≤ i ∧ i < 2 ^ 63 ∧ Q .non (upd H l (.lst (xs.take i.toNat ++ [y] ++ xs.drop i.toNat)))
theorem mt_ins {X : Cx} : MtR X "list.insert" oInsert := mt_insert
theorem w_insert {H : Hp} {Q : VK} {p : Addr} {xs : List V} {i : Int} {y : V} (h : H p = some (.lst xs)) (hz : xs.length ≤ 900) (h0 : 0 ≤ i) (h1 : i < 1000000) (q : ∀ zs, Q .non (upd H p (.lst zs))) : oInsert (.ref p) [.int i, y] H Q :=
  ⟨p, xs, i, y, rfl, rfl, h, small1000 (by omega), h0, by omega, q _⟩
end GX

/-! ### several except clauses with names; walks over what is a list or a tuple -/
namespace GY
open PySem PySem.Spec PyProof.Rows L2
abbrev Cls3 := Value × Nat × (Addr → Value → Option Addr → TS)
def wManyAs (K : PySem.W.Frag) (Wout : WX) (D : Ends) : List Cls3 → WX
  | [] => Wout
  | (c, i, ts) :: r => fun cls d σ H => ∃ b, PySem.W.exmOne K cls c = some b ∧
      (b = true → ∀ a, H a = none → ts a cls d { nx := fun σ' H' => D.nx (σ'.set i none) H', rt := D.rt, bk := fun σ' H' => D.bk (σ'.set i none) H', ct := fun σ' H' => D.ct (σ'.set i none) H' } (σ.set i (some (.ref a))) H) ∧
      (b = false → wManyAs K Wout D r cls d σ H)
inductive HdsAs (X : Cx) : List ExceptHandler → List Cls3 → Prop
  | nil : HdsAs X [] []
  | cons {x n : Str} {c : Value} {i : Nat} {ts : Addr → Value → Option Addr → TS} {b₀ : Stmt} {suite : List Stmt} {np pos' : Pos} {hds : List ExceptHandler} {l : List Cls3} (hi : X.N[i]? = some n) (hln : X.env.kindOf n = some .local) (hc : Names X x c)
      (hsu : ∀ (a : Addr) (oe : Obj) (cls : Value) (d : Option Addr) (pn : List (Addr × Obj)), Zc cls d oe → (∃ vs, oe.data = .fields vs) → PSs (X.suite a ((a, oe) :: pn)) (b₀ :: suite) (ts a cls d)) (r : HdsAs X hds l) :
      HdsAs X (.ExceptHandler (some (.Name x np)) (some n) (b₀ :: suite) pos' :: hds) ((c, i, ts) :: l)
def tTryMany (K : PySem.W.Frag) (l : List Cls3) (tb : WX → TS) : TS := fun D σ H => tb (wManyAs K (fun _ _ _ _ => False) D l) D σ H
section
variable {X : Cx} {body : List Stmt} {h₀ : ExceptHandler} {hds : List ExceptHandler} {l : List Cls3} {pos : Pos} {tb : WX → TS}
theorem ps_try_manyAs (hs : X.stack = X.env :: X.outer) (hf : X.env.frame = some X.env.locals) (hN : X.N.Nodup) (tk : Takes X (fun _ _ _ _ => False))
    (hb : ∀ (W : WX) (pn : List (Addr × Obj)) (xe : Value → Shared → Prop), Takes (X.tr pn xe) W → PassesOwn (model X.prog X.w) X.A X.env xe → PSs (X.tr pn xe) body (tb W))
    (hh : HdsAs X (h₀ :: hds) l) : PS X (.Try body (h₀ :: hds) [] [] pos) (tTryMany X.K l tb) := by
  refine ⟨fun pins s σ H D I h => ?_⟩
  have ok := I.ok
  have hfr : X.A.frames = some (X.env :: X.outer) := by rw [ok.frames, hs]
  refine wpAny_Try_except ?_
  refine wpAny_mono ((hb (wManyAs X.K (fun _ _ _ _ => False) D l) (X.pn ++ pins) (fun e s₁ => wpAny (model X.prog X.w) X.A (noteFrame e X.env) (fun _ s₂ => wpAny (model X.prog X.w) X.A (setFlight e none) (fun _ s₃ =>
    wpAny (model X.prog X.w) X.A (handleBy e X.env (h₀ :: hds)) (SP X pins D) X.xe s₃) X.xe s₂) X.xe s₁) (fun u s' xx => ?_) PassesOwn.looking).run [] s σ H D (I.toTry _) h) (fun f s1 hsp => ?_) (fun e s1 he => he)
  · obtain ⟨a, B, sI, pins', σ', H', cls, d, rfl, J', nb, up, sky, na, os, ag, w⟩ := xx
    have J : Inv X pins σ' H' sI := J'.ofTry ok
    have sky' : Sky B (X.env :: X.outer) a (Zc cls d) X.env.locals s'.heap := by rw [← hs]; exact sky
    show wpAny (model X.prog X.w) X.A (noteFrame (.ref a) X.env) _ _ _
    refine Sky.land Zc.steady hfr hf sky' fun h3 fl3 up3 => ?_
    have J3 : Inv X pins σ' H' { s' with heap := h3 } := J.landed nb fl3.1 (up.trans up3) os ag
    obtain ⟨oe3, vs3, he3, hz3, hd3⟩ := fl3.there
    have notFr : ∀ {h : Heap} {o : Obj} {vs : Array Value}, h.FunFrames B (X.env :: X.outer) → h.get? a = some o → o.data = .fields vs → a ∉ frs (X.env :: X.outer) := fun {h o vs} ff e dd hm => by
      obtain ⟨_, o', e', hnf⟩ := ff.mem hm
      rw [e] at e'; cases e'
      exact hnf _ dd
    have nfr := notFr fl3.2.2.1 he3 hd3
    have nL : a ≠ X.env.locals := fun z => nfr (List.mem_filterMap.mpr ⟨X.env, List.mem_cons_self, by rw [hf, z]⟩)
    have nF : a ∉ X.fs := fun hm => by
      obtain ⟨e, he, q⟩ := List.mem_filterMap.mp hm
      exact nfr (List.mem_filterMap.mpr ⟨e, List.mem_cons_of_mem _ he, q⟩)
    have S3 := J3.suite he3 hd3 na nL nF
    have go : ∀ {hds' : List ExceptHandler} {l' : List Cls3}, HdsAs X hds' l' → wManyAs X.K (fun _ _ _ _ => False) D l' cls d σ' H' →
        wpAny (model X.prog X.w) X.A (handleBy (.ref a) X.env hds') (SP X pins D) X.xe { s' with heap := h3 } := by
      intro hds' l' hk
      induction hk with
      | nil => exact fun w => w.elim
      | @cons x n c i ts b₀ suite np pos' hds2 l2 hi hln hc hsu r ih =>
        intro w
        have hloc : Loc X.env.scope n := .inl hln
        obtain ⟨b, hb1, hyes, hno⟩ := w
        refine wpAny_handleBy_cons (codeAny_handlers_test ?_) (by intro q; cases q)
        have LT : PySem.W.Looks (model X.prog X.w) h3 (typeOf (.ref a)) cls := fun A Q E s k q => wpAny_typeOf_ref (k _ _ he3) (by rw [hz3.1]; exact q)
        have LM := PySem.W.exm_one (M := model X.prog X.w) (J3.kIn) LT hb1
        have test : ∀ {Q : Value → Shared → Prop} {E : Value → Shared → Prop}, Q c { s' with heap := h3 } → wpAny (model X.prog X.w) (X.A.mark (some (.ref a))) (eval (.Name x np) X.env) Q E { s' with heap := h3 } := fun {Q E} q => by
          obtain ⟨hg, hdbg, hm | ⟨hm, hv, hnn⟩⟩ := hc
          · exact ld_glob (X := X.suite a ((a, oe3) :: (X.pn ++ pins))) S3 hg hm q hdbg
          · exact ld_blt (X := X.suite a ((a, oe3) :: (X.pn ++ pins))) S3 hg hm hv q hnn hdbg
        refine test (LM.here ?_)
        cases b with
        | true =>
          refine codeAny_handlers_suite_as ?_
          refine HandSPX.lands_againZ fl3 fun h4 fl4 up4 => ?_
          have J4 : Inv X pins σ' H' { s' with heap := h4 } := J.landed nb fl4.1 ((up.trans up3).trans up4) os ag
          obtain ⟨oe4, vs4, he4, hz4, hd4⟩ := fl4.there
          have S4 := J4.suite he4 hd4 na nL nF
          refine store_ok (X := X.suite a ((a, oe4) :: (X.pn ++ pins))) (v := .ref a) S4 hN hi hloc rfl (fun s5 S5 => ?_) (.inr hln)
          refine wpAny_mono ((hsu a oe4 cls d (X.pn ++ pins) hz4 ⟨_, hd4⟩).run [] s5 _ H' _ S5 (hyes rfl a na)) (fun f s6 hsp => ?_) (fun _ _ z => False.elim z)
          have end_ : ∀ {σ6 : L2.St} {H6 : Hp} {Q : Shared → Prop}, Inv (X.suite a ((a, oe4) :: (X.pn ++ pins))) [] σ6 H6 s6 → (∀ s7, Inv X pins (σ6.set i none) H6 s7 → Q s7) →
              wpAny (model X.prog X.w) X.A (do bindName X.env n .none; unbindBehindTheSuite X.env n pos') (fun _ s7 => Q s7) X.xe s6 := fun {σ6 H6 Q} S6 hq => gone_ok (S6.unsuite ok) hN hi hln hq
          cases f with
          | next =>
            obtain ⟨σ6, H6, S6, q6⟩ := hsp
            exact end_ S6 fun s7 J7 => ⟨_, _, J7, q6⟩
          | brk =>
            obtain ⟨σ6, H6, S6, q6⟩ := hsp
            exact end_ S6 fun s7 J7 => ⟨_, _, J7, q6⟩
          | cont =>
            obtain ⟨σ6, H6, S6, q6⟩ := hsp
            exact end_ S6 fun s7 J7 => ⟨_, _, J7, q6⟩
          | ret u =>
            obtain ⟨v6, σ6, H6, S6, r6, q6⟩ := hsp
            exact end_ S6 fun s7 J7 => ⟨_, _, _, J7, r6, q6⟩
        | false =>
          show wpAny _ X.A (handleBy (.ref a) X.env hds2) _ _ _
          exact ih (hno rfl)
    exact go hh w
  · cases f with
    | next =>
      obtain ⟨σ', H', J', q⟩ := hsp
      exact wpAny_execs_nil ⟨σ', H', J'.ofTry ok, q⟩
    | brk =>
      obtain ⟨σ', H', J', q⟩ := hsp
      exact ⟨σ', H', J'.ofTry ok, q⟩
    | cont =>
      obtain ⟨σ', H', J', q⟩ := hsp
      exact ⟨σ', H', J'.ofTry ok, q⟩
    | ret u =>
      obtain ⟨v, σ', H', J', r, q⟩ := hsp
      exact ⟨v, σ', H', J'.ofTry ok, r, q⟩
end
/-- what is walked: a list or a tuple -/
def iSeq (K : PySem.W.Frag) (tl : TE) : TI := fun σ H R => tl σ H fun x H1 => ∃ a, x = .ref a ∧ (((∃ xs, SqL K H1 a xs) ∧ R (Itl K a) H1) ∨ ((∃ xs, SqT K H1 a xs) ∧ R (Itt K a) H1))
theorem pi_seq {X : Cx} {tg l : Expr} {tl : TE} (hl : PE X l tl) : PI X tg l (iSeq X.K tl) := by
  refine ⟨fun pins s σ H R I h => ?_⟩
  refine thn (hl.run pins s σ H _ I h) fun v s1 ⟨x, H1, I1, r1, a, e, q⟩ => ?_
  subst e
  cases r1
  rcases q with ⟨⟨xs, hq⟩, q⟩ | ⟨⟨xs, hq⟩, q⟩
  · obtain ⟨its, rv, p, _⟩ := I1.list hq
    refine wpAny_pyIter_list p.isList ?_
    refine ⟨s1.heap.objs.size, [s1.heap.objs.size], _, _, H1, rfl, I1.kept (t' := s1.toks) fun b o e => Heap.get?_push_of_some _ e, turn_list a _, ⟨_, Heap.get?_push_size _ rfl, rfl, rfl⟩, fun b hb => ?_, q⟩
    obtain rfl : b = s1.heap.objs.size := by simpa using hb
    exact I1.fpOk (Nat.le_refl _) (I1.hok.fresh (Nat.le_refl _))
  · obtain ⟨its, rv, p, _⟩ := I1.tuple hq
    refine wpAny_pyIter_tuple (show s1.heap.IsTuple a its.toArray from p) ?_
    refine ⟨s1.heap.objs.size, [s1.heap.objs.size], _, _, H1, rfl, I1.kept (t' := s1.toks) fun b o e => Heap.get?_push_of_some _ e, turn_tuple a _, ⟨_, Heap.get?_push_size _ rfl, rfl, rfl⟩, fun b hb => ?_, q⟩
    obtain rfl : b = s1.heap.objs.size := by simpa using hb
    exact I1.fpOk (Nat.le_refl _) (I1.hok.fresh (Nat.le_refl _))
end GY

namespace GX
open PySem PySem.Spec PyProof.Rows L2
/-- x == y where x's class has an own __eq__; y: an instance of that class, or a list -/
def rOwnEq (C : Addr) (sp : Sp) (E : XK) : R2 := fun x y H Q => ∃ (a b dx : Addr) (fs : List (Str × V)), x = .ref a ∧ y = .ref b ∧ H a = some (.ins C dx fs) ∧ ((∃ dy gs, H b = some (.ins C dy gs)) ∨ ∃ ys, H b = some (.lst ys)) ∧
  sp [.ref a, .ref b] H (fun v H' => ∃ r, v = .bl r ∧ Q (.bl r) H') E
section
variable {X : Cx} {CX : CXT} {n : Nat} {C f : Addr} {fd : FuncData} {ps : List Str} {sp : Sp} {E : XK}
theorem op_eqO (F : FnOk X.prog X.w X.K X.mg X.base CX n f fd ps sp) (hs : PySem.W.findIn X.K (.ref C) "__eq__" = some (some (.ref f))) (hf : PySem.W.isFn X.K (.ref f) = true) (hb : L2.Binds X.K fd ps []) (hx : Passes CX X E) (hr : Room n X.A)
    (hl : PySem.W.notFirst X.K C (.type "list") = true) : OpR X (compareOp .Eq) (rOwnEq C sp E) := by
  intro pins s σ H x y v u Q I rx ry hq
  obtain ⟨a, b, dx, fs, rfl, rfl, ha, hbb, hsp⟩ := hq
  cases rx
  cases ry
  obtain ⟨mA, J, _⟩ := ins_get I.hok ha
  obtain ⟨od, J, _⟩ := J.look
  obtain ⟨m, hF⟩ := I.fr
  have two : ∃ t, PySem.W.Looks (model X.prog X.w) s.heap (typeOf (.ref b)) t ∧ PySem.W.notFirst X.K C t = true := by
    rcases hbb with ⟨dy, gs, hbb⟩ | ⟨ys, hbb⟩
    · obtain ⟨mB, J', _⟩ := ins_get I.hok hbb
      obtain ⟨od', J', _⟩ := J'.look
      exact ⟨.ref C, J'.type, by simp [PySem.W.notFirst]⟩
    · obtain ⟨its, _, p, _⟩ := I.list (SqL.of hbb)
      obtain ⟨o, k, e1, e2, _⟩ := p
      exact ⟨.type "list", PySem.W.kitAt_ty _ _ ⟨o, e1, e2⟩, hl⟩
  obtain ⟨t, ht, hn⟩ := two
  show wpAny (model X.prog X.w) X.A (richCompare .Eq (.ref a) (.ref b)) (EP X pins σ Q) X.xe s
  refine PySem.W.cmp_K (op := .Eq) hr.units0 hF I.ok.mod.kin J ht hn hs hf ?_
  have hlen := F.len _ _ _ _ hsp
  have r2 : Vals [V.ref a, V.ref b] [Value.ref a, Value.ref b] := .cons rfl (.cons rfl .nil)
  have bd := hb s [.ref a, .ref b] I.kIn (by simpa using hlen)
  refine wpAny_call (codeAny_mono (F.run X.A X.stack s H ⟨[.ref a, .ref b], []⟩ _ _ _ E hr I.env0 (by simpa using bd) r2 hsp) fun r s' back => ?_)
  cases r with
  | error e => exact hx pins σ H s e s' I back
  | ok fl =>
    cases fl with
    | ret w =>
      obtain ⟨z, H', I', rz, c, ez, q⟩ := I.after back
      subst ez
      cases rz
      exact ⟨.bl c, H', I', rfl, q⟩
    | next => exact back.elim
    | brk => exact back.elim
    | cont => exact back.elim
end
end GX

namespace GX
open PySem PySem.Spec PyProof.Rows L2
/-- y in x where x's class has an own __contains__ -/
def rOwnIn (C : Addr) (sp : Sp) (E : XK) : R2 := fun y x H Q => ∃ (a dx : Addr) (fs : List (Str × V)), x = .ref a ∧ H a = some (.ins C dx fs) ∧ sp [.ref a, y] H (fun v H' => ∃ r, v = .bl r ∧ Q (.bl r) H') E
section
variable {X : Cx} {CX : CXT} {n : Nat} {C f : Addr} {fd : FuncData} {ps : List Str} {sp : Sp} {E : XK}
theorem op_inO (F : FnOk X.prog X.w X.K X.mg X.base CX n f fd ps sp) (hs : PySem.W.findIn X.K (.ref C) "__contains__" = some (some (.ref f))) (hf : PySem.W.isFn X.K (.ref f) = true) (hb : L2.Binds X.K fd ps []) (hx : Passes CX X E) (hr : Room n X.A) :
    OpR X (compareOp .In) (rOwnIn C sp E) := by
  intro pins s σ H y x v u Q I ry rx hq
  obtain ⟨a, dx, fs, rfl, ha, hsp⟩ := hq
  cases rx
  obtain ⟨mA, J, _⟩ := ins_get I.hok ha
  obtain ⟨od, J, _⟩ := J.look
  obtain ⟨m, hF⟩ := I.fr
  refine PySem.W.in_K hF I.ok.mod.kin J hs hf ?_
  have hlen := F.len _ _ _ _ hsp
  have r2 : Vals [V.ref a, y] [Value.ref a, v] := .cons rfl (.cons ry .nil)
  have bd := hb s [.ref a, v] I.kIn (by simpa using hlen)
  refine wpAny_call (codeAny_mono (F.run X.A X.stack s H ⟨[.ref a, v], []⟩ _ _ _ E hr I.env0 (by simpa using bd) r2 hsp) fun r s' back => ?_)
  cases r with
  | error e => exact hx pins σ H s e s' I back
  | ok fl =>
    cases fl with
    | ret w =>
      obtain ⟨z, H', I', rz, c, ez, q⟩ := I.after back
      subst ez
      cases rz
      exact wpAny_pure ⟨.bl c, H', I', rfl, q⟩
    | next => exact back.elim
    | brk => exact back.elim
    | cont => exact back.elim
end
end GX

namespace GX
open PySem PySem.Spec PyProof.Rows L2
/-- x is y, both truth values -/
def rIsB : R2 := fun x y H Q => ∃ a b, x = .bl a ∧ y = .bl b ∧ Q (.bl (decide (a = b))) H
theorem op_isB {X : Cx} : OpR X (compareOp .Is) rIsB := by
  intro pins s σ H x y v u Q I rx ry h
  obtain ⟨a, b, rfl, rfl, q⟩ := h
  cases rx
  cases ry
  refine wpAny_bind (wpAny_pure (wpAny_pure ⟨.bl (decide (a = b)), H, I, ?_, q⟩))
  cases a <;> cases b <;> rfl
end GX

/-! ### own ==, own in, by one name each -/
namespace GX
open PySem PySem.Spec PyProof.Rows L2
structure EqO (P : Program) (w : World) (K : PySem.W.Frag) (mg : Str → Option Value) (base : Heap) (k : Nat) (C : Addr) (sp : Sp) : Prop where
  ex : ∃ (f : Addr) (fd : FuncData) (ps : List Str), FnOk P w K mg base CX0 k f fd ps sp ∧ PySem.W.findIn K (.ref C) "__eq__" = some (some (.ref f)) ∧ PySem.W.isFn K (.ref f) = true ∧ L2.Binds K fd ps [] ∧ PySem.W.notFirst K C (.type "list") = true
structure InO (P : Program) (w : World) (K : PySem.W.Frag) (mg : Str → Option Value) (base : Heap) (k : Nat) (C : Addr) (sp : Sp) : Prop where
  ex : ∃ (f : Addr) (fd : FuncData) (ps : List Str), FnOk P w K mg base CX0 k f fd ps sp ∧ PySem.W.findIn K (.ref C) "__contains__" = some (some (.ref f)) ∧ PySem.W.isFn K (.ref f) = true ∧ L2.Binds K fd ps []
section
variable {X : Cx} {k j : Nat} {C : Addr} {sp : Sp}
theorem op_eqB (c : EqO X.prog X.w X.K X.mg X.base k C sp) (room : Room j X.A) (le : k ≤ j) : OpR X (compareOp .Eq) (rOwnEq C sp E0) :=
  let ⟨_, _, _, F, hs, hf, hb, hl⟩ := c.ex
  op_eqO F hs hf hb pass0 (room.mono le) hl
theorem op_inB (c : InO X.prog X.w X.K X.mg X.base k C sp) (room : Room j X.A) (le : k ≤ j) : OpR X (compareOp .In) (rOwnIn C sp E0) :=
  let ⟨_, _, _, F, hs, hf, hb⟩ := c.ex
  op_inO F hs hf hb pass0 (room.mono le)
end
end GX

namespace GX
open PySem PySem.Spec PyProof.Rows L2
abbrev freshSet (w : World) : Obj := { cls := .type "set", dict := none, data := .set #[] 0 (.fresh 0 0 (!w.params.followText "set-order")) }
section
variable {P : Program} {w : World} {A : Around} {E : Value → Shared → Prop} {s : Shared}
/-- the fresh set takes what a list of ints holds -/
theorem fillSet {l : Addr} {items : Array Value} (ns : List Int) {R : Result → Shared → Prop} (hA : A.in1.in1.in1.handled = none) (hl : s.heap.IsList l items) (hit : IntsAre items.toList ns) (hb : ns.length + 1 < scanBound)
    (fin : ∀ (h' : Heap) (tk c : Nat), SetR w h' s.heap.objs.size (fun j => decide (j ∈ ns)) c → c ≤ ns.length → (∀ b o, s.heap.get? b = some o → h'.get? b = some o) → R (.ok (.ret .none)) { s with heap := h', toks := tk }) :
    codeAny (model P w) A.in1.in1 (.builtin "set.update.loop" ⟨[.ref s.heap.objs.size, .ref (s.heap.objs.size + 1)], []⟩) R { s with heap := (s.heap.push (freshSet w)).push { cls := .type "list_iterator", data := .fields #[.ref l, .int 0 0] } } := by
  have n0 : items.size = ns.length := by
    have q := IntsAre.length hit
    rwa [Array.length_toList] at q
  have hold : ∀ b o, s.heap.get? b = some o → ((s.heap.push (freshSet w)).push { cls := .type "list_iterator", data := .fields #[.ref l, .int 0 0] }).get? b = some o := fun b o e =>
    Heap.get?_push_of_some _ (Heap.get?_push_of_some _ e)
  have z1 : (s.heap.push (freshSet w)).objs.size = s.heap.objs.size + 1 := Heap.size_push ..
  have lt : l < s.heap.objs.size := by
    obtain ⟨o, ho, _⟩ := hl
    exact Heap.lt_size ho
  have nl : l ≠ s.heap.objs.size + 1 := Nat.ne_of_lt (Nat.lt_succ_of_lt lt)
  have nf : s.heap.objs.size ∉ [s.heap.objs.size + 1, l] := by
    simp only [List.mem_cons, List.mem_singleton, List.not_mem_nil, or_false, not_or]
    exact ⟨Nat.ne_of_lt (Nat.lt_succ_self _), Nat.ne_of_gt lt⟩
  have vals : ∀ (i : Nat) (v : Value), items[i]? = some v → ∃ k t, ns[i]? = some k ∧ v = .int k t := fun i v hv => by
    obtain ⟨hi, _⟩ := Array.getElem?_eq_some_iff.mp hv
    rw [n0] at hi
    obtain ⟨t, e⟩ := IntsAre.int_at hit i v (by rw [Array.getElem?_toList]; exact hv)
    exact ⟨ns[i], t, List.getElem?_eq_getElem hi, by rw [e, List.getD_eq_getElem?_getD, List.getElem?_eq_getElem hi] <;> rfl⟩
  have itAt : ((s.heap.push (freshSet w)).push { cls := .type "list_iterator", data := .fields #[.ref l, .int 0 0] }).get? (s.heap.objs.size + 1) = some { cls := .type "list_iterator", data := .fields #[.ref l, .int 0 0] } := by
    rw [← z1]
    exact Heap.get?_push_size _ rfl
  have stAt : ((s.heap.push (freshSet w)).push { cls := .type "list_iterator", data := .fields #[.ref l, .int 0 0] }).get? s.heap.objs.size = some (freshSet w) := Heap.get?_push_of_some _ (Heap.get?_push_size _ rfl)
  have hl2 : ((s.heap.push (freshSet w)).push { cls := .type "list_iterator", data := .fields #[.ref l, .int 0 0] }).IsList l items := hl.at fun o e => hold l o e
  refine set_update_ints ((Walks.list hA (s.heap.objs.size + 1) l nl items).toS) s.heap.objs.size nf ns n0 hb vals (items.size - 0) 0 _ (by omega) (Nat.zero_le _)
    ⟨⟨_, itAt, rfl, rfl⟩, hl2⟩ ⟨0, Nat.le_refl 0, setR_new_at stAt⟩ fun s' c m hc hS => ?_
  obtain ⟨h', g, d, tk, os⟩ := s'
  obtain rfl : g = s.gens := m.gens
  obtain rfl : d = s.drawn := m.drawn
  obtain rfl : os = s.os := m.os
  rw [n0] at hc
  refine fin h' tk c hS hc fun b o e => ?_
  have b0 : b < s.heap.objs.size := Heap.lt_size e
  exact m.heap b o (by simp only [List.mem_cons, List.mem_singleton, List.not_mem_nil, or_false, not_or]; exact ⟨Nat.ne_of_lt b0, Nat.ne_of_lt (Nat.lt_succ_of_lt b0)⟩) (hold b o e)
/-- set(l), l a list of ints -/
theorem mkSet {l : Addr} {items : Array Value} (ns : List Int) {Q : Value → Shared → Prop} (hA : A.handled = none) (hl : s.heap.IsList l items) (hit : IntsAre items.toList ns) (hb : ns.length + 1 < scanBound)
    (fin : ∀ (h' : Heap) (tk c : Nat), SetR w h' s.heap.objs.size (fun j => decide (j ∈ ns)) c → c ≤ ns.length → (∀ b o, s.heap.get? b = some o → h'.get? b = some o) → Q (.ref s.heap.objs.size) { s with heap := h', toks := tk }) :
    wpAny (model P w) A (call (.type "set") [.ref l]) Q E s := by
  obtain ⟨c, tl, hmro⟩ := PySem.F.called_set.mro
  have hmade := PySem.F.called_set.made
  have hsub := PySem.F.called_set.sub
  have g1 := PySem.F.called_set.notType
  have g2 := PySem.F.called_set.canCreate
  have g3 := PySem.F.typeCall_set_1 (.ref l)
  refine wpAny_call (codeAny_of_tree ?_)
  show wpAny _ _ (callAny (.type "set") _) _ _ _
  refine wpAny_pure ⟨Code.quiet_builtin _ (by decide +kernel), codeAny_builtin PySem.F.entry_type_call ?_⟩
  rw [Around.under_plain (weight_type_call_type "set" [.ref l] []) rfl]
  repeat (any_goals (first | assumption | wp_step))
  refine codeAny_mono (code_set_led1 (.ref l) (E := E) (Q₁ := fun obj s₁ => obj = .ref s.heap.objs.size ∧ s₁ = { s with heap := s.heap.push (freshSet w) }) ⟨rfl, rfl⟩) fun r s₁ hr => ?_
  rcases r with e | f
  · exact hr
  cases f with
  | ret obj =>
    obtain ⟨rfl, rfl⟩ := hr
    have hS : (s.heap.push (freshSet w)).get? s.heap.objs.size = some (freshSet w) := Heap.get?_push_size _ rfl
    have hT : Shared.TypeIs { s with heap := s.heap.push (freshSet w) } (.ref s.heap.objs.size) "set" := ⟨_, hS, rfl⟩
    have hli := PySem.F.called_set.init.lookup
    have hbi := PySem.F.called_set.init.bind (.ref s.heap.objs.size)
    repeat (any_goals (first | assumption | wp_step))
    refine codeAny_mono (codeAny_call_builtin (R := wants (fun r s₂ => r = .none ∧ ∃ h' tk c, s₂ = { s with heap := h', toks := tk } ∧ SetR w h' s.heap.objs.size (fun j => decide (j ∈ ns)) c ∧ c ≤ ns.length ∧
          (∀ b o, s.heap.get? b = some o → h'.get? b = some o)) E) PySem.F.called_set.init.plain PySem.F.entry_set_init (check_set_init_1 hT ?_)) fun r₂ s₂ hr₂ => ?_
    · obtain ⟨⟨oc, od, dt, sl⟩, ho, hc, n, hd⟩ := id hl
      cases hc
      cases hd
      have ho2 : (s.heap.push (freshSet w)).get? l = some { cls := .type "list", dict := od, data := .seq items n, slots := sl } := Heap.get?_push_of_some _ ho
      have hl1 : (s.heap.push (freshSet w)).IsList l items := ⟨_, ho2, rfl, n, rfl⟩
      have u1 := PySem.F.sub_list_set
      have u2 := PySem.F.sub_list_frozenset
      have u3 : (Value.type "list" == Value.type "dict") = false := by decide
      unfold Builtin.«set.__init__» noKeywords Builtin.Frozenset.updateFrom
      generalize hPI : pyIter = PI
      wp_walk
      subst hPI
      refine wpAny_pyIter_list hl1 ?_
      refine wpAny_bind (wpAny_runValue ?_)
      have z1 : (s.heap.push (freshSet w)).objs.size = s.heap.objs.size + 1 := Heap.size_push ..
      rw [z1]
      refine fillSet ns (s := s) (by simp [hA]) hl hit hb fun h' tk c R c1 keep => ?_
      show wpAny _ _ _ _ _ _
      refine wpAny_pure ?_
      show wpAny _ _ (ret Value.none) _ _ _
      exact wpAny_pure ⟨rfl, h', tk, c, rfl, R, c1, keep⟩
    · rcases r₂ with e | f
      · exact hr₂
      cases f with
      | ret r =>
        obtain ⟨rfl, h', tk, c, rfl, R, c1, keep⟩ := hr₂
        repeat (any_goals (first | assumption | wp_step))
        exact fin _ _ _ R c1 keep
      | _ => exact hr₂.elim
  | _ => exact hr.elim
end
section
variable {X : Cx}
/-- set(l), l a list of ints -/
def rSetLI (w : World) : List V → Hp → VK → Prop := fun vs H Q => ∃ (l : Addr) (ns : List Int), vs = [V.ref l] ∧ H l = some (.lst (ns.map V.int)) ∧ ns.length ≤ 1000 ∧
  ∀ (p : Addr) (n : Nat), n ≤ ns.length → H p = none → Q (.ref p) (upd H p (SetO w p (fun j => decide (j ∈ ns)) n))
theorem cr_setLI (hc : X.calm = true) : CallR X (.type "set") (rSetLI X.w) := by
  intro pins s σ H vs us Q I r h
  obtain ⟨l, ns, rfl, hl, hn, q⟩ := h
  obtain ⟨its, rv, pl, hz⟩ := I.list (SqL.of hl)
  rw [Vals.ref1 r]
  refine mkSet ns (I.ok.hd hc) pl.isList (by simpa using rv.ints) (by unfold scanBound; omega) fun h' tk c R hc keep => ?_
  exact ⟨.ref _, upd H s.heap.objs.size (SetO X.w s.heap.objs.size (fun j => decide (j ∈ ns)) c), I.laid (t' := tk) keep (Nat.le_refl _) (setO_new R), rfl, q _ c hc (I.hok.fresh (Nat.le_refl _))⟩
section
variable {P : Program} {w : World} {A : Around} {E : Value → Shared → Prop} {s : Shared}
/-- sorted(a set of ints) -/
theorem sortedSet {a : Addr} {S : Int → Bool} {n : Nat} {Q : Value → Shared → Prop} (R : SetR w s.heap a S n) (hA : A.handled = none)
    (fin : ∀ s' p (out : Array Value) (c : Nat) (ns : List Int), (∀ b o, s.heap.get? b = some o → s'.heap.get? b = some o) → s'.gens = s.gens → s'.os = s.os → s.heap.objs.size ≤ p →
      s'.heap.get? p = some (seqObj "list" out c) → IntsAre out.toList ns → ns.Pairwise (· < ·) → (∀ k, k ∈ ns ↔ S k = true) → ns.length = n → Q (.ref p) s') :
    wpAny (model P w) A (call (.builtin "sorted") [.ref a]) Q E s := by
  obtain ⟨o, es, ep, t, ho, hex, hd, g, nd, mem, few, fits, cnt, ris, led⟩ := R
  refine Calls.call_function_entry kind_sorted plain_sorted entry_sorted (args_sorted1 _) ?_
  unfold Builtin.«sorted»
  refine wpAny_bind (m := checkCount "sorted" 1 1 _) (wpAny_pure ?_)
  refine wpAny_bind (collect_set (A := A.in1) hA ⟨o, ho, hex.1, hd⟩ fits few ris led fun s1 vs keep up g1 o1 pm => ?_)
  have vl : vs.length = n := by rw [pm.length_eq, List.length_map, Array.length_toList]; exact cnt
  have vz : vs.length ≤ sizeLine := fits_of_scanBound (by rw [vl, ← cnt]; exact few)
  have hI : IntsAre vs (vs.map SrtO.iv) := SrtO.ints_iv fun v hv => by
    obtain ⟨e, he, z⟩ := List.mem_map.mp (pm.mem_iff.mp hv)
    obtain ⟨k, tk, h1, _⟩ := g e he
    exact ⟨k, tk, z ▸ h1⟩
  have ek : ∀ e ∈ es.toList, SrtO.iv e.2 = keyOf e := fun e he => by
    obtain ⟨k, tk, h1, _⟩ := g e he
    unfold keyOf
    rw [h1] <;> rfl
  have pk : (vs.map SrtO.iv).Perm (es.toList.map keyOf) := by
    have z := pm.map SrtO.iv
    rw [List.map_map] at z
    exact z.trans (.of_eq (List.map_congr_left fun e he => ek e he))
  refine wpAny_bind (wpAny_newList ?_ vz)
  have at1 : (s1.heap.push (seqObj "list" vs.toArray 0)).get? s1.heap.objs.size = some (seqObj "list" vs.toArray 0) := Heap.get?_push_size _ rfl
  refine wpAny_bind (wpAny_holding (wpAny_call_entry slot_list_sort ⟨_, at1, rfl⟩ entry_list_sort
    (SrtO.list_sort_ord SrtO.swo_int at1 vz (fun h2 => SrtO.ints_sortable hI h2) fun out so sb => ⟨_, rfl, ?_⟩) (args_list_sort _)))
  obtain ⟨k1, k2, k3⟩ := SrtO.ints_out hI so sb
  obtain ⟨c, hc⟩ := sortedHeap_at (vs := vs) (out := out.toArray) at1
  have pn : (out.map SrtO.iv).Perm (es.toList.map keyOf) := k2.trans pk
  refine wpAny_pure ⟨_, rfl, fin _ s1.heap.objs.size out.toArray c (out.map SrtO.iv) (fun b u e => ?_) g1 o1 up hc (by simpa using k1) (lt_of_le_nodup _ k3 (pn.nodup_iff.mpr nd)) (fun k => by rw [pn.mem_iff, ← mem k]) ?_⟩
  · have z := keep b u e
    have lt := Heap.lt_size z
    show (sortedHeap (s1.heap.push (seqObj "list" vs.toArray 0)) s1.heap.objs.size vs out.toArray).get? b = some u
    rw [sortedHeap_old (Nat.ne_of_lt lt) (by rw [size_push']; exact Nat.lt_succ_of_lt lt)]
    exact Heap.get?_push_of_some _ z
  · rw [pn.length_eq, List.length_map, Array.length_toList]; exact cnt
end
/-- sorted(a set of ints) -/
def rSortSet (w : World) : List V → Hp → VK → Prop := fun vs H Q => ∃ (a : Addr) (S : Int → Bool) (n : Nat), vs = [V.ref a] ∧ H a = some (SetO w a S n) ∧ n ≤ 1000 ∧
  ∀ (ns : List Int) (p : Addr), ns.Pairwise (· < ·) → (∀ k : Int, k ∈ ns ↔ S k = true) → ns.length = n → H p = none → Q (.ref p) (upd H p (.lst (ns.map V.int)))
theorem cr_sortSet (hc : X.calm = true) : CallR X (.builtin "sorted") (rSortSet X.w) := by
  intro pins s σ H vs us Q I r h
  obtain ⟨a, S, n, rfl, ha, n1, q⟩ := h
  rw [Vals.ref1 r]
  refine sortedSet (setO_get I ha) (I.ok.hd hc) fun s' p out c ns keep g o hp at' hi hs hm hl => ?_
  have fresh : H p = none := I.hok.fresh hp
  have len : (ns.map V.int).length ≤ sizeLine := by rw [List.length_map, hl, sizeLine_eq]; omega
  have J : Inv X pins σ (upd H p (.lst (ns.map V.int))) { s with heap := s'.heap, gens := s'.gens, drawn := s'.drawn, toks := s'.toks } :=
    I.call (ch := []) (Un.laid keep hp fresh) (I.hok.laid keep hp ⟨len, out.toList, c, vals_of_ints hi, at'⟩) (by rw [g]; exact I.bare) (fun _ z => nomatch z)
  obtain ⟨h', g', d', t', o'⟩ := s'
  cases o
  exact ⟨.ref p, _, J, rfl, q ns p hs hm hl fresh⟩
end
end GX

/-! ### sets from tuples; methods with a star parameter -/
namespace GX
open PySem PySem.Spec PyProof.Rows L2
section
variable {X : Cx}
/-- set(t), t a tuple of ints -/
def rSetTI (K : PySem.W.Frag) (w : World) : List V → Hp → VK → Prop := fun vs H Q => ∃ (l : Addr) (ns : List Int), vs = [V.ref l] ∧ SqT K H l (ns.map V.int) ∧ ns.length ≤ 1000 ∧
  ∀ (p : Addr) (n : Nat), n ≤ ns.length → H p = none → Q (.ref p) (upd H p (SetO w p (fun j => decide (j ∈ ns)) n))
theorem cr_setTI (hc : X.calm = true) : CallR X (.type "set") (rSetTI X.K X.w) := by
  intro pins s σ H vs us Q I r h
  obtain ⟨l, ns, rfl, hl, hn, q⟩ := h
  obtain ⟨its, rv, pl, hz⟩ := I.tuple hl
  rw [Vals.ref1 r]
  refine call_set_tupI ns (I.ok.hd hc) pl (by simpa using rv.ints) (by unfold scanBound; omega) fun h' tk c R hc keep => ?_
  exact ⟨.ref _, upd H s.heap.objs.size (SetO X.w s.heap.objs.size (fun j => decide (j ∈ ns)) c), I.laid (t' := tk) keep (Nat.le_refl _) (setO_new R), rfl, q _ c hc (I.hok.fresh (Nat.le_refl _))⟩
end
/-- a method with a star parameter: positional promises -/
structure MetR (P : Program) (w : World) (K : PySem.W.Frag) (mg : Str → Option Value) (base : Heap) (k : Nat) (C : Addr) (m : Str) (sp : Sp) : Prop where
  ex : ∃ (f : Addr), Cls K C ∧ Meth K C m f ∧ FnR P w K mg base (L2.CX P w) k f sp
section
variable {X : Cx} {CX : CXT} {k j : Nat} {C f : Addr} {m : Str} {sp : Sp} {E : XK} {o e : Expr} {es : List Expr} {ta : TE} {t : TA} {apos pos : Pos}
theorem pe_mtR {pl : Sem Bool} (c : MetR X.prog X.w X.K X.mg X.base k C m sp) (hr : Room j X.A) (hk : k ≤ j) (hx : Passes (L2.CX X.prog X.w) X E) (he : PE X o ta) (ha : PA X (e :: es) t)
    (hst : starEach (e :: es) X.env = (false, eval e X.env) :: starEach es X.env := by rfl) (hpl : (backTo pos (starEach es X.env)).any (·.1) = false := by rfl)
    (ht : eval (.Call (.Attribute o m apos) (e :: es) [] pos) X.env = (do
      let ov ← eval o X.env; standAt apos.atName; let (f, first) ← holding [ov] (getMethod ov m pl)
      callWith pos f first (backTo pos (starEach (e :: es) X.env)) (backToKw pos (keywordEach [] X.env))) := by rfl) : PE X (.Call (.Attribute o m apos) (e :: es) [] pos) (tMeth C m sp [] E ta t) := by
  obtain ⟨f, hc, hm, F⟩ := c.ex
  refine ⟨fun pins s σ H Q I h => ?_⟩
  refine PySem.W.methodCall_KW (pl := pl) (thn (he.run pins s σ H _ I h) fun u s1 ⟨x, H1, I1, rx, a, dx, fs, ex, ea, l, q⟩ => ?_) ht
  subst ex
  obtain rfl : u = Value.ref a := rx
  refine getmeth_ok I1 ea hc hm l ?_
  refine PySem.W.callWith_K (first := [.ref a]) (h₀ := X.base) I.ok.mod.kin hm.kp (thn (ha.run pos pins s1 σ H1 _ I1 q) fun us s2 ⟨vs, H2, I2, r, q2⟩ => ⟨I2.kIn, ?_⟩) hst hpl
  exact wpAny_call (run_fnR (us := .ref a :: us) (vs := .ref a :: vs) (F.mono hk) hr hx I2 (.cons rfl r) (by simpa using q2))
end
end GX
/-! ### a def with a star parameter as it stands behind the top -/
namespace GX
open PySem PySem.Spec PyProof.Rows L2
/-- the promise by positional values: what is left over comes as one tuple -/
def starSp (m : Nat) (sp : Sp) : Sp := fun vs H Q E => ∃ ws rest, vs = ws ++ rest ∧ ws.length = m ∧ rest.length ≤ sizeLine ∧ ∀ p, H p = none → sp (ws ++ [V.ref p]) (upd H p (.tup rest)) Q E
theorem okStar {P : Program} {w : World} {K : PySem.W.Frag} {mg : Str → Option Value} {base : Heap} {x qual : Str} {st : Stmt} {f : Addr} {fd : FuncData} {N ps : List Str} {pv : Str} {k : Nat} {sp : Sp} (F : L2.Fun K x qual st f fd) (S : FnScope N (ps ++ [pv]) (defScope st))
    (hb : ∀ (kV doc pm : Value) (an : Option Addr) (cdv ct : Value) (us rest : List Value), us.length = ps.length → bindArgs (PySem.W.fnOf x qual (defArgs st) (defBody st) (defScope st) .none kV doc pm an cdv ct) ⟨us ++ rest, []⟩ = (newTuple rest >>= fun t => pure (ps.zip us ++ [(pv, t)])))
    (hbody : ∀ (cdv : Value) (A : Around) (outer : List Env) (s : Shared) (H : Hp) (vs : List V) (Q : VK) (E : XK), Room k (A.deeper (envOfC qual (defScope st) s.heap.objs.size f cdv)) → sp vs H Q E →
      ∃ t, PSs (cxOf (L2.CX P w) P w K mg base N qual (defScope st) f cdv A outer s H E) (defBody st) t ∧ t { nx := fun _ H' => Q .non H', rt := Q } (start N vs) H) : FnR P w K mg base (L2.CX P w) (k + 1) f (starSp ps.length sp) := by
  obtain ⟨oc, od, kV, doc, pm, an, cdv, ct, osl, rfl, lk, hcd⟩ := F.ex
  exact StX.fn_star lk hcd S StX.cxUp (hb kV doc pm an cdv ct) fun A outer s H vs Q E hr hsp => hbody cdv A outer s H vs Q E hr hsp
end GX

/-! ### classmethods of own classes; a class held by a variable -/
namespace GX
open PySem PySem.Spec PyProof.Rows L2
structure CmX (P : Program) (w : World) (K : PySem.W.Frag) (mg : Str → Option Value) (base : Heap) (k : Nat) (C : Addr) (m : Str) (sp : Sp) : Prop where
  ex : ∃ (p g : Addr), ClX.CRead K C (.type "type") ∧ ClX.CMet K C (.type "type") m p g ∧ FnR P w K mg base (L2.CX P w) k g sp
theorem rawX {P : Program} {w : World} {K : PySem.W.Frag} {mg : Str → Option Value} {base : Heap} {k : Nat} {f : Addr} {fd : FuncData} {ps : List Str} {sp : Sp} (F : FnOk P w K mg base (L2.CX P w) k f fd ps sp) (hb : L2.Binds K fd ps []) : FnR P w K mg base (L2.CX P w) k f sp :=
  (F.raw hb .nil).imp fun vs H Q E h => by rw [List.append_nil]; exact h
section
variable {X : Cx} {k j : Nat} {C : Addr} {x m : Str} {sp : Sp} {p pos apos : Pos} {e o : Expr} {es : List Expr} {ta tf : TE} {t : TA} {E : XK}
theorem pe_cmX {pl : Sem Bool} (c : CmX X.prog X.w X.K X.mg X.base k C m sp) (hr : Room j X.A) (hk : k ≤ j) (hx : Passes (L2.CX X.prog X.w) X E) (he : PE X o ta) (ha : PA X (e :: es) t)
    (hst : starEach (e :: es) X.env = (false, eval e X.env) :: starEach es X.env := by rfl) (hpl : (backTo pos (starEach es X.env)).any (·.1) = false := by rfl)
    (ht : eval (.Call (.Attribute o m apos) (e :: es) [] pos) X.env = (do
      let ov ← eval o X.env; standAt apos.atName; let (f, first) ← holding [ov] (getMethod ov m pl)
      callWith pos f first (backTo pos (starEach (e :: es) X.env)) (backToKw pos (keywordEach [] X.env))) := by rfl) : PE X (.Call (.Attribute o m apos) (e :: es) [] pos) (ClX.tCMeth C sp E ta t) := by
  obtain ⟨p, g, r, c, F⟩ := c.ex
  exact ClX.pe_cmeth (pl := pl) he r c F (hr.mono hk) hx ha hst hpl ht
/-- cls(..), cls a variable that holds the class at C -/
def tMakeV (C : Addr) (sp : Sp) (E : XK) (tf : TE) (t : TA) : TE := fun σ H Q => tf σ H fun x H1 => x = .ref C ∧ tMake C sp [] E t σ H1 Q
theorem pe_mkV {y : Str} (c : MakX X.prog X.w X.K X.mg X.base k y C sp) (hr : Room j X.A) (hk : k + 1 ≤ j) (hx : Passes (L2.CX X.prog X.w) X E) (hf : PE X (.Name x p) tf) (ha : PA X (e :: es) t)
    (he : starEach (e :: es) X.env = (false, eval e X.env) :: starEach es X.env := by rfl) (hpl : (backTo pos (starEach es X.env)).any (·.1) = false := by rfl) : PE X (.Call (.Name x p) (e :: es) [] pos) (tMakeV C sp E tf t) := by
  obtain ⟨f, fd, ps, M, F, hm, b⟩ := c.ex
  refine ⟨fun pins s σ H Q I h => ?_⟩
  refine wpAny_Call_Name_kw (thn (hf.run pins s σ H _ I h) fun u s1 ⟨v, H1, I1, rx, ex, q⟩ => ?_)
  subst ex
  obtain rfl : u = Value.ref C := rx
  refine PySem.W.callWith_K (h₀ := X.base) I1.ok.mod.kin M.kp (thn (ha.run pos pins s1 σ H1 _ I1 q) fun us s2 ⟨vs, H2, I2, r, q2⟩ => ⟨I2.kIn, ?_⟩) he hpl
  exact run_make M F (hr.mono hk) b .nil hx I2 r q2
end
end GX
namespace G
open PySem L2
theorem w_cmeth {C : Addr} {sp : Sp} {E : XK} {ta : TE} {t : TA} {σ : L2.St} {H : Hp} {Q : VK} (h : ta σ H fun x H1 => x = .ref C ∧ t σ H1 fun vs H2 => sp (.ref C :: vs) H2 Q E) : ClX.tCMeth C sp E ta t σ H Q := h
theorem w_makeV {C : Addr} {sp : Sp} {E : XK} {tf : TE} {t : TA} {σ : L2.St} {H : Hp} {Q : VK} (h : tf σ H fun x H1 => x = .ref C ∧ tMake C sp [] E t σ H1 Q) : GX.tMakeV C sp E tf t σ H Q := h
theorem w_isref {C : Addr} {P : Prop} (q : P) : V.ref C = .ref C ∧ P := ⟨rfl, q⟩
end G

/-! ### super().__init__(e) in an own exception's __init__ -/
namespace GS
open PySem PySem.Spec PyProof.Rows L2 PySem.W
/-- ValueError.__init__ bound to the object a -/
def mwO (a u : Addr) : HO := .ext fun h => h.get? u = some (kxs_mw "ValueError.__init__" a)
theorem mwO_ok {P : Program} {w : World} {H : Hp} {h : Heap} {a u : Addr} (e : h.get? u = some (kxs_mw "ValueError.__init__" a)) : ObjOk P w H h u (mwO a u) :=
  ⟨e, ⟨_, e⟩, fun h1 h2 z k => k _ z⟩
theorem mwO_at {P : Program} {w : World} {H : Hp} {h : Heap} {a u : Addr} (hok : HOk P w H h) (e : H u = some (mwO a u)) : h.get? u = some (kxs_mw "ValueError.__init__" a) := by
  have x : ObjOk P w H h u (.ext fun h => h.get? u = some (kxs_mw "ValueError.__init__" a)) := hok u _ e
  exact x.1
/-- what the written part says of the object's class -/
structure SupC (K : PySem.W.Frag) (C D : Addr) : Prop where
  oex : OexC K C
  sub : mroIn K C (.ref D) = some true
  op : nsIn K cStatics "thirdparty.any" = some none
  ini : ks_superIn K C D "__init__" = some (some (.builtin "ValueError.__init__"))
  ve : subIn K (.ref C) (.type "ValueError") = some true
/-- .. of the function, its cell and its code -/
structure SupF (K : PySem.W.Frag) (P : Program) (f D cc cda : Addr) (fd : FuncData) : Prop where
  fn : ∃ oc od osl, K.lookup f = some ⟨oc, od, .func fd, osl⟩
  cell : ∃ cl cld csl, K.lookup cc = some ⟨cl, cld, .cell (some (.ref D)), csl⟩
  code : ∃ (ccl : Value) (cdd : Option Addr) (vs : Array Value) (ccs : Array (Option Value)) (file : Str) (tf : Tok), K.lookup cda = some ⟨ccl, cdd, .fields vs, ccs⟩ ∧ vs[2]? = some (.str file tf) ∧ ((P.main.file : Str) == file) = true
  cls : ∃ cd, clsIn K D = some cd
section
variable {X : Cx} {pins : List (Addr × Obj)} {σ : L2.St} {H : Hp} {s : Shared} {a C D f cc cda : Addr} {fd : FuncData}
theorem sup_base {E : Value → Shared → Prop} {body : List Stmt} {p0 p1 : Pos} {whole : Sem Value} {x : Str} {ar : Arg} {Q : Value → Shared → Prop} (I : Inv X pins σ H s)
    (hks : X.env.kindOf "super" = some .globalImplicit) (hkc : X.env.kindOf "__class__" = some .free) (hfu : X.env.func = some f) (F : SupF X.K X.prog f D cc cda fd) (hp : (fd.params.posonlyargs ++ fd.params.args).head? = some ar)
    (hax : ar.arg = x) (hN : X.N[0]? = some x) (hσ : σ[0]? = some (some (.ref a))) (hx : X.env.kindOf x = some .local) (hco : X.env.code = .ref cda) (hcc : X.env.cells.lookup ("__class__" : Str) = some cc)
    (htop : (X.prog.main.scope.names.lookup ("super" : Str)).isSome = false) (hm : X.mg "super" = none) (ha : H a = some (exo a C none)) (SC : SupC X.K C D)
    (h : ∀ so s', Inv X pins σ H s' → s'.heap.get? so = some (ks_superObj D a C) → Q (.ref so) s') :
    _root_.PySem.wpAt (model X.prog X.w) X.A (.func body X.env) (attributeBase (.Call (.Name "super" p0) [] [] p1) "__init__" X.env whole) Q E s := by
  have KX : X.K.In s.heap := I.kIn
  obtain ⟨oc, od, osl, lk⟩ := F.fn
  obtain ⟨cl, cld, csl, lc⟩ := F.cell
  obtain ⟨ccl, cdd, vs, ccs, file, tf, lcd, hvs, hfile⟩ := F.code
  obtain ⟨cdD, hD⟩ := F.cls
  obtain ⟨mb, b1, b2⟩ := I.mod.blt
  obtain ⟨oD, hD1, hD2⟩ : ∃ oD, s.heap.get? D = some oD ∧ oD.data = .cls cdD := by
    unfold clsIn at hD
    split at hD
    · rename_i c d cd' sl ho
      cases hD
      exact ⟨_, KX _ _ ho, rfl⟩
    · cases hD
  subst hax
  refine ks_wpAt_super_base (env := X.env) hks hkc (by decide) hfu (KX _ _ lk) rfl hp hco (KX _ _ lcd) rfl hvs hfile htop ?_
  refine ks_loadName_global I.ok.kind hks (Calls.loadGlobal_builtin (by rw [I.ok.glob]; exact I.mod.glob.keeps I.bk) hm (by rw [I.ok.blt]; exact b1.keeps I.bk) ((b2 "super" (by decide)).trans (by kernel_rfl)) ⟨rfl, ?_⟩)
  refine wpAny_loadName_free I.ok.kind hkc hcc ⟨_, KX _ _ lc, rfl⟩ ?_
  obtain ⟨m, hn, hl⟩ := I.loc
  obtain ⟨u, r, l⟩ := hl 0 _ _ hN hσ (.inl hx)
  obtain rfl : u = .ref a := r
  rcases l with ⟨hk, hm2⟩ | ⟨hk, c, hc, hcell⟩
  · refine wpAny_loadName_local I.ok.kind hk hn hm2 ?_
    refine ks_wpAny_isType_cls hD1 hD2 ⟨rfl, ?_⟩
    obtain ⟨t1, ho⟩ := exo_at I.hok ha
    obtain ⟨hh, g, d, t, os⟩ := s
    refine ks_wpAny_call_super hD1 hD2 ho rfl (fun c e => nomatch e) (looks_mroIn KX SC.sub) (fun h' e k => ?_)
    exact h _ _ (I.kept (t' := t) k) e
  · have hx : X.env.scope.names.lookup ar.arg = some .local := hx
    rcases hk with hk | hk
    · have hk : X.env.scope.names.lookup ar.arg = some .cell := hk
      rw [hx] at hk; cases hk
    · have hk : X.env.scope.names.lookup ar.arg = some .free := hk
      rw [hx] at hk; cases hk
theorem sup_get {E : Value → Shared → Prop} {so : Addr} {pl : Sem Bool} {Q : Value × List Value → Shared → Prop} (I : Inv X pins σ H s) (hso : s.heap.get? so = some (ks_superObj D a C)) (ha : H a = some (exo a C none)) (SC : SupC X.K C D)
    (h : ∀ u s', H u = none → Inv X pins σ (upd H u (mwO a u)) s' → Q (.ref u, []) s') : wpAny (model X.prog X.w) X.A (getMethod (.ref so) "__init__" pl) Q E s := by
  have KX : X.K.In s.heap := I.kIn
  obtain ⟨t1, ho⟩ := exo_at I.hok ha
  have IA : InstAt s.heap a _ C none := ⟨ho, rfl, rfl, trivial⟩
  have hI : Looks (model X.prog X.w) s.heap (isInstance (.ref a) (.type "ValueError")) true := IA.type.andThen (looks_subIn KX SC.ve)
  have hm := SC.ini
  cases hc : clsIn X.K C with
  | none => unfold ks_superIn at hm; rw [hc] at hm; cases hm
  | some cd =>
    unfold ks_superIn at hm
    rw [hc] at hm
    have nH : H s.heap.objs.size = none := I.hok.fresh (Nat.le_refl _)
    obtain ⟨hh, g, d, t, os⟩ := s
    refine kxs_getMethod kxs_ValueError hso (looks_opaque KX SC.op) (l₀ := cd.mro) ?_ rfl KX hm hI (ks_ne KX IA hc) (by decide) ?_
    · exact fun A Q E s k q => wpAny_bind ((looks_clsIn KX hc) A _ E s k (wpAny_pure q))
    · exact h _ _ nH (I.laid (t' := t + 1) (fun b u e => Heap.get?_push_of_some _ e) (Nat.le_refl _) (mwO_ok (Heap.get?_push_size _ rfl)))
theorem sup_call {E : Value → Shared → Prop} {u : Addr} {rest : List Value} {Q : Value → Shared → Prop} (I : Inv X pins σ H s) (hu : H u = some (mwO a u)) (ha : H a = some (exo a C none)) (SC : SupC X.K C D) (hz : rest.length ≤ sizeLine)
    (h : ∀ s', Inv X pins σ H s' → Q .none s') : wpAny (model X.prog X.w) X.A (call (.ref u) rest) Q E s := by
  obtain ⟨nm, q, N, bs, bm, sn, sub, ab, col, dd, k0, k1, k2, k3, k5, hC, hbm⟩ := SC.oex.cls
  obtain ⟨t1, ho⟩ := exo_at I.hok ha
  have hu := mwO_at I.hok hu
  have fin : ∀ h', (∀ b o, b ≠ a → s.heap.get? b = some o → h'.get? b = some o) → h'.get? a = some (excObj C s.heap.objs.size none .none) → Q .none { s with heap := h' } := fun h' k e' => by
    have J := I.write (t' := s.toks) (x := a) (e := a) (o := exo a C none) (by rw [ha]; exact True.intro) (.inl rfl) k ⟨_, e'⟩ (exo_ok e')
    have eu : upd H a (exo a C none) = H := by
      funext b
      by_cases hb : b = a
      · rw [hb, upd_same, ha]
      · rw [upd_ne hb]
    rw [eu] at J
    exact h _ J
  obtain ⟨hh, g, d, tk, os⟩ := s
  refine wpAny_call (codeAny_of_tree ?_)
  show wpAny _ X.A.in1 (callAny (.ref u) ⟨rest, []⟩) _ _ _
  simp only [callAny]
  refine wpAny_bind (wpAny_load hu ?_)
  simp only [kxs_mw, show (Value.type "method-wrapper" == Value.type "method" || Value.type "method-wrapper" == Value.type "builtin_function_or_method" || Value.type "method-wrapper" == Value.type "method-wrapper") = true by decide, if_true]
  refine KFB.if_so (by decide) ?_
  refine wpAny_bind (check_bound_init F.excBase_ValueError.toExcCallFacts (I.kIn _ _ hC) ho rfl ?_)
  refine wpAny_bind (wpAny_pure (wpAny_pure ?_))
  refine ⟨plainId_quiet F.excBase_ValueError.init.plain _, codeAny_builtin F.excBase_ValueError.initEntry ?_⟩
  exact exc_init_tree (cls := .ref C) (t0 := t1) (dv := none) (c2 := .none) (c3 := .none) (b4 := .bool false) ho hz fun h' k e' _ => fin h' k e'
/-- super().__init__(e), a statement of its own -/
theorem sup_eval {body : List Stmt} {p0 p1 ap pos : Pos} {x : Str} {ar : Arg} {e : Expr} {te : TE} {Q : VK} (I : Inv X pins σ H s)
    (hks : X.env.kindOf "super" = some .globalImplicit) (hkc : X.env.kindOf "__class__" = some .free) (hfu : X.env.func = some f) (F : SupF X.K X.prog f D cc cda fd) (hp : (fd.params.posonlyargs ++ fd.params.args).head? = some ar)
    (hax : ar.arg = x) (hN : X.N[0]? = some x) (hσ : σ[0]? = some (some (.ref a))) (hx : X.env.kindOf x = some .local) (hco : X.env.code = .ref cda) (hcc : X.env.cells.lookup ("__class__" : Str) = some cc)
    (htop : (X.prog.main.scope.names.lookup ("super" : Str)).isSome = false) (hm : X.mg "super" = none) (ha : H a = some (exo a C none)) (SC : SupC X.K C D) (he : PE X e te)
    (hq : ∀ u, H u = none → te σ (upd H u (mwO a u)) fun _ H1 => H1 u = some (mwO a u) ∧ H1 a = some (exo a C none) ∧ Q .non H1) {pl : Sem Bool}
    (hev : eval (.Call (.Attribute (.Call (.Name "super" p0) [] [] p1) "__init__" ap) [e] [] pos) X.env = (do
      let ov ← attributeBase (.Call (.Name "super" p0) [] [] p1) "__init__" X.env (eval (.Call (.Name "super" p0) [] [] p1) X.env)
      standAt ap.atName
      let (f, first) ← holding [ov] (getMethod ov "__init__" pl)
      callWith pos f first (backTo pos (starEach [e] X.env)) []))
    (hst : starEach [e] X.env = [(false, eval e X.env)]) :
    _root_.PySem.wpAt (model X.prog X.w) X.A (.func body X.env) (eval (.Call (.Attribute (.Call (.Name "super" p0) [] [] p1) "__init__" ap) [e] [] pos) X.env) (EP X pins σ Q) X.xe s := by
  refine ks_wpAt_MethodCall (pl := pl) (sup_base I hks hkc hfu F hp hax hN hσ hx hco hcc htop hm ha SC fun so s1 I1 hso => ?_) hev
  refine sup_get I1 hso ha SC fun u s2 hu I2 => ?_
  have hq := hq u hu
  rw [hst]
  refine kxs_callWith (i := "ValueError.__init__") (x := a) rfl (Calls.evalArgs_plain ?_)
  show wpAny _ _ (spliced ((false, eval e X.env) :: backTo pos [])) _ _ s2
  refine Calls.spliced_cons (thn (he.run pins s2 σ _ _ I2 hq) fun v s3 ⟨y, H1, I3, ry, h1, h2, h3⟩ => ?_)
  refine Calls.spliced_nil ⟨mwO_at I3.hok h1, ?_⟩
  exact sup_call I3 h1 h2 SC (by show 1 ≤ sizeLine; decide) fun s4 I4 => ⟨.non, H1, I4, rfl, h3⟩
end
end GS

namespace GS
open PySem PySem.Spec PyProof.Rows L2 PySem.W NdefX
section
variable {CX : CXT} {P : Program} {w : World} {K : PySem.W.Frag} {mg : Str → Option Value} {base : Heap} {k : Nat} {f D cc cda : Addr} {name qual : Str} {params : Arguments} {rest : List Stmt} {scope : Scope} {dV kV doc pm ct oc : Value} {an od : Option Addr}
  {osl : Array (Option Value)} {N ps : List Str} {sp : Sp} {e : Expr} {p0 p1 ap p2 p3 : Pos} {x : Str} {ar : Arg}
/-- the whole def's words -/
abbrev supNF (name qual : Str) (params : Arguments) (body : List Stmt) (scope : Scope) (cc cda : Addr) : NF := ⟨name, qual, params, body, scope, [("__class__", cc)], cda⟩
abbrev supSt (e : Expr) (p0 p1 ap p2 p3 : Pos) : Stmt := .Expr (.Call (.Attribute (.Call (.Name "super" p0) [] [] p1) "__init__" ap) [e] [] p2) p3
theorem fnSup_of (lk : K.lookup f = some ⟨oc, od, .func (ksFn name qual params (supSt e p0 p1 ap p2 p3 :: rest) scope dV kV doc pm an (.ref cda) ct cc), osl⟩) (hcd : codeIn K (.ref cda) qual = true) (S : NScope N ps ["__class__"] scope)
    (F : SupF K P f D cc cda (ksFn name qual params (supSt e p0 p1 ap p2 p3 :: rest) scope dV kV doc pm an (.ref cda) ct cc)) (hp : (params.posonlyargs ++ params.args).head? = some ar) (hax : ar.arg = x) (hN : N[0]? = some x) (hx : scope.names.lookup x = some .local)
    (hks : scope.names.lookup ("super" : Str) = some .globalImplicit) (htop : (P.main.scope.names.lookup ("super" : Str)).isSome = false) (hm : mg "super" = none)
    {pl : Sem Bool} (hev : ∀ env : Env, eval (.Call (.Attribute (.Call (.Name "super" p0) [] [] p1) "__init__" ap) [e] [] p2) env = (do
      let ov ← attributeBase (.Call (.Name "super" p0) [] [] p1) "__init__" env (eval (.Call (.Name "super" p0) [] [] p1) env)
      standAt ap.atName
      let (f, first) ← holding [ov] (getMethod ov "__init__" pl)
      callWith p2 f first (backTo p2 (starEach [e] env)) []))
    (hst : ∀ env : Env, starEach [e] env = [(false, eval e env)]) (hsw : ∀ env : Env, swapsWith (.Call (.Attribute (.Call (.Name "super" p0) [] [] p1) "__init__" ap) [e] [] p2) none p3.line env = pure false)
    (len : ∀ vs H Q E, sp vs H Q E → vs.length = ps.length)
    (hbody : ∀ (A : Around) (outer : List Env) (s : Shared) (H : Hp) (vs : List V) (Q : VK) (E : XK), Room k (A.deeper (envF (supNF name qual params (supSt e p0 p1 ap p2 p3 :: rest) scope cc cda) f s.heap.objs.size)) → sp vs H Q E →
      ∃ (te : TE) (t : TS) (a C : Addr), PE (ncx CX P w K mg base N (supNF name qual params (supSt e p0 p1 ap p2 p3 :: rest) scope cc cda) f A outer s H E) e te ∧ PSs (ncx CX P w K mg base N (supNF name qual params (supSt e p0 p1 ap p2 p3 :: rest) scope cc cda) f A outer s H E) rest t ∧
        (startF N vs [none])[0]? = some (some (.ref a)) ∧ H a = some (exo a C none) ∧ SupC K C D ∧
        ∀ u, H u = none → te (startF N vs [none]) (upd H u (mwO a u)) fun _ H1 => H1 u = some (mwO a u) ∧ H1 a = some (exo a C none) ∧ t { nx := fun _ H' => Q .non H', rt := Q } (startF N vs [none]) H1) :
    FnOk P w K mg base CX (k + 1) f (ksFn name qual params (supSt e p0 p1 ap p2 p3 :: rest) scope dV kV doc pm an (.ref cda) ct cc) ps sp := by
  refine ⟨len, fun A outer s H args us vs Q E hr e0 hb r hsp => ?_⟩
  have hl := len _ _ _ _ hsp
  have KX : K.In s.heap := e0.mod.kin.keeps fun b o e => (e0.bs b o e).1
  have lim : s.heap.NoLimit := e0.mod.nolimit.keeps fun b o e => (e0.bs b o e).1
  refine ks_codeAny_call_defAt (fd := ksFn name qual params (supSt e p0 p1 ap p2 p3 :: rest) scope dV kV doc pm an (.ref cda) ct cc) (body := supSt e p0 p1 ap p2 p3 :: rest) (binds := ps.zip us) hr.depth (KX _ _ lk) rfl lim (codeRec_of KX hcd) rfl hb S.nocell
    (fun ⟨n, _⟩ hy => S.par n (List.of_mem_zip hy).1) (fun h₁ hns kp => ?_) S.co S.gen S.kind
  obtain ⟨te, t, a, C, he, ht, ha0, ha, SC, hq⟩ := hbody A outer s H vs Q E (hr.deeper _) hsp
  obtain ⟨cl, cld, csl, lc⟩ := F.cell
  have lk1 : ∀ (y : Str) (c : Addr), List.lookup y [(("__class__" : Str), cc)] = some c → y = "__class__" ∧ c = cc := fun y c z => by
    by_cases h : y = "__class__"
    · subst h
      simp [List.lookup] at z
      exact ⟨rfl, z.symm⟩
    · have : (y == ("__class__" : Str)) = false := by simp [h]
      simp [List.lookup, this] at z
  have C' : CellsAt (supNF name qual params (supSt e p0 p1 ap p2 p3 :: rest) scope cc cda).cl ["__class__"] [none] s.heap H := by
    refine ⟨rfl, fun y c z => ?_, fun y z c h1 h2 => ?_, fun i y hi => ?_⟩
    · obtain ⟨_, rfl⟩ := lk1 y c z
      have hb : base.get? c = some _ := e0.mod.kin _ _ lc
      exact ⟨(e0.bs _ _ hb).2, some (.ref D), _, KX _ _ lc, rfl⟩
    · rw [(lk1 y c h1).1, (lk1 z c h2).1]
    · rcases i with _ | i
      · have : y = "__class__" := by simpa using hi.symm
        subst this
        exact ⟨cc, by show List.lookup _ _ = _; simp [List.lookup], fun v z => by simp at z⟩
      · simp at hi
  have I : Inv (ncx CX P w K mg base N (supNF name qual params (supSt e p0 p1 ap p2 p3 :: rest) scope cc cda) f A outer s H E) [] (startF N vs [none]) H { s with heap := h₁, toks := s.toks + (ps.zip us).length } := inv_startN S hr.hd e0 hl r C' hns kp
  have hcc : List.lookup ("__class__" : Str) [(("__class__" : Str), cc)] = some cc := by simp [List.lookup]
  refine ks_wpAt_execs_cons (ks_wpAt_Expr_any (ks_wpAt_mono (sup_eval (Q := fun _ H1 => t { nx := fun _ H' => Q .non H', rt := Q } (startF N vs [none]) H1) (x := x) (f := f) (D := D) (cc := cc) (cda := cda) (fd := ksFn name qual params (supSt e p0 p1 ap p2 p3 :: rest) scope dV kV doc pm an (.ref cda) ct cc) (body := supSt e p0 p1 ap p2 p3 :: rest) I hks (S.frk "__class__" List.mem_cons_self) rfl F hp hax hN ha0 hx rfl hcc htop hm ha SC he hq (hev _) (hst _)) (fun v s' hv => ?_) fun _ _ h' => h') I.quiet (hsw _))
  obtain ⟨y, H1, I1, _, hq1⟩ := hv
  refine wpAt_of_wpAny (wpAny_mono (ht.run [] s' _ H1 _ I1 hq1) (fun fl s'' hs => ?_) fun _ _ h' => h')
  have fin : ∀ {σ' : L2.St} {H' : Hp} {v : V} {u : Value}, Inv (ncx CX P w K mg base N (supNF name qual params (supSt e p0 p1 ap p2 p3 :: rest) scope cc cda) f A outer s H E) [] σ' H' s'' → L2.RelV v u → Q v H' → CE outer P w H s Q u s'' :=
    fun {σ' H' v u} J rv q => ⟨v, H', J.os, J.bare, J.base, J.hok, rv, q⟩
  cases fl with
  | ret u =>
    obtain ⟨v, σ', H', J, rv, q⟩ := hs
    exact fin J rv q
  | next =>
    obtain ⟨σ', H', J, q⟩ := hs
    exact fin (v := V.non) (u := Value.none) J rfl q
  | brk =>
    obtain ⟨_, _, _, q⟩ := hs
    exact False.elim q
  | cont =>
    obtain ⟨_, _, _, q⟩ := hs
    exact False.elim q
end
end GS

/-! ### str(list of ints): some text, whatever runs -/
namespace GS
open PySem Sem PySem.Spec PyProof.Rows L2
section
variable {M : Model} {A : Around} {E : Value → Shared → Prop} {s : Shared} {a : Addr} {o : Obj} {x : Value} {l : List Value} {n b : Nat}
theorem lrep_head {Q : Fin → Shared → Prop} (hget : s.heap.get? a = some o) (hd : o.data = .seq (x :: l).toArray n) (h2 : Q (.done (.ret (.str "[...]" s.toks))) { s with toks := s.toks + 1 })
    (h : wpAny M A (do again (.builtin "list.__repr__.loop" ⟨[.ref a, rawInt 0, ← newList [], rawInt b], []⟩)) Q E s) : wpAny M A (Builtin.listReprAt b ⟨[.ref a], []⟩) Q E s := by
  intro Γ p hΓ
  have h1 := h Γ p hΓ
  unfold Builtin.listReprAt
  simp [slotArgs, Builtin.List.listItems, seqItems?, wp_load_of (h := hget), hd, PySem.stack]
  show wp M Γ (if (Γ.below.any _) = true then _ else _) _ _ p s
  split
  · simp [PySem.rule, retStr, ret]
    exact h2
  · exact h1
end
section
variable {prog : Program} {w : World} {A : Around} {E : Value → Shared → Prop} {s : Shared} {a : Addr} {oa : Obj} {na : Nat} {vs : List Value} {ts : List Str}
theorem lrep_fin {R : Result → Shared → Prop} {x : Value} {l : List Value} (ha : s.heap.get? a = some oa) (hda : oa.data = .seq (x :: l).toArray na) (hlen : ts.length = (x :: l).toArray.size)
    (hT : ∀ (i : Nat) (y : Value), (x :: l).toArray[i]? = some y → ∃ t, ts[i]? = some t ∧ ReprIs prog w y t)
    (hR : ∀ t h' u tk, (∀ b o, s.heap.get? b = some o → h'.get? b = some o) → R (.ok (.ret (.str t u))) { s with heap := h', toks := tk })
    (hsz : (listText ts).length ≤ sizeLine) :
    wpAny (model prog w) A.in1 (Builtin.listReprAt 0 ⟨[.ref a], []⟩)
      (fun fin s' => match fin with | .done f => R (.ok f) s' | .again c' => c'.quiet = true ∧ codeAny (model prog w) A c' R s') (fun e s' => R (.error e) s') s := by
  refine lrep_head (A := A.in1) ha hda (hR _ _ _ _ fun b o e => e) ?_
  refine wpAny_bind (m := newList []) (wpAny_newObj_type ?_)
  refine wpAny_pure ⟨F.quiet_list_repr_loop _, ?_⟩
  refine codeAny_list_repr_start (P := s.heap.objs.size) (Nat.ne_of_lt (Heap.lt_size ha)) hlen hT (Heap.get?_push_of_some _ ha) hda (Heap.get?_push_size _ rfl) (fun h' u tk hk => ?_) (by omega)
  exact hR _ h' u tk fun b o e => hk b o (Nat.ne_of_lt (Heap.lt_size e)) (Heap.get?_push_of_some _ e)
theorem lrep_call {Q : Value → Shared → Prop} (hTy : s.TypeIs (.ref a) "list") (ha : s.heap.get? a = some oa) (hda : oa.data = .seq vs.toArray na) (hlen : ts.length = vs.length)
    (hT : ∀ (i : Nat) (y : Value), vs[i]? = some y → ∃ t, ts[i]? = some t ∧ ReprIs prog w y t)
    (hQ : ∀ t h' u tk, (∀ b o, s.heap.get? b = some o → h'.get? b = some o) → Q (.str t u) { s with heap := h', toks := tk })
    (hsz : (listText ts).length ≤ sizeLine) : wpAny (model prog w) A (call (.builtin "list.__repr__") [.ref a]) Q E s := by
  cases vs with
  | nil => exact call_list_repr_empty hTy ha (by simpa using hda) (hQ _ s.heap _ _ fun b o e => e)
  | cons x l =>
    exact wpAny_call (codeAny_call_builtin F.slot_list_repr.plain F.entry_list_repr (F.slot_list_repr.check _ _ _ _ _ _ _ _ hTy (F.args_list_repr_1 _)
      (lrep_fin (R := fun r s' => match r with | .ok (.ret v) => Q v s' | .ok _ => False | .error e => E e s') ha hda (by simpa using hlen) (fun i y e => hT i y (by simpa using e)) hQ hsz)))
end
/-- the texts of ints, and how long -/
theorem toString_small {i : Int} (h0 : 0 ≤ i) (h1 : i < 1000000) : (Str.ofString (toString i)).length ≤ 6 ∧ i.natAbs.log2 < 1920 := by
  obtain ⟨n, rfl⟩ : ∃ n : Nat, i = (n : Int) := ⟨i.toNat, by omega⟩
  have hn : n < 10 ^ 6 := by omega
  constructor
  · have e : (Str.ofString (toString ((n : Nat) : Int))).length = (TL.tl (Str.ofString (toString ((n : Nat) : Int)))).length := by
      show Array.size _ = (Array.toList _).length
      rw [Array.length_toList]
    rw [e, TL.tl_num]
    exact TL.numL_len (by decide) hn
  · rw [Int.natAbs_natCast]
    by_cases z : n = 0
    · subst z; decide
    · refine (Nat.log2_lt z).mpr (Nat.lt_of_lt_of_le hn ?_)
      exact Nat.le_trans (by decide : 10 ^ 6 ≤ 2 ^ 20) (Nat.pow_le_pow_right (by decide) (by decide))
theorem textFrom_le : ∀ (ts : List Str) (k : Nat) (acc : Str), (textFrom k acc ts).length ≤ acc.length + piled ts
  | [], _, acc => Nat.le_add_right _ _
  | t :: r, k, acc => by
    have ih := textFrom_le r (k + 1) (acc ++ (if k > 0 then ", " else "" : String) ++ t)
    have e : (acc ++ (if k > 0 then ", " else "" : String) ++ t).length ≤ acc.length + 2 + t.length := by
      rw [strLen_append, strLen_append]
      split
      · exact Nat.le_refl _
      · show acc.length + 0 + t.length ≤ _; omega
    show (textFrom (k + 1) _ r).length ≤ _
    rw [piled_cons]; omega
theorem piled_small : ∀ {ts : List Str}, (∀ t ∈ ts, t.length ≤ 6) → piled ts ≤ 8 * ts.length
  | [], _ => Nat.le_refl _
  | t :: r, h => by
    have a := h t List.mem_cons_self
    have b := piled_small (ts := r) fun u hu => h u (List.mem_cons_of_mem _ hu)
    rw [piled_cons, List.length_cons]; omega
theorem listText_small {ts : List Str} (h : ∀ t ∈ ts, t.length ≤ 6) (hl : ts.length ≤ 1000) : (listText ts).length ≤ sizeLine := by
  have a := textFrom_le ts 0 "["
  have b := piled_small h
  have e : (listText ts).length = (textFrom 0 "[" ts).length + 1 := by
    show (textFrom 0 "[" ts ++ "]").length = _
    rw [strLen_append]; rfl
  have c : ("[" : Str).length = 1 := rfl
  rw [e, sizeLine_eq]
  omega
def rStrL (K : PySem.W.Frag) : List V → Hp → VK → Prop := fun xs H Q => ∃ (p : Addr) (ns : List Int), xs = [.ref p] ∧ SqL K H p (ns.map V.int) ∧ ns.length ≤ 1000 ∧ (∀ n ∈ ns, 0 ≤ n ∧ n < 1000000) ∧ ∀ t, Q (.str t) H
theorem call_strL {X : Cx} (hu : X.A.units + 65 < cLine) : CallR X (.type "str") (rStrL X.K) := by
  intro pins s σ H xs us Q I r h
  obtain ⟨p, ns, rfl, hq, hl, hb, q⟩ := h
  cases r with
  | cons r rr =>
    cases rr
    cases r
    obtain ⟨its, rv, pl, hz⟩ := I.list hq
    obtain ⟨o, k, e1, e2, e3, e4⟩ := pl
    have hTy : s.TypeIs (.ref p) "list" := ⟨o, e1, e2⟩
    have hlen := rv.length
    rw [List.length_map] at hlen
    have hT : ∀ (prog : Program) (w : World) (i : Nat) (y : Value), its[i]? = some y → ∃ t, (ns.map fun n => Str.ofString (toString n))[i]? = some t ∧ ReprIs prog w y t := fun prog w i y hy => by
      have il : i < ns.length := by rw [hlen]; exact (List.getElem?_eq_some_iff.mp hy).1
      obtain ⟨u, hu2, ru⟩ := rv.get (i := i) (x := V.int ns[i]) (by rw [List.getElem?_map, List.getElem?_eq_getElem il]; rfl)
      rw [hy] at hu2
      cases hu2
      obtain ⟨t, rfl⟩ := ru
      exact ⟨_, by rw [List.getElem?_map, List.getElem?_eq_getElem il]; rfl, ReprIs.int t (toString_small (hb _ (List.getElem_mem il)).1 (hb _ (List.getElem_mem il)).2).2⟩
    have hsz : (listText (ns.map fun n => Str.ofString (toString n))).length ≤ sizeLine := listText_small (fun t ht => by
      obtain ⟨n, hn, rfl⟩ := List.mem_map.mp ht
      exact (toString_small (hb n hn).1 (hb n hn).2).1) (by rw [List.length_map]; exact hl)
    refine callType_new F.called_str (by decide) (F.typeCall_str_1 _) (F.newCall_str_1 _) (fun obj => F.args_object_init_2 obj _) F.entry_str_new
      (meets_str_new (S := fun A' R s' => A'.units + 3 < cLine ∧ s'.heap.get? p = some o ∧ ∀ t h' u tk, (∀ b o, s'.heap.get? b = some o → h'.get? b = some o) → R (.ok (.ret (.str t u))) { s' with heap := h', toks := tk })
        fun prog' w' A' R s' h => wpAny_strOf_slot rfl (by show A'.units + 1 + 1 < cLine; have := h.1; omega) (T := "list") ⟨o, h.2.1, e2⟩ F.slot_list_str F.slot_list_repr.toG
          (lrep_call ⟨o, h.2.1, e2⟩ h.2.1 e4 (by rw [List.length_map]; exact hlen) (hT prog' w') (fun t h' u tk hk => ⟨_, _, rfl, h.2.2 t h' u tk hk⟩) hsz))
      ⟨by show X.A.units + 1 + 3 < cLine; omega, e1, fun t h' u tk hk => ⟨typeIs_str _ _ _, ⟨.str t, H, I.kept hk, ⟨_, rfl⟩, q t⟩⟩⟩
end GS

/-! ### the promise of LotError.__init__ -/
namespace GS
open PySem PySem.Spec PyProof.Rows L2 PySem.W NdefX
/-- self.lot = list(lot), in an object of the class C below D -/
def sp_lot (K : PySem.W.Frag) (D : Addr) : Sp := fun vs H Q _ => ∃ (a l C : Addr) (R : List Int), vs = [.ref a, .ref l] ∧ SupC K C D ∧ findIn K (.ref C) "lot" = some none ∧ H a = some (exo a C none) ∧ SqL K H l (R.map V.int) ∧ R.length ≤ 900 ∧ (∀ n ∈ R, 0 ≤ n ∧ n < 1000000) ∧
  ∀ (dx l' : Addr) (H' : Hp), H dx = none → H l' = none → (∀ b o, b ≠ a → H b = some o → H' b = some o) → H' a = some (exo a C (some dx)) → H' dx = some (exd dx [("lot", .ref l')]) → H' l' = some (.lst (R.map V.int)) → Q .non H'
abbrev te_lot (K : PySem.W.Frag) : TE := tCB (rStrL K) (tCons (tCB (G.oListOf K) (tCons (tVar 1) tNil)) tNil)
abbrev t_lot (K : PySem.W.Frag) : TS := tOst K "lot" (tVar 0) (tCB (G.oListOf K) (tCons (tVar 1) tNil))
theorem exo_lst {a C : Addr} {d : Option Addr} {xs : List V} : exo a C d ≠ .lst xs := fun z => by
  have z' : HO.ext _ = HO.lst xs := z
  cases z'
theorem exd_lst {a : Addr} {fs : List (Str × V)} {xs : List V} : exd a fs ≠ .lst xs := fun z => by
  have z' : HO.ext _ = HO.lst xs := z
  cases z'
theorem free_of {H : Hp} {p q : Addr} {o : HO} (h : upd H p o q = none) : H q = none := by
  cases e : H q with
  | none => rfl
  | some u =>
    by_cases hn : q = p
    · rw [hn, upd_same] at h; cases h
    · rw [upd_ne hn, e] at h; cases h
theorem rd_lot {K : PySem.W.Frag} {D : Addr} {vs : List V} {H : Hp} {Q : VK} {E : XK} {p1 p2 p3 : Str} (h : sp_lot K D vs H Q E) :
    ∃ a C, (startF [p1, p2, p3] vs [none])[0]? = some (some (.ref a)) ∧ H a = some (exo a C none) ∧ SupC K C D ∧ ∀ u, H u = none → te_lot K (startF [p1, p2, p3] vs [none]) (upd H u (mwO a u)) fun _ H1 => H1 u = some (mwO a u) ∧ H1 a = some (exo a C none) ∧
      t_lot K { nx := fun _ H' => Q .non H', rt := Q } (startF [p1, p2, p3] vs [none]) H1 := by
  obtain ⟨a, l, C, R, rfl, SC, hno, ha, hl, hlen, hb, q⟩ := h
  refine ⟨a, C, rfl, ha, SC, fun u hu => ?_⟩
  have e1 : Same H (upd H u (mwO a u)) := G.same_new hu
  have l1 := e1.seq hl
  have u1 : (upd H u (mwO a u)) u = some (mwO a u) := upd_same
  have a1 := e1 _ _ ha
  generalize upd H u (mwO a u) = H1 at e1 l1 u1 a1
  refine ⟨_, rfl, l, _, rfl, .inl l1, fun x hx => ⟨x, R, rfl, SqL.of upd_same, by omega, hb, fun t => ?_⟩⟩
  have e2 := e1.trans (G.same_new (o := .lst (R.map V.int)) hx)
  refine ⟨G.keep u1 hx, G.keep a1 hx, ?_⟩
  have a2 := e2 _ _ ha
  have l2 := e2.seq hl
  generalize upd H1 x (.lst (R.map V.int)) = H2 at e2 a2 l2
  refine ⟨_, rfl, l, _, rfl, .inl l2, fun y hy => ⟨_, rfl, a, C, rfl, SC.oex, hno, .inl ⟨G.keep a2 hy, fun dx hdx ndx => ?_⟩⟩⟩
  have hdy : dx ≠ y := fun z => by rw [z, upd_same] at hdx; cases hdx
  have nya : y ≠ a := fun z => by rw [z, a2] at hy; cases hy
  refine q dx y _ (e2.free (free_of hdx)) (e2.free hy) (fun b o nb hb2 => ?_) upd_same ?_ ?_
  · rw [upd_ne nb, upd_ne (ne_of_none (e2 _ _ hb2) (free_of hdx)), upd_ne (ne_of_none (e2 _ _ hb2) hy)]
    exact e2 _ _ hb2
  · rw [upd_ne ndx, upd_same]
  · rw [upd_ne nya, upd_ne hdy.symm, upd_same]
/-- what an error with a lot tells -/
def RaisedL (C : Addr) (R : List Int) (H : Hp) (E : XK) : Prop := ∀ (d l : Addr) (H' : Hp), H d = none → H l = none → Same H H' → H' d = some (.xd [("lot", .ref l)]) → H' l = some (.lst (R.map V.int)) → E (.ref C) (some d) H'
theorem RaisedL.at {C : Addr} {R : List Int} {H H1 : Hp} {E : XK} (e : Same H H1) (r : RaisedL C R H E) : RaisedL C R H1 E := fun d l H' hd hl e' h1 h2 => r d l H' (e.free hd) (e.free hl) (e.trans e') h1 h2
theorem w_raiseL {K : PySem.W.Frag} {C D : Addr} {E : XK} {ta : TA} {Dn : Ends} {σ : L2.St} {H : Hp} {l : Addr} {R : List Int} {H1 : Hp} (SC : SupC K C D) (hno : findIn K (.ref C) "lot" = some none) (e1 : ∀ Q, Q [.ref l] H1 → ta σ H Q) (hl : SqL K H1 l (R.map V.int)) (hlen : R.length ≤ 900)
    (hb : ∀ n ∈ R, 0 ≤ n ∧ n < 1000000) (r : RaisedL C R H1 E) : GX.tRaiseO C (sp_lot K D) E ta Dn σ H := by
  refine e1 _ ⟨(by show 1 ≤ 1000; decide), fun a ha => ⟨a, l, C, R, rfl, SC, hno, upd_same, Same.seq (G.same_new ha) hl, hlen, hb, fun dx y H' hdx hy k ea ed el => ⟨rfl, dx, _, ea, ed, free_of hdx, ?_⟩⟩⟩
  have nya : y ≠ a := fun z => by rw [z, ea] at el; exact exo_lst (Option.some.inj el)
  have nyd : y ≠ dx := fun z => by rw [z, ed] at el; exact exd_lst (Option.some.inj el)
  refine r dx y _ (free_of hdx) (free_of hy) (fun b o hb2 => ?_) upd_same ?_
  · rw [upd_ne (ne_of_none hb2 (free_of hdx)), del_ne (ne_of_none hb2 ha)]
    exact k b o (ne_of_none hb2 ha) (by rw [upd_ne (ne_of_none hb2 ha)]; exact hb2)
  · rw [upd_ne nyd, del_ne nya]; exact el
/-- the def itself, as it stands in the written part -/
structure SupFn (K : PySem.W.Frag) (P : Program) (f D : Addr) (x qual : Str) (st : Stmt) (fd : FuncData) : Prop where
  ex : ∃ (oc : Value) (od : Option Addr) (kV doc pm : Value) (an : Option Addr) (ct : Value) (osl : Array (Option Value)) (cc cda : Addr),
    fd = ksFn x qual (defArgs st) (defBody st) (defScope st) .none kV doc pm an (.ref cda) ct cc ∧ K.lookup f = some ⟨oc, od, .func fd, osl⟩ ∧ codeIn K (.ref cda) qual = true ∧ SupF K P f D cc cda fd
  kp : keepIn K (.ref f) = true
theorem SupFn.binds {K : PySem.W.Frag} {P : Program} {f D : Addr} {x qual : Str} {st : Stmt} {fd : FuncData} {ps : List Str} (F : SupFn K P f D x qual st fd)
    (h : ∀ (kV doc pm : Value) (an : Option Addr) (cdv ct : Value) (cc : Addr) (us : List Value), us.length = ps.length → bindArgs (ksFn x qual (defArgs st) (defBody st) (defScope st) .none kV doc pm an cdv ct cc) ⟨us, []⟩ = pure (ps.zip us)) : Binds K fd ps [] := by
  obtain ⟨oc, od, kV, doc, pm, an, ct, osl, cc, cda, rfl, lk, _⟩ := F.ex
  exact .all (h kV doc pm an _ ct cc)
end GS

/-! ### the head's facts, with classmethods -/
namespace GX
open PySem PySem.Spec PyProof.Rows L2
inductive Ey where
  | ex (e : Ex)
  | cm (x m : Str)
  | bm (x m : Str)
  | supc (x y : Str)
def Ey.ok (K : PySem.W.Frag) : Ey → Bool
  | .ex e => e.ok K
  | .cm x m => He5.wrapB K (He.ga K x) "classmethod" "classmethod.__get__" m && (PySem.W.fnIn K (He5.wf K (He.ga K x) "classmethod" m) && PySem.W.readsIn K (He.ga K x) (.type "type"))
  | .bm x m => (PySem.W.specialIn K (.ref (He.ma K (He.ga K x) m)) "__get__" == some (some (.builtin "function.__get__"))) && ((PySem.W.takesIn K (.ref (He.ma K (He.ga K x) m)) == some false) && (!(PySem.W.copiedNames.contains m) && PySem.W.fnIn K (He.ma K (He.ga K x) m)))
  | .supc x y => decide (PySem.W.mroIn K (He.ga K x) (.ref (He.ga K y)) = some true) && (decide (PySem.W.nsIn K cStatics "thirdparty.any" = some none) && (decide (PySem.W.ks_superIn K (He.ga K x) (He.ga K y) "__init__" = some (some (.builtin "ValueError.__init__"))) &&
      (decide (PySem.W.subIn K (.ref (He.ga K x)) (.type "ValueError") = some true) && (decide (PySem.W.findIn K (.ref (He.ga K x)) "__init__" = some (some (.ref (He.ma K (He.ga K y) "__init__")))) && decide (PySem.W.typeIn K (.ref (He.ma K (He.ga K y) "__init__")) = some (.type "function"))))))
theorem cread_ok {K : PySem.W.Frag} {C : Addr} (h : PySem.W.readsIn K C (.type "type") = true) : ClX.CRead K C (.type "type") := by
  refine ⟨h, ?_⟩
  unfold PySem.W.readsIn at h
  obtain ⟨h, _⟩ := He.ba h
  obtain ⟨h, _⟩ := He.ba h
  obtain ⟨h, h3⟩ := He.ba h
  obtain ⟨_, h2⟩ := He.ba h
  unfold PySem.W.specialIn
  rw [beq_iff_eq.mp h2, Option.bind_some]
  exact beq_iff_eq.mp h3
theorem cm_ok {K : PySem.W.Frag} {x m : Str} (h : (Ey.cm x m).ok K = true) : ClX.CRead K (He.ga K x) (.type "type") ∧ ClX.CMet K (He.ga K x) (.type "type") m (He.ma K (He.ga K x) m) (He5.wf K (He.ga K x) "classmethod" m) := by
  obtain ⟨h1, h⟩ := He.ba h
  obtain ⟨h2, h3⟩ := He.ba h
  exact ⟨cread_ok h3, He5.cmet_of h1 h2⟩
theorem bm_ok {K : PySem.W.Frag} {x m : Str} (h : (Ey.bm x m).ok K = true) (mt : Meth K (He.ga K x) m (He.ma K (He.ga K x) m)) : BMeth K (He.ga K x) m (He.ma K (He.ga K x) m) := by
  obtain ⟨h1, h⟩ := He.ba h
  obtain ⟨h2, h⟩ := He.ba h
  obtain ⟨h3, h4⟩ := He.ba h
  exact ⟨mt, beq_iff_eq.mp h1, beq_iff_eq.mp h2, by rw [Bool.not_eq_true'] at h3; exact h3, h4⟩
/-- f(e, e, k = v): a keyword-only parameter that is written -/
structure CalN (P : Program) (w : World) (K : PySem.W.Frag) (mg : Str → Option Value) (base : Heap) (k : Nat) (x : Str) (sp : Sp) (ks : List Str) : Prop where
  ex : ∃ (f : Addr) (fd : FuncData) (ps : List Str) (g : List Value → List Value → List Value), FnOk P w K mg base CX0 k f fd ps sp ∧ mg x = some (.ref f) ∧ PySem.W.keepIn K (.ref f) = true ∧ KBn K fd ps 2 ks g (fun a b => a ++ b)
theorem callN_eq {sp : Sp} {gV : List V → List V → List V} {E : XK} {t1 t2 t3 : TE} : L2.tCallN 2 1 sp gV E (tCons t1 (tCons t2 tNil)) (tCons t3 tNil) = tCallK sp gV E (tCons t1 (tCons t2 tNil)) (tCons t3 tNil) := by
  funext σ H Q
  have e : ∀ (x y z : V) (P : Prop), (([x, y] : List V).length = 2 ∧ ([z] : List V).length = 1 ∧ P) = P := fun x y z P => by simp
  show (t1 σ H fun x H1 => t2 σ H1 fun y H2 => t3 σ H2 fun z H3 => (([x, y] : List V).length = 2 ∧ ([z] : List V).length = 1 ∧ sp (gV [x, y] [z]) H3 Q E)) = (t1 σ H fun x H1 => t2 σ H1 fun y H2 => t3 σ H2 fun z H3 => sp (gV [x, y] [z]) H3 Q E)
  simp only [e]
theorem pe_cN {X : Cx} {k j : Nat} {x nm : Str} {sp : Sp} {e1 e2 e3 : Expr} {p pos kpos : Pos} {t1 t2 t3 : TE} (c : CalN X.prog X.w X.K X.mg X.base k x sp [nm]) (hr : Room j X.A) (hk : k ≤ j) (hg : Gl X x) (ha : PA X [e1, e2] (tCons t1 (tCons t2 tNil))) (hkw : PK X [⟨some nm, e3, kpos⟩] (tCons t3 tNil))
    (hall : (backToKw pos (keywordEach [⟨some nm, e3, kpos⟩] X.env)).all (·.1.isSome) = true := by rfl) (hks : (backToKw pos (keywordEach [⟨some nm, e3, kpos⟩] X.env)).filterMap (·.1) = [nm] := by rfl)
    (hdb : (x == ("__debug__" : Str)) = false := by decide) (he : starEach [e1, e2] X.env = (false, eval e1 X.env) :: starEach [e2] X.env := by rfl)
    (hpl : ((backTo pos (starEach [e1, e2] X.env)).any (·.1) || (backToKw pos (keywordEach [⟨some nm, e3, kpos⟩] X.env)).any (·.1.isNone)) = false := by rfl) :
    PE X (.Call (.Name x p) [e1, e2] [⟨some nm, e3, kpos⟩] pos) (tCallK sp (fun a b => a ++ b) E0 (tCons t1 (tCons t2 tNil)) (tCons t3 tNil)) := by
  obtain ⟨f, fd, ps, g, F, hm, kp, b⟩ := c.ex
  have q := pe_callN (E := E0) (p := p) F (hr.mono hk) hg hm kp b (fun _ _ _ _ _ _ _ h => h.elim) ha hkw hall hks hdb he hpl
  rw [show ([nm] : List Str).length = 1 from rfl, callN_eq] at q
  exact q
abbrev AlF : Type := He.AlD × Bool
def obsF (fa : List He.Fa) (fn : List He5.DefA) (ex : List Ey) (K : PySem.W.Frag) : AlF := (He5.obsA fa fn K, ex.all fun e => e.ok K)
def obsFG (n : Nat) (fa : List He.Fa) (fn : List He5.DefA) (ex : List Ey) (g : Addr → Option Obj) : AlF := obsF fa fn ex (He.frG g (He5.asA g n))
def SaysF (fa : List He.Fa) (fn : List He5.DefA) (ex : List Ey) (K : PySem.W.Frag) : Prop := He5.SaysA fa fn K ∧ (ex.all fun e => e.ok K) = true
def hookF (n : Nat) (fa : List He.Fa) (fn : List He5.DefA) (ex : List Ey) : PySem.W.Hook where
  α := AlF
  obs := fun s => obsFG n fa fn ex s.heap.get?
  val := fun _ => (He5.valA fn, true)
  says := fun _ h => ∃ K : PySem.W.Frag, K.In h ∧ SaysF fa fn ex K
  of := fun _ _ e => ⟨_, He.frG_in, congrArg (fun z : AlF => z.1) e, congrArg (fun z : AlF => z.2) e⟩
  keeps := fun _ _ _ ⟨K, hK, c⟩ k => ⟨K, PySem.W.Frag.In.keeps hK k, c⟩
theorem obsFG_eq {n : Nat} {fa : List He.Fa} {fn : List He5.DefA} {ex : List Ey} {g : Addr → Option Obj} {s : Shared} (h : ∀ a, g a = s.heap.get? a) : obsFG n fa fn ex g = (hookF n fa fn ex).obs s := by
  obtain rfl : g = s.heap.get? := funext h
  rfl
theorem SaysF.more {fa : List He.Fa} {fn : List He5.DefA} {ex : List Ey} {K : PySem.W.Frag} (c : SaysF fa fn ex K) (i : Nat) {e : Ey} (h : ex[i]? = some e := by rfl) : e.ok K = true := List.all_eq_true.mp c.2 e (List.mem_of_getElem? h)
theorem supc_ok {K : PySem.W.Frag} {x y : Str} (h : (Ey.supc x y).ok K = true) (T : OexC K (He.ga K x)) : GS.SupC K (He.ga K x) (He.ga K y) ∧ PySem.W.findIn K (.ref (He.ga K x)) "__init__" = some (some (.ref (He.ma K (He.ga K y) "__init__"))) ∧ PySem.W.typeIn K (.ref (He.ma K (He.ga K y) "__init__")) = some (.type "function") := by
  obtain ⟨h1, h⟩ := He.ba h
  obtain ⟨h2, h⟩ := He.ba h
  obtain ⟨h3, h⟩ := He.ba h
  obtain ⟨h4, h⟩ := He.ba h
  obtain ⟨h5, h6⟩ := He.ba h
  exact ⟨⟨T, of_decide_eq_true h1, of_decide_eq_true h2, of_decide_eq_true h3, of_decide_eq_true h4⟩, of_decide_eq_true h5, of_decide_eq_true h6⟩
/-! ### defs that close over __class__ -/
def supB (K : PySem.W.Frag) (file : Str) (d : Str × He5.DefA) : Bool := PySem.W.keepIn K (.ref (d.2.at_ K)) && (match K.lookup (d.2.at_ K) with
  | some ⟨_, _, .func fd, _⟩ => (match fd.closure, fd.code, fd.defaults with
    | [(n, cc)], .ref cda, .none => n == "__class__" && (PySem.W.codeIn K (.ref cda) d.2.qual && ((match K.lookup cc with
        | some ⟨_, _, .cell (some (.ref D)), _⟩ => D == He.ga K d.1
        | _ => false) && ((match K.lookup cda with
        | some ⟨_, _, .fields vs, _⟩ => (match (vs[2]? : Option Value) with
          | some (Value.str y _) => file == y
          | _ => false)
        | _ => false) && (PySem.W.clsIn K (He.ga K d.1)).isSome)))
    | _, _, _ => false)
  | _ => false)
def fnS (K : PySem.W.Frag) (a : Addr) : He5.FnW := match K.lookup a with
  | some ⟨_, _, .func fd, _⟩ => some (fd.name, fd.qualname, fd.params, fd.body, fd.scope, fd.globals, [], fd.builtins)
  | _ => none
theorem sup_ok {K : PySem.W.Frag} {P : Program} {file cls x qual : Str} {at_ : PySem.W.Frag → Addr} {st : Stmt} (hP : P.main.file = file) (e : fnS K (at_ K) = (⟨at_, x, qual, defArgs st, defBody st, defScope st, [], []⟩ : He5.DefA).val) (c : supB K file (cls, ⟨at_, x, qual, defArgs st, defBody st, defScope st, [], []⟩) = true) :
    ∃ fd, GS.SupFn K P (at_ K) (He.ga K cls) x qual st fd := by
  obtain ⟨kp, c2⟩ := He.ba c
  unfold fnS at e
  cases q : K.lookup (at_ K) with
  | none =>
    have c2 : (match K.lookup (at_ K) with
      | some ⟨_, _, .func fd, _⟩ => _
      | _ => false) = true := c2
    rw [q] at c2
    cases c2
  | some o =>
    obtain ⟨oc, od, dt, osl⟩ := o
    simp only [q] at c2 e
    cases dt with
    | func fd =>
      obtain ⟨n1, n2, n3, n4, n5, n6, n7, n8, n9, n10, n11, n12, n13, n14, n15⟩ := fd
      have e2 : (some (n1, n2, n3, n4, n5, n6, ([] : List (Str × Addr)), n15) : He5.FnW) = some (x, qual, defArgs st, .stmts (defBody st), defScope st, mainGlobals, [], builtinsNs) := e
      simp only [Option.some.injEq, Prod.mk.injEq] at e2
      obtain ⟨h1, h2, h3, h4, h5, h6, _, h8⟩ := e2
      subst h1 h2 h3 h4 h5 h6 h8
      dsimp only at c2
      split at c2
      · rename_i n cc cda
        obtain ⟨c3, c2⟩ := He.ba c2
        obtain ⟨c4, c2⟩ := He.ba c2
        obtain ⟨c5, c2⟩ := He.ba c2
        obtain ⟨c6, c7⟩ := He.ba c2
        have en : n = "__class__" := beq_iff_eq.mp c3
        subst en
        refine ⟨_, ⟨oc, od, n9, n10, n11, n12, n14, osl, cc, cda, rfl, q, c4, ⟨⟨_, _, _, q⟩, ?_, ?_, ?_⟩⟩, kp⟩
        · split at c5
          · rename_i cl cld D csl hc
            have : D = He.ga K cls := beq_iff_eq.mp c5
            subst this
            exact ⟨cl, cld, csl, hc⟩
          · cases c5
        · split at c6
          · rename_i ccl cdd vs ccs hc
            split at c6
            · rename_i y tf hv
              exact ⟨ccl, cdd, vs, ccs, y, tf, hc, hv, by rw [hP]; exact c6⟩
            · cases c6
          · cases c6
        · exact Option.isSome_iff_exists.mp c7
      · cases c2
    | _ => cases c2
abbrev AlS : Type := AlF × (Bool × List He5.FnW)
def obsS (fa : List He.Fa) (fn : List He5.DefA) (ex : List Ey) (su : List (Str × He5.DefA)) (file : Str) (K : PySem.W.Frag) : AlS := (obsF fa fn ex K, (su.all fun d => supB K file d, su.map fun d => fnS K (d.2.at_ K)))
def obsSG (n : Nat) (fa : List He.Fa) (fn : List He5.DefA) (ex : List Ey) (su : List (Str × He5.DefA)) (file : Str) (g : Addr → Option Obj) : AlS := obsS fa fn ex su file (He.frG g (He5.asA g n))
structure SaysS (fa : List He.Fa) (fn : List He5.DefA) (ex : List Ey) (su : List (Str × He5.DefA)) (file : Str) (K : PySem.W.Frag) : Prop where
  f : SaysF fa fn ex K
  b : (su.all fun d => supB K file d) = true
  v : (su.map fun d => fnS K (d.2.at_ K)) = su.map fun d => d.2.val
def hookS (n : Nat) (fa : List He.Fa) (fn : List He5.DefA) (ex : List Ey) (su : List (Str × He5.DefA)) (file : Str) : PySem.W.Hook where
  α := AlS
  obs := fun s => obsSG n fa fn ex su file s.heap.get?
  val := fun _ => ((He5.valA fn, true), (true, su.map fun (d : Str × He5.DefA) => d.2.val))
  says := fun _ h => ∃ K : PySem.W.Frag, K.In h ∧ SaysS fa fn ex su file K
  of := fun _ _ e => ⟨_, He.frG_in, ⟨⟨congrArg (fun z : AlS => z.1.1) e, congrArg (fun z : AlS => z.1.2) e⟩, congrArg (fun z : AlS => z.2.1) e, congrArg (fun z : AlS => z.2.2) e⟩⟩
  keeps := fun _ _ _ ⟨K, hK, c⟩ k => ⟨K, PySem.W.Frag.In.keeps hK k, c⟩
theorem obsSG_eq {n : Nat} {fa : List He.Fa} {fn : List He5.DefA} {ex : List Ey} {su : List (Str × He5.DefA)} {file : Str} {g : Addr → Option Obj} {s : Shared} (h : ∀ a, g a = s.heap.get? a) : obsSG n fa fn ex su file g = (hookS n fa fn ex su file).obs s := by
  obtain rfl : g = s.heap.get? := funext h
  rfl
theorem SaysS.sup {fa : List He.Fa} {fn : List He5.DefA} {ex : List Ey} {su : List (Str × He5.DefA)} {file : Str} {K : PySem.W.Frag} {P : Program} {cls x qual : Str} {at_ : PySem.W.Frag → Addr} {st : Stmt} (c : SaysS fa fn ex su file K) (hP : P.main.file = file) (i : Nat) (h : su[i]? = some (cls, ⟨at_, x, qual, defArgs st, defBody st, defScope st, [], []⟩) := by rfl) :
    ∃ fd, GS.SupFn K P (at_ K) (He.ga K cls) x qual st fd := by
  refine sup_ok hP ?_ (List.all_eq_true.mp c.b _ (List.mem_of_getElem? h))
  have e := congrArg (fun l => l[i]?) c.v
  simp only [List.getElem?_map, h, Option.map_some] at e
  exact Option.some.inj e
end GX

namespace G
open PySem L2
def topS (i : Nat) : Stmt := PySem.Challenge.pw_onecopy_k07_whole_slack.main.body.getD i (.Pass ⟨0, 0, 0, 0⟩)
abbrev s_LotError_init : Stmt := inClass (topS 3) 0
abbrev s_InvalidPointer_init : Stmt := inClass (topS 7) 0
abbrev s_InvalidStanding_init : Stmt := inClass (topS 8) 0
abbrev s_NoPage_init : Stmt := inClass (topS 6) 0
abbrev s_check_pages : Stmt := topS 13
abbrev s_is_pointer : Stmt := topS 14
abbrev s_as_known : Stmt := topS 15
abbrev s_grouped : Stmt := topS 16
abbrev s_Web_init : Stmt := inClass (topS 17) 0
abbrev s_Web_arrows : Stmt := inClass (topS 17) 6
abbrev s_Standing_init : Stmt := inClass (topS 25) 0
abbrev s_Standing_blanks : Stmt := inClass (topS 25) 3
abbrev s_Standing_blank_of : Stmt := inClass (topS 25) 4
abbrev s_Owners_init : Stmt := inClass (topS 11) 0
abbrev s_Owners_enter : Stmt := inClass (topS 11) 1
abbrev s_Owners_owner_of : Stmt := inClass (topS 11) 7
abbrev s_Owners_hand_over : Stmt := inClass (topS 11) 14
abbrev s_Ownersfind_chain : Stmt := inClass (topS 11) 16
abbrev s_Ownersshift : Stmt := inClass (topS 11) 17
abbrev s_Owners_add_pointer : Stmt := inClass (topS 11) 10
abbrev s_entered : Stmt := topS 19
abbrev s_dealt : Stmt := topS 20
abbrev s_owner_list : Stmt := topS 21
abbrev s_Owners_free_of : Stmt := inClass (topS 11) 8
abbrev s_Owners_free_one : Stmt := inClass (topS 11) 12
abbrev s_slack : Stmt := topS 22
abbrev s_law_cell : Stmt := topS 27
abbrev s_law_source : Stmt := topS 28
abbrev s_law_take : Stmt := topS 29
abbrev s_law_parents : Stmt := topS 30
abbrev s_law_pointers : Stmt := topS 31
abbrev s_law_names : Stmt := topS 32
abbrev s_law_named : Stmt := topS 33
abbrev s_law_extras : Stmt := topS 34
abbrev s_law_joined : Stmt := topS 35
abbrev s_law_world : Stmt := topS 36
abbrev s_law_lines : Stmt := topS 37
abbrev s_law_owners : Stmt := topS 38
abbrev s_law_table : Stmt := topS 39
abbrev s_law_near : Stmt := topS 40
abbrev s_law_is_integer : Stmt := topS 41
abbrev s_law_is_dealing : Stmt := topS 42
abbrev s_law_is_lot : Stmt := topS 43
abbrev s_law_left : Stmt := topS 44
abbrev s_law_values : Stmt := topS 45
abbrev s_law_told : Stmt := topS 46
abbrev s_law_papers : Stmt := topS 47
abbrev s_law_judged : Stmt := topS 48
abbrev s_law_refused : Stmt := topS 49
abbrev s_law : Stmt := topS 50
/-! ### the head: facts by names, the run -/
def d_InvalidPointer_init : He5.DefA := ⟨(fun K => He.fAd K ("InvalidPointer", some "__init__")), "__init__", "InvalidPointer.__init__", defArgs s_InvalidPointer_init, defBody s_InvalidPointer_init, defScope s_InvalidPointer_init, [], []⟩
def d_InvalidStanding_init : He5.DefA := ⟨(fun K => He.fAd K ("InvalidStanding", some "__init__")), "__init__", "InvalidStanding.__init__", defArgs s_InvalidStanding_init, defBody s_InvalidStanding_init, defScope s_InvalidStanding_init, [], []⟩
def d_NoPage_init : He5.DefA := ⟨(fun K => He.fAd K ("NoPage", some "__init__")), "__init__", "NoPage.__init__", defArgs s_NoPage_init, defBody s_NoPage_init, defScope s_NoPage_init, [], []⟩
def d_check_pages : He5.DefA := ⟨(fun K => He.fAd K ("check_pages", none)), "check_pages", "check_pages", defArgs s_check_pages, defBody s_check_pages, defScope s_check_pages, [], []⟩
def d_is_pointer : He5.DefA := ⟨(fun K => He.fAd K ("_is_pointer", none)), "_is_pointer", "_is_pointer", defArgs s_is_pointer, defBody s_is_pointer, defScope s_is_pointer, [], []⟩
def d_as_known : He5.DefA := ⟨(fun K => He.fAd K ("_as_known", none)), "_as_known", "_as_known", defArgs s_as_known, defBody s_as_known, defScope s_as_known, [], []⟩
def d_grouped : He5.DefA := ⟨(fun K => He.fAd K ("_grouped", none)), "_grouped", "_grouped", defArgs s_grouped, defBody s_grouped, defScope s_grouped, [], []⟩
def d_Web_init : He5.DefA := ⟨(fun K => He.fAd K ("Web", some "__init__")), "__init__", "Web.__init__", defArgs s_Web_init, defBody s_Web_init, defScope s_Web_init, [], []⟩
def d_Web_arrows : He5.DefA := ⟨(fun K => He.fAd K ("Web", some "arrows")), "arrows", "Web.arrows", defArgs s_Web_arrows, defBody s_Web_arrows, defScope s_Web_arrows, [], []⟩
def d_Standing_init : He5.DefA := ⟨(fun K => He.fAd K ("Standing", some "__init__")), "__init__", "Standing.__init__", defArgs s_Standing_init, defBody s_Standing_init, defScope s_Standing_init, [], []⟩
def d_Standing_blanks : He5.DefA := ⟨(fun K => He.fAd K ("Standing", some "blanks")), "blanks", "Standing.blanks", defArgs s_Standing_blanks, defBody s_Standing_blanks, defScope s_Standing_blanks, [], []⟩
def d_Standing_blank_of : He5.DefA := ⟨(fun K => He.fAd K ("Standing", some "blank_of")), "blank_of", "Standing.blank_of", defArgs s_Standing_blank_of, defBody s_Standing_blank_of, defScope s_Standing_blank_of, [], []⟩
def d_Owners_init : He5.DefA := ⟨(fun K => He.fAd K ("Owners", some "__init__")), "__init__", "Owners.__init__", defArgs s_Owners_init, defBody s_Owners_init, defScope s_Owners_init, [], []⟩
def d_Owners_enter : He5.DefA := ⟨(fun K => He.fAd K ("Owners", some "enter")), "enter", "Owners.enter", defArgs s_Owners_enter, defBody s_Owners_enter, defScope s_Owners_enter, [], []⟩
def d_Owners_owner_of : He5.DefA := ⟨(fun K => He.fAd K ("Owners", some "owner_of")), "owner_of", "Owners.owner_of", defArgs s_Owners_owner_of, defBody s_Owners_owner_of, defScope s_Owners_owner_of, [], []⟩
def d_Owners_hand_over : He5.DefA := ⟨(fun K => He.fAd K ("Owners", some "hand_over")), "hand_over", "Owners.hand_over", defArgs s_Owners_hand_over, defBody s_Owners_hand_over, defScope s_Owners_hand_over, [], []⟩
def d_Ownersfind_chain : He5.DefA := ⟨(fun K => He.fAd K ("Owners", some "_find_chain")), "_find_chain", "Owners._find_chain", defArgs s_Ownersfind_chain, defBody s_Ownersfind_chain, defScope s_Ownersfind_chain, [], []⟩
def d_Ownersshift : He5.DefA := ⟨(fun K => He.fAd K ("Owners", some "_shift")), "_shift", "Owners._shift", defArgs s_Ownersshift, defBody s_Ownersshift, defScope s_Ownersshift, [], []⟩
def d_Owners_add_pointer : He5.DefA := ⟨(fun K => He.fAd K ("Owners", some "add_pointer")), "add_pointer", "Owners.add_pointer", defArgs s_Owners_add_pointer, defBody s_Owners_add_pointer, defScope s_Owners_add_pointer, [], []⟩
def d_entered : He5.DefA := ⟨(fun K => He.fAd K ("_entered", none)), "_entered", "_entered", defArgs s_entered, defBody s_entered, defScope s_entered, [], []⟩
def d_dealt : He5.DefA := ⟨(fun K => He.fAd K ("_dealt", none)), "_dealt", "_dealt", defArgs s_dealt, defBody s_dealt, defScope s_dealt, [], []⟩
def d_owner_list : He5.DefA := ⟨(fun K => He.fAd K ("_owner_list", none)), "_owner_list", "_owner_list", defArgs s_owner_list, defBody s_owner_list, defScope s_owner_list, [], []⟩
def d_Owners_free_of : He5.DefA := ⟨(fun K => He.fAd K ("Owners", some "free_of")), "free_of", "Owners.free_of", defArgs s_Owners_free_of, defBody s_Owners_free_of, defScope s_Owners_free_of, [], []⟩
def d_Owners_free_one : He5.DefA := ⟨(fun K => He.fAd K ("Owners", some "free_one")), "free_one", "Owners.free_one", defArgs s_Owners_free_one, defBody s_Owners_free_one, defScope s_Owners_free_one, [], []⟩
def d_slack : He5.DefA := ⟨(fun K => He.fAd K ("slack", none)), "slack", "slack", defArgs s_slack, defBody s_slack, defScope s_slack, [], []⟩
def d_law_cell : He5.DefA := ⟨(fun K => He.fAd K ("_law_cell", none)), "_law_cell", "_law_cell", defArgs s_law_cell, defBody s_law_cell, defScope s_law_cell, [], []⟩
def d_law_source : He5.DefA := ⟨(fun K => He.fAd K ("_law_source", none)), "_law_source", "_law_source", defArgs s_law_source, defBody s_law_source, defScope s_law_source, [], []⟩
def d_law_take : He5.DefA := ⟨(fun K => He.fAd K ("_law_take", none)), "_law_take", "_law_take", defArgs s_law_take, defBody s_law_take, defScope s_law_take, [], []⟩
def d_law_parents : He5.DefA := ⟨(fun K => He.fAd K ("_law_parents", none)), "_law_parents", "_law_parents", defArgs s_law_parents, defBody s_law_parents, defScope s_law_parents, [], []⟩
def d_law_pointers : He5.DefA := ⟨(fun K => He.fAd K ("_law_pointers", none)), "_law_pointers", "_law_pointers", defArgs s_law_pointers, defBody s_law_pointers, defScope s_law_pointers, [], []⟩
def d_law_names : He5.DefA := ⟨(fun K => He.fAd K ("_law_names", none)), "_law_names", "_law_names", defArgs s_law_names, defBody s_law_names, defScope s_law_names, [], []⟩
def d_law_named : He5.DefA := ⟨(fun K => He.fAd K ("_law_named", none)), "_law_named", "_law_named", defArgs s_law_named, defBody s_law_named, defScope s_law_named, [], []⟩
def d_law_extras : He5.DefA := ⟨(fun K => He.fAd K ("_law_extras", none)), "_law_extras", "_law_extras", defArgs s_law_extras, defBody s_law_extras, defScope s_law_extras, [], []⟩
def d_law_joined : He5.DefA := ⟨(fun K => He.fAd K ("_law_joined", none)), "_law_joined", "_law_joined", defArgs s_law_joined, defBody s_law_joined, defScope s_law_joined, [], []⟩
def d_law_world : He5.DefA := ⟨(fun K => He.fAd K ("_law_world", none)), "_law_world", "_law_world", defArgs s_law_world, defBody s_law_world, defScope s_law_world, [], []⟩
def d_law_lines : He5.DefA := ⟨(fun K => He.fAd K ("_law_lines", none)), "_law_lines", "_law_lines", defArgs s_law_lines, defBody s_law_lines, defScope s_law_lines, [], []⟩
def d_law_owners : He5.DefA := ⟨(fun K => He.fAd K ("_law_owners", none)), "_law_owners", "_law_owners", defArgs s_law_owners, defBody s_law_owners, defScope s_law_owners, [], []⟩
def d_law_table : He5.DefA := ⟨(fun K => He.fAd K ("_law_table", none)), "_law_table", "_law_table", defArgs s_law_table, defBody s_law_table, defScope s_law_table, [], []⟩
def d_law_near : He5.DefA := ⟨(fun K => He.fAd K ("_law_near", none)), "_law_near", "_law_near", defArgs s_law_near, defBody s_law_near, defScope s_law_near, [], []⟩
def d_law_is_integer : He5.DefA := ⟨(fun K => He.fAd K ("_law_is_integer", none)), "_law_is_integer", "_law_is_integer", defArgs s_law_is_integer, defBody s_law_is_integer, defScope s_law_is_integer, [], []⟩
def d_law_is_dealing : He5.DefA := ⟨(fun K => He.fAd K ("_law_is_dealing", none)), "_law_is_dealing", "_law_is_dealing", defArgs s_law_is_dealing, defBody s_law_is_dealing, defScope s_law_is_dealing, [], []⟩
def d_law_is_lot : He5.DefA := ⟨(fun K => He.fAd K ("_law_is_lot", none)), "_law_is_lot", "_law_is_lot", defArgs s_law_is_lot, defBody s_law_is_lot, defScope s_law_is_lot, [], []⟩
def d_law_left : He5.DefA := ⟨(fun K => He.fAd K ("_law_left", none)), "_law_left", "_law_left", defArgs s_law_left, defBody s_law_left, defScope s_law_left, [], []⟩
def d_law_values : He5.DefA := ⟨(fun K => He.fAd K ("_law_values", none)), "_law_values", "_law_values", defArgs s_law_values, defBody s_law_values, defScope s_law_values, [], []⟩
def d_law_told : He5.DefA := ⟨(fun K => He.fAd K ("_law_told", none)), "_law_told", "_law_told", defArgs s_law_told, defBody s_law_told, defScope s_law_told, [], []⟩
def d_law_papers : He5.DefA := ⟨(fun K => He.fAd K ("_law_papers", none)), "_law_papers", "_law_papers", defArgs s_law_papers, defBody s_law_papers, defScope s_law_papers, [], []⟩
def d_law_judged : He5.DefA := ⟨(fun K => He.fAd K ("_law_judged", none)), "_law_judged", "_law_judged", defArgs s_law_judged, defBody s_law_judged, defScope s_law_judged, [], []⟩
def d_law_refused : He5.DefA := ⟨(fun K => He.fAd K ("_law_refused", none)), "_law_refused", "_law_refused", defArgs s_law_refused, defBody s_law_refused, defScope s_law_refused, [], []⟩
def d_law : He5.DefA := ⟨(fun K => He.fAd K ("law", none)), "law", "law", defArgs s_law, defBody s_law, defScope s_law, [], []⟩
def fnS : List He5.DefA := [d_InvalidPointer_init, d_InvalidStanding_init, d_NoPage_init, d_check_pages, d_is_pointer, d_as_known, d_grouped, d_Web_init, d_Web_arrows, d_Standing_init, d_Standing_blanks, d_Standing_blank_of, d_Owners_init, d_Owners_enter, d_Owners_owner_of, d_Owners_hand_over, d_Ownersfind_chain, d_Ownersshift, d_Owners_add_pointer, d_entered, d_dealt, d_owner_list, d_Owners_free_of, d_Owners_free_one, d_slack, d_law_cell, d_law_source, d_law_take, d_law_parents, d_law_pointers, d_law_names, d_law_named, d_law_extras, d_law_joined, d_law_world, d_law_lines, d_law_owners, d_law_table, d_law_near, d_law_is_integer, d_law_is_dealing, d_law_is_lot, d_law_left, d_law_values, d_law_told, d_law_papers, d_law_judged, d_law_refused, d_law]
def d_LotError_init : He5.DefA := ⟨(fun K => He.ma K (He.ga K "LotError") "__init__"), "__init__", "LotError.__init__", defArgs s_LotError_init, defBody s_LotError_init, defScope s_LotError_init, [], []⟩
def suS : List (Str × He5.DefA) := [("LotError", d_LotError_init)]
def fa0 : List He.Fa := [.glo "check_pages", .glo "_is_pointer", .glo "_as_known", .glo "_grouped", .mkr "Web", .meth "Web" "arrows", .mkr "Standing", .meth "Standing" "blanks", .meth "Standing" "blank_of", .mkr "Owners", .meth "Owners" "enter", .meth "Owners" "owner_of", .meth "Owners" "hand_over", .meth "Owners" "_find_chain", .meth "Owners" "_shift", .meth "Owners" "add_pointer", .glo "_entered", .glo "_dealt", .glo "_owner_list", .meth "Owners" "free_of", .meth "Owners" "free_one", .glo "slack", .glo "_law_cell", .glo "_law_source", .glo "_law_take", .glo "_law_parents", .glo "_law_pointers", .glo "_law_names", .glo "_law_named", .glo "_law_extras"]
def fa1 : List He.Fa := [.glo "_law_joined", .glo "_law_world", .glo "_law_lines", .glo "_law_owners", .glo "_law_table", .glo "_law_near", .glo "_law_is_integer", .glo "_law_is_dealing", .glo "_law_is_lot", .glo "_law_left", .glo "_law_values", .glo "_law_told", .glo "_law_papers", .glo "_law_judged", .glo "_law_refused", .glo "law", .glo "InvalidPointer", .glo "InvalidStanding", .glo "LotError", .glo "NoPage", .glo "NotShort", .glo "Owners", .glo "ShortLot", .glo "Standing", .glo "Web", .cls "Owners", .noat "Owners" "_free", .noat "Owners" "_owned", .noat "Owners" "_owner", .cls "Standing"]
def fa2 : List He.Fa := [.noat "Standing" "_blank", .noat "Standing" "lines", .noat "Standing" "web", .cls "Web", .noat "Web" "_arrows", .noat "Web" "_holders", .noat "Web" "_known", .noat "Web" "_targets", .noat "Web" "pages", .free "abs", .free "bool", .free "enumerate", .free "int", .free "isinstance", .free "len", .free "list", .free "max", .free "min", .free "range", .free "sorted", .free "str", .free "sum", .free "super", .free "tuple"]
def faS : List He.Fa := fa0 ++ fa1 ++ fa2
def exS : List GX.Ey := [.ex (.oex "NoPage"), .ex (.noat "NoPage" "page"), .ex (.oex "InvalidPointer"), .ex (.noat "InvalidPointer" "index"), .ex (.oex "InvalidStanding"), .ex (.noat "InvalidStanding" "page"), .ex (.oex "ShortLot"), .ex (.noat "ShortLot" "lot"), .ex (.exc "ShortLot"), .ex (.xf "ShortLot"), .ex (.exm "ShortLot" "LotError" true), .ex (.kit "ShortLot" "ShortLot" true), .ex (.kit "ShortLot" "NotShort" false), .ex (.exc "NoPage"), .ex (.xf "NoPage"), .ex (.exm "NoPage" "NoPage" true), .ex (.kit "NoPage" "LotError" false), .supc "ShortLot" "LotError", .ex (.ini "InvalidPointer"), .ex (.ini "InvalidStanding"), .ex (.ini "NoPage")]
def looseS : List PySem.Str := (["_wall", "OnecopyError", "LotError", "ShortLot", "NotShort", "NoPage", "InvalidPointer", "InvalidStanding", "NoLine", "Owners", "check_pages", "_is_pointer", "_as_known", "_grouped", "Web", "_entered", "_dealt", "_owner_list", "slack", "lines_used", "Standing", "_law_cell", "_law_source", "_law_take", "_law_parents", "_law_pointers", "_law_names", "_law_named", "_law_extras", "_law_joined"] : List PySem.Str) ++ (["_law_world", "_law_lines", "_law_owners", "_law_table", "_law_near", "_law_is_integer", "_law_is_dealing", "_law_is_lot", "_law_left", "_law_values", "_law_told", "_law_papers", "_law_judged", "_law_refused"] : List PySem.Str)
abbrev RowS : PySem.W.OpenRow := PySem.W.OpenLaw.row PySem.Challenge.rw_onecopy_k07_whole_slack
abbrev hkS : PySem.W.Hook := GX.hookS 5 faS fnS exS suS "/claim/cut.py"
def obS (s : PySem.W.SharedT) : GX.AlS := GX.obsSG 5 faS fnS exS suS "/claim/cut.py" (HandSHeadRun.getT s)
theorem obS_eq (s : PySem.W.SharedT) : obS s = hkS.obs s.abs := GX.obsSG_eq (HandSHeadRun.getT_eq s)
theorem runS (w : World) : HandSHeadRun.RunEq RowS (PySem.W.view RowS.prog [50]) hkS obS 8000 looseS w := by
  intro os
  kernel_rfl
end G

section
namespace G
open PySem PySem.Spec PyProof.Rows L2
/-! ### any(xs) of a list of ints -/
theorem truth_ints {prog : Program} {w : World} {A : Around} {ns : List Int} {its : List Value} (rv : Vals (ns.map V.int) its) :
    TruthOf prog w A (fun i v => its.toArray[i]? = some v) (fun i => (ns.map fun z => z != 0).getD i false) := fun i v s Q E hv hq => by
  have hv' : its[i]? = some v := by simpa using hv
  obtain ⟨x, hx, r⟩ := Paired.at rv hv'
  rw [List.getElem?_map] at hx
  obtain ⟨n, hn, rfl⟩ := Option.map_eq_some_iff.mp hx
  obtain ⟨t, rfl⟩ := r
  have hg : (ns.map fun z => z != 0).getD i false = (n != 0) := by rw [List.getD_eq_getElem?_getD, List.getElem?_map, hn] <;> rfl
  have hq' : Q ((ns.map fun z => z != 0).getD i false) s := hq
  rw [hg] at hq'
  exact PySem.P.truthy_int hq'
def rAnyI (K : PySem.W.Frag) : List V → Hp → VK → Prop := fun vs H Q => ∃ (a : Addr) (ns : List Int), vs = [V.ref a] ∧ SqL K H a (ns.map V.int) ∧ Q (.bl (ns.any fun z => decide (z ≠ 0))) H
theorem cr_anyI {X : Cx} (hc : X.calm = true) : CallR X (.builtin "any") (rAnyI X.K) := by
  intro pins s σ H vs us Q I r h
  obtain ⟨a, ns, rfl, hs, q⟩ := h
  obtain ⟨its, rv, hl, _⟩ := I.list hs
  rw [Vals.ref1 r]
  have hlen := rv.length
  refine call_any_walk (iter_any hl.isList fun s₂ e2 st hne => ?_)
  subst e2
  refine ⟨_, _, _, _, _, _, _, rfl, Walks.list (A := X.A.in1) (I.ok.hd hc) _ a hne its.toArray, st, truth_ints rv, fun h' tk hk => ?_⟩
  refine ⟨.bl _, H, I.kept fun b o eo => hk b o (fun hmem => ?_) (Heap.get?_push_of_some _ eo), ?_, q⟩
  · rcases List.mem_cons.mp hmem with e1 | hmem
    · exact absurd (e1 ▸ Heap.lt_size eo) (Nat.lt_irrefl _)
    · cases hmem
  · show Value.bool _ = Value.bool _
    rw [show its.toArray.size = (ns.map fun z => z != 0).length by rw [List.size_toArray, ← hlen, List.length_map, List.length_map], L2.any_range, List.any_map]
    congr 1
    apply congrArg (ns.any)
    funext z
    by_cases hz : z = 0 <;> simp [hz]
theorem w_anyI {K : PySem.W.Frag} {H : Hp} {Q : VK} {p : Addr} {ns : List Int} (h : SqL K H p (ns.map V.int)) (q : Q (.bl (ns.any fun z => decide (z ≠ 0))) H) : rAnyI K [.ref p] H Q := ⟨p, ns, rfl, h, q⟩
/-! ### comprehensions over enumerate(list) -/
section
variable {K : PySem.W.Frag} {σ : L2.St} {H : Hp} {Q : VK} {tt : TT} {te : TE} {tl : TA}
theorem w_lcE {g : TG} {vs : List Nat} (h : tl σ H fun us H1 => ∃ a xs, us = [.ref a] ∧ SqL K H1 a xs ∧ LcW (Ite K a) g tt te vs σ H1 Q) : tLc (iEnum K tl) g tt te vs σ H Q := h
theorem lcE {a : Addr} {xs : List V} {g : TG} {vs : List Nat} (Pv : Addr → Nat → Hp → Prop) (h0 : ∀ Dl, H Dl = none → Pv Dl 0 (upd H Dl (.lst []))) (hl : ∀ Dl i H1, H Dl = none → i ≤ xs.length → Pv Dl i H1 → SqL K H1 a xs)
    (hs : ∀ Dl i x T H1, H Dl = none → xs[i]? = some x → Pv Dl i H1 → H1 T = none → g (.ref T) (wipe σ vs) (upd H1 T (.tup [.int (i : Nat), x])) fun σ2 H2 => wipe σ2 vs = wipe σ vs ∧ LcT tt te Dl (Pv Dl (i + 1)) σ2 H2)
    (hd : ∀ Dl H1, H Dl = none → Pv Dl xs.length H1 → Q (.ref Dl) H1) : LcW (Ite K a) g tt te vs σ H Q :=
  fun Dl hD => lc_it (walk_enum (K := K) (a := a) (xs := xs)) (Pv Dl) (h0 Dl hD) (fun i H1 hi p => hl Dl i H1 hD hi p) (fun i x H1 H' hi p y => by
    obtain ⟨T, u, v, rfl, hT, rfl, e1, e2⟩ := y
    have e1 := Option.some.inj e1
    subst e1
    exact hs Dl i v T H1 hD e2 p hT) (fun H1 p => hd Dl H1 hD p)
theorem w_enumSq {a : Addr} {xs : List V} {P : Addr → Prop} (h : SqL K H a xs) (q : P a) : ∃ b ys, [V.ref a] = [.ref b] ∧ SqL K H b ys ∧ P b := ⟨a, xs, rfl, h, q⟩
end
/-! ### ints in lists: deep equality -/
theorem dp_is {K : PySem.W.Frag} {H : Hp} : ∀ xs : List Int, DpAll K H (xs.map V.int) (xs.map PyData.int)
  | [] => .nil
  | x :: xs => .cons (.int x) (dp_is xs)
theorem dp_ints {K : PySem.W.Frag} {H : Hp} {p : Addr} {xs : List Int} (h : SqL K H p (xs.map V.int)) : Dp K H (.ref p) (.list (xs.map PyData.int)) := .lst h (dp_is xs)
theorem di_lay : ∀ xs : List Int, PyData.canLayAll0 (xs.map PyData.int) = true
  | [] => rfl
  | x :: xs => by
    rw [List.map_cons]
    show (PyData.canLay0 (.int x) && PyData.canLayAll0 (xs.map PyData.int)) = true
    rw [di_lay xs]; rfl
theorem di_depth : ∀ xs : List Int, PyData.depthAll (xs.map PyData.int) = 0
  | [] => rfl
  | x :: xs => by
    rw [List.map_cons]
    show max (PyData.depth (.int x)) (PyData.depthAll (xs.map PyData.int)) = 0
    rw [di_depth xs]; rfl
theorem di_shaped (xs : List Int) : SeqAt.shaped (.list (xs.map PyData.int)) = true := by
  have h1 : PyData.canLay0 (.list (xs.map PyData.int)) = true := di_lay xs
  have h2 : PyData.depth (.list (xs.map PyData.int)) ≤ 64 := by
    show PyData.depthAll (xs.map PyData.int) + 1 ≤ 64
    rw [di_depth]; decide
  show (PyData.canLay0 (.list (xs.map PyData.int)) && decide (PyData.depth (.list (xs.map PyData.int)) ≤ 64)) = true
  rw [h1, decide_eq_true h2]; rfl
theorem di_eqv : ∀ xs ys : List Int, PyData.eqvAll (xs.map PyData.int) (ys.map PyData.int) = decide (xs = ys)
  | [], [] => rfl
  | [], y :: ys => by simp [PyData.eqvAll]
  | x :: xs, [] => by simp [PyData.eqvAll]
  | x :: xs, y :: ys => by
    rw [List.map_cons, List.map_cons]
    simp only [PyData.eqvAll, PyData.eqv, di_eqv xs ys]
    by_cases h : x = y
    · by_cases h2 : xs = ys <;> simp [h, h2]
    · simp [h]
theorem w_neI2 {K : PySem.W.Frag} {H : Hp} {Q : VK} {p q : Addr} {xs ys : List Int} (hp : SqL K H p (xs.map V.int)) (hq : SqL K H q (ys.map V.int)) (k : Q (.bl (!decide (xs = ys))) H) : rNeD K (.ref p) (.ref q) H Q := by
  refine ⟨_, _, dp_ints hp, dp_ints hq, di_shaped xs, di_shaped ys, ?_⟩
  show Q (.bl (!PyData.eqvAll (xs.map PyData.int) (ys.map PyData.int))) H
  rw [di_eqv]; exact k
theorem w_eqI2 {K : PySem.W.Frag} {H : Hp} {Q : VK} {p q : Addr} {xs ys : List Int} (hp : SqL K H p (xs.map V.int)) (hq : SqL K H q (ys.map V.int)) (k : Q (.bl (decide (xs = ys))) H) : rEqD K (.ref p) (.ref q) H Q := by
  refine ⟨_, _, dp_ints hp, dp_ints hq, di_shaped xs, di_shaped ys, ?_⟩
  show Q (.bl (PyData.eqvAll (xs.map PyData.int) (ys.map PyData.int))) H
  rw [di_eqv]; exact k
end G
local macro_rules | `(tactic| walk_at "call") => `(tactic| first
  | (refine' G.w_anyI ?g1 ?_; (case g1 => walk_at "sq")) | refine' G.w_lcE ?_ | (refine' G.w_enumSq ?g1 ?_; (case g1 => walk_at "sq"))
  | (refine' G.w_neI2 ?g1 ?g2 ?_; (case g1 => walk_at "sq"); (case g2 => walk_at "sq")) | (refine' G.w_eqI2 ?g1 ?g2 ?_; (case g1 => walk_at "sq"); (case g2 => walk_at "sq")))

end
section
local macro_rules | `(tactic| walk_at "call") => `(tactic| first
  | (refine' G.w_anyI ?g1 ?_; (case g1 => walk_at "sq")) | refine' G.w_lcE ?_ | (refine' G.w_enumSq ?g1 ?_; (case g1 => walk_at "sq"))
  | (refine' G.w_neI2 ?g1 ?g2 ?_; (case g1 => walk_at "sq"); (case g2 => walk_at "sq")) | (refine' G.w_eqI2 ?g1 ?g2 ?_; (case g1 => walk_at "sq"); (case g2 => walk_at "sq")))

namespace G
open PySem L2
/-! ### more words -/
section
variable {K : PySem.W.Frag} {σ : L2.St} {H : Hp} {Q : VK} {D : Ends} {v x y : V} {ta te : TE} {p : Addr}
theorem w_tru {Qb : Bool → Hp → Prop} (h : ta σ H fun x H' => ∃ k, TruV K x H' k ∧ Qb k H') : tTruK K ta σ H Qb := h
theorem w_truL {xs : List V} {Qb : Bool → Prop} (h : SqL K H p xs) (q : Qb (!xs.isEmpty)) : ∃ k, TruV K (.ref p) H k ∧ Qb k := ⟨_, .inl ⟨xs, h, rfl⟩, q⟩
theorem w_revL (h : te σ H fun x H1 => ∃ a xs, x = .ref a ∧ SqL K H1 a xs ∧ ∀ p, H1 p = none → Q (.ref p) (upd H1 p (.lst xs.reverse))) : tRevL K te σ H Q := h
theorem w_revL2 {xs : List V} {P : Addr → List V → Prop} (h : SqL K H p xs) (q : P p xs) : ∃ a ys, V.ref p = .ref a ∧ SqL K H a ys ∧ P a ys := ⟨p, xs, rfl, h, q⟩
theorem w_rep {xs : List V} {k : Int} (h : H p = some (.lst xs)) (h0 : -4611686018427387904 ≤ k) (h1 : k < 4611686018427387904) (hl : xs.length * k.toNat ≤ sizeLine)
    (q : ∀ l, H l = none → Q (.ref l) (upd H l (.lst (List.replicate k.toNat xs).flatten))) : rRep (.ref p) (.int k) H Q := ⟨p, k, xs, rfl, rfl, h, by omega, by omega, hl, q⟩
theorem w_isNr (h : ta σ H fun x H1 => Q (.bl (decide (x = .non))) H1) : tIsN ta σ H Q := h
theorem w_notN (h : ta σ H fun x H1 => Q (.bl (!decide (x = .non))) H1) : tNotN ta σ H Q := h
theorem w_any {bs : List Bool} (h : SqL K H p (bs.map V.bl)) (q : Q (.bl (bs.any id)) H) : rAny K [.ref p] H Q := ⟨p, bs, rfl, h, q⟩
theorem w_all {bs : List Bool} (h : SqL K H p (bs.map V.bl)) (q : Q (.bl (bs.all id)) H) : rAll K [.ref p] H Q := ⟨p, bs, rfl, h, q⟩
theorem w_isT {t u : String} {b : Bool} (ty : TyX K H x (.type t)) (e : PySem.W.kitOne K (.type t) (.type u) = some b) (q : Q (.bl b) H) : rIsi K [x, .ty u] H Q :=
  ⟨x, .ty u, .type t, .type u, b, rfl, ClsV.ty u, ty, e, q⟩
theorem w_isII {a : Int} (q : Q (.bl true) H) : rIsi K [.int a, .ty "int"] H Q := w_isT (t := "int") (b := true) (TyX.base (TyOf.int a)) (kit_ty (by decide +kernel)) q
theorem w_isIB {a : Int} (q : Q (.bl false) H) : rIsi K [.int a, .ty "bool"] H Q := w_isT (t := "int") (b := false) (TyX.base (TyOf.int a)) (kit_ty (by decide +kernel)) q
theorem w_isBB {a : Bool} (q : Q (.bl true) H) : rIsi K [.bl a, .ty "bool"] H Q := w_isT (t := "bool") (b := true) (TyX.base (TyOf.bl a)) (kit_ty (by decide +kernel)) q
theorem w_isLL {xs : List V} (h : H p = some (.lst xs)) (q : Q (.bl true) H) : rIsi K [.ref p, .ty "list"] H Q := w_isT (t := "list") (b := true) (TyX.base (TyOf.lst h)) (kit_ty (by decide +kernel)) q
end
theorem w_iteNT {A B : Prop} (h : B) : if (!true) = true then A else B := h
theorem w_iteNF {A B : Prop} (h : A) : if (!false) = true then A else B := h
theorem w_iteRf {α : Type} {a : α} {i : Decidable (a = a)} {A B : Prop} (h : A) : if (@decide (a = a) i) = true then A else B := by rw [decide_eq_true rfl]; exact h
theorem w_iteNRf {α : Type} {a : α} {i : Decidable (a = a)} {A B : Prop} (h : B) : if (!(@decide (a = a) i)) = true then A else B := by rw [decide_eq_true rfl]; exact h
theorem at_of {xs : List V} {k : Int} {j : Nat} {v : V} (e : k = (j : Int)) (h : xs[j]? = some v) : atI xs k = some v := atn e h
end G
local macro_rules | `(tactic| walk_at "call") => `(tactic| first
  | refine' G.w_iteNT ?_ | refine' G.w_iteNF ?_ | refine' G.w_iteRf ?_ | refine' G.w_iteNRf ?_ | refine' G.w_tru ?_ | (refine' G.w_truL ?g1 ?_; (case g1 => walk_at "sq")) | refine' G.w_revL ?_ | (refine' G.w_revL2 ?g1 ?_; (case g1 => walk_at "sq"))
  | (refine' G.w_rep ?g1 ?g2 ?g3 ?g4 ?_; (case g1 => walk_at "hp"); (case g2 => walk_at "ar"); (case g3 => walk_at "ar"); (case g4 => walk_at "sz"))
  | refine' G.w_isNr ?_ | refine' G.w_notN ?_ | refine' G.w_isII ?_ | refine' G.w_isIB ?_ | refine' G.w_isBB ?_ | (refine' G.w_isLL ?g1 ?_; (case g1 => walk_at "hp")))

end
section
local macro_rules | `(tactic| walk_at "call") => `(tactic| first
  | (refine' G.w_anyI ?g1 ?_; (case g1 => walk_at "sq")) | refine' G.w_lcE ?_ | (refine' G.w_enumSq ?g1 ?_; (case g1 => walk_at "sq"))
  | (refine' G.w_neI2 ?g1 ?g2 ?_; (case g1 => walk_at "sq"); (case g2 => walk_at "sq")) | (refine' G.w_eqI2 ?g1 ?g2 ?_; (case g1 => walk_at "sq"); (case g2 => walk_at "sq")))

local macro_rules | `(tactic| walk_at "call") => `(tactic| first
  | refine' G.w_iteNT ?_ | refine' G.w_iteNF ?_ | refine' G.w_iteRf ?_ | refine' G.w_iteNRf ?_ | refine' G.w_tru ?_ | (refine' G.w_truL ?g1 ?_; (case g1 => walk_at "sq")) | refine' G.w_revL ?_ | (refine' G.w_revL2 ?g1 ?_; (case g1 => walk_at "sq"))
  | (refine' G.w_rep ?g1 ?g2 ?g3 ?g4 ?_; (case g1 => walk_at "hp"); (case g2 => walk_at "ar"); (case g3 => walk_at "ar"); (case g4 => walk_at "sz"))
  | refine' G.w_isNr ?_ | refine' G.w_notN ?_ | refine' G.w_isII ?_ | refine' G.w_isIB ?_ | refine' G.w_isBB ?_ | (refine' G.w_isLL ?g1 ?_; (case g1 => walk_at "hp")))

namespace G
open PySem L2
variable {K : PySem.W.Frag} {A : CA} {vs : List V} {H : Hp} {Q : VK} {E : XK}
/-- chains: numbers from 0 to 60 -/
def Chn (c : List Int) : Prop := ∀ n ∈ c, 0 ≤ n ∧ n ≤ 60
theorem Chn.app {a b : List Int} (h : Chn a) (k : Chn b) : Chn (a ++ b) := fun n hn => by
  rcases List.mem_append.mp hn with q | q
  · exact h n q
  · exact k n q
theorem Chn.set {a : List Int} {i : Nat} {v : Int} (h : Chn a) (h0 : 0 ≤ v) (h1 : v ≤ 60) : Chn (a.set i v) := fun n hn => by
  rcases List.mem_or_eq_of_mem_set hn with q | q
  · exact h n q
  · rw [q]; exact ⟨h0, h1⟩
theorem Chn.sub {a b : List Int} (h : Chn a) (k : ∀ x ∈ b, x ∈ a) : Chn b := fun n hn => h n (k n hn)
theorem Chn.rep {a : List Int} {k : Nat} (h : Chn a) : Chn (List.replicate k a).flatten := h.sub fun x hx => by
  obtain ⟨l, hl, hm⟩ := List.mem_flatten.mp hx
  rw [(List.mem_replicate.mp hl).2] at hm; exact hm
theorem map_rep {a : List Int} {k : Nat} : (List.replicate k (a.map V.int)).flatten = ((List.replicate k a).flatten).map V.int := by
  rw [List.map_flatten, List.map_replicate]
theorem len_rep {α : Type} {a : List α} {k : Nat} : (List.replicate k a).flatten.length = k * a.length := by
  simp [List.length_flatten, List.map_replicate, List.sum_replicate_nat]
theorem snocI (xs : List Int) (z : Int) : xs.map V.int ++ [V.int z] = (xs ++ [z]).map V.int := by rw [List.map_append]; rfl
end G

namespace G
open PySem L2
theorem sIx_nat (n k : Nat) (d : Nat) : HT.sIx n d (some (k : Int)) = min k n := by
  unfold HT.sIx
  simp
  omega
theorem cut_map (c : List Int) (i j : Nat) : cutV (c.map V.int) (some (i : Int)) (some (j : Int)) = ((c.drop i).take (j - i)).map V.int := by
  unfold cutV
  rw [sIx_nat, sIx_nat, List.length_map, ← List.map_drop, ← List.map_take]
  congr 1
  by_cases h : i ≤ c.length
  · rw [show min i c.length = i by omega]
    by_cases h2 : j ≤ c.length
    · rw [show min j c.length = j by omega]
    · rw [show min j c.length = c.length by omega, List.take_of_length_le (by simp), List.take_of_length_le (by simp; omega)]
  · rw [show min i c.length = c.length by omega, List.drop_eq_nil_of_le (Nat.le_refl _), List.drop_eq_nil_of_le (by omega)]
    simp
theorem cut_mapFrom (c : List Int) (i : Nat) : cutV (c.map V.int) (some (i : Int)) none = (c.drop i).map V.int := by
  unfold cutV
  rw [sIx_nat, List.length_map, ← List.map_drop, ← List.map_take]
  congr 1
  show List.take (c.length - _) _ = _
  by_cases h : i ≤ c.length
  · rw [show min i c.length = i by omega, List.take_of_length_le (by simp)]
  · rw [List.drop_eq_nil_of_le (show c.length ≤ i by omega), List.drop_eq_nil_of_le (by omega)]; simp
theorem cut_mapTo (c : List Int) (j : Nat) : cutV (c.map V.int) none (some (j : Int)) = (c.take j).map V.int := by
  unfold cutV
  rw [sIx_nat, List.length_map, ← List.map_drop, ← List.map_take]
  congr 1
  show List.take (_ - 0) (List.drop 0 c) = _
  rw [List.drop_zero, Nat.sub_zero]
  by_cases h : j ≤ c.length
  · rw [show min j c.length = j by omega]
  · rw [List.take_of_length_le (by omega), List.take_of_length_le (by omega)]
variable {K : PySem.W.Frag} {A : CA} {vs : List V} {H : Hp} {Q : VK} {E : XK}
theorem w_oIntB {b : Bool} (q : Q (.int (if b then 1 else 0)) H) : oInt [.bl b] H Q := .inr ⟨b, rfl, q⟩
theorem getI {c : List Int} {i : Nat} {x : V} (h : (c.map V.int)[i]? = some x) : ∃ hi : i < c.length, x = V.int c[i] := by
  rw [List.getElem?_map] at h
  have hi : i < c.length := by
    by_cases hc : i < c.length
    · exact hc
    · rw [List.getElem?_eq_none (by omega)] at h; cases h
  rw [List.getElem?_eq_getElem hi] at h
  exact ⟨hi, (Option.some.inj h).symm⟩
end G
local macro_rules | `(tactic| walk_at "call") => `(tactic| refine' G.w_oIntB ?_)

namespace G
open PySem L2
/-! ### made lists -/
section
variable {K : PySem.W.Frag} {σ : L2.St} {H : Hp} {ta tb : TE} {xs ys : List Int} {k a : Int} {i : Nat}
/-- the expression makes a new list of these ints -/
def Mk (ta : TE) (σ : L2.St) (H : Hp) (xs : List Int) : Prop := ∀ Q : VK, (∀ p H', H p = none → Same H H' → H' p = some (.lst (xs.map V.int)) → Q (.ref p) H') → ta σ H Q
/-- the expression is this int and changes nothing -/
def Iv (tb : TE) (σ : L2.St) (k : Int) : Prop := ∀ (H : Hp) (Q : VK), Q (.int k) H → tb σ H Q
theorem Iv.var (h : σ[i]? = some (some (.int k))) : Iv (tVar i) σ k := fun _ _ q => w_var h q
theorem Iv.c : Iv (tC (.int k)) σ k := fun _ _ q => q
theorem Iv.sub {m : Int} (h : Iv ta σ k) (h2 : Iv tb σ m) : Iv (tOp oSub ta tb) σ (k - m) := fun _ _ q => w_op (h _ _ (h2 _ _ (w_oSub q)))
theorem Iv.add {m : Int} (h : Iv ta σ k) (h2 : Iv tb σ m) : Iv (tOp oAdd ta tb) σ (k + m) := fun _ _ q => w_op (h _ _ (h2 _ _ (w_oAdd q)))
theorem Mk.one (h : Iv ta σ a) : Mk (tLst (tCons ta tNil)) σ H [a] := fun Q q => w_lst (w_cons (h _ _ (w_nil ⟨Nat.le_trans (by simp : [V.int a].length ≤ 1) (by decide), fun p hp => q p _ hp (same_new hp) upd_same⟩)))
theorem Mk.rep (h : Mk ta σ H xs) (h2 : Iv tb σ k) (h0 : -4611686018427387904 ≤ k) (h1 : k < 4611686018427387904) (hl : xs.length * k.toNat ≤ 100000) : Mk (tOp rRep ta tb) σ H (List.replicate k.toNat xs).flatten := fun Q q =>
  w_op (h _ fun p H1 hp e hx => h2 _ _ (w_rep hx h0 h1 (by rw [List.length_map]; exact Nat.le_trans hl (by decide)) fun l hl => q l _ (e.free hl) (e.trans (same_new hl)) (by rw [map_rep]; exact upd_same)))
theorem Mk.cat (h : Mk ta σ H xs) (h2 : ∀ H', Same H H' → Mk tb σ H' ys) (hl : xs.length + ys.length ≤ 100000) : Mk (tOp rCat ta tb) σ H (xs ++ ys) := fun Q q =>
  w_op (h _ fun p H1 hp e hx => h2 H1 e _ fun p2 H2 hp2 e2 hy => w_cat (e2 _ _ hx) hy (by rw [List.length_map, List.length_map]; exact Nat.le_trans hl (by decide)) fun l hl => q l _ ((e.trans e2).free hl) ((e.trans e2).trans (same_new hl)) (by rw [← List.map_append]; exact upd_same))
theorem Mk.same {H' : Hp} (e : Same H H') (h : ∀ H1, Mk ta σ H1 xs) : Mk ta σ H' xs := h H'
end
theorem flat_one {α : Type} (k : Nat) (x : α) : (List.replicate k [x]).flatten = List.replicate k x := by
  induction k with
  | zero => rfl
  | succ k ih => rw [List.replicate_succ, List.flatten_cons, ih]; rfl
end G

end
section
local macro_rules | `(tactic| walk_at "call") => `(tactic| first
  | (refine' G.w_anyI ?g1 ?_; (case g1 => walk_at "sq")) | refine' G.w_lcE ?_ | (refine' G.w_enumSq ?g1 ?_; (case g1 => walk_at "sq"))
  | (refine' G.w_neI2 ?g1 ?g2 ?_; (case g1 => walk_at "sq"); (case g2 => walk_at "sq")) | (refine' G.w_eqI2 ?g1 ?g2 ?_; (case g1 => walk_at "sq"); (case g2 => walk_at "sq")))

local macro_rules | `(tactic| walk_at "call") => `(tactic| first
  | refine' G.w_iteNT ?_ | refine' G.w_iteNF ?_ | refine' G.w_iteRf ?_ | refine' G.w_iteNRf ?_ | refine' G.w_tru ?_ | (refine' G.w_truL ?g1 ?_; (case g1 => walk_at "sq")) | refine' G.w_revL ?_ | (refine' G.w_revL2 ?g1 ?_; (case g1 => walk_at "sq"))
  | (refine' G.w_rep ?g1 ?g2 ?g3 ?g4 ?_; (case g1 => walk_at "hp"); (case g2 => walk_at "ar"); (case g3 => walk_at "ar"); (case g4 => walk_at "sz"))
  | refine' G.w_isNr ?_ | refine' G.w_notN ?_ | refine' G.w_isII ?_ | refine' G.w_isIB ?_ | refine' G.w_isBB ?_ | (refine' G.w_isLL ?g1 ?_; (case g1 => walk_at "hp")))

local macro_rules | `(tactic| walk_at "call") => `(tactic| refine' G.w_oIntB ?_)

namespace G
open PySem PySem.Spec PyProof.Rows L2
/-! ### list(range(i, j, c)), shifts, reversed ranges -/
def tLstRg3 (ta : TA) : TE := fun σ H Q => ta σ H fun vs H1 => ∃ (i j c : Int) (n : Nat), vs = [.int i, .int j, .int c] ∧ RgC i j c n ∧ n ≤ 2 ^ 20 ∧ ∀ q, H1 q = none → Q (.ref q) (upd H1 q (.lst ((List.range n).map fun (m : Nat) => V.int (i + (m : Int) * c))))
theorem pe_listRg3 {X : Cx} {a b c : Expr} {ta : TA} {p p2 pos pos2 : Pos} (hc : X.calm = true) (hgl : Gl X "list") (hml : X.mg "list" = none) (hg : Gl X "range") (hm : X.mg "range" = none) (ha : PA X [a, b, c] ta)
    (hs : starEach [a, b, c] X.env = (false, eval a X.env) :: starEach [b, c] X.env := by rfl) (hpl : (backTo pos (starEach [b, c] X.env)).any (·.1) = false := by rfl)
    (na : starEach [.Call (.Name "range" p) [a, b, c] [] pos] X.env = (false, eval (.Call (.Name "range" p) [a, b, c] [] pos) X.env) :: starEach [] X.env := by rfl) :
    PE X (.Call (.Name "list" p2) [.Call (.Name "range" p) [a, b, c] [] pos] [] pos2) (tLstRg3 ta) := by
  refine ⟨fun pins s σ H Q I h => ?_⟩
  refine Call_ (ld_blt I hgl hml boot_list (PyProof.Rows.callWith_type1 (args_cons ?_ na) na))
  refine Call_ (ld_blt I hg hm boot_range (PyProof.Rows.callWith_type1 (thn (ha.run pos pins s σ H _ I h) fun us s1 ⟨vs, H1, I1, r1, q1⟩ => ?_) hs hpl))
  obtain ⟨i, j, k, n, e, ⟨c0, c1, c2, c3⟩, hn, q⟩ := q1
  subst e
  cases r1 with
  | cons r rr =>
    cases rr with
    | cons r' rr =>
      cases rr with
      | cons r'' rr =>
        cases rr
        obtain ⟨t, rfl⟩ := r
        obtain ⟨t', rfl⟩ := r'
        obtain ⟨t'', rfl⟩ := r''
        refine call_range_3 c0 ?_ (.inl (PyProof.noPylong_small c1))
        refine args_nil ?_
        have I2 : Inv X pins σ H1 { s1 with heap := s1.heap.push { cls := .type "range", data := .fields #[.int i t, .int j t', .int k t''] } } := I1.kept (t' := s1.toks) fun b o e => Heap.get?_push_of_some _ e
        refine call_list_range (n := n) (I2.ok.hd hc) (IsRange.new ..) c2 c3 (Nat.le_trans hn (by decide)) fun h' tk acc c' hk e' hi => ?_
        have e : acc.toList.length = n := by rw [Array.length_toList]; exact hi.1
        refine ⟨.ref _, upd H1 _ (.lst ((List.range n).map fun (m : Nat) => V.int (i + (m : Int) * k))), I2.laid hk (Nat.le_refl _) (show ObjOk X.prog X.w _ _ _ (.lst ((List.range n).map fun (m : Nat) => V.int (i + (m : Int) * k))) from ⟨?_, acc.toList, c', ?_, ?_⟩), rfl, q _ (I2.hok.fresh (Nat.le_refl _))⟩
        · rw [List.length_map, List.length_range, sizeLine_eq]; omega
        · rw [← e]
          refine vals_of_get acc.toList _ fun j u hj => ?_
          obtain ⟨t, rfl⟩ := hi.2 j u (by rw [← hj, Array.getElem?_toList])
          exact ⟨t, rfl⟩
        · rw [Array.toArray_toList]; exact e'
theorem rg_down {a b : Int} {w n : Nat} (hw : 1 ≤ w) (hw1 : w ≤ 1000000) (ha : 0 ≤ a) (ha' : a ≤ 1000000) (hb : 0 ≤ b) (hn : 1 ≤ n) (e : a = b + ((n * w : Nat) : Int)) : RgC a b (-(w : Int)) n := by
  have hnw : 1 * 1 ≤ n * w := Nat.mul_le_mul hn hw
  have hs : Builtin.Range.rangeSize a b (-(w : Int)) = n := by
    unfold Builtin.Range.rangeSize
    rw [if_neg (by omega), if_pos (by omega), Int.neg_neg]
    have h1 : a - b - 1 = ((n * w - 1 : Nat) : Int) := by omega
    rw [h1, ← Int.natCast_ediv]
    have h2 : (n * w - 1) / w = n - 1 := by
      obtain ⟨m, rfl⟩ : ∃ m, n = m + 1 := ⟨n - 1, by omega⟩
      have e3 : (m + 1) * w - 1 = w * m + (w - 1) := by rw [Nat.add_mul, Nat.mul_comm]; omega
      rw [e3, Nat.mul_add_div (by omega), Nat.div_eq_of_lt (by omega)]; simp
    rw [h2]; omega
  have hnn : n ≤ n * w := Nat.le_mul_of_pos_right _ hw
  refine ⟨by omega, by omega, ?_, hs⟩
  unfold Builtin.Range.small
  rw [hs, if_neg (by omega)]
  unfold Builtin.Range.rangeFitsLong
  simp only [Bool.and_eq_true, Bool.or_eq_true, decide_eq_true_eq, beq_iff_eq]
  omega
def oShl1 : R2 := fun x y H Q => ∃ k : Nat, x = .int 1 ∧ y = .int (k : Int) ∧ k ≤ 134217727 ∧ Q (.int (2 ^ k)) H
def oShrN : R2 := fun x y H Q => ∃ (i : Int) (k : Nat), x = .int i ∧ y = .int (k : Int) ∧ Q (.int (i / 2 ^ k)) H
def oOdd : R2 := fun x y H Q => ∃ n : Nat, x = .int (n : Int) ∧ y = .int 1 ∧ Q (.int ((n % 2 : Nat) : Int)) H
section
variable {K : PySem.W.Frag} {σ : L2.St} {H : Hp} {Q : VK} {p : Addr} {ns : List Int} {i : Int}
theorem inV_int : ∀ (ns : List Int) (i : Int), inV (.int i) (ns.map V.int) = decide (i ∈ ns)
  | [], i => rfl
  | n :: ns, i => by
    have ih := inV_int ns i
    unfold inV at ih ⊢
    rw [List.map_cons, List.any_cons, ih]
    show (decide (n = i) || decide (i ∈ ns)) = _
    by_cases c : n = i
    · subst c; simp
    · by_cases c2 : i ∈ ns <;> simp [c, c2, Ne.symm c]
theorem all_flat : ∀ ns : List Int, (ns.map V.int).all flatV = true
  | [] => rfl
  | n :: ns => by rw [List.map_cons, List.all_cons, all_flat ns]; rfl
theorem w_inI (h : SqL K H p (ns.map V.int)) (q : Q (.bl (decide (i ∈ ns))) H) : rIn K false (.int i) (.ref p) H Q := ⟨p, _, rfl, .inl h, rfl, all_flat ns, by rw [inV_int]; exact q⟩
theorem w_max (h : SqL K H p (ns.map V.int)) (h0 : 0 < ns.length) (q : ∀ m, m ∈ ns → (∀ y, y ∈ ns → y ≤ m) → Q (.int m) H) : rMax K [.ref p] H Q := ⟨p, ns, rfl, h, h0, q⟩
theorem w_forRev {ta : TE} {g : TG} {tb : TS} {D : Ends} (h : ta σ H fun x H1 => ∃ n : Int, x = .int n ∧ -(2 ^ 62) ≤ (0 : Int) ∧ (0 : Int) < 2 ^ 62 ∧ -(2 ^ 62) ≤ n ∧ n < 2 ^ 62 ∧ ForW (Itc (0 + (((n - 0).toNat : Nat) : Int) - 1) (-1) (n - 0).toNat) g tb D σ H1) : tFor (iRevR (tRg1 ta)) g tb D σ H := h
theorem w_bdR {n : Int} {P : Prop} (h0 : -4611686018427387904 ≤ n) (h1 : n < 4611686018427387904) (q : P) : -(2 ^ 62) ≤ (0 : Int) ∧ (0 : Int) < 2 ^ 62 ∧ -(2 ^ 62) ≤ n ∧ n < 2 ^ 62 ∧ P := ⟨by omega, by omega, by omega, by omega, q⟩
/-- reversed(range(n)): the place of turn t is n - 1 - t -/
theorem forC {n : Nat} {g : TG} {tb : TS} {D : Ends} (Pv : Nat → L2.St → Hp → Prop) (h0 : Pv 0 σ H)
    (hs : ∀ i σ1 H1, i < n → Pv i σ1 H1 → g (.int ((n - 1 - i : Nat) : Int)) σ1 H1 fun σ2 H2 => tb { D with nx := Pv (i + 1), ct := Pv (i + 1), bk := D.nx } σ2 H2) (hd : ∀ σ1 H1, Pv n σ1 H1 → D.nx σ1 H1) :
    ForW (Itc (0 + ((((n : Nat) : Int) - 0).toNat : Int) - 1) (-1) (((n : Nat) : Int) - 0).toNat) g tb D σ H := by
  rw [show (((n : Nat) : Int) - 0).toNat = n by omega]
  refine for_rangeC Pv h0 (fun i σ1 H1 hi p => ?_) hd
  have e : (0 : Int) + ((n : Nat) : Int) - 1 + ((i : Nat) : Int) * -1 = ((n - 1 - i : Nat) : Int) := by omega
  rw [e]
  exact hs i σ1 H1 hi p
end
theorem at_int {xs : List Int} {j : Nat} {v : Int} (h : xs[j]? = some v) : atI (xs.map V.int) (j : Int) = some (V.int v) := at_of (j := j) rfl (by rw [List.getElem?_map, h]; rfl)
theorem w_lstRg3 {σ : L2.St} {H : Hp} {Q : VK} {ta : TA} (h : ta σ H fun vs H1 => ∃ (i j c : Int) (n : Nat), vs = [.int i, .int j, .int c] ∧ RgC i j c n ∧ n ≤ 2 ^ 20 ∧ ∀ q, H1 q = none → Q (.ref q) (upd H1 q (.lst ((List.range n).map fun (m : Nat) => V.int (i + (m : Int) * c))))) : tLstRg3 ta σ H Q := h
theorem w_ninI {K : PySem.W.Frag} {H : Hp} {Q : VK} {p : Addr} {ns : List Int} {i : Int} (h : SqL K H p (ns.map V.int)) (q : Q (.bl (!decide (i ∈ ns))) H) : rIn K true (.int i) (.ref p) H Q := ⟨p, _, rfl, .inl h, rfl, all_flat ns, by rw [inV_int]; exact q⟩
theorem w_min {K : PySem.W.Frag} {H : Hp} {Q : VK} {p : Addr} {ns : List Int} (h : SqL K H p (ns.map V.int)) (h0 : 0 < ns.length) (q : ∀ m, m ∈ ns → (∀ y, y ∈ ns → m ≤ y) → Q (.int m) H) : rMin K [.ref p] H Q := ⟨p, ns, rfl, h, h0, q⟩
theorem w_sortI {K : PySem.W.Frag} {H : Hp} {Q : VK} {p : Addr} {ns : List Int} (h : SqL K H p (ns.map V.int)) (q : ∀ (ns' : List Int) (l : Addr), ns'.Perm ns → ns'.Pairwise (· ≤ ·) → H l = none → Q (.ref l) (upd H l (.lst (ns'.map V.int)))) : rSortedI K [.ref p] H Q := ⟨p, ns, rfl, h, q⟩
theorem sorted_eq {xs ys : List Int} (hp : xs.Perm ys) (hx : xs.Pairwise (· ≤ ·)) (hy : ys.Pairwise (· ≤ ·)) : xs = ys := hp.eq_of_pairwise (fun a b _ _ h1 h2 => by omega) hx hy
theorem at_last1 {xs : List V} {v : V} : atI (xs ++ [v]) (-1) = some v := atI_last _ _
/-- natural numbers as ints -/
abbrev nI (l : List Nat) : List Int := l.map fun (n : Nat) => (n : Int)
theorem mem_nI {l : List Nat} {i : Nat} : (i : Int) ∈ nI l ↔ i ∈ l := by
  constructor
  · intro h
    obtain ⟨j, hj, e⟩ := List.mem_map.mp h
    rw [← Int.ofNat_inj.mp e]; exact hj
  · exact fun h => List.mem_map.mpr ⟨i, h, rfl⟩
theorem w_wl {c : TT} {tb : TS} {D : Ends} {σ : L2.St} {H : Hp} (W : Nat → L2.St → Hp → Prop) (m : Nat) (h0 : W m σ H) (hs : ∀ m σ H, W m σ H → c σ H fun b H1 => if b = true then tb { D with nx := fun σ' H' => ∃ m', m' < m ∧ W m' σ' H', ct := fun σ' H' => ∃ m', m' < m ∧ W m' σ' H', bk := D.nx } σ H1 else D.nx σ H1)
    (mono : ∀ σ H Q Q', (∀ b H1, Q b H1 → Q' b H1) → c σ H Q → c σ H Q') : tWhile c tb D σ H := by
  refine ⟨W, ⟨m, h0⟩, fun m σ H p => mono σ H _ _ (fun b H1 q => ?_) (hs m σ H p)⟩
  cases b with
  | true => exact ⟨_, fun _ _ h => h, q⟩
  | false => exact q
end G
namespace GY
open PySem L2 G
def oTupOf (K : PySem.W.Frag) : RL := fun xs H Q => ∃ p ys, xs = [.ref p] ∧ ((SqL K H p ys ∧ ∀ l, H l = none → Q (.ref l) (upd H l (.tup ys))) ∨ (SqT K H p ys ∧ Q (.ref p) H))
section
variable {K : PySem.W.Frag} {σ : L2.St} {H : Hp} {Q : VK} {p : Addr} {xs ys : List V} {te tz : TE} {t : TA} {tt : TT}
theorem w_tupL (h : SqL K H p ys) (q : ∀ l, H l = none → Q (.ref l) (upd H l (.tup ys))) : oTupOf K [.ref p] H Q := ⟨p, ys, rfl, .inl ⟨h, q⟩⟩
theorem w_star {Ql : List V → Hp → Prop} (h : te σ H fun x H1 => ∃ p xs, x = V.ref p ∧ (SqT K H1 p xs ∨ SqL K H1 p xs) ∧ t σ H1 fun ys H2 => Ql (xs ++ ys) H2) : _root_.StX.tStar K te t σ H Ql := h
theorem w_starL {P : List V → Prop} (h : SqL K H p xs) (q : P xs) : ∃ a ys, V.ref p = V.ref a ∧ (SqT K H a ys ∨ SqL K H a ys) ∧ P ys := ⟨p, xs, rfl, .inr h, q⟩
theorem w_listT (h : SqT K H p ys) (q : ∀ l, H l = none → Q (.ref l) (upd H l (.lst ys))) : oListOf K [.ref p] H Q := ⟨p, ys, rfl, .inr h, q⟩
theorem w_lcS {g : TG} {vs : List Nat} (h : tz σ H fun x H1 => ∃ a, x = .ref a ∧ (((∃ xs, SqL K H1 a xs) ∧ LcW (Itl K a) g tt te vs σ H1 Q) ∨ ((∃ xs, SqT K H1 a xs) ∧ LcW (Itt K a) g tt te vs σ H1 Q))) : tLc (iSeq K tz) g tt te vs σ H Q := h
theorem lcT {a : Addr} {g : TG} {vs : List Nat} (Pv : Addr → Nat → Hp → Prop) (h0 : ∀ Dl, H Dl = none → Pv Dl 0 (upd H Dl (.lst []))) (hl : ∀ Dl i H1, H Dl = none → i ≤ xs.length → Pv Dl i H1 → SqT K H1 a xs)
    (hs : ∀ Dl i x H1, H Dl = none → xs[i]? = some x → Pv Dl i H1 → g x (wipe σ vs) H1 fun σ2 H2 => wipe σ2 vs = wipe σ vs ∧ LcT tt te Dl (Pv Dl (i + 1)) σ2 H2) (hd : ∀ Dl H1, H Dl = none → Pv Dl xs.length H1 → Q (.ref Dl) H1) : LcW (Itt K a) g tt te vs σ H Q :=
  fun Dl hD => lc_tup (K := K) (a := a) (xs := xs) (Pv Dl) (h0 Dl hD) (fun i H1 hi p => hl Dl i H1 hD hi p) (fun i x H1 hx p => hs Dl i x H1 hD hx p) (fun H1 p => hd Dl H1 hD p)
end
end GY
local macro_rules | `(tactic| walk_at "sqt") => `(tactic| first | assumption | exact L2.SqT.of (by walk_at "hp"))
local macro_rules | `(tactic| walk_at "call") => `(tactic| first
  | (refine' G.w_inI ?g1 ?_; (case g1 => walk_at "sq")) | (refine' G.w_ninI ?g1 ?_; (case g1 => walk_at "sq")) | refine' G.w_forRev ?_ | refine' G.w_lstRg3 ?_ | (refine' G.w_bdR ?g1 ?g2 ?_; (case g1 => walk_at "ar"); (case g2 => walk_at "ar"))
  | (refine' G.w_max ?g1 ?g2 ?_; (case g1 => walk_at "sq"); (case g2 => walk_at "ar")) | (refine' G.w_min ?g1 ?g2 ?_; (case g1 => walk_at "sq"); (case g2 => walk_at "ar"))
  | (refine' G.w_sortI ?g1 ?_; (case g1 => walk_at "sq")) | (refine' GY.w_tupL ?g1 ?_; (case g1 => walk_at "sq")) | refine' GY.w_star ?_ | (refine' GY.w_starL ?g1 ?_; (case g1 => walk_at "sq")) | (refine' GY.w_listT ?g1 ?_; (case g1 => walk_at "sqt")))

end
section
local macro_rules | `(tactic| walk_at "call") => `(tactic| first
  | (refine' G.w_anyI ?g1 ?_; (case g1 => walk_at "sq")) | refine' G.w_lcE ?_ | (refine' G.w_enumSq ?g1 ?_; (case g1 => walk_at "sq"))
  | (refine' G.w_neI2 ?g1 ?g2 ?_; (case g1 => walk_at "sq"); (case g2 => walk_at "sq")) | (refine' G.w_eqI2 ?g1 ?g2 ?_; (case g1 => walk_at "sq"); (case g2 => walk_at "sq")))

local macro_rules | `(tactic| walk_at "call") => `(tactic| first
  | refine' G.w_iteNT ?_ | refine' G.w_iteNF ?_ | refine' G.w_iteRf ?_ | refine' G.w_iteNRf ?_ | refine' G.w_tru ?_ | (refine' G.w_truL ?g1 ?_; (case g1 => walk_at "sq")) | refine' G.w_revL ?_ | (refine' G.w_revL2 ?g1 ?_; (case g1 => walk_at "sq"))
  | (refine' G.w_rep ?g1 ?g2 ?g3 ?g4 ?_; (case g1 => walk_at "hp"); (case g2 => walk_at "ar"); (case g3 => walk_at "ar"); (case g4 => walk_at "sz"))
  | refine' G.w_isNr ?_ | refine' G.w_notN ?_ | refine' G.w_isII ?_ | refine' G.w_isIB ?_ | refine' G.w_isBB ?_ | (refine' G.w_isLL ?g1 ?_; (case g1 => walk_at "hp")))

local macro_rules | `(tactic| walk_at "call") => `(tactic| refine' G.w_oIntB ?_)

local macro_rules | `(tactic| walk_at "sqt") => `(tactic| first | assumption | exact L2.SqT.of (by walk_at "hp"))
local macro_rules | `(tactic| walk_at "call") => `(tactic| first
  | (refine' G.w_inI ?g1 ?_; (case g1 => walk_at "sq")) | (refine' G.w_ninI ?g1 ?_; (case g1 => walk_at "sq")) | refine' G.w_forRev ?_ | refine' G.w_lstRg3 ?_ | (refine' G.w_bdR ?g1 ?g2 ?_; (case g1 => walk_at "ar"); (case g2 => walk_at "ar"))
  | (refine' G.w_max ?g1 ?g2 ?_; (case g1 => walk_at "sq"); (case g2 => walk_at "ar")) | (refine' G.w_min ?g1 ?g2 ?_; (case g1 => walk_at "sq"); (case g2 => walk_at "ar"))
  | (refine' G.w_sortI ?g1 ?_; (case g1 => walk_at "sq")) | (refine' GY.w_tupL ?g1 ?_; (case g1 => walk_at "sq")) | refine' GY.w_star ?_ | (refine' GY.w_starL ?g1 ?_; (case g1 => walk_at "sq")) | (refine' GY.w_listT ?g1 ?_; (case g1 => walk_at "sqt")))

namespace G
open PySem PySem.Spec PyProof.Rows L2
section
variable {K : PySem.W.Frag} {A : CA} {vs : List V} {H : Hp} {Q : VK} {E : XK}
theorem map_drop_take (xs : List Int) (a b : Nat) : ((xs.map V.int).drop a).take b = ((xs.drop a).take b).map V.int := by rw [← List.map_drop, ← List.map_take]
theorem cut_ints (xs : List Int) (lo hi : Option Int) : ∃ ys : List Int, cutV (xs.map V.int) lo hi = ys.map V.int := ⟨_, map_drop_take xs _ _⟩
end
section
def Par (ps : List Int) : Prop := ∀ (k : Nat) (z : Int), ps[k]? = some z → -1 ≤ z ∧ z < (k : Int)
theorem Par.snoc {ps : List Int} {z : Int} (h : Par ps) (h0 : -1 ≤ z) (h1 : z < ps.length) : Par (ps ++ [z]) := by
  intro k w hk
  by_cases hc : k < ps.length
  · rw [List.getElem?_append_left hc] at hk; exact h k w hk
  · rw [List.getElem?_append_right (by omega)] at hk
    have e : k - ps.length = 0 := by
      cases hd : k - ps.length with
      | zero => rfl
      | succ n => rw [hd] at hk; simp at hk
    rw [e] at hk
    have := Option.some.inj hk
    subst this; omega
theorem par1 : Par [-1] := by
  intro k z hk
  cases k with
  | zero =>
    have e : (-1 : Int) = z := Option.some.inj hk
    subst e; decide
  | succ n => simp at hk
end
section
/-- rows of pairs of pages below m, two different ones each, none twice -/
structure RG (m : Int) (rows : List (Int × Int)) : Prop where
  bd : ∀ r ∈ rows, 0 ≤ r.1 ∧ r.1 < m ∧ 0 ≤ r.2 ∧ r.2 < m ∧ r.1 ≠ r.2
  nd : rows.Nodup
theorem RG.nil {m : Int} : RG m [] := ⟨fun _ h => (by cases h), List.nodup_nil⟩
theorem RG.snoc {m n : Int} {rows : List (Int × Int)} {r : Int × Int} (h : RG m rows) (hm : m ≤ n) (h0 : 0 ≤ r.1) (h1 : r.1 < n) (h2 : 0 ≤ r.2) (h3 : r.2 < n) (h4 : r.1 ≠ r.2) (hn : r ∉ rows) : RG n (rows ++ [r]) := by
  refine ⟨fun x hx => ?_, ?_⟩
  · rcases List.mem_append.mp hx with k | k
    · have := h.bd x k; omega
    · have e := List.mem_singleton.mp k
      subst e; exact ⟨h0, h1, h2, h3, h4⟩
  · rw [List.nodup_append]
    exact ⟨h.nd, by simp, fun a ha b hb e => by
      have e2 := List.mem_singleton.mp hb
      subst e2; subst e; exact hn ha⟩
theorem RG.mono {m n : Int} {rows : List (Int × Int)} (h : RG m rows) (hm : m ≤ n) : RG n rows := ⟨fun x hx => by have := h.bd x hx; omega, h.nd⟩
theorem RG.no {m : Int} {rows : List (Int × Int)} {r : Int × Int} (h : RG m rows) (hr : m ≤ r.1 ∨ m ≤ r.2) : r ∉ rows := fun hm => by have := h.bd r hm; omega
variable {H : Hp} {q t : Addr} {vs : List V} {rows : List (Int × Int)} {a b : Int} {o o2 : HO}
theorem push_row (hq : H q = some (.lst vs)) (hp : Paired (PR H) vs rows) (ht : H t = none) : Paired (PR (upd (upd H t (.tup [.int a, .int b])) q o)) (vs ++ [.ref t]) (rows ++ [(a, b)]) := by
  have hqt : q ≠ t := ne_of_none hq ht
  exact (PRs.mutL (keep hq ht) (PRs.new ht hp)).snoc ⟨t, rfl, keepNe upd_same hqt.symm⟩
end
section
/-- each page once -/
structure NM (m : Int) (ns : List Int) : Prop where
  len : (ns.length : Int) = m
  bd : ∀ z ∈ ns, 0 ≤ z ∧ z < m
  inj : ∀ (i j : Nat) (a : Int), ns[i]? = some a → ns[j]? = some a → i = j
theorem rng_ints (n : Nat) : rgV 0 (n : Int) = ((List.range n).map fun i => ((i : Nat) : Int)).map V.int := by
  unfold rgV
  rw [List.map_map]
  have e : ((n : Int) - 0).toNat = n := by omega
  rw [e]
  refine List.map_congr_left fun i _ => ?_
  show V.int (0 + (i : Int)) = V.int (i : Int)
  rw [Int.zero_add]
theorem nm_map {n : Nat} {f : Nat → Int} (hb : ∀ i, i < n → 0 ≤ f i ∧ f i < (n : Int)) (hi : ∀ i j, i < n → j < n → f i = f j → i = j) : NM (n : Int) ((List.range n).map f) := by
  refine ⟨by simp, fun z hz => ?_, fun i j a h1 h2 => ?_⟩
  · obtain ⟨i, h, rfl⟩ := List.mem_map.mp hz
    exact hb i (List.mem_range.mp h)
  · rw [List.getElem?_map] at h1 h2
    cases e1 : (List.range n)[i]? with
    | none => rw [e1] at h1; cases h1
    | some x =>
      cases e2 : (List.range n)[j]? with
      | none => rw [e2] at h2; cases h2
      | some y =>
        rw [e1] at h1; rw [e2] at h2
        have g1 := List.getElem?_eq_some_iff.mp e1
        have g2 := List.getElem?_eq_some_iff.mp e2
        obtain ⟨l1, k1⟩ := g1
        obtain ⟨l2, k2⟩ := g2
        rw [List.getElem_range] at k1 k2
        rw [List.length_range] at l1 l2
        have f1 : f x = a := Option.some.inj h1
        have f2 : f y = a := Option.some.inj h2
        subst k1; subst k2
        exact hi _ _ l1 l2 (f1.trans f2.symm)
theorem NM.swap {m : Int} {ns : List Int} {i j : Nat} {a b : Int} (h : NM m ns) (hi : ns[i]? = some a) (hj : ns[j]? = some b) : NM m ((ns.set i b).set j a) := by
  have li := (List.getElem?_eq_some_iff.mp hi).1
  have lj := (List.getElem?_eq_some_iff.mp hj).1
  have key : ∀ (k : Nat) (z : Int), ((ns.set i b).set j a)[k]? = some z → (k = j ∧ z = a) ∨ (k ≠ j ∧ k = i ∧ z = b) ∨ (k ≠ j ∧ k ≠ i ∧ ns[k]? = some z) := by
    intro k z hk
    rw [List.getElem?_set] at hk
    by_cases c1 : j = k
    · rw [if_pos c1, if_pos (by rw [List.length_set]; exact lj)] at hk
      exact .inl ⟨c1.symm, (Option.some.inj hk).symm⟩
    · rw [if_neg c1, List.getElem?_set] at hk
      by_cases c2 : i = k
      · rw [if_pos c2, if_pos li] at hk
        exact .inr (.inl ⟨fun e => c1 e.symm, c2.symm, (Option.some.inj hk).symm⟩)
      · rw [if_neg c2] at hk
        exact .inr (.inr ⟨fun e => c1 e.symm, fun e => c2 e.symm, hk⟩)
  refine ⟨by rw [List.length_set, List.length_set]; exact h.len, fun z hz => ?_, fun k l z h1 h2 => ?_⟩
  · obtain ⟨k, hk⟩ := List.getElem?_of_mem hz
    rcases key k z hk with ⟨_, rfl⟩ | ⟨_, _, rfl⟩ | ⟨_, _, e⟩
    · exact h.bd _ (List.mem_of_getElem? hi)
    · exact h.bd _ (List.mem_of_getElem? hj)
    · exact h.bd _ (List.mem_of_getElem? e)
  · rcases key k z h1 with ⟨rfl, rfl⟩ | ⟨n1, rfl, rfl⟩ | ⟨n1, n2, e⟩ <;> rcases key l _ h2 with ⟨q1, q2⟩ | ⟨m1, q1, q2⟩ | ⟨m1, m2, e'⟩
    · omega
    · subst q2; have := h.inj _ _ _ hi hj; omega
    · have := h.inj _ _ _ hi e'; omega
    · subst q2; have := h.inj _ _ _ hi hj; omega
    · omega
    · have := h.inj _ _ _ hj e'; omega
    · subst q2; have := h.inj _ _ _ hi e; omega
    · subst q2; have := h.inj _ _ _ hj e; omega
    · exact h.inj _ _ _ e e'
theorem NM.get {m : Int} {ns : List Int} (h : NM m ns) {k : Int} (h0 : 0 ≤ k) (h1 : k < m) : ∃ z, ns[k.toNat]? = some z ∧ atI (ns.map V.int) k = some (V.int z) ∧ 0 ≤ z ∧ z < m := by
  have hl := h.len
  have hk : k.toNat < ns.length := by omega
  have hb := h.bd _ (List.getElem_mem hk)
  exact ⟨ns[k.toNat], List.getElem?_eq_getElem hk, at_of (j := k.toNat) (by omega) (by simp [hk]), hb.1, hb.2⟩
def ren (ns : List Int) (r : Int × Int) : Int × Int := (ns.getD r.1.toNat 0, ns.getD r.2.toNat 0)
theorem NM.at {m : Int} {ns : List Int} (h : NM m ns) {k : Int} (h0 : 0 ≤ k) (h1 : k < m) : atI (ns.map V.int) k = some (V.int (ns.getD k.toNat 0)) ∧ 0 ≤ ns.getD k.toNat 0 ∧ ns.getD k.toNat 0 < m := by
  obtain ⟨z, e1, e2, e3, e4⟩ := h.get h0 h1
  have e : ns.getD k.toNat 0 = z := by rw [List.getD_eq_getElem?_getD, e1]; rfl
  rw [e]; exact ⟨e2, e3, e4⟩
theorem NM.inj' {m : Int} {ns : List Int} (h : NM m ns) {k l : Int} (h0 : 0 ≤ k) (h1 : k < m) (l0 : 0 ≤ l) (l1 : l < m) (e : ns.getD k.toNat 0 = ns.getD l.toNat 0) : k = l := by
  obtain ⟨z, e1, _⟩ := h.get h0 h1
  obtain ⟨w, e2, _⟩ := h.get l0 l1
  rw [List.getD_eq_getElem?_getD, e1, List.getD_eq_getElem?_getD, e2] at e
  have e : z = w := e
  subst e
  have := h.inj _ _ _ e1 e2
  omega
theorem RG.ren {m : Int} {ns : List Int} {rows : List (Int × Int)} (h : RG m rows) (hN : NM m ns) : RG m (rows.map (ren ns)) := by
  refine ⟨fun r hr => ?_, ?_⟩
  · obtain ⟨x, hx, rfl⟩ := List.mem_map.mp hr
    obtain ⟨a, b, c, d, e⟩ := h.bd x hx
    have f1 := hN.at a b
    have f2 := hN.at c d
    exact ⟨f1.2.1, f1.2.2, f2.2.1, f2.2.2, fun z => e (hN.inj' a b c d z)⟩
  · have hb := h.bd
    have hd := h.nd
    clear h
    induction rows with
    | nil => exact List.nodup_nil
    | cons x r ih =>
      rw [List.map_cons, List.nodup_cons]
      rw [List.nodup_cons] at hd
      refine ⟨fun hm => ?_, ih (fun y hy => hb y (List.mem_cons_of_mem _ hy)) hd.2⟩
      obtain ⟨y, hy, e⟩ := List.mem_map.mp hm
      have h1 := hb x List.mem_cons_self
      have h2 := hb y (List.mem_cons_of_mem _ hy)
      have e1 := hN.inj' h2.1 h2.2.1 h1.1 h1.2.1 (congrArg Prod.fst e)
      have e2 := hN.inj' h2.2.2.1 h2.2.2.2.1 h1.2.2.1 h1.2.2.2.1 (congrArg Prod.snd e)
      have : y = x := Prod.ext e1 e2
      subst this; exact hd.1 hy
theorem RG.rot {m : Int} {rows : List (Int × Int)} (k : Nat) (h : RG m rows) : RG m (rows.drop k ++ rows.take k) := by
  have hp : (rows.drop k ++ rows.take k).Perm rows := (List.perm_append_comm).trans (by rw [List.take_append_drop])
  exact ⟨fun r hr => h.bd r (hp.mem_iff.mp hr), hp.nodup_iff.mpr h.nd⟩
theorem cut_from (xs : List V) (t : Nat) (h : t ≤ xs.length) : cutV xs (some (t : Int)) none = xs.drop t := by
  unfold cutV
  rw [show HT.sIx xs.length 0 (some (t : Int)) = t by rw [HT.sIx_nat]; omega, HT.sIx_none]
  exact List.take_of_length_le (by rw [List.length_drop]; omega)
theorem cut_to (xs : List V) (t : Nat) (h : t ≤ xs.length) : cutV xs none (some (t : Int)) = xs.take t := by
  unfold cutV
  rw [show HT.sIx xs.length xs.length (some (t : Int)) = t by rw [HT.sIx_nat]; omega, HT.sIx_none]
  rfl
theorem Paired.drop {α β : Type} {F : α → β → Prop} : ∀ (k : Nat) {l₁ : List α} {l₂ : List β}, Paired F l₁ l₂ → Paired F (l₁.drop k) (l₂.drop k)
  | 0, _, _, h => h
  | _ + 1, _, _, .nil => .nil
  | k + 1, _, _, .cons _ r => Paired.drop k r
theorem Paired.take {α β : Type} {F : α → β → Prop} : ∀ (k : Nat) {l₁ : List α} {l₂ : List β}, Paired F l₁ l₂ → Paired F (l₁.take k) (l₂.take k)
  | 0, _, _, _ => .nil
  | _ + 1, _, _, .nil => .nil
  | k + 1, _, _, .cons f r => .cons f (Paired.take k r)
theorem Paired.app {α β : Type} {F : α → β → Prop} {l₃ : List α} {l₄ : List β} (h2 : Paired F l₃ l₄) : ∀ {l₁ : List α} {l₂ : List β}, Paired F l₁ l₂ → Paired F (l₁ ++ l₃) (l₂ ++ l₄)
  | _, _, .nil => h2
  | _, _, .cons f r => .cons f (Paired.app h2 r)
end
section
def RB (m : Int) (rows : List (Int × Int)) : Prop := ∀ r ∈ rows, 0 ≤ r.1 ∧ r.1 < m ∧ 0 ≤ r.2 ∧ r.2 < m
theorem RB.snoc {m a b : Int} {rows : List (Int × Int)} (h : RB m rows) (h0 : 0 ≤ a) (h1 : a < m) (h2 : 0 ≤ b) (h3 : b < m) : RB m (rows ++ [(a, b)]) := fun x hx => by
  rcases List.mem_append.mp hx with k | k
  · exact h x k
  · have e := List.mem_singleton.mp k
    subst e; exact ⟨h0, h1, h2, h3⟩
/-- a growing list of rows at q beside the source s, behind H0 -/
structure Grow (H0 : Hp) (s q : Addr) (us : List V) (rows : List (Int × Int)) (H : Hp) : Prop where
  b : But s H0 H
  src : Src H s
  at_ : H q = some (.lst us)
  pr : Paired (PR H) us rows
theorem Grow.step {H0 H H' : Hp} {s q : Addr} {us : List V} {rows : List (Int × Int)} (g : Grow H0 s q us rows H) (hn : q ≠ s) (b : But s H H') (hs : Src H' s) : Grow H0 s q us rows H' :=
  ⟨g.b.trans b, hs, b.at hn g.at_, PRs.but b g.src g.pr⟩
theorem Grow.push {H0 H : Hp} {s q t : Addr} {us : List V} {rows : List (Int × Int)} {a b : Int} (g : Grow H0 s q us rows H) (hn : q ≠ s) (h0 : H0 q = none) (ht : H t = none) :
    Grow H0 s q (us ++ [.ref t]) (rows ++ [(a, b)]) (upd (upd H t (.tup [.int a, .int b])) q (.lst (us ++ [.ref t]))) :=
  ⟨(g.b.new ht).mut h0, (g.src.new ht).mut hn, upd_same, push_row g.at_ g.pr ht⟩
theorem Grow.start {H : Hp} {s q : Addr} (hs : Src H s) (hq : H q = none) : Grow H s q [] [] (upd H q (.lst [])) := ⟨But.refl.new hq, hs.new hq, upd_same, .nil⟩
end
section
def pd (r : Int × Int) : PyData := .tuple [.int r.1, .int r.2]
theorem pd_eqv (r s : Int × Int) : PyData.eqv (pd r) (pd s) = decide (r = s) := by
  show (PyData.eqv (.int r.1) (.int s.1) && (PyData.eqv (.int r.2) (.int s.2) && PyData.eqvAll [] [])) = _
  simp only [PyData.eqv, PyData.eqvAll, Bool.and_true]
  by_cases h1 : r.1 = s.1
  · by_cases h2 : r.2 = s.2
    · have : r = s := Prod.ext h1 h2
      subst this; simp
    · have : ¬ r = s := fun e => h2 (congrArg Prod.snd e)
      simp [h1, h2, this]
  · have : ¬ r = s := fun e => h1 (congrArg Prod.fst e)
    simp [h1, this]
theorem pd_any (rows : List (Int × Int)) (r : Int × Int) : ((rows.map pd).any fun z => PyData.eqv z (pd r)) = decide (r ∈ rows) := by
  induction rows with
  | nil => simp
  | cons x xs ih =>
    rw [List.map_cons, List.any_cons, ih, pd_eqv]
    by_cases h : x = r
    · subst h; simp
    · have h' : ¬ r = x := fun e => h e.symm
      simp [h, h']
theorem pd_shaped (r : Int × Int) : SeqAt.shaped (pd r) = true := rfl
theorem pd_lay (rows : List (Int × Int)) : PyData.canLayAll0 (rows.map pd) = true := by
  induction rows with
  | nil => rfl
  | cons x xs ih => rw [List.map_cons]; simp only [PyData.canLayAll0, ih, Bool.and_true]; rfl
theorem pd_depth (rows : List (Int × Int)) : PyData.depthAll (rows.map pd) ≤ 1 := by
  induction rows with
  | nil => exact Nat.zero_le _
  | cons x xs ih =>
    rw [List.map_cons]
    show max (PyData.depth (pd x)) (PyData.depthAll (xs.map pd)) ≤ 1
    exact Nat.max_le.mpr ⟨Nat.le_refl 1, ih⟩
theorem pds_shaped (rows : List (Int × Int)) : SeqAt.shaped (.list (rows.map pd)) = true := by
  have h1 : PyData.canLay0 (.list (rows.map pd)) = true := pd_lay rows
  have h2 : PyData.depth (.list (rows.map pd)) ≤ 64 := by
    show PyData.depthAll (rows.map pd) + 1 ≤ 64
    have := pd_depth rows; omega
  show (PyData.canLay0 (.list (rows.map pd)) && decide (PyData.depth (.list (rows.map pd)) ≤ 64)) = true
  rw [h1, decide_eq_true h2]; rfl
theorem dp_row {K : PySem.W.Frag} {H : Hp} {v : V} {r : Int × Int} (h : PR H v r) : Dp K H v (pd r) := by
  obtain ⟨t, rfl, ht⟩ := h
  exact .tup (.inl (.inl ht)) (.cons (.int _) (.cons (.int _) .nil))
theorem dp_all {K : PySem.W.Frag} {H : Hp} : ∀ {vs : List V} {rows : List (Int × Int)}, Paired (PR H) vs rows → DpAll K H vs (rows.map pd)
  | _, _, .nil => .nil
  | _, _, .cons f r => .cons (dp_row f) (dp_all r)
theorem dp_rows {K : PySem.W.Frag} {H : Hp} {p : Addr} {vs : List V} {rows : List (Int × Int)} (hp : H p = some (.lst vs)) (h : Paired (PR H) vs rows) : Dp K H (.ref p) (.list (rows.map pd)) := .lst (SqL.of hp) (dp_all h)
theorem Src.but {s s0 : Addr} {H H' : Hp} (b : But s H H') (hn : s0 ≠ s) (h : Src H s0) : Src H' s0 := let ⟨x, y, z, e⟩ := h; ⟨x, y, z, b.at hn e⟩
theorem same_but {s : Addr} {H H1 H2 : Hp} (e : Same H H1) (hs : H s = none) (b : But s H1 H2) : Same H H2 := fun c o h => b c o (ne_of_none h hs) (e c o h)
end
section
/-- blank numbers within the lines -/
structure BK (lines : Int) (n : Nat) (bs : List Int) : Prop where
  len : bs.length = n
  bd : ∀ b ∈ bs, 0 ≤ b ∧ b ≤ lines
theorem BK.set {lines v : Int} {n i : Nat} {bs : List Int} (h : BK lines n bs) (h0 : 0 ≤ v) (h1 : v ≤ lines) : BK lines n (bs.set i v) := by
  refine ⟨by rw [List.length_set]; exact h.len, fun b hb => ?_⟩
  rcases List.mem_or_eq_of_mem_set hb with k | k
  · exact h.bd b k
  · subst k; exact ⟨h0, h1⟩
theorem BK.get {lines : Int} {n : Nat} {bs : List Int} (h : BK lines n bs) {k : Int} (h0 : 0 ≤ k) (h1 : k < n) : ∃ z, bs[k.toNat]? = some z ∧ atI (bs.map V.int) k = some (V.int z) ∧ ixN (bs.map V.int).length k = some k.toNat ∧ 0 ≤ z ∧ z ≤ lines := by
  have hl := h.len
  have hk : k.toNat < bs.length := by omega
  have hb := h.bd _ (List.getElem_mem hk)
  exact ⟨bs[k.toNat], List.getElem?_eq_getElem hk, at_of (j := k.toNat) (by omega) (by simp [hk]), ixn (by omega) (by rw [List.length_map]; omega), hb.1, hb.2⟩
end
section
theorem w_cnt {K : PySem.W.Frag} {H : Hp} {Q : VK} {p : Addr} {ns : List Int} {k : Int} (h : SqL K H p (ns.map V.int)) (q : Q (.int (ns.count k : Nat)) H) : rCntI K (.ref p) [.int k] H Q := ⟨p, ns, k, rfl, rfl, h, q⟩
end
section
theorem w_iteB {A B : Prop} {b : Bool} (h1 : b = true → A) (h2 : b = false → B) : if b = true then A else B := by
  cases b with
  | true => exact h1 rfl
  | false => rw [if_neg Bool.false_ne_true]; exact h2 rfl
/-- owners that are a dealing -/
structure DealP (rows : List (Int × Int)) (bs os : List Int) : Prop where
  len : os.length = rows.length
  ends : ∀ (i : Nat) (o : Int) (r : Int × Int), os[i]? = some o → rows[i]? = some r → o = r.1 ∨ o = r.2
  fit : ∀ (p : Nat) (b : Int), bs[p]? = some b → ((os.count (p : Int) : Nat) : Int) ≤ b
theorem count_take {os : List Int} {i : Nat} {o : Int} (h : os[i]? = some o) (z : Int) : (os.take (i + 1)).count z = (os.take i).count z + (if o = z then 1 else 0) := by
  rw [List.take_succ, h, List.count_append]
  show _ + List.count z [o] = _
  by_cases e : o = z
  · subst e; simp
  · simp [e]
/-- what is left behind the first i owners -/
def LeftAt (bs os : List Int) (i : Nat) (left : List Int) : Prop := left.length = bs.length ∧ ∀ (p : Nat) (b : Int), bs[p]? = some b → left[p]? = some (b - (((os.take i).count (p : Int) : Nat) : Int))
theorem LeftAt.start (bs os : List Int) : LeftAt bs os 0 bs := ⟨rfl, fun p b h => by rw [h]; simp⟩
theorem LeftAt.step {bs os left : List Int} {i : Nat} {o z : Int} (h : LeftAt bs os i left) (ho : os[i]? = some o) (h0 : 0 ≤ o) (hz : left[o.toNat]? = some z) : LeftAt bs os (i + 1) (left.set o.toNat (z - 1)) := by
  refine ⟨by rw [List.length_set]; exact h.1, fun p b hb => ?_⟩
  have hl := h.2 p b hb
  rw [List.getElem?_set, count_take ho]
  by_cases e : o.toNat = p
  · have e2 : o = (p : Int) := by omega
    have hlt : o.toNat < left.length := (List.getElem?_eq_some_iff.mp hz).1
    rw [if_pos e, if_pos hlt, if_pos e2]
    rw [e] at hz
    rw [hz] at hl
    have := Option.some.inj hl
    congr 1; omega
  · have e2 : ¬ o = (p : Int) := fun q => e (by omega)
    rw [if_neg e, if_neg e2, hl]; rfl
theorem cut_le (xs : List Int) (lo hi : Option Int) : ∃ ys : List Int, cutV (xs.map V.int) lo hi = ys.map V.int ∧ ys.length ≤ xs.length := by
  refine ⟨_, map_drop_take xs _ _, ?_⟩
  rw [List.length_take, List.length_drop]; omega
theorem cut_one (xs : List Int) {p : Int} (h : 0 ≤ p) : ∃ ys : List Int, cutV (xs.map V.int) (some p) (some (p + 1)) = ys.map V.int ∧ ys.length ≤ 1 := by
  refine ⟨_, map_drop_take xs _ _, ?_⟩
  rw [List.length_take, List.length_drop]
  obtain ⟨n, rfl⟩ : ∃ n : Nat, p = (n : Int) := ⟨p.toNat, by omega⟩
  rw [show ((n : Int) + 1) = ((n + 1 : Nat) : Int) by omega, HT.sIx_nat, HT.sIx_nat]
  omega
theorem cut_fst (xs : List Int) {p : Int} (h : 0 ≤ p) : ∃ ys : List Int, cutV (xs.map V.int) none (some p) = ys.map V.int ∧ ys.length ≤ p.toNat := by
  refine ⟨_, map_drop_take xs _ _, ?_⟩
  rw [List.length_take, List.length_drop]
  obtain ⟨n, rfl⟩ : ∃ n : Nat, p = (n : Int) := ⟨p.toNat, by omega⟩
  rw [HT.sIx_nat, HT.sIx_none]
  omega
theorem cut_snd (xs : List Int) {p : Int} (h : 0 ≤ p) : ∃ ys : List Int, cutV (xs.map V.int) (some p) none = ys.map V.int ∧ ys.length ≤ xs.length - p.toNat := by
  refine ⟨_, map_drop_take xs _ _, ?_⟩
  rw [List.length_take, List.length_drop]
  obtain ⟨n, rfl⟩ : ∃ n : Nat, p = (n : Int) := ⟨p.toNat, by omega⟩
  rw [HT.sIx_nat, HT.sIx_none, List.length_map]
  omega
end
section
variable {K : PySem.W.Frag} {a b : Addr} {xs ys : List V} {g : TG} {tb : TS} {D : Ends} {σ : L2.St} {H : Hp}
theorem forE (Pv : Nat → L2.St → Hp → Prop) (h0 : Pv 0 σ H) (hl : ∀ i σ1 H1, i ≤ xs.length → Pv i σ1 H1 → SqL K H1 a xs)
    (hs : ∀ i x T σ1 H1, xs[i]? = some x → Pv i σ1 H1 → H1 T = none → g (.ref T) σ1 (upd H1 T (.tup [.int (i : Nat), x])) fun σ2 H2 => tb { D with nx := Pv (i + 1), ct := Pv (i + 1), bk := D.nx } σ2 H2)
    (hd : ∀ σ1 H1, Pv xs.length σ1 H1 → D.nx σ1 H1) : ForW (Ite K a) g tb D σ H := by
  refine ⟨fun i m s1 G1 => m = xs.length - i ∧ i ≤ xs.length ∧ Pv i s1 G1, ⟨xs.length, rfl, Nat.zero_le _, h0⟩, ?_⟩
  rintro i m s1 G1 ⟨rfl, hi, p⟩
  have hq := hl i s1 G1 hi p
  by_cases lt : i < xs.length
  · refine Or.inr ⟨⟨xs, xs[i], hq, List.getElem?_eq_getElem lt⟩, Pv (i + 1), fun s2 G2 p2 => ⟨xs.length - (i + 1), by omega, rfl, lt, p2⟩, ?_⟩
    rintro v G2 ⟨T, x, rfl, hT, rfl, hx⟩
    exact hs i x T s1 G1 (hx xs hq) p hT
  · have e : i = xs.length := by omega
    subst e
    exact Or.inl ⟨⟨xs, hq, Nat.le_refl _⟩, hd s1 G1 p⟩
theorem forZ (hl : xs.length = ys.length) (Pv : Nat → L2.St → Hp → Prop) (h0 : Pv 0 σ H) (hq : ∀ i σ1 H1, Pv i σ1 H1 → SqL K H1 a xs ∧ SqL K H1 b ys)
    (hs : ∀ i x y T σ1 H1, xs[i]? = some x → ys[i]? = some y → Pv i σ1 H1 → H1 T = none → i < xs.length → g (.ref T) σ1 (upd H1 T (.tup [x, y])) fun σ2 H2 => tb { D with nx := Pv (i + 1), ct := Pv (i + 1), bk := D.nx } σ2 H2)
    (hd : ∀ σ1 H1, Pv xs.length σ1 H1 → D.nx σ1 H1) : ForW (Itz K a b) g tb D σ H := by
  refine ⟨fun i m s1 G1 => m = xs.length - i ∧ i ≤ xs.length ∧ Pv i s1 G1, ⟨xs.length, rfl, Nat.zero_le _, h0⟩, ?_⟩
  rintro i m s1 G1 ⟨rfl, hi, p⟩
  have hh := hq i s1 G1 p
  by_cases lt : i < xs.length
  · refine Or.inr ⟨⟨xs, ys, xs[i], ys[i], hh.1, hh.2, List.getElem?_eq_getElem lt, List.getElem?_eq_getElem (by omega)⟩, Pv (i + 1), fun s2 G2 p2 => ⟨xs.length - (i + 1), by omega, rfl, lt, p2⟩, ?_⟩
    rintro v G2 ⟨T, x, y, rfl, hT, rfl, hx, hy⟩
    exact hs i x y T s1 G1 (hx xs hh.1) (hy ys hh.2) p hT lt
  · have e : i = xs.length := by omega
    subst e
    exact Or.inl ⟨⟨xs, ys, hh.1, hh.2, Or.inl (Nat.le_refl _)⟩, hd s1 G1 p⟩
def SO (l : List (Int × Int)) : Prop := l.Pairwise fun a b => SrtO.lexB b a = false
theorem lex_anti {a b : Int × Int} (h1 : SrtO.lexB a b = false) (h2 : SrtO.lexB b a = false) : a = b := by
  have g1 := SrtO.lexB_no.mp h1
  have g2 := SrtO.lexB_no.mp h2
  have e1 : a.1 = b.1 := by omega
  exact Prod.ext e1 (by omega)
theorem SO.uniq : ∀ {l m : List (Int × Int)}, SO l → SO m → l.Perm m → l = m
  | [], m, _, _, h => h.nil_eq
  | x :: l, [], _, _, h => absurd h.length_eq (by simp)
  | x :: l, y :: m, hl, hm, h => by
    have hx := List.pairwise_cons.mp hl
    have hy := List.pairwise_cons.mp hm
    have e : x = y := by
      have h1 : y ∈ x :: l := h.mem_iff.mpr List.mem_cons_self
      have h2 : x ∈ y :: m := h.mem_iff.mp List.mem_cons_self
      rcases List.mem_cons.mp h1 with k | k
      · exact k.symm
      · rcases List.mem_cons.mp h2 with k2 | k2
        · exact k2
        · exact lex_anti (hy.1 x k2) (hx.1 y k)
    subst e
    rw [SO.uniq hx.2 hy.2 h.cons_inv]
structure SortedOf (rows rs : List (Int × Int)) : Prop where
  perm : rs.Perm rows
  so : SO rs
theorem SortedOf.uniq {rows l m : List (Int × Int)} (h1 : SortedOf rows l) (h2 : SortedOf rows m) : l = m := SO.uniq h1.so h2.so (h1.perm.trans h2.perm.symm)
theorem SortedOf.rg {n : Int} {rows rs : List (Int × Int)} (h : SortedOf rows rs) (hR : RG n rows) : RG n rs := ⟨fun r hr => hR.bd r (h.perm.mem_iff.mp hr), h.perm.nodup_iff.mpr hR.nd⟩
/-- sorted(..) of a list of pairs -/
theorem w_sortP {K : PySem.W.Frag} {H : Hp} {Q : VK} {p : Addr} {us : List V} {rows : List (Int × Int)} (hp : H p = some (.lst us)) (hP : Paired (PR H) us rows)
    (q : ∀ (rs : List (Int × Int)) (ys : List V) (l : Addr), SortedOf rows rs → H l = none → ys.length = us.length → Paired (PR H) ys rs → Q (.ref l) (upd H l (.lst ys))) : rSortedPO K [.ref p] H Q := by
  have pick : ∀ v ∈ us, ∃ r, PR H v r := fun v hv => by
    obtain ⟨i, hi⟩ := List.getElem?_of_mem hv
    obtain ⟨r, _, h⟩ := Paired.at' hP hi
    exact ⟨r, h⟩
  let k : V → Int × Int := fun v => match v with
    | .ref t => match H t with
      | some (.tup [.int i, .int j]) => (i, j)
      | _ => (0, 0)
    | _ => (0, 0)
  have hk : ∀ {v : V} {r : Int × Int}, PR H v r → k v = r := fun {v r} h => by
    obtain ⟨t, rfl, ht⟩ := h
    show (match H t with
      | some (.tup [.int i, .int j]) => (i, j)
      | _ => (0, 0)) = r
    rw [ht]
  have hmap : ∀ {l : List V} {s : List (Int × Int)}, Paired (PR H) l s → l.map k = s := fun {l s} h => by
    induction h with
    | nil => rfl
    | cons f _ ih => rw [List.map_cons, hk f, ih]
  refine ⟨p, us, k, rfl, SqL.of hp, fun v hv => ?_, fun ys l h1 h2 hl => ?_⟩
  · obtain ⟨r, hr⟩ := pick v hv
    obtain ⟨t, rfl, ht⟩ := id hr
    exact ⟨t, rfl, by rw [hk hr]; exact ht⟩
  · have hy : ∀ v ∈ ys, PR H v (k v) := fun v hv => by
      obtain ⟨r, hr⟩ := pick v (h2.perm.mem_iff.mp hv)
      rw [hk hr]; exact hr
    have hpy : Paired (PR H) ys (ys.map k) := by
      clear h1 h2
      induction ys with
      | nil => exact .nil
      | cons v r ih => exact .cons (hy v List.mem_cons_self) (ih fun w hw => hy w (List.mem_cons_of_mem _ hw))
    refine q (ys.map k) ys l ⟨?_, ?_⟩ hl h2.perm.length_eq hpy
    · rw [← hmap hP]; exact h2.perm.map k
    · exact List.pairwise_map.mpr h1
def key (r : Int × Int) : List L2.Key := [.inl r.1, .inl r.2]
def ent (r : Int × Int) : List L2.Key × V := (key r, .bl true)
theorem key_inj {r s : Int × Int} (h : key r = key s) : r = s := by
  unfold key at h
  have h1 := List.cons.inj h
  have h2 := List.cons.inj h1.2
  exact Prod.ext (Sum.inl.inj h1.1) (Sum.inl.inj h2.1)
theorem no_key {r : Int × Int} : ∀ {l : List (Int × Int)}, r ∉ l → valV (l.map ent) (key r) = none
  | [], _ => rfl
  | x :: l, h => by
    rw [List.map_cons, valV_neg (p := ent x) (fun e => h (by rw [key_inj e]; exact List.mem_cons_self))]
    exact no_key fun m => h (List.mem_cons_of_mem _ m)
end
section
theorem sne {f g : Str} (h : decide (f = g) = false) : ¬ f = g := of_decide_eq_false h
def webFs (n : Int) (d ar tg hd : Addr) : List (Str × V) := putF "_holders" (.ref hd) (putF "_targets" (.ref tg) (putF "_arrows" (.ref ar) (putF "_known" (.ref d) (putF "pages" (.int n) []))))
theorem web_pages {n : Int} {d ar tg hd : Addr} : (webFs n d ar tg hd).lookup ("pages" : Str) = some (.int n) := by
  unfold webFs
  rw [lookup_putF, if_neg (by decide +kernel), lookup_putF, if_neg (by decide +kernel), lookup_putF, if_neg (by decide +kernel), lookup_putF, if_neg (by decide +kernel), lookup_putF, if_pos rfl]
theorem web_arrows {n : Int} {d ar tg hd : Addr} : (webFs n d ar tg hd).lookup ("_arrows" : Str) = some (.ref ar) := by
  unfold webFs
  rw [lookup_putF, if_neg (by decide +kernel), lookup_putF, if_neg (by decide +kernel), lookup_putF, if_pos rfl]
theorem web_noarrows {n : Int} {d ar tg hd : Addr} : (webFs n d ar tg hd).lookup ("arrows" : Str) = none := by
  unfold webFs
  rw [lookup_putF, if_neg (by decide +kernel), lookup_putF, if_neg (by decide +kernel), lookup_putF, if_neg (by decide +kernel), lookup_putF, if_neg (by decide +kernel), lookup_putF, if_neg (by decide +kernel)]
  rfl
theorem len_put1 {f : Str} {v : V} {fs : List (Str × V)} {k : Nat} (h : fs.length ≤ k) : (putF f v fs).length ≤ k + 1 := Nat.le_trans (length_putF f v fs) (Nat.succ_le_succ h)
structure WebAt (A : CA) (H : Hp) (w : Addr) (n : Int) (rs : List (Int × Int)) : Prop where
  ex : ∃ (dx d ar tg hd : Addr) (us : List V), H w = some (.ins A.Web dx (webFs n d ar tg hd)) ∧ H ar = some (.lst us) ∧ Paired (PR H) us rs ∧ us.length ≤ 600
theorem WebAt.same {A : CA} {H H' : Hp} {w : Addr} {n : Int} {rs : List (Int × Int)} (e : Same H H') (h : WebAt A H w n rs) : WebAt A H' w n rs :=
  let ⟨dx, d, ar, tg, hd, us, h1, h2, h3, h4⟩ := h.ex; ⟨dx, d, ar, tg, hd, us, e _ _ h1, e _ _ h2, PRs.same e h3, h4⟩
end
section
theorem w_mth2 {H : Hp} {p C dx : Addr} {P : Prop} {m : Str} {fs : List (Str × V)} (h : H p = some (.ins C dx fs)) (hl : fs.lookup m = none) (q : P) :
    ∃ a dx fs, V.ref p = .ref a ∧ H a = some (.ins C dx fs) ∧ fs.lookup m = none ∧ P := ⟨p, dx, fs, rfl, h, hl, q⟩
theorem inV2 (o a b : Int) : inV (.int o) [.int a, .int b] = decide (o = a ∨ o = b) := by
  show (eqV (.int a) (.int o) || (eqV (.int b) (.int o) || false)) = _
  show ((a == o) || ((b == o) || false)) = _
  rw [Bool.or_false]
  by_cases h1 : o = a
  · subst h1; simp
  · by_cases h2 : o = b
    · subst h2; simp
    · have e1 : (a == o) = false := by simpa using fun e => h1 e.symm
      have e2 : (b == o) = false := by simpa using fun e => h2 e.symm
      rw [e1, e2]; simp [h1, h2]
theorem pds_eqv : ∀ rows : List (Int × Int), PyData.eqvAll (rows.map pd) (rows.map pd) = true
  | [] => rfl
  | r :: rows => by
    rw [List.map_cons]
    show (PyData.eqv (pd r) (pd r) && PyData.eqvAll (rows.map pd) (rows.map pd)) = true
    rw [pd_eqv, pds_eqv rows]; simp
theorem w_eqR {K : PySem.W.Frag} {H : Hp} {Q : VK} {p q : Addr} {us ws : List V} {rs : List (Int × Int)} (hp : H p = some (.lst us)) (h1 : Paired (PR H) us rs) (hq : H q = some (.lst ws)) (h2 : Paired (PR H) ws rs) (k : Q (.bl true) H) : rEqD K (.ref p) (.ref q) H Q := by
  refine ⟨_, _, dp_rows hp h1, dp_rows hq h2, pds_shaped rs, pds_shaped rs, ?_⟩
  show Q (.bl (PyData.eqvAll (rs.map pd) (rs.map pd))) H
  rw [pds_eqv]; exact k
end
end G

end
section
/-! ### dicts with tuple keys: walked by items, pop with one argument -/
namespace GT
open PySem PySem.Spec PyProof.Rows L2
section
variable {X : Cx} {pins : List (Addr × Obj)} {σ : L2.St} {H : Hp} {s : Shared} {d : Addr} {o : Obj}
theorem frzT2 {kvs : List (List Key × V)} (I : Inv X pins σ H s) (h : H d = some (.frz o (.dT kvs))) :
    (d == sysModules) = false ∧ s.heap.get? d = some o ∧ o.ExactDict ∧ ∃ (es : Array DictEntry) (ep : Nat), o.data = .dict es ep ∧ es.size = kvs.length ∧
      ∀ (i : Nat) (k : List Key) (v : V), kvs[i]? = some (k, v) → ∃ (en : DictEntry) (q : Addr), es[i]? = some en ∧ en.key = .ref q ∧ H q = some (.tup (k.map kV)) ∧ RelV v en.val := by
  obtain ⟨hd, z, hs, xs, pr, o', es, ep, ho, hx, hdt, he, _⟩ := I.hok d _ h
  rw [hd] at ho
  cases ho
  refine ⟨hs, hd, hx, es, ep, hdt, ?_, fun i k v e => ?_⟩
  · have l1 : es.size = xs.length := size_of_entries he
    have l2 : kvs.length = xs.length := Paired.length pr
    omega
  · obtain ⟨b, hb, e1, e2, e3⟩ := paired_get pr e
    have q := entry_at he i
    rw [hb] at q
    exact ⟨_, b.2.1, q, rfl, e2, e3⟩
end
/-- the pairs, each a new tuple -/
def ItiT (d : Addr) (o : Obj) (kvs : List (List Key × V)) : It :=
  ⟨fun i H => H d = some (.frz o (.dT kvs)) ∧ i < kvs.length, fun i H x H' => ∃ (T q : Addr) (k : List Key) (v : V), kvs[i]? = some (k, v) ∧ x = .ref T ∧ H T = none ∧ H q = some (.tup (k.map kV)) ∧ H' = upd H T (.tup [.ref q, v]), fun i H => H d = some (.frz o (.dT kvs)) ∧ kvs.length ≤ i⟩
theorem turn_itemsT {P : Program} {w : World} {K : PySem.W.Frag} {d : Addr} {o : Obj} {es : Array DictEntry} {ep : Nat} {kvs : List (List Key × V)} {elts : List Expr} {kk : Nat} {tpos : Pos} (it : Addr) (hod : o.data = .dict es ep) :
    Turn P w K (.Tuple elts kk tpos) (ItiT d o kvs) [it] it (fun i h => ∃ ok ov, IsItemIter h it d i kvs.length ep ok ov) where
  mem := by simp
  obj := fun i h st b hb => by
    have e : b = it := by simpa using hb
    subst e
    obtain ⟨ok, ov, e⟩ := st
    exact ⟨_, e, fun v z => nomatch z⟩
  keep := fun i h h' st k => let ⟨ok, ov, e⟩ := st; ⟨ok, ov, k it (by simp) _ e⟩
  item := by
    intro X hP hw hK hc i pins s σ H E I hf st hg
    subst hP hw hK
    obtain ⟨hd, hi⟩ := hg
    obtain ⟨hs, hgd, hx, es', ep', hdt, hsz, ent⟩ := frzT2 I hd
    obtain ⟨rfl, rfl⟩ := dict_ep hod hdt
    obtain ⟨⟨k, v⟩, hkv⟩ : ∃ p, kvs[i]? = some p := ⟨kvs[i], List.getElem?_eq_getElem hi⟩
    obtain ⟨en, q, hen, hkey, hq, hv⟩ := ent i k v hkv
    obtain ⟨ok, ov, he⟩ := st
    rw [← hsz] at he
    have hie : i < es'.size := by omega
    have een : es'[i] = en := by
      have := Array.getElem?_eq_getElem hie
      rw [this] at hen
      exact Option.some.inj hen
    have hlt : it < s.heap.objs.size := Heap.lt_size he
    refine wpAny_pyNext_items_item_raw he ⟨o, hgd, hx, hdt⟩ hie fun h' ho hT hz hk => ?_
    refine ⟨_, rfl, wpAny_letOwnedTupleGo_items (s := { s with heap := h' }) ho fun h'' he' sb => ?_⟩
    have hT2 : h''.get? s.heap.objs.size = some { cls := .type "tuple", data := .seq #[es'[i].key, es'[i].val] } := (sb.2 _ (Nat.ne_of_gt hlt)).trans hT
    have new : ObjOk X.prog X.w (upd H s.heap.objs.size (.tup [.ref q, v])) h'' s.heap.objs.size (.tup [.ref q, v]) :=
      ⟨by show 2 ≤ sizeLine; decide, [es'[i].key, es'[i].val], .cons (by rw [een]; exact hkey) (.cons (by rw [een]; exact hv) .nil), ⟨_, hT2, rfl, _, rfl⟩⟩
    have I1 : Inv X pins σ (upd H s.heap.objs.size (.tup [.ref q, v])) { s with heap := h'' } :=
      I.turnedNew (t' := s.toks) (ch := [it]) (fun b ob hb e => (sb.2 b (by simpa using hb)).trans (hk b ob (by simpa using hb) e)) hf (Nat.le_refl _) new
    refine ⟨.ref s.heap.objs.size, _, I1, rfl, ⟨_, q, k, v, hkv, rfl, I.hok.fresh (Nat.le_refl _), hq, rfl⟩, ⟨es'[i].key, es'[i].val, ?_⟩, fun b hb => ?_⟩
    · rw [← hsz]; exact he'
    · have e : b = it := by simpa using hb
      rw [e, upd_ne (Nat.ne_of_lt hlt)]
      exact (hf it (by simp)).1
  done := by
    intro X hP hw hK hc i pins s σ H E I hf st hg
    subst hP hw hK
    obtain ⟨hd, hi⟩ := hg
    obtain ⟨f0, f1, f2, f3, f4, f5⟩ := hf it (by simp)
    obtain ⟨hs, hgd, hx, es', ep', hdt, hsz, ent⟩ := frzT2 I hd
    obtain ⟨rfl, rfl⟩ := dict_ep hod hdt
    obtain ⟨ok, ov, he⟩ := st
    rw [← hsz] at he
    exact wpAny_pyNext_items_end_raw (I.ok.hd hc) he ⟨o, hgd, hx, hdt⟩ (by omega) fun h' eb => ⟨rfl, I.turned (t' := s.toks) (fun b ob hb e => eb b ob hb e) f0 f1 f3 f4 f5⟩
  self := fun A i s Q E st h => let ⟨_, _, e⟩ := st; PySem.W.kcp_self e h
def iItemsT (td : TE) : TI := fun σ H R => td σ H fun x H1 => ∃ d o kvs, x = .ref d ∧ H1 d = some (.frz o (.dT kvs)) ∧ R (ItiT d o kvs) H1
theorem pi_itemsT {X : Cx} {e : Expr} {td : TE} {apos cpos : Pos} {elts : List Expr} {kk : Nat} {tpos : Pos} (he : PE X e td) (hbase : attributeBase e "items" X.env (eval e X.env) = eval e X.env := by rfl) (hline : (apos.endLine == cpos.line) = true := by rfl) :
    PI X (.Tuple elts kk tpos) (.Call (.Attribute e "items" apos) [] [] cpos) (iItemsT td) := by
  refine ⟨fun pins s σ H R I h => ?_⟩
  refine wpAny_Call_method (T := "dict") (id := "dict.items") hbase rfl hline F.plainAttrs_dict F.slot_dict_items F.type_dict_items (thn (he.run pins s σ H _ I h) fun u s1 ⟨x, H1, I1, rx, d, o, kvs, ex, hd, q⟩ => ?_)
  subst ex
  obtain rfl : u = Value.ref d := rx
  obtain ⟨hs, hgd, hx, es, ep, hdt, hsz, ent⟩ := frzT2 I1 hd
  have raw : s1.heap.DictRaw d es ep := ⟨o, hgd, hx, hdt⟩
  refine ⟨raw.typeIs, fun b e => (by cases e; exact ⟨o, hgd, hx.2.1⟩), ?_⟩
  have I2 : Inv X pins σ H1 { s1 with heap := s1.heap.push { cls := .type "dict_items", data := .fields #[.ref d] } } := I1.kept (t' := s1.toks) fun b ob q => Heap.get?_push_of_some _ q
  have fin : wpAny (model X.prog X.w) X.A (pyIter (.ref s1.heap.objs.size)) (PIE X pins σ (.Tuple elts kk tpos) R) X.xe { s1 with heap := s1.heap.push { cls := .type "dict_items", data := .fields #[.ref d] } } := by
    refine wpAny_pyIter_items_raw (d := d) ⟨_, Heap.get?_push_size _ rfl, rfl, rfl⟩ (raw.at fun o e => Heap.get?_push_of_some _ e) (pi_one (tk := s1.toks) I2 _ (turn_itemsT _ hdt) ⟨.none, .none, ?_⟩ q)
    rw [← hsz]
    exact Heap.get?_push_size _ rfl
  show wpAny _ _ (callWith cpos (.builtin "dict.items") [.ref d] [] []) _ X.xe s1
  exact method_meetsIn F.slot_dict_items F.entry_dict_items rfl (PySem.evalArgs_none ⟨rfl, raw.typeIs, F.args_dict_items_1 _, _, meets_dict_items_raw d hs, ⟨⟨es, ep, raw⟩, fin⟩⟩)
end GT

end
section
/-! ### d.pop(k), k there: a tuple key -/
namespace DT
open PySem PySem.Spec PyProof.Rows
section
variable {K : Type} [DecidableEq K] {prog : Program} {w : World} {knd : HeapKind prog w K}
theorem meetsPop1 {d b : Addr} {k : K} (hd : (d == sysModules) = false) :
    MeetsIn prog w (Builtin.«dict.pop» ⟨[.ref d, .ref b], []⟩) (fun A R s => ∃ xs, knd.room A.in1 ∧ knd.is s.heap k b ∧ s.heap.DictOfH knd d xs ∧ xs.length ≤ sizeLine ∧ ∃ p, atKey xs k = some p ∧
      ∀ h' tk, h'.DictOfH knd d (dropH xs k) → Heap.SameBut d s.heap h' → R (.ok (.ret p.2)) { s with heap := h', toks := tk }) :=
  .of_wp fun A R s ⟨xs, hu, hkey, hm, hsz, p0, hp0, hsome⟩ => by
    obtain ⟨o, es, ep, ho, hc, hdat, he, his, hn⟩ := id hm
    have hes : es.size = xs.length := size_of_entries he
    have hpart : (keyPart (Value.ref b)).isSome = false := rfl
    unfold Builtin.«dict.pop»
    refine wpAny_bind ?_
    unfold Builtin.Dict.keyAndDefault
    refine wpAny_bind (wpAny_notOrdered_dict hm.typeIs ?_)
    show wpAny _ _ (pure (d, Value.ref b, none)) _ _ s
    refine wpAny_pure ?_
    simp only [hpart, Bool.false_eq_true, if_false]
    refine wpAny_bind (wpAny_dictEntries ho hdat (wpAny_bind (wpAny_pure ?_)))
    cases hem : es.isEmpty with
    | true =>
      have h0 : xs = [] := by
        have z : es.size = 0 := by simpa using hem
        exact List.length_eq_zero_iff.mp (by omega)
      rw [h0] at hp0
      cases hp0
    | false =>
      simp only [Bool.false_eq_true, if_false]
      refine wpAny_bind (takeH hu hkey hm hsz (fun hno => ?_) fun p e hp hev h' hm' hs' => ?_)
      · rw [hp0] at hno; cases hno
      · rw [hp0] at hp
        cases hp
        simp only [Option.isNone_some, Bool.false_eq_true, if_false]
        exact wpAny_bind (wpAny_letGo (wpAny_pure ⟨e.val, rfl, by rw [hev]; exact hsome h' _ hm' hs'⟩))
end
end DT
namespace L2.DX
open PySem PySem.Spec PyProof.Rows
def rPop1T : V → List V → Hp → VK → Prop := fun x xs H Q => ∃ (a : Addr) (kvs : List (List L2.Key × V)) (k : List L2.Key) (b : Addr) (v : V), x = .ref a ∧ xs = [.ref b] ∧ H a = some (.dT kvs) ∧ H b = some (.tup (k.map kV)) ∧ valV kvs k = some v ∧ Q v (upd H a (.dT (dropK kvs k)))
theorem mt_pop1T {X : Cx} (hu : X.A.units + 1 < cLine) : MtR X "dict.pop" rPop1T := by
  intro pins s σ H x xs v us Q I rx rxs h
  obtain ⟨a, kvs, k, b, v0, rfl, rfl, ha, hb, ev, q1⟩ := h
  cases rx
  obtain ⟨u1, rfl, r1⟩ := vals1 rxs
  cases r1
  obtain ⟨z, hd, xs', rel, dd⟩ := dt_of I.hok ha
  have hz : xs'.length ≤ sizeLine := by rw [← Paired.length rel]; exact z
  have r := rel.val k
  rw [ev] at r
  obtain ⟨w', hw, rw'⟩ := RelO.some_of r
  obtain ⟨p, hp, hp2⟩ := Option.map_eq_some_iff.mp hw
  refine call_meetsIn PySem.F.slot_dict_pop dd.typeIs PySem.F.entry_dict_pop (PySem.F.args_dict_pop_2 _ _) (DT.meetsPop1 (knd := tupleKind (mixKind X.prog X.w)) (k := k) hd)
    ⟨xs', tupleKind_room_in1 hu, key_of I.hok hb, dd, hz, p, hp, fun h' tk dd' hs => ?_⟩
  obtain ⟨o, es, ep, hq, h2, h3, h4, _, h5⟩ := dd'
  have I2 : Inv X pins σ (upd H a (.dT (dropK kvs k))) { s with heap := h', toks := tk } :=
    d_write I (by rw [ha]; exact True.intro) hs ⟨o, hq⟩ ⟨Nat.le_trans (dropK_le kvs k) z, hd, _, (KT_drop k rel).keeps (fun c ys ec => (by rw [upd_ne (ne_of ec ha (fun z => nomatch z))]; exact ec)), o, es, ep, hq, h2, h3, h4, h5⟩
  show EP X pins σ Q p.2 _
  exact ⟨v0, _, I2, by rw [hp2]; exact rw', q1⟩
end L2.DX

end
section
/-! ### x = {k: v for ..}; C() -/
namespace GT
open PySem PySem.Spec PyProof.Rows L2
section
variable {X : Cx}
theorem sw_trueD {kx vx : Expr} {gs : List Comprehension} {scope : Scope} {pos py : Pos} {y : Str} {l : Nat} {env : Env} (hk : env.scope.kind = .function) (hy : env.scope.names.lookup y = some .local) (hl : (py.line == pos.line) = true)
    (ha : (scope.names.any fun (n, k) => n == y && (k == .local || k == .cell)) = false) : swapsWith (.DictComp kx vx gs scope pos) (some (.Name y py)) l env = pure true := by
  have ky : env.kindOf y = some .local := hy
  have hb : env.blockKind = .function := by unfold Env.blockKind; rw [hk]; rfl
  unfold swapsWith
  simp only [hb, ky, ha, Expr.pos, hl]
  rfl
theorem ps_setDc {i : Nat} {y : Str} {py : Pos} {kx vx tg iter : Expr} {ifs : List Expr} {scope : Scope} {own : List (Str × Nat)} {pos spos : Pos} {wi : TI} {g : TG} {tt : TT} {tk tv : TE} (hc : X.calm = true) (hN : X.N.Nodup) (hy : X.N[i]? = some y) (hyl : X.env.scope.names.lookup y = some .local)
    (hsw : swapsWith (.DictComp kx vx [⟨tg, iter, ifs, 0⟩] scope pos) (some (.Name y py)) spos.line X.env = pure true) (hi : PI X tg iter wi) (ok : BlkOk X.N X.env.scope scope own)
    (hg : ∀ (s : Shared) (H : Hp) (C : Addr) (cl : List (Str × Addr)) (fp : List Addr), PG (X.blk s H scope (compEnvC scope cl C X.env) fp) tg g) (ht : ∀ (s : Shared) (H : Hp) (C : Addr) (cl : List (Str × Addr)) (fp : List Addr), PTs (X.blk s H scope (compEnvC scope cl C X.env) fp) ifs tt)
    (hk : ∀ (s : Shared) (H : Hp) (C : Addr) (cl : List (Str × Addr)) (fp : List Addr), PE (X.blk s H scope (compEnvC scope cl C X.env) fp) kx tk)
    (he : ∀ (s : Shared) (H : Hp) (C : Addr) (cl : List (Str × Addr)) (fp : List Addr), PE (X.blk s H scope (compEnvC scope cl C X.env) fp) vx tv) (hs : ∀ x, foldedSetIterable iter X.env x = pure x := by intro _; rfl) :
    PS X (.Assign [.Name y py] (.DictComp kx vx [⟨tg, iter, ifs, 0⟩] scope pos) spos) (tAsg (tDc wi g tt tk tv (own.map (·.2))) (gName i)) := by
  refine ⟨fun pins s σ H D I h => ?_⟩
  rw [exec_Assign_Name_used _ _ _ _ hsw]
  refine wpAny_bind (wpAny_standAt (wpAny_bind ?_))
  show wpAny _ X.A (do let _ ← comprehension (.DictComp kx vx [⟨tg, iter, ifs, 0⟩] scope pos) scope X.env (firstIterPos [⟨tg, iter, ifs, 0⟩] pos) newDict false (eval iter X.env) (some (assign (.Name y py) X.env))) _ _ s
  have h : tDc wi g tt tk tv (own.map (·.2)) σ H (fun x H1 => gName i x σ H1 D.nx) := h
  refine wpAny_bind (thn (dc_core (Qf := fun _ s' => SP X pins D .next s') hc hN I hi ok hg ht hk he hs h fun L C s' m H' I' q hn f => ?_) fun _ s' hq => wpAny_pure (wpAny_pure hq))
  show wpAny _ _ (assign (.Name y py) X.env (.ref L)) _ _ _
  refine wpAny_assign_Name (store_ok2 (v := V.ref L) I' hN hy (.inl hyl) rfl (fun s2 I2 ⟨a, sb, ha⟩ => ?_) (.inr hyl))
  obtain ⟨f0, f1, f2, f3, f4, f5⟩ := f
  have haC : C ≠ a := by
    rcases ha with z | z
    · rw [z]; exact f1
    · exact fun e => f4 y a z e.symm
  refine ⟨m, hn.sameBut sb haC, fun h3 sb3 => ?_⟩
  exact ⟨_, H', I2.turned (t' := s2.toks) (fun b o hb e => (sb3.2 b hb).trans e) f0 f1 f3 f4 f5, q⟩
theorem pe_mk0 {k j : Nat} {C : Addr} {x : Str} {sp : Sp} {dvs : List V} {p pos : Pos} (c : C8.Mak X.prog X.w X.K X.mg X.base k x C sp dvs) (hr : Room j X.A) (hk : k + 1 ≤ j) (hg : Gl X x) (hdb : (x == ("__debug__" : Str)) = false := by decide) :
    PE X (.Call (.Name x p) [] [] pos) (tMake C sp dvs E0 tNil) := by
  obtain ⟨f, fd, ps, ds, M, F, hm, b, d⟩ := c.ex
  exact pe_make0 M F (hr.mono hk) hg hm b d C8.pass0 hdb
end
end GT

end
section
local macro_rules | `(tactic| walk_at "call") => `(tactic| (refine' G.w_cnt ?g1 ?_; (case g1 => walk_at "sq")))

local macro_rules | `(tactic| walk_at "call") => `(tactic| (refine' G.w_popAt ?g1 ?g2 ?g3 ?g4 ?_; (case g1 => walk_at "hp"); (case g2 => walk_at "ar"); (case g3 => walk_at "ar"); (case g4 => walk_at "ar")))

namespace G
open PySem PySem.Spec PyProof.Rows L2 RT
section
variable {prog : Program} {w : World} {A : Around} {E : Value → Shared → Prop} {s : Shared}
theorem list_init_rev {R : Result → Shared → Prop} {it l : Addr} {items : Array Value} (hh : A.handled = none) (hit : s.heap.IsRevIter it l ((items.size : Int) - 1)) (hl : s.heap.IsList l items) (hne : l ≠ it) (hn : items.size ≤ sizeLine)
    (S : Addr) (hSi : S ≠ it) (hSl : S ≠ l) (hS : s.heap.get? S = some { cls := .type "list", data := .seq #[] })
    (hR : ∀ h' tk acc' c', (∀ b o, b ≠ S → b ≠ it → s.heap.get? b = some o → h'.get? b = some o) → h'.get? S = some { cls := .type "list", dict := none, data := .seq acc' c', slots := #[] } →
      ItemsOf (fun i v => items[items.size - 1 - i]? = some v) acc' items.size → R (.ok (.ret .none)) { s with heap := h', toks := tk }) :
    wpAny (model prog w) A.in1 (Builtin.«list.__init__» ⟨[.ref S, .ref it], []⟩)
      (fun fin s' => match fin with | .done f => R (.ok f) s' | .again c' => c'.quiet = true ∧ codeAny (model prog w) A c' R s') (fun e s' => R (.error e) s') s := by
  have hSf : S ∉ [it, l] := by simp only [List.mem_cons, List.not_mem_nil, or_false, not_or]; exact ⟨hSi, hSl⟩
  show wpAny _ _ (do let old ← Builtin.List.listItems (.ref S); Builtin.List.listUpdate (.ref S) (fun _ => #[]); letGo old.toList.reverse; Builtin.List.listExtendWith (.ref S) (.ref it) .none) _ _ s
  refine wpAny_bind ?_
  unfold Builtin.List.listItems
  refine wpAny_bind (wpAny_seqItems hS rfl (wpAny_pure ?_))
  show wpAny _ _ (updateSeq S (fun _ => #[]) >>= fun _ => letGo (#[] : Array Value).toList.reverse >>= fun _ => Builtin.List.listExtendWith (.ref S) (.ref it) .none) _ _ s
  refine wpAny_bind (wpAny_updateSeq hS rfl ?_)
  have hS₂ := Heap.get?_update_self (Obj.mapSeq (fun _ => (#[] : Array Value))) hS rfl
  have oth : ∀ b o, b ≠ S → s.heap.get? b = some o → (s.heap.update S (Obj.mapSeq (fun _ => (#[] : Array Value)))).get? b = some o :=
    fun b o hb e => (Heap.get?_update_other _ _ (Ne.symm hb)).trans e
  refine wpAny_bind (wpAny_letGo ?_)
  have hit1 : (s.heap.update S (Obj.mapSeq (fun _ => (#[] : Array Value)))).IsRevIter it l ((items.size : Int) - 1) := hit.at fun o e => oth it o (Ne.symm hSi) e
  have hl1 : (s.heap.update S (Obj.mapSeq (fun _ => (#[] : Array Value)))).IsList l items := let ⟨ol, e, r⟩ := hl; ⟨ol, oth l ol (Ne.symm hSl) e, r⟩
  have hT : ({ s with heap := s.heap.update S (Obj.mapSeq (fun _ => (#[] : Array Value))) } : Shared).TypeIs (.ref it) "list_reverseiterator" := Heap.IsRevIter.typeIs (s := { s with heap := s.heap.update S (Obj.mapSeq (fun _ => (#[] : Array Value))) }) hit1
  have h1 : Builtin.List.listSameRef (.ref S) (.ref it) = false := by simp [Builtin.List.listSameRef, hSi]
  have W := (Walks.listRev (prog := prog) (w := w) (A := A.in1) hh it l hne items).toS
  unfold Builtin.List.listExtendWith
  refine wpAny_bind (wpAny_typeOf hT ?_)
  rw [if_neg (by rw [h1]; decide)]
  refine wpAny_bind (wpAny_pyIter_revIter (s := { s with heap := s.heap.update S (Obj.mapSeq (fun _ => (#[] : Array Value))) }) hit1 ?_)
  refine wpAny_bind (wpAny_holding ?_)
  unfold Builtin.List.listLengthHint
  refine wpAny_bind (wpAny_specialOf hT nolen_lri ?_)
  show wpAny _ A.in1 (specialOf (Value.ref it) (Str.ofString "__length_hint__") >>= _) _ _ _
  refine wpAny_bind (wpAny_specialOf hT hint_lri ?_)
  generalize hid : ("list_reverseiterator.__length_hint__" : String) = id0
  wp_delta
  rw [show splitId id0 = some ("list_reverseiterator", "__length_hint__") from by subst hid; decide +kernel]
  subst hid
  refine wpAny_bind (wpAny_isInstance (b := true) hT (by rw [isSubtype_type]; kernel_rfl) ?_)
  refine wpAny_pure ?_
  rw [if_neg (by decide)]
  have e0 : ((items.size : Nat) : Int) - 1 - ((0 : Nat) : Int) = (items.size : Int) - 1 := by omega
  refine wpAny_pure ⟨plainId_quiet F.plain_extend_loop _, codeAny_extend_loopS W hn _ hSf _ items.size 0 _ _ _ rfl (Nat.zero_le _) ⟨Nat.zero_le _, by rw [e0]; exact hit1, hl1⟩ hS₂ (ItemsOf.nil _) fun s' acc' c' hm hS' hacc => ?_⟩
  rw [Moved.eq_with hm]
  refine hR s'.heap s'.toks acc' c' (fun b o hb hb2 e => ?_) hS' hacc
  refine hm.heap b o (fun hmem => ?_) (oth b o hb e)
  rcases List.mem_cons.mp hmem with e' | hmem
  · exact hb e'
  · exact hb2 (List.mem_singleton.mp hmem)
theorem call_list_rev {Q : Value → Shared → Prop} {it l : Addr} {items : Array Value} (hh : A.handled = none) (hit : s.heap.IsRevIter it l ((items.size : Int) - 1)) (hl : s.heap.IsList l items) (hne : l ≠ it) (hn : items.size ≤ sizeLine)
    (hQ : ∀ h' tk acc' c', (∀ b o, b ≠ it → s.heap.get? b = some o → h'.get? b = some o) →
      h'.get? s.heap.objs.size = some { cls := .type "list", dict := none, data := .seq acc' c', slots := #[] } → ItemsOf (fun i v => items[items.size - 1 - i]? = some v) acc' items.size → Q (.ref s.heap.objs.size) { s with heap := h', toks := tk }) :
    wpAny (model prog w) A (call (.type "list") [.ref it]) Q E s := by
  refine callType_codes (Q₁ := fun obj s₁ => obj = .ref s.heap.objs.size ∧ s₁ = { s with heap := s.heap.push { cls := .type "list", data := .seq #[] } }) F.called_list (F.typeCall_list_1 _) F.entry_list_init
    (code_list_new _ ⟨rfl, rfl⟩) fun obj s₁ h₁ => ?_
  obtain ⟨rfl, rfl⟩ := h₁
  have hS : (s.heap.push { cls := .type "list", data := .seq #[] }).get? s.heap.objs.size = some { cls := .type "list", data := .seq #[] } := Heap.get?_push_size _ rfl
  obtain ⟨oi, hoi, _⟩ := id hit
  obtain ⟨ol, hol, _⟩ := id hl
  have hSi : s.heap.objs.size ≠ it := Nat.ne_of_gt (Heap.lt_size hoi)
  have hSl : s.heap.objs.size ≠ l := Nat.ne_of_gt (Heap.lt_size hol)
  refine ⟨⟨_, hS, rfl⟩, F.args_list_init_2 _ _, list_init_rev (A := A.in1) hh (hit.at fun o e => Heap.get?_push_of_some _ e) (hl.push _) hne hn _ hSi hSl hS fun h' tk acc' c' hk hS' hacc => ?_⟩
  exact ⟨rfl, hQ h' tk acc' c' (fun b o hb e => hk b o (Nat.ne_of_lt (Heap.lt_size e)) hb (Heap.get?_push_of_some _ e)) hS' hacc⟩
end
/-- list(reversed(x)), x a list: a new list -/
def tLstRev (K : PySem.W.Frag) (te : TE) : TE := fun σ H Q => te σ H fun v H1 => ∃ (a : Addr) (xs : List V), v = .ref a ∧ SqL K H1 a xs ∧ ∀ q, H1 q = none → Q (.ref q) (upd H1 q (.lst xs.reverse))
section
variable {X : Cx}
theorem pe_listRev {e : Expr} {te : TE} {p p2 pos pos2 : Pos} (hc : X.calm = true) (hg : Gl X "list") (hm : X.mg "list" = none) (hg2 : Gl X "reversed") (hm2 : X.mg "reversed" = none) (he : PE X e te)
    (hs : starEach [e] X.env = (false, eval e X.env) :: starEach [] X.env := by rfl)
    (hs2 : starEach [.Call (.Name "reversed" p2) [e] [] pos2] X.env = (false, eval (.Call (.Name "reversed" p2) [e] [] pos2) X.env) :: starEach [] X.env := by rfl) :
    PE X (.Call (.Name "list" p) [.Call (.Name "reversed" p2) [e] [] pos2] [] pos) (tLstRev X.K te) := by
  refine ⟨fun pins s σ H Q I h => ?_⟩
  refine Call_ (ld_blt I hg hm boot_list (PyProof.Rows.callWith_type1 (args_cons (Call_ (ld_blt I hg2 hm2 PyProof.Rows.boot_reversed (PyProof.Rows.callWith_type1 (args_cons (thn (he.run pins s σ H _ I h) fun u s1 ⟨v, H1, I1, r1, q1⟩ => args_nil ?_) hs) hs rfl))) hs2) hs2))
  obtain ⟨a, xs, ev, hq, q⟩ := q1
  subst ev
  obtain rfl : u = Value.ref a := r1
  obtain ⟨its, rv, p', hz⟩ := I1.list hq
  refine call_reversed_list p'.isList (args_nil ?_)
  have hl := p'.isList
  obtain ⟨ol, hol, _⟩ := id hl
  have hne : a ≠ s1.heap.objs.size := Nat.ne_of_lt (Heap.lt_size hol)
  have hn : its.toArray.size ≤ sizeLine := by rw [List.size_toArray, ← rv.length]; exact hz
  have hf := I1.fpOk (H' := H1) (b := s1.heap.objs.size) (Nat.le_refl _) (I1.hok.fresh (Nat.le_refl _))
  refine call_list_rev (s := { s1 with heap := s1.heap.push (revObj a ((its.toArray.size : Int) - 1)) }) (I1.ok.hd hc) ⟨_, Heap.get?_push_size _ rfl, rfl, rfl⟩ (hl.push _) hne hn fun h' tk acc c' hk e' hi => ?_
  have hT : s1.heap.objs.size ≤ (s1.heap.push (revObj a ((its.toArray.size : Int) - 1))).objs.size := by
    have hp : (s1.heap.push (revObj a ((its.toArray.size : Int) - 1))).get? s1.heap.objs.size = some (revObj a ((its.toArray.size : Int) - 1)) := Heap.get?_push_size _ rfl
    exact Nat.le_of_lt (Heap.lt_size hp)
  refine ⟨.ref _, upd H1 _ (.lst xs.reverse), I1.turnedNew (t' := tk) (ch := [s1.heap.objs.size]) (fun b o hb e => hk b o (fun z => hb (by simp [z])) (Heap.get?_push_of_some _ e)) (fun b hb => by obtain rfl : b = _ := List.mem_singleton.mp hb; exact hf) hT
    (show ObjOk X.prog X.w _ _ _ (.lst xs.reverse) from ⟨by rw [List.length_reverse]; exact hz, acc.toList, c', vals_rev rv hi, by rw [Array.toArray_toList]; exact e'⟩), rfl, q _ (I1.hok.fresh hT)⟩
end
end G

end
section
local macro_rules | `(tactic| walk_at "call") => `(tactic| (refine' G.w_cnt ?g1 ?_; (case g1 => walk_at "sq")))

local macro_rules | `(tactic| walk_at "call") => `(tactic| (refine' G.w_popAt ?g1 ?g2 ?g3 ?g4 ?_; (case g1 => walk_at "hp"); (case g2 => walk_at "ar"); (case g3 => walk_at "ar"); (case g4 => walk_at "ar")))

namespace G
open PySem PySem.Spec PyProof.Rows L2 GX
structure CTB (K : PySem.W.Frag) (A : CA) : Prop where
  c_Web : Cls K A.Web
  n_Web__arrows : NoAttr K A.Web "_arrows"
  n_Web__holders : NoAttr K A.Web "_holders"
  n_Web__known : NoAttr K A.Web "_known"
  n_Web__targets : NoAttr K A.Web "_targets"
  n_Web_pages : NoAttr K A.Web "pages"
  e_NoPage : OexC K A.NoPage
  f_NoPage : PySem.W.findIn K (.ref A.NoPage) "page" = some none
  e_InvalidPointer : OexC K A.InvalidPointer
  f_InvalidPointer : PySem.W.findIn K (.ref A.InvalidPointer) "index" = some none
end G

end
section
local macro_rules | `(tactic| walk_at "call") => `(tactic| (refine' G.w_cnt ?g1 ?_; (case g1 => walk_at "sq")))

local macro_rules | `(tactic| walk_at "call") => `(tactic| (refine' G.w_popAt ?g1 ?g2 ?g3 ?g4 ?_; (case g1 => walk_at "hp"); (case g2 => walk_at "ar"); (case g3 => walk_at "ar"); (case g4 => walk_at "ar")))

namespace G
open PySem L2 GX
/-! ### pages that are not there -/
def isOut (n z : Int) : Bool := !(decide (0 ≤ z) && decide (z < n))
theorem in_of {n z : Int} (h : isOut n z = false) : 0 ≤ z ∧ z < n := by
  unfold isOut at h
  simpa using h
theorem isOut_in {n z : Int} (h0 : 0 ≤ z) (h1 : z < n) : isOut n z = false := by
  unfold isOut
  simp [h0, h1]
/-- check_pages: nothing, or NoPage with the first page outside -/
def Checked (K : PySem.W.Frag) (A : CA) (n : Int) (ps : List Int) (H : Hp) (E : XK) (R : Prop) : Prop :=
  (∀ z, ps.find? (isOut n) = some z → Raised A.NoPage "page" (.int z) H E) ∧ (ps.find? (isOut n) = none → R)
def sp_check_pages (K : PySem.W.Frag) (A : CA) : Sp := fun vs H Q E => ∃ (w p dx : Addr) (fs : List (Str × V)) (n : Int) (ps : List Int), vs = [.ref w, .ref p] ∧ H w = some (.ins A.Web dx fs) ∧ fs.lookup ("pages" : Str) = some (V.int n) ∧ SqL K H p (ps.map V.int) ∧
  Checked K A n ps H E (Q .non H)
def t_check_pages (K : PySem.W.Frag) (A : CA) (E : XK) : TS :=
  (tFor (iList K (tVar 1)) (gName 2)
  (tIfS (tNot (tTest (tChain oLe oLt (tC (.int 0)) (tVar 2) (tFld K (tVar 0) "pages")))) (GX.tRaiseO A.NoPage (GX.sp_err K A.NoPage "page") E (tCons (tVar 2) tNil)) tNext))

theorem find_take {n : Int} : ∀ {ps : List Int} {i : Nat} {z : Int}, (∀ y ∈ ps.take i, isOut n y = false) → ps[i]? = some z → isOut n z = true → ps.find? (isOut n) = some z
  | [], i, z, _, h, _ => by cases h
  | a :: l, 0, z, _, h, o => by
    obtain rfl : a = z := Option.some.inj h
    rw [List.find?_cons, o]
  | a :: l, i + 1, z, k, h, o => by
    rw [List.find?_cons, k a (by rw [List.take_succ_cons]; exact List.mem_cons_self)]
    exact find_take (fun y hy => k y (by rw [List.take_succ_cons]; exact List.mem_cons_of_mem _ hy)) h o
theorem rd_check_pages {K : PySem.W.Frag} {A : CA} (T : CTB K A) {vs : List V} {H : Hp} {Q : VK} {E : XK} (h : sp_check_pages K A vs H Q E) :
    t_check_pages K A E { nx := fun _ H' => Q .non H', rt := Q } (start ["web", "pages", "page"] vs) H := by
  obtain ⟨w, p, dx, fs, n, ps, rfl, hw, hn, hp, k1, k2⟩ := h
  unfold t_check_pages
  walk_at "go"
  refine forL (xs := ps.map V.int) (fun i σ H' => ∃ k2 : Option V, σ = [some (.ref w), some (.ref p), k2] ∧ H' = H ∧ ∀ y ∈ ps.take i, isOut n y = false) ?_ ?_ ?_ ?_
  · exact ⟨none, rfl, rfl, fun y hy => by cases hy⟩
  · rintro i σ H1 _ ⟨k2, rfl, rfl, _⟩
    exact hp
  · rintro i x σ H1 hx ⟨k3, rfl, rfl, hin⟩
    obtain ⟨z, hz, rfl⟩ : ∃ z, ps[i]? = some z ∧ x = V.int z := by
      rw [List.getElem?_map] at hx
      cases e : ps[i]? with
      | none => rw [e] at hx; cases hx
      | some z => rw [e] at hx; exact ⟨z, rfl, (Option.some.inj hx).symm⟩
    have no : (h0 : 0 ≤ z) → (h1 : z < n) → ∃ k2 : Option V, [some (V.ref w), some (.ref p), some (.int z)] = [some (.ref w), some (.ref p), k2] ∧ H1 = H1 ∧ ∀ y ∈ ps.take (i + 1), isOut n y = false := fun h0 h1 => ⟨_, rfl, rfl, fun y hy => by
      rw [List.take_succ, hz] at hy
      rcases List.mem_append.mp hy with k | k
      · exact hin y k
      · obtain rfl : y = z := by simpa using k
        exact isOut_in h0 h1⟩
    have out : isOut n z = true → tRaiseO A.NoPage (sp_err K A.NoPage "page") E (tCons (tVar 2) tNil) { nx := fun σ H' => ∃ k2 : Option V, σ = [some (.ref w), some (.ref p), k2] ∧ H' = H1 ∧ ∀ y ∈ ps.take (i + 1), isOut n y = false, rt := Q } [some (V.ref w), some (.ref p), some (.int z)] H1 := fun o =>
      w_raiseO (v := .int z) (H1 := H1) T.e_NoPage T.f_NoPage (fun Q q => by walk_at "go"; exact q) (k1 z (find_take hin hz o))
    walk_at "go"
    refine w_iteD (fun c1 => ?_) (fun c1 => ?_)
    · walk_at "go"
      refine w_fld2 hw T.c_Web T.n_Web_pages hn ?_
      walk_at "go"
      by_cases c2 : z < n
      · rw [decide_eq_true c2]
        walk_at "go"
        exact no c1 c2
      · rw [decide_eq_false c2]
        walk_at "go"
        exact out (by unfold isOut; simp [c2])
    · walk_at "go"
      exact out (by unfold isOut; simp [c1])
  · rintro σ H1 ⟨k3, rfl, rfl, hin⟩
    rw [List.length_map, List.take_length] at hin
    exact k2 (List.find?_eq_none.mpr fun y hy => by rw [hin y hy]; decide)
/-! ### pointers -/
def isPtr (n a b : Int) : Bool := decide (0 ≤ a ∧ a < n ∧ 0 ≤ b ∧ b < n ∧ a ≠ b)
def sp_is_pointer (K : PySem.W.Frag) (A : CA) : Sp := fun vs H Q _ => ∃ (n a b : Int), vs = [.int n, .int a, .int b] ∧ Q (.bl (isPtr n a b)) H
def t_is_pointer (K : PySem.W.Frag) (A : CA) : TS :=
  (tRet (tAndV (tChain oLe oLt (tC (.int 0)) (tVar 1) (tVar 0)) (tAndV (tChain oLe oLt (tC (.int 0)) (tVar 2) (tVar 0)) (tOp rNe (tVar 1) (tVar 2)))))

theorem rd_is_pointer {K : PySem.W.Frag} {A : CA} {vs : List V} {H : Hp} {Q : VK} {E : XK} (h : sp_is_pointer K A vs H Q E) :
    t_is_pointer K A { nx := fun _ H' => Q .non H', rt := Q } (start ["pages", "holder", "target"] vs) H := by
  obtain ⟨n, a, b, rfl, q⟩ := h
  unfold t_is_pointer
  walk_at "go"
  have no : ¬ (0 ≤ a ∧ a < n ∧ 0 ≤ b ∧ b < n ∧ a ≠ b) → Q (.bl false) H := fun c => by
    have e : isPtr n a b = false := decide_eq_false c
    rw [e] at q; exact q
  refine w_iteD (fun c1 => ?_) (fun c1 => ?_)
  · walk_at "go"
    by_cases c2 : a < n
    · rw [decide_eq_true c2]
      walk_at "go"
      refine w_iteD (fun c3 => ?_) (fun c3 => ?_)
      · walk_at "go"
        by_cases c4 : b < n
        · rw [decide_eq_true c4]
          walk_at "go"
          by_cases c5 : a = b
          · rw [decide_eq_true c5]
            exact no (by omega)
          · rw [decide_eq_false c5]
            have e : isPtr n a b = true := decide_eq_true ⟨c1, c2, c3, c4, c5⟩
            rw [e] at q; exact q
        · rw [decide_eq_false c4]
          walk_at "go"
          exact no (by omega)
      · walk_at "go"
        exact no (by omega)
    · rw [decide_eq_false c2]
      walk_at "go"
      exact no (by omega)
  · walk_at "go"
    exact no (by omega)
end G

end
section
local macro_rules | `(tactic| walk_at "call") => `(tactic| (refine' G.w_cnt ?g1 ?_; (case g1 => walk_at "sq")))

local macro_rules | `(tactic| walk_at "call") => `(tactic| (refine' G.w_popAt ?g1 ?g2 ?g3 ?g4 ?_; (case g1 => walk_at "hp"); (case g2 => walk_at "ar"); (case g3 => walk_at "ar"); (case g4 => walk_at "ar")))

namespace G
open PySem L2 GX
theorem Raised.at {C : Addr} {f : Str} {v : V} {H H1 : Hp} {E : XK} (e : Same H H1) (r : Raised C f v H E) : Raised C f v H1 E := fun d H' hd e' h => r d H' (e.free hd) (e.trans e') h
/-- the rows before the i-th one are pointers, each for the first time -/
def OkTo (n : Int) (rows : List (Int × Int)) (i : Nat) : Prop := ∀ j r, j < i → rows[j]? = some r → isPtr n r.1 r.2 = true ∧ r ∉ rows.take j
theorem isPtr_iff {n a b : Int} : isPtr n a b = true ↔ 0 ≤ a ∧ a < n ∧ 0 ≤ b ∧ b < n ∧ a ≠ b := by
  unfold isPtr
  exact decide_eq_true_iff
def sp_as_known (K : PySem.W.Frag) (A : CA) : Sp := fun vs H Q E => ∃ (n : Int) (pq : Addr) (us : List V) (rows : List (Int × Int)), vs = [.int n, .ref pq] ∧ H pq = some (.lst us) ∧ Paired (PR H) us rows ∧ us.length ≤ 600 ∧
  (∀ k r, rows[k]? = some r → OkTo n rows k → (isPtr n r.1 r.2 = false ∨ r ∈ rows.take k) → Raised A.InvalidPointer "index" (.int (k : Nat)) H E) ∧
  (OkTo n rows rows.length → ∀ (d : Addr) (H' : Hp), H d = none → Same H H' → H' d = some (.dT (rows.map ent)) → Q (.ref d) H')
theorem has_key {r : Int × Int} : ∀ {l : List (Int × Int)}, r ∈ l → valV (l.map ent) (key r) = some (.bl true)
  | x :: l, h => by
    by_cases c : x = r
    · subst c; exact valV_pos (p := ent x) rfl
    · rw [List.map_cons, valV_neg (p := ent x) (fun e => c (key_inj e))]
      rcases List.mem_cons.mp h with z | z
      · exact absurd z.symm c
      · exact has_key z
def t_as_known (K : PySem.W.Frag) (A : CA) (E : XK) : TS :=
  (tSeq (tAsg tDNewT (gName 2))
  (tSeq (tFor (iEnum K (tCons (tVar 1) tNil)) (gTup K 2 (gCons (gName 3) (gCons (gTup K 2 (gCons (gName 4) (gCons (gName 5) gNil))) gNil)))
  (tSeq (tIfS (tOr (tNot (tB (tCall (sp_is_pointer K A) [] E0 (tCons (tVar 0) (tCons (tVar 4) (tCons (tVar 5) tNil)))))) (tB (tDIn (tTup (tCons (tVar 4) (tCons (tVar 5) tNil))) (tVar 2)))) (GX.tRaiseO A.InvalidPointer (GX.sp_err K A.InvalidPointer "index") E (tCons (tVar 3) tNil)) tNext)
  (sDPut (tVar 2) (tTup (tCons (tVar 4) (tCons (tVar 5) tNil))) (tC (.bl true)))))
  (tRet (tVar 2))))

theorem rd_as_known {K : PySem.W.Frag} {A : CA} (T : CTB K A) {vs : List V} {H : Hp} {Q : VK} {E : XK} (h : sp_as_known K A vs H Q E) :
    t_as_known K A E { nx := fun _ H' => Q .non H', rt := Q } (start ["pages", "pointers", "known", "index", "holder", "target"] vs) H := by
  obtain ⟨n, pq, us, rows, rfl, hq, hP, hl, kW, q⟩ := h
  have hlen := hP.length
  unfold t_as_known
  walk_at "go"
  intro d hd
  walk_at "go"
  refine ⟨pq, us, rfl, SqL.of (keep hq hd), ?_⟩
  refine forE (xs := us) (fun i σ H' => ∃ k3 k4 k5 : Option V, σ = [some (.int n), some (.ref pq), some (.ref d), k3, k4, k5] ∧ OkTo n rows i ∧ Same H H' ∧ H' d = some (.dT ((rows.take i).map ent))) ?_ ?_ ?_ ?_
  · exact ⟨none, none, none, rfl, fun j r hj => absurd hj (Nat.not_lt_zero _), same_new hd, upd_same⟩
  · rintro i σ H1 _ ⟨k3, k4, k5, rfl, _, e, _⟩
    exact SqL.of (e _ _ hq)
  · rintro i x T0 σ H1 hx ⟨k3, k4, k5, rfl, ok, e, hdd⟩ hT
    obtain ⟨r, hr, t, rfl, ht⟩ := Paired.at' hP hx
    have hi : i < us.length := (List.getElem?_eq_some_iff.mp hx).1
    have htT : (upd H1 T0 (.tup [.int (i : Nat), .ref t])) t = some (.tup [.int r.1, .int r.2]) := keep (e _ _ ht) hT
    have hTd : d ≠ T0 := ne_of_none hdd hT
    have out : ∀ (H2 : Hp), Same H1 H2 → (isPtr n r.1 r.2 = false ∨ r ∈ rows.take i) → tRaiseO A.InvalidPointer (sp_err K A.InvalidPointer "index") E (tCons (tVar 3) tNil) { nx := fun _ _ => True, rt := Q } [some (V.int n), some (.ref pq), some (.ref d), some (.int (i : Nat)), some (.int r.1), some (.int r.2)] H2 := fun H2 e2 hb =>
      w_raiseO (v := .int (i : Nat)) (H1 := H2) T.e_InvalidPointer T.f_InvalidPointer (fun Q q => by walk_at "go"; exact q) (Raised.at (e.trans e2) (kW i r hr ok hb))
    walk_at "go"
    refine ⟨n, r.1, r.2, rfl, ?_⟩
    walk_at "go"
    cases hp : isPtr n r.1 r.2 with
    | false =>
      walk_at "go"
      exact out _ (same_new hT) (.inl hp)
    | true =>
    walk_at "go"
    show (tB (tDIn (tTup (tCons (tVar 4) (tCons (tVar 5) tNil))) (tVar 2))) _ _ _
    unfold tDIn
    walk_at "go"
    intro t2 ht2
    walk_at "go"
    refine ⟨d, _, rfl, DGet.t (k := key r) (keep (keep hdd hT) ht2) upd_same, ?_⟩
    by_cases hm : r ∈ rows.take i
    · rw [has_key hm]
      walk_at "go"
      exact w_iteT (out _ ((same_new hT).trans (same_new ht2)) (.inr hm))
    rw [no_key hm]
    walk_at "go"
    refine w_iteF ?_
    unfold sDPut
    walk_at "go"
    intro t3 ht3
    have hd3 : (upd (upd (upd H1 T0 (.tup [.int (i : Nat), .ref t])) t2 (.tup [.int r.1, .int r.2])) t3 (.tup [.int r.1, .int r.2])) d = some (.dT ((rows.take i).map ent)) := keep (keep (keep hdd hT) ht2) ht3
    refine ⟨d, _, rfl, DPut.t (k := key r) hd3 upd_same (small1000 (by rw [List.length_map, List.length_take]; omega)), ?_⟩
    rw [putK_new _ (no_key hm)]
    refine ⟨_, _, _, rfl, ?_, same_mut (((e.trans (same_new hT)).trans (same_new ht2)).trans (same_new ht3)) hd, ?_⟩
    · intro j s hj hs
      by_cases c : j < i
      · exact ok j s c hs
      · obtain rfl : j = i := by omega
        rw [hr] at hs
        cases hs
        exact ⟨hp, hm⟩
    · rw [List.take_succ, hr, List.map_append]
      exact upd_same
  · rintro σ H1 ⟨k3, k4, k5, rfl, ok, e, hdd⟩
    rw [hlen, List.take_length] at hdd
    rw [hlen] at ok
    walk_at "go"
    exact q ok d H1 hd e hdd
/-! ### tables of lists -/
structure TabAt (H : Hp) (p : Addr) (ls : List (List Int)) : Prop where
  ex : ∃ qs : List Addr, H p = some (.lst (qs.map V.ref)) ∧ qs.length = ls.length ∧ ∀ (k : Nat) (q : Addr) (l : List Int), qs[k]? = some q → ls[k]? = some l → H q = some (.lst (l.map V.int))
theorem TabAt.same {H H' : Hp} {p : Addr} {ls : List (List Int)} (e : Same H H') (h : TabAt H p ls) : TabAt H' p ls := let ⟨qs, a, b, c⟩ := h.ex; ⟨qs, e _ _ a, b, fun k q l x y => e _ _ (c k q l x y)⟩
def grp (rows : List (Int × Int)) (k : Nat) : List Int := (rows.filter fun r => decide (r.1 = (k : Int))).map (·.2)
def grps (n : Int) (rows : List (Int × Int)) : List (List Int) := (List.range n.toNat).map (grp rows)
theorem grp_snoc {rows : List (Int × Int)} {r : Int × Int} {k : Nat} : grp (rows ++ [r]) k = if r.1 = (k : Int) then grp rows k ++ [r.2] else grp rows k := by
  unfold grp
  rw [List.filter_append, List.map_append]
  by_cases c : r.1 = (k : Int)
  · simp [c]
  · simp [c]
/-- the heap without what stands at l -/
def cutL (l : Addr) (H : Hp) : Hp := fun b => if b = l then none else H b
theorem cutL_at {l b : Addr} {H : Hp} {o : HO} (h : H b = some o) (n : b ≠ l) : cutL l H b = some o := by
  unfold cutL; rw [if_neg n]; exact h
theorem cutL_same {l : Addr} {H H' : Hp} (e : Same H H') : Same (cutL l H) (cutL l H') := fun b o h => by
  unfold cutL at h ⊢
  by_cases c : b = l
  · rw [if_pos c] at h; cases h
  · rw [if_neg c] at h ⊢; exact e b o h
theorem cutL_upd {l p : Addr} {H : Hp} {o : HO} (n : p ≠ l) : cutL l (upd H p o) = upd (cutL l H) p o := funext fun b => by
  by_cases c : b = p
  · subst c; rw [upd_same]; exact cutL_at upd_same n
  · rw [upd_ne c]
    unfold cutL
    rw [upd_ne c]
theorem cutL_of {l : Addr} {H H' : Hp} (e : Same H H') (h : H l = none) : Same H (cutL l H') := fun b o hb => cutL_at (e b o hb) (ne_of_none hb h)
theorem cutL_to {l : Addr} {H H' : Hp} (h : ∀ b o, b ≠ l → H b = some o → H' b = some o) : Same (cutL l H) H' := fun b o hb => by
  unfold cutL at hb
  by_cases c : b = l
  · rw [if_pos c] at hb; cases hb
  · rw [if_neg c] at hb; exact h b o c hb
def sp_grouped (K : PySem.W.Frag) (A : CA) : Sp := fun vs H Q _ => ∃ (n : Int) (pq : Addr) (us : List V) (rows : List (Int × Int)), vs = [.int n, .ref pq] ∧ H pq = some (.lst us) ∧ Paired (PR H) us rows ∧ (∀ r ∈ rows, 0 ≤ r.1 ∧ r.1 < n) ∧ us.length ≤ 600 ∧ 0 ≤ n ∧ n ≤ 500 ∧
  ∀ (f : Addr) (H' : Hp), H f = none → Same H H' → TabAt H' f (grps n rows) → (∀ (l : Addr) (o : HO), H l = some o → TabAt (cutL l H') f (grps n rows)) → Q (.ref f) H'
def t_grouped (K : PySem.W.Frag) (A : CA) : TS :=
  (tSeq (tAsg (tLc (iRng1 (tCons (tVar 0) tNil)) (gName 3) tYes (tLst tNil) [3]) (gName 2))
  (tSeq (tFor (iList K (tVar 1)) (gTup K 2 (gCons (gName 4) (gCons (gName 5) gNil)))
  (tDrop (tBM K "list" rAppend (tOp (rIxL K) (tVar 2) (tVar 4)) (tCons (tVar 5) tNil))))
  (tRet (tVar 2))))

theorem rd_grouped {K : PySem.W.Frag} {A : CA} {vs : List V} {H : Hp} {Q : VK} {E : XK} (h : sp_grouped K A vs H Q E) :
    t_grouped K A { nx := fun _ H' => Q .non H', rt := Q } (start ["pages", "pairs", "found", "_", "page", "other"] vs) H := by
  obtain ⟨n, pq, us, rows, rfl, hq, hP, hR, hl, n0, n1, q⟩ := h
  have hlen := hP.length
  unfold t_grouped
  walk_at "go"
  refine lcR (fun Dl i H' => Same H H' ∧ ∃ ls : List Addr, H' Dl = some (.lst (ls.map V.ref)) ∧ ls.length = i ∧ ls.Nodup ∧ ∀ l ∈ ls, H l = none ∧ l ≠ Dl ∧ H' l = some (.lst [])) (fun Dl hD => ⟨same_new hD, [], upd_same, rfl, List.nodup_nil, fun _ h => by cases h⟩) ?_ ?_
  · rintro Dl i H1 hD hi ⟨e, ls, hL, hll, hnd, hls⟩
    walk_at "go"
    intro l hl0
    have hL1 := keep (o' := .lst []) hL hl0
    walk_at "go"
    refine ⟨same_mut (e.trans (same_new hl0)) hD, ls ++ [l], by rw [List.map_append]; exact upd_same, by simp [hll], ?_, fun x hx => ?_⟩
    · refine List.nodup_append.mpr ⟨hnd, List.nodup_cons.mpr ⟨List.not_mem_nil, List.nodup_nil⟩, fun a ha b hb => ?_⟩
      rw [List.mem_singleton.mp hb]
      exact ne_of_none (hls a ha).2.2 hl0
    rcases List.mem_append.mp hx with k | k
    · obtain ⟨a1, a2, a3⟩ := hls x k
      exact ⟨a1, a2, keepNe (keep a3 hl0) a2⟩
    · rw [List.mem_singleton.mp k]
      have hne : l ≠ Dl := (ne_of_none hL hl0).symm
      exact ⟨e.free hl0, hne, keepNe upd_same hne⟩
  · rintro Dl H1 hD ⟨e, ls, hL, hll, hnd, hls⟩
    have hq1 := e _ _ hq
    walk_at "go"
    refine forL (xs := us) (fun i σ H' => ∃ k3 k4 k5 : Option V, σ = [some (.int n), some (.ref pq), some (.ref Dl), k3, k4, k5] ∧ Same H H' ∧ H' Dl = some (.lst (ls.map V.ref)) ∧ ∀ k l, ls[k]? = some l → H' l = some (.lst ((grp (rows.take i) k).map V.int))) ?_ ?_ ?_ ?_
    · exact ⟨_, _, _, rfl, e, hL, fun k l hl => (hls l (List.mem_of_getElem? hl)).2.2⟩
    · rintro i σ H2 _ ⟨k3, k4, k5, rfl, e2, _⟩
      exact SqL.of (e2 _ _ hq)
    · rintro i x σ H2 hx ⟨k3, k4, k5, rfl, e2, hL2, hls2⟩
      obtain ⟨r, hr, t, rfl, ht⟩ := Paired.at' hP hx
      have hb := hR r (List.mem_of_getElem? hr)
      have hi : i < us.length := (List.getElem?_eq_some_iff.mp hx).1
      have ht2 := e2 _ _ ht
      have hk : r.1.toNat < ls.length := by omega
      have hm := List.getElem_mem hk
      have hxx : atI (ls.map V.ref) r.1 = some (V.ref ls[r.1.toNat]) := atn (j := r.1.toNat) (by omega) (by simp [hk])
      have hgl : ls[r.1.toNat]? = some ls[r.1.toNat] := List.getElem?_eq_getElem hk
      obtain ⟨a1, a2, _⟩ := hls _ hm
      have a3 := hls2 _ _ hgl
      have a4 : (grp (rows.take i) r.1.toNat).length ≤ 600 := by
        unfold grp
        rw [List.length_map]
        refine Nat.le_trans (List.length_filter_le _ _) ?_
        rw [List.length_take]; omega
      generalize hle : ls[r.1.toNat] = l at hxx a1 a2 a3 hgl
      have a5 : ((grp (rows.take i) r.1.toNat).map V.int).length ≤ 600 := by rw [List.length_map]; exact a4
      walk_at "go"
      refine ⟨_, _, _, rfl, same_mut e2 a1, keepNe hL2 a2.symm, fun k y hy => ?_⟩
      rw [List.take_succ, hr]
      show _ = some (HO.lst ((grp (rows.take i ++ [r]) k).map V.int))
      rw [grp_snoc]
      by_cases c : k = r.1.toNat
      · subst c
        rw [hgl] at hy
        cases hy
        rw [if_pos (by omega), List.map_append]
        exact upd_same
      · rw [if_neg (by omega)]
        have hyl : y ≠ l := fun z => c (nd_ix hnd hy (by rw [z]; exact hgl))
        exact keepNe (hls2 k y hy) hyl
    · rintro σ H2 ⟨k3, k4, k5, rfl, e2, hL2, hls2⟩
      walk_at "go"
      have T : ∀ H3 : Hp, H3 Dl = some (.lst (ls.map V.ref)) → (∀ k l, ls[k]? = some l → H3 l = some (.lst ((grp (rows.take us.length) k).map V.int))) → TabAt H3 Dl (grps n rows) := fun H3 hL3 hls3 => by
        refine ⟨ls, hL3, ?_, fun k p l hk hl2 => ?_⟩
        · unfold grps; rw [List.length_map, List.length_range]; omega
        · have z := hls3 k p hk
          rw [hlen, List.take_length] at z
          unfold grps at hl2
          rw [List.getElem?_map] at hl2
          have hkn : k < n.toNat := by
            have := (List.getElem?_eq_some_iff.mp hk).1
            omega
          rw [List.getElem?_range hkn] at hl2
          cases hl2
          exact z
      exact q Dl H2 hD e2 (T H2 hL2 hls2) fun l o hl => T _ (cutL_at hL2 (ne_of_none hl hD).symm) fun k p hk => cutL_at (hls2 k p hk) (ne_of_none hl (hls p (List.mem_of_getElem? hk)).1).symm
end G

end
section
local macro_rules | `(tactic| walk_at "call") => `(tactic| (refine' G.w_cnt ?g1 ?_; (case g1 => walk_at "sq")))

local macro_rules | `(tactic| walk_at "call") => `(tactic| (refine' G.w_popAt ?g1 ?g2 ?g3 ?g4 ?_; (case g1 => walk_at "hp"); (case g2 => walk_at "ar"); (case g3 => walk_at "ar"); (case g4 => walk_at "ar")))

namespace G
open PySem L2 GX
def swp (r : Int × Int) : Int × Int := (r.2, r.1)
structure WebX (A : CA) (H : Hp) (w : Addr) (n : Int) (rs : List (Int × Int)) : Prop where
  ex : ∃ (dx d ar tg hd : Addr) (us : List V) (ks : List (Int × Int)), H w = some (.ins A.Web dx (webFs n d ar tg hd)) ∧ H d = some (.dT (ks.map ent)) ∧ (∀ r, r ∈ ks ↔ r ∈ rs) ∧ H ar = some (.lst us) ∧ Paired (PR H) us rs ∧ us.length ≤ 600 ∧
    TabAt H tg (grps n rs) ∧ TabAt H hd (grps n (rs.map swp))
theorem WebX.same {A : CA} {H H' : Hp} {w : Addr} {n : Int} {rs : List (Int × Int)} (e : Same H H') (h : WebX A H w n rs) : WebX A H' w n rs :=
  let ⟨dx, d, ar, tg, hd, us, ks, h1, h2, h3, h4, h5, h6, h7, h8⟩ := h.ex; ⟨dx, d, ar, tg, hd, us, ks, e _ _ h1, e _ _ h2, h3, e _ _ h4, PRs.same e h5, h6, h7.same e, h8.same e⟩
theorem TabAt.mutI {H : Hp} {w p C dx : Addr} {fs : List (Str × V)} {o : HO} {ls : List (List Int)} (hw : H w = some (.ins C dx fs)) (h : TabAt H p ls) : TabAt (upd H w o) p ls :=
  let ⟨qs, a, b, c⟩ := h.ex
  ⟨qs, keepNe a (ne_of a hw (by intro z; cases z)), b, fun k q l x y => keepNe (c k q l x y) (ne_of (c k q l x y) hw (by intro z; cases z))⟩
theorem OkTo.rg {n : Int} {rows : List (Int × Int)} (h : OkTo n rows rows.length) : RG n rows := by
  refine ⟨fun r hr => ?_, ?_⟩
  · obtain ⟨j, hj⟩ := List.getElem?_of_mem hr
    exact isPtr_iff.mp (h j r (List.getElem?_eq_some_iff.mp hj).1 hj).1
  · refine List.pairwise_iff_getElem.mpr fun i j hi hj hij e => ?_
    have h1 := List.getElem?_eq_getElem hj
    have h2 := (h j _ hj h1).2
    refine h2 (List.mem_of_getElem? (i := i) ?_)
    rw [List.getElem?_take_of_lt hij, List.getElem?_eq_getElem hi, e]
def sp_Web_init (K : PySem.W.Frag) (A : CA) : Sp := fun vs H Q E => ∃ (H0 : Hp) (w dx pq : Addr) (n : Int) (us : List V) (rows : List (Int × Int)), vs = [.ref w, .int n, .ref pq] ∧ H = upd (upd H0 dx (.own w)) w (.ins A.Web dx []) ∧ H0 w = none ∧ H0 dx = none ∧ dx ≠ w ∧ H0 pq = some (.lst us) ∧ Paired (PR H0) us rows ∧ us.length ≤ 600 ∧ 1 ≤ n ∧ n ≤ 500 ∧
  (∀ k r, rows[k]? = some r → OkTo n rows k → (isPtr n r.1 r.2 = false ∨ r ∈ rows.take k) → Raised A.InvalidPointer "index" (.int (k : Nat)) H0 E) ∧
  (OkTo n rows rows.length → ∀ (rs : List (Int × Int)) (H' : Hp), SortedOf rows rs → RG n rs → Same H0 H' → WebX A H' w n rs → (∀ (l : Addr) (vs : List V), H0 l = some (.lst vs) → WebX A (cutL l H') w n rs) → Q .non H')
def t_Web_init (K : PySem.W.Frag) (A : CA) (E : XK) : TS :=
  (tSeq (sFld K (tVar 0) (tVar 1) "pages")
  (tSeq (sFld K (tVar 0) (tCall (sp_as_known K A) [] E (tCons (tVar 1) (tCons (tVar 2) tNil))) "_known")
  (tSeq (sFld K (tVar 0) (tCB (rSortedPO K) (tCons (tCB oListD (tCons (tFld K (tVar 0) "_known") tNil)) tNil)) "_arrows")
  (tSeq (sFld K (tVar 0) (tCall (sp_grouped K A) [] E0 (tCons (tVar 1) (tCons (tFld K (tVar 0) "_arrows") tNil))) "_targets")
  (sFld K (tVar 0) (tCall (sp_grouped K A) [] E0 (tCons (tVar 1) (tCons (tLc (iList K (tFld K (tVar 0) "_arrows")) (gTup K 2 (gCons (gName 3) (gCons (gName 4) gNil))) tYes (tTup (tCons (tVar 4) (tCons (tVar 3) tNil))) [3, 4]) tNil))) "_holders")))))

theorem rd_Web_init {K : PySem.W.Frag} {A : CA} (T : CTB K A) {vs : List V} {H : Hp} {Q : VK} {E : XK} (h : sp_Web_init K A vs H Q E) :
    t_Web_init K A E { nx := fun _ H' => Q .non H', rt := Q } (start ["self", "pages", "pointers", "holder", "target"] vs) H := by
  obtain ⟨H0, w, dx, pq, n, us, rows, rfl, rfl, fw, fdx, ndx, hq, hP, hl, n1, n2, kW, q⟩ := h
  have hlen := hP.length
  have e0 : Same H0 (upd (upd H0 dx (.own w)) w (.ins A.Web dx [])) := same_mut (same_new fdx) fw
  unfold t_Web_init
  walk_at "go"
  refine w_sfld2 upd_same T.c_Web T.n_Web_pages (by decide) ?_
  -- the instance stands at w, all else as it was
  have st : ∀ (fs : List (Str × V)) (H1 H2 : Hp), Same H0 H1 → Same H0 (upd H1 w (.ins A.Web dx fs)) := fun fs H1 _ e => same_mut e fw
  have e1 := same_mut (o := .ins A.Web dx (putF "pages" (.int n) [])) e0 fw
  have hw1 : (upd (upd (upd H0 dx (.own w)) w (.ins A.Web dx [])) w (.ins A.Web dx (putF "pages" (.int n) []))) w = some (.ins A.Web dx (putF "pages" (.int n) [])) := upd_same
  generalize upd (upd (upd H0 dx (.own w)) w (.ins A.Web dx [])) w (.ins A.Web dx (putF "pages" (.int n) [])) = H1 at e1 hw1
  walk_at "go"
  refine ⟨n, pq, us, rows, rfl, e1 _ _ hq, PRs.same e1 hP, hl, fun k r hk ok hb => Raised.at e1 (kW k r hk ok hb), fun ok d H2 fd e2 hd => ?_⟩
  have hR := OkTo.rg ok
  walk_at "go"
  refine w_sfld2 (e2 _ _ hw1) T.c_Web T.n_Web__known (Nat.lt_of_le_of_lt (len_put1 (Nat.zero_le 0)) (by decide)) ?_
  have nd : d ≠ w := (ne_of_none hw1 fd).symm
  have E2 := same_mut (o := .ins A.Web dx (putF "_known" (.ref d) (putF "pages" (.int n) []))) (e1.trans e2) fw
  have hw2 : (upd H2 w (.ins A.Web dx (putF "_known" (.ref d) (putF "pages" (.int n) [])))) w = some (.ins A.Web dx (putF "_known" (.ref d) (putF "pages" (.int n) []))) := upd_same
  have hd2 : (upd H2 w (.ins A.Web dx (putF "_known" (.ref d) (putF "pages" (.int n) [])))) d = some (.dT (rows.map ent)) := keepNe hd nd
  generalize upd H2 w (.ins A.Web dx (putF "_known" (.ref d) (putF "pages" (.int n) []))) = H3 at E2 hw2 hd2
  walk_at "go"
  refine w_fld2 hw2 T.c_Web T.n_Web__known (by rw [lookup_putF, if_pos rfl]) ?_
  walk_at "go"
  refine ⟨d, _, rfl, Or.inl hd2, fun kl bs fkl hk => ?_⟩
  have hkP : Paired (PR (upd H3 kl (.lst (bs.map V.ref)))) (bs.map V.ref) rows := by
    have hk2 : ∀ {l : List (Int × Int)} {cs : List Addr}, IsKeys H3 (l.map ent) cs → Paired (PR H3) (cs.map V.ref) l := fun {l} => by
      induction l with
      | nil => intro cs h; cases h; exact .nil
      | cons x r ih => intro cs h; cases h with
        | cons f g => exact .cons ⟨_, rfl, f⟩ (ih g)
    exact PRs.new fkl (hk2 hk)
  have hkl : (upd H3 kl (.lst (bs.map V.ref))) kl = some (.lst (bs.map V.ref)) := upd_same
  have E4 := E2.trans (same_new (o := .lst (bs.map V.ref)) fkl)
  have hd4 : (upd H3 kl (.lst (bs.map V.ref))) d = some (.dT (rows.map ent)) := keep hd2 fkl
  have hw4 : (upd H3 kl (.lst (bs.map V.ref))) w = _ := keep hw2 fkl
  generalize upd H3 kl (.lst (bs.map V.ref)) = H4 at hkP hkl E4 hw4 hd4
  walk_at "go"
  refine w_sortP hkl hkP fun rs ys ar hS far hyl hyP => ?_
  have hyl2 : ys.length ≤ 600 := by have := hkP.length; omega
  have harw : ar ≠ w := (ne_of_none hw4 far).symm
  walk_at "go"
  refine w_sfld2 (keep hw4 far) T.c_Web T.n_Web__arrows (Nat.lt_of_le_of_lt (len_put1 (len_put1 (Nat.zero_le 0))) (by decide)) ?_
  have E5 := same_mut (o := .ins A.Web dx (putF "_arrows" (.ref ar) (putF "_known" (.ref d) (putF "pages" (.int n) [])))) (E4.trans (same_new (o := .lst ys) far)) fw
  have har5 : (upd (upd H4 ar (.lst ys)) w (.ins A.Web dx (putF "_arrows" (.ref ar) (putF "_known" (.ref d) (putF "pages" (.int n) []))))) ar = some (.lst ys) := keepNe upd_same harw
  have hw5 : (upd (upd H4 ar (.lst ys)) w (.ins A.Web dx (putF "_arrows" (.ref ar) (putF "_known" (.ref d) (putF "pages" (.int n) []))))) w = some (.ins A.Web dx (putF "_arrows" (.ref ar) (putF "_known" (.ref d) (putF "pages" (.int n) [])))) := upd_same
  have hP5 : Paired (PR (upd (upd H4 ar (.lst ys)) w (.ins A.Web dx (putF "_arrows" (.ref ar) (putF "_known" (.ref d) (putF "pages" (.int n) [])))))) ys rs := (PRs.new far hyP).mono fun v r ⟨t, e, ht⟩ => ⟨t, e, keepNe ht (ne_of ht (keep hw4 far) (by intro z; cases z))⟩
  have hd5 : (upd (upd H4 ar (.lst ys)) w (.ins A.Web dx (putF "_arrows" (.ref ar) (putF "_known" (.ref d) (putF "pages" (.int n) []))))) d = some (.dT (rows.map ent)) := keepNe (keep hd4 far) nd
  generalize upd (upd H4 ar (.lst ys)) w (.ins A.Web dx (putF "_arrows" (.ref ar) (putF "_known" (.ref d) (putF "pages" (.int n) [])))) = H5 at E5 har5 hw5 hP5 hd5
  have hRs := hS.rg hR
  have lk5 : (putF "_arrows" (V.ref ar) (putF "_known" (.ref d) (putF "pages" (.int n) []))).lookup ("_arrows" : Str) = some (.ref ar) := by rw [lookup_putF, if_pos rfl]
  walk_at "go"
  refine w_fld2 hw5 T.c_Web T.n_Web__arrows lk5 ?_
  walk_at "go"
  refine ⟨n, ar, ys, rs, rfl, har5, hP5, fun r hr => ⟨(hRs.bd r hr).1, (hRs.bd r hr).2.1⟩, hyl2, by omega, n2, fun tg H6 ftg e6 htg ctg => ?_⟩
  walk_at "go"
  refine w_sfld2 (e6 _ _ hw5) T.c_Web T.n_Web__targets (Nat.lt_of_le_of_lt (len_put1 (len_put1 (len_put1 (Nat.zero_le 0)))) (by decide)) ?_
  have ntg : tg ≠ w := (ne_of_none hw5 ftg).symm
  have E7 := same_mut (o := .ins A.Web dx (putF "_targets" (.ref tg) (putF "_arrows" (.ref ar) (putF "_known" (.ref d) (putF "pages" (.int n) []))))) (E5.trans e6) fw
  have har7 : (upd H6 w (.ins A.Web dx (putF "_targets" (.ref tg) (putF "_arrows" (.ref ar) (putF "_known" (.ref d) (putF "pages" (.int n) [])))))) ar = some (.lst ys) := keepNe (e6 _ _ har5) harw
  have hw7 : (upd H6 w (.ins A.Web dx (putF "_targets" (.ref tg) (putF "_arrows" (.ref ar) (putF "_known" (.ref d) (putF "pages" (.int n) [])))))) w = some (.ins A.Web dx (putF "_targets" (.ref tg) (putF "_arrows" (.ref ar) (putF "_known" (.ref d) (putF "pages" (.int n) []))))) := upd_same
  have hP7 : Paired (PR (upd H6 w (.ins A.Web dx (putF "_targets" (.ref tg) (putF "_arrows" (.ref ar) (putF "_known" (.ref d) (putF "pages" (.int n) []))))))) ys rs := (PRs.same e6 hP5).mono fun v r ⟨t, e, ht⟩ => ⟨t, e, keepNe ht (ne_of ht (e6 _ _ hw5) (by intro z; cases z))⟩
  have hd7 : (upd H6 w (.ins A.Web dx (putF "_targets" (.ref tg) (putF "_arrows" (.ref ar) (putF "_known" (.ref d) (putF "pages" (.int n) [])))))) d = some (.dT (rows.map ent)) := keepNe (e6 _ _ hd5) nd
  have htg7 := TabAt.mutI (o := .ins A.Web dx (putF "_targets" (.ref tg) (putF "_arrows" (.ref ar) (putF "_known" (.ref d) (putF "pages" (.int n) []))))) (e6 _ _ hw5) htg
  have ctg7 : ∀ (l : Addr) (vs : List V), H0 l = some (.lst vs) → TabAt (cutL l (upd H6 w (.ins A.Web dx (putF "_targets" (.ref tg) (putF "_arrows" (.ref ar) (putF "_known" (.ref d) (putF "pages" (.int n) []))))))) tg (grps n rs) := fun l vs hl => by
    have nw : w ≠ l := (ne_of_none hl fw).symm
    rw [cutL_upd nw]
    exact TabAt.mutI (cutL_at (e6 _ _ hw5) nw) (ctg l _ (E5 _ _ hl))
  generalize upd H6 w (.ins A.Web dx (putF "_targets" (.ref tg) (putF "_arrows" (.ref ar) (putF "_known" (.ref d) (putF "pages" (.int n) []))))) = H7 at E7 har7 hw7 hP7 hd7 htg7 ctg7
  have lk7 : (putF "_targets" (V.ref tg) (putF "_arrows" (V.ref ar) (putF "_known" (.ref d) (putF "pages" (.int n) [])))).lookup ("_arrows" : Str) = some (.ref ar) := by rw [lookup_putF, if_neg (by decide +kernel), lookup_putF, if_pos rfl]
  walk_at "go"
  refine w_fld2 hw7 T.c_Web T.n_Web__arrows lk7 ?_
  walk_at "go"
  refine lcL (xs := ys) (fun Dl i H' => Same H7 H' ∧ ∃ ws, H' Dl = some (.lst ws) ∧ ws.length = i ∧ Paired (PR H') ws ((rs.map fun r => (r.2, r.1)).take i)) (fun Dl hD => ⟨same_new hD, [], upd_same, rfl, .nil⟩) (fun Dl i H' hD hi ⟨e, _⟩ => SqL.of (e _ _ har7)) ?_ ?_
  · rintro Dl i x H8 hD hx ⟨e, ws, hDl, hwl, hW⟩
    obtain ⟨r, hr, t, rfl, ht⟩ := Paired.at' hP7 hx
    have hi : i < ys.length := (List.getElem?_eq_some_iff.mp hx).1
    have ht8 := e _ _ ht
    walk_at "go"
    intro t2 ht2
    walk_at "go"
    refine ⟨same_mut (e.trans (same_new ht2)) hD, _, upd_same, by simp [hwl], ?_⟩
    rw [List.take_succ, List.getElem?_map, hr]
    exact push_row hDl hW ht2
  · rintro Dl H8 hD ⟨e, ws, hDl, hwl, hW⟩
    have hyrs := hP7.length
    rw [hyrs, List.take_of_length_le (by rw [List.length_map]; exact Nat.le_refl _)] at hW
    walk_at "go"
    refine ⟨n, Dl, ws, _, rfl, hDl, hW, fun r hr => ?_, by omega, by omega, n2, fun hd H9 fhd e9 hhd chd => ?_⟩
    · obtain ⟨y, hy, rfl⟩ := List.mem_map.mp hr
      exact ⟨(hRs.bd y hy).2.2.1, (hRs.bd y hy).2.2.2.1⟩
    · walk_at "go"
      have hw9 := e9 _ _ (e _ _ hw7)
      refine w_sfld2 hw9 T.c_Web T.n_Web__holders (Nat.lt_of_le_of_lt (len_put1 (len_put1 (len_put1 (len_put1 (Nat.zero_le 0))))) (by decide)) ?_
      have hmut := fun {p : Addr} {ls : List (List Int)} (h : TabAt H9 p ls) => TabAt.mutI (o := .ins A.Web dx (putF "_holders" (.ref hd) (putF "_targets" (.ref tg) (putF "_arrows" (.ref ar) (putF "_known" (.ref d) (putF "pages" (.int n) [])))))) hw9 h
      refine q ok rs _ hS hRs (same_mut ((E7.trans e).trans e9) fw) ⟨dx, d, ar, tg, hd, ys, rows, upd_same, keepNe (e9 _ _ (e _ _ hd7)) nd, fun r => hS.perm.mem_iff.symm, keepNe (e9 _ _ (e _ _ har7)) harw, ?_, hyl2, hmut ((htg7.same e).same e9), hmut hhd⟩ fun l vs hl => ?_
      · exact (PRs.same e9 (PRs.same e hP7)).mono fun v r ⟨t, z, ht⟩ => ⟨t, z, keepNe ht (ne_of ht hw9 (by intro z; cases z))⟩
      · have nw : w ≠ l := (ne_of_none hl fw).symm
        have hl9 := e9 _ _ (e _ _ (E7 _ _ hl))
        rw [cutL_upd nw]
        have cut := fun {p : Addr} {ls : List (List Int)} (h : TabAt (cutL l H9) p ls) => TabAt.mutI (o := .ins A.Web dx (putF "_holders" (.ref hd) (putF "_targets" (.ref tg) (putF "_arrows" (.ref ar) (putF "_known" (.ref d) (putF "pages" (.int n) [])))))) (cutL_at hw9 nw) h
        refine ⟨dx, d, ar, tg, hd, ys, rows, upd_same, keepNe (cutL_at (e9 _ _ (e _ _ hd7)) (ne_of_none (e1 _ _ hl) fd).symm) nd, fun r => hS.perm.mem_iff.symm, keepNe (cutL_at (e9 _ _ (e _ _ har7)) (ne_of_none (E4 _ _ hl) far).symm) harw, ?_, hyl2, cut (((ctg7 l vs hl).same (cutL_same e)).same (cutL_same e9)), cut (chd l _ (e _ _ (E7 _ _ hl)))⟩
        exact (PRs.same e9 (PRs.same e hP7)).mono fun v r ⟨t, z, ht⟩ => ⟨t, z, keepNe (cutL_at ht (ne_of ht hl9 (by intro z; cases z))) (ne_of ht hw9 (by intro z; cases z))⟩
end G

end
section
local macro_rules | `(tactic| walk_at "call") => `(tactic| (refine' G.w_cnt ?g1 ?_; (case g1 => walk_at "sq")))

local macro_rules | `(tactic| walk_at "call") => `(tactic| (refine' G.w_popAt ?g1 ?g2 ?g3 ?g4 ?_; (case g1 => walk_at "hp"); (case g2 => walk_at "ar"); (case g3 => walk_at "ar"); (case g4 => walk_at "ar")))

local macro_rules | `(tactic| walk_at "call") => `(tactic| (refine' G.i_whole ?_))

namespace G
open PySem L2 GX
def sp_Web_arrows (K : PySem.W.Frag) (A : CA) : Sp := fun vs H Q _ => ∃ (w : Addr) (n : Int) (rs : List (Int × Int)), vs = [.ref w] ∧ WebX A H w n rs ∧
  ∀ (us : List V) (p : Addr) (H' : Hp), H p = none → Same H H' → H' p = some (.lst us) → Paired (PR H') us rs → us.length ≤ 600 → Q (.ref p) H'
def t_Web_arrows (K : PySem.W.Frag) (A : CA) : TS :=
  (tRet (tCB (oListOf K) (tCons (tFld K (tVar 0) "_arrows") tNil)))

theorem rd_Web_arrows {K : PySem.W.Frag} {A : CA} (T : CTB K A) {vs : List V} {H : Hp} {Q : VK} {E : XK} (h : sp_Web_arrows K A vs H Q E) :
    t_Web_arrows K A { nx := fun _ H' => Q .non H', rt := Q } (start ["self"] vs) H := by
  obtain ⟨w, n, rs, rfl, hW, q⟩ := h
  obtain ⟨dx, d, ar, tg, hd, us, ks, h1, _, _, h2, h3, h4, _⟩ := hW.ex
  unfold t_Web_arrows
  walk_at "go"
  refine w_fld2 h1 T.c_Web T.n_Web__arrows web_arrows ?_
  walk_at "go"
  intro p hp
  exact q us p _ hp (same_new hp) upd_same (PRs.new hp h3) h4
theorem web_targets {n : Int} {d ar tg hd : Addr} : (webFs n d ar tg hd).lookup ("_targets" : Str) = some (.ref tg) := by
  unfold webFs
  rw [lookup_putF, if_neg (by decide +kernel), lookup_putF, if_pos rfl]
theorem web_holders {n : Int} {d ar tg hd : Addr} : (webFs n d ar tg hd).lookup ("_holders" : Str) = some (.ref hd) := by
  unfold webFs
  rw [lookup_putF, if_pos rfl]
theorem web_known {n : Int} {d ar tg hd : Addr} : (webFs n d ar tg hd).lookup ("_known" : Str) = some (.ref d) := by
  unfold webFs
  rw [lookup_putF, if_neg (by decide +kernel), lookup_putF, if_neg (by decide +kernel), lookup_putF, if_neg (by decide +kernel), lookup_putF, if_pos rfl]
theorem i_check {K : PySem.W.Frag} {A : CA} {H : Hp} {Q : VK} {E : XK} {w q dx : Addr} {fs : List (Str × V)} {n p : Int} (hw : H w = some (.ins A.Web dx fs)) (hn : fs.lookup ("pages" : Str) = some (.int n)) (hq : H q = some (.lst [.int p]))
    (bad : isOut n p = true → Raised A.NoPage "page" (.int p) H E) (good : 0 ≤ p → p < n → Q .non H) : sp_check_pages K A [.ref w, .ref q] H Q E := by
  refine ⟨w, q, dx, fs, n, [p], rfl, hw, hn, SqL.of hq, fun z hz => ?_, fun hz => ?_⟩
  · have hz1 := List.find?_some hz
    have hz2 : z = p := List.mem_singleton.mp (List.mem_of_find?_eq_some hz)
    subst hz2
    exact bad hz1
  · have h1 := List.find?_eq_none.mp hz p List.mem_cons_self
    have h2 := in_of (n := n) (z := p) (by simpa using h1)
    exact good h2.1 h2.2
theorem TabAt.get {H : Hp} {t : Addr} {n : Int} {rows : List (Int × Int)} (h : TabAt H t (grps n rows)) {p : Int} (h0 : 0 ≤ p) (h1 : p < n) : ∃ (qs : List V) (q : Addr), H t = some (.lst qs) ∧ atI qs p = some (.ref q) ∧ H q = some (.lst ((grp rows p.toNat).map V.int)) := by
  obtain ⟨qs, a, b, c⟩ := h.ex
  have hp : p.toNat < n.toNat := by omega
  have hq : p.toNat < qs.length := by
    rw [b]; unfold grps; rw [List.length_map, List.length_range]; exact hp
  refine ⟨_, qs[p.toNat], a, at_of (j := p.toNat) (by omega) (by simp [hq]), c p.toNat _ _ (List.getElem?_eq_getElem hq) ?_⟩
  unfold grps
  rw [List.getElem?_map, List.getElem?_range hp]
  rfl
def Told (A : CA) (n p : Int) (l : List Int) (H : Hp) (Q : VK) (E : XK) : Prop :=
  (isOut n p = true → Raised A.NoPage "page" (.int p) H E) ∧ (0 ≤ p → p < n → ∀ (q : Addr) (H' : Hp), H q = none → Same H H' → H' q = some (.lst (l.map V.int)) → Q (.ref q) H')
end G

end
section
local macro_rules | `(tactic| walk_at "call") => `(tactic| (refine' G.w_cnt ?g1 ?_; (case g1 => walk_at "sq")))

local macro_rules | `(tactic| walk_at "call") => `(tactic| (refine' G.w_popAt ?g1 ?g2 ?g3 ?g4 ?_; (case g1 => walk_at "hp"); (case g2 => walk_at "ar"); (case g3 => walk_at "ar"); (case g4 => walk_at "ar")))

local macro_rules | `(tactic| walk_at "call") => `(tactic| (refine' G.i_whole ?_))

namespace G
open PySem L2 GX
theorem web_noholders {n : Int} {d ar tg hd : Addr} : (webFs n d ar tg hd).lookup ("holders" : Str) = none := by
  unfold webFs
  rw [lookup_putF, if_neg (by decide +kernel), lookup_putF, if_neg (by decide +kernel), lookup_putF, if_neg (by decide +kernel), lookup_putF, if_neg (by decide +kernel), lookup_putF, if_neg (by decide +kernel)]
  rfl
theorem WebX.obj {A : CA} {H : Hp} {w : Addr} {n : Int} {rs : List (Int × Int)} (h : WebX A H w n rs) : ∃ (dx d ar tg hd : Addr), H w = some (.ins A.Web dx (webFs n d ar tg hd)) :=
  let ⟨dx, d, ar, tg, hd, _, _, h1, _⟩ := h.ex; ⟨dx, d, ar, tg, hd, h1⟩
theorem i_told {A : CA} {n p : Int} {l : List Int} {H : Hp} {Q : VK} {E : XK} (p0 : 0 ≤ p) (p1 : p < n) (k : ∀ (q : Addr) (H' : Hp), H q = none → Same H H' → H' q = some (.lst (l.map V.int)) → Q (.ref q) H') : Told A n p l H Q E :=
  ⟨fun o => (by rw [isOut_in p0 p1] at o; cases o), fun _ _ => k⟩
theorem grp_len {rs : List (Int × Int)} {k : Nat} : (grp rs k).length ≤ rs.length := by
  unfold grp
  rw [List.length_map]
  exact List.length_filter_le _ _
theorem w_reverse {H : Hp} {Q : VK} {p : Addr} {xs : List V} (h : H p = some (.lst xs)) (q : Q .non (upd H p (.lst xs.reverse))) : rReverse (.ref p) [] H Q := ⟨p, xs, rfl, rfl, h, q⟩
end G

end
section
local macro_rules | `(tactic| walk_at "call") => `(tactic| (refine' G.w_cnt ?g1 ?_; (case g1 => walk_at "sq")))

local macro_rules | `(tactic| walk_at "call") => `(tactic| (refine' G.w_popAt ?g1 ?g2 ?g3 ?g4 ?_; (case g1 => walk_at "hp"); (case g2 => walk_at "ar"); (case g3 => walk_at "ar"); (case g4 => walk_at "ar")))

local macro_rules | `(tactic| walk_at "call") => `(tactic| (refine' G.i_whole ?_))

namespace G
open PySem L2 GX
theorem RG.perm {n : Int} {rows rs : List (Int × Int)} (h : rs.Perm rows) (hR : RG n rows) : RG n rs := ⟨fun r hr => hR.bd r (h.mem_iff.mp hr), h.nodup_iff.mpr hR.nd⟩
theorem out_of {n z : Int} (h : z < 0 ∨ n ≤ z) : isOut n z = true := by
  unfold isOut
  rcases h with h | h
  · have : ¬ 0 ≤ z := by omega
    simp [this]
  · have : ¬ z < n := by omega
    simp [this]
end G

end
section
local macro_rules | `(tactic| walk_at "call") => `(tactic| (refine' G.w_cnt ?g1 ?_; (case g1 => walk_at "sq")))

local macro_rules | `(tactic| walk_at "call") => `(tactic| (refine' G.w_popAt ?g1 ?g2 ?g3 ?g4 ?_; (case g1 => walk_at "hp"); (case g2 => walk_at "ar"); (case g3 => walk_at "ar"); (case g4 => walk_at "ar")))

local macro_rules | `(tactic| walk_at "call") => `(tactic| (refine' G.i_whole ?_))

namespace G
open PySem L2 GX
/-- xs.insert(i, y) -/
theorem w_insert {H : Hp} {Q : VK} {p : Addr} {xs : List V} {i : Int} {y : V} (h : H p = some (.lst xs)) (hz : xs.length ≤ 900) (h0 : 0 ≤ i) (h1 : i < 1000000) (q : Q .non (upd H p (.lst (xs.take i.toNat ++ [y] ++ xs.drop i.toNat)))) : GX.oInsert (.ref p) [.int i, y] H Q :=
  ⟨p, xs, i, y, rfl, rfl, h, L2.small1000 (by omega), h0, by omega, q⟩
def within (xs : List Int) (rows : List (Int × Int)) : List (Int × Int) := rows.filter fun r => decide (r.1 ∈ xs) && decide (r.2 ∈ xs)
theorem within_snoc {xs : List Int} {rows : List (Int × Int)} {r : Int × Int} : within xs (rows ++ [r]) = if r.1 ∈ xs ∧ r.2 ∈ xs then within xs rows ++ [r] else within xs rows := by
  unfold within
  rw [List.filter_append]
  by_cases c : r.1 ∈ xs ∧ r.2 ∈ xs
  · rw [if_pos c]; simp [c.1, c.2]
  · rw [if_neg c]
    have : (decide (r.1 ∈ xs) && decide (r.2 ∈ xs)) = false := by
      by_cases c1 : r.1 ∈ xs
      · have c2 : ¬ r.2 ∈ xs := fun z => c ⟨c1, z⟩
        simp [c2]
      · simp [c1]
    simp [this]
theorem rg_ins {n : Int} {cur : List (Int × Int)} {r : Int × Int} {i : Nat} (h : RG n (cur.take i ++ [r] ++ cur.drop i)) : RG n cur ∧ (0 ≤ r.1 ∧ r.1 < n ∧ 0 ≤ r.2 ∧ r.2 < n ∧ r.1 ≠ r.2) ∧ r ∉ cur := by
  have p : (r :: cur).Perm (cur.take i ++ [r] ++ cur.drop i) := by
    rw [List.append_assoc]
    have := (List.perm_middle (a := r) (l₁ := cur.take i) (l₂ := cur.drop i)).symm
    rw [List.take_append_drop] at this
    exact this
  have g := G.RG.perm p h
  have nd := List.nodup_cons.mp g.nd
  exact ⟨⟨fun x hx => g.bd x (List.mem_cons_of_mem _ hx), nd.2⟩, g.bd r List.mem_cons_self, nd.1⟩
end G

end
section
local macro_rules | `(tactic| walk_at "call") => `(tactic| (refine' G.w_cnt ?g1 ?_; (case g1 => walk_at "sq")))

local macro_rules | `(tactic| walk_at "call") => `(tactic| (refine' G.w_popAt ?g1 ?g2 ?g3 ?g4 ?_; (case g1 => walk_at "hp"); (case g2 => walk_at "ar"); (case g3 => walk_at "ar"); (case g4 => walk_at "ar")))

local macro_rules | `(tactic| walk_at "call") => `(tactic| (refine' G.i_whole ?_))

namespace G
open PySem L2 GX
theorem rg_okto {n : Int} {rows : List (Int × Int)} (h : RG n rows) : ∀ i, OkTo n rows i := fun i j r _ hr => by
  refine ⟨isPtr_iff.mpr (h.bd r (List.mem_of_getElem? hr)), fun hm => ?_⟩
  obtain ⟨m, hm2⟩ := List.getElem?_of_mem hm
  have hmj : m < j := by
    have := (List.getElem?_eq_some_iff.mp hm2).1
    rw [List.length_take] at this; omega
  rw [List.getElem?_take_of_lt hmj] at hm2
  have := nd_ix h.nd hm2 hr
  omega
theorem rg_good {n : Int} {rows : List (Int × Int)} (h : RG n rows) {k : Nat} {r : Int × Int} (hr : rows[k]? = some r) : ¬ (isPtr n r.1 r.2 = false ∨ r ∈ rows.take k) := fun c => by
  have z := rg_okto h (k + 1) k r (Nat.lt_succ_self k) hr
  rcases c with c | c
  · rw [z.1] at c; cases c
  · exact z.2 c
/-- Web(n, rows) of rows that are right -/
theorem i_web {K : PySem.W.Frag} {A : CA} {H : Hp} {Q : VK} {E : XK} {x dx pq : Addr} {n : Int} {us : List V} {rows : List (Int × Int)} (hx : H x = none) (hdx : H dx = none) (nx : dx ≠ x) (hq : H pq = some (.lst us)) (hP : Paired (PR H) us rows) (hl : us.length ≤ 600) (n0 : 1 ≤ n) (n1 : n ≤ 500) (hR : RG n rows)
    (q : ∀ (rs : List (Int × Int)) (H' : Hp), SortedOf rows rs → RG n rs → Same H H' → WebX A H' x n rs → (∀ (l : Addr) (vs : List V), H l = some (.lst vs) → WebX A (cutL l H') x n rs) → Q .non H') : sp_Web_init K A [.ref x, .int n, .ref pq] (upd (upd H dx (.own x)) x (.ins A.Web dx [])) Q E :=
  ⟨H, x, dx, pq, n, us, rows, rfl, rfl, hx, hdx, nx, hq, hP, hl, n0, n1, fun _ _ hk _ hb => absurd hb (rg_good hR hk), fun _ rs H' hS hR' e hW hC => q rs H' hS hR' e hW hC⟩
end G

end
section
local macro_rules | `(tactic| walk_at "call") => `(tactic| (refine' G.w_cnt ?g1 ?_; (case g1 => walk_at "sq")))

local macro_rules | `(tactic| walk_at "call") => `(tactic| (refine' G.w_popAt ?g1 ?g2 ?g3 ?g4 ?_; (case g1 => walk_at "hp"); (case g2 => walk_at "ar"); (case g3 => walk_at "ar"); (case g4 => walk_at "ar")))

local macro_rules | `(tactic| walk_at "call") => `(tactic| (refine' G.i_whole ?_))

namespace G
open PySem L2 GX
/-- a comprehension with two fors over lists: the second list stands at an address that the first names -/
theorem lc2L {K : PySem.W.Frag} {a : Addr} {xs : List V} {t1 : TE} {tt : TT} {te : TE} {vs vs1 : List Nat} {s1 s2 : Nat} {σ : L2.St} {H : Hp} {Q : VK} (Pv : Addr → Nat → Hp → Prop) (Pw : Addr → Nat → Nat → Hp → Prop)
    (h0 : ∀ D, H D = none → Pv D 0 (upd H D (.lst []))) (hl : ∀ D i H1, H D = none → Pv D i H1 → SqL K H1 a xs)
    (w1 : ∀ x, wipe ((wipe σ vs).set s1 (some x)) vs = wipe σ vs) (w2 : ∀ x y, wipe ((wipe ((wipe σ vs).set s1 (some x)) vs1).set s2 (some y)) vs1 = wipe ((wipe σ vs).set s1 (some x)) vs1)
    (hs : ∀ D i x H1, H D = none → xs[i]? = some x → Pv D i H1 → ∃ (b : Addr) (ys : List V), (∀ R : VK, R (.ref b) H1 → t1 ((wipe σ vs).set s1 (some x)) H1 R) ∧ Pw D i 0 H1 ∧ (∀ j H4, Pw D i j H4 → SqL K H4 b ys) ∧
      (∀ j y H4, ys[j]? = some y → Pw D i j H4 → LcT tt te D (Pw D i (j + 1)) ((wipe ((wipe σ vs).set s1 (some x)) vs1).set s2 (some y)) H4) ∧ (∀ H4, Pw D i ys.length H4 → Pv D (i + 1) H4))
    (hd : ∀ D H1, H D = none → Pv D xs.length H1 → Q (.ref D) H1) : tLc2 (fun _ H R => R (Itl K a) H) (gName s1) tYes (iList K t1) (gName s2) tt te vs vs1 σ H Q := by
  intro D hD
  refine ⟨fun i m H' => i ≤ xs.length ∧ m = xs.length - i ∧ Pv D i H', ⟨_, Nat.zero_le _, rfl, h0 D hD⟩, ?_⟩
  rintro i m H' ⟨hi, rfl, p⟩
  rcases Nat.lt_or_eq_of_le hi with c | c
  · right
    obtain ⟨x, hx⟩ : ∃ x, xs[i]? = some x := ⟨_, List.getElem?_eq_getElem c⟩
    refine ⟨⟨xs, x, hl D i H' hD p, hx⟩, fun H2 => Pv D (i + 1) H2, fun H2 q => ⟨xs.length - (i + 1), by omega, by omega, rfl, q⟩, ?_⟩
    rintro y H2 ⟨rfl, hy⟩
    obtain rfl : x = y := Option.some.inj (hx.symm.trans (hy xs (hl D i _ hD p)))
    obtain ⟨b, ys, k1, k2, k3, k4, k5⟩ := hs D i x _ hD hx p
    refine And.intro (w1 x) ?_
    refine k1 _ ⟨b, rfl, ⟨ys, k3 0 _ k2⟩, ?_⟩
    refine ⟨fun j k H4 => j ≤ ys.length ∧ k = ys.length - j ∧ Pw D i j H4, ⟨_, Nat.zero_le _, rfl, k2⟩, ?_⟩
    rintro j k H4 ⟨hj, rfl, r⟩
    rcases Nat.lt_or_eq_of_le hj with c2 | c2
    · right
      obtain ⟨y, hy2⟩ : ∃ y, ys[j]? = some y := ⟨_, List.getElem?_eq_getElem c2⟩
      refine ⟨⟨ys, y, k3 j H4 r, hy2⟩, fun H5 => Pw D i (j + 1) H5, fun H5 q => ⟨ys.length - (j + 1), by omega, by omega, rfl, q⟩, ?_⟩
      rintro z H5 ⟨rfl, hz⟩
      obtain rfl : y = z := Option.some.inj (hy2.symm.trans (hz ys (k3 j _ r)))
      exact And.intro (w2 x y) (k4 j y _ hy2 r)
    · left
      subst c2
      exact ⟨⟨ys, k3 _ H4 r, Nat.le_refl _⟩, k5 H4 r⟩
  · left
    subst c
    exact ⟨⟨xs, hl D _ H' hD p, Nat.le_refl _⟩, hd D H' hD p⟩
theorem w_lc2L {K : PySem.W.Frag} {g g1 : TG} {tt tt1 : TT} {wi1 : TI} {te tz : TE} {vs vs1 : List Nat} {σ : L2.St} {H : Hp} {Q : VK} (h : tz σ H fun x H1 => ∃ a, x = .ref a ∧ (∃ xs, SqL K H1 a xs) ∧ tLc2 (fun _ H R => R (Itl K a) H) g tt wi1 g1 tt1 te vs vs1 σ H1 Q) :
    tLc2 (iList K tz) g tt wi1 g1 tt1 te vs vs1 σ H Q := h
/-- the pointers among the pages ps, page by page -/
theorem count_by : ∀ (ps : List Int) (S : Int → Bool) (rs : List (Int × Int)), ps.Nodup → (∀ p ∈ ps, 0 ≤ p) → (∀ r ∈ rs, 0 ≤ r.1) →
    (ps.flatMap fun p => (grp rs p.toNat).filter S).length = (rs.filter fun r => decide (r.1 ∈ ps) && S r.2).length
  | [], S, rs, _, _, _ => by
    have : (rs.filter fun r => decide (r.1 ∈ ([] : List Int)) && S r.2) = [] := List.filter_eq_nil_iff.mpr fun r _ h => by simp at h
    rw [this]; rfl
  | p :: ps, S, rs, nd, h0, hr => by
    obtain ⟨nd1, nd2⟩ := List.nodup_cons.mp nd
    have ih := count_by ps S rs nd2 (fun q hq => h0 q (List.mem_cons_of_mem _ hq)) hr
    have hp := h0 p List.mem_cons_self
    rw [List.flatMap_cons, List.length_append, ih]
    clear ih
    have e : ((p.toNat : Nat) : Int) = p := Int.toNat_of_nonneg hp
    unfold grp
    rw [e]
    clear hr
    induction rs with
    | nil => rfl
    | cons r rs ih2 =>
      by_cases c : r.1 = p
      · have n1 : decide (r.1 ∈ ps) = false := decide_eq_false (c ▸ nd1)
        have n2 : decide (r.1 ∈ p :: ps) = true := decide_eq_true (by rw [c]; exact List.mem_cons_self)
        rw [List.filter_cons, List.filter_cons, List.filter_cons, if_pos (decide_eq_true c), n1, n2, List.map_cons, List.filter_cons, Bool.false_and, Bool.true_and, if_neg Bool.false_ne_true]
        cases hS : S r.2
        · rw [if_neg Bool.false_ne_true, if_neg Bool.false_ne_true]; exact ih2
        · rw [if_pos (show true = true from rfl), if_pos (show true = true from rfl), List.length_cons, List.length_cons]; omega
      · have n2 : decide (r.1 ∈ p :: ps) = decide (r.1 ∈ ps) := by
          rw [Bool.eq_iff_iff, decide_eq_true_iff, decide_eq_true_iff, List.mem_cons]
          exact ⟨fun h => h.resolve_left c, Or.inr⟩
        rw [List.filter_cons, List.filter_cons, List.filter_cons, if_neg (by simp [c]), n2]
        cases (decide (r.1 ∈ ps) && S r.2)
        · rw [if_neg Bool.false_ne_true, if_neg Bool.false_ne_true]; exact ih2
        · rw [if_pos (show true = true from rfl), if_pos (show true = true from rfl), List.length_cons, List.length_cons]; omega
theorem inner_count {ps xs : List Int} {rs : List (Int × Int)} (hp : ps.Pairwise (· < ·)) (hm : ∀ k : Int, k ∈ ps ↔ k ∈ xs) (h0 : ∀ x ∈ xs, 0 ≤ x) (hr : ∀ r ∈ rs, 0 ≤ r.1) :
    (ps.flatMap fun p => (grp rs p.toNat).filter fun t => decide (t ∈ xs)).length = (within xs rs).length := by
  rw [count_by ps _ rs (hp.imp fun h => Int.ne_of_lt h) (fun p hq => h0 p ((hm p).mp hq)) hr]
  unfold within
  congr 1
  refine List.filter_congr fun r _ => ?_
  have : decide (r.1 ∈ ps) = decide (r.1 ∈ xs) := decide_eq_decide.mpr (hm r.1)
  rw [this]
theorem flat_take {α β : Type} {f : α → List β} {l : List α} {i : Nat} {x : α} (h : l[i]? = some x) : (l.take (i + 1)).flatMap f = (l.take i).flatMap f ++ f x := by
  rw [List.take_succ, h, List.flatMap_append]
  simp
theorem part_le {α β : Type} {f : α → List β} {l : List α} {i : Nat} : ((l.take i).flatMap f).length ≤ (l.flatMap f).length := by
  have e : l.flatMap f = (l.take i).flatMap f ++ (l.drop i).flatMap f := by rw [← List.flatMap_append, List.take_append_drop]
  rw [e, List.length_append]; omega
theorem partF_le {β : Type} {S : β → Bool} {g : List β} {j : Nat} : ((g.take j).filter S).length ≤ (g.filter S).length := by
  have e : g.filter S = (g.take j).filter S ++ (g.drop j).filter S := by rw [← List.filter_append, List.take_append_drop]
  rw [e, List.length_append]; omega
end G

end
section
local macro_rules | `(tactic| walk_at "call") => `(tactic| (refine' G.w_cnt ?g1 ?_; (case g1 => walk_at "sq")))

local macro_rules | `(tactic| walk_at "call") => `(tactic| (refine' G.w_popAt ?g1 ?g2 ?g3 ?g4 ?_; (case g1 => walk_at "hp"); (case g2 => walk_at "ar"); (case g3 => walk_at "ar"); (case g4 => walk_at "ar")))

local macro_rules | `(tactic| walk_at "call") => `(tactic| (refine' G.i_whole ?_))

namespace G
open PySem L2 GX
def stFs (w : Addr) (lines : Int) (lb : Addr) : List (Str × V) := putF "_blank" (.ref lb) (putF "lines" (.int lines) (putF "web" (.ref w) []))
theorem st_web {w lb : Addr} {l : Int} : (stFs w l lb).lookup ("web" : Str) = some (.ref w) := by
  unfold stFs
  rw [lookup_putF, if_neg (by decide +kernel), lookup_putF, if_neg (by decide +kernel), lookup_putF, if_pos rfl]
theorem st_blank {w lb : Addr} {l : Int} : (stFs w l lb).lookup ("_blank" : Str) = some (.ref lb) := by
  unfold stFs
  rw [lookup_putF, if_pos rfl]
theorem st_noblanks {w lb : Addr} {l : Int} : (stFs w l lb).lookup ("blanks" : Str) = none := by
  unfold stFs
  rw [lookup_putF, if_neg (by decide +kernel), lookup_putF, if_neg (by decide +kernel), lookup_putF, if_neg (by decide +kernel)]
  rfl
structure StAt (A : CA) (H : Hp) (st w : Addr) (n : Int) (rs : List (Int × Int)) (lines : Int) (bs : List Int) : Prop where
  ex : ∃ (dx lb : Addr), H st = some (.ins A.Standing dx (stFs w lines lb)) ∧ H lb = some (.lst (bs.map V.int))
  web : WebX A H w n rs
theorem StAt.same {A : CA} {H H' : Hp} {st w : Addr} {n lines : Int} {rs : List (Int × Int)} {bs : List Int} (e : Same H H') (h : StAt A H st w n rs lines bs) : StAt A H' st w n rs lines bs :=
  ⟨let ⟨dx, lb, h1, h2⟩ := h.ex; ⟨dx, lb, e _ _ h1, e _ _ h2⟩, h.web.same e⟩
/-- a new standing: it and its list of blank lines came behind H -/
structure StNew (A : CA) (H H' : Hp) (st w : Addr) (lines : Int) (bs : List Int) : Prop where
  ex : ∃ (dx lb : Addr), H' st = some (.ins A.Standing dx (stFs w lines lb)) ∧ H' lb = some (.lst (bs.map V.int)) ∧ H lb = none
  no : H st = none
theorem StNew.base {A : CA} {H0 H H' : Hp} {st w : Addr} {lines : Int} {bs : List Int} (e : Same H0 H) (h : StNew A H H' st w lines bs) : StNew A H0 H' st w lines bs :=
  ⟨let ⟨dx, lb, a, b, c⟩ := h.ex; ⟨dx, lb, a, b, e.free c⟩, e.free h.no⟩
theorem StNew.same {A : CA} {H0 H H' : Hp} {st w : Addr} {lines : Int} {bs : List Int} (e : Same H H') (h : StNew A H0 H st w lines bs) : StNew A H0 H' st w lines bs :=
  ⟨let ⟨dx, lb, a, b, c⟩ := h.ex; ⟨dx, lb, e _ _ a, e _ _ b, c⟩, h.no⟩
/-- without a list that stood before -/
theorem StNew.cut {A : CA} {H0 H : Hp} {st w l : Addr} {lines : Int} {bs : List Int} {o : HO} (hl : H0 l = some o) (h : StNew A H0 H st w lines bs) : StNew A H0 (cutL l H) st w lines bs :=
  ⟨let ⟨dx, lb, a, b, c⟩ := h.ex; ⟨dx, lb, cutL_at a (ne_of_none hl h.no).symm, cutL_at b (ne_of_none hl c).symm, c⟩, h.no⟩
theorem StNew.at' {A : CA} {H0 H : Hp} {st w : Addr} {n lines : Int} {rs : List (Int × Int)} {bs : List Int} (h : StNew A H0 H st w lines bs) (hW : WebX A H w n rs) : StAt A H st w n rs lines bs :=
  ⟨let ⟨dx, lb, a, b, _⟩ := h.ex; ⟨dx, lb, a, b⟩, hW⟩
structure CTS (K : PySem.W.Frag) (A : CA) : Prop where
  b : CTB K A
  c_Standing : Cls K A.Standing
  n_Standing__blank : NoAttr K A.Standing "_blank"
  n_Standing_lines : NoAttr K A.Standing "lines"
  n_Standing_web : NoAttr K A.Standing "web"
  e_IS : OexC K A.InvalidStanding
  f_IS : PySem.W.findIn K (.ref A.InvalidStanding) "page" = some none
theorem st_lines {w lb : Addr} {l : Int} : (stFs w l lb).lookup ("lines" : Str) = some (.int l) := by
  unfold stFs
  rw [lookup_putF, if_neg (by decide +kernel), lookup_putF, if_pos rfl]
/-- the first number that is out of bounds -/
def badK (lines : Int) (bs : List Int) (k : Nat) : Prop := ∃ b, bs[k]? = some b ∧ (b < 0 ∨ lines < b) ∧ ∀ (j : Nat) (c : Int), j < k → bs[j]? = some c → 0 ≤ c ∧ c ≤ lines
def sp_Standing_init (K : PySem.W.Frag) (A : CA) : Sp := fun vs H Q E => ∃ (H0 : Hp) (st dx w pb : Addr) (n lines : Int) (rs : List (Int × Int)) (bs : List Int), vs = [.ref st, .ref w, .int lines, .ref pb] ∧ H = upd (upd H0 dx (.own st)) st (.ins A.Standing dx []) ∧ H0 st = none ∧ H0 dx = none ∧ dx ≠ st ∧ WebX A H0 w n rs ∧ 1 ≤ n ∧ n ≤ 500 ∧ H0 pb = some (.lst (bs.map V.int)) ∧ bs.length ≤ 1000 ∧
  (bs.length ≠ n.toNat → Raised A.InvalidStanding "page" .non H0 E) ∧ (bs.length = n.toNat → ∀ k : Nat, badK lines bs k → Raised A.InvalidStanding "page" (.int (k : Nat)) H0 E) ∧
  (BK lines n.toNat bs → ∀ (H' : Hp), StNew A H0 H' st w lines bs → Same H0 H' → StAt A H' st w n rs lines bs → Q .non H')
def t_Standing_init (K : PySem.W.Frag) (A : CA) (E : XK) : TS :=
  (tSeq (tIfS (tTest (tOp rNe (tCB (rLenQ K) (tCons (tVar 3) tNil)) (tFld K (tVar 1) "pages"))) (GX.tRaiseO A.InvalidStanding (GX.sp_err K A.InvalidStanding "page") E (tCons (tC .non) tNil)) tNext)
  (tSeq (tFor (iEnum K (tCons (tVar 3) tNil)) (gTup K 2 (gCons (gName 4) (gCons (gName 5) gNil)))
  (tIfS (tNot (tTest (tChain oLe oLe (tC (.int 0)) (tVar 5) (tVar 2)))) (GX.tRaiseO A.InvalidStanding (GX.sp_err K A.InvalidStanding "page") E (tCons (tVar 4) tNil)) tNext))
  (tSeq (sFld K (tVar 0) (tVar 1) "web")
  (tSeq (sFld K (tVar 0) (tVar 2) "lines")
  (sFld K (tVar 0) (tCB (oListOf K) (tCons (tVar 3) tNil)) "_blank")))))

theorem rd_Standing_init {K : PySem.W.Frag} {A : CA} (T : CTS K A) {vs : List V} {H : Hp} {Q : VK} {E : XK} (h : sp_Standing_init K A vs H Q E) :
    t_Standing_init K A E { nx := fun _ H' => Q .non H', rt := Q } (start ["self", "web", "lines", "blank", "page", "number"] vs) H := by
  obtain ⟨H0, st, dx, w, pb, n, lines, rs, bs, rfl, rfl, fst_, fdx, ndx, hW, n1, n2, hb, hbl, kL, kB, q⟩ := h
  have e0 : Same H0 (upd (upd H0 dx (.own st)) st (.ins A.Standing dx [])) := same_mut (same_new fdx) fst_
  have hst : (upd (upd H0 dx (.own st)) st (.ins A.Standing dx [])) st = some (.ins A.Standing dx []) := upd_same
  generalize upd (upd H0 dx (.own st)) st (.ins A.Standing dx []) = H1 at e0 hst
  have hb1 := e0 _ _ hb
  obtain ⟨dw, d, ar, tg, hd, h1⟩ := (hW.same e0).obj
  unfold t_Standing_init
  walk_at "go"
  refine w_fld2 h1 T.b.c_Web T.b.n_Web_pages web_pages ?_
  walk_at "go"
  rw [List.length_map]
  refine w_iteN (fun c => ?_) (fun c => ?_)
  · refine w_raiseO (v := .non) (H1 := H1) T.e_IS T.f_IS (fun Q q => by walk_at "go"; exact q) (Raised.at e0 (kL (by omega)))
  have hlen : bs.length = n.toNat := by omega
  walk_at "go"
  refine ⟨pb, _, rfl, SqL.of hb1, ?_⟩
  refine forE (xs := bs.map V.int) (fun i σ H' => ∃ k4 k5 : Option V, σ = [some (.ref st), some (.ref w), some (.int lines), some (.ref pb), k4, k5] ∧ Same H1 H' ∧ ∀ (j : Nat) (c : Int), j < i → bs[j]? = some c → 0 ≤ c ∧ c ≤ lines) ?_ ?_ ?_ ?_
  · exact ⟨none, none, rfl, Same.refl _, fun j c hj => absurd hj (Nat.not_lt_zero j)⟩
  · rintro i σ H2 _ ⟨k4, k5, rfl, e, _⟩
    exact SqL.of (e _ _ hb1)
  · rintro i x Tt σ H2 hx ⟨k4, k5, rfl, e, ok⟩ hT
    obtain ⟨z, hz, rfl⟩ : ∃ z, bs[i]? = some z ∧ V.int z = x := by
      rw [List.getElem?_map] at hx
      cases hbi : bs[i]? with
      | none => rw [hbi] at hx; cases hx
      | some z => rw [hbi] at hx; exact ⟨z, rfl, Option.some.inj hx⟩
    have ok' : 0 ≤ z → z ≤ lines → ∀ (j : Nat) (c : Int), j < i + 1 → bs[j]? = some c → 0 ≤ c ∧ c ≤ lines := fun z0 z1 j c hj hc => by
      rcases Nat.lt_or_ge j i with h | h
      · exact ok j c h hc
      · have : j = i := by omega
        subst this
        rw [hz] at hc
        cases hc
        exact ⟨z0, z1⟩
    have eT := same_new (o := .tup [V.int (i : Nat), .int z]) hT
    have bad : (z < 0 ∨ lines < z) → ∀ H3 : Hp, Same H1 H3 → Raised A.InvalidStanding "page" (.int (i : Nat)) H3 E := fun c H3 e3 => Raised.at (e0.trans e3) (kB hlen i ⟨z, hz, c, ok⟩)
    walk_at "go"
    refine w_iteD (fun c => ?_) (fun c => ?_)
    · walk_at "go"
      by_cases c2 : z ≤ lines
      · rw [decide_eq_true c2]
        refine w_iteF ?_
        walk_at "go"
        exact ⟨_, _, rfl, e.trans eT, ok' c c2⟩
      · rw [decide_eq_false c2]
        refine w_iteNF ?_
        exact w_raiseO (v := .int (i : Nat)) T.e_IS T.f_IS (fun Q q => by walk_at "go"; exact q) (bad (.inr (by omega)) _ (e.trans eT))
    · walk_at "go"
      exact w_raiseO (D := { nx := fun _ _ => True, rt := fun _ _ => True }) (v := .int (i : Nat)) T.e_IS T.f_IS (fun Q q => by walk_at "go"; exact q) (bad (.inl (by omega)) _ (e.trans eT))
  · rintro σ H2 ⟨k4, k5, rfl, e, ok⟩
    have hB : BK lines n.toNat bs := ⟨hlen, fun b hb => by
      obtain ⟨j, hj⟩ := List.getElem?_of_mem hb
      exact ok j b (by rw [List.length_map]; exact (List.getElem?_eq_some_iff.mp hj).1) hj⟩
    have hst2 := e _ _ hst
    walk_at "go"
    refine w_sfld2 hst2 T.c_Standing T.n_Standing_web (by decide) ?_
    walk_at "go"
    refine w_sfld2 upd_same T.c_Standing T.n_Standing_lines (Nat.lt_of_le_of_lt (len_put1 (Nat.zero_le 0)) (by decide)) ?_
    have nbs : pb ≠ st := ne_of_none hb fst_
    have hb3 : (upd (upd H2 st (.ins A.Standing dx (putF "web" (.ref w) []))) st (.ins A.Standing dx (putF "lines" (.int lines) (putF "web" (.ref w) [])))) pb = some (.lst (bs.map V.int)) := keepNe (keepNe (e _ _ hb1) nbs) nbs
    have E3 := same_mut (o := .ins A.Standing dx (putF "lines" (.int lines) (putF "web" (.ref w) []))) (same_mut (o := .ins A.Standing dx (putF "web" (.ref w) [])) (e0.trans e) fst_) fst_
    have hst3 : (upd (upd H2 st (.ins A.Standing dx (putF "web" (.ref w) []))) st (.ins A.Standing dx (putF "lines" (.int lines) (putF "web" (.ref w) [])))) st = some (.ins A.Standing dx (putF "lines" (.int lines) (putF "web" (.ref w) []))) := upd_same
    generalize upd (upd H2 st (.ins A.Standing dx (putF "web" (.ref w) []))) st (.ins A.Standing dx (putF "lines" (.int lines) (putF "web" (.ref w) []))) = H3 at hb3 E3 hst3
    walk_at "go"
    intro lb hlb
    walk_at "go"
    have nlb : lb ≠ st := (ne_of_none hst3 hlb).symm
    refine w_sfld2 (keep hst3 hlb) T.c_Standing T.n_Standing__blank (Nat.lt_of_le_of_lt (len_put1 (len_put1 (Nat.zero_le 0))) (by decide)) ?_
    have EE := same_mut (o := .ins A.Standing dx (stFs w lines lb)) (E3.trans (same_new (o := .lst (bs.map V.int)) hlb)) fst_
    exact q hB _ ⟨⟨dx, lb, upd_same, keepNe upd_same nlb, E3.free hlb⟩, fst_⟩ EE ⟨⟨dx, lb, upd_same, keepNe upd_same nlb⟩, hW.same EE⟩
def sp_Standing_blanks (K : PySem.W.Frag) (A : CA) : Sp := fun vs H Q _ => ∃ (st w : Addr) (n lines : Int) (rs : List (Int × Int)) (bs : List Int), vs = [.ref st] ∧ StAt A H st w n rs lines bs ∧
  ∀ (p : Addr) (H' : Hp), H p = none → Same H H' → H' p = some (.lst (bs.map V.int)) → Q (.ref p) H'
def t_Standing_blanks (K : PySem.W.Frag) (A : CA) : TS :=
  (tRet (tCB (oListOf K) (tCons (tFld K (tVar 0) "_blank") tNil)))

theorem rd_Standing_blanks {K : PySem.W.Frag} {A : CA} (T : CTS K A) {vs : List V} {H : Hp} {Q : VK} {E : XK} (h : sp_Standing_blanks K A vs H Q E) :
    t_Standing_blanks K A { nx := fun _ H' => Q .non H', rt := Q } (start ["self"] vs) H := by
  obtain ⟨st, w, n, lines, rs, bs, rfl, hS, q⟩ := h
  obtain ⟨dx, lb, h1, h2⟩ := hS.ex
  unfold t_Standing_blanks
  walk_at "go"
  refine w_fld2 h1 T.c_Standing T.n_Standing__blank st_blank ?_
  walk_at "go"
  intro p hp
  exact q p _ hp (same_new hp) upd_same
end G

end
section
local macro_rules | `(tactic| walk_at "call") => `(tactic| (refine' G.w_cnt ?g1 ?_; (case g1 => walk_at "sq")))

local macro_rules | `(tactic| walk_at "call") => `(tactic| (refine' G.w_popAt ?g1 ?g2 ?g3 ?g4 ?_; (case g1 => walk_at "hp"); (case g2 => walk_at "ar"); (case g3 => walk_at "ar"); (case g4 => walk_at "ar")))

local macro_rules | `(tactic| walk_at "call") => `(tactic| (refine' G.i_whole ?_))

namespace G
open PySem L2 GX
def sp_Standing_blank_of (K : PySem.W.Frag) (A : CA) : Sp := fun vs H Q E => ∃ (st w : Addr) (n L p : Int) (rs : List (Int × Int)) (bs : List Int), vs = [.ref st, .int p] ∧ StAt A H st w n rs L bs ∧ BK L n.toNat bs ∧ 1 ≤ n ∧ n ≤ 500 ∧
  (isOut n p = true → Raised A.NoPage "page" (.int p) H E) ∧ (0 ≤ p → p < n → ∀ H', Same H H' → Q (.int (bs.getD p.toNat 0)) H')
def t_Standing_blank_of (K : PySem.W.Frag) (A : CA) (E : XK) : TS :=
  (tSeq (tDrop (tCall (sp_check_pages K A) [] E (tCons (tFld K (tVar 0) "web") (tCons (tLst (tCons (tVar 1) tNil)) tNil))))
  (tRet (tOp (rIxL K) (tFld K (tVar 0) "_blank") (tVar 1))))

theorem rd_Standing_blank_of {K : PySem.W.Frag} {A : CA} (T : CTS K A) {vs : List V} {H : Hp} {Q : VK} {E : XK} (h : sp_Standing_blank_of K A vs H Q E) :
    t_Standing_blank_of K A E { nx := fun _ H' => Q .non H', rt := Q } (start ["self", "page"] vs) H := by
  obtain ⟨st, w, n, L, p, rs, bs, rfl, hS, hB, n0, n1, k1, k2⟩ := h
  obtain ⟨dx, lb, h1, h2⟩ := hS.ex
  obtain ⟨dw, d0, ar, tg, hd0, g1⟩ := hS.web.obj
  unfold t_Standing_blank_of
  walk_at "go"
  refine w_fld2 h1 T.c_Standing T.n_Standing_web st_web ?_
  walk_at "go"
  intro l1 hl1
  have e1 := same_new (o := .lst [V.int p]) hl1
  have gl1 : (upd H l1 (.lst [V.int p])) l1 = some (.lst ([p].map V.int)) := upd_same
  generalize upd H l1 (.lst [V.int p]) = H1 at e1 gl1
  walk_at "go"
  refine ⟨w, l1, dw, _, n, [p], rfl, e1 _ _ g1, web_pages, SqL.of gl1, fun z hz => ?_, fun hz => ?_⟩
  · have c : isOut n p = true ∧ z = p := by
      rw [List.find?_cons] at hz
      cases o : isOut n p with
      | true => rw [o] at hz; exact ⟨rfl, (Option.some.inj hz).symm⟩
      | false => rw [o] at hz; cases hz
    rw [c.2]
    exact Raised.at e1 (k1 c.1)
  · have pb : 0 ≤ p ∧ p < n := in_of (by simpa using List.find?_eq_none.mp hz p List.mem_cons_self)
    obtain ⟨b, b1, b2, _, _⟩ := hB.get (k := p) pb.1 (by omega)
    have bd : bs.getD p.toNat 0 = b := by rw [List.getD_eq_getElem?_getD, b1]; rfl
    have lbH := e1 _ _ h2
    walk_at "go"
    refine w_fld2 (e1 _ _ h1) T.c_Standing T.n_Standing__blank st_blank ?_
    walk_at "go"
    have z := k2 pb.1 pb.2 H1 e1
    rw [bd] at z
    exact z
end G

end
section
/-! ### owners: the heap -/
namespace G
open PySem L2
theorem valV_drop {κ : Type} [DecidableEq κ] (k j : κ) : ∀ kvs : List (κ × V), valV (dropK kvs k) j = if j = k then none else valV kvs j
  | [] => by rw [show dropK ([] : List (κ × V)) k = [] from rfl, valV_nil, ite_self]
  | p :: r => by
    have ih := valV_drop k j r
    by_cases e : p.1 = k
    · rw [dropK_pos e, ih]
      by_cases c : j = k
      · rw [if_pos c, if_pos c]
      · rw [if_neg c, if_neg c, valV_neg (fun z => c (z.symm.trans e))]
    · rw [dropK_neg e]
      by_cases c : p.1 = j
      · rw [valV_pos c, valV_pos c, if_neg (fun z => e (c.trans z))]
      · rw [valV_neg c, valV_neg c, ih]
theorem valV_in {κ : Type} [DecidableEq κ] {kvs : List (κ × V)} {k : κ} {v : V} (h : valV kvs k = some v) : (k, v) ∈ kvs := by
  unfold valV at h
  obtain ⟨p, hp, e⟩ := Option.map_eq_some_iff.mp h
  have e1 : p.1 = k := by simpa using List.find?_some hp
  have := List.mem_of_find?_eq_some hp
  rw [← e1, ← e]; exact this
theorem valV_mem' {κ : Type} [DecidableEq κ] : ∀ {kvs : List (κ × V)} {k : κ} {v : V}, (kvs.map Prod.fst).Nodup → (k, v) ∈ kvs → valV kvs k = some v
  | [], _, _, _, h => nomatch h
  | p :: r, k, v, hn, h => by
    rw [List.map_cons, List.nodup_cons] at hn
    rcases List.mem_cons.mp h with e | e
    · rw [← e]; exact valV_pos rfl
    · rw [valV_neg (fun z => hn.1 (by rw [z]; exact List.mem_map.mpr ⟨(k, v), e, rfl⟩))]
      exact valV_mem' hn.2 e
theorem nd_le {α : Type} [DecidableEq α] : ∀ {l m : List α}, l.Nodup → (∀ x ∈ l, x ∈ m) → l.length ≤ m.length
  | [], _, _, _ => Nat.zero_le _
  | a :: l, m, hn, h => by
    rw [List.nodup_cons] at hn
    have ha := h a List.mem_cons_self
    have := nd_le (m := m.erase a) hn.2 fun x hx => (List.mem_erase_of_ne (fun z => hn.1 (by rw [← z]; exact hx))).mpr (h x (List.mem_cons_of_mem _ hx))
    rw [List.length_erase_of_mem ha] at this
    have := List.length_pos_of_mem ha
    rw [List.length_cons]; omega
theorem nd_put {κ : Type} [DecidableEq κ] {kvs : List (κ × V)} {k : κ} {v : V} (h : (kvs.map Prod.fst).Nodup) : ((putK kvs k v).map Prod.fst).Nodup := by
  unfold putK
  split
  · rw [List.map_map]
    have e : (Prod.fst ∘ fun kv : κ × V => if kv.1 = k then (kv.1, v) else kv) = Prod.fst := funext fun kv => by
      show (if kv.1 = k then (kv.1, v) else kv).1 = kv.1
      split <;> rfl
    rw [e]; exact h
  · next c =>
    rw [List.map_append]
    refine List.nodup_append.mpr ⟨h, List.nodup_cons.mpr ⟨List.not_mem_nil, List.nodup_nil⟩, fun a ha b hb => ?_⟩
    obtain ⟨kv, hkv, rfl⟩ := List.mem_map.mp ha
    have hb2 : b = k := by simpa using hb
    rw [hb2]
    intro z
    exact c (List.any_eq_true.mpr ⟨kv, hkv, decide_eq_true z⟩)
theorem putK_in {κ : Type} [DecidableEq κ] {kvs : List (κ × V)} {k : κ} {v : V} {e : κ × V} (h : e ∈ putK kvs k v) : e.1 = k ∨ ∃ e' ∈ kvs, e'.1 = e.1 := by
  unfold putK at h
  split at h
  · obtain ⟨y, hy, z⟩ := List.mem_map.mp h
    split at z
    · next c => left; rw [← z]; exact c
    · exact .inr ⟨y, hy, by rw [← z]⟩
  · rcases List.mem_append.mp h with q | q
    · exact .inr ⟨e, q, rfl⟩
    · left; rw [List.mem_singleton.mp q]
theorem putK_len {κ : Type} [DecidableEq κ] {kvs : List (κ × V)} {k : κ} {v w : V} (h : valV kvs k = some w) : (putK kvs k v).length = kvs.length := by
  unfold putK
  rw [if_pos (by rw [valV_any, h]; rfl), List.length_map]
/-- the other end -/
def oth (r : Int × Int) (k : Int) : Int := if k = r.1 then r.2 else r.1
structure OG where
  fr : Addr
  ow : Addr
  on : Addr
  D : Int → Addr
  ps : List Int
def OG.has (g : OG) (b : Addr) : Prop := b = g.fr ∨ b = g.ow ∨ b = g.on ∨ ∃ k ∈ g.ps, b = g.D k
def owFs (g : OG) : List (Str × V) := putF "_owner" (.ref g.on) (putF "_owned" (.ref g.ow) (putF "_free" (.ref g.fr) []))
theorem ow_owner {g : OG} : (owFs g).lookup ("_owner" : Str) = some (.ref g.on) := by
  unfold owFs
  rw [lookup_putF, if_pos rfl]
theorem ow_owned {g : OG} : (owFs g).lookup ("_owned" : Str) = some (.ref g.ow) := by
  unfold owFs
  rw [lookup_putF, if_neg (by decide +kernel), lookup_putF, if_pos rfl]
theorem ow_free {g : OG} : (owFs g).lookup ("_free" : Str) = some (.ref g.fr) := by
  unfold owFs
  rw [lookup_putF, if_neg (by decide +kernel), lookup_putF, if_neg (by decide +kernel), lookup_putF, if_pos rfl]
/-- the dict of a page's pointers -/
structure PG (W : Int × Int → Option Int) (k : Int) (kvs : List (List Key × V)) : Prop where
  val : ∀ r, valV kvs (key r) = if W r = some k then some (.int (oth r k)) else none
  keys : ∀ e ∈ kvs, ∃ r, e.1 = key r
  nd : (kvs.map Prod.fst).Nodup
theorem PG.len {W : Int × Int → Option Int} {k : Int} {kvs : List (List Key × V)} {ar : List (Int × Int)} (h : PG W k kvs) (ha : ∀ r, W r ≠ none → r ∈ ar) : kvs.length ≤ ar.length := by
  have := nd_le (m := ar.map key) h.nd fun x hx => by
    obtain ⟨e, he, rfl⟩ := List.mem_map.mp hx
    obtain ⟨r, er⟩ := h.keys e he
    have z := valV_mem' h.nd (k := e.1) (v := e.2) he
    rw [er, h.val] at z
    split at z
    · next c => rw [er]; exact List.mem_map.mpr ⟨r, ha r (by rw [c]; exact fun z => nomatch z), rfl⟩
    · cases z
  rw [List.length_map, List.length_map] at this
  exact this
structure OwnAt (A : CA) (H : Hp) (o : Addr) (g : OG) (F : Int → Int) (W : Int × Int → Option Int) (ar : List (Int × Int)) : Prop where
  ob : ∃ dx, H o = some (.ins A.Owners dx (owFs g))
  fr : ∃ kf : List (Key × V), H g.fr = some (.dK kf) ∧ (∀ k : Int, valV kf (Sum.inl k) = if k ∈ g.ps then some (.int (F k)) else none) ∧ kf.length ≤ g.ps.length
  ow : ∃ ko : List (Key × V), H g.ow = some (.dK ko) ∧ (∀ k ∈ g.ps, valV ko (Sum.inl k) = some (.ref (g.D k))) ∧ ko.length ≤ g.ps.length
  on : ∃ kn : List (List Key × V), H g.on = some (.dT kn) ∧ (∀ r, valV kn (key r) = (W r).map V.int) ∧ kn.length ≤ ar.length
  ds : ∀ k ∈ g.ps, ∃ kvs, H (g.D k) = some (.dT kvs) ∧ PG W k kvs
  n1 : g.fr ≠ g.ow
  n2 : ∀ k ∈ g.ps, g.D k ≠ g.on
  n3 : ∀ k ∈ g.ps, ∀ j ∈ g.ps, g.D k = g.D j → k = j
  ar1 : ∀ r, W r ≠ none → r ∈ ar
  len : ar.length ≤ 600 ∧ g.ps.length ≤ 1000
/-- all but the owners' dicts stays -/
def Kept (g : OG) (H H' : Hp) : Prop := ∀ b ob, ¬ g.has b → H b = some ob → H' b = some ob
theorem Kept.rfl {g : OG} {H : Hp} : Kept g H H := fun _ _ _ e => e
theorem Kept.trans {g : OG} {H H1 H2 : Hp} (a : Kept g H H1) (b : Kept g H1 H2) : Kept g H H2 := fun c o n e => b c o n (a c o n e)
theorem Kept.of {g : OG} {H H' : Hp} (e : Same H H') : Kept g H H' := fun _ _ _ h => e _ _ h
theorem Kept.mut {g : OG} {H H' : Hp} {p : Addr} {o : HO} (k : Kept g H H') (h : g.has p) : Kept g H (upd H' p o) := fun b ob n e => by
  rw [upd_ne (fun z => n (by rw [z]; exact h))]; exact k b ob n e
theorem OwnAt.kinds {A : CA} {H : Hp} {o : Addr} {g : OG} {F : Int → Int} {W : Int × Int → Option Int} {ar : List (Int × Int)} (h : OwnAt A H o g F W ar) {b : Addr} (hb : g.has b) : (∃ kf, H b = some (.dK kf)) ∨ ∃ kt, H b = some (.dT kt) := by
  rcases hb with e | e | e | ⟨k, hk, e⟩
  · obtain ⟨kf, a, _⟩ := h.fr; exact .inl ⟨kf, by rw [e]; exact a⟩
  · obtain ⟨kf, a, _⟩ := h.ow; exact .inl ⟨kf, by rw [e]; exact a⟩
  · obtain ⟨kf, a, _⟩ := h.on; exact .inr ⟨kf, by rw [e]; exact a⟩
  · obtain ⟨kf, a, _⟩ := h.ds k hk; exact .inr ⟨kf, by rw [e]; exact a⟩
theorem OwnAt.tup {A : CA} {H : Hp} {o q : Addr} {g : OG} {F : Int → Int} {W : Int × Int → Option Int} {ar : List (Int × Int)} {xs : List V} (h : OwnAt A H o g F W ar) (hq : H q = some (.tup xs)) : ¬ g.has q := fun z => by
  rcases h.kinds z with ⟨k, e⟩ | ⟨k, e⟩ <;> rw [hq] at e <;> cases e
theorem OwnAt.ins {A : CA} {H : Hp} {o q : Addr} {g : OG} {F : Int → Int} {W : Int × Int → Option Int} {ar : List (Int × Int)} {C dx : Addr} {fs : List (Str × V)} (h : OwnAt A H o g F W ar) (hq : H q = some (.ins C dx fs)) : ¬ g.has q := fun z => by
  rcases h.kinds z with ⟨k, e⟩ | ⟨k, e⟩ <;> rw [hq] at e <;> cases e
theorem OwnAt.same {A : CA} {H H' : Hp} {o : Addr} {g : OG} {F : Int → Int} {W : Int × Int → Option Int} {ar : List (Int × Int)} (e : Same H H') (h : OwnAt A H o g F W ar) : OwnAt A H' o g F W ar where
  ob := let ⟨d, a⟩ := h.ob; ⟨d, e _ _ a⟩
  fr := let ⟨d, a, b⟩ := h.fr; ⟨d, e _ _ a, b⟩
  ow := let ⟨d, a, b⟩ := h.ow; ⟨d, e _ _ a, b⟩
  on := let ⟨d, a, b⟩ := h.on; ⟨d, e _ _ a, b⟩
  ds := fun k hk => let ⟨d, a, b⟩ := h.ds k hk; ⟨d, e _ _ a, b⟩
  n1 := h.n1
  n2 := h.n2
  n3 := h.n3
  ar1 := h.ar1
  len := h.len
theorem w_dp {td ty tv : TE} {D : Ends} {σ : L2.St} {H : Hp} (h : tv σ H fun v H1 => td σ H1 fun x H2 => ty σ H2 fun y H3 => ∃ a H4, x = V.ref a ∧ DPut H3 a y v H4 ∧ D.nx σ H4) : sDPut td ty tv D σ H := h
theorem w_dg {td ty : TE} {σ : L2.St} {H : Hp} {Q : VK} (h : td σ H fun x H1 => ty σ H1 fun y H2 => ∃ a v, x = V.ref a ∧ DGet H2 a y (some v) ∧ Q v H2) : tDGet td ty σ H Q := h
theorem w_da {td ty tv : TE} {rd : V → V → Hp → VK → Prop} {D : Ends} {σ : L2.St} {H : Hp} (h : td σ H fun x H1 => ty σ H1 fun y H2 => ∃ a v, x = V.ref a ∧ DGet H2 a y (some v) ∧ tv σ H2 fun y2 H3 => rd v y2 H3 fun z H4 => ∃ H5, DPut H4 a y z H5 ∧ D.nx σ H5) : sDAug td ty tv rd D σ H := h
theorem w_dgK {H : Hp} {Q : V → Prop} {a : Addr} {kvs : List (Key × V)} {k : Int} {v : V} (h : H a = some (.dK kvs)) (e : valV kvs (Sum.inl k) = some v) (q : Q v) : ∃ (b : Addr) (v' : V), V.ref a = V.ref b ∧ DGet H b (.int k) (some v') ∧ Q v' :=
  ⟨a, v, rfl, by rw [← e]; exact DGet.k (k := Sum.inl k) h, q⟩
theorem w_dgT {H : Hp} {Q : V → Prop} {a q : Addr} {kvs : List (List Key × V)} {r : Int × Int} {v : V} (h : H a = some (.dT kvs)) (hq : H q = some (.tup [.int r.1, .int r.2])) (e : valV kvs (key r) = some v) (k : Q v) : ∃ (b : Addr) (v' : V), V.ref a = V.ref b ∧ DGet H b (.ref q) (some v') ∧ Q v' :=
  ⟨a, v, rfl, by rw [← e]; exact DGet.t (k := key r) h hq, k⟩
theorem w_dpK {H : Hp} {N : Hp → Prop} {a : Addr} {kvs : List (Key × V)} {k : Int} {v : V} (h : H a = some (.dK kvs)) (hl : kvs.length ≤ 1000) (q : N (upd H a (.dK (putK kvs (Sum.inl k) v)))) : ∃ (b : Addr) (H4 : Hp), V.ref a = V.ref b ∧ DPut H b (.int k) v H4 ∧ N H4 :=
  ⟨a, _, rfl, DPut.k (k := Sum.inl k) h (by rw [sizeLine_eq]; omega), q⟩
theorem w_dpT {H : Hp} {N : Hp → Prop} {a q : Addr} {kvs : List (List Key × V)} {r : Int × Int} {v : V} (h : H a = some (.dT kvs)) (hq : H q = some (.tup [.int r.1, .int r.2])) (hl : kvs.length ≤ 1000) (k : N (upd H a (.dT (putK kvs (key r) v)))) :
    ∃ (b : Addr) (H4 : Hp), V.ref a = V.ref b ∧ DPut H b (.ref q) v H4 ∧ N H4 :=
  ⟨a, _, rfl, DPut.t (k := key r) h hq (by rw [sizeLine_eq]; omega), k⟩
end G

end
section
local macro_rules | `(tactic| walk_at "call") => `(tactic| (refine' G.w_cnt ?g1 ?_; (case g1 => walk_at "sq")))

local macro_rules | `(tactic| walk_at "call") => `(tactic| (refine' G.w_popAt ?g1 ?g2 ?g3 ?g4 ?_; (case g1 => walk_at "hp"); (case g2 => walk_at "ar"); (case g3 => walk_at "ar"); (case g4 => walk_at "ar")))

local macro_rules | `(tactic| walk_at "call") => `(tactic| first | refine' G.w_dp ?_ | refine' G.w_dg ?_ | refine' G.w_da ?_)

/-! ### Owners: __init__, enter, owner_of, hand_over -/
namespace G
open PySem L2
structure CTW (K : PySem.W.Frag) (A : CA) : Prop where
  c : Cls K A.Owners
  free : NoAttr K A.Owners "_free"
  owned : NoAttr K A.Owners "_owned"
  owner : NoAttr K A.Owners "_owner"
def og0 (fr ow on : Addr) : OG := ⟨fr, ow, on, fun _ => 0, []⟩
def sp_Owners_init (K : PySem.W.Frag) (A : CA) : Sp := fun vs H Q _ => ∃ (H0 : Hp) (o dx : Addr), vs = [.ref o] ∧ H = upd (upd H0 dx (.own o)) o (.ins A.Owners dx []) ∧ H0 o = none ∧ H0 dx = none ∧ dx ≠ o ∧
  ∀ (g : OG) (H' : Hp), Same H0 H' → g.ps = [] → (∀ b, g.has b → H0 b = none) → OwnAt A H' o g (fun _ => 0) (fun _ => none) [] → Q .non H'
def t_Owners_init (K : PySem.W.Frag) (A : CA) : TS :=
  (tSeq (sFld K (tVar 0) tDNewK "_free")
  (tSeq (sFld K (tVar 0) tDNewK "_owned")
  (sFld K (tVar 0) tDNewT "_owner")))

theorem rd_Owners_init {K : PySem.W.Frag} {A : CA} (T : CTW K A) {vs : List V} {H : Hp} {Q : VK} {E : XK} (h : sp_Owners_init K A vs H Q E) :
    t_Owners_init K A { nx := fun _ H' => Q .non H', rt := Q } (start ["self"] vs) H := by
  obtain ⟨H0, o, dx, rfl, rfl, fo, fdx, ndx, q⟩ := h
  have e0 : Same H0 (upd (upd H0 dx (.own o)) o (.ins A.Owners dx [])) := same_mut (same_new fdx) fo
  have ho : (upd (upd H0 dx (.own o)) o (.ins A.Owners dx [])) o = some (.ins A.Owners dx []) := upd_same
  generalize upd (upd H0 dx (.own o)) o (.ins A.Owners dx []) = H1 at e0 ho
  unfold t_Owners_init
  walk_at "go"
  intro fr hfr
  have n1 : fr ≠ o := (ne_of_none ho hfr).symm
  walk_at "go"
  refine w_sfld2 (keep ho hfr) T.c T.free (by decide) ?_
  have e1 := same_mut (o := .ins A.Owners dx (putF "_free" (.ref fr) [])) (e0.trans (same_new (o := .dK []) hfr)) fo
  have h1 : (upd (upd H1 fr (.dK [])) o (.ins A.Owners dx (putF "_free" (.ref fr) []))) o = some (.ins A.Owners dx (putF "_free" (.ref fr) [])) := upd_same
  have f1 : (upd (upd H1 fr (.dK [])) o (.ins A.Owners dx (putF "_free" (.ref fr) []))) fr = some (.dK []) := keepNe upd_same n1
  have z1 := e0.free hfr
  generalize upd (upd H1 fr (.dK [])) o (.ins A.Owners dx (putF "_free" (.ref fr) [])) = H2 at e1 h1 f1
  clear hfr
  walk_at "go"
  intro ow how
  have n2 : ow ≠ o := (ne_of_none h1 how).symm
  have n12 : fr ≠ ow := ne_of_none f1 how
  walk_at "go"
  refine w_sfld2 (keep h1 how) T.c T.owned (Nat.lt_of_le_of_lt (len_put1 (Nat.zero_le 0)) (by decide)) ?_
  have e2 := same_mut (o := .ins A.Owners dx (putF "_owned" (.ref ow) (putF "_free" (.ref fr) []))) (e1.trans (same_new (o := .dK []) how)) fo
  have h2 : (upd (upd H2 ow (.dK [])) o (.ins A.Owners dx (putF "_owned" (.ref ow) (putF "_free" (.ref fr) [])))) o = some (.ins A.Owners dx (putF "_owned" (.ref ow) (putF "_free" (.ref fr) []))) := upd_same
  have f2 : (upd (upd H2 ow (.dK [])) o (.ins A.Owners dx (putF "_owned" (.ref ow) (putF "_free" (.ref fr) [])))) fr = some (.dK []) := keepNe (keep f1 how) n1
  have w2 : (upd (upd H2 ow (.dK [])) o (.ins A.Owners dx (putF "_owned" (.ref ow) (putF "_free" (.ref fr) [])))) ow = some (.dK []) := keepNe upd_same n2
  have z2 := e1.free how
  generalize upd (upd H2 ow (.dK [])) o (.ins A.Owners dx (putF "_owned" (.ref ow) (putF "_free" (.ref fr) []))) = H3 at e2 h2 f2 w2
  clear how
  walk_at "go"
  intro on hon
  have n3 : on ≠ o := (ne_of_none h2 hon).symm
  walk_at "go"
  refine w_sfld2 (keep h2 hon) T.c T.owner (Nat.lt_of_le_of_lt (len_put1 (len_put1 (Nat.zero_le 0))) (by decide)) ?_
  have e3 := same_mut (o := .ins A.Owners dx (owFs (og0 fr ow on))) (e2.trans (same_new (o := .dT []) hon)) fo
  have z3 := e2.free hon
  refine q (og0 fr ow on) _ e3 rfl (fun b hb => ?_) ?_
  · rcases hb with e | e | e | ⟨k, hk, _⟩
    · rw [e]; exact z1
    · rw [e]; exact z2
    · rw [e]; exact z3
    · cases hk
  · exact ⟨⟨dx, upd_same⟩, ⟨[], keepNe (keep f2 hon) n1, fun _ => rfl, Nat.le_refl _⟩, ⟨[], keepNe (keep w2 hon) n2, (fun k hk => by cases hk), Nat.le_refl _⟩, ⟨[], keepNe upd_same n3, fun _ => rfl, Nat.le_refl _⟩, (fun k hk => by cases hk), n12, (fun k hk => by cases hk), (fun k hk => by cases hk), fun r z => absurd rfl z, ⟨Nat.zero_le _, Nat.zero_le _⟩⟩
/-- a page more -/
def ogAdd (g : OG) (k : Int) (d : Addr) : OG := ⟨g.fr, g.ow, g.on, fun j => if j = k then d else g.D j, g.ps ++ [k]⟩
def fAdd (F : Int → Int) (k b : Int) : Int → Int := fun j => if j = k then b else F j
def sp_Owners_enter (K : PySem.W.Frag) (A : CA) : Sp := fun vs H Q _ => ∃ (o : Addr) (g : OG) (F : Int → Int) (W : Int × Int → Option Int) (ar : List (Int × Int)) (k b : Int), vs = [.ref o, .int k, .int b] ∧ OwnAt A H o g F W ar ∧ k ∉ g.ps ∧ (∀ r, W r ≠ some k) ∧ g.ps.length < 1000 ∧
  ∀ (d : Addr) (H' : Hp), H d = none → Kept g H H' → OwnAt A H' o (ogAdd g k d) (fAdd F k b) W ar → Q .non H'
def t_Owners_enter (K : PySem.W.Frag) (A : CA) : TS :=
  (tSeq (sDPut (tFld K (tVar 0) "_free") (tVar 1) (tVar 2))
  (sDPut (tFld K (tVar 0) "_owned") (tVar 1) tDNewT))

theorem rd_Owners_enter {K : PySem.W.Frag} {A : CA} (T : CTW K A) {vs : List V} {H : Hp} {Q : VK} {E : XK} (h : sp_Owners_enter K A vs H Q E) :
    t_Owners_enter K A { nx := fun _ H' => Q .non H', rt := Q } (start ["self", "page", "blank"] vs) H := by
  obtain ⟨o, g, F, W, ar, k, b, rfl, hO, hk, hW, hl, q⟩ := h
  obtain ⟨dx, ho⟩ := hO.ob
  obtain ⟨kf, f1, f2, f3⟩ := hO.fr
  obtain ⟨ko, w1, w2, w3⟩ := hO.ow
  obtain ⟨kn, o1, o2, o3⟩ := hO.on
  unfold t_Owners_enter
  walk_at "go"
  refine w_fld2 ho T.c T.free ow_free ?_
  walk_at "go"
  refine w_dpK f1 (by omega) ?_
  have hof : o ≠ g.fr := ne_of ho f1 (by intro z; cases z)
  have hoo : o ≠ g.ow := ne_of ho w1 (by intro z; cases z)
  walk_at "go"
  intro d hd
  have hdH : H d = none := by
    rw [upd_ne (fun z => by rw [z, upd_same] at hd; cases hd)] at hd; exact hd
  have df : ∀ {b : Addr} {ob : HO}, H b = some ob → b ≠ d := fun e => ne_of_none e hdH
  walk_at "go"
  refine w_fld2 (keepNe (keepNe ho hof) (df ho)) T.c T.owned ow_owned ?_
  walk_at "go"
  refine w_dpK (keepNe (keepNe w1 (Ne.symm hO.n1)) (df w1)) (by omega) ?_
  have ng : ∀ j ∈ g.ps, j ≠ k := fun j hj z => hk (z ▸ hj)
  refine q d _ hdH (((Kept.rfl.mut (.inl rfl)).trans (Kept.of (same_new hd))).mut (.inr (.inl rfl))) ?_
  refine ⟨⟨dx, keepNe (keepNe (keepNe ho hof) (df ho)) hoo⟩, ⟨_, keepNe (keepNe upd_same (df f1)) hO.n1, fun j => ?_, ?_⟩, ⟨_, upd_same, fun j hj => ?_, ?_⟩, ?_, fun j hj => ?_, hO.n1, fun j hj => ?_, fun j hj l hl2 e => ?_, hO.ar1, hO.len.1, ?_⟩
  · rw [valV_put, f2]
    show _ = if j ∈ g.ps ++ [k] then some (V.int (fAdd F k b j)) else none
    by_cases c : j = k
    · subst c; rw [if_pos rfl, if_pos (by simp)]; unfold fAdd; rw [if_pos rfl]
    · rw [if_neg (fun z => c (Sum.inl.inj z))]
      by_cases m : j ∈ g.ps
      · rw [if_pos m, if_pos (by simp [m])]; unfold fAdd; rw [if_neg c]
      · rw [if_neg m, if_neg (by simp [m, c])]
  · show _ ≤ (g.ps ++ [k]).length
    have := length_putK kf (Sum.inl k : Key) (V.int b)
    rw [List.length_append]; simp only [List.length_cons, List.length_nil]; omega
  · have hj : j ∈ g.ps ++ [k] := hj
    rw [valV_put]
    by_cases c : j = k
    · subst c; rw [if_pos rfl]; show _ = some (V.ref (if j = j then d else g.D j)); rw [if_pos rfl]
    · rw [if_neg (fun z => c (Sum.inl.inj z))]; show _ = some (V.ref (if j = k then d else g.D j)); rw [if_neg c]
      exact w2 j (by simpa [c] using hj)
  · show _ ≤ (g.ps ++ [k]).length
    have := length_putK ko (Sum.inl k : Key) (V.ref d)
    rw [List.length_append]; simp only [List.length_cons, List.length_nil]; omega
  · exact ⟨kn, keepNe (keepNe (keepNe o1 (ne_of o1 f1 (by intro z; cases z))) (df o1)) (ne_of o1 w1 (by intro z; cases z)), o2, o3⟩
  · have hj : j ∈ g.ps ++ [k] := hj
    by_cases c : j = k
    · subst c
      refine ⟨[], ?_, ⟨fun r => by rw [if_neg (hW r)]; rfl, (fun e he => by cases he), List.nodup_nil⟩⟩
      show upd _ _ _ (if j = j then d else g.D j) = _
      rw [if_pos rfl]
      exact keepNe upd_same (df w1).symm
    · obtain ⟨kvs, a, p⟩ := hO.ds j (by simpa [c] using hj)
      refine ⟨kvs, ?_, p⟩
      show upd _ _ _ (if j = k then d else g.D j) = _
      rw [if_neg c]
      exact keepNe (keepNe (keepNe a (ne_of a f1 (by intro z; cases z))) (df a)) (ne_of a w1 (by intro z; cases z))
  · have hj : j ∈ g.ps ++ [k] := hj
    show (if j = k then d else g.D j) ≠ g.on
    by_cases c : j = k
    · rw [if_pos c]; exact (df o1).symm
    · rw [if_neg c]; exact hO.n2 j (by simpa [c] using hj)
  · have hj : j ∈ g.ps ++ [k] := hj
    have hl2 : l ∈ g.ps ++ [k] := hl2
    have e : (if j = k then d else g.D j) = (if l = k then d else g.D l) := e
    by_cases c : j = k
    · by_cases c2 : l = k
      · rw [c, c2]
      · rw [if_pos c, if_neg c2] at e
        obtain ⟨kvs, a, p⟩ := hO.ds l (by simpa [c2] using hl2)
        exact absurd e.symm (df a)
    · by_cases c2 : l = k
      · rw [if_neg c, if_pos c2] at e
        obtain ⟨kvs, a, p⟩ := hO.ds j (by simpa [c] using hj)
        exact absurd e (df a)
      · rw [if_neg c, if_neg c2] at e
        exact hO.n3 j (by simpa [c] using hj) l (by simpa [c2] using hl2) e
  · show (g.ps ++ [k]).length ≤ 1000
    rw [List.length_append]; simp only [List.length_cons, List.length_nil]; omega
def sp_Owners_owner_of (K : PySem.W.Frag) (A : CA) : Sp := fun vs H Q _ => ∃ (o p : Addr) (g : OG) (F : Int → Int) (W : Int × Int → Option Int) (ar : List (Int × Int)) (r : Int × Int) (k : Int), vs = [.ref o, .ref p] ∧ OwnAt A H o g F W ar ∧ H p = some (.tup [.int r.1, .int r.2]) ∧ W r = some k ∧ Q (.int k) H
def t_Owners_owner_of (K : PySem.W.Frag) (A : CA) : TS :=
  (tRet (tDGet (tFld K (tVar 0) "_owner") (tVar 1)))

theorem rd_Owners_owner_of {K : PySem.W.Frag} {A : CA} (T : CTW K A) {vs : List V} {H : Hp} {Q : VK} {E : XK} (h : sp_Owners_owner_of K A vs H Q E) :
    t_Owners_owner_of K A { nx := fun _ H' => Q .non H', rt := Q } (start ["self", "pointer"] vs) H := by
  obtain ⟨o, p, g, F, W, ar, r, k, rfl, hO, hp, hr, q⟩ := h
  obtain ⟨dx, ho⟩ := hO.ob
  obtain ⟨kn, o1, o2, o3⟩ := hO.on
  unfold t_Owners_owner_of
  walk_at "go"
  refine w_fld2 ho T.c T.owner ow_owner ?_
  walk_at "go"
  exact w_dgT o1 hp (by rw [o2, hr]; rfl) q
def setW (W : Int × Int → Option Int) (r : Int × Int) (a : Int) : Int × Int → Option Int := fun s => if s = r then some a else W s
def shF (F : Int → Int) (b a : Int) : Int → Int := fun k => F k + (if k = b then 1 else 0) - (if k = a then 1 else 0)
def sp_Owners_hand_over (K : PySem.W.Frag) (A : CA) : Sp := fun vs H Q _ => ∃ (o p : Addr) (g : OG) (F : Int → Int) (W : Int × Int → Option Int) (ar : List (Int × Int)) (r : Int × Int) (b : Int), vs = [.ref o, .ref p] ∧ OwnAt A H o g F W ar ∧ H p = some (.tup [.int r.1, .int r.2]) ∧ W r = some b ∧ b ∈ g.ps ∧ oth r b ∈ g.ps ∧ oth r b ≠ b ∧ oth r (oth r b) = b ∧
  ∀ H', Kept g H H' → OwnAt A H' o g (shF F b (oth r b)) (setW W r (oth r b)) ar → Q .non H'
def t_Owners_hand_over (K : PySem.W.Frag) (A : CA) : TS :=
  (tSeq (tAsg (tDGet (tFld K (tVar 0) "_owner") (tVar 1)) (gName 2))
  (tSeq (tAsg (tBM K "dict" DX.rPop1T (tDGet (tFld K (tVar 0) "_owned") (tVar 2)) (tCons (tVar 1) tNil)) (gName 3))
  (tSeq (sDPut (tDGet (tFld K (tVar 0) "_owned") (tVar 3)) (tVar 1) (tVar 2))
  (tSeq (sDPut (tFld K (tVar 0) "_owner") (tVar 1) (tVar 3))
  (tSeq (sDAug (tFld K (tVar 0) "_free") (tVar 2) (tC (.int 1)) (ipI fun i j => i + j))
  (sDAug (tFld K (tVar 0) "_free") (tVar 3) (tC (.int 1)) (ipI fun i j => i - j)))))))

theorem rd_Owners_hand_over {K : PySem.W.Frag} {A : CA} (T : CTW K A) {vs : List V} {H : Hp} {Q : VK} {E : XK} (h : sp_Owners_hand_over K A vs H Q E) :
    t_Owners_hand_over K A { nx := fun _ H' => Q .non H', rt := Q } (start ["self", "pointer", "before", "after"] vs) H := by
  obtain ⟨o, p, g, F, W, ar, r, b, rfl, hO, hp, hr, hb, ha, hne, hoo, q⟩ := h
  obtain ⟨dx, ho⟩ := hO.ob
  obtain ⟨kf, f1, f2, f3⟩ := hO.fr
  obtain ⟨ko, w1, w2, w3⟩ := hO.ow
  obtain ⟨kn, o1, o2, o3⟩ := hO.on
  obtain ⟨kb, b1, b2⟩ := hO.ds b hb
  obtain ⟨ka, a1, a2⟩ := hO.ds _ ha
  have len := hO.len
  have la := a2.len hO.ar1
  unfold t_Owners_hand_over
  walk_at "go"
  refine w_fld2 ho T.c T.owner ow_owner ?_
  walk_at "go"
  refine w_dgT o1 hp (by rw [o2, hr]; rfl) ?_
  walk_at "go"
  refine w_fld2 ho T.c T.owned ow_owned ?_
  walk_at "go"
  refine ⟨g.ow, .ref (g.D b), rfl, (by rw [← w2 b hb]; exact DGet.k (k := Sum.inl b) w1), .inr (.inr (.inl ⟨rfl, .inr ⟨kb, b1⟩⟩)), ?_⟩
  walk_at "go"
  refine ⟨_, kb, key r, p, .int (oth r b), rfl, rfl, b1, hp, (by rw [b2.val, if_pos hr]), ?_⟩
  -- who differs
  have oDb : o ≠ g.D b := ne_of ho b1 (by intro z; cases z)
  have oDa : o ≠ g.D (oth r b) := ne_of ho a1 (by intro z; cases z)
  have oon : o ≠ g.on := ne_of ho o1 (by intro z; cases z)
  have ofr : o ≠ g.fr := ne_of ho f1 (by intro z; cases z)
  have wDb : g.ow ≠ g.D b := ne_of w1 b1 (by intro z; cases z)
  have wDa : g.ow ≠ g.D (oth r b) := ne_of w1 a1 (by intro z; cases z)
  have won : g.ow ≠ g.on := ne_of w1 o1 (by intro z; cases z)
  have fDb : g.fr ≠ g.D b := ne_of f1 b1 (by intro z; cases z)
  have fDa : g.fr ≠ g.D (oth r b) := ne_of f1 a1 (by intro z; cases z)
  have fon : g.fr ≠ g.on := ne_of f1 o1 (by intro z; cases z)
  have pDb : p ≠ g.D b := ne_of hp b1 (by intro z; cases z)
  have pDa : p ≠ g.D (oth r b) := ne_of hp a1 (by intro z; cases z)
  have pon : p ≠ g.on := ne_of hp o1 (by intro z; cases z)
  have nab : g.D (oth r b) ≠ g.D b := fun z => hne (hO.n3 _ ha _ hb z)
  have nbo := hO.n2 b hb
  have nao := hO.n2 _ ha
  walk_at "go"
  refine w_fld2 (keepNe ho oDb) T.c T.owned ow_owned ?_
  walk_at "go"
  refine w_dgK (keepNe w1 wDb) (w2 _ ha) ?_
  walk_at "go"
  refine w_dpT (r := r) (keepNe a1 nab) (keepNe hp pDb) (by omega) ?_
  walk_at "go"
  refine w_fld2 (keepNe (keepNe ho oDb) oDa) T.c T.owner ow_owner ?_
  walk_at "go"
  refine w_dpT (r := r) (keepNe (keepNe o1 nbo.symm) nao.symm) (keepNe (keepNe hp pDb) pDa) (by omega) ?_
  have ho3 := keepNe (o' := .dT (putK kn (key r) (V.int (oth r b)))) (keepNe (o' := .dT (putK ka (key r) (V.int b))) (keepNe (o' := .dT (dropK kb (key r))) ho oDb) oDa) oon
  have hf3 := keepNe (o' := .dT (putK kn (key r) (V.int (oth r b)))) (keepNe (o' := .dT (putK ka (key r) (V.int b))) (keepNe (o' := .dT (dropK kb (key r))) f1 fDb) fDa) fon
  have hw3 := keepNe (o' := .dT (putK kn (key r) (V.int (oth r b)))) (keepNe (o' := .dT (putK ka (key r) (V.int b))) (keepNe (o' := .dT (dropK kb (key r))) w1 wDb) wDa) won
  have hn3 : (upd (upd (upd H (g.D b) (.dT (dropK kb (key r)))) (g.D (oth r b)) (.dT (putK ka (key r) (V.int b)))) g.on (.dT (putK kn (key r) (V.int (oth r b))))) g.on = _ := upd_same
  have ha3 : (upd (upd (upd H (g.D b) (.dT (dropK kb (key r)))) (g.D (oth r b)) (.dT (putK ka (key r) (V.int b)))) g.on (.dT (putK kn (key r) (V.int (oth r b))))) (g.D (oth r b)) = _ := keepNe upd_same nao
  have hb3 : (upd (upd (upd H (g.D b) (.dT (dropK kb (key r)))) (g.D (oth r b)) (.dT (putK ka (key r) (V.int b)))) g.on (.dT (putK kn (key r) (V.int (oth r b))))) (g.D b) = _ := keepNe (keepNe upd_same nab.symm) nbo
  have hx3 : ∀ j ∈ g.ps, j ≠ b → j ≠ oth r b → (upd (upd (upd H (g.D b) (.dT (dropK kb (key r)))) (g.D (oth r b)) (.dT (putK ka (key r) (V.int b)))) g.on (.dT (putK kn (key r) (V.int (oth r b))))) (g.D j) = H (g.D j) := fun j hj e1 e2 => by
    rw [upd_ne (hO.n2 j hj), upd_ne (fun z => e2 (hO.n3 _ hj _ ha z)), upd_ne (fun z => e1 (hO.n3 _ hj _ hb z))]
  have K3 : Kept g H (upd (upd (upd H (g.D b) (.dT (dropK kb (key r)))) (g.D (oth r b)) (.dT (putK ka (key r) (V.int b)))) g.on (.dT (putK kn (key r) (V.int (oth r b))))) :=
    ((Kept.rfl.mut (.inr (.inr (.inr ⟨b, hb, rfl⟩)))).mut (.inr (.inr (.inr ⟨_, ha, rfl⟩)))).mut (.inr (.inr (.inl rfl)))
  generalize upd (upd (upd H (g.D b) (.dT (dropK kb (key r)))) (g.D (oth r b)) (.dT (putK ka (key r) (V.int b)))) g.on (.dT (putK kn (key r) (V.int (oth r b)))) = H3 at ho3 hf3 hw3 hn3 ha3 hb3 hx3 K3
  walk_at "go"
  refine w_fld2 ho3 T.c T.free ow_free ?_
  walk_at "go"
  have fb : valV kf (Sum.inl b) = some (.int (F b)) := by rw [f2, if_pos hb]
  refine ⟨g.fr, _, rfl, (by rw [← fb]; exact DGet.k (k := Sum.inl b) hf3), ?_⟩
  walk_at "go"
  refine ⟨_, DPut.k (k := Sum.inl b) hf3 (by rw [sizeLine_eq]; omega), ?_⟩
  walk_at "go"
  refine w_fld2 (keepNe ho3 ofr) T.c T.free ow_free ?_
  walk_at "go"
  have fa : valV (putK kf (Sum.inl b) (V.int (F b + 1))) (Sum.inl (oth r b)) = some (.int (F (oth r b))) := by
    rw [valV_put, if_neg (fun z => hne (Sum.inl.inj z)), f2, if_pos ha]
  have lb : (putK kf (Sum.inl b) (V.int (F b + 1))).length = kf.length := putK_len fb
  refine ⟨g.fr, _, rfl, (by rw [← fa]; exact DGet.k (k := Sum.inl (oth r b)) upd_same), ?_⟩
  walk_at "go"
  refine ⟨_, DPut.k (k := Sum.inl (oth r b)) upd_same (by rw [sizeLine_eq]; omega), ?_⟩
  have c1 : ∀ s, key s = key r ↔ s = r := fun s => ⟨key_inj, fun z => by rw [z]⟩
  refine q _ ((K3.mut (.inl rfl)).mut (.inl rfl)) ?_
  have bf := fun {j : Addr} (e : j ≠ g.fr) => show (upd (upd H3 g.fr (.dK (putK kf (Sum.inl b) (V.int (F b + 1))))) g.fr (.dK (putK (putK kf (Sum.inl b) (V.int (F b + 1))) (Sum.inl (oth r b)) (V.int (F (oth r b) - 1))))) j = H3 j from by rw [upd_ne e, upd_ne e]
  refine ⟨⟨dx, (bf ofr).trans ho3⟩, ⟨_, upd_same, fun j => ?_, ?_⟩, ⟨ko, (bf hO.n1.symm).trans hw3, w2, w3⟩, ⟨_, (bf fon.symm).trans hn3, fun s => ?_, ?_⟩, fun j hj => ?_, hO.n1, hO.n2, hO.n3, fun s hs => ?_, len⟩
  · rw [valV_put, valV_put, f2]
    unfold shF
    by_cases ca : j = oth r b
    · subst ca
      rw [if_pos rfl, if_pos ha, if_neg hne, if_pos rfl]; congr 2; omega
    · rw [if_neg (fun z => ca (Sum.inl.inj z)), if_neg ca]
      by_cases cb : j = b
      · subst cb; rw [if_pos rfl, if_pos hb, if_pos rfl]; congr 2; omega
      · rw [if_neg (fun z => cb (Sum.inl.inj z)), if_neg cb]
        split
        · congr 2; omega
        · rfl
  · rw [putK_len fa, lb]; exact f3
  · rw [valV_put, o2]
    unfold setW
    by_cases c : s = r
    · subst c; rw [if_pos rfl, if_pos rfl]; rfl
    · rw [if_neg (fun z => c (key_inj z)), if_neg c]
  · rw [putK_len (show valV kn (key r) = some (V.int b) by rw [o2, hr]; rfl)]; exact o3
  · have jf : g.D j ≠ g.fr := by obtain ⟨_, e, _⟩ := hO.ds j hj; exact ne_of e f1 (by intro z; cases z)
    by_cases cb : j = b
    · subst cb
      refine ⟨_, (bf jf).trans hb3, fun s => ?_, fun e he => b2.keys e (List.mem_filter.mp he).1, nd_dropK b2.nd⟩
      rw [valV_drop, b2.val]
      unfold setW
      by_cases c : s = r
      · subst c; rw [if_pos rfl, if_pos rfl, if_neg (fun z => hne (Option.some.inj z))]
      · rw [if_neg (fun z => c (key_inj z)), if_neg c]
    · by_cases ca : j = oth r b
      · subst ca
        refine ⟨_, (bf jf).trans ha3, fun s => ?_, fun e he => ?_, nd_put a2.nd⟩
        · rw [valV_put, a2.val]
          unfold setW
          by_cases c : s = r
          · subst c; rw [if_pos rfl, if_pos rfl, if_pos rfl, hoo]
          · rw [if_neg (fun z => c (key_inj z)), if_neg c]
        · rcases putK_in he with z | ⟨e', he', z⟩
          · exact ⟨r, z⟩
          · obtain ⟨s, es⟩ := a2.keys e' he'; exact ⟨s, by rw [← z, es]⟩
      · obtain ⟨kvs, e, P⟩ := hO.ds j hj
        refine ⟨kvs, (bf jf).trans ((hx3 j hj cb ca).trans e), fun s => ?_, P.keys, P.nd⟩
        rw [P.val]
        unfold setW
        by_cases c : s = r
        · subst c; rw [if_pos rfl, hr, if_neg (fun z => cb (Option.some.inj z).symm), if_neg (fun z => ca (Option.some.inj z).symm)]
        · rw [if_neg c]
  · unfold setW at hs
    by_cases c : s = r
    · subst c; exact hO.ar1 s (by rw [hr]; exact fun z => nomatch z)
    · rw [if_neg c] at hs; exact hO.ar1 s hs
end G

end
section
local macro_rules | `(tactic| walk_at "call") => `(tactic| (refine' G.w_cnt ?g1 ?_; (case g1 => walk_at "sq")))

local macro_rules | `(tactic| walk_at "call") => `(tactic| (refine' G.w_popAt ?g1 ?g2 ?g3 ?g4 ?_; (case g1 => walk_at "hp"); (case g2 => walk_at "ar"); (case g3 => walk_at "ar"); (case g4 => walk_at "ar")))

local macro_rules | `(tactic| walk_at "call") => `(tactic| first | refine' G.w_dp ?_ | refine' G.w_dg ?_ | refine' G.w_da ?_)

/-! ### loop words of _find_chain -/
namespace G
open PySem L2
theorem dcL {K : PySem.W.Frag} {a : Addr} {xs : List V} {g : TG} {tt : TT} {tk tv : TE} {vs : List Nat} {σ : L2.St} {H1 : Hp} {D : Addr} {Qd : Hp → Prop} (Pv : Nat → Hp → Prop) (h0 : Pv 0 (upd H1 D (.dK []))) (hl : ∀ i H, i ≤ xs.length → Pv i H → SqL K H a xs)
    (hs : ∀ i x H, xs[i]? = some x → Pv i H → g x (wipe σ vs) H fun σ2 H2 => wipe σ2 vs = wipe σ vs ∧ tt σ2 H2 fun b H3 =>
      if b = true then tk σ2 H3 fun y H4 => tv σ2 H4 fun z H5 => ∃ kvs k, y = L2.kV k ∧ H5 D = some (.dK kvs) ∧ kvs.length < sizeLine ∧ Pv (i + 1) (upd H5 D (.dK (putK kvs k z))) else Pv (i + 1) H3) (hd : ∀ H, Pv xs.length H → Qd H) :
    ∃ W : Nat → Nat → Hp → Prop, (∃ m, W 0 m (upd H1 D (.dK []))) ∧ ∀ i m H, W i m H →
      ((Itl K a).stop i H ∧ Qd H) ∨ ((Itl K a).go i H ∧ ∃ Nx : Hp → Prop, (∀ H', Nx H' → ∃ m', m' < m ∧ W (i + 1) m' H') ∧ ∀ x H', (Itl K a).yld i H x H' → g x (wipe σ vs) H' fun σ2 H2 => wipe σ2 vs = wipe σ vs ∧ tt σ2 H2 fun b H3 =>
        if b = true then tk σ2 H3 fun y H4 => tv σ2 H4 fun z H5 => ∃ kvs k, y = L2.kV k ∧ H5 D = some (.dK kvs) ∧ kvs.length < sizeLine ∧ Nx (upd H5 D (.dK (putK kvs k z))) else Nx H3) := by
  refine ⟨fun i m H => m = xs.length - i ∧ i ≤ xs.length ∧ Pv i H, ⟨xs.length, by simp, Nat.zero_le _, h0⟩, ?_⟩
  rintro i m H ⟨rfl, hi, p⟩
  have q := hl i H hi p
  by_cases hlt : i < xs.length
  · refine .inr ⟨⟨xs, xs[i], q, by simp [hlt]⟩, Pv (i + 1), fun H' p' => ⟨xs.length - (i + 1), by omega, rfl, hlt, p'⟩, fun x H' y => ?_⟩
    obtain ⟨e, y⟩ := y
    subst e
    exact hs i x _ (y xs q) p
  · have e : i = xs.length := by omega
    subst e
    exact .inl ⟨⟨xs, q, Nat.le_refl _⟩, hd H p⟩
def DcW (J : It) (g : TG) (tt : TT) (tk tv : TE) (vs : List Nat) (σ : L2.St) (H : Hp) (Q : VK) : Prop := tDc (fun _ H R => R J H) g tt tk tv vs σ H Q
theorem w_dc {K : PySem.W.Frag} {te : TE} {g : TG} {tt : TT} {tk tv : TE} {vs : List Nat} {σ : L2.St} {H : Hp} {Q : VK} (h : te σ H fun x H1 => ∃ a : Addr, x = .ref a ∧ (∃ xs, SqL K H1 a xs) ∧ DcW (Itl K a) g tt tk tv vs σ H1 Q) : tDc (iList K te) g tt tk tv vs σ H Q := h
def nones (l : List Int) : List (Key × V) := l.map fun k => (Sum.inl k, V.non)
theorem valV_nones {l : List Int} {k : Int} : valV (nones l) (Sum.inl k) = if k ∈ l then some .non else none := by
  induction l with
  | nil => rfl
  | cons a l ih =>
    show valV ((Sum.inl a, V.non) :: nones l) (Sum.inl k) = _
    by_cases c : k = a
    · subst c; rw [if_pos List.mem_cons_self]; exact valV_pos rfl
    · rw [valV_neg (fun z => c (Sum.inl.inj z).symm), ih]
      simp [c]
theorem dcNone {K : PySem.W.Frag} {a : Addr} {st : List Int} {i : Nat} {σ : L2.St} {H1 : Hp} {Q : VK} (h : SqL K H1 a (st.map V.int)) (nd : st.Nodup) (hl : st.length ≤ 1000) (hv : ∀ x : V, ((wipe σ [i]).set i (some x))[i]? = some (some x)) (hw : ∀ x : V, wipe ((wipe σ [i]).set i (some x)) [i] = wipe σ [i])
    (q : ∀ (D : Addr) (H' : Hp), H1 D = none → Same H1 H' → H' D = some (.dK (nones st)) → Q (.ref D) H') : DcW (Itl K a) (gName i) tYes (tVar i) (tC .non) [i] σ H1 Q := by
  refine fun D hD => dcL (K := K) (xs := st.map V.int) (fun j H' => Same H1 H' ∧ H' D = some (.dK (nones (st.take j)))) ⟨same_new hD, upd_same⟩ (fun j H' _ p => p.1.seq h) (fun j x H' hx p => ?_) fun H' p => q D H' hD p.1 ?_
  · obtain ⟨e, g⟩ := p
    obtain ⟨k, hk, rfl⟩ : ∃ k, st[j]? = some k ∧ V.int k = x := by
      rw [List.getElem?_map] at hx
      cases hs : st[j]? with
      | none => rw [hs] at hx; cases hx
      | some z => rw [hs] at hx; exact ⟨z, rfl, Option.some.inj hx⟩
    refine ⟨hw _, ⟨V.int k, hv _, ?_⟩⟩
    refine ⟨nones (st.take j), Sum.inl k, rfl, g, ?_, same_mut e hD, ?_⟩
    · have : (nones (st.take j)).length ≤ st.length := by unfold nones; rw [List.length_map, List.length_take]; omega
      rw [sizeLine_eq]; omega
    · rw [upd_same, List.take_succ, hk]
      have no : valV (nones (st.take j)) (Sum.inl k) = none := by
        rw [valV_nones, if_neg]
        intro hm
        obtain ⟨i', hi'⟩ := List.getElem?_of_mem hm
        rw [List.getElem?_take] at hi'
        split at hi'
        · next c =>
          obtain ⟨a1, a2⟩ := List.getElem?_eq_some_iff.mp hi'
          obtain ⟨b1, b2⟩ := List.getElem?_eq_some_iff.mp hk
          exact List.pairwise_iff_getElem.mp nd i' j a1 b1 c (a2.trans b2.symm)
        · cases hi'
      rw [putK_new _ no]
      unfold nones
      rw [List.map_append]; rfl
  · rw [List.length_map, List.take_length] at p; exact p.2
theorem w_lock {t : TS} {D : Ends} {σ : L2.St} {H : Hp} (h : ∃ d u, H d = some u ∧ Mut (some u) ∧ ∀ od, t ⟨fun σ' H' => H' d = some (.frz od u) ∧ D.nx σ' (upd H' d u), fun v H' => H' d = some (.frz od u) ∧ D.rt v (upd H' d u), fun σ' H' => H' d = some (.frz od u) ∧ D.bk σ' (upd H' d u), fun σ' H' => H' d = some (.frz od u) ∧ D.ct σ' (upd H' d u)⟩ σ (upd H d (.frz od u))) : tLock t D σ H := h
theorem w_forT {te : TE} {g : TG} {tb : TS} {D : Ends} {σ : L2.St} {H : Hp} (h : te σ H fun x H1 => ∃ d o kvs, x = .ref d ∧ H1 d = some (.frz o (.dT kvs)) ∧ ForW (GT.ItiT d o kvs) g tb D σ H1) : tFor (GT.iItemsT te) g tb D σ H := h
theorem forT {d : Addr} {od : Obj} {kvs : List (List Key × V)} {g : TG} {tb : TS} {D : Ends} {σ : L2.St} {H : Hp} (Pv : Nat → L2.St → Hp → Prop) (h0 : Pv 0 σ H) (hl : ∀ i σ1 H1, i ≤ kvs.length → Pv i σ1 H1 → H1 d = some (.frz od (.dT kvs)))
    (hs : ∀ (i : Nat) (k : List Key) (v : V) (T q : Addr) (σ1 : L2.St) (H1 : Hp), kvs[i]? = some (k, v) → Pv i σ1 H1 → H1 T = none → H1 q = some (.tup (k.map L2.kV)) → g (.ref T) σ1 (upd H1 T (.tup [.ref q, v])) fun σ2 H2 => tb { D with nx := Pv (i + 1), ct := Pv (i + 1), bk := D.nx } σ2 H2) (hd : ∀ σ1 H1, Pv kvs.length σ1 H1 → D.nx σ1 H1) : ForW (GT.ItiT d od kvs) g tb D σ H := by
  show ∃ W : Nat → Nat → L2.St → Hp → Prop, _
  refine ⟨fun i m σ H => m = kvs.length - i ∧ i ≤ kvs.length ∧ Pv i σ H, ⟨kvs.length, by simp, Nat.zero_le _, h0⟩, ?_⟩
  rintro i m σ1 H1 ⟨rfl, hi, p⟩
  have q := hl i σ1 H1 hi p
  by_cases hlt : i < kvs.length
  · refine .inr ⟨⟨q, hlt⟩, Pv (i + 1), fun σ' H' p' => ⟨kvs.length - (i + 1), by omega, rfl, hlt, p'⟩, fun x H' y => ?_⟩
    obtain ⟨T, q, k, v, e, rfl, hT, hq, rfl⟩ := y
    exact hs i k v T q σ1 H1 e p hT hq
  · have e : i = kvs.length := by omega
    subst e
    exact .inl ⟨⟨q, Nat.le_refl _⟩, hd σ1 H1 p⟩
end G

end
section
local macro_rules | `(tactic| walk_at "call") => `(tactic| (refine' G.w_cnt ?g1 ?_; (case g1 => walk_at "sq")))

local macro_rules | `(tactic| walk_at "call") => `(tactic| (refine' G.w_popAt ?g1 ?g2 ?g3 ?g4 ?_; (case g1 => walk_at "hp"); (case g2 => walk_at "ar"); (case g3 => walk_at "ar"); (case g4 => walk_at "ar")))

local macro_rules | `(tactic| walk_at "call") => `(tactic| first | refine' G.w_dp ?_ | refine' G.w_dg ?_ | refine' G.w_da ?_)

/-! ### chains of owner changes -/
namespace G
open PySem L2
structure WOK (ps : List Int) (W : Int × Int → Option Int) : Prop where
  ends : ∀ r b, W r = some b → (b = r.1 ∨ b = r.2) ∧ r.1 ≠ r.2 ∧ r.1 ∈ ps ∧ r.2 ∈ ps
theorem WOK.at {ps : List Int} {W : Int × Int → Option Int} (h : WOK ps W) {r : Int × Int} {b : Int} (e : W r = some b) : b ∈ ps ∧ oth r b ∈ ps ∧ oth r b ≠ b ∧ oth r (oth r b) = b := by
  obtain ⟨x, n, p1, p2⟩ := h.ends r b e
  unfold oth
  rcases x with z | z
  · subst z; rw [if_pos rfl, if_neg (Ne.symm n)]; exact ⟨p1, p2, Ne.symm n, rfl⟩
  · subst z; rw [if_neg (Ne.symm n), if_pos rfl]; exact ⟨p2, p1, n, rfl⟩
abbrev Cam := Int → Option (Option (Int × Int))
def CV (H : Hp) (v : Option V) (x : Option (Option (Int × Int))) : Prop := match x with
  | none => v = none
  | some none => v = some .non
  | some (some r) => ∃ q, v = some (.ref q) ∧ H q = some (.tup [.int r.1, .int r.2])
theorem CV.keep {H H' : Hp} {v : Option V} {x : Option (Option (Int × Int))} (k : ∀ q xs, H q = some (.tup xs) → H' q = some (.tup xs)) (h : CV H v x) : CV H' v x := by
  cases x with
  | none => exact h
  | some y => cases y with
    | none => exact h
    | some r => obtain ⟨q, a, b⟩ := h; exact ⟨q, a, k _ _ b⟩
theorem CV.isSome {H : Hp} {v : Option V} {x : Option (Option (Int × Int))} (h : CV H v x) : v.isSome = x.isSome := by
  cases x with
  | none => rw [show v = none from h]; rfl
  | some y => cases y with
    | none => rw [show v = some .non from h]; rfl
    | some r => obtain ⟨q, a, b⟩ := h; rw [a]; rfl
structure CBAt (H : Hp) (d : Addr) (c : Cam) (rl : List Int) : Prop where
  ex : ∃ kvs : List (Key × V), H d = some (.dK kvs) ∧ kvs.map Prod.fst = rl.map Sum.inl ∧ ∀ k : Int, CV H (valV kvs (Sum.inl k)) (c k)
theorem CBAt.keep {H H' : Hp} {d : Addr} {c : Cam} {rl : List Int} (h : CBAt H d c rl) (e : ∀ kvs, H d = some (.dK kvs) → H' d = some (.dK kvs)) (k : ∀ q xs, H q = some (.tup xs) → H' q = some (.tup xs)) : CBAt H' d c rl :=
  let ⟨kvs, a, b, z⟩ := h.ex; ⟨kvs, e _ a, b, fun j => (z j).keep k⟩
theorem CBAt.same {H H' : Hp} {d : Addr} {c : Cam} {rl : List Int} (e : Same H H') (h : CBAt H d c rl) : CBAt H' d c rl := h.keep (fun _ a => e _ _ a) fun _ _ a => e _ _ a
theorem CBAt.mut {H : Hp} {d p : Addr} {o : HO} {c : Cam} {rl : List Int} (h : CBAt H d c rl) (n : d ≠ p) (t : ∀ xs, H p ≠ some (.tup xs)) : CBAt (upd H p o) d c rl :=
  h.keep (fun _ a => keepNe a n) fun q xs a => keepNe a fun z => t xs (by rw [← z]; exact a)
def camAdd (c : Cam) (k : Int) (r : Int × Int) : Cam := fun j => if j = k then some (some r) else c j
theorem CBAt.len {H : Hp} {d : Addr} {c : Cam} {rl : List Int} (h : CBAt H d c rl) {kvs : List (Key × V)} (e : H d = some (.dK kvs)) : kvs.length = rl.length := by
  obtain ⟨k2, a, b, _⟩ := h.ex
  rw [e] at a
  cases a
  have := congrArg List.length b
  rwa [List.length_map, List.length_map] at this
theorem CBAt.put {H : Hp} {d q : Addr} {c : Cam} {rl : List Int} {k : Int} {r : Int × Int} {kvs : List (Key × V)} (h : CBAt H d c rl) (e : H d = some (.dK kvs)) (hn : c k = none) (hq : H q = some (.tup [.int r.1, .int r.2])) : CBAt (upd H d (.dK (putK kvs (Sum.inl k) (.ref q)))) d (camAdd c k r) (rl ++ [k]) := by
  obtain ⟨k2, a, b, z⟩ := h.ex
  rw [e] at a
  cases a
  have tn : ∀ q xs, H q = some (.tup xs) → (upd H d (.dK (putK kvs (Sum.inl k) (.ref q)))) q = some (.tup xs) := fun q xs e2 => keepNe e2 (ne_of e2 e (by intro z; cases z))
  have no : valV kvs (Sum.inl k) = none := by have := z k; rw [hn] at this; exact this
  refine ⟨_, upd_same, ?_, fun j => ?_⟩
  · rw [putK_new _ no, List.map_append, List.map_append, b]; rfl
  · rw [valV_put]
    unfold camAdd
    by_cases cj : j = k
    · subst cj; rw [if_pos rfl, if_pos rfl]; exact ⟨q, rfl, keepNe hq (ne_of hq e (by intro z; cases z))⟩
    · rw [if_neg (fun z => cj (Sum.inl.inj z)), if_neg cj]
      exact (z j).keep fun q2 xs e2 => keepNe e2 (ne_of e2 e (by intro z; cases z))
structure Rch (ps : List Int) (W : Int × Int → Option Int) (st : List Int) (c : Cam) (rl : List Int) : Prop where
  dom : ∀ k, (c k).isSome = true ↔ k ∈ rl
  nd : rl.Nodup
  sub : ∀ k ∈ rl, k ∈ ps
  st : ∀ k, c k = some none ↔ k ∈ st
  pre : ∀ (j : Nat) (k : Int) (r : Int × Int), rl[j]? = some k → c k = some (some r) → ∃ (i : Nat) (b : Int), i < j ∧ rl[i]? = some b ∧ W r = some b ∧ oth r b = k
def cam0 (st : List Int) : Cam := fun k => if k ∈ st then some none else none
theorem Rch.start {ps st : List Int} {W : Int × Int → Option Int} (nd : st.Nodup) (sub : ∀ k ∈ st, k ∈ ps) : Rch ps W st (cam0 st) st where
  dom := fun k => by unfold cam0; by_cases c : k ∈ st <;> simp [c]
  nd := nd
  sub := sub
  st := fun k => by unfold cam0; by_cases c : k ∈ st <;> simp [c]
  pre := fun j k r _ h => by unfold cam0 at h; split at h <;> cases h
theorem Rch.add {ps st rl : List Int} {W : Int × Int → Option Int} {c : Cam} {i : Nat} {b : Int} {r : Int × Int} (h : Rch ps W st c rl) (hi : rl[i]? = some b) (hr : W r = some b) (hp : oth r b ∈ ps) (no : c (oth r b) = none) : Rch ps W st (camAdd c (oth r b) r) (rl ++ [oth r b]) := by
  have nin : oth r b ∉ rl := fun z => by have := (h.dom _).mpr z; rw [no] at this; cases this
  refine ⟨fun k => ?_, ?_, fun k hk => ?_, fun k => ?_, fun j k s hj hs => ?_⟩
  · unfold camAdd
    by_cases e : k = oth r b
    · rw [if_pos e]; simp [e]
    · rw [if_neg e, h.dom]; simp [e]
  · exact List.nodup_append.mpr ⟨h.nd, List.nodup_cons.mpr ⟨List.not_mem_nil, List.nodup_nil⟩, fun a ha b' hb z => nin ((show b' = oth r b by simpa using hb) ▸ z ▸ ha)⟩
  · rcases List.mem_append.mp hk with z | z
    · exact h.sub k z
    · rw [List.mem_singleton.mp z]; exact hp
  · unfold camAdd
    by_cases e : k = oth r b
    · rw [if_pos e, e]
      refine ⟨fun z => (by cases z), fun z => ?_⟩
      have := (h.st _).mpr z
      rw [no] at this; cases this
    · rw [if_neg e]; exact h.st k
  · have il : i < rl.length := (List.getElem?_eq_some_iff.mp hi).1
    have ri : (rl ++ [oth r b])[i]? = some b := by rw [List.getElem?_append_left il]; exact hi
    unfold camAdd at hs
    by_cases e : k = oth r b
    · rw [if_pos e] at hs
      cases hs
      refine ⟨i, b, ?_, ri, hr, e.symm⟩
      rcases Nat.lt_or_ge j rl.length with lt | ge
      · rw [List.getElem?_append_left lt] at hj
        exact absurd (List.mem_of_getElem? hj) (e ▸ nin)
      · omega
    · rw [if_neg e] at hs
      have jl : j < rl.length := by
        rcases Nat.lt_or_ge j rl.length with lt | ge
        · exact lt
        · rw [List.getElem?_append_right ge] at hj
          have := List.mem_of_getElem? hj
          exact absurd (List.mem_singleton.mp this) e
      rw [List.getElem?_append_left jl] at hj
      obtain ⟨i', b', lt, e1, e2⟩ := h.pre j k s hj hs
      exact ⟨i', b', lt, by rw [List.getElem?_append_left (by omega)]; exact e1, e2⟩
/-- all that the first m pages of the list own leads into the list -/
def Clo (W : Int × Int → Option Int) (rl : List Int) (m : Nat) : Prop := ∀ (j : Nat) (b : Int) (r : Int × Int), j < m → rl[j]? = some b → W r = some b → oth r b ∈ rl
theorem Clo.snoc {W : Int × Int → Option Int} {rl : List Int} {m : Nat} {k : Int} (h : Clo W rl m) (hm : m ≤ rl.length) : Clo W (rl ++ [k]) m := fun j b r hj e w => by
  rw [List.getElem?_append_left (by omega)] at e
  exact List.mem_append.mpr (.inl (h j b r hj e w))
def sp_Ownersfind_chain (K : PySem.W.Frag) (A : CA) : Sp := fun vs H Q _ => ∃ (o s : Addr) (g : OG) (F : Int → Int) (W : Int × Int → Option Int) (ar : List (Int × Int)) (st : List Int), vs = [.ref o, .ref s] ∧ OwnAt A H o g F W ar ∧ WOK g.ps W ∧ SqL K H s (st.map V.int) ∧ st.Nodup ∧ (∀ k ∈ st, k ∈ g.ps) ∧
  (∀ (last : Int) (c : Cam) (rl : List Int) (t d : Addr) (H' : Hp), Same H H' → H d = none → H' t = some (.tup [.int last, .ref d]) → CBAt H' d c rl → Rch g.ps W st c rl → last ∈ rl → 0 < F last → last ∉ st → Q (.ref t) H') ∧
  (∀ (c : Cam) (rl : List Int) (t d : Addr) (H' : Hp), Same H H' → H d = none → H' t = some (.tup [.non, .ref d]) → CBAt H' d c rl → Rch g.ps W st c rl → Clo W rl rl.length → (∀ k ∈ rl, k ∉ st → F k ≤ 0) → Q (.ref t) H')
theorem same_upd {H H' : Hp} {a : Addr} {o : HO} (e : Same H H') : Same (upd H a o) (upd H' a o) := fun b ob h => by
  by_cases c : b = a
  · subst c; rw [upd_same] at h ⊢; exact h
  · rw [upd_ne c] at h ⊢; exact e _ _ h
theorem same_back {H H' : Hp} {a : Addr} {o u : HO} (h : H a = some o) (e : Same (upd H a u) H') : Same H (upd H' a o) := fun b ob hb => by
  by_cases c : b = a
  · subst c; rw [h] at hb; rw [upd_same]; exact hb
  · rw [upd_ne c]; exact e _ _ (by rw [upd_ne c]; exact hb)
theorem w_dni {td ty : TE} {σ : L2.St} {H : Hp} {Q : VK} (h : ty σ H fun y H1 => td σ H1 fun x H2 => ∃ a o, x = V.ref a ∧ DGet H2 a y o ∧ Q (.bl (!o.isSome)) H2) : tDNotIn ty td σ H Q := h
theorem w_wl2 {c : TT} {tb : TS} {D : Ends} {σ : L2.St} {H : Hp} (W : Nat → L2.St → Hp → Prop) (m : Nat) (h0 : W m σ H) (hs : ∀ m σ H, W m σ H → ∃ b : Bool, (∀ Q : Bool → Hp → Prop, Q b H → c σ H Q) ∧ (b = true → tb { D with nx := fun σ' H' => ∃ m', m' < m ∧ W m' σ' H', ct := fun σ' H' => ∃ m', m' < m ∧ W m' σ' H', bk := D.nx } σ H) ∧ (b = false → D.nx σ H)) : tWhile c tb D σ H := by
  refine ⟨W, ⟨m, h0⟩, fun m σ H p => ?_⟩
  obtain ⟨b, h1, h2, h3⟩ := hs m σ H p
  refine h1 _ ?_
  cases b with
  | true => rw [if_pos rfl]; exact ⟨_, fun _ _ h => h, h2 rfl⟩
  | false => rw [if_neg Bool.false_ne_true]; exact h3 rfl
end G

end
section
local macro_rules | `(tactic| walk_at "call") => `(tactic| (refine' G.w_cnt ?g1 ?_; (case g1 => walk_at "sq")))

local macro_rules | `(tactic| walk_at "call") => `(tactic| (refine' G.w_popAt ?g1 ?g2 ?g3 ?g4 ?_; (case g1 => walk_at "hp"); (case g2 => walk_at "ar"); (case g3 => walk_at "ar"); (case g4 => walk_at "ar")))

local macro_rules | `(tactic| walk_at "call") => `(tactic| first | refine' G.w_dp ?_ | refine' G.w_dg ?_ | refine' G.w_da ?_)

local macro_rules | `(tactic| walk_at "call") => `(tactic| first | refine' G.w_dc ?_ | refine' G.w_lock ?_ | refine' G.w_forT ?_ | refine' G.w_dni ?_)

namespace G
open PySem L2
def t_Ownersfind_chain (K : PySem.W.Frag) (A : CA) : TS :=
  (tSeq (tAsg (tDc (iList K (tVar 1)) (gName 3) tYes (tVar 3) (tC .non) [3]) (gName 2))
  (tSeq (tAsg (tCB (oListOf K) (tCons (tVar 1) tNil)) (gName 4))
  (tSeq (tAsg (tC (.int 0)) (gName 5))
  (tSeq (tWhile (tTest (tOp oLt (tVar 5) (tCB (rLenQ K) (tCons (tVar 4) tNil)))) (tSeq (tAsg (tDGet (tFld K (tVar 0) "_owned") (tOp (rIxL K) (tVar 4) (tVar 5))) (gName 6))
  (tSeq (tLock (tFor (GT.iItemsT (tVar 6)) (gTup K 2 (gCons (gName 7) (gCons (gName 8) gNil)))
  (tIfS (tB (tDNotIn (tVar 8) (tVar 2))) (tSeq (sDPut (tVar 2) (tVar 8) (tVar 7))
  (tSeq (tIfS (tTest (tOp oGt (tDGet (tFld K (tVar 0) "_free") (tVar 8)) (tC (.int 0)))) (tRet (tTup (tCons (tVar 8) (tCons (tVar 2) tNil)))) tNext)
  (tDrop (tBM K "list" rAppend (tVar 4) (tCons (tVar 8) tNil))))) tNext)))
  (tAug 5 (tC (.int 1)) (ipI fun i j => i + j)))))
  (tRet (tTup (tCons (tC .non) (tCons (tVar 2) tNil))))))))

theorem rd_Ownersfind_chain {K : PySem.W.Frag} {A : CA} (T : CTW K A) {vs : List V} {H : Hp} {Q : VK} {E : XK} (h : sp_Ownersfind_chain K A vs H Q E) :
    t_Ownersfind_chain K A { nx := fun _ H' => Q .non H', rt := Q } (start ["self", "starts", "came_by", "page", "waiting", "at", "owned", "pointer", "other"] vs) H := by
  obtain ⟨o, s, g, F, W, ar, st, rfl, hO, hW, hs, nd, sub, k1, k2⟩ := h
  obtain ⟨dx, ho⟩ := hO.ob
  obtain ⟨kf, f1, f2, f3⟩ := hO.fr
  obtain ⟨ko, w1, w2, w3⟩ := hO.ow
  have len := hO.len
  have sl : st.length ≤ g.ps.length := nd_le nd sub
  unfold t_Ownersfind_chain
  walk_at "go"
  refine dcNone hs nd (by omega) (fun _ => rfl) (fun _ => rfl) fun d H1 hd e1 gd => ?_
  walk_at "go"
  intro l hl
  have e2 := e1.trans (same_new (o := .lst (st.map V.int)) hl)
  have gd2 := keep (o' := .lst (st.map V.int)) gd hl
  have dl : d ≠ l := ne_of_none gd hl
  have hlH := e1.free hl
  have gl2 : (upd H1 l (.lst (st.map V.int))) l = some (.lst (st.map V.int)) := upd_same
  generalize upd H1 l (.lst (st.map V.int)) = H2 at e2 gd2 gl2
  clear e1 gd hl
  walk_at "go"
  refine w_wl2 (fun m σ H' => ∃ (i : Nat) (c : Cam) (rl : List Int) (k3 k6 k7 k8 : Option V), m = g.ps.length - i ∧ σ = [some (.ref o), some (.ref s), some (.ref d), k3, some (.ref l), some (.int i), k6, k7, k8] ∧ Same H H' ∧ H' l = some (.lst (rl.map V.int)) ∧ CBAt H' d c rl ∧
    Rch g.ps W st c rl ∧ i ≤ rl.length ∧ Clo W rl i ∧ ∀ k ∈ rl, k ∉ st → F k ≤ 0) g.ps.length ?_ ?_
  · exact ⟨0, cam0 st, st, none, none, none, none, by omega, rfl, e2, gl2, ⟨nones st, gd2, by unfold nones; rw [List.map_map]; rfl, fun k => by unfold cam0; rw [valV_nones]; by_cases c : k ∈ st <;> simp [c, CV]⟩, Rch.start nd sub, Nat.zero_le _, (fun j b r hj => by omega), fun k hk hn => absurd hk hn⟩
  · clear gd2 gl2 e2
    rintro m σ H3 ⟨i, c, rl, k3, k6, k7, k8, rfl, rfl, e3, gl3, C3, R3, il, clo, fz⟩
    have rlen : rl.length ≤ g.ps.length := nd_le R3.nd R3.sub
    refine ⟨decide ((i : Int) < ((rl.map V.int).length : Nat)), fun Q q => (by walk_at "go"; exact q), fun hb => ?_, fun hb => ?_⟩
    · have hb := of_decide_eq_true hb
      rw [List.length_map] at hb
      have ilt : i < rl.length := by omega
      obtain ⟨b, hbi⟩ : ∃ b, rl[i]? = some b := ⟨_, List.getElem?_eq_getElem ilt⟩
      have bp := R3.sub b (List.mem_of_getElem? hbi)
      have hbv : (rl.map V.int)[i]? = some (.int b) := by rw [List.getElem?_map, hbi]; rfl
      obtain ⟨kvs, b1, b2⟩ := hO.ds b bp
      have la := b2.len hO.ar1
      walk_at "go"
      refine w_fld2 (e3 _ _ ho) T.c T.owned ow_owned ?_
      walk_at "go"
      refine w_dgK (e3 _ _ w1) (w2 b bp) ?_
      walk_at "go"
      refine ⟨g.D b, .dT kvs, e3 _ _ b1, trivial, fun od => ?_⟩
      have e4 := same_upd (a := g.D b) (o := .frz od (.dT kvs)) e3
      have nDl : l ≠ g.D b := fun z => by rw [z, b1] at hlH; cases hlH
      have nDd : d ≠ g.D b := fun z => by rw [z, b1] at hd; cases hd
      have gl4 := keepNe (o' := .frz od (.dT kvs)) gl3 nDl
      have C4 := C3.mut (o := .frz od (.dT kvs)) nDd (fun xs z => by rw [e3 _ _ b1] at z; cases z)
      have gD4 : (upd H3 (g.D b) (.frz od (.dT kvs))) (g.D b) = some (.frz od (.dT kvs)) := upd_same
      have ho4 := keepNe (o' := .frz od (.dT kvs)) ho (ne_of ho b1 (by intro z; cases z))
      have f14 := keepNe (o' := .frz od (.dT kvs)) f1 (ne_of f1 b1 (by intro z; cases z))
      generalize upd H3 (g.D b) (.frz od (.dT kvs)) = H4 at e4 gl4 C4 gD4
      clear e3 gl3 C3
      walk_at "go"
      refine ⟨g.D b, od, kvs, rfl, gD4, ?_⟩
      refine forT (fun j σ H' => ∃ (c : Cam) (rl : List Int) (k7 k8 : Option V), σ = [some (.ref o), some (.ref s), some (.ref d), k3, some (.ref l), some (.int i), some (.ref (g.D b)), k7, k8] ∧ Same (upd H (g.D b) (.frz od (.dT kvs))) H' ∧ H' l = some (.lst (rl.map V.int)) ∧ CBAt H' d c rl ∧
        Rch g.ps W st c rl ∧ rl[i]? = some b ∧ Clo W rl i ∧ (∀ k ∈ rl, k ∉ st → F k ≤ 0) ∧ ∀ (m : Nat) (r : Int × Int) (v : V), m < j → kvs[m]? = some (key r, v) → oth r b ∈ rl) ?_ ?_ ?_ ?_
      · exact ⟨c, rl, k7, k8, rfl, e4, gl4, C4, R3, hbi, clo, fz, fun m r v hm => by omega⟩
      · rintro j σ H5 _ ⟨c, rl, k7, k8, rfl, e5, _⟩
        exact e5 _ _ upd_same
      · clear e4 gl4 C4 gD4 R3 hbi clo fz hbv ilt hb rlen il
        rintro j kk v t q σ H5 hkv ⟨c, rl, k7', k8', rfl, e5, gl5, C5, R5, hbi, clo, fz, seen⟩ ht hq
        obtain ⟨r, er⟩ := b2.keys _ (List.mem_of_getElem? hkv)
        have er : kk = key r := er
        subst er
        have hv := valV_mem' b2.nd (List.mem_of_getElem? hkv)
        rw [b2.val] at hv
        have hwr : W r = some b := by
          split at hv
          · assumption
          · cases hv
        rw [if_pos hwr] at hv
        have hv := Option.some.inj hv
        subst hv
        obtain ⟨_, op, on, oo⟩ := hW.at hwr
        have hq : H5 q = some (.tup [.int r.1, .int r.2]) := hq
        have eT := same_new (o := .tup [.ref q, V.int (oth r b)]) ht
        have gT : (upd H5 t (.tup [.ref q, V.int (oth r b)])) t = some (.tup [.ref q, V.int (oth r b)]) := upd_same
        have e6 := e5.trans eT
        have gl6 := keep (o' := .tup [.ref q, V.int (oth r b)]) gl5 ht
        have C6 := C5.same eT
        have hq6 := keep (o' := .tup [.ref q, V.int (oth r b)]) hq ht
        generalize upd H5 t (.tup [.ref q, V.int (oth r b)]) = H6 at eT gT e6 gl6 C6 hq6
        clear e5 gl5 C5 ht hq eT
        have seen' : oth r b ∈ rl → ∀ (m : Nat) (r' : Int × Int) (v : V), m < j + 1 → kvs[m]? = some (key r', v) → oth r' b ∈ rl := fun hin m r' v hm e => by
          rcases Nat.lt_or_ge m j with lt | ge
          · exact seen m r' v lt e
          · have : m = j := by omega
            subst this
            rw [hkv] at e
            have e1 : key r = key r' := congrArg Prod.fst (Option.some.inj e)
            rw [← key_inj e1]; exact hin
        obtain ⟨kc, d6, dk, dv⟩ := C6.ex
        have hcv := (dv (oth r b)).isSome
        have ho6 := e6 _ _ ho4
        have f16 := e6 _ _ f14
        have rlen : rl.length ≤ g.ps.length := nd_le R5.nd R5.sub
        have kl := C6.len d6
        have tn : ∀ {p : Addr} {xs : List V}, H6 p = some (.tup xs) → p ≠ d := fun e => ne_of e d6 (by intro z; cases z)
        walk_at "go"
        refine ⟨d, _, rfl, DGet.k (k := Sum.inl (oth r b)) d6, _, rfl, ?_⟩
        cases hc : c (oth r b) with
        | some y =>
          rw [show (valV kc (Sum.inl (oth r b))).isSome = true by rw [hcv, hc]; rfl]
          refine w_iteNT ?_
          walk_at "go"
          exact ⟨c, rl, _, _, rfl, e6, gl6, C6, R5, hbi, clo, fz, seen' ((R5.dom _).mp (by rw [hc]; rfl))⟩
        | none =>
          rw [show (valV kc (Sum.inl (oth r b))).isSome = false by rw [hcv, hc]; rfl]
          refine w_iteNF ?_
          have oln : oth r b ∉ rl := fun z => by have := (R5.dom _).mpr z; rw [hc] at this; cases this
          have ols : oth r b ∉ st := fun z => by have := (R5.st _).mpr z; rw [hc] at this; cases this
          walk_at "go"
          refine w_dpK d6 (by omega) ?_
          have C7 := C6.put d6 hc hq6
          have R7 := R5.add hbi hwr op hc
          have clo7 := clo.snoc (k := oth r b) (by have := (List.getElem?_eq_some_iff.mp hbi).1; omega)
          have dH : (upd H (g.D b) (.frz od (.dT kvs))) d = none := by rw [upd_ne nDd]; exact hd
          have e7 := same_mut (o := .dK (putK kc (Sum.inl (oth r b)) (.ref q))) e6 dH
          have gl7 := keepNe (o' := .dK (putK kc (Sum.inl (oth r b)) (.ref q))) gl6 (Ne.symm dl)
          have ho7 := keepNe (o' := .dK (putK kc (Sum.inl (oth r b)) (.ref q))) ho6 (ne_of ho6 d6 (by intro z; cases z))
          have f17 := keepNe (o' := .dK (putK kc (Sum.inl (oth r b)) (.ref q))) f16 (fun z => by rw [z, hd] at f1; cases f1)
          generalize upd H6 d (.dK (putK kc (Sum.inl (oth r b)) (.ref q))) = H7 at C7 e7 gl7 ho7 f17
          clear e6 gl6 C6 ho6 f16 d6 dv hcv tn gT hq6
          have hbi7 : (rl ++ [oth r b])[i]? = some b := by rw [List.getElem?_append_left (List.getElem?_eq_some_iff.mp hbi).1]; exact hbi
          have seen7 : ∀ (m : Nat) (r' : Int × Int) (v : V), m < j + 1 → kvs[m]? = some (key r', v) → oth r' b ∈ rl ++ [oth r b] := fun m r' v hm e => by
            rcases Nat.lt_or_ge m j with lt | ge
            · exact List.mem_append.mpr (.inl (seen m r' v lt e))
            · have : m = j := by omega
              subst this
              rw [hkv] at e
              have e1 : key r = key r' := congrArg Prod.fst (Option.some.inj e)
              rw [← key_inj e1]; exact List.mem_append.mpr (.inr List.mem_cons_self)
          walk_at "go"
          refine w_fld2 ho7 T.c T.free ow_free ?_
          walk_at "go"
          refine w_dgK f17 (by rw [f2, if_pos op]) ?_
          walk_at "go"
          refine w_iteD (fun fp => ?_) (fun fn => ?_)
          · walk_at "go"
            intro t2 ht2
            walk_at "go"
            have e8 := e7.trans (same_new (o := .tup [V.int (oth r b), .ref d]) ht2)
            have C8 := C7.same (same_new (o := .tup [V.int (oth r b), .ref d]) ht2)
            have g8 : (upd H7 t2 (.tup [V.int (oth r b), .ref d])) t2 = some (.tup [V.int (oth r b), .ref d]) := upd_same
            generalize upd H7 t2 (.tup [V.int (oth r b), .ref d]) = H8 at e8 C8 g8
            have gD8 := e8 _ _ (upd_same (H := H) (a := g.D b) (o := .frz od (.dT kvs)))
            have ntD : t2 ≠ g.D b := ne_of g8 gD8 (by intro z; cases z)
            refine ⟨gD8, ?_⟩
            exact k1 _ _ _ t2 d _ (same_back b1 e8) hd (keepNe g8 ntD) (C8.mut nDd (fun xs z => by rw [gD8] at z; cases z)) R7 (List.mem_append.mpr (.inr List.mem_cons_self)) fp ols
          · walk_at "go"
            have lH : (upd H (g.D b) (.frz od (.dT kvs))) l = none := by rw [upd_ne nDl]; exact hlH
            refine ⟨camAdd c (oth r b) r, rl ++ [oth r b], _, _, rfl, same_mut e7 lH, by rw [upd_same, List.map_append]; rfl, C7.mut dl (fun xs z => by rw [gl7] at z; cases z), R7, hbi7, clo7, fun k hk hn => ?_, seen7⟩
            rcases List.mem_append.mp hk with z | z
            · exact fz k z hn
            · rw [List.mem_singleton.mp z]; omega
      · rintro σ H5 ⟨c, rl, k7', k8', rfl, e5, gl5, C5, R5, hbi, clo, fz, seen⟩
        have gD5 := e5 _ _ (upd_same (H := H) (a := g.D b) (o := .frz od (.dT kvs)))
        refine ⟨gD5, ?_⟩
        have e6 := same_back b1 e5
        have gl6 := keepNe (o' := .dT kvs) gl5 nDl
        have C6 := C5.mut (o := .dT kvs) nDd (fun xs z => by rw [gD5] at z; cases z)
        generalize upd H5 (g.D b) (.dT kvs) = H6 at e6 gl6 C6
        walk_at "go"
        have il2 := (List.getElem?_eq_some_iff.mp hbi).1
        have rl2 : rl.length ≤ g.ps.length := nd_le R5.nd R5.sub
        refine ⟨g.ps.length - (i + 1), by omega, i + 1, c, rl, _, _, _, _, rfl, rfl, e6, gl6, C6, R5, by omega, fun j b' r' hj e w => ?_, fz⟩
        rcases Nat.lt_or_ge j i with lt | ge
        · exact clo j b' r' lt e w
        · have : j = i := by omega
          subst this
          rw [hbi] at e
          cases e
          have hv := b2.val r'
          rw [if_pos w] at hv
          obtain ⟨m, hm⟩ := List.getElem?_of_mem (valV_in hv)
          exact seen m r' _ (List.getElem?_eq_some_iff.mp hm).1 hm
    · have hb := of_decide_eq_false hb
      rw [List.length_map] at hb
      walk_at "go"
      intro t2 ht2
      walk_at "go"
      have e8 := e3.trans (same_new (o := .tup [V.non, .ref d]) ht2)
      have : i = rl.length := by omega
      subst this
      exact k2 _ _ t2 d _ e8 hd upd_same (C3.same (same_new ht2)) R3 clo fz
end G

end
section
local macro_rules | `(tactic| walk_at "call") => `(tactic| (refine' G.w_cnt ?g1 ?_; (case g1 => walk_at "sq")))

local macro_rules | `(tactic| walk_at "call") => `(tactic| (refine' G.w_popAt ?g1 ?g2 ?g3 ?g4 ?_; (case g1 => walk_at "hp"); (case g2 => walk_at "ar"); (case g3 => walk_at "ar"); (case g4 => walk_at "ar")))

local macro_rules | `(tactic| walk_at "call") => `(tactic| first | refine' G.w_dp ?_ | refine' G.w_dg ?_ | refine' G.w_da ?_)

local macro_rules | `(tactic| walk_at "call") => `(tactic| first | refine' G.w_dc ?_ | refine' G.w_lock ?_ | refine' G.w_forT ?_ | refine' G.w_dni ?_)

/-! ### the shift of owners along a chain -/
namespace G
open PySem L2
def cntW (ar : List (Int × Int)) (W : Int × Int → Option Int) (k : Int) : Nat := ar.countP fun r => decide (W r = some k)
theorem cnt_set {W : Int × Int → Option Int} {r : Int × Int} {a b : Int} (hr : W r = some b) (n : a ≠ b) (k : Int) : ∀ {ar : List (Int × Int)}, ar.Nodup →
    (cntW ar (setW W r a) k : Int) = cntW ar W k + (if r ∈ ar then (if k = a then 1 else 0) - (if k = b then 1 else 0) else 0)
  | [], _ => by simp [cntW]
  | s :: ar, hn => by
    rw [List.nodup_cons] at hn
    have ih := cnt_set hr n k hn.2
    unfold cntW at ih ⊢
    rw [List.countP_cons, List.countP_cons]
    by_cases c : s = r
    · subst c
      rw [if_neg hn.1] at ih
      rw [if_pos List.mem_cons_self]
      have e1 : setW W s a s = some a := by unfold setW; rw [if_pos rfl]
      rw [e1, hr]
      by_cases ka : k = a
      · subst ka
        have kb : ¬ (some b = some k) := fun z => n (Option.some.inj z).symm
        simp [kb, n]; omega
      · by_cases kb : k = b
        · subst kb
          have : ¬ (some a = some k) := fun z => n (Option.some.inj z)
          simp [n.symm, this]; omega
        · have h1 : ¬ (some a = some k) := fun z => ka (Option.some.inj z).symm
          have h2 : ¬ (some b = some k) := fun z => kb (Option.some.inj z).symm
          simp [h1, h2, ka, kb]; omega
    · have e1 : setW W r a s = W s := by unfold setW; rw [if_neg c]
      rw [e1]
      have : (r ∈ s :: ar) ↔ r ∈ ar := by simp [Ne.symm c]
      simp only [this]
      push_cast
      omega
/-- owners of the pointers of ar, the free lines by it -/
structure Dl (ps : List Int) (bl : Int → Int) (ar : List (Int × Int)) (F : Int → Int) (W : Int × Int → Option Int) : Prop where
  wok : WOK ps W
  dom : ∀ r, W r ≠ none ↔ r ∈ ar
  nd : ar.Nodup
  cnt : ∀ k ∈ ps, F k + (cntW ar W k : Int) = bl k
theorem Dl.hand {ps : List Int} {bl : Int → Int} {ar : List (Int × Int)} {F : Int → Int} {W : Int × Int → Option Int} {r : Int × Int} {b : Int} (h : Dl ps bl ar F W) (hr : W r = some b) : Dl ps bl ar (shF F b (oth r b)) (setW W r (oth r b)) := by
  obtain ⟨bp, op, on, oo⟩ := h.wok.at hr
  have rin : r ∈ ar := (h.dom r).mp (by rw [hr]; exact fun z => nomatch z)
  refine ⟨⟨fun s x hs => ?_⟩, fun s => ?_, h.nd, fun k hk => ?_⟩
  · unfold setW at hs
    by_cases c : s = r
    · subst c
      rw [if_pos rfl] at hs
      cases hs
      obtain ⟨_, e⟩ := h.wok.ends s b hr
      refine ⟨?_, e⟩
      unfold oth
      split
      · exact .inr rfl
      · exact .inl rfl
    · rw [if_neg c] at hs; exact h.wok.ends s x hs
  · unfold setW
    by_cases c : s = r
    · subst c; rw [if_pos rfl]; exact ⟨fun _ => rin, fun _ z => nomatch z⟩
    · rw [if_neg c]; exact h.dom s
  · have := h.cnt k hk
    rw [cnt_set hr on k h.nd, if_pos rin]
    unfold shF
    omega
def shE (F : Int → Int) (s last : Int) : Int → Int := fun k => F k + (if k = s then 1 else 0) - (if k = last then 1 else 0)
theorem ow_nohand {g : OG} : (owFs g).lookup ("hand_over" : Str) = none := by
  unfold owFs
  rw [lookup_putF, if_neg (by decide +kernel), lookup_putF, if_neg (by decide +kernel), lookup_putF, if_neg (by decide +kernel)]
  rfl
def sp_Ownersshift (K : PySem.W.Frag) (A : CA) : Sp := fun vs H Q _ => ∃ (o d : Addr) (last : Int) (g : OG) (F : Int → Int) (W : Int × Int → Option Int) (ar : List (Int × Int)) (bl : Int → Int) (st rl : List Int) (c : Cam), vs = [.ref o, .ref d, .int last] ∧ OwnAt A H o g F W ar ∧ Dl g.ps bl ar F W ∧ CBAt H d c rl ∧ Rch g.ps W st c rl ∧ last ∈ rl ∧ ¬ g.has d ∧
  ∀ (s : Int) (F' : Int → Int) (W' : Int × Int → Option Int) (H' : Hp), Kept g H H' → OwnAt A H' o g F' W' ar → Dl g.ps bl ar F' W' → s ∈ st → (∀ k, F' k = shE F s last k) → Q (.int s) H'
def t_Ownersshift (K : PySem.W.Frag) (A : CA) : TS :=
  (tSeq (tAsg (tVar 2) (gName 3))
  (tSeq (tWhile (tB (tNotN (tDGet (tVar 1) (tVar 3)))) (tSeq (tAsg (tDGet (tVar 1) (tVar 3)) (gName 4))
  (tSeq (tAsg (tDGet (tFld K (tVar 0) "_owner") (tVar 4)) (gName 3))
  (tDrop (tMeth A.Owners "hand_over" (sp_Owners_hand_over K A) [] E0 (tVar 0) (tCons (tVar 4) tNil))))))
  (tRet (tVar 3))))

theorem rd_Ownersshift {K : PySem.W.Frag} {A : CA} (T : CTW K A) {vs : List V} {H : Hp} {Q : VK} {E : XK} (h : sp_Ownersshift K A vs H Q E) :
    t_Ownersshift K A { nx := fun _ H' => Q .non H', rt := Q } (start ["self", "came_by", "last", "page", "pointer"] vs) H := by
  obtain ⟨o, d, last, g, F, W, ar, bl, st, rl, c, rfl, hO, hD, hC, hR, hlast, nd, q⟩ := h
  obtain ⟨j0, hj0⟩ := List.getElem?_of_mem hlast
  unfold t_Ownersshift
  walk_at "go"
  refine w_wl2 (fun m σ H' => ∃ (page : Int) (k4 : Option V) (F' : Int → Int) (W' : Int × Int → Option Int), σ = [some (.ref o), some (.ref d), some (.int last), some (.int page), k4] ∧ Kept g H H' ∧ OwnAt A H' o g F' W' ar ∧ Dl g.ps bl ar F' W' ∧ CBAt H' d c rl ∧ rl[m]? = some page ∧
    (∀ k, F' k = shE F page last k) ∧ ∀ (j : Nat) (k : Int) (r : Int × Int), j ≤ m → rl[j]? = some k → c k = some (some r) → W' r = W r) j0 ?_ ?_
  · exact ⟨last, none, F, W, rfl, Kept.rfl, hO, hD, hC, hj0, fun k => by unfold shE; omega, fun _ _ _ _ _ _ => rfl⟩
  · rintro m σ H1 ⟨page, k4, F1, W1, rfl, K1, O1, D1, C1, hp, hF, hsame⟩
    obtain ⟨dx, ho⟩ := O1.ob
    obtain ⟨kn, o1, o2, o3⟩ := O1.on
    obtain ⟨kc, d1, dk, dv⟩ := C1.ex
    have hin := List.mem_of_getElem? hp
    have hcs := (hR.dom page).mpr hin
    have hcv := dv page
    cases hc : c page with
    | none => rw [hc] at hcs; cases hcs
    | some y =>
      rw [hc] at hcv
      cases y with
      | none =>
        have hcv : valV kc (Sum.inl page) = some .non := hcv
        refine ⟨false, fun Q q => ?_, fun z => (by cases z), fun _ => ?_⟩
        · walk_at "go"
          refine w_notN ?_
          walk_at "go"
          refine w_dgK d1 hcv ?_
          exact ⟨false, rfl, q⟩
        · walk_at "go"
          exact q page F1 W1 H1 K1 O1 D1 ((hR.st _).mp hc) hF
      | some r =>
        obtain ⟨p, hcv, hpt⟩ := hcv
        refine ⟨true, fun Q q => ?_, fun _ => ?_, fun z => (by cases z)⟩
        · walk_at "go"
          refine w_notN ?_
          walk_at "go"
          refine w_dgK d1 hcv ?_
          exact ⟨true, rfl, q⟩
        · obtain ⟨i, b, ij, hi, hw, ho1⟩ := hR.pre m page r hp hc
          have hw1 : W1 r = some b := by rw [hsame m page r (Nat.le_refl _) hp hc]; exact hw
          obtain ⟨bp, op, on, oo⟩ := D1.wok.at hw1
          walk_at "go"
          refine w_dgK d1 hcv ?_
          walk_at "go"
          refine w_fld2 ho T.c T.owner ow_owner ?_
          walk_at "go"
          refine w_dgT o1 hpt (by rw [o2, hw1]; rfl) ?_
          walk_at "go"
          refine w_mth2 ho ow_nohand ?_
          walk_at "go"
          refine ⟨o, p, g, F1, W1, ar, r, b, rfl, O1, hpt, hw1, bp, op, on, oo, fun H2 K2 O2 => ?_⟩
          have D2 := D1.hand hw1
          have nd1 : ∀ q xs, H1 q = some (.tup xs) → H2 q = some (.tup xs) := fun q xs e => K2 _ _ (O1.tup e) e
          have C2 := C1.keep (fun kvs e => K2 _ _ nd e) nd1
          refine ⟨i, ij, b, _, _, _, rfl, K1.trans K2, O2, D2, C2, hi, fun k => ?_, fun j k r' hj hk hc' => ?_⟩
          · have := hF k
            rw [ho1]
            unfold shE shF at *
            omega
          · rw [← hsame j k r' (by omega) hk hc']
            unfold setW
            rw [if_neg]
            intro z
            subst z
            obtain ⟨i', b', ij', hi', hw', ho'⟩ := hR.pre j k _ hk hc'
            rw [hw] at hw'
            cases hw'
            rw [ho1] at ho'
            subst ho'
            obtain ⟨a1, a2⟩ := List.getElem?_eq_some_iff.mp hk
            obtain ⟨c1, c2⟩ := List.getElem?_eq_some_iff.mp hp
            exact List.pairwise_iff_getElem.mp hR.nd j m a1 c1 (by omega) (a2.trans c2.symm)
end G

end
section
local macro_rules | `(tactic| walk_at "call") => `(tactic| (refine' G.w_cnt ?g1 ?_; (case g1 => walk_at "sq")))

local macro_rules | `(tactic| walk_at "call") => `(tactic| (refine' G.w_popAt ?g1 ?g2 ?g3 ?g4 ?_; (case g1 => walk_at "hp"); (case g2 => walk_at "ar"); (case g3 => walk_at "ar"); (case g4 => walk_at "ar")))

local macro_rules | `(tactic| walk_at "call") => `(tactic| first | refine' G.w_dp ?_ | refine' G.w_dg ?_ | refine' G.w_da ?_)

local macro_rules | `(tactic| walk_at "call") => `(tactic| first | refine' G.w_dc ?_ | refine' G.w_lock ?_ | refine' G.w_forT ?_ | refine' G.w_dni ?_)

/-! ### lots -/
namespace G
open PySem L2
def bsum (f : Int → Int) : List Int → Int
  | [] => 0
  | k :: l => f k + bsum f l
theorem bsum_perm {f : Int → Int} {l m : List Int} (p : l.Perm m) : bsum f l = bsum f m := by
  induction p with
  | nil => rfl
  | cons x _ ih => show _ + _ = _ + _; rw [ih]
  | swap x y l => show _ + (_ + _) = _ + (_ + _); omega
  | trans _ _ a b => rw [a, b]
theorem bsum_congr {f g : Int → Int} : ∀ {l : List Int}, (∀ k ∈ l, f k = g k) → bsum f l = bsum g l
  | [], _ => rfl
  | k :: l, h => by
    show f k + bsum f l = g k + bsum g l
    rw [h k List.mem_cons_self, bsum_congr fun j hj => h j (List.mem_cons_of_mem _ hj)]
theorem bsum_le {f g : Int → Int} : ∀ {l : List Int}, (∀ k ∈ l, f k ≤ g k) → bsum f l ≤ bsum g l
  | [], _ => Int.le_refl _
  | k :: l, h => by
    show f k + bsum f l ≤ g k + bsum g l
    have := h k List.mem_cons_self
    have := bsum_le (l := l) fun j hj => h j (List.mem_cons_of_mem _ hj)
    omega
theorem bsum_add {f g : Int → Int} : ∀ {l : List Int}, bsum (fun k => f k + g k) l = bsum f l + bsum g l
  | [] => rfl
  | k :: l => by
    show f k + g k + bsum _ l = f k + bsum f l + (g k + bsum g l)
    rw [bsum_add]; omega
theorem bsum_one {x : Option Int} : ∀ {l : List Int}, l.Nodup → bsum (fun k => if x = some k then 1 else 0) l = if (∃ k ∈ l, x = some k) then 1 else 0
  | [], _ => by rw [if_neg (by rintro ⟨k, hk, _⟩; cases hk)]; rfl
  | k :: l, h => by
    rw [List.nodup_cons] at h
    show (if x = some k then 1 else 0) + bsum _ l = _
    rw [bsum_one h.2]
    by_cases c : x = some k
    · rw [if_pos c, if_neg, if_pos ⟨k, List.mem_cons_self, c⟩]; rfl
      rintro ⟨j, hj, e⟩
      rw [c] at e
      exact h.1 (by rw [Option.some.inj e]; exact hj)
    · rw [if_neg c]
      by_cases d : ∃ j ∈ l, x = some j
      · rw [if_pos d, if_pos (let ⟨j, hj, e⟩ := d; ⟨j, List.mem_cons_of_mem _ hj, e⟩)]; rfl
      · rw [if_neg d, if_neg]
        · rfl
        · rintro ⟨j, hj, e⟩
          rcases List.mem_cons.mp hj with z | z
          · exact c (by rw [e, z])
          · exact d ⟨j, z, e⟩
/-- the pointers within a lot -/
def inLot (R : List Int) (r : Int × Int) : Bool := decide (r.1 ∈ R) && decide (r.2 ∈ R)
def wthn (R : List Int) (ar : List (Int × Int)) : Nat := ar.countP (inLot R)
theorem inLot_iff {R : List Int} {r : Int × Int} : inLot R r = true ↔ r.1 ∈ R ∧ r.2 ∈ R := by unfold inLot; simp
theorem bsum_cnt {W : Int × Int → Option Int} {R : List Int} (nd : R.Nodup) : ∀ {ar : List (Int × Int)}, bsum (fun k => (cntW ar W k : Int)) R = (ar.countP fun r => decide (∃ k ∈ R, W r = some k) : Nat)
  | [] => by
    show bsum (fun _ => 0) R = 0
    induction R with
    | nil => rfl
    | cons k l ih => show 0 + bsum _ l = 0; rw [ih (List.nodup_cons.mp nd).2]; rfl
  | s :: ar => by
    have ih := bsum_cnt (W := W) nd (ar := ar)
    have e : (fun k => (cntW (s :: ar) W k : Int)) = fun k => (cntW ar W k : Int) + if W s = some k then 1 else 0 := by
      funext k
      unfold cntW
      rw [List.countP_cons]
      by_cases c : W s = some k <;> simp [c]
    rw [e, bsum_add, ih, bsum_one nd, List.countP_cons]
    by_cases c : ∃ k ∈ R, W s = some k
    · rw [if_pos c, if_pos (by simpa using c)]; push_cast; rfl
    · rw [if_neg c, if_neg (by simpa using c)]; push_cast; rfl
/-- pages ascending, with fewer blank lines than pointers within -/
structure Lot (ps : List Int) (bl : Int → Int) (ar : List (Int × Int)) (R : List Int) : Prop where
  asc : R.Pairwise (· < ·)
  sub : ∀ k ∈ R, k ∈ ps
  short : bsum bl R < (wthn R ar : Int)
theorem lot_of {ps st rl : List Int} {bl F : Int → Int} {ar : List (Int × Int)} {W : Int × Int → Option Int} {c : Cam} {r : Int × Int} (D : Dl ps bl ar F W) (R : Rch ps W st c rl) (C : Clo W rl rl.length) (fz : ∀ k ∈ rl, F k ≤ 0) (h1 : r.1 ∈ rl) (h2 : r.2 ∈ rl) {S : List Int} (p : S.Perm rl) (so : S.Pairwise (· ≤ ·)) : Lot ps bl (ar ++ [r]) S := by
  have nd : S.Nodup := p.nodup_iff.mpr R.nd
  refine ⟨?_, fun k hk => R.sub k (p.mem_iff.mp hk), ?_⟩
  · refine List.pairwise_iff_getElem.mpr fun i j hi hj ij => ?_
    have a := List.pairwise_iff_getElem.mp so i j hi hj ij
    have b := List.pairwise_iff_getElem.mp nd i j hi hj ij
    omega
  · have hb : bsum bl S ≤ bsum (fun k => (cntW ar W k : Int)) S := bsum_le fun k hk => by
      have m := p.mem_iff.mp hk
      have a := D.cnt k (R.sub k m)
      have b := fz k m
      omega
    rw [bsum_cnt nd] at hb
    have hle : (ar.countP fun r => decide (∃ k ∈ S, W r = some k)) ≤ ar.countP (inLot S) := by
      refine List.countP_mono_left fun s hs he => ?_
      obtain ⟨k, hk, e⟩ := of_decide_eq_true he
      have km := p.mem_iff.mp hk
      obtain ⟨j, hj⟩ := List.getElem?_of_mem km
      have om := C j k s (List.getElem?_eq_some_iff.mp hj).1 hj e
      rw [inLot_iff, p.mem_iff, p.mem_iff]
      obtain ⟨x, _⟩ := D.wok.ends s k e
      unfold oth at om
      rcases x with z | z
      · subst z; rw [if_pos rfl] at om; exact ⟨km, om⟩
      · split at om
        · next c => rw [← c]; exact ⟨km, om⟩
        · rw [← z]; exact ⟨om, km⟩
    unfold wthn
    rw [List.countP_append]
    have : List.countP (inLot S) [r] = 1 := by
      rw [List.countP_cons, List.countP_nil, if_pos (inLot_iff.mpr ⟨p.mem_iff.mpr h1, p.mem_iff.mpr h2⟩)]
    rw [this]
    push_cast
    omega
end G

end
section
local macro_rules | `(tactic| walk_at "call") => `(tactic| (refine' G.w_cnt ?g1 ?_; (case g1 => walk_at "sq")))

local macro_rules | `(tactic| walk_at "call") => `(tactic| (refine' G.w_popAt ?g1 ?g2 ?g3 ?g4 ?_; (case g1 => walk_at "hp"); (case g2 => walk_at "ar"); (case g3 => walk_at "ar"); (case g4 => walk_at "ar")))

local macro_rules | `(tactic| walk_at "call") => `(tactic| first | refine' G.w_dp ?_ | refine' G.w_dg ?_ | refine' G.w_da ?_)

local macro_rules | `(tactic| walk_at "call") => `(tactic| first | refine' G.w_dc ?_ | refine' G.w_lock ?_ | refine' G.w_forT ?_ | refine' G.w_dni ?_)

/-! ### Owners.add_pointer -/
namespace G
open PySem L2
theorem cnt_same {W W' : Int × Int → Option Int} {k : Int} : ∀ {ar : List (Int × Int)}, (∀ s ∈ ar, W' s = W s) → cntW ar W' k = cntW ar W k := fun {ar} h => by
  unfold cntW
  refine List.countP_congr fun s hs => ?_
  rw [h s hs]
def fDec (F : Int → Int) (s : Int) : Int → Int := fun k => F k - if k = s then 1 else 0
theorem Dl.add {ps : List Int} {bl : Int → Int} {ar : List (Int × Int)} {F : Int → Int} {W : Int × Int → Option Int} {r : Int × Int} {s : Int} (h : Dl ps bl ar F W) (hn : r ∉ ar) (p1 : r.1 ∈ ps) (p2 : r.2 ∈ ps) (ne : r.1 ≠ r.2) (hs : s = r.1 ∨ s = r.2) : Dl ps bl (ar ++ [r]) (fDec F s) (setW W r s) := by
  refine ⟨⟨fun t x ht => ?_⟩, fun t => ?_, ?_, fun k hk => ?_⟩
  · unfold setW at ht
    by_cases c : t = r
    · subst c; rw [if_pos rfl] at ht; cases ht; exact ⟨hs, ne, p1, p2⟩
    · rw [if_neg c] at ht; exact h.wok.ends t x ht
  · unfold setW
    by_cases c : t = r
    · subst c; rw [if_pos rfl]; exact ⟨fun _ => by simp, fun _ z => nomatch z⟩
    · rw [if_neg c, h.dom]; simp [c]
  · exact List.nodup_append.mpr ⟨h.nd, List.nodup_cons.mpr ⟨List.not_mem_nil, List.nodup_nil⟩, fun a ha b hb z => hn ((show b = r by simpa using hb) ▸ z ▸ ha)⟩
  · have := h.cnt k hk
    have e : cntW (ar ++ [r]) (setW W r s) k = cntW ar W k + if s = k then 1 else 0 := by
      have e0 : cntW (ar ++ [r]) (setW W r s) k = cntW ar (setW W r s) k + cntW [r] (setW W r s) k := List.countP_append
      rw [e0, cnt_same (W := W) (fun t ht => by unfold setW; rw [if_neg (fun z => hn (by rw [← z]; exact ht))])]
      congr 1
      unfold cntW
      rw [List.countP_cons, List.countP_nil]
      unfold setW
      rw [if_pos rfl]
      by_cases c : s = k <;> simp [c]
    rw [e]
    unfold fDec
    by_cases c : k = s
    · subst c; rw [if_pos rfl, if_pos rfl]; push_cast; omega
    · rw [if_neg c, if_neg (Ne.symm c)]; push_cast; omega
theorem w_listDo {H : Hp} {Q : VK} {p : Addr} {kvs : List (Key × V)} {rl : List Int} (h : H p = some (.dK kvs)) (e : kvs.map Prod.fst = rl.map Sum.inl) (q : ∀ l, H l = none → Q (.ref l) (upd H l (.lst (rl.map V.int)))) : rListD [.ref p] H Q := by
  refine ⟨p, kvs, rfl, h, fun l hl => ?_⟩
  have e2 : (kvs.map fun kv => L2.kV kv.1) = rl.map V.int := by
    have := congrArg (List.map L2.kV) e
    rw [List.map_map, List.map_map] at this
    exact this
  rw [e2]
  exact q l hl
theorem ow_nofind {g : OG} : (owFs g).lookup ("_find_chain" : Str) = none := by
  unfold owFs
  rw [lookup_putF, if_neg (by decide +kernel), lookup_putF, if_neg (by decide +kernel), lookup_putF, if_neg (by decide +kernel)]
  rfl
theorem ow_noshift {g : OG} : (owFs g).lookup ("_shift" : Str) = none := by
  unfold owFs
  rw [lookup_putF, if_neg (by decide +kernel), lookup_putF, if_neg (by decide +kernel), lookup_putF, if_neg (by decide +kernel)]
  rfl
def sp_Owners_add_pointer (K : PySem.W.Frag) (A : CA) : Sp := fun vs H Q _ => ∃ (o p : Addr) (g : OG) (F : Int → Int) (W : Int × Int → Option Int) (ar : List (Int × Int)) (bl : Int → Int) (r : Int × Int), vs = [.ref o, .ref p] ∧ OwnAt A H o g F W ar ∧ Dl g.ps bl ar F W ∧ (∀ k ∈ g.ps, 0 ≤ F k) ∧ H p = some (.tup [.int r.1, .int r.2]) ∧ r.1 ≠ r.2 ∧ r.1 ∈ g.ps ∧ r.2 ∈ g.ps ∧ r ∉ ar ∧ ar.length < 600 ∧
  (∀ (F' : Int → Int) (W' : Int × Int → Option Int) (H' : Hp), Kept g H H' → OwnAt A H' o g F' W' (ar ++ [r]) → Dl g.ps bl (ar ++ [r]) F' W' → (∀ k ∈ g.ps, 0 ≤ F' k) → Q .non H') ∧
  (∀ (R : List Int) (l : Addr) (H' : Hp), Same H H' → H l = none → H' l = some (.lst (R.map V.int)) → Lot g.ps bl (ar ++ [r]) R → Q (.ref l) H')
def t_Owners_add_pointer (K : PySem.W.Frag) (A : CA) : TS :=
  (tSeq (tAsg (tVar 1) (gTup K 2 (gCons (gName 2) (gCons (gName 3) gNil))))
  (tSeq (tAsg (tIf (tTest (tOp oGe (tDGet (tFld K (tVar 0) "_free") (tVar 2)) (tDGet (tFld K (tVar 0) "_free") (tVar 3)))) (tVar 2) (tVar 3)) (gName 4))
  (tSeq (tIfS (tTest (tOp oLe (tDGet (tFld K (tVar 0) "_free") (tVar 4)) (tC (.int 0)))) (tSeq (tAsg (tMeth A.Owners "_find_chain" (sp_Ownersfind_chain K A) [] E0 (tVar 0) (tCons (tLst (tCons (tVar 2) (tCons (tVar 3) tNil))) tNil)) (gTup K 2 (gCons (gName 5) (gCons (gName 6) gNil))))
  (tSeq (tIfS (tB (tIsN (tVar 5))) (tRet (tCB (rSortedI K) (tCons (tCB rListD (tCons (tVar 6) tNil)) tNil))) tNext)
  (tAsg (tMeth A.Owners "_shift" (sp_Ownersshift K A) [] E0 (tVar 0) (tCons (tVar 6) (tCons (tVar 5) tNil))) (gName 4)))) tNext)
  (tSeq (sDAug (tFld K (tVar 0) "_free") (tVar 4) (tC (.int 1)) (ipI fun i j => i - j))
  (tSeq (sDPut (tDGet (tFld K (tVar 0) "_owned") (tVar 4)) (tVar 1) (tIf (tTest (tOp rEq (tVar 4) (tVar 2))) (tVar 3) (tVar 2)))
  (tSeq (sDPut (tFld K (tVar 0) "_owner") (tVar 1) (tVar 4))
  (tRet (tC .non))))))))

theorem rd_Owners_add_pointer {K : PySem.W.Frag} {A : CA} (T : CTW K A) {vs : List V} {H : Hp} {Q : VK} {E : XK} (h : sp_Owners_add_pointer K A vs H Q E) :
    t_Owners_add_pointer K A { nx := fun _ H' => Q .non H', rt := Q } (start ["self", "pointer", "holder", "target", "start", "last", "came_by"] vs) H := by
  obtain ⟨o, p, g, F, W, ar, bl, r, rfl, hO, hD, hF, hp, ne, p1, p2, hn, hl, k1, k2⟩ := h
  obtain ⟨dx, ho⟩ := hO.ob
  obtain ⟨kf, f1, f2, f3⟩ := hO.fr
  have fin : ∀ (s : Int) (F1 : Int → Int) (W1 : Int × Int → Option Int) (H1 : Hp) (k5 k6 : Option V), Kept g H H1 → OwnAt A H1 o g F1 W1 ar → Dl g.ps bl ar F1 W1 → (∀ k ∈ g.ps, 0 ≤ F1 k) → 0 < F1 s → (s = r.1 ∨ s = r.2) →
    (tSeq (sDAug (tFld K (tVar 0) "_free") (tVar 4) (tC (.int 1)) (ipI fun i j => i - j))
      (tSeq (sDPut (tDGet (tFld K (tVar 0) "_owned") (tVar 4)) (tVar 1) (tIf (tTest (tOp rEq (tVar 4) (tVar 2))) (tVar 3) (tVar 2)))
      (tSeq (sDPut (tFld K (tVar 0) "_owner") (tVar 1) (tVar 4))
      (tRet (tC .non))))) { nx := fun _ H' => Q .non H', rt := Q } [some (.ref o), some (.ref p), some (.int r.1), some (.int r.2), some (.int s), k5, k6] H1 := by
    clear k2 f1 f2 f3 ho hF
    intro s F1 W1 H1 k5 k6 K1 O1 D1 P1 s0 hs
    have sp : s ∈ g.ps := by rcases hs with z | z <;> rw [z] <;> assumption
    have hp1 := K1 _ _ (hO.tup hp) hp
    obtain ⟨dx, ho⟩ := O1.ob
    obtain ⟨kf, f1, f2, f3⟩ := O1.fr
    obtain ⟨ko, w1, w2, w3⟩ := O1.ow
    obtain ⟨kn, o1, o2, o3⟩ := O1.on
    obtain ⟨ks, s1, s2⟩ := O1.ds s sp
    have len := O1.len
    have ls := s2.len O1.ar1
    have wn : W1 r = none := by
      cases e : W1 r with
      | none => rfl
      | some x => exact absurd ((D1.dom r).mp (by rw [e]; exact fun z => nomatch z)) hn
    have ofr : o ≠ g.fr := ne_of ho f1 (by intro z; cases z)
    have oDs : o ≠ g.D s := ne_of ho s1 (by intro z; cases z)
    have oon : o ≠ g.on := ne_of ho o1 (by intro z; cases z)
    have wDs : g.ow ≠ g.D s := ne_of w1 s1 (by intro z; cases z)
    have won : g.ow ≠ g.on := ne_of w1 o1 (by intro z; cases z)
    have fDs : g.fr ≠ g.D s := ne_of f1 s1 (by intro z; cases z)
    have fon : g.fr ≠ g.on := ne_of f1 o1 (by intro z; cases z)
    have pfr : p ≠ g.fr := ne_of hp1 f1 (by intro z; cases z)
    have pDs : p ≠ g.D s := ne_of hp1 s1 (by intro z; cases z)
    have nso := O1.n2 s sp
    walk_at "go"
    refine w_fld2 ho T.c T.free ow_free ?_
    walk_at "go"
    have fs : valV kf (Sum.inl s) = some (.int (F1 s)) := by rw [f2, if_pos sp]
    refine ⟨g.fr, _, rfl, (by rw [← fs]; exact DGet.k (k := Sum.inl s) f1), ?_⟩
    walk_at "go"
    refine ⟨_, DPut.k (k := Sum.inl s) f1 (by rw [sizeLine_eq]; omega), ?_⟩
    walk_at "go"
    refine w_iteD (fun c => ?_) (fun c => ?_)
    all_goals (
      walk_at "go"
      refine w_fld2 (keepNe ho ofr) T.c T.owned ow_owned ?_
      walk_at "go"
      refine w_dgK (keepNe w1 hO.n1.symm) (w2 s sp) ?_
      walk_at "go"
      refine w_dpT (r := r) (keepNe s1 fDs.symm) (keepNe hp1 pfr) (by omega) ?_
      walk_at "go"
      refine w_fld2 (keepNe (keepNe ho ofr) oDs) T.c T.owner ow_owner ?_
      walk_at "go"
      refine w_dpT (r := r) (keepNe (keepNe o1 fon.symm) nso.symm) (keepNe (keepNe hp1 pfr) pDs) (by omega) ?_
      walk_at "go"
      refine k1 (fDec F1 s) (setW W1 r s) _ (((K1.mut (.inl rfl)).mut (.inr (.inr (.inr ⟨s, sp, rfl⟩)))).mut (.inr (.inr (.inl rfl)))) ?_ (D1.add hn p1 p2 ne hs) (fun k hk => ?_)
      · refine ⟨⟨dx, keepNe (keepNe (keepNe ho ofr) oDs) oon⟩, ⟨_, keepNe (keepNe upd_same fDs) fon, fun j => ?_, ?_⟩, ⟨ko, keepNe (keepNe (keepNe w1 hO.n1.symm) wDs) won, w2, w3⟩, ⟨_, upd_same, fun t => ?_, ?_⟩, fun j hj => ?_, O1.n1, O1.n2, O1.n3, fun t ht => ?_, ?_, O1.len.2⟩
        · rw [valV_put, f2]
          unfold fDec
          by_cases e : j = s
          · subst e; rw [if_pos rfl, if_pos sp, if_pos rfl]
          · rw [if_neg (fun z => e (Sum.inl.inj z)), if_neg e]
            split
            · congr 2; omega
            · rfl
        · rw [putK_len fs]; exact f3
        · rw [valV_put, o2]
          unfold setW
          by_cases e : t = r
          · subst e; rw [if_pos rfl, if_pos rfl]; rfl
          · rw [if_neg (fun z => e (key_inj z)), if_neg e]
        · have := length_putK kn (key r) (V.int s)
          rw [List.length_append]; simp only [List.length_cons, List.length_nil]; omega
        · have jf : g.D j ≠ g.fr := by obtain ⟨_, e, _⟩ := O1.ds j hj; exact ne_of e f1 (by intro z; cases z)
          by_cases e : j = s
          · subst e
            refine ⟨_, keepNe upd_same nso, fun t => ?_, fun x hx => ?_, nd_put s2.nd⟩
            · rw [valV_put, s2.val]
              unfold setW
              by_cases e : t = r
              · subst e; rw [if_pos rfl, if_pos rfl, if_pos rfl]; unfold oth; first | rw [if_pos c] | rw [if_neg c]
              · rw [if_neg (fun z => e (key_inj z)), if_neg e]
            · rcases putK_in hx with z | ⟨e', he', z⟩
              · exact ⟨r, z⟩
              · obtain ⟨t, es⟩ := s2.keys e' he'; exact ⟨t, by rw [← z, es]⟩
          · obtain ⟨kvs, a, P⟩ := O1.ds j hj
            refine ⟨kvs, keepNe (keepNe (keepNe a jf) (fun z => e (O1.n3 _ hj _ sp z))) (O1.n2 j hj), fun t => ?_, P.keys, P.nd⟩
            rw [P.val]
            unfold setW
            by_cases e2 : t = r
            · subst e2; rw [if_pos rfl, wn, if_neg (fun z => nomatch z), if_neg (fun z => e (Option.some.inj z).symm)]
            · rw [if_neg e2]
        · unfold setW at ht
          by_cases e : t = r
          · subst e; simp
          · rw [if_neg e] at ht; exact List.mem_append.mpr (.inl (O1.ar1 t ht))
        · rw [List.length_append]; simp only [List.length_cons, List.length_nil]; omega
      · have := P1 k hk
        unfold fDec
        by_cases e : k = s
        · subst e; rw [if_pos rfl]; omega
        · rw [if_neg e]; omega)
  unfold t_Owners_add_pointer
  walk_at "go"
  refine w_fld2 ho T.c T.free ow_free ?_
  walk_at "go"
  refine w_dgK f1 (by rw [f2, if_pos p1]) ?_
  walk_at "go"
  refine w_fld2 ho T.c T.free ow_free ?_
  walk_at "go"
  refine w_dgK f1 (by rw [f2, if_pos p2]) ?_
  walk_at "go"
  refine w_iteD (fun cm => ?_) (fun cm => ?_)
  all_goals (
    walk_at "go"
    refine w_fld2 ho T.c T.free ow_free ?_
    walk_at "go"
    refine w_dgK f1 (by rw [f2, if_pos (by assumption)]) ?_
    walk_at "go"
    refine w_iteD (fun c0 => ?_) (fun c0 => ?_)
    · walk_at "go"
      refine w_mth2 ho ow_nofind ?_
      walk_at "go"
      intro l hl
      have e1 := same_new (o := .lst [V.int r.1, V.int r.2]) hl
      have gl : (upd H l (.lst [V.int r.1, V.int r.2])) l = some (.lst ([r.1, r.2].map V.int)) := upd_same
      generalize upd H l (.lst [V.int r.1, V.int r.2]) = H1 at e1 gl
      walk_at "go"
      have nd2 : [r.1, r.2].Nodup := by simp [ne]
      have sub2 : ∀ k ∈ [r.1, r.2], k ∈ g.ps := fun k hk => by
        rcases List.mem_cons.mp hk with z | z
        · rw [z]; exact p1
        · rw [List.mem_singleton.mp z]; exact p2
      refine ⟨o, l, g, F, W, ar, [r.1, r.2], rfl, hO.same e1, hD.wok, SqL.of gl, nd2, sub2, fun last c rl t d H2 e2 hd gt C2 R2 hin fp nin => ?_, fun c rl t d H2 e2 hd gt C2 R2 clo fz => ?_⟩
      · have E2 := e1.trans e2
        have hdH := e1.free hd
        walk_at "go"
        refine w_isNr ?_
        walk_at "go"
        refine w_iteF ?_
        walk_at "go"
        refine w_mth2 (E2 _ _ ho) ow_noshift ?_
        walk_at "go"
        have nhd : ¬ g.has d := fun z => by rcases hO.kinds z with ⟨k, e⟩ | ⟨k, e⟩ <;> rw [hdH] at e <;> cases e
        refine ⟨o, d, last, g, F, W, ar, bl, [r.1, r.2], rl, c, rfl, hO.same E2, hD, C2, R2, hin, nhd, fun s F' W' H3 K3 O3 D3 hs hF' => ?_⟩
        have hs2 : s = r.1 ∨ s = r.2 := by simpa using hs
        have snl : s ≠ last := fun z => nin (z ▸ hs)
        have sps := sub2 s hs
        refine fin s F' W' H3 _ _ ((Kept.of E2).trans K3) O3 D3 (fun k hk => ?_) ?_ hs2
        · have a := hF k hk
          rw [hF' k]
          unfold shE
          by_cases kl : k = last
          · subst kl; rw [if_pos rfl]; split <;> omega
          · rw [if_neg kl]; split <;> omega
        · have a := hF s sps
          rw [hF' s]
          unfold shE
          rw [if_pos rfl, if_neg snl]; omega
      · have E2 := e1.trans e2
        walk_at "go"
        refine w_isNr ?_
        walk_at "go"
        refine w_iteT ?_
        walk_at "go"
        obtain ⟨kc, d1, dk, dv⟩ := C2.ex
        refine w_listDo d1 dk fun l3 hl3 => ?_
        have e3 := same_new (o := .lst (rl.map V.int)) hl3
        have gl3 : (upd H2 l3 (.lst (rl.map V.int))) l3 = some (.lst (rl.map V.int)) := upd_same
        generalize upd H2 l3 (.lst (rl.map V.int)) = H3 at e3 gl3
        walk_at "go"
        refine w_sortI (SqL.of gl3) fun S l4 pS so hl4 => ?_
        walk_at "go"
        have in1 : r.1 ∈ rl := (R2.dom _).mp (by rw [(R2.st _).mpr List.mem_cons_self]; rfl)
        have in2 : r.2 ∈ rl := (R2.dom _).mp (by rw [(R2.st _).mpr (List.mem_cons_of_mem _ List.mem_cons_self)]; rfl)
        refine k2 S l4 _ ((E2.trans e3).trans (same_new hl4)) ((E2.trans e3).free hl4) upd_same (lot_of hD R2 clo (fun k hk => ?_) in1 in2 pS so)
        by_cases m : k ∈ [r.1, r.2]
        · rcases List.mem_cons.mp m with z | z
          · rw [z]; omega
          · rw [List.mem_singleton.mp z]; omega
        · exact fz k hk m
    · refine w_next ?_
      first
        | exact fin r.1 F W H none none Kept.rfl hO hD hF (by omega) (.inl rfl)
        | exact fin r.2 F W H none none Kept.rfl hO hD hF (by omega) (.inr rfl))
end G

end
section
local macro_rules | `(tactic| walk_at "call") => `(tactic| (refine' G.w_cnt ?g1 ?_; (case g1 => walk_at "sq")))

local macro_rules | `(tactic| walk_at "call") => `(tactic| (refine' G.w_popAt ?g1 ?g2 ?g3 ?g4 ?_; (case g1 => walk_at "hp"); (case g2 => walk_at "ar"); (case g3 => walk_at "ar"); (case g4 => walk_at "ar")))

local macro_rules | `(tactic| walk_at "call") => `(tactic| (refine' G.i_whole ?_))

local macro_rules | `(tactic| walk_at "call") => `(tactic| first | refine' G.w_dp ?_ | refine' G.w_dg ?_ | refine' G.w_da ?_)

local macro_rules | `(tactic| walk_at "call") => `(tactic| first | refine' G.w_dc ?_ | refine' G.w_lock ?_ | refine' G.w_forT ?_ | refine' G.w_dni ?_)

/-! ### deal -/
namespace G
open PySem L2 GX
def Fresh (g : OG) (H : Hp) : Prop := ∀ b, g.has b → H b = none
theorem Fresh.same {g : OG} {H H1 H2 : Hp} (f : Fresh g H) (e : Same H H1) (k : Kept g H1 H2) : Same H H2 := fun b ob h => k b ob (fun z => by rw [f b z] at h; cases h) (e _ _ h)
def sp_entered (K : PySem.W.Frag) (A : CA) : Sp := fun vs H Q _ => ∃ (st pl w : Addr) (n L : Int) (rs : List (Int × Int)) (bs ps : List Int), vs = [.ref st, .ref pl] ∧ StAt A H st w n rs L bs ∧ BK L n.toNat bs ∧ 1 ≤ n ∧ n ≤ 500 ∧ SqL K H pl (ps.map V.int) ∧ ps.Nodup ∧ ps.length ≤ 500 ∧ (∀ k ∈ ps, 0 ≤ k ∧ k < n) ∧
  ∀ (o : Addr) (g : OG) (F : Int → Int) (H' : Hp), Same H H' → H o = none → g.ps = ps → Fresh g H → OwnAt A H' o g F (fun _ => none) [] → (∀ k ∈ ps, F k = bs.getD k.toNat 0) → Q (.ref o) H'
theorem ow_noenter {g : OG} : (owFs g).lookup ("enter" : Str) = none := by
  unfold owFs
  rw [lookup_putF, if_neg (by decide +kernel), lookup_putF, if_neg (by decide +kernel), lookup_putF, if_neg (by decide +kernel)]
  rfl
theorem ow_noadd {g : OG} : (owFs g).lookup ("add_pointer" : Str) = none := by
  unfold owFs
  rw [lookup_putF, if_neg (by decide +kernel), lookup_putF, if_neg (by decide +kernel), lookup_putF, if_neg (by decide +kernel)]
  rfl
theorem ow_noowner {g : OG} : (owFs g).lookup ("owner_of" : Str) = none := by
  unfold owFs
  rw [lookup_putF, if_neg (by decide +kernel), lookup_putF, if_neg (by decide +kernel), lookup_putF, if_neg (by decide +kernel)]
  rfl
theorem st_noblank_of {w lb : Addr} {l : Int} : (stFs w l lb).lookup ("blank_of" : Str) = none := by
  unfold stFs
  rw [lookup_putF, if_neg (by decide +kernel), lookup_putF, if_neg (by decide +kernel), lookup_putF, if_neg (by decide +kernel)]
  rfl
def t_entered (K : PySem.W.Frag) (A : CA) : TS :=
  (tSeq (tAsg (tMake A.Owners (sp_Owners_init K A) [] E0 tNil) (gName 2))
  (tSeq (tFor (iList K (tVar 1)) (gName 3)
  (tDrop (tMeth A.Owners "enter" (sp_Owners_enter K A) [] E0 (tVar 2) (tCons (tVar 3) (tCons (tMeth A.Standing "blank_of" (sp_Standing_blank_of K A) [] E0 (tVar 0) (tCons (tVar 3) tNil)) tNil)))))
  (tRet (tVar 2))))

theorem rd_entered {K : PySem.W.Frag} {A : CA} (T : CTS K A) (TW : CTW K A) {vs : List V} {H : Hp} {Q : VK} {E : XK} (h : sp_entered K A vs H Q E) :
    t_entered K A { nx := fun _ H' => Q .non H', rt := Q } (start ["standing", "pages", "owners", "page"] vs) H := by
  obtain ⟨st, pl, w, n, L, rs, bs, ps, rfl, hS, hB, n1, n2, hp, nd, pl5, pin, q⟩ := h
  obtain ⟨dx, lb, h1, h2⟩ := hS.ex
  unfold t_entered
  walk_at "go"
  intro o dO ho hdO ndO
  refine ⟨H, o, dO, rfl, rfl, ho, hdO, ndO, fun g0 H1 e1 g0p f0 O1 => ⟨rfl, ?_⟩⟩
  walk_at "go"
  refine forL (xs := ps.map V.int) (fun i σ H' => ∃ (k3 : Option V) (g : OG) (F : Int → Int), σ = [some (.ref st), some (.ref pl), some (.ref o), k3] ∧ Same H H' ∧ g.ps = ps.take i ∧ Fresh g H ∧ OwnAt A H' o g F (fun _ => none) [] ∧ ∀ k ∈ ps.take i, F k = bs.getD k.toNat 0) ?_ ?_ ?_ ?_
  · exact ⟨none, g0, _, rfl, e1, g0p, f0, O1, fun k hk => by cases hk⟩
  · rintro i σ H2 _ ⟨k3, g, F, rfl, e2, _⟩
    exact e2.seq hp
  · rintro i x σ H2 hx ⟨k3, g, F, rfl, e2, gp, fg, O2, hF⟩
    obtain ⟨k, hk, rfl⟩ : ∃ k, ps[i]? = some k ∧ V.int k = x := by
      rw [List.getElem?_map] at hx
      cases hs : ps[i]? with
      | none => rw [hs] at hx; cases hx
      | some z => rw [hs] at hx; exact ⟨z, rfl, Option.some.inj hx⟩
    obtain ⟨k0, k1⟩ := pin k (List.mem_of_getElem? hk)
    obtain ⟨d2, ho2⟩ := O2.ob
    have il := (List.getElem?_eq_some_iff.mp hk).1
    have nin : k ∉ ps.take i := fun hm => by
      obtain ⟨i', hi'⟩ := List.getElem?_of_mem hm
      rw [List.getElem?_take] at hi'
      split at hi'
      · next c =>
        obtain ⟨a1, a2⟩ := List.getElem?_eq_some_iff.mp hi'
        obtain ⟨b1, b2⟩ := List.getElem?_eq_some_iff.mp hk
        exact List.pairwise_iff_getElem.mp nd i' i a1 b1 c (a2.trans b2.symm)
      · cases hi'
    have tk : ps.take (i + 1) = ps.take i ++ [k] := by rw [List.take_succ, hk]; rfl
    walk_at "go"
    refine w_mth2 ho2 ow_noenter ?_
    walk_at "go"
    refine w_mth2 (e2 _ _ h1) st_noblank_of ?_
    walk_at "go"
    refine ⟨st, w, n, L, k, rs, bs, rfl, hS.same e2, hB, n1, n2, fun z => ?_, fun _ _ H3 e3 => ?_⟩
    · rw [isOut_in k0 k1] at z; cases z
    walk_at "go"
    have gl : g.ps.length < 1000 := by rw [gp, List.length_take]; omega
    refine ⟨o, g, F, fun _ => none, [], k, bs.getD k.toNat 0, rfl, O2.same e3, by rw [gp]; exact nin, (fun r z => (by cases z)), gl, fun d H4 hd K4 O4 => ?_⟩
    walk_at "go"
    have E3 := e2.trans e3
    refine ⟨_, ogAdd g k d, _, rfl, fg.same E3 K4, by rw [tk, ← gp]; rfl, fun b hb => ?_, O4, fun j hj => ?_⟩
    · rcases hb with e | e | e | ⟨j, hj, e⟩
      · exact fg b (.inl e)
      · exact fg b (.inr (.inl e))
      · exact fg b (.inr (.inr (.inl e)))
      · have e : b = if j = k then d else g.D j := e
        by_cases c : j = k
        · rw [if_pos c] at e; rw [e]; exact E3.free hd
        · rw [if_neg c] at e
          have hj : j ∈ g.ps ++ [k] := hj
          exact fg b (.inr (.inr (.inr ⟨j, by simpa [c] using hj, e⟩)))
    · unfold fAdd
      by_cases c : j = k
      · rw [if_pos c, c]
      · rw [if_neg c]
        rw [tk] at hj
        exact hF j (by simpa [c] using hj)
  · rintro σ H2 ⟨k3, g, F, rfl, e2, gp, fg, O2, hF⟩
    rw [List.length_map, List.take_length] at gp hF
    walk_at "go"
    exact q o g F H2 e2 ho gp fg O2 hF
end G
namespace G
open PySem L2 GX
/-- who owns each pointer, in the order of the pointers: a dealing -/
structure Deal (n : Int) (bl : Int → Int) (ar : List (Int × Int)) (W : Int × Int → Option Int) : Prop where
  own : ∀ r ∈ ar, ∃ k, W r = some k ∧ (k = r.1 ∨ k = r.2)
  cnt : ∀ k : Int, 0 ≤ k → k < n → (cntW ar W k : Int) ≤ bl k
def blF (bs : List Int) : Int → Int := fun k => bs.getD k.toNat 0
def rng (n : Int) : List Int := (List.range n.toNat).map fun i => ((i : Nat) : Int)
theorem rng_mem {n k : Int} : k ∈ rng n ↔ 0 ≤ k ∧ k < n := by
  unfold rng
  rw [List.mem_map]
  constructor
  · rintro ⟨i, hi, rfl⟩
    have := List.mem_range.mp hi
    omega
  · rintro ⟨a, b⟩
    exact ⟨k.toNat, List.mem_range.mpr (by omega), by omega⟩
theorem rng_nd {n : Int} : (rng n).Nodup := by
  unfold rng
  refine List.pairwise_map.mpr (List.Pairwise.imp (fun {a b} h z => h (by omega)) List.nodup_range)
theorem rng_len {n : Int} : (rng n).length = n.toNat := by unfold rng; rw [List.length_map, List.length_range]
def sp_dealt (K : PySem.W.Frag) (A : CA) : Sp := fun vs H Q E => ∃ (st w : Addr) (n L : Int) (rs : List (Int × Int)) (bs : List Int), vs = [.ref st] ∧ StAt A H st w n rs L bs ∧ BK L n.toNat bs ∧ 1 ≤ n ∧ n ≤ 500 ∧ RG n rs ∧
  (∀ R : List Int, Lot (rng n) (blF bs) rs R → GS.RaisedL A.ShortLot R H E) ∧
  (∀ (o : Addr) (g : OG) (F : Int → Int) (W : Int × Int → Option Int) (H' : Hp), Same H H' → H o = none → Fresh g H → g.ps = rng n → OwnAt A H' o g F W rs → Dl g.ps (blF bs) rs F W → (∀ k ∈ g.ps, 0 ≤ F k) → Q (.ref o) H')
structure CTL (K : PySem.W.Frag) (A : CA) : Prop where
  sup : GS.SupC K A.ShortLot A.LotError
  lot : PySem.W.findIn K (.ref A.ShortLot) "lot" = some none
theorem Lot.mono {ps : List Int} {bl : Int → Int} {ar br : List (Int × Int)} {S : List Int} (h : Lot ps bl ar S) : Lot ps bl (ar ++ br) S :=
  ⟨h.asc, h.sub, by have := h.short; unfold wthn at *; rw [List.countP_append]; push_cast; omega⟩
theorem rgok {n : Int} (n1 : 1 ≤ n) (n2 : n ≤ 500) : RgOk 0 n := by
  exact RgOk.of_le (by omega) (by omega) (by omega) (by omega)
def t_dealt (K : PySem.W.Frag) (A : CA) (E : XK) : TS :=
  (tSeq (tAsg (tCall (sp_entered K A) [] E0 (tCons (tVar 0) (tCons (tLstRg (tRg1 (tFld K (tFld K (tVar 0) "web") "pages"))) tNil))) (gName 1))
  (tSeq (tFor (iList K (tMeth A.Web "arrows" (sp_Web_arrows K A) [] E0 (tFld K (tVar 0) "web") tNil)) (gName 2)
  (tSeq (tAsg (tMeth A.Owners "add_pointer" (sp_Owners_add_pointer K A) [] E0 (tVar 1) (tCons (tVar 2) tNil)) (gName 3))
  (tIfS (tB (tNotN (tVar 3))) (GX.tRaiseO A.ShortLot (GS.sp_lot K A.LotError) E (tCons (tVar 3) tNil)) tNext)))
  (tRet (tVar 1))))

theorem rd_dealt {K : PySem.W.Frag} {A : CA} (T : CTS K A) (TW : CTW K A) (TL : CTL K A) {vs : List V} {H : Hp} {Q : VK} {E : XK} (h : sp_dealt K A vs H Q E) :
    t_dealt K A E { nx := fun _ H' => Q .non H', rt := Q } (start ["standing", "owners", "pointer", "lot"] vs) H := by
  obtain ⟨st, w, n, L, rs, bs, rfl, hS, hB, n1, n2, hR, k1, k2⟩ := h
  obtain ⟨dx, lb, h1, h2⟩ := hS.ex
  obtain ⟨dw, d0, a0, tg, hd0, g1⟩ := hS.web.obj
  unfold t_dealt
  walk_at "go"
  refine w_fld2 h1 T.c_Standing T.n_Standing_web st_web ?_
  refine w_fld2 g1 T.b.c_Web T.b.n_Web_pages web_pages ?_
  walk_at "go"
  refine ⟨rgok n1 n2, fun q0 hq0 => ?_⟩
  have erg : rgV 0 n = (rng n).map V.int := by
    have := rng_ints n.toNat
    rw [show ((n.toNat : Nat) : Int) = n by omega] at this
    exact this
  have e0 := same_new (o := .lst (rgV 0 n)) hq0
  have gq0 : (upd H q0 (.lst (rgV 0 n))) q0 = some (.lst ((rng n).map V.int)) := by rw [upd_same, erg]
  generalize upd H q0 (.lst (rgV 0 n)) = H0 at e0 gq0
  walk_at "go"
  refine ⟨st, q0, w, n, L, rs, bs, rng n, rfl, hS.same e0, hB, n1, n2, SqL.of gq0, rng_nd, by rw [rng_len]; omega, fun k hk => rng_mem.mp hk, fun o g F0 H1 e1 hoo gp fg O1 hF0 => ?_⟩
  have E1 := e0.trans e1
  walk_at "go"
  refine w_fld2 (E1 _ _ h1) T.c_Standing T.n_Standing_web st_web ?_
  refine w_mth2 (E1 _ _ g1) web_noarrows ?_
  walk_at "go"
  refine ⟨w, n, rs, rfl, (hS.same E1).web, fun us ar H2 har e2 gar P2 ul => ?_⟩
  have E2 := E1.trans e2
  have fg0 : Fresh g H := fun b hb => e0.free (fg b hb)
  have lrs := P2.length
  walk_at "go"
  have D0 : Dl g.ps (blF bs) [] F0 (fun _ => none) := ⟨⟨fun r b z => nomatch z⟩, fun r => ⟨fun z => absurd rfl z, fun z => nomatch z⟩, List.nodup_nil, fun k hk => by
    rw [gp] at hk
    rw [hF0 k hk]
    show bs.getD k.toNat 0 + ((0 : Nat) : Int) = bs.getD k.toNat 0
    omega⟩
  have bpos : ∀ k ∈ g.ps, 0 ≤ F0 k := fun k hk => by
    rw [gp] at hk
    have kb := rng_mem.mp hk
    obtain ⟨b, b1, b2, b3, _⟩ := hB.get (k := k) kb.1 (by omega)
    rw [hF0 k hk, List.getD_eq_getElem?_getD, b1]
    show 0 ≤ b
    first | exact b2 | exact b3 | omega
  have O2 := O1.same e2
  have nar : ¬ g.has ar := fun z => by rcases O2.kinds z with ⟨k, e⟩ | ⟨k, e⟩ <;> rw [gar] at e <;> cases e
  refine forL (xs := us) (fun i σ H' => ∃ (k2 k3 : Option V) (F : Int → Int) (W : Int × Int → Option Int), σ = [some (.ref st), some (.ref o), k2, k3] ∧ Kept g H2 H' ∧ OwnAt A H' o g F W (rs.take i) ∧ Dl g.ps (blF bs) (rs.take i) F W ∧ ∀ k ∈ g.ps, 0 ≤ F k) ?_ ?_ ?_ ?_
  · exact ⟨none, none, F0, _, rfl, Kept.rfl, O2, D0, bpos⟩
  · rintro i σ H3 _ ⟨_, _, F, W, rfl, K3, _⟩
    exact SqL.of (K3 _ _ nar gar)
  · rintro i x σ H3 hx ⟨k2', k3', F, W, rfl, K3, O3, D3, P3⟩
    obtain ⟨r, hr, p, rfl, hp⟩ := Paired.at' P2 hx
    have hp3 := K3 _ _ (O2.tup hp) hp
    obtain ⟨d3, ho3⟩ := O3.ob
    obtain ⟨r1, r2, r3, r4, r5⟩ := hR.bd r (List.mem_of_getElem? hr)
    have il := (List.getElem?_eq_some_iff.mp hr).1
    have tk : rs.take (i + 1) = rs.take i ++ [r] := by rw [List.take_succ, hr]; rfl
    have nin : r ∉ rs.take i := fun hm => by
      obtain ⟨i', hi'⟩ := List.getElem?_of_mem hm
      rw [List.getElem?_take] at hi'
      split at hi'
      · next c =>
        obtain ⟨a1, a2⟩ := List.getElem?_eq_some_iff.mp hi'
        obtain ⟨b1, b2⟩ := List.getElem?_eq_some_iff.mp hr
        exact List.pairwise_iff_getElem.mp hR.nd i' i a1 b1 c (a2.trans b2.symm)
      · cases hi'
    walk_at "go"
    refine w_mth2 ho3 ow_noadd ?_
    walk_at "go"
    refine ⟨o, p, g, F, W, rs.take i, blF bs, r, rfl, O3, D3, P3, hp3, r5, by rw [gp]; exact rng_mem.mpr ⟨r1, r2⟩, by rw [gp]; exact rng_mem.mpr ⟨r3, r4⟩, nin, by rw [List.length_take]; omega, fun F' W' H4 K4 O4 D4 P4 => ?_, fun R l H4 e4 hl gl hL => ?_⟩
    · walk_at "go"
      refine w_notN ?_
      walk_at "go"
      refine w_iteF ?_
      walk_at "go"
      exact ⟨_, _, F', W', rfl, K3.trans K4, by rw [tk]; exact O4, by rw [tk]; exact D4, P4⟩
    · walk_at "go"
      refine w_notN ?_
      walk_at "go"
      refine w_iteT ?_
      have Rn : R.Nodup := hL.asc.imp fun h z => by omega
      have Rs : ∀ k ∈ R, k ∈ rng n := fun k hk => gp ▸ hL.sub k hk
      refine GS.w_raiseL TL.sup TL.lot (H1 := H4) (l := l) (R := R) (fun Q q => by walk_at "go"; exact q) (SqL.of gl) ?_ (fun k hk => ?_) ?_
      · have := nd_le Rn Rs
        rw [rng_len] at this; omega
      · have := rng_mem.mp (Rs k hk); omega
      · refine GS.RaisedL.at ((fg0.same E2 K3).trans e4) (k1 R ?_)
        have h := hL.mono (br := rs.drop (i + 1))
        rw [← tk, List.take_append_drop, gp] at h
        exact h
  · rintro σ H3 ⟨k2', k3', F, W, rfl, K3, O3, D3, P3⟩
    rw [lrs, List.take_length] at O3 D3
    walk_at "go"
    exact k2 o g F W H3 (fg0.same E2 K3) (e0.free hoo) fg0 gp O3 D3 P3
end G

end
section
local macro_rules | `(tactic| walk_at "call") => `(tactic| (refine' G.w_cnt ?g1 ?_; (case g1 => walk_at "sq")))

local macro_rules | `(tactic| walk_at "call") => `(tactic| (refine' G.w_popAt ?g1 ?g2 ?g3 ?g4 ?_; (case g1 => walk_at "hp"); (case g2 => walk_at "ar"); (case g3 => walk_at "ar"); (case g4 => walk_at "ar")))

local macro_rules | `(tactic| walk_at "call") => `(tactic| (refine' G.i_whole ?_))

local macro_rules | `(tactic| walk_at "call") => `(tactic| first | refine' G.w_dp ?_ | refine' G.w_dg ?_ | refine' G.w_da ?_)

local macro_rules | `(tactic| walk_at "call") => `(tactic| first | refine' G.w_dc ?_ | refine' G.w_lock ?_ | refine' G.w_forT ?_ | refine' G.w_dni ?_)

namespace G
open PySem L2 GX
def ownL (W : Int × Int → Option Int) (rs : List (Int × Int)) : List Int := rs.map fun r => (W r).getD 0
def sp_owner_list (K : PySem.W.Frag) (A : CA) : Sp := fun vs H Q _ => ∃ (st o w : Addr) (n L : Int) (rs : List (Int × Int)) (bs : List Int) (g : OG) (F : Int → Int) (W : Int × Int → Option Int) (ar : List (Int × Int)), vs = [.ref st, .ref o] ∧ StAt A H st w n rs L bs ∧ OwnAt A H o g F W ar ∧ (∀ r ∈ rs, W r ≠ none) ∧
  ∀ (l : Addr) (H' : Hp), Same H H' → H l = none → H' l = some (.lst ((ownL W rs).map V.int)) → Q (.ref l) H'
def t_owner_list (K : PySem.W.Frag) (A : CA) : TS :=
  (tRet (tLc (iList K (tMeth A.Web "arrows" (sp_Web_arrows K A) [] E0 (tFld K (tVar 0) "web") tNil)) (gName 2) tYes (tMeth A.Owners "owner_of" (sp_Owners_owner_of K A) [] E0 (tVar 1) (tCons (tVar 2) tNil)) [2]))

theorem rd_owner_list {K : PySem.W.Frag} {A : CA} (T : CTS K A) (TW : CTW K A) {vs : List V} {H : Hp} {Q : VK} {E : XK} (h : sp_owner_list K A vs H Q E) :
    t_owner_list K A { nx := fun _ H' => Q .non H', rt := Q } (start ["standing", "owners", "pointer"] vs) H := by
  obtain ⟨st, o, w, n, L, rs, bs, g, F, W, ar0, rfl, hS, hO, hW, q⟩ := h
  obtain ⟨dx, lb, h1, h2⟩ := hS.ex
  obtain ⟨dw, d0, a0, tg, hd0, g1⟩ := hS.web.obj
  obtain ⟨d3, ho3⟩ := hO.ob
  unfold t_owner_list
  walk_at "go"
  refine w_fld2 h1 T.c_Standing T.n_Standing_web st_web ?_
  refine w_mth2 g1 web_noarrows ?_
  walk_at "go"
  refine ⟨w, n, rs, rfl, hS.web, fun us ar H2 har e2 gar P2 ul => ?_⟩
  have lrs := P2.length
  walk_at "go"
  refine lcL (xs := us) (fun Dl i H' => Same H2 H' ∧ H' Dl = some (.lst (((ownL W rs).take i).map V.int))) (fun Dl hD => ⟨same_new hD, upd_same⟩) (fun Dl i H' _ _ p => SqL.of (p.1 _ _ gar)) ?_ ?_
  · rintro Dl i x H3 hD hx ⟨e3, gD⟩
    obtain ⟨r, hr, p, rfl, hp⟩ := Paired.at' P2 hx
    have rin := List.mem_of_getElem? hr
    obtain ⟨k, hk⟩ : ∃ k, W r = some k := by
      cases e : W r with
      | none => exact absurd e (hW r rin)
      | some k => exact ⟨k, rfl⟩
    walk_at "go"
    refine w_mth2 (e3 _ _ (e2 _ _ ho3)) ow_noowner ?_
    walk_at "go"
    refine ⟨o, p, g, F, W, ar0, r, k, rfl, (hO.same e2).same e3, e3 _ _ hp, hk, ?_⟩
    have il := (List.getElem?_eq_some_iff.mp hr).1
    refine ⟨_, gD, ?_, same_mut e3 hD, ?_⟩
    · rw [List.length_map, List.length_take]; rw [sizeLine_eq]; omega
    · rw [upd_same, List.take_succ]
      have : (ownL W rs)[i]? = some k := by unfold ownL; rw [List.getElem?_map, hr]; show some ((W r).getD 0) = _; rw [hk]; rfl
      rw [this, List.map_append]; rfl
  · rintro Dl H3 hD ⟨e3, gD⟩
    have : us.length = (ownL W rs).length := by unfold ownL; rw [List.length_map]; exact lrs
    rw [this, List.take_length] at gD
    walk_at "go"
    exact q Dl H3 (e2.trans e3) (e2.free hD) gD
theorem own_deal {n : Int} {rs : List (Int × Int)} {bs : List Int} {F : Int → Int} {W : Int × Int → Option Int} (h : Dl (rng n) (blF bs) rs F W) (hF : ∀ k ∈ rng n, 0 ≤ F k) (hl : bs.length = n.toNat) : DealP rs bs (ownL W rs) := by
  have hs : ∀ r ∈ rs, ∃ k, W r = some k := fun r hr => by
    cases e : W r with
    | none => exact absurd e ((h.dom r).mpr hr)
    | some k => exact ⟨k, rfl⟩
  refine ⟨by unfold ownL; rw [List.length_map], fun i o r ho hr => ?_, fun p b hb => ?_⟩
  · unfold ownL at ho
    rw [List.getElem?_map, hr] at ho
    obtain ⟨k, hk⟩ := hs r (List.mem_of_getElem? hr)
    have e : (W r).getD 0 = o := Option.some.inj ho
    rw [hk] at e
    have e : k = o := e
    subst e
    exact (h.wok.ends r k hk).1
  · have pl := (List.getElem?_eq_some_iff.mp hb).1
    have pm : (p : Int) ∈ rng n := rng_mem.mpr ⟨by omega, by omega⟩
    have c := h.cnt p pm
    have f := hF p pm
    have e : (ownL W rs).count (p : Int) = cntW rs W p := by
      unfold ownL cntW
      rw [List.count, List.countP_map]
      refine List.countP_congr fun r hr => ?_
      obtain ⟨k, hk⟩ := hs r hr
      simp [hk]
    have eb : blF bs p = b := by unfold blF; rw [List.getD_eq_getElem?_getD]; show (bs[(p : Int).toNat]?).getD 0 = b; rw [Int.toNat_natCast, hb]; rfl
    rw [e]; omega
end G

end
section
local macro_rules | `(tactic| walk_at "call") => `(tactic| first
  | (refine' G.w_anyI ?g1 ?_; (case g1 => walk_at "sq")) | refine' G.w_lcE ?_ | (refine' G.w_enumSq ?g1 ?_; (case g1 => walk_at "sq"))
  | (refine' G.w_neI2 ?g1 ?g2 ?_; (case g1 => walk_at "sq"); (case g2 => walk_at "sq")) | (refine' G.w_eqI2 ?g1 ?g2 ?_; (case g1 => walk_at "sq"); (case g2 => walk_at "sq")))

local macro_rules | `(tactic| walk_at "call") => `(tactic| first
  | refine' G.w_iteNT ?_ | refine' G.w_iteNF ?_ | refine' G.w_iteRf ?_ | refine' G.w_iteNRf ?_ | refine' G.w_tru ?_ | (refine' G.w_truL ?g1 ?_; (case g1 => walk_at "sq")) | refine' G.w_revL ?_ | (refine' G.w_revL2 ?g1 ?_; (case g1 => walk_at "sq"))
  | (refine' G.w_rep ?g1 ?g2 ?g3 ?g4 ?_; (case g1 => walk_at "hp"); (case g2 => walk_at "ar"); (case g3 => walk_at "ar"); (case g4 => walk_at "sz"))
  | refine' G.w_isNr ?_ | refine' G.w_notN ?_ | refine' G.w_isII ?_ | refine' G.w_isIB ?_ | refine' G.w_isBB ?_ | (refine' G.w_isLL ?g1 ?_; (case g1 => walk_at "hp")))

local macro_rules | `(tactic| walk_at "call") => `(tactic| refine' G.w_oIntB ?_)

local macro_rules | `(tactic| walk_at "sqt") => `(tactic| first | assumption | exact L2.SqT.of (by walk_at "hp"))
local macro_rules | `(tactic| walk_at "call") => `(tactic| first
  | (refine' G.w_inI ?g1 ?_; (case g1 => walk_at "sq")) | (refine' G.w_ninI ?g1 ?_; (case g1 => walk_at "sq")) | refine' G.w_forRev ?_ | refine' G.w_lstRg3 ?_ | (refine' G.w_bdR ?g1 ?g2 ?_; (case g1 => walk_at "ar"); (case g2 => walk_at "ar"))
  | (refine' G.w_max ?g1 ?g2 ?_; (case g1 => walk_at "sq"); (case g2 => walk_at "ar")) | (refine' G.w_min ?g1 ?g2 ?_; (case g1 => walk_at "sq"); (case g2 => walk_at "ar"))
  | (refine' G.w_sortI ?g1 ?_; (case g1 => walk_at "sq")) | (refine' GY.w_tupL ?g1 ?_; (case g1 => walk_at "sq")) | refine' GY.w_star ?_ | (refine' GY.w_starL ?g1 ?_; (case g1 => walk_at "sq")) | (refine' GY.w_listT ?g1 ?_; (case g1 => walk_at "sqt")))

local macro_rules | `(tactic| walk_at "call") => `(tactic| (refine' G.w_cnt ?g1 ?_; (case g1 => walk_at "sq")))

namespace G
open PySem L2
/-! ### the draws -/
def sp_law_cell (K : PySem.W.Frag) (A : CA) : Sp := fun vs H Q _ => ∃ (a : Addr) (k : Int) (ns : List Int), vs = [.ref a, .int k] ∧ SqL K H a (ns.map V.int) ∧ 0 ≤ k ∧ ns.length ≤ 63 ∧
  ∀ (c : Int) (H' : Hp), Same H H' → Q (.int c) H'
def sp_law_source (K : PySem.W.Frag) (A : CA) : Sp := fun vs H Q _ => ∃ (c : Int), vs = [.int c] ∧ ∀ (s : Addr) (H' : Hp), H s = none → Same H H' → Src H' s → Q (.ref s) H'
def sp_law_take (K : PySem.W.Frag) (A : CA) : Sp := fun vs H Q _ => ∃ (s : Addr) (n : Int), vs = [.ref s, .int n] ∧ Src H s ∧ 0 < n ∧ n < 1000000 ∧
  ∀ (r : Int) (H' : Hp), 0 ≤ r → r < n → But s H H' → Src H' s → Q (.int r) H'
theorem i_take {K : PySem.W.Frag} {A : CA} {H : Hp} {Q : VK} {E : XK} {s : Addr} {n : Int} (hs : Src H s) (h0 : 0 < n) (h1 : n < 1000000)
    (k : ∀ (r : Int) (H' : Hp), 0 ≤ r → r < n → But s H H' → Src H' s → Q (.int r) H') : sp_law_take K A [.ref s, .int n] H Q E := ⟨s, n, rfl, hs, h0, h1, k⟩
theorem i_source {K : PySem.W.Frag} {A : CA} {H : Hp} {Q : VK} {E : XK} {c : Int} (k : ∀ (s : Addr) (H' : Hp), H s = none → Same H H' → Src H' s → Q (.ref s) H') : sp_law_source K A [.int c] H Q E := ⟨c, rfl, k⟩
theorem i_cell {K : PySem.W.Frag} {A : CA} {H : Hp} {Q : VK} {E : XK} {a : Addr} {k : Int} {ns : List Int} (h : SqL K H a (ns.map V.int)) (h0 : 0 ≤ k) (hl : ns.length ≤ 63)
    (q : ∀ (c : Int) (H' : Hp), Same H H' → Q (.int c) H') : sp_law_cell K A [.ref a, .int k] H Q E := ⟨a, k, ns, rfl, h, h0, hl, q⟩
end G
local macro_rules | `(tactic| walk_at "call") => `(tactic| (refine' G.i_take ?g1 ?g2 ?g3 ?_; (case g1 => walk_at "src"); (case g2 => walk_at "ar"); (case g3 => walk_at "ar")))
local macro_rules | `(tactic| walk_at "call") => `(tactic| (refine' G.i_source ?_))
local macro_rules | `(tactic| walk_at "call") => `(tactic| (refine' G.i_cell ?g1 ?g2 ?g3 ?_; (case g1 => walk_at "sq"); (case g2 => walk_at "ar"); (case g3 => walk_at "ar")))
namespace G
open PySem L2
def t_law_cell (K : PySem.W.Frag) (A : CA) : TS :=
  (tSeq (tIfS (tTest (tOp oLt (tVar 1) (tCB oMin2 (tCons (tC (.int 63)) (tCons (tCB (rLenQ K) (tCons (tVar 0) tNil)) tNil))))) (tRet (tCB oAbs (tCons (tOp (rIxL K) (tVar 0) (tVar 1)) tNil))) tNext)
  (tRet (tOp oAdd (tOp oAdd (tOp oMul (tC (.int 40014)) (tVar 1)) (tC (.int 12211))) (tOp oMod (tCB oInt (tCons (tCB (rSum K) (tCons (tSl (rSlL K) (tVar 0) tNoPart (tPart (tC (.int 1)))) tNil)) tNil)) (tC (.int 1000003))))))
def t_law_source (K : PySem.W.Frag) (A : CA) : TS :=
  (tSeq (tIfS (tTest (tOp oLt (tVar 0) (tOp oPow (tC (.int 10)) (tC (.int 18))))) (tRet (tLst (tCons (tC (.int 0)) (tCons (tVar 0) (tCons (tC (.int 0)) tNil))))) tNext)
  (tRet (tLst (tCons (tVar 0) (tCons (tOp oMod (tCB oInt (tCons (tVar 0) tNil)) (tC (.int 2147483647))) (tCons (tC (.int 0)) tNil))))))
def t_law_take (K : PySem.W.Frag) (A : CA) : TS :=
  (tSeq (tIfS (tTest (tOp oGt (tOp (rIxL K) (tVar 0) (tC (.int 0))) (tC (.int 0)))) (tSeq (tAsg (tOp oMod (tCB oInt (tCons (tOp (rIxL K) (tVar 0) (tC (.int 0))) tNil)) (tVar 1)) (gName 2))
  (tSeq (tAsg (tOp oDiv (tOp (rIxL K) (tVar 0) (tC (.int 0))) (tVar 1)) (gSub (tVar 0) (tC (.int 0)) rSetL))
  (tRet (tVar 2)))) tNext)
  (tSeq (tAsg (tOp oAdd (tOp (rIxL K) (tVar 0) (tC (.int 2))) (tC (.int 1))) (gSub (tVar 0) (tC (.int 2)) rSetL))
  (tSeq (tAsg (tOp oMod (tCB oInt (tCons (tOp oAdd (tOp oAdd (tOp oMul (tOp (rIxL K) (tVar 0) (tC (.int 1))) (tC (.int 48271))) (tOp oMul (tOp (rIxL K) (tVar 0) (tC (.int 2))) (tC (.int 69621)))) (tC (.int 12345))) tNil)) (tC (.int 2147483647))) (gName 3))
  (tSeq (tAsg (tOp oMod (tCB oInt (tCons (tOp oAdd (tOp oMul (tVar 3) (tOp oAdd (tOp oDiv (tVar 3) (tC (.int 127))) (tOp (rIxL K) (tVar 0) (tC (.int 2))))) (tOp (rIxL K) (tVar 0) (tC (.int 1)))) tNil)) (tC (.int 2147483629))) (gName 4))
  (tRet (tOp oMod (tOp oDiv (tVar 4) (tC (.int 19))) (tVar 1)))))))

variable {K : PySem.W.Frag} {A : CA} {vs : List V} {H : Hp} {Q : VK} {E : XK}
theorem rd_law_cell (h : sp_law_cell K A vs H Q E) : t_law_cell K A { nx := fun _ H' => Q .non H', rt := Q } (start ["script", "k"] vs) H := by
  obtain ⟨a, k, ns, rfl, hs, h0, h63, q⟩ := h
  unfold t_law_cell
  walk_at "go"
  refine w_iteD (fun hc => ?_) (fun hc => ?_)
  · have hk : k.toNat < ns.length := by
      rw [List.length_map] at hc; split at hc <;> omega
    have hx : atI (ns.map V.int) k = some (V.int ns[k.toNat]) := at_of (j := k.toNat) (by omega) (by simp [hk])
    walk_at "go"
    exact q _ _ (Same.refl _)
  · walk_at "go"
    intro l hl
    obtain ⟨ys, hy⟩ := cut_ints ns none (some 1)
    rw [hy]
    walk_at "go"
    exact q _ _ (same_new hl)
theorem rd_law_source (h : sp_law_source K A vs H Q E) : t_law_source K A { nx := fun _ H' => Q .non H', rt := Q } (start ["cell"] vs) H := by
  obtain ⟨c, rfl, q⟩ := h
  unfold t_law_source
  walk_at "go"
  refine w_iteD (fun hc => ?_) (fun hc => ?_)
  · walk_at "go"
    intro l hl
    exact q _ _ hl (same_new hl) ⟨_, _, _, upd_same⟩
  · walk_at "go"
    intro l hl
    exact q _ _ hl (same_new hl) ⟨_, _, _, upd_same⟩
theorem rd_law_take (h : sp_law_take K A vs H Q E) : t_law_take K A { nx := fun _ H' => Q .non H', rt := Q } (start ["source", "size", "digit", "first", "second"] vs) H := by
  obtain ⟨s, n, rfl, ⟨x, y, z, hs⟩, h0, h1, k⟩ := h
  unfold t_law_take
  walk_at "go"
  refine w_iteD (fun hc => ?_) (fun hc => ?_)
  · walk_at "go"
    exact k _ _ (Int.emod_nonneg _ (by omega)) (Int.emod_lt_of_pos _ h0) But.refl.self ⟨_, _, _, upd_same⟩
  · walk_at "go"
    exact k _ _ (Int.emod_nonneg _ (by omega)) (Int.emod_lt_of_pos _ h0) But.refl.self ⟨_, _, _, upd_same⟩
end G

end
section
local macro_rules | `(tactic| walk_at "call") => `(tactic| first
  | (refine' G.w_anyI ?g1 ?_; (case g1 => walk_at "sq")) | refine' G.w_lcE ?_ | (refine' G.w_enumSq ?g1 ?_; (case g1 => walk_at "sq"))
  | (refine' G.w_neI2 ?g1 ?g2 ?_; (case g1 => walk_at "sq"); (case g2 => walk_at "sq")) | (refine' G.w_eqI2 ?g1 ?g2 ?_; (case g1 => walk_at "sq"); (case g2 => walk_at "sq")))

local macro_rules | `(tactic| walk_at "call") => `(tactic| first
  | refine' G.w_iteNT ?_ | refine' G.w_iteNF ?_ | refine' G.w_iteRf ?_ | refine' G.w_iteNRf ?_ | refine' G.w_tru ?_ | (refine' G.w_truL ?g1 ?_; (case g1 => walk_at "sq")) | refine' G.w_revL ?_ | (refine' G.w_revL2 ?g1 ?_; (case g1 => walk_at "sq"))
  | (refine' G.w_rep ?g1 ?g2 ?g3 ?g4 ?_; (case g1 => walk_at "hp"); (case g2 => walk_at "ar"); (case g3 => walk_at "ar"); (case g4 => walk_at "sz"))
  | refine' G.w_isNr ?_ | refine' G.w_notN ?_ | refine' G.w_isII ?_ | refine' G.w_isIB ?_ | refine' G.w_isBB ?_ | (refine' G.w_isLL ?g1 ?_; (case g1 => walk_at "hp")))

local macro_rules | `(tactic| walk_at "call") => `(tactic| refine' G.w_oIntB ?_)

local macro_rules | `(tactic| walk_at "sqt") => `(tactic| first | assumption | exact L2.SqT.of (by walk_at "hp"))
local macro_rules | `(tactic| walk_at "call") => `(tactic| first
  | (refine' G.w_inI ?g1 ?_; (case g1 => walk_at "sq")) | (refine' G.w_ninI ?g1 ?_; (case g1 => walk_at "sq")) | refine' G.w_forRev ?_ | refine' G.w_lstRg3 ?_ | (refine' G.w_bdR ?g1 ?g2 ?_; (case g1 => walk_at "ar"); (case g2 => walk_at "ar"))
  | (refine' G.w_max ?g1 ?g2 ?_; (case g1 => walk_at "sq"); (case g2 => walk_at "ar")) | (refine' G.w_min ?g1 ?g2 ?_; (case g1 => walk_at "sq"); (case g2 => walk_at "ar"))
  | (refine' G.w_sortI ?g1 ?_; (case g1 => walk_at "sq")) | (refine' GY.w_tupL ?g1 ?_; (case g1 => walk_at "sq")) | refine' GY.w_star ?_ | (refine' GY.w_starL ?g1 ?_; (case g1 => walk_at "sq")) | (refine' GY.w_listT ?g1 ?_; (case g1 => walk_at "sqt")))

local macro_rules | `(tactic| walk_at "call") => `(tactic| (refine' G.w_cnt ?g1 ?_; (case g1 => walk_at "sq")))

local macro_rules | `(tactic| walk_at "call") => `(tactic| (refine' G.i_take ?g1 ?g2 ?g3 ?_; (case g1 => walk_at "src"); (case g2 => walk_at "ar"); (case g3 => walk_at "ar")))
local macro_rules | `(tactic| walk_at "call") => `(tactic| (refine' G.i_source ?_))
local macro_rules | `(tactic| walk_at "call") => `(tactic| (refine' G.i_cell ?g1 ?g2 ?g3 ?_; (case g1 => walk_at "sq"); (case g2 => walk_at "ar"); (case g3 => walk_at "ar")))

namespace G
open PySem L2
/-! ### the law's webs -/
def sp_law_parents (K : PySem.W.Frag) (A : CA) : Sp := fun vs H Q _ => ∃ (s : Addr) (many shape : Int), vs = [.ref s, .int many, .int shape] ∧ Src H s ∧ 1 ≤ many ∧ many ≤ 500 ∧
  ∀ (ps : List Int) (p : Addr) (H' : Hp), (ps.length : Int) = many → Par ps → H p = none → But s H H' → Src H' s → H' p = some (.lst (ps.map V.int)) → Q (.ref p) H'
def t_law_parents (K : PySem.W.Frag) (A : CA) : TS :=
  (tSeq (tAsg (tLst (tCons (tUn oNeg (tC (.int 1))) tNil)) (gName 3))
  (tSeq (tFor (iRng2 (tCons (tC (.int 1)) (tCons (tVar 1) tNil))) (gName 4)
  (tIfS (tOr (tTest (tOp rEq (tVar 2) (tC (.int 1)))) (tTest (tOp rEq (tVar 2) (tC (.int 3))))) (tDrop (tBM K "list" rAppend (tVar 3) (tCons (tOp oSub (tVar 4) (tC (.int 1))) tNil))) (tIfS (tTest (tOp rEq (tVar 2) (tC (.int 2)))) (tDrop (tBM K "list" rAppend (tVar 3) (tCons (tC (.int 0)) tNil))) (tDrop (tBM K "list" rAppend (tVar 3) (tCons (tOp oSub (tCall (sp_law_take K A) [] E0 (tCons (tVar 0) (tCons (tOp oAdd (tVar 4) (tC (.int 1))) tNil))) (tC (.int 1))) tNil))))))
  (tRet (tVar 3))))

theorem rd_law_parents {K : PySem.W.Frag} {A : CA} {vs : List V} {H : Hp} {Q : VK} {E : XK} (h : sp_law_parents K A vs H Q E) :
    t_law_parents K A { nx := fun _ H' => Q .non H', rt := Q } (start ["source", "many", "shape", "parents", "k"] vs) H := by
  obtain ⟨s, many, shape, rfl, hs, h1, h2, q⟩ := h
  unfold t_law_parents
  walk_at "go"
  intro p hp
  have nps : p ≠ s := hs.neFree hp
  walk_at "go"
  refine forR (fun i σ H' => ∃ (ps : List Int) (kv : Option V), σ = [some (.ref s), some (.int many), some (.int shape), some (.ref p), kv] ∧ ps.length = i + 1 ∧ Par ps ∧ But s H H' ∧ Src H' s ∧ H' p = some (.lst (ps.map V.int))) ?_ ?_ ?_
  · exact ⟨[-1], none, rfl, rfl, par1, But.refl.new hp, hs.new hp, upd_same⟩
  · rintro i σ H1 hi ⟨ps, kv, rfl, hl, hP, b, s1, h3⟩
    walk_at "go"
    refine w_iteD (fun c1 => ?_) (fun c1 => ?_)
    · walk_at "go"
      refine ⟨ps ++ [1 + (i : Int) - 1], _, rfl, by simp [hl], hP.snoc (by omega) (by omega), b.mut hp, s1.mut nps, ?_⟩
      rw [← snocI]; exact upd_same
    · walk_at "go"
      refine w_iteD (fun c2 => ?_) (fun c2 => ?_)
      · walk_at "go"
        refine ⟨ps ++ [1 + (i : Int) - 1], _, rfl, by simp [hl], hP.snoc (by omega) (by omega), b.mut hp, s1.mut nps, ?_⟩
        rw [← snocI]; exact upd_same
      · walk_at "go"
        refine w_iteD (fun c3 => ?_) (fun c3 => ?_)
        · walk_at "go"
          refine ⟨ps ++ [0], _, rfl, by simp [hl], hP.snoc (by omega) (by omega), b.mut hp, s1.mut nps, ?_⟩
          rw [← snocI]; exact upd_same
        · walk_at "go"
          intro r H2 r0 r1 b2 s2
          walk_at "go"
          refine ⟨ps ++ [r - 1], _, rfl, by simp [hl], hP.snoc (by omega) (by omega), (b.trans b2).mut hp, s2.mut nps, ?_⟩
          rw [← snocI]; exact upd_same
  · rintro σ H1 ⟨ps, kv, rfl, hl, hP, b, s1, h3⟩
    walk_at "go"
    exact q ps p H1 (by omega) hP hp b s1 h3
end G

end
section
local macro_rules | `(tactic| walk_at "call") => `(tactic| first
  | (refine' G.w_anyI ?g1 ?_; (case g1 => walk_at "sq")) | refine' G.w_lcE ?_ | (refine' G.w_enumSq ?g1 ?_; (case g1 => walk_at "sq"))
  | (refine' G.w_neI2 ?g1 ?g2 ?_; (case g1 => walk_at "sq"); (case g2 => walk_at "sq")) | (refine' G.w_eqI2 ?g1 ?g2 ?_; (case g1 => walk_at "sq"); (case g2 => walk_at "sq")))

local macro_rules | `(tactic| walk_at "call") => `(tactic| first
  | refine' G.w_iteNT ?_ | refine' G.w_iteNF ?_ | refine' G.w_iteRf ?_ | refine' G.w_iteNRf ?_ | refine' G.w_tru ?_ | (refine' G.w_truL ?g1 ?_; (case g1 => walk_at "sq")) | refine' G.w_revL ?_ | (refine' G.w_revL2 ?g1 ?_; (case g1 => walk_at "sq"))
  | (refine' G.w_rep ?g1 ?g2 ?g3 ?g4 ?_; (case g1 => walk_at "hp"); (case g2 => walk_at "ar"); (case g3 => walk_at "ar"); (case g4 => walk_at "sz"))
  | refine' G.w_isNr ?_ | refine' G.w_notN ?_ | refine' G.w_isII ?_ | refine' G.w_isIB ?_ | refine' G.w_isBB ?_ | (refine' G.w_isLL ?g1 ?_; (case g1 => walk_at "hp")))

local macro_rules | `(tactic| walk_at "call") => `(tactic| refine' G.w_oIntB ?_)

local macro_rules | `(tactic| walk_at "sqt") => `(tactic| first | assumption | exact L2.SqT.of (by walk_at "hp"))
local macro_rules | `(tactic| walk_at "call") => `(tactic| first
  | (refine' G.w_inI ?g1 ?_; (case g1 => walk_at "sq")) | (refine' G.w_ninI ?g1 ?_; (case g1 => walk_at "sq")) | refine' G.w_forRev ?_ | refine' G.w_lstRg3 ?_ | (refine' G.w_bdR ?g1 ?g2 ?_; (case g1 => walk_at "ar"); (case g2 => walk_at "ar"))
  | (refine' G.w_max ?g1 ?g2 ?_; (case g1 => walk_at "sq"); (case g2 => walk_at "ar")) | (refine' G.w_min ?g1 ?g2 ?_; (case g1 => walk_at "sq"); (case g2 => walk_at "ar"))
  | (refine' G.w_sortI ?g1 ?_; (case g1 => walk_at "sq")) | (refine' GY.w_tupL ?g1 ?_; (case g1 => walk_at "sq")) | refine' GY.w_star ?_ | (refine' GY.w_starL ?g1 ?_; (case g1 => walk_at "sq")) | (refine' GY.w_listT ?g1 ?_; (case g1 => walk_at "sqt")))

local macro_rules | `(tactic| walk_at "call") => `(tactic| (refine' G.w_cnt ?g1 ?_; (case g1 => walk_at "sq")))

local macro_rules | `(tactic| walk_at "call") => `(tactic| (refine' G.i_take ?g1 ?g2 ?g3 ?_; (case g1 => walk_at "src"); (case g2 => walk_at "ar"); (case g3 => walk_at "ar")))
local macro_rules | `(tactic| walk_at "call") => `(tactic| (refine' G.i_source ?_))
local macro_rules | `(tactic| walk_at "call") => `(tactic| (refine' G.i_cell ?g1 ?g2 ?g3 ?_; (case g1 => walk_at "sq"); (case g2 => walk_at "ar"); (case g3 => walk_at "ar")))

namespace G
open PySem L2
section
variable {H : Hp} {q t : Addr} {vs : List V} {rows : List (Int × Int)} {a b : Int} {o o2 : HO}
end
def sp_law_pointers (K : PySem.W.Frag) (A : CA) : Sp := fun vs H Q _ => ∃ (s pp : Addr) (way : Int) (ps : List Int), vs = [.ref s, .ref pp, .int way] ∧ Src H s ∧ H pp = some (.lst (ps.map V.int)) ∧ pp ≠ s ∧ Par ps ∧ 1 ≤ ps.length ∧ ps.length ≤ 200 ∧
  ∀ (rows : List (Int × Int)) (us : List V) (p : Addr) (H' : Hp), RG ps.length rows → us.length ≤ 2 * ps.length → H p = none → But s H H' → Src H' s → H' p = some (.lst us) → Paired (PR H') us rows → Q (.ref p) H'
def t_law_pointers (K : PySem.W.Frag) (A : CA) : TS :=
  (tSeq (tAsg (tLst tNil) (gName 3))
  (tSeq (tFor (iRng2 (tCons (tC (.int 1)) (tCons (tCB (rLenQ K) (tCons (tVar 1) tNil)) tNil))) (gName 4)
  (tIfS (tTest (tOp oGe (tOp (rIxL K) (tVar 1) (tVar 4)) (tC (.int 0)))) (tSeq (tAsg (tVar 2) (gName 5))
  (tSeq (tIfS (tTest (tOp oGt (tVar 2) (tC (.int 2)))) (tAsg (tCall (sp_law_take K A) [] E0 (tCons (tVar 0) (tCons (tC (.int 3)) tNil))) (gName 5)) tNext)
  (tSeq (tIfS (tTest (tOp rNe (tVar 5) (tC (.int 1)))) (tDrop (tBM K "list" rAppend (tVar 3) (tCons (tTup (tCons (tOp (rIxL K) (tVar 1) (tVar 4)) (tCons (tVar 4) tNil))) tNil))) tNext)
  (tIfS (tTest (tOp rNe (tVar 5) (tC (.int 0)))) (tDrop (tBM K "list" rAppend (tVar 3) (tCons (tTup (tCons (tVar 4) (tCons (tOp (rIxL K) (tVar 1) (tVar 4)) tNil))) tNil))) tNext)))) tNext))
  (tRet (tVar 3))))

theorem rd_law_pointers {K : PySem.W.Frag} {A : CA} {vs : List V} {H : Hp} {Q : VK} {E : XK} (h : sp_law_pointers K A vs H Q E) :
    t_law_pointers K A { nx := fun _ H' => Q .non H', rt := Q } (start ["source", "parents", "way", "pointers", "k", "turn"] vs) H := by
  obtain ⟨s, pp, way, ps, rfl, hs, hpp, hne, hP, h1, h2, q⟩ := h
  unfold t_law_pointers
  walk_at "go"
  intro p hp
  have nps : p ≠ s := hs.neFree hp
  have npp : pp ≠ p := ne_of_none hpp hp
  walk_at "go"
  rw [List.length_map]
  refine w_bd2 (by omega) (by omega) (by omega) (by omega) ?_
  refine forR (fun i σ H' => ∃ (rows : List (Int × Int)) (us : List V) (kv tv : Option V), σ = [some (.ref s), some (.ref pp), some (.int way), some (.ref p), kv, tv] ∧ us.length ≤ 2 * i ∧ RG (i + 1 : Nat) rows ∧ But s H H' ∧ Src H' s ∧ H' p = some (.lst us) ∧ Paired (PR H') us rows) ?_ ?_ ?_
  · exact ⟨[], [], none, none, rfl, Nat.le_refl _, .nil, But.refl.new hp, hs.new hp, upd_same, .nil⟩
  · rintro i σ H1 hi ⟨rows, us, kv, tv, rfl, hl, hR, b, s1, h3, h4⟩
    have hpp1 : H1 pp = some (.lst (ps.map V.int)) := b.at hne hpp
    have hk : i + 1 < ps.length := by omega
    have hz := hP (i + 1) ps[i + 1] (List.getElem?_eq_getElem hk)
    have hx : atI (ps.map V.int) (1 + (i : Int)) = some (V.int ps[i + 1]) := at_of (j := i + 1) (by omega) (by simp [hk])
    generalize ps[i + 1] = z at hz hx
    walk_at "go"
    refine w_iteD (fun c1 => ?_) (fun c1 => ?_)
    · walk_at "go"
      -- the two appends, whatever the turn
      have fin : ∀ (turn : Int) (H1 : Hp), But s H H1 → Src H1 s → H1 p = some (.lst us) → Paired (PR H1) us rows → H1 pp = some (.lst (ps.map V.int)) →
          tSeq (tIfS (tTest (tOp rNe (tVar 5) (tC (.int 1)))) (tDrop (tBM K "list" rAppend (tVar 3) (tCons (tTup (tCons (tOp (rIxL K) (tVar 1) (tVar 4)) (tCons (tVar 4) tNil))) tNil))) tNext)
            (tIfS (tTest (tOp rNe (tVar 5) (tC (.int 0)))) (tDrop (tBM K "list" rAppend (tVar 3) (tCons (tTup (tCons (tVar 4) (tCons (tOp (rIxL K) (tVar 1) (tVar 4)) tNil))) tNil))) tNext)
            { nx := fun σ H' => ∃ (rows : List (Int × Int)) (us : List V) (kv tv : Option V), σ = [some (.ref s), some (.ref pp), some (.int way), some (.ref p), kv, tv] ∧ us.length ≤ 2 * (i + 1) ∧ RG (i + 1 + 1 : Nat) rows ∧ But s H H' ∧ Src H' s ∧ H' p = some (.lst us) ∧ Paired (PR H') us rows, rt := Q }
            [some (.ref s), some (.ref pp), some (.int way), some (.ref p), some (.int (1 + (i : Int))), some (.int turn)] H1 := by
        intro turn H1 b s1 h3 h4 hpp1
        walk_at "go"
        refine w_iteN (fun c2 => ?_) (fun c2 => ?_)
        · walk_at "go"
          intro t ht
          have npt : p ≠ t := ne_of_none h3 ht
          have nt : pp ≠ t := ne_of_none hpp1 ht
          have h5 := push_row (a := z) (b := 1 + (i : Int)) (o := .lst (us ++ [.ref t])) h3 h4 ht
          have hR2 : RG (i + 1 + 1 : Nat) (rows ++ [(z, 1 + (i : Int))]) := hR.snoc (by omega) (by omega) (by show z < _; omega) (by omega) (by show (1 + (i : Int)) < _; omega) (by show z ≠ 1 + (i : Int); omega) (hR.no (.inr (by show _ ≤ 1 + (i : Int); omega)))
          walk_at "go"
          refine w_iteN (fun c3 => ?_) (fun c3 => ?_)
          · walk_at "go"
            intro t2 ht2
            have h6 := push_row (a := 1 + (i : Int)) (b := z) (o := .lst (us ++ [.ref t] ++ [.ref t2])) upd_same h5 ht2
            walk_at "go"
            refine ⟨_, _, _, _, rfl, ?_, ?_, (((b.new ht).mut hp).new ht2).mut hp, (((s1.new ht).mut nps).new ht2).mut nps, upd_same, h6⟩
            · simp only [List.length_append, List.length_cons, List.length_nil]; omega
            · refine hR2.snoc (Int.le_refl _) (by show 0 ≤ 1 + (i : Int); omega) (by show 1 + (i : Int) < _; omega) (by omega) (by show z < _; omega) (by show 1 + (i : Int) ≠ z; omega) fun hm => ?_
              rcases List.mem_append.mp hm with k | k
              · exact hR.no (r := (1 + (i : Int), z)) (.inl (by show _ ≤ 1 + (i : Int); omega)) k
              · have e := (Prod.mk.inj (List.mem_singleton.mp k)).1; omega
          · walk_at "go"
            refine ⟨_, _, _, _, rfl, ?_, hR2, (b.new ht).mut hp, (s1.new ht).mut nps, upd_same, h5⟩
            simp only [List.length_append, List.length_cons, List.length_nil]; omega
        · walk_at "go"
          refine w_iteN (fun c3 => ?_) (fun c3 => ?_)
          · walk_at "go"
            intro t2 ht2
            have h6 := push_row (a := 1 + (i : Int)) (b := z) (o := .lst (us ++ [.ref t2])) h3 h4 ht2
            walk_at "go"
            refine ⟨_, _, _, _, rfl, ?_, ?_, (b.new ht2).mut hp, (s1.new ht2).mut nps, upd_same, h6⟩
            · simp only [List.length_append, List.length_cons, List.length_nil]; omega
            · exact hR.snoc (by omega) (by show 0 ≤ 1 + (i : Int); omega) (by show 1 + (i : Int) < _; omega) (by omega) (by show z < _; omega) (by show 1 + (i : Int) ≠ z; omega) (hR.no (.inl (by show _ ≤ 1 + (i : Int); omega)))
          · walk_at "go"
            exact ⟨_, _, _, _, rfl, by omega, hR.mono (by omega), b, s1, h3, h4⟩
      refine w_iteD (fun c2 => ?_) (fun c2 => ?_)
      · walk_at "go"
        intro r H2 r0 r1 b2 s2
        exact fin r H2 (b.trans b2) s2 (b2.at nps h3) (PRs.but b2 s1 h4) (b2.at hne hpp1)
      · exact fin way H1 b s1 h3 h4 hpp1
    · walk_at "go"
      exact ⟨rows, us, _, _, rfl, by omega, hR.mono (by omega), b, s1, h3, h4⟩
  · rintro σ H1 ⟨rows, us, kv, tv, rfl, hl, hR, b, s1, h3, h4⟩
    walk_at "go"
    refine q rows us p H1 (hR.mono (by omega)) (by omega) hp b s1 h3 h4
end G

end
section
local macro_rules | `(tactic| walk_at "call") => `(tactic| first
  | (refine' G.w_anyI ?g1 ?_; (case g1 => walk_at "sq")) | refine' G.w_lcE ?_ | (refine' G.w_enumSq ?g1 ?_; (case g1 => walk_at "sq"))
  | (refine' G.w_neI2 ?g1 ?g2 ?_; (case g1 => walk_at "sq"); (case g2 => walk_at "sq")) | (refine' G.w_eqI2 ?g1 ?g2 ?_; (case g1 => walk_at "sq"); (case g2 => walk_at "sq")))

local macro_rules | `(tactic| walk_at "call") => `(tactic| first
  | refine' G.w_iteNT ?_ | refine' G.w_iteNF ?_ | refine' G.w_iteRf ?_ | refine' G.w_iteNRf ?_ | refine' G.w_tru ?_ | (refine' G.w_truL ?g1 ?_; (case g1 => walk_at "sq")) | refine' G.w_revL ?_ | (refine' G.w_revL2 ?g1 ?_; (case g1 => walk_at "sq"))
  | (refine' G.w_rep ?g1 ?g2 ?g3 ?g4 ?_; (case g1 => walk_at "hp"); (case g2 => walk_at "ar"); (case g3 => walk_at "ar"); (case g4 => walk_at "sz"))
  | refine' G.w_isNr ?_ | refine' G.w_notN ?_ | refine' G.w_isII ?_ | refine' G.w_isIB ?_ | refine' G.w_isBB ?_ | (refine' G.w_isLL ?g1 ?_; (case g1 => walk_at "hp")))

local macro_rules | `(tactic| walk_at "call") => `(tactic| refine' G.w_oIntB ?_)

local macro_rules | `(tactic| walk_at "sqt") => `(tactic| first | assumption | exact L2.SqT.of (by walk_at "hp"))
local macro_rules | `(tactic| walk_at "call") => `(tactic| first
  | (refine' G.w_inI ?g1 ?_; (case g1 => walk_at "sq")) | (refine' G.w_ninI ?g1 ?_; (case g1 => walk_at "sq")) | refine' G.w_forRev ?_ | refine' G.w_lstRg3 ?_ | (refine' G.w_bdR ?g1 ?g2 ?_; (case g1 => walk_at "ar"); (case g2 => walk_at "ar"))
  | (refine' G.w_max ?g1 ?g2 ?_; (case g1 => walk_at "sq"); (case g2 => walk_at "ar")) | (refine' G.w_min ?g1 ?g2 ?_; (case g1 => walk_at "sq"); (case g2 => walk_at "ar"))
  | (refine' G.w_sortI ?g1 ?_; (case g1 => walk_at "sq")) | (refine' GY.w_tupL ?g1 ?_; (case g1 => walk_at "sq")) | refine' GY.w_star ?_ | (refine' GY.w_starL ?g1 ?_; (case g1 => walk_at "sq")) | (refine' GY.w_listT ?g1 ?_; (case g1 => walk_at "sqt")))

local macro_rules | `(tactic| walk_at "call") => `(tactic| (refine' G.w_cnt ?g1 ?_; (case g1 => walk_at "sq")))

local macro_rules | `(tactic| walk_at "call") => `(tactic| (refine' G.i_take ?g1 ?g2 ?g3 ?_; (case g1 => walk_at "src"); (case g2 => walk_at "ar"); (case g3 => walk_at "ar")))
local macro_rules | `(tactic| walk_at "call") => `(tactic| (refine' G.i_source ?_))
local macro_rules | `(tactic| walk_at "call") => `(tactic| (refine' G.i_cell ?g1 ?g2 ?g3 ?_; (case g1 => walk_at "sq"); (case g2 => walk_at "ar"); (case g3 => walk_at "ar")))

namespace G
open PySem L2
def sp_law_names (K : PySem.W.Frag) (A : CA) : Sp := fun vs H Q _ => ∃ (s : Addr) (many : Int), vs = [.ref s, .int many] ∧ Src H s ∧ 1 ≤ many ∧ many ≤ 200 ∧
  ∀ (ns : List Int) (p : Addr) (H' : Hp), NM many ns → H p = none → But s H H' → Src H' s → H' p = some (.lst (ns.map V.int)) → Q (.ref p) H'
def t_law_names (K : PySem.W.Frag) (A : CA) : TS :=
  (tSeq (tAsg (tLstRg (tRg1 (tVar 1))) (gName 2))
  (tSeq (tAsg (tCall (sp_law_take K A) [] E0 (tCons (tVar 0) (tCons (tC (.int 4)) tNil))) (gName 3))
  (tSeq (tIfS (tTest (tOp rEq (tVar 3) (tC (.int 0)))) (tRet (tVar 2)) tNext)
  (tSeq (tIfS (tTest (tOp rEq (tVar 3) (tC (.int 1)))) (tRet (tLc (iRng1 (tCons (tVar 1) tNil)) (gName 4) tYes (tOp oSub (tOp oSub (tVar 1) (tC (.int 1))) (tVar 4)) [4])) tNext)
  (tSeq (tFor (iRng1 (tCons (tOp oSub (tVar 1) (tC (.int 1))) tNil)) (gName 4)
  (tSeq (tAsg (tOp oAdd (tVar 4) (tCall (sp_law_take K A) [] E0 (tCons (tVar 0) (tCons (tOp oSub (tVar 1) (tVar 4)) tNil)))) (gName 5))
  (tSeq (tAsg (tOp (rIxL K) (tVar 2) (tVar 4)) (gName 6))
  (tSeq (tAsg (tOp (rIxL K) (tVar 2) (tVar 5)) (gSub (tVar 2) (tVar 4) rSetL))
  (tAsg (tVar 6) (gSub (tVar 2) (tVar 5) rSetL))))))
  (tRet (tVar 2)))))))

theorem rd_law_names {K : PySem.W.Frag} {A : CA} {vs : List V} {H : Hp} {Q : VK} {E : XK} (h : sp_law_names K A vs H Q E) :
    t_law_names K A { nx := fun _ H' => Q .non H', rt := Q } (start ["source", "many", "names", "way", "k", "other", "held"] vs) H := by
  obtain ⟨s, many, rfl, hs, h1, h2, q⟩ := h
  obtain ⟨n, rfl⟩ : ∃ n : Nat, many = (n : Int) := ⟨many.toNat, by omega⟩
  unfold t_law_names
  walk_at "go"
  refine ⟨RgOk.of_le (by omega) (by omega) (by omega) (by omega), fun p hp => ?_⟩
  have nps : p ≠ s := hs.neFree hp
  rw [rng_ints]
  walk_at "go"
  intro r H1 r0 r1 b1 s1
  have hp1 := b1.at nps upd_same
  have b2 : But s H H1 := (But.refl.new hp).trans b1
  walk_at "go"
  refine w_iteD (fun c1 => ?_) (fun c1 => ?_)
  · walk_at "go"
    exact q _ p H1 (nm_map (fun i hi => ⟨by omega, by omega⟩) fun i j _ _ e => by omega) hp b2 s1 hp1
  · walk_at "go"
    refine w_iteD (fun c2 => ?_) (fun c2 => ?_)
    · walk_at "go"
      refine lcR (fun Dl i H' => But s H H' ∧ Src H' s ∧ H' Dl = some (.lst (((List.range i).map fun (k : Nat) => (n : Int) - 1 - (k : Int)).map V.int))) (fun Dl hD => ⟨b2.new hD, s1.new hD, upd_same⟩) ?_ ?_
      · rintro Dl i H' hD hi ⟨b, s', hL⟩
        have nD : Dl ≠ s := s1.neFree hD
        have hD0 : H Dl = none := b2.back s1 hD
        walk_at "go"
        refine ⟨b.mut hD0, s'.mut nD, ?_⟩
        rw [Int.zero_add, show (List.range (i + 1)).map (fun (k : Nat) => (n : Int) - 1 - (k : Int)) = (List.range i).map (fun (k : Nat) => (n : Int) - 1 - (k : Int)) ++ [(n : Int) - 1 - (i : Int)] by rw [List.range_succ, List.map_append]; rfl, ← snocI]
        exact upd_same
      · rintro Dl H' hD ⟨b, s', hL⟩
        rw [Int.toNat_natCast] at hL
        refine q _ Dl H' (nm_map (f := fun (k : Nat) => (n : Int) - 1 - (k : Int)) (fun i hi => ⟨by omega, by omega⟩) fun i j _ _ e => by omega) (b2.back s1 hD) b s' hL
    · walk_at "go"
      refine forR (fun i σ H' => ∃ (ns : List Int) (k5 k6 k7 : Option V), σ = [some (.ref s), some (.int (n : Int)), some (.ref p), some (.int r), k5, k6, k7] ∧ NM (n : Int) ns ∧ But s H H' ∧ Src H' s ∧ H' p = some (.lst (ns.map V.int))) ?_ ?_ ?_
      · exact ⟨_, none, none, none, rfl, nm_map (fun i hi => ⟨by omega, by omega⟩) (fun i j _ _ e => by omega), b2, s1, hp1⟩
      · rintro i σ H' hi ⟨ns, k5, k6, k7, rfl, hN, b, s2, hL⟩
        walk_at "go"
        intro o H3 o0 o1 b3 s3
        have hL3 := b3.at nps hL
        obtain ⟨u, u1, u2, u3⟩ := hN.get (k := 0 + (i : Int)) (by omega) (by omega)
        obtain ⟨w, w1, w2, w3⟩ := hN.get (k := 0 + (i : Int) + o) (by omega) (by omega)
        have hx1 : ixN (ns.map V.int).length (0 + (i : Int)) = some (0 + (i : Int)).toNat := ixn (by omega) (by rw [List.length_map]; have := hN.len; omega)
        have hx2 : ixN ((ns.map V.int).set (0 + (i : Int)).toNat (.int w)).length (0 + (i : Int) + o) = some (0 + (i : Int) + o).toNat := ixn (by omega) (by rw [List.length_set, List.length_map]; have := hN.len; omega)
        walk_at "go"
        refine ⟨_, _, _, _, rfl, hN.swap u1 w1, ((b.trans b3).mut hp).mut hp, (s3.mut nps).mut nps, ?_⟩
        rw [List.map_set, List.map_set]
        exact upd_same
      · rintro σ H' ⟨ns, k5, k6, k7, rfl, hN, b, s2, hL⟩
        walk_at "go"
        exact q ns p H' hN hp b s2 hL
/-! ### the same pointers under other names, turned round -/
def sp_law_named (K : PySem.W.Frag) (A : CA) : Sp := fun vs H Q _ => ∃ (q p : Addr) (turn : Nat) (rows : List (Int × Int)) (us : List V) (ns : List Int) (m : Int), vs = [.ref q, .ref p, .int (turn : Int)] ∧ H q = some (.lst us) ∧ Paired (PR H) us rows ∧ RG m rows ∧ NM m ns ∧ H p = some (.lst (ns.map V.int)) ∧
  turn ≤ us.length ∧ us.length ≤ 900 ∧ ∀ (rows' : List (Int × Int)) (us' : List V) (l : Addr) (H' : Hp), RG m rows' → us'.length = us.length → H l = none → Same H H' → H' l = some (.lst us') → Paired (PR H') us' rows' → Q (.ref l) H'
def t_law_named (K : PySem.W.Frag) (A : CA) : TS :=
  (tSeq (tAsg (tLc (iList K (tVar 0)) (gName 4) tYes (tTup (tCons (tOp (rIxL K) (tVar 1) (tOp (rIxT K) (tVar 4) (tC (.int 0)))) (tCons (tOp (rIxL K) (tVar 1) (tOp (rIxT K) (tVar 4) (tC (.int 1)))) tNil))) [4]) (gName 3))
  (tRet (tOp rCat (tSl (rSlL K) (tVar 3) (tPart (tVar 2)) tNoPart) (tSl (rSlL K) (tVar 3) tNoPart (tPart (tVar 2))))))

theorem rd_law_named {K : PySem.W.Frag} {A : CA} {vs : List V} {H : Hp} {Q : VK} {E : XK} (h : sp_law_named K A vs H Q E) :
    t_law_named K A { nx := fun _ H' => Q .non H', rt := Q } (start ["pointers", "names", "turn", "named", "pair"] vs) H := by
  obtain ⟨q, p, turn, rows, us, ns, m, rfl, hq, hP, hR, hN, hp, ht, hl, k⟩ := h
  have hlen := hP.length
  unfold t_law_named
  walk_at "go"
  refine lcL (xs := us) (fun Dl i H' => Same H H' ∧ ∃ ws, H' Dl = some (.lst ws) ∧ ws.length = i ∧ Paired (PR H') ws ((rows.map (ren ns)).take i)) (fun Dl hD => ⟨same_new hD, [], upd_same, rfl, .nil⟩) (fun Dl i H' hD hi ⟨e, _⟩ => SqL.of (e _ _ hq)) ?_ ?_
  · rintro Dl i x H' hD hx ⟨e, ws, hD', hw, hW⟩
    obtain ⟨r, hr, t, rfl, htup⟩ := Paired.at' hP hx
    have hb := hR.bd r (List.mem_of_getElem? hr)
    have f1 := (hN.at hb.1 hb.2.1).1
    have f2 := (hN.at hb.2.2.1 hb.2.2.2.1).1
    have htup' := e _ _ htup
    have hp' := e _ _ hp
    have hi : i < us.length := (List.getElem?_eq_some_iff.mp hx).1
    walk_at "go"
    intro t2 ht2
    walk_at "go"
    refine ⟨same_mut (e.trans (same_new ht2)) hD, _, upd_same, by simp [hw], ?_⟩
    have hi2 : i < (rows.map (ren ns)).length := by rw [List.length_map]; omega
    rw [List.take_succ, List.getElem?_map, hr]
    exact push_row hD' hW ht2
  · rintro Dl H' hD ⟨e, ws, hD', hw, hW⟩
    rw [hlen, List.take_of_length_le (by rw [List.length_map]; exact Nat.le_refl _)] at hW
    walk_at "go"
    intro l1 hl1
    rw [cut_from ws turn (by omega)]
    walk_at "go"
    intro l2 hl2
    rw [cut_to ws turn (by omega)]
    have n12 : l1 ≠ l2 := ne_of_none upd_same hl2
    walk_at "go"
    intro l hl3
    have e3 := ((e.trans (same_new hl1)).trans (same_new hl2)).trans (same_new (o := .lst (ws.drop turn ++ ws.take turn)) hl3)
    refine k ((rows.map (ren ns)).drop turn ++ (rows.map (ren ns)).take turn) _ l _ ((hR.ren hN).rot turn) ?_ (((e.trans (same_new hl1)).trans (same_new hl2)).free hl3) e3 upd_same ?_
    · rw [List.length_append, List.length_drop, List.length_take]; omega
    · have hW3 := PRs.new (o := .lst (ws.drop turn ++ ws.take turn)) hl3 (PRs.new (o := .lst (ws.take turn)) hl2 (PRs.new (o := .lst (ws.drop turn)) hl1 hW))
      exact Paired.app (Paired.take turn hW3) (Paired.drop turn hW3)
end G

end
section
local macro_rules | `(tactic| walk_at "call") => `(tactic| first
  | (refine' G.w_anyI ?g1 ?_; (case g1 => walk_at "sq")) | refine' G.w_lcE ?_ | (refine' G.w_enumSq ?g1 ?_; (case g1 => walk_at "sq"))
  | (refine' G.w_neI2 ?g1 ?g2 ?_; (case g1 => walk_at "sq"); (case g2 => walk_at "sq")) | (refine' G.w_eqI2 ?g1 ?g2 ?_; (case g1 => walk_at "sq"); (case g2 => walk_at "sq")))

local macro_rules | `(tactic| walk_at "call") => `(tactic| first
  | refine' G.w_iteNT ?_ | refine' G.w_iteNF ?_ | refine' G.w_iteRf ?_ | refine' G.w_iteNRf ?_ | refine' G.w_tru ?_ | (refine' G.w_truL ?g1 ?_; (case g1 => walk_at "sq")) | refine' G.w_revL ?_ | (refine' G.w_revL2 ?g1 ?_; (case g1 => walk_at "sq"))
  | (refine' G.w_rep ?g1 ?g2 ?g3 ?g4 ?_; (case g1 => walk_at "hp"); (case g2 => walk_at "ar"); (case g3 => walk_at "ar"); (case g4 => walk_at "sz"))
  | refine' G.w_isNr ?_ | refine' G.w_notN ?_ | refine' G.w_isII ?_ | refine' G.w_isIB ?_ | refine' G.w_isBB ?_ | (refine' G.w_isLL ?g1 ?_; (case g1 => walk_at "hp")))

local macro_rules | `(tactic| walk_at "call") => `(tactic| refine' G.w_oIntB ?_)

local macro_rules | `(tactic| walk_at "sqt") => `(tactic| first | assumption | exact L2.SqT.of (by walk_at "hp"))
local macro_rules | `(tactic| walk_at "call") => `(tactic| first
  | (refine' G.w_inI ?g1 ?_; (case g1 => walk_at "sq")) | (refine' G.w_ninI ?g1 ?_; (case g1 => walk_at "sq")) | refine' G.w_forRev ?_ | refine' G.w_lstRg3 ?_ | (refine' G.w_bdR ?g1 ?g2 ?_; (case g1 => walk_at "ar"); (case g2 => walk_at "ar"))
  | (refine' G.w_max ?g1 ?g2 ?_; (case g1 => walk_at "sq"); (case g2 => walk_at "ar")) | (refine' G.w_min ?g1 ?g2 ?_; (case g1 => walk_at "sq"); (case g2 => walk_at "ar"))
  | (refine' G.w_sortI ?g1 ?_; (case g1 => walk_at "sq")) | (refine' GY.w_tupL ?g1 ?_; (case g1 => walk_at "sq")) | refine' GY.w_star ?_ | (refine' GY.w_starL ?g1 ?_; (case g1 => walk_at "sq")) | (refine' GY.w_listT ?g1 ?_; (case g1 => walk_at "sqt")))

local macro_rules | `(tactic| walk_at "call") => `(tactic| (refine' G.w_cnt ?g1 ?_; (case g1 => walk_at "sq")))

local macro_rules | `(tactic| walk_at "call") => `(tactic| (refine' G.i_take ?g1 ?g2 ?g3 ?_; (case g1 => walk_at "src"); (case g2 => walk_at "ar"); (case g3 => walk_at "ar")))
local macro_rules | `(tactic| walk_at "call") => `(tactic| (refine' G.i_source ?_))
local macro_rules | `(tactic| walk_at "call") => `(tactic| (refine' G.i_cell ?g1 ?g2 ?g3 ?_; (case g1 => walk_at "sq"); (case g2 => walk_at "ar"); (case g3 => walk_at "ar")))

namespace G
open PySem L2
/-! ### further pointers -/
def sp_law_extras (K : PySem.W.Frag) (A : CA) : Sp := fun vs H Q _ => ∃ (s : Addr) (many shape : Int), vs = [.ref s, .int many, .int shape] ∧ Src H s ∧ 1 ≤ many ∧ many ≤ 200 ∧
  ∀ (rows : List (Int × Int)) (us : List V) (p : Addr) (H' : Hp), RB many rows → us.length ≤ 60 → H p = none → But s H H' → Src H' s → H' p = some (.lst us) → Paired (PR H') us rows → Q (.ref p) H'
def t_law_extras (K : PySem.W.Frag) (A : CA) : TS :=
  (tSeq (tAsg (tLst tNil) (gName 3))
  (C8.tCut (tIfS (tTest (tOp rEq (tVar 2) (tC (.int 3)))) (tDrop (tBM K "list" rAppend (tVar 3) (tCons (tTup (tCons (tOp oSub (tVar 1) (tC (.int 1))) (tCons (tC (.int 0)) tNil))) tNil))) tNext)
  (C8.tCut (tIfS (tOr (tTest (tOp rEq (tVar 2) (tC (.int 4)))) (tAnd (tTest (tOp rEq (tVar 2) (tC (.int 5)))) (tTest (tOp oGt (tVar 1) (tC (.int 7)))))) (tFor (iRng1 (tCons (tOp oAdd (tC (.int 1)) (tCall (sp_law_take K A) [] E0 (tCons (tVar 0) (tCons (tC (.int 8)) tNil)))) tNil)) (gName 4)
  (tSeq (tAsg (tCall (sp_law_take K A) [] E0 (tCons (tVar 0) (tCons (tVar 1) tNil))) (gName 5))
  (tDrop (tBM K "list" rAppend (tVar 3) (tCons (tTup (tCons (tVar 5) (tCons (tCall (sp_law_take K A) [] E0 (tCons (tVar 0) (tCons (tVar 1) tNil))) tNil))) tNil))))) tNext)
  (C8.tCut (tIfS (tAnd (tTest (tOp rEq (tVar 2) (tC (.int 5)))) (tTest (tOp oLe (tVar 1) (tC (.int 7))))) (tSeq (tAsg (tOp oAdd (tC (.int 2)) (tCall (sp_law_take K A) [] E0 (tCons (tVar 0) (tCons (tC (.int 3)) tNil)))) (gName 6))
  (tFor (iRng1 (tCons (tVar 1) tNil)) (gName 5)
  (tFor (iRng1 (tCons (tVar 1) tNil)) (gName 7)
  (tIfS (tAnd (tTest (tOp rNe (tVar 5) (tVar 7))) (tTest (tOp rEq (tCall (sp_law_take K A) [] E0 (tCons (tVar 0) (tCons (tVar 6) tNil))) (tC (.int 0))))) (tDrop (tBM K "list" rAppend (tVar 3) (tCons (tTup (tCons (tVar 5) (tCons (tVar 7) tNil))) tNil))) tNext)))) tNext)
  (tRet (tVar 3))))))

theorem rd_law_extras {K : PySem.W.Frag} {A : CA} {vs : List V} {H : Hp} {Q : VK} {E : XK} (h : sp_law_extras K A vs H Q E) :
    t_law_extras K A { nx := fun _ H' => Q .non H', rt := Q } (start ["source", "many", "shape", "more", "k", "start", "share", "end"] vs) H := by
  obtain ⟨s, many, shape, rfl, hs, h1, h2, q⟩ := h
  unfold t_law_extras
  walk_at "go"
  intro p hp
  have nps : p ≠ s := hs.neFree hp
  have g0 := Grow.start hs hp
  refine w_cut (fun σ H1 => ∃ (rows : List (Int × Int)) (us : List V) (k4 k5 k6 k7 : Option V), σ = [some (.ref s), some (.int many), some (.int shape), some (.ref p), k4, k5, k6, k7] ∧ RB many rows ∧ us.length ≤ 1 ∧ Grow H s p us rows H1) ?_ ?_
  · have h3 := g0.at_
    walk_at "go"
    refine w_iteD (fun c1 => ?_) (fun c1 => ?_)
    · walk_at "go"
      intro t ht
      walk_at "go"
      exact ⟨[(many - 1, 0)], [.ref t], none, none, none, none, rfl, RB.snoc (rows := []) (fun x hx => by cases hx) (by omega) (by omega) (by omega) (by omega), Nat.le_refl _, g0.push nps hp ht⟩
    · walk_at "go"
      exact ⟨[], [], none, none, none, none, rfl, (fun x hx => by cases hx), Nat.zero_le _, g0⟩
  rintro σ H1 ⟨rows, us, k4, k5, k6, k7, rfl, hB, hl, g⟩
  refine w_cut (fun σ H1 => ∃ (rows : List (Int × Int)) (us : List V) (k4 k5 k6 k7 : Option V), σ = [some (.ref s), some (.int many), some (.int shape), some (.ref p), k4, k5, k6, k7] ∧ RB many rows ∧ us.length ≤ 10 ∧ Grow H s p us rows H1) ?_ ?_
  · have s1 := g.src
    have loop : tFor (iRng1 (tCons (tOp oAdd (tC (.int 1)) (tCall (sp_law_take K A) [] E0 (tCons (tVar 0) (tCons (tC (.int 8)) tNil)))) tNil)) (gName 4)
        (tSeq (tAsg (tCall (sp_law_take K A) [] E0 (tCons (tVar 0) (tCons (tVar 1) tNil))) (gName 5))
          (tDrop (tBM K "list" rAppend (tVar 3) (tCons (tTup (tCons (tVar 5) (tCons (tCall (sp_law_take K A) [] E0 (tCons (tVar 0) (tCons (tVar 1) tNil))) tNil))) tNil))))
        { nx := fun σ H1 => ∃ (rows : List (Int × Int)) (us : List V) (k4 k5 k6 k7 : Option V), σ = [some (.ref s), some (.int many), some (.int shape), some (.ref p), k4, k5, k6, k7] ∧ RB many rows ∧ us.length ≤ 10 ∧ Grow H s p us rows H1, rt := Q }
        [some (.ref s), some (.int many), some (.int shape), some (.ref p), k4, k5, k6, k7] H1 := by
      walk_at "go"
      intro z H2 z0 z1 b2 s2
      have g2 := g.step nps b2 s2
      walk_at "go"
      refine forR (fun i σ H1 => ∃ (rows : List (Int × Int)) (us : List V) (k4 k5 k6 k7 : Option V), σ = [some (.ref s), some (.int many), some (.int shape), some (.ref p), k4, k5, k6, k7] ∧ RB many rows ∧ us.length ≤ 1 + i ∧ Grow H s p us rows H1) ?_ ?_ ?_
      · exact ⟨rows, us, k4, k5, k6, k7, rfl, hB, hl, g2⟩
      · rintro i σ H3 hi ⟨rows, us, k4, k5, k6, k7, rfl, hB, hl, g⟩
        have s3 := g.src
        walk_at "go"
        intro a H4 a0 a1 b4 s4
        have g4 := g.step nps b4 s4
        have h4 := g4.at_
        walk_at "go"
        intro c H5 c0 c1 b5 s5
        have g5 := g4.step nps b5 s5
        have h5 := g5.at_
        walk_at "go"
        intro t ht
        walk_at "go"
        refine ⟨_, _, _, _, _, _, rfl, hB.snoc a0 a1 c0 c1, ?_, g5.push nps hp ht⟩
        rw [List.length_append, List.length_singleton]; omega
      · rintro σ H3 ⟨rows, us, k4, k5, k6, k7, rfl, hB, hl, g⟩
        exact ⟨rows, us, k4, k5, k6, k7, rfl, hB, by omega, g⟩
    have no : ∀ Q : Prop, ((∃ (rows : List (Int × Int)) (us : List V) (k4' k5' k6' k7' : Option V), [some (V.ref s), some (.int many), some (.int shape), some (.ref p), k4, k5, k6, k7] = [some (.ref s), some (.int many), some (.int shape), some (.ref p), k4', k5', k6', k7'] ∧ RB many rows ∧ us.length ≤ 10 ∧ Grow H s p us rows H1) → Q) → Q := fun _ f => f ⟨rows, us, k4, k5, k6, k7, rfl, hB, by omega, g⟩
    walk_at "go"
    refine w_iteD (fun c1 => ?_) (fun c1 => ?_)
    · with_reducible refine w_iteT ?_
      exact loop
    · walk_at "go"
      refine w_iteD (fun c2 => ?_) (fun c2 => ?_)
      · walk_at "go"
        refine w_iteD (fun c3 => ?_) (fun c3 => ?_)
        · exact loop
        · walk_at "go"
          exact no _ id
      · walk_at "go"
        exact no _ id
  rintro σ H1 ⟨rows, us, k4, k5, k6, k7, rfl, hB, hl, g⟩
  have s1 := g.src
  refine w_cut (fun σ H1 => ∃ (rows : List (Int × Int)) (us : List V) (k4 k5 k6 k7 : Option V), σ = [some (.ref s), some (.int many), some (.int shape), some (.ref p), k4, k5, k6, k7] ∧ RB many rows ∧ us.length ≤ 60 ∧ Grow H s p us rows H1) ?_ ?_
  · walk_at "go"
    refine w_iteD (fun c1 => ?_) (fun c1 => ?_)
    · walk_at "go"
      refine w_iteD (fun c2 => ?_) (fun c2 => ?_)
      · walk_at "go"
        intro sh H2 r0 r1 b2 s2
        have g2 := g.step nps b2 s2
        walk_at "go"
        refine forR (fun i σ H' => ∃ (rows : List (Int × Int)) (us : List V) (k4 k5 k7 : Option V), σ = [some (.ref s), some (.int many), some (.int shape), some (.ref p), k4, k5, some (.int (2 + sh)), k7] ∧ RB many rows ∧ us.length ≤ 10 + 7 * i ∧ Grow H s p us rows H') ?_ ?_ ?_
        · exact ⟨rows, us, k4, k5, k7, rfl, hB, hl, g2⟩
        · rintro i σ H3 hi ⟨rows, us, k4, k5, k7, rfl, hB, hl, g⟩
          walk_at "go"
          refine forR (fun j σ H' => ∃ (rows : List (Int × Int)) (us : List V) (k4 k7 : Option V), σ = [some (.ref s), some (.int many), some (.int shape), some (.ref p), k4, some (.int (0 + (i : Int))), some (.int (2 + sh)), k7] ∧ RB many rows ∧ us.length ≤ 10 + 7 * i + j ∧ Grow H s p us rows H') ?_ ?_ ?_
          · exact ⟨rows, us, k4, k7, rfl, hB, hl, g⟩
          · rintro j σ H4 hj ⟨rows, us, k4, k7, rfl, hB, hl, g⟩
            have s4 := g.src
            have h3 := g.at_
            walk_at "go"
            refine w_iteN (fun c3 => ?_) (fun c3 => ?_)
            · walk_at "go"
              intro r H5 r0 r1 b5 s5
              have g5 := g.step nps b5 s5
              have h5 := g5.at_
              walk_at "go"
              refine w_iteD (fun c4 => ?_) (fun c4 => ?_)
              · walk_at "go"
                intro t ht
                walk_at "go"
                refine ⟨_, _, _, _, rfl, hB.snoc (by omega) (by omega) (by omega) (by omega), ?_, g5.push nps hp ht⟩
                rw [List.length_append, List.length_singleton]; omega
              · walk_at "go"
                exact ⟨rows, us, _, _, rfl, hB, by omega, g5⟩
            · walk_at "go"
              exact ⟨rows, us, _, _, rfl, hB, by omega, g⟩
          · rintro σ H4 ⟨rows, us, k4, k7, rfl, hB, hl, g⟩
            exact ⟨rows, us, _, _, _, rfl, hB, by omega, g⟩
        · rintro σ H3 ⟨rows, us, k4, k5, k7, rfl, hB, hl, g⟩
          exact ⟨rows, us, _, _, _, _, rfl, hB, by omega, g⟩
      · walk_at "go"
        exact ⟨rows, us, _, _, _, _, rfl, hB, by omega, g⟩
    · walk_at "go"
      exact ⟨rows, us, _, _, _, _, rfl, hB, by omega, g⟩
  rintro σ H3 ⟨rows, us, k4, k5, k6, k7, rfl, hB, hl, g⟩
  walk_at "go"
  exact q rows us p H3 hB hl hp g.b g.src g.at_ g.pr
end G

end
section
local macro_rules | `(tactic| walk_at "call") => `(tactic| first
  | (refine' G.w_anyI ?g1 ?_; (case g1 => walk_at "sq")) | refine' G.w_lcE ?_ | (refine' G.w_enumSq ?g1 ?_; (case g1 => walk_at "sq"))
  | (refine' G.w_neI2 ?g1 ?g2 ?_; (case g1 => walk_at "sq"); (case g2 => walk_at "sq")) | (refine' G.w_eqI2 ?g1 ?g2 ?_; (case g1 => walk_at "sq"); (case g2 => walk_at "sq")))

local macro_rules | `(tactic| walk_at "call") => `(tactic| first
  | refine' G.w_iteNT ?_ | refine' G.w_iteNF ?_ | refine' G.w_iteRf ?_ | refine' G.w_iteNRf ?_ | refine' G.w_tru ?_ | (refine' G.w_truL ?g1 ?_; (case g1 => walk_at "sq")) | refine' G.w_revL ?_ | (refine' G.w_revL2 ?g1 ?_; (case g1 => walk_at "sq"))
  | (refine' G.w_rep ?g1 ?g2 ?g3 ?g4 ?_; (case g1 => walk_at "hp"); (case g2 => walk_at "ar"); (case g3 => walk_at "ar"); (case g4 => walk_at "sz"))
  | refine' G.w_isNr ?_ | refine' G.w_notN ?_ | refine' G.w_isII ?_ | refine' G.w_isIB ?_ | refine' G.w_isBB ?_ | (refine' G.w_isLL ?g1 ?_; (case g1 => walk_at "hp")))

local macro_rules | `(tactic| walk_at "call") => `(tactic| refine' G.w_oIntB ?_)

local macro_rules | `(tactic| walk_at "sqt") => `(tactic| first | assumption | exact L2.SqT.of (by walk_at "hp"))
local macro_rules | `(tactic| walk_at "call") => `(tactic| first
  | (refine' G.w_inI ?g1 ?_; (case g1 => walk_at "sq")) | (refine' G.w_ninI ?g1 ?_; (case g1 => walk_at "sq")) | refine' G.w_forRev ?_ | refine' G.w_lstRg3 ?_ | (refine' G.w_bdR ?g1 ?g2 ?_; (case g1 => walk_at "ar"); (case g2 => walk_at "ar"))
  | (refine' G.w_max ?g1 ?g2 ?_; (case g1 => walk_at "sq"); (case g2 => walk_at "ar")) | (refine' G.w_min ?g1 ?g2 ?_; (case g1 => walk_at "sq"); (case g2 => walk_at "ar"))
  | (refine' G.w_sortI ?g1 ?_; (case g1 => walk_at "sq")) | (refine' GY.w_tupL ?g1 ?_; (case g1 => walk_at "sq")) | refine' GY.w_star ?_ | (refine' GY.w_starL ?g1 ?_; (case g1 => walk_at "sq")) | (refine' GY.w_listT ?g1 ?_; (case g1 => walk_at "sqt")))

local macro_rules | `(tactic| walk_at "call") => `(tactic| (refine' G.w_cnt ?g1 ?_; (case g1 => walk_at "sq")))

local macro_rules | `(tactic| walk_at "call") => `(tactic| (refine' G.i_take ?g1 ?g2 ?g3 ?_; (case g1 => walk_at "src"); (case g2 => walk_at "ar"); (case g3 => walk_at "ar")))
local macro_rules | `(tactic| walk_at "call") => `(tactic| (refine' G.i_source ?_))
local macro_rules | `(tactic| walk_at "call") => `(tactic| (refine' G.i_cell ?g1 ?g2 ?g3 ?_; (case g1 => walk_at "sq"); (case g2 => walk_at "ar"); (case g3 => walk_at "ar")))

namespace G
open PySem L2
/-! ### a pair in a list of pairs -/
def sp_law_joined (K : PySem.W.Frag) (A : CA) : Sp := fun vs H Q _ => ∃ (q p : Addr) (rows more : List (Int × Int)) (us ws : List V) (m : Int), vs = [.ref q, .ref p] ∧ H q = some (.lst us) ∧ Paired (PR H) us rows ∧ RG m rows ∧ H p = some (.lst ws) ∧ Paired (PR H) ws more ∧ RB m more ∧
  us.length ≤ 400 ∧ ws.length ≤ 60 ∧ ∀ (rows' : List (Int × Int)) (us' : List V) (l : Addr) (H' : Hp), RG m rows' → us'.length ≤ us.length + ws.length → H l = none → Same H H' → H' l = some (.lst us') → Paired (PR H') us' rows' → Q (.ref l) H'
def t_law_joined (K : PySem.W.Frag) (A : CA) : TS :=
  (tSeq (tAsg (tCB (oListOf K) (tCons (tVar 0) tNil)) (gName 2))
  (tSeq (tFor (iList K (tVar 1)) (gName 3)
  (tIfS (tAnd (tTest (tOp rNe (tOp (rIxT K) (tVar 3) (tC (.int 0))) (tOp (rIxT K) (tVar 3) (tC (.int 1))))) (tTest (tOp (rNotInD K) (tVar 3) (tVar 2)))) (tDrop (tBM K "list" rAppend (tVar 2) (tCons (tVar 3) tNil))) tNext))
  (tRet (tVar 2))))

theorem rd_law_joined {K : PySem.W.Frag} {A : CA} {vs : List V} {H : Hp} {Q : VK} {E : XK} (h : sp_law_joined K A vs H Q E) :
    t_law_joined K A { nx := fun _ H' => Q .non H', rt := Q } (start ["pointers", "more", "joined", "pair"] vs) H := by
  obtain ⟨q, p, rows, more, us, ws, m, rfl, hq, hP, hR, hp, hM, hB, hl, hw, k⟩ := h
  unfold t_law_joined
  walk_at "go"
  intro l hl0
  have npl : p ≠ l := ne_of_none hp hl0
  walk_at "go"
  refine forL (xs := ws) (fun i σ H' => ∃ (rows' : List (Int × Int)) (us' : List V) (k3 : Option V), σ = [some (.ref q), some (.ref p), some (.ref l), k3] ∧ RG m rows' ∧ us'.length ≤ us.length + i ∧ Same H H' ∧ H' l = some (.lst us') ∧ Paired (PR H') us' rows') ?_ ?_ ?_ ?_
  · exact ⟨rows, us, none, rfl, hR, Nat.le_refl _, same_new hl0, upd_same, PRs.new hl0 hP⟩
  · rintro i σ H1 hi ⟨rows', us', k3, rfl, hR', hl', e, hL, hP'⟩
    exact SqL.of (e _ _ hp)
  · rintro i x σ H1 hx ⟨rows', us', k3, rfl, hR', hl', e, hL, hP'⟩
    obtain ⟨r, hr, t, rfl, ht⟩ := Paired.at' hM hx
    have hb := hB r (List.mem_of_getElem? hr)
    have ht' := e _ _ ht
    have hi : i < ws.length := (List.getElem?_eq_some_iff.mp hx).1
    walk_at "go"
    refine w_iteN (fun c1 => ?_) (fun c1 => ?_)
    · walk_at "go"
      refine ⟨pd r, rows'.map pd, dp_row ⟨t, rfl, ht'⟩, dp_rows hL hP', pd_shaped r, pds_shaped _, ?_⟩
      rw [pd_any]
      walk_at "go"
      refine w_iteN (fun c2 => ?_) (fun c2 => ?_)
      · walk_at "go"
        refine ⟨rows' ++ [r], _, _, rfl, hR'.snoc (Int.le_refl _) hb.1 hb.2.1 hb.2.2.1 hb.2.2.2 c1 c2, ?_, same_mut e hl0, upd_same, ?_⟩
        · rw [List.length_append, List.length_singleton]; omega
        · exact (PRs.mutL hL hP').snoc ⟨t, rfl, keepNe ht' (ne_of ht' hL (by intro z; cases z))⟩
      · walk_at "go"
        exact ⟨rows', us', _, rfl, hR', by omega, e, hL, hP'⟩
    · walk_at "go"
      exact ⟨rows', us', _, rfl, hR', by omega, e, hL, hP'⟩
  · rintro σ H1 ⟨rows', us', k3, rfl, hR', hl', e, hL, hP'⟩
    walk_at "go"
    exact k rows' us' l H1 hR' hl' hl0 e hL hP'
/-! ### the law's world -/
def sp_law_world (K : PySem.W.Frag) (A : CA) : Sp := fun vs H Q _ => ∃ (a : Addr) (room : Int) (ns : List Int), vs = [.ref a, .int room] ∧ SqL K H a (ns.map V.int) ∧ ns.length ≤ 63 ∧ 1 ≤ room ∧ room ≤ 100 ∧
  ∀ (many shape : Int) (rows : List (Int × Int)) (us : List V) (names parents : List Int) (t pq np pp : Addr) (H' : Hp), Same H H' → H t = none → H pq = none → H np = none → H pp = none → H' t = some (.tup [.int many, .ref pq, .ref np, .ref pp, .int shape]) → 1 ≤ many → many ≤ 110 →
    RG many rows → us.length ≤ 500 → H' pq = some (.lst us) → Paired (PR H') us rows → H' np = some (.lst (names.map V.int)) → NM many names → H' pp = some (.lst (parents.map V.int)) → Q (.ref t) H'
def t_law_world (K : PySem.W.Frag) (A : CA) : TS :=
  (tSeq (tAsg (tCall (sp_law_source K A) [] E0 (tCons (tCall (sp_law_cell K A) [] E0 (tCons (tVar 0) (tCons (tC (.int 0)) tNil))) tNil)) (gName 2))
  (tSeq (tAsg (tOp oAdd (tC (.int 1)) (tCall (sp_law_take K A) [] E0 (tCons (tVar 2) (tCons (tC (.int 7)) tNil)))) (gName 3))
  (C8.tCut (tIfS (tTest (tOp rEq (tCall (sp_law_take K A) [] E0 (tCons (tVar 2) (tCons (tC (.int 8)) tNil))) (tC (.int 5)))) (tAsg (tOp oAdd (tC (.int 10)) (tCall (sp_law_take K A) [] E0 (tCons (tVar 2) (tCons (tVar 1) tNil)))) (gName 3)) tNext)
  (tSeq (tAsg (tOp (rIxL K) (tLst (tCons (tC (.int 0)) (tCons (tC (.int 0)) (tCons (tC (.int 1)) (tCons (tC (.int 2)) (tCons (tC (.int 3)) (tCons (tC (.int 4)) (tCons (tC (.int 5)) (tCons (tC (.int 5)) tNil))))))))) (tCall (sp_law_take K A) [] E0 (tCons (tVar 2) (tCons (tC (.int 8)) tNil)))) (gName 4))
  (tSeq (tAsg (tCall (sp_law_take K A) [] E0 (tCons (tVar 2) (tCons (tC (.int 6)) tNil))) (gName 5))
  (tSeq (tAsg (tCall (sp_law_parents K A) [] E0 (tCons (tCall (sp_law_source K A) [] E0 (tCons (tCall (sp_law_cell K A) [] E0 (tCons (tVar 0) (tCons (tC (.int 1)) tNil))) tNil)) (tCons (tVar 3) (tCons (tVar 4) tNil)))) (gName 6))
  (tSeq (tAsg (tCall (sp_law_pointers K A) [] E0 (tCons (tCall (sp_law_source K A) [] E0 (tCons (tCall (sp_law_cell K A) [] E0 (tCons (tVar 0) (tCons (tC (.int 2)) tNil))) tNil)) (tCons (tVar 6) (tCons (tVar 5) tNil)))) (gName 7))
  (tSeq (tAsg (tCall (sp_law_joined K A) [] E0 (tCons (tVar 7) (tCons (tCall (sp_law_extras K A) [] E0 (tCons (tCall (sp_law_source K A) [] E0 (tCons (tCall (sp_law_cell K A) [] E0 (tCons (tVar 0) (tCons (tC (.int 3)) tNil))) tNil)) (tCons (tVar 3) (tCons (tVar 4) tNil)))) tNil))) (gName 7))
  (tSeq (tAsg (tCall (sp_law_names K A) [] E0 (tCons (tCall (sp_law_source K A) [] E0 (tCons (tCall (sp_law_cell K A) [] E0 (tCons (tVar 0) (tCons (tC (.int 4)) tNil))) tNil)) (tCons (tVar 3) tNil))) (gName 8))
  (tSeq (tAsg (tCall (sp_law_take K A) [] E0 (tCons (tVar 2) (tCons (tOp oAdd (tC (.int 1)) (tCB (rLenQ K) (tCons (tVar 7) tNil))) tNil))) (gName 9))
  (tRet (tTup (tCons (tVar 3) (tCons (tCall (sp_law_named K A) [] E0 (tCons (tVar 7) (tCons (tVar 8) (tCons (tVar 9) tNil)))) (tCons (tVar 8) (tCons (tVar 6) (tCons (tVar 4) tNil)))))))))))))))))

theorem rd_law_world {K : PySem.W.Frag} {A : CA} {vs : List V} {H : Hp} {Q : VK} {E : XK} (h : sp_law_world K A vs H Q E) :
    t_law_world K A { nx := fun _ H' => Q .non H', rt := Q } (start ["script", "room", "source", "many", "shape", "way", "parents", "pointers", "names", "turn"] vs) H := by
  obtain ⟨a, room, ns, rfl, hs, h63, r1, r2, q⟩ := h
  unfold t_law_world
  walk_at "go"
  intro c0 H1 e1
  walk_at "go"
  intro s H2 f2 e2 s2
  have fs : H s = none := e1.free f2
  have E2 := e1.trans e2
  walk_at "go"
  intro m H3 m0 m1 b3 s3
  have E3 := same_but E2 fs b3
  walk_at "go"
  refine w_cut (fun σ H' => ∃ many : Int, σ = [some (.ref a), some (.int room), some (.ref s), some (.int many), none, none, none, none, none, none] ∧ 1 ≤ many ∧ many ≤ 110 ∧ Same H H' ∧ Src H' s) ?_ ?_
  · walk_at "go"
    intro r H4 x0 x1 b4 s4
    have E4 := same_but E3 fs b4
    walk_at "go"
    refine w_iteD (fun c => ?_) (fun c => ?_)
    · walk_at "go"
      intro r' H5 y0 y1 b5 s5
      have E5 := same_but E4 fs b5
      walk_at "go"
      exact ⟨_, rfl, by omega, by omega, E5, s5⟩
    · walk_at "go"
      exact ⟨_, rfl, by omega, by omega, E4, s4⟩
  rintro σ H4 ⟨many, rfl, M1, M2, E4, s4⟩
  walk_at "go"
  intro p hp
  walk_at "go"
  intro sh H5 x0 x1 b5 s5
  have E5 := same_but (E4.trans (same_new hp)) fs b5
  have hp5 := b5.at (s4.neFree hp) upd_same
  have hx : atI [V.int 0, V.int 0, V.int 1, V.int 2, V.int 3, V.int 4, V.int 5, V.int 5] sh = some (V.int (([0, 0, 1, 2, 3, 4, 5, 5] : List Int).getD sh.toNat 0)) := ati (xs := [0, 0, 1, 2, 3, 4, 5, 5]) x0 x1
  generalize ([0, 0, 1, 2, 3, 4, 5, 5] : List Int).getD sh.toNat 0 = shape at hx
  walk_at "go"
  intro way H6 w0 w1 b6 s6
  have E6 := same_but E5 fs b6
  walk_at "go"
  intro c1 H7 e7
  have E7 := E6.trans e7
  have s7 := s6.same e7
  walk_at "go"
  intro sp H8 fp e8 sp8
  have E8 := E7.trans e8
  have s8 := s7.same e8
  have fsp := E7.free fp
  have nsp := s7.neFree fp
  walk_at "go"
  refine ⟨sp, many, shape, rfl, sp8, by omega, by omega, fun ps pp H9 hpl hpP fpp b9 s9' h9 => ?_⟩
  have E9 := same_but E8 fsp b9
  have s9 := s8.but b9 nsp.symm
  have fpp' := E8.free fpp
  walk_at "go"
  intro c2 H10 e10
  have E10 := E9.trans e10
  have s10 := s9.same e10
  walk_at "go"
  intro sq H11 fq e11 sq11
  have E11 := E10.trans e11
  have s11 := s10.same e11
  have fsq := E10.free fq
  have nsq := s10.neFree fq
  have h10 := e10 _ _ h9
  have h11 := e11 _ _ h10
  have nqp : pp ≠ sq := ne_of_none h10 fq
  walk_at "go"
  refine ⟨sq, pp, way, ps, rfl, sq11, h11, nqp, hpP, by omega, by omega, fun rows us pq H12 hR hul fpq b12 s12' h12 hW12 => ?_⟩
  rw [hpl] at hR
  have E12 := same_but E11 fsq b12
  have s12 := s11.but b12 nsq.symm
  have fpq' := E11.free fpq
  have pp12 := b12.at nqp h11
  walk_at "go"
  intro c3 H13 e13
  have E13 := E12.trans e13
  have s13 := s12.same e13
  walk_at "go"
  intro sx H14 fx e14 sx14
  have E14 := E13.trans e14
  have s14 := s13.same e14
  have fsx := E13.free fx
  have nsx := s13.neFree fx
  have h13 := e13 _ _ h12
  have h14 := e14 _ _ h13
  have nqx : pq ≠ sx := ne_of_none h13 fx
  have hW14 := PRs.same e14 (PRs.same e13 hW12)
  have pp13 := e13 _ _ pp12
  have pp14 := e14 _ _ pp13
  have npx : pp ≠ sx := ne_of_none pp13 fx
  walk_at "go"
  refine ⟨sx, many, shape, rfl, sx14, by omega, by omega, fun more ws px H15 hB hwl fpx b15 s15' h15 hW15 => ?_⟩
  have E15 := same_but E14 fsx b15
  have s15 := s14.but b15 nsx.symm
  have hq15 := b15.at nqx h14
  have hWq15 := PRs.but b15 sx14 hW14
  have pp15 := b15.at npx pp14
  walk_at "go"
  refine ⟨pq, px, rows, more, us, ws, many, rfl, hq15, hWq15, hR, h15, hW15, hB, by omega, by omega, fun rows' us' pj H16 hRj hlj fpj e16 h16 hW16 => ?_⟩
  have E16 := E15.trans e16
  have s16 := s15.same e16
  have fpj' := E15.free fpj
  have pp16 := e16 _ _ pp15
  walk_at "go"
  intro c4 H17 e17
  have E17 := E16.trans e17
  have s17 := s16.same e17
  walk_at "go"
  intro sn H18 fn e18 sn18
  have E18 := E17.trans e18
  have s18 := s17.same e18
  have fsn := E17.free fn
  have nsn := s17.neFree fn
  have h17 := e17 _ _ h16
  have h18 := e18 _ _ h17
  have njn : pj ≠ sn := ne_of_none h17 fn
  have hW18 := PRs.same e18 (PRs.same e17 hW16)
  have pp17 := e17 _ _ pp16
  have pp18 := e18 _ _ pp17
  have npn : pp ≠ sn := ne_of_none pp17 fn
  walk_at "go"
  refine ⟨sn, many, rfl, sn18, by omega, by omega, fun names np H19 hN fnp b19 s19' h19 => ?_⟩
  have E19 := same_but E18 fsn b19
  have s19 := s18.but b19 nsn.symm
  have fnp' := E18.free fnp
  have hj19 := b19.at njn h18
  have hWj19 := PRs.but b19 sn18 hW18
  have pp19 := b19.at npn pp18
  have njs : pj ≠ s := s15.neFree fpj
  have npps : pp ≠ s := (s8.neFree fpp)
  have nnps : np ≠ s := (s18.neFree fnp)
  walk_at "go"
  intro turn H20 t0 t1 b20 s20
  have E20 := same_but E19 fs b20
  have hj20 := b20.at njs hj19
  have hWj20 := PRs.but b20 s19 hWj19
  have hn20 := b20.at nnps h19
  have pp20 := b20.at npps pp19
  walk_at "go"
  refine ⟨pj, np, turn.toNat, rows', us', names, many, by rw [Int.toNat_of_nonneg t0], hj20, hWj20, hRj, hN, hn20, by omega, by omega, fun rows2 us2 pl H21 hR2 hl2 fpl e21 h21 hW21 => ?_⟩
  have E21 := E20.trans e21
  walk_at "go"
  intro t ht
  exact q many shape rows2 us2 names ps t pl np pp _ (E21.trans (same_new ht)) (E21.free ht) (E20.free fpl) fnp' fpp' upd_same M1 M2 hR2 (by omega) (keep h21 ht) (PRs.new ht hW21) (keep (e21 _ _ hn20) ht) hN (keep (e21 _ _ pp20) ht)
end G

end
section
local macro_rules | `(tactic| walk_at "call") => `(tactic| first
  | (refine' G.w_anyI ?g1 ?_; (case g1 => walk_at "sq")) | refine' G.w_lcE ?_ | (refine' G.w_enumSq ?g1 ?_; (case g1 => walk_at "sq"))
  | (refine' G.w_neI2 ?g1 ?g2 ?_; (case g1 => walk_at "sq"); (case g2 => walk_at "sq")) | (refine' G.w_eqI2 ?g1 ?g2 ?_; (case g1 => walk_at "sq"); (case g2 => walk_at "sq")))

local macro_rules | `(tactic| walk_at "call") => `(tactic| first
  | refine' G.w_iteNT ?_ | refine' G.w_iteNF ?_ | refine' G.w_iteRf ?_ | refine' G.w_iteNRf ?_ | refine' G.w_tru ?_ | (refine' G.w_truL ?g1 ?_; (case g1 => walk_at "sq")) | refine' G.w_revL ?_ | (refine' G.w_revL2 ?g1 ?_; (case g1 => walk_at "sq"))
  | (refine' G.w_rep ?g1 ?g2 ?g3 ?g4 ?_; (case g1 => walk_at "hp"); (case g2 => walk_at "ar"); (case g3 => walk_at "ar"); (case g4 => walk_at "sz"))
  | refine' G.w_isNr ?_ | refine' G.w_notN ?_ | refine' G.w_isII ?_ | refine' G.w_isIB ?_ | refine' G.w_isBB ?_ | (refine' G.w_isLL ?g1 ?_; (case g1 => walk_at "hp")))

local macro_rules | `(tactic| walk_at "call") => `(tactic| refine' G.w_oIntB ?_)

local macro_rules | `(tactic| walk_at "sqt") => `(tactic| first | assumption | exact L2.SqT.of (by walk_at "hp"))
local macro_rules | `(tactic| walk_at "call") => `(tactic| first
  | (refine' G.w_inI ?g1 ?_; (case g1 => walk_at "sq")) | (refine' G.w_ninI ?g1 ?_; (case g1 => walk_at "sq")) | refine' G.w_forRev ?_ | refine' G.w_lstRg3 ?_ | (refine' G.w_bdR ?g1 ?g2 ?_; (case g1 => walk_at "ar"); (case g2 => walk_at "ar"))
  | (refine' G.w_max ?g1 ?g2 ?_; (case g1 => walk_at "sq"); (case g2 => walk_at "ar")) | (refine' G.w_min ?g1 ?g2 ?_; (case g1 => walk_at "sq"); (case g2 => walk_at "ar"))
  | (refine' G.w_sortI ?g1 ?_; (case g1 => walk_at "sq")) | (refine' GY.w_tupL ?g1 ?_; (case g1 => walk_at "sq")) | refine' GY.w_star ?_ | (refine' GY.w_starL ?g1 ?_; (case g1 => walk_at "sq")) | (refine' GY.w_listT ?g1 ?_; (case g1 => walk_at "sqt")))

local macro_rules | `(tactic| walk_at "call") => `(tactic| (refine' G.w_cnt ?g1 ?_; (case g1 => walk_at "sq")))

local macro_rules | `(tactic| walk_at "call") => `(tactic| (refine' G.i_take ?g1 ?g2 ?g3 ?_; (case g1 => walk_at "src"); (case g2 => walk_at "ar"); (case g3 => walk_at "ar")))
local macro_rules | `(tactic| walk_at "call") => `(tactic| (refine' G.i_source ?_))
local macro_rules | `(tactic| walk_at "call") => `(tactic| (refine' G.i_cell ?g1 ?g2 ?g3 ?_; (case g1 => walk_at "sq"); (case g2 => walk_at "ar"); (case g3 => walk_at "ar")))

namespace G
open PySem L2
def sp_law_lines (K : PySem.W.Frag) (A : CA) : Sp := fun vs H Q _ => ∃ (s : Addr), vs = [.ref s] ∧ Src H s ∧ ∀ (l : Int) (H' : Hp), 0 ≤ l → l ≤ 60 → But s H H' → Src H' s → Q (.int l) H'
def t_law_lines (K : PySem.W.Frag) (A : CA) : TS :=
  (tSeq (tAsg (tCall (sp_law_take K A) [] E0 (tCons (tVar 0) (tCons (tC (.int 12)) tNil))) (gName 1))
  (tSeq (tIfS (tTest (tOp rEq (tVar 1) (tC (.int 11)))) (tRet (tCall (sp_law_take K A) [] E0 (tCons (tVar 0) (tCons (tC (.int 61)) tNil)))) tNext)
  (tRet (tOp (rIxL K) (tLst (tCons (tC (.int 0)) (tCons (tC (.int 1)) (tCons (tC (.int 1)) (tCons (tC (.int 2)) (tCons (tC (.int 2)) (tCons (tC (.int 3)) (tCons (tC (.int 3)) (tCons (tC (.int 4)) (tCons (tC (.int 5)) (tCons (tC (.int 5)) (tCons (tC (.int 60)) tNil)))))))))))) (tVar 1)))))

theorem rd_law_lines {K : PySem.W.Frag} {A : CA} {vs : List V} {H : Hp} {Q : VK} {E : XK} (h : sp_law_lines K A vs H Q E) :
    t_law_lines K A { nx := fun _ H' => Q .non H', rt := Q } (start ["source", "pick"] vs) H := by
  obtain ⟨s, rfl, hs, q⟩ := h
  unfold t_law_lines
  walk_at "go"
  intro r H1 r0 r1 b1 s1
  walk_at "go"
  refine w_iteD (fun c => ?_) (fun c => ?_)
  · walk_at "go"
    intro l H2 l0 l1 b2 s2
    exact q l H2 l0 (by omega) (b1.trans b2) s2
  · walk_at "go"
    intro p hp
    have hx : atI [V.int 0, V.int 1, V.int 1, V.int 2, V.int 2, V.int 3, V.int 3, V.int 4, V.int 5, V.int 5, V.int 60] r = some (V.int (([0, 1, 1, 2, 2, 3, 3, 4, 5, 5, 60] : List Int).getD r.toNat 0)) := ati (xs := [0, 1, 1, 2, 2, 3, 3, 4, 5, 5, 60]) r0 (by show r < 11; omega)
    have hb : ∀ k : Nat, k < 11 → 0 ≤ ([0, 1, 1, 2, 2, 3, 3, 4, 5, 5, 60] : List Int).getD k 0 ∧ ([0, 1, 1, 2, 2, 3, 3, 4, 5, 5, 60] : List Int).getD k 0 ≤ 60 := by decide
    have hb := hb r.toNat (by omega)
    generalize ([0, 1, 1, 2, 2, 3, 3, 4, 5, 5, 60] : List Int).getD r.toNat 0 = z at hx hb
    walk_at "go"
    exact q z _ hb.1 hb.2 (b1.new hp) (s1.new hp)
def sp_law_owners (K : PySem.W.Frag) (A : CA) : Sp := fun vs H Q _ => ∃ (s q : Addr) (rows : List (Int × Int)) (us : List V) (m : Int), vs = [.ref s, .ref q] ∧ Src H s ∧ H q = some (.lst us) ∧ q ≠ s ∧ Paired (PR H) us rows ∧ RG m rows ∧ us.length ≤ 600 ∧
  ∀ (os : List Int) (p : Addr) (H' : Hp), os.length = us.length → (∀ o ∈ os, 0 ≤ o ∧ o < m) → H p = none → But s H H' → Src H' s → H' p = some (.lst (os.map V.int)) → Q (.ref p) H'
def t_law_owners (K : PySem.W.Frag) (A : CA) : TS :=
  (tSeq (tAsg (tLc (iRng1 (tCons (tCB oMin2 (tCons (tC (.int 60)) (tCons (tCB (rLenQ K) (tCons (tVar 1) tNil)) tNil))) tNil)) (gName 3) tYes (tCall (sp_law_take K A) [] E0 (tCons (tVar 0) (tCons (tC (.int 2)) tNil))) [3]) (gName 2))
  (tRet (tLc (iRng1 (tCons (tCB (rLenQ K) (tCons (tVar 1) tNil)) tNil)) (gName 3) tYes (tOp (rIxT K) (tOp (rIxL K) (tVar 1) (tVar 3)) (tOp (rIxL K) (tVar 2) (tOp oMod (tVar 3) (tC (.int 60))))) [3])))

theorem rd_law_owners {K : PySem.W.Frag} {A : CA} {vs : List V} {H : Hp} {Q : VK} {E : XK} (h : sp_law_owners K A vs H Q E) :
    t_law_owners K A { nx := fun _ H' => Q .non H', rt := Q } (start ["source", "pairs", "sides", "k"] vs) H := by
  obtain ⟨s, p, rows, us, m, rfl, hs, hp, hn, hP, hR, hl, q⟩ := h
  have hlen := hP.length
  unfold t_law_owners
  walk_at "go"
  split
  all_goals
    rename_i hc
    walk_at "go"
    refine lcR (fun Dl i H' => But s H H' ∧ Src H' s ∧ ∃ zs : List Int, H' Dl = some (.lst (zs.map V.int)) ∧ zs.length = i ∧ ∀ z ∈ zs, z = 0 ∨ z = 1) (fun Dl hD => ⟨But.refl.new hD, hs.new hD, [], upd_same, rfl, fun _ h => by cases h⟩) ?_ ?_
    · rintro Dl i H1 hD hi ⟨b, s1, zs, hz, hzl, hzb⟩
      have nD : Dl ≠ s := hs.neFree hD
      walk_at "go"
      intro r H2 r0 r1 b2 s2
      have hz2 := b2.at nD hz
      walk_at "go"
      refine ⟨(b.trans b2).mut hD, s2.mut nD, zs ++ [r], ?_, by simp [hzl], fun z hm => ?_⟩
      · rw [← snocI]; exact upd_same
      · rcases List.mem_append.mp hm with k | k
        · exact hzb z k
        · have := List.mem_singleton.mp k; omega
    · rintro Dl H1 hD ⟨b, s1, zs, hz, hzl, hzb⟩
      have nD : Dl ≠ s := hs.neFree hD
      have hp1 := b.at hn hp
      have hP1 := PRs.but b hs hP
      walk_at "go"
      refine lcR (fun D2 i H' => But s H H' ∧ Same H1 H' ∧ Src H' s ∧ ∃ os : List Int, H' D2 = some (.lst (os.map V.int)) ∧ os.length = i ∧ ∀ o ∈ os, 0 ≤ o ∧ o < m) (fun D2 hD2 => ⟨b.new hD2, same_new hD2, s1.new hD2, [], upd_same, rfl, fun _ h => by cases h⟩) ?_ ?_
      · rintro D2 i H2 hD2 hi ⟨b2, e2, s2, os, ho, hol, hob⟩
        have hi : i < us.length := by omega
        have hir : i < rows.length := by omega
        have nD2 : D2 ≠ s := s1.neFree hD2
        have hD20 : H D2 = none := b.back s1 hD2
        obtain ⟨v, hv, t, rfl, ht⟩ := Paired.at hP1 (List.getElem?_eq_getElem hir)
        have hb := hR.bd _ (List.getElem_mem hir)
        generalize rows[i] = r at ht hb
        have hp2 := e2 _ _ hp1
        have ht2 := e2 _ _ ht
        have hz2 := e2 _ _ hz
        have hx1 : atI us (0 + (i : Int)) = some (V.ref t) := atn (j := i) (by omega) hv
        have hk : ((0 + (i : Int)) % 60).toNat < zs.length := by omega
        have hx2 : atI (zs.map V.int) ((0 + (i : Int)) % 60) = some (V.int zs[((0 + (i : Int)) % 60).toNat]) := at_of (j := ((0 + (i : Int)) % 60).toNat) (by omega) (by simp [hk])
        have hzz := hzb _ (List.getElem_mem hk)
        generalize zs[((0 + (i : Int)) % 60).toNat] = z at hx2 hzz
        have hx3 : ∃ w, atI [V.int r.1, V.int r.2] z = some (V.int w) ∧ 0 ≤ w ∧ w < m := by
          rcases hzz with rfl | rfl
          · exact ⟨r.1, at0, hb.1, hb.2.1⟩
          · exact ⟨r.2, at1, hb.2.2.1, hb.2.2.2.1⟩
        obtain ⟨w, hx3, w0, w1⟩ := hx3
        walk_at "go"
        refine ⟨b2.mut hD20, same_mut e2 hD2, s2.mut nD2, os ++ [w], ?_, by simp [hol], fun o hm => ?_⟩
        · rw [← snocI]; exact upd_same
        · rcases List.mem_append.mp hm with k | k
          · exact hob o k
          · have := List.mem_singleton.mp k; omega
      · rintro D2 H2 hD2 ⟨b2, e2, s2, os, ho, hol, hob⟩
        exact q os D2 H2 (by omega) hob (b.back s1 hD2) b2 s2 ho
end G

end
section
local macro_rules | `(tactic| walk_at "call") => `(tactic| first
  | (refine' G.w_anyI ?g1 ?_; (case g1 => walk_at "sq")) | refine' G.w_lcE ?_ | (refine' G.w_enumSq ?g1 ?_; (case g1 => walk_at "sq"))
  | (refine' G.w_neI2 ?g1 ?g2 ?_; (case g1 => walk_at "sq"); (case g2 => walk_at "sq")) | (refine' G.w_eqI2 ?g1 ?g2 ?_; (case g1 => walk_at "sq"); (case g2 => walk_at "sq")))

local macro_rules | `(tactic| walk_at "call") => `(tactic| first
  | refine' G.w_iteNT ?_ | refine' G.w_iteNF ?_ | refine' G.w_iteRf ?_ | refine' G.w_iteNRf ?_ | refine' G.w_tru ?_ | (refine' G.w_truL ?g1 ?_; (case g1 => walk_at "sq")) | refine' G.w_revL ?_ | (refine' G.w_revL2 ?g1 ?_; (case g1 => walk_at "sq"))
  | (refine' G.w_rep ?g1 ?g2 ?g3 ?g4 ?_; (case g1 => walk_at "hp"); (case g2 => walk_at "ar"); (case g3 => walk_at "ar"); (case g4 => walk_at "sz"))
  | refine' G.w_isNr ?_ | refine' G.w_notN ?_ | refine' G.w_isII ?_ | refine' G.w_isIB ?_ | refine' G.w_isBB ?_ | (refine' G.w_isLL ?g1 ?_; (case g1 => walk_at "hp")))

local macro_rules | `(tactic| walk_at "call") => `(tactic| refine' G.w_oIntB ?_)

local macro_rules | `(tactic| walk_at "call") => `(tactic| (refine' G.w_cnt ?g1 ?_; (case g1 => walk_at "sq")))

local macro_rules | `(tactic| walk_at "call") => `(tactic| (refine' G.i_take ?g1 ?g2 ?g3 ?_; (case g1 => walk_at "src"); (case g2 => walk_at "ar"); (case g3 => walk_at "ar")))
local macro_rules | `(tactic| walk_at "call") => `(tactic| (refine' G.i_source ?_))
local macro_rules | `(tactic| walk_at "call") => `(tactic| (refine' G.i_cell ?g1 ?g2 ?g3 ?_; (case g1 => walk_at "sq"); (case g2 => walk_at "ar"); (case g3 => walk_at "ar")))

namespace G
open PySem L2
end G
local macro_rules | `(tactic| walk_at "call") => `(tactic| (refine' G.w_cnt ?g1 ?_; (case g1 => walk_at "sq")))
namespace G
open PySem L2
def sp_law_table (K : PySem.W.Frag) (A : CA) : Sp := fun vs H Q _ => ∃ (s po : Addr) (many : Int) (os : List Int), vs = [.ref s, .int many, .ref po] ∧ Src H s ∧ H po = some (.lst (os.map V.int)) ∧ po ≠ s ∧ 1 ≤ many ∧ many ≤ 200 ∧ (∀ o ∈ os, 0 ≤ o ∧ o < many) ∧
  ∀ (lines : Int) (bs : List Int) (t pb : Addr) (H' : Hp), 0 ≤ lines → BK lines many.toNat bs → H t = none → H pb = none → But s H H' → Src H' s → H' t = some (.tup [.int lines, .ref pb]) → H' pb = some (.lst (bs.map V.int)) → Q (.ref t) H'
def t_law_table (K : PySem.W.Frag) (A : CA) : TS :=
  (tSeq (tAsg (tCall (sp_law_lines K A) [] E0 (tCons (tVar 0) tNil)) (gName 3))
  (tSeq (tAsg (tCall (sp_law_take K A) [] E0 (tCons (tVar 0) (tCons (tC (.int 5)) tNil))) (gName 4))
  (tSeq (tAsg (tCall (sp_law_take K A) [] E0 (tCons (tVar 0) (tCons (tC (.int 4)) tNil))) (gName 5))
  (tSeq (tAsg (tCall (sp_law_take K A) [] E0 (tCons (tVar 0) (tCons (tVar 1) tNil))) (gName 6))
  (tSeq (tAsg (tLst tNil) (gName 7))
  (tSeq (tFor (iRng1 (tCons (tVar 1) tNil)) (gName 8)
  (tIfS (tTest (tOp oLt (tVar 4) (tC (.int 2)))) (tDrop (tBM K "list" rAppend (tVar 7) (tCons (tCB oMin2 (tCons (tC (.int 60)) (tCons (tBM K "list" (rCntI K) (tVar 2) (tCons (tVar 8) tNil)) tNil))) tNil))) (tIfS (tTest (tOp rEq (tVar 4) (tC (.int 2)))) (tDrop (tBM K "list" rAppend (tVar 7) (tCons (tCB oMin2 (tCons (tC (.int 60)) (tCons (tOp oAdd (tBM K "list" (rCntI K) (tVar 2) (tCons (tVar 8) tNil)) (tOp (rIxL K) (tLst (tCons (tC (.int 0)) (tCons (tC (.int 0)) (tCons (tC (.int 1)) tNil)))) (tCall (sp_law_take K A) [] E0 (tCons (tVar 0) (tCons (tC (.int 3)) tNil))))) tNil))) tNil))) (tIfS (tTest (tOp rEq (tVar 4) (tC (.int 3)))) (tDrop (tBM K "list" rAppend (tVar 7) (tCons (tCall (sp_law_take K A) [] E0 (tCons (tVar 0) (tCons (tOp oAdd (tVar 3) (tC (.int 1))) tNil))) tNil))) (tDrop (tBM K "list" rAppend (tVar 7) (tCons (tCB oMin2 (tCons (tVar 3) (tCons (tCall (sp_law_take K A) [] E0 (tCons (tVar 0) (tCons (tC (.int 3)) tNil))) tNil))) tNil)))))))
  (tSeq (tAsg (tCB oMax2 (tCons (tVar 3) (tCons (tCB (rMax K) (tCons (tVar 7) tNil)) tNil))) (gName 3))
  (C8.tCut (tIfS (tTest (tOp rEq (tVar 5) (tC (.int 1)))) (tAsg (tCB oMin2 (tCons (tVar 3) (tCons (tOp oAdd (tOp (rIxL K) (tVar 7) (tVar 6)) (tC (.int 1))) tNil))) (gSub (tVar 7) (tVar 6) rSetL)) tNext)
  (C8.tCut (tIfS (tTest (tOp oGt (tVar 5) (tC (.int 1)))) (C8.tCut (tIfS (tAnd (tTest (tOp rEq (tOp (rIxL K) (tVar 7) (tVar 6)) (tC (.int 0)))) (tTest (tOp (rNeD K) (tVar 2) (tLst tNil)))) (tAsg (tOp (rIxL K) (tVar 2) (tC (.int 0))) (gName 6)) tNext)
  (tAsg (tCB oMax2 (tCons (tC (.int 0)) (tCons (tOp oSub (tOp (rIxL K) (tVar 7) (tVar 6)) (tC (.int 1))) tNil))) (gSub (tVar 7) (tVar 6) rSetL))) tNext)
  (tRet (tTup (tCons (tVar 3) (tCons (tVar 7) tNil)))))))))))))

theorem rd_law_table {K : PySem.W.Frag} {A : CA} {vs : List V} {H : Hp} {Q : VK} {E : XK} (h : sp_law_table K A vs H Q E) :
    t_law_table K A { nx := fun _ H' => Q .non H', rt := Q } (start ["source", "many", "owners", "lines", "mode", "change", "page", "blank", "k"] vs) H := by
  obtain ⟨s, po, many, os, rfl, hs, ho, hn, h1, h2, hob, q⟩ := h
  unfold t_law_table
  walk_at "go"
  refine ⟨s, rfl, hs, fun l H1 l0 l60 b1 s1 => ?_⟩
  walk_at "go"
  intro mode H2 _ _ b2 s2
  walk_at "go"
  intro change H3 _ _ b3 s3
  walk_at "go"
  intro page H4 p0 p1 b4 s4
  walk_at "go"
  intro pb hpb
  have B4 := ((b1.trans b2).trans b3).trans b4
  have fpb := B4.back s4 hpb
  have npb : pb ≠ s := s4.neFree hpb
  walk_at "go"
  refine forR (fun i σ H' => ∃ (bs : List Int) (k8 : Option V), σ = [some (.ref s), some (.int many), some (.ref po), some (.int l), some (.int mode), some (.int change), some (.int page), some (.ref pb), k8] ∧ bs.length = i ∧ (∀ b ∈ bs, 0 ≤ b) ∧ But s H H' ∧ Src H' s ∧ H' pb = some (.lst (bs.map V.int))) ?_ ?_ ?_
  · exact ⟨[], none, rfl, rfl, (fun _ h => by cases h), B4.new hpb, s4.new hpb, upd_same⟩
  · rintro i σ H5 hi ⟨bs, k8, rfl, hl, hb, b5, s5, h5⟩
    have ho5 := b5.at hn ho
    have fin : ∀ (v : Int) (H6 : Hp), 0 ≤ v → But s H H6 → Src H6 s → ∃ (bs' : List Int) (k8' : Option V), [some (V.ref s), some (.int many), some (.ref po), some (.int l), some (.int mode), some (.int change), some (.int page), some (.ref pb), some (.int (0 + (i : Int)))] = [some (.ref s), some (.int many), some (.ref po), some (.int l), some (.int mode), some (.int change), some (.int page), some (.ref pb), k8'] ∧ bs'.length = i + 1 ∧ (∀ b ∈ bs', 0 ≤ b) ∧
        But s H (upd H6 pb (.lst (bs.map V.int ++ [.int v]))) ∧ Src (upd H6 pb (.lst (bs.map V.int ++ [.int v]))) s ∧ (upd H6 pb (.lst (bs.map V.int ++ [.int v]))) pb = some (.lst (bs'.map V.int)) := fun v H6 hv b6 s6 => by
      refine ⟨bs ++ [v], _, rfl, by simp [hl], fun b hm => ?_, b6.mut fpb, s6.mut npb, by rw [← snocI]; exact upd_same⟩
      rcases List.mem_append.mp hm with k | k
      · exact hb b k
      · have := List.mem_singleton.mp k; omega
    walk_at "go"
    refine w_iteD (fun c1 => ?_) (fun c1 => ?_)
    · walk_at "go"
      exact fin _ H5 (by split <;> omega) b5 s5
    · walk_at "go"
      refine w_iteD (fun c2 => ?_) (fun c2 => ?_)
      · walk_at "go"
        intro p hp
        have h6 : (upd H5 p (.lst [.int 0, .int 0, .int 1])) pb = some (.lst (bs.map V.int)) := keep h5 hp
        walk_at "go"
        intro r H6 r0 r1 b6 s6
        have hx : atI [V.int 0, V.int 0, V.int 1] r = some (V.int (([0, 0, 1] : List Int).getD r.toNat 0)) := ati (xs := [0, 0, 1]) r0 (by show r < 3; omega)
        have hz : ∀ k : Nat, k < 3 → 0 ≤ ([0, 0, 1] : List Int).getD k 0 := by decide
        have hz := hz r.toNat (by omega)
        generalize ([0, 0, 1] : List Int).getD r.toNat 0 = z at hx hz
        have hp6 := b6.at (s5.neFree hp) upd_same
        have h7 := b6.at npb h6
        walk_at "go"
        exact fin _ H6 (by split <;> omega) ((b5.new hp).trans b6) s6
      · walk_at "go"
        refine w_iteD (fun c3 => ?_) (fun c3 => ?_)
        · walk_at "go"
          intro r H6 r0 r1 b6 s6
          have h7 := b6.at npb h5
          walk_at "go"
          exact fin _ H6 r0 (b5.trans b6) s6
        · walk_at "go"
          intro r H6 r0 r1 b6 s6
          have h7 := b6.at npb h5
          walk_at "go"
          exact fin _ H6 (by split <;> omega) (b5.trans b6) s6
  · rintro σ H5 ⟨bs, k8, rfl, hl, hb, b5, s5, h5⟩
    have ho5 := b5.at hn ho
    walk_at "go"
    refine w_max (SqL.of h5) (by omega) fun m hm hmx => ?_
    walk_at "go"
    have hL : ∃ L : Int, (if m > l then m else l) = L ∧ 0 ≤ L ∧ BK L many.toNat bs := by
      refine ⟨_, rfl, ?_, ⟨by omega, fun b hb' => ⟨hb b hb', ?_⟩⟩⟩
      · split <;> omega
      · have := hmx b hb'
        split <;> omega
    obtain ⟨L, eL, L0, hBK⟩ := hL
    rw [eL]
    have hmn : (many.toNat : Int) = many := Int.toNat_of_nonneg (by omega)
    refine w_cut (fun σ H' => ∃ (bs : List Int), σ = [some (.ref s), some (.int many), some (.ref po), some (.int L), some (.int mode), some (.int change), some (.int page), some (.ref pb), k8] ∧ BK L many.toNat bs ∧ But s H H' ∧ Src H' s ∧ H' pb = some (.lst (bs.map V.int))) ?_ ?_
    · walk_at "go"
      refine w_iteD (fun c1 => ?_) (fun c1 => ?_)
      · obtain ⟨z, _, hx, hix, z0, z1⟩ := hBK.get p0 (by omega)
        walk_at "go"
        refine ⟨bs.set page.toNat _, rfl, hBK.set (v := if z + 1 < L then z + 1 else L) (by split <;> omega) (by split <;> omega), b5.mut fpb, s5.mut npb, ?_⟩
        rw [List.map_set]; exact upd_same
      · walk_at "go"
        exact ⟨bs, rfl, hBK, b5, s5, h5⟩
    rintro σ H6 ⟨bs, rfl, hBK, b6, s6, h6⟩
    have ho6 := b6.at hn ho
    refine w_cut (fun σ H' => ∃ (bs : List Int) (pg : Option V), σ = [some (.ref s), some (.int many), some (.ref po), some (.int L), some (.int mode), some (.int change), pg, some (.ref pb), k8] ∧ BK L many.toNat bs ∧ But s H H' ∧ Src H' s ∧ H' pb = some (.lst (bs.map V.int))) ?_ ?_
    · walk_at "go"
      refine w_iteD (fun c1 => ?_) (fun c1 => ?_)
      · refine w_cut (fun σ H' => ∃ (page : Int), σ = [some (.ref s), some (.int many), some (.ref po), some (.int L), some (.int mode), some (.int change), some (.int page), some (.ref pb), k8] ∧ 0 ≤ page ∧ page < many ∧ But s H H' ∧ Src H' s ∧ H' pb = some (.lst (bs.map V.int))) ?_ ?_
        · obtain ⟨z, _, hx, hix, z0, z1⟩ := hBK.get p0 (by omega)
          walk_at "go"
          refine w_iteD (fun c2 => ?_) (fun c2 => ?_)
          · walk_at "go"
            intro p hp
            walk_at "go"
            refine w_neI2 (xs := os) (ys := []) (SqL.of (keep ho6 hp)) (SqL.of upd_same) ?_
            walk_at "go"
            refine w_iteN (fun c3 => ?_) (fun c3 => ?_)
            · have hx0 : ∃ o r, os = o :: r := by
                cases os with
                | nil => exact absurd rfl c3
                | cons o r => exact ⟨o, r, rfl⟩
              obtain ⟨o, r, rfl⟩ := hx0
              have hx0 : atI ((o :: r).map V.int) 0 = some (V.int o) := at0
              have hoo := hob o List.mem_cons_self
              walk_at "go"
              exact ⟨o, rfl, hoo.1, hoo.2, b6.new hp, s6.new hp, keep h6 hp⟩
            · walk_at "go"
              exact ⟨page, rfl, p0, p1, b6.new hp, s6.new hp, keep h6 hp⟩
          · walk_at "go"
            exact ⟨page, rfl, p0, p1, b6, s6, h6⟩
        · rintro σ H7 ⟨page, rfl, p0, p1, b7, s7, h7⟩
          obtain ⟨z, _, hx, hix, z0, z1⟩ := hBK.get p0 (by omega)
          walk_at "go"
          refine ⟨bs.set page.toNat _, _, rfl, hBK.set (v := if z - 1 > 0 then z - 1 else 0) (by split <;> omega) (by split <;> omega), b7.mut fpb, s7.mut npb, ?_⟩
          rw [List.map_set]; exact upd_same
      · walk_at "go"
        exact ⟨bs, _, rfl, hBK, b6, s6, h6⟩
    rintro σ H7 ⟨bs, pg, rfl, hBK, b7, s7, h7⟩
    walk_at "go"
    intro t ht
    exact q L bs t pb _ L0 hBK (b7.back s7 ht) fpb (b7.new ht) (s7.new ht) upd_same (keep h7 ht)
def sp_law_near (K : PySem.W.Frag) (A : CA) : Sp := fun vs H Q _ => ∃ (s pb : Addr) (lines : Int) (n : Nat) (bs : List Int), vs = [.ref s, .int lines, .ref pb] ∧ Src H s ∧ H pb = some (.lst (bs.map V.int)) ∧ BK lines n bs ∧ 1 ≤ n ∧ n ≤ 200 ∧
  ∀ (bs' : List Int) (p : Addr) (H' : Hp), BK lines n bs' → H p = none → But s H H' → Src H' s → H' p = some (.lst (bs'.map V.int)) → Q (.ref p) H'
def t_law_near (K : PySem.W.Frag) (A : CA) : TS :=
  (tSeq (tAsg (tCB (oListOf K) (tCons (tVar 2) tNil)) (gName 3))
  (tSeq (tAsg (tCall (sp_law_take K A) [] E0 (tCons (tVar 0) (tCons (tCB (rLenQ K) (tCons (tVar 2) tNil)) tNil))) (gName 4))
  (tSeq (tAsg (tOp rEq (tCall (sp_law_take K A) [] E0 (tCons (tVar 0) (tCons (tC (.int 2)) tNil))) (tC (.int 0))) (gName 5))
  (C8.tCut (tIfS (tAnd (tTest (tOp oGt (tOp (rIxL K) (tVar 3) (tVar 4)) (tC (.int 0)))) (tOr (tB (tVar 5)) (tTest (tOp rEq (tOp (rIxL K) (tVar 3) (tVar 4)) (tVar 1))))) (tAsg (tOp oSub (tOp (rIxL K) (tVar 3) (tVar 4)) (tC (.int 1))) (gSub (tVar 3) (tVar 4) rSetL)) (tIfS (tTest (tOp oLt (tOp (rIxL K) (tVar 3) (tVar 4)) (tVar 1))) (tAsg (tOp oAdd (tOp (rIxL K) (tVar 3) (tVar 4)) (tC (.int 1))) (gSub (tVar 3) (tVar 4) rSetL)) tNext))
  (tRet (tVar 3))))))

theorem rd_law_near {K : PySem.W.Frag} {A : CA} {vs : List V} {H : Hp} {Q : VK} {E : XK} (h : sp_law_near K A vs H Q E) :
    t_law_near K A { nx := fun _ H' => Q .non H', rt := Q } (start ["source", "lines", "blank", "near", "page", "fewer"] vs) H := by
  obtain ⟨s, pb, lines, n, bs, rfl, hs, hpb, hB, n1, n2, q⟩ := h
  have hlen := hB.len
  unfold t_law_near
  walk_at "go"
  intro p hp
  have nps : p ≠ s := hs.neFree hp
  walk_at "go"
  rw [List.length_map, hlen]
  refine i_take (hs.new hp) (by omega) (by omega) ?_
  intro page H1 p0 p1 b1 s1
  have B1 := (But.refl.new hp).trans b1
  walk_at "go"
  intro r H2 r0 r1 b2 s2
  have B2 := B1.trans b2
  have h2 := b2.at nps (b1.at nps upd_same)
  walk_at "go"
  obtain ⟨z, _, hx, hix, z0, z1⟩ := hB.get p0 p1
  refine w_cut (fun σ H' => ∃ (bs' : List Int), σ = [some (.ref s), some (.int lines), some (.ref pb), some (.ref p), some (.int page), some (.bl (decide (r = 0)))] ∧ BK lines n bs' ∧ But s H H' ∧ Src H' s ∧ H' p = some (.lst (bs'.map V.int))) ?_ ?_
  · have none_ : ∃ (bs' : List Int), [some (V.ref s), some (V.int lines), some (.ref pb), some (.ref p), some (.int page), some (.bl (decide (r = 0)))] = [some (.ref s), some (.int lines), some (.ref pb), some (.ref p), some (.int page), some (.bl (decide (r = 0)))] ∧ BK lines n bs' ∧ But s H H2 ∧ Src H2 s ∧ H2 p = some (.lst (bs'.map V.int)) := ⟨bs, rfl, hB, B2, s2, h2⟩
    have less : 0 < z → ∃ (bs' : List Int), [some (V.ref s), some (V.int lines), some (.ref pb), some (.ref p), some (.int page), some (.bl (decide (r = 0)))] = [some (.ref s), some (.int lines), some (.ref pb), some (.ref p), some (.int page), some (.bl (decide (r = 0)))] ∧ BK lines n bs' ∧ But s H (upd H2 p (.lst ((bs.map V.int).set page.toNat (.int (z - 1))))) ∧ Src (upd H2 p (.lst ((bs.map V.int).set page.toNat (.int (z - 1))))) s ∧ (upd H2 p (.lst ((bs.map V.int).set page.toNat (.int (z - 1))))) p = some (.lst (bs'.map V.int)) := fun c => by
      refine ⟨bs.set page.toNat (z - 1), rfl, hB.set (by omega) (by omega), B2.mut hp, s2.mut nps, ?_⟩
      rw [List.map_set]; exact upd_same
    have more : z < lines → ∃ (bs' : List Int), [some (V.ref s), some (V.int lines), some (.ref pb), some (.ref p), some (.int page), some (.bl (decide (r = 0)))] = [some (.ref s), some (.int lines), some (.ref pb), some (.ref p), some (.int page), some (.bl (decide (r = 0)))] ∧ BK lines n bs' ∧ But s H (upd H2 p (.lst ((bs.map V.int).set page.toNat (.int (z + 1))))) ∧ Src (upd H2 p (.lst ((bs.map V.int).set page.toNat (.int (z + 1))))) s ∧ (upd H2 p (.lst ((bs.map V.int).set page.toNat (.int (z + 1))))) p = some (.lst (bs'.map V.int)) := fun c => by
      refine ⟨bs.set page.toNat (z + 1), rfl, hB.set (by omega) (by omega), B2.mut hp, s2.mut nps, ?_⟩
      rw [List.map_set]; exact upd_same
    walk_at "go"
    refine w_iteD (fun c1 => ?_) (fun c1 => ?_)
    · walk_at "go"
      refine w_iteD (fun c2 => ?_) (fun c2 => ?_)
      · walk_at "go"
        exact less c1
      · walk_at "go"
        refine w_iteD (fun c3 => ?_) (fun c3 => ?_)
        · walk_at "go"
          exact less c1
        · walk_at "go"
          refine w_iteD (fun c4 => ?_) (fun c4 => ?_)
          · walk_at "go"
            exact more c4
          · walk_at "go"
            exact none_
    · walk_at "go"
      refine w_iteD (fun c4 => ?_) (fun c4 => ?_)
      · walk_at "go"
        exact more c4
      · walk_at "go"
        exact none_
  rintro σ H3 ⟨bs', rfl, hB', b3, s3, h3⟩
  walk_at "go"
  exact q bs' p H3 hB' hp b3 s3 h3
end G

end
section
/-! ### dealings against lots, and masks -/
namespace G
open PySem L2
theorem bsum_append {f : Int → Int} : ∀ {l m : List Int}, bsum f (l ++ m) = bsum f l + bsum f m
  | [], m => by show bsum f m = 0 + _; omega
  | k :: l, m => by
    show f k + bsum f (l ++ m) = f k + bsum f l + bsum f m
    rw [bsum_append]; omega
theorem bsum_zero : ∀ {l : List Int}, bsum (fun _ => 0) l = 0
  | [] => rfl
  | k :: l => by show 0 + bsum _ l = 0; rw [bsum_zero]; rfl
theorem bsum_count {R : List Int} (nd : R.Nodup) : ∀ {os : List Int}, bsum (fun k => (os.count k : Int)) R = (os.countP fun o => decide (o ∈ R) : Nat)
  | [] => by
    show bsum (fun _ => 0) R = 0
    exact bsum_zero
  | o :: os => by
    have e : (fun k => ((o :: os).count k : Int)) = fun k => (os.count k : Int) + if (some o) = some k then 1 else 0 := by
      funext k
      rw [List.count_cons]
      by_cases c : o = k
      · subst c; simp
      · simp [c]
    rw [e, bsum_add, bsum_count nd, bsum_one nd, List.countP_cons]
    by_cases c : o ∈ R
    · rw [if_pos ⟨o, c, rfl⟩, if_pos (by simpa using c)]; push_cast; rfl
    · rw [if_neg (by rintro ⟨k, hk, e⟩; exact c (by rw [Option.some.inj e]; exact hk)), if_neg (by simpa using c)]; push_cast; rfl
theorem countP_zip {R : List Int} : ∀ {rs : List (Int × Int)} {os : List Int}, os.length = rs.length → (∀ (i : Nat) (o : Int) (r : Int × Int), os[i]? = some o → rs[i]? = some r → o = r.1 ∨ o = r.2) → wthn R rs ≤ os.countP fun o => decide (o ∈ R)
  | [], os, _, _ => by unfold wthn; rw [List.countP_nil]; exact Nat.zero_le _
  | r :: rs, [], h, _ => by cases h
  | r :: rs, o :: os, h, he => by
    have ih := countP_zip (R := R) (rs := rs) (os := os) (by simpa using h) fun i o' r' h1 h2 => he (i + 1) o' r' (by simpa using h1) (by simpa using h2)
    have h0 := he 0 o r rfl rfl
    unfold wthn at *
    rw [List.countP_cons, List.countP_cons]
    by_cases c : inLot R r = true
    · rw [if_pos c]
      have c2 := inLot_iff.mp c
      have : o ∈ R := h0.elim (fun z => by rw [z]; exact c2.1) (fun z => by rw [z]; exact c2.2)
      rw [if_pos (by simpa using this)]; omega
    · rw [if_neg c]; split <;> omega
theorem deal_lot {n : Int} {rs : List (Int × Int)} {bs os : List Int} (D : DealP rs bs os) (hl : bs.length = n.toNat) {R : List Int} (nd : R.Nodup) (sub : ∀ k ∈ R, k ∈ rng n) : (wthn R rs : Int) ≤ bsum (blF bs) R := by
  have a := countP_zip (R := R) D.len D.ends
  have b := bsum_count nd (os := os)
  have c : bsum (fun k => (os.count k : Int)) R ≤ bsum (blF bs) R := bsum_le fun k hk => by
    have kb := rng_mem.mp (sub k hk)
    have h1 : k.toNat < bs.length := by omega
    have f := D.fit k.toNat _ (List.getElem?_eq_getElem h1)
    rw [show ((k.toNat : Nat) : Int) = k by omega] at f
    unfold blF
    rw [List.getD_eq_getElem?_getD, List.getElem?_eq_getElem h1]
    exact f
  omega
/-! masks -/
def bitB (m : Nat) (k : Int) : Bool := decide (m / 2 ^ k.toNat % 2 = 1)
def mpages (m : Nat) (n : Int) : List Int := (rng n).filter (bitB m)
def maskOf : (Nat → Bool) → Nat → Nat
  | _, 0 => 0
  | S, n + 1 => (if S 0 = true then 1 else 0) + 2 * maskOf (fun k => S (k + 1)) n
theorem maskOf_lt : ∀ (n : Nat) (S : Nat → Bool), maskOf S n < 2 ^ n
  | 0, _ => by show 0 < 1; omega
  | n + 1, S => by
    have := maskOf_lt n fun k => S (k + 1)
    show (if S 0 = true then 1 else 0) + 2 * maskOf _ n < _
    rw [Nat.pow_succ]
    split <;> omega
theorem maskOf_bit : ∀ (n : Nat) (S : Nat → Bool) (k : Nat), k < n → (maskOf S n / 2 ^ k % 2 = 1 ↔ S k = true)
  | 0, _, k, h => by omega
  | n + 1, S, 0, _ => by
    show ((if S 0 = true then 1 else 0) + 2 * maskOf _ n) / 1 % 2 = 1 ↔ _
    rw [Nat.div_one]
    by_cases c : S 0 = true
    · rw [if_pos c]; exact ⟨fun _ => c, fun _ => by omega⟩
    · rw [if_neg c]; exact ⟨fun z => by omega, fun z => absurd z c⟩
  | n + 1, S, k + 1, h => by
    have ih := maskOf_bit n (fun j => S (j + 1)) k (by omega)
    have e : maskOf S (n + 1) / 2 = maskOf (fun j => S (j + 1)) n := by
      show ((if S 0 = true then 1 else 0) + 2 * maskOf _ n) / 2 = _
      split <;> omega
    rw [Nat.pow_succ, Nat.mul_comm, ← Nat.div_div_eq_div_mul, e]
    exact ih
theorem mpages_nd {m : Nat} {n : Int} : (mpages m n).Nodup := rng_nd.sublist List.filter_sublist
theorem mpages_sub {m : Nat} {n : Int} : ∀ k ∈ mpages m n, k ∈ rng n := fun _ hk => (List.mem_filter.mp hk).1
theorem mask_of {n : Int} {R : List Int} (nd : R.Nodup) (sub : ∀ k ∈ R, k ∈ rng n) : ∃ m, m < 2 ^ n.toNat ∧ (mpages m n).Perm R := by
  refine ⟨maskOf (fun k => decide ((k : Int) ∈ R)) n.toNat, maskOf_lt _ _, ?_⟩
  refine (List.perm_ext_iff_of_nodup mpages_nd nd).mpr fun k => ?_
  unfold mpages
  rw [List.mem_filter]
  constructor
  · rintro ⟨h1, h2⟩
    have kb := rng_mem.mp h1
    have := (maskOf_bit n.toNat _ k.toNat (by omega)).mp (of_decide_eq_true h2)
    rw [show ((k.toNat : Nat) : Int) = k by omega] at this
    exact of_decide_eq_true this
  · intro h
    have kb := rng_mem.mp (sub k h)
    refine ⟨sub k h, decide_eq_true ((maskOf_bit n.toNat _ k.toNat (by omega)).mpr ?_)⟩
    rw [show ((k.toNat : Nat) : Int) = k by omega]
    exact decide_eq_true h
theorem wthn_perm {R S : List Int} {rs : List (Int × Int)} (p : R.Perm S) : wthn R rs = wthn S rs := by
  unfold wthn
  refine List.countP_congr fun r _ => ?_
  rw [inLot_iff, inLot_iff, p.mem_iff, p.mem_iff]
theorem rng_succ (i : Nat) : rng ((i + 1 : Nat) : Int) = rng (i : Int) ++ [(i : Int)] := by
  unfold rng
  rw [Int.toNat_natCast, Int.toNat_natCast, List.range_succ, List.map_append]; rfl
theorem mpages_succ (m i : Nat) : mpages m ((i + 1 : Nat) : Int) = mpages m (i : Int) ++ if bitB m (i : Int) = true then [(i : Int)] else [] := by
  unfold mpages
  rw [rng_succ, List.filter_append]
  congr 1
  by_cases c : bitB m (i : Int) = true
  · rw [if_pos c, List.filter_cons_of_pos c]; rfl
  · rw [if_neg c, List.filter_cons_of_neg c]; rfl
/-- what a lot has left -/
def left (bs : List Int) (rs : List (Int × Int)) (R : List Int) : Int := bsum (blF bs) R - (wthn R rs : Int)
end G

end
section
local macro_rules | `(tactic| walk_at "call") => `(tactic| first
  | (refine' G.w_anyI ?g1 ?_; (case g1 => walk_at "sq")) | refine' G.w_lcE ?_ | (refine' G.w_enumSq ?g1 ?_; (case g1 => walk_at "sq"))
  | (refine' G.w_neI2 ?g1 ?g2 ?_; (case g1 => walk_at "sq"); (case g2 => walk_at "sq")) | (refine' G.w_eqI2 ?g1 ?g2 ?_; (case g1 => walk_at "sq"); (case g2 => walk_at "sq")))

local macro_rules | `(tactic| walk_at "call") => `(tactic| first
  | refine' G.w_iteNT ?_ | refine' G.w_iteNF ?_ | refine' G.w_iteRf ?_ | refine' G.w_iteNRf ?_ | refine' G.w_tru ?_ | (refine' G.w_truL ?g1 ?_; (case g1 => walk_at "sq")) | refine' G.w_revL ?_ | (refine' G.w_revL2 ?g1 ?_; (case g1 => walk_at "sq"))
  | (refine' G.w_rep ?g1 ?g2 ?g3 ?g4 ?_; (case g1 => walk_at "hp"); (case g2 => walk_at "ar"); (case g3 => walk_at "ar"); (case g4 => walk_at "sz"))
  | refine' G.w_isNr ?_ | refine' G.w_notN ?_ | refine' G.w_isII ?_ | refine' G.w_isIB ?_ | refine' G.w_isBB ?_ | (refine' G.w_isLL ?g1 ?_; (case g1 => walk_at "hp")))

local macro_rules | `(tactic| walk_at "call") => `(tactic| refine' G.w_oIntB ?_)

local macro_rules | `(tactic| walk_at "sqt") => `(tactic| first | assumption | exact L2.SqT.of (by walk_at "hp"))
local macro_rules | `(tactic| walk_at "call") => `(tactic| first
  | (refine' G.w_inI ?g1 ?_; (case g1 => walk_at "sq")) | (refine' G.w_ninI ?g1 ?_; (case g1 => walk_at "sq")) | refine' G.w_forRev ?_ | refine' G.w_lstRg3 ?_ | (refine' G.w_bdR ?g1 ?g2 ?_; (case g1 => walk_at "ar"); (case g2 => walk_at "ar"))
  | (refine' G.w_max ?g1 ?g2 ?_; (case g1 => walk_at "sq"); (case g2 => walk_at "ar")) | (refine' G.w_min ?g1 ?g2 ?_; (case g1 => walk_at "sq"); (case g2 => walk_at "ar"))
  | (refine' G.w_sortI ?g1 ?_; (case g1 => walk_at "sq")) | (refine' GY.w_tupL ?g1 ?_; (case g1 => walk_at "sq")) | refine' GY.w_star ?_ | (refine' GY.w_starL ?g1 ?_; (case g1 => walk_at "sq")) | (refine' GY.w_listT ?g1 ?_; (case g1 => walk_at "sqt")))

local macro_rules | `(tactic| walk_at "call") => `(tactic| (refine' G.w_cnt ?g1 ?_; (case g1 => walk_at "sq")))

namespace G
open PySem L2 GX
def sp_law_is_integer (K : PySem.W.Frag) (A : CA) : Sp := fun vs H Q _ => ∃ n : Int, vs = [.int n] ∧ Q (.bl true) H
def t_law_is_integer (K : PySem.W.Frag) (A : CA) : TS :=
  (tRet (tAndV (tCB (rIsi K) (tCons (tVar 0) (tCons (tC (.ty "int")) tNil))) (tNotV (tCB (rIsi K) (tCons (tVar 0) (tCons (tC (.ty "bool")) tNil))))))

theorem rd_law_is_integer {K : PySem.W.Frag} {A : CA} {vs : List V} {H : Hp} {Q : VK} {E : XK} (h : sp_law_is_integer K A vs H Q E) :
    t_law_is_integer K A { nx := fun _ H' => Q .non H', rt := Q } (start ["told"] vs) H := by
  obtain ⟨n, rfl, q⟩ := h
  unfold t_law_is_integer
  walk_at "go"
  exact q
theorem i_isint {K : PySem.W.Frag} {A : CA} {n : Int} {H : Hp} {Q : VK} {E : XK} (q : Q (.bl true) H) : sp_law_is_integer K A [.int n] H Q E := ⟨n, rfl, q⟩
end G

end
section
local macro_rules | `(tactic| walk_at "call") => `(tactic| first
  | (refine' G.w_anyI ?g1 ?_; (case g1 => walk_at "sq")) | refine' G.w_lcE ?_ | (refine' G.w_enumSq ?g1 ?_; (case g1 => walk_at "sq"))
  | (refine' G.w_neI2 ?g1 ?g2 ?_; (case g1 => walk_at "sq"); (case g2 => walk_at "sq")) | (refine' G.w_eqI2 ?g1 ?g2 ?_; (case g1 => walk_at "sq"); (case g2 => walk_at "sq")))

local macro_rules | `(tactic| walk_at "call") => `(tactic| first
  | refine' G.w_iteNT ?_ | refine' G.w_iteNF ?_ | refine' G.w_iteRf ?_ | refine' G.w_iteNRf ?_ | refine' G.w_tru ?_ | (refine' G.w_truL ?g1 ?_; (case g1 => walk_at "sq")) | refine' G.w_revL ?_ | (refine' G.w_revL2 ?g1 ?_; (case g1 => walk_at "sq"))
  | (refine' G.w_rep ?g1 ?g2 ?g3 ?g4 ?_; (case g1 => walk_at "hp"); (case g2 => walk_at "ar"); (case g3 => walk_at "ar"); (case g4 => walk_at "sz"))
  | refine' G.w_isNr ?_ | refine' G.w_notN ?_ | refine' G.w_isII ?_ | refine' G.w_isIB ?_ | refine' G.w_isBB ?_ | (refine' G.w_isLL ?g1 ?_; (case g1 => walk_at "hp")))

local macro_rules | `(tactic| walk_at "call") => `(tactic| refine' G.w_oIntB ?_)

local macro_rules | `(tactic| walk_at "sqt") => `(tactic| first | assumption | exact L2.SqT.of (by walk_at "hp"))
local macro_rules | `(tactic| walk_at "call") => `(tactic| first
  | (refine' G.w_inI ?g1 ?_; (case g1 => walk_at "sq")) | (refine' G.w_ninI ?g1 ?_; (case g1 => walk_at "sq")) | refine' G.w_forRev ?_ | refine' G.w_lstRg3 ?_ | (refine' G.w_bdR ?g1 ?g2 ?_; (case g1 => walk_at "ar"); (case g2 => walk_at "ar"))
  | (refine' G.w_max ?g1 ?g2 ?_; (case g1 => walk_at "sq"); (case g2 => walk_at "ar")) | (refine' G.w_min ?g1 ?g2 ?_; (case g1 => walk_at "sq"); (case g2 => walk_at "ar"))
  | (refine' G.w_sortI ?g1 ?_; (case g1 => walk_at "sq")) | (refine' GY.w_tupL ?g1 ?_; (case g1 => walk_at "sq")) | refine' GY.w_star ?_ | (refine' GY.w_starL ?g1 ?_; (case g1 => walk_at "sq")) | (refine' GY.w_listT ?g1 ?_; (case g1 => walk_at "sqt")))

local macro_rules | `(tactic| walk_at "call") => `(tactic| (refine' G.w_cnt ?g1 ?_; (case g1 => walk_at "sq")))

local macro_rules | `(tactic| walk_at "call") => `(tactic| (refine' G.i_isint ?_))

namespace G
open PySem L2 GX
def sp_law_is_dealing (K : PySem.W.Frag) (A : CA) : Sp := fun vs H Q _ => ∃ (pq pb po : Addr) (us : List V) (rs : List (Int × Int)) (bs os : List Int) (n : Int), vs = [.ref pq, .ref pb, .ref po] ∧ H pq = some (.lst us) ∧ Paired (PR H) us rs ∧ RG n rs ∧ us.length ≤ 600 ∧ H pb = some (.lst (bs.map V.int)) ∧ bs.length = n.toNat ∧ 1 ≤ n ∧ n ≤ 500 ∧ H po = some (.lst (os.map V.int)) ∧ DealP rs bs os ∧
  ∀ H', Same H H' → Q (.bl true) H'
def t_law_is_dealing (K : PySem.W.Frag) (A : CA) : TS :=
  (tSeq (tIfS (tOr (tNot (tB (tCB (rIsi K) (tCons (tVar 2) (tCons (tC (.ty "list")) tNil))))) (tTest (tOp rNe (tCB (rLenQ K) (tCons (tVar 2) tNil)) (tCB (rLenQ K) (tCons (tVar 0) tNil))))) (tRet (tC (.bl false))) tNext)
  (tSeq (tAsg (tCB (oListOf K) (tCons (tVar 1) tNil)) (gName 3))
  (tSeq (tFor (iRng1 (tCons (tCB (rLenQ K) (tCons (tVar 0) tNil)) tNil)) (gName 4)
  (tSeq (tIfS (tOr (tNot (tB (tCall (sp_law_is_integer K A) [] E0 (tCons (tOp (rIxL K) (tVar 2) (tVar 4)) tNil)))) (tTest (tOp (rIn K true) (tOp (rIxL K) (tVar 2) (tVar 4)) (tOp (rIxL K) (tVar 0) (tVar 4))))) (tRet (tC (.bl false))) tNext)
  (tAsg (tOp oSub (tOp (rIxL K) (tVar 3) (tOp (rIxL K) (tVar 2) (tVar 4))) (tC (.int 1))) (gSub (tVar 3) (tOp (rIxL K) (tVar 2) (tVar 4)) rSetL))))
  (tRet (tOp oGe (tCB (rMin K) (tCons (tVar 3) tNil)) (tC (.int 0)))))))

theorem rd_law_is_dealing {K : PySem.W.Frag} {A : CA} {vs : List V} {H : Hp} {Q : VK} {E : XK} (h : sp_law_is_dealing K A vs H Q E) :
    t_law_is_dealing K A { nx := fun _ H' => Q .non H', rt := Q } (start ["pairs", "blank", "told", "left", "k"] vs) H := by
  obtain ⟨pq, pb, po, us, rs, bs, os, n, rfl, hq, hP, hR, ul, hb, hbl, n1, n2, ho, D, q⟩ := h
  have hlen := hP.length
  have hdl := D.len
  unfold t_law_is_dealing
  walk_at "go"
  rw [List.length_map]
  refine w_iteN (fun c => absurd (by omega) c) (fun _ => ?_)
  walk_at "go"
  intro l hl0
  have npl : pq ≠ l := ne_of_none hq hl0
  have e0 := same_new (o := .lst (bs.map V.int)) hl0
  walk_at "go"
  refine forR (fun i σ H' => ∃ (left : List Int) (k4 : Option V), σ = [some (.ref pq), some (.ref pb), some (.ref po), some (.ref l), k4] ∧ LeftAt bs os i left ∧ Same H H' ∧ H' l = some (.lst (left.map V.int))) ?_ ?_ ?_
  · exact ⟨bs, none, rfl, .start bs os, e0, upd_same⟩
  · rintro i σ H1 hi ⟨left, k4, rfl, hL, e, hl1⟩
    have hir : i < rs.length := by omega
    have hio : i < os.length := by omega
    have hgo := List.getElem?_eq_getElem hio
    have hgr := List.getElem?_eq_getElem hir
    obtain ⟨v, hv, t, rfl, ht⟩ := Paired.at hP hgr
    have hbd := hR.bd _ (List.getElem_mem hir)
    generalize rs[i] = r at hgr ht hbd
    generalize os[i] = o at hgo
    have hend := D.ends i o r hgo hgr
    have ht1 := e _ _ ht
    have hq1 := e _ _ hq
    have ho1 := e _ _ ho
    have hx1 : atI us (0 + (i : Int)) = some (V.ref t) := atn (j := i) (by omega) hv
    have hx2 : atI (os.map V.int) (0 + (i : Int)) = some (V.int o) := atn (j := i) (by omega) (by rw [List.getElem?_map, hgo]; rfl)
    walk_at "go"
    refine ⟨t, _, rfl, .inr (SqT.of ht1), rfl, rfl, ?_⟩
    rw [inV2]
    refine ⟨_, rfl, ?_⟩
    show if (!decide (o = r.1 ∨ o = r.2)) = true then _ else _
    refine w_iteN (fun c => absurd hend c) (fun _ => ?_)
    have o0 : 0 ≤ o ∧ o < n := by omega
    have hk : o.toNat < left.length := by rw [hL.1]; omega
    have hgz := List.getElem?_eq_getElem hk
    generalize left[o.toNat] = z at hgz
    have hx3 : atI (left.map V.int) o = some (V.int z) := atn (j := o.toNat) (by omega) (by rw [List.getElem?_map, hgz]; rfl)
    have hix : ixN (left.map V.int).length o = some o.toNat := ixn (by omega) (by rw [List.length_map]; exact hk)
    walk_at "go"
    exact ⟨_, _, rfl, hL.step hgo o0.1 hgz, same_mut e hl0, by rw [List.map_set]; exact upd_same⟩
  · rintro σ H1 ⟨left, k4, rfl, hL, e, hl1⟩
    rw [Int.toNat_natCast] at hL
    walk_at "go"
    refine w_min (SqL.of hl1) (by rw [hL.1]; omega) fun mn hm1 hm2 => ?_
    walk_at "go"
    rw [decide_eq_true]
    · exact q _ e
    · obtain ⟨p, hp⟩ := List.getElem?_of_mem hm1
      have hpl : p < bs.length := by rw [← hL.1]; exact (List.getElem?_eq_some_iff.mp hp).1
      have g := hL.2 p _ (List.getElem?_eq_getElem hpl)
      have f := D.fit p _ (List.getElem?_eq_getElem hpl)
      rw [hp] at g
      have g := Option.some.inj g
      rw [List.take_of_length_le (by omega)] at g
      omega
end G

end
section
local macro_rules | `(tactic| walk_at "call") => `(tactic| first
  | (refine' G.w_anyI ?g1 ?_; (case g1 => walk_at "sq")) | refine' G.w_lcE ?_ | (refine' G.w_enumSq ?g1 ?_; (case g1 => walk_at "sq"))
  | (refine' G.w_neI2 ?g1 ?g2 ?_; (case g1 => walk_at "sq"); (case g2 => walk_at "sq")) | (refine' G.w_eqI2 ?g1 ?g2 ?_; (case g1 => walk_at "sq"); (case g2 => walk_at "sq")))

local macro_rules | `(tactic| walk_at "call") => `(tactic| first
  | refine' G.w_iteNT ?_ | refine' G.w_iteNF ?_ | refine' G.w_iteRf ?_ | refine' G.w_iteNRf ?_ | refine' G.w_tru ?_ | (refine' G.w_truL ?g1 ?_; (case g1 => walk_at "sq")) | refine' G.w_revL ?_ | (refine' G.w_revL2 ?g1 ?_; (case g1 => walk_at "sq"))
  | (refine' G.w_rep ?g1 ?g2 ?g3 ?g4 ?_; (case g1 => walk_at "hp"); (case g2 => walk_at "ar"); (case g3 => walk_at "ar"); (case g4 => walk_at "sz"))
  | refine' G.w_isNr ?_ | refine' G.w_notN ?_ | refine' G.w_isII ?_ | refine' G.w_isIB ?_ | refine' G.w_isBB ?_ | (refine' G.w_isLL ?g1 ?_; (case g1 => walk_at "hp")))

local macro_rules | `(tactic| walk_at "call") => `(tactic| refine' G.w_oIntB ?_)

local macro_rules | `(tactic| walk_at "sqt") => `(tactic| first | assumption | exact L2.SqT.of (by walk_at "hp"))
local macro_rules | `(tactic| walk_at "call") => `(tactic| first
  | (refine' G.w_inI ?g1 ?_; (case g1 => walk_at "sq")) | (refine' G.w_ninI ?g1 ?_; (case g1 => walk_at "sq")) | refine' G.w_forRev ?_ | refine' G.w_lstRg3 ?_ | (refine' G.w_bdR ?g1 ?g2 ?_; (case g1 => walk_at "ar"); (case g2 => walk_at "ar"))
  | (refine' G.w_max ?g1 ?g2 ?_; (case g1 => walk_at "sq"); (case g2 => walk_at "ar")) | (refine' G.w_min ?g1 ?g2 ?_; (case g1 => walk_at "sq"); (case g2 => walk_at "ar"))
  | (refine' G.w_sortI ?g1 ?_; (case g1 => walk_at "sq")) | (refine' GY.w_tupL ?g1 ?_; (case g1 => walk_at "sq")) | refine' GY.w_star ?_ | (refine' GY.w_starL ?g1 ?_; (case g1 => walk_at "sq")) | (refine' GY.w_listT ?g1 ?_; (case g1 => walk_at "sqt")))

local macro_rules | `(tactic| walk_at "call") => `(tactic| (refine' G.w_cnt ?g1 ?_; (case g1 => walk_at "sq")))

local macro_rules | `(tactic| walk_at "call") => `(tactic| (refine' G.i_isint ?_))

namespace G
open PySem L2 GX
theorem bsum_sum {f : Int → Int} : ∀ l : List Int, (l.map f).sum = bsum f l
  | [] => rfl
  | k :: l => by rw [List.map_cons, List.sum_cons, bsum_sum l]; rfl
def sp_law_is_lot (K : PySem.W.Frag) (A : CA) : Sp := fun vs H Q _ => ∃ (p : Addr) (n : Int) (R : List Int), vs = [.ref p, .int n] ∧ H p = some (.lst (R.map V.int)) ∧ R.Pairwise (· < ·) ∧ (∀ k ∈ R, 0 ≤ k ∧ k < n) ∧ Q (.bl true) H
def t_law_is_lot (K : PySem.W.Frag) (A : CA) : TS :=
  (tSeq (tIfS (tNot (tB (tCB (rIsi K) (tCons (tVar 0) (tCons (tC (.ty "list")) tNil))))) (tRet (tC (.bl false))) tNext)
  (tSeq (tAsg (tUn oNeg (tC (.int 1))) (gName 2))
  (tSeq (tFor (iList K (tVar 0)) (gName 3)
  (tSeq (tIfS (tOr (tNot (tB (tCall (sp_law_is_integer K A) [] E0 (tCons (tVar 3) tNil)))) (tOr (tTest (tOp oLe (tVar 3) (tVar 2))) (tTest (tOp oGe (tVar 3) (tVar 1))))) (tRet (tC (.bl false))) tNext)
  (tAsg (tVar 3) (gName 2))))
  (tRet (tC (.bl true))))))

theorem rd_law_is_lot {K : PySem.W.Frag} {A : CA} {vs : List V} {H : Hp} {Q : VK} {E : XK} (h : sp_law_is_lot K A vs H Q E) :
    t_law_is_lot K A { nx := fun _ H' => Q .non H', rt := Q } (start ["told", "many", "low", "page"] vs) H := by
  obtain ⟨p, n, R, rfl, hp, asc, bd, q⟩ := h
  unfold t_law_is_lot
  walk_at "go"
  refine forL (xs := R.map V.int) (fun i σ H' => ∃ (low : Int) (k3 : Option V), σ = [some (.ref p), some (.int n), some (.int low), k3] ∧ H' = H ∧ ∀ x ∈ R.drop i, low < x) ?_ ?_ ?_ ?_
  · refine ⟨-1, none, rfl, rfl, fun x hx => ?_⟩
    have := bd x (List.mem_of_mem_drop hx)
    omega
  · rintro i σ H2 _ ⟨low, k3, rfl, rfl, _⟩
    exact SqL.of hp
  · rintro i x σ H2 hx ⟨low, k3, rfl, rfl, hlow⟩
    obtain ⟨z, hz, rfl⟩ : ∃ z, R[i]? = some z ∧ V.int z = x := by
      rw [List.getElem?_map] at hx
      cases hs : R[i]? with
      | none => rw [hs] at hx; cases hx
      | some z => rw [hs] at hx; exact ⟨z, rfl, Option.some.inj hx⟩
    obtain ⟨hi, e⟩ := List.getElem?_eq_some_iff.mp hz
    have dr : R.drop i = z :: R.drop (i + 1) := by rw [List.drop_eq_getElem_cons hi, e]
    have hzl := hlow z (by rw [dr]; exact List.mem_cons_self)
    have hzb := bd z (List.mem_of_getElem? hz)
    walk_at "go"
    refine w_iteD (fun c => absurd c (by omega)) (fun _ => ?_)
    walk_at "go"
    refine w_iteD (fun c => absurd c (by omega)) (fun _ => ?_)
    walk_at "go"
    refine ⟨z, _, rfl, rfl, fun x hx => ?_⟩
    have := asc.sublist (List.drop_sublist i R)
    rw [dr, List.pairwise_cons] at this
    exact this.1 x hx
  · rintro σ H2 ⟨low, k3, rfl, rfl, _⟩
    walk_at "go"
    exact q
def sp_law_left (K : PySem.W.Frag) (A : CA) : Sp := fun vs H Q _ => ∃ (pq pb p : Addr) (us : List V) (rs : List (Int × Int)) (bs R : List Int), vs = [.ref pq, .ref pb, .ref p] ∧ H pq = some (.lst us) ∧ Paired (PR H) us rs ∧ H pb = some (.lst (bs.map V.int)) ∧ H p = some (.lst (R.map V.int)) ∧ (∀ k ∈ R, 0 ≤ k ∧ k < bs.length) ∧ R.length ≤ 500 ∧
  ∀ H', Same H H' → Q (.int (left bs rs R)) H'
def t_law_left (K : PySem.W.Frag) (A : CA) : TS :=
  (tSeq (tAsg (tCB (rSum K) (tCons (tLc (iList K (tVar 2)) (gName 4) tYes (tOp (rIxL K) (tVar 1) (tVar 4)) [4]) tNil)) (gName 3))
  (tSeq (tFor (iList K (tVar 0)) (gName 5)
  (tIfS (tAnd (tTest (tOp (rIn K false) (tOp (rIxT K) (tVar 5) (tC (.int 0))) (tVar 2))) (tTest (tOp (rIn K false) (tOp (rIxT K) (tVar 5) (tC (.int 1))) (tVar 2)))) (tAsg (tOp oSub (tVar 3) (tC (.int 1))) (gName 3)) tNext))
  (tRet (tVar 3))))

theorem rd_law_left {K : PySem.W.Frag} {A : CA} {vs : List V} {H : Hp} {Q : VK} {E : XK} (h : sp_law_left K A vs H Q E) :
    t_law_left K A { nx := fun _ H' => Q .non H', rt := Q } (start ["pairs", "blank", "lot", "total", "page", "pair"] vs) H := by
  obtain ⟨pq, pb, p, us, rs, bs, R, rfl, hq, hP, hb, hp, bd, rl, q⟩ := h
  unfold t_law_left
  walk_at "go"
  refine lcL (xs := R.map V.int) (fun Dl i H' => Same H H' ∧ H' Dl = some (.lst (((R.map (blF bs)).take i).map V.int))) (fun Dl hD => ⟨same_new hD, upd_same⟩) (fun Dl i H' _ _ e => SqL.of (e.1 _ _ hp)) ?_ ?_
  · rintro Dl i x H3 hD hx ⟨e3, gD⟩
    obtain ⟨z, hz, rfl⟩ : ∃ z, R[i]? = some z ∧ V.int z = x := by
      rw [List.getElem?_map] at hx
      cases hs : R[i]? with
      | none => rw [hs] at hx; cases hx
      | some z => rw [hs] at hx; exact ⟨z, rfl, Option.some.inj hx⟩
    have hzb := bd z (List.mem_of_getElem? hz)
    have il := (List.getElem?_eq_some_iff.mp hz).1
    have hb3 := e3 _ _ hb
    have hx1 : atI (bs.map V.int) z = some (V.int (blF bs z)) := atn (j := z.toNat) (by omega) (by
      rw [List.getElem?_map, List.getElem?_eq_getElem (by omega)]
      unfold blF
      rw [List.getD_eq_getElem?_getD, List.getElem?_eq_getElem (by omega)]; rfl)
    walk_at "go"
    refine ⟨same_mut e3 hD, ?_⟩
    · rw [upd_same, List.take_succ, List.getElem?_map, hz, List.map_append]; rfl
  · rintro Dl H3 hD ⟨e3, gD⟩
    rw [List.length_map, List.take_of_length_le (by rw [List.length_map]; exact Nat.le_refl _)] at gD
    have hq3 := e3 _ _ hq
    have hp3 := e3 _ _ hp
    have hsum : (R.map (blF bs)).sum = bsum (blF bs) R := bsum_sum R
    walk_at "go"
    refine forL (xs := us) (fun j σ H' => ∃ (k4 k5 : Option V), σ = [some (.ref pq), some (.ref pb), some (.ref p), some (.int (bsum (blF bs) R - (wthn R (rs.take j) : Int))), k4, k5] ∧ H' = H3) ?_ ?_ ?_ ?_
    · refine ⟨none, none, ?_, rfl⟩
      rw [hsum, List.take_zero]
      have : bsum (blF bs) R - ((wthn R [] : Nat) : Int) = bsum (blF bs) R := by show _ - ((0 : Nat) : Int) = _; omega
      rw [this]; rfl
    · rintro j σ H4 _ ⟨k4, k5, rfl, rfl⟩
      exact SqL.of hq3
    · rintro j x σ H4 hx ⟨k4, k5, rfl, rfl⟩
      obtain ⟨r, hr, t, rfl, ht⟩ := Paired.at' hP hx
      have ht3 := e3 _ _ ht
      have tk : wthn R (rs.take (j + 1)) = wthn R (rs.take j) + if inLot R r = true then 1 else 0 := by
        rw [List.take_succ, hr]
        show wthn R (rs.take j ++ [r]) = _
        unfold wthn
        rw [List.countP_append, List.countP_cons, List.countP_nil]; omega
      have yes : r.1 ∈ R → r.2 ∈ R → bsum (blF bs) R - (wthn R (rs.take j) : Int) - 1 = bsum (blF bs) R - (wthn R (rs.take (j + 1)) : Int) := fun a b => by
        rw [tk, if_pos (inLot_iff.mpr ⟨a, b⟩)]; push_cast; omega
      have no : ¬ (r.1 ∈ R ∧ r.2 ∈ R) → bsum (blF bs) R - (wthn R (rs.take j) : Int) = bsum (blF bs) R - (wthn R (rs.take (j + 1)) : Int) := fun a => by
        rw [tk, if_neg (fun z => a (inLot_iff.mp z))]; push_cast; omega
      walk_at "go"
      refine w_iteD (fun c1 => ?_) (fun c1 => ?_)
      · walk_at "go"
        refine w_iteD (fun c2 => ?_) (fun c2 => ?_)
        · walk_at "go"
          exact ⟨k4, some (.ref t), by rw [← yes c1 c2]; rfl, rfl⟩
        · walk_at "go"
          exact ⟨k4, some (.ref t), by rw [← no (fun z => c2 z.2)]; rfl, rfl⟩
      · walk_at "go"
        exact ⟨k4, some (.ref t), by rw [← no (fun z => c1 z.1)]; rfl, rfl⟩
    · rintro σ H4 ⟨k4, k5, rfl, rfl⟩
      rw [show us.length = rs.length from hP.length, List.take_length]
      walk_at "go"
      exact q _ e3
end G

end
section
local macro_rules | `(tactic| walk_at "call") => `(tactic| (refine' G.w_cnt ?g1 ?_; (case g1 => walk_at "sq")))

local macro_rules | `(tactic| walk_at "call") => `(tactic| (refine' G.w_popAt ?g1 ?g2 ?g3 ?g4 ?_; (case g1 => walk_at "hp"); (case g2 => walk_at "ar"); (case g3 => walk_at "ar"); (case g4 => walk_at "ar")))

local macro_rules | `(tactic| walk_at "call") => `(tactic| (refine' G.i_whole ?_))

local macro_rules | `(tactic| walk_at "call") => `(tactic| first | refine' G.w_dp ?_ | refine' G.w_dg ?_ | refine' G.w_da ?_)

local macro_rules | `(tactic| walk_at "call") => `(tactic| first | refine' G.w_dc ?_ | refine' G.w_lock ?_ | refine' G.w_forT ?_ | refine' G.w_dni ?_)

/-! ### slack -/
namespace G
open PySem L2 GX
def sp_Owners_free_of (K : PySem.W.Frag) (A : CA) : Sp := fun vs H Q _ => ∃ (o : Addr) (g : OG) (F : Int → Int) (W : Int × Int → Option Int) (ar : List (Int × Int)) (k : Int), vs = [.ref o, .int k] ∧ OwnAt A H o g F W ar ∧ k ∈ g.ps ∧ Q (.int (F k)) H
def t_Owners_free_of (K : PySem.W.Frag) (A : CA) : TS :=
  (tRet (tDGet (tFld K (tVar 0) "_free") (tVar 1)))

theorem rd_Owners_free_of {K : PySem.W.Frag} {A : CA} (T : CTW K A) {vs : List V} {H : Hp} {Q : VK} {E : XK} (h : sp_Owners_free_of K A vs H Q E) :
    t_Owners_free_of K A { nx := fun _ H' => Q .non H', rt := Q } (start ["self", "page"] vs) H := by
  obtain ⟨o, g, F, W, ar, k, rfl, hO, hk, q⟩ := h
  obtain ⟨dx, ho⟩ := hO.ob
  obtain ⟨kf, f1, f2, f3⟩ := hO.fr
  unfold t_Owners_free_of
  walk_at "go"
  refine w_fld2 ho T.c T.free ow_free ?_
  walk_at "go"
  exact w_dgK f1 (by rw [f2, if_pos hk]) q
/-- a lot whose blank lines are by f more than the pointers within -/
structure LotF (ps : List Int) (bl : Int → Int) (ar : List (Int × Int)) (k f : Int) (R : List Int) : Prop where
  asc : R.Pairwise (· < ·)
  sub : ∀ j ∈ R, j ∈ ps
  mem : k ∈ R
  val : bsum bl R - (wthn R ar : Int) = f
theorem bsum_at {F : Int → Int} {k : Int} : ∀ {l : List Int}, l.Nodup → k ∈ l → (∀ j ∈ l, j ≠ k → F j = 0) → bsum F l = F k
  | [], _, h, _ => nomatch h
  | j :: l, nd, h, z => by
    rw [List.nodup_cons] at nd
    show F j + bsum F l = F k
    rcases List.mem_cons.mp h with e | e
    · subst e
      have : bsum F l = bsum (fun _ => 0) l := bsum_congr fun i hi => z i (List.mem_cons_of_mem _ hi) (fun q => nd.1 (q ▸ hi))
      rw [this]
      have z0 : ∀ l : List Int, bsum (fun _ => 0) l = 0 := fun l => by
        induction l with
        | nil => rfl
        | cons a l ih => show 0 + bsum _ l = 0; rw [ih]; rfl
      rw [z0]; omega
    · rw [bsum_at nd.2 e fun i hi => z i (List.mem_cons_of_mem _ hi), z j List.mem_cons_self (fun q => nd.1 (q ▸ e))]; omega
theorem lotf_of {ps rl : List Int} {bl F : Int → Int} {ar : List (Int × Int)} {W : Int × Int → Option Int} {c : Cam} {k : Int} (D : Dl ps bl ar F W) (R : Rch ps W [k] c rl) (C : Clo W rl rl.length) (P : ∀ j ∈ ps, 0 ≤ F j) (fz : ∀ j ∈ rl, j ∉ [k] → F j ≤ 0) {S : List Int} (p : S.Perm rl) (so : S.Pairwise (· ≤ ·)) : LotF ps bl ar k (F k) S := by
  have nd : S.Nodup := p.nodup_iff.mpr R.nd
  have kin : k ∈ S := p.mem_iff.mpr ((R.dom _).mp (by rw [(R.st _).mpr List.mem_cons_self]; rfl))
  refine ⟨?_, fun j hj => R.sub j (p.mem_iff.mp hj), kin, ?_⟩
  · refine List.pairwise_iff_getElem.mpr fun i j hi hj ij => ?_
    have a := List.pairwise_iff_getElem.mp so i j hi hj ij
    have b := List.pairwise_iff_getElem.mp nd i j hi hj ij
    omega
  · have e1 : bsum bl S = bsum (fun j => F j + (cntW ar W j : Int)) S := bsum_congr fun j hj => (D.cnt j (R.sub j (p.mem_iff.mp hj))).symm
    rw [e1, bsum_add, bsum_cnt nd, bsum_at nd kin fun j hj jk => by
      have m := p.mem_iff.mp hj
      have a := P j (R.sub j m)
      have b := fz j m (by simpa using jk)
      omega]
    have e2 : (ar.countP fun r => decide (∃ j ∈ S, W r = some j)) = wthn S ar := by
      unfold wthn
      refine List.countP_congr fun s hs => ?_
      rw [inLot_iff, p.mem_iff, p.mem_iff, decide_eq_true_iff]
      constructor
      · rintro ⟨j, hj, e⟩
        have km := p.mem_iff.mp hj
        obtain ⟨i, hi⟩ := List.getElem?_of_mem km
        have om := C i j s (List.getElem?_eq_some_iff.mp hi).1 hi e
        obtain ⟨x, _⟩ := D.wok.ends s j e
        unfold oth at om
        rcases x with z | z
        · subst z; rw [if_pos rfl] at om; exact ⟨km, om⟩
        · split at om
          · next c => rw [← c]; exact ⟨km, om⟩
          · rw [← z]; exact ⟨om, km⟩
      · rintro ⟨m1, m2⟩
        cases e : W s with
        | none => exact absurd e ((D.dom s).mpr hs)
        | some j =>
          refine ⟨j, ?_, rfl⟩
          rcases (D.wok.ends s j e).1 with z | z <;> rw [z, p.mem_iff] <;> assumption
    rw [e2]; omega
def sp_Owners_free_one (K : PySem.W.Frag) (A : CA) : Sp := fun vs H Q _ => ∃ (o : Addr) (g : OG) (F : Int → Int) (W : Int × Int → Option Int) (ar : List (Int × Int)) (bl : Int → Int) (k : Int), vs = [.ref o, .int k] ∧ OwnAt A H o g F W ar ∧ Dl g.ps bl ar F W ∧ (∀ j ∈ g.ps, 0 ≤ F j) ∧ k ∈ g.ps ∧
  (∀ (F' : Int → Int) (W' : Int × Int → Option Int) (H' : Hp), Kept g H H' → OwnAt A H' o g F' W' ar → Dl g.ps bl ar F' W' → (∀ j ∈ g.ps, 0 ≤ F' j) → F' k = F k + 1 → Q .non H') ∧
  (∀ (R : List Int) (l : Addr) (H' : Hp), Same H H' → H l = none → H' l = some (.lst (R.map V.int)) → LotF g.ps bl ar k (F k) R → Q (.ref l) H')
def t_Owners_free_one (K : PySem.W.Frag) (A : CA) : TS :=
  (tSeq (tAsg (tMeth A.Owners "_find_chain" (sp_Ownersfind_chain K A) [] E0 (tVar 0) (tCons (tLst (tCons (tVar 1) tNil)) tNil)) (gTup K 2 (gCons (gName 2) (gCons (gName 3) gNil))))
  (tSeq (tIfS (tB (tIsN (tVar 2))) (tRet (tCB (rSortedI K) (tCons (tCB rListD (tCons (tVar 3) tNil)) tNil))) tNext)
  (tSeq (tDrop (tMeth A.Owners "_shift" (sp_Ownersshift K A) [] E0 (tVar 0) (tCons (tVar 3) (tCons (tVar 2) tNil))))
  (tRet (tC .non)))))

theorem rd_Owners_free_one {K : PySem.W.Frag} {A : CA} (T : CTW K A) {vs : List V} {H : Hp} {Q : VK} {E : XK} (h : sp_Owners_free_one K A vs H Q E) :
    t_Owners_free_one K A { nx := fun _ H' => Q .non H', rt := Q } (start ["self", "page", "last", "came_by"] vs) H := by
  obtain ⟨o, g, F, W, ar, bl, k, rfl, hO, hD, hF, hk, k1, k2⟩ := h
  obtain ⟨dx, ho⟩ := hO.ob
  unfold t_Owners_free_one
  walk_at "go"
  refine w_mth2 ho ow_nofind ?_
  walk_at "go"
  intro l hl
  have e1 := same_new (o := .lst [V.int k]) hl
  have gl : (upd H l (.lst [V.int k])) l = some (.lst ([k].map V.int)) := upd_same
  generalize upd H l (.lst [V.int k]) = H1 at e1 gl
  walk_at "go"
  refine ⟨o, l, g, F, W, ar, [k], rfl, hO.same e1, hD.wok, SqL.of gl, by simp, fun j hj => by rw [List.mem_singleton.mp hj]; exact hk, fun last c rl t d H2 e2 hd gt C2 R2 hin fp nin => ?_, fun c rl t d H2 e2 hd gt C2 R2 clo fz => ?_⟩
  · have E2 := e1.trans e2
    have hdH := e1.free hd
    walk_at "go"
    refine w_isNr ?_
    walk_at "go"
    refine w_iteF ?_
    walk_at "go"
    refine w_mth2 (E2 _ _ ho) ow_noshift ?_
    walk_at "go"
    have nhd : ¬ g.has d := fun z => by rcases hO.kinds z with ⟨k, e⟩ | ⟨k, e⟩ <;> rw [hdH] at e <;> cases e
    refine ⟨o, d, last, g, F, W, ar, bl, [k], rl, c, rfl, hO.same E2, hD, C2, R2, hin, nhd, fun s F' W' H3 K3 O3 D3 hs hF' => ?_⟩
    have hs2 : s = k := List.mem_singleton.mp hs
    subst hs2
    have snl : s ≠ last := fun z => nin (z ▸ hs)
    walk_at "go"
    refine k1 F' W' H3 ((Kept.of E2).trans K3) O3 D3 (fun j hj => ?_) ?_
    · have a := hF j hj
      rw [hF' j]
      unfold shE
      by_cases jl : j = last
      · subst jl; rw [if_pos rfl]; split <;> omega
      · rw [if_neg jl]; split <;> omega
    · rw [hF' s]
      unfold shE
      rw [if_pos rfl, if_neg snl]; omega
  · have E2 := e1.trans e2
    walk_at "go"
    refine w_isNr ?_
    walk_at "go"
    refine w_iteT ?_
    walk_at "go"
    obtain ⟨kc, d1, dk, dv⟩ := C2.ex
    refine w_listDo d1 dk fun l3 hl3 => ?_
    have e3 := same_new (o := .lst (rl.map V.int)) hl3
    have gl3 : (upd H2 l3 (.lst (rl.map V.int))) l3 = some (.lst (rl.map V.int)) := upd_same
    generalize upd H2 l3 (.lst (rl.map V.int)) = H3 at e3 gl3
    walk_at "go"
    refine w_sortI (SqL.of gl3) fun S l4 pS so hl4 => ?_
    walk_at "go"
    exact k2 S l4 _ ((E2.trans e3).trans (same_new hl4)) ((E2.trans e3).free hl4) upd_same (lotf_of hD R2 clo hF fz pS so)
end G

end
section
local macro_rules | `(tactic| walk_at "call") => `(tactic| (refine' G.w_cnt ?g1 ?_; (case g1 => walk_at "sq")))

local macro_rules | `(tactic| walk_at "call") => `(tactic| (refine' G.w_popAt ?g1 ?g2 ?g3 ?g4 ?_; (case g1 => walk_at "hp"); (case g2 => walk_at "ar"); (case g3 => walk_at "ar"); (case g4 => walk_at "ar")))

local macro_rules | `(tactic| walk_at "call") => `(tactic| (refine' G.i_whole ?_))

local macro_rules | `(tactic| walk_at "call") => `(tactic| first | refine' G.w_dp ?_ | refine' G.w_dg ?_ | refine' G.w_da ?_)

local macro_rules | `(tactic| walk_at "call") => `(tactic| first | refine' G.w_dc ?_ | refine' G.w_lock ?_ | refine' G.w_forT ?_ | refine' G.w_dni ?_)

namespace G
open PySem L2 GX
theorem ow_nofree_one {g : OG} : (owFs g).lookup ("free_one" : Str) = none := by
  unfold owFs
  rw [lookup_putF, if_neg (by decide +kernel), lookup_putF, if_neg (by decide +kernel), lookup_putF, if_neg (by decide +kernel)]
  rfl
theorem ow_nofree_of {g : OG} : (owFs g).lookup ("free_of" : Str) = none := by
  unfold owFs
  rw [lookup_putF, if_neg (by decide +kernel), lookup_putF, if_neg (by decide +kernel), lookup_putF, if_neg (by decide +kernel)]
  rfl
theorem own_count {rs : List (Int × Int)} {W : Int × Int → Option Int} {p : Int} (hs : ∀ r ∈ rs, W r ≠ none) : (ownL W rs).count p = cntW rs W p := by
  unfold ownL cntW
  rw [List.count, List.countP_map]
  refine List.countP_congr fun r hr => ?_
  cases hk : W r with
  | none => exact absurd hk (hs r hr)
  | some k => simp [hk]
def sp_slack (K : PySem.W.Frag) (A : CA) : Sp := fun vs H Q E => ∃ (st w : Addr) (n L p : Int) (rs : List (Int × Int)) (bs : List Int), vs = [.ref st, .int p] ∧ StAt A H st w n rs L bs ∧ BK L n.toNat bs ∧ 1 ≤ n ∧ n ≤ 500 ∧ RG n rs ∧
  (isOut n p = true → Raised A.NoPage "page" (.int p) H E) ∧ (0 ≤ p → p < n → (∀ R : List Int, Lot (rng n) (blF bs) rs R → GS.RaisedL A.ShortLot R H E) ∧
    ∀ (os R : List Int) (f : Int) (q l1 l2 : Addr) (H' : Hp), Same H H' → H l1 = none → H l2 = none → l1 ≠ l2 → H' q = some (.tup [.int f, .ref l1, .ref l2]) → H' l1 = some (.lst (os.map V.int)) → H' l2 = some (.lst (R.map V.int)) → DealP rs bs os →
      f = blF bs p - (os.count p : Int) → LotF (rng n) (blF bs) rs p f R → Q (.ref q) H')
def t_slack (K : PySem.W.Frag) (A : CA) (E : XK) : TS :=
  (tSeq (tDrop (tCall (sp_check_pages K A) [] E (tCons (tFld K (tVar 0) "web") (tCons (tLst (tCons (tVar 1) tNil)) tNil))))
  (tSeq (tAsg (tCall (sp_dealt K A) [] E (tCons (tVar 0) tNil)) (gName 2))
  (tSeq (tAsg (tMeth A.Owners "free_one" (sp_Owners_free_one K A) [] E0 (tVar 2) (tCons (tVar 1) tNil)) (gName 3))
  (tSeq (tWhile (tB (tIsN (tVar 3))) (tAsg (tMeth A.Owners "free_one" (sp_Owners_free_one K A) [] E0 (tVar 2) (tCons (tVar 1) tNil)) (gName 3)))
  (tRet (tTup (tCons (tMeth A.Owners "free_of" (sp_Owners_free_of K A) [] E0 (tVar 2) (tCons (tVar 1) tNil)) (tCons (tCall (sp_owner_list K A) [] E0 (tCons (tVar 0) (tCons (tVar 2) tNil))) (tCons (tVar 3) tNil)))))))))

theorem rd_slack {K : PySem.W.Frag} {A : CA} (T : CTS K A) {vs : List V} {H : Hp} {Q : VK} {E : XK} (h : sp_slack K A vs H Q E) :
    t_slack K A E { nx := fun _ H' => Q .non H', rt := Q } (start ["standing", "page", "owners", "lot"] vs) H := by
  obtain ⟨st, w, n, L, p, rs, bs, rfl, hS, hB, n1, n2, hR, k1, k2⟩ := h
  obtain ⟨dx, lb, h1, h2⟩ := hS.ex
  obtain ⟨dw, d0, a0, tg, hd0, g1⟩ := hS.web.obj
  unfold t_slack
  walk_at "go"
  refine w_fld2 h1 T.c_Standing T.n_Standing_web st_web ?_
  walk_at "go"
  intro l0 hl0
  have e0 := same_new (o := .lst [V.int p]) hl0
  have gl0 : (upd H l0 (.lst [V.int p])) l0 = some (.lst ([p].map V.int)) := upd_same
  generalize upd H l0 (.lst [V.int p]) = H0 at e0 gl0
  walk_at "go"
  refine i_check (e0 _ _ g1) web_pages gl0 (fun o => Raised.at e0 (k1 o)) fun p0 p1 => ?_
  obtain ⟨kR, kQ⟩ := k2 p0 p1
  clear k1 k2
  walk_at "go"
  refine ⟨st, w, n, L, rs, bs, rfl, hS.same e0, hB, n1, n2, hR, fun R hL => GS.RaisedL.at e0 (kR R hL), fun o g F0 W0 H1 e1 ho fg gp O1 D1 P1 => ?_⟩
  have pm : p ∈ g.ps := by rw [gp]; exact rng_mem.mpr ⟨p0, p1⟩
  have E1 := e0.trans e1
  have fg0 : Fresh g H := fun b hb => e0.free (fg b hb)
  have loop : ∀ (v3 : V) (H2 : Hp), Kept g H1 H2 → (v3 = .non ∧ (∃ F W, OwnAt A H2 o g F W rs ∧ Dl g.ps (blF bs) rs F W ∧ ∀ j ∈ g.ps, 0 ≤ F j) ∨ (∃ (R : List Int) (l : Addr) (F : Int → Int) (W : Int × Int → Option Int), v3 = .ref l ∧ H2 l = some (.lst (R.map V.int)) ∧ H l = none ∧ OwnAt A H2 o g F W rs ∧ Dl g.ps (blF bs) rs F W ∧ (∀ j ∈ g.ps, 0 ≤ F j) ∧ LotF g.ps (blF bs) rs p (F p) R)) →
      (tSeq (tWhile (tB (tIsN (tVar 3))) (tAsg (tMeth A.Owners "free_one" (sp_Owners_free_one K A) [] E0 (tVar 2) (tCons (tVar 1) tNil)) (gName 3)))
        (tRet (tTup (tCons (tMeth A.Owners "free_of" (sp_Owners_free_of K A) [] E0 (tVar 2) (tCons (tVar 1) tNil)) (tCons (tCall (sp_owner_list K A) [] E0 (tCons (tVar 0) (tCons (tVar 2) tNil))) (tCons (tVar 3) tNil)))))) { nx := fun _ H' => Q .non H', rt := Q } [some (.ref st), some (.int p), some (.ref o), some v3] H2 := by
    intro v3 H2 K2 hv
    walk_at "go"
    obtain ⟨m0, hm0⟩ : ∃ m0 : Nat, (v3 = .non ∧ (∃ F W, OwnAt A H2 o g F W rs ∧ Dl g.ps (blF bs) rs F W ∧ (∀ j ∈ g.ps, 0 ≤ F j) ∧ m0 = (blF bs p - F p).toNat + 1) ∨ (∃ (R : List Int) (l : Addr) (F : Int → Int) (W : Int × Int → Option Int), v3 = .ref l ∧ H2 l = some (.lst (R.map V.int)) ∧ H l = none ∧ OwnAt A H2 o g F W rs ∧ Dl g.ps (blF bs) rs F W ∧ (∀ j ∈ g.ps, 0 ≤ F j) ∧ LotF g.ps (blF bs) rs p (F p) R)) := by
      rcases hv with ⟨e, F, W, a, b, c⟩ | h
      · exact ⟨_, .inl ⟨e, F, W, a, b, c, rfl⟩⟩
      · exact ⟨0, .inr h⟩
    refine w_wl2 (fun m σ H' => ∃ v3, σ = [some (.ref st), some (.int p), some (.ref o), some v3] ∧ Kept g H1 H' ∧ (v3 = .non ∧ (∃ F W, OwnAt A H' o g F W rs ∧ Dl g.ps (blF bs) rs F W ∧ (∀ j ∈ g.ps, 0 ≤ F j) ∧ m = (blF bs p - F p).toNat + 1) ∨ (∃ (R : List Int) (l : Addr) (F : Int → Int) (W : Int × Int → Option Int), v3 = .ref l ∧ H' l = some (.lst (R.map V.int)) ∧ H l = none ∧ OwnAt A H' o g F W rs ∧ Dl g.ps (blF bs) rs F W ∧ (∀ j ∈ g.ps, 0 ≤ F j) ∧ LotF g.ps (blF bs) rs p (F p) R))) m0 ⟨v3, rfl, K2, hm0⟩ ?_
    clear hv hm0 K2
    rintro m σ H3 ⟨v4, rfl, K3, h⟩
    rcases h with ⟨rfl, F, W, O3, D3, P3, hm⟩ | ⟨R, l, F, W, rfl, gl, hl, O3, D3, P3, hL⟩
    · obtain ⟨d3, ho3⟩ := O3.ob
      refine ⟨true, fun Q q => ?_, fun _ => ?_, fun z => (by cases z)⟩
      · walk_at "go"
        refine w_isNr ?_
        walk_at "go"
        exact q
      · walk_at "go"
        refine w_mth2 ho3 ow_nofree_one ?_
        walk_at "go"
        have cb := D3.cnt p pm
        have fpos := P3 p pm
        refine ⟨o, g, F, W, rs, blF bs, p, rfl, O3, D3, P3, pm, fun F' W' H4 K4 O4 D4 P4 e4 => ?_, fun R l H4 e4 hl gl hL => ?_⟩
        · have cb' := D4.cnt p pm
          walk_at "go"
          refine ⟨(blF bs p - F' p).toNat + 1, by rw [hm]; omega, .non, rfl, K3.trans K4, .inl ⟨rfl, F', W', O4, D4, P4, rfl⟩⟩
        · walk_at "go"
          refine ⟨0, by omega, .ref l, rfl, K3.trans (Kept.of e4), .inr ⟨R, l, F, W, rfl, gl, (fg0.same E1 K3).free hl, O3.same e4, D3, P3, hL⟩⟩
    · obtain ⟨d3, ho3⟩ := O3.ob
      refine ⟨false, fun Q q => ?_, fun z => (by cases z), fun _ => ?_⟩
      · walk_at "go"
        refine w_isNr ?_
        walk_at "go"
        exact q
      · walk_at "go"
        refine w_mth2 ho3 ow_nofree_of ?_
        walk_at "go"
        refine ⟨o, g, F, W, rs, p, rfl, O3, pm, ?_⟩
        walk_at "go"
        have E3 := fg0.same E1 K3
        refine ⟨st, o, w, n, L, rs, bs, g, F, W, rs, rfl, hS.same E3, O3, fun r hr => (D3.dom r).mpr hr, fun l1 H4 e4 hl1 gl1 => ?_⟩
        have nl : l1 ≠ l := (ne_of_none gl hl1).symm
        have cb := D3.cnt p pm
        walk_at "go"
        intro q hq
        rw [gp] at D3 P3 hL
        refine kQ _ R (F p) q l1 l _ ((E3.trans e4).trans (same_new hq)) (E3.free hl1) hl nl upd_same (keep gl1 hq) (keep (e4 _ _ gl) hq) (own_deal D3 P3 hB.len) ?_ hL
        rw [own_count fun r hr => (D3.dom r).mpr hr]
        omega
  obtain ⟨d3, ho3⟩ := O1.ob
  walk_at "go"
  refine w_mth2 ho3 ow_nofree_one ?_
  walk_at "go"
  refine ⟨o, g, F0, W0, rs, blF bs, p, rfl, O1, D1, P1, pm, fun F' W' H4 K4 O4 D4 P4 e4 => ?_, fun R l H4 e4 hl gl hL => ?_⟩
  · exact loop .non H4 K4 (.inl ⟨rfl, F', W', O4, D4, P4⟩)
  · exact loop (.ref l) H4 (Kept.of e4) (.inr ⟨R, l, F0, W0, rfl, gl, E1.free hl, O1.same e4, D1, P1, hL⟩)
end G

end
section
local macro_rules | `(tactic| walk_at "call") => `(tactic| first
  | (refine' G.w_anyI ?g1 ?_; (case g1 => walk_at "sq")) | refine' G.w_lcE ?_ | (refine' G.w_enumSq ?g1 ?_; (case g1 => walk_at "sq"))
  | (refine' G.w_neI2 ?g1 ?g2 ?_; (case g1 => walk_at "sq"); (case g2 => walk_at "sq")) | (refine' G.w_eqI2 ?g1 ?g2 ?_; (case g1 => walk_at "sq"); (case g2 => walk_at "sq")))

local macro_rules | `(tactic| walk_at "call") => `(tactic| first
  | refine' G.w_iteNT ?_ | refine' G.w_iteNF ?_ | refine' G.w_iteRf ?_ | refine' G.w_iteNRf ?_ | refine' G.w_tru ?_ | (refine' G.w_truL ?g1 ?_; (case g1 => walk_at "sq")) | refine' G.w_revL ?_ | (refine' G.w_revL2 ?g1 ?_; (case g1 => walk_at "sq"))
  | (refine' G.w_rep ?g1 ?g2 ?g3 ?g4 ?_; (case g1 => walk_at "hp"); (case g2 => walk_at "ar"); (case g3 => walk_at "ar"); (case g4 => walk_at "sz"))
  | refine' G.w_isNr ?_ | refine' G.w_notN ?_ | refine' G.w_isII ?_ | refine' G.w_isIB ?_ | refine' G.w_isBB ?_ | (refine' G.w_isLL ?g1 ?_; (case g1 => walk_at "hp")))

local macro_rules | `(tactic| walk_at "call") => `(tactic| refine' G.w_oIntB ?_)

local macro_rules | `(tactic| walk_at "sqt") => `(tactic| first | assumption | exact L2.SqT.of (by walk_at "hp"))
local macro_rules | `(tactic| walk_at "call") => `(tactic| first
  | (refine' G.w_inI ?g1 ?_; (case g1 => walk_at "sq")) | (refine' G.w_ninI ?g1 ?_; (case g1 => walk_at "sq")) | refine' G.w_forRev ?_ | refine' G.w_lstRg3 ?_ | (refine' G.w_bdR ?g1 ?g2 ?_; (case g1 => walk_at "ar"); (case g2 => walk_at "ar"))
  | (refine' G.w_max ?g1 ?g2 ?_; (case g1 => walk_at "sq"); (case g2 => walk_at "ar")) | (refine' G.w_min ?g1 ?g2 ?_; (case g1 => walk_at "sq"); (case g2 => walk_at "ar"))
  | (refine' G.w_sortI ?g1 ?_; (case g1 => walk_at "sq")) | (refine' GY.w_tupL ?g1 ?_; (case g1 => walk_at "sq")) | refine' GY.w_star ?_ | (refine' GY.w_starL ?g1 ?_; (case g1 => walk_at "sq")) | (refine' GY.w_listT ?g1 ?_; (case g1 => walk_at "sqt")))

local macro_rules | `(tactic| walk_at "call") => `(tactic| (refine' G.w_cnt ?g1 ?_; (case g1 => walk_at "sq")))

local macro_rules | `(tactic| walk_at "call") => `(tactic| (refine' G.i_isint ?_))

namespace G
open PySem L2 GX
theorem w_bit {K : PySem.W.Frag} {σ : L2.St} {H : Hp} {mm kk : Int} {m : Nat} {Qb : Bool → Hp → Prop} (hm : mm = (m : Int)) (h0 : 0 ≤ kk) (q : Qb (bitB m kk) H) :
    oShrN (.int mm) (.int kk) H fun x H1 => tC (.int 1) σ H1 fun y H2 => oOdd x y H2 fun x H' => ∃ k, TruV K x H' k ∧ Qb k H' := by
  refine ⟨mm, kk.toNat, rfl, by congr 1; omega, ?_⟩
  have e : mm / 2 ^ kk.toNat = ((m / 2 ^ kk.toNat : Nat) : Int) := by rw [hm, Int.natCast_ediv, Int.natCast_pow]; rfl
  rw [e]
  refine ⟨m / 2 ^ kk.toNat, rfl, rfl, bitB m kk, ?_, q⟩
  show bitB m kk = (((m / 2 ^ kk.toNat % 2 : Nat) : Int) != 0)
  unfold bitB
  have := Nat.mod_lt (m / 2 ^ kk.toNat) (show 0 < 2 by decide)
  generalize m / 2 ^ kk.toNat % 2 = v at this
  rcases v with _ | _ | v
  · rfl
  · rfl
  · omega
theorem bit_page {m : Nat} {n k : Int} (h0 : 0 ≤ k) (h1 : k < n) : k ∈ mpages m n ↔ bitB m k = true := by
  unfold mpages
  rw [List.mem_filter, rng_mem]
  exact ⟨fun z => z.2, fun z => ⟨⟨h0, h1⟩, z⟩⟩
def vals (n : Int) (rs : List (Int × Int)) (bs : List Int) : List Int := (List.range (2 ^ n.toNat)).map fun m => left bs rs (mpages m n)
theorem vals_get {n : Int} {rs : List (Int × Int)} {bs : List Int} {m : Nat} (h : m < 2 ^ n.toNat) : (vals n rs bs)[m]? = some (left bs rs (mpages m n)) := by
  unfold vals; rw [List.getElem?_map, List.getElem?_range h]; rfl
def sp_law_values (K : PySem.W.Frag) (A : CA) : Sp := fun vs H Q _ => ∃ (pq pb : Addr) (n : Int) (us : List V) (rs : List (Int × Int)) (bs : List Int), vs = [.int n, .ref pq, .ref pb] ∧ H pq = some (.lst us) ∧ Paired (PR H) us rs ∧ RG n rs ∧ H pb = some (.lst (bs.map V.int)) ∧ bs.length = n.toNat ∧ 1 ≤ n ∧ n ≤ 7 ∧
  ∀ (l : Addr) (H' : Hp), Same H H' → H l = none → H' l = some (.lst ((vals n rs bs).map V.int)) → Q (.ref l) H'
def t_law_values (K : PySem.W.Frag) (A : CA) : TS :=
  (tSeq (tAsg (tLst tNil) (gName 3))
  (tSeq (tFor (iRng1 (tCons (tOp G.oShl1 (tC (.int 1)) (tVar 0)) tNil)) (gName 4)
  (tSeq (tAsg (tC (.int 0)) (gName 5))
  (tSeq (tFor (iRng1 (tCons (tVar 0) tNil)) (gName 6)
  (tIfS (tTruK K (tOp G.oOdd (tOp G.oShrN (tVar 4) (tVar 6)) (tC (.int 1)))) (tAsg (tOp oAdd (tVar 5) (tOp (rIxL K) (tVar 2) (tVar 6))) (gName 5)) tNext))
  (tSeq (tFor (iList K (tVar 1)) (gName 7)
  (tIfS (tAnd (tTruK K (tOp G.oOdd (tOp G.oShrN (tVar 4) (tOp (rIxT K) (tVar 7) (tC (.int 0)))) (tC (.int 1)))) (tTruK K (tOp G.oOdd (tOp G.oShrN (tVar 4) (tOp (rIxT K) (tVar 7) (tC (.int 1)))) (tC (.int 1))))) (tAsg (tOp oSub (tVar 5) (tC (.int 1))) (gName 5)) tNext))
  (tDrop (tBM K "list" rAppend (tVar 3) (tCons (tVar 5) tNil)))))))
  (tRet (tVar 3))))

theorem rd_law_values {K : PySem.W.Frag} {A : CA} {vs : List V} {H : Hp} {Q : VK} {E : XK} (h : sp_law_values K A vs H Q E) :
    t_law_values K A { nx := fun _ H' => Q .non H', rt := Q } (start ["many", "pairs", "blank", "values", "mask", "total", "page", "pair"] vs) H := by
  obtain ⟨pq, pb, n, us, rs, bs, rfl, hq0, hP0, hR, hb0, hbl, n1, n7, q⟩ := h
  unfold t_law_values
  walk_at "go"
  intro l hl
  have e0 := same_new (o := .lst []) hl
  have gl0 : (upd H l (.lst [])) l = some (.lst []) := upd_same
  generalize upd H l (.lst []) = H0 at e0 gl0
  walk_at "go"
  obtain ⟨N, hN⟩ : ∃ N, N = 2 ^ n.toNat := ⟨_, rfl⟩
  have e7 : (2 : Int) ^ n.toNat = (N : Int) := by rw [hN, Int.natCast_pow]; rfl
  have p7 : N ≤ 128 := by rw [hN]; exact Nat.pow_le_pow_right (n := 2) (by decide) (show n.toNat ≤ 7 by omega)
  refine ⟨n.toNat, rfl, by congr 1; omega, by omega, ?_⟩
  rw [e7]
  walk_at "go"
  refine forR (fun m σ H' => ∃ (k4 k5 k6 k7 : Option V), σ = [some (.int n), some (.ref pq), some (.ref pb), some (.ref l), k4, k5, k6, k7] ∧ Same H H' ∧ H' l = some (.lst (((vals n rs bs).take m).map V.int))) ?_ ?_ ?_
  · exact ⟨none, none, none, none, rfl, e0, gl0⟩
  · rintro m σ H1 hm ⟨k4, k5, k6, k7, rfl, e1, gl1⟩
    have hq := e1 _ _ hq0
    have hb := e1 _ _ hb0
    have hP := PRs.same e1 hP0
    walk_at "go"
    refine forR (fun i σ H' => ∃ (k6 : Option V), σ = [some (.int n), some (.ref pq), some (.ref pb), some (.ref l), some (.int (0 + (m : Nat))), some (.int (bsum (blF bs) (mpages m (i : Nat)))), k6, k7] ∧ H' = H1) ?_ ?_ ?_
    · exact ⟨k6, rfl, rfl⟩
    · rintro i σ H2 hi ⟨k6, rfl, rfl⟩
      walk_at "go"
      refine w_bit (m := m) (by omega) (by omega) ?_
      have ei : (0 + (i : Int)) = ((i : Nat) : Int) := by omega
      rw [ei]
      have hx1 : atI (bs.map V.int) ((i : Nat) : Int) = some (V.int (blF bs (i : Int))) := atn (j := i) rfl (by
        rw [List.getElem?_map, List.getElem?_eq_getElem (by omega)]
        unfold blF
        rw [List.getD_eq_getElem?_getD, Int.toNat_natCast, List.getElem?_eq_getElem (by omega)]; rfl)
      refine w_iteB (fun c => ?_) (fun c => ?_)
      · walk_at "go"
        refine ⟨some (.int (i : Nat)), ?_, rfl⟩
        rw [mpages_succ, if_pos c, bsum_append]
        rw [show bsum (blF bs) (mpages m (i : Int)) + bsum (blF bs) [(i : Int)] = bsum (blF bs) (mpages m (i : Int)) + blF bs (i : Int) by show _ + (_ + 0) = _; omega]
        rfl
      · walk_at "go"
        refine ⟨some (.int (i : Nat)), ?_, rfl⟩
        rw [mpages_succ, if_neg (by rw [c]; exact Bool.false_ne_true), List.append_nil]
        rfl
    · rintro σ H2 ⟨k6, rfl, rfl⟩
      rw [show ((n.toNat : Nat) : Int) = n by omega]
      walk_at "go"
      refine forL (xs := us) (fun j σ H' => ∃ (k7 : Option V), σ = [some (.int n), some (.ref pq), some (.ref pb), some (.ref l), some (.int (0 + (m : Nat))), some (.int (bsum (blF bs) (mpages m n) - (wthn (mpages m n) (rs.take j) : Int))), k6, k7] ∧ H' = H2) ?_ ?_ ?_ ?_
      · refine ⟨k7, ?_, rfl⟩
        rw [show bsum (blF bs) (mpages m n) - (wthn (mpages m n) (rs.take 0) : Int) = bsum (blF bs) (mpages m n) by rw [List.take_zero]; show _ - ((0 : Nat) : Int) = _; omega]
      · rintro j σ H4 _ ⟨k7, rfl, rfl⟩
        exact SqL.of hq
      · rintro j x σ H4 hx ⟨k7, rfl, rfl⟩
        obtain ⟨r, hr, t, rfl, ht⟩ := Paired.at' hP hx
        have hbd := hR.bd r (List.mem_of_getElem? hr)
        have tk : wthn (mpages m n) (rs.take (j + 1)) = wthn (mpages m n) (rs.take j) + if inLot (mpages m n) r = true then 1 else 0 := by
          rw [List.take_succ, hr]
          show wthn _ (rs.take j ++ [r]) = _
          unfold wthn
          rw [List.countP_append, List.countP_cons, List.countP_nil]; omega
        have b1 := bit_page (m := m) (n := n) hbd.1 hbd.2.1
        have b2 := bit_page (m := m) (n := n) hbd.2.2.1 hbd.2.2.2.1
        walk_at "go"
        refine w_bit (m := m) (by omega) hbd.1 ?_
        refine w_iteB (fun c1 => ?_) (fun c1 => ?_)
        · walk_at "go"
          refine w_bit (m := m) (by omega) hbd.2.2.1 ?_
          refine w_iteB (fun c2 => ?_) (fun c2 => ?_)
          · walk_at "go"
            refine ⟨some (.ref t), ?_, rfl⟩
            rw [tk, if_pos (inLot_iff.mpr ⟨b1.mpr c1, b2.mpr c2⟩)]
            rw [show bsum (blF bs) (mpages m n) - ((wthn (mpages m n) (rs.take j) + 1 : Nat) : Int) = bsum (blF bs) (mpages m n) - (wthn (mpages m n) (rs.take j) : Int) - 1 by push_cast; omega]
            rfl
          · walk_at "go"
            refine ⟨some (.ref t), ?_, rfl⟩
            rw [tk, if_neg (fun z => by have := b2.mp (inLot_iff.mp z).2; rw [c2] at this; cases this)]
            rfl
        · walk_at "go"
          refine ⟨some (.ref t), ?_, rfl⟩
          rw [tk, if_neg (fun z => by have := b1.mp (inLot_iff.mp z).1; rw [c1] at this; cases this)]
          rfl
      · rintro σ H4 ⟨k7, rfl, rfl⟩
        rw [show us.length = rs.length from hP.length, List.take_length]
        walk_at "go"
        have hmN : m < 2 ^ n.toNat := by rw [← hN]; omega
        refine ⟨_, _, _, _, rfl, same_mut e1 hl, ?_⟩
        rw [upd_same, List.take_succ, vals_get hmN, List.map_append]; rfl
  · rintro σ H1 ⟨k4, k5, k6, k7, rfl, e1, gl1⟩
    have lv : (vals n rs bs).length = N := by unfold vals; rw [List.length_map, List.length_range, hN]
    rw [Int.toNat_natCast, ← lv, List.take_length] at gl1
    walk_at "go"
    exact q l H1 e1 hl gl1
end G

end
section
local macro_rules | `(tactic| walk_at "call") => `(tactic| first
  | (refine' G.w_anyI ?g1 ?_; (case g1 => walk_at "sq")) | refine' G.w_lcE ?_ | (refine' G.w_enumSq ?g1 ?_; (case g1 => walk_at "sq"))
  | (refine' G.w_neI2 ?g1 ?g2 ?_; (case g1 => walk_at "sq"); (case g2 => walk_at "sq")) | (refine' G.w_eqI2 ?g1 ?g2 ?_; (case g1 => walk_at "sq"); (case g2 => walk_at "sq")))

local macro_rules | `(tactic| walk_at "call") => `(tactic| first
  | refine' G.w_iteNT ?_ | refine' G.w_iteNF ?_ | refine' G.w_iteRf ?_ | refine' G.w_iteNRf ?_ | refine' G.w_tru ?_ | (refine' G.w_truL ?g1 ?_; (case g1 => walk_at "sq")) | refine' G.w_revL ?_ | (refine' G.w_revL2 ?g1 ?_; (case g1 => walk_at "sq"))
  | (refine' G.w_rep ?g1 ?g2 ?g3 ?g4 ?_; (case g1 => walk_at "hp"); (case g2 => walk_at "ar"); (case g3 => walk_at "ar"); (case g4 => walk_at "sz"))
  | refine' G.w_isNr ?_ | refine' G.w_notN ?_ | refine' G.w_isII ?_ | refine' G.w_isIB ?_ | refine' G.w_isBB ?_ | (refine' G.w_isLL ?g1 ?_; (case g1 => walk_at "hp")))

local macro_rules | `(tactic| walk_at "call") => `(tactic| refine' G.w_oIntB ?_)

local macro_rules | `(tactic| walk_at "sqt") => `(tactic| first | assumption | exact L2.SqT.of (by walk_at "hp"))
local macro_rules | `(tactic| walk_at "call") => `(tactic| first
  | (refine' G.w_inI ?g1 ?_; (case g1 => walk_at "sq")) | (refine' G.w_ninI ?g1 ?_; (case g1 => walk_at "sq")) | refine' G.w_forRev ?_ | refine' G.w_lstRg3 ?_ | (refine' G.w_bdR ?g1 ?g2 ?_; (case g1 => walk_at "ar"); (case g2 => walk_at "ar"))
  | (refine' G.w_max ?g1 ?g2 ?_; (case g1 => walk_at "sq"); (case g2 => walk_at "ar")) | (refine' G.w_min ?g1 ?g2 ?_; (case g1 => walk_at "sq"); (case g2 => walk_at "ar"))
  | (refine' G.w_sortI ?g1 ?_; (case g1 => walk_at "sq")) | (refine' GY.w_tupL ?g1 ?_; (case g1 => walk_at "sq")) | refine' GY.w_star ?_ | (refine' GY.w_starL ?g1 ?_; (case g1 => walk_at "sq")) | (refine' GY.w_listT ?g1 ?_; (case g1 => walk_at "sqt")))

local macro_rules | `(tactic| walk_at "call") => `(tactic| (refine' G.w_cnt ?g1 ?_; (case g1 => walk_at "sq")))

local macro_rules | `(tactic| walk_at "call") => `(tactic| (refine' G.w_popAt ?g1 ?g2 ?g3 ?g4 ?_; (case g1 => walk_at "hp"); (case g2 => walk_at "ar"); (case g3 => walk_at "ar"); (case g4 => walk_at "ar")))

local macro_rules | `(tactic| walk_at "call") => `(tactic| (refine' G.i_whole ?_))

local macro_rules | `(tactic| walk_at "call") => `(tactic| (refine' G.i_isint ?_))

namespace G
open PySem L2 GX
structure CTM7 (K : PySem.W.Frag) (A : CA) : Prop where
  exc : ExcC K A.ShortLot
  self : PySem.W.exmOne K (.ref A.ShortLot) (.ref A.LotError) = some true
  k1 : PySem.W.kitOne K (.ref A.ShortLot) (.ref A.ShortLot) = some true
  k2 : PySem.W.kitOne K (.ref A.ShortLot) (.ref A.NotShort) = some false
structure CTN7 (K : PySem.W.Frag) (A : CA) : Prop where
  exc : ExcC K A.NoPage
  self : PySem.W.exmOne K (.ref A.NoPage) (.ref A.NoPage) = some true
  k1 : PySem.W.kitOne K (.ref A.NoPage) (.ref A.LotError) = some false
def sp_law_told (K : PySem.W.Frag) (A : CA) : Sp := fun vs H Q _ => ∃ (st w : Addr) (n L p : Int) (rs : List (Int × Int)) (bs : List Int), vs = [.ref st, .int p] ∧ StAt A H st w n rs L bs ∧ BK L n.toNat bs ∧ 1 ≤ n ∧ n ≤ 500 ∧ RG n rs ∧ 0 ≤ p ∧ p < n ∧
  (∀ (os R : List Int) (f : Int) (q t l1 l2 : Addr) (H' : Hp), Same H H' → H l1 = none → H l2 = none → l1 ≠ l2 → H' q = some (.tup [.bl true, .ref t, .bl true]) → H' t = some (.tup [.int f, .ref l1, .ref l2]) → H' l1 = some (.lst (os.map V.int)) → H' l2 = some (.lst (R.map V.int)) → DealP rs bs os →
      f = blF bs p - (os.count p : Int) → LotF (rng n) (blF bs) rs p f R → Q (.ref q) H') ∧
  (∀ (R : List Int) (q l : Addr) (H' : Hp), Same H H' → H l = none → H' q = some (.tup [.bl false, .ref l, .bl true]) → H' l = some (.lst (R.map V.int)) → Lot (rng n) (blF bs) rs R → Q (.ref q) H')
def t_law_told (K : PySem.W.Frag) (A : CA) : TS :=
  (GX.tTryAs K A.LotError 2 (fun W => (tRet (tTup (tCons (tC (.bl true)) (tCons (GX.tCallS (sp_slack K A) (WE W) (tCons (tVar 0) (tCons (tVar 1) tNil))) (tCons (tC (.bl true)) tNil)))))) (fun a cls d => (tRet (tTup (tCons (tC (.bl false)) (tCons (tXf a cls d A.ShortLot "lot" (tVar 2)) (tCons (tAndV (tCB (GX.rIsX K a cls d) (tCons (tVar 2) (tCons (tC (.ref A.ShortLot)) tNil))) (tNotV (tCB (GX.rIsX K a cls d) (tCons (tVar 2) (tCons (tC (.ref A.NotShort)) tNil))))) tNil)))))))

theorem rd_law_told {K : PySem.W.Frag} {A : CA} (M : CTM7 K A) {vs : List V} {H : Hp} {Q : VK} {E : XK} (h : sp_law_told K A vs H Q E) :
    t_law_told K A { nx := fun _ H' => Q .non H', rt := Q } (start ["standing", "page", "e"] vs) H := by
  obtain ⟨st, w, n, L, p, rs, bs, rfl, hS, hB, n1, n2, hR, p0, p1, k1, k2⟩ := h
  unfold t_law_told
  unfold GX.tTryAs
  walk_at "go"
  refine w_callS ?_
  walk_at "go"
  refine ⟨st, w, n, L, p, rs, bs, rfl, hS, hB, n1, n2, hR, fun z => (by rw [isOut_in p0 p1] at z; cases z), fun _ _ => ⟨fun R hL => ?_, fun os R f t l1 l2 H1 e1 hl1 hl2 nl gt g1 g2 D hf hL => ?_⟩⟩
  · intro d l H1 hd hl e1 hx gl
    refine ⟨true, M.self, fun _ a _ => ?_, fun z => nomatch z⟩
    walk_at "go"
    refine GX.w_xf (fun Q q => by walk_at "go"; exact q) hx (by rfl) ?_
    walk_at "go"
    refine GX.w_isX (ClsV.own _) M.exc hx M.k1 ?_
    walk_at "go"
    refine GX.w_isX (ClsV.own _) M.exc hx M.k2 ?_
    walk_at "go"
    intro q hq
    exact k2 R q l _ (e1.trans (same_new hq)) hl upd_same (keep gl hq) hL
  · walk_at "go"
    intro q hq
    exact k1 os R f q t l1 l2 _ (e1.trans (same_new hq)) hl1 hl2 nl upd_same (keep gt hq) (keep g1 hq) (keep g2 hq) D hf hL
def sp_law_refused (K : PySem.W.Frag) (A : CA) : Sp := fun vs H Q _ => ∃ (st w : Addr) (n L p : Int) (rs : List (Int × Int)) (bs : List Int), vs = [.ref st, .int p] ∧ StAt A H st w n rs L bs ∧ BK L n.toNat bs ∧ 1 ≤ n ∧ n ≤ 500 ∧ RG n rs ∧ (p < 0 ∨ n ≤ p) ∧ ∀ H', Same H H' → Q (.bl true) H'
def t_law_refused (K : PySem.W.Frag) (A : CA) : TS :=
  (tSeq (GX.tTryAs K A.NoPage 2 (fun W => (tDrop (GX.tCallS (sp_slack K A) (WE W) (tCons (tVar 0) (tCons (tVar 1) tNil))))) (fun a cls d => (tRet (tAndV (GX.tCallG (sp_law_is_integer K A) (tCons (tXf a cls d A.NoPage "page" (tVar 2)) tNil)) (tAndV (tOp rEq (tXf a cls d A.NoPage "page" (tVar 2)) (tVar 1)) (tNotV (tCB (GX.rIsX K a cls d) (tCons (tVar 2) (tCons (tC (.ref A.LotError)) tNil)))))))))
  (tRet (tC (.bl false))))

theorem rd_law_refused {K : PySem.W.Frag} {A : CA} (M : CTN7 K A) {vs : List V} {H : Hp} {Q : VK} {E : XK} (h : sp_law_refused K A vs H Q E) :
    t_law_refused K A { nx := fun _ H' => Q .non H', rt := Q } (start ["standing", "page", "e"] vs) H := by
  obtain ⟨st, w, n, L, p, rs, bs, rfl, hS, hB, n1, n2, hR, out, k1⟩ := h
  unfold t_law_refused
  walk_at "go"
  unfold GX.tTryAs
  walk_at "go"
  refine w_callS ?_
  walk_at "go"
  refine ⟨st, w, n, L, p, rs, bs, rfl, hS, hB, n1, n2, hR, fun _ => ?_, fun a b => absurd out (by omega)⟩
  intro dd H1 hdd e1 hx
  refine ⟨true, M.self, fun _ a _ => ?_, fun z => nomatch z⟩
  walk_at "go"
  refine GX.w_callG ?_
  walk_at "go"
  refine GX.w_xf (fun Q q => by walk_at "go"; exact q) hx (by rfl) ?_
  walk_at "go"
  refine GX.w_xf (fun Q q => by walk_at "go"; exact q) hx (by rfl) ?_
  walk_at "go"
  refine GX.w_isX (ClsV.own _) M.exc hx M.k1 ?_
  walk_at "go"
  exact k1 _ e1
def sp_law_papers (K : PySem.W.Frag) (A : CA) : Sp := fun vs H Q _ => ∃ (t pq pb l1 l2 : Addr) (n p f : Int) (us : List V) (rs : List (Int × Int)) (bs os R : List Int), vs = [.ref t, .int n, .ref pq, .ref pb, .int p] ∧ H t = some (.tup [.int f, .ref l1, .ref l2]) ∧ H pq = some (.lst us) ∧ Paired (PR H) us rs ∧ RG n rs ∧ us.length ≤ 600 ∧ H pb = some (.lst (bs.map V.int)) ∧ bs.length = n.toNat ∧ 1 ≤ n ∧ n ≤ 500 ∧ H l1 = some (.lst (os.map V.int)) ∧ H l2 = some (.lst (R.map V.int)) ∧
  0 ≤ p ∧ p < n ∧ DealP rs bs os ∧ f = blF bs p - (os.count p : Int) ∧ LotF (rng n) (blF bs) rs p f R ∧ ∀ H', Same H H' → Q (.bl true) H'
def t_law_papers (K : PySem.W.Frag) (A : CA) : TS :=
  (tSeq (tIfS (tOr (tNot (tB (tCB (rIsi K) (tCons (tVar 0) (tCons (tC (.ty "tuple")) tNil))))) (tTest (tOp rNe (tCB (rLenQ K) (tCons (tVar 0) tNil)) (tC (.int 3))))) (tRet (tC (.bl false))) tNext)
  (tSeq (tIfS (tOr (tNot (tB (tCall (sp_law_is_integer K A) [] E0 (tCons (tOp (rIxT K) (tVar 0) (tC (.int 0))) tNil)))) (tNot (tB (tCall (sp_law_is_dealing K A) [] E0 (tCons (tVar 2) (tCons (tVar 3) (tCons (tOp (rIxT K) (tVar 0) (tC (.int 1))) tNil))))))) (tRet (tC (.bl false))) tNext)
  (tSeq (tIfS (tOr (tNot (tB (tCall (sp_law_is_lot K A) [] E0 (tCons (tOp (rIxT K) (tVar 0) (tC (.int 2))) (tCons (tVar 1) tNil))))) (tTest (tOp (rIn K true) (tVar 4) (tOp (rIxT K) (tVar 0) (tC (.int 2)))))) (tRet (tC (.bl false))) tNext)
  (tSeq (tAsg (tOp oSub (tOp (rIxL K) (tVar 3) (tVar 4)) (tBM K "list" (rCntI K) (tOp (rIxT K) (tVar 0) (tC (.int 1))) (tCons (tVar 4) tNil))) (gName 5))
  (tRet (tAndV (tOp rEq (tOp (rIxT K) (tVar 0) (tC (.int 0))) (tVar 5)) (tOp rEq (tOp (rIxT K) (tVar 0) (tC (.int 0))) (tCall (sp_law_left K A) [] E0 (tCons (tVar 2) (tCons (tVar 3) (tCons (tOp (rIxT K) (tVar 0) (tC (.int 2))) tNil)))))))))))

theorem rd_law_papers {K : PySem.W.Frag} {A : CA} {vs : List V} {H : Hp} {Q : VK} {E : XK} (h : sp_law_papers K A vs H Q E) :
    t_law_papers K A { nx := fun _ H' => Q .non H', rt := Q } (start ["told", "many", "pairs", "blank", "page", "unowned"] vs) H := by
  obtain ⟨t, pq, pb, l1, l2, n, p, f, us, rs, bs, os, R, rfl, ht, hq, hP, hR, ul, hb, hbl, n1, n5, g1, g2, p0, p1, D, hf, hL, q⟩ := h
  have Rb : ∀ k ∈ R, 0 ≤ k ∧ k < n := fun k hk => rng_mem.mp (hL.sub k hk)
  have Rn : R.Nodup := hL.asc.imp fun h z => by omega
  have Rl : R.length ≤ 500 := by have := nd_le Rn hL.sub; rw [rng_len] at this; omega
  have hx1 : atI (bs.map V.int) p = some (V.int (blF bs p)) := atn (j := p.toNat) (by omega) (by
    rw [List.getElem?_map, List.getElem?_eq_getElem (by omega)]
    unfold blF
    rw [List.getD_eq_getElem?_getD, List.getElem?_eq_getElem (by omega)]; rfl)
  unfold t_law_papers
  walk_at "go"
  refine w_isT (t := "tuple") (b := true) (TyX.base (TyOf.tup ht)) (kit_ty (by decide +kernel)) ?_
  walk_at "go"
  refine ⟨t, _, rfl, .inr (SqT.of ht), ?_⟩
  walk_at "go"
  refine w_iteN (fun c => absurd rfl c) (fun _ => ?_)
  walk_at "go"
  refine ⟨pq, pb, l1, us, rs, bs, os, n, rfl, hq, hP, hR, ul, hb, hbl, n1, n5, g1, D, fun H2 e2 => ?_⟩
  have ht2 := e2 _ _ ht
  have hq2 := e2 _ _ hq
  have hb2 := e2 _ _ hb
  have g12 := e2 _ _ g1
  have g22 := e2 _ _ g2
  have hP2 := PRs.same e2 hP
  clear ht hq hb g1 g2 hP
  walk_at "go"
  refine ⟨l2, n, R, rfl, g22, hL.asc, Rb, ?_⟩
  walk_at "go"
  refine w_iteN (fun c => absurd hL.mem c) (fun _ => ?_)
  walk_at "go"
  refine w_iteD (fun _ => ?_) (fun c => absurd hf c)
  walk_at "go"
  refine ⟨pq, pb, l2, us, rs, bs, R, rfl, hq2, hP2, hb2, g22, fun k hk => (by have := Rb k hk; omega), Rl, fun H3 e3 => ?_⟩
  have hv : f = left bs rs R := hL.val.symm
  walk_at "go"
  rw [decide_eq_true hv]
  exact q _ (e2.trans e3)
end G

end
section
local macro_rules | `(tactic| walk_at "call") => `(tactic| first
  | (refine' G.w_anyI ?g1 ?_; (case g1 => walk_at "sq")) | refine' G.w_lcE ?_ | (refine' G.w_enumSq ?g1 ?_; (case g1 => walk_at "sq"))
  | (refine' G.w_neI2 ?g1 ?g2 ?_; (case g1 => walk_at "sq"); (case g2 => walk_at "sq")) | (refine' G.w_eqI2 ?g1 ?g2 ?_; (case g1 => walk_at "sq"); (case g2 => walk_at "sq")))

local macro_rules | `(tactic| walk_at "call") => `(tactic| first
  | refine' G.w_iteNT ?_ | refine' G.w_iteNF ?_ | refine' G.w_iteRf ?_ | refine' G.w_iteNRf ?_ | refine' G.w_tru ?_ | (refine' G.w_truL ?g1 ?_; (case g1 => walk_at "sq")) | refine' G.w_revL ?_ | (refine' G.w_revL2 ?g1 ?_; (case g1 => walk_at "sq"))
  | (refine' G.w_rep ?g1 ?g2 ?g3 ?g4 ?_; (case g1 => walk_at "hp"); (case g2 => walk_at "ar"); (case g3 => walk_at "ar"); (case g4 => walk_at "sz"))
  | refine' G.w_isNr ?_ | refine' G.w_notN ?_ | refine' G.w_isII ?_ | refine' G.w_isIB ?_ | refine' G.w_isBB ?_ | (refine' G.w_isLL ?g1 ?_; (case g1 => walk_at "hp")))

local macro_rules | `(tactic| walk_at "call") => `(tactic| refine' G.w_oIntB ?_)

local macro_rules | `(tactic| walk_at "sqt") => `(tactic| first | assumption | exact L2.SqT.of (by walk_at "hp"))
local macro_rules | `(tactic| walk_at "call") => `(tactic| first
  | (refine' G.w_inI ?g1 ?_; (case g1 => walk_at "sq")) | (refine' G.w_ninI ?g1 ?_; (case g1 => walk_at "sq")) | refine' G.w_forRev ?_ | refine' G.w_lstRg3 ?_ | (refine' G.w_bdR ?g1 ?g2 ?_; (case g1 => walk_at "ar"); (case g2 => walk_at "ar"))
  | (refine' G.w_max ?g1 ?g2 ?_; (case g1 => walk_at "sq"); (case g2 => walk_at "ar")) | (refine' G.w_min ?g1 ?g2 ?_; (case g1 => walk_at "sq"); (case g2 => walk_at "ar"))
  | (refine' G.w_sortI ?g1 ?_; (case g1 => walk_at "sq")) | (refine' GY.w_tupL ?g1 ?_; (case g1 => walk_at "sq")) | refine' GY.w_star ?_ | (refine' GY.w_starL ?g1 ?_; (case g1 => walk_at "sq")) | (refine' GY.w_listT ?g1 ?_; (case g1 => walk_at "sqt")))

local macro_rules | `(tactic| walk_at "call") => `(tactic| (refine' G.w_cnt ?g1 ?_; (case g1 => walk_at "sq")))

local macro_rules | `(tactic| walk_at "call") => `(tactic| (refine' G.w_popAt ?g1 ?g2 ?g3 ?g4 ?_; (case g1 => walk_at "hp"); (case g2 => walk_at "ar"); (case g3 => walk_at "ar"); (case g4 => walk_at "ar")))

local macro_rules | `(tactic| walk_at "call") => `(tactic| (refine' G.i_whole ?_))

local macro_rules | `(tactic| walk_at "call") => `(tactic| (refine' G.i_isint ?_))

namespace G
open PySem L2 GX
theorem bsum_nn {g : Int → Int} : ∀ {l : List Int}, (∀ k ∈ l, 0 ≤ g k) → 0 ≤ bsum g l
  | [], _ => Int.le_refl _
  | k :: l, h => by
    show 0 ≤ g k + bsum g l
    have := h k List.mem_cons_self
    have := bsum_nn (l := l) fun j hj => h j (List.mem_cons_of_mem _ hj)
    omega
theorem bsum_ge {g : Int → Int} {p : Int} : ∀ {l : List Int}, (∀ k ∈ l, 0 ≤ g k) → p ∈ l → g p ≤ bsum g l
  | [], _, h => nomatch h
  | k :: l, h, hp => by
    show g p ≤ g k + bsum g l
    have h0 := h k List.mem_cons_self
    have hl : ∀ j ∈ l, 0 ≤ g j := fun j hj => h j (List.mem_cons_of_mem _ hj)
    rcases List.mem_cons.mp hp with e | e
    · have := bsum_nn hl; rw [e]; omega
    · have := bsum_ge hl e; omega
theorem deal_least {n p f : Int} {rs : List (Int × Int)} {bs os : List Int} (D : DealP rs bs os) (hl : bs.length = n.toNat) {R : List Int} (nd : R.Nodup) (sub : ∀ k ∈ R, k ∈ rng n) (hp : p ∈ R) (hf : f = blF bs p - (os.count p : Int)) : f ≤ left bs rs R := by
  have a := countP_zip (R := R) D.len D.ends
  have b := bsum_count nd (os := os)
  have c : ∀ k ∈ R, 0 ≤ blF bs k - (os.count k : Int) := fun k hk => by
    have kb := rng_mem.mp (sub k hk)
    have h1 : k.toNat < bs.length := by omega
    have f := D.fit k.toNat _ (List.getElem?_eq_getElem h1)
    rw [show ((k.toNat : Nat) : Int) = k by omega] at f
    unfold blF
    rw [List.getD_eq_getElem?_getD, List.getElem?_eq_getElem h1]
    show 0 ≤ bs[k.toNat] - _
    omega
  have d := bsum_ge (g := fun k => blF bs k - (os.count k : Int)) c hp
  have e : bsum (blF bs) R = bsum (fun k => blF bs k - (os.count k : Int)) R + bsum (fun k => (os.count k : Int)) R := by
    rw [← bsum_add]; exact bsum_congr fun k _ => by omega
  unfold left
  rw [hf, e, b]
  have d : blF bs p - (os.count p : Int) ≤ bsum (fun k => blF bs k - (os.count k : Int)) R := d
  omega
theorem vals_in {n : Int} {rs : List (Int × Int)} {bs : List Int} {v : Int} : v ∈ vals n rs bs ↔ ∃ m, m < 2 ^ n.toNat ∧ v = left bs rs (mpages m n) := by
  unfold vals
  rw [List.mem_map]
  constructor
  · rintro ⟨m, hm, e⟩; exact ⟨m, List.mem_range.mp hm, e.symm⟩
  · rintro ⟨m, hm, e⟩; exact ⟨m, List.mem_range.mpr hm, e.symm⟩
theorem left_perm {R S : List Int} {rs : List (Int × Int)} {bs : List Int} (p : R.Perm S) : left bs rs R = left bs rs S := by unfold left; rw [bsum_perm p, wthn_perm p]
def sel (n p : Int) (rs : List (Int × Int)) (bs : List Int) (m : Nat) : List Int := ((List.range m).filter fun k => bitB k p).map fun k => left bs rs (mpages k n)
theorem sel_succ {n p : Int} {rs : List (Int × Int)} {bs : List Int} {m : Nat} : sel n p rs bs (m + 1) = sel n p rs bs m ++ if bitB m p = true then [left bs rs (mpages m n)] else [] := by
  unfold sel
  rw [List.range_succ, List.filter_append, List.map_append]
  congr 1
  by_cases c : bitB m p = true <;> simp [c]
theorem sel_len {n p : Int} {rs : List (Int × Int)} {bs : List Int} {m : Nat} : (sel n p rs bs m).length ≤ m := by
  unfold sel
  rw [List.length_map]
  exact Nat.le_trans (List.length_filter_le _ _) (by rw [List.length_range]; exact Nat.le_refl _)
theorem w_revB {H : Hp} {Q : VK} {p : Addr} {xs : List V} (h : H p = some (.lst xs)) (q : Q .non (upd H p (.lst xs.reverse))) : rReverse (.ref p) [] H Q := ⟨p, xs, rfl, rfl, h, q⟩
def sp_law_judged (K : PySem.W.Frag) (A : CA) : Sp := fun vs H Q _ => ∃ (st w pq pb : Addr) (n L p : Int) (us : List V) (rs : List (Int × Int)) (bs : List Int), vs = [.ref st, .int n, .ref pq, .ref pb, .int p] ∧ StAt A H st w n rs L bs ∧ BK L n.toNat bs ∧ 1 ≤ n ∧ n ≤ 500 ∧ RG n rs ∧ H pq = some (.lst us) ∧ Paired (PR H) us rs ∧ us.length ≤ 600 ∧ H pb = some (.lst (bs.map V.int)) ∧ 0 ≤ p ∧ p < n ∧
  ∀ H', Same H H' → Q (.bl true) H'
def t_law_judged (K : PySem.W.Frag) (A : CA) : TS :=
  (tSeq (tAsg (tLst tNil) (gName 5))
  (tSeq (tIfS (tTest (tOp oLe (tVar 1) (tC (.int 7)))) (tAsg (tCall (sp_law_values K A) [] E0 (tCons (tVar 1) (tCons (tVar 2) (tCons (tVar 3) tNil)))) (gName 5)) tNext)
  (tSeq (tAsg (tCall (sp_law_told K A) [] E0 (tCons (tVar 0) (tCons (tVar 4) tNil))) (gName 6))
  (tSeq (tIfS (tNot (tB (tOp (rIxT K) (tVar 6) (tC (.int 0))))) (tSeq (tIfS (tAnd (tTest (tOp oLe (tVar 1) (tC (.int 7)))) (tTest (tOp oGe (tCB (rMin K) (tCons (tVar 5) tNil)) (tC (.int 0))))) (tRet (tC (.bl false))) tNext)
  (tRet (tAndV (tOp (rIxT K) (tVar 6) (tC (.int 2))) (tAndV (tCall (sp_law_is_lot K A) [] E0 (tCons (tOp (rIxT K) (tVar 6) (tC (.int 1))) (tCons (tVar 1) tNil))) (tOp oLt (tCall (sp_law_left K A) [] E0 (tCons (tVar 2) (tCons (tVar 3) (tCons (tOp (rIxT K) (tVar 6) (tC (.int 1))) tNil)))) (tC (.int 0))))))) tNext)
  (tSeq (tIfS (tNot (tB (tCall (sp_law_papers K A) [] E0 (tCons (tOp (rIxT K) (tVar 6) (tC (.int 1))) (tCons (tVar 1) (tCons (tVar 2) (tCons (tVar 3) (tCons (tVar 4) tNil)))))))) (tRet (tC (.bl false))) tNext)
  (tSeq (tIfS (tTest (tOp oLe (tVar 1) (tC (.int 7)))) (tSeq (tAsg (tCB (rMin K) (tCons (tLc (iRng1 (tCons (tOp G.oShl1 (tC (.int 1)) (tVar 1)) tNil)) (gName 8) (tTruK K (tOp G.oOdd (tOp G.oShrN (tVar 8) (tVar 4)) (tC (.int 1)))) (tOp (rIxL K) (tVar 5) (tVar 8)) [8]) tNil)) (gName 7))
  (tIfS (tOr (tTest (tOp oLt (tCB (rMin K) (tCons (tVar 5) tNil)) (tC (.int 0)))) (tTest (tOp rNe (tOp (rIxT K) (tOp (rIxT K) (tVar 6) (tC (.int 1))) (tC (.int 0))) (tVar 7)))) (tRet (tC (.bl false))) tNext)) tNext)
  (tSeq (tDrop (tBM K "list" rAppend (tOp (rIxT K) (tOp (rIxT K) (tVar 6) (tC (.int 1))) (tC (.int 1))) (tCons (tVar 4) tNil)))
  (tSeq (tDrop (tBM0 K "list" rReverse (tOp (rIxT K) (tOp (rIxT K) (tVar 6) (tC (.int 1))) (tC (.int 2)))))
  (tSeq (tDrop (tBM K "list" rAppend (tOp (rIxT K) (tOp (rIxT K) (tVar 6) (tC (.int 1))) (tC (.int 2))) (tCons (tVar 4) tNil)))
  (tRet (tC (.bl true))))))))))))

theorem rd_law_judged {K : PySem.W.Frag} {A : CA} {vs : List V} {H : Hp} {Q : VK} {E : XK} (h : sp_law_judged K A vs H Q E) :
    t_law_judged K A { nx := fun _ H' => Q .non H', rt := Q } (start ["standing", "many", "pairs", "blank", "page", "values", "told", "least", "mask"] vs) H := by
  obtain ⟨st, w, pq, pb, n, L, p, us, rs, bs, rfl, hS, hB, n1, n5, hR, hq, hP, ul, hb, p0, p1, q⟩ := h
  have bl := hB.len
  have fin : ∀ (lv : Addr) (H1 : Hp) (VS : List Int), Same H H1 → H1 lv = some (.lst (VS.map V.int)) → (n ≤ 7 → VS = vals n rs bs) →
    (tSeq (tAsg (tCall (sp_law_told K A) [] E0 (tCons (tVar 0) (tCons (tVar 4) tNil))) (gName 6))
  (tSeq (tIfS (tNot (tB (tOp (rIxT K) (tVar 6) (tC (.int 0))))) (tSeq (tIfS (tAnd (tTest (tOp oLe (tVar 1) (tC (.int 7)))) (tTest (tOp oGe (tCB (rMin K) (tCons (tVar 5) tNil)) (tC (.int 0))))) (tRet (tC (.bl false))) tNext)
  (tRet (tAndV (tOp (rIxT K) (tVar 6) (tC (.int 2))) (tAndV (tCall (sp_law_is_lot K A) [] E0 (tCons (tOp (rIxT K) (tVar 6) (tC (.int 1))) (tCons (tVar 1) tNil))) (tOp oLt (tCall (sp_law_left K A) [] E0 (tCons (tVar 2) (tCons (tVar 3) (tCons (tOp (rIxT K) (tVar 6) (tC (.int 1))) tNil)))) (tC (.int 0))))))) tNext)
  (tSeq (tIfS (tNot (tB (tCall (sp_law_papers K A) [] E0 (tCons (tOp (rIxT K) (tVar 6) (tC (.int 1))) (tCons (tVar 1) (tCons (tVar 2) (tCons (tVar 3) (tCons (tVar 4) tNil)))))))) (tRet (tC (.bl false))) tNext)
  (tSeq (tIfS (tTest (tOp oLe (tVar 1) (tC (.int 7)))) (tSeq (tAsg (tCB (rMin K) (tCons (tLc (iRng1 (tCons (tOp G.oShl1 (tC (.int 1)) (tVar 1)) tNil)) (gName 8) (tTruK K (tOp G.oOdd (tOp G.oShrN (tVar 8) (tVar 4)) (tC (.int 1)))) (tOp (rIxL K) (tVar 5) (tVar 8)) [8]) tNil)) (gName 7))
  (tIfS (tOr (tTest (tOp oLt (tCB (rMin K) (tCons (tVar 5) tNil)) (tC (.int 0)))) (tTest (tOp rNe (tOp (rIxT K) (tOp (rIxT K) (tVar 6) (tC (.int 1))) (tC (.int 0))) (tVar 7)))) (tRet (tC (.bl false))) tNext)) tNext)
  (tSeq (tDrop (tBM K "list" rAppend (tOp (rIxT K) (tOp (rIxT K) (tVar 6) (tC (.int 1))) (tC (.int 1))) (tCons (tVar 4) tNil)))
  (tSeq (tDrop (tBM0 K "list" rReverse (tOp (rIxT K) (tOp (rIxT K) (tVar 6) (tC (.int 1))) (tC (.int 2)))))
  (tSeq (tDrop (tBM K "list" rAppend (tOp (rIxT K) (tOp (rIxT K) (tVar 6) (tC (.int 1))) (tC (.int 2))) (tCons (tVar 4) tNil)))
  (tRet (tC (.bl true)))))))))) { nx := fun _ H' => Q .non H', rt := Q } [some (.ref st), some (.int n), some (.ref pq), some (.ref pb), some (.int p), some (.ref lv), none, none, none] H1 := by
    intro lv H1 VS e1 gv hVS
    walk_at "go"
    refine ⟨st, w, n, L, p, rs, bs, rfl, hS.same e1, hB, n1, n5, hR, p0, p1, fun os R f t t2 l1 l2 H2 e2 hl1 hl2 nl gt gt2 g1 g2 D hf hL => ?_, fun R t l H2 e2 hl gt gl hL => ?_⟩
    · have E2 := e1.trans e2
      have osl : os.length ≤ 600 := by have := D.len; have := hP.length; omega
      have Rn : R.Nodup := hL.asc.imp fun h z => by omega
      have Rl : R.length ≤ 500 := by have := nd_le Rn hL.sub; rw [rng_len] at this; omega
      have tail : ∀ (H4 : Hp) (k7 k8 : Option V), Same H2 H4 → (tSeq (tDrop (tBM K "list" rAppend (tOp (rIxT K) (tOp (rIxT K) (tVar 6) (tC (.int 1))) (tC (.int 1))) (tCons (tVar 4) tNil)))
          (tSeq (tDrop (tBM0 K "list" rReverse (tOp (rIxT K) (tOp (rIxT K) (tVar 6) (tC (.int 1))) (tC (.int 2)))))
          (tSeq (tDrop (tBM K "list" rAppend (tOp (rIxT K) (tOp (rIxT K) (tVar 6) (tC (.int 1))) (tC (.int 2))) (tCons (tVar 4) tNil)))
          (tRet (tC (.bl true)))))) { nx := fun _ H' => Q .non H', rt := Q } [some (.ref st), some (.int n), some (.ref pq), some (.ref pb), some (.int p), some (.ref lv), some (.ref t), k7, k8] H4 := by
        intro H4 k7 k8 e4
        have E4 := E2.trans e4
        have a1 := e4 _ _ gt
        have a2 := e4 _ _ gt2
        have a3 := e4 _ _ g1
        have a4 := e4 _ _ g2
        have n1' : t ≠ l1 := ne_of a1 a3 (by intro z; cases z)
        have n2' : t2 ≠ l1 := ne_of a2 a3 (by intro z; cases z)
        have n3' : t ≠ l2 := ne_of a1 a4 (by intro z; cases z)
        have n4' : t2 ≠ l2 := ne_of a2 a4 (by intro z; cases z)
        walk_at "go"
        have b1 := keepNe (o' := .lst (os.map V.int ++ [V.int p])) a1 n1'
        have b2 := keepNe (o' := .lst (os.map V.int ++ [V.int p])) a2 n2'
        have b4 := keepNe (o' := .lst (os.map V.int ++ [V.int p])) a4 nl.symm
        have E5 := same_mut (o := .lst (os.map V.int ++ [V.int p])) E4 (e1.free hl1)
        generalize upd H4 l1 (.lst (os.map V.int ++ [V.int p])) = H5 at b1 b2 b4 E5
        clear a1 a2 a3 a4 E4 e4
        walk_at "go"
        refine w_revB b4 ?_
        have c1 := keepNe (o' := .lst (R.map V.int).reverse) b1 n3'
        have c2 := keepNe (o' := .lst (R.map V.int).reverse) b2 n4'
        have c4 : (upd H5 l2 (.lst (R.map V.int).reverse)) l2 = some (.lst (R.map V.int).reverse) := upd_same
        have E6 := same_mut (o := .lst (R.map V.int).reverse) E5 (e1.free hl2)
        generalize upd H5 l2 (.lst (R.map V.int).reverse) = H6 at c1 c2 c4 E6
        clear b1 b2 b4 E5
        walk_at "go"
        refine w_append c4 (by rw [List.length_reverse, List.length_map, sizeLine_eq]; omega) ?_
        walk_at "go"
        exact q _ (same_mut E6 (e1.free hl2))
      walk_at "go"
      refine ⟨t2, pq, pb, l1, l2, n, p, f, us, rs, bs, os, R, rfl, gt2, E2 _ _ hq, PRs.same E2 hP, hR, ul, E2 _ _ hb, bl, n1, n5, g1, g2, p0, p1, D, hf, hL, fun H3 e3 => ?_⟩
      have gt3 := e3 _ _ gt
      have gt23 := e3 _ _ gt2
      have gv3 := e3 _ _ (e2 _ _ gv)
      walk_at "go"
      refine w_iteD (fun c => ?_) (fun c => ?_)
      · have hV := hVS c
        subst hV
        obtain ⟨N, hN⟩ : ∃ N, N = 2 ^ n.toNat := ⟨_, rfl⟩
        have e7 : (2 : Int) ^ n.toNat = (N : Int) := by rw [hN, Int.natCast_pow]; rfl
        have p7 : N ≤ 128 := by rw [hN]; exact Nat.pow_le_pow_right (n := 2) (by decide) (show n.toNat ≤ 7 by omega)
        walk_at "go"
        refine ⟨n.toNat, rfl, by congr 1; omega, by omega, ?_⟩
        rw [e7]
        walk_at "go"
        refine lcR (fun Dl m H' => Same H3 H' ∧ H' Dl = some (.lst ((sel n p rs bs m).map V.int))) (fun Dl hD => ⟨same_new hD, upd_same⟩) ?_ ?_
        · rintro Dl m H4 hD hm ⟨e4, gD⟩
          have gv4 := e4 _ _ gv3
          have hx1 : atI ((vals n rs bs).map V.int) (0 + (m : Int)) = some (V.int (left bs rs (mpages m n))) := atn (j := m) (by omega) (by rw [List.getElem?_map, vals_get (by omega)]; rfl)
          walk_at "go"
          refine w_bit (m := m) (by omega) p0 ?_
          refine w_iteB (fun cb => ?_) (fun cb => ?_)
          · walk_at "go"
            refine ⟨_, gD, (by rw [List.length_map, sizeLine_eq]; have := sel_len (n := n) (p := p) (rs := rs) (bs := bs) (m := m); omega), same_mut e4 hD, ?_⟩
            rw [upd_same, sel_succ, if_pos cb, List.map_append]; rfl
          · exact ⟨e4, by rw [sel_succ, if_neg (by rw [cb]; exact Bool.false_ne_true), List.append_nil]; exact gD⟩
        · rintro Dl H4 hD ⟨e4, gD⟩
          rw [Int.toNat_natCast] at gD
          have gv4 := e4 _ _ gv3
          have gt4 := e4 _ _ gt3
          have gt24 := e4 _ _ gt23
          have E4 := (E2.trans e3).trans e4
          obtain ⟨m, hm, pm⟩ := mask_of Rn hL.sub
          have fl : f = left bs rs R := hL.val.symm
          have mb : bitB m p = true := (bit_page p0 p1).mp (pm.mem_iff.mpr hL.mem)
          have fin' : f ∈ sel n p rs bs N := by
            unfold sel
            refine List.mem_map.mpr ⟨m, List.mem_filter.mpr ⟨List.mem_range.mpr (by rw [hN]; exact hm), mb⟩, ?_⟩
            rw [fl]; exact left_perm pm
          walk_at "go"
          refine w_min (SqL.of gD) (by cases hs : sel n p rs bs N with
            | nil => rw [hs] at fin'; cases fin'
            | cons _ _ => simp) fun mn hm1 hm2 => ?_
          have feq : f = mn := by
            have a := hm2 _ fin'
            unfold sel at hm1
            obtain ⟨k, hk, e⟩ := List.mem_map.mp hm1
            obtain ⟨k1, k2⟩ := List.mem_filter.mp hk
            have := deal_least D bl (mpages_nd (m := k) (n := n)) mpages_sub ((bit_page p0 p1).mpr k2) hf
            omega
          walk_at "go"
          have vne : vals n rs bs ≠ [] := by
            intro z
            have : left bs rs (mpages m n) ∈ vals n rs bs := vals_in.mpr ⟨m, hm, rfl⟩
            rw [z] at this; cases this
          refine w_min (SqL.of gv4) (by cases hs : vals n rs bs with
            | nil => exact absurd hs vne
            | cons _ _ => simp) fun mv hv1 hv2 => ?_
          have vpos : ¬ mv < 0 := by
            obtain ⟨k, hk, e⟩ := vals_in.mp hv1
            have := deal_lot D bl (mpages_nd (m := k) (n := n)) mpages_sub
            rw [e]
            unfold left
            omega
          walk_at "go"
          refine w_iteD (fun c => absurd c vpos) (fun _ => ?_)
          walk_at "go"
          refine w_iteN (fun c => absurd feq c) (fun _ => ?_)
          refine w_next ?_
          exact tail _ _ _ (e3.trans e4)
      · refine w_next ?_
        exact tail _ _ _ e3
    · have E2 := e1.trans e2
      have Rn : R.Nodup := hL.asc.imp fun h z => by omega
      have lneg : left bs rs R < 0 := by have := hL.short; unfold left; omega
      have hq2 := E2 _ _ hq
      have hb2 := E2 _ _ hb
      have hv2 := e2 _ _ gv
      have Rb : ∀ k ∈ R, 0 ≤ k ∧ k < n := fun k hk => rng_mem.mp (hL.sub k hk)
      have Rl : R.length ≤ 500 := by have := nd_le Rn hL.sub; rw [rng_len] at this; omega
      have tail : ∀ D' : Ends, D'.rt = Q → (tRet (tAndV (tOp (rIxT K) (tVar 6) (tC (.int 2))) (tAndV (tCall (sp_law_is_lot K A) [] E0 (tCons (tOp (rIxT K) (tVar 6) (tC (.int 1))) (tCons (tVar 1) tNil))) (tOp oLt (tCall (sp_law_left K A) [] E0 (tCons (tVar 2) (tCons (tVar 3) (tCons (tOp (rIxT K) (tVar 6) (tC (.int 1))) tNil)))) (tC (.int 0)))))) D' [some (.ref st), some (.int n), some (.ref pq), some (.ref pb), some (.int p), some (.ref lv), some (.ref t), none, none] H2 := by
        rintro D' hD'
        walk_at "go"
        refine ⟨l, n, R, rfl, gl, hL.asc, Rb, ?_⟩
        walk_at "go"
        refine ⟨pq, pb, l, us, rs, bs, R, rfl, hq2, PRs.same E2 hP, hb2, gl, fun k hk => (by have := Rb k hk; omega), Rl, fun H3 e3 => ?_⟩
        walk_at "go"
        rw [hD', decide_eq_true lneg]
        exact q _ (E2.trans e3)
      clear hS
      walk_at "go"
      refine w_iteD (fun c => ?_) (fun c => ?_)
      · have hV := hVS c
        obtain ⟨m, hm, pm⟩ := mask_of Rn hL.sub
        have vin : left bs rs R ∈ VS := by rw [hV]; exact vals_in.mpr ⟨m, hm, left_perm pm.symm⟩
        walk_at "go"
        refine w_min (SqL.of hv2) (by cases VS with
          | nil => cases vin
          | cons _ _ => simp) fun mn hm1 hm2 => ?_
        have mneg : ¬ 0 ≤ mn := by have := hm2 _ vin; omega
        walk_at "go"
        refine w_iteD (fun c => absurd c mneg) (fun _ => ?_)
        refine w_next ?_
        exact tail _ rfl
      · refine w_iteF ?_
        refine w_next ?_
        exact tail _ rfl
  unfold t_law_judged
  walk_at "go"
  intro lv0 hlv0
  have e0 := same_new (o := .lst []) hlv0
  have g0 : (upd H lv0 (.lst [])) lv0 = some (.lst (([] : List Int).map V.int)) := upd_same
  generalize upd H lv0 (.lst []) = H0 at e0 g0
  walk_at "go"
  refine w_iteD (fun c => ?_) (fun c => ?_)
  · walk_at "go"
    refine ⟨pq, pb, n, us, rs, bs, rfl, e0 _ _ hq, PRs.same e0 hP, hR, e0 _ _ hb, bl, n1, c, fun l H1 e1 hl gl => ?_⟩
    exact fin l H1 _ (e0.trans e1) gl fun _ => rfl
  · refine w_next ?_
    exact fin lv0 H0 [] e0 g0 fun z => absurd z c
end G

end
section
local macro_rules | `(tactic| walk_at "call") => `(tactic| first
  | (refine' G.w_anyI ?g1 ?_; (case g1 => walk_at "sq")) | refine' G.w_lcE ?_ | (refine' G.w_enumSq ?g1 ?_; (case g1 => walk_at "sq"))
  | (refine' G.w_neI2 ?g1 ?g2 ?_; (case g1 => walk_at "sq"); (case g2 => walk_at "sq")) | (refine' G.w_eqI2 ?g1 ?g2 ?_; (case g1 => walk_at "sq"); (case g2 => walk_at "sq")))

local macro_rules | `(tactic| walk_at "call") => `(tactic| first
  | refine' G.w_iteNT ?_ | refine' G.w_iteNF ?_ | refine' G.w_iteRf ?_ | refine' G.w_iteNRf ?_ | refine' G.w_tru ?_ | (refine' G.w_truL ?g1 ?_; (case g1 => walk_at "sq")) | refine' G.w_revL ?_ | (refine' G.w_revL2 ?g1 ?_; (case g1 => walk_at "sq"))
  | (refine' G.w_rep ?g1 ?g2 ?g3 ?g4 ?_; (case g1 => walk_at "hp"); (case g2 => walk_at "ar"); (case g3 => walk_at "ar"); (case g4 => walk_at "sz"))
  | refine' G.w_isNr ?_ | refine' G.w_notN ?_ | refine' G.w_isII ?_ | refine' G.w_isIB ?_ | refine' G.w_isBB ?_ | (refine' G.w_isLL ?g1 ?_; (case g1 => walk_at "hp")))

local macro_rules | `(tactic| walk_at "call") => `(tactic| refine' G.w_oIntB ?_)

local macro_rules | `(tactic| walk_at "sqt") => `(tactic| first | assumption | exact L2.SqT.of (by walk_at "hp"))
local macro_rules | `(tactic| walk_at "call") => `(tactic| first
  | (refine' G.w_inI ?g1 ?_; (case g1 => walk_at "sq")) | (refine' G.w_ninI ?g1 ?_; (case g1 => walk_at "sq")) | refine' G.w_forRev ?_ | refine' G.w_lstRg3 ?_ | (refine' G.w_bdR ?g1 ?g2 ?_; (case g1 => walk_at "ar"); (case g2 => walk_at "ar"))
  | (refine' G.w_max ?g1 ?g2 ?_; (case g1 => walk_at "sq"); (case g2 => walk_at "ar")) | (refine' G.w_min ?g1 ?g2 ?_; (case g1 => walk_at "sq"); (case g2 => walk_at "ar"))
  | (refine' G.w_sortI ?g1 ?_; (case g1 => walk_at "sq")) | (refine' GY.w_tupL ?g1 ?_; (case g1 => walk_at "sq")) | refine' GY.w_star ?_ | (refine' GY.w_starL ?g1 ?_; (case g1 => walk_at "sq")) | (refine' GY.w_listT ?g1 ?_; (case g1 => walk_at "sqt")))

local macro_rules | `(tactic| walk_at "call") => `(tactic| (refine' G.w_cnt ?g1 ?_; (case g1 => walk_at "sq")))

local macro_rules | `(tactic| walk_at "call") => `(tactic| (refine' G.w_popAt ?g1 ?g2 ?g3 ?g4 ?_; (case g1 => walk_at "hp"); (case g2 => walk_at "ar"); (case g3 => walk_at "ar"); (case g4 => walk_at "ar")))

local macro_rules | `(tactic| walk_at "call") => `(tactic| (refine' G.i_whole ?_))

local macro_rules | `(tactic| walk_at "call") => `(tactic| (refine' G.i_take ?g1 ?g2 ?g3 ?_; (case g1 => walk_at "src"); (case g2 => walk_at "ar"); (case g3 => walk_at "ar")))
local macro_rules | `(tactic| walk_at "call") => `(tactic| (refine' G.i_source ?_))
local macro_rules | `(tactic| walk_at "call") => `(tactic| (refine' G.i_cell ?g1 ?g2 ?g3 ?_; (case g1 => walk_at "sq"); (case g2 => walk_at "ar"); (case g3 => walk_at "ar")))

local macro_rules | `(tactic| walk_at "call") => `(tactic| (refine' G.i_isint ?_))

namespace G
open PySem L2 GX
def sp_law (K : PySem.W.Frag) (A : CA) : Sp := fun vs H Q _ => ∃ (a : Addr) (ns : List Int), vs = [.ref a] ∧ SqL K H a (ns.map V.int) ∧ ns.length ≤ 63 ∧ ∀ (H' : Hp), Q (.bl true) H'
theorem i_stand {K : PySem.W.Frag} {A : CA} {H : Hp} {Q : VK} {E : XK} {st dx w pb : Addr} {n L : Int} {rs : List (Int × Int)} {bs : List Int} (hx : H st = none) (hdx : H dx = none) (nx : dx ≠ st) (hW : WebX A H w n rs) (n1 : 1 ≤ n) (n2 : n ≤ 500) (hb : H pb = some (.lst (bs.map V.int))) (hB : BK L n.toNat bs)
    (q : ∀ H', Same H H' → StAt A H' st w n rs L bs → Q .non H') : sp_Standing_init K A [.ref st, .ref w, .int L, .ref pb] (upd (upd H dx (.own st)) st (.ins A.Standing dx [])) Q E := by
  refine ⟨H, st, dx, w, pb, n, L, rs, bs, rfl, rfl, hx, hdx, nx, hW, n1, n2, hb, by rw [hB.len]; omega, fun z => absurd hB.len z, fun _ k ⟨b, hk, hb, _⟩ => ?_, fun _ H' _ e hS => q H' e hS⟩
  have := hB.bd b (List.mem_of_getElem? hk)
  omega
def t_law (K : PySem.W.Frag) (A : CA) : TS :=
  (tSeq (tAsg (tCall (sp_law_world K A) [] E0 (tCons (tVar 0) (tCons (tC (.int 11)) tNil))) (gName 1))
  (tSeq (tAsg (tOp (rIxT K) (tVar 1) (tC (.int 0))) (gName 2))
  (tSeq (tAsg (tCB (rSortedPO K) (tCons (tOp (rIxT K) (tVar 1) (tC (.int 1))) tNil)) (gName 3))
  (tSeq (tAsg (tCall (sp_law_owners K A) [] E0 (tCons (tCall (sp_law_source K A) [] E0 (tCons (tCall (sp_law_cell K A) [] E0 (tCons (tVar 0) (tCons (tC (.int 5)) tNil))) tNil)) (tCons (tVar 3) tNil))) (gName 4))
  (tSeq (tAsg (tCall (sp_law_source K A) [] E0 (tCons (tCall (sp_law_cell K A) [] E0 (tCons (tVar 0) (tCons (tC (.int 6)) tNil))) tNil)) (gName 5))
  (tSeq (tAsg (tCall (sp_law_table K A) [] E0 (tCons (tVar 5) (tCons (tVar 2) (tCons (tVar 4) tNil)))) (gName 6))
  (tSeq (tAsg (tOp (rIxT K) (tVar 6) (tC (.int 0))) (gName 7))
  (tSeq (tAsg (tOp (rIxT K) (tVar 6) (tC (.int 1))) (gName 8))
  (tSeq (tAsg (tCall (sp_law_near K A) [] E0 (tCons (tVar 5) (tCons (tVar 7) (tCons (tVar 8) tNil)))) (gName 9))
  (tSeq (tAsg (tCall (sp_law_source K A) [] E0 (tCons (tCall (sp_law_cell K A) [] E0 (tCons (tVar 0) (tCons (tC (.int 7)) tNil))) tNil)) (gName 5))
  (tSeq (tAsg (tLc (iRng1 (tCons (tC (.int 3)) tNil)) (gName 11) tYes (tCall (sp_law_take K A) [] E0 (tCons (tVar 5) (tCons (tVar 2) tNil))) [11]) (gName 10))
  (tSeq (tAsg (tOp oAdd (tVar 2) (tCall (sp_law_take K A) [] E0 (tCons (tVar 5) (tCons (tC (.int 3)) tNil)))) (gName 12))
  (C8.tCut (tIfS (tTest (tOp rEq (tCall (sp_law_take K A) [] E0 (tCons (tVar 5) (tCons (tC (.int 2)) tNil))) (tC (.int 0)))) (tAsg (tOp oSub (tUn oNeg (tC (.int 1))) (tCall (sp_law_take K A) [] E0 (tCons (tVar 5) (tCons (tVar 2) tNil)))) (gName 12)) tNext)
  (tSeq (tAsg (tMake A.Web (sp_Web_init K A) [] E0 (tCons (tVar 2) (tCons (tCB (oListOf K) (tCons (tOp (rIxT K) (tVar 1) (tC (.int 1))) tNil)) tNil))) (gName 13))
  (tSeq (tAsg (tMake A.Standing (sp_Standing_init K A) [] E0 (tCons (tVar 13) (tCons (tVar 7) (tCons (tCB (oListOf K) (tCons (tVar 8) tNil)) tNil)))) (gName 14))
  (tSeq (tAsg (tMake A.Standing (sp_Standing_init K A) [] E0 (tCons (tVar 13) (tCons (tVar 7) (tCons (tCB (oListOf K) (tCons (tVar 9) tNil)) tNil)))) (gName 15))
  (tSeq (tFor (iList K (tVar 10)) (gName 16)
  (tIfS (tNot (tB (tCall (sp_law_judged K A) [] E0 (tCons (tVar 14) (tCons (tVar 2) (tCons (tVar 3) (tCons (tVar 8) (tCons (tVar 16) tNil)))))))) (tRet (tC (.bl false))) tNext))
  (tSeq (tIfS (tNot (tB (tCall (sp_law_judged K A) [] E0 (tCons (tVar 15) (tCons (tVar 2) (tCons (tVar 3) (tCons (tVar 9) (tCons (tOp (rIxL K) (tVar 10) (tC (.int 0))) tNil)))))))) (tRet (tC (.bl false))) tNext)
  (tSeq (tIfS (tNot (tB (tCall (sp_law_judged K A) [] E0 (tCons (tVar 14) (tCons (tVar 2) (tCons (tVar 3) (tCons (tVar 8) (tCons (tOp (rIxL K) (tVar 10) (tC (.int 0))) tNil)))))))) (tRet (tC (.bl false))) tNext)
  (tSeq (tIfS (tOr (tNot (tB (tCall (sp_law_refused K A) [] E0 (tCons (tVar 14) (tCons (tVar 12) tNil))))) (tNot (tB (tCall (sp_law_refused K A) [] E0 (tCons (tVar 15) (tCons (tVar 12) tNil)))))) (tRet (tC (.bl false))) tNext)
  (tRet (tAndV (tOp (rEqD K) (tMeth A.Standing "blanks" (sp_Standing_blanks K A) [] E0 (tVar 14) tNil) (tVar 8)) (tAndV (tOp (rEqD K) (tMeth A.Standing "blanks" (sp_Standing_blanks K A) [] E0 (tVar 15) tNil) (tVar 9)) (tOp (rEqD K) (tMeth A.Web "arrows" (sp_Web_arrows K A) [] E0 (tVar 13) tNil) (tVar 3)))))))))))))))))))))))))

theorem rd_law {K : PySem.W.Frag} {A : CA} {vs : List V} {H : Hp} {Q : VK} {E : XK} (h : sp_law K A vs H Q E) :
    t_law K A { nx := fun _ H' => Q .non H', rt := Q } (start ["script", "world", "many", "pairs", "owners", "source", "table", "lines", "blank", "near", "asked", "k", "stranger", "web", "first", "second", "page"] vs) H := by
  obtain ⟨a, ns, rfl, hs, h63, q⟩ := h
  unfold t_law
  walk_at "go"
  refine ⟨a, 11, ns, rfl, hs, h63, by decide, by decide, fun many shape rows us names parents t pl np pp H1 e1 ft fpl fnp fpp ht m1 m2 hR hul hpl hP _ _ _ => ?_⟩
  have hlen := hP.length
  walk_at "go"
  refine w_sortP hpl hP fun rs ys ps hS fps hyl hyP => ?_
  have hys := hyP.length
  have E2 := e1.trans (same_new (o := .lst ys) fps)
  have ht2 := keep (o' := .lst ys) ht fps
  have hpl2 := keep (o' := .lst ys) hpl fps
  have hP2 := PRs.new (o := .lst ys) fps hP
  have hyP2 := PRs.new (o := .lst ys) fps hyP
  have hps2 : (upd H1 ps (.lst ys)) ps = some (.lst ys) := upd_same
  have hRs := hS.rg hR
  generalize upd H1 ps (.lst ys) = H2 at E2 ht2 hpl2 hP2 hyP2 hps2
  walk_at "go"
  intro c5 H3 e3
  have E3 := E2.trans e3
  walk_at "go"
  intro s5 H4 f5 e4 src5
  have E4 := E3.trans e4
  have hps4 := e4 _ _ (e3 _ _ hps2)
  have hP4 := PRs.same e4 (PRs.same e3 hyP2)
  have n5 : ps ≠ s5 := ne_of_none (e3 _ _ hps2) f5
  walk_at "go"
  refine ⟨s5, ps, rs, ys, many, rfl, src5, hps4, n5, hP4, hRs, by omega, fun os po H5 hol hob fpo b5 src5' ho5 => ?_⟩
  have f5' := E3.free f5
  have E5 := same_but E4 f5' b5
  have K5 : Same H2 H5 := fun c o h => b5 c o (ne_of_none (e3 _ _ h) f5) (e4 _ _ (e3 _ _ h))
  walk_at "go"
  intro c6 H6 e6
  have E6 := E5.trans e6
  walk_at "go"
  intro s6 H7 f6 e7 src6
  have E7 := E6.trans e7
  have ho7 := e7 _ _ (e6 _ _ ho5)
  have no6 : po ≠ s6 := ne_of_none (e6 _ _ ho5) f6
  walk_at "go"
  refine ⟨s6, po, many, os, rfl, src6, ho7, no6, m1, by omega, hob, fun lines bs tt pb H8 l0 hB ftt fpb b8 src8 htt hpb => ?_⟩
  have K8 : Same H2 H8 := fun c o h => b8 c o (ne_of_none (e6 _ _ (K5 _ _ h)) f6) (e7 _ _ (e6 _ _ (K5 _ _ h)))
  have s68 : ∀ {c : Addr}, H7 c = none → c ≠ s6 := fun h => src6.neFree h
  walk_at "go"
  refine ⟨s6, pb, lines, many.toNat, bs, rfl, src8, hpb, hB, by omega, by omega, fun nb pn H9 hN fpn b9 src9 hpn => ?_⟩
  have K9 : Same H2 H9 := fun c o h => b9 c o (ne_of_none (e6 _ _ (K5 _ _ h)) f6) (K8 _ _ h)
  have hpb9 := b9.at (s68 fpb) hpb
  have ht9 := K9 _ _ ht2
  have hpl9 := K9 _ _ hpl2
  have hP9 := PRs.same K9 hP2
  have hps9 := K9 _ _ hps2
  have hyP9 := PRs.same K9 hyP2
  clear b5 b8 src5 src6 src8 src5' hP hyP hP2 hyP2 hP4
  walk_at "go"
  intro c7 Ha ea
  walk_at "go"
  intro s7 Hb f7 eb src7
  have KX : ∀ {H' : Hp}, But s7 Hb H' → Same H9 H' := fun b c o h => b c o (ne_of_none (ea _ _ h) f7) (eb _ _ (ea _ _ h))
  walk_at "go"
  refine lcR (fun Dl i H' => But s7 Hb H' ∧ Src H' s7 ∧ ∃ zs : List Int, H' Dl = some (.lst (zs.map V.int)) ∧ zs.length = i ∧ ∀ z ∈ zs, 0 ≤ z ∧ z < many) (fun Dl hD => ⟨But.refl.new hD, src7.new hD, [], upd_same, rfl, fun _ h => by cases h⟩) ?_ ?_
  · rintro Dl i H1 hD hi ⟨b, s1, zs, hz, hzl, hzb⟩
    have nD : Dl ≠ s7 := src7.neFree hD
    walk_at "go"
    intro r H2 r0 r1 b2 s2
    have hz2 := b2.at nD hz
    walk_at "go"
    refine ⟨(b.trans b2).mut hD, s2.mut nD, zs ++ [r], ?_, by simp [hzl], fun z hm => ?_⟩
    · rw [← snocI]; exact upd_same
    · rcases List.mem_append.mp hm with k | k
      · exact hzb z k
      · have := List.mem_singleton.mp k; omega
  rintro Da Hc hDa ⟨bc, srcc, zs, hzc, hzl, hzb⟩
  have nDa : Da ≠ s7 := src7.neFree hDa
  walk_at "go"
  intro r1 Hd r10 r11 bd srcd
  have hzd := bd.at nDa hzc
  have Bd := bc.trans bd
  walk_at "go"
  show C8.tCut _ _ _ _ _
  refine w_cut (fun σ H' => ∃ (sv : Int) (k11 : Option V), σ = [some (.ref a), some (.ref t), some (.int many), some (.ref ps), some (.ref po), some (.ref s7), some (.ref tt), some (.int lines), some (.ref pb), some (.ref pn), some (.ref Da), k11, some (.int sv), none, none, none, none] ∧ (sv < 0 ∨ many ≤ sv) ∧ But s7 Hb H' ∧ H' Da = some (.lst (zs.map V.int))) ?_ ?_
  · walk_at "go"
    intro r2 He r20 r21 be srce
    have hze := be.at nDa hzd
    have Be := Bd.trans be
    walk_at "go"
    refine w_iteD (fun c => ?_) (fun c => ?_)
    · walk_at "go"
      intro r3 Hg r30 r31 bg srcg
      walk_at "go"
      exact ⟨_, _, rfl, .inl (by omega), Be.trans bg, bg.at nDa hze⟩
    · walk_at "go"
      exact ⟨_, _, rfl, .inr (by omega), Be, hze⟩
  clear bc bd srcd srcc src7 Bd hzc hzd
  rintro σ H10 ⟨sv, k11, rfl, out, b10, hz10⟩
  have K10 := KX b10
  have ht10 := K10 _ _ ht9
  have hpl10 := K10 _ _ hpl9
  have hP10 := PRs.same K10 hP9
  have hps10 := K10 _ _ hps9
  have hyP10 := PRs.same K10 hyP9
  have hpb10 := K10 _ _ hpb9
  have hpn10 := K10 _ _ hpn
  clear KX b10 K10 b9 src9
  walk_at "go"
  intro pc hpc
  have hPc := PRs.new (o := .lst us) hpc hP10
  have gpc : (upd H10 pc (.lst us)) pc = some (.lst us) := upd_same
  have ec := same_new (o := .lst us) hpc
  generalize upd H10 pc (.lst us) = H11 at hPc gpc ec
  walk_at "go"
  intro w dx fw fdx ndx
  refine i_web fw fdx ndx gpc hPc (by omega) m1 (by omega) hR fun rs' H14 hS' hR' e14 hW _ => ⟨rfl, ?_⟩
  have ers : rs' = rs := hS'.uniq hS
  subst ers
  have K14 : Same H10 H14 := ec.trans e14
  have hpb14 := K14 _ _ hpb10
  walk_at "go"
  intro lc1 hlc1
  have el1 := same_new (o := .lst (bs.map V.int)) hlc1
  have gl1 : (upd H14 lc1 (.lst (bs.map V.int))) lc1 = some (.lst (bs.map V.int)) := upd_same
  generalize upd H14 lc1 (.lst (bs.map V.int)) = H15 at el1 gl1
  walk_at "go"
  intro st1 dx1 fst1 fdx1 ndx1
  refine i_stand fst1 fdx1 ndx1 (hW.same el1) m1 (by omega) gl1 hB fun H16 e16 hS1 => ⟨rfl, ?_⟩
  have K16 := (K14.trans el1).trans e16
  have hpn16 := K16 _ _ hpn10
  walk_at "go"
  intro lc2 hlc2
  have el2 := same_new (o := .lst (nb.map V.int)) hlc2
  have gl2 : (upd H16 lc2 (.lst (nb.map V.int))) lc2 = some (.lst (nb.map V.int)) := upd_same
  generalize upd H16 lc2 (.lst (nb.map V.int)) = H17 at el2 gl2
  walk_at "go"
  intro st2 dx2 fst2 fdx2 ndx2
  refine i_stand fst2 fdx2 ndx2 (hS1.web.same el2) m1 (by omega) gl2 hN fun H18 e18 hS2 => ⟨rfl, ?_⟩
  have K18 := (K16.trans el2).trans e18
  have hS1' := (hS1.same el2).same e18
  have hps18 := K18 _ _ hps10
  have hyP18 := PRs.same K18 hyP10
  have hpb18 := K18 _ _ hpb10
  have hpn18 := K18 _ _ hpn10
  have hz18 := K18 _ _ hz10
  clear K14 K16 el1 el2 e14 e16 e18 ec hPc hP9 hyP9 hP10 hyP10
  walk_at "go"
  refine forL (xs := zs.map V.int) (fun i σ H' => ∃ (k16 : Option V), σ = [some (.ref a), some (.ref t), some (.int many), some (.ref ps), some (.ref po), some (.ref s7), some (.ref tt), some (.int lines), some (.ref pb), some (.ref pn), some (.ref Da), k11, some (.int sv), some (.ref w), some (.ref st1), some (.ref st2), k16] ∧ Same H18 H') ?_ ?_ ?_ ?_
  · exact ⟨none, rfl, Same.refl _⟩
  · rintro i σ H19 _ ⟨k16, rfl, e⟩
    exact SqL.of (e _ _ hz18)
  · rintro i x σ H19 hx ⟨k16, rfl, e⟩
    obtain ⟨z, hz, rfl⟩ : ∃ z, zs[i]? = some z ∧ V.int z = x := by
      rw [List.getElem?_map] at hx
      cases hs : zs[i]? with
      | none => rw [hs] at hx; cases hx
      | some z => rw [hs] at hx; exact ⟨z, rfl, Option.some.inj hx⟩
    have zb := hzb z (List.mem_of_getElem? hz)
    walk_at "go"
    refine ⟨st1, w, ps, pb, many, lines, z, ys, rs', bs, rfl, hS1'.same e, hB, m1, by omega, hRs, e _ _ hps18, PRs.same e hyP18, by omega, e _ _ hpb18, zb.1, zb.2, fun H20 e20 => ?_⟩
    walk_at "go"
    exact ⟨_, rfl, e.trans e20⟩
  rintro σ H19 ⟨k16, rfl, e19⟩
  have hz19 := e19 _ _ hz18
  obtain ⟨z0, hz0⟩ : ∃ z, zs[0]? = some z := ⟨_, List.getElem?_eq_getElem (by omega)⟩
  have zb := hzb z0 (List.mem_of_getElem? hz0)
  have hx0 : (zs.map V.int)[0]? = some (V.int z0) := by rw [List.getElem?_map, hz0]; rfl
  have hx0' : atI (zs.map V.int) 0 = some (V.int z0) := atn (j := 0) rfl hx0
  walk_at "go"
  refine ⟨st2, w, ps, pn, many, lines, z0, ys, rs', nb, rfl, hS2.same e19, hN, m1, by omega, hRs, e19 _ _ hps18, PRs.same e19 hyP18, by omega, e19 _ _ hpn18, zb.1, zb.2, fun H20 e20 => ?_⟩
  have E20 := e19.trans e20
  have hz20 := e20 _ _ hz19
  walk_at "go"
  refine ⟨st1, w, ps, pb, many, lines, z0, ys, rs', bs, rfl, hS1'.same E20, hB, m1, by omega, hRs, E20 _ _ hps18, PRs.same E20 hyP18, by omega, E20 _ _ hpb18, zb.1, zb.2, fun H21 e21 => ?_⟩
  have E21a := E20.trans e21
  clear hz19 hz20
  walk_at "go"
  refine ⟨st1, w, many, lines, sv, rs', bs, rfl, hS1'.same E21a, hB, m1, by omega, hRs, out, fun H22 e22 => ?_⟩
  have E22a := E21a.trans e22
  walk_at "go"
  refine ⟨st2, w, many, lines, sv, rs', nb, rfl, hS2.same E22a, hN, m1, by omega, hRs, out, fun H23 e23 => ?_⟩
  have E21 := E22a.trans e23
  clear E22a E21a E20 e19 e20 e21 e22 e23
  have hS1e := hS1'.same E21
  have hS2e := hS2.same E21
  obtain ⟨d1, l1, g1, g2⟩ := hS1e.ex
  obtain ⟨d2, l2, g3, g4⟩ := hS2e.ex
  obtain ⟨dw, d0, a0, tg, hd0, g5⟩ := hS1e.web.obj
  walk_at "go"
  refine w_mth2 g1 st_noblanks ?_
  walk_at "go"
  refine ⟨st1, w, many, lines, rs', bs, rfl, hS1e, fun q1 H22 fq1 e22 hq1 => ?_⟩
  refine w_var (v := V.ref pb) (by with_unfolding_all rfl) ?_
  refine w_eqI2 (SqL.of hq1) (SqL.of (e22 _ _ (E21 _ _ hpb18))) ?_
  rw [decide_eq_true (rfl : bs = bs)]
  walk_at "go"
  refine w_mth2 (e22 _ _ g3) st_noblanks ?_
  walk_at "go"
  refine ⟨st2, w, many, lines, rs', nb, rfl, hS2e.same e22, fun q2 H23 fq2 e23 hq2 => ?_⟩
  refine w_var (v := V.ref pn) (by with_unfolding_all rfl) ?_
  refine w_eqI2 (SqL.of hq2) (SqL.of (e23 _ _ (e22 _ _ (E21 _ _ hpn18)))) ?_
  rw [decide_eq_true (rfl : nb = nb)]
  walk_at "go"
  refine w_mth2 (e23 _ _ (e22 _ _ g5)) web_noarrows ?_
  walk_at "go"
  refine ⟨w, many, rs', rfl, (hS1e.web.same e22).same e23, fun us4 q3 H24 fq3 e24 hq3 hP3 _ => ?_⟩
  have M := ((E21.trans e22).trans e23).trans e24
  refine w_var (v := V.ref ps) (by with_unfolding_all rfl) ?_
  refine w_eqR hq3 hP3 (M _ _ hps18) (PRs.same M hyP18) ?_
  exact q _
end G

end
namespace G
open PySem L2 GX
structure CT (K : PySem.W.Frag) (A : CA) : Prop where
  c_Web : Cls K A.Web
  n_Web__arrows : NoAttr K A.Web "_arrows"
  n_Web__holders : NoAttr K A.Web "_holders"
  n_Web__known : NoAttr K A.Web "_known"
  n_Web__targets : NoAttr K A.Web "_targets"
  n_Web_pages : NoAttr K A.Web "pages"
  e_NoPage : OexC K A.NoPage
  f_NoPage_page : PySem.W.findIn K (.ref A.NoPage) "page" = some none
  e_InvalidPointer : OexC K A.InvalidPointer
  f_InvalidPointer_index : PySem.W.findIn K (.ref A.InvalidPointer) "index" = some none
  c_Standing : Cls K A.Standing
  n_Standing__blank : NoAttr K A.Standing "_blank"
  n_Standing_lines : NoAttr K A.Standing "lines"
  n_Standing_web : NoAttr K A.Standing "web"
  e_InvalidStanding : OexC K A.InvalidStanding
  f_InvalidStanding_page : PySem.W.findIn K (.ref A.InvalidStanding) "page" = some none
  c_Owners : Cls K A.Owners
  n_Owners__free : NoAttr K A.Owners "_free"
  n_Owners__owned : NoAttr K A.Owners "_owned"
  n_Owners__owner : NoAttr K A.Owners "_owner"
  e_ShortLot : OexC K A.ShortLot
  f_ShortLot_lot : PySem.W.findIn K (.ref A.ShortLot) "lot" = some none
  x_ShortLot : ExcC K A.ShortLot
  xf_ShortLot : XfC K A.ShortLot
  mt_ShortLot_LotError : PySem.W.exmOne K (.ref A.ShortLot) (.ref A.LotError) = some true
  k_ShortLot_ShortLot : PySem.W.kitOne K (.ref A.ShortLot) (.ref A.ShortLot) = some true
  k_ShortLot_NotShort : PySem.W.kitOne K (.ref A.ShortLot) (.ref A.NotShort) = some false
  x_NoPage : ExcC K A.NoPage
  xf_NoPage : XfC K A.NoPage
  m_NoPage : PySem.W.exmOne K (.ref A.NoPage) (.ref A.NoPage) = some true
  k_NoPage_LotError : PySem.W.kitOne K (.ref A.NoPage) (.ref A.LotError) = some false
  su_ShortLot_LotError : GS.SupC K A.ShortLot A.LotError
section
variable {K : PySem.W.Frag} {A : CA} (C : CT K A)
include C
theorem CT.b : CTB K A := ⟨C.c_Web, C.n_Web__arrows, C.n_Web__holders, C.n_Web__known, C.n_Web__targets, C.n_Web_pages, C.e_NoPage, C.f_NoPage_page, C.e_InvalidPointer, C.f_InvalidPointer_index⟩
theorem CT.s : CTS K A := ⟨C.b, C.c_Standing, C.n_Standing__blank, C.n_Standing_lines, C.n_Standing_web, C.e_InvalidStanding, C.f_InvalidStanding_page⟩
theorem CT.w : CTW K A := ⟨C.c_Owners, C.n_Owners__free, C.n_Owners__owned, C.n_Owners__owner⟩
theorem CT.l : CTL K A := ⟨C.su_ShortLot_LotError, C.f_ShortLot_lot⟩
theorem CT.m : CTM7 K A := ⟨C.x_ShortLot, C.mt_ShortLot_LotError, C.k_ShortLot_ShortLot, C.k_ShortLot_NotShort⟩
theorem CT.n : CTN7 K A := ⟨C.x_NoPage, C.m_NoPage, C.k_NoPage_LotError⟩
end
end G

namespace G
open PySem L2
structure Txt (mg : Str → Option Value) (A : CA) : Prop where
  b_abs : mg "abs" = none
  b_bool : mg "bool" = none
  b_enumerate : mg "enumerate" = none
  b_int : mg "int" = none
  b_isinstance : mg "isinstance" = none
  b_len : mg "len" = none
  b_list : mg "list" = none
  b_max : mg "max" = none
  b_min : mg "min" = none
  b_range : mg "range" = none
  b_sorted : mg "sorted" = none
  b_str : mg "str" = none
  b_sum : mg "sum" = none
  b_super : mg "super" = none
  b_tuple : mg "tuple" = none
  g_LotError : mg "LotError" = some (.ref A.LotError)
  g_NoPage : mg "NoPage" = some (.ref A.NoPage)
  g_NotShort : mg "NotShort" = some (.ref A.NotShort)
  g_ShortLot : mg "ShortLot" = some (.ref A.ShortLot)
variable {P : Program} {w : World} {K : PySem.W.Frag} {mg : Str → Option Value} {base : Heap} {A : CA}
theorem fn_LotError_init {f D : Addr} {fd : FuncData} (F : GS.SupFn K P f D "__init__" "LotError.__init__" s_LotError_init fd) (T : Txt mg A) (htop : (P.main.scope.names.lookup ("super" : Str)).isSome = false) : FnOk P w K mg base CX0 1 f fd ["self", "lot"] (GS.sp_lot K D) := by
  obtain ⟨oc, od, kV, doc, pm, an, ct, osl, cc, cda, rfl, lk, hcd, SF⟩ := F.ex
  refine GS.fnSup_of (k := 0) (N := ["self", "lot", "__class__"]) (x := "self") lk hcd (NdefX.nscope_by (by decide +kernel)) SF rfl rfl rfl (by decide +kernel) (by decide +kernel) htop T.b_super (fun _ => rfl) (fun _ => rfl) (fun _ => rfl) (fun vs H Q E h => by obtain ⟨_, _, _, _, rfl, _⟩ := h; rfl) (fun A' outer s H vs Q E hr h => ?_)
  obtain ⟨a, C, h0, ha, SC, hq⟩ := GS.rd_lot (E := E) (p1 := "self") (p2 := "lot") (p3 := "__class__") h
  exact ⟨GS.te_lot K, GS.t_lot K, a, C, pe_callTy (GS.call_strL (hu65 hr)) (by rfl) T.b_str (by decide +kernel) (pa_cons (pe_callTy call_list_of (by rfl) T.b_list (by decide +kernel) (pa_cons (pv 1) pa_nil)) pa_nil), pss_one (ps_ost (pv 0) (pe_callTy call_list_of (by rfl) T.b_list (by decide +kernel) (pa_cons (pv 1) pa_nil))), h0, ha, SC, hq⟩
theorem sc_InvalidPointer_init : FnScope ["self", "index"] ["self", "index"] (defScope s_InvalidPointer_init) := ⟨rfl, rfl, rfl, by decide +kernel, rfl, by decide +kernel, by decide +kernel⟩
theorem fn_InvalidPointer_init {f : Addr} {fd : FuncData} (F : Fun K "__init__" "InvalidPointer.__init__" s_InvalidPointer_init f fd) : FnOk P w K mg base CX0 1 f fd ["self", "index"] (GX.sp_err K A.InvalidPointer "index") :=
  F.ok sc_InvalidPointer_init (fun vs H Q E h => by obtain ⟨_, _, rfl, _⟩ := h; rfl) (fun cdv Ar outer s H vs Q E hr h => ⟨GX.t_err K "index", (pss_one (ps_ost (pv 0) (pv 1))), GX.rd_err h⟩)
theorem bi_InvalidPointer_init {f : Addr} {fd : FuncData} (F : Fun K "__init__" "InvalidPointer.__init__" s_InvalidPointer_init f fd) : Binds K fd ["self", "index"] [] := F.binds fun _ _ _ _ _ _ us hl => match us, hl with | [_, _], _ => rfl
theorem sc_InvalidStanding_init : FnScope ["self", "page"] ["self", "page"] (defScope s_InvalidStanding_init) := ⟨rfl, rfl, rfl, by decide +kernel, rfl, by decide +kernel, by decide +kernel⟩
theorem fn_InvalidStanding_init {f : Addr} {fd : FuncData} (F : Fun K "__init__" "InvalidStanding.__init__" s_InvalidStanding_init f fd) : FnOk P w K mg base CX0 1 f fd ["self", "page"] (GX.sp_err K A.InvalidStanding "page") :=
  F.ok sc_InvalidStanding_init (fun vs H Q E h => by obtain ⟨_, _, rfl, _⟩ := h; rfl) (fun cdv Ar outer s H vs Q E hr h => ⟨GX.t_err K "page", (pss_one (ps_ost (pv 0) (pv 1))), GX.rd_err h⟩)
theorem bi_InvalidStanding_init {f : Addr} {fd : FuncData} (F : Fun K "__init__" "InvalidStanding.__init__" s_InvalidStanding_init f fd) : Binds K fd ["self", "page"] [] := F.binds fun _ _ _ _ _ _ us hl => match us, hl with | [_, _], _ => rfl
theorem sc_NoPage_init : FnScope ["self", "page"] ["self", "page"] (defScope s_NoPage_init) := ⟨rfl, rfl, rfl, by decide +kernel, rfl, by decide +kernel, by decide +kernel⟩
theorem fn_NoPage_init {f : Addr} {fd : FuncData} (F : Fun K "__init__" "NoPage.__init__" s_NoPage_init f fd) : FnOk P w K mg base CX0 1 f fd ["self", "page"] (GX.sp_err K A.NoPage "page") :=
  F.ok sc_NoPage_init (fun vs H Q E h => by obtain ⟨_, _, rfl, _⟩ := h; rfl) (fun cdv Ar outer s H vs Q E hr h => ⟨GX.t_err K "page", (pss_one (ps_ost (pv 0) (pv 1))), GX.rd_err h⟩)
theorem bi_NoPage_init {f : Addr} {fd : FuncData} (F : Fun K "__init__" "NoPage.__init__" s_NoPage_init f fd) : Binds K fd ["self", "page"] [] := F.binds fun _ _ _ _ _ _ us hl => match us, hl with | [_, _], _ => rfl
theorem sc_check_pages : FnScope ["web", "pages", "page"] ["web", "pages"] (defScope s_check_pages) := ⟨rfl, rfl, rfl, by decide +kernel, rfl, by decide +kernel, by decide +kernel⟩
theorem ln_check_pages {vs : List V} {H : Hp} {Q : VK} {E : XK} (h : sp_check_pages K A vs H Q E) : vs.length = 2 := by
  first | (obtain ⟨_, rfl, _⟩ := h; rfl) | (obtain ⟨_, _, rfl, _⟩ := h; rfl) | (obtain ⟨_, _, _, rfl, _⟩ := h; rfl) | (obtain ⟨_, _, _, _, rfl, _⟩ := h; rfl) | (obtain ⟨_, _, _, _, _, rfl, _⟩ := h; rfl) | (obtain ⟨_, _, _, _, _, _, rfl, _⟩ := h; rfl) | (obtain ⟨_, _, _, _, _, _, _, rfl, _⟩ := h; rfl) | (obtain ⟨_, _, _, _, _, _, _, _, rfl, _⟩ := h; rfl) | (obtain ⟨_, _, _, _, _, _, _, _, _, rfl, _⟩ := h; rfl) | (obtain ⟨_, _, _, _, _, _, _, _, _, _, rfl, _⟩ := h; rfl) | (obtain ⟨_, _, _, _, _, _, _, _, _, _, _, rfl, _⟩ := h; rfl) | (obtain ⟨_, _, _, _, _, _, _, _, _, _, _, _, rfl, _⟩ := h; rfl) | (obtain ⟨_, _, _, _, _, _, _, _, _, _, _, _, _, rfl, _⟩ := h; rfl) | (obtain ⟨_, _, _, _, _, _, _, _, _, _, _, _, _, _, rfl, _⟩ := h; rfl) | (obtain ⟨_, _, _, _, _, _, _, _, _, _, _, _, _, _, _, rfl, _⟩ := h; rfl) | (obtain ⟨_, _, _, _, _, _, _, _, _, _, _, _, _, _, _, _, rfl, _⟩ := h; rfl) | (obtain ⟨_, _, _, _, _, _, _, _, _, _, _, _, _, _, _, _, _, rfl, _⟩ := h; rfl) | (obtain ⟨_, _, _, _, _, _, _, _, _, _, _, _, _, _, _, _, _, _, rfl, _⟩ := h; rfl) | (obtain ⟨_, _, _, _, _, _, _, _, _, _, _, _, _, _, _, _, _, _, _, rfl, _⟩ := h; rfl)
theorem fn_check_pages {f : Addr} {fd : FuncData} (F : Fun K "check_pages" "check_pages" s_check_pages f fd) (T : Txt mg A) (C : CT K A) (C_NoPage : GX.ErrX P w K mg base 1 "NoPage" A.NoPage (GX.sp_err K A.NoPage "page")) : FnOk P w K mg base (L2.CX P w) 3 f fd ["web", "pages"] (sp_check_pages K A) :=
  F.okX sc_check_pages (fun vs H Q E h => ln_check_pages h) (fun cdv Ar outer s H vs Q E hr h => ⟨t_check_pages K A E, (pss_one (ps_for (passes_of rfl) rfl (pi_list (pv 1)) (pg_name (i := 2) sc_check_pages.nd rfl (by first | exact Or.inl rfl | exact Or.inr rfl))
  (pss_one (ps_if (pt_not (pt_chain op_le op_lt pe_int (pv 2) (pe_fld (pv 0) rfl))) (pss_one (GX.ps_raiseO C_NoPage hr (by decide) rfl (by rfl) (takes_of rfl rfl rfl rfl) (pa_cons (pv 2) pa_nil))) pss_nil)))), rd_check_pages C.b h⟩)
theorem bi_check_pages {f : Addr} {fd : FuncData} (F : Fun K "check_pages" "check_pages" s_check_pages f fd) : Binds K fd ["web", "pages"] [] := F.binds fun _ _ _ _ _ _ us hl => match us, hl with | [_, _], _ => rfl
theorem sc_is_pointer : FnScope ["pages", "holder", "target"] ["pages", "holder", "target"] (defScope s_is_pointer) := ⟨rfl, rfl, rfl, by decide +kernel, rfl, by decide +kernel, by decide +kernel⟩
theorem ln_is_pointer {vs : List V} {H : Hp} {Q : VK} {E : XK} (h : sp_is_pointer K A vs H Q E) : vs.length = 3 := by
  first | (obtain ⟨_, rfl, _⟩ := h; rfl) | (obtain ⟨_, _, rfl, _⟩ := h; rfl) | (obtain ⟨_, _, _, rfl, _⟩ := h; rfl) | (obtain ⟨_, _, _, _, rfl, _⟩ := h; rfl) | (obtain ⟨_, _, _, _, _, rfl, _⟩ := h; rfl) | (obtain ⟨_, _, _, _, _, _, rfl, _⟩ := h; rfl) | (obtain ⟨_, _, _, _, _, _, _, rfl, _⟩ := h; rfl) | (obtain ⟨_, _, _, _, _, _, _, _, rfl, _⟩ := h; rfl) | (obtain ⟨_, _, _, _, _, _, _, _, _, rfl, _⟩ := h; rfl) | (obtain ⟨_, _, _, _, _, _, _, _, _, _, rfl, _⟩ := h; rfl) | (obtain ⟨_, _, _, _, _, _, _, _, _, _, _, rfl, _⟩ := h; rfl) | (obtain ⟨_, _, _, _, _, _, _, _, _, _, _, _, rfl, _⟩ := h; rfl) | (obtain ⟨_, _, _, _, _, _, _, _, _, _, _, _, _, rfl, _⟩ := h; rfl) | (obtain ⟨_, _, _, _, _, _, _, _, _, _, _, _, _, _, rfl, _⟩ := h; rfl) | (obtain ⟨_, _, _, _, _, _, _, _, _, _, _, _, _, _, _, rfl, _⟩ := h; rfl) | (obtain ⟨_, _, _, _, _, _, _, _, _, _, _, _, _, _, _, _, rfl, _⟩ := h; rfl) | (obtain ⟨_, _, _, _, _, _, _, _, _, _, _, _, _, _, _, _, _, rfl, _⟩ := h; rfl) | (obtain ⟨_, _, _, _, _, _, _, _, _, _, _, _, _, _, _, _, _, _, rfl, _⟩ := h; rfl) | (obtain ⟨_, _, _, _, _, _, _, _, _, _, _, _, _, _, _, _, _, _, _, rfl, _⟩ := h; rfl)
theorem fn_is_pointer {f : Addr} {fd : FuncData} (F : Fun K "_is_pointer" "_is_pointer" s_is_pointer f fd) (T : Txt mg A) (C : CT K A)  : FnOk P w K mg base CX0 1 f fd ["pages", "holder", "target"] (sp_is_pointer K A) :=
  F.ok sc_is_pointer (fun vs H Q E h => ln_is_pointer h) (fun cdv Ar outer s H vs Q E hr h => ⟨t_is_pointer K A, (pss_one (ps_ret (pe_and (pe_chain op_le op_lt pe_int (pv 1) (pv 0)) (pe_and (pe_chain op_le op_lt pe_int (pv 2) (pv 0)) (pe_one (pe_cmpR op_ne (pv 1) (pv 2) (nomark _))))))), rd_is_pointer h⟩)
theorem bi_is_pointer {f : Addr} {fd : FuncData} (F : Fun K "_is_pointer" "_is_pointer" s_is_pointer f fd) : Binds K fd ["pages", "holder", "target"] [] := F.binds fun _ _ _ _ _ _ us hl => match us, hl with | [_, _, _], _ => rfl
theorem sc_as_known : FnScope ["pages", "pointers", "known", "index", "holder", "target"] ["pages", "pointers"] (defScope s_as_known) := ⟨rfl, rfl, rfl, by decide +kernel, rfl, by decide +kernel, by decide +kernel⟩
theorem ln_as_known {vs : List V} {H : Hp} {Q : VK} {E : XK} (h : sp_as_known K A vs H Q E) : vs.length = 2 := by
  first | (obtain ⟨_, rfl, _⟩ := h; rfl) | (obtain ⟨_, _, rfl, _⟩ := h; rfl) | (obtain ⟨_, _, _, rfl, _⟩ := h; rfl) | (obtain ⟨_, _, _, _, rfl, _⟩ := h; rfl) | (obtain ⟨_, _, _, _, _, rfl, _⟩ := h; rfl) | (obtain ⟨_, _, _, _, _, _, rfl, _⟩ := h; rfl) | (obtain ⟨_, _, _, _, _, _, _, rfl, _⟩ := h; rfl) | (obtain ⟨_, _, _, _, _, _, _, _, rfl, _⟩ := h; rfl) | (obtain ⟨_, _, _, _, _, _, _, _, _, rfl, _⟩ := h; rfl) | (obtain ⟨_, _, _, _, _, _, _, _, _, _, rfl, _⟩ := h; rfl) | (obtain ⟨_, _, _, _, _, _, _, _, _, _, _, rfl, _⟩ := h; rfl) | (obtain ⟨_, _, _, _, _, _, _, _, _, _, _, _, rfl, _⟩ := h; rfl) | (obtain ⟨_, _, _, _, _, _, _, _, _, _, _, _, _, rfl, _⟩ := h; rfl) | (obtain ⟨_, _, _, _, _, _, _, _, _, _, _, _, _, _, rfl, _⟩ := h; rfl) | (obtain ⟨_, _, _, _, _, _, _, _, _, _, _, _, _, _, _, rfl, _⟩ := h; rfl) | (obtain ⟨_, _, _, _, _, _, _, _, _, _, _, _, _, _, _, _, rfl, _⟩ := h; rfl) | (obtain ⟨_, _, _, _, _, _, _, _, _, _, _, _, _, _, _, _, _, rfl, _⟩ := h; rfl) | (obtain ⟨_, _, _, _, _, _, _, _, _, _, _, _, _, _, _, _, _, _, rfl, _⟩ := h; rfl) | (obtain ⟨_, _, _, _, _, _, _, _, _, _, _, _, _, _, _, _, _, _, _, rfl, _⟩ := h; rfl)
theorem fn_as_known {f : Addr} {fd : FuncData} (F : Fun K "_as_known" "_as_known" s_as_known f fd) (T : Txt mg A) (C : CT K A) (C_InvalidPointer : GX.ErrX P w K mg base 1 "InvalidPointer" A.InvalidPointer (GX.sp_err K A.InvalidPointer "index")) (C_is_pointer : C8.Cal P w K mg base 1 "_is_pointer" (sp_is_pointer K A) []) : FnOk P w K mg base (L2.CX P w) 3 f fd ["pages", "pointers"] (sp_as_known K A) :=
  F.okX sc_as_known (fun vs H Q E h => ln_as_known h) (fun cdv Ar outer s H vs Q E hr h => ⟨t_as_known K A E, (pss_cons (ps_set (i := 2) sc_as_known.nd rfl (by first | exact Or.inl rfl | exact Or.inr rfl) pe_dnewT)
  (pss_cons (ps_for (passes_of rfl) rfl (pi_enum (by rfl) T.b_enumerate (pa_cons (pv 1) pa_nil)) (pg_tup rfl (pgs_cons (pg_name (i := 3) sc_as_known.nd rfl (by first | exact Or.inl rfl | exact Or.inr rfl)) (pgs_cons (pg_tup rfl (pgs_cons (pg_name (i := 4) sc_as_known.nd rfl (by first | exact Or.inl rfl | exact Or.inr rfl)) (pgs_cons (pg_name (i := 5) sc_as_known.nd rfl (by first | exact Or.inl rfl | exact Or.inr rfl)) pgs_nil))) pgs_nil)))
  (pss_cons (ps_if (PW.pt (pw_or (pt_not (pt_val (C8.pe_c C_is_pointer hr (by decide) (by rfl) (pa_cons (pv 0) (pa_cons (pv 4) (pa_cons (pv 5) pa_nil)))) (by intro _; rfl))) (pw_or1 (pt_cmp (pc_din (hu_of hr) (pe_tup (pa_cons (pv 4) (pa_cons (pv 5) pa_nil))) (pv 2)))))) (pss_one (GX.ps_raiseO C_InvalidPointer hr (by decide) rfl (by rfl) (takes_of rfl rfl rfl rfl) (pa_cons (pv 3) pa_nil))) pss_nil)
  (pss_one (ps_dput (hu_of hr) (pv 2) (pe_tup (pa_cons (pv 4) (pa_cons (pv 5) pa_nil))) pe_bl rfl))))
  (pss_one (ps_ret (pv 2))))), rd_as_known C.b h⟩)
theorem bi_as_known {f : Addr} {fd : FuncData} (F : Fun K "_as_known" "_as_known" s_as_known f fd) : Binds K fd ["pages", "pointers"] [] := F.binds fun _ _ _ _ _ _ us hl => match us, hl with | [_, _], _ => rfl
theorem sc_grouped : FnScope ["pages", "pairs", "found", "_", "page", "other"] ["pages", "pairs"] (defScope s_grouped) := ⟨rfl, rfl, rfl, by decide +kernel, rfl, by decide +kernel, by decide +kernel⟩
theorem ln_grouped {vs : List V} {H : Hp} {Q : VK} {E : XK} (h : sp_grouped K A vs H Q E) : vs.length = 2 := by
  first | (obtain ⟨_, rfl, _⟩ := h; rfl) | (obtain ⟨_, _, rfl, _⟩ := h; rfl) | (obtain ⟨_, _, _, rfl, _⟩ := h; rfl) | (obtain ⟨_, _, _, _, rfl, _⟩ := h; rfl) | (obtain ⟨_, _, _, _, _, rfl, _⟩ := h; rfl) | (obtain ⟨_, _, _, _, _, _, rfl, _⟩ := h; rfl) | (obtain ⟨_, _, _, _, _, _, _, rfl, _⟩ := h; rfl) | (obtain ⟨_, _, _, _, _, _, _, _, rfl, _⟩ := h; rfl) | (obtain ⟨_, _, _, _, _, _, _, _, _, rfl, _⟩ := h; rfl) | (obtain ⟨_, _, _, _, _, _, _, _, _, _, rfl, _⟩ := h; rfl) | (obtain ⟨_, _, _, _, _, _, _, _, _, _, _, rfl, _⟩ := h; rfl) | (obtain ⟨_, _, _, _, _, _, _, _, _, _, _, _, rfl, _⟩ := h; rfl) | (obtain ⟨_, _, _, _, _, _, _, _, _, _, _, _, _, rfl, _⟩ := h; rfl) | (obtain ⟨_, _, _, _, _, _, _, _, _, _, _, _, _, _, rfl, _⟩ := h; rfl) | (obtain ⟨_, _, _, _, _, _, _, _, _, _, _, _, _, _, _, rfl, _⟩ := h; rfl) | (obtain ⟨_, _, _, _, _, _, _, _, _, _, _, _, _, _, _, _, rfl, _⟩ := h; rfl) | (obtain ⟨_, _, _, _, _, _, _, _, _, _, _, _, _, _, _, _, _, rfl, _⟩ := h; rfl) | (obtain ⟨_, _, _, _, _, _, _, _, _, _, _, _, _, _, _, _, _, _, rfl, _⟩ := h; rfl) | (obtain ⟨_, _, _, _, _, _, _, _, _, _, _, _, _, _, _, _, _, _, _, rfl, _⟩ := h; rfl)
theorem fn_grouped {f : Addr} {fd : FuncData} (F : Fun K "_grouped" "_grouped" s_grouped f fd) (T : Txt mg A) (C : CT K A)  : FnOk P w K mg base CX0 1 f fd ["pages", "pairs"] (sp_grouped K A) :=
  F.ok sc_grouped (fun vs H Q E h => ln_grouped h) (fun cdv Ar outer s H vs Q E hr h => ⟨t_grouped K A, (pss_cons (ps_setLc (i := 2) (own := [("_", 3)]) (g := (gName 3)) (tt := tYes) rfl sc_grouped.nd rfl rfl (sw_true rfl rfl rfl (by decide +kernel)) (pi_range1 (by rfl) T.b_range (pa_cons (pv 0) pa_nil)) (blkOk_by (own := [("_", 3)]) (N := ["pages", "pairs", "found", "_", "page", "other"]) (sc := defScope s_grouped) (by decide +kernel)) (fun _ _ _ _ _ => (pg_name (i := 3) sc_grouped.nd rfl (by first | exact Or.inl rfl | exact Or.inr rfl))) (fun _ _ _ _ _ => pts_nil) (fun _ _ _ _ _ => (pe_lst pa_nil)))
  (pss_cons (ps_for PassesOwn.never rfl (pi_list (pv 1)) (pg_tup rfl (pgs_cons (pg_name (i := 4) sc_grouped.nd rfl (by first | exact Or.inl rfl | exact Or.inr rfl)) (pgs_cons (pg_name (i := 5) sc_grouped.nd rfl (by first | exact Or.inl rfl | exact Or.inr rfl)) pgs_nil)))
  (pss_one (ps_expr (pe_bm PySem.F.plainAttrs_list PySem.F.slot_list_append PySem.F.type_list_append mt_append (pe_ix ix_list (pv 2) (pv 4) (fun _ _ => rfl)) (pa_cons (pv 5) pa_nil)))))
  (pss_one (ps_ret (pv 2))))), rd_grouped h⟩)
theorem bi_grouped {f : Addr} {fd : FuncData} (F : Fun K "_grouped" "_grouped" s_grouped f fd) : Binds K fd ["pages", "pairs"] [] := F.binds fun _ _ _ _ _ _ us hl => match us, hl with | [_, _], _ => rfl
theorem sc_Web_init : FnScope ["self", "pages", "pointers", "holder", "target"] ["self", "pages", "pointers"] (defScope s_Web_init) := ⟨rfl, rfl, rfl, by decide +kernel, rfl, by decide +kernel, by decide +kernel⟩
theorem ln_Web_init {vs : List V} {H : Hp} {Q : VK} {E : XK} (h : sp_Web_init K A vs H Q E) : vs.length = 3 := by
  first | (obtain ⟨_, rfl, _⟩ := h; rfl) | (obtain ⟨_, _, rfl, _⟩ := h; rfl) | (obtain ⟨_, _, _, rfl, _⟩ := h; rfl) | (obtain ⟨_, _, _, _, rfl, _⟩ := h; rfl) | (obtain ⟨_, _, _, _, _, rfl, _⟩ := h; rfl) | (obtain ⟨_, _, _, _, _, _, rfl, _⟩ := h; rfl) | (obtain ⟨_, _, _, _, _, _, _, rfl, _⟩ := h; rfl) | (obtain ⟨_, _, _, _, _, _, _, _, rfl, _⟩ := h; rfl) | (obtain ⟨_, _, _, _, _, _, _, _, _, rfl, _⟩ := h; rfl) | (obtain ⟨_, _, _, _, _, _, _, _, _, _, rfl, _⟩ := h; rfl) | (obtain ⟨_, _, _, _, _, _, _, _, _, _, _, rfl, _⟩ := h; rfl) | (obtain ⟨_, _, _, _, _, _, _, _, _, _, _, _, rfl, _⟩ := h; rfl) | (obtain ⟨_, _, _, _, _, _, _, _, _, _, _, _, _, rfl, _⟩ := h; rfl) | (obtain ⟨_, _, _, _, _, _, _, _, _, _, _, _, _, _, rfl, _⟩ := h; rfl) | (obtain ⟨_, _, _, _, _, _, _, _, _, _, _, _, _, _, _, rfl, _⟩ := h; rfl) | (obtain ⟨_, _, _, _, _, _, _, _, _, _, _, _, _, _, _, _, rfl, _⟩ := h; rfl) | (obtain ⟨_, _, _, _, _, _, _, _, _, _, _, _, _, _, _, _, _, rfl, _⟩ := h; rfl) | (obtain ⟨_, _, _, _, _, _, _, _, _, _, _, _, _, _, _, _, _, _, rfl, _⟩ := h; rfl) | (obtain ⟨_, _, _, _, _, _, _, _, _, _, _, _, _, _, _, _, _, _, _, rfl, _⟩ := h; rfl)
theorem fn_Web_init {f : Addr} {fd : FuncData} (F : Fun K "__init__" "Web.__init__" s_Web_init f fd) (T : Txt mg A) (C : CT K A) (C_as_known : GX.CalX P w K mg base 3 "_as_known" (sp_as_known K A)) (C_grouped : C8.Cal P w K mg base 1 "_grouped" (sp_grouped K A) []) : FnOk P w K mg base (L2.CX P w) 4 f fd ["self", "pages", "pointers"] (sp_Web_init K A) :=
  F.okX sc_Web_init (fun vs H Q E h => ln_Web_init h) (fun cdv Ar outer s H vs Q E hr h => ⟨t_Web_init K A E, (pss_cons (ps_fld (pv 0) (pv 1) rfl)
  (pss_cons (ps_fld (pv 0) (GX.pe_cX C_as_known hr (by decide) (by rfl) (passes_call (takes_of rfl rfl rfl rfl) (fun _ _ _ _ h => h)) (pa_cons (pv 1) (pa_cons (pv 2) pa_nil))) rfl)
  (pss_cons (ps_fld (pv 0) (pe_callB cr_sortedPO (by rfl) T.b_sorted (by decide +kernel) (pa_cons (pe_callTy (call_list_dT rfl) (by rfl) T.b_list (by decide +kernel) (pa_cons (pe_fld (pv 0) rfl) pa_nil)) pa_nil)) rfl)
  (pss_cons (ps_fld (pv 0) (C8.pe_c C_grouped hr (by decide) (by rfl) (pa_cons (pv 1) (pa_cons (pe_fld (pv 0) rfl) pa_nil))) rfl)
  (pss_one (ps_fld (pv 0) (C8.pe_c C_grouped hr (by decide) (by rfl) (pa_cons (pv 1) (pa_cons (pe_lc (own := [("holder", 3), ("target", 4)]) (g := (gTup K 2 (gCons (gName 3) (gCons (gName 4) gNil)))) (tt := tYes) rfl sc_Web_init.nd (pi_list (pe_fld (pv 0) rfl)) (blkOk_by (own := [("holder", 3), ("target", 4)]) (N := ["self", "pages", "pointers", "holder", "target"]) (sc := defScope s_Web_init) (by decide +kernel)) (fun _ _ _ _ _ => (pg_tup rfl (pgs_cons (pg_name (i := 3) sc_Web_init.nd rfl (by first | exact Or.inl rfl | exact Or.inr rfl)) (pgs_cons (pg_name (i := 4) sc_Web_init.nd rfl (by first | exact Or.inl rfl | exact Or.inr rfl)) pgs_nil)))) (fun _ _ _ _ _ => pts_nil) (fun _ _ _ _ _ => (pe_tup (pa_cons (pv 4) (pa_cons (pv 3) pa_nil))))) pa_nil))) rfl)))))), rd_Web_init C.b h⟩)
theorem bi_Web_init {f : Addr} {fd : FuncData} (F : Fun K "__init__" "Web.__init__" s_Web_init f fd) : Binds K fd ["self", "pages", "pointers"] [] := F.binds fun _ _ _ _ _ _ us hl => match us, hl with | [_, _, _], _ => rfl
theorem sc_Web_arrows : FnScope ["self"] ["self"] (defScope s_Web_arrows) := ⟨rfl, rfl, rfl, by decide +kernel, rfl, by decide +kernel, by decide +kernel⟩
theorem ln_Web_arrows {vs : List V} {H : Hp} {Q : VK} {E : XK} (h : sp_Web_arrows K A vs H Q E) : vs.length = 1 := by
  first | (obtain ⟨_, rfl, _⟩ := h; rfl) | (obtain ⟨_, _, rfl, _⟩ := h; rfl) | (obtain ⟨_, _, _, rfl, _⟩ := h; rfl) | (obtain ⟨_, _, _, _, rfl, _⟩ := h; rfl) | (obtain ⟨_, _, _, _, _, rfl, _⟩ := h; rfl) | (obtain ⟨_, _, _, _, _, _, rfl, _⟩ := h; rfl) | (obtain ⟨_, _, _, _, _, _, _, rfl, _⟩ := h; rfl) | (obtain ⟨_, _, _, _, _, _, _, _, rfl, _⟩ := h; rfl) | (obtain ⟨_, _, _, _, _, _, _, _, _, rfl, _⟩ := h; rfl) | (obtain ⟨_, _, _, _, _, _, _, _, _, _, rfl, _⟩ := h; rfl) | (obtain ⟨_, _, _, _, _, _, _, _, _, _, _, rfl, _⟩ := h; rfl) | (obtain ⟨_, _, _, _, _, _, _, _, _, _, _, _, rfl, _⟩ := h; rfl) | (obtain ⟨_, _, _, _, _, _, _, _, _, _, _, _, _, rfl, _⟩ := h; rfl) | (obtain ⟨_, _, _, _, _, _, _, _, _, _, _, _, _, _, rfl, _⟩ := h; rfl) | (obtain ⟨_, _, _, _, _, _, _, _, _, _, _, _, _, _, _, rfl, _⟩ := h; rfl) | (obtain ⟨_, _, _, _, _, _, _, _, _, _, _, _, _, _, _, _, rfl, _⟩ := h; rfl) | (obtain ⟨_, _, _, _, _, _, _, _, _, _, _, _, _, _, _, _, _, rfl, _⟩ := h; rfl) | (obtain ⟨_, _, _, _, _, _, _, _, _, _, _, _, _, _, _, _, _, _, rfl, _⟩ := h; rfl) | (obtain ⟨_, _, _, _, _, _, _, _, _, _, _, _, _, _, _, _, _, _, _, rfl, _⟩ := h; rfl)
theorem fn_Web_arrows {f : Addr} {fd : FuncData} (F : Fun K "arrows" "Web.arrows" s_Web_arrows f fd) (T : Txt mg A) (C : CT K A)  : FnOk P w K mg base CX0 1 f fd ["self"] (sp_Web_arrows K A) :=
  F.ok sc_Web_arrows (fun vs H Q E h => ln_Web_arrows h) (fun cdv Ar outer s H vs Q E hr h => ⟨t_Web_arrows K A, (pss_one (ps_ret (pe_callTy call_list_of (by rfl) T.b_list (by decide +kernel) (pa_cons (pe_fld (pv 0) rfl) pa_nil)))), rd_Web_arrows C.b h⟩)
theorem bi_Web_arrows {f : Addr} {fd : FuncData} (F : Fun K "arrows" "Web.arrows" s_Web_arrows f fd) : Binds K fd ["self"] [] := F.binds fun _ _ _ _ _ _ us hl => match us, hl with | [_], _ => rfl
theorem sc_Standing_init : FnScope ["self", "web", "lines", "blank", "page", "number"] ["self", "web", "lines", "blank"] (defScope s_Standing_init) := ⟨rfl, rfl, rfl, by decide +kernel, rfl, by decide +kernel, by decide +kernel⟩
theorem ln_Standing_init {vs : List V} {H : Hp} {Q : VK} {E : XK} (h : sp_Standing_init K A vs H Q E) : vs.length = 4 := by
  first | (obtain ⟨_, rfl, _⟩ := h; rfl) | (obtain ⟨_, _, rfl, _⟩ := h; rfl) | (obtain ⟨_, _, _, rfl, _⟩ := h; rfl) | (obtain ⟨_, _, _, _, rfl, _⟩ := h; rfl) | (obtain ⟨_, _, _, _, _, rfl, _⟩ := h; rfl) | (obtain ⟨_, _, _, _, _, _, rfl, _⟩ := h; rfl) | (obtain ⟨_, _, _, _, _, _, _, rfl, _⟩ := h; rfl) | (obtain ⟨_, _, _, _, _, _, _, _, rfl, _⟩ := h; rfl) | (obtain ⟨_, _, _, _, _, _, _, _, _, rfl, _⟩ := h; rfl) | (obtain ⟨_, _, _, _, _, _, _, _, _, _, rfl, _⟩ := h; rfl) | (obtain ⟨_, _, _, _, _, _, _, _, _, _, _, rfl, _⟩ := h; rfl) | (obtain ⟨_, _, _, _, _, _, _, _, _, _, _, _, rfl, _⟩ := h; rfl) | (obtain ⟨_, _, _, _, _, _, _, _, _, _, _, _, _, rfl, _⟩ := h; rfl) | (obtain ⟨_, _, _, _, _, _, _, _, _, _, _, _, _, _, rfl, _⟩ := h; rfl) | (obtain ⟨_, _, _, _, _, _, _, _, _, _, _, _, _, _, _, rfl, _⟩ := h; rfl) | (obtain ⟨_, _, _, _, _, _, _, _, _, _, _, _, _, _, _, _, rfl, _⟩ := h; rfl) | (obtain ⟨_, _, _, _, _, _, _, _, _, _, _, _, _, _, _, _, _, rfl, _⟩ := h; rfl) | (obtain ⟨_, _, _, _, _, _, _, _, _, _, _, _, _, _, _, _, _, _, rfl, _⟩ := h; rfl) | (obtain ⟨_, _, _, _, _, _, _, _, _, _, _, _, _, _, _, _, _, _, _, rfl, _⟩ := h; rfl)
theorem fn_Standing_init {f : Addr} {fd : FuncData} (F : Fun K "__init__" "Standing.__init__" s_Standing_init f fd) (T : Txt mg A) (C : CT K A) (C_InvalidStanding : GX.ErrX P w K mg base 1 "InvalidStanding" A.InvalidStanding (GX.sp_err K A.InvalidStanding "page")) : FnOk P w K mg base (L2.CX P w) 3 f fd ["self", "web", "lines", "blank"] (sp_Standing_init K A) :=
  F.okX sc_Standing_init (fun vs H Q E h => ln_Standing_init h) (fun cdv Ar outer s H vs Q E hr h => ⟨t_Standing_init K A E, (pss_cons (ps_if (pt_cmpR op_ne (pe_callB call_len_seq (by rfl) T.b_len (by decide +kernel) (pa_cons (pv 3) pa_nil)) (pe_fld (pv 1) rfl) (nomark _)) (pss_one (GX.ps_raiseO C_InvalidStanding hr (by decide) rfl (by rfl) (takes_of rfl rfl rfl rfl) (pa_cons pe_non pa_nil))) pss_nil)
  (pss_cons (ps_for (passes_of rfl) rfl (pi_enum (by rfl) T.b_enumerate (pa_cons (pv 3) pa_nil)) (pg_tup rfl (pgs_cons (pg_name (i := 4) sc_Standing_init.nd rfl (by first | exact Or.inl rfl | exact Or.inr rfl)) (pgs_cons (pg_name (i := 5) sc_Standing_init.nd rfl (by first | exact Or.inl rfl | exact Or.inr rfl)) pgs_nil)))
  (pss_one (ps_if (pt_not (pt_chain op_le op_le pe_int (pv 5) (pv 2))) (pss_one (GX.ps_raiseO C_InvalidStanding hr (by decide) rfl (by rfl) (takes_of rfl rfl rfl rfl) (pa_cons (pv 4) pa_nil))) pss_nil)))
  (pss_cons (ps_fld (pv 0) (pv 1) rfl)
  (pss_cons (ps_fld (pv 0) (pv 2) rfl)
  (pss_one (ps_fld (pv 0) (pe_callTy call_list_of (by rfl) T.b_list (by decide +kernel) (pa_cons (pv 3) pa_nil)) rfl)))))), rd_Standing_init C.s h⟩)
theorem bi_Standing_init {f : Addr} {fd : FuncData} (F : Fun K "__init__" "Standing.__init__" s_Standing_init f fd) : Binds K fd ["self", "web", "lines", "blank"] [] := F.binds fun _ _ _ _ _ _ us hl => match us, hl with | [_, _, _, _], _ => rfl
theorem sc_Standing_blanks : FnScope ["self"] ["self"] (defScope s_Standing_blanks) := ⟨rfl, rfl, rfl, by decide +kernel, rfl, by decide +kernel, by decide +kernel⟩
theorem ln_Standing_blanks {vs : List V} {H : Hp} {Q : VK} {E : XK} (h : sp_Standing_blanks K A vs H Q E) : vs.length = 1 := by
  first | (obtain ⟨_, rfl, _⟩ := h; rfl) | (obtain ⟨_, _, rfl, _⟩ := h; rfl) | (obtain ⟨_, _, _, rfl, _⟩ := h; rfl) | (obtain ⟨_, _, _, _, rfl, _⟩ := h; rfl) | (obtain ⟨_, _, _, _, _, rfl, _⟩ := h; rfl) | (obtain ⟨_, _, _, _, _, _, rfl, _⟩ := h; rfl) | (obtain ⟨_, _, _, _, _, _, _, rfl, _⟩ := h; rfl) | (obtain ⟨_, _, _, _, _, _, _, _, rfl, _⟩ := h; rfl) | (obtain ⟨_, _, _, _, _, _, _, _, _, rfl, _⟩ := h; rfl) | (obtain ⟨_, _, _, _, _, _, _, _, _, _, rfl, _⟩ := h; rfl) | (obtain ⟨_, _, _, _, _, _, _, _, _, _, _, rfl, _⟩ := h; rfl) | (obtain ⟨_, _, _, _, _, _, _, _, _, _, _, _, rfl, _⟩ := h; rfl) | (obtain ⟨_, _, _, _, _, _, _, _, _, _, _, _, _, rfl, _⟩ := h; rfl) | (obtain ⟨_, _, _, _, _, _, _, _, _, _, _, _, _, _, rfl, _⟩ := h; rfl) | (obtain ⟨_, _, _, _, _, _, _, _, _, _, _, _, _, _, _, rfl, _⟩ := h; rfl) | (obtain ⟨_, _, _, _, _, _, _, _, _, _, _, _, _, _, _, _, rfl, _⟩ := h; rfl) | (obtain ⟨_, _, _, _, _, _, _, _, _, _, _, _, _, _, _, _, _, rfl, _⟩ := h; rfl) | (obtain ⟨_, _, _, _, _, _, _, _, _, _, _, _, _, _, _, _, _, _, rfl, _⟩ := h; rfl) | (obtain ⟨_, _, _, _, _, _, _, _, _, _, _, _, _, _, _, _, _, _, _, rfl, _⟩ := h; rfl)
theorem fn_Standing_blanks {f : Addr} {fd : FuncData} (F : Fun K "blanks" "Standing.blanks" s_Standing_blanks f fd) (T : Txt mg A) (C : CT K A)  : FnOk P w K mg base CX0 1 f fd ["self"] (sp_Standing_blanks K A) :=
  F.ok sc_Standing_blanks (fun vs H Q E h => ln_Standing_blanks h) (fun cdv Ar outer s H vs Q E hr h => ⟨t_Standing_blanks K A, (pss_one (ps_ret (pe_callTy call_list_of (by rfl) T.b_list (by decide +kernel) (pa_cons (pe_fld (pv 0) rfl) pa_nil)))), rd_Standing_blanks C.s h⟩)
theorem bi_Standing_blanks {f : Addr} {fd : FuncData} (F : Fun K "blanks" "Standing.blanks" s_Standing_blanks f fd) : Binds K fd ["self"] [] := F.binds fun _ _ _ _ _ _ us hl => match us, hl with | [_], _ => rfl
theorem sc_Standing_blank_of : FnScope ["self", "page"] ["self", "page"] (defScope s_Standing_blank_of) := ⟨rfl, rfl, rfl, by decide +kernel, rfl, by decide +kernel, by decide +kernel⟩
theorem ln_Standing_blank_of {vs : List V} {H : Hp} {Q : VK} {E : XK} (h : sp_Standing_blank_of K A vs H Q E) : vs.length = 2 := by
  first | (obtain ⟨_, rfl, _⟩ := h; rfl) | (obtain ⟨_, _, rfl, _⟩ := h; rfl) | (obtain ⟨_, _, _, rfl, _⟩ := h; rfl) | (obtain ⟨_, _, _, _, rfl, _⟩ := h; rfl) | (obtain ⟨_, _, _, _, _, rfl, _⟩ := h; rfl) | (obtain ⟨_, _, _, _, _, _, rfl, _⟩ := h; rfl) | (obtain ⟨_, _, _, _, _, _, _, rfl, _⟩ := h; rfl) | (obtain ⟨_, _, _, _, _, _, _, _, rfl, _⟩ := h; rfl) | (obtain ⟨_, _, _, _, _, _, _, _, _, rfl, _⟩ := h; rfl) | (obtain ⟨_, _, _, _, _, _, _, _, _, _, rfl, _⟩ := h; rfl) | (obtain ⟨_, _, _, _, _, _, _, _, _, _, _, rfl, _⟩ := h; rfl) | (obtain ⟨_, _, _, _, _, _, _, _, _, _, _, _, rfl, _⟩ := h; rfl) | (obtain ⟨_, _, _, _, _, _, _, _, _, _, _, _, _, rfl, _⟩ := h; rfl) | (obtain ⟨_, _, _, _, _, _, _, _, _, _, _, _, _, _, rfl, _⟩ := h; rfl) | (obtain ⟨_, _, _, _, _, _, _, _, _, _, _, _, _, _, _, rfl, _⟩ := h; rfl) | (obtain ⟨_, _, _, _, _, _, _, _, _, _, _, _, _, _, _, _, rfl, _⟩ := h; rfl) | (obtain ⟨_, _, _, _, _, _, _, _, _, _, _, _, _, _, _, _, _, rfl, _⟩ := h; rfl) | (obtain ⟨_, _, _, _, _, _, _, _, _, _, _, _, _, _, _, _, _, _, rfl, _⟩ := h; rfl) | (obtain ⟨_, _, _, _, _, _, _, _, _, _, _, _, _, _, _, _, _, _, _, rfl, _⟩ := h; rfl)
theorem fn_Standing_blank_of {f : Addr} {fd : FuncData} (F : Fun K "blank_of" "Standing.blank_of" s_Standing_blank_of f fd) (T : Txt mg A) (C : CT K A) (C_check_pages : GX.CalX P w K mg base 3 "check_pages" (sp_check_pages K A)) : FnOk P w K mg base (L2.CX P w) 4 f fd ["self", "page"] (sp_Standing_blank_of K A) :=
  F.okX sc_Standing_blank_of (fun vs H Q E h => ln_Standing_blank_of h) (fun cdv Ar outer s H vs Q E hr h => ⟨t_Standing_blank_of K A E, (pss_cons (ps_expr (GX.pe_cX C_check_pages hr (by decide) (by rfl) (passes_call (takes_of rfl rfl rfl rfl) (fun _ _ _ _ h => h)) (pa_cons (pe_fld (pv 0) rfl) (pa_cons (pe_lst (pa_cons (pv 1) pa_nil)) pa_nil))))
  (pss_one (ps_ret (pe_ix ix_list (pe_fld (pv 0) rfl) (pv 1) (fun _ _ => rfl))))), rd_Standing_blank_of C.s h⟩)
theorem bi_Standing_blank_of {f : Addr} {fd : FuncData} (F : Fun K "blank_of" "Standing.blank_of" s_Standing_blank_of f fd) : Binds K fd ["self", "page"] [] := F.binds fun _ _ _ _ _ _ us hl => match us, hl with | [_, _], _ => rfl
theorem sc_Owners_init : FnScope ["self"] ["self"] (defScope s_Owners_init) := ⟨rfl, rfl, rfl, by decide +kernel, rfl, by decide +kernel, by decide +kernel⟩
theorem ln_Owners_init {vs : List V} {H : Hp} {Q : VK} {E : XK} (h : sp_Owners_init K A vs H Q E) : vs.length = 1 := by
  first | (obtain ⟨_, rfl, _⟩ := h; rfl) | (obtain ⟨_, _, rfl, _⟩ := h; rfl) | (obtain ⟨_, _, _, rfl, _⟩ := h; rfl) | (obtain ⟨_, _, _, _, rfl, _⟩ := h; rfl) | (obtain ⟨_, _, _, _, _, rfl, _⟩ := h; rfl) | (obtain ⟨_, _, _, _, _, _, rfl, _⟩ := h; rfl) | (obtain ⟨_, _, _, _, _, _, _, rfl, _⟩ := h; rfl) | (obtain ⟨_, _, _, _, _, _, _, _, rfl, _⟩ := h; rfl) | (obtain ⟨_, _, _, _, _, _, _, _, _, rfl, _⟩ := h; rfl) | (obtain ⟨_, _, _, _, _, _, _, _, _, _, rfl, _⟩ := h; rfl) | (obtain ⟨_, _, _, _, _, _, _, _, _, _, _, rfl, _⟩ := h; rfl) | (obtain ⟨_, _, _, _, _, _, _, _, _, _, _, _, rfl, _⟩ := h; rfl) | (obtain ⟨_, _, _, _, _, _, _, _, _, _, _, _, _, rfl, _⟩ := h; rfl) | (obtain ⟨_, _, _, _, _, _, _, _, _, _, _, _, _, _, rfl, _⟩ := h; rfl) | (obtain ⟨_, _, _, _, _, _, _, _, _, _, _, _, _, _, _, rfl, _⟩ := h; rfl) | (obtain ⟨_, _, _, _, _, _, _, _, _, _, _, _, _, _, _, _, rfl, _⟩ := h; rfl) | (obtain ⟨_, _, _, _, _, _, _, _, _, _, _, _, _, _, _, _, _, rfl, _⟩ := h; rfl) | (obtain ⟨_, _, _, _, _, _, _, _, _, _, _, _, _, _, _, _, _, _, rfl, _⟩ := h; rfl) | (obtain ⟨_, _, _, _, _, _, _, _, _, _, _, _, _, _, _, _, _, _, _, rfl, _⟩ := h; rfl)
theorem fn_Owners_init {f : Addr} {fd : FuncData} (F : Fun K "__init__" "Owners.__init__" s_Owners_init f fd) (T : Txt mg A) (C : CT K A)  : FnOk P w K mg base CX0 1 f fd ["self"] (sp_Owners_init K A) :=
  F.ok sc_Owners_init (fun vs H Q E h => ln_Owners_init h) (fun cdv Ar outer s H vs Q E hr h => ⟨t_Owners_init K A, (pss_cons (ps_fld (pv 0) pe_dnewK rfl)
  (pss_cons (ps_fld (pv 0) pe_dnewK rfl)
  (pss_one (ps_fld (pv 0) pe_dnewT rfl)))), rd_Owners_init C.w h⟩)
theorem bi_Owners_init {f : Addr} {fd : FuncData} (F : Fun K "__init__" "Owners.__init__" s_Owners_init f fd) : Binds K fd ["self"] [] := F.binds fun _ _ _ _ _ _ us hl => match us, hl with | [_], _ => rfl
theorem sc_Owners_enter : FnScope ["self", "page", "blank"] ["self", "page", "blank"] (defScope s_Owners_enter) := ⟨rfl, rfl, rfl, by decide +kernel, rfl, by decide +kernel, by decide +kernel⟩
theorem ln_Owners_enter {vs : List V} {H : Hp} {Q : VK} {E : XK} (h : sp_Owners_enter K A vs H Q E) : vs.length = 3 := by
  first | (obtain ⟨_, rfl, _⟩ := h; rfl) | (obtain ⟨_, _, rfl, _⟩ := h; rfl) | (obtain ⟨_, _, _, rfl, _⟩ := h; rfl) | (obtain ⟨_, _, _, _, rfl, _⟩ := h; rfl) | (obtain ⟨_, _, _, _, _, rfl, _⟩ := h; rfl) | (obtain ⟨_, _, _, _, _, _, rfl, _⟩ := h; rfl) | (obtain ⟨_, _, _, _, _, _, _, rfl, _⟩ := h; rfl) | (obtain ⟨_, _, _, _, _, _, _, _, rfl, _⟩ := h; rfl) | (obtain ⟨_, _, _, _, _, _, _, _, _, rfl, _⟩ := h; rfl) | (obtain ⟨_, _, _, _, _, _, _, _, _, _, rfl, _⟩ := h; rfl) | (obtain ⟨_, _, _, _, _, _, _, _, _, _, _, rfl, _⟩ := h; rfl) | (obtain ⟨_, _, _, _, _, _, _, _, _, _, _, _, rfl, _⟩ := h; rfl) | (obtain ⟨_, _, _, _, _, _, _, _, _, _, _, _, _, rfl, _⟩ := h; rfl) | (obtain ⟨_, _, _, _, _, _, _, _, _, _, _, _, _, _, rfl, _⟩ := h; rfl) | (obtain ⟨_, _, _, _, _, _, _, _, _, _, _, _, _, _, _, rfl, _⟩ := h; rfl) | (obtain ⟨_, _, _, _, _, _, _, _, _, _, _, _, _, _, _, _, rfl, _⟩ := h; rfl) | (obtain ⟨_, _, _, _, _, _, _, _, _, _, _, _, _, _, _, _, _, rfl, _⟩ := h; rfl) | (obtain ⟨_, _, _, _, _, _, _, _, _, _, _, _, _, _, _, _, _, _, rfl, _⟩ := h; rfl) | (obtain ⟨_, _, _, _, _, _, _, _, _, _, _, _, _, _, _, _, _, _, _, rfl, _⟩ := h; rfl)
theorem fn_Owners_enter {f : Addr} {fd : FuncData} (F : Fun K "enter" "Owners.enter" s_Owners_enter f fd) (T : Txt mg A) (C : CT K A)  : FnOk P w K mg base CX0 1 f fd ["self", "page", "blank"] (sp_Owners_enter K A) :=
  F.ok sc_Owners_enter (fun vs H Q E h => ln_Owners_enter h) (fun cdv Ar outer s H vs Q E hr h => ⟨t_Owners_enter K A, (pss_cons (ps_dput (hu_of hr) (pe_fld (pv 0) rfl) (pv 1) (pv 2) rfl)
  (pss_one (ps_dput (hu_of hr) (pe_fld (pv 0) rfl) (pv 1) pe_dnewT rfl))), rd_Owners_enter C.w h⟩)
theorem bi_Owners_enter {f : Addr} {fd : FuncData} (F : Fun K "enter" "Owners.enter" s_Owners_enter f fd) : Binds K fd ["self", "page", "blank"] [] := F.binds fun _ _ _ _ _ _ us hl => match us, hl with | [_, _, _], _ => rfl
theorem sc_Owners_owner_of : FnScope ["self", "pointer"] ["self", "pointer"] (defScope s_Owners_owner_of) := ⟨rfl, rfl, rfl, by decide +kernel, rfl, by decide +kernel, by decide +kernel⟩
theorem ln_Owners_owner_of {vs : List V} {H : Hp} {Q : VK} {E : XK} (h : sp_Owners_owner_of K A vs H Q E) : vs.length = 2 := by
  first | (obtain ⟨_, rfl, _⟩ := h; rfl) | (obtain ⟨_, _, rfl, _⟩ := h; rfl) | (obtain ⟨_, _, _, rfl, _⟩ := h; rfl) | (obtain ⟨_, _, _, _, rfl, _⟩ := h; rfl) | (obtain ⟨_, _, _, _, _, rfl, _⟩ := h; rfl) | (obtain ⟨_, _, _, _, _, _, rfl, _⟩ := h; rfl) | (obtain ⟨_, _, _, _, _, _, _, rfl, _⟩ := h; rfl) | (obtain ⟨_, _, _, _, _, _, _, _, rfl, _⟩ := h; rfl) | (obtain ⟨_, _, _, _, _, _, _, _, _, rfl, _⟩ := h; rfl) | (obtain ⟨_, _, _, _, _, _, _, _, _, _, rfl, _⟩ := h; rfl) | (obtain ⟨_, _, _, _, _, _, _, _, _, _, _, rfl, _⟩ := h; rfl) | (obtain ⟨_, _, _, _, _, _, _, _, _, _, _, _, rfl, _⟩ := h; rfl) | (obtain ⟨_, _, _, _, _, _, _, _, _, _, _, _, _, rfl, _⟩ := h; rfl) | (obtain ⟨_, _, _, _, _, _, _, _, _, _, _, _, _, _, rfl, _⟩ := h; rfl) | (obtain ⟨_, _, _, _, _, _, _, _, _, _, _, _, _, _, _, rfl, _⟩ := h; rfl) | (obtain ⟨_, _, _, _, _, _, _, _, _, _, _, _, _, _, _, _, rfl, _⟩ := h; rfl) | (obtain ⟨_, _, _, _, _, _, _, _, _, _, _, _, _, _, _, _, _, rfl, _⟩ := h; rfl) | (obtain ⟨_, _, _, _, _, _, _, _, _, _, _, _, _, _, _, _, _, _, rfl, _⟩ := h; rfl) | (obtain ⟨_, _, _, _, _, _, _, _, _, _, _, _, _, _, _, _, _, _, _, rfl, _⟩ := h; rfl)
theorem fn_Owners_owner_of {f : Addr} {fd : FuncData} (F : Fun K "owner_of" "Owners.owner_of" s_Owners_owner_of f fd) (T : Txt mg A) (C : CT K A)  : FnOk P w K mg base CX0 1 f fd ["self", "pointer"] (sp_Owners_owner_of K A) :=
  F.ok sc_Owners_owner_of (fun vs H Q E h => ln_Owners_owner_of h) (fun cdv Ar outer s H vs Q E hr h => ⟨t_Owners_owner_of K A, (pss_one (ps_ret (pe_dget (hu_of hr) (pe_fld (pv 0) rfl) (pv 1) (fun _ _ => rfl)))), rd_Owners_owner_of C.w h⟩)
theorem bi_Owners_owner_of {f : Addr} {fd : FuncData} (F : Fun K "owner_of" "Owners.owner_of" s_Owners_owner_of f fd) : Binds K fd ["self", "pointer"] [] := F.binds fun _ _ _ _ _ _ us hl => match us, hl with | [_, _], _ => rfl
theorem sc_Owners_hand_over : FnScope ["self", "pointer", "before", "after"] ["self", "pointer"] (defScope s_Owners_hand_over) := ⟨rfl, rfl, rfl, by decide +kernel, rfl, by decide +kernel, by decide +kernel⟩
theorem ln_Owners_hand_over {vs : List V} {H : Hp} {Q : VK} {E : XK} (h : sp_Owners_hand_over K A vs H Q E) : vs.length = 2 := by
  first | (obtain ⟨_, rfl, _⟩ := h; rfl) | (obtain ⟨_, _, rfl, _⟩ := h; rfl) | (obtain ⟨_, _, _, rfl, _⟩ := h; rfl) | (obtain ⟨_, _, _, _, rfl, _⟩ := h; rfl) | (obtain ⟨_, _, _, _, _, rfl, _⟩ := h; rfl) | (obtain ⟨_, _, _, _, _, _, rfl, _⟩ := h; rfl) | (obtain ⟨_, _, _, _, _, _, _, rfl, _⟩ := h; rfl) | (obtain ⟨_, _, _, _, _, _, _, _, rfl, _⟩ := h; rfl) | (obtain ⟨_, _, _, _, _, _, _, _, _, rfl, _⟩ := h; rfl) | (obtain ⟨_, _, _, _, _, _, _, _, _, _, rfl, _⟩ := h; rfl) | (obtain ⟨_, _, _, _, _, _, _, _, _, _, _, rfl, _⟩ := h; rfl) | (obtain ⟨_, _, _, _, _, _, _, _, _, _, _, _, rfl, _⟩ := h; rfl) | (obtain ⟨_, _, _, _, _, _, _, _, _, _, _, _, _, rfl, _⟩ := h; rfl) | (obtain ⟨_, _, _, _, _, _, _, _, _, _, _, _, _, _, rfl, _⟩ := h; rfl) | (obtain ⟨_, _, _, _, _, _, _, _, _, _, _, _, _, _, _, rfl, _⟩ := h; rfl) | (obtain ⟨_, _, _, _, _, _, _, _, _, _, _, _, _, _, _, _, rfl, _⟩ := h; rfl) | (obtain ⟨_, _, _, _, _, _, _, _, _, _, _, _, _, _, _, _, _, rfl, _⟩ := h; rfl) | (obtain ⟨_, _, _, _, _, _, _, _, _, _, _, _, _, _, _, _, _, _, rfl, _⟩ := h; rfl) | (obtain ⟨_, _, _, _, _, _, _, _, _, _, _, _, _, _, _, _, _, _, _, rfl, _⟩ := h; rfl)
theorem fn_Owners_hand_over {f : Addr} {fd : FuncData} (F : Fun K "hand_over" "Owners.hand_over" s_Owners_hand_over f fd) (T : Txt mg A) (C : CT K A)  : FnOk P w K mg base CX0 1 f fd ["self", "pointer"] (sp_Owners_hand_over K A) :=
  F.ok sc_Owners_hand_over (fun vs H Q E h => ln_Owners_hand_over h) (fun cdv Ar outer s H vs Q E hr h => ⟨t_Owners_hand_over K A, (pss_cons (ps_set (i := 2) sc_Owners_hand_over.nd rfl (by first | exact Or.inl rfl | exact Or.inr rfl) (pe_dget (hu_of hr) (pe_fld (pv 0) rfl) (pv 1) (fun _ _ => rfl)))
  (pss_cons (ps_set (i := 3) sc_Owners_hand_over.nd rfl (by first | exact Or.inl rfl | exact Or.inr rfl) (pe_bm PySem.F.plainAttrs_dict PySem.F.slot_dict_pop PySem.F.type_dict_pop (DX.mt_pop1T (hu_of hr)) (pe_dget (hu_of hr) (pe_fld (pv 0) rfl) (pv 2) (fun _ _ => rfl)) (pa_cons (pv 1) pa_nil)))
  (pss_cons (ps_dput (hu_of hr) (pe_dget (hu_of hr) (pe_fld (pv 0) rfl) (pv 3) (fun _ _ => rfl)) (pv 1) (pv 2) rfl)
  (pss_cons (ps_dput (hu_of hr) (pe_fld (pv 0) rfl) (pv 1) (pv 3) rfl)
  (pss_cons (ps_daug (hu_of hr) (pe_fld (pv 0) rfl) (pv 2) pe_int ip_add (fun _ _ _ => rfl))
  (pss_one (ps_daug (hu_of hr) (pe_fld (pv 0) rfl) (pv 3) pe_int ip_sub (fun _ _ _ => rfl)))))))), rd_Owners_hand_over C.w h⟩)
theorem bi_Owners_hand_over {f : Addr} {fd : FuncData} (F : Fun K "hand_over" "Owners.hand_over" s_Owners_hand_over f fd) : Binds K fd ["self", "pointer"] [] := F.binds fun _ _ _ _ _ _ us hl => match us, hl with | [_, _], _ => rfl
theorem sc_Ownersfind_chain : FnScope ["self", "starts", "came_by", "page", "waiting", "at", "owned", "pointer", "other"] ["self", "starts"] (defScope s_Ownersfind_chain) := ⟨rfl, rfl, rfl, by decide +kernel, rfl, by decide +kernel, by decide +kernel⟩
theorem ln_Ownersfind_chain {vs : List V} {H : Hp} {Q : VK} {E : XK} (h : sp_Ownersfind_chain K A vs H Q E) : vs.length = 2 := by
  first | (obtain ⟨_, rfl, _⟩ := h; rfl) | (obtain ⟨_, _, rfl, _⟩ := h; rfl) | (obtain ⟨_, _, _, rfl, _⟩ := h; rfl) | (obtain ⟨_, _, _, _, rfl, _⟩ := h; rfl) | (obtain ⟨_, _, _, _, _, rfl, _⟩ := h; rfl) | (obtain ⟨_, _, _, _, _, _, rfl, _⟩ := h; rfl) | (obtain ⟨_, _, _, _, _, _, _, rfl, _⟩ := h; rfl) | (obtain ⟨_, _, _, _, _, _, _, _, rfl, _⟩ := h; rfl) | (obtain ⟨_, _, _, _, _, _, _, _, _, rfl, _⟩ := h; rfl) | (obtain ⟨_, _, _, _, _, _, _, _, _, _, rfl, _⟩ := h; rfl) | (obtain ⟨_, _, _, _, _, _, _, _, _, _, _, rfl, _⟩ := h; rfl) | (obtain ⟨_, _, _, _, _, _, _, _, _, _, _, _, rfl, _⟩ := h; rfl) | (obtain ⟨_, _, _, _, _, _, _, _, _, _, _, _, _, rfl, _⟩ := h; rfl) | (obtain ⟨_, _, _, _, _, _, _, _, _, _, _, _, _, _, rfl, _⟩ := h; rfl) | (obtain ⟨_, _, _, _, _, _, _, _, _, _, _, _, _, _, _, rfl, _⟩ := h; rfl) | (obtain ⟨_, _, _, _, _, _, _, _, _, _, _, _, _, _, _, _, rfl, _⟩ := h; rfl) | (obtain ⟨_, _, _, _, _, _, _, _, _, _, _, _, _, _, _, _, _, rfl, _⟩ := h; rfl) | (obtain ⟨_, _, _, _, _, _, _, _, _, _, _, _, _, _, _, _, _, _, rfl, _⟩ := h; rfl) | (obtain ⟨_, _, _, _, _, _, _, _, _, _, _, _, _, _, _, _, _, _, _, rfl, _⟩ := h; rfl)
theorem fn_Ownersfind_chain {f : Addr} {fd : FuncData} (F : Fun K "_find_chain" "Owners._find_chain" s_Ownersfind_chain f fd) (T : Txt mg A) (C : CT K A)  : FnOk P w K mg base CX0 1 f fd ["self", "starts"] (sp_Ownersfind_chain K A) :=
  F.ok sc_Ownersfind_chain (fun vs H Q E h => ln_Ownersfind_chain h) (fun cdv Ar outer s H vs Q E hr h => ⟨t_Ownersfind_chain K A, (pss_cons (GT.ps_setDc (i := 2) (own := [("page", 3)]) (g := (gName 3)) (tt := tYes) rfl sc_Ownersfind_chain.nd rfl rfl (GT.sw_trueD rfl rfl rfl (by decide +kernel)) (pi_list (pv 1)) (blkOk_by (own := [("page", 3)]) (N := ["self", "starts", "came_by", "page", "waiting", "at", "owned", "pointer", "other"]) (sc := defScope s_Ownersfind_chain) (by decide +kernel)) (fun _ _ _ _ _ => (pg_name (i := 3) sc_Ownersfind_chain.nd rfl (by first | exact Or.inl rfl | exact Or.inr rfl))) (fun _ _ _ _ _ => pts_nil) (fun _ _ _ _ _ => (pv 3)) (fun _ _ _ _ _ => pe_non))
  (pss_cons (ps_set (i := 4) sc_Ownersfind_chain.nd rfl (by first | exact Or.inl rfl | exact Or.inr rfl) (pe_callTy call_list_of (by rfl) T.b_list (by decide +kernel) (pa_cons (pv 1) pa_nil)))
  (pss_cons (ps_set (i := 5) sc_Ownersfind_chain.nd rfl (by first | exact Or.inl rfl | exact Or.inr rfl) pe_int)
  (pss_cons (ps_while PassesOwn.never (pt_cmpR op_lt (pv 5) (pe_callB call_len_seq (by rfl) T.b_len (by decide +kernel) (pa_cons (pv 4) pa_nil)) (nomark _)) (pss_cons (ps_set (i := 6) sc_Ownersfind_chain.nd rfl (by first | exact Or.inl rfl | exact Or.inr rfl) (pe_dget (hu_of hr) (pe_fld (pv 0) rfl) (pe_ix ix_list (pv 4) (pv 5) (fun _ _ => rfl)) (fun _ _ => rfl)))
  (pss_cons (ps_lock (ps_for PassesOwn.never rfl (GT.pi_itemsT (pv 6)) (pg_tup rfl (pgs_cons (pg_name (i := 7) sc_Ownersfind_chain.nd rfl (by first | exact Or.inl rfl | exact Or.inr rfl)) (pgs_cons (pg_name (i := 8) sc_Ownersfind_chain.nd rfl (by first | exact Or.inl rfl | exact Or.inr rfl)) pgs_nil)))
  (pss_one (ps_if (pt_cmp (pc_dnotin (hu_of hr) (pv 8) (pv 2))) (pss_cons (ps_dput (hu_of hr) (pv 2) (pv 8) (pv 7) rfl)
  (pss_cons (ps_if (pt_cmpR op_gt (pe_dget (hu_of hr) (pe_fld (pv 0) rfl) (pv 8) (fun _ _ => rfl)) pe_int (nomark _)) (pss_one (ps_ret (pe_tup (pa_cons (pv 8) (pa_cons (pv 2) pa_nil))))) pss_nil)
  (pss_one (ps_expr (pe_bm PySem.F.plainAttrs_list PySem.F.slot_list_append PySem.F.type_list_append mt_append (pv 4) (pa_cons (pv 8) pa_nil)))))) pss_nil))))
  (pss_one (ps_aug (i := 5) sc_Ownersfind_chain.nd rfl (by first | exact Or.inl rfl | exact Or.inr rfl) pe_int ip_add)))))
  (pss_one (ps_ret (pe_tup (pa_cons pe_non (pa_cons (pv 2) pa_nil))))))))), rd_Ownersfind_chain C.w h⟩)
theorem bi_Ownersfind_chain {f : Addr} {fd : FuncData} (F : Fun K "_find_chain" "Owners._find_chain" s_Ownersfind_chain f fd) : Binds K fd ["self", "starts"] [] := F.binds fun _ _ _ _ _ _ us hl => match us, hl with | [_, _], _ => rfl
theorem sc_Ownersshift : FnScope ["self", "came_by", "last", "page", "pointer"] ["self", "came_by", "last"] (defScope s_Ownersshift) := ⟨rfl, rfl, rfl, by decide +kernel, rfl, by decide +kernel, by decide +kernel⟩
theorem ln_Ownersshift {vs : List V} {H : Hp} {Q : VK} {E : XK} (h : sp_Ownersshift K A vs H Q E) : vs.length = 3 := by
  first | (obtain ⟨_, rfl, _⟩ := h; rfl) | (obtain ⟨_, _, rfl, _⟩ := h; rfl) | (obtain ⟨_, _, _, rfl, _⟩ := h; rfl) | (obtain ⟨_, _, _, _, rfl, _⟩ := h; rfl) | (obtain ⟨_, _, _, _, _, rfl, _⟩ := h; rfl) | (obtain ⟨_, _, _, _, _, _, rfl, _⟩ := h; rfl) | (obtain ⟨_, _, _, _, _, _, _, rfl, _⟩ := h; rfl) | (obtain ⟨_, _, _, _, _, _, _, _, rfl, _⟩ := h; rfl) | (obtain ⟨_, _, _, _, _, _, _, _, _, rfl, _⟩ := h; rfl) | (obtain ⟨_, _, _, _, _, _, _, _, _, _, rfl, _⟩ := h; rfl) | (obtain ⟨_, _, _, _, _, _, _, _, _, _, _, rfl, _⟩ := h; rfl) | (obtain ⟨_, _, _, _, _, _, _, _, _, _, _, _, rfl, _⟩ := h; rfl) | (obtain ⟨_, _, _, _, _, _, _, _, _, _, _, _, _, rfl, _⟩ := h; rfl) | (obtain ⟨_, _, _, _, _, _, _, _, _, _, _, _, _, _, rfl, _⟩ := h; rfl) | (obtain ⟨_, _, _, _, _, _, _, _, _, _, _, _, _, _, _, rfl, _⟩ := h; rfl) | (obtain ⟨_, _, _, _, _, _, _, _, _, _, _, _, _, _, _, _, rfl, _⟩ := h; rfl) | (obtain ⟨_, _, _, _, _, _, _, _, _, _, _, _, _, _, _, _, _, rfl, _⟩ := h; rfl) | (obtain ⟨_, _, _, _, _, _, _, _, _, _, _, _, _, _, _, _, _, _, rfl, _⟩ := h; rfl) | (obtain ⟨_, _, _, _, _, _, _, _, _, _, _, _, _, _, _, _, _, _, _, rfl, _⟩ := h; rfl)
theorem fn_Ownersshift {f : Addr} {fd : FuncData} (F : Fun K "_shift" "Owners._shift" s_Ownersshift f fd) (T : Txt mg A) (C : CT K A) (C_Owners_hand_over : C8.Met P w K mg base 1 A.Owners "hand_over" (sp_Owners_hand_over K A) []) : FnOk P w K mg base CX0 2 f fd ["self", "came_by", "last"] (sp_Ownersshift K A) :=
  F.ok sc_Ownersshift (fun vs H Q E h => ln_Ownersshift h) (fun cdv Ar outer s H vs Q E hr h => ⟨t_Ownersshift K A, (pss_cons (ps_set (i := 3) sc_Ownersshift.nd rfl (by first | exact Or.inl rfl | exact Or.inr rfl) (pv 2))
  (pss_cons (ps_while PassesOwn.never (pt_cmp (pc_notN (pe_dget (hu_of hr) (pv 1) (pv 3) (fun _ _ => rfl)))) (pss_cons (ps_set (i := 4) sc_Ownersshift.nd rfl (by first | exact Or.inl rfl | exact Or.inr rfl) (pe_dget (hu_of hr) (pv 1) (pv 3) (fun _ _ => rfl)))
  (pss_cons (ps_set (i := 3) sc_Ownersshift.nd rfl (by first | exact Or.inl rfl | exact Or.inr rfl) (pe_dget (hu_of hr) (pe_fld (pv 0) rfl) (pv 4) (fun _ _ => rfl)))
  (pss_one (ps_expr (C8.pe_mt C_Owners_hand_over hr (by decide) (pv 0) (pa_cons (pv 4) pa_nil)))))))
  (pss_one (ps_ret (pv 3))))), rd_Ownersshift C.w h⟩)
theorem bi_Ownersshift {f : Addr} {fd : FuncData} (F : Fun K "_shift" "Owners._shift" s_Ownersshift f fd) : Binds K fd ["self", "came_by", "last"] [] := F.binds fun _ _ _ _ _ _ us hl => match us, hl with | [_, _, _], _ => rfl
theorem sc_Owners_add_pointer : FnScope ["self", "pointer", "holder", "target", "start", "last", "came_by"] ["self", "pointer"] (defScope s_Owners_add_pointer) := ⟨rfl, rfl, rfl, by decide +kernel, rfl, by decide +kernel, by decide +kernel⟩
theorem ln_Owners_add_pointer {vs : List V} {H : Hp} {Q : VK} {E : XK} (h : sp_Owners_add_pointer K A vs H Q E) : vs.length = 2 := by
  first | (obtain ⟨_, rfl, _⟩ := h; rfl) | (obtain ⟨_, _, rfl, _⟩ := h; rfl) | (obtain ⟨_, _, _, rfl, _⟩ := h; rfl) | (obtain ⟨_, _, _, _, rfl, _⟩ := h; rfl) | (obtain ⟨_, _, _, _, _, rfl, _⟩ := h; rfl) | (obtain ⟨_, _, _, _, _, _, rfl, _⟩ := h; rfl) | (obtain ⟨_, _, _, _, _, _, _, rfl, _⟩ := h; rfl) | (obtain ⟨_, _, _, _, _, _, _, _, rfl, _⟩ := h; rfl) | (obtain ⟨_, _, _, _, _, _, _, _, _, rfl, _⟩ := h; rfl) | (obtain ⟨_, _, _, _, _, _, _, _, _, _, rfl, _⟩ := h; rfl) | (obtain ⟨_, _, _, _, _, _, _, _, _, _, _, rfl, _⟩ := h; rfl) | (obtain ⟨_, _, _, _, _, _, _, _, _, _, _, _, rfl, _⟩ := h; rfl) | (obtain ⟨_, _, _, _, _, _, _, _, _, _, _, _, _, rfl, _⟩ := h; rfl) | (obtain ⟨_, _, _, _, _, _, _, _, _, _, _, _, _, _, rfl, _⟩ := h; rfl) | (obtain ⟨_, _, _, _, _, _, _, _, _, _, _, _, _, _, _, rfl, _⟩ := h; rfl) | (obtain ⟨_, _, _, _, _, _, _, _, _, _, _, _, _, _, _, _, rfl, _⟩ := h; rfl) | (obtain ⟨_, _, _, _, _, _, _, _, _, _, _, _, _, _, _, _, _, rfl, _⟩ := h; rfl) | (obtain ⟨_, _, _, _, _, _, _, _, _, _, _, _, _, _, _, _, _, _, rfl, _⟩ := h; rfl) | (obtain ⟨_, _, _, _, _, _, _, _, _, _, _, _, _, _, _, _, _, _, _, rfl, _⟩ := h; rfl)
theorem fn_Owners_add_pointer {f : Addr} {fd : FuncData} (F : Fun K "add_pointer" "Owners.add_pointer" s_Owners_add_pointer f fd) (T : Txt mg A) (C : CT K A) (C_Ownersfind_chain : C8.Met P w K mg base 1 A.Owners "_find_chain" (sp_Ownersfind_chain K A) []) (C_Ownersshift : C8.Met P w K mg base 2 A.Owners "_shift" (sp_Ownersshift K A) []) : FnOk P w K mg base CX0 3 f fd ["self", "pointer"] (sp_Owners_add_pointer K A) :=
  F.ok sc_Owners_add_pointer (fun vs H Q E h => ln_Owners_add_pointer h) (fun cdv Ar outer s H vs Q E hr h => ⟨t_Owners_add_pointer K A, (pss_cons (ps_asg (pv 1) (pg_tup rfl (pgs_cons (pg_name (i := 2) sc_Owners_add_pointer.nd rfl (by first | exact Or.inl rfl | exact Or.inr rfl)) (pgs_cons (pg_name (i := 3) sc_Owners_add_pointer.nd rfl (by first | exact Or.inl rfl | exact Or.inr rfl)) pgs_nil))))
  (pss_cons (ps_set (i := 4) sc_Owners_add_pointer.nd rfl (by first | exact Or.inl rfl | exact Or.inr rfl) (pe_ifExp (pt_cmpR op_ge (pe_dget (hu_of hr) (pe_fld (pv 0) rfl) (pv 2) (fun _ _ => rfl)) (pe_dget (hu_of hr) (pe_fld (pv 0) rfl) (pv 3) (fun _ _ => rfl)) (nomark _)) (pv 2) (pv 3)))
  (pss_cons (ps_if (pt_cmpR op_le (pe_dget (hu_of hr) (pe_fld (pv 0) rfl) (pv 4) (fun _ _ => rfl)) pe_int (nomark _)) (pss_cons (ps_asg (C8.pe_mt C_Ownersfind_chain hr (by decide) (pv 0) (pa_cons (pe_lst (pa_cons (pv 2) (pa_cons (pv 3) pa_nil))) pa_nil)) (pg_tup rfl (pgs_cons (pg_name (i := 5) sc_Owners_add_pointer.nd rfl (by first | exact Or.inl rfl | exact Or.inr rfl)) (pgs_cons (pg_name (i := 6) sc_Owners_add_pointer.nd rfl (by first | exact Or.inl rfl | exact Or.inr rfl)) pgs_nil))))
  (pss_cons (ps_if (pt_cmp (pc_isN (pv 5))) (pss_one (ps_ret (pe_callB cr_sortedI (by rfl) T.b_sorted (by decide +kernel) (pa_cons (pe_callTy (call_list_dK rfl) (by rfl) T.b_list (by decide +kernel) (pa_cons (pv 6) pa_nil)) pa_nil)))) pss_nil)
  (pss_one (ps_set (i := 4) sc_Owners_add_pointer.nd rfl (by first | exact Or.inl rfl | exact Or.inr rfl) (C8.pe_mt C_Ownersshift hr (by decide) (pv 0) (pa_cons (pv 6) (pa_cons (pv 5) pa_nil))))))) pss_nil)
  (pss_cons (ps_daug (hu_of hr) (pe_fld (pv 0) rfl) (pv 4) pe_int ip_sub (fun _ _ _ => rfl))
  (pss_cons (ps_dput (hu_of hr) (pe_dget (hu_of hr) (pe_fld (pv 0) rfl) (pv 4) (fun _ _ => rfl)) (pv 1) (pe_ifExp (pt_cmpR op_eq (pv 4) (pv 2) (nomark _)) (pv 3) (pv 2)) rfl)
  (pss_cons (ps_dput (hu_of hr) (pe_fld (pv 0) rfl) (pv 1) (pv 4) rfl)
  (pss_one (ps_ret pe_non)))))))), rd_Owners_add_pointer C.w h⟩)
theorem bi_Owners_add_pointer {f : Addr} {fd : FuncData} (F : Fun K "add_pointer" "Owners.add_pointer" s_Owners_add_pointer f fd) : Binds K fd ["self", "pointer"] [] := F.binds fun _ _ _ _ _ _ us hl => match us, hl with | [_, _], _ => rfl
theorem sc_entered : FnScope ["standing", "pages", "owners", "page"] ["standing", "pages"] (defScope s_entered) := ⟨rfl, rfl, rfl, by decide +kernel, rfl, by decide +kernel, by decide +kernel⟩
theorem ln_entered {vs : List V} {H : Hp} {Q : VK} {E : XK} (h : sp_entered K A vs H Q E) : vs.length = 2 := by
  first | (obtain ⟨_, rfl, _⟩ := h; rfl) | (obtain ⟨_, _, rfl, _⟩ := h; rfl) | (obtain ⟨_, _, _, rfl, _⟩ := h; rfl) | (obtain ⟨_, _, _, _, rfl, _⟩ := h; rfl) | (obtain ⟨_, _, _, _, _, rfl, _⟩ := h; rfl) | (obtain ⟨_, _, _, _, _, _, rfl, _⟩ := h; rfl) | (obtain ⟨_, _, _, _, _, _, _, rfl, _⟩ := h; rfl) | (obtain ⟨_, _, _, _, _, _, _, _, rfl, _⟩ := h; rfl) | (obtain ⟨_, _, _, _, _, _, _, _, _, rfl, _⟩ := h; rfl) | (obtain ⟨_, _, _, _, _, _, _, _, _, _, rfl, _⟩ := h; rfl) | (obtain ⟨_, _, _, _, _, _, _, _, _, _, _, rfl, _⟩ := h; rfl) | (obtain ⟨_, _, _, _, _, _, _, _, _, _, _, _, rfl, _⟩ := h; rfl) | (obtain ⟨_, _, _, _, _, _, _, _, _, _, _, _, _, rfl, _⟩ := h; rfl) | (obtain ⟨_, _, _, _, _, _, _, _, _, _, _, _, _, _, rfl, _⟩ := h; rfl) | (obtain ⟨_, _, _, _, _, _, _, _, _, _, _, _, _, _, _, rfl, _⟩ := h; rfl) | (obtain ⟨_, _, _, _, _, _, _, _, _, _, _, _, _, _, _, _, rfl, _⟩ := h; rfl) | (obtain ⟨_, _, _, _, _, _, _, _, _, _, _, _, _, _, _, _, _, rfl, _⟩ := h; rfl) | (obtain ⟨_, _, _, _, _, _, _, _, _, _, _, _, _, _, _, _, _, _, rfl, _⟩ := h; rfl) | (obtain ⟨_, _, _, _, _, _, _, _, _, _, _, _, _, _, _, _, _, _, _, rfl, _⟩ := h; rfl)
theorem fn_entered {f : Addr} {fd : FuncData} (F : Fun K "_entered" "_entered" s_entered f fd) (T : Txt mg A) (C : CT K A) (C_Owners_init : C8.Mak P w K mg base 1 "Owners" A.Owners (sp_Owners_init K A) []) (C_Owners_enter : C8.Met P w K mg base 1 A.Owners "enter" (sp_Owners_enter K A) []) (C_Standing_blank_of : GX.MetX P w K mg base 4 A.Standing "blank_of" (sp_Standing_blank_of K A)) : FnOk P w K mg base CX0 5 f fd ["standing", "pages"] (sp_entered K A) :=
  F.ok sc_entered (fun vs H Q E h => ln_entered h) (fun cdv Ar outer s H vs Q E hr h => ⟨t_entered K A, (pss_cons (ps_set (i := 2) sc_entered.nd rfl (by first | exact Or.inl rfl | exact Or.inr rfl) (GT.pe_mk0 C_Owners_init hr (by decide) (by rfl)))
  (pss_cons (ps_for PassesOwn.never rfl (pi_list (pv 1)) (pg_name (i := 3) sc_entered.nd rfl (by first | exact Or.inl rfl | exact Or.inr rfl))
  (pss_one (ps_expr (C8.pe_mt C_Owners_enter hr (by decide) (pv 2) (pa_cons (pv 3) (pa_cons (GX.pe_mtX C_Standing_blank_of hr (by decide) passL (pv 0) (pa_cons (pv 3) pa_nil)) pa_nil))))))
  (pss_one (ps_ret (pv 2))))), rd_entered C.s C.w h⟩)
theorem bi_entered {f : Addr} {fd : FuncData} (F : Fun K "_entered" "_entered" s_entered f fd) : Binds K fd ["standing", "pages"] [] := F.binds fun _ _ _ _ _ _ us hl => match us, hl with | [_, _], _ => rfl
theorem sc_dealt : FnScope ["standing", "owners", "pointer", "lot"] ["standing"] (defScope s_dealt) := ⟨rfl, rfl, rfl, by decide +kernel, rfl, by decide +kernel, by decide +kernel⟩
theorem ln_dealt {vs : List V} {H : Hp} {Q : VK} {E : XK} (h : sp_dealt K A vs H Q E) : vs.length = 1 := by
  first | (obtain ⟨_, rfl, _⟩ := h; rfl) | (obtain ⟨_, _, rfl, _⟩ := h; rfl) | (obtain ⟨_, _, _, rfl, _⟩ := h; rfl) | (obtain ⟨_, _, _, _, rfl, _⟩ := h; rfl) | (obtain ⟨_, _, _, _, _, rfl, _⟩ := h; rfl) | (obtain ⟨_, _, _, _, _, _, rfl, _⟩ := h; rfl) | (obtain ⟨_, _, _, _, _, _, _, rfl, _⟩ := h; rfl) | (obtain ⟨_, _, _, _, _, _, _, _, rfl, _⟩ := h; rfl) | (obtain ⟨_, _, _, _, _, _, _, _, _, rfl, _⟩ := h; rfl) | (obtain ⟨_, _, _, _, _, _, _, _, _, _, rfl, _⟩ := h; rfl) | (obtain ⟨_, _, _, _, _, _, _, _, _, _, _, rfl, _⟩ := h; rfl) | (obtain ⟨_, _, _, _, _, _, _, _, _, _, _, _, rfl, _⟩ := h; rfl) | (obtain ⟨_, _, _, _, _, _, _, _, _, _, _, _, _, rfl, _⟩ := h; rfl) | (obtain ⟨_, _, _, _, _, _, _, _, _, _, _, _, _, _, rfl, _⟩ := h; rfl) | (obtain ⟨_, _, _, _, _, _, _, _, _, _, _, _, _, _, _, rfl, _⟩ := h; rfl) | (obtain ⟨_, _, _, _, _, _, _, _, _, _, _, _, _, _, _, _, rfl, _⟩ := h; rfl) | (obtain ⟨_, _, _, _, _, _, _, _, _, _, _, _, _, _, _, _, _, rfl, _⟩ := h; rfl) | (obtain ⟨_, _, _, _, _, _, _, _, _, _, _, _, _, _, _, _, _, _, rfl, _⟩ := h; rfl) | (obtain ⟨_, _, _, _, _, _, _, _, _, _, _, _, _, _, _, _, _, _, _, rfl, _⟩ := h; rfl)
theorem fn_dealt {f : Addr} {fd : FuncData} (F : Fun K "_dealt" "_dealt" s_dealt f fd) (T : Txt mg A) (C : CT K A) (C_ShortLot : GX.ErrX P w K mg base 1 "ShortLot" A.ShortLot (GS.sp_lot K A.LotError)) (C_Owners_add_pointer : C8.Met P w K mg base 3 A.Owners "add_pointer" (sp_Owners_add_pointer K A) []) (C_Web_arrows : C8.Met P w K mg base 1 A.Web "arrows" (sp_Web_arrows K A) []) (C_entered : C8.Cal P w K mg base 5 "_entered" (sp_entered K A) []) : FnOk P w K mg base (L2.CX P w) 6 f fd ["standing"] (sp_dealt K A) :=
  F.okX sc_dealt (fun vs H Q E h => ln_dealt h) (fun cdv Ar outer s H vs Q E hr h => ⟨t_dealt K A E, (pss_cons (ps_set (i := 1) sc_dealt.nd rfl (by first | exact Or.inl rfl | exact Or.inr rfl) (C8.pe_c C_entered hr (by decide) (by rfl) (pa_cons (pv 0) (pa_cons (pe_listRg rfl (by rfl) T.b_list (prg_1 (by rfl) T.b_range (pe_fld (pe_fld (pv 0) rfl) rfl))) pa_nil))))
  (pss_cons (ps_for (passes_of rfl) rfl (pi_list (C8.pe_mt0 C_Web_arrows hr (by decide) (pe_fld (pv 0) rfl))) (pg_name (i := 2) sc_dealt.nd rfl (by first | exact Or.inl rfl | exact Or.inr rfl))
  (pss_cons (ps_set (i := 3) sc_dealt.nd rfl (by first | exact Or.inl rfl | exact Or.inr rfl) (C8.pe_mt C_Owners_add_pointer hr (by decide) (pv 1) (pa_cons (pv 2) pa_nil)))
  (pss_one (ps_if (pt_cmp (pc_notN (pv 3))) (pss_one (GX.ps_raiseO C_ShortLot hr (by decide) rfl (by rfl) (takes_of rfl rfl rfl rfl) (pa_cons (pv 3) pa_nil))) pss_nil))))
  (pss_one (ps_ret (pv 1))))), rd_dealt C.s C.w C.l h⟩)
theorem bi_dealt {f : Addr} {fd : FuncData} (F : Fun K "_dealt" "_dealt" s_dealt f fd) : Binds K fd ["standing"] [] := F.binds fun _ _ _ _ _ _ us hl => match us, hl with | [_], _ => rfl
theorem sc_owner_list : FnScope ["standing", "owners", "pointer"] ["standing", "owners"] (defScope s_owner_list) := ⟨rfl, rfl, rfl, by decide +kernel, rfl, by decide +kernel, by decide +kernel⟩
theorem ln_owner_list {vs : List V} {H : Hp} {Q : VK} {E : XK} (h : sp_owner_list K A vs H Q E) : vs.length = 2 := by
  first | (obtain ⟨_, rfl, _⟩ := h; rfl) | (obtain ⟨_, _, rfl, _⟩ := h; rfl) | (obtain ⟨_, _, _, rfl, _⟩ := h; rfl) | (obtain ⟨_, _, _, _, rfl, _⟩ := h; rfl) | (obtain ⟨_, _, _, _, _, rfl, _⟩ := h; rfl) | (obtain ⟨_, _, _, _, _, _, rfl, _⟩ := h; rfl) | (obtain ⟨_, _, _, _, _, _, _, rfl, _⟩ := h; rfl) | (obtain ⟨_, _, _, _, _, _, _, _, rfl, _⟩ := h; rfl) | (obtain ⟨_, _, _, _, _, _, _, _, _, rfl, _⟩ := h; rfl) | (obtain ⟨_, _, _, _, _, _, _, _, _, _, rfl, _⟩ := h; rfl) | (obtain ⟨_, _, _, _, _, _, _, _, _, _, _, rfl, _⟩ := h; rfl) | (obtain ⟨_, _, _, _, _, _, _, _, _, _, _, _, rfl, _⟩ := h; rfl) | (obtain ⟨_, _, _, _, _, _, _, _, _, _, _, _, _, rfl, _⟩ := h; rfl) | (obtain ⟨_, _, _, _, _, _, _, _, _, _, _, _, _, _, rfl, _⟩ := h; rfl) | (obtain ⟨_, _, _, _, _, _, _, _, _, _, _, _, _, _, _, rfl, _⟩ := h; rfl) | (obtain ⟨_, _, _, _, _, _, _, _, _, _, _, _, _, _, _, _, rfl, _⟩ := h; rfl) | (obtain ⟨_, _, _, _, _, _, _, _, _, _, _, _, _, _, _, _, _, rfl, _⟩ := h; rfl) | (obtain ⟨_, _, _, _, _, _, _, _, _, _, _, _, _, _, _, _, _, _, rfl, _⟩ := h; rfl) | (obtain ⟨_, _, _, _, _, _, _, _, _, _, _, _, _, _, _, _, _, _, _, rfl, _⟩ := h; rfl)
theorem fn_owner_list {f : Addr} {fd : FuncData} (F : Fun K "_owner_list" "_owner_list" s_owner_list f fd) (T : Txt mg A) (C : CT K A) (C_Owners_owner_of : C8.Met P w K mg base 1 A.Owners "owner_of" (sp_Owners_owner_of K A) []) (C_Web_arrows : C8.Met P w K mg base 1 A.Web "arrows" (sp_Web_arrows K A) []) : FnOk P w K mg base CX0 2 f fd ["standing", "owners"] (sp_owner_list K A) :=
  F.ok sc_owner_list (fun vs H Q E h => ln_owner_list h) (fun cdv Ar outer s H vs Q E hr h => ⟨t_owner_list K A, (pss_one (ps_ret (pe_lc (own := [("pointer", 2)]) (g := (gName 2)) (tt := tYes) rfl sc_owner_list.nd (pi_list (C8.pe_mt0 C_Web_arrows hr (by decide) (pe_fld (pv 0) rfl))) (blkOk_by (own := [("pointer", 2)]) (N := ["standing", "owners", "pointer"]) (sc := defScope s_owner_list) (by decide +kernel)) (fun _ _ _ _ _ => (pg_name (i := 2) sc_owner_list.nd rfl (by first | exact Or.inl rfl | exact Or.inr rfl))) (fun _ _ _ _ _ => pts_nil) (fun _ _ _ _ _ => (C8.pe_mt C_Owners_owner_of hr (by decide) (pv 1) (pa_cons (pv 2) pa_nil)))))), rd_owner_list C.s C.w h⟩)
theorem bi_owner_list {f : Addr} {fd : FuncData} (F : Fun K "_owner_list" "_owner_list" s_owner_list f fd) : Binds K fd ["standing", "owners"] [] := F.binds fun _ _ _ _ _ _ us hl => match us, hl with | [_, _], _ => rfl
theorem sc_Owners_free_of : FnScope ["self", "page"] ["self", "page"] (defScope s_Owners_free_of) := ⟨rfl, rfl, rfl, by decide +kernel, rfl, by decide +kernel, by decide +kernel⟩
theorem ln_Owners_free_of {vs : List V} {H : Hp} {Q : VK} {E : XK} (h : sp_Owners_free_of K A vs H Q E) : vs.length = 2 := by
  first | (obtain ⟨_, rfl, _⟩ := h; rfl) | (obtain ⟨_, _, rfl, _⟩ := h; rfl) | (obtain ⟨_, _, _, rfl, _⟩ := h; rfl) | (obtain ⟨_, _, _, _, rfl, _⟩ := h; rfl) | (obtain ⟨_, _, _, _, _, rfl, _⟩ := h; rfl) | (obtain ⟨_, _, _, _, _, _, rfl, _⟩ := h; rfl) | (obtain ⟨_, _, _, _, _, _, _, rfl, _⟩ := h; rfl) | (obtain ⟨_, _, _, _, _, _, _, _, rfl, _⟩ := h; rfl) | (obtain ⟨_, _, _, _, _, _, _, _, _, rfl, _⟩ := h; rfl) | (obtain ⟨_, _, _, _, _, _, _, _, _, _, rfl, _⟩ := h; rfl) | (obtain ⟨_, _, _, _, _, _, _, _, _, _, _, rfl, _⟩ := h; rfl) | (obtain ⟨_, _, _, _, _, _, _, _, _, _, _, _, rfl, _⟩ := h; rfl) | (obtain ⟨_, _, _, _, _, _, _, _, _, _, _, _, _, rfl, _⟩ := h; rfl) | (obtain ⟨_, _, _, _, _, _, _, _, _, _, _, _, _, _, rfl, _⟩ := h; rfl) | (obtain ⟨_, _, _, _, _, _, _, _, _, _, _, _, _, _, _, rfl, _⟩ := h; rfl) | (obtain ⟨_, _, _, _, _, _, _, _, _, _, _, _, _, _, _, _, rfl, _⟩ := h; rfl) | (obtain ⟨_, _, _, _, _, _, _, _, _, _, _, _, _, _, _, _, _, rfl, _⟩ := h; rfl) | (obtain ⟨_, _, _, _, _, _, _, _, _, _, _, _, _, _, _, _, _, _, rfl, _⟩ := h; rfl) | (obtain ⟨_, _, _, _, _, _, _, _, _, _, _, _, _, _, _, _, _, _, _, rfl, _⟩ := h; rfl)
theorem fn_Owners_free_of {f : Addr} {fd : FuncData} (F : Fun K "free_of" "Owners.free_of" s_Owners_free_of f fd) (T : Txt mg A) (C : CT K A)  : FnOk P w K mg base CX0 1 f fd ["self", "page"] (sp_Owners_free_of K A) :=
  F.ok sc_Owners_free_of (fun vs H Q E h => ln_Owners_free_of h) (fun cdv Ar outer s H vs Q E hr h => ⟨t_Owners_free_of K A, (pss_one (ps_ret (pe_dget (hu_of hr) (pe_fld (pv 0) rfl) (pv 1) (fun _ _ => rfl)))), rd_Owners_free_of C.w h⟩)
theorem bi_Owners_free_of {f : Addr} {fd : FuncData} (F : Fun K "free_of" "Owners.free_of" s_Owners_free_of f fd) : Binds K fd ["self", "page"] [] := F.binds fun _ _ _ _ _ _ us hl => match us, hl with | [_, _], _ => rfl
theorem sc_Owners_free_one : FnScope ["self", "page", "last", "came_by"] ["self", "page"] (defScope s_Owners_free_one) := ⟨rfl, rfl, rfl, by decide +kernel, rfl, by decide +kernel, by decide +kernel⟩
theorem ln_Owners_free_one {vs : List V} {H : Hp} {Q : VK} {E : XK} (h : sp_Owners_free_one K A vs H Q E) : vs.length = 2 := by
  first | (obtain ⟨_, rfl, _⟩ := h; rfl) | (obtain ⟨_, _, rfl, _⟩ := h; rfl) | (obtain ⟨_, _, _, rfl, _⟩ := h; rfl) | (obtain ⟨_, _, _, _, rfl, _⟩ := h; rfl) | (obtain ⟨_, _, _, _, _, rfl, _⟩ := h; rfl) | (obtain ⟨_, _, _, _, _, _, rfl, _⟩ := h; rfl) | (obtain ⟨_, _, _, _, _, _, _, rfl, _⟩ := h; rfl) | (obtain ⟨_, _, _, _, _, _, _, _, rfl, _⟩ := h; rfl) | (obtain ⟨_, _, _, _, _, _, _, _, _, rfl, _⟩ := h; rfl) | (obtain ⟨_, _, _, _, _, _, _, _, _, _, rfl, _⟩ := h; rfl) | (obtain ⟨_, _, _, _, _, _, _, _, _, _, _, rfl, _⟩ := h; rfl) | (obtain ⟨_, _, _, _, _, _, _, _, _, _, _, _, rfl, _⟩ := h; rfl) | (obtain ⟨_, _, _, _, _, _, _, _, _, _, _, _, _, rfl, _⟩ := h; rfl) | (obtain ⟨_, _, _, _, _, _, _, _, _, _, _, _, _, _, rfl, _⟩ := h; rfl) | (obtain ⟨_, _, _, _, _, _, _, _, _, _, _, _, _, _, _, rfl, _⟩ := h; rfl) | (obtain ⟨_, _, _, _, _, _, _, _, _, _, _, _, _, _, _, _, rfl, _⟩ := h; rfl) | (obtain ⟨_, _, _, _, _, _, _, _, _, _, _, _, _, _, _, _, _, rfl, _⟩ := h; rfl) | (obtain ⟨_, _, _, _, _, _, _, _, _, _, _, _, _, _, _, _, _, _, rfl, _⟩ := h; rfl) | (obtain ⟨_, _, _, _, _, _, _, _, _, _, _, _, _, _, _, _, _, _, _, rfl, _⟩ := h; rfl)
theorem fn_Owners_free_one {f : Addr} {fd : FuncData} (F : Fun K "free_one" "Owners.free_one" s_Owners_free_one f fd) (T : Txt mg A) (C : CT K A) (C_Ownersfind_chain : C8.Met P w K mg base 1 A.Owners "_find_chain" (sp_Ownersfind_chain K A) []) (C_Ownersshift : C8.Met P w K mg base 2 A.Owners "_shift" (sp_Ownersshift K A) []) : FnOk P w K mg base CX0 3 f fd ["self", "page"] (sp_Owners_free_one K A) :=
  F.ok sc_Owners_free_one (fun vs H Q E h => ln_Owners_free_one h) (fun cdv Ar outer s H vs Q E hr h => ⟨t_Owners_free_one K A, (pss_cons (ps_asg (C8.pe_mt C_Ownersfind_chain hr (by decide) (pv 0) (pa_cons (pe_lst (pa_cons (pv 1) pa_nil)) pa_nil)) (pg_tup rfl (pgs_cons (pg_name (i := 2) sc_Owners_free_one.nd rfl (by first | exact Or.inl rfl | exact Or.inr rfl)) (pgs_cons (pg_name (i := 3) sc_Owners_free_one.nd rfl (by first | exact Or.inl rfl | exact Or.inr rfl)) pgs_nil))))
  (pss_cons (ps_if (pt_cmp (pc_isN (pv 2))) (pss_one (ps_ret (pe_callB cr_sortedI (by rfl) T.b_sorted (by decide +kernel) (pa_cons (pe_callTy (call_list_dK rfl) (by rfl) T.b_list (by decide +kernel) (pa_cons (pv 3) pa_nil)) pa_nil)))) pss_nil)
  (pss_cons (ps_expr (C8.pe_mt C_Ownersshift hr (by decide) (pv 0) (pa_cons (pv 3) (pa_cons (pv 2) pa_nil))))
  (pss_one (ps_ret pe_non))))), rd_Owners_free_one C.w h⟩)
theorem bi_Owners_free_one {f : Addr} {fd : FuncData} (F : Fun K "free_one" "Owners.free_one" s_Owners_free_one f fd) : Binds K fd ["self", "page"] [] := F.binds fun _ _ _ _ _ _ us hl => match us, hl with | [_, _], _ => rfl
theorem sc_slack : FnScope ["standing", "page", "owners", "lot"] ["standing", "page"] (defScope s_slack) := ⟨rfl, rfl, rfl, by decide +kernel, rfl, by decide +kernel, by decide +kernel⟩
theorem ln_slack {vs : List V} {H : Hp} {Q : VK} {E : XK} (h : sp_slack K A vs H Q E) : vs.length = 2 := by
  first | (obtain ⟨_, rfl, _⟩ := h; rfl) | (obtain ⟨_, _, rfl, _⟩ := h; rfl) | (obtain ⟨_, _, _, rfl, _⟩ := h; rfl) | (obtain ⟨_, _, _, _, rfl, _⟩ := h; rfl) | (obtain ⟨_, _, _, _, _, rfl, _⟩ := h; rfl) | (obtain ⟨_, _, _, _, _, _, rfl, _⟩ := h; rfl) | (obtain ⟨_, _, _, _, _, _, _, rfl, _⟩ := h; rfl) | (obtain ⟨_, _, _, _, _, _, _, _, rfl, _⟩ := h; rfl) | (obtain ⟨_, _, _, _, _, _, _, _, _, rfl, _⟩ := h; rfl) | (obtain ⟨_, _, _, _, _, _, _, _, _, _, rfl, _⟩ := h; rfl) | (obtain ⟨_, _, _, _, _, _, _, _, _, _, _, rfl, _⟩ := h; rfl) | (obtain ⟨_, _, _, _, _, _, _, _, _, _, _, _, rfl, _⟩ := h; rfl) | (obtain ⟨_, _, _, _, _, _, _, _, _, _, _, _, _, rfl, _⟩ := h; rfl) | (obtain ⟨_, _, _, _, _, _, _, _, _, _, _, _, _, _, rfl, _⟩ := h; rfl) | (obtain ⟨_, _, _, _, _, _, _, _, _, _, _, _, _, _, _, rfl, _⟩ := h; rfl) | (obtain ⟨_, _, _, _, _, _, _, _, _, _, _, _, _, _, _, _, rfl, _⟩ := h; rfl) | (obtain ⟨_, _, _, _, _, _, _, _, _, _, _, _, _, _, _, _, _, rfl, _⟩ := h; rfl) | (obtain ⟨_, _, _, _, _, _, _, _, _, _, _, _, _, _, _, _, _, _, rfl, _⟩ := h; rfl) | (obtain ⟨_, _, _, _, _, _, _, _, _, _, _, _, _, _, _, _, _, _, _, rfl, _⟩ := h; rfl)
theorem fn_slack {f : Addr} {fd : FuncData} (F : Fun K "slack" "slack" s_slack f fd) (T : Txt mg A) (C : CT K A) (C_Owners_free_of : C8.Met P w K mg base 1 A.Owners "free_of" (sp_Owners_free_of K A) []) (C_Owners_free_one : C8.Met P w K mg base 3 A.Owners "free_one" (sp_Owners_free_one K A) []) (C_dealt : GX.CalX P w K mg base 6 "_dealt" (sp_dealt K A)) (C_owner_list : C8.Cal P w K mg base 2 "_owner_list" (sp_owner_list K A) []) (C_check_pages : GX.CalX P w K mg base 3 "check_pages" (sp_check_pages K A)) : FnOk P w K mg base (L2.CX P w) 7 f fd ["standing", "page"] (sp_slack K A) :=
  F.okX sc_slack (fun vs H Q E h => ln_slack h) (fun cdv Ar outer s H vs Q E hr h => ⟨t_slack K A E, (pss_cons (ps_expr (GX.pe_cX C_check_pages hr (by decide) (by rfl) (passes_call (takes_of rfl rfl rfl rfl) (fun _ _ _ _ h => h)) (pa_cons (pe_fld (pv 0) rfl) (pa_cons (pe_lst (pa_cons (pv 1) pa_nil)) pa_nil))))
  (pss_cons (ps_set (i := 2) sc_slack.nd rfl (by first | exact Or.inl rfl | exact Or.inr rfl) (GX.pe_cX C_dealt hr (by decide) (by rfl) (passes_call (takes_of rfl rfl rfl rfl) (fun _ _ _ _ h => h)) (pa_cons (pv 0) pa_nil)))
  (pss_cons (ps_set (i := 3) sc_slack.nd rfl (by first | exact Or.inl rfl | exact Or.inr rfl) (C8.pe_mt C_Owners_free_one hr (by decide) (pv 2) (pa_cons (pv 1) pa_nil)))
  (pss_cons (ps_while (passes_of rfl) (pt_cmp (pc_isN (pv 3))) (pss_one (ps_set (i := 3) sc_slack.nd rfl (by first | exact Or.inl rfl | exact Or.inr rfl) (C8.pe_mt C_Owners_free_one hr (by decide) (pv 2) (pa_cons (pv 1) pa_nil)))))
  (pss_one (ps_ret (pe_tup (pa_cons (C8.pe_mt C_Owners_free_of hr (by decide) (pv 2) (pa_cons (pv 1) pa_nil)) (pa_cons (C8.pe_c C_owner_list hr (by decide) (by rfl) (pa_cons (pv 0) (pa_cons (pv 2) pa_nil))) (pa_cons (pv 3) pa_nil)))))))))), rd_slack C.s h⟩)
theorem bi_slack {f : Addr} {fd : FuncData} (F : Fun K "slack" "slack" s_slack f fd) : Binds K fd ["standing", "page"] [] := F.binds fun _ _ _ _ _ _ us hl => match us, hl with | [_, _], _ => rfl
theorem sc_law_cell : FnScope ["script", "k"] ["script", "k"] (defScope s_law_cell) := ⟨rfl, rfl, rfl, by decide +kernel, rfl, by decide +kernel, by decide +kernel⟩
theorem ln_law_cell {vs : List V} {H : Hp} {Q : VK} {E : XK} (h : sp_law_cell K A vs H Q E) : vs.length = 2 := by
  first | (obtain ⟨_, rfl, _⟩ := h; rfl) | (obtain ⟨_, _, rfl, _⟩ := h; rfl) | (obtain ⟨_, _, _, rfl, _⟩ := h; rfl) | (obtain ⟨_, _, _, _, rfl, _⟩ := h; rfl) | (obtain ⟨_, _, _, _, _, rfl, _⟩ := h; rfl) | (obtain ⟨_, _, _, _, _, _, rfl, _⟩ := h; rfl) | (obtain ⟨_, _, _, _, _, _, _, rfl, _⟩ := h; rfl) | (obtain ⟨_, _, _, _, _, _, _, _, rfl, _⟩ := h; rfl) | (obtain ⟨_, _, _, _, _, _, _, _, _, rfl, _⟩ := h; rfl) | (obtain ⟨_, _, _, _, _, _, _, _, _, _, rfl, _⟩ := h; rfl) | (obtain ⟨_, _, _, _, _, _, _, _, _, _, _, rfl, _⟩ := h; rfl) | (obtain ⟨_, _, _, _, _, _, _, _, _, _, _, _, rfl, _⟩ := h; rfl) | (obtain ⟨_, _, _, _, _, _, _, _, _, _, _, _, _, rfl, _⟩ := h; rfl) | (obtain ⟨_, _, _, _, _, _, _, _, _, _, _, _, _, _, rfl, _⟩ := h; rfl) | (obtain ⟨_, _, _, _, _, _, _, _, _, _, _, _, _, _, _, rfl, _⟩ := h; rfl) | (obtain ⟨_, _, _, _, _, _, _, _, _, _, _, _, _, _, _, _, rfl, _⟩ := h; rfl) | (obtain ⟨_, _, _, _, _, _, _, _, _, _, _, _, _, _, _, _, _, rfl, _⟩ := h; rfl) | (obtain ⟨_, _, _, _, _, _, _, _, _, _, _, _, _, _, _, _, _, _, rfl, _⟩ := h; rfl) | (obtain ⟨_, _, _, _, _, _, _, _, _, _, _, _, _, _, _, _, _, _, _, rfl, _⟩ := h; rfl)
theorem fn_law_cell {f : Addr} {fd : FuncData} (F : Fun K "_law_cell" "_law_cell" s_law_cell f fd) (T : Txt mg A) (C : CT K A)  : FnOk P w K mg base CX0 1 f fd ["script", "k"] (sp_law_cell K A) :=
  F.ok sc_law_cell (fun vs H Q E h => ln_law_cell h) (fun cdv Ar outer s H vs Q E hr h => ⟨t_law_cell K A, (pss_cons (ps_if (pt_cmpR op_lt (pv 1) (pe_callB (call_min2 rfl) (by rfl) T.b_min (by decide +kernel) (pa_cons pe_int (pa_cons (pe_callB call_len_seq (by rfl) T.b_len (by decide +kernel) (pa_cons (pv 0) pa_nil)) pa_nil))) (nomark _)) (pss_one (ps_ret (pe_callB call_abs (by rfl) T.b_abs (by decide +kernel) (pa_cons (pe_ix ix_list (pv 0) (pv 1) (fun _ _ => rfl)) pa_nil)))) pss_nil)
  (pss_one (ps_ret (pe_op op_add (pe_op op_add (pe_op op_mul pe_int (pv 1)) pe_int) (pe_op op_mod (pe_callTy call_int1 (by rfl) T.b_int (by decide +kernel) (pa_cons (pe_callB (cr_sum rfl) (by rfl) T.b_sum (by decide +kernel) (pa_cons (pe_slice sl_list (pv 0) po_none (po_some pe_int)) pa_nil)) pa_nil)) pe_int))))), rd_law_cell h⟩)
theorem bi_law_cell {f : Addr} {fd : FuncData} (F : Fun K "_law_cell" "_law_cell" s_law_cell f fd) : Binds K fd ["script", "k"] [] := F.binds fun _ _ _ _ _ _ us hl => match us, hl with | [_, _], _ => rfl
theorem sc_law_source : FnScope ["cell"] ["cell"] (defScope s_law_source) := ⟨rfl, rfl, rfl, by decide +kernel, rfl, by decide +kernel, by decide +kernel⟩
theorem ln_law_source {vs : List V} {H : Hp} {Q : VK} {E : XK} (h : sp_law_source K A vs H Q E) : vs.length = 1 := by
  first | (obtain ⟨_, rfl, _⟩ := h; rfl) | (obtain ⟨_, _, rfl, _⟩ := h; rfl) | (obtain ⟨_, _, _, rfl, _⟩ := h; rfl) | (obtain ⟨_, _, _, _, rfl, _⟩ := h; rfl) | (obtain ⟨_, _, _, _, _, rfl, _⟩ := h; rfl) | (obtain ⟨_, _, _, _, _, _, rfl, _⟩ := h; rfl) | (obtain ⟨_, _, _, _, _, _, _, rfl, _⟩ := h; rfl) | (obtain ⟨_, _, _, _, _, _, _, _, rfl, _⟩ := h; rfl) | (obtain ⟨_, _, _, _, _, _, _, _, _, rfl, _⟩ := h; rfl) | (obtain ⟨_, _, _, _, _, _, _, _, _, _, rfl, _⟩ := h; rfl) | (obtain ⟨_, _, _, _, _, _, _, _, _, _, _, rfl, _⟩ := h; rfl) | (obtain ⟨_, _, _, _, _, _, _, _, _, _, _, _, rfl, _⟩ := h; rfl) | (obtain ⟨_, _, _, _, _, _, _, _, _, _, _, _, _, rfl, _⟩ := h; rfl) | (obtain ⟨_, _, _, _, _, _, _, _, _, _, _, _, _, _, rfl, _⟩ := h; rfl) | (obtain ⟨_, _, _, _, _, _, _, _, _, _, _, _, _, _, _, rfl, _⟩ := h; rfl) | (obtain ⟨_, _, _, _, _, _, _, _, _, _, _, _, _, _, _, _, rfl, _⟩ := h; rfl) | (obtain ⟨_, _, _, _, _, _, _, _, _, _, _, _, _, _, _, _, _, rfl, _⟩ := h; rfl) | (obtain ⟨_, _, _, _, _, _, _, _, _, _, _, _, _, _, _, _, _, _, rfl, _⟩ := h; rfl) | (obtain ⟨_, _, _, _, _, _, _, _, _, _, _, _, _, _, _, _, _, _, _, rfl, _⟩ := h; rfl)
theorem fn_law_source {f : Addr} {fd : FuncData} (F : Fun K "_law_source" "_law_source" s_law_source f fd) (T : Txt mg A) (C : CT K A)  : FnOk P w K mg base CX0 1 f fd ["cell"] (sp_law_source K A) :=
  F.ok sc_law_source (fun vs H Q E h => ln_law_source h) (fun cdv Ar outer s H vs Q E hr h => ⟨t_law_source K A, (pss_cons (ps_if (pt_cmpR op_lt (pv 0) (pe_op op_pow pe_int pe_int) (nomark _)) (pss_one (ps_ret (pe_lst (pa_cons pe_int (pa_cons (pv 0) (pa_cons pe_int pa_nil)))))) pss_nil)
  (pss_one (ps_ret (pe_lst (pa_cons (pv 0) (pa_cons (pe_op op_mod (pe_callTy call_int1 (by rfl) T.b_int (by decide +kernel) (pa_cons (pv 0) pa_nil)) pe_int) (pa_cons pe_int pa_nil))))))), rd_law_source h⟩)
theorem bi_law_source {f : Addr} {fd : FuncData} (F : Fun K "_law_source" "_law_source" s_law_source f fd) : Binds K fd ["cell"] [] := F.binds fun _ _ _ _ _ _ us hl => match us, hl with | [_], _ => rfl
theorem sc_law_take : FnScope ["source", "size", "digit", "first", "second"] ["source", "size"] (defScope s_law_take) := ⟨rfl, rfl, rfl, by decide +kernel, rfl, by decide +kernel, by decide +kernel⟩
theorem ln_law_take {vs : List V} {H : Hp} {Q : VK} {E : XK} (h : sp_law_take K A vs H Q E) : vs.length = 2 := by
  first | (obtain ⟨_, rfl, _⟩ := h; rfl) | (obtain ⟨_, _, rfl, _⟩ := h; rfl) | (obtain ⟨_, _, _, rfl, _⟩ := h; rfl) | (obtain ⟨_, _, _, _, rfl, _⟩ := h; rfl) | (obtain ⟨_, _, _, _, _, rfl, _⟩ := h; rfl) | (obtain ⟨_, _, _, _, _, _, rfl, _⟩ := h; rfl) | (obtain ⟨_, _, _, _, _, _, _, rfl, _⟩ := h; rfl) | (obtain ⟨_, _, _, _, _, _, _, _, rfl, _⟩ := h; rfl) | (obtain ⟨_, _, _, _, _, _, _, _, _, rfl, _⟩ := h; rfl) | (obtain ⟨_, _, _, _, _, _, _, _, _, _, rfl, _⟩ := h; rfl) | (obtain ⟨_, _, _, _, _, _, _, _, _, _, _, rfl, _⟩ := h; rfl) | (obtain ⟨_, _, _, _, _, _, _, _, _, _, _, _, rfl, _⟩ := h; rfl) | (obtain ⟨_, _, _, _, _, _, _, _, _, _, _, _, _, rfl, _⟩ := h; rfl) | (obtain ⟨_, _, _, _, _, _, _, _, _, _, _, _, _, _, rfl, _⟩ := h; rfl) | (obtain ⟨_, _, _, _, _, _, _, _, _, _, _, _, _, _, _, rfl, _⟩ := h; rfl) | (obtain ⟨_, _, _, _, _, _, _, _, _, _, _, _, _, _, _, _, rfl, _⟩ := h; rfl) | (obtain ⟨_, _, _, _, _, _, _, _, _, _, _, _, _, _, _, _, _, rfl, _⟩ := h; rfl) | (obtain ⟨_, _, _, _, _, _, _, _, _, _, _, _, _, _, _, _, _, _, rfl, _⟩ := h; rfl) | (obtain ⟨_, _, _, _, _, _, _, _, _, _, _, _, _, _, _, _, _, _, _, rfl, _⟩ := h; rfl)
theorem fn_law_take {f : Addr} {fd : FuncData} (F : Fun K "_law_take" "_law_take" s_law_take f fd) (T : Txt mg A) (C : CT K A)  : FnOk P w K mg base CX0 1 f fd ["source", "size"] (sp_law_take K A) :=
  F.ok sc_law_take (fun vs H Q E h => ln_law_take h) (fun cdv Ar outer s H vs Q E hr h => ⟨t_law_take K A, (pss_cons (ps_if (pt_cmpR op_gt (pe_ix ix_list (pv 0) pe_int (fun _ _ => rfl)) pe_int (nomark _)) (pss_cons (ps_set (i := 2) sc_law_take.nd rfl (by first | exact Or.inl rfl | exact Or.inr rfl) (pe_op op_mod (pe_callTy call_int1 (by rfl) T.b_int (by decide +kernel) (pa_cons (pe_ix ix_list (pv 0) pe_int (fun _ _ => rfl)) pa_nil)) (pv 1)))
  (pss_cons (ps_asg (pe_op op_fdiv (pe_ix ix_list (pv 0) pe_int (fun _ _ => rfl)) (pv 1)) (pg_sub (pv 0) pe_int set_list))
  (pss_one (ps_ret (pv 2))))) pss_nil)
  (pss_cons (ps_asg (pe_op op_add (pe_ix ix_list (pv 0) pe_int (fun _ _ => rfl)) pe_int) (pg_sub (pv 0) pe_int set_list))
  (pss_cons (ps_set (i := 3) sc_law_take.nd rfl (by first | exact Or.inl rfl | exact Or.inr rfl) (pe_op op_mod (pe_callTy call_int1 (by rfl) T.b_int (by decide +kernel) (pa_cons (pe_op op_add (pe_op op_add (pe_op op_mul (pe_ix ix_list (pv 0) pe_int (fun _ _ => rfl)) pe_int) (pe_op op_mul (pe_ix ix_list (pv 0) pe_int (fun _ _ => rfl)) pe_int)) pe_int) pa_nil)) pe_int))
  (pss_cons (ps_set (i := 4) sc_law_take.nd rfl (by first | exact Or.inl rfl | exact Or.inr rfl) (pe_op op_mod (pe_callTy call_int1 (by rfl) T.b_int (by decide +kernel) (pa_cons (pe_op op_add (pe_op op_mul (pv 3) (pe_op op_add (pe_op op_fdiv (pv 3) pe_int) (pe_ix ix_list (pv 0) pe_int (fun _ _ => rfl)))) (pe_ix ix_list (pv 0) pe_int (fun _ _ => rfl))) pa_nil)) pe_int))
  (pss_one (ps_ret (pe_op op_mod (pe_op op_fdiv (pv 4) pe_int) (pv 1)))))))), rd_law_take h⟩)
theorem bi_law_take {f : Addr} {fd : FuncData} (F : Fun K "_law_take" "_law_take" s_law_take f fd) : Binds K fd ["source", "size"] [] := F.binds fun _ _ _ _ _ _ us hl => match us, hl with | [_, _], _ => rfl
theorem sc_law_parents : FnScope ["source", "many", "shape", "parents", "k"] ["source", "many", "shape"] (defScope s_law_parents) := ⟨rfl, rfl, rfl, by decide +kernel, rfl, by decide +kernel, by decide +kernel⟩
theorem ln_law_parents {vs : List V} {H : Hp} {Q : VK} {E : XK} (h : sp_law_parents K A vs H Q E) : vs.length = 3 := by
  first | (obtain ⟨_, rfl, _⟩ := h; rfl) | (obtain ⟨_, _, rfl, _⟩ := h; rfl) | (obtain ⟨_, _, _, rfl, _⟩ := h; rfl) | (obtain ⟨_, _, _, _, rfl, _⟩ := h; rfl) | (obtain ⟨_, _, _, _, _, rfl, _⟩ := h; rfl) | (obtain ⟨_, _, _, _, _, _, rfl, _⟩ := h; rfl) | (obtain ⟨_, _, _, _, _, _, _, rfl, _⟩ := h; rfl) | (obtain ⟨_, _, _, _, _, _, _, _, rfl, _⟩ := h; rfl) | (obtain ⟨_, _, _, _, _, _, _, _, _, rfl, _⟩ := h; rfl) | (obtain ⟨_, _, _, _, _, _, _, _, _, _, rfl, _⟩ := h; rfl) | (obtain ⟨_, _, _, _, _, _, _, _, _, _, _, rfl, _⟩ := h; rfl) | (obtain ⟨_, _, _, _, _, _, _, _, _, _, _, _, rfl, _⟩ := h; rfl) | (obtain ⟨_, _, _, _, _, _, _, _, _, _, _, _, _, rfl, _⟩ := h; rfl) | (obtain ⟨_, _, _, _, _, _, _, _, _, _, _, _, _, _, rfl, _⟩ := h; rfl) | (obtain ⟨_, _, _, _, _, _, _, _, _, _, _, _, _, _, _, rfl, _⟩ := h; rfl) | (obtain ⟨_, _, _, _, _, _, _, _, _, _, _, _, _, _, _, _, rfl, _⟩ := h; rfl) | (obtain ⟨_, _, _, _, _, _, _, _, _, _, _, _, _, _, _, _, _, rfl, _⟩ := h; rfl) | (obtain ⟨_, _, _, _, _, _, _, _, _, _, _, _, _, _, _, _, _, _, rfl, _⟩ := h; rfl) | (obtain ⟨_, _, _, _, _, _, _, _, _, _, _, _, _, _, _, _, _, _, _, rfl, _⟩ := h; rfl)
theorem fn_law_parents {f : Addr} {fd : FuncData} (F : Fun K "_law_parents" "_law_parents" s_law_parents f fd) (T : Txt mg A) (C : CT K A) (C_law_take : C8.Cal P w K mg base 1 "_law_take" (sp_law_take K A) []) : FnOk P w K mg base CX0 2 f fd ["source", "many", "shape"] (sp_law_parents K A) :=
  F.ok sc_law_parents (fun vs H Q E h => ln_law_parents h) (fun cdv Ar outer s H vs Q E hr h => ⟨t_law_parents K A, (pss_cons (ps_set (i := 3) sc_law_parents.nd rfl (by first | exact Or.inl rfl | exact Or.inr rfl) (pe_lst (pa_cons (pe_un un_neg pe_int) pa_nil)))
  (pss_cons (ps_for PassesOwn.never rfl (pi_range2 (by rfl) T.b_range (pa_cons pe_int (pa_cons (pv 1) pa_nil))) (pg_name (i := 4) sc_law_parents.nd rfl (by first | exact Or.inl rfl | exact Or.inr rfl))
  (pss_one (ps_if (PW.pt (pw_or (pt_cmpR op_eq (pv 2) pe_int (nomark _)) (pw_or1 (pt_cmpR op_eq (pv 2) pe_int (nomark _))))) (pss_one (ps_expr (pe_bm PySem.F.plainAttrs_list PySem.F.slot_list_append PySem.F.type_list_append mt_append (pv 3) (pa_cons (pe_op op_sub (pv 4) pe_int) pa_nil)))) (pss_one (ps_if (pt_cmpR op_eq (pv 2) pe_int (nomark _)) (pss_one (ps_expr (pe_bm PySem.F.plainAttrs_list PySem.F.slot_list_append PySem.F.type_list_append mt_append (pv 3) (pa_cons pe_int pa_nil)))) (pss_one (ps_expr (pe_bm PySem.F.plainAttrs_list PySem.F.slot_list_append PySem.F.type_list_append mt_append (pv 3) (pa_cons (pe_op op_sub (C8.pe_c C_law_take hr (by decide) (by rfl) (pa_cons (pv 0) (pa_cons (pe_op op_add (pv 4) pe_int) pa_nil))) pe_int) pa_nil)))))))))
  (pss_one (ps_ret (pv 3))))), rd_law_parents h⟩)
theorem bi_law_parents {f : Addr} {fd : FuncData} (F : Fun K "_law_parents" "_law_parents" s_law_parents f fd) : Binds K fd ["source", "many", "shape"] [] := F.binds fun _ _ _ _ _ _ us hl => match us, hl with | [_, _, _], _ => rfl
theorem sc_law_pointers : FnScope ["source", "parents", "way", "pointers", "k", "turn"] ["source", "parents", "way"] (defScope s_law_pointers) := ⟨rfl, rfl, rfl, by decide +kernel, rfl, by decide +kernel, by decide +kernel⟩
theorem ln_law_pointers {vs : List V} {H : Hp} {Q : VK} {E : XK} (h : sp_law_pointers K A vs H Q E) : vs.length = 3 := by
  first | (obtain ⟨_, rfl, _⟩ := h; rfl) | (obtain ⟨_, _, rfl, _⟩ := h; rfl) | (obtain ⟨_, _, _, rfl, _⟩ := h; rfl) | (obtain ⟨_, _, _, _, rfl, _⟩ := h; rfl) | (obtain ⟨_, _, _, _, _, rfl, _⟩ := h; rfl) | (obtain ⟨_, _, _, _, _, _, rfl, _⟩ := h; rfl) | (obtain ⟨_, _, _, _, _, _, _, rfl, _⟩ := h; rfl) | (obtain ⟨_, _, _, _, _, _, _, _, rfl, _⟩ := h; rfl) | (obtain ⟨_, _, _, _, _, _, _, _, _, rfl, _⟩ := h; rfl) | (obtain ⟨_, _, _, _, _, _, _, _, _, _, rfl, _⟩ := h; rfl) | (obtain ⟨_, _, _, _, _, _, _, _, _, _, _, rfl, _⟩ := h; rfl) | (obtain ⟨_, _, _, _, _, _, _, _, _, _, _, _, rfl, _⟩ := h; rfl) | (obtain ⟨_, _, _, _, _, _, _, _, _, _, _, _, _, rfl, _⟩ := h; rfl) | (obtain ⟨_, _, _, _, _, _, _, _, _, _, _, _, _, _, rfl, _⟩ := h; rfl) | (obtain ⟨_, _, _, _, _, _, _, _, _, _, _, _, _, _, _, rfl, _⟩ := h; rfl) | (obtain ⟨_, _, _, _, _, _, _, _, _, _, _, _, _, _, _, _, rfl, _⟩ := h; rfl) | (obtain ⟨_, _, _, _, _, _, _, _, _, _, _, _, _, _, _, _, _, rfl, _⟩ := h; rfl) | (obtain ⟨_, _, _, _, _, _, _, _, _, _, _, _, _, _, _, _, _, _, rfl, _⟩ := h; rfl) | (obtain ⟨_, _, _, _, _, _, _, _, _, _, _, _, _, _, _, _, _, _, _, rfl, _⟩ := h; rfl)
theorem fn_law_pointers {f : Addr} {fd : FuncData} (F : Fun K "_law_pointers" "_law_pointers" s_law_pointers f fd) (T : Txt mg A) (C : CT K A) (C_law_take : C8.Cal P w K mg base 1 "_law_take" (sp_law_take K A) []) : FnOk P w K mg base CX0 2 f fd ["source", "parents", "way"] (sp_law_pointers K A) :=
  F.ok sc_law_pointers (fun vs H Q E h => ln_law_pointers h) (fun cdv Ar outer s H vs Q E hr h => ⟨t_law_pointers K A, (pss_cons (ps_set (i := 3) sc_law_pointers.nd rfl (by first | exact Or.inl rfl | exact Or.inr rfl) (pe_lst pa_nil))
  (pss_cons (ps_for PassesOwn.never rfl (pi_range2 (by rfl) T.b_range (pa_cons pe_int (pa_cons (pe_callB call_len_seq (by rfl) T.b_len (by decide +kernel) (pa_cons (pv 1) pa_nil)) pa_nil))) (pg_name (i := 4) sc_law_pointers.nd rfl (by first | exact Or.inl rfl | exact Or.inr rfl))
  (pss_one (ps_if (pt_cmpR op_ge (pe_ix ix_list (pv 1) (pv 4) (fun _ _ => rfl)) pe_int (nomark _)) (pss_cons (ps_set (i := 5) sc_law_pointers.nd rfl (by first | exact Or.inl rfl | exact Or.inr rfl) (pv 2))
  (pss_cons (ps_if (pt_cmpR op_gt (pv 2) pe_int (nomark _)) (pss_one (ps_set (i := 5) sc_law_pointers.nd rfl (by first | exact Or.inl rfl | exact Or.inr rfl) (C8.pe_c C_law_take hr (by decide) (by rfl) (pa_cons (pv 0) (pa_cons pe_int pa_nil))))) pss_nil)
  (pss_cons (ps_if (pt_cmpR op_ne (pv 5) pe_int (nomark _)) (pss_one (ps_expr (pe_bm PySem.F.plainAttrs_list PySem.F.slot_list_append PySem.F.type_list_append mt_append (pv 3) (pa_cons (pe_tup (pa_cons (pe_ix ix_list (pv 1) (pv 4) (fun _ _ => rfl)) (pa_cons (pv 4) pa_nil))) pa_nil)))) pss_nil)
  (pss_one (ps_if (pt_cmpR op_ne (pv 5) pe_int (nomark _)) (pss_one (ps_expr (pe_bm PySem.F.plainAttrs_list PySem.F.slot_list_append PySem.F.type_list_append mt_append (pv 3) (pa_cons (pe_tup (pa_cons (pv 4) (pa_cons (pe_ix ix_list (pv 1) (pv 4) (fun _ _ => rfl)) pa_nil))) pa_nil)))) pss_nil))))) pss_nil)))
  (pss_one (ps_ret (pv 3))))), rd_law_pointers h⟩)
theorem bi_law_pointers {f : Addr} {fd : FuncData} (F : Fun K "_law_pointers" "_law_pointers" s_law_pointers f fd) : Binds K fd ["source", "parents", "way"] [] := F.binds fun _ _ _ _ _ _ us hl => match us, hl with | [_, _, _], _ => rfl
theorem sc_law_names : FnScope ["source", "many", "names", "way", "k", "other", "held"] ["source", "many"] (defScope s_law_names) := ⟨rfl, rfl, rfl, by decide +kernel, rfl, by decide +kernel, by decide +kernel⟩
theorem ln_law_names {vs : List V} {H : Hp} {Q : VK} {E : XK} (h : sp_law_names K A vs H Q E) : vs.length = 2 := by
  first | (obtain ⟨_, rfl, _⟩ := h; rfl) | (obtain ⟨_, _, rfl, _⟩ := h; rfl) | (obtain ⟨_, _, _, rfl, _⟩ := h; rfl) | (obtain ⟨_, _, _, _, rfl, _⟩ := h; rfl) | (obtain ⟨_, _, _, _, _, rfl, _⟩ := h; rfl) | (obtain ⟨_, _, _, _, _, _, rfl, _⟩ := h; rfl) | (obtain ⟨_, _, _, _, _, _, _, rfl, _⟩ := h; rfl) | (obtain ⟨_, _, _, _, _, _, _, _, rfl, _⟩ := h; rfl) | (obtain ⟨_, _, _, _, _, _, _, _, _, rfl, _⟩ := h; rfl) | (obtain ⟨_, _, _, _, _, _, _, _, _, _, rfl, _⟩ := h; rfl) | (obtain ⟨_, _, _, _, _, _, _, _, _, _, _, rfl, _⟩ := h; rfl) | (obtain ⟨_, _, _, _, _, _, _, _, _, _, _, _, rfl, _⟩ := h; rfl) | (obtain ⟨_, _, _, _, _, _, _, _, _, _, _, _, _, rfl, _⟩ := h; rfl) | (obtain ⟨_, _, _, _, _, _, _, _, _, _, _, _, _, _, rfl, _⟩ := h; rfl) | (obtain ⟨_, _, _, _, _, _, _, _, _, _, _, _, _, _, _, rfl, _⟩ := h; rfl) | (obtain ⟨_, _, _, _, _, _, _, _, _, _, _, _, _, _, _, _, rfl, _⟩ := h; rfl) | (obtain ⟨_, _, _, _, _, _, _, _, _, _, _, _, _, _, _, _, _, rfl, _⟩ := h; rfl) | (obtain ⟨_, _, _, _, _, _, _, _, _, _, _, _, _, _, _, _, _, _, rfl, _⟩ := h; rfl) | (obtain ⟨_, _, _, _, _, _, _, _, _, _, _, _, _, _, _, _, _, _, _, rfl, _⟩ := h; rfl)
theorem fn_law_names {f : Addr} {fd : FuncData} (F : Fun K "_law_names" "_law_names" s_law_names f fd) (T : Txt mg A) (C : CT K A) (C_law_take : C8.Cal P w K mg base 1 "_law_take" (sp_law_take K A) []) : FnOk P w K mg base CX0 2 f fd ["source", "many"] (sp_law_names K A) :=
  F.ok sc_law_names (fun vs H Q E h => ln_law_names h) (fun cdv Ar outer s H vs Q E hr h => ⟨t_law_names K A, (pss_cons (ps_set (i := 2) sc_law_names.nd rfl (by first | exact Or.inl rfl | exact Or.inr rfl) (pe_listRg rfl (by rfl) T.b_list (prg_1 (by rfl) T.b_range (pv 1))))
  (pss_cons (ps_set (i := 3) sc_law_names.nd rfl (by first | exact Or.inl rfl | exact Or.inr rfl) (C8.pe_c C_law_take hr (by decide) (by rfl) (pa_cons (pv 0) (pa_cons pe_int pa_nil))))
  (pss_cons (ps_if (pt_cmpR op_eq (pv 3) pe_int (nomark _)) (pss_one (ps_ret (pv 2))) pss_nil)
  (pss_cons (ps_if (pt_cmpR op_eq (pv 3) pe_int (nomark _)) (pss_one (ps_ret (pe_lc (own := [("k", 4)]) (g := (gName 4)) (tt := tYes) rfl sc_law_names.nd (pi_range1 (by rfl) T.b_range (pa_cons (pv 1) pa_nil)) (blkOk_by (own := [("k", 4)]) (N := ["source", "many", "names", "way", "k", "other", "held"]) (sc := defScope s_law_names) (by decide +kernel)) (fun _ _ _ _ _ => (pg_name (i := 4) sc_law_names.nd rfl (by first | exact Or.inl rfl | exact Or.inr rfl))) (fun _ _ _ _ _ => pts_nil) (fun _ _ _ _ _ => (pe_op op_sub (pe_op op_sub (pv 1) pe_int) (pv 4)))))) pss_nil)
  (pss_cons (ps_for PassesOwn.never rfl (pi_range1 (by rfl) T.b_range (pa_cons (pe_op op_sub (pv 1) pe_int) pa_nil)) (pg_name (i := 4) sc_law_names.nd rfl (by first | exact Or.inl rfl | exact Or.inr rfl))
  (pss_cons (ps_set (i := 5) sc_law_names.nd rfl (by first | exact Or.inl rfl | exact Or.inr rfl) (pe_op op_add (pv 4) (C8.pe_c C_law_take hr (by decide) (by rfl) (pa_cons (pv 0) (pa_cons (pe_op op_sub (pv 1) (pv 4)) pa_nil)))))
  (pss_cons (ps_set (i := 6) sc_law_names.nd rfl (by first | exact Or.inl rfl | exact Or.inr rfl) (pe_ix ix_list (pv 2) (pv 4) (fun _ _ => rfl)))
  (pss_cons (ps_asg (pe_ix ix_list (pv 2) (pv 5) (fun _ _ => rfl)) (pg_sub (pv 2) (pv 4) set_list))
  (pss_one (ps_asg (pv 6) (pg_sub (pv 2) (pv 5) set_list)))))))
  (pss_one (ps_ret (pv 2)))))))), rd_law_names h⟩)
theorem bi_law_names {f : Addr} {fd : FuncData} (F : Fun K "_law_names" "_law_names" s_law_names f fd) : Binds K fd ["source", "many"] [] := F.binds fun _ _ _ _ _ _ us hl => match us, hl with | [_, _], _ => rfl
theorem sc_law_named : FnScope ["pointers", "names", "turn", "named", "pair"] ["pointers", "names", "turn"] (defScope s_law_named) := ⟨rfl, rfl, rfl, by decide +kernel, rfl, by decide +kernel, by decide +kernel⟩
theorem ln_law_named {vs : List V} {H : Hp} {Q : VK} {E : XK} (h : sp_law_named K A vs H Q E) : vs.length = 3 := by
  first | (obtain ⟨_, rfl, _⟩ := h; rfl) | (obtain ⟨_, _, rfl, _⟩ := h; rfl) | (obtain ⟨_, _, _, rfl, _⟩ := h; rfl) | (obtain ⟨_, _, _, _, rfl, _⟩ := h; rfl) | (obtain ⟨_, _, _, _, _, rfl, _⟩ := h; rfl) | (obtain ⟨_, _, _, _, _, _, rfl, _⟩ := h; rfl) | (obtain ⟨_, _, _, _, _, _, _, rfl, _⟩ := h; rfl) | (obtain ⟨_, _, _, _, _, _, _, _, rfl, _⟩ := h; rfl) | (obtain ⟨_, _, _, _, _, _, _, _, _, rfl, _⟩ := h; rfl) | (obtain ⟨_, _, _, _, _, _, _, _, _, _, rfl, _⟩ := h; rfl) | (obtain ⟨_, _, _, _, _, _, _, _, _, _, _, rfl, _⟩ := h; rfl) | (obtain ⟨_, _, _, _, _, _, _, _, _, _, _, _, rfl, _⟩ := h; rfl) | (obtain ⟨_, _, _, _, _, _, _, _, _, _, _, _, _, rfl, _⟩ := h; rfl) | (obtain ⟨_, _, _, _, _, _, _, _, _, _, _, _, _, _, rfl, _⟩ := h; rfl) | (obtain ⟨_, _, _, _, _, _, _, _, _, _, _, _, _, _, _, rfl, _⟩ := h; rfl) | (obtain ⟨_, _, _, _, _, _, _, _, _, _, _, _, _, _, _, _, rfl, _⟩ := h; rfl) | (obtain ⟨_, _, _, _, _, _, _, _, _, _, _, _, _, _, _, _, _, rfl, _⟩ := h; rfl) | (obtain ⟨_, _, _, _, _, _, _, _, _, _, _, _, _, _, _, _, _, _, rfl, _⟩ := h; rfl) | (obtain ⟨_, _, _, _, _, _, _, _, _, _, _, _, _, _, _, _, _, _, _, rfl, _⟩ := h; rfl)
theorem fn_law_named {f : Addr} {fd : FuncData} (F : Fun K "_law_named" "_law_named" s_law_named f fd) (T : Txt mg A) (C : CT K A)  : FnOk P w K mg base CX0 1 f fd ["pointers", "names", "turn"] (sp_law_named K A) :=
  F.ok sc_law_named (fun vs H Q E h => ln_law_named h) (fun cdv Ar outer s H vs Q E hr h => ⟨t_law_named K A, (pss_cons (ps_setLc (i := 3) (own := [("pair", 4)]) (g := (gName 4)) (tt := tYes) rfl sc_law_named.nd rfl rfl (sw_true rfl rfl rfl (by decide +kernel)) (pi_list (pv 0)) (blkOk_by (own := [("pair", 4)]) (N := ["pointers", "names", "turn", "named", "pair"]) (sc := defScope s_law_named) (by decide +kernel)) (fun _ _ _ _ _ => (pg_name (i := 4) sc_law_named.nd rfl (by first | exact Or.inl rfl | exact Or.inr rfl))) (fun _ _ _ _ _ => pts_nil) (fun _ _ _ _ _ => (pe_tup (pa_cons (pe_ix ix_list (pv 1) (pe_ix ix_tup (pv 4) pe_int (fun _ _ => rfl)) (fun _ _ => rfl)) (pa_cons (pe_ix ix_list (pv 1) (pe_ix ix_tup (pv 4) pe_int (fun _ _ => rfl)) (fun _ _ => rfl)) pa_nil)))))
  (pss_one (ps_ret (pe_op op_cat (pe_slice sl_list (pv 3) (po_some (pv 2)) po_none) (pe_slice sl_list (pv 3) po_none (po_some (pv 2))))))), rd_law_named h⟩)
theorem bi_law_named {f : Addr} {fd : FuncData} (F : Fun K "_law_named" "_law_named" s_law_named f fd) : Binds K fd ["pointers", "names", "turn"] [] := F.binds fun _ _ _ _ _ _ us hl => match us, hl with | [_, _, _], _ => rfl
theorem sc_law_extras : FnScope ["source", "many", "shape", "more", "k", "start", "share", "end"] ["source", "many", "shape"] (defScope s_law_extras) := ⟨rfl, rfl, rfl, by decide +kernel, rfl, by decide +kernel, by decide +kernel⟩
theorem ln_law_extras {vs : List V} {H : Hp} {Q : VK} {E : XK} (h : sp_law_extras K A vs H Q E) : vs.length = 3 := by
  first | (obtain ⟨_, rfl, _⟩ := h; rfl) | (obtain ⟨_, _, rfl, _⟩ := h; rfl) | (obtain ⟨_, _, _, rfl, _⟩ := h; rfl) | (obtain ⟨_, _, _, _, rfl, _⟩ := h; rfl) | (obtain ⟨_, _, _, _, _, rfl, _⟩ := h; rfl) | (obtain ⟨_, _, _, _, _, _, rfl, _⟩ := h; rfl) | (obtain ⟨_, _, _, _, _, _, _, rfl, _⟩ := h; rfl) | (obtain ⟨_, _, _, _, _, _, _, _, rfl, _⟩ := h; rfl) | (obtain ⟨_, _, _, _, _, _, _, _, _, rfl, _⟩ := h; rfl) | (obtain ⟨_, _, _, _, _, _, _, _, _, _, rfl, _⟩ := h; rfl) | (obtain ⟨_, _, _, _, _, _, _, _, _, _, _, rfl, _⟩ := h; rfl) | (obtain ⟨_, _, _, _, _, _, _, _, _, _, _, _, rfl, _⟩ := h; rfl) | (obtain ⟨_, _, _, _, _, _, _, _, _, _, _, _, _, rfl, _⟩ := h; rfl) | (obtain ⟨_, _, _, _, _, _, _, _, _, _, _, _, _, _, rfl, _⟩ := h; rfl) | (obtain ⟨_, _, _, _, _, _, _, _, _, _, _, _, _, _, _, rfl, _⟩ := h; rfl) | (obtain ⟨_, _, _, _, _, _, _, _, _, _, _, _, _, _, _, _, rfl, _⟩ := h; rfl) | (obtain ⟨_, _, _, _, _, _, _, _, _, _, _, _, _, _, _, _, _, rfl, _⟩ := h; rfl) | (obtain ⟨_, _, _, _, _, _, _, _, _, _, _, _, _, _, _, _, _, _, rfl, _⟩ := h; rfl) | (obtain ⟨_, _, _, _, _, _, _, _, _, _, _, _, _, _, _, _, _, _, _, rfl, _⟩ := h; rfl)
theorem fn_law_extras {f : Addr} {fd : FuncData} (F : Fun K "_law_extras" "_law_extras" s_law_extras f fd) (T : Txt mg A) (C : CT K A) (C_law_take : C8.Cal P w K mg base 1 "_law_take" (sp_law_take K A) []) : FnOk P w K mg base CX0 2 f fd ["source", "many", "shape"] (sp_law_extras K A) :=
  F.ok sc_law_extras (fun vs H Q E h => ln_law_extras h) (fun cdv Ar outer s H vs Q E hr h => ⟨t_law_extras K A, (pss_cons (ps_set (i := 3) sc_law_extras.nd rfl (by first | exact Or.inl rfl | exact Or.inr rfl) (pe_lst pa_nil))
  (C8.pss_cut (ps_if (pt_cmpR op_eq (pv 2) pe_int (nomark _)) (pss_one (ps_expr (pe_bm PySem.F.plainAttrs_list PySem.F.slot_list_append PySem.F.type_list_append mt_append (pv 3) (pa_cons (pe_tup (pa_cons (pe_op op_sub (pv 1) pe_int) (pa_cons pe_int pa_nil))) pa_nil)))) pss_nil)
  (C8.pss_cut (ps_if (PW.pt (pw_or (pt_cmpR op_eq (pv 2) pe_int (nomark _)) (pw_or1 (PW.pt (pw_and (pt_cmpR op_eq (pv 2) pe_int (nomark _)) (pw_and1 (pt_cmpR op_gt (pv 1) pe_int (nomark _)))))))) (pss_one (ps_for PassesOwn.never rfl (pi_range1 (by rfl) T.b_range (pa_cons (pe_op op_add pe_int (C8.pe_c C_law_take hr (by decide) (by rfl) (pa_cons (pv 0) (pa_cons pe_int pa_nil)))) pa_nil)) (pg_name (i := 4) sc_law_extras.nd rfl (by first | exact Or.inl rfl | exact Or.inr rfl))
  (pss_cons (ps_set (i := 5) sc_law_extras.nd rfl (by first | exact Or.inl rfl | exact Or.inr rfl) (C8.pe_c C_law_take hr (by decide) (by rfl) (pa_cons (pv 0) (pa_cons (pv 1) pa_nil))))
  (pss_one (ps_expr (pe_bm PySem.F.plainAttrs_list PySem.F.slot_list_append PySem.F.type_list_append mt_append (pv 3) (pa_cons (pe_tup (pa_cons (pv 5) (pa_cons (C8.pe_c C_law_take hr (by decide) (by rfl) (pa_cons (pv 0) (pa_cons (pv 1) pa_nil))) pa_nil))) pa_nil))))))) pss_nil)
  (C8.pss_cut (ps_if (PW.pt (pw_and (pt_cmpR op_eq (pv 2) pe_int (nomark _)) (pw_and1 (pt_cmpR op_le (pv 1) pe_int (nomark _))))) (pss_cons (ps_set (i := 6) sc_law_extras.nd rfl (by first | exact Or.inl rfl | exact Or.inr rfl) (pe_op op_add pe_int (C8.pe_c C_law_take hr (by decide) (by rfl) (pa_cons (pv 0) (pa_cons pe_int pa_nil)))))
  (pss_one (ps_for PassesOwn.never rfl (pi_range1 (by rfl) T.b_range (pa_cons (pv 1) pa_nil)) (pg_name (i := 5) sc_law_extras.nd rfl (by first | exact Or.inl rfl | exact Or.inr rfl))
  (pss_one (ps_for PassesOwn.never rfl (pi_range1 (by rfl) T.b_range (pa_cons (pv 1) pa_nil)) (pg_name (i := 7) sc_law_extras.nd rfl (by first | exact Or.inl rfl | exact Or.inr rfl))
  (pss_one (ps_if (PW.pt (pw_and (pt_cmpR op_ne (pv 5) (pv 7) (nomark _)) (pw_and1 (pt_cmpR op_eq (C8.pe_c C_law_take hr (by decide) (by rfl) (pa_cons (pv 0) (pa_cons (pv 6) pa_nil))) pe_int (nomark _))))) (pss_one (ps_expr (pe_bm PySem.F.plainAttrs_list PySem.F.slot_list_append PySem.F.type_list_append mt_append (pv 3) (pa_cons (pe_tup (pa_cons (pv 5) (pa_cons (pv 7) pa_nil))) pa_nil)))) pss_nil))))))) pss_nil)
  (pss_one (ps_ret (pv 3))))))), rd_law_extras h⟩)
theorem bi_law_extras {f : Addr} {fd : FuncData} (F : Fun K "_law_extras" "_law_extras" s_law_extras f fd) : Binds K fd ["source", "many", "shape"] [] := F.binds fun _ _ _ _ _ _ us hl => match us, hl with | [_, _, _], _ => rfl
theorem sc_law_joined : FnScope ["pointers", "more", "joined", "pair"] ["pointers", "more"] (defScope s_law_joined) := ⟨rfl, rfl, rfl, by decide +kernel, rfl, by decide +kernel, by decide +kernel⟩
theorem ln_law_joined {vs : List V} {H : Hp} {Q : VK} {E : XK} (h : sp_law_joined K A vs H Q E) : vs.length = 2 := by
  first | (obtain ⟨_, rfl, _⟩ := h; rfl) | (obtain ⟨_, _, rfl, _⟩ := h; rfl) | (obtain ⟨_, _, _, rfl, _⟩ := h; rfl) | (obtain ⟨_, _, _, _, rfl, _⟩ := h; rfl) | (obtain ⟨_, _, _, _, _, rfl, _⟩ := h; rfl) | (obtain ⟨_, _, _, _, _, _, rfl, _⟩ := h; rfl) | (obtain ⟨_, _, _, _, _, _, _, rfl, _⟩ := h; rfl) | (obtain ⟨_, _, _, _, _, _, _, _, rfl, _⟩ := h; rfl) | (obtain ⟨_, _, _, _, _, _, _, _, _, rfl, _⟩ := h; rfl) | (obtain ⟨_, _, _, _, _, _, _, _, _, _, rfl, _⟩ := h; rfl) | (obtain ⟨_, _, _, _, _, _, _, _, _, _, _, rfl, _⟩ := h; rfl) | (obtain ⟨_, _, _, _, _, _, _, _, _, _, _, _, rfl, _⟩ := h; rfl) | (obtain ⟨_, _, _, _, _, _, _, _, _, _, _, _, _, rfl, _⟩ := h; rfl) | (obtain ⟨_, _, _, _, _, _, _, _, _, _, _, _, _, _, rfl, _⟩ := h; rfl) | (obtain ⟨_, _, _, _, _, _, _, _, _, _, _, _, _, _, _, rfl, _⟩ := h; rfl) | (obtain ⟨_, _, _, _, _, _, _, _, _, _, _, _, _, _, _, _, rfl, _⟩ := h; rfl) | (obtain ⟨_, _, _, _, _, _, _, _, _, _, _, _, _, _, _, _, _, rfl, _⟩ := h; rfl) | (obtain ⟨_, _, _, _, _, _, _, _, _, _, _, _, _, _, _, _, _, _, rfl, _⟩ := h; rfl) | (obtain ⟨_, _, _, _, _, _, _, _, _, _, _, _, _, _, _, _, _, _, _, rfl, _⟩ := h; rfl)
theorem fn_law_joined {f : Addr} {fd : FuncData} (F : Fun K "_law_joined" "_law_joined" s_law_joined f fd) (T : Txt mg A) (C : CT K A)  : FnOk P w K mg base CX0 1 f fd ["pointers", "more"] (sp_law_joined K A) :=
  F.ok sc_law_joined (fun vs H Q E h => ln_law_joined h) (fun cdv Ar outer s H vs Q E hr h => ⟨t_law_joined K A, (pss_cons (ps_set (i := 2) sc_law_joined.nd rfl (by first | exact Or.inl rfl | exact Or.inr rfl) (pe_callTy call_list_of (by rfl) T.b_list (by decide +kernel) (pa_cons (pv 0) pa_nil)))
  (pss_cons (ps_for PassesOwn.never rfl (pi_list (pv 1)) (pg_name (i := 3) sc_law_joined.nd rfl (by first | exact Or.inl rfl | exact Or.inr rfl))
  (pss_one (ps_if (PW.pt (pw_and (pt_cmpR op_ne (pe_ix ix_tup (pv 3) pe_int (fun _ _ => rfl)) (pe_ix ix_tup (pv 3) pe_int (fun _ _ => rfl)) (nomark _)) (pw_and1 (pt_cmpR (op_notInD (hu65 hr)) (pv 3) (pv 2) (by rfl))))) (pss_one (ps_expr (pe_bm PySem.F.plainAttrs_list PySem.F.slot_list_append PySem.F.type_list_append mt_append (pv 2) (pa_cons (pv 3) pa_nil)))) pss_nil)))
  (pss_one (ps_ret (pv 2))))), rd_law_joined h⟩)
theorem bi_law_joined {f : Addr} {fd : FuncData} (F : Fun K "_law_joined" "_law_joined" s_law_joined f fd) : Binds K fd ["pointers", "more"] [] := F.binds fun _ _ _ _ _ _ us hl => match us, hl with | [_, _], _ => rfl
theorem sc_law_world : FnScope ["script", "room", "source", "many", "shape", "way", "parents", "pointers", "names", "turn"] ["script", "room"] (defScope s_law_world) := ⟨rfl, rfl, rfl, by decide +kernel, rfl, by decide +kernel, by decide +kernel⟩
theorem ln_law_world {vs : List V} {H : Hp} {Q : VK} {E : XK} (h : sp_law_world K A vs H Q E) : vs.length = 2 := by
  first | (obtain ⟨_, rfl, _⟩ := h; rfl) | (obtain ⟨_, _, rfl, _⟩ := h; rfl) | (obtain ⟨_, _, _, rfl, _⟩ := h; rfl) | (obtain ⟨_, _, _, _, rfl, _⟩ := h; rfl) | (obtain ⟨_, _, _, _, _, rfl, _⟩ := h; rfl) | (obtain ⟨_, _, _, _, _, _, rfl, _⟩ := h; rfl) | (obtain ⟨_, _, _, _, _, _, _, rfl, _⟩ := h; rfl) | (obtain ⟨_, _, _, _, _, _, _, _, rfl, _⟩ := h; rfl) | (obtain ⟨_, _, _, _, _, _, _, _, _, rfl, _⟩ := h; rfl) | (obtain ⟨_, _, _, _, _, _, _, _, _, _, rfl, _⟩ := h; rfl) | (obtain ⟨_, _, _, _, _, _, _, _, _, _, _, rfl, _⟩ := h; rfl) | (obtain ⟨_, _, _, _, _, _, _, _, _, _, _, _, rfl, _⟩ := h; rfl) | (obtain ⟨_, _, _, _, _, _, _, _, _, _, _, _, _, rfl, _⟩ := h; rfl) | (obtain ⟨_, _, _, _, _, _, _, _, _, _, _, _, _, _, rfl, _⟩ := h; rfl) | (obtain ⟨_, _, _, _, _, _, _, _, _, _, _, _, _, _, _, rfl, _⟩ := h; rfl) | (obtain ⟨_, _, _, _, _, _, _, _, _, _, _, _, _, _, _, _, rfl, _⟩ := h; rfl) | (obtain ⟨_, _, _, _, _, _, _, _, _, _, _, _, _, _, _, _, _, rfl, _⟩ := h; rfl) | (obtain ⟨_, _, _, _, _, _, _, _, _, _, _, _, _, _, _, _, _, _, rfl, _⟩ := h; rfl) | (obtain ⟨_, _, _, _, _, _, _, _, _, _, _, _, _, _, _, _, _, _, _, rfl, _⟩ := h; rfl)
theorem fn_law_world {f : Addr} {fd : FuncData} (F : Fun K "_law_world" "_law_world" s_law_world f fd) (T : Txt mg A) (C : CT K A) (C_law_cell : C8.Cal P w K mg base 1 "_law_cell" (sp_law_cell K A) []) (C_law_extras : C8.Cal P w K mg base 2 "_law_extras" (sp_law_extras K A) []) (C_law_joined : C8.Cal P w K mg base 1 "_law_joined" (sp_law_joined K A) []) (C_law_named : C8.Cal P w K mg base 1 "_law_named" (sp_law_named K A) []) (C_law_names : C8.Cal P w K mg base 2 "_law_names" (sp_law_names K A) []) (C_law_parents : C8.Cal P w K mg base 2 "_law_parents" (sp_law_parents K A) []) (C_law_pointers : C8.Cal P w K mg base 2 "_law_pointers" (sp_law_pointers K A) []) (C_law_source : C8.Cal P w K mg base 1 "_law_source" (sp_law_source K A) []) (C_law_take : C8.Cal P w K mg base 1 "_law_take" (sp_law_take K A) []) : FnOk P w K mg base CX0 3 f fd ["script", "room"] (sp_law_world K A) :=
  F.ok sc_law_world (fun vs H Q E h => ln_law_world h) (fun cdv Ar outer s H vs Q E hr h => ⟨t_law_world K A, (pss_cons (ps_set (i := 2) sc_law_world.nd rfl (by first | exact Or.inl rfl | exact Or.inr rfl) (C8.pe_c C_law_source hr (by decide) (by rfl) (pa_cons (C8.pe_c C_law_cell hr (by decide) (by rfl) (pa_cons (pv 0) (pa_cons pe_int pa_nil))) pa_nil)))
  (pss_cons (ps_set (i := 3) sc_law_world.nd rfl (by first | exact Or.inl rfl | exact Or.inr rfl) (pe_op op_add pe_int (C8.pe_c C_law_take hr (by decide) (by rfl) (pa_cons (pv 2) (pa_cons pe_int pa_nil)))))
  (C8.pss_cut (ps_if (pt_cmpR op_eq (C8.pe_c C_law_take hr (by decide) (by rfl) (pa_cons (pv 2) (pa_cons pe_int pa_nil))) pe_int (nomark _)) (pss_one (ps_set (i := 3) sc_law_world.nd rfl (by first | exact Or.inl rfl | exact Or.inr rfl) (pe_op op_add pe_int (C8.pe_c C_law_take hr (by decide) (by rfl) (pa_cons (pv 2) (pa_cons (pv 1) pa_nil)))))) pss_nil)
  (pss_cons (ps_set (i := 4) sc_law_world.nd rfl (by first | exact Or.inl rfl | exact Or.inr rfl) (pe_ix ix_list (pe_lst (pa_cons pe_int (pa_cons pe_int (pa_cons pe_int (pa_cons pe_int (pa_cons pe_int (pa_cons pe_int (pa_cons pe_int (pa_cons pe_int pa_nil))))))))) (C8.pe_c C_law_take hr (by decide) (by rfl) (pa_cons (pv 2) (pa_cons pe_int pa_nil))) (fun _ _ => rfl)))
  (pss_cons (ps_set (i := 5) sc_law_world.nd rfl (by first | exact Or.inl rfl | exact Or.inr rfl) (C8.pe_c C_law_take hr (by decide) (by rfl) (pa_cons (pv 2) (pa_cons pe_int pa_nil))))
  (pss_cons (ps_set (i := 6) sc_law_world.nd rfl (by first | exact Or.inl rfl | exact Or.inr rfl) (C8.pe_c C_law_parents hr (by decide) (by rfl) (pa_cons (C8.pe_c C_law_source hr (by decide) (by rfl) (pa_cons (C8.pe_c C_law_cell hr (by decide) (by rfl) (pa_cons (pv 0) (pa_cons pe_int pa_nil))) pa_nil)) (pa_cons (pv 3) (pa_cons (pv 4) pa_nil)))))
  (pss_cons (ps_set (i := 7) sc_law_world.nd rfl (by first | exact Or.inl rfl | exact Or.inr rfl) (C8.pe_c C_law_pointers hr (by decide) (by rfl) (pa_cons (C8.pe_c C_law_source hr (by decide) (by rfl) (pa_cons (C8.pe_c C_law_cell hr (by decide) (by rfl) (pa_cons (pv 0) (pa_cons pe_int pa_nil))) pa_nil)) (pa_cons (pv 6) (pa_cons (pv 5) pa_nil)))))
  (pss_cons (ps_set (i := 7) sc_law_world.nd rfl (by first | exact Or.inl rfl | exact Or.inr rfl) (C8.pe_c C_law_joined hr (by decide) (by rfl) (pa_cons (pv 7) (pa_cons (C8.pe_c C_law_extras hr (by decide) (by rfl) (pa_cons (C8.pe_c C_law_source hr (by decide) (by rfl) (pa_cons (C8.pe_c C_law_cell hr (by decide) (by rfl) (pa_cons (pv 0) (pa_cons pe_int pa_nil))) pa_nil)) (pa_cons (pv 3) (pa_cons (pv 4) pa_nil)))) pa_nil))))
  (pss_cons (ps_set (i := 8) sc_law_world.nd rfl (by first | exact Or.inl rfl | exact Or.inr rfl) (C8.pe_c C_law_names hr (by decide) (by rfl) (pa_cons (C8.pe_c C_law_source hr (by decide) (by rfl) (pa_cons (C8.pe_c C_law_cell hr (by decide) (by rfl) (pa_cons (pv 0) (pa_cons pe_int pa_nil))) pa_nil)) (pa_cons (pv 3) pa_nil))))
  (pss_cons (ps_set (i := 9) sc_law_world.nd rfl (by first | exact Or.inl rfl | exact Or.inr rfl) (C8.pe_c C_law_take hr (by decide) (by rfl) (pa_cons (pv 2) (pa_cons (pe_op op_add pe_int (pe_callB call_len_seq (by rfl) T.b_len (by decide +kernel) (pa_cons (pv 7) pa_nil))) pa_nil))))
  (pss_one (ps_ret (pe_tup (pa_cons (pv 3) (pa_cons (C8.pe_c C_law_named hr (by decide) (by rfl) (pa_cons (pv 7) (pa_cons (pv 8) (pa_cons (pv 9) pa_nil)))) (pa_cons (pv 8) (pa_cons (pv 6) (pa_cons (pv 4) pa_nil)))))))))))))))))), rd_law_world h⟩)
theorem bi_law_world {f : Addr} {fd : FuncData} (F : Fun K "_law_world" "_law_world" s_law_world f fd) : Binds K fd ["script", "room"] [] := F.binds fun _ _ _ _ _ _ us hl => match us, hl with | [_, _], _ => rfl
theorem sc_law_lines : FnScope ["source", "pick"] ["source"] (defScope s_law_lines) := ⟨rfl, rfl, rfl, by decide +kernel, rfl, by decide +kernel, by decide +kernel⟩
theorem ln_law_lines {vs : List V} {H : Hp} {Q : VK} {E : XK} (h : sp_law_lines K A vs H Q E) : vs.length = 1 := by
  first | (obtain ⟨_, rfl, _⟩ := h; rfl) | (obtain ⟨_, _, rfl, _⟩ := h; rfl) | (obtain ⟨_, _, _, rfl, _⟩ := h; rfl) | (obtain ⟨_, _, _, _, rfl, _⟩ := h; rfl) | (obtain ⟨_, _, _, _, _, rfl, _⟩ := h; rfl) | (obtain ⟨_, _, _, _, _, _, rfl, _⟩ := h; rfl) | (obtain ⟨_, _, _, _, _, _, _, rfl, _⟩ := h; rfl) | (obtain ⟨_, _, _, _, _, _, _, _, rfl, _⟩ := h; rfl) | (obtain ⟨_, _, _, _, _, _, _, _, _, rfl, _⟩ := h; rfl) | (obtain ⟨_, _, _, _, _, _, _, _, _, _, rfl, _⟩ := h; rfl) | (obtain ⟨_, _, _, _, _, _, _, _, _, _, _, rfl, _⟩ := h; rfl) | (obtain ⟨_, _, _, _, _, _, _, _, _, _, _, _, rfl, _⟩ := h; rfl) | (obtain ⟨_, _, _, _, _, _, _, _, _, _, _, _, _, rfl, _⟩ := h; rfl) | (obtain ⟨_, _, _, _, _, _, _, _, _, _, _, _, _, _, rfl, _⟩ := h; rfl) | (obtain ⟨_, _, _, _, _, _, _, _, _, _, _, _, _, _, _, rfl, _⟩ := h; rfl) | (obtain ⟨_, _, _, _, _, _, _, _, _, _, _, _, _, _, _, _, rfl, _⟩ := h; rfl) | (obtain ⟨_, _, _, _, _, _, _, _, _, _, _, _, _, _, _, _, _, rfl, _⟩ := h; rfl) | (obtain ⟨_, _, _, _, _, _, _, _, _, _, _, _, _, _, _, _, _, _, rfl, _⟩ := h; rfl) | (obtain ⟨_, _, _, _, _, _, _, _, _, _, _, _, _, _, _, _, _, _, _, rfl, _⟩ := h; rfl)
theorem fn_law_lines {f : Addr} {fd : FuncData} (F : Fun K "_law_lines" "_law_lines" s_law_lines f fd) (T : Txt mg A) (C : CT K A) (C_law_take : C8.Cal P w K mg base 1 "_law_take" (sp_law_take K A) []) : FnOk P w K mg base CX0 2 f fd ["source"] (sp_law_lines K A) :=
  F.ok sc_law_lines (fun vs H Q E h => ln_law_lines h) (fun cdv Ar outer s H vs Q E hr h => ⟨t_law_lines K A, (pss_cons (ps_set (i := 1) sc_law_lines.nd rfl (by first | exact Or.inl rfl | exact Or.inr rfl) (C8.pe_c C_law_take hr (by decide) (by rfl) (pa_cons (pv 0) (pa_cons pe_int pa_nil))))
  (pss_cons (ps_if (pt_cmpR op_eq (pv 1) pe_int (nomark _)) (pss_one (ps_ret (C8.pe_c C_law_take hr (by decide) (by rfl) (pa_cons (pv 0) (pa_cons pe_int pa_nil))))) pss_nil)
  (pss_one (ps_ret (pe_ix ix_list (pe_lst (pa_cons pe_int (pa_cons pe_int (pa_cons pe_int (pa_cons pe_int (pa_cons pe_int (pa_cons pe_int (pa_cons pe_int (pa_cons pe_int (pa_cons pe_int (pa_cons pe_int (pa_cons pe_int pa_nil)))))))))))) (pv 1) (fun _ _ => rfl)))))), rd_law_lines h⟩)
theorem bi_law_lines {f : Addr} {fd : FuncData} (F : Fun K "_law_lines" "_law_lines" s_law_lines f fd) : Binds K fd ["source"] [] := F.binds fun _ _ _ _ _ _ us hl => match us, hl with | [_], _ => rfl
theorem sc_law_owners : FnScope ["source", "pairs", "sides", "k"] ["source", "pairs"] (defScope s_law_owners) := ⟨rfl, rfl, rfl, by decide +kernel, rfl, by decide +kernel, by decide +kernel⟩
theorem ln_law_owners {vs : List V} {H : Hp} {Q : VK} {E : XK} (h : sp_law_owners K A vs H Q E) : vs.length = 2 := by
  first | (obtain ⟨_, rfl, _⟩ := h; rfl) | (obtain ⟨_, _, rfl, _⟩ := h; rfl) | (obtain ⟨_, _, _, rfl, _⟩ := h; rfl) | (obtain ⟨_, _, _, _, rfl, _⟩ := h; rfl) | (obtain ⟨_, _, _, _, _, rfl, _⟩ := h; rfl) | (obtain ⟨_, _, _, _, _, _, rfl, _⟩ := h; rfl) | (obtain ⟨_, _, _, _, _, _, _, rfl, _⟩ := h; rfl) | (obtain ⟨_, _, _, _, _, _, _, _, rfl, _⟩ := h; rfl) | (obtain ⟨_, _, _, _, _, _, _, _, _, rfl, _⟩ := h; rfl) | (obtain ⟨_, _, _, _, _, _, _, _, _, _, rfl, _⟩ := h; rfl) | (obtain ⟨_, _, _, _, _, _, _, _, _, _, _, rfl, _⟩ := h; rfl) | (obtain ⟨_, _, _, _, _, _, _, _, _, _, _, _, rfl, _⟩ := h; rfl) | (obtain ⟨_, _, _, _, _, _, _, _, _, _, _, _, _, rfl, _⟩ := h; rfl) | (obtain ⟨_, _, _, _, _, _, _, _, _, _, _, _, _, _, rfl, _⟩ := h; rfl) | (obtain ⟨_, _, _, _, _, _, _, _, _, _, _, _, _, _, _, rfl, _⟩ := h; rfl) | (obtain ⟨_, _, _, _, _, _, _, _, _, _, _, _, _, _, _, _, rfl, _⟩ := h; rfl) | (obtain ⟨_, _, _, _, _, _, _, _, _, _, _, _, _, _, _, _, _, rfl, _⟩ := h; rfl) | (obtain ⟨_, _, _, _, _, _, _, _, _, _, _, _, _, _, _, _, _, _, rfl, _⟩ := h; rfl) | (obtain ⟨_, _, _, _, _, _, _, _, _, _, _, _, _, _, _, _, _, _, _, rfl, _⟩ := h; rfl)
theorem fn_law_owners {f : Addr} {fd : FuncData} (F : Fun K "_law_owners" "_law_owners" s_law_owners f fd) (T : Txt mg A) (C : CT K A) (C_law_take : C8.Cal P w K mg base 1 "_law_take" (sp_law_take K A) []) : FnOk P w K mg base CX0 2 f fd ["source", "pairs"] (sp_law_owners K A) :=
  F.ok sc_law_owners (fun vs H Q E h => ln_law_owners h) (fun cdv Ar outer s H vs Q E hr h => ⟨t_law_owners K A, (pss_cons (ps_set (i := 2) sc_law_owners.nd rfl (by first | exact Or.inl rfl | exact Or.inr rfl) (pe_lc (own := [("k", 3)]) (g := (gName 3)) (tt := tYes) rfl sc_law_owners.nd (pi_range1 (by rfl) T.b_range (pa_cons (pe_callB (call_min2 rfl) (by rfl) T.b_min (by decide +kernel) (pa_cons pe_int (pa_cons (pe_callB call_len_seq (by rfl) T.b_len (by decide +kernel) (pa_cons (pv 1) pa_nil)) pa_nil))) pa_nil)) (blkOk_by (own := [("k", 3)]) (N := ["source", "pairs", "sides", "k"]) (sc := defScope s_law_owners) (by decide +kernel)) (fun _ _ _ _ _ => (pg_name (i := 3) sc_law_owners.nd rfl (by first | exact Or.inl rfl | exact Or.inr rfl))) (fun _ _ _ _ _ => pts_nil) (fun _ _ _ _ _ => (C8.pe_c C_law_take hr (by decide) (by rfl) (pa_cons (pv 0) (pa_cons pe_int pa_nil))))))
  (pss_one (ps_ret (pe_lc (own := [("k", 3)]) (g := (gName 3)) (tt := tYes) rfl sc_law_owners.nd (pi_range1 (by rfl) T.b_range (pa_cons (pe_callB call_len_seq (by rfl) T.b_len (by decide +kernel) (pa_cons (pv 1) pa_nil)) pa_nil)) (blkOk_by (own := [("k", 3)]) (N := ["source", "pairs", "sides", "k"]) (sc := defScope s_law_owners) (by decide +kernel)) (fun _ _ _ _ _ => (pg_name (i := 3) sc_law_owners.nd rfl (by first | exact Or.inl rfl | exact Or.inr rfl))) (fun _ _ _ _ _ => pts_nil) (fun _ _ _ _ _ => (pe_ix ix_tup (pe_ix ix_list (pv 1) (pv 3) (fun _ _ => rfl)) (pe_ix ix_list (pv 2) (pe_op op_mod (pv 3) pe_int) (fun _ _ => rfl)) (fun _ _ => rfl))))))), rd_law_owners h⟩)
theorem bi_law_owners {f : Addr} {fd : FuncData} (F : Fun K "_law_owners" "_law_owners" s_law_owners f fd) : Binds K fd ["source", "pairs"] [] := F.binds fun _ _ _ _ _ _ us hl => match us, hl with | [_, _], _ => rfl
theorem sc_law_table : FnScope ["source", "many", "owners", "lines", "mode", "change", "page", "blank", "k"] ["source", "many", "owners"] (defScope s_law_table) := ⟨rfl, rfl, rfl, by decide +kernel, rfl, by decide +kernel, by decide +kernel⟩
theorem ln_law_table {vs : List V} {H : Hp} {Q : VK} {E : XK} (h : sp_law_table K A vs H Q E) : vs.length = 3 := by
  first | (obtain ⟨_, rfl, _⟩ := h; rfl) | (obtain ⟨_, _, rfl, _⟩ := h; rfl) | (obtain ⟨_, _, _, rfl, _⟩ := h; rfl) | (obtain ⟨_, _, _, _, rfl, _⟩ := h; rfl) | (obtain ⟨_, _, _, _, _, rfl, _⟩ := h; rfl) | (obtain ⟨_, _, _, _, _, _, rfl, _⟩ := h; rfl) | (obtain ⟨_, _, _, _, _, _, _, rfl, _⟩ := h; rfl) | (obtain ⟨_, _, _, _, _, _, _, _, rfl, _⟩ := h; rfl) | (obtain ⟨_, _, _, _, _, _, _, _, _, rfl, _⟩ := h; rfl) | (obtain ⟨_, _, _, _, _, _, _, _, _, _, rfl, _⟩ := h; rfl) | (obtain ⟨_, _, _, _, _, _, _, _, _, _, _, rfl, _⟩ := h; rfl) | (obtain ⟨_, _, _, _, _, _, _, _, _, _, _, _, rfl, _⟩ := h; rfl) | (obtain ⟨_, _, _, _, _, _, _, _, _, _, _, _, _, rfl, _⟩ := h; rfl) | (obtain ⟨_, _, _, _, _, _, _, _, _, _, _, _, _, _, rfl, _⟩ := h; rfl) | (obtain ⟨_, _, _, _, _, _, _, _, _, _, _, _, _, _, _, rfl, _⟩ := h; rfl) | (obtain ⟨_, _, _, _, _, _, _, _, _, _, _, _, _, _, _, _, rfl, _⟩ := h; rfl) | (obtain ⟨_, _, _, _, _, _, _, _, _, _, _, _, _, _, _, _, _, rfl, _⟩ := h; rfl) | (obtain ⟨_, _, _, _, _, _, _, _, _, _, _, _, _, _, _, _, _, _, rfl, _⟩ := h; rfl) | (obtain ⟨_, _, _, _, _, _, _, _, _, _, _, _, _, _, _, _, _, _, _, rfl, _⟩ := h; rfl)
theorem fn_law_table {f : Addr} {fd : FuncData} (F : Fun K "_law_table" "_law_table" s_law_table f fd) (T : Txt mg A) (C : CT K A) (C_law_lines : C8.Cal P w K mg base 2 "_law_lines" (sp_law_lines K A) []) (C_law_take : C8.Cal P w K mg base 1 "_law_take" (sp_law_take K A) []) : FnOk P w K mg base CX0 3 f fd ["source", "many", "owners"] (sp_law_table K A) :=
  F.ok sc_law_table (fun vs H Q E h => ln_law_table h) (fun cdv Ar outer s H vs Q E hr h => ⟨t_law_table K A, (pss_cons (ps_set (i := 3) sc_law_table.nd rfl (by first | exact Or.inl rfl | exact Or.inr rfl) (C8.pe_c C_law_lines hr (by decide) (by rfl) (pa_cons (pv 0) pa_nil)))
  (pss_cons (ps_set (i := 4) sc_law_table.nd rfl (by first | exact Or.inl rfl | exact Or.inr rfl) (C8.pe_c C_law_take hr (by decide) (by rfl) (pa_cons (pv 0) (pa_cons pe_int pa_nil))))
  (pss_cons (ps_set (i := 5) sc_law_table.nd rfl (by first | exact Or.inl rfl | exact Or.inr rfl) (C8.pe_c C_law_take hr (by decide) (by rfl) (pa_cons (pv 0) (pa_cons pe_int pa_nil))))
  (pss_cons (ps_set (i := 6) sc_law_table.nd rfl (by first | exact Or.inl rfl | exact Or.inr rfl) (C8.pe_c C_law_take hr (by decide) (by rfl) (pa_cons (pv 0) (pa_cons (pv 1) pa_nil))))
  (pss_cons (ps_set (i := 7) sc_law_table.nd rfl (by first | exact Or.inl rfl | exact Or.inr rfl) (pe_lst pa_nil))
  (pss_cons (ps_for PassesOwn.never rfl (pi_range1 (by rfl) T.b_range (pa_cons (pv 1) pa_nil)) (pg_name (i := 8) sc_law_table.nd rfl (by first | exact Or.inl rfl | exact Or.inr rfl))
  (pss_one (ps_if (pt_cmpR op_lt (pv 4) pe_int (nomark _)) (pss_one (ps_expr (pe_bm PySem.F.plainAttrs_list PySem.F.slot_list_append PySem.F.type_list_append mt_append (pv 7) (pa_cons (pe_callB (call_min2 rfl) (by rfl) T.b_min (by decide +kernel) (pa_cons pe_int (pa_cons (pe_bm PySem.F.plainAttrs_list PySem.F.slot_list_count PySem.F.type_list_count mt_lcount (pv 2) (pa_cons (pv 8) pa_nil)) pa_nil))) pa_nil)))) (pss_one (ps_if (pt_cmpR op_eq (pv 4) pe_int (nomark _)) (pss_one (ps_expr (pe_bm PySem.F.plainAttrs_list PySem.F.slot_list_append PySem.F.type_list_append mt_append (pv 7) (pa_cons (pe_callB (call_min2 rfl) (by rfl) T.b_min (by decide +kernel) (pa_cons pe_int (pa_cons (pe_op op_add (pe_bm PySem.F.plainAttrs_list PySem.F.slot_list_count PySem.F.type_list_count mt_lcount (pv 2) (pa_cons (pv 8) pa_nil)) (pe_ix ix_list (pe_lst (pa_cons pe_int (pa_cons pe_int (pa_cons pe_int pa_nil)))) (C8.pe_c C_law_take hr (by decide) (by rfl) (pa_cons (pv 0) (pa_cons pe_int pa_nil))) (fun _ _ => rfl))) pa_nil))) pa_nil)))) (pss_one (ps_if (pt_cmpR op_eq (pv 4) pe_int (nomark _)) (pss_one (ps_expr (pe_bm PySem.F.plainAttrs_list PySem.F.slot_list_append PySem.F.type_list_append mt_append (pv 7) (pa_cons (C8.pe_c C_law_take hr (by decide) (by rfl) (pa_cons (pv 0) (pa_cons (pe_op op_add (pv 3) pe_int) pa_nil))) pa_nil)))) (pss_one (ps_expr (pe_bm PySem.F.plainAttrs_list PySem.F.slot_list_append PySem.F.type_list_append mt_append (pv 7) (pa_cons (pe_callB (call_min2 rfl) (by rfl) T.b_min (by decide +kernel) (pa_cons (pv 3) (pa_cons (C8.pe_c C_law_take hr (by decide) (by rfl) (pa_cons (pv 0) (pa_cons pe_int pa_nil))) pa_nil))) pa_nil)))))))))))
  (pss_cons (ps_set (i := 3) sc_law_table.nd rfl (by first | exact Or.inl rfl | exact Or.inr rfl) (pe_callB (call_max2 rfl) (by rfl) T.b_max (by decide +kernel) (pa_cons (pv 3) (pa_cons (pe_callB (cr_max rfl) (by rfl) T.b_max (by decide +kernel) (pa_cons (pv 7) pa_nil)) pa_nil))))
  (C8.pss_cut (ps_if (pt_cmpR op_eq (pv 5) pe_int (nomark _)) (pss_one (ps_asg (pe_callB (call_min2 rfl) (by rfl) T.b_min (by decide +kernel) (pa_cons (pv 3) (pa_cons (pe_op op_add (pe_ix ix_list (pv 7) (pv 6) (fun _ _ => rfl)) pe_int) pa_nil))) (pg_sub (pv 7) (pv 6) set_list))) pss_nil)
  (C8.pss_cut (ps_if (pt_cmpR op_gt (pv 5) pe_int (nomark _)) (C8.pss_cut (ps_if (PW.pt (pw_and (pt_cmpR op_eq (pe_ix ix_list (pv 7) (pv 6) (fun _ _ => rfl)) pe_int (nomark _)) (pw_and1 (pt_cmpR (op_neD hr.units) (pv 2) (pe_lst pa_nil) (nomark _))))) (pss_one (ps_set (i := 6) sc_law_table.nd rfl (by first | exact Or.inl rfl | exact Or.inr rfl) (pe_ix ix_list (pv 2) pe_int (fun _ _ => rfl)))) pss_nil)
  (pss_one (ps_asg (pe_callB (call_max2 rfl) (by rfl) T.b_max (by decide +kernel) (pa_cons pe_int (pa_cons (pe_op op_sub (pe_ix ix_list (pv 7) (pv 6) (fun _ _ => rfl)) pe_int) pa_nil))) (pg_sub (pv 7) (pv 6) set_list)))) pss_nil)
  (pss_one (ps_ret (pe_tup (pa_cons (pv 3) (pa_cons (pv 7) pa_nil)))))))))))))), rd_law_table h⟩)
theorem bi_law_table {f : Addr} {fd : FuncData} (F : Fun K "_law_table" "_law_table" s_law_table f fd) : Binds K fd ["source", "many", "owners"] [] := F.binds fun _ _ _ _ _ _ us hl => match us, hl with | [_, _, _], _ => rfl
theorem sc_law_near : FnScope ["source", "lines", "blank", "near", "page", "fewer"] ["source", "lines", "blank"] (defScope s_law_near) := ⟨rfl, rfl, rfl, by decide +kernel, rfl, by decide +kernel, by decide +kernel⟩
theorem ln_law_near {vs : List V} {H : Hp} {Q : VK} {E : XK} (h : sp_law_near K A vs H Q E) : vs.length = 3 := by
  first | (obtain ⟨_, rfl, _⟩ := h; rfl) | (obtain ⟨_, _, rfl, _⟩ := h; rfl) | (obtain ⟨_, _, _, rfl, _⟩ := h; rfl) | (obtain ⟨_, _, _, _, rfl, _⟩ := h; rfl) | (obtain ⟨_, _, _, _, _, rfl, _⟩ := h; rfl) | (obtain ⟨_, _, _, _, _, _, rfl, _⟩ := h; rfl) | (obtain ⟨_, _, _, _, _, _, _, rfl, _⟩ := h; rfl) | (obtain ⟨_, _, _, _, _, _, _, _, rfl, _⟩ := h; rfl) | (obtain ⟨_, _, _, _, _, _, _, _, _, rfl, _⟩ := h; rfl) | (obtain ⟨_, _, _, _, _, _, _, _, _, _, rfl, _⟩ := h; rfl) | (obtain ⟨_, _, _, _, _, _, _, _, _, _, _, rfl, _⟩ := h; rfl) | (obtain ⟨_, _, _, _, _, _, _, _, _, _, _, _, rfl, _⟩ := h; rfl) | (obtain ⟨_, _, _, _, _, _, _, _, _, _, _, _, _, rfl, _⟩ := h; rfl) | (obtain ⟨_, _, _, _, _, _, _, _, _, _, _, _, _, _, rfl, _⟩ := h; rfl) | (obtain ⟨_, _, _, _, _, _, _, _, _, _, _, _, _, _, _, rfl, _⟩ := h; rfl) | (obtain ⟨_, _, _, _, _, _, _, _, _, _, _, _, _, _, _, _, rfl, _⟩ := h; rfl) | (obtain ⟨_, _, _, _, _, _, _, _, _, _, _, _, _, _, _, _, _, rfl, _⟩ := h; rfl) | (obtain ⟨_, _, _, _, _, _, _, _, _, _, _, _, _, _, _, _, _, _, rfl, _⟩ := h; rfl) | (obtain ⟨_, _, _, _, _, _, _, _, _, _, _, _, _, _, _, _, _, _, _, rfl, _⟩ := h; rfl)
theorem fn_law_near {f : Addr} {fd : FuncData} (F : Fun K "_law_near" "_law_near" s_law_near f fd) (T : Txt mg A) (C : CT K A) (C_law_take : C8.Cal P w K mg base 1 "_law_take" (sp_law_take K A) []) : FnOk P w K mg base CX0 2 f fd ["source", "lines", "blank"] (sp_law_near K A) :=
  F.ok sc_law_near (fun vs H Q E h => ln_law_near h) (fun cdv Ar outer s H vs Q E hr h => ⟨t_law_near K A, (pss_cons (ps_set (i := 3) sc_law_near.nd rfl (by first | exact Or.inl rfl | exact Or.inr rfl) (pe_callTy call_list_of (by rfl) T.b_list (by decide +kernel) (pa_cons (pv 2) pa_nil)))
  (pss_cons (ps_set (i := 4) sc_law_near.nd rfl (by first | exact Or.inl rfl | exact Or.inr rfl) (C8.pe_c C_law_take hr (by decide) (by rfl) (pa_cons (pv 0) (pa_cons (pe_callB call_len_seq (by rfl) T.b_len (by decide +kernel) (pa_cons (pv 2) pa_nil)) pa_nil))))
  (pss_cons (ps_set (i := 5) sc_law_near.nd rfl (by first | exact Or.inl rfl | exact Or.inr rfl) (pe_cmpR op_eq (C8.pe_c C_law_take hr (by decide) (by rfl) (pa_cons (pv 0) (pa_cons pe_int pa_nil))) pe_int (nomark _)))
  (C8.pss_cut (ps_if (PW.pt (pw_and (pt_cmpR op_gt (pe_ix ix_list (pv 3) (pv 4) (fun _ _ => rfl)) pe_int (nomark _)) (pw_and1 (PW.pt (pw_or (pt_val (pv 5) (by intro _; rfl)) (pw_or1 (pt_cmpR op_eq (pe_ix ix_list (pv 3) (pv 4) (fun _ _ => rfl)) (pv 1) (nomark _)))))))) (pss_one (ps_asg (pe_op op_sub (pe_ix ix_list (pv 3) (pv 4) (fun _ _ => rfl)) pe_int) (pg_sub (pv 3) (pv 4) set_list))) (pss_one (ps_if (pt_cmpR op_lt (pe_ix ix_list (pv 3) (pv 4) (fun _ _ => rfl)) (pv 1) (nomark _)) (pss_one (ps_asg (pe_op op_add (pe_ix ix_list (pv 3) (pv 4) (fun _ _ => rfl)) pe_int) (pg_sub (pv 3) (pv 4) set_list))) pss_nil)))
  (pss_one (ps_ret (pv 3))))))), rd_law_near h⟩)
theorem bi_law_near {f : Addr} {fd : FuncData} (F : Fun K "_law_near" "_law_near" s_law_near f fd) : Binds K fd ["source", "lines", "blank"] [] := F.binds fun _ _ _ _ _ _ us hl => match us, hl with | [_, _, _], _ => rfl
theorem sc_law_is_integer : FnScope ["told"] ["told"] (defScope s_law_is_integer) := ⟨rfl, rfl, rfl, by decide +kernel, rfl, by decide +kernel, by decide +kernel⟩
theorem ln_law_is_integer {vs : List V} {H : Hp} {Q : VK} {E : XK} (h : sp_law_is_integer K A vs H Q E) : vs.length = 1 := by
  first | (obtain ⟨_, rfl, _⟩ := h; rfl) | (obtain ⟨_, _, rfl, _⟩ := h; rfl) | (obtain ⟨_, _, _, rfl, _⟩ := h; rfl) | (obtain ⟨_, _, _, _, rfl, _⟩ := h; rfl) | (obtain ⟨_, _, _, _, _, rfl, _⟩ := h; rfl) | (obtain ⟨_, _, _, _, _, _, rfl, _⟩ := h; rfl) | (obtain ⟨_, _, _, _, _, _, _, rfl, _⟩ := h; rfl) | (obtain ⟨_, _, _, _, _, _, _, _, rfl, _⟩ := h; rfl) | (obtain ⟨_, _, _, _, _, _, _, _, _, rfl, _⟩ := h; rfl) | (obtain ⟨_, _, _, _, _, _, _, _, _, _, rfl, _⟩ := h; rfl) | (obtain ⟨_, _, _, _, _, _, _, _, _, _, _, rfl, _⟩ := h; rfl) | (obtain ⟨_, _, _, _, _, _, _, _, _, _, _, _, rfl, _⟩ := h; rfl) | (obtain ⟨_, _, _, _, _, _, _, _, _, _, _, _, _, rfl, _⟩ := h; rfl) | (obtain ⟨_, _, _, _, _, _, _, _, _, _, _, _, _, _, rfl, _⟩ := h; rfl) | (obtain ⟨_, _, _, _, _, _, _, _, _, _, _, _, _, _, _, rfl, _⟩ := h; rfl) | (obtain ⟨_, _, _, _, _, _, _, _, _, _, _, _, _, _, _, _, rfl, _⟩ := h; rfl) | (obtain ⟨_, _, _, _, _, _, _, _, _, _, _, _, _, _, _, _, _, rfl, _⟩ := h; rfl) | (obtain ⟨_, _, _, _, _, _, _, _, _, _, _, _, _, _, _, _, _, _, rfl, _⟩ := h; rfl) | (obtain ⟨_, _, _, _, _, _, _, _, _, _, _, _, _, _, _, _, _, _, _, rfl, _⟩ := h; rfl)
theorem fn_law_is_integer {f : Addr} {fd : FuncData} (F : Fun K "_law_is_integer" "_law_is_integer" s_law_is_integer f fd) (T : Txt mg A) (C : CT K A)  : FnOk P w K mg base CX0 1 f fd ["told"] (sp_law_is_integer K A) :=
  F.ok sc_law_is_integer (fun vs H Q E h => ln_law_is_integer h) (fun cdv Ar outer s H vs Q E hr h => ⟨t_law_is_integer K A, (pss_one (ps_ret (pe_and (pe_callB call_isi (by rfl) T.b_isinstance (by decide +kernel) (pa_cons (pv 0) (pa_cons (pe_bltn (v := .ty "int") (by rfl) T.b_int (by decide +kernel) rfl) pa_nil))) (pe_one (pe_not (pe_callB call_isi (by rfl) T.b_isinstance (by decide +kernel) (pa_cons (pv 0) (pa_cons (pe_bltn (v := .ty "bool") (by rfl) T.b_bool (by decide +kernel) rfl) pa_nil)))))))), rd_law_is_integer h⟩)
theorem bi_law_is_integer {f : Addr} {fd : FuncData} (F : Fun K "_law_is_integer" "_law_is_integer" s_law_is_integer f fd) : Binds K fd ["told"] [] := F.binds fun _ _ _ _ _ _ us hl => match us, hl with | [_], _ => rfl
theorem fnh_law_is_integer {f : Addr} {fd : FuncData} (F : Fun K "_law_is_integer" "_law_is_integer" s_law_is_integer f fd) (T : Txt mg A) : GX.FnG P w K mg base 1 f fd ["told"] (fun _ _ _ => sp_law_is_integer K A) :=
  F.okG sc_law_is_integer (fun a c d vs H Q h => ln_law_is_integer h) (fun cdv Ar outer s H vs Q p hp h => ⟨t_law_is_integer K A, (pss_one (ps_ret (pe_and (pe_callB call_isi (by rfl) T.b_isinstance (by decide +kernel) (pa_cons (pv 0) (pa_cons (pe_bltn (v := .ty "int") (by rfl) T.b_int (by decide +kernel) rfl) pa_nil))) (pe_one (pe_not (pe_callB call_isi (by rfl) T.b_isinstance (by decide +kernel) (pa_cons (pv 0) (pa_cons (pe_bltn (v := .ty "bool") (by rfl) T.b_bool (by decide +kernel) rfl) pa_nil)))))))), rd_law_is_integer h⟩)
theorem sc_law_is_dealing : FnScope ["pairs", "blank", "told", "left", "k"] ["pairs", "blank", "told"] (defScope s_law_is_dealing) := ⟨rfl, rfl, rfl, by decide +kernel, rfl, by decide +kernel, by decide +kernel⟩
theorem ln_law_is_dealing {vs : List V} {H : Hp} {Q : VK} {E : XK} (h : sp_law_is_dealing K A vs H Q E) : vs.length = 3 := by
  first | (obtain ⟨_, rfl, _⟩ := h; rfl) | (obtain ⟨_, _, rfl, _⟩ := h; rfl) | (obtain ⟨_, _, _, rfl, _⟩ := h; rfl) | (obtain ⟨_, _, _, _, rfl, _⟩ := h; rfl) | (obtain ⟨_, _, _, _, _, rfl, _⟩ := h; rfl) | (obtain ⟨_, _, _, _, _, _, rfl, _⟩ := h; rfl) | (obtain ⟨_, _, _, _, _, _, _, rfl, _⟩ := h; rfl) | (obtain ⟨_, _, _, _, _, _, _, _, rfl, _⟩ := h; rfl) | (obtain ⟨_, _, _, _, _, _, _, _, _, rfl, _⟩ := h; rfl) | (obtain ⟨_, _, _, _, _, _, _, _, _, _, rfl, _⟩ := h; rfl) | (obtain ⟨_, _, _, _, _, _, _, _, _, _, _, rfl, _⟩ := h; rfl) | (obtain ⟨_, _, _, _, _, _, _, _, _, _, _, _, rfl, _⟩ := h; rfl) | (obtain ⟨_, _, _, _, _, _, _, _, _, _, _, _, _, rfl, _⟩ := h; rfl) | (obtain ⟨_, _, _, _, _, _, _, _, _, _, _, _, _, _, rfl, _⟩ := h; rfl) | (obtain ⟨_, _, _, _, _, _, _, _, _, _, _, _, _, _, _, rfl, _⟩ := h; rfl) | (obtain ⟨_, _, _, _, _, _, _, _, _, _, _, _, _, _, _, _, rfl, _⟩ := h; rfl) | (obtain ⟨_, _, _, _, _, _, _, _, _, _, _, _, _, _, _, _, _, rfl, _⟩ := h; rfl) | (obtain ⟨_, _, _, _, _, _, _, _, _, _, _, _, _, _, _, _, _, _, rfl, _⟩ := h; rfl) | (obtain ⟨_, _, _, _, _, _, _, _, _, _, _, _, _, _, _, _, _, _, _, rfl, _⟩ := h; rfl)
theorem fn_law_is_dealing {f : Addr} {fd : FuncData} (F : Fun K "_law_is_dealing" "_law_is_dealing" s_law_is_dealing f fd) (T : Txt mg A) (C : CT K A) (C_law_is_integer : C8.Cal P w K mg base 1 "_law_is_integer" (sp_law_is_integer K A) []) : FnOk P w K mg base CX0 2 f fd ["pairs", "blank", "told"] (sp_law_is_dealing K A) :=
  F.ok sc_law_is_dealing (fun vs H Q E h => ln_law_is_dealing h) (fun cdv Ar outer s H vs Q E hr h => ⟨t_law_is_dealing K A, (pss_cons (ps_if (PW.pt (pw_or (pt_not (pt_val (pe_callB call_isi (by rfl) T.b_isinstance (by decide +kernel) (pa_cons (pv 2) (pa_cons (pe_bltn (v := .ty "list") (by rfl) T.b_list (by decide +kernel) rfl) pa_nil))) (by intro _; rfl))) (pw_or1 (pt_cmpR op_ne (pe_callB call_len_seq (by rfl) T.b_len (by decide +kernel) (pa_cons (pv 2) pa_nil)) (pe_callB call_len_seq (by rfl) T.b_len (by decide +kernel) (pa_cons (pv 0) pa_nil)) (nomark _))))) (pss_one (ps_ret pe_bl)) pss_nil)
  (pss_cons (ps_set (i := 3) sc_law_is_dealing.nd rfl (by first | exact Or.inl rfl | exact Or.inr rfl) (pe_callTy call_list_of (by rfl) T.b_list (by decide +kernel) (pa_cons (pv 1) pa_nil)))
  (pss_cons (ps_for PassesOwn.never rfl (pi_range1 (by rfl) T.b_range (pa_cons (pe_callB call_len_seq (by rfl) T.b_len (by decide +kernel) (pa_cons (pv 0) pa_nil)) pa_nil)) (pg_name (i := 4) sc_law_is_dealing.nd rfl (by first | exact Or.inl rfl | exact Or.inr rfl))
  (pss_cons (ps_if (PW.pt (pw_or (pt_not (pt_val (C8.pe_c C_law_is_integer hr (by decide) (by rfl) (pa_cons (pe_ix ix_list (pv 2) (pv 4) (fun _ _ => rfl)) pa_nil)) (by intro _; rfl))) (pw_or1 (pt_cmpR op_notIn_seq (pe_ix ix_list (pv 2) (pv 4) (fun _ _ => rfl)) (pe_ix ix_list (pv 0) (pv 4) (fun _ _ => rfl)) (by rfl))))) (pss_one (ps_ret pe_bl)) pss_nil)
  (pss_one (ps_asg (pe_op op_sub (pe_ix ix_list (pv 3) (pe_ix ix_list (pv 2) (pv 4) (fun _ _ => rfl)) (fun _ _ => rfl)) pe_int) (pg_sub (pv 3) (pe_ix ix_list (pv 2) (pv 4) (fun _ _ => rfl)) set_list)))))
  (pss_one (ps_ret (pe_cmpR op_ge (pe_callB (cr_min rfl) (by rfl) T.b_min (by decide +kernel) (pa_cons (pv 3) pa_nil)) pe_int (nomark _))))))), rd_law_is_dealing h⟩)
theorem bi_law_is_dealing {f : Addr} {fd : FuncData} (F : Fun K "_law_is_dealing" "_law_is_dealing" s_law_is_dealing f fd) : Binds K fd ["pairs", "blank", "told"] [] := F.binds fun _ _ _ _ _ _ us hl => match us, hl with | [_, _, _], _ => rfl
theorem sc_law_is_lot : FnScope ["told", "many", "low", "page"] ["told", "many"] (defScope s_law_is_lot) := ⟨rfl, rfl, rfl, by decide +kernel, rfl, by decide +kernel, by decide +kernel⟩
theorem ln_law_is_lot {vs : List V} {H : Hp} {Q : VK} {E : XK} (h : sp_law_is_lot K A vs H Q E) : vs.length = 2 := by
  first | (obtain ⟨_, rfl, _⟩ := h; rfl) | (obtain ⟨_, _, rfl, _⟩ := h; rfl) | (obtain ⟨_, _, _, rfl, _⟩ := h; rfl) | (obtain ⟨_, _, _, _, rfl, _⟩ := h; rfl) | (obtain ⟨_, _, _, _, _, rfl, _⟩ := h; rfl) | (obtain ⟨_, _, _, _, _, _, rfl, _⟩ := h; rfl) | (obtain ⟨_, _, _, _, _, _, _, rfl, _⟩ := h; rfl) | (obtain ⟨_, _, _, _, _, _, _, _, rfl, _⟩ := h; rfl) | (obtain ⟨_, _, _, _, _, _, _, _, _, rfl, _⟩ := h; rfl) | (obtain ⟨_, _, _, _, _, _, _, _, _, _, rfl, _⟩ := h; rfl) | (obtain ⟨_, _, _, _, _, _, _, _, _, _, _, rfl, _⟩ := h; rfl) | (obtain ⟨_, _, _, _, _, _, _, _, _, _, _, _, rfl, _⟩ := h; rfl) | (obtain ⟨_, _, _, _, _, _, _, _, _, _, _, _, _, rfl, _⟩ := h; rfl) | (obtain ⟨_, _, _, _, _, _, _, _, _, _, _, _, _, _, rfl, _⟩ := h; rfl) | (obtain ⟨_, _, _, _, _, _, _, _, _, _, _, _, _, _, _, rfl, _⟩ := h; rfl) | (obtain ⟨_, _, _, _, _, _, _, _, _, _, _, _, _, _, _, _, rfl, _⟩ := h; rfl) | (obtain ⟨_, _, _, _, _, _, _, _, _, _, _, _, _, _, _, _, _, rfl, _⟩ := h; rfl) | (obtain ⟨_, _, _, _, _, _, _, _, _, _, _, _, _, _, _, _, _, _, rfl, _⟩ := h; rfl) | (obtain ⟨_, _, _, _, _, _, _, _, _, _, _, _, _, _, _, _, _, _, _, rfl, _⟩ := h; rfl)
theorem fn_law_is_lot {f : Addr} {fd : FuncData} (F : Fun K "_law_is_lot" "_law_is_lot" s_law_is_lot f fd) (T : Txt mg A) (C : CT K A) (C_law_is_integer : C8.Cal P w K mg base 1 "_law_is_integer" (sp_law_is_integer K A) []) : FnOk P w K mg base CX0 2 f fd ["told", "many"] (sp_law_is_lot K A) :=
  F.ok sc_law_is_lot (fun vs H Q E h => ln_law_is_lot h) (fun cdv Ar outer s H vs Q E hr h => ⟨t_law_is_lot K A, (pss_cons (ps_if (pt_not (pt_val (pe_callB call_isi (by rfl) T.b_isinstance (by decide +kernel) (pa_cons (pv 0) (pa_cons (pe_bltn (v := .ty "list") (by rfl) T.b_list (by decide +kernel) rfl) pa_nil))) (by intro _; rfl))) (pss_one (ps_ret pe_bl)) pss_nil)
  (pss_cons (ps_set (i := 2) sc_law_is_lot.nd rfl (by first | exact Or.inl rfl | exact Or.inr rfl) (pe_un un_neg pe_int))
  (pss_cons (ps_for PassesOwn.never rfl (pi_list (pv 0)) (pg_name (i := 3) sc_law_is_lot.nd rfl (by first | exact Or.inl rfl | exact Or.inr rfl))
  (pss_cons (ps_if (PW.pt (pw_or (pt_not (pt_val (C8.pe_c C_law_is_integer hr (by decide) (by rfl) (pa_cons (pv 3) pa_nil)) (by intro _; rfl))) (pw_or (pt_cmpR op_le (pv 3) (pv 2) (nomark _)) (pw_or1 (pt_cmpR op_ge (pv 3) (pv 1) (nomark _)))))) (pss_one (ps_ret pe_bl)) pss_nil)
  (pss_one (ps_set (i := 2) sc_law_is_lot.nd rfl (by first | exact Or.inl rfl | exact Or.inr rfl) (pv 3)))))
  (pss_one (ps_ret pe_bl))))), rd_law_is_lot h⟩)
theorem bi_law_is_lot {f : Addr} {fd : FuncData} (F : Fun K "_law_is_lot" "_law_is_lot" s_law_is_lot f fd) : Binds K fd ["told", "many"] [] := F.binds fun _ _ _ _ _ _ us hl => match us, hl with | [_, _], _ => rfl
theorem sc_law_left : FnScope ["pairs", "blank", "lot", "total", "page", "pair"] ["pairs", "blank", "lot"] (defScope s_law_left) := ⟨rfl, rfl, rfl, by decide +kernel, rfl, by decide +kernel, by decide +kernel⟩
theorem ln_law_left {vs : List V} {H : Hp} {Q : VK} {E : XK} (h : sp_law_left K A vs H Q E) : vs.length = 3 := by
  first | (obtain ⟨_, rfl, _⟩ := h; rfl) | (obtain ⟨_, _, rfl, _⟩ := h; rfl) | (obtain ⟨_, _, _, rfl, _⟩ := h; rfl) | (obtain ⟨_, _, _, _, rfl, _⟩ := h; rfl) | (obtain ⟨_, _, _, _, _, rfl, _⟩ := h; rfl) | (obtain ⟨_, _, _, _, _, _, rfl, _⟩ := h; rfl) | (obtain ⟨_, _, _, _, _, _, _, rfl, _⟩ := h; rfl) | (obtain ⟨_, _, _, _, _, _, _, _, rfl, _⟩ := h; rfl) | (obtain ⟨_, _, _, _, _, _, _, _, _, rfl, _⟩ := h; rfl) | (obtain ⟨_, _, _, _, _, _, _, _, _, _, rfl, _⟩ := h; rfl) | (obtain ⟨_, _, _, _, _, _, _, _, _, _, _, rfl, _⟩ := h; rfl) | (obtain ⟨_, _, _, _, _, _, _, _, _, _, _, _, rfl, _⟩ := h; rfl) | (obtain ⟨_, _, _, _, _, _, _, _, _, _, _, _, _, rfl, _⟩ := h; rfl) | (obtain ⟨_, _, _, _, _, _, _, _, _, _, _, _, _, _, rfl, _⟩ := h; rfl) | (obtain ⟨_, _, _, _, _, _, _, _, _, _, _, _, _, _, _, rfl, _⟩ := h; rfl) | (obtain ⟨_, _, _, _, _, _, _, _, _, _, _, _, _, _, _, _, rfl, _⟩ := h; rfl) | (obtain ⟨_, _, _, _, _, _, _, _, _, _, _, _, _, _, _, _, _, rfl, _⟩ := h; rfl) | (obtain ⟨_, _, _, _, _, _, _, _, _, _, _, _, _, _, _, _, _, _, rfl, _⟩ := h; rfl) | (obtain ⟨_, _, _, _, _, _, _, _, _, _, _, _, _, _, _, _, _, _, _, rfl, _⟩ := h; rfl)
theorem fn_law_left {f : Addr} {fd : FuncData} (F : Fun K "_law_left" "_law_left" s_law_left f fd) (T : Txt mg A) (C : CT K A)  : FnOk P w K mg base CX0 1 f fd ["pairs", "blank", "lot"] (sp_law_left K A) :=
  F.ok sc_law_left (fun vs H Q E h => ln_law_left h) (fun cdv Ar outer s H vs Q E hr h => ⟨t_law_left K A, (pss_cons (ps_set (i := 3) sc_law_left.nd rfl (by first | exact Or.inl rfl | exact Or.inr rfl) (pe_callB (cr_sum rfl) (by rfl) T.b_sum (by decide +kernel) (pa_cons (pe_lc (own := [("page", 4)]) (g := (gName 4)) (tt := tYes) rfl sc_law_left.nd (pi_list (pv 2)) (blkOk_by (own := [("page", 4)]) (N := ["pairs", "blank", "lot", "total", "page", "pair"]) (sc := defScope s_law_left) (by decide +kernel)) (fun _ _ _ _ _ => (pg_name (i := 4) sc_law_left.nd rfl (by first | exact Or.inl rfl | exact Or.inr rfl))) (fun _ _ _ _ _ => pts_nil) (fun _ _ _ _ _ => (pe_ix ix_list (pv 1) (pv 4) (fun _ _ => rfl)))) pa_nil)))
  (pss_cons (ps_for PassesOwn.never rfl (pi_list (pv 0)) (pg_name (i := 5) sc_law_left.nd rfl (by first | exact Or.inl rfl | exact Or.inr rfl))
  (pss_one (ps_if (PW.pt (pw_and (pt_cmpR op_in_seq (pe_ix ix_tup (pv 5) pe_int (fun _ _ => rfl)) (pv 2) (by rfl)) (pw_and1 (pt_cmpR op_in_seq (pe_ix ix_tup (pv 5) pe_int (fun _ _ => rfl)) (pv 2) (by rfl))))) (pss_one (ps_set (i := 3) sc_law_left.nd rfl (by first | exact Or.inl rfl | exact Or.inr rfl) (pe_op op_sub (pv 3) pe_int))) pss_nil)))
  (pss_one (ps_ret (pv 3))))), rd_law_left h⟩)
theorem bi_law_left {f : Addr} {fd : FuncData} (F : Fun K "_law_left" "_law_left" s_law_left f fd) : Binds K fd ["pairs", "blank", "lot"] [] := F.binds fun _ _ _ _ _ _ us hl => match us, hl with | [_, _, _], _ => rfl
theorem sc_law_values : FnScope ["many", "pairs", "blank", "values", "mask", "total", "page", "pair"] ["many", "pairs", "blank"] (defScope s_law_values) := ⟨rfl, rfl, rfl, by decide +kernel, rfl, by decide +kernel, by decide +kernel⟩
theorem ln_law_values {vs : List V} {H : Hp} {Q : VK} {E : XK} (h : sp_law_values K A vs H Q E) : vs.length = 3 := by
  first | (obtain ⟨_, rfl, _⟩ := h; rfl) | (obtain ⟨_, _, rfl, _⟩ := h; rfl) | (obtain ⟨_, _, _, rfl, _⟩ := h; rfl) | (obtain ⟨_, _, _, _, rfl, _⟩ := h; rfl) | (obtain ⟨_, _, _, _, _, rfl, _⟩ := h; rfl) | (obtain ⟨_, _, _, _, _, _, rfl, _⟩ := h; rfl) | (obtain ⟨_, _, _, _, _, _, _, rfl, _⟩ := h; rfl) | (obtain ⟨_, _, _, _, _, _, _, _, rfl, _⟩ := h; rfl) | (obtain ⟨_, _, _, _, _, _, _, _, _, rfl, _⟩ := h; rfl) | (obtain ⟨_, _, _, _, _, _, _, _, _, _, rfl, _⟩ := h; rfl) | (obtain ⟨_, _, _, _, _, _, _, _, _, _, _, rfl, _⟩ := h; rfl) | (obtain ⟨_, _, _, _, _, _, _, _, _, _, _, _, rfl, _⟩ := h; rfl) | (obtain ⟨_, _, _, _, _, _, _, _, _, _, _, _, _, rfl, _⟩ := h; rfl) | (obtain ⟨_, _, _, _, _, _, _, _, _, _, _, _, _, _, rfl, _⟩ := h; rfl) | (obtain ⟨_, _, _, _, _, _, _, _, _, _, _, _, _, _, _, rfl, _⟩ := h; rfl) | (obtain ⟨_, _, _, _, _, _, _, _, _, _, _, _, _, _, _, _, rfl, _⟩ := h; rfl) | (obtain ⟨_, _, _, _, _, _, _, _, _, _, _, _, _, _, _, _, _, rfl, _⟩ := h; rfl) | (obtain ⟨_, _, _, _, _, _, _, _, _, _, _, _, _, _, _, _, _, _, rfl, _⟩ := h; rfl) | (obtain ⟨_, _, _, _, _, _, _, _, _, _, _, _, _, _, _, _, _, _, _, rfl, _⟩ := h; rfl)
theorem fn_law_values {f : Addr} {fd : FuncData} (F : Fun K "_law_values" "_law_values" s_law_values f fd) (T : Txt mg A) (C : CT K A)  : FnOk P w K mg base CX0 1 f fd ["many", "pairs", "blank"] (sp_law_values K A) :=
  F.ok sc_law_values (fun vs H Q E h => ln_law_values h) (fun cdv Ar outer s H vs Q E hr h => ⟨t_law_values K A, (pss_cons (ps_set (i := 3) sc_law_values.nd rfl (by first | exact Or.inl rfl | exact Or.inr rfl) (pe_lst pa_nil))
  (pss_cons (ps_for PassesOwn.never rfl (pi_range1 (by rfl) T.b_range (pa_cons (pe_op op_oneShl pe_int (pv 0)) pa_nil)) (pg_name (i := 4) sc_law_values.nd rfl (by first | exact Or.inl rfl | exact Or.inr rfl))
  (pss_cons (ps_set (i := 5) sc_law_values.nd rfl (by first | exact Or.inl rfl | exact Or.inr rfl) pe_int)
  (pss_cons (ps_for PassesOwn.never rfl (pi_range1 (by rfl) T.b_range (pa_cons (pv 0) pa_nil)) (pg_name (i := 6) sc_law_values.nd rfl (by first | exact Or.inl rfl | exact Or.inr rfl))
  (pss_one (ps_if (pt_truth (pe_op op_odd (pe_op op_shrN (pv 4) (pv 6)) pe_int) (by intro _; rfl)) (pss_one (ps_set (i := 5) sc_law_values.nd rfl (by first | exact Or.inl rfl | exact Or.inr rfl) (pe_op op_add (pv 5) (pe_ix ix_list (pv 2) (pv 6) (fun _ _ => rfl))))) pss_nil)))
  (pss_cons (ps_for PassesOwn.never rfl (pi_list (pv 1)) (pg_name (i := 7) sc_law_values.nd rfl (by first | exact Or.inl rfl | exact Or.inr rfl))
  (pss_one (ps_if (PW.pt (pw_and (pt_truth (pe_op op_odd (pe_op op_shrN (pv 4) (pe_ix ix_tup (pv 7) pe_int (fun _ _ => rfl))) pe_int) (by intro _; rfl)) (pw_and1 (pt_truth (pe_op op_odd (pe_op op_shrN (pv 4) (pe_ix ix_tup (pv 7) pe_int (fun _ _ => rfl))) pe_int) (by intro _; rfl))))) (pss_one (ps_set (i := 5) sc_law_values.nd rfl (by first | exact Or.inl rfl | exact Or.inr rfl) (pe_op op_sub (pv 5) pe_int))) pss_nil)))
  (pss_one (ps_expr (pe_bm PySem.F.plainAttrs_list PySem.F.slot_list_append PySem.F.type_list_append mt_append (pv 3) (pa_cons (pv 5) pa_nil))))))))
  (pss_one (ps_ret (pv 3))))), rd_law_values h⟩)
theorem bi_law_values {f : Addr} {fd : FuncData} (F : Fun K "_law_values" "_law_values" s_law_values f fd) : Binds K fd ["many", "pairs", "blank"] [] := F.binds fun _ _ _ _ _ _ us hl => match us, hl with | [_, _, _], _ => rfl
theorem sc_law_told : FnScope ["standing", "page", "e"] ["standing", "page"] (defScope s_law_told) := ⟨rfl, rfl, rfl, by decide +kernel, rfl, by decide +kernel, by decide +kernel⟩
theorem ln_law_told {vs : List V} {H : Hp} {Q : VK} {E : XK} (h : sp_law_told K A vs H Q E) : vs.length = 2 := by
  first | (obtain ⟨_, rfl, _⟩ := h; rfl) | (obtain ⟨_, _, rfl, _⟩ := h; rfl) | (obtain ⟨_, _, _, rfl, _⟩ := h; rfl) | (obtain ⟨_, _, _, _, rfl, _⟩ := h; rfl) | (obtain ⟨_, _, _, _, _, rfl, _⟩ := h; rfl) | (obtain ⟨_, _, _, _, _, _, rfl, _⟩ := h; rfl) | (obtain ⟨_, _, _, _, _, _, _, rfl, _⟩ := h; rfl) | (obtain ⟨_, _, _, _, _, _, _, _, rfl, _⟩ := h; rfl) | (obtain ⟨_, _, _, _, _, _, _, _, _, rfl, _⟩ := h; rfl) | (obtain ⟨_, _, _, _, _, _, _, _, _, _, rfl, _⟩ := h; rfl) | (obtain ⟨_, _, _, _, _, _, _, _, _, _, _, rfl, _⟩ := h; rfl) | (obtain ⟨_, _, _, _, _, _, _, _, _, _, _, _, rfl, _⟩ := h; rfl) | (obtain ⟨_, _, _, _, _, _, _, _, _, _, _, _, _, rfl, _⟩ := h; rfl) | (obtain ⟨_, _, _, _, _, _, _, _, _, _, _, _, _, _, rfl, _⟩ := h; rfl) | (obtain ⟨_, _, _, _, _, _, _, _, _, _, _, _, _, _, _, rfl, _⟩ := h; rfl) | (obtain ⟨_, _, _, _, _, _, _, _, _, _, _, _, _, _, _, _, rfl, _⟩ := h; rfl) | (obtain ⟨_, _, _, _, _, _, _, _, _, _, _, _, _, _, _, _, _, rfl, _⟩ := h; rfl) | (obtain ⟨_, _, _, _, _, _, _, _, _, _, _, _, _, _, _, _, _, _, rfl, _⟩ := h; rfl) | (obtain ⟨_, _, _, _, _, _, _, _, _, _, _, _, _, _, _, _, _, _, _, rfl, _⟩ := h; rfl)
theorem fn_law_told {f : Addr} {fd : FuncData} (F : Fun K "_law_told" "_law_told" s_law_told f fd) (T : Txt mg A) (C : CT K A) (C_slack : GX.CalX P w K mg base 7 "slack" (sp_slack K A)) : FnOk P w K mg base CX0 8 f fd ["standing", "page"] (sp_law_told K A) :=
  F.ok sc_law_told (fun vs H Q E h => ln_law_told h) (fun cdv Ar outer s H vs Q E hr h => ⟨t_law_told K A, (pss_one (ps_try_as (i := 2) (tb := fun W => (tRet (tTup (tCons (tC (.bl true)) (tCons (GX.tCallS (sp_slack K A) (WE W) (tCons (tVar 0) (tCons (tVar 1) tNil))) (tCons (tC (.bl true)) tNil)))))) (ts := fun a cls d => (tRet (tTup (tCons (tC (.bl false)) (tCons (tXf a cls d A.ShortLot "lot" (tVar 2)) (tCons (tAndV (tCB (GX.rIsX K a cls d) (tCons (tVar 2) (tCons (tC (.ref A.ShortLot)) tNil))) (tNotV (tCB (GX.rIsX K a cls d) (tCons (tVar 2) (tCons (tC (.ref A.NotShort)) tNil))))) tNil)))))) (Wout := fun _ _ _ _ => False) rfl rfl sc_law_told.nd rfl rfl ⟨rfl, by decide, Or.inl T.g_LotError⟩ takes0
  (fun W pn xe tk _ => (pss_one (ps_ret (pe_tup (pa_cons pe_bl (pa_cons (GX.pe_cXT C_slack hr (by decide) (by rfl) tk (pa_cons (pv 0) (pa_cons (pv 1) pa_nil))) (pa_cons pe_bl pa_nil)))))))
  (fun a oe cls d pn hz hf => (pss_one (ps_ret (pe_tup (pa_cons pe_bl (pa_cons (pe_xf C.xf_ShortLot C.f_ShortLot_lot hz hf (pv 2)) (pa_cons (pe_and (pe_callB (GX.call_isX hz hf) (by rfl) T.b_isinstance (by decide +kernel) (pa_cons (pv 2) (pa_cons (pe_glob (v := .ref A.ShortLot) (by rfl) T.g_ShortLot rfl) pa_nil))) (pe_one (pe_not (pe_callB (GX.call_isX hz hf) (by rfl) T.b_isinstance (by decide +kernel) (pa_cons (pv 2) (pa_cons (pe_glob (v := .ref A.NotShort) (by rfl) T.g_NotShort rfl) pa_nil)))))) pa_nil))))))))), rd_law_told C.m h⟩)
theorem bi_law_told {f : Addr} {fd : FuncData} (F : Fun K "_law_told" "_law_told" s_law_told f fd) : Binds K fd ["standing", "page"] [] := F.binds fun _ _ _ _ _ _ us hl => match us, hl with | [_, _], _ => rfl
theorem sc_law_papers : FnScope ["told", "many", "pairs", "blank", "page", "unowned"] ["told", "many", "pairs", "blank", "page"] (defScope s_law_papers) := ⟨rfl, rfl, rfl, by decide +kernel, rfl, by decide +kernel, by decide +kernel⟩
theorem ln_law_papers {vs : List V} {H : Hp} {Q : VK} {E : XK} (h : sp_law_papers K A vs H Q E) : vs.length = 5 := by
  first | (obtain ⟨_, rfl, _⟩ := h; rfl) | (obtain ⟨_, _, rfl, _⟩ := h; rfl) | (obtain ⟨_, _, _, rfl, _⟩ := h; rfl) | (obtain ⟨_, _, _, _, rfl, _⟩ := h; rfl) | (obtain ⟨_, _, _, _, _, rfl, _⟩ := h; rfl) | (obtain ⟨_, _, _, _, _, _, rfl, _⟩ := h; rfl) | (obtain ⟨_, _, _, _, _, _, _, rfl, _⟩ := h; rfl) | (obtain ⟨_, _, _, _, _, _, _, _, rfl, _⟩ := h; rfl) | (obtain ⟨_, _, _, _, _, _, _, _, _, rfl, _⟩ := h; rfl) | (obtain ⟨_, _, _, _, _, _, _, _, _, _, rfl, _⟩ := h; rfl) | (obtain ⟨_, _, _, _, _, _, _, _, _, _, _, rfl, _⟩ := h; rfl) | (obtain ⟨_, _, _, _, _, _, _, _, _, _, _, _, rfl, _⟩ := h; rfl) | (obtain ⟨_, _, _, _, _, _, _, _, _, _, _, _, _, rfl, _⟩ := h; rfl) | (obtain ⟨_, _, _, _, _, _, _, _, _, _, _, _, _, _, rfl, _⟩ := h; rfl) | (obtain ⟨_, _, _, _, _, _, _, _, _, _, _, _, _, _, _, rfl, _⟩ := h; rfl) | (obtain ⟨_, _, _, _, _, _, _, _, _, _, _, _, _, _, _, _, rfl, _⟩ := h; rfl) | (obtain ⟨_, _, _, _, _, _, _, _, _, _, _, _, _, _, _, _, _, rfl, _⟩ := h; rfl) | (obtain ⟨_, _, _, _, _, _, _, _, _, _, _, _, _, _, _, _, _, _, rfl, _⟩ := h; rfl) | (obtain ⟨_, _, _, _, _, _, _, _, _, _, _, _, _, _, _, _, _, _, _, rfl, _⟩ := h; rfl)
theorem fn_law_papers {f : Addr} {fd : FuncData} (F : Fun K "_law_papers" "_law_papers" s_law_papers f fd) (T : Txt mg A) (C : CT K A) (C_law_is_dealing : C8.Cal P w K mg base 2 "_law_is_dealing" (sp_law_is_dealing K A) []) (C_law_is_integer : C8.Cal P w K mg base 1 "_law_is_integer" (sp_law_is_integer K A) []) (C_law_is_lot : C8.Cal P w K mg base 2 "_law_is_lot" (sp_law_is_lot K A) []) (C_law_left : C8.Cal P w K mg base 1 "_law_left" (sp_law_left K A) []) : FnOk P w K mg base CX0 3 f fd ["told", "many", "pairs", "blank", "page"] (sp_law_papers K A) :=
  F.ok sc_law_papers (fun vs H Q E h => ln_law_papers h) (fun cdv Ar outer s H vs Q E hr h => ⟨t_law_papers K A, (pss_cons (ps_if (PW.pt (pw_or (pt_not (pt_val (pe_callB call_isi (by rfl) T.b_isinstance (by decide +kernel) (pa_cons (pv 0) (pa_cons (pe_bltn (v := .ty "tuple") (by rfl) T.b_tuple (by decide +kernel) rfl) pa_nil))) (by intro _; rfl))) (pw_or1 (pt_cmpR op_ne (pe_callB call_len_seq (by rfl) T.b_len (by decide +kernel) (pa_cons (pv 0) pa_nil)) pe_int (nomark _))))) (pss_one (ps_ret pe_bl)) pss_nil)
  (pss_cons (ps_if (PW.pt (pw_or (pt_not (pt_val (C8.pe_c C_law_is_integer hr (by decide) (by rfl) (pa_cons (pe_ix ix_tup (pv 0) pe_int (fun _ _ => rfl)) pa_nil)) (by intro _; rfl))) (pw_or1 (pt_not (pt_val (C8.pe_c C_law_is_dealing hr (by decide) (by rfl) (pa_cons (pv 2) (pa_cons (pv 3) (pa_cons (pe_ix ix_tup (pv 0) pe_int (fun _ _ => rfl)) pa_nil)))) (by intro _; rfl)))))) (pss_one (ps_ret pe_bl)) pss_nil)
  (pss_cons (ps_if (PW.pt (pw_or (pt_not (pt_val (C8.pe_c C_law_is_lot hr (by decide) (by rfl) (pa_cons (pe_ix ix_tup (pv 0) pe_int (fun _ _ => rfl)) (pa_cons (pv 1) pa_nil))) (by intro _; rfl))) (pw_or1 (pt_cmpR op_notIn_seq (pv 4) (pe_ix ix_tup (pv 0) pe_int (fun _ _ => rfl)) (by rfl))))) (pss_one (ps_ret pe_bl)) pss_nil)
  (pss_cons (ps_set (i := 5) sc_law_papers.nd rfl (by first | exact Or.inl rfl | exact Or.inr rfl) (pe_op op_sub (pe_ix ix_list (pv 3) (pv 4) (fun _ _ => rfl)) (pe_bm PySem.F.plainAttrs_list PySem.F.slot_list_count PySem.F.type_list_count mt_lcount (pe_ix ix_tup (pv 0) pe_int (fun _ _ => rfl)) (pa_cons (pv 4) pa_nil))))
  (pss_one (ps_ret (pe_and (pe_cmpR op_eq (pe_ix ix_tup (pv 0) pe_int (fun _ _ => rfl)) (pv 5) (nomark _)) (pe_one (pe_cmpR op_eq (pe_ix ix_tup (pv 0) pe_int (fun _ _ => rfl)) (C8.pe_c C_law_left hr (by decide) (by rfl) (pa_cons (pv 2) (pa_cons (pv 3) (pa_cons (pe_ix ix_tup (pv 0) pe_int (fun _ _ => rfl)) pa_nil)))) (nomark _)))))))))), rd_law_papers h⟩)
theorem bi_law_papers {f : Addr} {fd : FuncData} (F : Fun K "_law_papers" "_law_papers" s_law_papers f fd) : Binds K fd ["told", "many", "pairs", "blank", "page"] [] := F.binds fun _ _ _ _ _ _ us hl => match us, hl with | [_, _, _, _, _], _ => rfl
theorem sc_law_judged : FnScope ["standing", "many", "pairs", "blank", "page", "values", "told", "least", "mask"] ["standing", "many", "pairs", "blank", "page"] (defScope s_law_judged) := ⟨rfl, rfl, rfl, by decide +kernel, rfl, by decide +kernel, by decide +kernel⟩
theorem ln_law_judged {vs : List V} {H : Hp} {Q : VK} {E : XK} (h : sp_law_judged K A vs H Q E) : vs.length = 5 := by
  first | (obtain ⟨_, rfl, _⟩ := h; rfl) | (obtain ⟨_, _, rfl, _⟩ := h; rfl) | (obtain ⟨_, _, _, rfl, _⟩ := h; rfl) | (obtain ⟨_, _, _, _, rfl, _⟩ := h; rfl) | (obtain ⟨_, _, _, _, _, rfl, _⟩ := h; rfl) | (obtain ⟨_, _, _, _, _, _, rfl, _⟩ := h; rfl) | (obtain ⟨_, _, _, _, _, _, _, rfl, _⟩ := h; rfl) | (obtain ⟨_, _, _, _, _, _, _, _, rfl, _⟩ := h; rfl) | (obtain ⟨_, _, _, _, _, _, _, _, _, rfl, _⟩ := h; rfl) | (obtain ⟨_, _, _, _, _, _, _, _, _, _, rfl, _⟩ := h; rfl) | (obtain ⟨_, _, _, _, _, _, _, _, _, _, _, rfl, _⟩ := h; rfl) | (obtain ⟨_, _, _, _, _, _, _, _, _, _, _, _, rfl, _⟩ := h; rfl) | (obtain ⟨_, _, _, _, _, _, _, _, _, _, _, _, _, rfl, _⟩ := h; rfl) | (obtain ⟨_, _, _, _, _, _, _, _, _, _, _, _, _, _, rfl, _⟩ := h; rfl) | (obtain ⟨_, _, _, _, _, _, _, _, _, _, _, _, _, _, _, rfl, _⟩ := h; rfl) | (obtain ⟨_, _, _, _, _, _, _, _, _, _, _, _, _, _, _, _, rfl, _⟩ := h; rfl) | (obtain ⟨_, _, _, _, _, _, _, _, _, _, _, _, _, _, _, _, _, rfl, _⟩ := h; rfl) | (obtain ⟨_, _, _, _, _, _, _, _, _, _, _, _, _, _, _, _, _, _, rfl, _⟩ := h; rfl) | (obtain ⟨_, _, _, _, _, _, _, _, _, _, _, _, _, _, _, _, _, _, _, rfl, _⟩ := h; rfl)
theorem fn_law_judged {f : Addr} {fd : FuncData} (F : Fun K "_law_judged" "_law_judged" s_law_judged f fd) (T : Txt mg A) (C : CT K A) (C_law_is_lot : C8.Cal P w K mg base 2 "_law_is_lot" (sp_law_is_lot K A) []) (C_law_left : C8.Cal P w K mg base 1 "_law_left" (sp_law_left K A) []) (C_law_papers : C8.Cal P w K mg base 3 "_law_papers" (sp_law_papers K A) []) (C_law_told : C8.Cal P w K mg base 8 "_law_told" (sp_law_told K A) []) (C_law_values : C8.Cal P w K mg base 1 "_law_values" (sp_law_values K A) []) : FnOk P w K mg base CX0 9 f fd ["standing", "many", "pairs", "blank", "page"] (sp_law_judged K A) :=
  F.ok sc_law_judged (fun vs H Q E h => ln_law_judged h) (fun cdv Ar outer s H vs Q E hr h => ⟨t_law_judged K A, (pss_cons (ps_set (i := 5) sc_law_judged.nd rfl (by first | exact Or.inl rfl | exact Or.inr rfl) (pe_lst pa_nil))
  (pss_cons (ps_if (pt_cmpR op_le (pv 1) pe_int (nomark _)) (pss_one (ps_set (i := 5) sc_law_judged.nd rfl (by first | exact Or.inl rfl | exact Or.inr rfl) (C8.pe_c C_law_values hr (by decide) (by rfl) (pa_cons (pv 1) (pa_cons (pv 2) (pa_cons (pv 3) pa_nil)))))) pss_nil)
  (pss_cons (ps_set (i := 6) sc_law_judged.nd rfl (by first | exact Or.inl rfl | exact Or.inr rfl) (C8.pe_c C_law_told hr (by decide) (by rfl) (pa_cons (pv 0) (pa_cons (pv 4) pa_nil))))
  (pss_cons (ps_if (pt_not (pt_val (pe_ix ix_tup (pv 6) pe_int (fun _ _ => rfl)) (by intro _; rfl))) (pss_cons (ps_if (PW.pt (pw_and (pt_cmpR op_le (pv 1) pe_int (nomark _)) (pw_and1 (pt_cmpR op_ge (pe_callB (cr_min rfl) (by rfl) T.b_min (by decide +kernel) (pa_cons (pv 5) pa_nil)) pe_int (nomark _))))) (pss_one (ps_ret pe_bl)) pss_nil)
  (pss_one (ps_ret (pe_and (pe_ix ix_tup (pv 6) pe_int (fun _ _ => rfl)) (pe_and (C8.pe_c C_law_is_lot hr (by decide) (by rfl) (pa_cons (pe_ix ix_tup (pv 6) pe_int (fun _ _ => rfl)) (pa_cons (pv 1) pa_nil))) (pe_one (pe_cmpR op_lt (C8.pe_c C_law_left hr (by decide) (by rfl) (pa_cons (pv 2) (pa_cons (pv 3) (pa_cons (pe_ix ix_tup (pv 6) pe_int (fun _ _ => rfl)) pa_nil)))) pe_int (nomark _)))))))) pss_nil)
  (pss_cons (ps_if (pt_not (pt_val (C8.pe_c C_law_papers hr (by decide) (by rfl) (pa_cons (pe_ix ix_tup (pv 6) pe_int (fun _ _ => rfl)) (pa_cons (pv 1) (pa_cons (pv 2) (pa_cons (pv 3) (pa_cons (pv 4) pa_nil)))))) (by intro _; rfl))) (pss_one (ps_ret pe_bl)) pss_nil)
  (pss_cons (ps_if (pt_cmpR op_le (pv 1) pe_int (nomark _)) (pss_cons (ps_set (i := 7) sc_law_judged.nd rfl (by first | exact Or.inl rfl | exact Or.inr rfl) (pe_callB (cr_min rfl) (by rfl) T.b_min (by decide +kernel) (pa_cons (pe_lc (own := [("mask", 8)]) (g := (gName 8)) (tt := (tTruK K (tOp G.oOdd (tOp G.oShrN (tVar 8) (tVar 4)) (tC (.int 1))))) rfl sc_law_judged.nd (pi_range1 (by rfl) T.b_range (pa_cons (pe_op op_oneShl pe_int (pv 1)) pa_nil)) (blkOk_by (own := [("mask", 8)]) (N := ["standing", "many", "pairs", "blank", "page", "values", "told", "least", "mask"]) (sc := defScope s_law_judged) (by decide +kernel)) (fun _ _ _ _ _ => (pg_name (i := 8) sc_law_judged.nd rfl (by first | exact Or.inl rfl | exact Or.inr rfl))) (fun _ _ _ _ _ => (pts_one (pt_truth (pe_op op_odd (pe_op op_shrN (pv 8) (pv 4)) pe_int) (by intro _; rfl)))) (fun _ _ _ _ _ => (pe_ix ix_list (pv 5) (pv 8) (fun _ _ => rfl)))) pa_nil)))
  (pss_one (ps_if (PW.pt (pw_or (pt_cmpR op_lt (pe_callB (cr_min rfl) (by rfl) T.b_min (by decide +kernel) (pa_cons (pv 5) pa_nil)) pe_int (nomark _)) (pw_or1 (pt_cmpR op_ne (pe_ix ix_tup (pe_ix ix_tup (pv 6) pe_int (fun _ _ => rfl)) pe_int (fun _ _ => rfl)) (pv 7) (nomark _))))) (pss_one (ps_ret pe_bl)) pss_nil))) pss_nil)
  (pss_cons (ps_expr (pe_bm PySem.F.plainAttrs_list PySem.F.slot_list_append PySem.F.type_list_append mt_append (pe_ix ix_tup (pe_ix ix_tup (pv 6) pe_int (fun _ _ => rfl)) pe_int (fun _ _ => rfl)) (pa_cons (pv 4) pa_nil)))
  (pss_cons (ps_expr (pe_bm0 PySem.F.plainAttrs_list PySem.F.slot_list_reverse PySem.F.type_list_reverse mt_reverse (pe_ix ix_tup (pe_ix ix_tup (pv 6) pe_int (fun _ _ => rfl)) pe_int (fun _ _ => rfl))))
  (pss_cons (ps_expr (pe_bm PySem.F.plainAttrs_list PySem.F.slot_list_append PySem.F.type_list_append mt_append (pe_ix ix_tup (pe_ix ix_tup (pv 6) pe_int (fun _ _ => rfl)) pe_int (fun _ _ => rfl)) (pa_cons (pv 4) pa_nil)))
  (pss_one (ps_ret pe_bl))))))))))), rd_law_judged h⟩)
theorem bi_law_judged {f : Addr} {fd : FuncData} (F : Fun K "_law_judged" "_law_judged" s_law_judged f fd) : Binds K fd ["standing", "many", "pairs", "blank", "page"] [] := F.binds fun _ _ _ _ _ _ us hl => match us, hl with | [_, _, _, _, _], _ => rfl
theorem sc_law_refused : FnScope ["standing", "page", "e"] ["standing", "page"] (defScope s_law_refused) := ⟨rfl, rfl, rfl, by decide +kernel, rfl, by decide +kernel, by decide +kernel⟩
theorem ln_law_refused {vs : List V} {H : Hp} {Q : VK} {E : XK} (h : sp_law_refused K A vs H Q E) : vs.length = 2 := by
  first | (obtain ⟨_, rfl, _⟩ := h; rfl) | (obtain ⟨_, _, rfl, _⟩ := h; rfl) | (obtain ⟨_, _, _, rfl, _⟩ := h; rfl) | (obtain ⟨_, _, _, _, rfl, _⟩ := h; rfl) | (obtain ⟨_, _, _, _, _, rfl, _⟩ := h; rfl) | (obtain ⟨_, _, _, _, _, _, rfl, _⟩ := h; rfl) | (obtain ⟨_, _, _, _, _, _, _, rfl, _⟩ := h; rfl) | (obtain ⟨_, _, _, _, _, _, _, _, rfl, _⟩ := h; rfl) | (obtain ⟨_, _, _, _, _, _, _, _, _, rfl, _⟩ := h; rfl) | (obtain ⟨_, _, _, _, _, _, _, _, _, _, rfl, _⟩ := h; rfl) | (obtain ⟨_, _, _, _, _, _, _, _, _, _, _, rfl, _⟩ := h; rfl) | (obtain ⟨_, _, _, _, _, _, _, _, _, _, _, _, rfl, _⟩ := h; rfl) | (obtain ⟨_, _, _, _, _, _, _, _, _, _, _, _, _, rfl, _⟩ := h; rfl) | (obtain ⟨_, _, _, _, _, _, _, _, _, _, _, _, _, _, rfl, _⟩ := h; rfl) | (obtain ⟨_, _, _, _, _, _, _, _, _, _, _, _, _, _, _, rfl, _⟩ := h; rfl) | (obtain ⟨_, _, _, _, _, _, _, _, _, _, _, _, _, _, _, _, rfl, _⟩ := h; rfl) | (obtain ⟨_, _, _, _, _, _, _, _, _, _, _, _, _, _, _, _, _, rfl, _⟩ := h; rfl) | (obtain ⟨_, _, _, _, _, _, _, _, _, _, _, _, _, _, _, _, _, _, rfl, _⟩ := h; rfl) | (obtain ⟨_, _, _, _, _, _, _, _, _, _, _, _, _, _, _, _, _, _, _, rfl, _⟩ := h; rfl)
theorem fn_law_refused {f : Addr} {fd : FuncData} (F : Fun K "_law_refused" "_law_refused" s_law_refused f fd) (T : Txt mg A) (C : CT K A) (Ch_law_is_integer : GX.HotX P w K mg base 1 "_law_is_integer" (fun _ _ _ => sp_law_is_integer K A)) (C_slack : GX.CalX P w K mg base 7 "slack" (sp_slack K A)) : FnOk P w K mg base CX0 8 f fd ["standing", "page"] (sp_law_refused K A) :=
  F.ok sc_law_refused (fun vs H Q E h => ln_law_refused h) (fun cdv Ar outer s H vs Q E hr h => ⟨t_law_refused K A, (pss_cons (ps_try_as (i := 2) (tb := fun W => (tDrop (GX.tCallS (sp_slack K A) (WE W) (tCons (tVar 0) (tCons (tVar 1) tNil))))) (ts := fun a cls d => (tRet (tAndV (GX.tCallG (sp_law_is_integer K A) (tCons (tXf a cls d A.NoPage "page" (tVar 2)) tNil)) (tAndV (tOp rEq (tXf a cls d A.NoPage "page" (tVar 2)) (tVar 1)) (tNotV (tCB (GX.rIsX K a cls d) (tCons (tVar 2) (tCons (tC (.ref A.LotError)) tNil)))))))) (Wout := fun _ _ _ _ => False) rfl rfl sc_law_refused.nd rfl rfl ⟨rfl, by decide, Or.inl T.g_NoPage⟩ takes0
  (fun W pn xe tk _ => (pss_one (ps_expr (GX.pe_cXT C_slack hr (by decide) (by rfl) tk (pa_cons (pv 0) (pa_cons (pv 1) pa_nil))))))
  (fun a oe cls d pn hz hf => (pss_one (ps_ret (pe_and (GX.pe_callG (sp := fun _ _ _ => sp_law_is_integer K A) Ch_law_is_integer hr (by decide) hz hf (by rfl) (pa_cons (pe_xf C.xf_NoPage C.f_NoPage_page hz hf (pv 2)) pa_nil)) (pe_and (pe_cmpR op_eq (pe_xf C.xf_NoPage C.f_NoPage_page hz hf (pv 2)) (pv 1) (nomark _)) (pe_one (pe_not (pe_callB (GX.call_isX hz hf) (by rfl) T.b_isinstance (by decide +kernel) (pa_cons (pv 2) (pa_cons (pe_glob (v := .ref A.LotError) (by rfl) T.g_LotError rfl) pa_nil)))))))))))
  (pss_one (ps_ret pe_bl))), rd_law_refused C.n h⟩)
theorem bi_law_refused {f : Addr} {fd : FuncData} (F : Fun K "_law_refused" "_law_refused" s_law_refused f fd) : Binds K fd ["standing", "page"] [] := F.binds fun _ _ _ _ _ _ us hl => match us, hl with | [_, _], _ => rfl
theorem sc_law : FnScope ["script", "world", "many", "pairs", "owners", "source", "table", "lines", "blank", "near", "asked", "k", "stranger", "web", "first", "second", "page"] ["script"] (defScope s_law) := ⟨rfl, rfl, rfl, by decide +kernel, rfl, by decide +kernel, by decide +kernel⟩
theorem ln_law {vs : List V} {H : Hp} {Q : VK} {E : XK} (h : sp_law K A vs H Q E) : vs.length = 1 := by
  first | (obtain ⟨_, rfl, _⟩ := h; rfl) | (obtain ⟨_, _, rfl, _⟩ := h; rfl) | (obtain ⟨_, _, _, rfl, _⟩ := h; rfl) | (obtain ⟨_, _, _, _, rfl, _⟩ := h; rfl) | (obtain ⟨_, _, _, _, _, rfl, _⟩ := h; rfl) | (obtain ⟨_, _, _, _, _, _, rfl, _⟩ := h; rfl) | (obtain ⟨_, _, _, _, _, _, _, rfl, _⟩ := h; rfl) | (obtain ⟨_, _, _, _, _, _, _, _, rfl, _⟩ := h; rfl) | (obtain ⟨_, _, _, _, _, _, _, _, _, rfl, _⟩ := h; rfl) | (obtain ⟨_, _, _, _, _, _, _, _, _, _, rfl, _⟩ := h; rfl) | (obtain ⟨_, _, _, _, _, _, _, _, _, _, _, rfl, _⟩ := h; rfl) | (obtain ⟨_, _, _, _, _, _, _, _, _, _, _, _, rfl, _⟩ := h; rfl) | (obtain ⟨_, _, _, _, _, _, _, _, _, _, _, _, _, rfl, _⟩ := h; rfl) | (obtain ⟨_, _, _, _, _, _, _, _, _, _, _, _, _, _, rfl, _⟩ := h; rfl) | (obtain ⟨_, _, _, _, _, _, _, _, _, _, _, _, _, _, _, rfl, _⟩ := h; rfl) | (obtain ⟨_, _, _, _, _, _, _, _, _, _, _, _, _, _, _, _, rfl, _⟩ := h; rfl) | (obtain ⟨_, _, _, _, _, _, _, _, _, _, _, _, _, _, _, _, _, rfl, _⟩ := h; rfl) | (obtain ⟨_, _, _, _, _, _, _, _, _, _, _, _, _, _, _, _, _, _, rfl, _⟩ := h; rfl) | (obtain ⟨_, _, _, _, _, _, _, _, _, _, _, _, _, _, _, _, _, _, _, rfl, _⟩ := h; rfl)
theorem fn_law {f : Addr} {fd : FuncData} (F : Fun K "law" "law" s_law f fd) (T : Txt mg A) (C : CT K A) (C_Standing_init : GX.MakX P w K mg base 3 "Standing" A.Standing (sp_Standing_init K A)) (C_Standing_blanks : C8.Met P w K mg base 1 A.Standing "blanks" (sp_Standing_blanks K A) []) (C_Web_init : GX.MakX P w K mg base 4 "Web" A.Web (sp_Web_init K A)) (C_Web_arrows : C8.Met P w K mg base 1 A.Web "arrows" (sp_Web_arrows K A) []) (C_law_cell : C8.Cal P w K mg base 1 "_law_cell" (sp_law_cell K A) []) (C_law_judged : C8.Cal P w K mg base 9 "_law_judged" (sp_law_judged K A) []) (C_law_near : C8.Cal P w K mg base 2 "_law_near" (sp_law_near K A) []) (C_law_owners : C8.Cal P w K mg base 2 "_law_owners" (sp_law_owners K A) []) (C_law_refused : C8.Cal P w K mg base 8 "_law_refused" (sp_law_refused K A) []) (C_law_source : C8.Cal P w K mg base 1 "_law_source" (sp_law_source K A) []) (C_law_table : C8.Cal P w K mg base 3 "_law_table" (sp_law_table K A) []) (C_law_take : C8.Cal P w K mg base 1 "_law_take" (sp_law_take K A) []) (C_law_world : C8.Cal P w K mg base 3 "_law_world" (sp_law_world K A) []) : FnOk P w K mg base CX0 10 f fd ["script"] (sp_law K A) :=
  F.ok sc_law (fun vs H Q E h => ln_law h) (fun cdv Ar outer s H vs Q E hr h => ⟨t_law K A, (pss_cons (ps_set (i := 1) sc_law.nd rfl (by first | exact Or.inl rfl | exact Or.inr rfl) (C8.pe_c C_law_world hr (by decide) (by rfl) (pa_cons (pv 0) (pa_cons pe_int pa_nil))))
  (pss_cons (ps_set (i := 2) sc_law.nd rfl (by first | exact Or.inl rfl | exact Or.inr rfl) (pe_ix ix_tup (pv 1) pe_int (fun _ _ => rfl)))
  (pss_cons (ps_set (i := 3) sc_law.nd rfl (by first | exact Or.inl rfl | exact Or.inr rfl) (pe_callB cr_sortedPO (by rfl) T.b_sorted (by decide +kernel) (pa_cons (pe_ix ix_tup (pv 1) pe_int (fun _ _ => rfl)) pa_nil)))
  (pss_cons (ps_set (i := 4) sc_law.nd rfl (by first | exact Or.inl rfl | exact Or.inr rfl) (C8.pe_c C_law_owners hr (by decide) (by rfl) (pa_cons (C8.pe_c C_law_source hr (by decide) (by rfl) (pa_cons (C8.pe_c C_law_cell hr (by decide) (by rfl) (pa_cons (pv 0) (pa_cons pe_int pa_nil))) pa_nil)) (pa_cons (pv 3) pa_nil))))
  (pss_cons (ps_set (i := 5) sc_law.nd rfl (by first | exact Or.inl rfl | exact Or.inr rfl) (C8.pe_c C_law_source hr (by decide) (by rfl) (pa_cons (C8.pe_c C_law_cell hr (by decide) (by rfl) (pa_cons (pv 0) (pa_cons pe_int pa_nil))) pa_nil)))
  (pss_cons (ps_set (i := 6) sc_law.nd rfl (by first | exact Or.inl rfl | exact Or.inr rfl) (C8.pe_c C_law_table hr (by decide) (by rfl) (pa_cons (pv 5) (pa_cons (pv 2) (pa_cons (pv 4) pa_nil)))))
  (pss_cons (ps_set (i := 7) sc_law.nd rfl (by first | exact Or.inl rfl | exact Or.inr rfl) (pe_ix ix_tup (pv 6) pe_int (fun _ _ => rfl)))
  (pss_cons (ps_set (i := 8) sc_law.nd rfl (by first | exact Or.inl rfl | exact Or.inr rfl) (pe_ix ix_tup (pv 6) pe_int (fun _ _ => rfl)))
  (pss_cons (ps_set (i := 9) sc_law.nd rfl (by first | exact Or.inl rfl | exact Or.inr rfl) (C8.pe_c C_law_near hr (by decide) (by rfl) (pa_cons (pv 5) (pa_cons (pv 7) (pa_cons (pv 8) pa_nil)))))
  (pss_cons (ps_set (i := 5) sc_law.nd rfl (by first | exact Or.inl rfl | exact Or.inr rfl) (C8.pe_c C_law_source hr (by decide) (by rfl) (pa_cons (C8.pe_c C_law_cell hr (by decide) (by rfl) (pa_cons (pv 0) (pa_cons pe_int pa_nil))) pa_nil)))
  (pss_cons (ps_setLc (i := 10) (own := [("k", 11)]) (g := (gName 11)) (tt := tYes) rfl sc_law.nd rfl rfl (sw_true rfl rfl rfl (by decide +kernel)) (pi_range1 (by rfl) T.b_range (pa_cons pe_int pa_nil)) (blkOk_by (own := [("k", 11)]) (N := ["script", "world", "many", "pairs", "owners", "source", "table", "lines", "blank", "near", "asked", "k", "stranger", "web", "first", "second", "page"]) (sc := defScope s_law) (by decide +kernel)) (fun _ _ _ _ _ => (pg_name (i := 11) sc_law.nd rfl (by first | exact Or.inl rfl | exact Or.inr rfl))) (fun _ _ _ _ _ => pts_nil) (fun _ _ _ _ _ => (C8.pe_c C_law_take hr (by decide) (by rfl) (pa_cons (pv 5) (pa_cons (pv 2) pa_nil)))))
  (pss_cons (ps_set (i := 12) sc_law.nd rfl (by first | exact Or.inl rfl | exact Or.inr rfl) (pe_op op_add (pv 2) (C8.pe_c C_law_take hr (by decide) (by rfl) (pa_cons (pv 5) (pa_cons pe_int pa_nil)))))
  (C8.pss_cut (ps_if (pt_cmpR op_eq (C8.pe_c C_law_take hr (by decide) (by rfl) (pa_cons (pv 5) (pa_cons pe_int pa_nil))) pe_int (nomark _)) (pss_one (ps_set (i := 12) sc_law.nd rfl (by first | exact Or.inl rfl | exact Or.inr rfl) (pe_op op_sub (pe_un un_neg pe_int) (C8.pe_c C_law_take hr (by decide) (by rfl) (pa_cons (pv 5) (pa_cons (pv 2) pa_nil)))))) pss_nil)
  (pss_cons (ps_set (i := 13) sc_law.nd rfl (by first | exact Or.inl rfl | exact Or.inr rfl) (GX.pe_mkX C_Web_init hr (by decide) (by rfl) passL (pa_cons (pv 2) (pa_cons (pe_callTy call_list_of (by rfl) T.b_list (by decide +kernel) (pa_cons (pe_ix ix_tup (pv 1) pe_int (fun _ _ => rfl)) pa_nil)) pa_nil))))
  (pss_cons (ps_set (i := 14) sc_law.nd rfl (by first | exact Or.inl rfl | exact Or.inr rfl) (GX.pe_mkX C_Standing_init hr (by decide) (by rfl) passL (pa_cons (pv 13) (pa_cons (pv 7) (pa_cons (pe_callTy call_list_of (by rfl) T.b_list (by decide +kernel) (pa_cons (pv 8) pa_nil)) pa_nil)))))
  (pss_cons (ps_set (i := 15) sc_law.nd rfl (by first | exact Or.inl rfl | exact Or.inr rfl) (GX.pe_mkX C_Standing_init hr (by decide) (by rfl) passL (pa_cons (pv 13) (pa_cons (pv 7) (pa_cons (pe_callTy call_list_of (by rfl) T.b_list (by decide +kernel) (pa_cons (pv 9) pa_nil)) pa_nil)))))
  (pss_cons (ps_for PassesOwn.never rfl (pi_list (pv 10)) (pg_name (i := 16) sc_law.nd rfl (by first | exact Or.inl rfl | exact Or.inr rfl))
  (pss_one (ps_if (pt_not (pt_val (C8.pe_c C_law_judged hr (by decide) (by rfl) (pa_cons (pv 14) (pa_cons (pv 2) (pa_cons (pv 3) (pa_cons (pv 8) (pa_cons (pv 16) pa_nil)))))) (by intro _; rfl))) (pss_one (ps_ret pe_bl)) pss_nil)))
  (pss_cons (ps_if (pt_not (pt_val (C8.pe_c C_law_judged hr (by decide) (by rfl) (pa_cons (pv 15) (pa_cons (pv 2) (pa_cons (pv 3) (pa_cons (pv 9) (pa_cons (pe_ix ix_list (pv 10) pe_int (fun _ _ => rfl)) pa_nil)))))) (by intro _; rfl))) (pss_one (ps_ret pe_bl)) pss_nil)
  (pss_cons (ps_if (pt_not (pt_val (C8.pe_c C_law_judged hr (by decide) (by rfl) (pa_cons (pv 14) (pa_cons (pv 2) (pa_cons (pv 3) (pa_cons (pv 8) (pa_cons (pe_ix ix_list (pv 10) pe_int (fun _ _ => rfl)) pa_nil)))))) (by intro _; rfl))) (pss_one (ps_ret pe_bl)) pss_nil)
  (pss_cons (ps_if (PW.pt (pw_or (pt_not (pt_val (C8.pe_c C_law_refused hr (by decide) (by rfl) (pa_cons (pv 14) (pa_cons (pv 12) pa_nil))) (by intro _; rfl))) (pw_or1 (pt_not (pt_val (C8.pe_c C_law_refused hr (by decide) (by rfl) (pa_cons (pv 15) (pa_cons (pv 12) pa_nil))) (by intro _; rfl)))))) (pss_one (ps_ret pe_bl)) pss_nil)
  (pss_one (ps_ret (pe_and (pe_cmpR (op_eqD hr.units) (C8.pe_mt0 C_Standing_blanks hr (by decide) (pv 14)) (pv 8) (nomark _)) (pe_and (pe_cmpR (op_eqD hr.units) (C8.pe_mt0 C_Standing_blanks hr (by decide) (pv 15)) (pv 9) (nomark _)) (pe_one (pe_cmpR (op_eqD hr.units) (C8.pe_mt0 C_Web_arrows hr (by decide) (pv 13)) (pv 3) (nomark _))))))))))))))))))))))))))), rd_law h⟩)
theorem bi_law {f : Addr} {fd : FuncData} (F : Fun K "law" "law" s_law f fd) : Binds K fd ["script"] [] := F.binds fun _ _ _ _ _ _ us hl => match us, hl with | [_], _ => rfl

theorem factsS {P : Program} {w : World} {K : PySem.W.Frag} {h : Heap} {mg : Str → Option Value} {fa : Addr} (X : K.In h) (GN : h.Ns mainGlobals mg) (hfa : mg ("law" : Str) = some (.ref fa)) (c : GX.SaysS faS fnS exS suS "/claim/cut.py" K) (hP : P.main.file = "/claim/cut.py") (htop : (P.main.scope.names.lookup ("super" : Str)).isSome = false) :
    ∃ fd : FuncData, (∀ (s : Shared) (v : Value), BindsTo s fd ⟨[v], []⟩ [("script", v)]) ∧ ∀ base : Heap, K.In base → base.Ns mainGlobals mg → FnOk P w K mg base CX0 10 fa fd ["script"] (sp_law K ⟨He.ga K "InvalidPointer", He.ga K "InvalidStanding", He.ga K "LotError", He.ga K "NoPage", He.ga K "NoRoom", He.ga K "NotShort", He.ga K "OnecopyError", He.ga K "Owners", He.ga K "ShortLot", He.ga K "Standing", He.ga K "Web"⟩) := by
  have T : Txt mg ⟨He.ga K "InvalidPointer", He.ga K "InvalidStanding", He.ga K "LotError", He.ga K "NoPage", He.ga K "NoRoom", He.ga K "NotShort", He.ga K "OnecopyError", He.ga K "Owners", He.ga K "ShortLot", He.ga K "Standing", He.ga K "Web"⟩ := ⟨He.free_ok X GN (c.f.1.fact 69 (f := .free "abs") rfl), He.free_ok X GN (c.f.1.fact 70 (f := .free "bool") rfl), He.free_ok X GN (c.f.1.fact 71 (f := .free "enumerate") rfl), He.free_ok X GN (c.f.1.fact 72 (f := .free "int") rfl), He.free_ok X GN (c.f.1.fact 73 (f := .free "isinstance") rfl), He.free_ok X GN (c.f.1.fact 74 (f := .free "len") rfl), He.free_ok X GN (c.f.1.fact 75 (f := .free "list") rfl), He.free_ok X GN (c.f.1.fact 76 (f := .free "max") rfl), He.free_ok X GN (c.f.1.fact 77 (f := .free "min") rfl), He.free_ok X GN (c.f.1.fact 78 (f := .free "range") rfl), He.free_ok X GN (c.f.1.fact 79 (f := .free "sorted") rfl), He.free_ok X GN (c.f.1.fact 80 (f := .free "str") rfl), He.free_ok X GN (c.f.1.fact 81 (f := .free "sum") rfl), He.free_ok X GN (c.f.1.fact 82 (f := .free "super") rfl), He.free_ok X GN (c.f.1.fact 83 (f := .free "tuple") rfl), He.glo_ok X GN (c.f.1.fact 48 (f := .glo "LotError") rfl), He.glo_ok X GN (c.f.1.fact 49 (f := .glo "NoPage") rfl), He.glo_ok X GN (c.f.1.fact 50 (f := .glo "NotShort") rfl), He.glo_ok X GN (c.f.1.fact 52 (f := .glo "ShortLot") rfl)⟩
  have C : CT K ⟨He.ga K "InvalidPointer", He.ga K "InvalidStanding", He.ga K "LotError", He.ga K "NoPage", He.ga K "NoRoom", He.ga K "NotShort", He.ga K "OnecopyError", He.ga K "Owners", He.ga K "ShortLot", He.ga K "Standing", He.ga K "Web"⟩ := ⟨He.cls_ok (c.f.1.fact 63 (f := .cls "Web") rfl), He.noat_ok (c.f.1.fact 64 (f := .noat "Web" "_arrows") rfl), He.noat_ok (c.f.1.fact 65 (f := .noat "Web" "_holders") rfl), He.noat_ok (c.f.1.fact 66 (f := .noat "Web" "_known") rfl), He.noat_ok (c.f.1.fact 67 (f := .noat "Web" "_targets") rfl), He.noat_ok (c.f.1.fact 68 (f := .noat "Web" "pages") rfl), GX.oex_ok (c.f.more 0 (e := .ex (.oex "NoPage")) rfl), GX.noat_ok (c.f.more 1 (e := .ex (.noat "NoPage" "page")) rfl), GX.oex_ok (c.f.more 2 (e := .ex (.oex "InvalidPointer")) rfl), GX.noat_ok (c.f.more 3 (e := .ex (.noat "InvalidPointer" "index")) rfl), He.cls_ok (c.f.1.fact 59 (f := .cls "Standing") rfl), He.noat_ok (c.f.1.fact 60 (f := .noat "Standing" "_blank") rfl), He.noat_ok (c.f.1.fact 61 (f := .noat "Standing" "lines") rfl), He.noat_ok (c.f.1.fact 62 (f := .noat "Standing" "web") rfl), GX.oex_ok (c.f.more 4 (e := .ex (.oex "InvalidStanding")) rfl), GX.noat_ok (c.f.more 5 (e := .ex (.noat "InvalidStanding" "page")) rfl), He.cls_ok (c.f.1.fact 55 (f := .cls "Owners") rfl), He.noat_ok (c.f.1.fact 56 (f := .noat "Owners" "_free") rfl), He.noat_ok (c.f.1.fact 57 (f := .noat "Owners" "_owned") rfl), He.noat_ok (c.f.1.fact 58 (f := .noat "Owners" "_owner") rfl), GX.oex_ok (c.f.more 6 (e := .ex (.oex "ShortLot")) rfl), GX.noat_ok (c.f.more 7 (e := .ex (.noat "ShortLot" "lot")) rfl), GX.exc_ok (c.f.more 8 (e := .ex (.exc "ShortLot")) rfl), GX.xf_ok (c.f.more 9 (e := .ex (.xf "ShortLot")) rfl), GX.exm_ok (c.f.more 10 (e := .ex (.exm "ShortLot" "LotError" true)) rfl), GX.kit_ok (c.f.more 11 (e := .ex (.kit "ShortLot" "ShortLot" true)) rfl), GX.kit_ok (c.f.more 12 (e := .ex (.kit "ShortLot" "NotShort" false)) rfl), GX.exc_ok (c.f.more 13 (e := .ex (.exc "NoPage")) rfl), GX.xf_ok (c.f.more 14 (e := .ex (.xf "NoPage")) rfl), GX.exm_ok (c.f.more 15 (e := .ex (.exm "NoPage" "NoPage" true)) rfl), GX.kit_ok (c.f.more 16 (e := .ex (.kit "NoPage" "LotError" false)) rfl), (GX.supc_ok (c.f.more 17 (e := .supc "ShortLot" "LotError") rfl) (GX.oex_ok (c.f.more 6 (e := .ex (.oex "ShortLot")) rfl))).1⟩
  have e := hfa.symm.trans (He.glo_ok X GN (c.f.1.fact 45 (f := .glo "law") rfl))
  cases e
  obtain ⟨fdS0, FS0⟩ := c.sup (cls := "LotError") (x := "__init__") (qual := "LotError.__init__") (at_ := fun K => He.ma K (He.ga K "LotError") "__init__") (st := s_LotError_init) hP 0 rfl
  obtain ⟨fdE0, DE0⟩ := c.f.1.def_ 0 (d := d_InvalidPointer_init) rfl
  have FE0 := He5.fun_of (st := s_InvalidPointer_init) DE0
  obtain ⟨fdE1, DE1⟩ := c.f.1.def_ 1 (d := d_InvalidStanding_init) rfl
  have FE1 := He5.fun_of (st := s_InvalidStanding_init) DE1
  obtain ⟨fdE2, DE2⟩ := c.f.1.def_ 2 (d := d_NoPage_init) rfl
  have FE2 := He5.fun_of (st := s_NoPage_init) DE2
  obtain ⟨fd0, D0⟩ := c.f.1.def_ 3 (d := d_check_pages) rfl
  have F0 := He5.fun_of (st := s_check_pages) D0
  obtain ⟨fd1, D1⟩ := c.f.1.def_ 4 (d := d_is_pointer) rfl
  have F1 := He5.fun_of (st := s_is_pointer) D1
  obtain ⟨fd2, D2⟩ := c.f.1.def_ 5 (d := d_as_known) rfl
  have F2 := He5.fun_of (st := s_as_known) D2
  obtain ⟨fd3, D3⟩ := c.f.1.def_ 6 (d := d_grouped) rfl
  have F3 := He5.fun_of (st := s_grouped) D3
  obtain ⟨fd4, D4⟩ := c.f.1.def_ 7 (d := d_Web_init) rfl
  have F4 := He5.fun_of (st := s_Web_init) D4
  obtain ⟨fd5, D5⟩ := c.f.1.def_ 8 (d := d_Web_arrows) rfl
  have F5 := He5.fun_of (st := s_Web_arrows) D5
  obtain ⟨fd6, D6⟩ := c.f.1.def_ 9 (d := d_Standing_init) rfl
  have F6 := He5.fun_of (st := s_Standing_init) D6
  obtain ⟨fd7, D7⟩ := c.f.1.def_ 10 (d := d_Standing_blanks) rfl
  have F7 := He5.fun_of (st := s_Standing_blanks) D7
  obtain ⟨fd8, D8⟩ := c.f.1.def_ 11 (d := d_Standing_blank_of) rfl
  have F8 := He5.fun_of (st := s_Standing_blank_of) D8
  obtain ⟨fd9, D9⟩ := c.f.1.def_ 12 (d := d_Owners_init) rfl
  have F9 := He5.fun_of (st := s_Owners_init) D9
  obtain ⟨fd10, D10⟩ := c.f.1.def_ 13 (d := d_Owners_enter) rfl
  have F10 := He5.fun_of (st := s_Owners_enter) D10
  obtain ⟨fd11, D11⟩ := c.f.1.def_ 14 (d := d_Owners_owner_of) rfl
  have F11 := He5.fun_of (st := s_Owners_owner_of) D11
  obtain ⟨fd12, D12⟩ := c.f.1.def_ 15 (d := d_Owners_hand_over) rfl
  have F12 := He5.fun_of (st := s_Owners_hand_over) D12
  obtain ⟨fd13, D13⟩ := c.f.1.def_ 16 (d := d_Ownersfind_chain) rfl
  have F13 := He5.fun_of (st := s_Ownersfind_chain) D13
  obtain ⟨fd14, D14⟩ := c.f.1.def_ 17 (d := d_Ownersshift) rfl
  have F14 := He5.fun_of (st := s_Ownersshift) D14
  obtain ⟨fd15, D15⟩ := c.f.1.def_ 18 (d := d_Owners_add_pointer) rfl
  have F15 := He5.fun_of (st := s_Owners_add_pointer) D15
  obtain ⟨fd16, D16⟩ := c.f.1.def_ 19 (d := d_entered) rfl
  have F16 := He5.fun_of (st := s_entered) D16
  obtain ⟨fd17, D17⟩ := c.f.1.def_ 20 (d := d_dealt) rfl
  have F17 := He5.fun_of (st := s_dealt) D17
  obtain ⟨fd18, D18⟩ := c.f.1.def_ 21 (d := d_owner_list) rfl
  have F18 := He5.fun_of (st := s_owner_list) D18
  obtain ⟨fd19, D19⟩ := c.f.1.def_ 22 (d := d_Owners_free_of) rfl
  have F19 := He5.fun_of (st := s_Owners_free_of) D19
  obtain ⟨fd20, D20⟩ := c.f.1.def_ 23 (d := d_Owners_free_one) rfl
  have F20 := He5.fun_of (st := s_Owners_free_one) D20
  obtain ⟨fd21, D21⟩ := c.f.1.def_ 24 (d := d_slack) rfl
  have F21 := He5.fun_of (st := s_slack) D21
  obtain ⟨fd22, D22⟩ := c.f.1.def_ 25 (d := d_law_cell) rfl
  have F22 := He5.fun_of (st := s_law_cell) D22
  obtain ⟨fd23, D23⟩ := c.f.1.def_ 26 (d := d_law_source) rfl
  have F23 := He5.fun_of (st := s_law_source) D23
  obtain ⟨fd24, D24⟩ := c.f.1.def_ 27 (d := d_law_take) rfl
  have F24 := He5.fun_of (st := s_law_take) D24
  obtain ⟨fd25, D25⟩ := c.f.1.def_ 28 (d := d_law_parents) rfl
  have F25 := He5.fun_of (st := s_law_parents) D25
  obtain ⟨fd26, D26⟩ := c.f.1.def_ 29 (d := d_law_pointers) rfl
  have F26 := He5.fun_of (st := s_law_pointers) D26
  obtain ⟨fd27, D27⟩ := c.f.1.def_ 30 (d := d_law_names) rfl
  have F27 := He5.fun_of (st := s_law_names) D27
  obtain ⟨fd28, D28⟩ := c.f.1.def_ 31 (d := d_law_named) rfl
  have F28 := He5.fun_of (st := s_law_named) D28
  obtain ⟨fd29, D29⟩ := c.f.1.def_ 32 (d := d_law_extras) rfl
  have F29 := He5.fun_of (st := s_law_extras) D29
  obtain ⟨fd30, D30⟩ := c.f.1.def_ 33 (d := d_law_joined) rfl
  have F30 := He5.fun_of (st := s_law_joined) D30
  obtain ⟨fd31, D31⟩ := c.f.1.def_ 34 (d := d_law_world) rfl
  have F31 := He5.fun_of (st := s_law_world) D31
  obtain ⟨fd32, D32⟩ := c.f.1.def_ 35 (d := d_law_lines) rfl
  have F32 := He5.fun_of (st := s_law_lines) D32
  obtain ⟨fd33, D33⟩ := c.f.1.def_ 36 (d := d_law_owners) rfl
  have F33 := He5.fun_of (st := s_law_owners) D33
  obtain ⟨fd34, D34⟩ := c.f.1.def_ 37 (d := d_law_table) rfl
  have F34 := He5.fun_of (st := s_law_table) D34
  obtain ⟨fd35, D35⟩ := c.f.1.def_ 38 (d := d_law_near) rfl
  have F35 := He5.fun_of (st := s_law_near) D35
  obtain ⟨fd36, D36⟩ := c.f.1.def_ 39 (d := d_law_is_integer) rfl
  have F36 := He5.fun_of (st := s_law_is_integer) D36
  obtain ⟨fd37, D37⟩ := c.f.1.def_ 40 (d := d_law_is_dealing) rfl
  have F37 := He5.fun_of (st := s_law_is_dealing) D37
  obtain ⟨fd38, D38⟩ := c.f.1.def_ 41 (d := d_law_is_lot) rfl
  have F38 := He5.fun_of (st := s_law_is_lot) D38
  obtain ⟨fd39, D39⟩ := c.f.1.def_ 42 (d := d_law_left) rfl
  have F39 := He5.fun_of (st := s_law_left) D39
  obtain ⟨fd40, D40⟩ := c.f.1.def_ 43 (d := d_law_values) rfl
  have F40 := He5.fun_of (st := s_law_values) D40
  obtain ⟨fd41, D41⟩ := c.f.1.def_ 44 (d := d_law_told) rfl
  have F41 := He5.fun_of (st := s_law_told) D41
  obtain ⟨fd42, D42⟩ := c.f.1.def_ 45 (d := d_law_papers) rfl
  have F42 := He5.fun_of (st := s_law_papers) D42
  obtain ⟨fd43, D43⟩ := c.f.1.def_ 46 (d := d_law_judged) rfl
  have F43 := He5.fun_of (st := s_law_judged) D43
  obtain ⟨fd44, D44⟩ := c.f.1.def_ 47 (d := d_law_refused) rfl
  have F44 := He5.fun_of (st := s_law_refused) D44
  obtain ⟨fd45, D45⟩ := c.f.1.def_ 48 (d := d_law) rfl
  have F45 := He5.fun_of (st := s_law) D45
  have b := FunD.bindsA (ps := ["script"]) D45 fun _ _ _ _ _ _ us hl => match us, hl with | [_], _ => rfl
  refine ⟨fd45, fun s v => b s [v] rfl, fun base _ _ => ?_⟩
  have C_InvalidPointer : GX.ErrX P w K mg base 1 "InvalidPointer" (He.ga K "InvalidPointer") (GX.sp_err K (He.ga K "InvalidPointer") "index") := ⟨GX.oex_ok (c.f.more 2 (e := .ex (.oex "InvalidPointer")) rfl), _, _, _, (GX.ini_ok (c.f.more 18 (e := .ex (.ini "InvalidPointer")) rfl)).1, (GX.ini_ok (c.f.more 18 (e := .ex (.ini "InvalidPointer")) rfl)).2, fn_InvalidPointer_init (A := ⟨He.ga K "InvalidPointer", He.ga K "InvalidStanding", He.ga K "LotError", He.ga K "NoPage", He.ga K "NoRoom", He.ga K "NotShort", He.ga K "OnecopyError", He.ga K "Owners", He.ga K "ShortLot", He.ga K "Standing", He.ga K "Web"⟩) FE0, He.glo_ok X GN (c.f.1.fact 46 (f := .glo "InvalidPointer") rfl), bi_InvalidPointer_init FE0⟩
  have C_InvalidStanding : GX.ErrX P w K mg base 1 "InvalidStanding" (He.ga K "InvalidStanding") (GX.sp_err K (He.ga K "InvalidStanding") "page") := ⟨GX.oex_ok (c.f.more 4 (e := .ex (.oex "InvalidStanding")) rfl), _, _, _, (GX.ini_ok (c.f.more 19 (e := .ex (.ini "InvalidStanding")) rfl)).1, (GX.ini_ok (c.f.more 19 (e := .ex (.ini "InvalidStanding")) rfl)).2, fn_InvalidStanding_init (A := ⟨He.ga K "InvalidPointer", He.ga K "InvalidStanding", He.ga K "LotError", He.ga K "NoPage", He.ga K "NoRoom", He.ga K "NotShort", He.ga K "OnecopyError", He.ga K "Owners", He.ga K "ShortLot", He.ga K "Standing", He.ga K "Web"⟩) FE1, He.glo_ok X GN (c.f.1.fact 47 (f := .glo "InvalidStanding") rfl), bi_InvalidStanding_init FE1⟩
  have C_NoPage : GX.ErrX P w K mg base 1 "NoPage" (He.ga K "NoPage") (GX.sp_err K (He.ga K "NoPage") "page") := ⟨GX.oex_ok (c.f.more 0 (e := .ex (.oex "NoPage")) rfl), _, _, _, (GX.ini_ok (c.f.more 20 (e := .ex (.ini "NoPage")) rfl)).1, (GX.ini_ok (c.f.more 20 (e := .ex (.ini "NoPage")) rfl)).2, fn_NoPage_init (A := ⟨He.ga K "InvalidPointer", He.ga K "InvalidStanding", He.ga K "LotError", He.ga K "NoPage", He.ga K "NoRoom", He.ga K "NotShort", He.ga K "OnecopyError", He.ga K "Owners", He.ga K "ShortLot", He.ga K "Standing", He.ga K "Web"⟩) FE2, He.glo_ok X GN (c.f.1.fact 49 (f := .glo "NoPage") rfl), bi_NoPage_init FE2⟩
  have C_ShortLot : GX.ErrX P w K mg base 1 "ShortLot" (He.ga K "ShortLot") (GS.sp_lot K (He.ga K "LotError")) := ⟨GX.oex_ok (c.f.more 6 (e := .ex (.oex "ShortLot")) rfl), _, _, ["self", "lot"], (GX.supc_ok (c.f.more 17 (e := .supc "ShortLot" "LotError") rfl) (GX.oex_ok (c.f.more 6 (e := .ex (.oex "ShortLot")) rfl))).2.1, (GX.supc_ok (c.f.more 17 (e := .supc "ShortLot" "LotError") rfl) (GX.oex_ok (c.f.more 6 (e := .ex (.oex "ShortLot")) rfl))).2.2, fn_LotError_init (A := ⟨He.ga K "InvalidPointer", He.ga K "InvalidStanding", He.ga K "LotError", He.ga K "NoPage", He.ga K "NoRoom", He.ga K "NotShort", He.ga K "OnecopyError", He.ga K "Owners", He.ga K "ShortLot", He.ga K "Standing", He.ga K "Web"⟩) FS0 T htop, He.glo_ok X GN (c.f.1.fact 52 (f := .glo "ShortLot") rfl), GS.SupFn.binds FS0 fun _ _ _ _ _ _ _ us hl => match us, hl with | [_, _], _ => rfl⟩
  have C_check_pages : GX.CalX P w K mg base 3 "check_pages" (sp_check_pages K ⟨He.ga K "InvalidPointer", He.ga K "InvalidStanding", He.ga K "LotError", He.ga K "NoPage", He.ga K "NoRoom", He.ga K "NotShort", He.ga K "OnecopyError", He.ga K "Owners", He.ga K "ShortLot", He.ga K "Standing", He.ga K "Web"⟩) := ⟨_, _, _, fn_check_pages F0 T C C_NoPage, He.glo_ok X GN (c.f.1.fact 0 (f := .glo "check_pages") rfl), F0.kp, bi_check_pages F0⟩
  have C_is_pointer : C8.Cal P w K mg base 1 "_is_pointer" (sp_is_pointer K ⟨He.ga K "InvalidPointer", He.ga K "InvalidStanding", He.ga K "LotError", He.ga K "NoPage", He.ga K "NoRoom", He.ga K "NotShort", He.ga K "OnecopyError", He.ga K "Owners", He.ga K "ShortLot", He.ga K "Standing", He.ga K "Web"⟩) [] := ⟨_, _, _, [], fn_is_pointer F1 T C , He.glo_ok X GN (c.f.1.fact 1 (f := .glo "_is_pointer") rfl), F1.kp, bi_is_pointer F1, .nil⟩
  have C_as_known : GX.CalX P w K mg base 3 "_as_known" (sp_as_known K ⟨He.ga K "InvalidPointer", He.ga K "InvalidStanding", He.ga K "LotError", He.ga K "NoPage", He.ga K "NoRoom", He.ga K "NotShort", He.ga K "OnecopyError", He.ga K "Owners", He.ga K "ShortLot", He.ga K "Standing", He.ga K "Web"⟩) := ⟨_, _, _, fn_as_known F2 T C C_InvalidPointer C_is_pointer, He.glo_ok X GN (c.f.1.fact 2 (f := .glo "_as_known") rfl), F2.kp, bi_as_known F2⟩
  have C_grouped : C8.Cal P w K mg base 1 "_grouped" (sp_grouped K ⟨He.ga K "InvalidPointer", He.ga K "InvalidStanding", He.ga K "LotError", He.ga K "NoPage", He.ga K "NoRoom", He.ga K "NotShort", He.ga K "OnecopyError", He.ga K "Owners", He.ga K "ShortLot", He.ga K "Standing", He.ga K "Web"⟩) [] := ⟨_, _, _, [], fn_grouped F3 T C , He.glo_ok X GN (c.f.1.fact 3 (f := .glo "_grouped") rfl), F3.kp, bi_grouped F3, .nil⟩
  have C_Web_init : GX.MakX P w K mg base 4 "Web" (He.ga K "Web") (sp_Web_init K ⟨He.ga K "InvalidPointer", He.ga K "InvalidStanding", He.ga K "LotError", He.ga K "NoPage", He.ga K "NoRoom", He.ga K "NotShort", He.ga K "OnecopyError", He.ga K "Owners", He.ga K "ShortLot", He.ga K "Standing", He.ga K "Web"⟩) := ⟨_, _, _, He.mkr_ok (c.f.1.fact 4 (f := .mkr "Web") rfl), fn_Web_init F4 T C C_as_known C_grouped, He.glo_ok X GN (c.f.1.fact 54 (f := .glo "Web") rfl), bi_Web_init F4⟩
  have C_Web_arrows : C8.Met P w K mg base 1 (He.ga K "Web") "arrows" (sp_Web_arrows K ⟨He.ga K "InvalidPointer", He.ga K "InvalidStanding", He.ga K "LotError", He.ga K "NoPage", He.ga K "NoRoom", He.ga K "NotShort", He.ga K "OnecopyError", He.ga K "Owners", He.ga K "ShortLot", He.ga K "Standing", He.ga K "Web"⟩) [] := ⟨_, _, _, [], C.c_Web, He.meth_ok (c.f.1.fact 5 (f := .meth "Web" "arrows") rfl), fn_Web_arrows F5 T C , bi_Web_arrows F5, .nil⟩
  have C_Standing_init : GX.MakX P w K mg base 3 "Standing" (He.ga K "Standing") (sp_Standing_init K ⟨He.ga K "InvalidPointer", He.ga K "InvalidStanding", He.ga K "LotError", He.ga K "NoPage", He.ga K "NoRoom", He.ga K "NotShort", He.ga K "OnecopyError", He.ga K "Owners", He.ga K "ShortLot", He.ga K "Standing", He.ga K "Web"⟩) := ⟨_, _, _, He.mkr_ok (c.f.1.fact 6 (f := .mkr "Standing") rfl), fn_Standing_init F6 T C C_InvalidStanding, He.glo_ok X GN (c.f.1.fact 53 (f := .glo "Standing") rfl), bi_Standing_init F6⟩
  have C_Standing_blanks : C8.Met P w K mg base 1 (He.ga K "Standing") "blanks" (sp_Standing_blanks K ⟨He.ga K "InvalidPointer", He.ga K "InvalidStanding", He.ga K "LotError", He.ga K "NoPage", He.ga K "NoRoom", He.ga K "NotShort", He.ga K "OnecopyError", He.ga K "Owners", He.ga K "ShortLot", He.ga K "Standing", He.ga K "Web"⟩) [] := ⟨_, _, _, [], C.c_Standing, He.meth_ok (c.f.1.fact 7 (f := .meth "Standing" "blanks") rfl), fn_Standing_blanks F7 T C , bi_Standing_blanks F7, .nil⟩
  have C_Standing_blank_of : GX.MetX P w K mg base 4 (He.ga K "Standing") "blank_of" (sp_Standing_blank_of K ⟨He.ga K "InvalidPointer", He.ga K "InvalidStanding", He.ga K "LotError", He.ga K "NoPage", He.ga K "NoRoom", He.ga K "NotShort", He.ga K "OnecopyError", He.ga K "Owners", He.ga K "ShortLot", He.ga K "Standing", He.ga K "Web"⟩) := ⟨_, _, _, C.c_Standing, He.meth_ok (c.f.1.fact 8 (f := .meth "Standing" "blank_of") rfl), fn_Standing_blank_of F8 T C C_check_pages, bi_Standing_blank_of F8⟩
  have C_Owners_init : C8.Mak P w K mg base 1 "Owners" (He.ga K "Owners") (sp_Owners_init K ⟨He.ga K "InvalidPointer", He.ga K "InvalidStanding", He.ga K "LotError", He.ga K "NoPage", He.ga K "NoRoom", He.ga K "NotShort", He.ga K "OnecopyError", He.ga K "Owners", He.ga K "ShortLot", He.ga K "Standing", He.ga K "Web"⟩) [] := ⟨_, _, _, [], He.mkr_ok (c.f.1.fact 9 (f := .mkr "Owners") rfl), fn_Owners_init F9 T C , He.glo_ok X GN (c.f.1.fact 51 (f := .glo "Owners") rfl), bi_Owners_init F9, .nil⟩
  have C_Owners_enter : C8.Met P w K mg base 1 (He.ga K "Owners") "enter" (sp_Owners_enter K ⟨He.ga K "InvalidPointer", He.ga K "InvalidStanding", He.ga K "LotError", He.ga K "NoPage", He.ga K "NoRoom", He.ga K "NotShort", He.ga K "OnecopyError", He.ga K "Owners", He.ga K "ShortLot", He.ga K "Standing", He.ga K "Web"⟩) [] := ⟨_, _, _, [], C.c_Owners, He.meth_ok (c.f.1.fact 10 (f := .meth "Owners" "enter") rfl), fn_Owners_enter F10 T C , bi_Owners_enter F10, .nil⟩
  have C_Owners_owner_of : C8.Met P w K mg base 1 (He.ga K "Owners") "owner_of" (sp_Owners_owner_of K ⟨He.ga K "InvalidPointer", He.ga K "InvalidStanding", He.ga K "LotError", He.ga K "NoPage", He.ga K "NoRoom", He.ga K "NotShort", He.ga K "OnecopyError", He.ga K "Owners", He.ga K "ShortLot", He.ga K "Standing", He.ga K "Web"⟩) [] := ⟨_, _, _, [], C.c_Owners, He.meth_ok (c.f.1.fact 11 (f := .meth "Owners" "owner_of") rfl), fn_Owners_owner_of F11 T C , bi_Owners_owner_of F11, .nil⟩
  have C_Owners_hand_over : C8.Met P w K mg base 1 (He.ga K "Owners") "hand_over" (sp_Owners_hand_over K ⟨He.ga K "InvalidPointer", He.ga K "InvalidStanding", He.ga K "LotError", He.ga K "NoPage", He.ga K "NoRoom", He.ga K "NotShort", He.ga K "OnecopyError", He.ga K "Owners", He.ga K "ShortLot", He.ga K "Standing", He.ga K "Web"⟩) [] := ⟨_, _, _, [], C.c_Owners, He.meth_ok (c.f.1.fact 12 (f := .meth "Owners" "hand_over") rfl), fn_Owners_hand_over F12 T C , bi_Owners_hand_over F12, .nil⟩
  have C_Ownersfind_chain : C8.Met P w K mg base 1 (He.ga K "Owners") "_find_chain" (sp_Ownersfind_chain K ⟨He.ga K "InvalidPointer", He.ga K "InvalidStanding", He.ga K "LotError", He.ga K "NoPage", He.ga K "NoRoom", He.ga K "NotShort", He.ga K "OnecopyError", He.ga K "Owners", He.ga K "ShortLot", He.ga K "Standing", He.ga K "Web"⟩) [] := ⟨_, _, _, [], C.c_Owners, He.meth_ok (c.f.1.fact 13 (f := .meth "Owners" "_find_chain") rfl), fn_Ownersfind_chain F13 T C , bi_Ownersfind_chain F13, .nil⟩
  have C_Ownersshift : C8.Met P w K mg base 2 (He.ga K "Owners") "_shift" (sp_Ownersshift K ⟨He.ga K "InvalidPointer", He.ga K "InvalidStanding", He.ga K "LotError", He.ga K "NoPage", He.ga K "NoRoom", He.ga K "NotShort", He.ga K "OnecopyError", He.ga K "Owners", He.ga K "ShortLot", He.ga K "Standing", He.ga K "Web"⟩) [] := ⟨_, _, _, [], C.c_Owners, He.meth_ok (c.f.1.fact 14 (f := .meth "Owners" "_shift") rfl), fn_Ownersshift F14 T C C_Owners_hand_over, bi_Ownersshift F14, .nil⟩
  have C_Owners_add_pointer : C8.Met P w K mg base 3 (He.ga K "Owners") "add_pointer" (sp_Owners_add_pointer K ⟨He.ga K "InvalidPointer", He.ga K "InvalidStanding", He.ga K "LotError", He.ga K "NoPage", He.ga K "NoRoom", He.ga K "NotShort", He.ga K "OnecopyError", He.ga K "Owners", He.ga K "ShortLot", He.ga K "Standing", He.ga K "Web"⟩) [] := ⟨_, _, _, [], C.c_Owners, He.meth_ok (c.f.1.fact 15 (f := .meth "Owners" "add_pointer") rfl), fn_Owners_add_pointer F15 T C C_Ownersfind_chain C_Ownersshift, bi_Owners_add_pointer F15, .nil⟩
  have C_entered : C8.Cal P w K mg base 5 "_entered" (sp_entered K ⟨He.ga K "InvalidPointer", He.ga K "InvalidStanding", He.ga K "LotError", He.ga K "NoPage", He.ga K "NoRoom", He.ga K "NotShort", He.ga K "OnecopyError", He.ga K "Owners", He.ga K "ShortLot", He.ga K "Standing", He.ga K "Web"⟩) [] := ⟨_, _, _, [], fn_entered F16 T C C_Owners_init C_Owners_enter C_Standing_blank_of, He.glo_ok X GN (c.f.1.fact 16 (f := .glo "_entered") rfl), F16.kp, bi_entered F16, .nil⟩
  have C_dealt : GX.CalX P w K mg base 6 "_dealt" (sp_dealt K ⟨He.ga K "InvalidPointer", He.ga K "InvalidStanding", He.ga K "LotError", He.ga K "NoPage", He.ga K "NoRoom", He.ga K "NotShort", He.ga K "OnecopyError", He.ga K "Owners", He.ga K "ShortLot", He.ga K "Standing", He.ga K "Web"⟩) := ⟨_, _, _, fn_dealt F17 T C C_ShortLot C_Owners_add_pointer C_Web_arrows C_entered, He.glo_ok X GN (c.f.1.fact 17 (f := .glo "_dealt") rfl), F17.kp, bi_dealt F17⟩
  have C_owner_list : C8.Cal P w K mg base 2 "_owner_list" (sp_owner_list K ⟨He.ga K "InvalidPointer", He.ga K "InvalidStanding", He.ga K "LotError", He.ga K "NoPage", He.ga K "NoRoom", He.ga K "NotShort", He.ga K "OnecopyError", He.ga K "Owners", He.ga K "ShortLot", He.ga K "Standing", He.ga K "Web"⟩) [] := ⟨_, _, _, [], fn_owner_list F18 T C C_Owners_owner_of C_Web_arrows, He.glo_ok X GN (c.f.1.fact 18 (f := .glo "_owner_list") rfl), F18.kp, bi_owner_list F18, .nil⟩
  have C_Owners_free_of : C8.Met P w K mg base 1 (He.ga K "Owners") "free_of" (sp_Owners_free_of K ⟨He.ga K "InvalidPointer", He.ga K "InvalidStanding", He.ga K "LotError", He.ga K "NoPage", He.ga K "NoRoom", He.ga K "NotShort", He.ga K "OnecopyError", He.ga K "Owners", He.ga K "ShortLot", He.ga K "Standing", He.ga K "Web"⟩) [] := ⟨_, _, _, [], C.c_Owners, He.meth_ok (c.f.1.fact 19 (f := .meth "Owners" "free_of") rfl), fn_Owners_free_of F19 T C , bi_Owners_free_of F19, .nil⟩
  have C_Owners_free_one : C8.Met P w K mg base 3 (He.ga K "Owners") "free_one" (sp_Owners_free_one K ⟨He.ga K "InvalidPointer", He.ga K "InvalidStanding", He.ga K "LotError", He.ga K "NoPage", He.ga K "NoRoom", He.ga K "NotShort", He.ga K "OnecopyError", He.ga K "Owners", He.ga K "ShortLot", He.ga K "Standing", He.ga K "Web"⟩) [] := ⟨_, _, _, [], C.c_Owners, He.meth_ok (c.f.1.fact 20 (f := .meth "Owners" "free_one") rfl), fn_Owners_free_one F20 T C C_Ownersfind_chain C_Ownersshift, bi_Owners_free_one F20, .nil⟩
  have C_slack : GX.CalX P w K mg base 7 "slack" (sp_slack K ⟨He.ga K "InvalidPointer", He.ga K "InvalidStanding", He.ga K "LotError", He.ga K "NoPage", He.ga K "NoRoom", He.ga K "NotShort", He.ga K "OnecopyError", He.ga K "Owners", He.ga K "ShortLot", He.ga K "Standing", He.ga K "Web"⟩) := ⟨_, _, _, fn_slack F21 T C C_Owners_free_of C_Owners_free_one C_dealt C_owner_list C_check_pages, He.glo_ok X GN (c.f.1.fact 21 (f := .glo "slack") rfl), F21.kp, bi_slack F21⟩
  have C_law_cell : C8.Cal P w K mg base 1 "_law_cell" (sp_law_cell K ⟨He.ga K "InvalidPointer", He.ga K "InvalidStanding", He.ga K "LotError", He.ga K "NoPage", He.ga K "NoRoom", He.ga K "NotShort", He.ga K "OnecopyError", He.ga K "Owners", He.ga K "ShortLot", He.ga K "Standing", He.ga K "Web"⟩) [] := ⟨_, _, _, [], fn_law_cell F22 T C , He.glo_ok X GN (c.f.1.fact 22 (f := .glo "_law_cell") rfl), F22.kp, bi_law_cell F22, .nil⟩
  have C_law_source : C8.Cal P w K mg base 1 "_law_source" (sp_law_source K ⟨He.ga K "InvalidPointer", He.ga K "InvalidStanding", He.ga K "LotError", He.ga K "NoPage", He.ga K "NoRoom", He.ga K "NotShort", He.ga K "OnecopyError", He.ga K "Owners", He.ga K "ShortLot", He.ga K "Standing", He.ga K "Web"⟩) [] := ⟨_, _, _, [], fn_law_source F23 T C , He.glo_ok X GN (c.f.1.fact 23 (f := .glo "_law_source") rfl), F23.kp, bi_law_source F23, .nil⟩
  have C_law_take : C8.Cal P w K mg base 1 "_law_take" (sp_law_take K ⟨He.ga K "InvalidPointer", He.ga K "InvalidStanding", He.ga K "LotError", He.ga K "NoPage", He.ga K "NoRoom", He.ga K "NotShort", He.ga K "OnecopyError", He.ga K "Owners", He.ga K "ShortLot", He.ga K "Standing", He.ga K "Web"⟩) [] := ⟨_, _, _, [], fn_law_take F24 T C , He.glo_ok X GN (c.f.1.fact 24 (f := .glo "_law_take") rfl), F24.kp, bi_law_take F24, .nil⟩
  have C_law_parents : C8.Cal P w K mg base 2 "_law_parents" (sp_law_parents K ⟨He.ga K "InvalidPointer", He.ga K "InvalidStanding", He.ga K "LotError", He.ga K "NoPage", He.ga K "NoRoom", He.ga K "NotShort", He.ga K "OnecopyError", He.ga K "Owners", He.ga K "ShortLot", He.ga K "Standing", He.ga K "Web"⟩) [] := ⟨_, _, _, [], fn_law_parents F25 T C C_law_take, He.glo_ok X GN (c.f.1.fact 25 (f := .glo "_law_parents") rfl), F25.kp, bi_law_parents F25, .nil⟩
  have C_law_pointers : C8.Cal P w K mg base 2 "_law_pointers" (sp_law_pointers K ⟨He.ga K "InvalidPointer", He.ga K "InvalidStanding", He.ga K "LotError", He.ga K "NoPage", He.ga K "NoRoom", He.ga K "NotShort", He.ga K "OnecopyError", He.ga K "Owners", He.ga K "ShortLot", He.ga K "Standing", He.ga K "Web"⟩) [] := ⟨_, _, _, [], fn_law_pointers F26 T C C_law_take, He.glo_ok X GN (c.f.1.fact 26 (f := .glo "_law_pointers") rfl), F26.kp, bi_law_pointers F26, .nil⟩
  have C_law_names : C8.Cal P w K mg base 2 "_law_names" (sp_law_names K ⟨He.ga K "InvalidPointer", He.ga K "InvalidStanding", He.ga K "LotError", He.ga K "NoPage", He.ga K "NoRoom", He.ga K "NotShort", He.ga K "OnecopyError", He.ga K "Owners", He.ga K "ShortLot", He.ga K "Standing", He.ga K "Web"⟩) [] := ⟨_, _, _, [], fn_law_names F27 T C C_law_take, He.glo_ok X GN (c.f.1.fact 27 (f := .glo "_law_names") rfl), F27.kp, bi_law_names F27, .nil⟩
  have C_law_named : C8.Cal P w K mg base 1 "_law_named" (sp_law_named K ⟨He.ga K "InvalidPointer", He.ga K "InvalidStanding", He.ga K "LotError", He.ga K "NoPage", He.ga K "NoRoom", He.ga K "NotShort", He.ga K "OnecopyError", He.ga K "Owners", He.ga K "ShortLot", He.ga K "Standing", He.ga K "Web"⟩) [] := ⟨_, _, _, [], fn_law_named F28 T C , He.glo_ok X GN (c.f.1.fact 28 (f := .glo "_law_named") rfl), F28.kp, bi_law_named F28, .nil⟩
  have C_law_extras : C8.Cal P w K mg base 2 "_law_extras" (sp_law_extras K ⟨He.ga K "InvalidPointer", He.ga K "InvalidStanding", He.ga K "LotError", He.ga K "NoPage", He.ga K "NoRoom", He.ga K "NotShort", He.ga K "OnecopyError", He.ga K "Owners", He.ga K "ShortLot", He.ga K "Standing", He.ga K "Web"⟩) [] := ⟨_, _, _, [], fn_law_extras F29 T C C_law_take, He.glo_ok X GN (c.f.1.fact 29 (f := .glo "_law_extras") rfl), F29.kp, bi_law_extras F29, .nil⟩
  have C_law_joined : C8.Cal P w K mg base 1 "_law_joined" (sp_law_joined K ⟨He.ga K "InvalidPointer", He.ga K "InvalidStanding", He.ga K "LotError", He.ga K "NoPage", He.ga K "NoRoom", He.ga K "NotShort", He.ga K "OnecopyError", He.ga K "Owners", He.ga K "ShortLot", He.ga K "Standing", He.ga K "Web"⟩) [] := ⟨_, _, _, [], fn_law_joined F30 T C , He.glo_ok X GN (c.f.1.fact 30 (f := .glo "_law_joined") rfl), F30.kp, bi_law_joined F30, .nil⟩
  have C_law_world : C8.Cal P w K mg base 3 "_law_world" (sp_law_world K ⟨He.ga K "InvalidPointer", He.ga K "InvalidStanding", He.ga K "LotError", He.ga K "NoPage", He.ga K "NoRoom", He.ga K "NotShort", He.ga K "OnecopyError", He.ga K "Owners", He.ga K "ShortLot", He.ga K "Standing", He.ga K "Web"⟩) [] := ⟨_, _, _, [], fn_law_world F31 T C C_law_cell C_law_extras C_law_joined C_law_named C_law_names C_law_parents C_law_pointers C_law_source C_law_take, He.glo_ok X GN (c.f.1.fact 31 (f := .glo "_law_world") rfl), F31.kp, bi_law_world F31, .nil⟩
  have C_law_lines : C8.Cal P w K mg base 2 "_law_lines" (sp_law_lines K ⟨He.ga K "InvalidPointer", He.ga K "InvalidStanding", He.ga K "LotError", He.ga K "NoPage", He.ga K "NoRoom", He.ga K "NotShort", He.ga K "OnecopyError", He.ga K "Owners", He.ga K "ShortLot", He.ga K "Standing", He.ga K "Web"⟩) [] := ⟨_, _, _, [], fn_law_lines F32 T C C_law_take, He.glo_ok X GN (c.f.1.fact 32 (f := .glo "_law_lines") rfl), F32.kp, bi_law_lines F32, .nil⟩
  have C_law_owners : C8.Cal P w K mg base 2 "_law_owners" (sp_law_owners K ⟨He.ga K "InvalidPointer", He.ga K "InvalidStanding", He.ga K "LotError", He.ga K "NoPage", He.ga K "NoRoom", He.ga K "NotShort", He.ga K "OnecopyError", He.ga K "Owners", He.ga K "ShortLot", He.ga K "Standing", He.ga K "Web"⟩) [] := ⟨_, _, _, [], fn_law_owners F33 T C C_law_take, He.glo_ok X GN (c.f.1.fact 33 (f := .glo "_law_owners") rfl), F33.kp, bi_law_owners F33, .nil⟩
  have C_law_table : C8.Cal P w K mg base 3 "_law_table" (sp_law_table K ⟨He.ga K "InvalidPointer", He.ga K "InvalidStanding", He.ga K "LotError", He.ga K "NoPage", He.ga K "NoRoom", He.ga K "NotShort", He.ga K "OnecopyError", He.ga K "Owners", He.ga K "ShortLot", He.ga K "Standing", He.ga K "Web"⟩) [] := ⟨_, _, _, [], fn_law_table F34 T C C_law_lines C_law_take, He.glo_ok X GN (c.f.1.fact 34 (f := .glo "_law_table") rfl), F34.kp, bi_law_table F34, .nil⟩
  have C_law_near : C8.Cal P w K mg base 2 "_law_near" (sp_law_near K ⟨He.ga K "InvalidPointer", He.ga K "InvalidStanding", He.ga K "LotError", He.ga K "NoPage", He.ga K "NoRoom", He.ga K "NotShort", He.ga K "OnecopyError", He.ga K "Owners", He.ga K "ShortLot", He.ga K "Standing", He.ga K "Web"⟩) [] := ⟨_, _, _, [], fn_law_near F35 T C C_law_take, He.glo_ok X GN (c.f.1.fact 35 (f := .glo "_law_near") rfl), F35.kp, bi_law_near F35, .nil⟩
  have C_law_is_integer : C8.Cal P w K mg base 1 "_law_is_integer" (sp_law_is_integer K ⟨He.ga K "InvalidPointer", He.ga K "InvalidStanding", He.ga K "LotError", He.ga K "NoPage", He.ga K "NoRoom", He.ga K "NotShort", He.ga K "OnecopyError", He.ga K "Owners", He.ga K "ShortLot", He.ga K "Standing", He.ga K "Web"⟩) [] := ⟨_, _, _, [], fn_law_is_integer F36 T C , He.glo_ok X GN (c.f.1.fact 36 (f := .glo "_law_is_integer") rfl), F36.kp, bi_law_is_integer F36, .nil⟩
  have Ch_law_is_integer : GX.HotX P w K mg base 1 "_law_is_integer" (fun _ _ _ => sp_law_is_integer K ⟨He.ga K "InvalidPointer", He.ga K "InvalidStanding", He.ga K "LotError", He.ga K "NoPage", He.ga K "NoRoom", He.ga K "NotShort", He.ga K "OnecopyError", He.ga K "Owners", He.ga K "ShortLot", He.ga K "Standing", He.ga K "Web"⟩) := ⟨_, _, _, fnh_law_is_integer F36 T, He.glo_ok X GN (c.f.1.fact 36 (f := .glo "_law_is_integer") rfl), F36.kp, bi_law_is_integer F36⟩
  have C_law_is_dealing : C8.Cal P w K mg base 2 "_law_is_dealing" (sp_law_is_dealing K ⟨He.ga K "InvalidPointer", He.ga K "InvalidStanding", He.ga K "LotError", He.ga K "NoPage", He.ga K "NoRoom", He.ga K "NotShort", He.ga K "OnecopyError", He.ga K "Owners", He.ga K "ShortLot", He.ga K "Standing", He.ga K "Web"⟩) [] := ⟨_, _, _, [], fn_law_is_dealing F37 T C C_law_is_integer, He.glo_ok X GN (c.f.1.fact 37 (f := .glo "_law_is_dealing") rfl), F37.kp, bi_law_is_dealing F37, .nil⟩
  have C_law_is_lot : C8.Cal P w K mg base 2 "_law_is_lot" (sp_law_is_lot K ⟨He.ga K "InvalidPointer", He.ga K "InvalidStanding", He.ga K "LotError", He.ga K "NoPage", He.ga K "NoRoom", He.ga K "NotShort", He.ga K "OnecopyError", He.ga K "Owners", He.ga K "ShortLot", He.ga K "Standing", He.ga K "Web"⟩) [] := ⟨_, _, _, [], fn_law_is_lot F38 T C C_law_is_integer, He.glo_ok X GN (c.f.1.fact 38 (f := .glo "_law_is_lot") rfl), F38.kp, bi_law_is_lot F38, .nil⟩
  have C_law_left : C8.Cal P w K mg base 1 "_law_left" (sp_law_left K ⟨He.ga K "InvalidPointer", He.ga K "InvalidStanding", He.ga K "LotError", He.ga K "NoPage", He.ga K "NoRoom", He.ga K "NotShort", He.ga K "OnecopyError", He.ga K "Owners", He.ga K "ShortLot", He.ga K "Standing", He.ga K "Web"⟩) [] := ⟨_, _, _, [], fn_law_left F39 T C , He.glo_ok X GN (c.f.1.fact 39 (f := .glo "_law_left") rfl), F39.kp, bi_law_left F39, .nil⟩
  have C_law_values : C8.Cal P w K mg base 1 "_law_values" (sp_law_values K ⟨He.ga K "InvalidPointer", He.ga K "InvalidStanding", He.ga K "LotError", He.ga K "NoPage", He.ga K "NoRoom", He.ga K "NotShort", He.ga K "OnecopyError", He.ga K "Owners", He.ga K "ShortLot", He.ga K "Standing", He.ga K "Web"⟩) [] := ⟨_, _, _, [], fn_law_values F40 T C , He.glo_ok X GN (c.f.1.fact 40 (f := .glo "_law_values") rfl), F40.kp, bi_law_values F40, .nil⟩
  have C_law_told : C8.Cal P w K mg base 8 "_law_told" (sp_law_told K ⟨He.ga K "InvalidPointer", He.ga K "InvalidStanding", He.ga K "LotError", He.ga K "NoPage", He.ga K "NoRoom", He.ga K "NotShort", He.ga K "OnecopyError", He.ga K "Owners", He.ga K "ShortLot", He.ga K "Standing", He.ga K "Web"⟩) [] := ⟨_, _, _, [], fn_law_told F41 T C C_slack, He.glo_ok X GN (c.f.1.fact 41 (f := .glo "_law_told") rfl), F41.kp, bi_law_told F41, .nil⟩
  have C_law_papers : C8.Cal P w K mg base 3 "_law_papers" (sp_law_papers K ⟨He.ga K "InvalidPointer", He.ga K "InvalidStanding", He.ga K "LotError", He.ga K "NoPage", He.ga K "NoRoom", He.ga K "NotShort", He.ga K "OnecopyError", He.ga K "Owners", He.ga K "ShortLot", He.ga K "Standing", He.ga K "Web"⟩) [] := ⟨_, _, _, [], fn_law_papers F42 T C C_law_is_dealing C_law_is_integer C_law_is_lot C_law_left, He.glo_ok X GN (c.f.1.fact 42 (f := .glo "_law_papers") rfl), F42.kp, bi_law_papers F42, .nil⟩
  have C_law_judged : C8.Cal P w K mg base 9 "_law_judged" (sp_law_judged K ⟨He.ga K "InvalidPointer", He.ga K "InvalidStanding", He.ga K "LotError", He.ga K "NoPage", He.ga K "NoRoom", He.ga K "NotShort", He.ga K "OnecopyError", He.ga K "Owners", He.ga K "ShortLot", He.ga K "Standing", He.ga K "Web"⟩) [] := ⟨_, _, _, [], fn_law_judged F43 T C C_law_is_lot C_law_left C_law_papers C_law_told C_law_values, He.glo_ok X GN (c.f.1.fact 43 (f := .glo "_law_judged") rfl), F43.kp, bi_law_judged F43, .nil⟩
  have C_law_refused : C8.Cal P w K mg base 8 "_law_refused" (sp_law_refused K ⟨He.ga K "InvalidPointer", He.ga K "InvalidStanding", He.ga K "LotError", He.ga K "NoPage", He.ga K "NoRoom", He.ga K "NotShort", He.ga K "OnecopyError", He.ga K "Owners", He.ga K "ShortLot", He.ga K "Standing", He.ga K "Web"⟩) [] := ⟨_, _, _, [], fn_law_refused F44 T C Ch_law_is_integer C_slack, He.glo_ok X GN (c.f.1.fact 44 (f := .glo "_law_refused") rfl), F44.kp, bi_law_refused F44, .nil⟩
  exact fn_law F45 T C C_Standing_init C_Standing_blanks C_Web_init C_Web_arrows C_law_cell C_law_judged C_law_near C_law_owners C_law_refused C_law_source C_law_table C_law_take C_law_world
end G

open PySem PySem.W PySem.Calls PyProof.Rows in
set_option maxRecDepth 100000 in
set_option maxHeartbeats 0 in
theorem PySem.Challenge.cw_onecopy_k07_whole_slack_holds : PySem.Challenge.rw_onecopy_k07_whole_slack.Holds := by
  w_on; o_law
  refine HandSHeadRun.head_any (r := OpenLaw.row PySem.Challenge.rw_onecopy_k07_whole_slack) (q := view (OpenLaw.row PySem.Challenge.rw_onecopy_k07_whole_slack).prog [50]) (H := G.hkS) (ob := G.obS) (M := 8000) (loose := G.looseS) (d := HandSHeadRun.topDef (OpenLaw.row PySem.Challenge.rw_onecopy_k07_whole_slack).prog 50) (kwd := []) G.obS_eq
    (by kernel_rfl) (fun s => by kernel_rfl) G.runS (by kernel_rfl) (by kernel_rfl) (by kernel_rfl) (by rfl) (by first | assumption | decide +kernel) (by decide +kernel) ⟨rfl, rfl, rfl, rfl, rfl, by decide +kernel⟩ ?hw ?hc
  case hw => w_witness2
  case hc =>
    refine L2.walk_ofE (l := PySem.Challenge.rw_onecopy_k07_whole_slack) (n := 63) (k := 10) (x := "script") (CX := L2.CX0) rfl (by decide) (by kernel_rfl) ⟨rfl, by decide, by decide⟩ ?F (fun _ _ _ _ z => z)
    intro w mg fa h Y GN hmg0
    obtain ⟨K, KX, c⟩ := Y
    have hmg : mg ("law" : PySem.Str) = some (.ref fa) := by
      have e : (HandSHeadRun.topDef (OpenLaw.row PySem.Challenge.rw_onecopy_k07_whole_slack).prog 50).name = ("law" : PySem.Str) := by kernel_rfl
      rw [← e]
      exact hmg0
    obtain ⟨fd, hb, hF⟩ := G.factsS (P := (PySem.Challenge.rw_onecopy_k07_whole_slack).prog) (w := w) KX GN hmg c (by kernel_rfl) (by kernel_rfl)
    exact ⟨K, fd, G.sp_law K _, KX, hb, fun H a ns hl _ hS => ⟨a, ns, rfl, hS, hl, fun _ => rfl⟩, hF⟩