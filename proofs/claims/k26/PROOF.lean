import PyProof.Rows.All
import Wide.All
import OpenK.AllK
import Wide.FinOn
import HandS.ForMost
import HandS.Deep
import HandS.Flow
import HandS.IsInst
import HandS.Conv
import HandS.SortRule
import HandS.SortInts
import HandS.SetFor
import HandS.More
import HandS.Codes
import HandS.Style
import HandS.Walk
import HandS.ForExc
import HandS.ExcInit
import HandS.ExcField
import HandS.ExcIs
import HandS.ExcOwn
import HandS.TryOnly
import HandS.WordsExc
import HandS.HotCalls
import HandS.OwnEq
import HandS.Property
import OpenK.KMeth
import KE.KExcIs
import HandS.TryMany
import HandS.Star
import HandS.Conv
import HandS.Rev
import HandS.RevRange
import KE.KStateDown
import HandS.Defaults
import HandS.Head0
import HandS.Head1
import HandS.Head2
import HandS.HeadEnd
import HandS.HeadHook1
import HandS.HeadHook2
import HandS.HeadNt
import PySem.Challenge.RW_onecopy_k26_whole_chain_keeper
set_option Elab.async false
set_option linter.all false
set_option maxRecDepth 100000
set_option maxHeartbeats 4000000

/-! The ground: relations under names of their own, steps of a reading, facts of heaps. -/
namespace G
open PySem PySem.Spec PyProof.Rows L2

/-! ### relations by name -/
def oAdd : R2 := rI0 fun i j => .int (i + j)
def oSub : R2 := rI0 fun i j => .int (i - j)
def oMul : R2 := rI CMul fun i j => .int (i * j)
def oDiv : R2 := rI CDiv fun i j => .int (i / j)
def oMod : R2 := rI (fun _ j => 0 < j) fun i j => .int (i % j)
def oPow : R2 := rI CPow fun i j => .int (i ^ j.toNat)
def oLt : R2 := rI0 fun i j => .bl (decide (i < j))
def oLe : R2 := rI0 fun i j => .bl (decide (i ≤ j))
def oGt : R2 := rI0 fun i j => .bl (decide (j < i))
def oGe : R2 := rI0 fun i j => .bl (decide (j ≤ i))
def oNeg : V → Hp → VK → Prop := rU fun i => .int (-i)
abbrev RL := List V → Hp → VK → Prop
def oAbs : RL := fun xs H Q => ∃ i, xs = [.int i] ∧ Q (.int (if i < 0 then -i else i)) H
def oMax2 : RL := fun xs H Q => ∃ i j, xs = [.int i, .int j] ∧ Q (.int (if j > i then j else i)) H
def oMin2 : RL := fun xs H Q => ∃ i j, xs = [.int i, .int j] ∧ Q (.int (if j < i then j else i)) H
def oInt : RL := fun xs H Q => (∃ i, xs = [.int i] ∧ Q (.int i) H) ∨ ∃ k, xs = [.bl k] ∧ Q (.int (if k then 1 else 0)) H
def rLenQ (K : PySem.W.Frag) : RL := fun xs H Q => ∃ p ys, xs = [.ref p] ∧ (SqL K H p ys ∨ SqT K H p ys) ∧ Q (.int ys.length) H
def oListOf (K : PySem.W.Frag) : RL := fun xs H Q => ∃ p ys, xs = [.ref p] ∧ (SqL K H p ys ∨ SqT K H p ys) ∧ ∀ l, H l = none → Q (.ref l) (upd H l (.lst ys))
def oListD : RL := fun xs H Q => ∃ d kvs, xs = [V.ref d] ∧ Rd H d (.dT kvs) ∧ ∀ p bs, H p = none → IsKeys H kvs bs → Q (.ref p) (upd H p (.lst (bs.map V.ref)))
def oInsert : V → List V → Hp → VK → Prop := fun x vs H Q => ∃ (l : Addr) (xs : List V) (i : Int) (y : V), x = .ref l ∧ vs = [.int i, y] ∧ H l = some (.lst xs) ∧ xs.length < sizeLine ∧ 0 ≤ i ∧ i < 2 ^ 63 ∧
    Q .non (upd H l (.lst (xs.take i.toNat ++ [y] ++ xs.drop i.toNat)))
def tTruK (K : PySem.W.Frag) (ta : TE) : TT := fun σ H Q => ta σ H fun x H' => ∃ k, TruV K x H' k ∧ Q k H'

theorem hu65 {A : Around} {k : Nat} (hr : Room k A) : A.units + 65 < cLine := by have := hr.un; omega
/-- xs[i] op= e -/
theorem pget_list {X : Cx} : PGet X (rIxL X.K) := by
  intro pn st sg Hh xo yo vo uo Qo Io r1 r2 hyp
  obtain ⟨pp, items, ii, zz, rfl, rfl, hsq, hat, hQ⟩ := hyp
  cases r1
  obtain ⟨tk, rfl⟩ := r2
  obtain ⟨raw, rel, isl, _⟩ := Io.list hsq
  obtain ⟨jj, e1, e2, e3, e4, e5⟩ := atI_get hat
  obtain ⟨ww, e6, rw'⟩ := rel.get e2
  have hlen := rel.length
  have h63 := line63
  have done : EP X pn sg Qo ww st := ⟨zz, Hh, Io, rw', hQ⟩
  by_cases hn : 0 ≤ ii
  · have ej : ii.toNat = jj := by
      rw [seqIndex_of hn e5] at e1; exact Option.some.inj e1
    exact wpAny_getItem_list isl.isList hn (by omega) (by rw [ej]; simpa using e6) done
  · have ej : (ii + (raw.toArray.size : Int)).toNat = jj := by
      rw [seqIndex_neg (by omega) e4] at e1; rw [List.size_toArray, ← hlen]; exact Option.some.inj e1
    exact wpAny_getItem_list_neg isl.isList (by omega) (by rw [List.size_toArray] <;> omega) (by omega) (by rw [ej]; simpa using e6) done

/-! ### heaps -/
section
variable {H H' H1 H2 H3 : Hp} {p q s : Addr} {o o' : HO}
theorem keep (h : H q = some o) (hp : H p = none) : upd H p o' q = some o := by rw [upd_ne (ne_of_none h hp)]; exact h
theorem keepNe (h : H q = some o) (hp : q ≠ p) : upd H p o' q = some o := by rw [upd_ne hp]; exact h
theorem same_new (h : H p = none) : Same H (upd H p o) := fun _ _ e => keep e h
theorem same_mut (e : Same H H') (h : H p = none) : Same H (upd H' p o) := fun b u hb => by rw [upd_ne (ne_of_none hb h)]; exact e b u hb
/-- all that was tracked is as it was, s aside -/
def But (s : Addr) (H H' : Hp) : Prop := ∀ b o, b ≠ s → H b = some o → H' b = some o
theorem But.refl : But s H H := fun _ _ _ h => h
theorem Same.but (e : Same H H') : But s H H' := fun b o _ h => e b o h
theorem But.trans (a : But s H H1) (b : But s H1 H2) : But s H H2 := fun c o n h => b c o n (a c o n h)
theorem But.new (e : But s H H') (h : H' p = none) : But s H (upd H' p o) := fun b u n hb => keep (e b u n hb) h
theorem But.mut (e : But s H H') (h : H p = none) : But s H (upd H' p o) := fun b u n hb => by rw [upd_ne (ne_of_none hb h)]; exact e b u n hb
theorem But.self (e : But s H H') : But s H (upd H' s o) := fun b u n hb => by rw [upd_ne n]; exact e b u n hb
theorem But.free (e : But s H H') (h : H s = some o) (hs : H' s = some o') (hp : H' p = none) : H p = none := by
  cases q : H p with
  | none => rfl
  | some u =>
    by_cases hn : p = s
    · rw [hn, hs] at hp; cases hp
    · rw [e p u hn q] at hp; cases hp
theorem SqL.same {K : PySem.W.Frag} {xs : List V} (h : SqL K H p xs) (e : Same H H') : SqL K H' p xs := e.seq h
theorem SqL.but {K : PySem.W.Frag} {xs ys : List V} (e : But s H H') (hs : H s = some (.lst ys)) (hn : p ≠ s) (h : SqL K H p xs) : SqL K H' p xs := by
  rcases h with (h | ⟨o, h⟩) | h
  · exact .inl (.inl (e _ _ hn h))
  · exact .inl (.inr ⟨o, e _ _ hn h⟩)
  · exact .inr h
end

/-! ### steps -/
section
variable {K : PySem.W.Frag} {σ : L2.St} {H : Hp} {Q : VK} {D : Ends} {v x y : V} {i : Nat} {ta tb tc te tv to ti : TE} {t u : TS} {tt tu : TT} {tl tr : TA} {p C dx : Addr}
theorem w_seq (h : t { D with nx := u D } σ H) : tSeq t u D σ H := h
theorem w_next (h : D.nx σ H) : tNext D σ H := h
theorem w_ret (h : te σ H D.rt) : tRet te D σ H := h
theorem w_retN (h : D.rt .non H) : tRetN D σ H := h
theorem w_drop (h : te σ H fun _ H1 => D.nx σ H1) : tDrop te D σ H := h
theorem w_brk (h : D.bk σ H) : tBreak D σ H := h
theorem w_cont (h : D.ct σ H) : tCont D σ H := h
theorem w_asg {g : TG} (h : te σ H fun x H1 => g x σ H1 D.nx) : tAsg te g D σ H := h
theorem w_name {R : L2.St → Hp → Prop} (h : R (σ.set i (some v)) H) : gName i v σ H R := h
theorem w_sub {R : L2.St → Hp → Prop} {ts : TSet} (h : to σ H fun o H1 => ti σ H1 fun j H2 => ts o j v H2 fun H3 => R σ H3) : gSub to ti ts v σ H R := h
theorem w_setL {R : Hp → Prop} {xs : List V} {k : Int} {j : Nat} (h : H p = some (.lst xs)) (hj : ixN xs.length k = some j) (q : R (upd H p (.lst (xs.set j v)))) : rSetL (.ref p) (.int k) v H R := ⟨p, xs, k, j, rfl, rfl, h, hj, q⟩
theorem w_var (h : σ[i]? = some (some v)) (q : Q v H) : tVar i σ H Q := ⟨v, h, q⟩
theorem w_c (q : Q v H) : tC v σ H Q := q
theorem w_op {r : R2} (h : ta σ H fun x H1 => tb σ H1 fun y H2 => r x y H2 Q) : tOp r ta tb σ H Q := h
theorem w_un {r : V → Hp → VK → Prop} (h : ta σ H fun x H1 => r x H1 Q) : tUn r ta σ H Q := h
theorem w_oAdd {a b : Int} (q : Q (.int (a + b)) H) : oAdd (.int a) (.int b) H Q := ⟨a, b, rfl, rfl, q⟩
theorem w_oSub {a b : Int} (q : Q (.int (a - b)) H) : oSub (.int a) (.int b) H Q := ⟨a, b, rfl, rfl, q⟩
theorem w_oMulL {a b : Int} (h0 : -18446744073709551616 < a) (h1 : a < 18446744073709551616) (q : Q (.int (a * b)) H) : oMul (.int a) (.int b) H Q := ⟨a, b, rfl, rfl, .inl ⟨h0, h1⟩, q⟩
theorem w_oMulR {a b : Int} (h0 : -18446744073709551616 < b) (h1 : b < 18446744073709551616) (q : Q (.int (a * b)) H) : oMul (.int a) (.int b) H Q := ⟨a, b, rfl, rfl, .inr ⟨h0, h1⟩, q⟩
theorem w_oDiv {a b : Int} (h0 : 0 < b) (h1 : b < 1073741824) (q : Q (.int (a / b)) H) : oDiv (.int a) (.int b) H Q := ⟨a, b, rfl, rfl, ⟨h0, h1⟩, q⟩
theorem w_oMod {a b : Int} (hc : 0 < b) (q : Q (.int (a % b)) H) : oMod (.int a) (.int b) H Q := ⟨a, b, rfl, rfl, hc, q⟩
theorem w_oPow {a b : Int} (h0 : 0 ≤ b) (h1 : b ≤ 1000000) (h2 : a.natAbs < 18446744073709551616) (q : Q (.int (a ^ b.toNat)) H) : oPow (.int a) (.int b) H Q := ⟨a, b, rfl, rfl, ⟨h0, h1, h2⟩, q⟩
theorem w_oLt {a b : Int} (q : Q (.bl (decide (a < b))) H) : oLt (.int a) (.int b) H Q := ⟨a, b, rfl, rfl, q⟩
theorem w_oLe {a b : Int} (q : Q (.bl (decide (a ≤ b))) H) : oLe (.int a) (.int b) H Q := ⟨a, b, rfl, rfl, q⟩
theorem w_oGt {a b : Int} (q : Q (.bl (decide (b < a))) H) : oGt (.int a) (.int b) H Q := ⟨a, b, rfl, rfl, q⟩
theorem w_oGe {a b : Int} (q : Q (.bl (decide (b ≤ a))) H) : oGe (.int a) (.int b) H Q := ⟨a, b, rfl, rfl, q⟩
theorem w_oNeg {a : Int} (q : Q (.int (-a)) H) : oNeg (.int a) H Q := ⟨a, rfl, q⟩
theorem w_eqI {a b : Int} (q : Q (.bl (decide (a = b))) H) : rEq (.int a) (.int b) H Q := ⟨rfl, by
  have e : (decide (V.int a = V.int b)) = decide (a = b) := by simp
  rw [e]; exact q⟩
theorem w_neI {a b : Int} (q : Q (.bl (!decide (a = b))) H) : rNe (.int a) (.int b) H Q := ⟨rfl, by
  have e : (decide (V.int a = V.int b)) = decide (a = b) := by simp
  rw [e]; exact q⟩
theorem w_eqB {a b : Bool} (q : Q (.bl (decide (a = b))) H) : rEq (.bl a) (.bl b) H Q := ⟨rfl, by
  have e : (decide (V.bl a = V.bl b)) = decide (a = b) := by simp
  rw [e]; exact q⟩
theorem w_chain {r r' : R2} (h : ta σ H fun x H1 => tb σ H1 fun y H2 => r x y H2 fun z H3 => ∃ k, z = .bl k ∧ (if k = true then tc σ H3 fun w' H4 => r' y w' H4 Q else Q (.bl false) H3)) : tChain r r' ta tb tc σ H Q := h
/-- a known answer -/
theorem w_ex {P : Bool → Prop} {b : Bool} (q : P b) : ∃ k, V.bl b = .bl k ∧ P k := ⟨b, rfl, q⟩
theorem w_test {Qb : Bool → Hp → Prop} (h : te σ H fun x H' => ∃ k, x = .bl k ∧ Qb k H') : tTest te σ H Qb := h
theorem w_tB {Qb : Bool → Hp → Prop} (h : te σ H fun x H' => ∃ k, x = .bl k ∧ Qb k H') : tB te σ H Qb := h
theorem w_and {Qb : Bool → Hp → Prop} (h : tt σ H fun c H1 => if c = true then tu σ H1 Qb else Qb false H1) : tAnd tt tu σ H Qb := h
theorem w_or {Qb : Bool → Hp → Prop} (h : tt σ H fun c H1 => if c = true then Qb true H1 else tu σ H1 Qb) : tOr tt tu σ H Qb := h
theorem w_not {Qb : Bool → Hp → Prop} (h : tt σ H fun c H1 => Qb (!c) H1) : tNot tt σ H Qb := h
theorem w_andV (h : ta σ H fun x H1 => ∃ c, x = .bl c ∧ (if c = true then tb σ H1 Q else Q (.bl false) H1)) : tAndV ta tb σ H Q := h
theorem w_orV (h : ta σ H fun x H1 => ∃ c, x = .bl c ∧ (if c = true then Q (.bl true) H1 else tb σ H1 Q)) : tOrV ta tb σ H Q := h
theorem w_notV (h : ta σ H fun x H1 => ∃ c, x = .bl c ∧ Q (.bl (!c)) H1) : tNotV ta σ H Q := h
theorem w_if (h : tt σ H fun b H1 => if b = true then t D σ H1 else u D σ H1) : tIfS tt t u D σ H := h
theorem w_ifE (h : tt σ H fun c H1 => if c = true then ta σ H1 Q else tb σ H1 Q) : tIf tt ta tb σ H Q := h
theorem w_nil {Ql : List V → Hp → Prop} (h : Ql [] H) : tNil σ H Ql := h
theorem w_cons {Ql : List V → Hp → Prop} (h : ta σ H fun x H1 => tr σ H1 fun xs H2 => Ql (x :: xs) H2) : tCons ta tr σ H Ql := h
theorem w_tup (h : tl σ H fun xs H1 => xs.length ≤ sizeLine ∧ ∀ p, H1 p = none → Q (.ref p) (upd H1 p (.tup xs))) : tTup tl σ H Q := h
theorem w_lst (h : tl σ H fun xs H1 => xs.length ≤ sizeLine ∧ ∀ p, H1 p = none → Q (.ref p) (upd H1 p (.lst xs))) : tLst tl σ H Q := h
theorem w_small {n : Nat} {P : Prop} (hn : n ≤ 100) (h : P) : n ≤ sizeLine ∧ P := ⟨Nat.le_trans hn (by decide), h⟩
theorem w_call {sp : Sp} {E : XK} (h : tl σ H fun vs H1 => sp vs H1 Q E) : tCall sp [] E tl σ H Q := by
  show tl σ H fun vs H1 => sp (vs ++ []) H1 Q E
  simp only [List.append_nil]; exact h
theorem w_meth {sp : Sp} {m : Str} {E : XK} (h : ta σ H fun x H1 => ∃ a dx fs, x = .ref a ∧ H1 a = some (.ins C dx fs) ∧ fs.lookup m = none ∧ tl σ H1 fun vs H2 => sp (x :: vs) H2 Q E) : tMeth C m sp [] E ta tl σ H Q := by
  show ta σ H fun x H1 => ∃ a dx fs, x = .ref a ∧ H1 a = some (.ins C dx fs) ∧ fs.lookup m = none ∧ tl σ H1 fun vs H2 => sp (x :: (vs ++ [])) H2 Q E
  simp only [List.append_nil]; exact h
theorem w_make {sp : Sp} {E : XK} (h : tl σ H fun vs H1 => ∀ x dx, H1 x = none → H1 dx = none → dx ≠ x → sp (.ref x :: vs) (upd (upd H1 dx (.own x)) x (.ins C dx [])) (fun v H2 => v = .non ∧ Q (.ref x) H2) E) : tMake C sp [] E tl σ H Q := by
  show tl σ H fun vs H1 => ∀ x dx, H1 x = none → H1 dx = none → dx ≠ x → sp (.ref x :: (vs ++ [])) (upd (upd H1 dx (.own x)) x (.ins C dx [])) (fun v H2 => v = .non ∧ Q (.ref x) H2) E
  simp only [List.append_nil]; exact h
theorem w_cb {r : RL} (h : tl σ H fun vs H1 => r vs H1 Q) : tCB r tl σ H Q := h
theorem w_oInt {a : Int} (q : Q (.int a) H) : oInt [.int a] H Q := .inl ⟨a, rfl, q⟩
theorem w_oAbs {a : Int} (q : Q (.int (if a < 0 then -a else a)) H) : oAbs [.int a] H Q := ⟨a, rfl, q⟩
theorem w_oMax2 {a b : Int} (q : Q (.int (if b > a then b else a)) H) : oMax2 [.int a, .int b] H Q := ⟨a, b, rfl, q⟩
theorem w_oMin2 {a b : Int} (q : Q (.int (if b < a then b else a)) H) : oMin2 [.int a, .int b] H Q := ⟨a, b, rfl, q⟩
theorem w_lenL {xs : List V} (h : SqL K H p xs) (q : Q (.int xs.length) H) : rLenQ K [.ref p] H Q := ⟨p, xs, rfl, .inl h, q⟩
theorem w_listL {xs : List V} (h : SqL K H p xs) (q : ∀ l, H l = none → Q (.ref l) (upd H l (.lst xs))) : oListOf K [.ref p] H Q := ⟨p, xs, rfl, .inl h, q⟩
theorem w_ixL {xs : List V} {k : Int} (h : SqL K H p xs) (ha : atI xs k = some v) (q : Q v H) : rIxL K (.ref p) (.int k) H Q := ⟨p, xs, k, v, rfl, rfl, h, ha, q⟩
theorem w_ixT {xs : List V} {k : Int} (h : H p = some (.tup xs)) (ha : atI xs k = some v) (q : Q v H) : rIxT K (.ref p) (.int k) H Q := ⟨p, xs, k, v, rfl, rfl, .inl (.inl h), ha, q⟩
theorem w_fld {f : Str} (h : ta σ H fun x H1 => ∃ a C dx fs v, x = .ref a ∧ H1 a = some (.ins C dx fs) ∧ Cls K C ∧ NoAttr K C f ∧ fs.lookup f = some v ∧ Q v H1) : tFld K ta f σ H Q := h
theorem w_bm {Tn : String} {r : V → List V → Hp → VK → Prop} (h : to σ H fun x H1 => tyV K Tn x H1 ∧ tl σ H1 fun xs H2 => r x xs H2 Q) : tBM K Tn r to tl σ H Q := h
theorem w_bm0 {Tn : String} {r : V → List V → Hp → VK → Prop} (h : to σ H fun x H1 => tyV K Tn x H1 ∧ r x [] H1 Q) : tBM0 K Tn r to σ H Q := h
theorem w_tyL {P : Prop} {xs : List V} (h : SqL K H p xs) (q : P) : tyV K "list" (.ref p) H ∧ P := ⟨.inl ⟨rfl, xs, h⟩, q⟩
theorem w_append {xs : List V} (h : H p = some (.lst xs)) (hl : xs.length < sizeLine) (q : Q .non (upd H p (.lst (xs ++ [v])))) : rAppend (.ref p) [v] H Q := ⟨p, xs, v, rfl, rfl, h, hl, q⟩
theorem w_cat {b : Addr} {xs ys : List V} (h : H p = some (.lst xs)) (hb : H b = some (.lst ys)) (hl : xs.length + ys.length ≤ sizeLine) (q : ∀ l, H l = none → Q (.ref l) (upd H l (.lst (xs ++ ys)))) : rCat (.ref p) (.ref b) H Q := ⟨p, b, xs, ys, rfl, rfl, h, hb, hl, q⟩
theorem w_sl {r : V → Option Int → Option Int → Hp → VK → Prop} {lo hi : TO} (h : te σ H fun x H1 => lo σ H1 fun l H2 => hi σ H2 fun u H3 => r x l u H3 Q) : tSl r te lo hi σ H Q := h
theorem w_noPart {R : Option Int → Hp → Prop} (h : R none H) : tNoPart σ H R := h
theorem w_part {R : Option Int → Hp → Prop} (h : te σ H fun x H1 => ∃ i, x = .int i ∧ R (some i) H1) : tPart te σ H R := h
theorem w_exI {P : Int → Prop} {a : Int} (q : P a) : ∃ k, V.int a = .int k ∧ P k := ⟨a, rfl, q⟩
theorem w_slL {xs : List V} {lo hi : Option Int} (h : SqL K H p xs) (q : ∀ l, H l = none → Q (.ref l) (upd H l (.lst (cutV xs lo hi)))) : rSlL K (.ref p) lo hi H Q := ⟨p, xs, rfl, h, q⟩
theorem w_gNil {R : L2.St → Hp → Prop} (h : R σ H) : gNil [] σ H R := ⟨rfl, h⟩
theorem w_gCons {R : L2.St → Hp → Prop} {g : TG} {gs : TGs} {vs : List V} (h : g v σ H fun σ' H' => gs vs σ' H' R) : gCons g gs (v :: vs) σ H R := ⟨v, vs, rfl, h⟩
theorem w_gTup {R : L2.St → Hp → Prop} {n : Nat} {gs : TGs} {vs : List V} (h : H p = some (.tup vs)) (hn : vs.length = n) (q : gs vs σ H R) : gTup K n gs (.ref p) σ H R := ⟨p, vs, rfl, .inl (.inl h), hn, q⟩
theorem w_listRg {te : L2.St → Hp → (Int → Int → Hp → Prop) → Prop} (h : te σ H fun a b H1 => RgOk a b ∧ ∀ q, H1 q = none → Q (.ref q) (upd H1 q (.lst (rgV a b)))) : tLstRg te σ H Q := h
theorem w_rg1 {R : Int → Int → Hp → Prop} (h : ta σ H fun x H1 => ∃ n, x = .int n ∧ R 0 n H1) : tRg1 ta σ H R := h
theorem w_augS {tget : V → V → Hp → VK → Prop} {tip : TIp} {ts : TSet} (h : to σ H fun o H1 => ti σ H1 fun i H2 => tget o i H2 fun x H3 => te σ H3 fun y H4 => tip x y H4 fun z H5 => ts o i z H5 fun H6 => D.nx σ H6) : tAugS to ti te tget tip ts D σ H := h
theorem w_ipI {f : Int → Int → Int} {a b : Int} (q : Q (.int (f a b)) H) : ipI f (.int a) (.int b) H Q := ⟨a, b, rfl, rfl, q⟩
theorem w_sum {xs : List Int} (h : SqL K H p (xs.map V.int)) (q : Q (.int xs.sum) H) : rSum K [.ref p] H Q := ⟨p, xs, rfl, h, q⟩
theorem w_iteD {A B : Prop} {c : Prop} [Decidable c] (h1 : c → A) (h2 : ¬ c → B) : if decide c = true then A else B := by
  by_cases h : c
  · rw [decide_eq_true h]; exact h1 h
  · rw [decide_eq_false h, if_neg Bool.false_ne_true]; exact h2 h
theorem w_iteN {A B : Prop} {c : Prop} [Decidable c] (h1 : ¬ c → A) (h2 : c → B) : if (!decide c) = true then A else B := by
  by_cases h : c
  · rw [decide_eq_true h]; exact h2 h
  · rw [decide_eq_false h]; exact h1 h
theorem w_iteT {A B : Prop} (h : A) : if true = true then A else B := h
theorem w_iteF {A B : Prop} (h : B) : if false = true then A else B := by rw [if_neg Bool.false_ne_true]; exact h

theorem w_cut (M : L2.St → Hp → Prop) (h1 : t { D with nx := M } σ H) (h2 : ∀ σ1 H1, M σ1 H1 → u D σ1 H1) : C8.tCut t u D σ H := ⟨M, h1, h2⟩
theorem w_yes {R : Bool → Hp → Prop} (q : R true H) : tYes σ H R := q
theorem w_exA {P : Int → Prop} {n : Int} (q : P n) : ∃ m, [V.int n] = [V.int m] ∧ P m := ⟨n, rfl, q⟩
theorem w_exA2 {P : Int → Int → Prop} {n m : Int} (q : P n m) : ∃ a b, [V.int n, V.int m] = [V.int a, V.int b] ∧ P a b := ⟨n, m, rfl, q⟩
theorem w_exR {P : Addr → Prop} (q : P p) : ∃ m, V.ref p = .ref m ∧ P m := ⟨p, rfl, q⟩
theorem w_exRA {P : Addr → Prop} (q : P p) : ∃ m, [V.ref p] = [.ref m] ∧ P m := ⟨p, rfl, q⟩
theorem w_exRA2 {P : Addr → Addr → Prop} {p2 : Addr} (q : P p p2) : ∃ m m2, [V.ref p, .ref p2] = [.ref m, .ref m2] ∧ P m m2 := ⟨p, p2, rfl, q⟩
theorem w_acc {xs : List V} {P : List V → Prop} (h : H p = some (.lst xs)) (hl : xs.length < sizeLine) (q : P xs) : ∃ acc, H p = some (.lst acc) ∧ acc.length < sizeLine ∧ P acc := ⟨xs, h, hl, q⟩
theorem w_fld2 {P : V → Prop} {f : Str} {fs : List (Str × V)} (h : H p = some (.ins C dx fs)) (hc : Cls K C) (hn : NoAttr K C f) (hl : fs.lookup f = some v) (q : P v) :
    ∃ a C dx fs w, V.ref p = .ref a ∧ H a = some (.ins C dx fs) ∧ Cls K C ∧ NoAttr K C f ∧ fs.lookup f = some w ∧ P w := ⟨p, C, dx, fs, v, rfl, h, hc, hn, hl, q⟩
theorem w_mth {P : Addr → Prop} {m : Str} {fs : List (Str × V)} (h : H p = some (.ins C dx fs)) (hl : fs.lookup m = none) (q : P p) :
    ∃ a dx fs, V.ref p = .ref a ∧ H a = some (.ins C dx fs) ∧ fs.lookup m = none ∧ P p := ⟨p, dx, fs, rfl, h, hl, q⟩
theorem w_sfld {f : Str} (h : tv σ H fun y H1 => to σ H1 fun x H2 => ∃ a C dx fs, x = .ref a ∧ H2 a = some (.ins C dx fs) ∧ Cls K C ∧ NoAttr K C f ∧ fs.length < 1000 ∧ D.nx σ (upd H2 a (.ins C dx (putF f y fs)))) : sFld K to tv f D σ H := h
theorem w_sfld2 {P : Hp → Prop} {f : Str} {fs : List (Str × V)} (h : H p = some (.ins C dx fs)) (hc : Cls K C) (hn : NoAttr K C f) (hl : fs.length < 1000) (q : P (upd H p (.ins C dx (putF f v fs)))) :
    ∃ a C dx fs, V.ref p = .ref a ∧ H a = some (.ins C dx fs) ∧ Cls K C ∧ NoAttr K C f ∧ fs.length < 1000 ∧ P (upd H a (.ins C dx (putF f v fs))) := ⟨p, C, dx, fs, rfl, h, hc, hn, hl, q⟩
theorem w_never (h : False) : tNever D σ H := h
theorem w_augName {ti : TIp} (h : σ[i]? = some (some v)) (q : te σ H fun y H1 => ti v y H1 fun z H2 => D.nx (σ.set i (some z)) H2) : tAug i te ti D σ H := ⟨v, h, q⟩

theorem at0 {a : V} {r : List V} : atI (a :: r) 0 = some a := atI_nat (xs := a :: r) (j := 0) rfl
theorem at1 {a b : V} {r : List V} : atI (a :: b :: r) 1 = some b := atI_nat (xs := a :: b :: r) (j := 1) rfl
theorem at2 {a b c : V} {r : List V} : atI (a :: b :: c :: r) 2 = some c := atI_nat (xs := a :: b :: c :: r) (j := 2) rfl
theorem at3 {a b c d : V} {r : List V} : atI (a :: b :: c :: d :: r) 3 = some d := atI_nat (xs := a :: b :: c :: d :: r) (j := 3) rfl
theorem at4 {a b c d e : V} {r : List V} : atI (a :: b :: c :: d :: e :: r) 4 = some e := atI_nat (xs := a :: b :: c :: d :: e :: r) (j := 4) rfl
theorem ixn {n : Nat} {k : Int} {j : Nat} (e : k = (j : Int)) (h : j < n) : ixN n k = some j := by
  unfold ixN; rw [e, if_pos (by omega), if_pos (by omega)]; simp
theorem ix0 {a : V} {r : List V} : ixN (a :: r).length 0 = some 0 := ixn rfl (by simp)
theorem ix1 {a b : V} {r : List V} : ixN (a :: b :: r).length 1 = some 1 := ixn rfl (by simp)
theorem ix2 {a b c : V} {r : List V} : ixN (a :: b :: c :: r).length 2 = some 2 := ixn rfl (by simp)
theorem atn {xs : List V} {k : Int} {j : Nat} {v : V} (e : k = (j : Int)) (h : xs[j]? = some v) : atI xs k = some v := by rw [e]; exact atI_nat h
theorem ati {xs : List Int} {k : Int} (h0 : 0 ≤ k) (h1 : k < xs.length) : atI (xs.map V.int) k = some (V.int (xs.getD k.toNat 0)) := by
  refine atn (j := k.toNat) (by omega) ?_
  rw [List.getElem?_map, List.getElem?_eq_getElem (by omega), List.getD_eq_getElem?_getD, List.getElem?_eq_getElem (by omega)]; rfl

/-! ### loops -/
/-- a loop whose iterator has come -/
def ForW (J : It) (g : TG) (tb : TS) (D : Ends) (σ : L2.St) (H : Hp) : Prop := tFor (fun _ H R => R J H) g tb D σ H
theorem w_forR1 {g : TG} {tb : TS} (h : tl σ H fun vs H1 => ∃ n : Int, vs = [.int n] ∧ -(2 ^ 62) ≤ n ∧ n < 2 ^ 62 ∧ ForW (Itr 0 n.toNat) g tb D σ H1) : tFor (iRng1 tl) g tb D σ H := h
theorem w_forR2 {g : TG} {tb : TS} (h : tl σ H fun vs H1 => ∃ m n : Int, vs = [.int m, .int n] ∧ (-(2 ^ 62) ≤ m ∧ m < 2 ^ 62 ∧ -(2 ^ 62) ≤ n ∧ n < 2 ^ 62) ∧ ForW (Itr m (n - m).toNat) g tb D σ H1) : tFor (iRng2 tl) g tb D σ H := h
theorem w_forL {g : TG} {tb : TS} (h : te σ H fun x H1 => ∃ a, x = .ref a ∧ (∃ xs, SqL K H1 a xs) ∧ ForW (Itl K a) g tb D σ H1) : tFor (iList K te) g tb D σ H := h
theorem w_forZ {g : TG} {tb : TS} (h : tl σ H fun vs H1 => ∃ a b xs ys, vs = [.ref a, .ref b] ∧ SqL K H1 a xs ∧ SqL K H1 b ys ∧ ForW (Itz K a b) g tb D σ H1) : tFor (iZip K tl) g tb D σ H := h
theorem w_forE {g : TG} {tb : TS} (h : tl σ H fun vs H1 => ∃ a xs, vs = [.ref a] ∧ SqL K H1 a xs ∧ ForW (Ite K a) g tb D σ H1) : tFor (iEnum K tl) g tb D σ H := h
theorem w_bd1 {n : Int} {P : Prop} (h0 : -4611686018427387904 ≤ n) (h1 : n < 4611686018427387904) (q : P) : -(2 ^ 62) ≤ n ∧ n < 2 ^ 62 ∧ P := ⟨by omega, by omega, q⟩
theorem w_bd2 {m n : Int} {P : Prop} (h0 : -4611686018427387904 ≤ m) (h1 : m < 4611686018427387904) (h2 : -4611686018427387904 ≤ n) (h3 : n < 4611686018427387904) (q : P) : (-(2 ^ 62) ≤ m ∧ m < 2 ^ 62 ∧ -(2 ^ 62) ≤ n ∧ n < 2 ^ 62) ∧ P := ⟨⟨by omega, by omega, by omega, by omega⟩, q⟩
theorem w_sqE {xs : List V} {P : Prop} (h : SqL K H p xs) (q : P) : (∃ ys, SqL K H p ys) ∧ P := ⟨⟨xs, h⟩, q⟩
theorem forR {lo : Int} {n : Nat} {g : TG} {tb : TS} (Pv : Nat → L2.St → Hp → Prop) (h0 : Pv 0 σ H)
    (hs : ∀ i σ1 H1, i < n → Pv i σ1 H1 → g (.int (lo + i)) σ1 H1 fun σ2 H2 => tb { D with nx := Pv (i + 1), ct := Pv (i + 1), bk := D.nx } σ2 H2) (hd : ∀ σ1 H1, Pv n σ1 H1 → D.nx σ1 H1) : ForW (Itr lo n) g tb D σ H := for_range Pv h0 hs hd
theorem forL {a : Addr} {xs : List V} {g : TG} {tb : TS} (Pv : Nat → L2.St → Hp → Prop) (h0 : Pv 0 σ H) (hl : ∀ i σ1 H1, i ≤ xs.length → Pv i σ1 H1 → SqL K H1 a xs)
    (hs : ∀ i x σ1 H1, xs[i]? = some x → Pv i σ1 H1 → g x σ1 H1 fun σ2 H2 => tb { D with nx := Pv (i + 1), ct := Pv (i + 1), bk := D.nx } σ2 H2) (hd : ∀ σ1 H1, Pv xs.length σ1 H1 → D.nx σ1 H1) : ForW (Itl K a) g tb D σ H := for_list (xs := xs) Pv h0 hl hs hd
/-- a comprehension whose iterator has come -/
def LcW (J : It) (g : TG) (tt : TT) (te : TE) (vs : List Nat) (σ : L2.St) (H : Hp) (Q : VK) : Prop := tLc (fun _ H R => R J H) g tt te vs σ H Q
theorem w_lcR1 {g : TG} {vs : List Nat} (h : tl σ H fun us H1 => ∃ n : Int, us = [.int n] ∧ -(2 ^ 62) ≤ n ∧ n < 2 ^ 62 ∧ LcW (Itr 0 n.toNat) g tt te vs σ H1 Q) : tLc (iRng1 tl) g tt te vs σ H Q := h
theorem w_lcL {g : TG} {vs : List Nat} {tz : TE} (h : tz σ H fun x H1 => ∃ a, x = .ref a ∧ (∃ xs, SqL K H1 a xs) ∧ LcW (Itl K a) g tt te vs σ H1 Q) : tLc (iList K tz) g tt te vs σ H Q := h
/-- one turn of a comprehension -/
def LcT (tt : TT) (te : TE) (Dl : Addr) (N : Hp → Prop) (σ : L2.St) (H : Hp) : Prop := tt σ H fun b H3 =>
  if b = true then te σ H3 fun y H4 => ∃ acc, H4 Dl = some (.lst acc) ∧ acc.length < sizeLine ∧ N (upd H4 Dl (.lst (acc ++ [y]))) else N H3
theorem lcR {lo : Int} {n : Nat} {g : TG} {vs : List Nat} (Pv : Addr → Nat → Hp → Prop) (h0 : ∀ Dl, H Dl = none → Pv Dl 0 (upd H Dl (.lst [])))
    (hs : ∀ Dl i H1, H Dl = none → i < n → Pv Dl i H1 → g (.int (lo + i)) (wipe σ vs) H1 fun σ2 H2 => wipe σ2 vs = wipe σ vs ∧ LcT tt te Dl (Pv Dl (i + 1)) σ2 H2) (hd : ∀ Dl H1, H Dl = none → Pv Dl n H1 → Q (.ref Dl) H1) : LcW (Itr lo n) g tt te vs σ H Q :=
  fun Dl hD => lc_range (Pv Dl) (h0 Dl hD) (fun i H1 hi p => hs Dl i H1 hD hi p) (fun H1 p => hd Dl H1 hD p)
theorem lcL {a : Addr} {xs : List V} {g : TG} {vs : List Nat} (Pv : Addr → Nat → Hp → Prop) (h0 : ∀ Dl, H Dl = none → Pv Dl 0 (upd H Dl (.lst []))) (hl : ∀ Dl i H1, H Dl = none → i ≤ xs.length → Pv Dl i H1 → SqL K H1 a xs)
    (hs : ∀ Dl i x H1, H Dl = none → xs[i]? = some x → Pv Dl i H1 → g x (wipe σ vs) H1 fun σ2 H2 => wipe σ2 vs = wipe σ vs ∧ LcT tt te Dl (Pv Dl (i + 1)) σ2 H2) (hd : ∀ Dl H1, H Dl = none → Pv Dl xs.length H1 → Q (.ref Dl) H1) : LcW (Itl K a) g tt te vs σ H Q :=
  fun Dl hD => lc_list (K := K) (a := a) (xs := xs) (Pv Dl) (h0 Dl hD) (fun i H1 hi p => hl Dl i H1 hD hi p) (fun i x H1 hx p => hs Dl i x H1 hD hx p) (fun H1 p => hd Dl H1 hD p)
theorem w_lcT {Dl : Addr} {N : Hp → Prop} (h : te σ H fun y H4 => ∃ acc, H4 Dl = some (.lst acc) ∧ acc.length < sizeLine ∧ N (upd H4 Dl (.lst (acc ++ [y])))) : LcT tYes te Dl N σ H := h
theorem w_lcTif {Dl : Addr} {N : Hp → Prop} (h : tt σ H fun b H3 => if b = true then (te σ H3 fun y H4 => ∃ acc, H4 Dl = some (.lst acc) ∧ acc.length < sizeLine ∧ N (upd H4 Dl (.lst (acc ++ [y])))) else N H3) : LcT tt te Dl N σ H := h
theorem w_wipe {σ1 : L2.St} {P : Prop} (h : σ = σ1) (q : P) : σ = σ1 ∧ P := ⟨h, q⟩
end
/-! ### sources of draws: lists of three ints -/
section
variable {H H' H1 H2 H3 : Hp} {p q s : Addr} {o o' : HO} {xs : List V}
def Src (H : Hp) (s : Addr) : Prop := ∃ x y z u : Int, H s = some (.lst [.int x, .int y, .int z, .int u])
theorem Src.ex (h : Src H s) : ∃ xs, H s = some (.lst xs) := let ⟨_, _, _, _, e⟩ := h; ⟨_, e⟩
theorem Src.neFree (h : Src H s) (hq : H q = none) : q ≠ s := fun e => by obtain ⟨_, _, _, _, hs⟩ := h; rw [e, hs] at hq; cases hq
theorem Src.neTup {xs : List V} (h : Src H s) (hq : H q = some (.tup xs)) : q ≠ s := fun e => by obtain ⟨_, _, _, _, hs⟩ := h; rw [e, hs] at hq; cases hq
theorem Src.neIns {C dx : Addr} {fs : List (Str × V)} (h : Src H s) (hq : H q = some (.ins C dx fs)) : q ≠ s := fun e => by obtain ⟨_, _, _, _, hs⟩ := h; rw [e, hs] at hq; cases hq
theorem Src.new (h : Src H s) (hp : H p = none) : Src (upd H p o) s := let ⟨x, y, z, u, e⟩ := h; ⟨x, y, z, u, keep e hp⟩
theorem Src.mut (h : Src H s) (hp : p ≠ s) : Src (upd H p o) s := let ⟨x, y, z, u, e⟩ := h; ⟨x, y, z, u, keepNe e hp.symm⟩
theorem Src.same (e : Same H H') (h : Src H s) : Src H' s := let ⟨x, y, z, u, q⟩ := h; ⟨x, y, z, u, e _ _ q⟩
theorem But.at (b : But s H H') (hn : q ≠ s) (h : H q = some o) : H' q = some o := b _ _ hn h
theorem But.back (b : But s H H') (h2 : Src H' s) (hp : H' p = none) : H p = none := by
  cases hq : H p with
  | none => rfl
  | some u => rw [b p u (h2.neFree hp) hq] at hp; cases hp
theorem But.trans' (b : But s H1 H2) (a : But s H H1) : But s H H2 := a.trans b
theorem Same.trans' (b : Same H1 H2) (a : Same H H1) : Same H H2 := a.trans b
theorem Same.at (e : Same H H') (h : H q = some o) : H' q = some o := e _ _ h
theorem ne1 (hl : H p = none) (hq : H q = some o) : q ≠ p := ne_of_none hq hl
theorem free_upd (h : upd H p o q = none) : H q = none := by
  cases e : H q with
  | none => rfl
  | some u =>
    by_cases hn : q = p
    · rw [hn, upd_same] at h; cases h
    · rw [upd_ne hn, e] at h; cases h
/-- a pair of ints at a value; a list of such pairs -/
def PR (H : Hp) (v : V) (r : Int × Int) : Prop := ∃ t, v = .ref t ∧ H t = some (.tup [.int r.1, .int r.2])
def RowsAt (H : Hp) (p : Addr) (rows : List (Int × Int)) : Prop := ∃ vs, H p = some (.lst vs) ∧ Paired (PR H) vs rows
theorem PR.but {v : V} {r : Int × Int} (b : But s H H') (hs : Src H s) (h : PR H v r) : PR H' v r := let ⟨t, e, ht⟩ := h; ⟨t, e, b.at (hs.neTup ht) ht⟩
theorem PR.same {v : V} {r : Int × Int} (b : Same H H') (h : PR H v r) : PR H' v r := let ⟨t, e, ht⟩ := h; ⟨t, e, b _ _ ht⟩
theorem PR.mutL {v : V} {r : Int × Int} {xs : List V} (hp : H p = some (.lst xs)) (h : PR H v r) : PR (upd H p o) v r := let ⟨t, e, ht⟩ := h; ⟨t, e, keepNe ht (ne_of ht hp (by intro z; cases z))⟩
theorem PRs.but {vs : List V} {rows : List (Int × Int)} (b : But s H H') (hs : Src H s) (h : Paired (PR H) vs rows) : Paired (PR H') vs rows := h.mono fun _ _ q => PR.but b hs q
theorem PRs.same {vs : List V} {rows : List (Int × Int)} (b : Same H H') (h : Paired (PR H) vs rows) : Paired (PR H') vs rows := h.mono fun _ _ q => PR.same b q
theorem PRs.mutL {vs xs : List V} {rows : List (Int × Int)} (hp : H p = some (.lst xs)) (h : Paired (PR H) vs rows) : Paired (PR (upd H p o)) vs rows := h.mono fun _ _ q => PR.mutL hp q
theorem PRs.new {vs : List V} {rows : List (Int × Int)} (hp : H p = none) (h : Paired (PR H) vs rows) : Paired (PR (upd H p o)) vs rows := h.mono fun _ _ q => PR.same (same_new hp) q
theorem RowsAt.but {rows : List (Int × Int)} (b : But s H H') (hs : Src H s) (hn : p ≠ s) (h : RowsAt H p rows) : RowsAt H' p rows := let ⟨vs, e, k⟩ := h; ⟨vs, b.at hn e, PRs.but b hs k⟩
theorem RowsAt.same {rows : List (Int × Int)} (b : Same H H') (h : RowsAt H p rows) : RowsAt H' p rows := let ⟨vs, e, k⟩ := h; ⟨vs, b _ _ e, PRs.same b k⟩
theorem RowsAt.neFree {rows : List (Int × Int)} (h : RowsAt H q rows) (hp : H p = none) : q ≠ p := let ⟨_, e, _⟩ := h; ne_of_none e hp
theorem Paired.at {α β : Type} {F : α → β → Prop} : ∀ {l₁ : List α} {l₂ : List β}, Paired F l₁ l₂ → ∀ {i : Nat} {b : β}, l₂[i]? = some b → ∃ a, l₁[i]? = some a ∧ F a b
  | _, _, .nil, i, b, h => by simp at h
  | _, _, .cons f r, 0, b, h => by
    have e := Option.some.inj h
    subst e; exact ⟨_, rfl, f⟩
  | _, _, .cons f r, i + 1, b, h => by
    obtain ⟨a, h1, h2⟩ := Paired.at r (i := i) (b := b) (by simpa using h)
    exact ⟨a, by simpa using h1, h2⟩
theorem Paired.at' {α β : Type} {F : α → β → Prop} : ∀ {l₁ : List α} {l₂ : List β}, Paired F l₁ l₂ → ∀ {i : Nat} {a : α}, l₁[i]? = some a → ∃ b, l₂[i]? = some b ∧ F a b
  | _, _, .nil, i, b, h => by simp at h
  | _, _, .cons f r, 0, b, h => by
    have e := Option.some.inj h
    subst e; exact ⟨_, rfl, f⟩
  | _, _, .cons f r, i + 1, b, h => by
    obtain ⟨a, h1, h2⟩ := Paired.at' r (i := i) (a := b) (by simpa using h)
    exact ⟨a, by simpa using h1, h2⟩
end
end G

namespace G
open PySem L2
structure CA where
  LotError : Addr
  NoPage : Addr
  NotKeepable : Addr
  OnecopyError : Addr
end G

/-! ### the tactic: walk_at "go" -/
local macro_rules | `(tactic| walk_at "hp") => `(tactic| first
  | assumption | exact L2.upd_same
  | exact G.keep (by walk_at "hp") (by assumption)
  | exact G.keepNe (by walk_at "hp") (by walk_at "ne")
  | exact G.But.at (by assumption) (by walk_at "ne") (by walk_at "hp")
  | exact G.Same.at (by assumption) (by walk_at "hp"))
local macro_rules | `(tactic| walk_at "ne") => `(tactic| first
  | assumption | exact Ne.symm (by assumption)
  | exact G.Src.neFree (by assumption) (by assumption) | exact (G.Src.neFree (by assumption) (by assumption)).symm
  | exact G.ne1 (by assumption) (by walk_at "hp") | exact (G.ne1 (by assumption) (by walk_at "hp")).symm)
local macro_rules | `(tactic| walk_at "src") => `(tactic| first
  | assumption | exact G.Src.new (by walk_at "src") (by assumption) | exact G.Src.mut (by walk_at "src") (by walk_at "ne") | exact G.Src.same (by assumption) (by walk_at "src"))
local macro_rules | `(tactic| walk_at "but") => `(tactic| first
  | assumption | exact G.But.refl
  | exact G.But.mut (by walk_at "but") (by assumption) | exact G.But.new (by walk_at "but") (by assumption) | exact G.But.self (by walk_at "but")
  | exact G.But.trans' (by assumption) (by walk_at "but") | exact G.But.trans' (G.Same.but (by assumption)) (by walk_at "but"))
local macro_rules | `(tactic| walk_at "same") => `(tactic| first
  | assumption | exact L2.Same.refl _
  | exact G.same_mut (by walk_at "same") (by assumption) | exact G.Same.trans' (G.same_new (by assumption)) (by walk_at "same") | exact G.Same.trans' (by assumption) (by walk_at "same"))
local macro_rules | `(tactic| walk_at "sq") => `(tactic| first
  | assumption | exact G.SqL.same (by assumption) (by walk_at "same") | exact L2.SqL.of (by walk_at "hp"))
local macro_rules | `(tactic| walk_at "at") => `(tactic| first
  | assumption | exact L2.atI_nat (by assumption) | exact G.at0 | exact G.at1 | exact G.at2 | exact G.at3 | exact G.at4)
local macro_rules | `(tactic| walk_at "ix") => `(tactic| first
  | assumption | exact G.ix0 | exact G.ix1 | exact G.ix2)
local macro_rules | `(tactic| walk_at "ar") => `(tactic| first | assumption | omega | decide)
local macro_rules | `(tactic| walk_at "one") => `(tactic| (with_reducible first
  | refine' G.w_seq ?_ | refine' G.w_asg ?_ | (refine' G.w_var ?g1 ?_; (case g1 => with_unfolding_all rfl)) | refine' G.w_c ?_ | refine' G.w_name ?_ | refine' G.w_op ?_
  | refine' G.w_oAdd ?_ | refine' G.w_oSub ?_ | (refine' G.w_oMulR ?g1 ?g2 ?_; (case g1 => walk_at "ar"); (case g2 => walk_at "ar")) | (refine' G.w_oMulL ?g1 ?g2 ?_; (case g1 => walk_at "ar"); (case g2 => walk_at "ar")) | (refine' G.w_oDiv ?g1 ?g2 ?_; (case g1 => walk_at "ar"); (case g2 => walk_at "ar")) | (refine' G.w_oMod ?g1 ?_; (case g1 => walk_at "ar")) | (refine' G.w_oPow ?g1 ?g2 ?g3 ?_; (case g1 => walk_at "ar"); (case g2 => walk_at "ar"); (case g3 => with_unfolding_all decide))
  | refine' G.w_oLt ?_ | refine' G.w_oLe ?_ | refine' G.w_oGt ?_ | refine' G.w_oGe ?_ | refine' G.w_un ?_ | refine' G.w_oNeg ?_ | refine' G.w_brk ?_ | refine' G.w_cont ?_ | refine' G.w_eqI ?_ | refine' G.w_neI ?_ | refine' G.w_eqB ?_
  | refine' G.w_cons ?_ | refine' G.w_nil ?_ | refine' G.w_ex ?_ | refine' G.w_exI ?_
  | refine' G.w_ret ?_ | refine' G.w_drop ?_ | refine' G.w_next ?_ | refine' G.w_retN ?_ | refine' G.w_if ?_ | refine' G.w_test ?_ | refine' G.w_tB ?_ | refine' G.w_ifE ?_
  | refine' G.w_iteT ?_ | refine' G.w_iteF ?_
  | refine' G.w_cb ?_ | refine' G.w_oInt ?_ | refine' G.w_oAbs ?_ | refine' G.w_oMax2 ?_ | refine' G.w_oMin2 ?_ | refine' G.w_call ?_ | refine' G.w_meth ?_ | refine' G.w_make ?_
  | refine' G.w_tup ?_ | refine' G.w_lst ?_ | (refine' G.w_small ?g1 ?_; (case g1 => with_unfolding_all exact Nat.le_of_ble_eq_true rfl))
  | (refine' G.w_ixL ?g1 ?g2 ?_; (case g1 => walk_at "sq"); (case g2 => with_unfolding_all walk_at "at"))
  | (refine' G.w_ixT ?g1 ?g2 ?_; (case g1 => walk_at "hp"); (case g2 => with_unfolding_all walk_at "at"))
  | (refine' G.w_lenL ?g1 ?_; (case g1 => walk_at "sq")) | (refine' G.w_listL ?g1 ?_; (case g1 => walk_at "sq")) | (refine' G.w_sum ?g1 ?_; (case g1 => walk_at "sq"))
  | refine' G.w_bm ?_ | refine' G.w_bm0 ?_ | (refine' G.w_tyL ?g1 ?_; (case g1 => walk_at "sq"))
  | (refine' G.w_append ?g1 ?g2 ?_; (case g1 => walk_at "hp"); (case g2 => walk_at "sz"))
  | refine' G.w_sub ?_ | (refine' G.w_setL ?g1 ?g2 ?_; (case g1 => walk_at "hp"); (case g2 => with_unfolding_all walk_at "ix"))
  | (refine' G.w_cat ?g1 ?g2 ?g3 ?_; (case g1 => walk_at "hp"); (case g2 => walk_at "hp"); (case g3 => walk_at "sz"))
  | refine' G.w_sl ?_ | refine' G.w_noPart ?_ | refine' G.w_part ?_ | (refine' G.w_slL ?g1 ?_; (case g1 => walk_at "sq"))
  | refine' G.w_gCons ?_ | refine' G.w_gNil ?_ | (refine' G.w_gTup ?g1 ?g2 ?_; (case g1 => walk_at "hp"); (case g2 => with_unfolding_all rfl))
  | refine' G.w_chain ?_ | refine' G.w_and ?_ | refine' G.w_or ?_ | refine' G.w_not ?_ | refine' G.w_andV ?_ | refine' G.w_orV ?_ | refine' G.w_notV ?_
  | refine' G.w_listRg ?_ | refine' G.w_rg1 ?_ | refine' G.w_augS ?_ | refine' G.w_ipI ?_
  | refine' G.w_fld ?_ | refine' G.w_sfld ?_ | refine' G.w_yes ?_ | refine' G.w_exA ?_ | refine' G.w_exA2 ?_ | refine' G.w_exR ?_ | refine' G.w_exRA ?_
  | (refine' G.w_acc ?g1 ?g2 ?_; (case g1 => walk_at "hp"); (case g2 => walk_at "sz"))
  | refine' G.w_forR1 ?_ | refine' G.w_forR2 ?_ | refine' G.w_forL ?_ | refine' G.w_forZ ?_ | refine' G.w_forE ?_ | refine' G.w_lcR1 ?_ | refine' G.w_lcL ?_
  | (refine' G.w_bd1 ?g1 ?g2 ?_; (case g1 => walk_at "ar"); (case g2 => walk_at "ar"))
  | (refine' G.w_bd2 ?g1 ?g2 ?g3 ?g4 ?_; (case g1 => walk_at "ar"); (case g2 => walk_at "ar"); (case g3 => walk_at "ar"); (case g4 => walk_at "ar"))
  | (refine' G.w_sqE ?g1 ?_; (case g1 => walk_at "sq"))
  | (refine' G.w_wipe ?g1 ?_; (case g1 => with_unfolding_all rfl)) | refine' G.w_lcT ?_ | refine' G.w_lcTif ?_
  | (refine' G.w_augName ?g1 ?_; (case g1 => with_unfolding_all rfl))
  | walk_at "call"))
local macro_rules | `(tactic| walk_at "sz") => `(tactic| first | assumption | exact L2.small1000 (by omega) | omega | exact L2.small1000 (by simp only [List.length_map, List.length_append, List.length_cons, List.length_nil, List.length_range, List.length_take, List.length_drop, List.length_set]; omega) | exact Nat.le_of_lt (L2.small1000 (by simp only [List.length_map, List.length_append, List.length_cons, List.length_nil, List.length_range, List.length_take, List.length_drop, List.length_set]; omega)))
local macro_rules | `(tactic| walk_at "go") => `(tactic| repeat walk_at "one")

/-! the mathematics of heights -/
namespace M
def ho (b n w : Int) : Int := if n = 0 then b + 1 else if n = 1 ∧ b ≥ w then 1 else 0
def lo (b n w : Int) : Int := if n ≥ 2 then 0 else if n = 1 then (if b ≥ w then 1 else 0) else b + 1
theorem lo_eq {b n w : Int} (h : 0 ≤ n) : lo b n w = ho b n w := by
  unfold lo ho
  by_cases h0 : n = 0
  · subst h0; simp
  · by_cases h1 : n = 1
    · subst h1; simp
    · rw [if_pos (by omega), if_neg h0, if_neg (by omega)]
/-- heights of the pages of a chain given from its end: hscan b of the reversed chain -/
def hscan (w : Int) : Int → List Int → List Int
  | _, [] => []
  | b, n :: r => ho b n w :: hscan w (ho b n w) r
/-- the height that stands after a reversed chain -/
def hlast (w : Int) : Int → List Int → Int
  | b, [] => b
  | b, n :: r => hlast w (ho b n w) r
theorem hscan_snoc (w b : Int) (xs : List Int) (n : Int) : hscan w b (xs ++ [n]) = hscan w b xs ++ [ho (hlast w b xs) n w] := by
  induction xs generalizing b with
  | nil => rfl
  | cons x r ih => simp [hscan, hlast, ih]
theorem hlast_snoc (w b : Int) (xs : List Int) (n : Int) : hlast w b (xs ++ [n]) = ho (hlast w b xs) n w := by
  induction xs generalizing b with
  | nil => rfl
  | cons x r ih => simp [hlast, ih]
theorem hscan_length (w b : Int) (xs : List Int) : (hscan w b xs).length = xs.length := by
  induction xs generalizing b with
  | nil => rfl
  | cons x r ih => simp [hscan, ih]
/-- the heights from the top, and the height of the first page -/
def hts (w : Int) (c : List Int) : List Int := (hscan w 0 c.reverse).reverse
def ht (w : Int) : List Int → Int
  | [] => 0
  | n :: r => ho (ht w r) n w
theorem ht_c (w n : Int) (r : List Int) : ht w (n :: r) = ho (ht w r) n w := rfl
theorem ho0 (b w : Int) : ho b 0 w = b + 1 := rfl
theorem hlast_rev (w : Int) (c : List Int) : hlast w 0 c.reverse = ht w c := by
  induction c with
  | nil => rfl
  | cons n r ih => rw [List.reverse_cons, hlast_snoc, ih]; rfl
theorem hts_cons (w n : Int) (r : List Int) : hts w (n :: r) = ht w (n :: r) :: hts w r := by
  unfold hts; rw [List.reverse_cons, hscan_snoc, List.reverse_append, hlast_rev]; rfl
theorem hts_nil (w : Int) : hts w [] = [] := rfl
theorem hts_length (w : Int) (c : List Int) : (hts w c).length = c.length := by unfold hts; simp [hscan_length]
theorem hts_get (w : Int) (c : List Int) (i : Nat) (h : i < c.length) : (hts w c)[i]? = some (ht w (c.drop i)) := by
  induction c generalizing i with
  | nil => simp at h
  | cons n r ih =>
    rw [hts_cons]
    cases i with
    | zero => rfl
    | succ i => simp at h; simpa using ih i h
/-- keepable: no height above w -/
def keep (w : Int) (c : List Int) : Bool := !(hts w c).any fun h => decide (h > w)
/-- the search of a stretch from a place on: fuel, the rest from the place -/
def seek (w : Nat) : Nat → List Int → Bool
  | 0, _ => false
  | _ + 1, [] => false
  | f + 1, n :: r => if n > 1 then false else if n = 0 then true else if (r.take (w - 1)).any (fun z => decide (z ≠ 0)) then false else seek w f (r.drop (w - 1))
/-- the law's search -/
def stretch (w : Nat) (c : List Int) : Bool :=
  (List.range (c.length - w)).any fun s => !((c.drop s).take w).any (fun z => decide (z ≠ 0)) && seek w c.length (c.drop (s + w))

theorem ht_nonneg (w : Int) (c : List Int) : 0 ≤ ht w c := by
  induction c with
  | nil => exact Int.le_refl 0
  | cons n r ih => unfold ht ho; split <;> (try split) <;> omega

theorem ht_zeros (w : Int) : ∀ (k : Nat) (r : List Int), (r.take k).any (fun z => decide (z ≠ 0)) = false → k ≤ r.length → ht w r = (k : Int) + ht w (r.drop k)
  | 0, r, _, _ => by simp
  | k + 1, [], _, h => by simp at h
  | k + 1, n :: r, ha, h => by
    simp only [List.take_succ_cons, List.any_cons, Bool.or_eq_false_iff, decide_eq_false_iff_not, Decidable.not_not] at ha
    obtain ⟨rfl, h2⟩ := ha
    have := ht_zeros w k r h2 (by simpa using h)
    simp only [List.drop_succ_cons]
    rw [ht_c, ho0, this]; omega
/-- a found stretch makes a height of at least 1 at its place (all entries at least 0) -/
theorem seek_ht (w : Nat) (hw : 1 ≤ w) : ∀ (f : Nat) (c : List Int), (∀ n ∈ c, 0 ≤ n) → seek w f c = true → 1 ≤ ht w c
  | 0, c, _, h => by simp [seek] at h
  | f + 1, [], _, h => by simp [seek] at h
  | f + 1, n :: r, h0, h => by
    have hn : 0 ≤ n := h0 n (by simp)
    unfold seek at h
    by_cases h1 : n > 1
    · rw [if_pos h1] at h; simp at h
    rw [if_neg h1] at h
    by_cases h2 : n = 0
    · subst h2
      have := ht_nonneg w r
      unfold ht ho; rw [if_pos rfl]; omega
    rw [if_neg h2] at h
    have h3 : n = 1 := by omega
    subst h3
    by_cases h4 : (r.take (w - 1)).any (fun z => decide (z ≠ 0)) = true
    · rw [if_pos h4] at h; simp at h
    rw [if_neg h4] at h
    have h4 : (r.take (w - 1)).any (fun z => decide (z ≠ 0)) = false := by simpa using h4
    have h5 := seek_ht w hw f (r.drop (w - 1)) (fun z hz => h0 z (List.mem_cons_of_mem _ (List.mem_of_mem_drop hz))) h
    have hl : w - 1 ≤ r.length := by
      by_cases hc : w - 1 ≤ r.length
      · exact hc
      · rw [List.drop_eq_nil_of_le (by omega)] at h
        cases f <;> simp [seek] at h
    have := ht_zeros w (w - 1) r h4 hl
    unfold ht ho
    rw [if_neg (by decide), if_pos ⟨rfl, by omega⟩]; omega
theorem keep_false {w : Nat} {c : List Int} (h : keep w c = false) : ∃ i, i < c.length ∧ ht w (c.drop i) > w := by
  unfold keep at h
  simp only [Bool.not_eq_false', List.any_eq_true, decide_eq_true_eq] at h
  obtain ⟨x, hx, hg⟩ := h
  obtain ⟨i, hi, e⟩ := List.getElem_of_mem hx
  have hl : i < c.length := by rw [hts_length] at hi; exact hi
  have := hts_get w c i hl
  rw [List.getElem?_eq_getElem hi, e] at this
  exact ⟨i, hl, by rw [← Option.some.inj this]; exact hg⟩
theorem keep_true {w : Nat} {c : List Int} (h : keep w c = true) : ∀ i, i < c.length → ht w (c.drop i) ≤ w := by
  intro i hi
  unfold keep at h
  simp only [Bool.not_eq_true', List.any_eq_false, decide_eq_true_eq] at h
  have := hts_get w c i hi
  have hm : ht w (c.drop i) ∈ hts w c := List.mem_of_getElem? this
  have := h _ hm
  omega
theorem keep_of {w : Nat} {c : List Int} (h : ∀ i, i < c.length → ht w (c.drop i) ≤ w) : keep w c = true := by
  cases hk : keep w c with
  | true => rfl
  | false => obtain ⟨i, hi, hg⟩ := keep_false hk; have := h i hi; omega
/-- the run of zeros that a height wants -/
theorem zeros_of (w : Int) : ∀ (k : Nat) (c : List Int), (k : Int) + 1 ≤ ht w c → (c.take k).any (fun z => decide (z ≠ 0)) = false ∧ k < c.length ∧ ht w (c.drop k) = ht w c - k
  | 0, [], h => by simp [ht] at h
  | 0, n :: r, h => by simp
  | k + 1, [], h => by simp [ht] at h; omega
  | k + 1, n :: r, h => by
    have e : n = 0 ∧ ht w (n :: r) = ht w r + 1 := by
      rw [ht_c] at h ⊢
      by_cases h0 : n = 0
      · exact ⟨h0, by rw [h0, ho0]⟩
      · unfold ho at h
        rw [if_neg h0] at h
        split at h <;> omega
    obtain ⟨rfl, e⟩ := e
    obtain ⟨h1, h2, h3⟩ := zeros_of w k r (by omega)
    refine ⟨by simpa using h1, by simp; omega, ?_⟩
    rw [List.drop_succ_cons, h3, e]; omega
/-- from a height 1 below which no height exceeds w the search finds -/
theorem seek_of (w : Nat) (hw : 1 ≤ w) : ∀ (f : Nat) (c : List Int), (∀ n ∈ c, 0 ≤ n) → c.length ≤ f → ht w c = 1 → (∀ i, 0 < i → i < c.length → ht w (c.drop i) ≤ w) → seek w f c = true
  | f, [], _, _, h, _ => by simp [ht] at h
  | 0, n :: r, _, hl, _, _ => by simp at hl
  | f + 1, n :: r, h0, hl, h, hk => by
    have hn : 0 ≤ n := h0 n (by simp)
    unfold seek
    by_cases h2 : n = 0
    · subst h2; simp
    by_cases h3 : n = 1
    · subst h3
      rw [if_neg (by decide), if_neg (by decide)]
      have hr : ht w r ≥ w := by
        unfold ht ho at h
        rw [if_neg (by decide)] at h
        by_cases hc : (1 : Int) = 1 ∧ ht w r ≥ w
        · exact hc.2
        · rw [if_neg hc] at h; omega
      have hr2 : ht w r ≤ w := by
        cases r with
        | nil => unfold ht; omega
        | cons x xs => simpa using hk 1 (by omega) (by simp)
      obtain ⟨z1, z2, z3⟩ := zeros_of w (w - 1) r (by omega)
      rw [z1]
      simp only [Bool.false_eq_true, if_false]
      refine seek_of w hw f (r.drop (w - 1)) (fun z hz => h0 z (List.mem_cons_of_mem _ (List.mem_of_mem_drop hz))) ?_ (by omega) ?_
      · simp at hl ⊢; omega
      · intro i hi hi2
        have := hk (1 + (w - 1) + i) (by omega) (by simp at hi2 ⊢; omega)
        have e : (1 :: r).drop (1 + (w - 1) + i) = (r.drop (w - 1)).drop i := by
          rw [List.drop_drop, show 1 + (w - 1) + i = (w - 1 + i) + 1 by omega, List.drop_succ_cons]
        rw [e] at this; exact this
    · exfalso
      unfold ht ho at h
      rw [if_neg h2, if_neg (by omega)] at h; omega
/-- the last place of a height above w -/
theorem last_high {w : Nat} {c : List Int} (h : keep w c = false) : ∃ i, i < c.length ∧ ht w (c.drop i) > w ∧ ∀ j, i < j → j < c.length → ht w (c.drop j) ≤ w := by
  obtain ⟨i, hi, hg⟩ := keep_false h
  obtain ⟨m, hm⟩ : ∃ m, m = c.length - i := ⟨_, rfl⟩
  induction m using Nat.strongRecOn generalizing i with
  | _ m ih =>
    by_cases hc : ∃ j, i < j ∧ j < c.length ∧ ht w (c.drop j) > w
    · obtain ⟨j, h1, h2, h3⟩ := hc
      exact ih (c.length - j) (by omega) j h2 h3 rfl
    · exact ⟨i, hi, hg, fun j h1 h2 => by
        by_cases hj : ht w (c.drop j) ≤ w
        · exact hj
        · exact absurd ⟨j, h1, h2, by omega⟩ hc⟩
theorem ht_drop_succ {w : Int} {c : List Int} {i : Nat} (h : i < c.length) : ht w (c.drop i) = ho (ht w (c.drop (i + 1))) c[i] w := by
  rw [List.drop_eq_getElem_cons h]; rfl
theorem stretch_keep (w : Nat) (hw : 1 ≤ w) (c : List Int) (h0 : ∀ n ∈ c, 0 ≤ n) : stretch w c = !keep w c := by
  cases hk : keep w c with
  | true =>
    simp only [Bool.not_true]
    unfold stretch
    rw [List.any_eq_false]
    intro s hs
    have hs : s < c.length - w := by simpa using hs
    simp only [Bool.and_eq_true, Bool.not_eq_true', not_and, Bool.not_eq_true]
    intro hz
    cases hf : seek w c.length (c.drop (s + w)) with
    | false => rfl
    | true =>
      exfalso
      have h1 := seek_ht w hw _ _ (fun z hz => h0 z (List.mem_of_mem_drop hz)) hf
      have h2 := ht_zeros w w (c.drop s) hz (by simp; omega)
      rw [List.drop_drop] at h2
      have h3 := keep_true hk s (by omega)
      omega
  | false =>
    simp only [Bool.not_false]
    obtain ⟨i, hi, hg, hl⟩ := last_high hk
    have hle : ht w (c.drop i) = w + 1 := by
      have h4 : ht w (c.drop (i + 1)) ≤ w := by
        by_cases hc : i + 1 < c.length
        · exact hl _ (by omega) hc
        · rw [List.drop_eq_nil_of_le (by omega)]; unfold ht; omega
      have := ht_drop_succ (w := w) hi
      rw [this] at hg ⊢
      unfold ho at hg ⊢
      split at hg
      · rename_i e; rw [if_pos e]; omega
      · split at hg <;> omega
    obtain ⟨z1, z2, z3⟩ := zeros_of w w (c.drop i) (by omega)
    rw [List.drop_drop] at z3
    have hlen : i + w < c.length := by simp at z2; omega
    unfold stretch
    rw [List.any_eq_true]
    refine ⟨i, by simp; omega, ?_⟩
    rw [z1]
    simp only [Bool.not_false, Bool.true_and]
    refine seek_of w hw _ _ (fun z hz => h0 z (List.mem_of_mem_drop hz)) (by simp) (by omega) ?_
    intro j hj hj2
    rw [List.drop_drop]
    exact hl _ (by omega) (by simp at hj2; omega)
end M
namespace M
theorem take_snoc {α : Type} (l : List α) (i : Nat) (h : i < l.length) : l.take i ++ [l[i]] = l.take (i + 1) := by
  induction l generalizing i with
  | nil => simp at h
  | cons x r ih =>
    cases i with
    | zero => simp
    | succ i => simp at h; simp [h]
end M

/-! the mathematics of the keeper of a chain -/
namespace M
def gt (c : List Int) (i : Nat) : Int := c.getD i 0
abbrev Ht (w : Int) (c : List Int) (i : Nat) : Int := ht w (c.drop i)
theorem Ht_rec {w : Int} {c : List Int} {i : Nat} (h : i < c.length) : Ht w c i = ho (Ht w c (i + 1)) (gt c i) w := by
  have e : gt c i = c[i] := by simp [gt, List.getD_eq_getElem?_getD, h]
  rw [e]; exact ht_drop_succ h
theorem Ht_out {w : Int} {c : List Int} {i : Nat} (h : c.length ≤ i) : Ht w c i = 0 := by
  show ht w (c.drop i) = 0
  rw [List.drop_eq_nil_of_le h]; rfl
theorem Ht_nn (w : Int) (c : List Int) (i : Nat) : 0 ≤ Ht w c i := ht_nonneg w _
theorem Ht_below {w : Int} {c e : List Int} {m : Nat} (hl : c.length = e.length) (h : ∀ i, m ≤ i → i < c.length → gt c i = gt e i) : ∀ i, m ≤ i → Ht w c i = Ht w e i := by
  intro i hi
  obtain ⟨k, hk⟩ : ∃ k, k = c.length - i := ⟨_, rfl⟩
  induction k generalizing i with
  | zero => rw [Ht_out (by omega), Ht_out (by omega)]
  | succ k ih =>
    rw [Ht_rec (c := c) (i := i) (by omega), Ht_rec (c := e) (i := i) (by omega), ih (i + 1) (by omega) (by omega), h i hi (by omega)]
theorem Ht_above {w : Int} {c e : List Int} {m : Nat} (hl : c.length = e.length) (hm : m ≤ c.length) (h : ∀ i, i < m → gt c i = gt e i) (h0 : Ht w e m = Ht w c m) : ∀ i, i ≤ m → Ht w e i = Ht w c i := by
  intro i hi
  obtain ⟨k, hk⟩ : ∃ k, k = m - i := ⟨_, rfl⟩
  induction k generalizing i with
  | zero => rw [show i = m by omega]; exact h0
  | succ k ih =>
    rw [Ht_rec (c := e) (i := i) (by omega), Ht_rec (c := c) (i := i) (by omega), ih (i + 1) (by omega) (by omega), h i (by omega)]
theorem ho_near {b b' n w : Int} (h : b' = b ∨ b' = b + 1) : ho b' n w = ho b n w ∨ ho b' n w = ho b n w + 1 := by
  unfold ho; rcases h with rfl | rfl
  · exact .inl rfl
  · split
    · exact .inr (by omega)
    · split <;> split <;> omega
theorem Ht_near {w : Int} {c e : List Int} {m : Nat} (hl : c.length = e.length) (hm : m ≤ c.length) (h : ∀ i, i < m → gt c i = gt e i) (h0 : Ht w e m = Ht w c m ∨ Ht w e m = Ht w c m + 1) :
    ∀ i, i ≤ m → Ht w e i = Ht w c i ∨ Ht w e i = Ht w c i + 1 := by
  intro i hi
  obtain ⟨k, hk⟩ : ∃ k, k = m - i := ⟨_, rfl⟩
  induction k generalizing i with
  | zero => rw [show i = m by omega]; exact h0
  | succ k ih =>
    rw [Ht_rec (c := e) (i := i) (by omega), Ht_rec (c := c) (i := i) (by omega), h i (by omega)]
    exact ho_near (ih (i + 1) (by omega) (by omega))
theorem Ht_zeros {w : Int} {c : List Int} {f x : Nat} (hx : x ≤ c.length) (hf : f ≤ x) (h : ∀ i, f ≤ i → i < x → gt c i = 0) : Ht w c f = ((x - f : Nat) : Int) + Ht w c x := by
  obtain ⟨k, hk⟩ : ∃ k, k = x - f := ⟨_, rfl⟩
  induction k generalizing f with
  | zero => rw [show f = x by omega]; omega
  | succ k ih =>
    rw [Ht_rec (by omega), h f (by omega) (by omega), ho0, ih (by omega) (fun i a b => h i (by omega) b) (by omega)]; omega
/-- the lowest page whose height is above w -/
def low (w : Int) (c : List Int) : Option Nat := ((List.range c.length).filter fun j => decide (ht w (c.drop j) > w)).getLast?
theorem low_some {w : Int} {c : List Int} {i : Nat} (h : low w c = some i) : i < c.length ∧ Ht w c i > w ∧ ∀ j, i < j → j < c.length → Ht w c j ≤ w := by
  unfold low at h
  have hm : i ∈ (List.range c.length).filter (fun j => decide (ht w (c.drop j) > w)) := List.mem_of_getLast? h
  rw [List.mem_filter] at hm
  refine ⟨by simpa using hm.1, by simpa using hm.2, fun j h1 h2 => ?_⟩
  by_cases hc : Ht w c j ≤ w
  · exact hc
  exfalso
  have hj : j ∈ (List.range c.length).filter (fun j => decide (ht w (c.drop j) > w)) := by
    rw [List.mem_filter]; exact ⟨by simpa using h2, by simpa using hc⟩
  have hp : ((List.range c.length).filter (fun j => decide (ht w (c.drop j) > w))).Pairwise (· < ·) := List.Pairwise.sublist List.filter_sublist List.pairwise_lt_range
  obtain ⟨ys, hy⟩ := List.getLast?_eq_some_iff.mp h
  rw [hy] at hp hj
  rcases List.mem_append.mp hj with q | q
  · have := (List.pairwise_append.mp hp).2.2 j q i (by simp)
    omega
  · rw [List.mem_singleton.mp q] at h1; omega
theorem low_none {w : Int} {c : List Int} (h : low w c = none) : ∀ j, j < c.length → Ht w c j ≤ w := fun j hj => by
  unfold low at h
  rw [List.getLast?_eq_none_iff, List.filter_eq_nil_iff] at h
  have := h j (by simpa using hj)
  simpa using this
theorem low_none_of {w : Int} {c : List Int} (h : ∀ j, j < c.length → Ht w c j ≤ w) : low w c = none := by
  unfold low
  rw [List.getLast?_eq_none_iff, List.filter_eq_nil_iff]
  intro j hj
  have := h j (by simpa using hj)
  simpa using this
/-- the pages after an update -/
def uses (p : Nat) (cop : List Nat) (i : Nat) : Int := if i ∈ cop then 0 else (if i = p then 1 else 0) + (if i + 1 ∈ cop then 1 else 0)
def aft (c : List Int) (K : Int) (p : Nat) (cop : List Nat) : List Int := (List.range c.length).map fun i => if i ∈ cop then K else gt c i - uses p cop i
theorem aft_length (c : List Int) (K : Int) (p : Nat) (cop : List Nat) : (aft c K p cop).length = c.length := by simp [aft]
theorem aft_get {c : List Int} {K : Int} {p : Nat} {cop : List Nat} {i : Nat} (h : i < c.length) : gt (aft c K p cop) i = if i ∈ cop then K else gt c i - uses p cop i := by
  simp [gt, aft, List.getD_eq_getElem?_getD, h]
/-- the first of the pages without a line directly above x -/
def runF (d : List Int) : Nat → Nat
  | 0 => 0
  | x + 1 => if gt d x = 0 then runF d x else x + 1
theorem runF_spec (d : List Int) : ∀ x, runF d x ≤ x ∧ (∀ i, runF d x ≤ i → i < x → gt d i = 0) ∧ (runF d x = 0 ∨ gt d (runF d x - 1) ≠ 0)
  | 0 => ⟨Nat.le_refl _, fun i _ h => by omega, .inl rfl⟩
  | x + 1 => by
    obtain ⟨h1, h2, h3⟩ := runF_spec d x
    unfold runF
    by_cases h : gt d x = 0
    · rw [if_pos h]
      refine ⟨by omega, fun i a b => ?_, h3⟩
      by_cases hx : i = x
      · rw [hx]; exact h
      · exact h2 i a (by omega)
    · rw [if_neg h]
      exact ⟨Nat.le_refl _, fun i a b => by omega, .inr (by simpa using h)⟩
def runL (d : List Int) (x : Nat) : List Nat := List.range' (runF d x) (x + 1 - runF d x)
theorem mem_runL {d : List Int} {x i : Nat} : i ∈ runL d x ↔ runF d x ≤ i ∧ i ≤ x := by
  unfold runL
  have := (runF_spec d x).1
  rw [List.mem_range'_1]; omega
theorem runL_length (d : List Int) (x : Nat) : (runL d x).length = x + 1 - runF d x := by simp [runL]
/-- the chain after the update of p without copies -/
def plain (c : List Int) (p : Nat) : List Int := if gt c p = 0 then c else c.set p (gt c p - 1)
theorem plain_length (c : List Int) (p : Nat) : (plain c p).length = c.length := by unfold plain; split <;> simp
theorem plain_ne {c : List Int} {p i : Nat} (h : i ≠ p) : gt (plain c p) i = gt c i := by
  unfold plain; split
  · rfl
  · simp [gt, List.getD_eq_getElem?_getD, List.getElem?_set, Ne.symm h]
theorem plain_at {c : List Int} {p : Nat} (h : p < c.length) : gt (plain c p) p = if gt c p = 0 then 0 else gt c p - 1 := by
  unfold plain; split
  · assumption
  · simp [gt, List.getD_eq_getElem?_getD, List.getElem?_set, h]
/-- the page x of the first rule -/
def xOf (w : Int) (c : List Int) (p : Nat) : Option Nat := if gt c p = 0 then some p else low w (plain c p)
def cop1 (w : Int) (c : List Int) (p : Nat) : List Nat := match xOf w c p with
  | none => []
  | some x => runL (plain c p) x
def ans (w K : Int) (c : List Int) (p : Nat) : List Nat := match low w (aft c K p (cop1 w c p)) with
  | none => cop1 w c p
  | some l => l :: cop1 w c p
/-- what the first rule's page has -/
theorem xOf_spec {w : Int} {c : List Int} {p x : Nat} (hw : 1 ≤ w) (h0 : ∀ i, 0 ≤ gt c i) (hk : ∀ j, j < c.length → Ht w c j ≤ w) (hp : p < c.length) (h : xOf w c p = some x) :
    x ≤ p ∧ (∀ i, i < x → gt (plain c p) i = gt c i) ∧ gt (plain c p) x = 0 ∧ 1 ≤ Ht w c x ∧ (∀ j, x < j → j < c.length → Ht w (plain c p) j ≤ w) ∧ (x = p ∨ gt c p ≠ 0) := by
  unfold xOf at h
  by_cases hc : gt c p = 0
  · rw [if_pos hc] at h
    obtain rfl := Option.some.inj h
    have e : plain c p = c := by unfold plain; rw [if_pos hc]
    rw [e]
    refine ⟨Nat.le_refl _, fun _ _ => rfl, hc, ?_, fun j _ hj => hk j hj, .inl rfl⟩
    rw [Ht_rec hp, hc, ho0]
    have := Ht_nn w c (p + 1); omega
  · rw [if_neg hc] at h
    obtain ⟨h1, h2, h3⟩ := low_some h
    rw [plain_length] at h1 h3
    have below : ∀ j, p < j → Ht w (plain c p) j = Ht w c j := fun j hj => (Ht_below (m := p + 1) (plain_length c p) (fun i a _ => plain_ne (by omega)) j hj)
    have hxp : x ≤ p := by
      by_cases hq : x ≤ p
      · exact hq
      · have := hk x h1; rw [below x (by omega)] at h2; omega
    have hx0 : gt (plain c p) x = 0 := by
      by_cases hq : gt (plain c p) x = 0
      · exact hq
      · rw [Ht_rec (by rw [plain_length]; exact h1)] at h2
        unfold ho at h2; rw [if_neg hq] at h2
        split at h2 <;> omega
    refine ⟨hxp, fun i hi => plain_ne (by omega), hx0, ?_, h3, .inr hc⟩
    by_cases hxe : x = p
    · subst hxe
      rw [plain_at hp, if_neg hc] at hx0
      have e1 : gt c x = 1 := by omega
      rw [Ht_rec (by rw [plain_length]; exact h1), plain_at hp, if_neg hc, e1, below (x + 1) (by omega)] at h2
      rw [show (1 : Int) - 1 = 0 by omega, ho0] at h2
      rw [Ht_rec hp, e1]
      unfold ho; rw [if_neg (by decide), if_pos ⟨rfl, by omega⟩]; omega
    · rw [plain_ne hxe] at hx0
      rw [Ht_rec h1, hx0, ho0]
      have := Ht_nn w c (x + 1); omega
structure Good (w K : Int) (c : List Int) (p : Nat) (cop : List Nat) : Prop where
  asc : cop.Pairwise (· < ·)
  lt : ∀ i ∈ cop, i < c.length
  len : (cop.length : Int) ≤ w
  legal : ∀ i, i < c.length → uses p cop i ≤ gt c i
  keep : ∀ j, j < c.length → Ht w (aft c K p cop) j ≤ w
theorem ho_big {b n w : Int} (h : 2 ≤ n) : ho b n w = 0 := by unfold ho; rw [if_neg (by omega), if_neg (by omega)]
theorem keeper {w K : Int} {c : List Int} {p : Nat} (hw : 1 ≤ w) (hK : 2 ≤ K) (h0 : ∀ i, 0 ≤ gt c i) (hk : ∀ j, j < c.length → Ht w c j ≤ w) (hp : p < c.length) :
    Good w K c p (ans w K c p) ∧ (∀ l, low w (aft c K p (cop1 w c p)) = some l → ∀ i ∈ cop1 w c p, l < i) ∧ (ans w K c p = [] ↔ gt c p ≠ 0 ∧ low w (plain c p) = none) ∧ (cop1 w c p).Pairwise (· < ·) ∧ (∀ i ∈ cop1 w c p, i < c.length) ∧ (∀ i, i < c.length → uses p (cop1 w c p) i ≤ gt c i) := by
  cases hx : xOf w c p with
  | none =>
    have hc : gt c p ≠ 0 := fun e => by unfold xOf at hx; rw [if_pos e] at hx; cases hx
    have hlow : low w (plain c p) = none := by unfold xOf at hx; rwa [if_neg hc] at hx
    have e1 : cop1 w c p = [] := by unfold cop1; rw [hx]
    have e2 : ∀ j, j < c.length → Ht w (aft c K p []) j ≤ w := fun j hj => by
      rw [Ht_below (e := plain c p) (m := 0) (by rw [aft_length, plain_length]) (fun i _ hi => ?_) j (by omega)]
      · exact low_none hlow j (by rw [plain_length]; exact hj)
      · rw [aft_length] at hi
        rw [aft_get hi]
        by_cases hip : i = p
        · subst hip; rw [plain_at hp, if_neg hc]; simp [uses]
        · rw [plain_ne hip]; simp [uses, hip]
    have e3 : low w (aft c K p []) = none := low_none_of fun j hj => e2 j (by rw [aft_length] at hj; exact hj)
    have e4 : ans w K c p = [] := by unfold ans; rw [e1, e3]
    have e5 : ∀ i, i < c.length → uses p [] i ≤ gt c i := fun i hi => by
      have := h0 i
      by_cases hip : i = p
      · subst hip; simp [uses]; omega
      · simp [uses, hip]; exact this
    rw [e4, e1]
    exact ⟨⟨.nil, (fun _ h => by cases h), by simp; omega, e5, e2⟩, (fun l h => by rw [e3] at h; cases h), ⟨fun _ => ⟨hc, hlow⟩, fun _ => rfl⟩, .nil, (fun _ h => by cases h), e5⟩
  | some x =>
    obtain ⟨hxp, hpl, hx0, hx1, hbel, hor⟩ := xOf_spec hw h0 hk hp hx
    obtain ⟨r1, r2, r3⟩ := runF_spec (plain c p) x
    have e1 : cop1 w c p = runL (plain c p) x := by unfold cop1; rw [hx]
    have m1 : ∀ i, i ∈ cop1 w c p ↔ runF (plain c p) x ≤ i ∧ i ≤ x := fun i => by rw [e1]; exact mem_runL
    have len1 : (cop1 w c p).length = x + 1 - runF (plain c p) x := by rw [e1, runL_length]
    have asc1 : (cop1 w c p).Pairwise (· < ·) := by rw [e1]; exact List.pairwise_lt_range'
    have ne0 : cop1 w c p ≠ [] := fun e => by rw [e] at len1; simp at len1; omega
    generalize hf : runF (plain c p) x = f at *
    have hcf : Ht w c f = ((x - f : Nat) : Int) + Ht w c x := Ht_zeros (by omega) r1 fun i a b => by rw [← hpl i (by omega)]; exact r2 i a b
    have hfw := hk f (by omega)
    have u1 : ∀ i, i < c.length → uses p (cop1 w c p) i = if f ≤ i ∧ i ≤ x then 0 else (if i = p then 1 else 0) + (if i + 1 = f then 1 else 0) := fun i hi => by
      unfold uses
      by_cases hm : f ≤ i ∧ i ≤ x
      · rw [if_pos ((m1 i).mpr hm), if_pos hm]
      · rw [if_neg (fun e => hm ((m1 i).mp e)), if_neg hm]
        by_cases hm2 : i + 1 = f
        · rw [if_pos hm2, if_pos ((m1 _).mpr (by omega))]
        · have hx2 : ¬ (i + 1 ∈ cop1 w c p) := fun e => by
            have := (m1 _).mp e; omega
          rw [if_neg hm2, if_neg hx2]
    have fpos : 0 < f → 1 ≤ gt c (f - 1) := fun h => by
      rcases r3 with e | e
      · omega
      · rw [hpl (f - 1) (by omega)] at e
        have := h0 (f - 1); omega
    have g1 : ∀ i, i < c.length → gt (aft c K p (cop1 w c p)) i = if f ≤ i ∧ i ≤ x then K else gt c i - ((if i = p then 1 else 0) + (if i + 1 = f then 1 else 0)) := fun i hi => by
      rw [aft_get hi, u1 i hi]
      by_cases hm : f ≤ i ∧ i ≤ x
      · rw [if_pos ((m1 i).mpr hm), if_pos hm]
      · rw [if_neg (fun e => hm ((m1 i).mp e)), if_neg hm, if_neg hm]
    have leg1 : ∀ i, i < c.length → uses p (cop1 w c p) i ≤ gt c i := fun i hi => by
      rw [u1 i hi]
      have hi0 := h0 i
      split
      · exact hi0
      · rename_i hm
        by_cases hip : i = p
        · subst hip
          rcases hor with e | e
          · omega
          · rw [if_pos rfl, if_neg (by omega)]; omega
        · rw [if_neg hip]
          split
          · rename_i e; have := fpos (by omega); rw [show f - 1 = i by omega] at this; omega
          · omega
    generalize hE : aft c K p (cop1 w c p) = e at *
    have le : e.length = c.length := by rw [← hE, aft_length]
    -- heights of e
    have hb : ∀ j, x < j → j < c.length → Ht w e j ≤ w := fun j hj hj2 => by
      rw [Ht_below (e := plain c p) (m := x + 1) (by rw [le, plain_length]) (fun i a b => ?_) j hj]
      · exact hbel j hj hj2
      · rw [le] at b
        rw [g1 i b, if_neg (by omega), if_neg (show ¬ (i + 1 = f) by omega)]
        by_cases hip : i = p
        · subst hip
          rw [plain_at hp]
          rcases hor with q | q
          · omega
          · rw [if_neg q, if_pos rfl]; omega
        · rw [plain_ne hip, if_neg hip]; omega
    have hm : ∀ j, f ≤ j → j ≤ x → Ht w e j = 0 := fun j a b => by
      rw [Ht_rec (by omega), g1 j (by omega), if_pos ⟨a, b⟩]; exact ho_big hK
    have hf1 : 0 < f → Ht w e (f - 1) = (if gt c (f - 1) = 1 then 1 else 0) ∧ Ht w c (f - 1) = (if gt c (f - 1) = 1 then (if Ht w c f ≥ w then 1 else 0) else 0) := fun h => by
      have hg := fpos h
      constructor
      · rw [Ht_rec (by omega), g1 (f - 1) (by omega), if_neg (by omega), if_neg (show ¬ (f - 1 = p) by omega), if_pos (by omega), show f - 1 + 1 = f by omega, hm f (Nat.le_refl _) r1]
        unfold ho
        split
        · rename_i q; rw [if_pos (by omega)]; omega
        · rename_i q; rw [if_neg (by omega), if_neg (by omega)]
      · rw [Ht_rec (by omega), show f - 1 + 1 = f by omega]
        unfold ho
        rw [if_neg (by omega)]
        by_cases q : gt c (f - 1) = 1
        · rw [if_pos q]; by_cases q2 : Ht w c f ≥ w
          · rw [if_pos ⟨q, q2⟩, if_pos q2]
          · rw [if_neg (fun z => q2 z.2), if_neg q2]
        · rw [if_neg (fun z => q z.1), if_neg q]
    have sameUp : ∀ i, i < f - 1 → gt c i = gt e i := fun i hi => by
      rw [g1 i (by omega), if_neg (by omega), if_neg (show ¬ (i = p) by omega), if_neg (by omega)]; omega
    have ans_ne : ans w K c p ≠ [] := by
      unfold ans; rw [hE]; split
      · exact ne0
      · exact List.cons_ne_nil _ _
    have hquiet : ans w K c p = [] ↔ gt c p ≠ 0 ∧ low w (plain c p) = none := ⟨fun h => absurd h ans_ne, fun ⟨a, b⟩ => by unfold xOf at hx; rw [if_neg a, b] at hx; cases hx⟩
    have ltc : ∀ i ∈ cop1 w c p, i < c.length := fun i hi => by have := (m1 i).mp hi; omega
    cases hl : low w e with
    | none =>
      have ea : ans w K c p = cop1 w c p := by unfold ans; rw [hE, hl]
      refine ⟨?_, (fun l h => by first | (rw [hE, hl] at h; cases h) | (rw [hl] at h; cases h) | cases h), hquiet, asc1, ltc, leg1⟩
      rw [ea]
      refine ⟨asc1, ltc, by rw [len1]; omega, leg1, fun j hj => ?_⟩
      rw [hE]; exact low_none hl j (by rw [le]; exact hj)
    | some l =>
      obtain ⟨l1, l2, l3⟩ := low_some hl
      rw [le] at l1 l3
      have hlf : l < f - 1 ∧ 0 < f := by
        have h1 : l < f := by
          by_cases q : l < f
          · exact q
          · by_cases q2 : l ≤ x
            · rw [hm l (by omega) q2] at l2; omega
            · have := hb l (by omega) l1; omega
        refine ⟨?_, by omega⟩
        by_cases q : l < f - 1
        · exact q
        · rw [show l = f - 1 by omega, (hf1 (by omega)).1] at l2
          split at l2 <;> omega
      obtain ⟨a1, a2⟩ := hf1 hlf.2
      have near := Ht_near (w := w) (e := e) (m := f - 1) le.symm (by omega) sameUp (by
        rw [a1, a2]; split
        · split <;> simp
        · exact .inl rfl)
      have hcl : Ht w c l = w ∧ Ht w e l = w + 1 := by
        have q1 := near l (by omega)
        have q2 := hk l l1
        omega
      have hcfw : Ht w c f < w := by
        by_cases q : Ht w c f < w
        · exact q
        · have := Ht_above (w := w) (e := e) (m := f - 1) le.symm (by omega) sameUp (by rw [a1, a2, if_pos (show Ht w c f ≥ w by omega)]) l (by omega)
          omega
      have hup : 0 < l → 1 ≤ gt c (l - 1) := fun q => by
        have q0 := h0 (l - 1)
        by_cases z : gt c (l - 1) = 0
        · have q1 := hk (l - 1) (by omega)
          rw [Ht_rec (by omega), z, ho0, show l - 1 + 1 = l by omega] at q1
          omega
        · omega
      have ea : ans w K c p = l :: cop1 w c p := by unfold ans; rw [hE, hl]
      have lall : ∀ i ∈ cop1 w c p, l < i := fun i hi => by have := (m1 i).mp hi; omega
      refine ⟨?_, (fun l' h => by
        first | (rw [hE, hl] at h) | (rw [hl] at h) | skip
        obtain rfl := Option.some.inj h; exact lall), hquiet, asc1, ltc, leg1⟩
      have m2 : ∀ i, i ∈ l :: cop1 w c p ↔ i = l ∨ (f ≤ i ∧ i ≤ x) := fun i => by rw [List.mem_cons, m1 i]
      have u2 : ∀ i, i < c.length → uses p (l :: cop1 w c p) i = if i = l ∨ (f ≤ i ∧ i ≤ x) then 0 else (if i = p then 1 else 0) + (if i + 1 = f ∨ i + 1 = l then 1 else 0) := fun i hi => by
        unfold uses
        by_cases hm : i = l ∨ (f ≤ i ∧ i ≤ x)
        · rw [if_pos ((m2 i).mpr hm), if_pos hm]
        · rw [if_neg (fun e => hm ((m2 i).mp e)), if_neg hm]
          by_cases hm2 : i + 1 = f ∨ i + 1 = l
          · rw [if_pos hm2, if_pos ((m2 _).mpr (by omega))]
          · have hx2 : ¬ (i + 1 ∈ l :: cop1 w c p) := fun e => by
              have := (m2 _).mp e; omega
            rw [if_neg hm2, if_neg hx2]
      have g2 : ∀ i, i < c.length → gt (aft c K p (l :: cop1 w c p)) i = if i = l ∨ (f ≤ i ∧ i ≤ x) then K else gt c i - ((if i = p then 1 else 0) + (if i + 1 = f ∨ i + 1 = l then 1 else 0)) := fun i hi => by
        rw [aft_get hi, u2 i hi]
        by_cases hm : i = l ∨ (f ≤ i ∧ i ≤ x)
        · rw [if_pos ((m2 i).mpr hm), if_pos hm]
        · rw [if_neg (fun e => hm ((m2 i).mp e)), if_neg hm, if_neg hm]
      rw [ea]
      refine ⟨List.pairwise_cons.mpr ⟨lall, asc1⟩, fun i hi => ?_, by rw [List.length_cons, len1]; omega, fun i hi => ?_, fun j hj => ?_⟩
      · rcases (m2 i).mp hi with rfl | h
        · exact l1
        · omega
      · rw [u2 i hi]
        have hi0 := h0 i
        split
        · exact hi0
        · rename_i hm
          have q1 := leg1 i hi
          rw [u1 i hi, if_neg (by omega)] at q1
          by_cases q : i + 1 = l
          · have := hup (by omega)
            rw [show l - 1 = i by omega] at this
            rw [if_neg (show ¬ (i = p) by omega), if_pos (.inr q)]; omega
          · by_cases q2 : i + 1 = f
            · rw [if_pos q2] at q1; rw [if_pos (show i + 1 = f ∨ i + 1 = l from .inl q2)]; exact q1
            · rw [if_neg q2] at q1; rw [if_neg (show ¬ (i + 1 = f ∨ i + 1 = l) by omega)]; exact q1
      · have le2 : (aft c K p (l :: cop1 w c p)).length = c.length := aft_length ..
        generalize aft c K p (l :: cop1 w c p) = e2 at g2 le2
        have b2 : ∀ j, l < j → Ht w e2 j = Ht w e j := fun j q => Ht_below (m := l + 1) (by omega) (fun i a b => by
          rw [g1 i (by omega), g2 i (by omega)]
          by_cases hm : f ≤ i ∧ i ≤ x
          · rw [if_pos hm, if_pos (.inr hm)]
          · rw [if_neg hm, if_neg (by omega)]
            by_cases q : i + 1 = f
            · rw [if_pos q, if_pos (show i + 1 = f ∨ i + 1 = l from .inl q)]
            · rw [if_neg q, if_neg (show ¬ (i + 1 = f ∨ i + 1 = l) by omega)]) j q
        have hl0 : Ht w e2 l = 0 := by
          rw [Ht_rec (by omega), g2 l l1, if_pos (.inl rfl)]; exact ho_big hK
        by_cases q : l < j
        · rw [b2 j q]; exact l3 j q hj
        by_cases q2 : j = l
        · rw [q2, hl0]; omega
        have hlp : 0 < l := by omega
        have hg := hup hlp
        have top : Ht w e2 (l - 1) = Ht w c (l - 1) := by
          rw [Ht_rec (by omega), g2 (l - 1) (by omega), if_neg (by omega), if_neg (show ¬ (l - 1 = p) by omega), if_pos (by omega), show l - 1 + 1 = l by omega, hl0]
          rw [Ht_rec (i := l - 1) (by omega), show l - 1 + 1 = l by omega, hcl.1]
          unfold ho
          by_cases z : gt c (l - 1) = 1
          · rw [z, if_pos (by omega), if_neg (by omega), if_pos (by omega)]; omega
          · rw [if_neg (by omega), if_neg (by omega), if_neg (by omega), if_neg (by omega)]
        rw [Ht_above (w := w) (c := c) (m := l - 1) (by omega) (by omega) (fun i hi => by
          rw [g2 i (by omega), if_neg (by omega), if_neg (show ¬ (i = p) by omega), if_neg (by omega)]; omega) top j (by omega)]
        exact hk j hj
end M

/-! ### calls of methods and of makers that may raise, within a try: what is wanted of the error may speak of the slots -/
namespace GX
open PySem PySem.Spec PyProof.Rows L2
section
variable {X : Cx} {CX : CXT} {k : Nat} {f C : Addr} {fd : FuncData} {ps : List Str} {sp : Sp} {E : L2.St → XK} {x m : Str} {p pos apos : Pos} {e o : Expr} {es : List Expr} {ta : TE} {t : TA}
def tMethS (C : Addr) (m : Str) (sp : Sp) (E : L2.St → XK) (ta : TE) (t : TA) : TE := fun σ H Q => ta σ H fun x H1 => ∃ a dx fs, x = .ref a ∧ H1 a = some (.ins C dx fs) ∧ fs.lookup m = none ∧
  t σ H1 fun vs H2 => sp (x :: vs) H2 Q (E σ)
def tMakeS (C : Addr) (sp : Sp) (E : L2.St → XK) (t : TA) : TE := fun σ H Q => t σ H fun vs H1 => ∀ x dx, H1 x = none → H1 dx = none → dx ≠ x →
  sp (.ref x :: vs) (upd (upd H1 dx (.own x)) x (.ins C dx [])) (fun v H2 => v = .non ∧ Q (.ref x) H2) (E σ)
theorem pe_methS {pl : Sem Bool} (he : PE X o ta) (c : Cls X.K C) (hm : Meth X.K C m f) (F : FnOk X.prog X.w X.K X.mg X.base CX k f fd ps sp) (hr : Room k X.A) (hb : Binds X.K fd ps []) (hx : ∀ σ, PassesAt CX X σ (E σ)) (ha : PA X (e :: es) t)
    (hst : starEach (e :: es) X.env = (false, eval e X.env) :: starEach es X.env := by rfl) (hpl : (backTo pos (starEach es X.env)).any (·.1) = false := by rfl)
    (ht : eval (.Call (.Attribute o m apos) (e :: es) [] pos) X.env = (do
      let ov ← eval o X.env
      standAt apos.atName
      let (f, first) ← holding [ov] (getMethod ov m pl)
      callWith pos f first (backTo pos (starEach (e :: es) X.env)) (backToKw pos (keywordEach [] X.env))) := by rfl) :
    PE X (.Call (.Attribute o m apos) (e :: es) [] pos) (tMethS C m sp E ta t) := by
  refine ⟨fun pins s σ H Q I h => ?_⟩
  refine PySem.W.methodCall_KW (pl := pl) (thn (he.run pins s σ H _ I h) fun u s1 ⟨x, H1, I1, rx, a, dx, fs, ex, ea, l, q⟩ => ?_) ht
  subst ex
  obtain rfl : u = Value.ref a := rx
  refine getmeth_ok I1 ea c hm l ?_
  refine PySem.W.callWith_K (first := [.ref a]) (h₀ := X.base) I.ok.mod.kin hm.kp (thn (ha.run pos pins s1 σ H1 _ I1 q) fun us s2 ⟨vs, H2, I2, r, q2⟩ => ⟨I2.kIn, ?_⟩) hst hpl
  exact run_fnS (us := .ref a :: us) (vs := .ref a :: vs) F hr hb (hx σ) I2 (.cons rfl r) q2
theorem run_makeS {pins : List (Addr × Obj)} {σ : L2.St} {H : Hp} {s : Shared} {Q : VK} {us : List Value} {vs : List V} (M : Mk X.K C f) (F : FnOk X.prog X.w X.K X.mg X.base CX k f fd ps sp) (hr : Room (k + 1) X.A) (hb : Binds X.K fd ps [])
    (hx : PassesAt CX X σ (E σ)) (I : Inv X pins σ H s) (r : Vals vs us)
    (h : ∀ x dx, H x = none → H dx = none → dx ≠ x → sp (.ref x :: vs) (upd (upd H dx (.own x)) x (.ins C dx [])) (fun v H2 => v = .non ∧ Q (.ref x) H2) (E σ)) :
    wpAny (model X.prog X.w) X.A (call (.ref C) us) (EP X pins σ Q) X.xe s := by
  have hq := h (s.heap.objs.size + 1) s.heap.objs.size (I.hok.fresh (Nat.le_succ _)) (I.hok.fresh (Nat.le_refl _)) (Nat.ne_of_lt (Nat.lt_succ_self _))
  have I2 := Inv.made (C := C) I
  have r2 : Vals (V.ref (s.heap.objs.size + 1) :: vs) (Value.ref (s.heap.objs.size + 1) :: us) := .cons rfl r
  have hl : (Value.ref (s.heap.objs.size + 1) :: us ++ []).length = ps.length := by
    have e := r2.length
    rw [F.len _ _ _ _ hq] at e
    rw [List.append_nil]
    exact e.symm
  have b := hb _ (Value.ref (s.heap.objs.size + 1) :: us) I2.kIn hl
  rw [List.append_nil] at b
  refine wpAny_call (make_map (f := f) I.kIn M.makes M.init (beq_iff_eq.mp M.fn) (codeAny_mono (F.run _ X.stack _ _ ⟨Value.ref (s.heap.objs.size + 1) :: us, []⟩ (Value.ref (s.heap.objs.size + 1) :: us) _ _ (E σ) (hr.make C us [])
    (I2.env0.make C us []) b r2 hq) fun r s' hq' => ?_))
  cases r with
  | error e => exact hx pins _ _ e s' I2 hq'
  | ok fl =>
    cases fl with
    | ret u =>
      obtain ⟨v, H', I3, rv, ev, q3⟩ := I2.after hq'
      subst ev
      exact ⟨rv, ⟨V.ref (s.heap.objs.size + 1), H', I3, rfl, q3⟩⟩
    | next => exact False.elim hq'
    | brk => exact False.elim hq'
    | cont => exact False.elim hq'
theorem pe_makeS (M : Mk X.K C f) (F : FnOk X.prog X.w X.K X.mg X.base CX k f fd ps sp) (hr : Room (k + 1) X.A) (hg : Gl X x) (hm : X.mg x = some (.ref C)) (hb : Binds X.K fd ps []) (hx : ∀ σ, PassesAt CX X σ (E σ))
    (ha : PA X (e :: es) t) (hdb : (x == ("__debug__" : Str)) = false := by decide) (he : starEach (e :: es) X.env = (false, eval e X.env) :: starEach es X.env := by rfl) (hpl : (backTo pos (starEach es X.env)).any (·.1) = false := by rfl) :
    PE X (.Call (.Name x p) (e :: es) [] pos) (tMakeS C sp E t) := by
  refine ⟨fun pins s σ H Q I h => ?_⟩
  refine wpAny_Call_Name_kw (ld_glob I hg hm ?_ hdb)
  refine PySem.W.callWith_K (h₀ := X.base) I.ok.mod.kin M.kp (thn (ha.run pos pins s σ H _ I h) fun us s1 ⟨vs, H1, I1, r, q⟩ => ⟨I1.kIn, ?_⟩) he hpl
  exact run_makeS M F hr hb (hx σ) I1 r q
end
end GX
/-! ### isinstance of a caught error that has a dict of its own -/
namespace GX
open PySem PySem.Spec PyProof.Rows L2
def rIsX (K : PySem.W.Frag) (a : Addr) (cls : Value) (d : Option Addr) : List V → Hp → VK → Prop := fun xs H Q => ∃ (c : V) (u : Value) (b : Bool) (D dd : Addr) (fs : List (Str × V)),
  xs = [.ref a, c] ∧ ClsV c u ∧ cls = .ref D ∧ d = some dd ∧ ExcC K D ∧ H dd = some (.xd fs) ∧ PySem.W.kitOne K (.ref D) u = some b ∧ Q (.bl b) H
def rIsXT (K : PySem.W.Frag) (a : Addr) (cls : Value) (d : Option Addr) : List V → Hp → VK → Prop := fun xs H Q => ∃ (tp : Addr) (cs : List V) (us : List Value) (b : Bool) (D dd : Addr) (fs : List (Str × V)),
  xs = [.ref a, .ref tp] ∧ H tp = some (.tup cs) ∧ Paired ClsV cs us ∧ cls = .ref D ∧ d = some dd ∧ ExcC K D ∧ H dd = some (.xd fs) ∧ PySem.W.kitAny K (.ref D) us = some b ∧ Q (.bl b) H
section
variable {X : Cx} {a : Addr} {oe : Obj} {cls : Value} {d : Option Addr} {pn : List (Addr × Obj)}
theorem kit_here {K : PySem.W.Frag} {D : Addr} {x : Addr} {o : Obj} {od : Option Obj} (C : ExcC K D) : PySem.W.KitX K (.ref x) (.ref D) (fun h => PySem.W.InstAt h x o D od) := by
  have hc : (PySem.W.clsIn K D).isSome = true := by
    obtain ⟨cd, e, _⟩ := PySem.W.any_some C.hd
    rw [e]; rfl
  exact PySem.W.kitx_exc hc C.hg C.hk C.hs C.ha C.hn C.ht C.hm
theorem inst_here {pins : List (Addr × Obj)} {σ : L2.St} {H : Hp} {s : Shared} {D dd : Addr} {fs : List (Str × V)} (I : Inv (X.suite a ((a, oe) :: pn)) pins σ H s) (hz : Zc (.ref D) (some dd) oe) (hf : ∃ vs, oe.data = .fields vs) (hd : H dd = some (.xd fs)) :
    ∃ od, PySem.W.InstAt s.heap a oe D (some od) := by
  obtain ⟨hget, _⟩ := I.pin (a, oe) (List.mem_append_left _ List.mem_cons_self)
  obtain ⟨vs, hv⟩ := hf
  have ho : ObjOk X.prog X.w H s.heap dd (.xd fs) := I.hok dd _ hd
  obtain ⟨mA, hns, _⟩ := ho
  obtain ⟨od, e, _⟩ := lookIn_ns hns
  exact ⟨od, hget, hz.1, by unfold PySem.W.notCls; rw [hv] <;> rfl, by rw [hz.2]; exact e⟩
theorem call_isX (hz : Zc cls d oe) (hf : ∃ vs, oe.data = .fields vs) : CallR (X.suite a ((a, oe) :: pn)) (.builtin "isinstance") (rIsX X.K a cls d) := by
  intro pins s σ H xs us Q I r h
  obtain ⟨c, u, b, D, dd, fs, rfl, hc, rfl, rfl, C, hd, e, q⟩ := h
  obtain ⟨u1, u2, rfl, r1, r2⟩ := vals2 r
  cases (show u1 = Value.ref a from r1)
  cases hc.eq r2
  obtain ⟨od, J⟩ := inst_here I hz hf hd
  exact PySem.W.kia_one (kit_here C) I.kIn J e (fun z => nomatch z) fun tk => ⟨.bl b, H, I.tok tk, rfl, q⟩
theorem call_isXT (hz : Zc cls d oe) (hf : ∃ vs, oe.data = .fields vs) : CallR (X.suite a ((a, oe) :: pn)) (.builtin "isinstance") (rIsXT X.K a cls d) := by
  intro pins s σ H xs us Q I r h
  obtain ⟨tp, cs, ws, b, D, dd, fs, rfl, hT, hc, rfl, rfl, C, hd, e, q⟩ := h
  obtain ⟨u1, u2, rfl, r1, r2⟩ := vals2 r
  cases (show u1 = Value.ref a from r1)
  cases (show u2 = Value.ref tp from r2)
  obtain ⟨od, J⟩ := inst_here I hz hf hd
  have ho : ObjOk X.prog X.w H s.heap tp (.tup cs) := I.hok tp _ hT
  obtain ⟨_, its, rv, o, h1, h2, n, h3⟩ := ho
  cases ClsV.all hc rv
  obtain ⟨oc, od', dt, sl⟩ := o
  simp only at h2 h3
  cases h2
  cases h3
  exact PySem.W.kia_tup (kit_here C) I.kIn J h1 e (fun z => nomatch z) fun tk => ⟨.bl b, H, I.tok tk, rfl, q⟩
end
end GX

/-! ### calls, methods, makers and errors by one name each (defs that may raise) -/
namespace GX
open PySem PySem.Spec PyProof.Rows L2
structure CalX (P : Program) (w : World) (K : PySem.W.Frag) (mg : Str → Option Value) (base : Heap) (k : Nat) (x : Str) (sp : Sp) : Prop where
  ex : ∃ (f : Addr) (fd : FuncData) (ps : List Str), FnOk P w K mg base (L2.CX P w) k f fd ps sp ∧ mg x = some (.ref f) ∧ PySem.W.keepIn K (.ref f) = true ∧ L2.Binds K fd ps []
structure MetX (P : Program) (w : World) (K : PySem.W.Frag) (mg : Str → Option Value) (base : Heap) (k : Nat) (C : Addr) (m : Str) (sp : Sp) : Prop where
  ex : ∃ (f : Addr) (fd : FuncData) (ps : List Str), Cls K C ∧ Meth K C m f ∧ FnOk P w K mg base (L2.CX P w) k f fd ps sp ∧ L2.Binds K fd ps []
structure MakX (P : Program) (w : World) (K : PySem.W.Frag) (mg : Str → Option Value) (base : Heap) (k : Nat) (x : Str) (C : Addr) (sp : Sp) : Prop where
  ex : ∃ (f : Addr) (fd : FuncData) (ps : List Str), Mk K C f ∧ FnOk P w K mg base (L2.CX P w) k f fd ps sp ∧ mg x = some (.ref C) ∧ L2.Binds K fd ps []
structure ErrX (P : Program) (w : World) (K : PySem.W.Frag) (mg : Str → Option Value) (base : Heap) (k : Nat) (x : Str) (C : Addr) (sp : Sp) : Prop where
  oex : OexC K C
  ex : ∃ (f : Addr) (fd : FuncData) (ps : List Str), PySem.W.findIn K (.ref C) "__init__" = some (some (.ref f)) ∧ PySem.W.typeIn K (.ref f) = some (.type "function") ∧ FnOk P w K mg base CX0 k f fd ps sp ∧ mg x = some (.ref C) ∧ L2.Binds K fd ps []
/-- raise C(e, ..) -/
def tRaiseO (C : Addr) (sp : Sp) (E : XK) (ta : TA) : TS := fun _ σ H => tMkO C sp [] ta σ H fun cls d H' => E cls d H'
section
variable {X : Cx} {k j : Nat} {C : Addr} {x m : Str} {sp : Sp} {p pos apos pos2 : Pos} {e o : Expr} {es : List Expr} {ta : TE} {t : TA} {E : XK}
theorem pe_cX (c : CalX X.prog X.w X.K X.mg X.base k x sp) (hr : Room j X.A) (hk : k ≤ j) (hg : Gl X x) (hx : Passes (L2.CX X.prog X.w) X E) (ha : PA X (e :: es) t) (hdb : (x == ("__debug__" : Str)) = false := by decide)
    (he : starEach (e :: es) X.env = (false, eval e X.env) :: starEach es X.env := by rfl) (hpl : (backTo pos (starEach es X.env)).any (·.1) = false := by rfl) : PE X (.Call (.Name x p) (e :: es) [] pos) (tCall sp [] E t) :=
  let ⟨_, _, _, F, hm, kp, b⟩ := c.ex
  pe_call F (hr.mono hk) hg hm kp b .nil hx ha hdb he hpl
theorem pe_mkX (c : MakX X.prog X.w X.K X.mg X.base k x C sp) (hr : Room j X.A) (hk : k + 1 ≤ j) (hg : Gl X x) (hx : Passes (L2.CX X.prog X.w) X E) (ha : PA X (e :: es) t) (hdb : (x == ("__debug__" : Str)) = false := by decide)
    (he : starEach (e :: es) X.env = (false, eval e X.env) :: starEach es X.env := by rfl) (hpl : (backTo pos (starEach es X.env)).any (·.1) = false := by rfl) : PE X (.Call (.Name x p) (e :: es) [] pos) (tMake C sp [] E t) :=
  let ⟨_, _, _, M, F, hm, b⟩ := c.ex
  pe_make M F (hr.mono hk) hg hm b .nil hx ha hdb he hpl
theorem pe_mtX {pl : Sem Bool} (c : MetX X.prog X.w X.K X.mg X.base k C m sp) (hr : Room j X.A) (hk : k ≤ j) (hx : Passes (L2.CX X.prog X.w) X E) (he : PE X o ta) (ha : PA X (e :: es) t)
    (hst : starEach (e :: es) X.env = (false, eval e X.env) :: starEach es X.env := by rfl) (hpl : (backTo pos (starEach es X.env)).any (·.1) = false := by rfl)
    (ht : eval (.Call (.Attribute o m apos) (e :: es) [] pos) X.env = (do
      let ov ← eval o X.env; standAt apos.atName; let (f, first) ← holding [ov] (getMethod ov m pl)
      callWith pos f first (backTo pos (starEach (e :: es) X.env)) (backToKw pos (keywordEach [] X.env))) := by rfl) : PE X (.Call (.Attribute o m apos) (e :: es) [] pos) (tMeth C m sp [] E ta t) :=
  let ⟨_, _, _, hc, hm, F, b⟩ := c.ex
  pe_meth (pl := pl) he hc hm F (hr.mono hk) b .nil hx ha hst hpl ht
theorem pe_mtXT {W : WX} {pl : Sem Bool} (c : MetX X.prog X.w X.K X.mg X.base k C m sp) (hr : Room j X.A) (hk : k ≤ j) (tk : Takes X W) (he : PE X o ta) (ha : PA X (e :: es) t)
    (hst : starEach (e :: es) X.env = (false, eval e X.env) :: starEach es X.env := by rfl) (hpl : (backTo pos (starEach es X.env)).any (·.1) = false := by rfl)
    (ht : eval (.Call (.Attribute o m apos) (e :: es) [] pos) X.env = (do
      let ov ← eval o X.env; standAt apos.atName; let (f, first) ← holding [ov] (getMethod ov m pl)
      callWith pos f first (backTo pos (starEach (e :: es) X.env)) (backToKw pos (keywordEach [] X.env))) := by rfl) : PE X (.Call (.Attribute o m apos) (e :: es) [] pos) (tMethS C m sp (WE W) ta t) :=
  let ⟨_, _, _, hc, hm, F, b⟩ := c.ex
  pe_methS (pl := pl) he hc hm F (hr.mono hk) b (fun σ => passAt tk σ) ha hst hpl ht
theorem pe_mkXT {W : WX} (c : MakX X.prog X.w X.K X.mg X.base k x C sp) (hr : Room j X.A) (hk : k + 1 ≤ j) (hg : Gl X x) (tk : Takes X W) (ha : PA X (e :: es) t) (hdb : (x == ("__debug__" : Str)) = false := by decide)
    (he : starEach (e :: es) X.env = (false, eval e X.env) :: starEach es X.env := by rfl) (hpl : (backTo pos (starEach es X.env)).any (·.1) = false := by rfl) : PE X (.Call (.Name x p) (e :: es) [] pos) (tMakeS C sp (WE W) t) :=
  let ⟨_, _, _, M, F, hm, b⟩ := c.ex
  pe_makeS M F (hr.mono hk) hg hm b (fun σ => passAt tk σ) ha hdb he hpl
theorem ps_raiseO (c : ErrX X.prog X.w X.K X.mg X.base k x C sp) (hr : Room j X.A) (hk : k + 1 ≤ j) (hc : X.calm = true) (hg : Gl X x) (tk : Takes X (fun cls d _ H => E cls d H)) (ha : PA X (e :: es) t) (hdb : (x == ("__debug__" : Str)) = false := by decide)
    (he : starEach (e :: es) X.env = (false, eval e X.env) :: starEach es X.env := by rfl) (hpl : (backTo pos (starEach es X.env)).any (·.1) = false := by rfl) : PS X (.Raise (some (.Call (.Name x p) (e :: es) [] pos)) none pos2) (tRaiseO C sp E t) :=
  let ⟨_, _, _, iC, tI, F, hm, b⟩ := c.ex
  ps_raise hc tk (pmk_oex c.oex iC tI F (hr.mono hk) b .nil pass0 hg hm ha hdb he hpl)
end
/-- what an error with one field tells -/
def Raised (C : Addr) (f : Str) (v : V) (H : Hp) (E : XK) : Prop := ∀ (d : Addr) (H' : Hp), H d = none → Same H H' → H' d = some (.xd [(f, v)]) → E (.ref C) (some d) H'
/-- the promise of an error's __init__(self, v): self.f = v -/
def sp_err (K : PySem.W.Frag) (C : Addr) (f : Str) : Sp := fun vs H Q _ => ∃ (a : Addr) (v : V), vs = [.ref a, v] ∧ OexC K C ∧ PySem.W.findIn K (.ref C) f = some none ∧ H a = some (exo a C none) ∧
  ∀ dx, H dx = none → dx ≠ a → Q .non (upd (upd H dx (exd dx [(f, v)])) a (exo a C (some dx)))
def t_err (K : PySem.W.Frag) (f : Str) : TS := tOst K f (tVar 0) (tVar 1)
theorem rd_err {K : PySem.W.Frag} {C : Addr} {f p1 p2 : Str} {vs : List V} {H : Hp} {Q : VK} {E : XK} (h : sp_err K C f vs H Q E) : t_err K f { nx := fun _ H' => Q .non H', rt := Q } (start [p1, p2] vs) H := by
  obtain ⟨a, v, rfl, T, hno, ha, q⟩ := h
  exact ⟨_, rfl, _, rfl, a, C, rfl, T, hno, .inl ⟨ha, q⟩⟩
theorem w_raiseO {K : PySem.W.Frag} {C : Addr} {f : Str} {E : XK} {ta : TA} {D : Ends} {σ : L2.St} {H : Hp} {v : V} {H1 : Hp} (T : OexC K C) (hno : PySem.W.findIn K (.ref C) f = some none) (e1 : ∀ Q, Q [v] H1 → ta σ H Q) (r : Raised C f v H1 E) : tRaiseO C (sp_err K C f) E ta D σ H := by
  refine e1 _ ⟨(by show 1 ≤ 1000; decide), fun a ha => ⟨a, v, rfl, T, hno, upd_same, fun dx hdx ndx => ⟨rfl, dx, [(f, v)], upd_same, by rw [upd_ne ndx]; exact upd_same, ?_, ?_⟩⟩⟩
  · rw [upd_ne ndx] at hdx; exact hdx
  · have hd0 : H1 dx = none := by rw [upd_ne ndx] at hdx; exact hdx
    refine r dx _ hd0 (fun b o e => ?_) upd_same
    have nb : b ≠ dx := ne_of_none e hd0
    have na : b ≠ a := ne_of_none e ha
    rw [upd_ne nb, del_ne na, upd_ne na, upd_ne nb, upd_ne na]; exact e
end GX

/-! ### + by an own __add__; defs called within an except suite; errors with two fields -/
namespace GX
open PySem PySem.Spec PyProof.Rows L2
def rOwnAdd (C : Addr) (sp : Sp) (E : XK) : R2 := fun x y H Q => ∃ (a b dx dy : Addr) (fs gs : List (Str × V)), x = .ref a ∧ y = .ref b ∧ H a = some (.ins C dx fs) ∧ H b = some (.ins C dy gs) ∧
  sp [.ref a, .ref b] H (fun v H' => ∃ p, v = .ref p ∧ Q (.ref p) H') E
structure AddX (P : Program) (w : World) (K : PySem.W.Frag) (mg : Str → Option Value) (base : Heap) (k : Nat) (C : Addr) (sp : Sp) : Prop where
  ex : ∃ (f : Addr) (fd : FuncData) (ps : List Str), FnOk P w K mg base (L2.CX P w) k f fd ps sp ∧ PySem.W.findIn K (.ref C) "__add__" = some (some (.ref f)) ∧ PySem.W.isFn K (.ref f) = true ∧ L2.Binds K fd ps [] ∧ PySem.W.selfFirst K C = true
structure EqX (P : Program) (w : World) (K : PySem.W.Frag) (mg : Str → Option Value) (base : Heap) (k : Nat) (C : Addr) (sp : Sp) : Prop where
  ex : ∃ (f : Addr) (fd : FuncData) (ps : List Str), FnOk P w K mg base CX0 k f fd ps sp ∧ PySem.W.findIn K (.ref C) "__eq__" = some (some (.ref f)) ∧ PySem.W.isFn K (.ref f) = true ∧ L2.Binds K fd ps []
/-- x == y of two instances of a class with an own __eq__ -/
def rOwnEq2 (C : Addr) (sp : Sp) (E : XK) : R2 := fun x y H Q => ∃ (a b dx dy : Addr) (fs gs : List (Str × V)), x = .ref a ∧ y = .ref b ∧ H a = some (.ins C dx fs) ∧ H b = some (.ins C dy gs) ∧
  sp [.ref a, .ref b] H (fun v H' => ∃ r, v = .bl r ∧ Q (.bl r) H') E
section
variable {X : Cx} {k j : Nat} {C : Addr} {sp : Sp}
theorem looks_ins {pins : List (Addr × Obj)} {σ : L2.St} {H : Hp} {s : Shared} {b dy : Addr} {gs : List (Str × V)} (J0 : Inv X pins σ H s) (hb : H b = some (.ins C dy gs)) : PySem.W.Looks (model X.prog X.w) s.heap (typeOf (.ref b)) (.ref C) := by
  obtain ⟨_, J, _⟩ := ins_get J0.hok hb
  obtain ⟨_, J, _⟩ := J.look
  exact J.type
theorem run_add (c : AddX X.prog X.w X.K X.mg X.base k C sp) (room : Room j X.A) (le : k ≤ j) {pins : List (Addr × Obj)} {σ : L2.St} {H : Hp} {s : Shared} {x y : V} {v u : Value} {Q : VK} {E : XK} (out : PassesAt (L2.CX X.prog X.w) X σ E) (J0 : Inv X pins σ H s) (rx : RelV x v) (ry : RelV y u) (h : rOwnAdd C sp E x y H Q) :
    wpAny (model X.prog X.w) X.A (binaryOp .Add v u) (EP X pins σ Q) X.xe s := by
  obtain ⟨f, fd, ps, F, hs, hf, hbd, hself⟩ := c.ex
  obtain ⟨a, b, dx, dy, fs, gs, rfl, rfl, ha, hb, hsp⟩ := h
  cases rx
  cases ry
  have look := looks_ins J0 hb
  obtain ⟨_, J, _⟩ := ins_get J0.hok ha
  obtain ⟨_, J, _⟩ := J.look
  obtain ⟨m, hF⟩ := J0.fr
  have args2 : Vals [V.ref a, V.ref b] [Value.ref a, Value.ref b] := .cons rfl (.cons rfl .nil)
  have two := F.len _ _ _ _ hsp
  have bound := hbd s [.ref a, .ref b] J0.kIn (by simpa using two)
  refine PySem.W.binop_K (op := .Add) hF J0.ok.mod.kin J look hself hs hf (wpAny_call (codeAny_mono (F.run X.A X.stack s H ⟨[.ref a, .ref b], []⟩ _ _ _ E (room.mono le) J0.env0 (by simpa using bound) args2 hsp) fun r s' back => ?_))
  cases r with
  | error e => exact out pins H s e s' J0 back
  | ok fl =>
    cases fl with
    | ret w =>
      obtain ⟨z, H', J', rz, p, ez, q⟩ := J0.after back
      subst ez
      cases rz
      exact ⟨.ref p, H', J', rfl, q⟩
    | next => exact back.elim
    | brk => exact back.elim
    | cont => exact back.elim
theorem op_addX {E : XK} (c : AddX X.prog X.w X.K X.mg X.base k C sp) (room : Room j X.A) (le : k ≤ j) (out : Passes (L2.CX X.prog X.w) X E) : OpR X (binaryOp .Add) (rOwnAdd C sp E) :=
  fun pins s σ H x y v u Q J rx ry h => run_add c room le (fun pins H s e s' => out pins σ H s e s') J rx ry h
/-- a + b within a try -/
def tAddS (C : Addr) (sp : Sp) (E : L2.St → XK) (ta tb : TE) : TE := fun σ H Q => ta σ H fun x H1 => tb σ H1 fun y H2 => rOwnAdd C sp (E σ) x y H2 Q
theorem pe_addS {W : WX} {a b : Expr} {ta tb : TE} {pos : Pos} (c : AddX X.prog X.w X.K X.mg X.base k C sp) (room : Room j X.A) (le : k ≤ j) (tk : Takes X W) (ha : PE X a ta) (hb : PE X b tb) : PE X (.BinOp a .Add b pos) (tAddS C sp (WE W) ta tb) :=
  ⟨fun pins s σ H Q J h => wpAny_BinOp (binT (R := fun x y H2 => rOwnAdd C sp (WE W σ) x y H2 Q) ha hb J h fun v u s2 x y H2 J2 rx ry q => run_add c room le (passAt tk σ) J2 rx ry q)⟩
theorem op_eqX (c : EqX X.prog X.w X.K X.mg X.base k C sp) (room : Room j X.A) (le : k ≤ j) : OpR X (compareOp .Eq) (rOwnEq2 C sp E0) := by
  intro pins s σ H x y v u Q J0 rx ry h
  obtain ⟨f, fd, ps, F, hs, hf, hbd⟩ := c.ex
  obtain ⟨a, b, dx, dy, fs, gs, rfl, rfl, ha, hb, hsp⟩ := h
  cases rx
  cases ry
  have look := looks_ins J0 hb
  obtain ⟨_, J, _⟩ := ins_get J0.hok ha
  obtain ⟨_, J, _⟩ := J.look
  obtain ⟨m, hF⟩ := J0.fr
  have args2 : Vals [V.ref a, V.ref b] [Value.ref a, Value.ref b] := .cons rfl (.cons rfl .nil)
  have two := F.len _ _ _ _ hsp
  have bound := hbd s [.ref a, .ref b] J0.kIn (by simpa using two)
  show wpAny (model X.prog X.w) X.A (richCompare .Eq (.ref a) (.ref b)) (EP X pins σ Q) X.xe s
  refine PySem.W.cmp_K (op := .Eq) room.units0 hF J0.ok.mod.kin J look (by simp [PySem.W.notFirst]) hs hf (wpAny_call (codeAny_mono (F.run X.A X.stack s H ⟨[.ref a, .ref b], []⟩ _ _ _ E0 (room.mono le) J0.env0 (by simpa using bound) args2 hsp) fun r s' back => ?_))
  cases r with
  | error e => exact back.elim
  | ok fl =>
    cases fl with
    | ret w =>
      obtain ⟨z, H', J', rz, p, ez, q⟩ := J0.after back
      subst ez
      cases rz
      exact ⟨.bl p, H', J', rfl, q⟩
    | next => exact back.elim
    | brk => exact back.elim
    | cont => exact back.elim
end
end GX

/-! ### a def called while an exception is held: what it promises may speak of that exception -/
namespace GX
open PySem PySem.Spec PyProof.Rows L2
abbrev SpE := Addr → Value → Option Addr → Sp
structure FnG (P : Program) (w : World) (K : PySem.W.Frag) (mg : Str → Option Value) (base : Heap) (k : Nat) (f : Addr) (fd : FuncData) (ps : List Str) (sp : SpE) : Prop where
  len : ∀ a c d vs H Q, sp a c d vs H Q E0 → vs.length = ps.length
  run : ∀ (A : Around) (outer : List Env) (s : Shared) (H : Hp) (args : Args) (us : List Value) (vs : List V) (Q : VK) (p : Addr × Obj), L2H.RoomH k A → L2H.PinOk outer H s p → (∃ fv, p.2.data = .fields fv) →
    Env0 P w K mg base A outer s H → BindsTo s fd args (ps.zip us) → Vals vs us → sp p.1 p.2.cls p.2.dict vs H Q E0 → codeAny (model P w) A (.call (.ref f) args) (CR CX0 outer P w H s Q E0) s
abbrev cxG (P : Program) (w : World) (K : PySem.W.Frag) (mg : Str → Option Value) (base : Heap) (N : List Str) (qual : Str) (scope : Scope) (f : Addr) (cd : Value) (A : Around) (outer : List Env) (s : Shared) (H : Hp) (p : Addr × Obj) : Cx :=
  L2H.cxH CX0 P w K mg base N qual scope f cd A outer s H E0 p
theorem _root_.L2.Fun.okG {P : Program} {w : World} {K : PySem.W.Frag} {mg : Str → Option Value} {base : Heap} {x qual : Str} {st : Stmt} {f : Addr} {fd : FuncData} {N ps : List Str} {k : Nat} {sp : SpE} (F : Fun K x qual st f fd) (S : FnScope N ps (defScope st))
    (len : ∀ a c d vs H Q, sp a c d vs H Q E0 → vs.length = ps.length)
    (walks : ∀ (cdv : Value) (A : Around) (outer : List Env) (s : Shared) (H : Hp) (vs : List V) (Q : VK) (p : Addr × Obj), (∃ fv, p.2.data = .fields fv) → sp p.1 p.2.cls p.2.dict vs H Q E0 →
      ∃ t, PSs (cxG P w K mg base N qual (defScope st) f cdv A outer s H p) (defBody st) t ∧ t { nx := fun _ H' => Q .non H', rt := Q } (start N vs) H) : FnG P w K mg base (k + 1) f fd ps sp := by
  obtain ⟨oc, od, kV, doc, pm, an, cdv, ct, osl, rfl, at_, code⟩ := F.ex
  constructor
  · exact len
  intro A outer s H args us vs Q p room pin fields env bound rel promise
  have many := len _ _ _ _ _ _ promise
  have inK : K.In s.heap := env.mod.kin.keeps fun b o e => (env.bs b o e).1
  have free : s.heap.NoLimit := env.mod.nolimit.keeps fun b o e => (env.bs b o e).1
  have kinds : ∀ y ∈ ps.zip us, (defScope st).names.lookup y.1 = some .local ∨ ((defScope st).names.lookup y.1 = some .cell ∧ ((cellsFrom (s.heap.objs.size + 1) (defScope st).names []).lookup y.1).isSome = true) := by
    rintro ⟨n, v⟩ hy
    cases S.par n (List.of_mem_zip hy).1 with
    | inl q => exact .inl q
    | inr q => exact .inr ⟨q, PySem.W.cellsFrom_some _ _ _ (.inl q)⟩
  refine codeAny_call_function room.depth (inK _ _ at_) rfl S.co S.gen rfl (PySem.W.codeRec_of inK code) (bound _ _ _ _ (wpAny_newFunctionEnv_cells S.kind kinds fun e0 he s1 x => ?_))
  subst he
  refine ⟨free.keeps x.toInCall.keep, codeAny_func ?_⟩
  obtain ⟨t, der, goal⟩ := walks cdv A outer s H vs Q p fields promise
  have J : Inv (cxG P w K mg base N qual (defScope st) f cdv A outer s H p) [] (start N vs) H s1 := L2H.inv_startH S pin env many rel x
  refine wpAny_mono (der.run [] s1 (start N vs) H _ J goal) (fun r s' back => ?_) fun e s' back => back
  cases r with
  | ret u =>
    obtain ⟨v, σ', H', J', rv, q⟩ := back
    exact ⟨v, H', J'.os, J'.bare, J'.base, J'.hok, rv, q⟩
  | next =>
    obtain ⟨σ', H', J', q⟩ := back
    exact ⟨.non, H', J'.os, J'.bare, J'.base, J'.hok, rfl, q⟩
  | brk => obtain ⟨_, _, _, z⟩ := back; exact False.elim z
  | cont => obtain ⟨_, _, _, z⟩ := back; exact False.elim z
structure HotX (P : Program) (w : World) (K : PySem.W.Frag) (mg : Str → Option Value) (base : Heap) (k : Nat) (x : Str) (sp : SpE) : Prop where
  ex : ∃ (f : Addr) (fd : FuncData) (ps : List Str), FnG P w K mg base k f fd ps sp ∧ mg x = some (.ref f) ∧ PySem.W.keepIn K (.ref f) = true ∧ L2.Binds K fd ps []
/-- f(..) within an except suite -/
def tCallG (sp : Sp) (t : TA) : TE := fun σ H Q => t σ H fun vs H1 => sp vs H1 Q E0
theorem pe_callG {X : Cx} {k j : Nat} {x : Str} {sp : SpE} {p pos : Pos} {e : Expr} {es : List Expr} {t : TA} {a : Addr} {oe : Obj} {cls : Value} {d : Option Addr} {pn : List (Addr × Obj)} (c : HotX X.prog X.w X.K X.mg X.base k x sp) (room : Room j X.A) (le : k ≤ j) (hz : Zc cls d oe) (hf : ∃ vs, oe.data = .fields vs)
    (hg : Gl (X.suite a ((a, oe) :: pn)) x) (ha : PA (X.suite a ((a, oe) :: pn)) (e :: es) t) (hdb : (x == ("__debug__" : Str)) = false := by decide)
    (he : starEach (e :: es) X.env = (false, eval e X.env) :: starEach es X.env := by rfl) (hpl : (backTo pos (starEach es X.env)).any (·.1) = false := by rfl) : PE (X.suite a ((a, oe) :: pn)) (.Call (.Name x p) (e :: es) [] pos) (tCallG (sp a cls d) t) := by
  obtain ⟨f, fd, ps, F, hm, kp, hbd⟩ := c.ex
  obtain ⟨rfl, rfl⟩ := hz
  refine ⟨fun pins s σ H Q J0 h => ?_⟩
  refine wpAny_Call_Name_kw (ld_glob J0 hg hm (PySem.W.callWith_K (h₀ := X.base) J0.ok.mod.kin kp (thn (ha.run pos pins s σ H _ J0 h) fun us s1 ⟨vs, H1, J1, rel, q⟩ => ⟨J1.kIn, ?_⟩) he hpl) hdb)
  have two := F.len _ _ _ _ _ _ q
  have bound := hbd s1 us J1.kIn (by rw [List.append_nil, ← rel.length]; exact two)
  rw [List.append_nil] at bound
  have P1 := J1.pin (a, oe) (List.mem_append_left _ List.mem_cons_self)
  have pin : L2H.PinOk (X.suite a ((a, oe) :: pn)).stack H1 s1 (a, oe) := ⟨P1.1, P1.2.1, fun hmm => (List.mem_cons.mp (J1.stkSub a hmm)).elim P1.2.2.1 P1.2.2.2.1, P1.2.2.2.2⟩
  refine wpAny_call (codeAny_mono (F.run _ (X.suite a ((a, oe) :: pn)).stack s1 H1 ⟨us, []⟩ us vs Q (a, oe) ⟨(room.mono le).dp, (room.mono le).un⟩ pin hf J1.env0 bound rel q) fun r s' back => ?_)
  cases r with
  | error e => exact back.elim
  | ok fl =>
    cases fl with
    | ret u => exact J1.after back
    | next => exact back.elim
    | brk => exact back.elim
    | cont => exact back.elim
/-- isinstance of the exception that is held, within a def that is called in the suite -/
theorem call_isG {P : Program} {w : World} {K : PySem.W.Frag} {mg : Str → Option Value} {base : Heap} {N : List Str} {qual : Str} {scope : Scope} {f : Addr} {cd : Value} {A : Around} {outer : List Env} {s0 : Shared} {H0 : Hp} {p : Addr × Obj} (hf : ∃ vs, p.2.data = .fields vs) :
    CallR (cxG P w K mg base N qual scope f cd A outer s0 H0 p) (.builtin "isinstance") (rIsX K p.1 p.2.cls p.2.dict) := by
  intro pins s σ H xs us Q J0 r h
  obtain ⟨c, u, b, D, dd, fs, rfl, hc, ecls, edict, C, hd, e, q⟩ := h
  obtain ⟨u1, u2, rfl, r1, r2⟩ := vals2 r
  cases (show u1 = Value.ref p.1 from r1)
  cases hc.eq r2
  obtain ⟨hget, _⟩ := J0.pin p (List.mem_append_left _ (by show p ∈ [p]; simp))
  obtain ⟨vs, hv⟩ := hf
  have ho : ObjOk P w H s.heap dd (.xd fs) := J0.hok dd _ hd
  obtain ⟨mA, hns, _⟩ := ho
  obtain ⟨od, e2, _⟩ := lookIn_ns hns
  have J : PySem.W.InstAt s.heap p.1 p.2 D (some od) := ⟨hget, ecls, by unfold PySem.W.notCls; rw [hv] <;> rfl, by rw [edict]; exact e2⟩
  exact PySem.W.kia_one (kit_here C) J0.kIn J e (fun z => nomatch z) fun tk => ⟨.bl b, H, J0.tok tk, rfl, q⟩
/-! ### errors with two fields -/
def sp_err2 (K : PySem.W.Frag) (C : Addr) (f g : Str) : Sp := fun vs H Q _ => ∃ (a : Addr) (v u : V), vs = [.ref a, v, u] ∧ OexC K C ∧ PySem.W.findIn K (.ref C) f = some none ∧ PySem.W.findIn K (.ref C) g = some none ∧ H a = some (exo a C none) ∧
  ∀ dx (H' : Hp), H dx = none → dx ≠ a → H' a = some (exo a C (some dx)) → H' dx = some (exd dx [(g, u), (f, v)]) → (∀ b, b ≠ a → b ≠ dx → H' b = H b) → Q .non H'
def t_err2 (K : PySem.W.Frag) (f g : Str) : TS := tSeq (tOst K f (tVar 0) (tVar 1)) (tOst K g (tVar 0) (tVar 2))
theorem rd_err2 {K : PySem.W.Frag} {C : Addr} {f g p1 p2 p3 : Str} {vs : List V} {H : Hp} {Q : VK} {E : XK} (h : sp_err2 K C f g vs H Q E) : t_err2 K f g { nx := fun _ H' => Q .non H', rt := Q } (start [p1, p2, p3] vs) H := by
  obtain ⟨a, v, u, rfl, T, hf, hg, ha, q⟩ := h
  refine ⟨_, rfl, _, rfl, a, C, rfl, T, hf, .inl ⟨ha, fun dx hdx ndx => ?_⟩⟩
  refine ⟨_, rfl, _, rfl, a, C, rfl, T, hg, .inr ⟨dx, [(f, v)], upd_same, by rw [upd_ne ndx]; exact upd_same, by show 1 ≤ 900; decide, ?_⟩⟩
  refine q dx _ hdx ndx (by rw [upd_ne ndx.symm]; exact upd_same) upd_same fun b nb nd => ?_
  rw [upd_ne nd, upd_ne nb, upd_ne nd]
/-- what an error with two fields tells -/
def Raised2 (C : Addr) (f g : Str) (v u : V) (H : Hp) (E : XK) : Prop := ∀ (d : Addr) (H' : Hp), H d = none → Same H H' → H' d = some (.xd [(g, u), (f, v)]) → E (.ref C) (some d) H'
theorem w_raiseO2 {K : PySem.W.Frag} {C : Addr} {f g : Str} {E : XK} {ta : TA} {D : Ends} {σ : L2.St} {H : Hp} {v u : V} {H1 : Hp} (T : OexC K C) (hf : PySem.W.findIn K (.ref C) f = some none) (hg : PySem.W.findIn K (.ref C) g = some none) (e1 : ∀ Q, Q [v, u] H1 → ta σ H Q) (r : Raised2 C f g v u H1 E) : tRaiseO C (sp_err2 K C f g) E ta D σ H := by
  refine e1 _ ⟨(by show 2 ≤ 1000; decide), fun a ha => ⟨a, v, u, rfl, T, hf, hg, upd_same, fun dx H' hdx ndx h1 h2 h3 => ⟨rfl, dx, _, h1, h2, ?_, ?_⟩⟩⟩
  · rw [upd_ne ndx] at hdx; exact hdx
  · have hd0 : H1 dx = none := by rw [upd_ne ndx] at hdx; exact hdx
    refine r dx _ hd0 (fun b o e => ?_) upd_same
    have nb : b ≠ dx := ne_of_none e hd0
    have na : b ≠ a := ne_of_none e ha
    rw [upd_ne nb, del_ne na, h3 b na nb, upd_ne na]; exact e
end GX

/-! ### facts of the head about error classes and own operators -/
namespace GX
open PySem PySem.Spec PyProof.Rows L2
def clsB (K : PySem.W.Frag) (C : Addr) : Bool := match K.lookup C with
  | some ⟨.type t, _, .cls cd, sl⟩ => (match cd.mro, sl.toList with
    | .ref C2 :: bm, [_, _, _, _, some (.builtin n), _] => t == "type" && (C2 == C && (n == "ValueError.__new__" && (!cd.hasDel && (cd.hasDict && PySem.HandSPX.refsVE bm))))
    | _, _ => false)
  | _ => false
theorem clsB_ok {K : PySem.W.Frag} {C : Addr} (h : clsB K C = true) : ∃ nm q N bs bm sn sub ab col dd k0 k1 k2 k3 k5, K.lookup C = some (excClassObj nm q C N bs bm true sn sub ab col dd k0 k1 k2 k3 k5 "ValueError.__new__") ∧ PySem.HandSPX.refsVE bm = true := by
  unfold clsB at h
  split at h
  · rename_i t dd cd sl found
    split at h
    · rename_i C2 bm k0 k1 k2 k3 n k5 em es
      simp only [Bool.and_eq_true, beq_iff_eq, Bool.not_eq_true'] at h
      obtain ⟨rfl, rfl, rfl, nodel, hasd, tail⟩ := h
      obtain ⟨nm, bs, mro, ns, qn, hd, sn, sub, ab, col, del⟩ := cd
      dsimp only at em nodel hasd
      subst em nodel hasd
      obtain ⟨l⟩ := sl
      simp only at es
      subst es
      exact ⟨nm, qn, ns, bs, bm, sn, sub, ab, col, dd, k0, k1, k2, k3, k5, found, tail⟩
    · cases h
  · cases h
inductive Ex where
  | oex (x : Str)
  | exc (x : Str)
  | xf (x : Str)
  | noat (x f : Str)
  | ini (x : Str)
  | kit (x y : Str) (b : Bool)
  | kitT (x : Str) (t : String) (b : Bool)
  | exm (x y : Str) (b : Bool)
  | first (x : Str)
  | ins (x : Str)
def Ex.ok (K : PySem.W.Frag) : Ex → Bool
  | .oex x => clsB K (He.ga K x) && (decide (PySem.W.findIn K (.ref (He.ga K x)) "__setattr__" = some (some (.builtin "object.__setattr__"))) && (decide (PySem.W.subIn K (.ref (He.ga K x)) (.type "BaseException") = some true) && (decide (PySem.W.typeIn K (.ref (He.ga K x)) = some (.type "type")) && PySem.W.keepIn K (.ref (He.ga K x)))))
  | .exc x => decide (PySem.W.findIn K (.ref (He.ga K x)) "__getattribute__" = some (some (.builtin "BaseException.__getattribute__"))) && (decide (PySem.W.findIn K (.ref (He.ga K x)) "__getattr__" = some none) && (decide (PySem.W.subIn K (.ref (He.ga K x)) (.type "BaseException") = some true) &&
      (PySem.W.hasDictIn K (He.ga K x) && (decide (PySem.W.findIn K (.ref (He.ga K x)) "__class__" = some (some (.builtin "object.__class__"))) && (decide (PySem.W.specialIn K (.builtin "object.__class__") "__get__" = some (some (.builtin "getset_descriptor.__get__"))) &&
      (decide (PySem.W.takesIn K (.builtin "object.__class__") = some true) && decide (PySem.W.mroIn K (He.ga K x) (.type "object") = some true)))))))
  | .xf x => xfB K (He.ga K x)
  | .noat x f => decide (PySem.W.findIn K (.ref (He.ga K x)) f = some none)
  | .ini x => decide (PySem.W.findIn K (.ref (He.ga K x)) "__init__" = some (some (.ref (He.ma K (He.ga K x) "__init__")))) && decide (PySem.W.typeIn K (.ref (He.ma K (He.ga K x) "__init__")) = some (.type "function"))
  | .kit x y b => decide (PySem.W.kitOne K (.ref (He.ga K x)) (.ref (He.ga K y)) = some b)
  | .kitT x t b => decide (PySem.W.kitOne K (.ref (He.ga K x)) (.type t) = some b)
  | .exm x y b => decide (PySem.W.exmOne K (.ref (He.ga K x)) (.ref (He.ga K y)) = some b)
  | .first x => PySem.W.selfFirst K (He.ga K x)
  | .ins x => decide (PySem.W.findIn K (.ref (He.ga K x)) "__class__" = some (some (.builtin "object.__class__"))) && (decide (PySem.W.specialIn K (.builtin "object.__class__") "__get__" = some (some (.builtin "getset_descriptor.__get__"))) &&
      (decide (PySem.W.takesIn K (.builtin "object.__class__") = some true) && decide (PySem.W.mroIn K (He.ga K x) (.type "object") = some true)))
structure InsC (K : PySem.W.Frag) (C : Addr) : Prop where
  ha : PySem.W.findIn K (.ref C) "__class__" = some (some (.builtin "object.__class__"))
  hn : PySem.W.specialIn K (.builtin "object.__class__") "__get__" = some (some (.builtin "getset_descriptor.__get__"))
  ht : PySem.W.takesIn K (.builtin "object.__class__") = some true
  hm : PySem.W.mroIn K C (.type "object") = some true
section
variable {K : PySem.W.Frag} {x y f : Str} {t : String} {b : Bool}
theorem oex_ok (h : (Ex.oex x).ok K = true) : OexC K (He.ga K x) := by
  obtain ⟨h1, h⟩ := He.ba h
  obtain ⟨h2, h⟩ := He.ba h
  obtain ⟨h3, h⟩ := He.ba h
  obtain ⟨h4, h5⟩ := He.ba h
  exact ⟨clsB_ok h1, of_decide_eq_true h2, of_decide_eq_true h3, of_decide_eq_true h4, h5⟩
theorem exc_ok (h : (Ex.exc x).ok K = true) : ExcC K (He.ga K x) := by
  obtain ⟨h1, h⟩ := He.ba h
  obtain ⟨h2, h⟩ := He.ba h
  obtain ⟨h3, h⟩ := He.ba h
  obtain ⟨h4, h⟩ := He.ba h
  obtain ⟨h5, h⟩ := He.ba h
  obtain ⟨h6, h⟩ := He.ba h
  obtain ⟨h7, h8⟩ := He.ba h
  exact ⟨of_decide_eq_true h1, of_decide_eq_true h2, of_decide_eq_true h3, h4, of_decide_eq_true h5, of_decide_eq_true h6, of_decide_eq_true h7, of_decide_eq_true h8⟩
theorem xf_ok (h : (Ex.xf x).ok K = true) : XfC K (He.ga K x) := xfB_ok h
theorem noat_ok (h : (Ex.noat x f).ok K = true) : PySem.W.findIn K (.ref (He.ga K x)) f = some none := of_decide_eq_true h
theorem ini_ok (h : (Ex.ini x).ok K = true) : PySem.W.findIn K (.ref (He.ga K x)) "__init__" = some (some (.ref (He.ma K (He.ga K x) "__init__"))) ∧ PySem.W.typeIn K (.ref (He.ma K (He.ga K x) "__init__")) = some (.type "function") := by
  obtain ⟨h1, h2⟩ := He.ba h
  exact ⟨of_decide_eq_true h1, of_decide_eq_true h2⟩
theorem kit_ok (h : (Ex.kit x y b).ok K = true) : PySem.W.kitOne K (.ref (He.ga K x)) (.ref (He.ga K y)) = some b := of_decide_eq_true h
theorem kitT_ok (h : (Ex.kitT x t b).ok K = true) : PySem.W.kitOne K (.ref (He.ga K x)) (.type t) = some b := of_decide_eq_true h
theorem exm_ok (h : (Ex.exm x y b).ok K = true) : PySem.W.exmOne K (.ref (He.ga K x)) (.ref (He.ga K y)) = some b := of_decide_eq_true h
theorem first_ok (h : (Ex.first x).ok K = true) : PySem.W.selfFirst K (He.ga K x) = true := h
theorem ins_ok (h : (Ex.ins x).ok K = true) : InsC K (He.ga K x) := by
  obtain ⟨h5, h⟩ := He.ba h
  obtain ⟨h6, h⟩ := He.ba h
  obtain ⟨h7, h8⟩ := He.ba h
  exact ⟨of_decide_eq_true h5, of_decide_eq_true h6, of_decide_eq_true h7, of_decide_eq_true h8⟩
end
abbrev AlE : Type := He.AlD × Bool
def obsE (fa : List He.Fa) (fn : List He.DefD) (ex : List Ex) (K : PySem.W.Frag) : AlE := (He.obsD fa fn K, ex.all fun e => e.ok K)
def obsEG (n : Nat) (fa : List He.Fa) (fn : List He.DefD) (ex : List Ex) (g : Addr → Option Obj) : AlE := obsE fa fn ex (He.frG g (He.asD g n))
def SaysE (fa : List He.Fa) (fn : List He.DefD) (ex : List Ex) (K : PySem.W.Frag) : Prop := He.SaysD fa fn K ∧ (ex.all fun e => e.ok K) = true
def hookE (n : Nat) (fa : List He.Fa) (fn : List He.DefD) (ex : List Ex) : PySem.W.Hook where
  α := AlE
  obs := fun s => obsEG n fa fn ex s.heap.get?
  val := fun _ => (He.valD fn, true)
  says := fun _ h => ∃ K : PySem.W.Frag, K.In h ∧ SaysE fa fn ex K
  of := fun _ _ e => ⟨_, He.frG_in, congrArg (fun z : AlE => z.1) e, congrArg (fun z : AlE => z.2) e⟩
  keeps := fun _ _ _ ⟨K, hK, c⟩ k => ⟨K, PySem.W.Frag.In.keeps hK k, c⟩
theorem obsEG_eq {n : Nat} {fa : List He.Fa} {fn : List He.DefD} {ex : List Ex} {g : Addr → Option Obj} {s : Shared} (h : ∀ a, g a = s.heap.get? a) : obsEG n fa fn ex g = (hookE n fa fn ex).obs s := by
  obtain rfl : g = s.heap.get? := funext h
  rfl
theorem SaysE.more {fa : List He.Fa} {fn : List He.DefD} {ex : List Ex} {K : PySem.W.Frag} (c : SaysE fa fn ex K) (i : Nat) {e : Ex} (h : ex[i]? = some e := by rfl) : e.ok K = true := List.all_eq_true.mp c.2 e (List.mem_of_getElem? h)
end GX

namespace GX
open PySem L2 G
/-- try: body; except C as n: suite (n in slot i) -/
def tTryAs (K : PySem.W.Frag) (C : Addr) (i : Nat) (tb : WX → TS) (ts : Addr → Value → Option Addr → TS) : TS := fun D σ H => tb (wAs K (.ref C) i ts (fun _ _ _ _ => False) D) D σ H
theorem w_isX {K : PySem.W.Frag} {a D dd : Addr} {c : V} {u : Value} {b : Bool} {fs : List (Str × V)} {H : Hp} {Q : VK} (hc : ClsV c u) (C : ExcC K D) (hd : H dd = some (.xd fs)) (e : PySem.W.kitOne K (.ref D) u = some b) (q : Q (.bl b) H) :
    rIsX K a (.ref D) (some dd) [.ref a, c] H Q := ⟨c, u, b, D, dd, fs, rfl, hc, rfl, rfl, C, hd, e, q⟩
theorem w_xf {a C dd : Addr} {f : Str} {fs : List (Str × V)} {v : V} {te : TE} {σ : L2.St} {H : Hp} {Q : VK} (h : ∀ Q : VK, Q (.ref a) H → te σ H Q) (hd : H dd = some (.xd fs)) (l : fs.lookup f = some v) (q : Q v H) : tXf a (.ref C) (some dd) C f te σ H Q :=
  h _ ⟨rfl, rfl, dd, fs, v, rfl, hd, l, q⟩
theorem w_callG {sp : Sp} {tl : TA} {σ : L2.St} {H : Hp} {Q : VK} (h : tl σ H fun vs H1 => sp vs H1 Q E0) : tCallG sp tl σ H Q := h
theorem w_addS {C : Addr} {sp : Sp} {E : L2.St → XK} {ta tb : TE} {σ : L2.St} {H : Hp} {Q : VK} (h : ta σ H fun x H1 => tb σ H1 fun y H2 => rOwnAdd C sp (E σ) x y H2 Q) : tAddS C sp E ta tb σ H Q := h
end GX
namespace GX
open PySem PySem.Spec PyProof.Rows L2
/-- f(..) of a def that may raise, within a try -/
def tCallS (sp : Sp) (E : L2.St → XK) (t : TA) : TE := fun σ H Q => t σ H fun vs H1 => sp vs H1 Q (E σ)
theorem w_callS {sp : Sp} {E : L2.St → XK} {tl : TA} {σ : L2.St} {H : Hp} {Q : VK} (h : tl σ H fun vs H1 => sp vs H1 Q (E σ)) : tCallS sp E tl σ H Q := h
theorem pe_cXT {X : Cx} {k j : Nat} {x : Str} {sp : Sp} {W : WX} {p pos : Pos} {e : Expr} {es : List Expr} {t : TA} (c : CalX X.prog X.w X.K X.mg X.base k x sp) (hr : Room j X.A) (hk : k ≤ j) (hg : Gl X x) (tk : Takes X W) (ha : PA X (e :: es) t) (hdb : (x == ("__debug__" : Str)) = false := by decide)
    (he : starEach (e :: es) X.env = (false, eval e X.env) :: starEach es X.env := by rfl) (hpl : (backTo pos (starEach es X.env)).any (·.1) = false := by rfl) : PE X (.Call (.Name x p) (e :: es) [] pos) (tCallS sp (WE W) t) := by
  obtain ⟨f, fd, ps, F, hm, kp, hbd⟩ := c.ex
  refine ⟨fun pins s σ H Q J0 h => ?_⟩
  exact wpAny_Call_Name_kw (ld_glob J0 hg hm (PySem.W.callWith_K (h₀ := X.base) J0.ok.mod.kin kp (thn (ha.run pos pins s σ H _ J0 h) fun us s1 ⟨vs, H1, J1, rel, q⟩ => ⟨J1.kIn, run_fnS F (hr.mono hk) hbd (passAt tk σ) J1 rel q⟩) he hpl) hdb)
end GX
namespace GX
open PySem L2 G
def oInsert : V → List V → Hp → VK → Prop := fun x vs H Q => ∃ (l : Addr) (xs : List V) (i : Int) (y : V), x = .ref l ∧ vs = [.int i, y] ∧ H l = some (.lst xs) ∧ xs.length < sizeLine ∧ 0 ≤ i ∧ i < 2 ^ 63 ∧ Q .non (upd H l (.lst (xs.take i.toNat ++ [y] ++ xs.drop i.toNat)))
theorem mt_ins {X : Cx} : MtR X "list.insert" oInsert := mt_insert
theorem w_insert {H : Hp} {Q : VK} {p : Addr} {xs : List V} {i : Int} {y : V} (h : H p = some (.lst xs)) (hz : xs.length ≤ 900) (h0 : 0 ≤ i) (h1 : i < 1000000) (q : ∀ zs, Q .non (upd H p (.lst zs))) : oInsert (.ref p) [.int i, y] H Q :=
  ⟨p, xs, i, y, rfl, rfl, h, small1000 (by omega), h0, by omega, q _⟩
end GX

/-! ### several except clauses with names; walks over what is a list or a tuple -/
namespace GY
open PySem PySem.Spec PyProof.Rows L2
abbrev Cls3 := Value × Nat × (Addr → Value → Option Addr → TS)
def wManyAs (K : PySem.W.Frag) (Wout : WX) (D : Ends) : List Cls3 → WX
  | [] => Wout
  | (c, i, ts) :: r => fun cls d σ H => ∃ b, PySem.W.exmOne K cls c = some b ∧
      (b = true → ∀ a, H a = none → ts a cls d { nx := fun σ' H' => D.nx (σ'.set i none) H', rt := D.rt, bk := fun σ' H' => D.bk (σ'.set i none) H', ct := fun σ' H' => D.ct (σ'.set i none) H' } (σ.set i (some (.ref a))) H) ∧
      (b = false → wManyAs K Wout D r cls d σ H)
inductive HdsAs (X : Cx) : List ExceptHandler → List Cls3 → Prop
  | nil : HdsAs X [] []
  | cons {x n : Str} {c : Value} {i : Nat} {ts : Addr → Value → Option Addr → TS} {b₀ : Stmt} {suite : List Stmt} {np pos' : Pos} {hds : List ExceptHandler} {l : List Cls3} (hi : X.N[i]? = some n) (hln : X.env.kindOf n = some .local) (hc : Names X x c)
      (hsu : ∀ (a : Addr) (oe : Obj) (cls : Value) (d : Option Addr) (pn : List (Addr × Obj)), Zc cls d oe → (∃ vs, oe.data = .fields vs) → PSs (X.suite a ((a, oe) :: pn)) (b₀ :: suite) (ts a cls d)) (r : HdsAs X hds l) :
      HdsAs X (.ExceptHandler (some (.Name x np)) (some n) (b₀ :: suite) pos' :: hds) ((c, i, ts) :: l)
def tTryMany (K : PySem.W.Frag) (l : List Cls3) (tb : WX → TS) : TS := fun D σ H => tb (wManyAs K (fun _ _ _ _ => False) D l) D σ H
section
variable {X : Cx} {body : List Stmt} {h₀ : ExceptHandler} {hds : List ExceptHandler} {l : List Cls3} {pos : Pos} {tb : WX → TS}
theorem ps_try_manyAs (hs : X.stack = X.env :: X.outer) (hf : X.env.frame = some X.env.locals) (hN : X.N.Nodup) (tk : Takes X (fun _ _ _ _ => False))
    (hb : ∀ (W : WX) (pn : List (Addr × Obj)) (xe : Value → Shared → Prop), Takes (X.tr pn xe) W → PassesOwn (model X.prog X.w) X.A X.env xe → PSs (X.tr pn xe) body (tb W))
    (hh : HdsAs X (h₀ :: hds) l) : PS X (.Try body (h₀ :: hds) [] [] pos) (tTryMany X.K l tb) := by
  refine ⟨fun pins s σ H D I h => ?_⟩
  have ok := I.ok
  have hfr : X.A.frames = some (X.env :: X.outer) := by rw [ok.frames, hs]
  refine wpAny_Try_except ?_
  refine wpAny_mono ((hb (wManyAs X.K (fun _ _ _ _ => False) D l) (X.pn ++ pins) (fun e s₁ => wpAny (model X.prog X.w) X.A (noteFrame e X.env) (fun _ s₂ => wpAny (model X.prog X.w) X.A (setFlight e none) (fun _ s₃ =>
    wpAny (model X.prog X.w) X.A (handleBy e X.env (h₀ :: hds)) (SP X pins D) X.xe s₃) X.xe s₂) X.xe s₁) (fun u s' xx => ?_) PassesOwn.looking).run [] s σ H D (I.toTry _) h) (fun f s1 hsp => ?_) (fun e s1 he => he)
  · obtain ⟨a, B, sI, pins', σ', H', cls, d, rfl, J', nb, up, sky, na, os, ag, w⟩ := xx
    have J : Inv X pins σ' H' sI := J'.ofTry ok
    have sky' : Sky B (X.env :: X.outer) a (Zc cls d) X.env.locals s'.heap := by rw [← hs]; exact sky
    show wpAny (model X.prog X.w) X.A (noteFrame (.ref a) X.env) _ _ _
    refine Sky.land Zc.steady hfr hf sky' fun h3 fl3 up3 => ?_
    have J3 : Inv X pins σ' H' { s' with heap := h3 } := J.landed nb fl3.1 (up.trans up3) os ag
    obtain ⟨oe3, vs3, he3, hz3, hd3⟩ := fl3.there
    have notFr : ∀ {h : Heap} {o : Obj} {vs : Array Value}, h.FunFrames B (X.env :: X.outer) → h.get? a = some o → o.data = .fields vs → a ∉ frs (X.env :: X.outer) := fun {h o vs} ff e dd hm => by
      obtain ⟨_, o', e', hnf⟩ := ff.mem hm
      rw [e] at e'; cases e'
      exact hnf _ dd
    have nfr := notFr fl3.2.2.1 he3 hd3
    have nL : a ≠ X.env.locals := fun z => nfr (List.mem_filterMap.mpr ⟨X.env, List.mem_cons_self, by rw [hf, z]⟩)
    have nF : a ∉ X.fs := fun hm => by
      obtain ⟨e, he, q⟩ := List.mem_filterMap.mp hm
      exact nfr (List.mem_filterMap.mpr ⟨e, List.mem_cons_of_mem _ he, q⟩)
    have S3 := J3.suite he3 hd3 na nL nF
    have go : ∀ {hds' : List ExceptHandler} {l' : List Cls3}, HdsAs X hds' l' → wManyAs X.K (fun _ _ _ _ => False) D l' cls d σ' H' →
        wpAny (model X.prog X.w) X.A (handleBy (.ref a) X.env hds') (SP X pins D) X.xe { s' with heap := h3 } := by
      intro hds' l' hk
      induction hk with
      | nil => exact fun w => w.elim
      | @cons x n c i ts b₀ suite np pos' hds2 l2 hi hln hc hsu r ih =>
        intro w
        have hloc : Loc X.env.scope n := .inl hln
        obtain ⟨b, hb1, hyes, hno⟩ := w
        refine wpAny_handleBy_cons (codeAny_handlers_test ?_) (by intro q; cases q)
        have LT : PySem.W.Looks (model X.prog X.w) h3 (typeOf (.ref a)) cls := fun A Q E s k q => wpAny_typeOf_ref (k _ _ he3) (by rw [hz3.1]; exact q)
        have LM := PySem.W.exm_one (M := model X.prog X.w) (J3.kIn) LT hb1
        have test : ∀ {Q : Value → Shared → Prop} {E : Value → Shared → Prop}, Q c { s' with heap := h3 } → wpAny (model X.prog X.w) (X.A.mark (some (.ref a))) (eval (.Name x np) X.env) Q E { s' with heap := h3 } := fun {Q E} q => by
          obtain ⟨hg, hdbg, hm | ⟨hm, hv, hnn⟩⟩ := hc
          · exact ld_glob (X := X.suite a ((a, oe3) :: (X.pn ++ pins))) S3 hg hm q hdbg
          · exact ld_blt (X := X.suite a ((a, oe3) :: (X.pn ++ pins))) S3 hg hm hv q hnn hdbg
        refine test (LM.here ?_)
        cases b with
        | true =>
          refine codeAny_handlers_suite_as ?_
          refine HandSPX.lands_againZ fl3 fun h4 fl4 up4 => ?_
          have J4 : Inv X pins σ' H' { s' with heap := h4 } := J.landed nb fl4.1 ((up.trans up3).trans up4) os ag
          obtain ⟨oe4, vs4, he4, hz4, hd4⟩ := fl4.there
          have S4 := J4.suite he4 hd4 na nL nF
          refine store_ok (X := X.suite a ((a, oe4) :: (X.pn ++ pins))) (v := .ref a) S4 hN hi hloc rfl (fun s5 S5 => ?_) (.inr hln)
          refine wpAny_mono ((hsu a oe4 cls d (X.pn ++ pins) hz4 ⟨_, hd4⟩).run [] s5 _ H' _ S5 (hyes rfl a na)) (fun f s6 hsp => ?_) (fun _ _ z => False.elim z)
          have end_ : ∀ {σ6 : L2.St} {H6 : Hp} {Q : Shared → Prop}, Inv (X.suite a ((a, oe4) :: (X.pn ++ pins))) [] σ6 H6 s6 → (∀ s7, Inv X pins (σ6.set i none) H6 s7 → Q s7) →
              wpAny (model X.prog X.w) X.A (do bindName X.env n .none; unbindBehindTheSuite X.env n pos') (fun _ s7 => Q s7) X.xe s6 := fun {σ6 H6 Q} S6 hq => gone_ok (S6.unsuite ok) hN hi hln hq
          cases f with
          | next =>
            obtain ⟨σ6, H6, S6, q6⟩ := hsp
            exact end_ S6 fun s7 J7 => ⟨_, _, J7, q6⟩
          | brk =>
            obtain ⟨σ6, H6, S6, q6⟩ := hsp
            exact end_ S6 fun s7 J7 => ⟨_, _, J7, q6⟩
          | cont =>
            obtain ⟨σ6, H6, S6, q6⟩ := hsp
            exact end_ S6 fun s7 J7 => ⟨_, _, J7, q6⟩
          | ret u =>
            obtain ⟨v6, σ6, H6, S6, r6, q6⟩ := hsp
            exact end_ S6 fun s7 J7 => ⟨_, _, _, J7, r6, q6⟩
        | false =>
          show wpAny _ X.A (handleBy (.ref a) X.env hds2) _ _ _
          exact ih (hno rfl)
    exact go hh w
  · cases f with
    | next =>
      obtain ⟨σ', H', J', q⟩ := hsp
      exact wpAny_execs_nil ⟨σ', H', J'.ofTry ok, q⟩
    | brk =>
      obtain ⟨σ', H', J', q⟩ := hsp
      exact ⟨σ', H', J'.ofTry ok, q⟩
    | cont =>
      obtain ⟨σ', H', J', q⟩ := hsp
      exact ⟨σ', H', J'.ofTry ok, q⟩
    | ret u =>
      obtain ⟨v, σ', H', J', r, q⟩ := hsp
      exact ⟨v, σ', H', J'.ofTry ok, r, q⟩
end
/-- what is walked: a list or a tuple -/
def iSeq (K : PySem.W.Frag) (tl : TE) : TI := fun σ H R => tl σ H fun x H1 => ∃ a, x = .ref a ∧ (((∃ xs, SqL K H1 a xs) ∧ R (Itl K a) H1) ∨ ((∃ xs, SqT K H1 a xs) ∧ R (Itt K a) H1))
theorem pi_seq {X : Cx} {tg l : Expr} {tl : TE} (hl : PE X l tl) : PI X tg l (iSeq X.K tl) := by
  refine ⟨fun pins s σ H R I h => ?_⟩
  refine thn (hl.run pins s σ H _ I h) fun v s1 ⟨x, H1, I1, r1, a, e, q⟩ => ?_
  subst e
  cases r1
  rcases q with ⟨⟨xs, hq⟩, q⟩ | ⟨⟨xs, hq⟩, q⟩
  · obtain ⟨its, rv, p, _⟩ := I1.list hq
    refine wpAny_pyIter_list p.isList ?_
    refine ⟨s1.heap.objs.size, [s1.heap.objs.size], _, _, H1, rfl, I1.kept (t' := s1.toks) fun b o e => Heap.get?_push_of_some _ e, turn_list a _, ⟨_, Heap.get?_push_size _ rfl, rfl, rfl⟩, fun b hb => ?_, q⟩
    obtain rfl : b = s1.heap.objs.size := by simpa using hb
    exact I1.fpOk (Nat.le_refl _) (I1.hok.fresh (Nat.le_refl _))
  · obtain ⟨its, rv, p, _⟩ := I1.tuple hq
    refine wpAny_pyIter_tuple (show s1.heap.IsTuple a its.toArray from p) ?_
    refine ⟨s1.heap.objs.size, [s1.heap.objs.size], _, _, H1, rfl, I1.kept (t' := s1.toks) fun b o e => Heap.get?_push_of_some _ e, turn_tuple a _, ⟨_, Heap.get?_push_size _ rfl, rfl, rfl⟩, fun b hb => ?_, q⟩
    obtain rfl : b = s1.heap.objs.size := by simpa using hb
    exact I1.fpOk (Nat.le_refl _) (I1.hok.fresh (Nat.le_refl _))
end GY

namespace G
open PySem PySem.Spec PyProof.Rows L2
/-! ### any(xs) of a list of ints -/
theorem truth_ints {prog : Program} {w : World} {A : Around} {ns : List Int} {its : List Value} (rv : Vals (ns.map V.int) its) :
    TruthOf prog w A (fun i v => its.toArray[i]? = some v) (fun i => (ns.map fun z => z != 0).getD i false) := fun i v s Q E hv hq => by
  have hv' : its[i]? = some v := by simpa using hv
  obtain ⟨x, hx, r⟩ := Paired.at rv hv'
  rw [List.getElem?_map] at hx
  obtain ⟨n, hn, rfl⟩ := Option.map_eq_some_iff.mp hx
  obtain ⟨t, rfl⟩ := r
  have hg : (ns.map fun z => z != 0).getD i false = (n != 0) := by rw [List.getD_eq_getElem?_getD, List.getElem?_map, hn] <;> rfl
  have hq' : Q ((ns.map fun z => z != 0).getD i false) s := hq
  rw [hg] at hq'
  exact PySem.P.truthy_int hq'
def rAnyI (K : PySem.W.Frag) : List V → Hp → VK → Prop := fun vs H Q => ∃ (a : Addr) (ns : List Int), vs = [V.ref a] ∧ SqL K H a (ns.map V.int) ∧ Q (.bl (ns.any fun z => decide (z ≠ 0))) H
theorem cr_anyI {X : Cx} (hc : X.calm = true) : CallR X (.builtin "any") (rAnyI X.K) := by
  intro pins s σ H vs us Q I r h
  obtain ⟨a, ns, rfl, hs, q⟩ := h
  obtain ⟨its, rv, hl, _⟩ := I.list hs
  rw [Vals.ref1 r]
  have hlen := rv.length
  refine call_any_walk (iter_any hl.isList fun s₂ e2 st hne => ?_)
  subst e2
  refine ⟨_, _, _, _, _, _, _, rfl, Walks.list (A := X.A.in1) (I.ok.hd hc) _ a hne its.toArray, st, truth_ints rv, fun h' tk hk => ?_⟩
  refine ⟨.bl _, H, I.kept fun b o eo => hk b o (fun hmem => ?_) (Heap.get?_push_of_some _ eo), ?_, q⟩
  · rcases List.mem_cons.mp hmem with e1 | hmem
    · exact absurd (e1 ▸ Heap.lt_size eo) (Nat.lt_irrefl _)
    · cases hmem
  · show Value.bool _ = Value.bool _
    rw [show its.toArray.size = (ns.map fun z => z != 0).length by rw [List.size_toArray, ← hlen, List.length_map, List.length_map], L2.any_range, List.any_map]
    congr 1
    apply congrArg (ns.any)
    funext z
    by_cases hz : z = 0 <;> simp [hz]
theorem w_anyI {K : PySem.W.Frag} {H : Hp} {Q : VK} {p : Addr} {ns : List Int} (h : SqL K H p (ns.map V.int)) (q : Q (.bl (ns.any fun z => decide (z ≠ 0))) H) : rAnyI K [.ref p] H Q := ⟨p, ns, rfl, h, q⟩
/-! ### comprehensions over enumerate(list) -/
section
variable {K : PySem.W.Frag} {σ : L2.St} {H : Hp} {Q : VK} {tt : TT} {te : TE} {tl : TA}
theorem w_lcE {g : TG} {vs : List Nat} (h : tl σ H fun us H1 => ∃ a xs, us = [.ref a] ∧ SqL K H1 a xs ∧ LcW (Ite K a) g tt te vs σ H1 Q) : tLc (iEnum K tl) g tt te vs σ H Q := h
theorem lcE {a : Addr} {xs : List V} {g : TG} {vs : List Nat} (Pv : Addr → Nat → Hp → Prop) (h0 : ∀ Dl, H Dl = none → Pv Dl 0 (upd H Dl (.lst []))) (hl : ∀ Dl i H1, H Dl = none → i ≤ xs.length → Pv Dl i H1 → SqL K H1 a xs)
    (hs : ∀ Dl i x T H1, H Dl = none → xs[i]? = some x → Pv Dl i H1 → H1 T = none → g (.ref T) (wipe σ vs) (upd H1 T (.tup [.int (i : Nat), x])) fun σ2 H2 => wipe σ2 vs = wipe σ vs ∧ LcT tt te Dl (Pv Dl (i + 1)) σ2 H2)
    (hd : ∀ Dl H1, H Dl = none → Pv Dl xs.length H1 → Q (.ref Dl) H1) : LcW (Ite K a) g tt te vs σ H Q :=
  fun Dl hD => lc_it (walk_enum (K := K) (a := a) (xs := xs)) (Pv Dl) (h0 Dl hD) (fun i H1 hi p => hl Dl i H1 hD hi p) (fun i x H1 H' hi p y => by
    obtain ⟨T, u, v, rfl, hT, rfl, e1, e2⟩ := y
    have e1 := Option.some.inj e1
    subst e1
    exact hs Dl i v T H1 hD e2 p hT) (fun H1 p => hd Dl H1 hD p)
theorem w_enumSq {a : Addr} {xs : List V} {P : Addr → Prop} (h : SqL K H a xs) (q : P a) : ∃ b ys, [V.ref a] = [.ref b] ∧ SqL K H b ys ∧ P b := ⟨a, xs, rfl, h, q⟩
end
/-! ### ints in lists: deep equality -/
theorem dp_is {K : PySem.W.Frag} {H : Hp} : ∀ xs : List Int, DpAll K H (xs.map V.int) (xs.map PyData.int)
  | [] => .nil
  | x :: xs => .cons (.int x) (dp_is xs)
theorem dp_ints {K : PySem.W.Frag} {H : Hp} {p : Addr} {xs : List Int} (h : SqL K H p (xs.map V.int)) : Dp K H (.ref p) (.list (xs.map PyData.int)) := .lst h (dp_is xs)
theorem di_lay : ∀ xs : List Int, PyData.canLayAll0 (xs.map PyData.int) = true
  | [] => rfl
  | x :: xs => by
    rw [List.map_cons]
    show (PyData.canLay0 (.int x) && PyData.canLayAll0 (xs.map PyData.int)) = true
    rw [di_lay xs]; rfl
theorem di_depth : ∀ xs : List Int, PyData.depthAll (xs.map PyData.int) = 0
  | [] => rfl
  | x :: xs => by
    rw [List.map_cons]
    show max (PyData.depth (.int x)) (PyData.depthAll (xs.map PyData.int)) = 0
    rw [di_depth xs]; rfl
theorem di_shaped (xs : List Int) : SeqAt.shaped (.list (xs.map PyData.int)) = true := by
  have h1 : PyData.canLay0 (.list (xs.map PyData.int)) = true := di_lay xs
  have h2 : PyData.depth (.list (xs.map PyData.int)) ≤ 64 := by
    show PyData.depthAll (xs.map PyData.int) + 1 ≤ 64
    rw [di_depth]; decide
  show (PyData.canLay0 (.list (xs.map PyData.int)) && decide (PyData.depth (.list (xs.map PyData.int)) ≤ 64)) = true
  rw [h1, decide_eq_true h2]; rfl
theorem di_eqv : ∀ xs ys : List Int, PyData.eqvAll (xs.map PyData.int) (ys.map PyData.int) = decide (xs = ys)
  | [], [] => rfl
  | [], y :: ys => by simp [PyData.eqvAll]
  | x :: xs, [] => by simp [PyData.eqvAll]
  | x :: xs, y :: ys => by
    rw [List.map_cons, List.map_cons]
    simp only [PyData.eqvAll, PyData.eqv, di_eqv xs ys]
    by_cases h : x = y
    · by_cases h2 : xs = ys <;> simp [h, h2]
    · simp [h]
theorem w_neI2 {K : PySem.W.Frag} {H : Hp} {Q : VK} {p q : Addr} {xs ys : List Int} (hp : SqL K H p (xs.map V.int)) (hq : SqL K H q (ys.map V.int)) (k : Q (.bl (!decide (xs = ys))) H) : rNeD K (.ref p) (.ref q) H Q := by
  refine ⟨_, _, dp_ints hp, dp_ints hq, di_shaped xs, di_shaped ys, ?_⟩
  show Q (.bl (!PyData.eqvAll (xs.map PyData.int) (ys.map PyData.int))) H
  rw [di_eqv]; exact k
theorem w_eqI2 {K : PySem.W.Frag} {H : Hp} {Q : VK} {p q : Addr} {xs ys : List Int} (hp : SqL K H p (xs.map V.int)) (hq : SqL K H q (ys.map V.int)) (k : Q (.bl (decide (xs = ys))) H) : rEqD K (.ref p) (.ref q) H Q := by
  refine ⟨_, _, dp_ints hp, dp_ints hq, di_shaped xs, di_shaped ys, ?_⟩
  show Q (.bl (PyData.eqvAll (xs.map PyData.int) (ys.map PyData.int))) H
  rw [di_eqv]; exact k
end G
local macro_rules | `(tactic| walk_at "call") => `(tactic| first
  | (refine' G.w_anyI ?g1 ?_; (case g1 => walk_at "sq")) | refine' G.w_lcE ?_ | (refine' G.w_enumSq ?g1 ?_; (case g1 => walk_at "sq"))
  | (refine' G.w_neI2 ?g1 ?g2 ?_; (case g1 => walk_at "sq"); (case g2 => walk_at "sq")) | (refine' G.w_eqI2 ?g1 ?g2 ?_; (case g1 => walk_at "sq"); (case g2 => walk_at "sq")))

namespace G
open PySem L2
/-! ### more words -/
section
variable {K : PySem.W.Frag} {σ : L2.St} {H : Hp} {Q : VK} {D : Ends} {v x y : V} {ta te : TE} {p : Addr}
theorem w_tru {Qb : Bool → Hp → Prop} (h : ta σ H fun x H' => ∃ k, TruV K x H' k ∧ Qb k H') : tTruK K ta σ H Qb := h
theorem w_truL {xs : List V} {Qb : Bool → Prop} (h : SqL K H p xs) (q : Qb (!xs.isEmpty)) : ∃ k, TruV K (.ref p) H k ∧ Qb k := ⟨_, .inl ⟨xs, h, rfl⟩, q⟩
theorem w_revL (h : te σ H fun x H1 => ∃ a xs, x = .ref a ∧ SqL K H1 a xs ∧ ∀ p, H1 p = none → Q (.ref p) (upd H1 p (.lst xs.reverse))) : tRevL K te σ H Q := h
theorem w_revL2 {xs : List V} {P : Addr → List V → Prop} (h : SqL K H p xs) (q : P p xs) : ∃ a ys, V.ref p = .ref a ∧ SqL K H a ys ∧ P a ys := ⟨p, xs, rfl, h, q⟩
theorem w_rep {xs : List V} {k : Int} (h : H p = some (.lst xs)) (h0 : -4611686018427387904 ≤ k) (h1 : k < 4611686018427387904) (hl : xs.length * k.toNat ≤ sizeLine)
    (q : ∀ l, H l = none → Q (.ref l) (upd H l (.lst (List.replicate k.toNat xs).flatten))) : rRep (.ref p) (.int k) H Q := ⟨p, k, xs, rfl, rfl, h, by omega, by omega, hl, q⟩
theorem w_isNr (h : ta σ H fun x H1 => Q (.bl (decide (x = .non))) H1) : tIsN ta σ H Q := h
theorem w_notN (h : ta σ H fun x H1 => Q (.bl (!decide (x = .non))) H1) : tNotN ta σ H Q := h
theorem w_any {bs : List Bool} (h : SqL K H p (bs.map V.bl)) (q : Q (.bl (bs.any id)) H) : rAny K [.ref p] H Q := ⟨p, bs, rfl, h, q⟩
theorem w_all {bs : List Bool} (h : SqL K H p (bs.map V.bl)) (q : Q (.bl (bs.all id)) H) : rAll K [.ref p] H Q := ⟨p, bs, rfl, h, q⟩
theorem w_isT {t u : String} {b : Bool} (ty : TyX K H x (.type t)) (e : PySem.W.kitOne K (.type t) (.type u) = some b) (q : Q (.bl b) H) : rIsi K [x, .ty u] H Q :=
  ⟨x, .ty u, .type t, .type u, b, rfl, ClsV.ty u, ty, e, q⟩
theorem w_isII {a : Int} (q : Q (.bl true) H) : rIsi K [.int a, .ty "int"] H Q := w_isT (t := "int") (b := true) (TyX.base (TyOf.int a)) (kit_ty (by decide +kernel)) q
theorem w_isIB {a : Int} (q : Q (.bl false) H) : rIsi K [.int a, .ty "bool"] H Q := w_isT (t := "int") (b := false) (TyX.base (TyOf.int a)) (kit_ty (by decide +kernel)) q
theorem w_isBB {a : Bool} (q : Q (.bl true) H) : rIsi K [.bl a, .ty "bool"] H Q := w_isT (t := "bool") (b := true) (TyX.base (TyOf.bl a)) (kit_ty (by decide +kernel)) q
theorem w_isLL {xs : List V} (h : H p = some (.lst xs)) (q : Q (.bl true) H) : rIsi K [.ref p, .ty "list"] H Q := w_isT (t := "list") (b := true) (TyX.base (TyOf.lst h)) (kit_ty (by decide +kernel)) q
end
theorem w_iteNT {A B : Prop} (h : B) : if (!true) = true then A else B := h
theorem w_iteNF {A B : Prop} (h : A) : if (!false) = true then A else B := h
theorem w_iteRf {α : Type} {a : α} {i : Decidable (a = a)} {A B : Prop} (h : A) : if (@decide (a = a) i) = true then A else B := by rw [decide_eq_true rfl]; exact h
theorem w_iteNRf {α : Type} {a : α} {i : Decidable (a = a)} {A B : Prop} (h : B) : if (!(@decide (a = a) i)) = true then A else B := by rw [decide_eq_true rfl]; exact h
theorem at_of {xs : List V} {k : Int} {j : Nat} {v : V} (e : k = (j : Int)) (h : xs[j]? = some v) : atI xs k = some v := atn e h
/-! ### the draws -/
def sp_law_bag (K : PySem.W.Frag) (A : CA) : Sp := fun vs H Q _ => ∃ (a : Addr) (k : Int) (ns : List Int), vs = [.ref a, .int k] ∧ SqL K H a (ns.map V.int) ∧ 0 ≤ k ∧ k ≤ 1000 ∧ ns.length ≤ 63 ∧
  ∀ (s : Addr) (H' : Hp), H s = none → Same H H' → Src H' s → Q (.ref s) H'
def sp_law_take (K : PySem.W.Frag) (A : CA) : Sp := fun vs H Q _ => ∃ (s : Addr) (n : Int), vs = [.ref s, .int n] ∧ Src H s ∧ 0 < n ∧ n < 1073741824 ∧
  ∀ (r : Int) (H' : Hp), 0 ≤ r → r < n → But s H H' → Src H' s → Q (.int r) H'
def sp_law_copies (K : PySem.W.Frag) (A : CA) : Sp := fun vs H Q _ => ∃ (s : Addr), vs = [.ref s] ∧ Src H s ∧
  ∀ (r : Int) (H' : Hp), 1 ≤ r → r ≤ 70 → But s H H' → Src H' s → Q (.int r) H'
theorem i_take {K : PySem.W.Frag} {A : CA} {H : Hp} {Q : VK} {E : XK} {s : Addr} {n : Int} (hs : Src H s) (h0 : 0 < n) (h1 : n < 1073741824)
    (k : ∀ (r : Int) (H' : Hp), 0 ≤ r → r < n → But s H H' → Src H' s → Q (.int r) H') : sp_law_take K A [.ref s, .int n] H Q E := ⟨s, n, rfl, hs, h0, h1, k⟩
theorem i_copies {K : PySem.W.Frag} {A : CA} {H : Hp} {Q : VK} {E : XK} {s : Addr} (hs : Src H s)
    (k : ∀ (r : Int) (H' : Hp), 1 ≤ r → r ≤ 70 → But s H H' → Src H' s → Q (.int r) H') : sp_law_copies K A [.ref s] H Q E := ⟨s, rfl, hs, k⟩
theorem i_bag {K : PySem.W.Frag} {A : CA} {H : Hp} {Q : VK} {E : XK} {a : Addr} {k : Int} {ns : List Int} (h : SqL K H a (ns.map V.int)) (hl : ns.length ≤ 63) (h0 : 0 ≤ k) (h1 : k ≤ 1000)
    (q : ∀ (s : Addr) (H' : Hp), H s = none → Same H H' → Src H' s → Q (.ref s) H') : sp_law_bag K A [.ref a, .int k] H Q E := ⟨a, k, ns, rfl, h, h0, h1, hl, q⟩
end G
local macro_rules | `(tactic| walk_at "call") => `(tactic| first
  | refine' G.w_iteNT ?_ | refine' G.w_iteNF ?_ | refine' G.w_iteRf ?_ | refine' G.w_iteNRf ?_ | refine' G.w_tru ?_ | (refine' G.w_truL ?g1 ?_; (case g1 => walk_at "sq")) | refine' G.w_revL ?_ | (refine' G.w_revL2 ?g1 ?_; (case g1 => walk_at "sq"))
  | (refine' G.w_rep ?g1 ?g2 ?g3 ?g4 ?_; (case g1 => walk_at "hp"); (case g2 => walk_at "ar"); (case g3 => walk_at "ar"); (case g4 => walk_at "sz"))
  | refine' G.w_isNr ?_ | refine' G.w_notN ?_ | refine' G.w_isII ?_ | refine' G.w_isIB ?_ | refine' G.w_isBB ?_ | (refine' G.w_isLL ?g1 ?_; (case g1 => walk_at "hp"))
  | (refine' G.i_take ?g1 ?g2 ?g3 ?_; (case g1 => walk_at "src"); (case g2 => walk_at "ar"); (case g3 => walk_at "ar"))
  | (refine' G.i_copies ?g1 ?_; (case g1 => walk_at "src"))
  | (refine' G.i_bag ?g1 ?g2 ?g3 ?g4 ?_; (case g1 => walk_at "sq"); (case g2 => walk_at "ar"); (case g3 => walk_at "ar"); (case g4 => walk_at "ar")))
namespace G
open PySem L2
def t_law_bag (K : PySem.W.Frag) (A : CA) : TS :=
  (tSeq (tAsg (tOp oAdd (tC (.int 104729)) (tOp oMul (tC (.int 7919)) (tVar 1))) (gName 2))
  (tSeq (tIfS (tTest (tOp oLt (tVar 1) (tCB (rLenQ K) (tCons (tVar 0) tNil)))) (tAsg (tOp (rIxL K) (tVar 0) (tVar 1)) (gName 2)) (tIfS (tTruK K (tVar 0)) (tAsg (tOp oAdd (tVar 2) (tOp oMod (tCB oInt (tCons (tOp oMul (tOp (rIxL K) (tVar 0) (tC (.int 0))) (tC (.int 31))) tNil)) (tC (.int 1000003)))) (gName 2)) tNext))
  (tSeq (tIfS (tTest (tOp oGe (tCB oAbs (tCons (tVar 2) tNil)) (tOp oPow (tC (.int 10)) (tC (.int 18))))) (tRet (tLst (tCons (tCB oAbs (tCons (tVar 2) tNil)) (tCons (tVar 2) (tCons (tC (.int 0)) (tCons (tVar 1) tNil)))))) tNext)
  (tRet (tLst (tCons (tC (.int 0)) (tCons (tVar 2) (tCons (tC (.int 0)) (tCons (tVar 1) tNil)))))))))
def t_law_take (K : PySem.W.Frag) (A : CA) : TS :=
  (tSeq (tAsg (tOp oAdd (tOp (rIxL K) (tVar 0) (tC (.int 2))) (tC (.int 1))) (gSub (tVar 0) (tC (.int 2)) rSetL))
  (tSeq (tIfS (tTest (tOp oGt (tOp (rIxL K) (tVar 0) (tC (.int 0))) (tC (.int 0)))) (tSeq (tAsg (tOp oMod (tCB oInt (tCons (tOp (rIxL K) (tVar 0) (tC (.int 0))) tNil)) (tVar 1)) (gName 2))
  (tSeq (tAsg (tOp oDiv (tOp (rIxL K) (tVar 0) (tC (.int 0))) (tVar 1)) (gSub (tVar 0) (tC (.int 0)) rSetL))
  (tRet (tVar 2)))) tNext)
  (tSeq (tAsg (tOp oMod (tCB oInt (tCons (tOp oAdd (tOp oAdd (tOp oAdd (tOp oMul (tOp (rIxL K) (tVar 0) (tC (.int 1))) (tC (.int 48271))) (tOp oMul (tOp (rIxL K) (tVar 0) (tC (.int 2))) (tC (.int 69621)))) (tOp oMul (tOp (rIxL K) (tVar 0) (tC (.int 3))) (tC (.int 7919)))) (tC (.int 11))) tNil)) (tC (.int 2147483647))) (gName 3))
  (tSeq (tAsg (tOp oMod (tCB oInt (tCons (tOp oAdd (tOp oAdd (tOp oMul (tVar 3) (tVar 3)) (tOp oMul (tOp (rIxL K) (tVar 0) (tC (.int 2))) (tC (.int 40692)))) (tOp (rIxL K) (tVar 0) (tC (.int 1)))) tNil)) (tC (.int 2147483399))) (gName 4))
  (tSeq (tAsg (tOp oMod (tCB oInt (tCons (tOp oAdd (tOp oMul (tVar 4) (tVar 4)) (tVar 3)) tNil)) (tC (.int 2147483629))) (gName 5))
  (tRet (tOp oMod (tOp oDiv (tVar 5) (tC (.int 16))) (tVar 1))))))))
def t_law_copies (K : PySem.W.Frag) (A : CA) : TS :=
  (tSeq (tIfS (tTest (tOp rEq (tCall (sp_law_take K A) [] E0 (tCons (tVar 0) (tCons (tC (.int 8)) tNil))) (tC (.int 7)))) (tRet (tOp oAdd (tC (.int 1)) (tCall (sp_law_take K A) [] E0 (tCons (tVar 0) (tCons (tC (.int 70)) tNil))))) tNext)
  (tRet (tOp oAdd (tC (.int 1)) (tCall (sp_law_take K A) [] E0 (tCons (tVar 0) (tCons (tC (.int 4)) tNil))))))

variable {K : PySem.W.Frag} {A : CA} {vs : List V} {H : Hp} {Q : VK} {E : XK}
theorem rd_law_bag (h : sp_law_bag K A vs H Q E) : t_law_bag K A { nx := fun _ H' => Q .non H', rt := Q } (start ["script", "k", "cell"] vs) H := by
  obtain ⟨a, k, ns, rfl, hs, h0, h1, h63, q⟩ := h
  unfold t_law_bag
  walk_at "go"
  refine w_iteD (fun hc => ?_) (fun hc => ?_)
  · have hk : k.toNat < ns.length := by
      rw [List.length_map] at hc; omega
    have hx : atI (ns.map V.int) k = some (V.int ns[k.toNat]) := at_of (j := k.toNat) (by omega) (by simp [hk])
    walk_at "go"
    refine w_iteD (fun _ => ?_) (fun _ => ?_) <;> (walk_at "go"; intro l hl; exact q _ _ hl (same_new hl) ⟨_, _, _, _, upd_same⟩)
  · walk_at "go"
    cases ns with
    | nil =>
      refine w_iteF ?_
      walk_at "go"
      refine w_iteD (fun _ => ?_) (fun _ => ?_) <;> (walk_at "go"; intro l hl; exact q _ _ hl (same_new hl) ⟨_, _, _, _, upd_same⟩)
    | cons n r =>
      refine w_iteT ?_
      have hx : atI ((n :: r).map V.int) 0 = some (V.int n) := at0
      walk_at "go"
      refine w_iteD (fun _ => ?_) (fun _ => ?_) <;> (walk_at "go"; intro l hl; exact q _ _ hl (same_new hl) ⟨_, _, _, _, upd_same⟩)
theorem rd_law_take (h : sp_law_take K A vs H Q E) : t_law_take K A { nx := fun _ H' => Q .non H', rt := Q } (start ["bag", "size", "digit", "first", "second", "third"] vs) H := by
  obtain ⟨s, n, rfl, ⟨x, y, z, u, hs⟩, h0, h1, k⟩ := h
  unfold t_law_take
  walk_at "go"
  refine w_iteD (fun hc => ?_) (fun hc => ?_)
  · walk_at "go"
    exact k _ _ (Int.emod_nonneg _ (by omega)) (Int.emod_lt_of_pos _ h0) But.refl.self.self ⟨_, _, _, _, upd_same⟩
  · walk_at "go"
    exact k _ _ (Int.emod_nonneg _ (by omega)) (Int.emod_lt_of_pos _ h0) But.refl.self ⟨_, _, _, _, upd_same⟩
theorem rd_law_copies (h : sp_law_copies K A vs H Q E) : t_law_copies K A { nx := fun _ H' => Q .non H', rt := Q } (start ["bag"] vs) H := by
  obtain ⟨s, rfl, hs, k⟩ := h
  unfold t_law_copies
  walk_at "go"
  intro r H1 r0 r1 b1 s1
  walk_at "go"
  refine w_iteD (fun hc => ?_) (fun hc => ?_)
  · walk_at "go"
    intro r2 H2 r3 r4 b2 s2
    walk_at "go"
    exact k _ _ (by omega) (by omega) (b1.trans b2) s2
  · walk_at "go"
    intro r2 H2 r3 r4 b2 s2
    walk_at "go"
    exact k _ _ (by omega) (by omega) (b1.trans b2) s2
end G

namespace G
open PySem L2
variable {K : PySem.W.Frag} {A : CA} {vs : List V} {H : Hp} {Q : VK} {E : XK}
/-- chains: numbers from 0 to 60 -/
def Chn (c : List Int) : Prop := ∀ n ∈ c, 0 ≤ n ∧ n ≤ 60
theorem Chn.app {a b : List Int} (h : Chn a) (k : Chn b) : Chn (a ++ b) := fun n hn => by
  rcases List.mem_append.mp hn with q | q
  · exact h n q
  · exact k n q
theorem Chn.set {a : List Int} {i : Nat} {v : Int} (h : Chn a) (h0 : 0 ≤ v) (h1 : v ≤ 60) : Chn (a.set i v) := fun n hn => by
  rcases List.mem_or_eq_of_mem_set hn with q | q
  · exact h n q
  · rw [q]; exact ⟨h0, h1⟩
theorem Chn.sub {a b : List Int} (h : Chn a) (k : ∀ x ∈ b, x ∈ a) : Chn b := fun n hn => h n (k n hn)
theorem Chn.rep {a : List Int} {k : Nat} (h : Chn a) : Chn (List.replicate k a).flatten := h.sub fun x hx => by
  obtain ⟨l, hl, hm⟩ := List.mem_flatten.mp hx
  rw [(List.mem_replicate.mp hl).2] at hm; exact hm
theorem map_rep {a : List Int} {k : Nat} : (List.replicate k (a.map V.int)).flatten = ((List.replicate k a).flatten).map V.int := by
  rw [List.map_flatten, List.map_replicate]
theorem len_rep {α : Type} {a : List α} {k : Nat} : (List.replicate k a).flatten.length = k * a.length := by
  simp [List.length_flatten, List.map_replicate, List.sum_replicate_nat]
theorem snocI (xs : List Int) (z : Int) : xs.map V.int ++ [V.int z] = (xs ++ [z]).map V.int := by rw [List.map_append]; rfl
end G

namespace G
open PySem L2
theorem sIx_nat (n k : Nat) (d : Nat) : HT.sIx n d (some (k : Int)) = min k n := by
  unfold HT.sIx
  simp
  omega
theorem cut_map (c : List Int) (i j : Nat) : cutV (c.map V.int) (some (i : Int)) (some (j : Int)) = ((c.drop i).take (j - i)).map V.int := by
  unfold cutV
  rw [sIx_nat, sIx_nat, List.length_map, ← List.map_drop, ← List.map_take]
  congr 1
  by_cases h : i ≤ c.length
  · rw [show min i c.length = i by omega]
    by_cases h2 : j ≤ c.length
    · rw [show min j c.length = j by omega]
    · rw [show min j c.length = c.length by omega, List.take_of_length_le (by simp), List.take_of_length_le (by simp; omega)]
  · rw [show min i c.length = c.length by omega, List.drop_eq_nil_of_le (Nat.le_refl _), List.drop_eq_nil_of_le (by omega)]
    simp
theorem cut_mapFrom (c : List Int) (i : Nat) : cutV (c.map V.int) (some (i : Int)) none = (c.drop i).map V.int := by
  unfold cutV
  rw [sIx_nat, List.length_map, ← List.map_drop, ← List.map_take]
  congr 1
  show List.take (c.length - _) _ = _
  by_cases h : i ≤ c.length
  · rw [show min i c.length = i by omega, List.take_of_length_le (by simp)]
  · rw [List.drop_eq_nil_of_le (show c.length ≤ i by omega), List.drop_eq_nil_of_le (by omega)]; simp
theorem cut_mapTo (c : List Int) (j : Nat) : cutV (c.map V.int) none (some (j : Int)) = (c.take j).map V.int := by
  unfold cutV
  rw [sIx_nat, List.length_map, ← List.map_drop, ← List.map_take]
  congr 1
  show List.take (_ - 0) (List.drop 0 c) = _
  rw [List.drop_zero, Nat.sub_zero]
  by_cases h : j ≤ c.length
  · rw [show min j c.length = j by omega]
  · rw [List.take_of_length_le (by omega), List.take_of_length_le (by omega)]
variable {K : PySem.W.Frag} {A : CA} {vs : List V} {H : Hp} {Q : VK} {E : XK}
theorem w_oIntB {b : Bool} (q : Q (.int (if b then 1 else 0)) H) : oInt [.bl b] H Q := .inr ⟨b, rfl, q⟩
theorem getI {c : List Int} {i : Nat} {x : V} (h : (c.map V.int)[i]? = some x) : ∃ hi : i < c.length, x = V.int c[i] := by
  rw [List.getElem?_map] at h
  have hi : i < c.length := by
    by_cases hc : i < c.length
    · exact hc
    · rw [List.getElem?_eq_none (by omega)] at h; cases h
  rw [List.getElem?_eq_getElem hi] at h
  exact ⟨hi, (Option.some.inj h).symm⟩
end G
local macro_rules | `(tactic| walk_at "call") => `(tactic| refine' G.w_oIntB ?_)

namespace G
open PySem L2
/-! ### made lists -/
section
variable {K : PySem.W.Frag} {σ : L2.St} {H : Hp} {ta tb : TE} {xs ys : List Int} {k a : Int} {i : Nat}
/-- the expression makes a new list of these ints -/
def Mk (ta : TE) (σ : L2.St) (H : Hp) (xs : List Int) : Prop := ∀ Q : VK, (∀ p H', H p = none → Same H H' → H' p = some (.lst (xs.map V.int)) → Q (.ref p) H') → ta σ H Q
/-- the expression is this int and changes nothing -/
def Iv (tb : TE) (σ : L2.St) (k : Int) : Prop := ∀ (H : Hp) (Q : VK), Q (.int k) H → tb σ H Q
theorem Iv.var (h : σ[i]? = some (some (.int k))) : Iv (tVar i) σ k := fun _ _ q => w_var h q
theorem Iv.c : Iv (tC (.int k)) σ k := fun _ _ q => q
theorem Iv.sub {m : Int} (h : Iv ta σ k) (h2 : Iv tb σ m) : Iv (tOp oSub ta tb) σ (k - m) := fun _ _ q => w_op (h _ _ (h2 _ _ (w_oSub q)))
theorem Iv.add {m : Int} (h : Iv ta σ k) (h2 : Iv tb σ m) : Iv (tOp oAdd ta tb) σ (k + m) := fun _ _ q => w_op (h _ _ (h2 _ _ (w_oAdd q)))
theorem Mk.one (h : Iv ta σ a) : Mk (tLst (tCons ta tNil)) σ H [a] := fun Q q => w_lst (w_cons (h _ _ (w_nil ⟨Nat.le_trans (by simp : [V.int a].length ≤ 1) (by decide), fun p hp => q p _ hp (same_new hp) upd_same⟩)))
theorem Mk.rep (h : Mk ta σ H xs) (h2 : Iv tb σ k) (h0 : -4611686018427387904 ≤ k) (h1 : k < 4611686018427387904) (hl : xs.length * k.toNat ≤ 100000) : Mk (tOp rRep ta tb) σ H (List.replicate k.toNat xs).flatten := fun Q q =>
  w_op (h _ fun p H1 hp e hx => h2 _ _ (w_rep hx h0 h1 (by rw [List.length_map]; exact Nat.le_trans hl (by decide)) fun l hl => q l _ (e.free hl) (e.trans (same_new hl)) (by rw [map_rep]; exact upd_same)))
theorem Mk.cat (h : Mk ta σ H xs) (h2 : ∀ H', Same H H' → Mk tb σ H' ys) (hl : xs.length + ys.length ≤ 100000) : Mk (tOp rCat ta tb) σ H (xs ++ ys) := fun Q q =>
  w_op (h _ fun p H1 hp e hx => h2 H1 e _ fun p2 H2 hp2 e2 hy => w_cat (e2 _ _ hx) hy (by rw [List.length_map, List.length_map]; exact Nat.le_trans hl (by decide)) fun l hl => q l _ ((e.trans e2).free hl) ((e.trans e2).trans (same_new hl)) (by rw [← List.map_append]; exact upd_same))
theorem Mk.same {H' : Hp} (e : Same H H') (h : ∀ H1, Mk ta σ H1 xs) : Mk ta σ H' xs := h H'
end
theorem flat_one {α : Type} (k : Nat) (x : α) : (List.replicate k [x]).flatten = List.replicate k x := by
  induction k with
  | zero => rfl
  | succ k ih => rw [List.replicate_succ, List.flatten_cons, ih]; rfl
end G

namespace G
open PySem L2
def sp_law_is_integer (K : PySem.W.Frag) (A : CA) : Sp := fun vs H Q _ => ∃ (a : Int), vs = [.int a] ∧ Q (.bl true) H
variable {K : PySem.W.Frag} {A : CA} {vs : List V} {H : Hp} {Q : VK} {E : XK}
theorem i_isint {a : Int} (q : Q (.bl true) H) : sp_law_is_integer K A [.int a] H Q E := ⟨a, rfl, q⟩
theorem Same.but2 {H1 H2 : Hp} {s : Addr} (e : Same H H1) (b : But s H1 H2) (hs : H s = none) : Same H H2 := fun p u h => b p u (ne_of_none h hs) (e p u h)
theorem w_neB {a b : Bool} (q : Q (.bl (!decide (a = b))) H) : rNe (.bl a) (.bl b) H Q := ⟨rfl, by
  have e : (decide (V.bl a = V.bl b)) = decide (a = b) := by simp
  rw [e]; exact q⟩
end G
local macro_rules | `(tactic| walk_at "call") => `(tactic| first
  | refine' G.i_isint ?_ | refine' G.w_neB ?_)
namespace G
open PySem L2
def t_law_is_integer (K : PySem.W.Frag) (A : CA) : TS :=
  (tRet (tAndV (tCB (rIsi K) (tCons (tVar 0) (tCons (tC (.ty "int")) tNil))) (tNotV (tCB (rIsi K) (tCons (tVar 0) (tCons (tC (.ty "bool")) tNil))))))

variable {K : PySem.W.Frag} {A : CA} {vs : List V} {H : Hp} {Q : VK} {E : XK}
theorem rd_law_is_integer (h : sp_law_is_integer K A vs H Q E) : t_law_is_integer K A { nx := fun _ H' => Q .non H', rt := Q } (start ["actual"] vs) H := by
  obtain ⟨a, rfl, q⟩ := h
  unfold t_law_is_integer
  walk_at "go"
  exact q
end G

namespace G
open PySem L2
/-- the heights of the program -/
def sp_height_over (K : PySem.W.Frag) (A : CA) : Sp := fun vs H Q _ => ∃ (b n w : Int), vs = [.int b, .int n, .int w] ∧ Q (.int (M.ho b n w)) H
def sp_heights (K : PySem.W.Frag) (A : CA) : Sp := fun vs H Q _ => ∃ (a : Addr) (c : List Int) (w : Int), vs = [.ref a, .int w] ∧ H a = some (.lst (c.map V.int)) ∧ c.length ≤ 1000 ∧
  ∀ (p : Addr) (H' : Hp), H p = none → Same H H' → H' p = some (.lst ((M.hts w c).map V.int)) → Q (.ref p) H'
def hiL (w : Int) (c : List Int) (i : Nat) : List Nat := (List.range i).filter fun j => decide (M.ht w (c.drop j) > w)
def lowV (w : Int) (c : List Int) : V := match (hiL w c c.length).getLast? with
  | none => .non
  | some i => .int (i : Nat)
def sp_lowest_too_high (K : PySem.W.Frag) (A : CA) : Sp := fun vs H Q _ => ∃ (a : Addr) (c : List Int) (w : Int), vs = [.ref a, .int w] ∧ H a = some (.lst (c.map V.int)) ∧ c.length ≤ 1000 ∧
  ∀ (H' : Hp), Same H H' → Q (lowV w c) H'
variable {K : PySem.W.Frag} {A : CA} {vs : List V} {H : Hp} {Q : VK} {E : XK}
theorem i_height_over {b n w : Int} (q : Q (.int (M.ho b n w)) H) : sp_height_over K A [.int b, .int n, .int w] H Q E := ⟨b, n, w, rfl, q⟩
theorem i_heights {a : Addr} {c : List Int} {w : Int} (h : H a = some (.lst (c.map V.int))) (hl : c.length ≤ 1000)
    (q : ∀ (p : Addr) (H' : Hp), H p = none → Same H H' → H' p = some (.lst ((M.hts w c).map V.int)) → Q (.ref p) H') : sp_heights K A [.ref a, .int w] H Q E := ⟨a, c, w, rfl, h, hl, q⟩
theorem i_low {a : Addr} {c : List Int} {w : Int} (h : H a = some (.lst (c.map V.int))) (hl : c.length ≤ 1000) (q : ∀ (H' : Hp), Same H H' → Q (lowV w c) H') : sp_lowest_too_high K A [.ref a, .int w] H Q E := ⟨a, c, w, rfl, h, hl, q⟩
end G
local macro_rules | `(tactic| walk_at "call") => `(tactic| first
  | refine' G.i_height_over ?_
  | (refine' G.i_heights ?g1 ?g2 ?_; (case g1 => walk_at "hp"); (case g2 => walk_at "ar"))
  | (refine' G.i_low ?g1 ?g2 ?_; (case g1 => walk_at "hp"); (case g2 => walk_at "ar")))
namespace G
open PySem L2
def t_height_over (K : PySem.W.Frag) (A : CA) : TS :=
  (tSeq (tIfS (tTest (tOp rEq (tVar 1) (tC (.int 0)))) (tRet (tOp oAdd (tVar 0) (tC (.int 1)))) tNext)
  (tRet (tIf (tAnd (tTest (tOp rEq (tVar 1) (tC (.int 1)))) (tTest (tOp oGe (tVar 0) (tVar 2)))) (tC (.int 1)) (tC (.int 0)))))
def t_heights (K : PySem.W.Frag) (A : CA) : TS :=
  (tSeq (tAsg (tLst tNil) (gName 2))
  (tSeq (tAsg (tC (.int 0)) (gName 3))
  (tSeq (tFor (iList K (tRevL K (tVar 0))) (gName 4)
  (tSeq (tAsg (tCall (sp_height_over K A) [] E0 (tCons (tVar 3) (tCons (tVar 4) (tCons (tVar 1) tNil)))) (gName 3))
  (tDrop (tBM K "list" rAppend (tVar 2) (tCons (tVar 3) tNil)))))
  (tRet (tRevL K (tVar 2))))))
def t_lowest_too_high (K : PySem.W.Frag) (A : CA) : TS :=
  (tSeq (tAsg (tLc (iEnum K (tCons (tCall (sp_heights K A) [] E0 (tCons (tVar 0) (tCons (tVar 1) tNil))) tNil)) (gTup K 2 (gCons (gName 3) (gCons (gName 4) gNil))) (tTest (tOp oGt (tVar 4) (tVar 1))) (tVar 3) [3, 4]) (gName 2))
  (tRet (tIf (tTruK K (tVar 2)) (tOp (rIxL K) (tVar 2) (tUn oNeg (tC (.int 1)))) (tC .non))))

variable {K : PySem.W.Frag} {A : CA} {vs : List V} {H : Hp} {Q : VK} {E : XK}
theorem rd_height_over (h : sp_height_over K A vs H Q E) : t_height_over K A { nx := fun _ H' => Q .non H', rt := Q } (start ["below", "blank", "copies"] vs) H := by
  obtain ⟨b, n, w, rfl, q⟩ := h
  unfold t_height_over
  walk_at "go"
  refine w_iteD (fun hc => ?_) (fun hc => ?_)
  · walk_at "go"
    subst hc; rw [M.ho0] at q; exact q
  walk_at "go"
  unfold M.ho at q
  rw [if_neg hc] at q
  refine w_iteD (fun h1 => ?_) (fun h1 => ?_)
  · walk_at "go"
    refine w_iteD (fun h2 => ?_) (fun h2 => ?_)
    · walk_at "go"
      rw [if_pos ⟨h1, h2⟩] at q; exact q
    · walk_at "go"
      rw [if_neg (fun e => h2 e.2)] at q; exact q
  · walk_at "go"
    rw [if_neg (fun e => h1 e.1)] at q; exact q
theorem rev_map (c : List Int) : (c.map V.int).reverse = (c.reverse).map V.int := List.map_reverse.symm
theorem rd_heights (h : sp_heights K A vs H Q E) : t_heights K A { nx := fun _ H' => Q .non H', rt := Q } (start ["blank", "copies", "found", "height", "number"] vs) H := by
  obtain ⟨a, c, w, rfl, ha, hl, q⟩ := h
  unfold t_heights
  walk_at "go"
  intro f hf
  walk_at "go"
  intro r hr
  rw [rev_map]
  have hf1 : (upd H f (.lst [])) f = some (.lst []) := upd_same
  have nf : f ≠ r := ne_of_none hf1 hr
  have hfr := free_upd hr
  walk_at "go"
  refine forL (xs := c.reverse.map V.int) (fun i σ H' => ∃ k4 : Option V, σ = [some (.ref a), some (.int w), some (.ref f), some (.int (M.hlast w 0 (c.reverse.take i))), k4] ∧ Same H H' ∧ H' r = some (.lst (c.reverse.map V.int)) ∧
    H' f = some (.lst ((M.hscan w 0 (c.reverse.take i)).map V.int))) ?_ ?_ ?_ ?_
  · exact ⟨none, rfl, (same_new hf).trans (same_new hr), upd_same, keepNe hf1 nf⟩
  · rintro i σ H1 hi ⟨k4, rfl, e, h1, h2⟩
    exact .inl (.inl h1)
  · rintro i x σ H1 hx ⟨k4, rfl, e, h1, h2⟩
    rw [List.getElem?_map] at hx
    have hi : i < c.reverse.length := by
      by_cases hc : i < c.reverse.length
      · exact hc
      · rw [List.getElem?_eq_none (by omega)] at hx; cases hx
    rw [List.getElem?_eq_getElem hi] at hx
    have hx : V.int c.reverse[i] = x := Option.some.inj hx
    subst hx
    have hsz : ((M.hscan w 0 (c.reverse.take i)).map V.int).length < sizeLine := by
      rw [List.length_map, M.hscan_length]; exact L2.small1000 (by simp; omega)
    walk_at "go"
    have e2 := M.take_snoc c.reverse i hi
    rw [← M.hlast_snoc, e2]
    refine ⟨_, rfl, same_mut e hf, keepNe h1 nf.symm, ?_⟩
    rw [snocI, ← e2, M.hlast_snoc, M.hscan_snoc]; exact upd_same
  · rintro σ H1 ⟨k4, rfl, e, h1, h2⟩
    rw [List.length_map, List.take_length] at h2
    walk_at "go"
    intro p hp
    rw [rev_map]
    exact q p _ (e.free hp) (e.trans (same_new hp)) upd_same
theorem hiL_succ (w : Int) (c : List Int) (i : Nat) : hiL w c (i + 1) = hiL w c i ++ (if M.ht w (c.drop i) > w then [i] else []) := by
  unfold hiL
  rw [List.range_succ, List.filter_append]
  by_cases h : M.ht w (c.drop i) > w <;> simp [h]
theorem hiL_len (w : Int) (c : List Int) (i : Nat) : (hiL w c i).length ≤ i := by
  unfold hiL; exact Nat.le_trans (List.length_filter_le _ _) (by simp)
theorem rd_lowest_too_high (h : sp_lowest_too_high K A vs H Q E) : t_lowest_too_high K A { nx := fun _ H' => Q .non H', rt := Q } (start ["blank", "copies", "too_high", "page", "height"] vs) H := by
  obtain ⟨a, c, w, rfl, ha, hl, q⟩ := h
  unfold t_lowest_too_high
  walk_at "go"
  intro p H1 hp e1 h1
  walk_at "go"
  refine lcE (xs := (M.hts w c).map V.int) (fun Dl i H' => Same H1 H' ∧ H' Dl = some (.lst ((hiL w c i).map fun (j : Nat) => V.int (j : Int)))) ?_ ?_ ?_ ?_
  · intro Dl hD
    exact ⟨same_new hD, upd_same⟩
  · rintro Dl i H2 hD hi ⟨e2, h2⟩
    exact .inl (.inl (e2 _ _ h1))
  · rintro Dl i x T H2 hD hx ⟨e2, h2⟩ hT
    rw [List.getElem?_map] at hx
    have hi : i < c.length := by
      by_cases hc : i < c.length
      · exact hc
      · rw [List.getElem?_eq_none (by rw [M.hts_length]; omega)] at hx; cases hx
    rw [M.hts_get w c i hi] at hx
    have hx : V.int (M.ht w (c.drop i)) = x := Option.some.inj hx
    subst hx
    have hT2 : (upd H2 T (.tup [.int (i : Nat), V.int (M.ht w (c.drop i))])) T = some (.tup [.int (i : Nat), V.int (M.ht w (c.drop i))]) := upd_same
    have e3 : Same H1 (upd H2 T (.tup [.int (i : Nat), V.int (M.ht w (c.drop i))])) := e2.trans (same_new hT)
    have h3 := keep (o' := .tup [.int (i : Nat), V.int (M.ht w (c.drop i))]) h2 hT
    have hsz : ((hiL w c i).map fun (j : Nat) => V.int (j : Int)).length < sizeLine := by
      have := hiL_len w c i
      rw [List.length_map]; exact L2.small1000 (by omega)
    generalize upd H2 T (.tup [.int (i : Nat), V.int (M.ht w (c.drop i))]) = H3 at hT2 e3 h3
    walk_at "go"
    refine w_iteD (fun hc => ?_) (fun hc => ?_)
    · walk_at "go"
      refine ⟨same_mut e3 hD, ?_⟩
      rw [hiL_succ, if_pos hc, List.map_append]; exact upd_same
    · refine ⟨e3, ?_⟩
      rw [hiL_succ, if_neg hc, List.append_nil]; exact h3
  · rintro Dl H2 hD ⟨e2, h2⟩
    rw [List.length_map, M.hts_length] at h2
    unfold lowV at q
    walk_at "go"
    cases hg : (hiL w c c.length).getLast? with
    | none =>
      rw [hg] at q
      rw [List.getLast?_eq_none_iff.mp hg]
      refine w_iteF ?_
      walk_at "go"
      exact q _ (e1.trans e2)
    | some i =>
      rw [hg] at q
      obtain ⟨ys, hy⟩ := List.getLast?_eq_some_iff.mp hg
      rw [hy] at h2 ⊢
      rw [List.map_append] at h2 ⊢
      rw [show (List.map (fun (j : Nat) => V.int (j : Int)) ys ++ List.map (fun (j : Nat) => V.int (j : Int)) [i]).isEmpty = false by simp]
      refine w_iteT ?_
      have hx : atI (List.map (fun (j : Nat) => V.int (j : Int)) ys ++ List.map (fun (j : Nat) => V.int (j : Int)) [i]) (-1) = some (V.int (i : Int)) := atI_last _ _
      walk_at "go"
      exact q _ (e1.trans e2)
theorem lowV_keep (w : Nat) (c : List Int) : decide (lowV w c = .non) = M.keep w c := by
  unfold lowV
  cases hk : M.keep w c with
  | true =>
    have h := M.keep_true hk
    have e : hiL w c c.length = [] := by
      unfold hiL
      rw [List.filter_eq_nil_iff]
      intro i hi
      have := h i (by simpa using hi)
      simp; omega
    rw [e]; simp
  | false =>
    obtain ⟨i, hi, hg⟩ := M.keep_false hk
    have hm : i ∈ hiL w c c.length := by
      unfold hiL; rw [List.mem_filter]; exact ⟨by simpa using hi, by simpa using hg⟩
    cases he : (hiL w c c.length).getLast? with
    | none => rw [List.getLast?_eq_none_iff.mp he] at hm; cases hm
    | some j => simp
end G

namespace G
open PySem PySem.Spec PyProof.Rows L2
/-! ### list(range(i, j, c)), shifts, reversed ranges -/
def tLstRg3 (ta : TA) : TE := fun σ H Q => ta σ H fun vs H1 => ∃ (i j c : Int) (n : Nat), vs = [.int i, .int j, .int c] ∧ RgC i j c n ∧ n ≤ 2 ^ 20 ∧ ∀ q, H1 q = none → Q (.ref q) (upd H1 q (.lst ((List.range n).map fun (m : Nat) => V.int (i + (m : Int) * c))))
theorem pe_listRg3 {X : Cx} {a b c : Expr} {ta : TA} {p p2 pos pos2 : Pos} (hc : X.calm = true) (hgl : Gl X "list") (hml : X.mg "list" = none) (hg : Gl X "range") (hm : X.mg "range" = none) (ha : PA X [a, b, c] ta)
    (hs : starEach [a, b, c] X.env = (false, eval a X.env) :: starEach [b, c] X.env := by rfl) (hpl : (backTo pos (starEach [b, c] X.env)).any (·.1) = false := by rfl)
    (na : starEach [.Call (.Name "range" p) [a, b, c] [] pos] X.env = (false, eval (.Call (.Name "range" p) [a, b, c] [] pos) X.env) :: starEach [] X.env := by rfl) :
    PE X (.Call (.Name "list" p2) [.Call (.Name "range" p) [a, b, c] [] pos] [] pos2) (tLstRg3 ta) := by
  refine ⟨fun pins s σ H Q I h => ?_⟩
  refine Call_ (ld_blt I hgl hml boot_list (PyProof.Rows.callWith_type1 (args_cons ?_ na) na))
  refine Call_ (ld_blt I hg hm boot_range (PyProof.Rows.callWith_type1 (thn (ha.run pos pins s σ H _ I h) fun us s1 ⟨vs, H1, I1, r1, q1⟩ => ?_) hs hpl))
  obtain ⟨i, j, k, n, e, ⟨c0, c1, c2, c3⟩, hn, q⟩ := q1
  subst e
  cases r1 with
  | cons r rr =>
    cases rr with
    | cons r' rr =>
      cases rr with
      | cons r'' rr =>
        cases rr
        obtain ⟨t, rfl⟩ := r
        obtain ⟨t', rfl⟩ := r'
        obtain ⟨t'', rfl⟩ := r''
        refine call_range_3 c0 ?_ (.inl (PyProof.noPylong_small c1))
        refine args_nil ?_
        have I2 : Inv X pins σ H1 { s1 with heap := s1.heap.push { cls := .type "range", data := .fields #[.int i t, .int j t', .int k t''] } } := I1.kept (t' := s1.toks) fun b o e => Heap.get?_push_of_some _ e
        refine call_list_range (n := n) (I2.ok.hd hc) (IsRange.new ..) c2 c3 (Nat.le_trans hn (by decide)) fun h' tk acc c' hk e' hi => ?_
        have e : acc.toList.length = n := by rw [Array.length_toList]; exact hi.1
        refine ⟨.ref _, upd H1 _ (.lst ((List.range n).map fun (m : Nat) => V.int (i + (m : Int) * k))), I2.laid hk (Nat.le_refl _) (show ObjOk X.prog X.w _ _ _ (.lst ((List.range n).map fun (m : Nat) => V.int (i + (m : Int) * k))) from ⟨?_, acc.toList, c', ?_, ?_⟩), rfl, q _ (I2.hok.fresh (Nat.le_refl _))⟩
        · rw [List.length_map, List.length_range, sizeLine_eq]; omega
        · rw [← e]
          refine vals_of_get acc.toList _ fun j u hj => ?_
          obtain ⟨t, rfl⟩ := hi.2 j u (by rw [← hj, Array.getElem?_toList])
          exact ⟨t, rfl⟩
        · rw [Array.toArray_toList]; exact e'
theorem rg_down {a b : Int} {w n : Nat} (hw : 1 ≤ w) (hw1 : w ≤ 1000000) (ha : 0 ≤ a) (ha' : a ≤ 1000000) (hb : 0 ≤ b) (hn : 1 ≤ n) (e : a = b + ((n * w : Nat) : Int)) : RgC a b (-(w : Int)) n := by
  have hnw : 1 * 1 ≤ n * w := Nat.mul_le_mul hn hw
  have hs : Builtin.Range.rangeSize a b (-(w : Int)) = n := by
    unfold Builtin.Range.rangeSize
    rw [if_neg (by omega), if_pos (by omega), Int.neg_neg]
    have h1 : a - b - 1 = ((n * w - 1 : Nat) : Int) := by omega
    rw [h1, ← Int.natCast_ediv]
    have h2 : (n * w - 1) / w = n - 1 := by
      obtain ⟨m, rfl⟩ : ∃ m, n = m + 1 := ⟨n - 1, by omega⟩
      have e3 : (m + 1) * w - 1 = w * m + (w - 1) := by rw [Nat.add_mul, Nat.mul_comm]; omega
      rw [e3, Nat.mul_add_div (by omega), Nat.div_eq_of_lt (by omega)]; simp
    rw [h2]; omega
  have hnn : n ≤ n * w := Nat.le_mul_of_pos_right _ hw
  refine ⟨by omega, by omega, ?_, hs⟩
  unfold Builtin.Range.small
  rw [hs, if_neg (by omega)]
  unfold Builtin.Range.rangeFitsLong
  simp only [Bool.and_eq_true, Bool.or_eq_true, decide_eq_true_eq, beq_iff_eq]
  omega
def oShl1 : R2 := fun x y H Q => ∃ k : Nat, x = .int 1 ∧ y = .int (k : Int) ∧ k ≤ 134217727 ∧ Q (.int (2 ^ k)) H
def oShrN : R2 := fun x y H Q => ∃ (i : Int) (k : Nat), x = .int i ∧ y = .int (k : Int) ∧ Q (.int (i / 2 ^ k)) H
def oOdd : R2 := fun x y H Q => ∃ n : Nat, x = .int (n : Int) ∧ y = .int 1 ∧ Q (.int ((n % 2 : Nat) : Int)) H
section
variable {K : PySem.W.Frag} {σ : L2.St} {H : Hp} {Q : VK} {p : Addr} {ns : List Int} {i : Int}
theorem inV_int : ∀ (ns : List Int) (i : Int), inV (.int i) (ns.map V.int) = decide (i ∈ ns)
  | [], i => rfl
  | n :: ns, i => by
    have ih := inV_int ns i
    unfold inV at ih ⊢
    rw [List.map_cons, List.any_cons, ih]
    show (decide (n = i) || decide (i ∈ ns)) = _
    by_cases c : n = i
    · subst c; simp
    · by_cases c2 : i ∈ ns <;> simp [c, c2, Ne.symm c]
theorem all_flat : ∀ ns : List Int, (ns.map V.int).all flatV = true
  | [] => rfl
  | n :: ns => by rw [List.map_cons, List.all_cons, all_flat ns]; rfl
theorem w_inI (h : SqL K H p (ns.map V.int)) (q : Q (.bl (decide (i ∈ ns))) H) : rIn K false (.int i) (.ref p) H Q := ⟨p, _, rfl, .inl h, rfl, all_flat ns, by rw [inV_int]; exact q⟩
theorem w_max (h : SqL K H p (ns.map V.int)) (h0 : 0 < ns.length) (q : ∀ m, m ∈ ns → (∀ y, y ∈ ns → y ≤ m) → Q (.int m) H) : rMax K [.ref p] H Q := ⟨p, ns, rfl, h, h0, q⟩
theorem w_forRev {ta : TE} {g : TG} {tb : TS} {D : Ends} (h : ta σ H fun x H1 => ∃ n : Int, x = .int n ∧ -(2 ^ 62) ≤ (0 : Int) ∧ (0 : Int) < 2 ^ 62 ∧ -(2 ^ 62) ≤ n ∧ n < 2 ^ 62 ∧ ForW (Itc (0 + (((n - 0).toNat : Nat) : Int) - 1) (-1) (n - 0).toNat) g tb D σ H1) : tFor (iRevR (tRg1 ta)) g tb D σ H := h
theorem w_bdR {n : Int} {P : Prop} (h0 : -4611686018427387904 ≤ n) (h1 : n < 4611686018427387904) (q : P) : -(2 ^ 62) ≤ (0 : Int) ∧ (0 : Int) < 2 ^ 62 ∧ -(2 ^ 62) ≤ n ∧ n < 2 ^ 62 ∧ P := ⟨by omega, by omega, by omega, by omega, q⟩
/-- reversed(range(n)): the place of turn t is n - 1 - t -/
theorem forC {n : Nat} {g : TG} {tb : TS} {D : Ends} (Pv : Nat → L2.St → Hp → Prop) (h0 : Pv 0 σ H)
    (hs : ∀ i σ1 H1, i < n → Pv i σ1 H1 → g (.int ((n - 1 - i : Nat) : Int)) σ1 H1 fun σ2 H2 => tb { D with nx := Pv (i + 1), ct := Pv (i + 1), bk := D.nx } σ2 H2) (hd : ∀ σ1 H1, Pv n σ1 H1 → D.nx σ1 H1) :
    ForW (Itc (0 + ((((n : Nat) : Int) - 0).toNat : Int) - 1) (-1) (((n : Nat) : Int) - 0).toNat) g tb D σ H := by
  rw [show (((n : Nat) : Int) - 0).toNat = n by omega]
  refine for_rangeC Pv h0 (fun i σ1 H1 hi p => ?_) hd
  have e : (0 : Int) + ((n : Nat) : Int) - 1 + ((i : Nat) : Int) * -1 = ((n - 1 - i : Nat) : Int) := by omega
  rw [e]
  exact hs i σ1 H1 hi p
end
theorem at_int {xs : List Int} {j : Nat} {v : Int} (h : xs[j]? = some v) : atI (xs.map V.int) (j : Int) = some (V.int v) := at_of (j := j) rfl (by rw [List.getElem?_map, h]; rfl)
theorem w_lstRg3 {σ : L2.St} {H : Hp} {Q : VK} {ta : TA} (h : ta σ H fun vs H1 => ∃ (i j c : Int) (n : Nat), vs = [.int i, .int j, .int c] ∧ RgC i j c n ∧ n ≤ 2 ^ 20 ∧ ∀ q, H1 q = none → Q (.ref q) (upd H1 q (.lst ((List.range n).map fun (m : Nat) => V.int (i + (m : Int) * c))))) : tLstRg3 ta σ H Q := h
theorem w_ninI {K : PySem.W.Frag} {H : Hp} {Q : VK} {p : Addr} {ns : List Int} {i : Int} (h : SqL K H p (ns.map V.int)) (q : Q (.bl (!decide (i ∈ ns))) H) : rIn K true (.int i) (.ref p) H Q := ⟨p, _, rfl, .inl h, rfl, all_flat ns, by rw [inV_int]; exact q⟩
theorem w_min {K : PySem.W.Frag} {H : Hp} {Q : VK} {p : Addr} {ns : List Int} (h : SqL K H p (ns.map V.int)) (h0 : 0 < ns.length) (q : ∀ m, m ∈ ns → (∀ y, y ∈ ns → m ≤ y) → Q (.int m) H) : rMin K [.ref p] H Q := ⟨p, ns, rfl, h, h0, q⟩
theorem w_sortI {K : PySem.W.Frag} {H : Hp} {Q : VK} {p : Addr} {ns : List Int} (h : SqL K H p (ns.map V.int)) (q : ∀ (ns' : List Int) (l : Addr), ns'.Perm ns → ns'.Pairwise (· ≤ ·) → H l = none → Q (.ref l) (upd H l (.lst (ns'.map V.int)))) : rSortedI K [.ref p] H Q := ⟨p, ns, rfl, h, q⟩
theorem sorted_eq {xs ys : List Int} (hp : xs.Perm ys) (hx : xs.Pairwise (· ≤ ·)) (hy : ys.Pairwise (· ≤ ·)) : xs = ys := hp.eq_of_pairwise (fun a b _ _ h1 h2 => by omega) hx hy
theorem at_last1 {xs : List V} {v : V} : atI (xs ++ [v]) (-1) = some v := atI_last _ _
/-- natural numbers as ints -/
abbrev nI (l : List Nat) : List Int := l.map fun (n : Nat) => (n : Int)
theorem mem_nI {l : List Nat} {i : Nat} : (i : Int) ∈ nI l ↔ i ∈ l := by
  constructor
  · intro h
    obtain ⟨j, hj, e⟩ := List.mem_map.mp h
    rw [← Int.ofNat_inj.mp e]; exact hj
  · exact fun h => List.mem_map.mpr ⟨i, h, rfl⟩
theorem w_wl {c : TT} {tb : TS} {D : Ends} {σ : L2.St} {H : Hp} (W : Nat → L2.St → Hp → Prop) (m : Nat) (h0 : W m σ H) (hs : ∀ m σ H, W m σ H → c σ H fun b H1 => if b = true then tb { D with nx := fun σ' H' => ∃ m', m' < m ∧ W m' σ' H', ct := fun σ' H' => ∃ m', m' < m ∧ W m' σ' H', bk := D.nx } σ H1 else D.nx σ H1)
    (mono : ∀ σ H Q Q', (∀ b H1, Q b H1 → Q' b H1) → c σ H Q → c σ H Q') : tWhile c tb D σ H := by
  refine ⟨W, ⟨m, h0⟩, fun m σ H p => mono σ H _ _ (fun b H1 q => ?_) (hs m σ H p)⟩
  cases b with
  | true => exact ⟨_, fun _ _ h => h, q⟩
  | false => exact q
end G
namespace GY
open PySem L2 G
def oTupOf (K : PySem.W.Frag) : RL := fun xs H Q => ∃ p ys, xs = [.ref p] ∧ ((SqL K H p ys ∧ ∀ l, H l = none → Q (.ref l) (upd H l (.tup ys))) ∨ (SqT K H p ys ∧ Q (.ref p) H))
section
variable {K : PySem.W.Frag} {σ : L2.St} {H : Hp} {Q : VK} {p : Addr} {xs ys : List V} {te tz : TE} {t : TA} {tt : TT}
theorem w_tupL (h : SqL K H p ys) (q : ∀ l, H l = none → Q (.ref l) (upd H l (.tup ys))) : oTupOf K [.ref p] H Q := ⟨p, ys, rfl, .inl ⟨h, q⟩⟩
theorem w_star {Ql : List V → Hp → Prop} (h : te σ H fun x H1 => ∃ p xs, x = V.ref p ∧ (SqT K H1 p xs ∨ SqL K H1 p xs) ∧ t σ H1 fun ys H2 => Ql (xs ++ ys) H2) : _root_.StX.tStar K te t σ H Ql := h
theorem w_starL {P : List V → Prop} (h : SqL K H p xs) (q : P xs) : ∃ a ys, V.ref p = V.ref a ∧ (SqT K H a ys ∨ SqL K H a ys) ∧ P ys := ⟨p, xs, rfl, .inr h, q⟩
theorem w_listT (h : SqT K H p ys) (q : ∀ l, H l = none → Q (.ref l) (upd H l (.lst ys))) : oListOf K [.ref p] H Q := ⟨p, ys, rfl, .inr h, q⟩
theorem w_lcS {g : TG} {vs : List Nat} (h : tz σ H fun x H1 => ∃ a, x = .ref a ∧ (((∃ xs, SqL K H1 a xs) ∧ LcW (Itl K a) g tt te vs σ H1 Q) ∨ ((∃ xs, SqT K H1 a xs) ∧ LcW (Itt K a) g tt te vs σ H1 Q))) : tLc (iSeq K tz) g tt te vs σ H Q := h
theorem lcT {a : Addr} {g : TG} {vs : List Nat} (Pv : Addr → Nat → Hp → Prop) (h0 : ∀ Dl, H Dl = none → Pv Dl 0 (upd H Dl (.lst []))) (hl : ∀ Dl i H1, H Dl = none → i ≤ xs.length → Pv Dl i H1 → SqT K H1 a xs)
    (hs : ∀ Dl i x H1, H Dl = none → xs[i]? = some x → Pv Dl i H1 → g x (wipe σ vs) H1 fun σ2 H2 => wipe σ2 vs = wipe σ vs ∧ LcT tt te Dl (Pv Dl (i + 1)) σ2 H2) (hd : ∀ Dl H1, H Dl = none → Pv Dl xs.length H1 → Q (.ref Dl) H1) : LcW (Itt K a) g tt te vs σ H Q :=
  fun Dl hD => lc_tup (K := K) (a := a) (xs := xs) (Pv Dl) (h0 Dl hD) (fun i H1 hi p => hl Dl i H1 hD hi p) (fun i x H1 hx p => hs Dl i x H1 hD hx p) (fun H1 p => hd Dl H1 hD p)
end
end GY
local macro_rules | `(tactic| walk_at "sqt") => `(tactic| first | assumption | exact L2.SqT.of (by walk_at "hp"))
local macro_rules | `(tactic| walk_at "call") => `(tactic| first
  | (refine' G.w_inI ?g1 ?_; (case g1 => walk_at "sq")) | (refine' G.w_ninI ?g1 ?_; (case g1 => walk_at "sq")) | refine' G.w_forRev ?_ | refine' G.w_lstRg3 ?_ | (refine' G.w_bdR ?g1 ?g2 ?_; (case g1 => walk_at "ar"); (case g2 => walk_at "ar"))
  | (refine' G.w_max ?g1 ?g2 ?_; (case g1 => walk_at "sq"); (case g2 => walk_at "ar")) | (refine' G.w_min ?g1 ?g2 ?_; (case g1 => walk_at "sq"); (case g2 => walk_at "ar"))
  | (refine' G.w_sortI ?g1 ?_; (case g1 => walk_at "sq")) | (refine' GY.w_tupL ?g1 ?_; (case g1 => walk_at "sq")) | refine' GY.w_star ?_ | (refine' GY.w_starL ?g1 ?_; (case g1 => walk_at "sq")) | (refine' GY.w_listT ?g1 ?_; (case g1 => walk_at "sqt")))

namespace G
open PySem L2
theorem lowV_low (w : Int) (c : List Int) : lowV w c = match M.low w c with | none => V.non | some i => .int (i : Nat) := rfl
theorem gt_get {c : List Int} {i : Nat} (h : i < c.length) : (c.map V.int)[i]? = some (V.int (M.gt c i)) := by
  rw [List.getElem?_map, List.getElem?_eq_getElem h]; simp [M.gt, List.getD_eq_getElem?_getD, h]
theorem at_gt {c : List Int} {k : Int} {i : Nat} (e : k = (i : Int)) (h : i < c.length) : atI (c.map V.int) k = some (V.int (M.gt c i)) := atn e (gt_get h)
theorem set_map {c : List Int} {i : Nat} {v : Int} : (c.map V.int).set i (.int v) = (c.set i v).map V.int := by rw [List.map_set]
theorem gt_set {c : List Int} {i j : Nat} {v : Int} (h : i < c.length) : M.gt (c.set i v) j = if j = i then v else M.gt c j := by
  by_cases e : j = i
  · subst e; simp [M.gt, List.getD_eq_getElem?_getD, h]
  · rw [if_neg e]; simp [M.gt, List.getD_eq_getElem?_getD, List.getElem?_set, Ne.symm e]
theorem gt_ext {c e : List Int} (hl : c.length = e.length) (h : ∀ i, i < c.length → M.gt c i = M.gt e i) : c = e := by
  refine List.ext_getElem hl fun i h1 h2 => ?_
  have := h i h1
  simpa [M.gt, List.getD_eq_getElem?_getD, h1, h2] using this
def sp_after_copies (K : PySem.W.Frag) (A : CA) : Sp := fun vs H Q _ => ∃ (a b : Addr) (c : List Int) (k : Int) (p : Nat) (cop : List Nat), vs = [.ref a, .int k, .int (p : Int), .ref b] ∧ H a = some (.lst (c.map V.int)) ∧ H b = some (.lst ((nI cop).map V.int)) ∧
  c.length ≤ 1000 ∧ p < c.length ∧ (∀ i ∈ cop, i < c.length) ∧ cop.Pairwise (· < ·) ∧ ∀ (q : Addr) (H' : Hp), H q = none → Same H H' → H' q = some (.lst ((M.aft c k p cop).map V.int)) → Q (.ref q) H'
def sp_with_empty_above (K : PySem.W.Frag) (A : CA) : Sp := fun vs H Q _ => ∃ (a : Addr) (d : List Int) (x : Nat), vs = [.ref a, .int (x : Int)] ∧ H a = some (.lst (d.map V.int)) ∧ d.length ≤ 1000 ∧ x < d.length ∧
  ∀ (q : Addr) (H' : Hp), H q = none → Same H H' → H' q = some (.lst ((nI (M.runL d x)).map V.int)) → Q (.ref q) H'
def sp_first_copied (K : PySem.W.Frag) (A : CA) : Sp := fun vs H Q _ => ∃ (a : Addr) (c : List Int) (w : Int) (p : Nat), vs = [.ref a, .int w, .int (p : Int)] ∧ H a = some (.lst (c.map V.int)) ∧ c.length ≤ 1000 ∧ p < c.length ∧
  ∀ (q : Addr) (H' : Hp), H q = none → Same H H' → H' q = some (.lst ((nI (M.cop1 w c p)).map V.int)) → Q (.ref q) H'
variable {K : PySem.W.Frag} {A : CA} {vs : List V} {H : Hp} {Q : VK} {E : XK}
theorem i_aftc {a b : Addr} {c : List Int} {k : Int} {p : Nat} {cop : List Nat} (ha : H a = some (.lst (c.map V.int))) (hb : H b = some (.lst ((nI cop).map V.int))) (hl : c.length ≤ 1000) (hp : p < c.length) (hc : ∀ i ∈ cop, i < c.length) (ho : cop.Pairwise (· < ·))
    (q : ∀ (q : Addr) (H' : Hp), H q = none → Same H H' → H' q = some (.lst ((M.aft c k p cop).map V.int)) → Q (.ref q) H') : sp_after_copies K A [.ref a, .int k, .int (p : Int), .ref b] H Q E := ⟨a, b, c, k, p, cop, rfl, ha, hb, hl, hp, hc, ho, q⟩
theorem i_above {a : Addr} {d : List Int} {x : Nat} (ha : H a = some (.lst (d.map V.int))) (hl : d.length ≤ 1000) (hx : x < d.length)
    (q : ∀ (q : Addr) (H' : Hp), H q = none → Same H H' → H' q = some (.lst ((nI (M.runL d x)).map V.int)) → Q (.ref q) H') : sp_with_empty_above K A [.ref a, .int (x : Int)] H Q E := ⟨a, d, x, rfl, ha, hl, hx, q⟩
theorem i_first {a : Addr} {c : List Int} {w : Int} {p : Nat} (ha : H a = some (.lst (c.map V.int))) (hl : c.length ≤ 1000) (hp : p < c.length)
    (q : ∀ (q : Addr) (H' : Hp), H q = none → Same H H' → H' q = some (.lst ((nI (M.cop1 w c p)).map V.int)) → Q (.ref q) H') : sp_first_copied K A [.ref a, .int w, .int (p : Int)] H Q E := ⟨a, c, w, p, rfl, ha, hl, hp, q⟩
end G
local macro_rules | `(tactic| walk_at "call") => `(tactic| first
  | (refine' G.i_aftc ?g1 ?g2 ?g3 ?g4 ?g5 ?g6 ?_; (case g1 => walk_at "hp"); (case g2 => walk_at "hp"); (case g3 => walk_at "ar"); (case g4 => walk_at "ar"); (case g5 => assumption); (case g6 => assumption))
  | (refine' G.i_above ?g1 ?g2 ?g3 ?_; (case g1 => walk_at "hp"); (case g2 => walk_at "ar"); (case g3 => walk_at "ar"))
  | (refine' G.i_first ?g1 ?g2 ?g3 ?_; (case g1 => walk_at "hp"); (case g2 => walk_at "ar"); (case g3 => walk_at "ar")))
namespace G
open PySem L2
def t_after_copies (K : PySem.W.Frag) (A : CA) : TS :=
  (tSeq (tAsg (tCB (oListOf K) (tCons (tVar 0) tNil)) (gName 4))
  (tSeq (tIfS (tTest (tOp (rIn K true) (tVar 2) (tVar 3))) (tAugS (tVar 4) (tVar 2) (tC (.int 1)) (rIxL K) (ipI fun i j => i - j) rSetL) tNext)
  (tSeq (tFor (iList K (tVar 3)) (gName 5)
  (tIfS (tAnd (tTest (tOp oGt (tVar 5) (tC (.int 0)))) (tTest (tOp (rIn K true) (tOp oSub (tVar 5) (tC (.int 1))) (tVar 3)))) (tAugS (tVar 4) (tOp oSub (tVar 5) (tC (.int 1))) (tC (.int 1)) (rIxL K) (ipI fun i j => i - j) rSetL) tNext))
  (tSeq (tFor (iList K (tVar 3)) (gName 5)
  (tAsg (tVar 1) (gSub (tVar 4) (tVar 5) rSetL)))
  (tRet (tVar 4))))))
def t_with_empty_above (K : PySem.W.Frag) (A : CA) : TS :=
  (tSeq (tAsg (tVar 1) (gName 2))
  (tSeq (tWhile (tAnd (tTest (tOp oGt (tVar 2) (tC (.int 0)))) (tTest (tOp rEq (tOp (rIxL K) (tVar 0) (tOp oSub (tVar 2) (tC (.int 1)))) (tC (.int 0))))) (tAug 2 (tC (.int 1)) (ipI fun i j => i - j)))
  (tRet (tLstRg (tRg2 (tVar 2) (tOp oAdd (tVar 1) (tC (.int 1))))))))
def t_first_copied (K : PySem.W.Frag) (A : CA) : TS :=
  (tSeq (tIfS (tTest (tOp rEq (tOp (rIxL K) (tVar 0) (tVar 2)) (tC (.int 0)))) (tRet (tCall (sp_with_empty_above K A) [] E0 (tCons (tVar 0) (tCons (tVar 2) tNil)))) tNext)
  (tSeq (tAsg (tCB (oListOf K) (tCons (tVar 0) tNil)) (gName 3))
  (tSeq (tAugS (tVar 3) (tVar 2) (tC (.int 1)) (rIxL K) (ipI fun i j => i - j) rSetL)
  (tSeq (tAsg (tCall (sp_lowest_too_high K A) [] E0 (tCons (tVar 3) (tCons (tVar 1) tNil))) (gName 4))
  (tRet (tIf (tB (tIsN (tVar 4))) (tLst tNil) (tCall (sp_with_empty_above K A) [] E0 (tCons (tVar 3) (tCons (tVar 4) tNil)))))))))

variable {K : PySem.W.Frag} {A : CA} {vs : List V} {H : Hp} {Q : VK} {E : XK}
theorem rd_after_copies (h : sp_after_copies K A vs H Q E) : t_after_copies K A { nx := fun _ H' => Q .non H', rt := Q } (start ["blank", "lines", "page", "copied", "left", "target"] vs) H := by
  obtain ⟨a, b, c, k, p, cop, rfl, ha, hb, hl, hp, hc, ho, q⟩ := h
  have nd : cop.Nodup := ho.imp fun h => Nat.ne_of_lt h
  have hcl : ((nI cop).map V.int).length = cop.length := by simp
  unfold t_after_copies
  walk_at "go"
  intro l hl0
  have hb1 := keep (o' := .lst (c.map V.int)) hb hl0
  have e1 := same_new (o := .lst (c.map V.int)) hl0
  have hl1 : upd H l (.lst (c.map V.int)) l = some (.lst (c.map V.int)) := upd_same
  generalize upd H l (.lst (c.map V.int)) = H1 at hb1 e1 hl1
  have nbl : b ≠ l := ne_of_none hb hl0
  have get : ∀ i x, ((nI cop).map V.int)[i]? = some x → ∃ t : Nat, cop[i]? = some t ∧ x = V.int (t : Int) := fun i x hx => by
    rw [List.getElem?_map, List.getElem?_map] at hx
    obtain ⟨y, hy, rfl⟩ := Option.map_eq_some_iff.mp hx
    obtain ⟨t, ht, rfl⟩ := Option.map_eq_some_iff.mp hy
    exact ⟨t, ht, rfl⟩
  -- the two loops
  have rest : ∀ (d : List Int) (H2 : Hp), Same H H2 → H2 b = some (.lst ((nI cop).map V.int)) → H2 l = some (.lst (d.map V.int)) → d.length = c.length →
      (∀ j, j < c.length → M.gt d j = M.gt c j - (if p ∉ cop ∧ j = p then 1 else 0)) →
      (tSeq (tFor (iList K (tVar 3)) (gName 5)
  (tIfS (tAnd (tTest (tOp oGt (tVar 5) (tC (.int 0)))) (tTest (tOp (rIn K true) (tOp oSub (tVar 5) (tC (.int 1))) (tVar 3)))) (tAugS (tVar 4) (tOp oSub (tVar 5) (tC (.int 1))) (tC (.int 1)) (rIxL K) (ipI fun i j => i - j) rSetL) tNext))
  (tSeq (tFor (iList K (tVar 3)) (gName 5)
  (tAsg (tVar 1) (gSub (tVar 4) (tVar 5) rSetL)))
  (tRet (tVar 4)))) { nx := fun _ H' => Q .non H', rt := Q } [some (.ref a), some (.int k), some (.int (p : Int)), some (.ref b), some (.ref l), none] H2 := by
    intro d H2 e2 hb2 hl2 hdl hd
    walk_at "go"
    refine forL (xs := (nI cop).map V.int) (fun i σ H' => ∃ (d : List Int) (k5 : Option V), σ = [some (.ref a), some (.int k), some (.int (p : Int)), some (.ref b), some (.ref l), k5] ∧ Same H H' ∧ H' b = some (.lst ((nI cop).map V.int)) ∧ H' l = some (.lst (d.map V.int)) ∧ d.length = c.length ∧
      ∀ j, j < c.length → M.gt d j = M.gt c j - (if p ∉ cop ∧ j = p then 1 else 0) - (if j ∉ cop ∧ j + 1 ∈ cop.take i then 1 else 0)) ?_ ?_ ?_ ?_
    · exact ⟨d, none, rfl, e2, hb2, hl2, hdl, fun j hj => by rw [hd j hj, if_neg (show ¬ (j ∉ cop ∧ j + 1 ∈ cop.take 0) by simp)]; omega⟩
    · rintro i σ H3 hi ⟨d, k5, rfl, _, hb3, _⟩
      exact .of hb3
    · rintro i x σ H3 hx ⟨d, k5, rfl, e3, hb3, hl3, hdl3, hd3⟩
      obtain ⟨t, ht, rfl⟩ := get i x hx
      have hi : i < cop.length := (List.getElem?_eq_some_iff.mp ht).1
      have htm : t ∈ cop := List.mem_of_getElem? ht
      have htc := hc t htm
      have tk : cop.take (i + 1) = cop.take i ++ [t] := by rw [List.take_succ, ht]; rfl
      have nti : t ∉ cop.take i := fun hm => by
        obtain ⟨j, hj, e⟩ := List.getElem_of_mem hm
        rw [List.length_take] at hj
        rw [List.getElem_take] at e
        have := (List.getElem?_eq_some_iff.mp ht).2
        have := List.pairwise_iff_getElem.mp ho j i (by omega) hi (by omega)
        omega
      -- what the next turn wants
      have skip : (∀ j, j < c.length → ¬ (j ∉ cop ∧ j + 1 = t)) → ∀ j, j < c.length → M.gt d j = M.gt c j - (if p ∉ cop ∧ j = p then 1 else 0) - (if j ∉ cop ∧ j + 1 ∈ cop.take (i + 1) then 1 else 0) := fun hn j hj => by
        have : (j ∉ cop ∧ j + 1 ∈ cop.take (i + 1)) ↔ (j ∉ cop ∧ j + 1 ∈ cop.take i) := by
          rw [tk, List.mem_append, List.mem_singleton]
          have := hn j hj
          constructor
          · rintro ⟨h1, h2 | h2⟩
            · exact ⟨h1, h2⟩
            · exact absurd ⟨h1, h2⟩ this
          · rintro ⟨h1, h2⟩; exact ⟨h1, .inl h2⟩
        rw [hd3 j hj]; simp only [this]
      walk_at "go"
      refine w_iteD (fun h0 => ?_) (fun h0 => ?_)
      · obtain ⟨u, rfl⟩ : ∃ u, t = u + 1 := ⟨t - 1, by omega⟩
        have eu : ((u + 1 : Nat) : Int) - 1 = (u : Int) := by omega
        walk_at "go"
        rw [eu]
        by_cases hu : u ∈ cop
        · rw [decide_eq_true (mem_nI.mpr hu)]
          walk_at "go"
          exact ⟨d, _, rfl, e3, hb3, hl3, hdl3, skip fun j _ ⟨h1, h2⟩ => h1 (by rw [show j = u by omega]; exact hu)⟩
        · rw [decide_eq_false (fun h => hu (mem_nI.mp h))]
          have hx2 := at_gt (c := d) (k := (u : Int)) (i := u) rfl (by omega)
          have hix : ixN (d.map V.int).length (u : Int) = some u := ixn rfl (by rw [List.length_map]; omega)
          walk_at "go"
          rw [eu]
          walk_at "go"
          rw [set_map]
          refine ⟨_, _, rfl, same_mut e3 hl0, keepNe hb3 nbl, upd_same, by rw [List.length_set]; exact hdl3, fun j hj => ?_⟩
          rw [gt_set (by omega)]
          have iff1 : (j ∉ cop ∧ j + 1 ∈ cop.take (i + 1)) ↔ (j ∉ cop ∧ j + 1 ∈ cop.take i) ∨ j = u := by
            rw [tk, List.mem_append, List.mem_singleton]
            constructor
            · rintro ⟨h1, h2 | h2⟩
              · exact .inl ⟨h1, h2⟩
              · exact .inr (by omega)
            · rintro (⟨h1, h2⟩ | h2)
              · exact ⟨h1, .inl h2⟩
              · rw [h2]; exact ⟨hu, .inr rfl⟩
          by_cases hj2 : j = u
          · subst hj2
            rw [if_pos rfl, hd3 j hj, if_neg (show ¬ (j ∉ cop ∧ j + 1 ∈ cop.take i) from fun z => nti z.2), if_pos (iff1.mpr (.inr rfl))]; omega
          · rw [if_neg hj2, hd3 j hj]
            have : (j ∉ cop ∧ j + 1 ∈ cop.take (i + 1)) ↔ (j ∉ cop ∧ j + 1 ∈ cop.take i) := ⟨fun z => (iff1.mp z).elim id (fun q => absurd q hj2), fun z => iff1.mpr (.inl z)⟩
            simp only [this]
      · walk_at "go"
        exact ⟨d, _, rfl, e3, hb3, hl3, hdl3, skip fun j _ ⟨h1, h2⟩ => by omega⟩
    · rintro σ H3 ⟨d, k5, rfl, e3, hb3, hl3, hdl3, hd3⟩
      rw [hcl, List.take_length] at hd3
      walk_at "go"
      refine forL (xs := (nI cop).map V.int) (fun i σ H' => ∃ (d : List Int) (k5 : Option V), σ = [some (.ref a), some (.int k), some (.int (p : Int)), some (.ref b), some (.ref l), k5] ∧ Same H H' ∧ H' b = some (.lst ((nI cop).map V.int)) ∧ H' l = some (.lst (d.map V.int)) ∧ d.length = c.length ∧
        ∀ j, j < c.length → M.gt d j = if j ∈ cop.take i then k else M.gt c j - (if p ∉ cop ∧ j = p then 1 else 0) - (if j ∉ cop ∧ j + 1 ∈ cop then 1 else 0)) ?_ ?_ ?_ ?_
      · exact ⟨d, k5, rfl, e3, hb3, hl3, hdl3, fun j hj => by rw [if_neg (show ¬ j ∈ cop.take 0 by simp)]; exact hd3 j hj⟩
      · rintro i σ H4 hi ⟨d, k5, rfl, _, hb4, _⟩
        exact .of hb4
      · rintro i x σ H4 hx ⟨d, k5, rfl, e4, hb4, hl4, hdl4, hd4⟩
        obtain ⟨t, ht, rfl⟩ := get i x hx
        have htc := hc t (List.mem_of_getElem? ht)
        have tk : cop.take (i + 1) = cop.take i ++ [t] := by rw [List.take_succ, ht]; rfl
        have hix : ixN (d.map V.int).length (t : Int) = some t := ixn rfl (by rw [List.length_map]; omega)
        walk_at "go"
        rw [set_map]
        refine ⟨_, _, rfl, same_mut e4 hl0, keepNe hb4 nbl, upd_same, by rw [List.length_set]; exact hdl4, fun j hj => ?_⟩
        rw [gt_set (by omega), tk]
        by_cases hj2 : j = t
        · rw [if_pos hj2, if_pos (by rw [hj2]; simp)]
        · rw [if_neg hj2, hd4 j hj]
          have : j ∈ cop.take i ++ [t] ↔ j ∈ cop.take i := by simp [hj2]
          simp only [this]
      · rintro σ H4 ⟨d, k5, rfl, e4, hb4, hl4, hdl4, hd4⟩
        rw [hcl, List.take_length] at hd4
        walk_at "go"
        have ed : d = M.aft c k p cop := gt_ext (by rw [M.aft_length]; exact hdl4) fun j hj => by
          rw [hdl4] at hj
          rw [hd4 j hj, M.aft_get hj]
          by_cases hm : j ∈ cop
          · rw [if_pos hm, if_pos hm]
          · rw [if_neg hm, if_neg hm]
            unfold M.uses
            rw [if_neg hm]
            by_cases hjp : j = p
            · subst hjp
              rw [if_pos ⟨hm, rfl⟩, if_pos rfl]
              by_cases h1 : j + 1 ∈ cop
              · rw [if_pos ⟨hm, h1⟩, if_pos h1]; omega
              · rw [if_neg (fun z => h1 z.2), if_neg h1]; omega
            · rw [if_neg (fun z => hjp z.2), if_neg hjp]
              by_cases h1 : j + 1 ∈ cop
              · rw [if_pos ⟨hm, h1⟩, if_pos h1]; omega
              · rw [if_neg (fun z => h1 z.2), if_neg h1]; omega
        rw [ed] at hl4
        exact q l H4 hl0 e4 hl4
  walk_at "go"
  by_cases hpc : p ∈ cop
  · rw [decide_eq_true (mem_nI.mpr hpc)]
    refine w_iteNT (w_next ?_)
    exact rest c H1 e1 hb1 hl1 rfl fun j hj => by rw [if_neg (fun z => z.1 hpc)]; omega
  · rw [decide_eq_false (fun h => hpc (mem_nI.mp h))]
    have hx2 := at_gt (c := c) (k := (p : Int)) (i := p) rfl hp
    have hix : ixN (c.map V.int).length (p : Int) = some p := ixn rfl (by rw [List.length_map]; exact hp)
    refine w_iteNF ?_
    refine w_augS ?_
    refine w_var rfl ?_
    refine w_var rfl ?_
    refine w_ixL (.of hl1) hx2 ?_
    refine w_c ?_
    refine w_ipI ?_
    refine w_setL hl1 hix ?_
    rw [set_map]
    exact rest _ _ (same_mut e1 hl0) (keepNe hb1 nbl) upd_same (by rw [List.length_set]) fun j hj => by
      rw [gt_set hp]
      by_cases hjp : j = p
      · subst hjp; rw [if_pos rfl, if_pos ⟨hpc, rfl⟩]
      · rw [if_neg hjp, if_neg (fun z => hjp z.2)]; omega
end G

namespace G
open PySem L2
theorem runF_stop {d : List Int} {f : Nat} (h : f = 0 ∨ M.gt d (f - 1) ≠ 0) : M.runF d f = f := by
  cases f with
  | zero => rfl
  | succ f =>
    rcases h with h | h
    · omega
    · unfold M.runF; rw [if_neg (by simpa using h)]
theorem runF_go {d : List Int} {f : Nat} (h0 : 0 < f) (h : M.gt d (f - 1) = 0) : M.runF d f = M.runF d (f - 1) := by
  obtain ⟨g, rfl⟩ : ∃ g, f = g + 1 := ⟨f - 1, by omega⟩
  conv => lhs; unfold M.runF
  rw [if_pos (by simpa using h)]; rfl
theorem rgV_nat (f x : Nat) : rgV (f : Int) ((x : Int) + 1) = (nI (List.range' f (x + 1 - f))).map V.int := by
  unfold rgV
  rw [show (((x : Int) + 1 - (f : Int)).toNat) = x + 1 - f by omega, List.range'_eq_map_range, List.map_map, List.map_map]
  refine List.map_congr_left fun i _ => ?_
  simp [Function.comp]
theorem w_rg2 {σ : L2.St} {H : Hp} {ta tb : TE} {R : Int → Int → Hp → Prop} (h : ta σ H fun x H1 => tb σ H1 fun y H2 => ∃ i j, x = .int i ∧ y = .int j ∧ R i j H2) : tRg2 ta tb σ H R := h
theorem w_exJ {a b : Int} {P : Int → Int → Prop} (q : P a b) : ∃ i j, V.int a = .int i ∧ V.int b = .int j ∧ P i j := ⟨a, b, rfl, rfl, q⟩
theorem w_rgOk {a b : Int} {P : Prop} (h0 : 0 ≤ a) (h1 : b ≤ 16777216) (h2 : a ≤ 16777216) (h3 : 0 ≤ b) (q : P) : RgOk a b ∧ P := ⟨.of_le h0 h1 h2 h3, q⟩
end G
local macro_rules | `(tactic| walk_at "call") => `(tactic| first
  | refine' G.w_rg2 ?_ | refine' G.w_exJ ?_ | (refine' G.w_rgOk ?g1 ?g2 ?g3 ?g4 ?_; (case g1 => walk_at "ar"); (case g2 => walk_at "ar"); (case g3 => walk_at "ar"); (case g4 => walk_at "ar")))
namespace G
open PySem L2
variable {K : PySem.W.Frag} {A : CA} {vs : List V} {H : Hp} {Q : VK} {E : XK}
theorem rd_with_empty_above (h : sp_with_empty_above K A vs H Q E) : t_with_empty_above K A { nx := fun _ H' => Q .non H', rt := Q } (start ["blank", "page", "first"] vs) H := by
  obtain ⟨a, d, x, rfl, ha, hl, hx, q⟩ := h
  unfold t_with_empty_above
  walk_at "go"
  refine ⟨fun m σ H' => ∃ f : Nat, σ = [some (.ref a), some (.int (x : Int)), some (.int (f : Int))] ∧ H' = H ∧ f ≤ x ∧ M.runF d x = M.runF d f ∧ m = f, ⟨_, x, rfl, rfl, Nat.le_refl _, rfl, rfl⟩, ?_⟩
  rintro m σ H' ⟨f, rfl, rfl, hf, hr, rfl⟩
  have fin : M.runF d m = m → ∀ l, H' l = none → Q (.ref l) (upd H' l (.lst (rgV (m : Int) ((x : Int) + 1)))) := fun e l hl0 => by
    refine q l _ hl0 (same_new hl0) ?_
    rw [rgV_nat]
    unfold M.runL
    rw [hr, e]; exact upd_same
  walk_at "go"
  by_cases c0 : (0 : Int) < (m : Int)
  · rw [decide_eq_true c0]
    refine w_iteT ?_
    have hx2 := at_gt (c := d) (k := (m : Int) - 1) (i := m - 1) (by omega) (by omega)
    walk_at "go"
    by_cases c1 : M.gt d (m - 1) = 0
    · rw [decide_eq_true c1]
      refine ⟨fun σ' H'' => ∃ m', m' < m ∧ ∃ f : Nat, σ' = [some (.ref a), some (.int (x : Int)), some (.int (f : Int))] ∧ H'' = H' ∧ f ≤ x ∧ M.runF d x = M.runF d f ∧ m' = f, fun _ _ h => h, ?_⟩
      walk_at "go"
      rw [show (m : Int) - 1 = ((m - 1 : Nat) : Int) by omega]
      exact ⟨m - 1, by omega, m - 1, rfl, rfl, by omega, by rw [hr, runF_go (by omega) c1], rfl⟩
    · rw [decide_eq_false c1]
      show (if false = true then _ else _)
      rw [if_neg Bool.false_ne_true]
      walk_at "go"
      exact fin (runF_stop (.inr c1))
  · rw [decide_eq_false c0]
    refine w_iteF ?_
    show (if false = true then _ else _)
    rw [if_neg Bool.false_ne_true]
    walk_at "go"
    exact fin (runF_stop (.inl (by omega)))
theorem rd_first_copied (h : sp_first_copied K A vs H Q E) : t_first_copied K A { nx := fun _ H' => Q .non H', rt := Q } (start ["blank", "copies", "page", "left", "lowest"] vs) H := by
  obtain ⟨a, c, w, p, rfl, ha, hl, hp, q⟩ := h
  have hx2 := at_gt (c := c) (k := (p : Int)) (i := p) rfl hp
  unfold t_first_copied
  walk_at "go"
  refine w_iteD (fun hc => ?_) (fun hc => ?_)
  · have e : M.cop1 w c p = M.runL c p := by unfold M.cop1 M.xOf M.plain; rw [if_pos hc, if_pos hc]
    rw [e] at q
    walk_at "go"
    exact q
  · walk_at "go"
    intro l hl0
    have hix : ixN (c.map V.int).length (p : Int) = some p := ixn rfl (by rw [List.length_map]; exact hp)
    have e1 := same_new (o := .lst (c.map V.int)) hl0
    have hl1 : upd H l (.lst (c.map V.int)) l = some (.lst (c.map V.int)) := upd_same
    generalize upd H l (.lst (c.map V.int)) = H1 at e1 hl1
    refine w_name (w_seq (w_augS (w_var rfl (w_var rfl (w_ixL (.of hl1) hx2 (w_c (w_ipI (w_setL hl1 hix ?_)))))))) 
    rw [set_map]
    have e2 : M.plain c p = c.set p (M.gt c p - 1) := by unfold M.plain; rw [if_neg hc]
    rw [← e2]
    have hl2 : upd H1 l (.lst ((M.plain c p).map V.int)) l = some (.lst ((M.plain c p).map V.int)) := upd_same
    have e3 := same_mut (o := .lst ((M.plain c p).map V.int)) e1 hl0
    have lp : (M.plain c p).length ≤ 1000 := by rw [M.plain_length]; exact hl
    generalize upd H1 l (.lst ((M.plain c p).map V.int)) = H2 at hl2 e3
    walk_at "go"
    intro H3 e4
    have hl3 := e4 _ _ hl2
    walk_at "go"
    rw [lowV_low]
    cases hlow : M.low w (M.plain c p) with
    | none =>
      have e : M.cop1 w c p = [] := by unfold M.cop1 M.xOf; rw [if_neg hc, hlow]
      rw [e] at q
      refine w_iteT ?_
      walk_at "go"
      intro z hz
      exact q z _ ((e3.trans e4).free hz) ((e3.trans e4).trans (same_new hz)) upd_same
    | some x =>
      have e : M.cop1 w c p = M.runL (M.plain c p) x := by unfold M.cop1 M.xOf; rw [if_neg hc, hlow]
      rw [e] at q
      have hxl : x < (M.plain c p).length := (M.low_some hlow).1
      refine w_iteF ?_
      walk_at "go"
      intro z H4 hz e5 hz4
      exact q z H4 ((e3.trans e4).free hz) ((e3.trans e4).trans e5) hz4
end G

namespace G
open PySem L2
structure CT (K : PySem.W.Frag) (A : CA) : Prop where
  e_NoPage : OexC K A.NoPage
  e_NotKeepable : OexC K A.NotKeepable
  x_NoPage : ExcC K A.NoPage
  x_NotKeepable : ExcC K A.NotKeepable
  xf_NoPage : XfC K A.NoPage
  xf_NotKeepable : XfC K A.NotKeepable
  f_NoPage_page : PySem.W.findIn K (.ref A.NoPage) "page" = some none
  f_NotKeepable_page : PySem.W.findIn K (.ref A.NotKeepable) "page" = some none
  m_NoPage : PySem.W.exmOne K (.ref A.NoPage) (.ref A.NoPage) = some true
  m_NotKeepable : PySem.W.exmOne K (.ref A.NotKeepable) (.ref A.NotKeepable) = some true
  mf_NotKeepable_NoPage : PySem.W.exmOne K (.ref A.NotKeepable) (.ref A.NoPage) = some false
  k_NoPage_LotError : PySem.W.kitOne K (.ref A.NoPage) (.ref A.LotError) = some false
  k_NoPage_OnecopyError : PySem.W.kitOne K (.ref A.NoPage) (.ref A.OnecopyError) = some true
  k_NoPage_NotKeepable : PySem.W.kitOne K (.ref A.NoPage) (.ref A.NotKeepable) = some false
  k_NoPage_ValueError : PySem.W.kitOne K (.ref A.NoPage) (.type "ValueError") = some true
  k_NotKeepable_LotError : PySem.W.kitOne K (.ref A.NotKeepable) (.ref A.LotError) = some false
  k_NotKeepable_OnecopyError : PySem.W.kitOne K (.ref A.NotKeepable) (.ref A.OnecopyError) = some true
  k_NotKeepable_NoPage : PySem.W.kitOne K (.ref A.NotKeepable) (.ref A.NoPage) = some false
  k_NotKeepable_ValueError : PySem.W.kitOne K (.ref A.NotKeepable) (.type "ValueError") = some true
/-- numbers of a chain are not below 0 -/
def Nn (c : List Int) : Prop := ∀ n ∈ c, 0 ≤ n
theorem Nn.gt {c : List Int} (h : Nn c) (i : Nat) : 0 ≤ M.gt c i := by
  unfold M.gt
  rw [List.getD_eq_getElem?_getD]
  cases e : c[i]? with
  | none => exact Int.le_refl 0
  | some v => exact h v (List.mem_of_getElem? e)
def sp_chain_answer (K : PySem.W.Frag) (A : CA) : Sp := fun vs H Q E => ∃ (a : Addr) (c : List Int) (k w pg : Int), vs = [.ref a, .int k, .int w, .int pg] ∧ H a = some (.lst (c.map V.int)) ∧ c.length ≤ 1000 ∧ 1 ≤ w ∧ w ≤ 900 ∧ 2 ≤ k ∧ Nn c ∧
  (¬ (0 ≤ pg ∧ pg < c.length) → GX.Raised A.NoPage "page" (.int pg) H E) ∧
  (0 ≤ pg ∧ pg < c.length → ∀ l : Nat, M.low w c = some l → GX.Raised A.NotKeepable "page" (.int (l : Int)) H E) ∧
  (∀ p : Nat, pg = (p : Int) → p < c.length → M.low w c = none → ∀ (T p1 p2 : Addr) (H' : Hp), H T = none → H p1 = none → H p2 = none → Same H H' → H' T = some (.tup [.ref p1, .ref p2]) → H' p1 = some (.tup ((nI (M.ans w k c p)).map V.int)) → H' p2 = some (.lst ((M.aft c k p (M.ans w k c p)).map V.int)) → Q (.ref T) H')
variable {K : PySem.W.Frag} {A : CA} {vs : List V} {H : Hp} {Q : VK} {E : XK}
def t_chain_answer (K : PySem.W.Frag) (A : CA) (E : XK) : TS :=
  (tSeq (tIfS (tNot (tTest (tChain oLe oLt (tC (.int 0)) (tVar 3) (tCB (rLenQ K) (tCons (tVar 0) tNil))))) (GX.tRaiseO A.NoPage (GX.sp_err K A.NoPage "page") E (tCons (tVar 3) tNil)) tNext)
  (tSeq (tAsg (tCall (sp_lowest_too_high K A) [] E0 (tCons (tVar 0) (tCons (tVar 2) tNil))) (gName 4))
  (tSeq (tIfS (tB (tNotN (tVar 4))) (GX.tRaiseO A.NotKeepable (GX.sp_err K A.NotKeepable "page") E (tCons (tVar 4) tNil)) tNext)
  (tSeq (tAsg (tCall (sp_first_copied K A) [] E0 (tCons (tVar 0) (tCons (tVar 2) (tCons (tVar 3) tNil)))) (gName 5))
  (tSeq (tAsg (tCall (sp_after_copies K A) [] E0 (tCons (tVar 0) (tCons (tVar 1) (tCons (tVar 3) (tCons (tVar 5) tNil))))) (gName 6))
  (tSeq (tAsg (tCall (sp_lowest_too_high K A) [] E0 (tCons (tVar 6) (tCons (tVar 2) tNil))) (gName 4))
  (tSeq (tIfS (tB (tNotN (tVar 4))) (tSeq (tAsg (tCB (rSortedI K) (tCons (tLst (_root_.StX.tStar K (tVar 5) (tCons (tVar 4) tNil))) tNil)) (gName 5))
  (tAsg (tCall (sp_after_copies K A) [] E0 (tCons (tVar 0) (tCons (tVar 1) (tCons (tVar 3) (tCons (tVar 5) tNil))))) (gName 6))) tNext)
  (tRet (tTup (tCons (tCB (GY.oTupOf K) (tCons (tVar 5) tNil)) (tCons (tVar 6) tNil)))))))))))

theorem keep_of_low {w : Int} {c : List Int} (h : M.low w c = none) : ∀ j, j < c.length → M.Ht w c j ≤ w := M.low_none h
theorem rd_chain_answer (C : CT K A) (h : sp_chain_answer K A vs H Q E) : t_chain_answer K A E { nx := fun _ H' => Q .non H', rt := Q } (start ["blank", "lines", "copies", "page", "lowest", "copied", "left"] vs) H := by
  obtain ⟨a, c, k, w, pg, rfl, ha, hl, hw, hw9, hk, h0, q1, q2, q3⟩ := h
  have hcl : ((c.map V.int).length : Int) = c.length := by rw [List.length_map]
  unfold t_chain_answer
  have bad : ¬ (0 ≤ pg ∧ pg < c.length) → ∀ D, GX.tRaiseO A.NoPage (GX.sp_err K A.NoPage "page") E (tCons (tVar 3) tNil) D (start ["blank", "lines", "copies", "page", "lowest", "copied", "left"] [.ref a, .int k, .int w, .int pg]) H := fun hn D =>
    GX.w_raiseO C.e_NoPage C.f_NoPage_page (fun Q q => w_cons (w_var rfl (w_nil q))) (q1 hn)
  refine w_seq (w_if (w_not (w_test (w_chain (w_c (w_var rfl (w_oLe (w_ex ?_))))))))
  refine w_iteD (fun c0 => ?_) (fun c0 => ?_)
  rotate_left
  · refine w_ex ?_
    refine w_iteNF ?_
    exact bad (fun z => c0 z.1) _
  refine w_cb (w_cons (w_var rfl (w_nil (w_lenL (.of ha) (w_oLt (w_ex ?_))))))
  rw [hcl]
  by_cases c1 : pg < (c.length : Int)
  rotate_left
  · rw [decide_eq_false c1]
    exact w_iteNF (bad (fun z => c1 z.2) _)
  rw [decide_eq_true c1]
  refine w_iteNT (w_next ?_)
  obtain ⟨p, rfl⟩ := Int.eq_ofNat_of_zero_le c0
  have hp : p < c.length := by omega
  walk_at "go"
  intro H1 e1
  have ha1 := e1 _ _ ha
  walk_at "go"
  rw [lowV_low]
  cases hlow : M.low w c with
  | some l =>
    refine w_iteNF ?_
    refine GX.w_raiseO C.e_NotKeepable C.f_NotKeepable_page (fun Q q => w_cons (w_var rfl (w_nil q))) ?_
    exact fun d H' hd e hx => q2 ⟨c0, c1⟩ l hlow d H' (e1.free hd) (e1.trans e) hx
  | none =>
    refine w_iteNT (w_next ?_)
    have q3 := q3 p rfl hp hlow
    obtain ⟨good, lall, _, asc1, ltc, leg1⟩ := M.keeper (K := k) hw hk h0.gt (keep_of_low hlow) hp
    walk_at "go"
    intro z1 H2 hz1 e2 g1
    have ha2 := e2 _ _ ha1
    walk_at "go"
    intro z2 H3 hz2 e3 g2
    have g1 := e3 _ _ g1
    have hz2' : H z2 = none := (e1.trans e2).free hz2
    have la : (M.aft c k p (M.cop1 w c p)).length ≤ 1000 := by rw [M.aft_length]; exact hl
    walk_at "go"
    intro H4 e4
    have g1 := e4 _ _ g1
    have g2 := e4 _ _ g2
    have E4 := ((e1.trans e2).trans e3).trans e4
    have ha4 := E4 _ _ ha
    walk_at "go"
    rw [lowV_low]
    cases hl2 : M.low w (M.aft c k p (M.cop1 w c p)) with
    | none =>
      have ea : M.ans w k c p = M.cop1 w c p := by unfold M.ans; rw [hl2]
      rw [ea] at q3
      refine w_iteNT (w_next ?_)
      walk_at "go"
      intro T1 hT1
      have g2' := keep (o' := .tup ((nI (M.cop1 w c p)).map V.int)) g2 hT1
      have E5 := E4.trans (same_new (o := .tup ((nI (M.cop1 w c p)).map V.int)) hT1)
      have t1 : upd H4 T1 (.tup ((nI (M.cop1 w c p)).map V.int)) T1 = some (.tup ((nI (M.cop1 w c p)).map V.int)) := upd_same
      generalize upd H4 T1 (.tup ((nI (M.cop1 w c p)).map V.int)) = H5 at g2' E5 t1
      walk_at "go"
      intro T hT
      exact q3 T T1 z2 _ (E5.free hT) (E4.free hT1) hz2' (E5.trans (same_new hT)) upd_same (keep t1 hT) (keep g2' hT)
    | some l =>
      have ea : M.ans w k c p = l :: M.cop1 w c p := by unfold M.ans; rw [hl2]
      rw [ea] at q3 good
      refine w_iteNF ?_
      have glen := good.len
      rw [List.length_cons] at glen
      walk_at "go"
      refine ⟨Nat.le_of_lt (L2.small1000 (by simp; omega)), ?_⟩
      intro s1 hs1
      have e5 := same_new (o := .lst ((nI (M.cop1 w c p)).map V.int ++ [V.int (l : Int)])) hs1
      have gs : upd H4 s1 (.lst ((nI (M.cop1 w c p)).map V.int ++ [V.int (l : Int)])) s1 = some (.lst ((nI (M.cop1 w c p) ++ [(l : Int)]).map V.int)) := by rw [List.map_append]; exact upd_same
      generalize upd H4 s1 (.lst ((nI (M.cop1 w c p)).map V.int ++ [V.int (l : Int)])) = H5 at e5 gs
      have E5 := E4.trans e5
      walk_at "go"
      intro ns s2 hperm hsort hs2
      have en : ns = nI (l :: M.cop1 w c p) := by
        refine sorted_eq (hperm.trans ?_) hsort ?_
        · show List.Perm (nI (M.cop1 w c p) ++ [(l : Int)]) ((l : Int) :: nI (M.cop1 w c p))
          exact List.perm_append_singleton _ _
        · exact List.pairwise_map.mpr (good.asc.imp fun h => by omega)
      subst en
      have e6 := same_new (o := .lst ((nI (l :: M.cop1 w c p)).map V.int)) hs2
      have gn : upd H5 s2 (.lst ((nI (l :: M.cop1 w c p)).map V.int)) s2 = some (.lst ((nI (l :: M.cop1 w c p)).map V.int)) := upd_same
      generalize upd H5 s2 (.lst ((nI (l :: M.cop1 w c p)).map V.int)) = H6 at e6 gn
      have E6 := E5.trans e6
      have ha6 := E6 _ _ ha
      have lt2 := good.lt
      have as2 := good.asc
      walk_at "go"
      intro z3 H7 hz3 e7 g3
      have E7 := E6.trans e7
      have gn := e7 _ _ gn
      walk_at "go"
      intro T1 hT1
      have g3' := keep (o' := .tup ((nI (l :: M.cop1 w c p)).map V.int)) g3 hT1
      have E8 := E7.trans (same_new (o := .tup ((nI (l :: M.cop1 w c p)).map V.int)) hT1)
      have t1 : upd H7 T1 (.tup ((nI (l :: M.cop1 w c p)).map V.int)) T1 = some (.tup ((nI (l :: M.cop1 w c p)).map V.int)) := upd_same
      generalize upd H7 T1 (.tup ((nI (l :: M.cop1 w c p)).map V.int)) = H8 at g3' E8 t1
      walk_at "go"
      intro T hT
      exact q3 T T1 z3 _ (E8.free hT) (E7.free hT1) (E6.free hz3) (E8.trans (same_new hT)) upd_same (keep t1 hT) (keep g3' hT)
end G

namespace G
open PySem L2
def sp_law_page (K : PySem.W.Frag) (A : CA) : Sp := fun vs H Q _ => ∃ (s : Addr) (n : Int), vs = [.ref s, .int n] ∧ Src H s ∧ 0 ≤ n ∧ n ≤ 100 ∧
  ∀ (r : Int) (H' : Hp), 0 ≤ r → But s H H' → Src H' s → Q (.int r) H'
def sp_law_height (K : PySem.W.Frag) (A : CA) : Sp := fun vs H Q _ => ∃ (b n w : Int), vs = [.int n, .int b, .int w] ∧ 0 ≤ n ∧ Q (.int (M.ho b n w)) H
def sp_law_drawn_chain (K : PySem.W.Frag) (A : CA) : Sp := fun vs H Q _ => ∃ (s : Addr) (n z : Int) (w : Nat), vs = [.ref s, .int n, .int (w : Int), .int z] ∧ Src H s ∧ 0 ≤ n ∧ n ≤ 100 ∧ 1 ≤ w ∧ w ≤ 71 ∧ 1 ≤ z ∧ z ≤ 40 ∧
  ∀ (c : List Int) (p : Addr) (H' : Hp), Nn c → 1 ≤ c.length → c.length ≤ 200 → H p = none → But s H H' → Src H' s → H' p = some (.lst (c.map V.int)) → Q (.ref p) H'
def sp_law_kept_chain (K : PySem.W.Frag) (A : CA) : Sp := fun vs H Q _ => ∃ (s : Addr) (n z : Int) (w : Nat), vs = [.ref s, .int n, .int (w : Int), .int z] ∧ Src H s ∧ 0 ≤ n ∧ n ≤ 100 ∧ 1 ≤ w ∧ w ≤ 71 ∧ 1 ≤ z ∧ z ≤ 40 ∧
  ∀ (c : List Int) (p : Addr) (H' : Hp), Nn c → 1 ≤ c.length → c.length ≤ 200 → M.low w c = none → H p = none → But s H H' → H' p = some (.lst (c.map V.int)) → Q (.ref p) H'
def sp_law_lost_chain (K : PySem.W.Frag) (A : CA) : Sp := fun vs H Q _ => ∃ (s : Addr) (n : Int) (w : Nat), vs = [.ref s, .int n, .int (w : Int)] ∧ Src H s ∧ 0 ≤ n ∧ n ≤ 100 ∧ 1 ≤ w ∧ w ≤ 71 ∧
  ∀ (c : List Int) (p : Addr) (H' : Hp), Nn c → 1 ≤ c.length → c.length ≤ 900 → (∃ l, M.low w c = some l) → H p = none → But s H H' → Src H' s → H' p = some (.lst (c.map V.int)) → Q (.ref p) H'
variable {K : PySem.W.Frag} {A : CA} {vs : List V} {H : Hp} {Q : VK} {E : XK}
theorem i_page {s : Addr} {n : Int} (hs : Src H s) (h0 : 0 ≤ n) (h1 : n ≤ 100) (k : ∀ (r : Int) (H' : Hp), 0 ≤ r → But s H H' → Src H' s → Q (.int r) H') : sp_law_page K A [.ref s, .int n] H Q E := ⟨s, n, rfl, hs, h0, h1, k⟩
theorem i_height {b n w : Int} (h : 0 ≤ n) (q : Q (.int (M.ho b n w)) H) : sp_law_height K A [.int n, .int b, .int w] H Q E := ⟨b, n, w, rfl, h, q⟩
theorem i_drawn {s : Addr} {n z : Int} {w : Nat} (hs : Src H s) (h0 : 0 ≤ n) (h1 : n ≤ 100) (w0 : 1 ≤ w) (w1 : w ≤ 71) (z0 : 1 ≤ z) (z1 : z ≤ 40)
    (q : ∀ (c : List Int) (p : Addr) (H' : Hp), Nn c → 1 ≤ c.length → c.length ≤ 200 → H p = none → But s H H' → Src H' s → H' p = some (.lst (c.map V.int)) → Q (.ref p) H') : sp_law_drawn_chain K A [.ref s, .int n, .int (w : Int), .int z] H Q E := ⟨s, n, z, w, rfl, hs, h0, h1, w0, w1, z0, z1, q⟩
theorem i_kept {s : Addr} {n z : Int} {w : Nat} (hs : Src H s) (h0 : 0 ≤ n) (h1 : n ≤ 100) (w0 : 1 ≤ w) (w1 : w ≤ 71) (z0 : 1 ≤ z) (z1 : z ≤ 40)
    (q : ∀ (c : List Int) (p : Addr) (H' : Hp), Nn c → 1 ≤ c.length → c.length ≤ 200 → M.low w c = none → H p = none → But s H H' → H' p = some (.lst (c.map V.int)) → Q (.ref p) H') : sp_law_kept_chain K A [.ref s, .int n, .int (w : Int), .int z] H Q E := ⟨s, n, z, w, rfl, hs, h0, h1, w0, w1, z0, z1, q⟩
theorem i_lost {s : Addr} {n : Int} {w : Nat} (hs : Src H s) (h0 : 0 ≤ n) (h1 : n ≤ 100) (w0 : 1 ≤ w) (w1 : w ≤ 71)
    (q : ∀ (c : List Int) (p : Addr) (H' : Hp), Nn c → 1 ≤ c.length → c.length ≤ 900 → (∃ l, M.low w c = some l) → H p = none → But s H H' → Src H' s → H' p = some (.lst (c.map V.int)) → Q (.ref p) H') : sp_law_lost_chain K A [.ref s, .int n, .int (w : Int)] H Q E := ⟨s, n, w, rfl, hs, h0, h1, w0, w1, q⟩
end G
local macro_rules | `(tactic| walk_at "call") => `(tactic| first
  | (refine' G.i_page ?g1 ?g2 ?g3 ?_; (case g1 => walk_at "src"); (case g2 => walk_at "ar"); (case g3 => walk_at "ar"))
  | (refine' G.i_height ?g1 ?_; (case g1 => walk_at "ar"))
  | (refine' G.i_drawn ?g1 ?g2 ?g3 ?g4 ?g5 ?g6 ?g7 ?_; (case g1 => walk_at "src"); (case g2 => walk_at "ar"); (case g3 => walk_at "ar"); (case g4 => walk_at "ar"); (case g5 => walk_at "ar"); (case g6 => walk_at "ar"); (case g7 => walk_at "ar"))
  | (refine' G.i_kept ?g1 ?g2 ?g3 ?g4 ?g5 ?g6 ?g7 ?_; (case g1 => walk_at "src"); (case g2 => walk_at "ar"); (case g3 => walk_at "ar"); (case g4 => walk_at "ar"); (case g5 => walk_at "ar"); (case g6 => walk_at "ar"); (case g7 => walk_at "ar"))
  | (refine' G.i_lost ?g1 ?g2 ?g3 ?g4 ?g5 ?_; (case g1 => walk_at "src"); (case g2 => walk_at "ar"); (case g3 => walk_at "ar"); (case g4 => walk_at "ar"); (case g5 => walk_at "ar")))
namespace G
open PySem L2
def t_law_page (K : PySem.W.Frag) (A : CA) : TS :=
  (tSeq (tAsg (tCall (sp_law_take K A) [] E0 (tCons (tVar 0) (tCons (tC (.int 8)) tNil))) (gName 2))
  (tSeq (tIfS (tTest (tOp oLt (tVar 2) (tC (.int 4)))) (tRet (tC (.int 0))) tNext)
  (tSeq (tIfS (tTest (tOp oLt (tVar 2) (tC (.int 6)))) (tRet (tC (.int 1))) tNext)
  (tRet (tCall (sp_law_take K A) [] E0 (tCons (tVar 0) (tCons (tOp oAdd (tVar 1) (tC (.int 1))) tNil)))))))
def t_law_height (K : PySem.W.Frag) (A : CA) : TS :=
  (tSeq (tIfS (tTest (tOp oGe (tVar 0) (tC (.int 2)))) (tRet (tC (.int 0))) tNext)
  (tSeq (tIfS (tTest (tOp rEq (tVar 0) (tC (.int 1)))) (tRet (tCB oInt (tCons (tOp oGe (tVar 1) (tVar 2)) tNil))) tNext)
  (tRet (tOp oAdd (tVar 1) (tC (.int 1))))))
def t_law_drawn_chain (K : PySem.W.Frag) (A : CA) : TS :=
  (tSeq (tIfS (tOr (tTest (tOp oGt (tVar 2) (tC (.int 12)))) (tTest (tOp rEq (tCall (sp_law_take K A) [] E0 (tCons (tVar 0) (tCons (tC (.int 2)) tNil))) (tC (.int 0))))) (tRet (tLc (iRng1 (tCons (tVar 3) tNil)) (gName 4) tYes (tCall (sp_law_page K A) [] E0 (tCons (tVar 0) (tCons (tVar 1) tNil))) [4])) tNext)
  (tSeq (tAsg (tLc (iRng1 (tCons (tCall (sp_law_take K A) [] E0 (tCons (tVar 0) (tCons (tC (.int 4)) tNil))) tNil)) (gName 4) tYes (tCall (sp_law_page K A) [] E0 (tCons (tVar 0) (tCons (tVar 1) tNil))) [4]) (gName 5))
  (tSeq (tAsg (tOp rCat (tOp rRep (tLst (tCons (tC (.int 0)) tNil)) (tVar 2)) (tOp rRep (tOp rCat (tLst (tCons (tC (.int 1)) tNil)) (tOp rRep (tLst (tCons (tC (.int 0)) tNil)) (tOp oSub (tVar 2) (tC (.int 1))))) (tCall (sp_law_take K A) [] E0 (tCons (tVar 0) (tCons (tC (.int 3)) tNil))))) (gName 6))
  (tSeq (tAsg (tOp rCat (tOp rCat (tVar 6) (tLst (tCons (tC (.int 1)) tNil))) (tOp rRep (tLst (tCons (tC (.int 0)) tNil)) (tCall (sp_law_take K A) [] E0 (tCons (tVar 0) (tCons (tVar 2) tNil))))) (gName 6))
  (tSeq (tAsg (tLc (iRng1 (tCons (tCall (sp_law_take K A) [] E0 (tCons (tVar 0) (tCons (tC (.int 4)) tNil))) tNil)) (gName 4) tYes (tCall (sp_law_page K A) [] E0 (tCons (tVar 0) (tCons (tVar 1) tNil))) [4]) (gName 7))
  (tRet (tOp rCat (tOp rCat (tVar 5) (tVar 6)) (tVar 7))))))))
def t_law_kept_chain (K : PySem.W.Frag) (A : CA) : TS :=
  (tSeq (tAsg (tLst tNil) (gName 4))
  (tSeq (tAsg (tC (.int 0)) (gName 5))
  (tSeq (tFor (iList K (tRevL K (tCall (sp_law_drawn_chain K A) [] E0 (tCons (tVar 0) (tCons (tVar 1) (tCons (tVar 2) (tCons (tVar 3) tNil))))))) (gName 6)
  (tSeq (tAsg (tVar 6) (gName 7))
  (tSeq (tIfS (tAnd (tTest (tOp rEq (tVar 7) (tC (.int 0)))) (tTest (tOp rEq (tVar 5) (tVar 2)))) (tAsg (tOp oAdd (tC (.int 1)) (tCall (sp_law_take K A) [] E0 (tCons (tVar 0) (tCons (tC (.int 2)) tNil)))) (gName 7)) tNext)
  (tSeq (tAsg (tCall (sp_law_height K A) [] E0 (tCons (tVar 7) (tCons (tVar 5) (tCons (tVar 2) tNil)))) (gName 5))
  (tDrop (tBM K "list" rAppend (tVar 4) (tCons (tVar 7) tNil)))))))
  (tRet (tRevL K (tVar 4))))))
def t_law_lost_chain (K : PySem.W.Frag) (A : CA) : TS :=
  (tSeq (tAsg (tCall (sp_law_take K A) [] E0 (tCons (tVar 0) (tCons (tOp oAdd (tC (.int 1)) (tCB oMin2 (tCons (tC (.int 4)) (tCons (tOp oDiv (tOp oSub (tC (.int 149)) (tVar 2)) (tVar 2)) tNil)))) tNil))) (gName 3))
  (tSeq (tAsg (tOp rCat (tOp rCat (tOp rRep (tLst (tCons (tC (.int 0)) tNil)) (tVar 2)) (tOp rRep (tOp rCat (tLst (tCons (tC (.int 1)) tNil)) (tOp rRep (tLst (tCons (tC (.int 0)) tNil)) (tOp oSub (tVar 2) (tC (.int 1))))) (tVar 3))) (tLst (tCons (tC (.int 0)) tNil))) (gName 4))
  (tSeq (tAsg (tLc (iRng1 (tCons (tCall (sp_law_take K A) [] E0 (tCons (tVar 0) (tCons (tC (.int 6)) tNil))) tNil)) (gName 6) tYes (tCall (sp_law_page K A) [] E0 (tCons (tVar 0) (tCons (tVar 1) tNil))) [6]) (gName 5))
  (tSeq (tAsg (tLc (iRng1 (tCons (tCall (sp_law_take K A) [] E0 (tCons (tVar 0) (tCons (tC (.int 6)) tNil))) tNil)) (gName 6) tYes (tCall (sp_law_page K A) [] E0 (tCons (tVar 0) (tCons (tVar 1) tNil))) [6]) (gName 7))
  (tRet (tOp rCat (tOp rCat (tVar 5) (tVar 4)) (tVar 7)))))))

variable {K : PySem.W.Frag} {A : CA} {vs : List V} {H : Hp} {Q : VK} {E : XK}
theorem Nn.app {a b : List Int} (h : Nn a) (k : Nn b) : Nn (a ++ b) := fun n hn => by
  rcases List.mem_append.mp hn with q | q
  · exact h n q
  · exact k n q
theorem Nn.one {n : Int} (h : 0 ≤ n) : Nn [n] := fun m hm => by rw [List.mem_singleton.mp hm]; exact h
theorem Nn.nil : Nn [] := fun _ h => by cases h
theorem Nn.rep {k : Nat} {xs : List Int} (h : Nn xs) : Nn (List.replicate k xs).flatten := fun n hn => by
  obtain ⟨l, hl, hm⟩ := List.mem_flatten.mp hn
  rw [(List.mem_replicate.mp hl).2] at hm; exact h n hm
theorem rd_law_page (h : sp_law_page K A vs H Q E) : t_law_page K A { nx := fun _ H' => Q .non H', rt := Q } (start ["bag", "lines", "way"] vs) H := by
  obtain ⟨s, n, rfl, hs, h0, h1, k⟩ := h
  unfold t_law_page
  walk_at "go"
  intro r H1 r0 r1 b1 s1
  walk_at "go"
  refine w_iteD (fun hc => ?_) (fun hc => ?_)
  · walk_at "go"
    exact k _ _ (by omega) b1 s1
  walk_at "go"
  refine w_iteD (fun hc => ?_) (fun hc => ?_)
  · walk_at "go"
    exact k _ _ (by omega) b1 s1
  walk_at "go"
  intro r2 H2 r3 r4 b2 s2
  exact k _ _ r3 (b1.trans b2) s2
theorem rd_law_height (h : sp_law_height K A vs H Q E) : t_law_height K A { nx := fun _ H' => Q .non H', rt := Q } (start ["count", "below", "copies"] vs) H := by
  obtain ⟨b, n, w, rfl, hn, q⟩ := h
  unfold t_law_height
  unfold M.ho at q
  walk_at "go"
  refine w_iteD (fun hc => ?_) (fun hc => ?_)
  · rw [if_neg (by omega), if_neg (by omega)] at q
    walk_at "go"
    exact q
  walk_at "go"
  refine w_iteD (fun hc1 => ?_) (fun hc1 => ?_)
  · rw [if_neg (by omega)] at q
    walk_at "go"
    by_cases hb : b ≥ w
    · rw [decide_eq_true hb]; rw [if_pos ⟨hc1, hb⟩] at q; exact q
    · rw [decide_eq_false hb]; rw [if_neg (fun z => hb z.2)] at q; exact q
  · rw [if_pos (by omega)] at q
    walk_at "go"
    exact q
/-- [page(bag, lines) for place in range(n)] -/
theorem lc_pages {σ : L2.St} {j : Nat} {n lines : Int} {s : Addr} (hs : Src H s) (n0 : 0 ≤ n) (n1 : n ≤ 100) (l0 : 0 ≤ lines) (l1 : lines ≤ 100)
    (h0 : ∀ v, ((wipe σ [j]).set j v)[0]? = some (some (.ref s))) (h1 : ∀ v, ((wipe σ [j]).set j v)[1]? = some (some (.int lines))) (hw : ∀ v, wipe ((wipe σ [j]).set j v) [j] = wipe σ [j])
    (q : ∀ (xs : List Int) (p : Addr) (H' : Hp), (xs.length : Int) = n → Nn xs → H p = none → But s H H' → Src H' s → H' p = some (.lst (xs.map V.int)) → Q (.ref p) H') :
    LcW (Itr 0 n.toNat) (gName j) tYes (tCall (sp_law_page K A) [] E0 (tCons (tVar 0) (tCons (tVar 1) tNil))) [j] σ H Q := by
  refine lcR (fun Dl i H' => ∃ xs : List Int, xs.length = i ∧ Nn xs ∧ But s H H' ∧ Src H' s ∧ H' Dl = some (.lst (xs.map V.int))) ?_ ?_ ?_
  · intro Dl hD
    exact ⟨[], rfl, Nn.nil, But.refl.new hD, hs.new hD, upd_same⟩
  · rintro Dl i H1 hD hi ⟨xs, hl, hx, b, s1, hp⟩
    have nds : Dl ≠ s := hs.neFree hD
    refine w_name ⟨hw _, w_lcT (w_call (w_cons (w_var (h0 _) (w_cons (w_var (h1 _) (w_nil (i_page s1 l0 l1 ?_)))))))⟩
    intro r H2 r0 b2 s2
    have hp2 := b2.at nds hp
    refine ⟨_, hp2, by rw [List.length_map]; exact L2.small1000 (by omega), xs ++ [r], by simp [hl], hx.app (Nn.one r0), (b.trans b2).mut hD, s2.mut nds, ?_⟩
    rw [← snocI]; exact upd_same
  · rintro Dl H1 hD ⟨xs, hl, hx, b, s1, hp⟩
    exact q xs Dl H1 (by omega) hx hD b s1 hp
end G

namespace G
open PySem L2
variable {K : PySem.W.Frag} {A : CA} {vs : List V} {H : Hp} {Q : VK} {E : XK}
theorem rd_law_drawn_chain (h : sp_law_drawn_chain K A vs H Q E) : t_law_drawn_chain K A { nx := fun _ H' => Q .non H', rt := Q } (start ["bag", "lines", "copies", "size", "place", "above", "middle", "below"] vs) H := by
  obtain ⟨s, n, z, w, rfl, hs, n0, n1, w0, w1, z0, z1, q⟩ := h
  unfold t_law_drawn_chain
  have short : ∀ H1, But s H H1 → Src H1 s → tRet (tLc (iRng1 (tCons (tVar 3) tNil)) (gName 4) tYes (tCall (sp_law_page K A) [] E0 (tCons (tVar 0) (tCons (tVar 1) tNil))) [4]) { nx := fun _ H' => Q .non H', rt := Q } (start ["bag", "lines", "copies", "size", "place", "above", "middle", "below"] [.ref s, .int n, .int (w : Int), .int z]) H1 := fun H1 b1 s1 => by
    walk_at "go"
    refine lc_pages s1 (by omega) (by omega) n0 n1 (fun _ => rfl) (fun _ => rfl) (fun _ => rfl) fun xs p H2 hx xn hp b2 s2 g => ?_
    exact q xs p H2 xn (by omega) (by omega) (b1.back s1 hp) (b1.trans b2) s2 g
  walk_at "go"
  refine w_iteD (fun c0 => ?_) (fun c0 => ?_)
  · refine w_iteT ?_
    exact short H But.refl hs
  walk_at "go"
  intro r H1 r0 r1 b1 s1
  walk_at "go"
  refine w_iteD (fun c1 => ?_) (fun c1 => ?_)
  · exact short H1 b1 s1
  walk_at "go"
  intro r2 H2 r20 r21 b2 s2
  walk_at "go"
  refine lc_pages s2 (by omega) (by omega) n0 n1 (fun _ => rfl) (fun _ => rfl) (fun _ => rfl) fun ab pa H3 hab abn hpa b3 s3 ga => ?_
  have b123 := (b1.trans b2).trans b3
  have npa : pa ≠ s := s2.neFree hpa
  refine w_name (w_seq (w_asg (w_op (Mk.rep (Mk.one Iv.c) (Iv.var (k := (w : Int)) rfl) (by omega) (by omega) (by simp; omega) _ fun p1 H4 hp1 e4 g1 => ?_))))
  refine w_op (w_op (Mk.cat (Mk.one Iv.c) (fun _ _ => Mk.rep (Mk.one Iv.c) (Iv.sub (Iv.var (k := (w : Int)) rfl) Iv.c) (by omega) (by omega) (by simp; omega)) (by simp; omega) _ fun p2 H5 hp2 e5 g2 => ?_))
  have s5 := (s3.same e4).same e5
  have ga5 := (e4.trans e5) _ _ ga
  have g1 := e5 _ _ g1
  have np1 : p1 ≠ s := s3.neFree hp1
  have np2 : p2 ≠ s := (s3.same e4).neFree hp2
  walk_at "go"
  intro r6 H6 r60 r61 b6 s6
  have ga6 := b6.at npa ga5
  have g1 := b6.at np1 g1
  have g2 := b6.at np2 g2
  refine w_rep g2 (by omega) (by omega) (by rw [List.length_map]; simp; exact Nat.le_trans (Nat.mul_le_mul (show _ ≤ 12 by omega) (show r6.toNat ≤ 2 by omega)) (by decide)) fun p3 hp3 => ?_
  have lw : ((w : Int)).toNat = w := by omega
  have l1 : ((List.replicate ((w : Int)).toNat [(0 : Int)]).flatten).length ≤ 12 := by rw [len_rep]; simp; omega
  have l2 : ((List.replicate r6.toNat ([1] ++ (List.replicate ((w : Int) - 1).toNat [(0 : Int)]).flatten)).flatten).length ≤ 24 := by
    rw [len_rep, List.length_append, len_rep]
    have : [(1 : Int)].length + ((w : Int) - 1).toNat * [(0 : Int)].length ≤ 12 := by simp; omega
    exact Nat.le_trans (Nat.mul_le_mul (show r6.toNat ≤ 2 by omega) this) (by decide)
  have m1 : Nn ((List.replicate ((w : Int)).toNat [(0 : Int)]).flatten) := Nn.rep (Nn.one (by decide))
  have m2 : Nn ((List.replicate r6.toNat ([1] ++ (List.replicate ((w : Int) - 1).toNat [(0 : Int)]).flatten)).flatten) := Nn.rep ((Nn.one (by decide)).app (Nn.rep (Nn.one (by decide))))
  rw [map_rep]
  generalize (List.replicate ((w : Int)).toNat [(0 : Int)]).flatten = X1 at l1 m1 g1
  generalize (List.replicate r6.toNat ([1] ++ (List.replicate ((w : Int) - 1).toNat [(0 : Int)]).flatten)).flatten = X2 at l2 m2
  have e7 := same_new (o := .lst (X2.map V.int)) hp3
  have g3 : upd H6 p3 (.lst (X2.map V.int)) p3 = some (.lst (X2.map V.int)) := upd_same
  generalize upd H6 p3 (.lst (X2.map V.int)) = H7 at e7 g3
  have g1 := e7 _ _ g1
  have s7 := s6.same e7
  have ga7 := e7 _ _ ga6
  walk_at "go"
  intro p4 hp4
  rw [← List.map_append]
  have e8 := same_new (o := .lst ((X1 ++ X2).map V.int)) hp4
  have g4 : upd H7 p4 (.lst ((X1 ++ X2).map V.int)) p4 = some (.lst ((X1 ++ X2).map V.int)) := upd_same
  generalize upd H7 p4 (.lst ((X1 ++ X2).map V.int)) = H8 at e8 g4
  have s8 := s7.same e8
  have ga8 := e8 _ _ ga7
  have l4 : (X1 ++ X2).length ≤ 36 := by rw [List.length_append]; omega
  have m4 := m1.app m2
  generalize X1 ++ X2 = X4 at l4 m4 g4
  have n4 : p4 ≠ s := s7.neFree hp4
  refine w_name (w_seq (w_asg (w_op (w_op (w_var rfl ?_)))))
  refine w_lst (w_cons (w_c (w_nil ⟨(by decide), fun p5 hp5 => ?_⟩)))
  have e9 := same_new (o := .lst [V.int 1]) hp5
  have g5 : upd H8 p5 (.lst [V.int 1]) p5 = some (.lst ([(1 : Int)].map V.int)) := upd_same
  generalize upd H8 p5 (.lst [V.int 1]) = H9 at e9 g5
  have s9 := s8.same e9
  have ga9 := e9 _ _ ga8
  have g4 := e9 _ _ g4
  refine w_cat g4 g5 (by rw [List.length_map, List.length_map]; exact Nat.le_of_lt (L2.small1000 (by simp; omega))) fun p6 hp6 => ?_
  rw [← List.map_append]
  have e10 := same_new (o := .lst ((X4 ++ [1]).map V.int)) hp6
  have g6 : upd H9 p6 (.lst ((X4 ++ [1]).map V.int)) p6 = some (.lst ((X4 ++ [1]).map V.int)) := upd_same
  have n6 : p6 ≠ s := s9.neFree hp6
  generalize upd H9 p6 (.lst ((X4 ++ [1]).map V.int)) = H10 at e10 g6
  have s10 := s9.same e10
  have ga10 := e10 _ _ ga9
  refine w_op (w_lst (w_cons (w_c (w_nil ⟨(by decide), fun p7 hp7 => ?_⟩))))
  have e11 := same_new (o := .lst [V.int 0]) hp7
  have g7 : upd H10 p7 (.lst [V.int 0]) p7 = some (.lst ([(0 : Int)].map V.int)) := upd_same
  have n7 : p7 ≠ s := s10.neFree hp7
  generalize upd H10 p7 (.lst [V.int 0]) = H11 at e11 g7
  have s11 := s10.same e11
  have ga11 := e11 _ _ ga10
  have g6 := e11 _ _ g6
  walk_at "go"
  intro r8 H12 r80 r81 b12 s12
  have ga12 := b12.at npa ga11
  have g6 := b12.at n6 g6
  have g7 := b12.at n7 g7
  refine w_rep g7 (by omega) (by omega) (by rw [List.length_map]; exact Nat.le_trans (Nat.mul_le_mul (show _ ≤ 1 by simp) (show r8.toNat ≤ 12 by omega)) (by decide)) fun p8 hp8 => ?_
  rw [map_rep]
  have l8 : ((List.replicate r8.toNat [(0 : Int)]).flatten).length ≤ 12 := by rw [len_rep]; simp; omega
  have m8 : Nn ((List.replicate r8.toNat [(0 : Int)]).flatten) := Nn.rep (Nn.one (by decide))
  generalize (List.replicate r8.toNat [(0 : Int)]).flatten = X8 at l8 m8
  have e13 := same_new (o := .lst (X8.map V.int)) hp8
  have g8 : upd H12 p8 (.lst (X8.map V.int)) p8 = some (.lst (X8.map V.int)) := upd_same
  generalize upd H12 p8 (.lst (X8.map V.int)) = H13 at e13 g8
  have s13 := s12.same e13
  have ga13 := e13 _ _ ga12
  have g6 := e13 _ _ g6
  refine w_cat g6 g8 (by rw [List.length_map, List.length_map]; exact Nat.le_of_lt (L2.small1000 (by simp; omega))) fun p9 hp9 => ?_
  rw [← List.map_append]
  have l9 : (X4 ++ [1] ++ X8).length ≤ 49 ∧ 1 ≤ (X4 ++ [1] ++ X8).length := by simp; omega
  have m9 : Nn (X4 ++ [1] ++ X8) := (m4.app (Nn.one (by decide))).app m8
  generalize X4 ++ [1] ++ X8 = X9 at l9 m9
  have e14 := same_new (o := .lst (X9.map V.int)) hp9
  have g9 : upd H13 p9 (.lst (X9.map V.int)) p9 = some (.lst (X9.map V.int)) := upd_same
  have n9 : p9 ≠ s := s13.neFree hp9
  generalize upd H13 p9 (.lst (X9.map V.int)) = H14 at e14 g9
  have s14 := s13.same e14
  have ga14 := e14 _ _ ga13
  have bb : But s H H14 := (((((((((b123.trans (Same.but e4)).trans (Same.but e5)).trans b6).trans (Same.but e7)).trans (Same.but e8)).trans (Same.but e9)).trans (Same.but e10)).trans (Same.but e11)).trans b12).trans ((Same.but e13).trans (Same.but e14))
  walk_at "go"
  intro r9 H15 r90 r91 b15 s15
  have ga15 := b15.at npa ga14
  have g9 := b15.at n9 g9
  walk_at "go"
  refine lc_pages s15 (by omega) (by omega) n0 n1 (fun _ => rfl) (fun _ => rfl) (fun _ => rfl) fun be pb H16 hbe ben hpb b16 s16 gb => ?_
  have ga16 := b16.at npa ga15
  have g9 := b16.at n9 g9
  have npb : pb ≠ s := s15.neFree hpb
  refine w_name (w_ret (w_op (w_op (w_var rfl (w_var rfl ?_)))))
  refine w_cat ga16 g9 (by rw [List.length_map, List.length_map]; exact Nat.le_of_lt (L2.small1000 (by omega))) fun p10 hp10 => ?_
  rw [← List.map_append]
  have e17 := same_new (o := .lst ((ab ++ X9).map V.int)) hp10
  have g10 : upd H16 p10 (.lst ((ab ++ X9).map V.int)) p10 = some (.lst ((ab ++ X9).map V.int)) := upd_same
  generalize upd H16 p10 (.lst ((ab ++ X9).map V.int)) = H17 at e17 g10
  have gb17 := e17 _ _ gb
  have s17 := s16.same e17
  have b17 := ((bb.trans b15).trans b16).trans (Same.but e17)
  refine w_var rfl ?_
  refine w_cat g10 gb17 (by rw [List.length_map, List.length_map]; exact Nat.le_of_lt (L2.small1000 (by simp; omega))) fun p11 hp11 => ?_
  rw [← List.map_append]
  exact q _ p11 _ ((abn.app m9).app ben) (by simp; omega) (by simp; omega) (b17.back s17 hp11) (b17.new hp11) (s17.new hp11) upd_same
end G

namespace G
open PySem L2
theorem zs_eq (k : Nat) : (List.replicate k [(0 : Int)]).flatten = List.replicate k 0 := flat_one k 0
theorem ht_zs (w : Int) (k : Nat) (R : List Int) : M.ht w (List.replicate k 0 ++ R) = (k : Int) + M.ht w R := by
  induction k with
  | zero => simp
  | succ k ih => rw [List.replicate_succ, List.cons_append, M.ht_c, M.ho0, ih]; omega
theorem ht_lost (w : Nat) (hw : 1 ≤ w) (be : List Int) : ∀ k : Nat, 1 ≤ M.ht w ((List.replicate k ([(1 : Int)] ++ List.replicate (w - 1) 0)).flatten ++ ([0] ++ be))
  | 0 => by
    have := M.ht_nonneg w be
    show 1 ≤ M.ht w (0 :: be)
    rw [M.ht_c, M.ho0]; omega
  | k + 1 => by
    have ih := ht_lost w hw be k
    rw [List.replicate_succ, List.flatten_cons, List.append_assoc, List.append_assoc]
    show 1 ≤ M.ht w (1 :: (List.replicate (w - 1) 0 ++ _))
    rw [M.ht_c, ht_zs]
    unfold M.ho
    rw [if_neg (by decide), if_pos ⟨rfl, by omega⟩]; omega
theorem low_lost (w : Nat) (hw : 1 ≤ w) (ab be : List Int) (k : Nat) : ∃ l, M.low w (ab ++ (List.replicate w 0 ++ (List.replicate k ([(1 : Int)] ++ List.replicate (w - 1) 0)).flatten ++ [0]) ++ be) = some l := by
  cases h : M.low w (ab ++ (List.replicate w 0 ++ (List.replicate k ([(1 : Int)] ++ List.replicate (w - 1) 0)).flatten ++ [0]) ++ be) with
  | some l => exact ⟨l, rfl⟩
  | none =>
    exfalso
    have := M.low_none h ab.length (by simp; omega)
    have e : (ab ++ (List.replicate w 0 ++ (List.replicate k ([(1 : Int)] ++ List.replicate (w - 1) 0)).flatten ++ [0]) ++ be).drop ab.length = List.replicate w 0 ++ ((List.replicate k ([(1 : Int)] ++ List.replicate (w - 1) 0)).flatten ++ ([0] ++ be)) := by
      rw [List.append_assoc, List.drop_left]; simp
    show False
    have h2 : M.ht w (List.drop ab.length (ab ++ (List.replicate w 0 ++ (List.replicate k ([(1 : Int)] ++ List.replicate (w - 1) 0)).flatten ++ [0]) ++ be)) ≤ w := this
    rw [e, ht_zs] at h2
    have := ht_lost w hw be k
    omega
theorem ho_le {b n w : Int} (hw : 1 ≤ w) (h0 : 0 ≤ n) (h : n = 0 → b < w) : M.ho b n w ≤ w := by
  unfold M.ho
  split
  · rename_i e; have := h e; omega
  · split <;> omega
theorem low_rev {w : Int} {ch : List Int} (h : ∀ x ∈ M.hscan w 0 ch, x ≤ w) : M.low w ch.reverse = none := M.low_none_of fun j hj => by
  have e := M.hts_get w ch.reverse j hj
  unfold M.hts at e
  rw [List.reverse_reverse] at e
  exact h _ (List.mem_reverse.mp (List.mem_of_getElem? e))
variable {K : PySem.W.Frag} {A : CA} {vs : List V} {H : Hp} {Q : VK} {E : XK}
theorem rd_law_kept_chain (h : sp_law_kept_chain K A vs H Q E) : t_law_kept_chain K A { nx := fun _ H' => Q .non H', rt := Q } (start ["bag", "lines", "copies", "size", "chain", "below", "drawn", "count"] vs) H := by
  obtain ⟨s, n, z, w, rfl, hs, n0, n1, w0, w1, z0, z1, q⟩ := h
  unfold t_law_kept_chain
  walk_at "go"
  intro p hp
  have nps : p ≠ s := hs.neFree hp
  have s1 := hs.new (o := .lst []) hp
  have b1 : But s H (upd H p (.lst [])) := But.refl.new hp
  have g1 : upd H p (.lst []) p = some (.lst []) := upd_same
  generalize upd H p (.lst []) = H1 at s1 b1 g1
  walk_at "go"
  intro c pd H2 cn c0 c1 hpd b2 s2 gd
  have g2 := b2.at nps g1
  walk_at "go"
  intro pr hpr
  rw [rev_map]
  have e3 := same_new (o := .lst (c.reverse.map V.int)) hpr
  have gr : upd H2 pr (.lst (c.reverse.map V.int)) pr = some (.lst (c.reverse.map V.int)) := upd_same
  have npr : pr ≠ s := s2.neFree hpr
  have nppr : p ≠ pr := ne_of_none g2 hpr
  have s3 := s2.same e3
  have g3 := e3 _ _ g2
  have b3 := (b1.trans b2).trans (Same.but e3)
  have hrf : H pr = none := (b1.trans b2).back s2 hpr
  generalize upd H2 pr (.lst (c.reverse.map V.int)) = H3 at gr s3 g3 b3
  walk_at "go"
  refine forL (xs := c.reverse.map V.int) (fun i σ H' => ∃ (ch : List Int) (k6 k7 : Option V), σ = [some (.ref s), some (.int n), some (.int (w : Int)), some (.int z), some (.ref p), some (.int (M.hlast w 0 ch)), k6, k7] ∧ ch.length = i ∧ Nn ch ∧
    (∀ x ∈ M.hscan w 0 ch, x ≤ w) ∧ M.hlast w 0 ch ≤ w ∧ But s H H' ∧ Src H' s ∧ H' pr = some (.lst (c.reverse.map V.int)) ∧ H' p = some (.lst (ch.map V.int))) ?_ ?_ ?_ ?_
  · exact ⟨[], none, none, rfl, rfl, Nn.nil, (fun _ h => by cases h), by show (0 : Int) ≤ w; omega, b3, s3, gr, g3⟩
  · rintro i σ H4 hi ⟨ch, k6, k7, rfl, _, _, _, _, _, _, gr4, _⟩
    exact .of gr4
  · rintro i x σ H4 hx ⟨ch, k6, k7, rfl, hl, hn, hsc, hla, b4, s4, gr4, g4⟩
    obtain ⟨hi, rfl⟩ := getI hx
    have hcn : 0 ≤ c.reverse[i] := cn _ (List.mem_reverse.mp (List.getElem_mem hi))
    generalize c.reverse[i] = d at hcn
    rw [List.length_reverse] at hi
    have fin : ∀ (D : Ends), (∀ (σ : L2.St) (H' : Hp), (∃ (ch : List Int) (k6 k7 : Option V), σ = [some (.ref s), some (.int n), some (.int (w : Int)), some (.int z), some (.ref p), some (.int (M.hlast w 0 ch)), k6, k7] ∧ ch.length = i + 1 ∧ Nn ch ∧
    (∀ x ∈ M.hscan w 0 ch, x ≤ w) ∧ M.hlast w 0 ch ≤ w ∧ But s H H' ∧ Src H' s ∧ H' pr = some (.lst (c.reverse.map V.int)) ∧ H' p = some (.lst (ch.map V.int))) → D.nx σ H') → ∀ (d2 : Int) (H5 : Hp), 0 ≤ d2 → (d2 = 0 → M.hlast w 0 ch < w) → But s H H5 → Src H5 s → H5 pr = some (.lst (c.reverse.map V.int)) → H5 p = some (.lst (ch.map V.int)) →
      (tSeq (tAsg (tCall (sp_law_height K A) [] E0 (tCons (tVar 7) (tCons (tVar 5) (tCons (tVar 2) tNil)))) (gName 5)) (tDrop (tBM K "list" rAppend (tVar 4) (tCons (tVar 7) tNil))))
       D [some (.ref s), some (.int n), some (.int (w : Int)), some (.int z), some (.ref p), some (.int (M.hlast w 0 ch)), some (.int d), some (.int d2)] H5 := by
      intro D hD d2 H5 hd0 hd1 b5 s5 gr5 g5
      have hsz : (ch.map V.int).length < sizeLine := by rw [List.length_map]; exact L2.small1000 (by omega)
      have hle := ho_le (b := M.hlast w 0 ch) (show (1 : Int) ≤ (w : Int) by omega) hd0 hd1
      walk_at "go"
      refine hD _ _ ⟨ch ++ [d2], _, _, by rw [M.hlast_snoc]; rfl, by simp [hl], hn.app (Nn.one hd0), fun x hx => ?_, by rw [M.hlast_snoc]; exact hle, b5.mut hp, s5.mut nps, keepNe gr5 nppr.symm, by rw [← snocI]; exact upd_same⟩
      rw [M.hscan_snoc] at hx
      rcases List.mem_append.mp hx with h | h
      · exact hsc x h
      · rw [List.mem_singleton.mp h]; exact hle
    walk_at "go"
    refine w_iteD (fun hd0 => ?_) (fun hd0 => ?_)
    · walk_at "go"
      refine w_iteD (fun hd1 => ?_) (fun hd1 => ?_)
      · walk_at "go"
        intro r H5 r0 r1 b5 s5
        refine w_oAdd (w_name ?_)
        refine fin _ ?_ (1 + r) H5 (by omega) (fun h => by omega) (b4.trans b5) s5 (b5.at npr gr4) (b5.at nps g4)
        exact fun _ _ h => h
      · refine fin _ ?_ d H4 hcn (fun _ => by omega) b4 s4 gr4 g4
        exact fun _ _ h => h
    · refine w_iteF (fin _ ?_ d H4 hcn (fun h => absurd h hd0) b4 s4 gr4 g4)
      exact fun _ _ h => h
  · rintro σ H4 ⟨ch, k6, k7, rfl, hl, hn, hsc, hla, b4, s4, gr4, g4⟩
    rw [List.length_map, List.length_reverse] at hl
    walk_at "go"
    intro pz hpz
    rw [rev_map]
    exact q ch.reverse pz _ (fun x hx => hn x (List.mem_reverse.mp hx)) (by simp; omega) (by simp; omega) (low_rev hsc) (b4.back s4 hpz) (b4.new hpz) upd_same
theorem rd_law_lost_chain (h : sp_law_lost_chain K A vs H Q E) : t_law_lost_chain K A { nx := fun _ H' => Q .non H', rt := Q } (start ["bag", "lines", "copies", "groups", "middle", "above", "place", "below"] vs) H := by
  obtain ⟨s, n, w, rfl, hs, n0, n1, w0, w1, q⟩ := h
  unfold t_law_lost_chain
  have hdv : 0 ≤ (149 - (w : Int)) / (w : Int) := Int.ediv_nonneg (by omega) (by omega)
  walk_at "go"
  intro r H1 r0 r1 b1 s1
  have r5 : r < 5 := by split at r1 <;> omega
  refine w_name (w_seq (w_asg (Mk.cat (Mk.cat (Mk.rep (Mk.one Iv.c) (Iv.var (k := (w : Int)) rfl) (by omega) (by omega) (by simp; omega)) (fun _ _ => Mk.rep (Mk.cat (Mk.one Iv.c) (fun _ _ => Mk.rep (Mk.one Iv.c) (Iv.sub (Iv.var (k := (w : Int)) rfl) Iv.c) (by omega) (by omega) (by simp; omega)) (by simp; omega)) (Iv.var (k := r) rfl) (by omega) (by omega) ?_) ?_) (fun _ _ => Mk.one Iv.c) ?_ _ fun pm H2 hpm e2 gm => ?_)))
  · have : ([(1 : Int)] ++ (List.replicate ((w : Int) - 1).toNat [(0 : Int)]).flatten).length ≤ 71 := by rw [List.length_append, len_rep]; simp; omega
    exact Nat.le_trans (Nat.mul_le_mul this (show r.toNat ≤ 4 by omega)) (by decide)
  · have : ([(1 : Int)] ++ (List.replicate ((w : Int) - 1).toNat [(0 : Int)]).flatten).length ≤ 71 := by rw [List.length_append, len_rep]; simp; omega
    have h2 := Nat.mul_le_mul (show r.toNat ≤ 4 by omega) this
    rw [len_rep, len_rep]
    simp only [List.length_singleton]; omega
  · have : ([(1 : Int)] ++ (List.replicate ((w : Int) - 1).toNat [(0 : Int)]).flatten).length ≤ 71 := by rw [List.length_append, len_rep]; simp; omega
    have h2 := Nat.mul_le_mul (show r.toNat ≤ 4 by omega) this
    rw [List.length_append, len_rep, len_rep]
    simp only [List.length_singleton]; omega
  have g2 := gm
  have s2 := s1.same e2
  have b12 := b1.trans (Same.but e2)
  have npm : pm ≠ s := s1.neFree hpm
  walk_at "go"
  intro r3 H3 r30 r31 b3 s3
  walk_at "go"
  refine lc_pages s3 (by omega) (by omega) n0 n1 (fun _ => rfl) (fun _ => rfl) (fun _ => rfl) fun ab pa H4 hab abn hpa b4 s4 ga => ?_
  have npa : pa ≠ s := s3.neFree hpa
  walk_at "go"
  intro r5 H5 r50 r51 b5 s5
  walk_at "go"
  refine lc_pages s5 (by omega) (by omega) n0 n1 (fun _ => rfl) (fun _ => rfl) (fun _ => rfl) fun be pb H6 hbe ben hpb b6 s6 gb => ?_
  have ga6 := b6.at npa (b5.at npa ga)
  have g6 := b6.at npm (b5.at npm (b4.at npm (b3.at npm g2)))
  have bb := (((b12.trans b3).trans b4).trans b5).trans b6
  have lX : ((List.replicate ((w : Int)).toNat [(0 : Int)]).flatten ++ (List.replicate r.toNat ([1] ++ (List.replicate ((w : Int) - 1).toNat [(0 : Int)]).flatten)).flatten ++ [0]).length ≤ 400 := by
    have : ([(1 : Int)] ++ (List.replicate ((w : Int) - 1).toNat [(0 : Int)]).flatten).length ≤ 71 := by rw [List.length_append, len_rep]; simp; omega
    have h2 := Nat.mul_le_mul (show r.toNat ≤ 4 by omega) this
    rw [List.length_append, List.length_append, len_rep, len_rep]
    simp only [List.length_singleton]; omega
  have nX : Nn ((List.replicate ((w : Int)).toNat [(0 : Int)]).flatten ++ (List.replicate r.toNat ([1] ++ (List.replicate ((w : Int) - 1).toNat [(0 : Int)]).flatten)).flatten ++ [0]) :=
    ((Nn.rep (Nn.one (by decide))).app (Nn.rep ((Nn.one (by decide)).app (Nn.rep (Nn.one (by decide)))))).app (Nn.one (by decide))
  have low : ∃ l, M.low w (ab ++ ((List.replicate ((w : Int)).toNat [(0 : Int)]).flatten ++ (List.replicate r.toNat ([1] ++ (List.replicate ((w : Int) - 1).toNat [(0 : Int)]).flatten)).flatten ++ [0]) ++ be) = some l := by
    have := low_lost w w0 ab be r.toNat
    rw [zs_eq, zs_eq, show ((w : Int)).toNat = w by omega, show ((w : Int) - 1).toNat = w - 1 by omega]
    exact this
  generalize (List.replicate ((w : Int)).toNat [(0 : Int)]).flatten ++ (List.replicate r.toNat ([1] ++ (List.replicate ((w : Int) - 1).toNat [(0 : Int)]).flatten)).flatten ++ [0] = X at lX nX low g6
  refine w_name (w_ret (w_op (w_op (w_var rfl (w_var rfl ?_)))))
  refine w_cat ga6 g6 (by rw [List.length_map, List.length_map]; exact Nat.le_of_lt (L2.small1000 (by omega))) fun p7 hp7 => ?_
  rw [← List.map_append]
  have e7 := same_new (o := .lst ((ab ++ X).map V.int)) hp7
  have g7 : upd H6 p7 (.lst ((ab ++ X).map V.int)) p7 = some (.lst ((ab ++ X).map V.int)) := upd_same
  generalize upd H6 p7 (.lst ((ab ++ X).map V.int)) = H7 at e7 g7
  have gb7 := e7 _ _ gb
  have s7 := s6.same e7
  have b7 := bb.trans (Same.but e7)
  refine w_var rfl ?_
  refine w_cat g7 gb7 (by rw [List.length_map, List.length_map]; exact Nat.le_of_lt (L2.small1000 (by simp; omega))) fun p8 hp8 => ?_
  rw [← List.map_append]
  obtain ⟨l, hl⟩ := low
  exact q _ p8 _ ((abn.app nX).app ben) (by
    have := (M.low_some hl).1
    omega) (by simp; omega) ⟨l, hl⟩ (b7.back s7 hp8) (b7.new hp8) (s7.new hp8) upd_same
end G

namespace G
open PySem L2
def lowO (w : Int) (c : List Int) : V := match M.low w c with | none => V.non | some i => .int (i : Nat)
def sp_law_heights (K : PySem.W.Frag) (A : CA) : Sp := fun vs H Q _ => ∃ (a : Addr) (c : List Int) (w : Int), vs = [.ref a, .int w] ∧ H a = some (.lst (c.map V.int)) ∧ c.length ≤ 1000 ∧ Nn c ∧
  ∀ (p : Addr) (H' : Hp), H p = none → Same H H' → H' p = some (.lst ((M.hts w c).map V.int)) → Q (.ref p) H'
def sp_law_lowest (K : PySem.W.Frag) (A : CA) : Sp := fun vs H Q _ => ∃ (a : Addr) (c : List Int) (w : Int), vs = [.ref a, .int w] ∧ H a = some (.lst (c.map V.int)) ∧ c.length ≤ 1000 ∧ Nn c ∧
  ∀ (H' : Hp), Same H H' → Q (lowO w c) H'
def sp_law_uses (K : PySem.W.Frag) (A : CA) : Sp := fun vs H Q _ => ∃ (b : Addr) (n p : Nat) (cop : List Nat), vs = [.int (n : Int), .int (p : Int), .ref b] ∧ H b = some (.lst ((nI cop).map V.int)) ∧ n ≤ 1000 ∧
  ∀ (q : Addr) (H' : Hp), H q = none → Same H H' → H' q = some (.lst (((List.range n).map (M.uses p cop)).map V.int)) → Q (.ref q) H'
def sp_law_after (K : PySem.W.Frag) (A : CA) : Sp := fun vs H Q _ => ∃ (a b : Addr) (c : List Int) (k : Int) (p : Nat) (cop : List Nat), vs = [.ref a, .int k, .int (p : Int), .ref b] ∧ H a = some (.lst (c.map V.int)) ∧ H b = some (.lst ((nI cop).map V.int)) ∧ c.length ≤ 1000 ∧
  ∀ (q : Addr) (H' : Hp), H q = none → Same H H' → H' q = some (.lst ((M.aft c k p cop).map V.int)) → Q (.ref q) H'
def sp_law_quiet (K : PySem.W.Frag) (A : CA) : Sp := fun vs H Q _ => ∃ (a : Addr) (c : List Int) (w : Int) (p : Nat), vs = [.ref a, .int w, .int (p : Int)] ∧ H a = some (.lst (c.map V.int)) ∧ c.length ≤ 1000 ∧ Nn c ∧ p < c.length ∧
  ∀ (H' : Hp), Same H H' → Q (.bl (decide (M.gt c p ≠ 0 ∧ M.low w (M.plain c p) = none))) H'
def sp_law_is_row (K : PySem.W.Frag) (A : CA) : Sp := fun vs H Q _ => ∃ (a : Addr) (ns : List Int), vs = [.ref a] ∧ (SqL K H a (ns.map V.int) ∨ SqT K H a (ns.map V.int)) ∧ ns.length ≤ 1000 ∧ ∀ (H' : Hp), Same H H' → Q (.bl true) H'
variable {K : PySem.W.Frag} {A : CA} {vs : List V} {H : Hp} {Q : VK} {E : XK}
theorem i_lheights {a : Addr} {c : List Int} {w : Int} (h : H a = some (.lst (c.map V.int))) (hl : c.length ≤ 1000) (h0 : Nn c)
    (q : ∀ (p : Addr) (H' : Hp), H p = none → Same H H' → H' p = some (.lst ((M.hts w c).map V.int)) → Q (.ref p) H') : sp_law_heights K A [.ref a, .int w] H Q E := ⟨a, c, w, rfl, h, hl, h0, q⟩
theorem i_llow {a : Addr} {c : List Int} {w : Int} (h : H a = some (.lst (c.map V.int))) (hl : c.length ≤ 1000) (h0 : Nn c) (q : ∀ (H' : Hp), Same H H' → Q (lowO w c) H') : sp_law_lowest K A [.ref a, .int w] H Q E := ⟨a, c, w, rfl, h, hl, h0, q⟩
theorem i_luses {b : Addr} {n p : Nat} {cop : List Nat} (hb : H b = some (.lst ((nI cop).map V.int))) (hn : n ≤ 1000)
    (q : ∀ (q : Addr) (H' : Hp), H q = none → Same H H' → H' q = some (.lst (((List.range n).map (M.uses p cop)).map V.int)) → Q (.ref q) H') : sp_law_uses K A [.int (n : Int), .int (p : Int), .ref b] H Q E := ⟨b, n, p, cop, rfl, hb, hn, q⟩
theorem i_lafter {a b : Addr} {c : List Int} {k : Int} {p : Nat} {cop : List Nat} (ha : H a = some (.lst (c.map V.int))) (hb : H b = some (.lst ((nI cop).map V.int))) (hl : c.length ≤ 1000)
    (q : ∀ (q : Addr) (H' : Hp), H q = none → Same H H' → H' q = some (.lst ((M.aft c k p cop).map V.int)) → Q (.ref q) H') : sp_law_after K A [.ref a, .int k, .int (p : Int), .ref b] H Q E := ⟨a, b, c, k, p, cop, rfl, ha, hb, hl, q⟩
theorem i_lquiet {a : Addr} {c : List Int} {w : Int} {p : Nat} (ha : H a = some (.lst (c.map V.int))) (hl : c.length ≤ 1000) (h0 : Nn c) (hp : p < c.length)
    (q : ∀ (H' : Hp), Same H H' → Q (.bl (decide (M.gt c p ≠ 0 ∧ M.low w (M.plain c p) = none))) H') : sp_law_quiet K A [.ref a, .int w, .int (p : Int)] H Q E := ⟨a, c, w, p, rfl, ha, hl, h0, hp, q⟩
theorem i_rowL {a : Addr} {ns : List Int} (h : SqL K H a (ns.map V.int)) (hl : ns.length ≤ 1000) (q : ∀ (H' : Hp), Same H H' → Q (.bl true) H') : sp_law_is_row K A [.ref a] H Q E := ⟨a, ns, rfl, .inl h, hl, q⟩
theorem i_rowT {a : Addr} {ns : List Int} (h : SqT K H a (ns.map V.int)) (hl : ns.length ≤ 1000) (q : ∀ (H' : Hp), Same H H' → Q (.bl true) H') : sp_law_is_row K A [.ref a] H Q E := ⟨a, ns, rfl, .inr h, hl, q⟩
end G
local macro_rules | `(tactic| walk_at "call") => `(tactic| first
  | (refine' G.i_lheights ?g1 ?g2 ?g3 ?_; (case g1 => walk_at "hp"); (case g2 => walk_at "ar"); (case g3 => assumption))
  | (refine' G.i_llow ?g1 ?g2 ?g3 ?_; (case g1 => walk_at "hp"); (case g2 => walk_at "ar"); (case g3 => assumption))
  | (refine' G.i_luses ?g1 ?g2 ?_; (case g1 => walk_at "hp"); (case g2 => walk_at "ar"))
  | (refine' G.i_lafter ?g1 ?g2 ?g3 ?_; (case g1 => walk_at "hp"); (case g2 => walk_at "hp"); (case g3 => walk_at "ar"))
  | (refine' G.i_lquiet ?g1 ?g2 ?g3 ?g4 ?_; (case g1 => walk_at "hp"); (case g2 => walk_at "ar"); (case g3 => assumption); (case g4 => walk_at "ar"))
  | (refine' G.i_rowL ?g1 ?g2 ?_; (case g1 => walk_at "sq"); (case g2 => walk_at "ar"))
  | (refine' G.i_rowT ?g1 ?g2 ?_; (case g1 => walk_at "sqt"); (case g2 => walk_at "ar")))
namespace G
open PySem L2
def t_law_is_row (K : PySem.W.Frag) (A : CA) : TS :=
  (tRet (tCB (rAll K) (tCons (tLc (GY.iSeq K (tVar 0)) (gName 1) tYes (tCall (sp_law_is_integer K A) [] E0 (tCons (tVar 1) tNil)) [1]) tNil)))
def t_law_heights (K : PySem.W.Frag) (A : CA) : TS :=
  (tSeq (tAsg (tLst tNil) (gName 2))
  (tSeq (tAsg (tC (.int 0)) (gName 3))
  (tSeq (tFor (iList K (tRevL K (tVar 0))) (gName 4)
  (tSeq (tAsg (tCall (sp_law_height K A) [] E0 (tCons (tVar 4) (tCons (tVar 3) (tCons (tVar 1) tNil)))) (gName 3))
  (tDrop (tBM K "list" rAppend (tVar 2) (tCons (tVar 3) tNil)))))
  (tRet (tRevL K (tVar 2))))))
def t_law_lowest (K : PySem.W.Frag) (A : CA) : TS :=
  (tSeq (tAsg (tCall (sp_law_heights K A) [] E0 (tCons (tVar 0) (tCons (tVar 1) tNil))) (gName 2))
  (tSeq (tAsg (tLc (iRng1 (tCons (tCB (rLenQ K) (tCons (tVar 0) tNil)) tNil)) (gName 4) (tTest (tOp oGt (tOp (rIxL K) (tVar 2) (tVar 4)) (tVar 1))) (tVar 4) [4]) (gName 3))
  (tSeq (tIfS (tTruK K (tVar 3)) (tRet (tOp (rIxL K) (tVar 3) (tUn oNeg (tC (.int 1))))) tNext)
  (tRet (tC .non)))))
def t_law_uses (K : PySem.W.Frag) (A : CA) : TS :=
  (tSeq (tAsg (tLst tNil) (gName 3))
  (tSeq (tFor (iRng1 (tCons (tVar 0) tNil)) (gName 4)
  (tIfS (tTest (tOp (rIn K false) (tVar 4) (tVar 2))) (tDrop (tBM K "list" rAppend (tVar 3) (tCons (tC (.int 0)) tNil))) (tDrop (tBM K "list" rAppend (tVar 3) (tCons (tOp oAdd (tCB oInt (tCons (tOp rEq (tVar 4) (tVar 1)) tNil)) (tCB oInt (tCons (tOp (rIn K false) (tOp oAdd (tVar 4) (tC (.int 1))) (tVar 2)) tNil))) tNil)))))
  (tRet (tVar 3))))
def t_law_after (K : PySem.W.Frag) (A : CA) : TS :=
  (tSeq (tAsg (tCall (sp_law_uses K A) [] E0 (tCons (tCB (rLenQ K) (tCons (tVar 0) tNil)) (tCons (tVar 2) (tCons (tVar 3) tNil)))) (gName 4))
  (tRet (tLc (iRng1 (tCons (tCB (rLenQ K) (tCons (tVar 0) tNil)) tNil)) (gName 5) tYes (tIf (tTest (tOp (rIn K false) (tVar 5) (tVar 3))) (tVar 1) (tOp oSub (tOp (rIxL K) (tVar 0) (tVar 5)) (tOp (rIxL K) (tVar 4) (tVar 5)))) [5])))
def t_law_quiet (K : PySem.W.Frag) (A : CA) : TS :=
  (tSeq (tIfS (tTest (tOp rEq (tOp (rIxL K) (tVar 0) (tVar 2)) (tC (.int 0)))) (tRet (tC (.bl false))) tNext)
  (tSeq (tAsg (tCB (oListOf K) (tCons (tVar 0) tNil)) (gName 3))
  (tSeq (tAsg (tOp oSub (tOp (rIxL K) (tVar 3) (tVar 2)) (tC (.int 1))) (gSub (tVar 3) (tVar 2) rSetL))
  (tRet (tIsN (tCall (sp_law_lowest K A) [] E0 (tCons (tVar 3) (tCons (tVar 1) tNil))))))))

variable {K : PySem.W.Frag} {A : CA} {vs : List V} {H : Hp} {Q : VK} {E : XK}
theorem sameT {K : PySem.W.Frag} {H H' : Hp} {a : Addr} {xs : List V} (e : Same H H') (h : SqT K H a xs) : SqT K H' a xs := by
  rcases h with (h | ⟨o, h⟩) | h
  · exact .inl (.inl (e _ _ h))
  · exact .inl (.inr ⟨o, e _ _ h⟩)
  · exact .inr h
theorem rd_law_is_row (h : sp_law_is_row K A vs H Q E) : t_law_is_row K A { nx := fun _ H' => Q .non H', rt := Q } (start ["actual", "one"] vs) H := by
  obtain ⟨a, ns, rfl, ha, hl, q⟩ := h
  unfold t_law_is_row
  refine w_ret (w_cb (w_cons (GY.w_lcS (w_var rfl ⟨a, rfl, ?_⟩))))
  have done : ∀ Dl H1, H Dl = none → (Same H H1 ∧ H1 Dl = some (.lst ((List.replicate ns.length true).map V.bl))) → tNil (start ["actual", "one"] [.ref a]) H1 fun vs H1 => rAll K (V.ref Dl :: vs) H1 Q := fun Dl H1 hD ⟨e, hp⟩ => by
    refine w_nil (w_all (.of hp) ?_)
    have : (List.replicate ns.length true).all id = true := by simp
    rw [this]; exact q H1 e
  have snoc : ∀ i, (List.replicate i true).map V.bl ++ [V.bl true] = (List.replicate (i + 1) true).map V.bl := fun i => by rw [List.replicate_succ', List.map_append]; rfl
  rcases ha with ha | ha
  · refine .inl ⟨⟨_, ha⟩, ?_⟩
    refine lcL (xs := ns.map V.int) (fun Dl i H' => Same H H' ∧ H' Dl = some (.lst ((List.replicate i true).map V.bl))) (fun Dl hD => ⟨same_new hD, upd_same⟩) (fun Dl i H1 hD hi p => G.SqL.same ha p.1) ?_ (fun Dl H1 hD p => done Dl H1 hD (by rwa [List.length_map] at p))
    rintro Dl i x H1 hD hx ⟨e, hp⟩
    obtain ⟨hi, rfl⟩ := getI hx
    have hsz : ((List.replicate i true).map V.bl).length < sizeLine := by simp; exact L2.small1000 (by omega)
    walk_at "go"
    exact ⟨same_mut e hD, by rw [← snoc]; exact upd_same⟩
  · refine .inr ⟨⟨_, ha⟩, ?_⟩
    refine GY.lcT (xs := ns.map V.int) (fun Dl i H' => Same H H' ∧ H' Dl = some (.lst ((List.replicate i true).map V.bl))) (fun Dl hD => ⟨same_new hD, upd_same⟩) (fun Dl i H1 hD hi p => sameT p.1 ha) ?_ (fun Dl H1 hD p => done Dl H1 hD (by rwa [List.length_map] at p))
    rintro Dl i x H1 hD hx ⟨e, hp⟩
    obtain ⟨hi, rfl⟩ := getI hx
    have hsz : ((List.replicate i true).map V.bl).length < sizeLine := by simp; exact L2.small1000 (by omega)
    walk_at "go"
    exact ⟨same_mut e hD, by rw [← snoc]; exact upd_same⟩
theorem rd_law_heights (h : sp_law_heights K A vs H Q E) : t_law_heights K A { nx := fun _ H' => Q .non H', rt := Q } (start ["chain", "copies", "found", "below", "count"] vs) H := by
  obtain ⟨a, c, w, rfl, ha, hl, h0, q⟩ := h
  unfold t_law_heights
  walk_at "go"
  intro f hf
  walk_at "go"
  intro r hr
  rw [rev_map]
  have hf1 : (upd H f (.lst [])) f = some (.lst []) := upd_same
  have nf : f ≠ r := ne_of_none hf1 hr
  have hfr := free_upd hr
  walk_at "go"
  refine forL (xs := c.reverse.map V.int) (fun i σ H' => ∃ k4 : Option V, σ = [some (.ref a), some (.int w), some (.ref f), some (.int (M.hlast w 0 (c.reverse.take i))), k4] ∧ Same H H' ∧ H' r = some (.lst (c.reverse.map V.int)) ∧
    H' f = some (.lst ((M.hscan w 0 (c.reverse.take i)).map V.int))) ?_ ?_ ?_ ?_
  · exact ⟨none, rfl, (same_new hf).trans (same_new hr), upd_same, keepNe hf1 nf⟩
  · rintro i σ H1 hi ⟨k4, rfl, e, h1, h2⟩
    exact .inl (.inl h1)
  · rintro i x σ H1 hx ⟨k4, rfl, e, h1, h2⟩
    obtain ⟨hi, rfl⟩ := getI hx
    have hn : 0 ≤ c.reverse[i] := h0 _ (List.mem_reverse.mp (List.getElem_mem hi))
    have e2 := M.take_snoc c.reverse i hi
    generalize c.reverse[i] = d at hn e2
    have hsz : ((M.hscan w 0 (c.reverse.take i)).map V.int).length < sizeLine := by
      rw [List.length_map, M.hscan_length]; exact L2.small1000 (by simp; omega)
    walk_at "go"
    rw [← M.hlast_snoc, e2]
    refine ⟨_, rfl, same_mut e hf, keepNe h1 nf.symm, ?_⟩
    rw [snocI, ← e2, M.hlast_snoc, M.hscan_snoc]; exact upd_same
  · rintro σ H1 ⟨k4, rfl, e, h1, h2⟩
    rw [List.length_map, List.take_length] at h2
    walk_at "go"
    intro p hp
    rw [rev_map]
    exact q p _ (e.free hp) (e.trans (same_new hp)) upd_same
theorem rd_law_lowest (h : sp_law_lowest K A vs H Q E) : t_law_lowest K A { nx := fun _ H' => Q .non H', rt := Q } (start ["chain", "copies", "found", "lost", "place"] vs) H := by
  obtain ⟨a, c, w, rfl, ha, hl, h0, q⟩ := h
  unfold t_law_lowest
  walk_at "go"
  intro p H1 hp e1 h1
  have ha1 := e1 _ _ ha
  walk_at "go"
  rw [List.length_map]
  walk_at "go"
  refine lcR (fun Dl i H' => Same H1 H' ∧ H' Dl = some (.lst ((hiL w c i).map fun (j : Nat) => V.int (j : Int)))) ?_ ?_ ?_
  · intro Dl hD
    exact ⟨same_new hD, upd_same⟩
  · rintro Dl i H2 hD hi ⟨e2, h2⟩
    have h12 := e2 _ _ h1
    have hx : atI ((M.hts w c).map V.int) (0 + (i : Int)) = some (V.int (M.ht w (c.drop i))) := atn (j := i) (by omega) (by rw [List.getElem?_map, M.hts_get w c i (by omega)]; rfl)
    have hsz : ((hiL w c i).map fun (j : Nat) => V.int (j : Int)).length < sizeLine := by
      have := hiL_len w c i
      rw [List.length_map]; exact L2.small1000 (by omega)
    walk_at "go"
    refine w_iteD (fun hc => ?_) (fun hc => ?_)
    · walk_at "go"
      refine ⟨same_mut e2 hD, ?_⟩
      rw [hiL_succ, if_pos hc, List.map_append, show (0 : Int) + (i : Int) = (i : Int) by omega]; exact upd_same
    · refine ⟨e2, ?_⟩
      rw [hiL_succ, if_neg hc, List.append_nil]; exact h2
  · rintro Dl H2 hD ⟨e2, h2⟩
    rw [show ((c.length : Int)).toNat = c.length by omega] at h2
    walk_at "go"
    have ql : Q (lowV w c) H2 := q _ (e1.trans e2)
    unfold lowV at ql
    cases hg : (hiL w c c.length).getLast? with
    | none =>
      rw [hg] at ql
      rw [List.getLast?_eq_none_iff.mp hg]
      refine w_iteF ?_
      walk_at "go"
      exact ql
    | some i =>
      rw [hg] at ql
      obtain ⟨ys, hy⟩ := List.getLast?_eq_some_iff.mp hg
      rw [hy] at h2 ⊢
      rw [List.map_append] at h2 ⊢
      rw [show (List.map (fun (j : Nat) => V.int (j : Int)) ys ++ List.map (fun (j : Nat) => V.int (j : Int)) [i]).isEmpty = false by simp]
      refine w_iteT ?_
      have hx : atI (List.map (fun (j : Nat) => V.int (j : Int)) ys ++ List.map (fun (j : Nat) => V.int (j : Int)) [i]) (-1) = some (V.int (i : Int)) := atI_last _ _
      walk_at "go"
      exact ql
end G

namespace G
open PySem L2
def sp_law_rules (K : PySem.W.Frag) (A : CA) : Sp := fun vs H Q _ => ∃ (a : Addr) (c : List Int) (k : Int) (w p : Nat), vs = [.ref a, .int k, .int (w : Int), .int (p : Int)] ∧ H a = some (.lst (c.map V.int)) ∧ c.length ≤ 900 ∧ Nn c ∧ 1 ≤ w ∧ w ≤ 900 ∧ 2 ≤ k ∧ M.low w c = none ∧ p < c.length ∧
  ∀ (q : Addr) (H' : Hp), H q = none → Same H H' → H' q = some (.lst ((nI (M.ans w k c p)).map V.int)) → Q (.ref q) H'
def t_law_rules (K : PySem.W.Frag) (A : CA) : TS :=
  (tSeq (tAsg (tCB (oListOf K) (tCons (tVar 0) tNil)) (gName 4))
  (tSeq (tAsg (tVar 3) (gName 5))
  (tSeq (tIfS (tTest (tOp oGt (tOp (rIxL K) (tVar 0) (tVar 3)) (tC (.int 0)))) (tSeq (tAsg (tOp oSub (tOp (rIxL K) (tVar 4) (tVar 3)) (tC (.int 1))) (gSub (tVar 4) (tVar 3) rSetL))
  (tSeq (tAsg (tCall (sp_law_lowest K A) [] E0 (tCons (tVar 4) (tCons (tVar 2) tNil))) (gName 5))
  (tIfS (tB (tIsN (tVar 5))) (tRet (tLst tNil)) tNext))) tNext)
  (tSeq (tAsg (tLst (tCons (tVar 5) tNil)) (gName 6))
  (tSeq (tFor (iRevR (tRg1 (tVar 5))) (gName 7)
  (tSeq (tIfS (tTest (tOp oGt (tOp (rIxL K) (tVar 4) (tVar 7)) (tC (.int 0)))) tBreak tNext)
  (tAsg (tOp rCat (tLst (tCons (tVar 7) tNil)) (tVar 6)) (gName 6))))
  (tSeq (tAsg (tCall (sp_law_lowest K A) [] E0 (tCons (tCall (sp_law_after K A) [] E0 (tCons (tVar 0) (tCons (tVar 1) (tCons (tVar 3) (tCons (tVar 6) tNil))))) (tCons (tVar 2) tNil))) (gName 8))
  (tSeq (tIfS (tB (tIsN (tVar 8))) (tRet (tVar 6)) tNext)
  (tRet (tCB (rSortedI K) (tCons (tOp rCat (tVar 6) (tLst (tCons (tVar 8) tNil))) tNil))))))))))

variable {K : PySem.W.Frag} {A : CA} {vs : List V} {H : Hp} {Q : VK} {E : XK}
theorem i_lrules {a : Addr} {c : List Int} {k : Int} {w p : Nat} (ha : H a = some (.lst (c.map V.int))) (hl : c.length ≤ 900) (h0 : Nn c) (w0 : 1 ≤ w) (w1 : w ≤ 900) (hk : 2 ≤ k) (hlow : M.low w c = none) (hp : p < c.length)
    (q : ∀ (q : Addr) (H' : Hp), H q = none → Same H H' → H' q = some (.lst ((nI (M.ans w k c p)).map V.int)) → Q (.ref q) H') : sp_law_rules K A [.ref a, .int k, .int (w : Int), .int (p : Int)] H Q E := ⟨a, c, k, w, p, rfl, ha, hl, h0, w0, w1, hk, hlow, hp, q⟩
theorem rd_law_uses (h : sp_law_uses K A vs H Q E) : t_law_uses K A { nx := fun _ H' => Q .non H', rt := Q } (start ["size", "page", "copied", "uses", "place"] vs) H := by
  obtain ⟨b, n, p, cop, rfl, hb, hn, q⟩ := h
  unfold t_law_uses
  walk_at "go"
  intro u hu
  have hb1 := keep (o' := .lst []) hb hu
  have e1 := same_new (o := .lst []) hu
  have g1 : upd H u (.lst []) u = some (.lst []) := upd_same
  have nbu : b ≠ u := ne_of_none hb hu
  generalize upd H u (.lst []) = H1 at hb1 e1 g1
  walk_at "go"
  refine forR (fun i σ H' => ∃ k4 : Option V, σ = [some (.int (n : Int)), some (.int (p : Int)), some (.ref b), some (.ref u), k4] ∧ Same H H' ∧ H' b = some (.lst ((nI cop).map V.int)) ∧ H' u = some (.lst (((List.range i).map (M.uses p cop)).map V.int))) ?_ ?_ ?_
  · exact ⟨none, rfl, e1, hb1, g1⟩
  · rintro i σ H2 hi ⟨k4, rfl, e2, hb2, g2⟩
    have hsz : (((List.range i).map (M.uses p cop)).map V.int).length < sizeLine := by simp; exact L2.small1000 (by omega)
    have nxt : ∀ v : Int, v = M.uses p cop i → upd H2 u (.lst (((List.range i).map (M.uses p cop)).map V.int ++ [V.int v])) u = some (.lst (((List.range (i + 1)).map (M.uses p cop)).map V.int)) := fun v hv => by
      rw [upd_same, List.range_succ, List.map_append, List.map_append, hv]; rfl
    have e0 : (0 : Int) + (i : Int) = (i : Int) := by omega
    walk_at "go"
    rw [e0]
    by_cases hm : i ∈ cop
    · rw [decide_eq_true (mem_nI.mpr hm)]
      walk_at "go"
      exact ⟨_, rfl, same_mut e2 hu, keepNe hb2 nbu, nxt 0 (by unfold M.uses; rw [if_pos hm])⟩
    · rw [decide_eq_false (fun h => hm (mem_nI.mp h))]
      walk_at "go"
      refine ⟨_, rfl, same_mut e2 hu, keepNe hb2 nbu, nxt _ ?_⟩
      unfold M.uses
      rw [if_neg hm]
      congr 1
      · by_cases h1 : i = p
        · subst h1; simp
        · rw [decide_eq_false (by omega), if_neg h1]; rfl
      · by_cases h1 : i + 1 ∈ cop
        · rw [if_pos h1, show (i : Int) + 1 = ((i + 1 : Nat) : Int) by omega, decide_eq_true (mem_nI.mpr h1)]; rfl
        · rw [if_neg h1, show (i : Int) + 1 = ((i + 1 : Nat) : Int) by omega, decide_eq_false (fun h => h1 (mem_nI.mp h))]; rfl
  · rintro σ H2 ⟨k4, rfl, e2, hb2, g2⟩
    walk_at "go"
    exact q u H2 hu e2 (by rwa [show ((n : Int)).toNat = n by omega] at g2)
theorem rd_law_after (h : sp_law_after K A vs H Q E) : t_law_after K A { nx := fun _ H' => Q .non H', rt := Q } (start ["chain", "lines", "page", "copied", "uses", "place"] vs) H := by
  obtain ⟨a, b, c, k, p, cop, rfl, ha, hb, hl, q⟩ := h
  unfold t_law_after
  walk_at "go"
  rw [List.length_map]
  walk_at "go"
  intro u H1 hu e1 g1
  have ha1 := e1 _ _ ha
  have hb1 := e1 _ _ hb
  walk_at "go"
  rw [List.length_map]
  walk_at "go"
  refine lcR (fun Dl i H' => Same H1 H' ∧ H' Dl = some (.lst (((List.range i).map fun j => if j ∈ cop then k else M.gt c j - M.uses p cop j).map V.int))) ?_ ?_ ?_
  · intro Dl hD
    exact ⟨same_new hD, upd_same⟩
  · rintro Dl i H2 hD hi ⟨e2, h2⟩
    have hi2 : i < c.length := by omega
    have ha2 := e2 _ _ ha1
    have hb2 := e2 _ _ hb1
    have gu2 := e2 _ _ g1
    have hsz : (((List.range i).map fun j => if j ∈ cop then k else M.gt c j - M.uses p cop j).map V.int).length < sizeLine := by simp; exact L2.small1000 (by omega)
    have e0 : (0 : Int) + (i : Int) = (i : Int) := by omega
    have hx1 := at_gt (c := c) (k := (i : Int)) (i := i) rfl hi2
    have hx2 : atI (((List.range c.length).map (M.uses p cop)).map V.int) (i : Int) = some (V.int (M.uses p cop i)) := atn (j := i) rfl (by simp [hi2])
    have nxt : ∀ v : Int, v = (if i ∈ cop then k else M.gt c i - M.uses p cop i) → upd H2 Dl (.lst (((List.range i).map fun j => if j ∈ cop then k else M.gt c j - M.uses p cop j).map V.int ++ [V.int v])) Dl = some (.lst (((List.range (i + 1)).map fun j => if j ∈ cop then k else M.gt c j - M.uses p cop j).map V.int)) := fun v hv => by
      rw [upd_same, List.range_succ, List.map_append, List.map_append, hv]; rfl
    walk_at "go"
    rw [e0]
    by_cases hm : i ∈ cop
    · rw [decide_eq_true (mem_nI.mpr hm)]
      walk_at "go"
      exact ⟨same_mut e2 hD, nxt k (by rw [if_pos hm])⟩
    · rw [decide_eq_false (fun h => hm (mem_nI.mp h))]
      walk_at "go"
      exact ⟨same_mut e2 hD, nxt _ (by rw [if_neg hm])⟩
  · rintro Dl H2 hD ⟨e2, h2⟩
    exact q Dl H2 (e1.free hD) (e1.trans e2) h2
theorem rd_law_quiet (h : sp_law_quiet K A vs H Q E) : t_law_quiet K A { nx := fun _ H' => Q .non H', rt := Q } (start ["chain", "copies", "page", "plain"] vs) H := by
  obtain ⟨a, c, w, p, rfl, ha, hl, h0, hp, q⟩ := h
  have hx2 := at_gt (c := c) (k := (p : Int)) (i := p) rfl hp
  unfold t_law_quiet
  walk_at "go"
  refine w_iteD (fun hc => ?_) (fun hc => ?_)
  · rw [decide_eq_false (fun z => z.1 hc)] at q
    walk_at "go"
    exact q H (Same.refl _)
  · walk_at "go"
    intro l hl0
    have hix : ixN (c.map V.int).length (p : Int) = some p := ixn rfl (by rw [List.length_map]; exact hp)
    have e1 := same_new (o := .lst (c.map V.int)) hl0
    have hl1 : upd H l (.lst (c.map V.int)) l = some (.lst (c.map V.int)) := upd_same
    generalize upd H l (.lst (c.map V.int)) = H1 at e1 hl1
    refine w_name (w_seq (w_asg (w_op (w_op (w_var rfl (w_var rfl (w_ixL (.of hl1) hx2 (w_c (w_oSub (w_sub (w_var rfl (w_var rfl (w_setL hl1 hix ?_)))))))))))))
    rw [set_map]
    have e2 : M.plain c p = c.set p (M.gt c p - 1) := by unfold M.plain; rw [if_neg hc]
    rw [← e2]
    have hl2 : upd H1 l (.lst ((M.plain c p).map V.int)) l = some (.lst ((M.plain c p).map V.int)) := upd_same
    have e3 := same_mut (o := .lst ((M.plain c p).map V.int)) e1 hl0
    have lp : (M.plain c p).length ≤ 1000 := by rw [M.plain_length]; exact hl
    have np : Nn (M.plain c p) := fun n hn => by
      rw [e2] at hn
      rcases List.mem_or_eq_of_mem_set hn with h | h
      · exact h0 n h
      · have := h0.gt p; omega
    generalize upd H1 l (.lst ((M.plain c p).map V.int)) = H2 at hl2 e3
    walk_at "go"
    intro H3 e4
    have ql := q H3 (e3.trans e4)
    unfold lowO
    cases hlow : M.low w (M.plain c p) with
    | none => rw [decide_eq_true ⟨hc, hlow⟩] at ql; exact ql
    | some x => rw [decide_eq_false (fun z => by rw [hlow] at z; cases z.2)] at ql; exact ql
end G

namespace G
open PySem L2
end G
local macro_rules | `(tactic| walk_at "call") => `(tactic| (refine' G.i_lrules ?g1 ?g2 ?g3 ?g4 ?g5 ?g6 ?g7 ?g8 ?_; (case g1 => walk_at "hp"); (case g2 => walk_at "ar"); (case g3 => assumption); (case g4 => walk_at "ar"); (case g5 => walk_at "ar"); (case g6 => walk_at "ar"); (case g7 => assumption); (case g8 => walk_at "ar")))
namespace G
open PySem L2
variable {K : PySem.W.Frag} {A : CA} {vs : List V} {H : Hp} {Q : VK} {E : XK}
theorem runF_eq {d : List Int} {f x : Nat} (h : f ≤ x) (hz : ∀ i, f ≤ i → i < x → M.gt d i = 0) (hs : f = 0 ∨ M.gt d (f - 1) ≠ 0) : M.runF d x = f := by
  obtain ⟨k, hk⟩ : ∃ k, k = x - f := ⟨_, rfl⟩
  induction k generalizing x with
  | zero => rw [show x = f by omega]; exact runF_stop hs
  | succ k ih =>
    rw [runF_go (by omega) (hz (x - 1) (by omega) (by omega))]
    exact ih (by omega) (fun i a b => hz i a (by omega)) (by omega)
theorem range'_cons (f n : Nat) : f :: List.range' (f + 1) n = List.range' f (n + 1) := by rw [List.range'_succ]
theorem rd_law_rules (h : sp_law_rules K A vs H Q E) : t_law_rules K A { nx := fun _ H' => Q .non H', rt := Q } (start ["chain", "lines", "copies", "page", "plain", "lowest", "copied", "place", "lost"] vs) H := by
  obtain ⟨a, c, k, w, p, rfl, ha, hl, h0, w0, w1, hk, hlow, hp, q⟩ := h
  have hx2 := at_gt (c := c) (k := (p : Int)) (i := p) rfl hp
  obtain ⟨good, lall, hempty, asc1, ltc, leg1⟩ := M.keeper (w := w) (K := k) (by omega) hk h0.gt (keep_of_low hlow) hp
  have np : Nn (M.plain c p) := by
    unfold M.plain
    split
    · exact h0
    · intro n hn
      rcases List.mem_or_eq_of_mem_set hn with h | h
      · exact h0 n h
      · have := h0.gt p; omega
  have lp : (M.plain c p).length = c.length := M.plain_length c p
  -- from the page x on
  have main : ∀ (x : Nat) (l : Addr) (H1 : Hp), M.xOf w c p = some x → Same H H1 → H1 l = some (.lst ((M.plain c p).map V.int)) → x < c.length →
      (tSeq (tAsg (tLst (tCons (tVar 5) tNil)) (gName 6))
  (tSeq (tFor (iRevR (tRg1 (tVar 5))) (gName 7)
  (tSeq (tIfS (tTest (tOp oGt (tOp (rIxL K) (tVar 4) (tVar 7)) (tC (.int 0)))) tBreak tNext)
  (tAsg (tOp rCat (tLst (tCons (tVar 7) tNil)) (tVar 6)) (gName 6))))
  (tSeq (tAsg (tCall (sp_law_lowest K A) [] E0 (tCons (tCall (sp_law_after K A) [] E0 (tCons (tVar 0) (tCons (tVar 1) (tCons (tVar 3) (tCons (tVar 6) tNil))))) (tCons (tVar 2) tNil))) (gName 8))
  (tSeq (tIfS (tB (tIsN (tVar 8))) (tRet (tVar 6)) tNext)
  (tRet (tCB (rSortedI K) (tCons (tOp rCat (tVar 6) (tLst (tCons (tVar 8) tNil))) tNil))))))) { nx := fun _ H' => Q .non H', rt := Q }
      [some (.ref a), some (.int k), some (.int (w : Int)), some (.int (p : Int)), some (.ref l), some (.int (x : Int)), none, none, none] H1 := by
    intro x l H1 hx e1 g1 hxl
    have ec : M.cop1 w c p = M.runL (M.plain c p) x := by unfold M.cop1; rw [hx]
    have hn0 : ∀ i, 0 ≤ M.gt (M.plain c p) i := np.gt
    -- behind the loop
    have tail : ∀ (f : Nat) (pc : Addr) (k7 : Option V) (H2 : Hp), f = M.runF (M.plain c p) x → Same H H2 → H pc = none → H2 pc = some (.lst ((nI (List.range' f (x + 1 - f))).map V.int)) →
        (tSeq (tAsg (tCall (sp_law_lowest K A) [] E0 (tCons (tCall (sp_law_after K A) [] E0 (tCons (tVar 0) (tCons (tVar 1) (tCons (tVar 3) (tCons (tVar 6) tNil))))) (tCons (tVar 2) tNil))) (gName 8))
  (tSeq (tIfS (tB (tIsN (tVar 8))) (tRet (tVar 6)) tNext)
  (tRet (tCB (rSortedI K) (tCons (tOp rCat (tVar 6) (tLst (tCons (tVar 8) tNil))) tNil))))) { nx := fun _ H' => Q .non H', rt := Q }
      [some (.ref a), some (.int k), some (.int (w : Int)), some (.int (p : Int)), some (.ref l), some (.int (x : Int)), some (.ref pc), k7, none] H2 := by
      intro f pc k7 H2 hf e2 hpc g2
      have er : List.range' f (x + 1 - f) = M.cop1 w c p := by rw [ec, hf]; rfl
      rw [er] at g2
      have ha2 := e2 _ _ ha
      have la : (M.aft c k p (M.cop1 w c p)).length ≤ 1000 := by rw [M.aft_length]; omega
      have na : Nn (M.aft c k p (M.cop1 w c p)) := fun n hn => by
        obtain ⟨i, hi, e⟩ := List.getElem_of_mem hn
        rw [M.aft_length] at hi
        have := M.aft_get (K := k) (p := p) (cop := M.cop1 w c p) hi
        have e2 : M.gt (M.aft c k p (M.cop1 w c p)) i = n := by rw [← e]; simp [M.gt, List.getD_eq_getElem?_getD, M.aft_length, hi]
        rw [e2] at this
        have := leg1 i hi
        split at * <;> omega
      walk_at "go"
      intro z H3 hz e3 g3
      have g2 := e3 _ _ g2
      have E3 := e2.trans e3
      walk_at "go"
      intro H4 e4
      have g2 := e4 _ _ g2
      have E4 := E3.trans e4
      unfold lowO
      cases hl2 : M.low w (M.aft c k p (M.cop1 w c p)) with
      | none =>
        have ea : M.ans w k c p = M.cop1 w c p := by unfold M.ans; rw [hl2]
        rw [ea] at q
        walk_at "go"
        exact q pc H4 hpc E4 g2
      | some y =>
        have ea : M.ans w k c p = y :: M.cop1 w c p := by unfold M.ans; rw [hl2]
        rw [ea] at q good
        have glen := good.len
        rw [List.length_cons] at glen
        walk_at "go"
        refine w_iteF ?_
        walk_at "go"
        intro p1 hp1
        have e5 := same_new (o := .lst [V.int (y : Int)]) hp1
        have g5 : upd H4 p1 (.lst [V.int (y : Int)]) p1 = some (.lst ([(y : Int)].map V.int)) := upd_same
        generalize upd H4 p1 (.lst [V.int (y : Int)]) = H5 at e5 g5
        have g2 := e5 _ _ g2
        refine w_cat g2 g5 (by simp; exact Nat.le_of_lt (L2.small1000 (by omega))) fun p2 hp2 => ?_
        rw [← List.map_append]
        have e6 := same_new (o := .lst ((nI (M.cop1 w c p) ++ [(y : Int)]).map V.int)) hp2
        have g6 : upd H5 p2 (.lst ((nI (M.cop1 w c p) ++ [(y : Int)]).map V.int)) p2 = some (.lst ((nI (M.cop1 w c p) ++ [(y : Int)]).map V.int)) := upd_same
        generalize upd H5 p2 (.lst ((nI (M.cop1 w c p) ++ [(y : Int)]).map V.int)) = H6 at e6 g6
        have E6 := (E4.trans e5).trans e6
        walk_at "go"
        intro ns s2 hperm hsort hs2
        have en : ns = nI (y :: M.cop1 w c p) := by
          refine sorted_eq (hperm.trans ?_) hsort ?_
          · show List.Perm (nI (M.cop1 w c p) ++ [(y : Int)]) ((y : Int) :: nI (M.cop1 w c p))
            exact List.perm_append_singleton _ _
          · exact List.pairwise_map.mpr (good.asc.imp fun h => by omega)
        subst en
        exact q s2 _ (E6.free hs2) (E6.trans (same_new hs2)) upd_same
    walk_at "go"
    intro pc hpc
    have e2 := same_new (o := .lst [V.int (x : Int)]) hpc
    have g2 : upd H1 pc (.lst [V.int (x : Int)]) pc = some (.lst [V.int (x : Int)]) := upd_same
    have hpcH := e1.free hpc
    generalize upd H1 pc (.lst [V.int (x : Int)]) = H2 at e2 g2
    have E2 := e1.trans e2
    have g1 := e2 _ _ g1
    have hrf := M.runF_spec (M.plain c p) x
    walk_at "go"
    refine forC (n := x) (fun i σ H' => ∃ (pc : Addr) (k7 : Option V), σ = [some (.ref a), some (.int k), some (.int (w : Int)), some (.int (p : Int)), some (.ref l), some (.int (x : Int)), some (.ref pc), k7, none] ∧ Same H H' ∧ H pc = none ∧
      H' l = some (.lst ((M.plain c p).map V.int)) ∧ H' pc = some (.lst ((nI (List.range' (x - i) (i + 1))).map V.int)) ∧ ∀ j, x - i ≤ j → j < x → M.gt (M.plain c p) j = 0) ?_ ?_ ?_
    · exact ⟨pc, none, rfl, E2, hpcH, g1, g2, fun j a b => by omega⟩
    · rintro i σ H3 hi ⟨pc, k7, rfl, e3, hpc3, g3, gc3, hz⟩
      have hx3 := at_gt (c := M.plain c p) (k := ((x - 1 - i : Nat) : Int)) (i := x - 1 - i) rfl (by omega)
      walk_at "go"
      refine w_iteD (fun hc => ?_) (fun hc => ?_)
      · refine w_brk ?_
        have ef : x - i = M.runF (M.plain c p) x := (runF_eq (by omega) hz (.inr (by rw [show x - i - 1 = x - 1 - i by omega]; omega))).symm
        have := tail (x - i) pc (some (.int ((x - 1 - i : Nat) : Int))) H3 ef e3 hpc3 (by rw [show x + 1 - (x - i) = i + 1 by omega]; exact gc3)
        exact this
      · have hz0 : M.gt (M.plain c p) (x - 1 - i) = 0 := by have := hn0 (x - 1 - i); omega
        refine w_next ?_
        refine w_asg (w_op (w_lst (w_cons (w_var rfl (w_nil ⟨Nat.le_of_lt (L2.small1000 (by simp)), fun p1 hp1 => ?_⟩)))))
        have e4 := same_new (o := .lst [V.int ((x - 1 - i : Nat) : Int)]) hp1
        have g4 : upd H3 p1 (.lst [V.int ((x - 1 - i : Nat) : Int)]) p1 = some (.lst [V.int ((x - 1 - i : Nat) : Int)]) := upd_same
        generalize upd H3 p1 (.lst [V.int ((x - 1 - i : Nat) : Int)]) = H4 at e4 g4
        have gc4 := e4 _ _ gc3
        have gl4 := e4 _ _ g3
        have E4 := e3.trans e4
        refine w_var rfl ?_
        refine w_cat g4 gc4 (by simp; exact Nat.le_of_lt (L2.small1000 (by omega))) fun p2 hp2 => ?_
        refine w_name ?_
        refine ⟨p2, _, rfl, E4.trans (same_new hp2), E4.free hp2, keep gl4 hp2, ?_, fun j a b => ?_⟩
        · rw [upd_same, show x - (i + 1) = x - 1 - i by omega, ← range'_cons (x - 1 - i) (i + 1), show x - 1 - i + 1 = x - i by omega]; rfl
        · by_cases hj : j = x - 1 - i
          · rw [hj]; exact hz0
          · exact hz j (by omega) b
    · rintro σ H3 ⟨pc, k7, rfl, e3, hpc3, g3, gc3, hz⟩
      have ef : 0 = M.runF (M.plain c p) x := (runF_eq (by omega) (fun i _ b => hz i (by omega) b) (.inl rfl)).symm
      exact tail 0 pc k7 H3 ef e3 hpc3 (by rw [show x - x = 0 by omega] at gc3; exact gc3)
  unfold t_law_rules
  walk_at "go"
  intro l hl0
  have ha1 := keep (o' := .lst (c.map V.int)) ha hl0
  have e1 := same_new (o := .lst (c.map V.int)) hl0
  have hl1 : upd H l (.lst (c.map V.int)) l = some (.lst (c.map V.int)) := upd_same
  generalize upd H l (.lst (c.map V.int)) = H1 at ha1 e1 hl1
  walk_at "go"
  have hgp := h0.gt p
  refine w_iteD (fun hc => ?_) (fun hc => ?_)
  · have hix : ixN (c.map V.int).length (p : Int) = some p := ixn rfl (by rw [List.length_map]; exact hp)
    refine w_seq (w_asg (w_op (w_op (w_var rfl (w_var rfl (w_ixL (.of hl1) hx2 (w_c (w_oSub (w_sub (w_var rfl (w_var rfl (w_setL hl1 hix ?_))))))))))))
    rw [set_map]
    have e2 : M.plain c p = c.set p (M.gt c p - 1) := by unfold M.plain; rw [if_neg (by omega)]
    rw [← e2]
    have hl2 : upd H1 l (.lst ((M.plain c p).map V.int)) l = some (.lst ((M.plain c p).map V.int)) := upd_same
    have e3 := same_mut (o := .lst ((M.plain c p).map V.int)) e1 hl0
    generalize upd H1 l (.lst ((M.plain c p).map V.int)) = H2 at hl2 e3
    walk_at "go"
    intro H3 e4
    have hl3 := e4 _ _ hl2
    have E3 := e3.trans e4
    unfold lowO
    cases hlw : M.low w (M.plain c p) with
    | none =>
      walk_at "go"
      intro z hz
      rw [hempty.mpr ⟨by omega, hlw⟩] at q
      exact q z _ (E3.free hz) (E3.trans (same_new hz)) upd_same
    | some x =>
      walk_at "go"
      refine w_iteF (w_next ?_)
      exact main x l H3 (by unfold M.xOf; rw [if_neg (by omega)]; exact hlw) E3 hl3 (by rw [← lp]; exact (M.low_some hlw).1)
  · refine w_next ?_
    have hg0 : M.gt c p = 0 := by omega
    exact main p l H1 (by unfold M.xOf; rw [if_pos hg0]) e1 (by unfold M.plain; rw [if_pos hg0]; exact hl1) hp
end G

namespace G
open PySem L2
def sp_law_step (K : PySem.W.Frag) (A : CA) : Sp := fun vs H Q _ => ∃ (a : Addr) (c : List Int) (k : Int) (w p : Nat), vs = [.ref a, .int k, .int (w : Int), .int (p : Int)] ∧ H a = some (.lst (c.map V.int)) ∧ c.length ≤ 900 ∧ Nn c ∧ 1 ≤ w ∧ w ≤ 900 ∧ 2 ≤ k ∧ M.low w c = none ∧ p < c.length ∧
  ∀ (c' : List Int) (q : Addr) (H' : Hp), Nn c' → c'.length = c.length → M.low w c' = none → H q = none → Same H H' → H' q = some (.lst (c'.map V.int)) → Q (.ref q) H'
def sp_law_next_page (K : PySem.W.Frag) (A : CA) : Sp := fun vs H Q _ => ∃ (t s a : Addr) (ns c : List Int) (way w step : Int), vs = [.ref t, .ref s, .int way, .ref a, .int w, .int step] ∧ SqL K H t (ns.map V.int) ∧ ns.length ≤ 63 ∧ Src H s ∧ H a = some (.lst (c.map V.int)) ∧ a ≠ s ∧ 1 ≤ c.length ∧ c.length ≤ 900 ∧ Nn c ∧ 0 ≤ step ∧
  ∀ (p : Nat) (H' : Hp), p < c.length → But s H H' → Src H' s → Q (.int (p : Int)) H'
variable {K : PySem.W.Frag} {A : CA} {vs : List V} {H : Hp} {Q : VK} {E : XK}
theorem i_step {a : Addr} {c : List Int} {k : Int} {w p : Nat} (ha : H a = some (.lst (c.map V.int))) (hl : c.length ≤ 900) (h0 : Nn c) (w0 : 1 ≤ w) (w1 : w ≤ 900) (hk : 2 ≤ k) (hlow : M.low w c = none) (hp : p < c.length)
    (q : ∀ (c' : List Int) (q : Addr) (H' : Hp), Nn c' → c'.length = c.length → M.low w c' = none → H q = none → Same H H' → H' q = some (.lst (c'.map V.int)) → Q (.ref q) H') : sp_law_step K A [.ref a, .int k, .int (w : Int), .int (p : Int)] H Q E := ⟨a, c, k, w, p, rfl, ha, hl, h0, w0, w1, hk, hlow, hp, q⟩
theorem i_next {t s a : Addr} {ns c : List Int} {way w step : Int} (ht : SqL K H t (ns.map V.int)) (hn : ns.length ≤ 63) (hs : Src H s) (ha : H a = some (.lst (c.map V.int))) (nas : a ≠ s) (l0 : 1 ≤ c.length) (l1 : c.length ≤ 900) (h0 : Nn c) (hst : 0 ≤ step)
    (q : ∀ (p : Nat) (H' : Hp), p < c.length → But s H H' → Src H' s → Q (.int (p : Int)) H') : sp_law_next_page K A [.ref t, .ref s, .int way, .ref a, .int w, .int step] H Q E := ⟨t, s, a, ns, c, way, w, step, rfl, ht, hn, hs, ha, nas, l0, l1, h0, hst, q⟩
theorem w_isTT {p : Addr} {xs : List V} (h : H p = some (.tup xs)) (q : Q (.bl true) H) : rIsi K [.ref p, .ty "tuple"] H Q := w_isT (t := "tuple") (b := true) (TyX.base (TyOf.tup h)) (kit_ty (by decide +kernel)) q
theorem w_lenT {p : Addr} {xs : List V} (h : H p = some (.tup xs)) (q : Q (.int xs.length) H) : rLenQ K [.ref p] H Q := ⟨p, xs, rfl, .inr (.of h), q⟩
end G
local macro_rules | `(tactic| walk_at "call") => `(tactic| first
  | (refine' G.w_isTT ?g1 ?_; (case g1 => walk_at "hp")) | (refine' G.w_lenT ?g1 ?_; (case g1 => walk_at "hp"))
  | (refine' G.i_step ?g1 ?g2 ?g3 ?g4 ?g5 ?g6 ?g7 ?g8 ?_; (case g1 => walk_at "hp"); (case g2 => walk_at "ar"); (case g3 => assumption); (case g4 => walk_at "ar"); (case g5 => walk_at "ar"); (case g6 => walk_at "ar"); (case g7 => assumption); (case g8 => walk_at "ar"))
  | (refine' G.i_next ?g1 ?g2 ?g3 ?g4 ?g5 ?g6 ?g7 ?g8 ?g9 ?_; (case g1 => walk_at "sq"); (case g2 => walk_at "ar"); (case g3 => walk_at "src"); (case g4 => walk_at "hp"); (case g5 => walk_at "ne"); (case g6 => walk_at "ar"); (case g7 => walk_at "ar"); (case g8 => assumption); (case g9 => walk_at "ar")))
namespace G
open PySem L2
def t_law_step (K : PySem.W.Frag) (A : CA) : TS :=
  (tSeq (tAsg (tCB (oListOf K) (tCons (tVar 0) tNil)) (gName 4))
  (tSeq (tAsg (tCall (sp_chain_answer K A) [] E0 (tCons (tVar 4) (tCons (tVar 1) (tCons (tVar 2) (tCons (tVar 3) tNil))))) (gName 5))
  (tSeq (tIfS (tOr (tTest (tOp (rNeD K) (tVar 4) (tVar 0))) (tOr (tNot (tB (tCB (rIsi K) (tCons (tVar 5) (tCons (tC (.ty "tuple")) tNil))))) (tTest (tOp rNe (tCB (rLenQ K) (tCons (tVar 5) tNil)) (tC (.int 2)))))) (tRet (tC .non)) tNext)
  (tSeq (tIfS (tOr (tNot (tB (tCB (rIsi K) (tCons (tOp (rIxT K) (tVar 5) (tC (.int 0))) (tCons (tC (.ty "tuple")) tNil))))) (tNot (tB (tCall (sp_law_is_row K A) [] E0 (tCons (tOp (rIxT K) (tVar 5) (tC (.int 0))) tNil))))) (tRet (tC .non)) tNext)
  (tSeq (tIfS (tOr (tNot (tB (tCB (rIsi K) (tCons (tOp (rIxT K) (tVar 5) (tC (.int 1))) (tCons (tC (.ty "list")) tNil))))) (tNot (tB (tCall (sp_law_is_row K A) [] E0 (tCons (tOp (rIxT K) (tVar 5) (tC (.int 1))) tNil))))) (tRet (tC .non)) tNext)
  (tSeq (tAsg (tCB (oListOf K) (tCons (tOp (rIxT K) (tVar 5) (tC (.int 0))) tNil)) (gName 6))
  (tSeq (tIfS (tOr (tTest (tOp (rNeD K) (tVar 6) (tLc (iRng1 (tCons (tCB (rLenQ K) (tCons (tVar 0) tNil)) tNil)) (gName 7) (tTest (tOp (rIn K false) (tVar 7) (tVar 6))) (tVar 7) [7]))) (tTest (tOp oGt (tCB (rLenQ K) (tCons (tVar 6) tNil)) (tVar 2)))) (tRet (tC .non)) tNext)
  (tSeq (tAsg (tCall (sp_law_uses K A) [] E0 (tCons (tCB (rLenQ K) (tCons (tVar 0) tNil)) (tCons (tVar 3) (tCons (tVar 6) tNil)))) (gName 8))
  (tSeq (tIfS (tB (tCB (rAny K) (tCons (tLc (iRng1 (tCons (tCB (rLenQ K) (tCons (tVar 0) tNil)) tNil)) (gName 7) tYes (tOp oGt (tOp (rIxL K) (tVar 8) (tVar 7)) (tOp (rIxL K) (tVar 0) (tVar 7))) [7]) tNil))) (tRet (tC .non)) tNext)
  (tSeq (tIfS (tOr (tTest (tOp (rNeD K) (tOp (rIxT K) (tVar 5) (tC (.int 1))) (tCall (sp_law_after K A) [] E0 (tCons (tVar 0) (tCons (tVar 1) (tCons (tVar 3) (tCons (tVar 6) tNil))))))) (tB (tNotN (tCall (sp_law_lowest K A) [] E0 (tCons (tOp (rIxT K) (tVar 5) (tC (.int 1))) (tCons (tVar 2) tNil)))))) (tRet (tC .non)) tNext)
  (tSeq (tIfS (tTest (tOp rNe (tOp (rEqD K) (tVar 6) (tLst tNil)) (tCall (sp_law_quiet K A) [] E0 (tCons (tVar 0) (tCons (tVar 2) (tCons (tVar 3) tNil)))))) (tRet (tC .non)) tNext)
  (tSeq (tIfS (tTest (tOp (rNeD K) (tVar 6) (tCall (sp_law_rules K A) [] E0 (tCons (tVar 0) (tCons (tVar 1) (tCons (tVar 2) (tCons (tVar 3) tNil))))))) (tRet (tC .non)) tNext)
  (tRet (tCB (oListOf K) (tCons (tOp (rIxT K) (tVar 5) (tC (.int 1))) tNil)))))))))))))))
def t_law_next_page (K : PySem.W.Frag) (A : CA) : TS :=
  (tSeq (tIfS (tTest (tOp rEq (tVar 2) (tC (.int 1)))) (tSeq (tAsg (tCB (rMin K) (tCons (tVar 3) tNil)) (gName 6))
  (tRet (tOp (rIxL K) (tLc (iRng1 (tCons (tCB (rLenQ K) (tCons (tVar 3) tNil)) tNil)) (gName 7) (tTest (tOp rEq (tOp (rIxL K) (tVar 3) (tVar 7)) (tVar 6))) (tVar 7) [7]) (tUn oNeg (tC (.int 1)))))) tNext)
  (tSeq (tIfS (tTest (tOp rEq (tVar 2) (tC (.int 2)))) (tSeq (tAsg (tCall (sp_law_heights K A) [] E0 (tCons (tVar 3) (tCons (tVar 4) tNil))) (gName 8))
  (tSeq (tAsg (tCB (rMax K) (tCons (tVar 8) tNil)) (gName 9))
  (tRet (tOp (rIxL K) (tLc (iRng1 (tCons (tCB (rLenQ K) (tCons (tVar 3) tNil)) tNil)) (gName 7) (tTest (tOp rEq (tOp (rIxL K) (tVar 8) (tVar 7)) (tVar 9))) (tVar 7) [7]) (tUn oNeg (tC (.int 1))))))) tNext)
  (tSeq (tIfS (tTest (tOp oLt (tOp oAdd (tVar 5) (tC (.int 4))) (tCB (rLenQ K) (tCons (tVar 0) tNil)))) (tRet (tOp oMod (tCB oInt (tCons (tOp (rIxL K) (tVar 0) (tOp oAdd (tVar 5) (tC (.int 4)))) tNil)) (tCB (rLenQ K) (tCons (tVar 3) tNil)))) tNext)
  (tRet (tCall (sp_law_take K A) [] E0 (tCons (tVar 1) (tCons (tCB (rLenQ K) (tCons (tVar 3) tNil)) tNil)))))))

variable {K : PySem.W.Frag} {A : CA} {vs : List V} {H : Hp} {Q : VK} {E : XK}
theorem asc_eq {xs ys : List Nat} (hx : xs.Pairwise (· < ·)) (hy : ys.Pairwise (· < ·)) (h : ∀ i, i ∈ xs ↔ i ∈ ys) : xs = ys := by
  have p : xs.Perm ys := (List.perm_ext_iff_of_nodup (hx.imp fun h => Nat.ne_of_lt h) (hy.imp fun h => Nat.ne_of_lt h)).mpr h
  exact p.eq_of_pairwise (fun a b _ _ h1 h2 => by omega) hx hy
theorem filter_asc {n : Nat} {cop : List Nat} (ha : cop.Pairwise (· < ·)) (hl : ∀ i ∈ cop, i < n) : (List.range n).filter (fun i => decide (i ∈ cop)) = cop :=
  asc_eq (List.Pairwise.sublist List.filter_sublist List.pairwise_lt_range) ha fun i => by
    rw [List.mem_filter, List.mem_range]
    simp
    exact fun h => hl i h
theorem filter_succ (p : Nat → Bool) (i : Nat) : (List.range (i + 1)).filter p = (List.range i).filter p ++ (if p i = true then [i] else []) := by
  rw [List.range_succ, List.filter_append]
  by_cases h : p i = true <;> simp [h]
theorem snocN (js : List Nat) (i : Nat) : (nI js).map V.int ++ [V.int (i : Int)] = (nI (js ++ [i])).map V.int := by simp [nI]
/-- [j for j in range(n) if xs[j] == m] -/
theorem lc_eq {σ : L2.St} {x y : Nat} {n : Nat} {p : Addr} {xs : List Int} {m : Int} (hp : H p = some (.lst (xs.map V.int))) (hn : n = xs.length) (n1 : n ≤ 900)
    (h0 : ∀ v, ((wipe σ [7]).set 7 v)[x]? = some (some (.ref p))) (h1 : ∀ v, ((wipe σ [7]).set 7 v)[y]? = some (some (.int m))) (h7 : ∀ v, ((wipe σ [7]).set 7 v)[7]? = some v) (hw : ∀ v, wipe ((wipe σ [7]).set 7 v) [7] = wipe σ [7])
    (q : ∀ (D : Addr) (H' : Hp), Same H H' → H' D = some (.lst ((nI ((List.range n).filter fun j => decide (M.gt xs j = m))).map V.int)) → Q (.ref D) H') :
    LcW (Itr 0 ((n : Int)).toNat) (gName 7) (tTest (tOp rEq (tOp (rIxL K) (tVar x) (tVar 7)) (tVar y))) (tVar 7) [7] σ H Q := by
  refine lcR (fun Dl i H' => Same H H' ∧ H' Dl = some (.lst ((nI ((List.range i).filter fun j => decide (M.gt xs j = m))).map V.int))) ?_ ?_ ?_
  · exact fun Dl hD => ⟨same_new hD, upd_same⟩
  · rintro Dl i H1 hD hi ⟨e, g⟩
    have hi2 : i < xs.length := by omega
    have hx := at_gt (c := xs) (k := (0 : Int) + (i : Int)) (i := i) (by omega) hi2
    refine w_name ⟨hw _, w_lcTif (w_test (w_op (w_op (w_var (h0 _) (w_var (h7 _) (w_ixL (.of (e _ _ hp)) hx (w_var (h1 _) (w_eqI (w_ex ?_)))))))))⟩
    refine w_iteD (fun hc => ?_) (fun hc => ?_)
    · refine w_var (h7 _) ⟨_, g, by
        rw [List.length_map, List.length_map]
        exact L2.small1000 (Nat.le_trans (List.length_filter_le _ _) (by rw [List.length_range]; omega)), same_mut e hD, ?_⟩
      rw [filter_succ, if_pos (decide_eq_true hc), show (0 : Int) + (i : Int) = (i : Int) by omega, snocN]; exact upd_same
    · refine ⟨e, ?_⟩
      rw [filter_succ, if_neg (by simpa using hc), List.append_nil]; exact g
  · rintro Dl H1 hD ⟨e, g⟩
    exact q Dl H1 e g
theorem last_in {n : Nat} {p : Nat → Bool} {j : Nat} (hj : j < n) (hp : p j = true) : ∃ i, i < n ∧ atI ((nI ((List.range n).filter p)).map V.int) (-1) = some (V.int (i : Int)) := by
  have hm : j ∈ (List.range n).filter p := List.mem_filter.mpr ⟨by simpa using hj, hp⟩
  cases hg : ((List.range n).filter p).getLast? with
  | none => rw [List.getLast?_eq_none_iff.mp hg] at hm; cases hm
  | some i =>
    obtain ⟨ys, hy⟩ := List.getLast?_eq_some_iff.mp hg
    have hi : i ∈ (List.range n).filter p := by rw [hy]; simp
    refine ⟨i, by simpa using (List.mem_filter.mp hi).1, ?_⟩
    rw [hy, nI, List.map_append, List.map_append]
    exact atI_last _ _
theorem rd_law_next_page (h : sp_law_next_page K A vs H Q E) : t_law_next_page K A { nx := fun _ H' => Q .non H', rt := Q } (start ["script", "run", "way", "chain", "copies", "step", "fewest", "place", "found", "greatest"] vs) H := by
  obtain ⟨t, s, a, ns, c, way, w, step, rfl, ht, hn, hs, ha, nas, l0, l1, h0, hst, q⟩ := h
  have find : ∀ (xs : List Int) (m : Int), m ∈ xs → ∃ j, j < xs.length ∧ M.gt xs j = m := fun xs m hm => by
    obtain ⟨j, hj, e⟩ := List.getElem_of_mem hm
    exact ⟨j, hj, by rw [← e]; simp [M.gt, List.getD_eq_getElem?_getD, hj]⟩
  unfold t_law_next_page
  walk_at "go"
  refine w_iteD (fun hc => ?_) (fun hc => ?_)
  · walk_at "go"
    intro m hm _
    obtain ⟨j, hj, e⟩ := find c m hm
    obtain ⟨i, hi, hx⟩ := last_in (n := c.length) (p := fun j => decide (M.gt c j = m)) hj (decide_eq_true e)
    walk_at "go"
    rw [List.length_map]
    walk_at "go"
    refine lc_eq (x := 3) (y := 6) ha rfl l1 (fun _ => rfl) (fun _ => rfl) (fun _ => rfl) (fun _ => rfl) fun D H1 e1 g1 => ?_
    walk_at "go"
    exact q i H1 hi (Same.but e1) (hs.same e1)
  walk_at "go"
  refine w_iteD (fun hc2 => ?_) (fun hc2 => ?_)
  · walk_at "go"
    intro f H1 hf e1 g1
    have hl : (M.hts w c).length = c.length := M.hts_length w c
    have ha1 := e1 _ _ ha
    walk_at "go"
    intro m hm _
    obtain ⟨j, hj, e⟩ := find (M.hts w c) m hm
    obtain ⟨i, hi, hx⟩ := last_in (n := (M.hts w c).length) (p := fun j => decide (M.gt (M.hts w c) j = m)) hj (decide_eq_true e)
    walk_at "go"
    rw [List.length_map, ← hl]
    walk_at "go"
    refine lc_eq (x := 8) (y := 9) g1 rfl (by omega) (fun _ => rfl) (fun _ => rfl) (fun _ => rfl) (fun _ => rfl) fun D H2 e2 g2 => ?_
    walk_at "go"
    exact q i H2 (by omega) (Same.but (e1.trans e2)) (hs.same (e1.trans e2))
  walk_at "go"
  rw [List.length_map]
  refine w_iteD (fun hc3 => ?_) (fun hc3 => ?_)
  · have hx : atI (ns.map V.int) (step + 4) = some (V.int (M.gt ns (step + 4).toNat)) := at_gt (by omega) (by omega)
    walk_at "go"
    rw [List.length_map]
    have hm0 := Int.emod_nonneg (M.gt ns (step + 4).toNat) (show (c.length : Int) ≠ 0 by omega)
    have hm1 := Int.emod_lt_of_pos (M.gt ns (step + 4).toNat) (show (0 : Int) < (c.length : Int) by omega)
    refine w_oMod (by omega) ?_
    obtain ⟨r, hr⟩ := Int.eq_ofNat_of_zero_le hm0
    rw [hr]
    exact q r H (by omega) But.refl hs
  · walk_at "go"
    rw [List.length_map]
    refine i_take hs (by omega) (by omega) fun r H1 r0 r1 b1 s1 => ?_
    obtain ⟨r, rfl⟩ := Int.eq_ofNat_of_zero_le r0
    exact q r H1 (by omega) b1 s1
theorem rd_law_step (h : sp_law_step K A vs H Q E) : t_law_step K A { nx := fun _ H' => Q .non H', rt := Q } (start ["chain", "lines", "copies", "page", "handed", "told", "copied", "place", "uses"] vs) H := by
  obtain ⟨a, c, k, w, p, rfl, ha, hl, h0, w0, w1, hk, hlow, hp, q⟩ := h
  obtain ⟨good, lall, hempty, asc1, ltc, leg1⟩ := M.keeper (w := w) (K := k) (by omega) hk h0.gt (keep_of_low hlow) hp
  have la : (M.aft c k p (M.ans w k c p)).length = c.length := M.aft_length ..
  have na : Nn (M.aft c k p (M.ans w k c p)) := fun n hn => by
    obtain ⟨i, hi, e⟩ := List.getElem_of_mem hn
    rw [la] at hi
    have := M.aft_get (K := k) (p := p) (cop := M.ans w k c p) hi
    have e2 : M.gt (M.aft c k p (M.ans w k c p)) i = n := by rw [← e]; simp [M.gt, List.getD_eq_getElem?_getD, M.aft_length, hi]
    rw [e2] at this
    have := good.legal i hi
    split at * <;> omega
  have lowa : M.low w (M.aft c k p (M.ans w k c p)) = none := M.low_none_of fun j hj => good.keep j (by rwa [la] at hj)
  have glen := good.len
  unfold t_law_step
  walk_at "go"
  intro hd hhd
  have e1 := same_new (o := .lst (c.map V.int)) hhd
  have gd : upd H hd (.lst (c.map V.int)) hd = some (.lst (c.map V.int)) := upd_same
  generalize upd H hd (.lst (c.map V.int)) = H1 at e1 gd
  walk_at "go"
  refine ⟨hd, c, k, w, p, rfl, gd, by omega, by omega, by omega, hk, h0, (fun z => absurd ⟨by omega, by omega⟩ z), (fun _ l z => by rw [hlow] at z; cases z), fun p' ep hp' _ T p1 p2 H2 hT hp1 hp2 e2 gT g1 g2 => ?_⟩
  obtain rfl : p = p' := by omega
  generalize hans : M.ans w k c p = an at *
  generalize haft : M.aft c k p an = af at *
  have nlen : (nI an).length ≤ 1000 := by rw [List.length_map]; omega
  have E2 := e1.trans e2
  have ha2 := E2 _ _ ha
  have gd2 := e2 _ _ gd
  walk_at "go"
  rw [show ([V.ref p1, V.ref p2].length : Int) = 2 from rfl]
  walk_at "go"
  intro H3 e3
  have gT3 := e3 _ _ gT
  have g23 := e3 _ _ g2
  walk_at "go"
  intro H4 e4
  have gT4 := e4 _ _ gT3
  have E4 := (E2.trans e3).trans e4
  have g14 := e4 _ _ (e3 _ _ g1)
  have g24 := e4 _ _ g23
  have ha4 := E4 _ _ ha
  refine w_ex (w_iteNT (w_next (w_seq (w_asg (w_cb (w_cons (w_op (w_var rfl (w_c (w_ixT gT4 at0 (w_nil (GY.w_listT (.of g14) fun cp hcp => ?_)))))))))))) 
  have e5 := same_new (o := .lst ((nI an).map V.int)) hcp
  have g5 : upd H4 cp (.lst ((nI an).map V.int)) cp = some (.lst ((nI an).map V.int)) := upd_same
  generalize upd H4 cp (.lst ((nI an).map V.int)) = H5 at e5 g5
  have ha5 := e5 _ _ ha4
  walk_at "go"
  rw [List.length_map]
  walk_at "go"
  refine lcR (fun Dl i H' => Same H5 H' ∧ H' Dl = some (.lst ((nI ((List.range i).filter fun j => decide (j ∈ an))).map V.int))) ?_ ?_ ?_
  · exact fun Dl hD => ⟨same_new hD, upd_same⟩
  · rintro Dl i H6 hD hi ⟨e6, g6⟩
    have g56 := e6 _ _ g5
    have hsz : ((nI ((List.range i).filter fun j => decide (j ∈ an))).map V.int).length < sizeLine := by
      rw [List.length_map, List.length_map]
      exact L2.small1000 (Nat.le_trans (List.length_filter_le _ _) (by rw [List.length_range]; omega))
    walk_at "go"
    rw [show (0 : Int) + (i : Int) = (i : Int) by omega]
    by_cases hm : i ∈ an
    · rw [decide_eq_true (mem_nI.mpr hm)]
      walk_at "go"
      refine ⟨same_mut e6 hD, ?_⟩
      rw [filter_succ, if_pos (decide_eq_true hm), snocN]; exact upd_same
    · rw [decide_eq_false (fun h => hm (mem_nI.mp h))]
      refine w_iteF ⟨e6, ?_⟩
      rw [filter_succ, if_neg (by simpa using hm), List.append_nil]; exact g6
  rintro Dl H6 hD ⟨e6, g6⟩
  rw [show ((c.length : Int)).toNat = c.length by omega, filter_asc good.asc good.lt] at g6
  have g56 := e6 _ _ g5
  have E6 := (E4.trans e5).trans e6
  have ha6 := E6 _ _ ha
  walk_at "go"
  rw [List.length_map, List.length_map, decide_eq_false (by omega)]
  walk_at "go"
  rw [List.length_map]
  walk_at "go"
  intro u H7 hu e7 gu
  have E7 := E6.trans e7
  have ha7 := E7 _ _ ha
  walk_at "go"
  rw [List.length_map]
  walk_at "go"
  refine lcR (fun Dl i H' => Same H7 H' ∧ H' Dl = some (.lst ((List.replicate i false).map V.bl))) ?_ ?_ ?_
  · exact fun Dl hD => ⟨same_new hD, upd_same⟩
  · rintro Dl i H8 hD hi ⟨e8, g8⟩
    have hi2 : i < c.length := by omega
    have ha8 := e8 _ _ ha7
    have gu8 := e8 _ _ gu
    have hx1 := at_gt (c := c) (k := (0 : Int) + (i : Int)) (i := i) (by omega) hi2
    have hx2 : atI (((List.range c.length).map (M.uses p an)).map V.int) ((0 : Int) + (i : Int)) = some (V.int (M.uses p an i)) := atn (j := i) (by omega) (by simp [hi2])
    have hsz : ((List.replicate i false).map V.bl).length < sizeLine := by simp; exact L2.small1000 (by omega)
    have := good.legal i hi2
    walk_at "go"
    rw [decide_eq_false (by omega)]
    exact ⟨same_mut e8 hD, by rw [List.replicate_succ', List.map_append]; exact upd_same⟩
  rintro Db H8 hDb ⟨e8, g8⟩
  rw [show ((c.length : Int)).toNat = c.length by omega] at g8
  have anyf : (List.replicate c.length false).any id = false := by simp
  have E8 := E7.trans e8
  walk_at "go"
  refine w_any (.of g8) ?_
  rw [anyf]
  have g58 := e8 _ _ (e7 _ _ g56)
  have ha8 := E8 _ _ ha
  have gT8 := e8 _ _ (e7 _ _ (e6 _ _ (e5 _ _ gT4)))
  have g28 := e8 _ _ (e7 _ _ (e6 _ _ (e5 _ _ g24)))
  walk_at "go"
  intro z H9 hz e9 gz
  rw [haft] at gz
  have g29 := e9 _ _ g28
  have gT9 := e9 _ _ gT8
  walk_at "go"
  intro H10 e10
  have g510 := e10 _ _ (e9 _ _ g58)
  have ha10 := e10 _ _ (e9 _ _ ha8)
  have gT10 := e10 _ _ gT9
  have g210 := e10 _ _ g29
  have E10 := (E8.trans e9).trans e10
  unfold lowO
  rw [lowa]
  walk_at "go"
  intro em hem
  have e11 := same_new (o := .lst []) hem
  have g11 : upd H10 em (.lst []) em = some (.lst (([] : List Int).map V.int)) := upd_same
  generalize upd H10 em (.lst []) = H11 at e11 g11
  have g511 := e11 _ _ g510
  have ha11 := e11 _ _ ha10
  have E11 := E10.trans e11
  walk_at "go"
  intro H12 e12
  have E12 := E11.trans e12
  have g512 := e12 _ _ g511
  have ha12 := E12 _ _ ha
  have eb : decide (nI an = []) = decide (M.gt c p ≠ 0 ∧ M.low w (M.plain c p) = none) := by
    have : nI an = [] ↔ an = [] := by simp [nI]
    exact decide_eq_decide.mpr (this.trans hempty)
  rw [eb]
  walk_at "go"
  intro z2 H13 hz2 e13 gz2
  rw [hans] at gz2
  have g513 := e13 _ _ g512
  have gT13 := e13 _ _ (e12 _ _ (e11 _ _ gT10))
  have g213 := e13 _ _ (e12 _ _ (e11 _ _ g210))
  walk_at "go"
  intro r hr
  exact q af r _ na la lowa ((E12.trans e13).free hr) ((E12.trans e13).trans (same_new hr)) upd_same
end G

namespace G
open PySem L2
def sph_law_is_refusal (K : PySem.W.Frag) (A : CA) : GX.SpE := fun a cls d vs H Q _ => ∃ (C dd : Addr) (fs : List (Str × V)), vs = [.ref a] ∧ cls = .ref C ∧ d = some dd ∧ (C = A.NoPage ∨ C = A.NotKeepable) ∧ H dd = some (.xd fs) ∧ Q (.bl true) H
def sp_law_refused (K : PySem.W.Frag) (A : CA) : Sp := fun vs H Q _ => ∃ (a : Addr) (c : List Int) (k : Int) (w : Nat) (pg : Int) (tag : Str) (v : Int), vs = [.ref a, .int k, .int (w : Int), .int pg] ∧ H a = some (.lst (c.map V.int)) ∧ c.length ≤ 900 ∧ Nn c ∧ 1 ≤ w ∧ w ≤ 900 ∧ 2 ≤ k ∧
  ((¬ (0 ≤ pg ∧ pg < c.length) ∧ tag = "page" ∧ v = pg) ∨ (0 ≤ pg ∧ pg < c.length ∧ ∃ l : Nat, M.low w c = some l ∧ tag = "lost" ∧ v = (l : Int))) ∧
  ∀ (T : Addr) (H' : Hp), H T = none → Same H H' → H' T = some (.tup [.str tag, .int v]) → Q (.ref T) H'
variable {K : PySem.W.Frag} {A : CA} {vs : List V} {H : Hp} {Q : VK} {E : XK}
theorem i_refP {a : Addr} {c : List Int} {k pg : Int} {w : Nat} (ha : H a = some (.lst (c.map V.int))) (hl : c.length ≤ 900) (h0 : Nn c) (w0 : 1 ≤ w) (w1 : w ≤ 900) (hk : 2 ≤ k) (hn : ¬ (0 ≤ pg ∧ pg < c.length))
    (q : ∀ (T : Addr) (H' : Hp), H T = none → Same H H' → H' T = some (.tup [.str "page", .int pg]) → Q (.ref T) H') : sp_law_refused K A [.ref a, .int k, .int (w : Int), .int pg] H Q E := ⟨a, c, k, w, pg, "page", pg, rfl, ha, hl, h0, w0, w1, hk, .inl ⟨hn, rfl, rfl⟩, q⟩
theorem i_refL {a : Addr} {c : List Int} {k pg : Int} {w l : Nat} (ha : H a = some (.lst (c.map V.int))) (hl : c.length ≤ 900) (h0 : Nn c) (w0 : 1 ≤ w) (w1 : w ≤ 900) (hk : 2 ≤ k) (p0 : 0 ≤ pg) (p1 : pg < c.length) (hlow : M.low w c = some l)
    (q : ∀ (T : Addr) (H' : Hp), H T = none → Same H H' → H' T = some (.tup [.str "lost", .int (l : Int)]) → Q (.ref T) H') : sp_law_refused K A [.ref a, .int k, .int (w : Int), .int pg] H Q E := ⟨a, c, k, w, pg, "lost", l, rfl, ha, hl, h0, w0, w1, hk, .inr ⟨p0, p1, l, hlow, rfl, rfl⟩, q⟩
theorem w_neTS {p q : Addr} {s : Str} {v : Int} (hso : PyData.strOk s = true) (hp : H p = some (.tup [.str s, .int v])) (hq : H q = some (.tup [.str s, .int v])) (k : Q (.bl false) H) : rNeD K (.ref p) (.ref q) H Q := by
  have hc : PyData.canLay0 (.tuple [.str s, .int v]) = true := by simp [PyData.canLay0, PyData.canLayAll0, hso]
  have e : PyData.eqv (.tuple [.str s, .int v]) (.tuple [.str s, .int v]) = true := SeqAt.eqv_refl _ hc
  have hs : SeqAt.shaped (.tuple [.str s, .int v]) = true := by
    show (PyData.canLay0 (.tuple [.str s, .int v]) && decide (PyData.depth (.tuple [.str s, .int v]) ≤ 64)) = true
    rw [hc]; rfl
  refine ⟨_, _, .tup (.of hp) (.cons (.str s) (.cons (.int v) .nil)), .tup (.of hq) (.cons (.str s) (.cons (.int v) .nil)), hs, hs, ?_⟩
  rw [e]; exact k
def t_law_is_refusal (K : PySem.W.Frag) (A : CA) (a : Addr) (cls : Value) (d : Option Addr) : TS :=
  (tSeq (tIfS (tB (tCB (GX.rIsX K a cls d) (tCons (tVar 0) (tCons (tC (.ref A.LotError)) tNil)))) (tRet (tC (.bl false))) tNext)
  (tRet (tAndV (tCB (GX.rIsX K a cls d) (tCons (tVar 0) (tCons (tC (.ref A.OnecopyError)) tNil))) (tCB (GX.rIsX K a cls d) (tCons (tVar 0) (tCons (tC (.ty "ValueError")) tNil))))))
def t_law_refused (K : PySem.W.Frag) (A : CA) : TS :=
  (tSeq (tAsg (tCB (oListOf K) (tCons (tVar 0) tNil)) (gName 4))
  (tSeq (tAsg (tC .non) (gName 5))
  (tSeq (GY.tTryMany K [(.ref A.NoPage, 6, fun a cls d => (tIfS (tAnd (tB (GX.tCallG (sph_law_is_refusal K A a cls d) (tCons (tVar 6) tNil))) (tAnd (tNot (tB (tCB (GX.rIsX K a cls d) (tCons (tVar 6) (tCons (tC (.ref A.NotKeepable)) tNil))))) (tB (GX.tCallG (sp_law_is_integer K A) (tCons (tXf a cls d A.NoPage "page" (tVar 6)) tNil))))) (tAsg (tTup (tCons (tC (.str "page")) (tCons (tXf a cls d A.NoPage "page" (tVar 6)) tNil))) (gName 5)) tNext)), (.ref A.NotKeepable, 6, fun a cls d => (tIfS (tAnd (tB (GX.tCallG (sph_law_is_refusal K A a cls d) (tCons (tVar 6) tNil))) (tAnd (tNot (tB (tCB (GX.rIsX K a cls d) (tCons (tVar 6) (tCons (tC (.ref A.NoPage)) tNil))))) (tB (GX.tCallG (sp_law_is_integer K A) (tCons (tXf a cls d A.NotKeepable "page" (tVar 6)) tNil))))) (tAsg (tTup (tCons (tC (.str "lost")) (tCons (tXf a cls d A.NotKeepable "page" (tVar 6)) tNil))) (gName 5)) tNext))] (fun W => (tDrop (GX.tCallS (sp_chain_answer K A) (WE W) (tCons (tVar 4) (tCons (tVar 1) (tCons (tVar 2) (tCons (tVar 3) tNil))))))))
  (tSeq (tIfS (tTest (tOp (rNeD K) (tVar 4) (tVar 0))) (tRet (tC .non)) tNext)
  (tRet (tVar 5))))))

theorem rd_law_is_refusal {a : Addr} {cls : Value} {d : Option Addr} (C : CT K A) (h : sph_law_is_refusal K A a cls d vs H Q E0) : t_law_is_refusal K A a cls d { nx := fun _ H' => Q .non H', rt := Q } (start ["raised"] vs) H := by
  obtain ⟨D, dd, fs, rfl, rfl, rfl, hD, hx, q⟩ := h
  unfold t_law_is_refusal
  rcases hD with rfl | rfl
  · walk_at "go"
    refine GX.w_isX (ClsV.own _) C.x_NoPage hx C.k_NoPage_LotError ?_
    walk_at "go"
    refine GX.w_isX (ClsV.own _) C.x_NoPage hx C.k_NoPage_OnecopyError ?_
    walk_at "go"
    refine GX.w_isX (ClsV.ty _) C.x_NoPage hx C.k_NoPage_ValueError ?_
    exact q
  · walk_at "go"
    refine GX.w_isX (ClsV.own _) C.x_NotKeepable hx C.k_NotKeepable_LotError ?_
    walk_at "go"
    refine GX.w_isX (ClsV.own _) C.x_NotKeepable hx C.k_NotKeepable_OnecopyError ?_
    walk_at "go"
    refine GX.w_isX (ClsV.ty _) C.x_NotKeepable hx C.k_NotKeepable_ValueError ?_
    exact q
theorem rd_law_refused (C : CT K A) (h : sp_law_refused K A vs H Q E) : t_law_refused K A { nx := fun _ H' => Q .non H', rt := Q } (start ["chain", "lines", "copies", "page", "handed", "told", "raised"] vs) H := by
  obtain ⟨a, c, k, w, pg, tag, v, rfl, ha, hl, h0, w0, w1, hk, hc, q⟩ := h
  unfold t_law_refused
  walk_at "go"
  intro hd hhd
  have e1 := same_new (o := .lst (c.map V.int)) hhd
  have gd : upd H hd (.lst (c.map V.int)) hd = some (.lst (c.map V.int)) := upd_same
  generalize upd H hd (.lst (c.map V.int)) = H1 at e1 gd
  have ha1 := e1 _ _ ha
  walk_at "go"
  unfold GY.tTryMany
  refine w_drop (GX.w_callS ?_)
  walk_at "go"
  refine ⟨hd, c, k, w, pg, rfl, gd, by omega, by omega, by omega, hk, h0, fun hn => ?_, fun hin l hlw => ?_, fun p ep hp hlw => ?_⟩
  · intro dd H2 hdd e2 hx
    rcases hc with ⟨_, rfl, rfl⟩ | ⟨z1, z2, _⟩
    rotate_left
    · exact absurd ⟨z1, z2⟩ hn
    refine ⟨true, C.m_NoPage, fun _ r hr => ?_, fun z => nomatch z⟩
    have lP : ([(("page" : Str), V.int v)] : List (Str × V)).lookup ("page" : Str) = some (V.int v) := by rfl
    have gd2 := e2 _ _ gd
    have ha2 := e2 _ _ ha1
    refine w_if (w_and (w_tB (GX.w_callG ?_)))
    walk_at "go"
    refine ⟨A.NoPage, dd, _, rfl, rfl, rfl, .inl rfl, hx, ?_⟩
    walk_at "go"
    refine GX.w_isX (ClsV.own _) C.x_NoPage hx C.k_NoPage_NotKeepable ?_
    refine w_ex (w_iteNF (w_tB (GX.w_callG (w_cons (GX.w_xf (fun Q q => w_var rfl q) hx lP (w_nil (i_isint (w_ex ?_))))))))
    refine w_iteT ?_
    refine w_asg (w_tup (w_cons (w_c (w_cons (GX.w_xf (fun Q q => w_var rfl q) hx lP (w_nil (w_small (by simp) fun T hT => w_name ?_)))))))
    have e3 := same_new (o := .tup [V.str "page", V.int v]) hT
    have gT : upd H2 T (.tup [V.str "page", V.int v]) T = some (.tup [V.str "page", V.int v]) := upd_same
    generalize upd H2 T (.tup [V.str "page", V.int v]) = H3 at e3 gT
    have gd3 := e3 _ _ gd2
    have ha3 := e3 _ _ ha2
    walk_at "go"
    exact q T H3 ((e1.trans e2).free hT) ((e1.trans e2).trans e3) gT
  · intro dd H2 hdd e2 hx
    rcases hc with ⟨z, _⟩ | ⟨_, _, l', hlw', rfl, rfl⟩
    · exact absurd hin z
    obtain rfl : l = l' := by rw [hlw] at hlw'; exact Option.some.inj hlw'
    refine ⟨false, C.mf_NotKeepable_NoPage, (fun z => nomatch z), fun _ => ⟨true, C.m_NotKeepable, fun _ r hr => ?_, fun z => nomatch z⟩⟩
    have lP : ([(("page" : Str), V.int (l : Int))] : List (Str × V)).lookup ("page" : Str) = some (V.int (l : Int)) := by rfl
    have gd2 := e2 _ _ gd
    have ha2 := e2 _ _ ha1
    refine w_if (w_and (w_tB (GX.w_callG ?_)))
    walk_at "go"
    refine ⟨A.NotKeepable, dd, _, rfl, rfl, rfl, .inr rfl, hx, ?_⟩
    walk_at "go"
    refine GX.w_isX (ClsV.own _) C.x_NotKeepable hx C.k_NotKeepable_NoPage ?_
    refine w_ex (w_iteNF (w_tB (GX.w_callG (w_cons (GX.w_xf (fun Q q => w_var rfl q) hx lP (w_nil (i_isint (w_ex ?_))))))))
    refine w_iteT ?_
    refine w_asg (w_tup (w_cons (w_c (w_cons (GX.w_xf (fun Q q => w_var rfl q) hx lP (w_nil (w_small (by simp) fun T hT => w_name ?_)))))))
    have e3 := same_new (o := .tup [V.str "lost", V.int (l : Int)]) hT
    have gT : upd H2 T (.tup [V.str "lost", V.int (l : Int)]) T = some (.tup [V.str "lost", V.int (l : Int)]) := upd_same
    generalize upd H2 T (.tup [V.str "lost", V.int (l : Int)]) = H3 at e3 gT
    have gd3 := e3 _ _ gd2
    have ha3 := e3 _ _ ha2
    walk_at "go"
    exact q T H3 ((e1.trans e2).free hT) ((e1.trans e2).trans e3) gT
  · exfalso
    rcases hc with ⟨z, _⟩ | ⟨_, _, l', hlw', _⟩
    · exact z ⟨by omega, by omega⟩
    · rw [hlw] at hlw'; cases hlw'
end G

namespace G
open PySem L2
def sp_law_refusals (K : PySem.W.Frag) (A : CA) : Sp := fun vs H Q _ => ∃ (t a : Addr) (ns c : List Int) (k : Int) (w : Nat), vs = [.ref t, .ref a, .int k, .int (w : Int)] ∧ SqL K H t (ns.map V.int) ∧ ns.length ≤ 63 ∧ H a = some (.lst (c.map V.int)) ∧ 1 ≤ c.length ∧ c.length ≤ 900 ∧ Nn c ∧ 1 ≤ w ∧ w ≤ 71 ∧ 2 ≤ k ∧ k ≤ 100 ∧
  ∀ (H' : Hp), Same H H' → Q (.bl true) H'
def sp_law (K : PySem.W.Frag) (A : CA) : Sp := fun vs H Q _ => ∃ (a : Addr) (ns : List Int), vs = [.ref a] ∧ SqL K H a (ns.map V.int) ∧ ns.length ≤ 63 ∧ ∀ H', Q (.bl true) H'
variable {K : PySem.W.Frag} {A : CA} {vs : List V} {H : Hp} {Q : VK} {E : XK}
theorem i_refusals {t a : Addr} {ns c : List Int} {k : Int} {w : Nat} (ht : SqL K H t (ns.map V.int)) (hn : ns.length ≤ 63) (ha : H a = some (.lst (c.map V.int))) (l0 : 1 ≤ c.length) (l1 : c.length ≤ 900) (h0 : Nn c) (w0 : 1 ≤ w) (w1 : w ≤ 71) (k0 : 2 ≤ k) (k1 : k ≤ 100)
    (q : ∀ (H' : Hp), Same H H' → Q (.bl true) H') : sp_law_refusals K A [.ref t, .ref a, .int k, .int (w : Int)] H Q E := ⟨t, a, ns, c, k, w, rfl, ht, hn, ha, l0, l1, h0, w0, w1, k0, k1, q⟩
end G
local macro_rules | `(tactic| walk_at "call") => `(tactic| first
  | (refine' G.i_refusals ?g1 ?g2 ?g3 ?g4 ?g5 ?g6 ?g7 ?g8 ?g9 ?g10 ?_; (case g1 => walk_at "sq"); (case g2 => walk_at "ar"); (case g3 => walk_at "hp"); (case g4 => walk_at "ar"); (case g5 => walk_at "ar"); (case g6 => assumption); (case g7 => walk_at "ar"); (case g8 => walk_at "ar"); (case g9 => walk_at "ar"); (case g10 => walk_at "ar")))
namespace G
open PySem L2
def t_law_refusals (K : PySem.W.Frag) (A : CA) : TS :=
  (tSeq (tAsg (tCall (sp_law_bag K A) [] E0 (tCons (tVar 0) (tCons (tC (.int 3)) tNil))) (gName 4))
  (tSeq (tAsg (tCall (sp_law_lost_chain K A) [] E0 (tCons (tVar 4) (tCons (tVar 2) (tCons (tVar 3) tNil)))) (gName 5))
  (tSeq (tFor (iList K (tLst (tCons (tVar 1) (tCons (tVar 5) tNil)))) (gName 6)
  (tFor (iList K (tLst (tCons (tCB (rLenQ K) (tCons (tVar 6) tNil)) (tCons (tOp oAdd (tOp oAdd (tCB (rLenQ K) (tCons (tVar 6) tNil)) (tC (.int 1))) (tCall (sp_law_take K A) [] E0 (tCons (tVar 4) (tCons (tC (.int 300)) tNil)))) (tCons (tOp oSub (tOp oSub (tC (.int 0)) (tC (.int 1))) (tCall (sp_law_take K A) [] E0 (tCons (tVar 4) (tCons (tCB (rLenQ K) (tCons (tVar 6) tNil)) tNil)))) tNil))))) (gName 7)
  (tIfS (tTest (tOp (rNeD K) (tCall (sp_law_refused K A) [] E0 (tCons (tVar 6) (tCons (tVar 2) (tCons (tVar 3) (tCons (tVar 7) tNil))))) (tTup (tCons (tC (.str "page")) (tCons (tVar 7) tNil))))) (tRet (tC (.bl false))) tNext)))
  (tSeq (tFor (iList K (tLst (tCons (tC (.int 0)) (tCons (tOp oSub (tC (.int 0)) (tC (.int 1))) tNil)))) (gName 7)
  (tIfS (tTest (tOp (rNeD K) (tCall (sp_law_refused K A) [] E0 (tCons (tLst tNil) (tCons (tVar 2) (tCons (tVar 3) (tCons (tVar 7) tNil))))) (tTup (tCons (tC (.str "page")) (tCons (tVar 7) tNil))))) (tRet (tC (.bl false))) tNext))
  (tSeq (tFor (iList K (tLst (tCons (tC (.int 0)) (tCons (tCall (sp_law_take K A) [] E0 (tCons (tVar 4) (tCons (tCB (rLenQ K) (tCons (tVar 5) tNil)) tNil))) (tCons (tOp oSub (tCB (rLenQ K) (tCons (tVar 5) tNil)) (tC (.int 1))) tNil))))) (gName 7)
  (tIfS (tTest (tOp (rNeD K) (tCall (sp_law_refused K A) [] E0 (tCons (tVar 5) (tCons (tVar 2) (tCons (tVar 3) (tCons (tVar 7) tNil))))) (tTup (tCons (tC (.str "lost")) (tCons (tCall (sp_law_lowest K A) [] E0 (tCons (tVar 5) (tCons (tVar 3) tNil))) tNil))))) (tRet (tC (.bl false))) tNext))
  (tRet (tC (.bl true))))))))
def t_law (K : PySem.W.Frag) (A : CA) : TS :=
  (tSeq (tAsg (tCall (sp_law_bag K A) [] E0 (tCons (tVar 0) (tCons (tC (.int 0)) tNil))) (gName 1))
  (tSeq (tAsg (tOp oAdd (tC (.int 2)) (tCall (sp_law_take K A) [] E0 (tCons (tVar 1) (tCons (tC (.int 3)) tNil)))) (gName 2))
  (tSeq (tIfS (tTest (tOp rEq (tCall (sp_law_take K A) [] E0 (tCons (tVar 1) (tCons (tC (.int 8)) tNil))) (tC (.int 7)))) (tAsg (tOp oAdd (tC (.int 2)) (tCall (sp_law_take K A) [] E0 (tCons (tVar 1) (tCons (tC (.int 59)) tNil)))) (gName 2)) tNext)
  (tSeq (tAsg (tCall (sp_law_copies K A) [] E0 (tCons (tVar 1) tNil)) (gName 3))
  (tSeq (tAsg (tOp oAdd (tC (.int 1)) (tCall (sp_law_take K A) [] E0 (tCons (tVar 1) (tCons (tC (.int 9)) tNil)))) (gName 4))
  (tSeq (tIfS (tTest (tOp rEq (tCall (sp_law_take K A) [] E0 (tCons (tVar 1) (tCons (tC (.int 8)) tNil))) (tC (.int 7)))) (tAsg (tOp oAdd (tC (.int 10)) (tCall (sp_law_take K A) [] E0 (tCons (tVar 1) (tCons (tC (.int 31)) tNil)))) (gName 4)) tNext)
  (tSeq (tAsg (tCall (sp_law_take K A) [] E0 (tCons (tVar 1) (tCons (tC (.int 4)) tNil))) (gName 5))
  (tSeq (tAsg (tCall (sp_law_kept_chain K A) [] E0 (tCons (tCall (sp_law_bag K A) [] E0 (tCons (tVar 0) (tCons (tC (.int 1)) tNil))) (tCons (tVar 2) (tCons (tVar 3) (tCons (tVar 4) tNil))))) (gName 6))
  (tSeq (tIfS (tNot (tB (tCall (sp_law_refusals K A) [] E0 (tCons (tVar 0) (tCons (tVar 6) (tCons (tVar 2) (tCons (tVar 3) tNil))))))) (tRet (tC (.bl false))) tNext)
  (tSeq (tAsg (tCall (sp_law_bag K A) [] E0 (tCons (tVar 0) (tCons (tC (.int 2)) tNil))) (gName 7))
  (tSeq (tFor (iRng1 (tCons (tOp oAdd (tC (.int 1)) (tCall (sp_law_take K A) [] E0 (tCons (tVar 7) (tCons (tC (.int 40)) tNil)))) tNil)) (gName 8)
  (tSeq (tAsg (tCall (sp_law_step K A) [] E0 (tCons (tVar 6) (tCons (tVar 2) (tCons (tVar 3) (tCons (tCall (sp_law_next_page K A) [] E0 (tCons (tVar 0) (tCons (tVar 7) (tCons (tVar 5) (tCons (tVar 6) (tCons (tVar 3) (tCons (tVar 8) tNil))))))) tNil))))) (gName 6))
  (tIfS (tB (tIsN (tVar 6))) (tRet (tC (.bl false))) tNext)))
  (tRet (tC (.bl true))))))))))))))

variable {K : PySem.W.Frag} {A : CA} {vs : List V} {H : Hp} {Q : VK} {E : XK}
theorem strok_page : PyData.strOk ("page" : Str) = true := by decide +kernel
theorem strok_lost : PyData.strOk ("lost" : Str) = true := by decide +kernel
theorem rd_law_refusals (h : sp_law_refusals K A vs H Q E) : t_law_refusals K A { nx := fun _ H' => Q .non H', rt := Q } (start ["script", "chain", "lines", "copies", "bag", "lost", "blank", "page"] vs) H := by
  obtain ⟨t, a, ns, c, k, w, rfl, ht, hn, ha, l0, l1, h0, w0, w1, k0, k1, q⟩ := h
  unfold t_law_refusals
  walk_at "go"
  intro s H1 hs0 e1 s1
  have ha1 := e1 _ _ ha
  have nas : a ≠ s := ne_of_none ha hs0
  walk_at "go"
  intro d pd H2 dn d0 d1 dlow hpd b2 s2 gd
  have ha2 := b2.at nas ha1
  have nds : pd ≠ s := s1.neFree hpd
  have e2 : Same H H2 := Same.but2 e1 b2 hs0
  obtain ⟨l, dlow⟩ := dlow
  have dll := (M.low_some dlow).1
  clear e1 b2 ha1
  walk_at "go"
  intro p3 hp3
  have e3 := same_new (o := .lst [V.ref a, V.ref pd]) hp3
  have g3 : upd H2 p3 (.lst [V.ref a, V.ref pd]) p3 = some (.lst [V.ref a, V.ref pd]) := upd_same
  have n3s : p3 ≠ s := s2.neFree hp3
  have s3 := s2.same e3
  have ha3 := e3 _ _ ha2
  have gd3 := e3 _ _ gd
  have E3 := e2.trans e3
  have hs3 : H s = none := hs0
  generalize upd H2 p3 (.lst [V.ref a, V.ref pd]) = H3 at g3 s3 ha3 gd3 E3
  walk_at "go"
  -- a heap in the loops: all but the source is as in H3
  refine forL (xs := [V.ref a, V.ref pd]) (fun i σ H' => ∃ k6 k7 : Option V, σ = [some (.ref t), some (.ref a), some (.int k), some (.int (w : Int)), some (.ref s), some (.ref pd), k6, k7] ∧ But s H3 H' ∧ Src H' s) ?_ ?_ ?_ ?_
  · exact ⟨none, none, rfl, But.refl, s3⟩
  · rintro i σ H4 hi ⟨k6, k7, rfl, b4, s4⟩
    exact .of (b4.at n3s g3)
  · rintro i x σ H4 hx ⟨k6, k7, rfl, b4, s4⟩
    have : ∃ (z : Addr) (b : List Int), x = .ref z ∧ H3 z = some (.lst (b.map V.int)) ∧ z ≠ s ∧ 1 ≤ b.length ∧ b.length ≤ 900 ∧ Nn b := by
      match i, hx with
      | 0, hx => exact ⟨a, c, (Option.some.inj hx).symm, ha3, nas, l0, l1, h0⟩
      | 1, hx => exact ⟨pd, d, (Option.some.inj hx).symm, gd3, nds, by omega, d1, dn⟩
      | n + 2, hx => cases hx
    obtain ⟨z, b, rfl, hz, nzs, bl0, bl1, bn⟩ := this
    have hz4 := b4.at nzs hz
    walk_at "go"
    rw [List.length_map]
    walk_at "go"
    intro r5 H5 r50 r51 b5 s5
    have hz5 := b5.at nzs hz4
    walk_at "go"
    rw [List.length_map]
    refine i_take s5 (by omega) (by omega) fun r6 H6 r60 r61 b6 s6 => ?_
    have hz6 := b6.at nzs hz5
    walk_at "go"
    intro pl hpl
    have g7 : upd H6 pl (.lst [V.int ↑b.length, V.int (↑b.length + 1 + r5), V.int (0 - 1 - r6)]) pl = some (.lst [V.int ↑b.length, V.int (↑b.length + 1 + r5), V.int (0 - 1 - r6)]) := upd_same
    have s7 := s6.new (o := .lst [V.int ↑b.length, V.int (↑b.length + 1 + r5), V.int (0 - 1 - r6)]) hpl
    have b7 : But s H3 (upd H6 pl (.lst [V.int ↑b.length, V.int (↑b.length + 1 + r5), V.int (0 - 1 - r6)])) := ((b4.trans b5).trans b6).new hpl
    have hz7 := keep (o' := .lst [V.int ↑b.length, V.int (↑b.length + 1 + r5), V.int (0 - 1 - r6)]) hz6 hpl
    generalize upd H6 pl (.lst [V.int ↑b.length, V.int (↑b.length + 1 + r5), V.int (0 - 1 - r6)]) = H7 at g7 s7 b7 hz7
    walk_at "go"
    refine forL (xs := [V.int ↑b.length, V.int (↑b.length + 1 + r5), V.int (0 - 1 - r6)]) (fun j σ H' => ∃ k7 : Option V, σ = [some (.ref t), some (.ref a), some (.int k), some (.int (w : Int)), some (.ref s), some (.ref pd), some (.ref z), k7] ∧ Same H7 H') ?_ ?_ ?_ ?_
    · exact ⟨k7, rfl, Same.refl _⟩
    · rintro j σ H8 hj ⟨k7, rfl, e8⟩
      exact .of (e8 _ _ g7)
    · rintro j x σ H8 hx ⟨k7, rfl, e8⟩
      have hz8 := e8 _ _ hz7
      have : ∃ pg : Int, x = .int pg ∧ ¬ (0 ≤ pg ∧ pg < b.length) := by
        match j, hx with
        | 0, hx => exact ⟨_, (Option.some.inj hx).symm, by omega⟩
        | 1, hx => exact ⟨_, (Option.some.inj hx).symm, by omega⟩
        | 2, hx => exact ⟨_, (Option.some.inj hx).symm, by omega⟩
        | n + 3, hx => cases hx
      obtain ⟨pg, rfl, hpg⟩ := this
      walk_at "go"
      refine i_refP hz8 bl1 bn w0 (by omega) k0 hpg fun T H9 hT e9 gT => ?_
      walk_at "go"
      intro T2 hT2
      refine w_neTS strok_page (keep gT hT2) upd_same ?_
      walk_at "go"
      exact ⟨_, rfl, (e8.trans e9).trans (same_new hT2)⟩
    · rintro σ H8 ⟨k7, rfl, e8⟩
      exact ⟨_, _, rfl, b7.trans (Same.but e8), s7.same e8⟩
  · rintro σ H4 ⟨k6, k7, rfl, b4, s4⟩
    have gd4 := b4.at nds gd3
    clear g3
    walk_at "go"
    intro p5 hp5
    have g5 : upd H4 p5 (.lst [V.int 0, V.int (0 - 1)]) p5 = some (.lst [V.int 0, V.int (0 - 1)]) := upd_same
    have e5 := same_new (o := .lst [V.int 0, V.int (0 - 1)]) hp5
    generalize upd H4 p5 (.lst [V.int 0, V.int (0 - 1)]) = H5 at g5 e5
    walk_at "go"
    refine forL (xs := [V.int 0, V.int (0 - 1)]) (fun j σ H' => ∃ k7 : Option V, σ = [some (.ref t), some (.ref a), some (.int k), some (.int (w : Int)), some (.ref s), some (.ref pd), k6, k7] ∧ Same H5 H') ?_ ?_ ?_ ?_
    · exact ⟨k7, rfl, Same.refl _⟩
    · rintro j σ H8 hj ⟨k7, rfl, e8⟩
      exact .of (e8 _ _ g5)
    · rintro j x σ H8 hx ⟨k7, rfl, e8⟩
      have : ∃ pg : Int, x = .int pg ∧ ¬ (0 ≤ pg ∧ pg < (([] : List Int).length : Int)) := by
        match j, hx with
        | 0, hx => exact ⟨_, (Option.some.inj hx).symm, by simp⟩
        | 1, hx => exact ⟨_, (Option.some.inj hx).symm, by simp⟩
        | n + 2, hx => cases hx
      obtain ⟨pg, rfl, hpg⟩ := this
      walk_at "go"
      intro em hem
      have e9 := same_new (o := .lst []) hem
      have g9 : upd H8 em (.lst []) em = some (.lst (([] : List Int).map V.int)) := upd_same
      generalize upd H8 em (.lst []) = H9 at e9 g9
      walk_at "go"
      refine i_refP g9 (by simp) Nn.nil w0 (by omega) k0 hpg fun T H10 hT e10 gT => ?_
      walk_at "go"
      intro T2 hT2
      refine w_neTS strok_page (keep gT hT2) upd_same ?_
      walk_at "go"
      exact ⟨_, rfl, ((e8.trans e9).trans e10).trans (same_new hT2)⟩
    · rintro σ H8 ⟨k7, rfl, e8⟩
      have b8 := (b4.trans (Same.but e5)).trans (Same.but e8)
      have s8 := (s4.same e5).same e8
      have gd8 := b8.at nds gd3
      clear g5 e5 e8
      walk_at "go"
      rw [List.length_map]
      refine i_take s8 (by omega) (by omega) fun r9 H9 r90 r91 b9 s9 => ?_
      have gd9 := b9.at nds gd8
      walk_at "go"
      rw [List.length_map]
      intro p10 hp10
      have g10 : upd H9 p10 (.lst [V.int 0, V.int r9, V.int (↑d.length - 1)]) p10 = some (.lst [V.int 0, V.int r9, V.int (↑d.length - 1)]) := upd_same
      have e10 := same_new (o := .lst [V.int 0, V.int r9, V.int (↑d.length - 1)]) hp10
      generalize upd H9 p10 (.lst [V.int 0, V.int r9, V.int (↑d.length - 1)]) = H10 at g10 e10
      have gd10 := e10 _ _ gd9
      walk_at "go"
      refine forL (xs := [V.int 0, V.int r9, V.int (↑d.length - 1)]) (fun j σ H' => ∃ k7 : Option V, σ = [some (.ref t), some (.ref a), some (.int k), some (.int (w : Int)), some (.ref s), some (.ref pd), k6, k7] ∧ Same H10 H') ?_ ?_ ?_ ?_
      · exact ⟨k7, rfl, Same.refl _⟩
      · rintro j σ H11 hj ⟨k7, rfl, e11⟩
        exact .of (e11 _ _ g10)
      · rintro j x σ H11 hx ⟨k7, rfl, e11⟩
        have : ∃ pg : Int, x = .int pg ∧ 0 ≤ pg ∧ pg < d.length := by
          match j, hx with
          | 0, hx => exact ⟨_, (Option.some.inj hx).symm, by omega, by omega⟩
          | 1, hx => exact ⟨_, (Option.some.inj hx).symm, by omega, by omega⟩
          | 2, hx => exact ⟨_, (Option.some.inj hx).symm, by omega, by omega⟩
          | n + 3, hx => cases hx
        obtain ⟨pg, rfl, hp0, hp1⟩ := this
        have gd11 := e11 _ _ gd10
        walk_at "go"
        refine i_refL gd11 d1 dn w0 (by omega) k0 hp0 hp1 dlow fun T H12 hT e12 gT => ?_
        have gd12 := e12 _ _ gd11
        walk_at "go"
        intro H13 e13
        have gT13 := e13 _ _ gT
        unfold lowO
        rw [dlow]
        walk_at "go"
        intro T2 hT2
        refine w_neTS strok_lost (keep gT13 hT2) upd_same ?_
        walk_at "go"
        exact ⟨_, rfl, ((e11.trans e12).trans e13).trans (same_new hT2)⟩
      · rintro σ H11 ⟨k7, rfl, e11⟩
        walk_at "go"
        exact q _ (Same.but2 E3 (((b8.trans b9).trans (Same.but e10)).trans (Same.but e11)) hs0)
theorem rd_law (h : sp_law K A vs H Q E) : t_law K A { nx := fun _ H' => Q .non H', rt := Q } (start ["script", "bag", "lines", "copies", "size", "way", "chain", "run", "step"] vs) H := by
  obtain ⟨a, ns, rfl, ht, hn, q⟩ := h
  unfold t_law
  -- from the draw of the page sizes on: the run
  have main : ∀ (s : Addr) (k z way : Int) (w : Nat) (H1 : Hp), Same H H1 → Src H1 s → 2 ≤ k → k ≤ 100 → 1 ≤ w → w ≤ 71 → 1 ≤ z → z ≤ 40 →
      (tSeq (tAsg (tCall (sp_law_kept_chain K A) [] E0 (tCons (tCall (sp_law_bag K A) [] E0 (tCons (tVar 0) (tCons (tC (.int 1)) tNil))) (tCons (tVar 2) (tCons (tVar 3) (tCons (tVar 4) tNil))))) (gName 6))
  (tSeq (tIfS (tNot (tB (tCall (sp_law_refusals K A) [] E0 (tCons (tVar 0) (tCons (tVar 6) (tCons (tVar 2) (tCons (tVar 3) tNil))))))) (tRet (tC (.bl false))) tNext)
  (tSeq (tAsg (tCall (sp_law_bag K A) [] E0 (tCons (tVar 0) (tCons (tC (.int 2)) tNil))) (gName 7))
  (tSeq (tFor (iRng1 (tCons (tOp oAdd (tC (.int 1)) (tCall (sp_law_take K A) [] E0 (tCons (tVar 7) (tCons (tC (.int 40)) tNil)))) tNil)) (gName 8)
  (tSeq (tAsg (tCall (sp_law_step K A) [] E0 (tCons (tVar 6) (tCons (tVar 2) (tCons (tVar 3) (tCons (tCall (sp_law_next_page K A) [] E0 (tCons (tVar 0) (tCons (tVar 7) (tCons (tVar 5) (tCons (tVar 6) (tCons (tVar 3) (tCons (tVar 8) tNil))))))) tNil))))) (gName 6))
  (tIfS (tB (tIsN (tVar 6))) (tRet (tC (.bl false))) tNext)))
  (tRet (tC (.bl true))))))) { nx := fun _ H' => Q .non H', rt := Q } [some (.ref a), some (.ref s), some (.int k), some (.int (w : Int)), some (.int z), some (.int way), none, none, none] H1 := by
    intro s k z way w H1 e1 s1 k0 k1 w0 w1 z0 z1
    have ht1 := G.SqL.same ht e1
    walk_at "go"
    intro t2 H2 t20 e2 ts2
    walk_at "go"
    intro c pc H3 cn c0 c1 clow hpc b3 gc
    have e3 : Same H1 H3 := Same.but2 e2 b3 t20
    have ht3 := G.SqL.same ht1 e3
    clear b3 ts2 e2 t20
    walk_at "go"
    intro H4 e4
    have ht4 := G.SqL.same ht3 e4
    have gc4 := e4 _ _ gc
    walk_at "go"
    intro r H5 r0 e5 rs5
    have ht5 := G.SqL.same ht4 e5
    have gc5 := e5 _ _ gc4
    have ncr : pc ≠ r := ne_of_none gc4 r0
    clear e3 e4
    walk_at "go"
    intro m H6 m0 m1 b6 rs6
    have ht6 : SqL K H6 a (ns.map V.int) := G.SqL.same ht4 (Same.but2 e5 b6 r0)
    have htr : ∀ H', But r H6 H' → SqL K H' a (ns.map V.int) := fun H' b => G.SqL.same ht4 (Same.but2 e5 (b6.trans b) r0)
    have gc6 := b6.at ncr gc5
    walk_at "go"
    refine forR (fun i σ H' => ∃ (c : List Int) (pc : Addr) (k8 : Option V), σ = [some (.ref a), some (.ref s), some (.int k), some (.int (w : Int)), some (.int z), some (.int way), some (.ref pc), some (.ref r), k8] ∧ But r H6 H' ∧ Src H' r ∧ H' pc = some (.lst (c.map V.int)) ∧ pc ≠ r ∧ Nn c ∧ 1 ≤ c.length ∧ c.length ≤ 200 ∧ M.low w c = none) ?_ ?_ ?_
    · exact ⟨c, pc, none, rfl, But.refl, rs6, gc6, ncr, cn, c0, c1, clow⟩
    · clear gc6 gc5 gc4 gc ht6 ht5 ht4 ht3 ht1 e5 b6 rs5 rs6
      rintro i σ H7 hi ⟨c, pc, k8, rfl, b7, s7, gc7, ncr7, cn7, c07, c17, clow7⟩
      have ht7 := htr H7 b7
      walk_at "go"
      intro p H8 hp b8 s8
      have gc8 := b8.at ncr7 gc7
      walk_at "go"
      intro c' q' H9 cn9 cl9 low9 hq9 e9 g9
      walk_at "go"
      refine w_iteF ?_
      exact ⟨c', q', _, rfl, (b7.trans b8).trans (Same.but e9), s8.same e9, g9, s8.neFree hq9, cn9, by omega, by omega, low9⟩
    · rintro σ H7 ⟨c, pc, k8, rfl, _⟩
      walk_at "go"
      exact q _
  have e0 := Same.refl H
  walk_at "go"
  intro s H1 s0 e1 s1
  walk_at "go"
  intro r1 H2 r10 r11 b2 s2
  walk_at "go"
  intro r2 H3 r20 r21 b3 s3
  have fin : ∀ (k : Int) (H4 : Hp), But s H1 H4 → Src H4 s → 2 ≤ k → k ≤ 100 →
      (tSeq (tAsg (tCall (sp_law_copies K A) [] E0 (tCons (tVar 1) tNil)) (gName 3))
  (tSeq (tAsg (tOp oAdd (tC (.int 1)) (tCall (sp_law_take K A) [] E0 (tCons (tVar 1) (tCons (tC (.int 9)) tNil)))) (gName 4))
  (tSeq (tIfS (tTest (tOp rEq (tCall (sp_law_take K A) [] E0 (tCons (tVar 1) (tCons (tC (.int 8)) tNil))) (tC (.int 7)))) (tAsg (tOp oAdd (tC (.int 10)) (tCall (sp_law_take K A) [] E0 (tCons (tVar 1) (tCons (tC (.int 31)) tNil)))) (gName 4)) tNext)
  (tSeq (tAsg (tCall (sp_law_take K A) [] E0 (tCons (tVar 1) (tCons (tC (.int 4)) tNil))) (gName 5))
  (tSeq (tAsg (tCall (sp_law_kept_chain K A) [] E0 (tCons (tCall (sp_law_bag K A) [] E0 (tCons (tVar 0) (tCons (tC (.int 1)) tNil))) (tCons (tVar 2) (tCons (tVar 3) (tCons (tVar 4) tNil))))) (gName 6))
  (tSeq (tIfS (tNot (tB (tCall (sp_law_refusals K A) [] E0 (tCons (tVar 0) (tCons (tVar 6) (tCons (tVar 2) (tCons (tVar 3) tNil))))))) (tRet (tC (.bl false))) tNext)
  (tSeq (tAsg (tCall (sp_law_bag K A) [] E0 (tCons (tVar 0) (tCons (tC (.int 2)) tNil))) (gName 7))
  (tSeq (tFor (iRng1 (tCons (tOp oAdd (tC (.int 1)) (tCall (sp_law_take K A) [] E0 (tCons (tVar 7) (tCons (tC (.int 40)) tNil)))) tNil)) (gName 8)
  (tSeq (tAsg (tCall (sp_law_step K A) [] E0 (tCons (tVar 6) (tCons (tVar 2) (tCons (tVar 3) (tCons (tCall (sp_law_next_page K A) [] E0 (tCons (tVar 0) (tCons (tVar 7) (tCons (tVar 5) (tCons (tVar 6) (tCons (tVar 3) (tCons (tVar 8) tNil))))))) tNil))))) (gName 6))
  (tIfS (tB (tIsN (tVar 6))) (tRet (tC (.bl false))) tNext)))
  (tRet (tC (.bl true))))))))))) { nx := fun _ H' => Q .non H', rt := Q } [some (.ref a), some (.ref s), some (.int k), none, none, none, none, none, none] H4 := by
    intro k H4 b4 s4 k0 k1
    walk_at "go"
    intro w H5 w0 w1 b5 s5
    obtain ⟨w, rfl⟩ := Int.eq_ofNat_of_zero_le (show 0 ≤ w by omega)
    walk_at "go"
    intro r6 H6 r60 r61 b6 s6
    walk_at "go"
    intro r7 H7 r70 r71 b7 s7
    have b47 := ((b4.trans b5).trans b6).trans b7
    walk_at "go"
    refine w_iteD (fun hc => ?_) (fun hc => ?_)
    · walk_at "go"
      intro r8 H8 r80 r81 b8 s8
      walk_at "go"
      intro way H9 _ _ b9 s9
      exact main s k (10 + r8) way w H9 (Same.but2 e1 ((b47.trans b8).trans b9) s0) s9 k0 k1 (by omega) (by omega) (by omega) (by omega)
    · walk_at "go"
      intro way H9 _ _ b9 s9
      exact main s k (1 + r6) way w H9 (Same.but2 e1 (b47.trans b9) s0) s9 k0 k1 (by omega) (by omega) (by omega) (by omega)
  walk_at "go"
  refine w_iteD (fun hc => ?_) (fun hc => ?_)
  · walk_at "go"
    intro r4 H4 r40 r41 b4 s4
    refine w_oAdd (w_name ?_)
    exact fin (2 + r4) H4 ((b2.trans b3).trans b4) s4 (by omega) (by omega)
  · exact fin (2 + r1) H3 (b2.trans b3) s3 (by omega) (by omega)
end G

namespace G
open PySem L2
def topS (i : Nat) : Stmt := PySem.Challenge.pw_onecopy_k26_whole_chain_keeper.main.body.getD i (.Pass ⟨0, 0, 0, 0⟩)
structure Txt (mg : Str → Option Value) (A : CA) : Prop where
  b_ValueError : mg "ValueError" = none
  b_abs : mg "abs" = none
  b_all : mg "all" = none
  b_any : mg "any" = none
  b_bool : mg "bool" = none
  b_enumerate : mg "enumerate" = none
  b_int : mg "int" = none
  b_isinstance : mg "isinstance" = none
  b_len : mg "len" = none
  b_list : mg "list" = none
  b_max : mg "max" = none
  b_min : mg "min" = none
  b_range : mg "range" = none
  b_reversed : mg "reversed" = none
  b_sorted : mg "sorted" = none
  b_tuple : mg "tuple" = none
  g_LotError : mg "LotError" = some (.ref A.LotError)
  g_NoPage : mg "NoPage" = some (.ref A.NoPage)
  g_NotKeepable : mg "NotKeepable" = some (.ref A.NotKeepable)
  g_OnecopyError : mg "OnecopyError" = some (.ref A.OnecopyError)
variable {P : Program} {w : World} {K : PySem.W.Frag} {mg : Str → Option Value} {base : Heap} {A : CA}
abbrev s_NoPage_init : Stmt := inClass (topS 3) 0
theorem sc_NoPage_init : FnScope ["self", "page"] ["self", "page"] (defScope s_NoPage_init) := ⟨rfl, rfl, rfl, by decide +kernel, rfl, by decide +kernel, by decide +kernel⟩
theorem fn_NoPage_init {f : Addr} {fd : FuncData} (F : Fun K "__init__" "NoPage.__init__" s_NoPage_init f fd) : FnOk P w K mg base CX0 1 f fd ["self", "page"] (GX.sp_err K A.NoPage "page") :=
  F.ok sc_NoPage_init (fun vs H Q E h => by obtain ⟨_, _, rfl, _⟩ := h; rfl) (fun cdv Ar outer s H vs Q E hr h => ⟨GX.t_err K "page", (pss_one (ps_ost (pv 0) (pv 1))), GX.rd_err h⟩)
theorem bi_NoPage_init {f : Addr} {fd : FuncData} (F : Fun K "__init__" "NoPage.__init__" s_NoPage_init f fd) : Binds K fd ["self", "page"] [] := F.binds fun _ _ _ _ _ _ us hl => match us, hl with | [_, _], _ => rfl
abbrev s_NotKeepable_init : Stmt := inClass (topS 4) 0
theorem sc_NotKeepable_init : FnScope ["self", "page"] ["self", "page"] (defScope s_NotKeepable_init) := ⟨rfl, rfl, rfl, by decide +kernel, rfl, by decide +kernel, by decide +kernel⟩
theorem fn_NotKeepable_init {f : Addr} {fd : FuncData} (F : Fun K "__init__" "NotKeepable.__init__" s_NotKeepable_init f fd) : FnOk P w K mg base CX0 1 f fd ["self", "page"] (GX.sp_err K A.NotKeepable "page") :=
  F.ok sc_NotKeepable_init (fun vs H Q E h => by obtain ⟨_, _, rfl, _⟩ := h; rfl) (fun cdv Ar outer s H vs Q E hr h => ⟨GX.t_err K "page", (pss_one (ps_ost (pv 0) (pv 1))), GX.rd_err h⟩)
theorem bi_NotKeepable_init {f : Addr} {fd : FuncData} (F : Fun K "__init__" "NotKeepable.__init__" s_NotKeepable_init f fd) : Binds K fd ["self", "page"] [] := F.binds fun _ _ _ _ _ _ us hl => match us, hl with | [_, _], _ => rfl
abbrev s_height_over : Stmt := topS 6
theorem sc_height_over : FnScope ["below", "blank", "copies"] ["below", "blank", "copies"] (defScope s_height_over) := ⟨rfl, rfl, rfl, by decide +kernel, rfl, by decide +kernel, by decide +kernel⟩
theorem ln_height_over {vs : List V} {H : Hp} {Q : VK} {E : XK} (h : sp_height_over K A vs H Q E) : vs.length = 3 := by
  first | (obtain ⟨_, rfl, _⟩ := h; rfl) | (obtain ⟨_, _, rfl, _⟩ := h; rfl) | (obtain ⟨_, _, _, rfl, _⟩ := h; rfl) | (obtain ⟨_, _, _, _, rfl, _⟩ := h; rfl) | (obtain ⟨_, _, _, _, _, rfl, _⟩ := h; rfl) | (obtain ⟨_, _, _, _, _, _, rfl, _⟩ := h; rfl) | (obtain ⟨_, _, _, _, _, _, _, rfl, _⟩ := h; rfl) | (obtain ⟨_, _, _, _, _, _, _, _, rfl, _⟩ := h; rfl) | (obtain ⟨_, _, _, _, _, _, _, _, _, rfl, _⟩ := h; rfl) | (obtain ⟨_, _, _, _, _, _, _, _, _, _, rfl, _⟩ := h; rfl) | (obtain ⟨_, _, _, _, _, _, _, _, _, _, _, rfl, _⟩ := h; rfl) | (obtain ⟨_, _, _, _, _, _, _, _, _, _, _, _, rfl, _⟩ := h; rfl) | (obtain ⟨_, _, _, _, _, _, _, _, _, _, _, _, _, rfl, _⟩ := h; rfl) | (obtain ⟨_, _, _, _, _, _, _, _, _, _, _, _, _, _, rfl, _⟩ := h; rfl) | (obtain ⟨_, _, _, _, _, _, _, _, _, _, _, _, _, _, _, rfl, _⟩ := h; rfl) | (obtain ⟨_, _, _, _, _, _, _, _, _, _, _, _, _, _, _, _, rfl, _⟩ := h; rfl) | (obtain ⟨_, _, _, _, _, _, _, _, _, _, _, _, _, _, _, _, _, rfl, _⟩ := h; rfl) | (obtain ⟨_, _, _, _, _, _, _, _, _, _, _, _, _, _, _, _, _, _, rfl, _⟩ := h; rfl) | (obtain ⟨_, _, _, _, _, _, _, _, _, _, _, _, _, _, _, _, _, _, _, rfl, _⟩ := h; rfl)
theorem fn_height_over {f : Addr} {fd : FuncData} (F : Fun K "height_over" "height_over" s_height_over f fd) (T : Txt mg A) (C : CT K A)  : FnOk P w K mg base CX0 1 f fd ["below", "blank", "copies"] (sp_height_over K A) :=
  F.ok sc_height_over (fun vs H Q E h => ln_height_over h) (fun cdv Ar outer s H vs Q E hr h => ⟨t_height_over K A, (pss_cons (ps_if (pt_cmpR op_eq (pv 1) pe_int (nomark _)) (pss_one (ps_ret (pe_op op_add (pv 0) pe_int))) pss_nil)
  (pss_one (ps_ret (pe_ifExp (PW.pt (pw_and (pt_cmpR op_eq (pv 1) pe_int (nomark _)) (pw_and1 (pt_cmpR op_ge (pv 0) (pv 2) (nomark _))))) pe_int pe_int)))), rd_height_over h⟩)
theorem bi_height_over {f : Addr} {fd : FuncData} (F : Fun K "height_over" "height_over" s_height_over f fd) : Binds K fd ["below", "blank", "copies"] [] := F.binds fun _ _ _ _ _ _ us hl => match us, hl with | [_, _, _], _ => rfl
abbrev s_heights : Stmt := topS 8
theorem sc_heights : FnScope ["blank", "copies", "found", "height", "number"] ["blank", "copies"] (defScope s_heights) := ⟨rfl, rfl, rfl, by decide +kernel, rfl, by decide +kernel, by decide +kernel⟩
theorem ln_heights {vs : List V} {H : Hp} {Q : VK} {E : XK} (h : sp_heights K A vs H Q E) : vs.length = 2 := by
  first | (obtain ⟨_, rfl, _⟩ := h; rfl) | (obtain ⟨_, _, rfl, _⟩ := h; rfl) | (obtain ⟨_, _, _, rfl, _⟩ := h; rfl) | (obtain ⟨_, _, _, _, rfl, _⟩ := h; rfl) | (obtain ⟨_, _, _, _, _, rfl, _⟩ := h; rfl) | (obtain ⟨_, _, _, _, _, _, rfl, _⟩ := h; rfl) | (obtain ⟨_, _, _, _, _, _, _, rfl, _⟩ := h; rfl) | (obtain ⟨_, _, _, _, _, _, _, _, rfl, _⟩ := h; rfl) | (obtain ⟨_, _, _, _, _, _, _, _, _, rfl, _⟩ := h; rfl) | (obtain ⟨_, _, _, _, _, _, _, _, _, _, rfl, _⟩ := h; rfl) | (obtain ⟨_, _, _, _, _, _, _, _, _, _, _, rfl, _⟩ := h; rfl) | (obtain ⟨_, _, _, _, _, _, _, _, _, _, _, _, rfl, _⟩ := h; rfl) | (obtain ⟨_, _, _, _, _, _, _, _, _, _, _, _, _, rfl, _⟩ := h; rfl) | (obtain ⟨_, _, _, _, _, _, _, _, _, _, _, _, _, _, rfl, _⟩ := h; rfl) | (obtain ⟨_, _, _, _, _, _, _, _, _, _, _, _, _, _, _, rfl, _⟩ := h; rfl) | (obtain ⟨_, _, _, _, _, _, _, _, _, _, _, _, _, _, _, _, rfl, _⟩ := h; rfl) | (obtain ⟨_, _, _, _, _, _, _, _, _, _, _, _, _, _, _, _, _, rfl, _⟩ := h; rfl) | (obtain ⟨_, _, _, _, _, _, _, _, _, _, _, _, _, _, _, _, _, _, rfl, _⟩ := h; rfl) | (obtain ⟨_, _, _, _, _, _, _, _, _, _, _, _, _, _, _, _, _, _, _, rfl, _⟩ := h; rfl)
theorem fn_heights {f : Addr} {fd : FuncData} (F : Fun K "heights" "heights" s_heights f fd) (T : Txt mg A) (C : CT K A) (C_height_over : C8.Cal P w K mg base 1 "height_over" (sp_height_over K A) []) : FnOk P w K mg base CX0 2 f fd ["blank", "copies"] (sp_heights K A) :=
  F.ok sc_heights (fun vs H Q E h => ln_heights h) (fun cdv Ar outer s H vs Q E hr h => ⟨t_heights K A, (pss_cons (ps_set (i := 2) sc_heights.nd rfl (by first | exact Or.inl rfl | exact Or.inr rfl) (pe_lst pa_nil))
  (pss_cons (ps_set (i := 3) sc_heights.nd rfl (by first | exact Or.inl rfl | exact Or.inr rfl) pe_int)
  (pss_cons (ps_for PassesOwn.never rfl (pi_list (pe_revL (pv 0))) (pg_name (i := 4) sc_heights.nd rfl (by first | exact Or.inl rfl | exact Or.inr rfl))
  (pss_cons (ps_set (i := 3) sc_heights.nd rfl (by first | exact Or.inl rfl | exact Or.inr rfl) (C8.pe_c C_height_over hr (by decide) (by rfl) (pa_cons (pv 3) (pa_cons (pv 4) (pa_cons (pv 1) pa_nil)))))
  (pss_one (ps_expr (pe_bm PySem.F.plainAttrs_list PySem.F.slot_list_append PySem.F.type_list_append mt_append (pv 2) (pa_cons (pv 3) pa_nil))))))
  (pss_one (ps_ret (pe_revL (pv 2))))))), rd_heights h⟩)
theorem bi_heights {f : Addr} {fd : FuncData} (F : Fun K "heights" "heights" s_heights f fd) : Binds K fd ["blank", "copies"] [] := F.binds fun _ _ _ _ _ _ us hl => match us, hl with | [_, _], _ => rfl
abbrev s_lowest_too_high : Stmt := topS 9
theorem sc_lowest_too_high : FnScope ["blank", "copies", "too_high", "page", "height"] ["blank", "copies"] (defScope s_lowest_too_high) := ⟨rfl, rfl, rfl, by decide +kernel, rfl, by decide +kernel, by decide +kernel⟩
theorem ln_lowest_too_high {vs : List V} {H : Hp} {Q : VK} {E : XK} (h : sp_lowest_too_high K A vs H Q E) : vs.length = 2 := by
  first | (obtain ⟨_, rfl, _⟩ := h; rfl) | (obtain ⟨_, _, rfl, _⟩ := h; rfl) | (obtain ⟨_, _, _, rfl, _⟩ := h; rfl) | (obtain ⟨_, _, _, _, rfl, _⟩ := h; rfl) | (obtain ⟨_, _, _, _, _, rfl, _⟩ := h; rfl) | (obtain ⟨_, _, _, _, _, _, rfl, _⟩ := h; rfl) | (obtain ⟨_, _, _, _, _, _, _, rfl, _⟩ := h; rfl) | (obtain ⟨_, _, _, _, _, _, _, _, rfl, _⟩ := h; rfl) | (obtain ⟨_, _, _, _, _, _, _, _, _, rfl, _⟩ := h; rfl) | (obtain ⟨_, _, _, _, _, _, _, _, _, _, rfl, _⟩ := h; rfl) | (obtain ⟨_, _, _, _, _, _, _, _, _, _, _, rfl, _⟩ := h; rfl) | (obtain ⟨_, _, _, _, _, _, _, _, _, _, _, _, rfl, _⟩ := h; rfl) | (obtain ⟨_, _, _, _, _, _, _, _, _, _, _, _, _, rfl, _⟩ := h; rfl) | (obtain ⟨_, _, _, _, _, _, _, _, _, _, _, _, _, _, rfl, _⟩ := h; rfl) | (obtain ⟨_, _, _, _, _, _, _, _, _, _, _, _, _, _, _, rfl, _⟩ := h; rfl) | (obtain ⟨_, _, _, _, _, _, _, _, _, _, _, _, _, _, _, _, rfl, _⟩ := h; rfl) | (obtain ⟨_, _, _, _, _, _, _, _, _, _, _, _, _, _, _, _, _, rfl, _⟩ := h; rfl) | (obtain ⟨_, _, _, _, _, _, _, _, _, _, _, _, _, _, _, _, _, _, rfl, _⟩ := h; rfl) | (obtain ⟨_, _, _, _, _, _, _, _, _, _, _, _, _, _, _, _, _, _, _, rfl, _⟩ := h; rfl)
theorem fn_lowest_too_high {f : Addr} {fd : FuncData} (F : Fun K "_lowest_too_high" "_lowest_too_high" s_lowest_too_high f fd) (T : Txt mg A) (C : CT K A) (C_heights : C8.Cal P w K mg base 2 "heights" (sp_heights K A) []) : FnOk P w K mg base CX0 3 f fd ["blank", "copies"] (sp_lowest_too_high K A) :=
  F.ok sc_lowest_too_high (fun vs H Q E h => ln_lowest_too_high h) (fun cdv Ar outer s H vs Q E hr h => ⟨t_lowest_too_high K A, (pss_cons (ps_setLc (i := 2) (own := [("page", 3), ("height", 4)]) (g := (gTup K 2 (gCons (gName 3) (gCons (gName 4) gNil)))) (tt := (tTest (tOp oGt (tVar 4) (tVar 1)))) rfl sc_lowest_too_high.nd rfl rfl (sw_true rfl rfl rfl (by decide +kernel)) (pi_enum (by rfl) T.b_enumerate (pa_cons (C8.pe_c C_heights hr (by decide) (by rfl) (pa_cons (pv 0) (pa_cons (pv 1) pa_nil))) pa_nil)) (blkOk_by (own := [("page", 3), ("height", 4)]) (N := ["blank", "copies", "too_high", "page", "height"]) (sc := defScope s_lowest_too_high) (by decide +kernel)) (fun _ _ _ _ _ => (pg_tup rfl (pgs_cons (pg_name (i := 3) sc_lowest_too_high.nd rfl (by first | exact Or.inl rfl | exact Or.inr rfl)) (pgs_cons (pg_name (i := 4) sc_lowest_too_high.nd rfl (by first | exact Or.inl rfl | exact Or.inr rfl)) pgs_nil)))) (fun _ _ _ _ _ => (pts_one (pt_cmpR op_gt (pv 4) (pv 1) (nomark _)))) (fun _ _ _ _ _ => (pv 3)))
  (pss_one (ps_ret (pe_ifExp (pt_truth (pv 2) (by intro _; rfl)) (pe_ix ix_list (pv 2) (pe_un un_neg pe_int) (fun _ _ => rfl)) pe_non)))), rd_lowest_too_high h⟩)
theorem bi_lowest_too_high {f : Addr} {fd : FuncData} (F : Fun K "_lowest_too_high" "_lowest_too_high" s_lowest_too_high f fd) : Binds K fd ["blank", "copies"] [] := F.binds fun _ _ _ _ _ _ us hl => match us, hl with | [_, _], _ => rfl
abbrev s_after_copies : Stmt := topS 10
theorem sc_after_copies : FnScope ["blank", "lines", "page", "copied", "left", "target"] ["blank", "lines", "page", "copied"] (defScope s_after_copies) := ⟨rfl, rfl, rfl, by decide +kernel, rfl, by decide +kernel, by decide +kernel⟩
theorem ln_after_copies {vs : List V} {H : Hp} {Q : VK} {E : XK} (h : sp_after_copies K A vs H Q E) : vs.length = 4 := by
  first | (obtain ⟨_, rfl, _⟩ := h; rfl) | (obtain ⟨_, _, rfl, _⟩ := h; rfl) | (obtain ⟨_, _, _, rfl, _⟩ := h; rfl) | (obtain ⟨_, _, _, _, rfl, _⟩ := h; rfl) | (obtain ⟨_, _, _, _, _, rfl, _⟩ := h; rfl) | (obtain ⟨_, _, _, _, _, _, rfl, _⟩ := h; rfl) | (obtain ⟨_, _, _, _, _, _, _, rfl, _⟩ := h; rfl) | (obtain ⟨_, _, _, _, _, _, _, _, rfl, _⟩ := h; rfl) | (obtain ⟨_, _, _, _, _, _, _, _, _, rfl, _⟩ := h; rfl) | (obtain ⟨_, _, _, _, _, _, _, _, _, _, rfl, _⟩ := h; rfl) | (obtain ⟨_, _, _, _, _, _, _, _, _, _, _, rfl, _⟩ := h; rfl) | (obtain ⟨_, _, _, _, _, _, _, _, _, _, _, _, rfl, _⟩ := h; rfl) | (obtain ⟨_, _, _, _, _, _, _, _, _, _, _, _, _, rfl, _⟩ := h; rfl) | (obtain ⟨_, _, _, _, _, _, _, _, _, _, _, _, _, _, rfl, _⟩ := h; rfl) | (obtain ⟨_, _, _, _, _, _, _, _, _, _, _, _, _, _, _, rfl, _⟩ := h; rfl) | (obtain ⟨_, _, _, _, _, _, _, _, _, _, _, _, _, _, _, _, rfl, _⟩ := h; rfl) | (obtain ⟨_, _, _, _, _, _, _, _, _, _, _, _, _, _, _, _, _, rfl, _⟩ := h; rfl) | (obtain ⟨_, _, _, _, _, _, _, _, _, _, _, _, _, _, _, _, _, _, rfl, _⟩ := h; rfl) | (obtain ⟨_, _, _, _, _, _, _, _, _, _, _, _, _, _, _, _, _, _, _, rfl, _⟩ := h; rfl)
theorem fn_after_copies {f : Addr} {fd : FuncData} (F : Fun K "_after_copies" "_after_copies" s_after_copies f fd) (T : Txt mg A) (C : CT K A)  : FnOk P w K mg base CX0 1 f fd ["blank", "lines", "page", "copied"] (sp_after_copies K A) :=
  F.ok sc_after_copies (fun vs H Q E h => ln_after_copies h) (fun cdv Ar outer s H vs Q E hr h => ⟨t_after_copies K A, (pss_cons (ps_set (i := 4) sc_after_copies.nd rfl (by first | exact Or.inl rfl | exact Or.inr rfl) (pe_callTy call_list_of (by rfl) T.b_list (by decide +kernel) (pa_cons (pv 0) pa_nil)))
  (pss_cons (ps_if (pt_cmpR op_notIn_seq (pv 2) (pv 3) (by rfl)) (pss_one (ps_augS (pv 4) (pv 2) pget_list pe_int ip_sub set_list)) pss_nil)
  (pss_cons (ps_for PassesOwn.never rfl (pi_list (pv 3)) (pg_name (i := 5) sc_after_copies.nd rfl (by first | exact Or.inl rfl | exact Or.inr rfl))
  (pss_one (ps_if (PW.pt (pw_and (pt_cmpR op_gt (pv 5) pe_int (nomark _)) (pw_and1 (pt_cmpR op_notIn_seq (pe_op op_sub (pv 5) pe_int) (pv 3) (by rfl))))) (pss_one (ps_augS (pv 4) (pe_op op_sub (pv 5) pe_int) pget_list pe_int ip_sub set_list)) pss_nil)))
  (pss_cons (ps_for PassesOwn.never rfl (pi_list (pv 3)) (pg_name (i := 5) sc_after_copies.nd rfl (by first | exact Or.inl rfl | exact Or.inr rfl))
  (pss_one (ps_asg (pv 1) (pg_sub (pv 4) (pv 5) set_list))))
  (pss_one (ps_ret (pv 4))))))), rd_after_copies h⟩)
theorem bi_after_copies {f : Addr} {fd : FuncData} (F : Fun K "_after_copies" "_after_copies" s_after_copies f fd) : Binds K fd ["blank", "lines", "page", "copied"] [] := F.binds fun _ _ _ _ _ _ us hl => match us, hl with | [_, _, _, _], _ => rfl
abbrev s_with_empty_above : Stmt := topS 11
theorem sc_with_empty_above : FnScope ["blank", "page", "first"] ["blank", "page"] (defScope s_with_empty_above) := ⟨rfl, rfl, rfl, by decide +kernel, rfl, by decide +kernel, by decide +kernel⟩
theorem ln_with_empty_above {vs : List V} {H : Hp} {Q : VK} {E : XK} (h : sp_with_empty_above K A vs H Q E) : vs.length = 2 := by
  first | (obtain ⟨_, rfl, _⟩ := h; rfl) | (obtain ⟨_, _, rfl, _⟩ := h; rfl) | (obtain ⟨_, _, _, rfl, _⟩ := h; rfl) | (obtain ⟨_, _, _, _, rfl, _⟩ := h; rfl) | (obtain ⟨_, _, _, _, _, rfl, _⟩ := h; rfl) | (obtain ⟨_, _, _, _, _, _, rfl, _⟩ := h; rfl) | (obtain ⟨_, _, _, _, _, _, _, rfl, _⟩ := h; rfl) | (obtain ⟨_, _, _, _, _, _, _, _, rfl, _⟩ := h; rfl) | (obtain ⟨_, _, _, _, _, _, _, _, _, rfl, _⟩ := h; rfl) | (obtain ⟨_, _, _, _, _, _, _, _, _, _, rfl, _⟩ := h; rfl) | (obtain ⟨_, _, _, _, _, _, _, _, _, _, _, rfl, _⟩ := h; rfl) | (obtain ⟨_, _, _, _, _, _, _, _, _, _, _, _, rfl, _⟩ := h; rfl) | (obtain ⟨_, _, _, _, _, _, _, _, _, _, _, _, _, rfl, _⟩ := h; rfl) | (obtain ⟨_, _, _, _, _, _, _, _, _, _, _, _, _, _, rfl, _⟩ := h; rfl) | (obtain ⟨_, _, _, _, _, _, _, _, _, _, _, _, _, _, _, rfl, _⟩ := h; rfl) | (obtain ⟨_, _, _, _, _, _, _, _, _, _, _, _, _, _, _, _, rfl, _⟩ := h; rfl) | (obtain ⟨_, _, _, _, _, _, _, _, _, _, _, _, _, _, _, _, _, rfl, _⟩ := h; rfl) | (obtain ⟨_, _, _, _, _, _, _, _, _, _, _, _, _, _, _, _, _, _, rfl, _⟩ := h; rfl) | (obtain ⟨_, _, _, _, _, _, _, _, _, _, _, _, _, _, _, _, _, _, _, rfl, _⟩ := h; rfl)
theorem fn_with_empty_above {f : Addr} {fd : FuncData} (F : Fun K "_with_empty_above" "_with_empty_above" s_with_empty_above f fd) (T : Txt mg A) (C : CT K A)  : FnOk P w K mg base CX0 1 f fd ["blank", "page"] (sp_with_empty_above K A) :=
  F.ok sc_with_empty_above (fun vs H Q E h => ln_with_empty_above h) (fun cdv Ar outer s H vs Q E hr h => ⟨t_with_empty_above K A, (pss_cons (ps_set (i := 2) sc_with_empty_above.nd rfl (by first | exact Or.inl rfl | exact Or.inr rfl) (pv 1))
  (pss_cons (ps_while PassesOwn.never (PW.pt (pw_and (pt_cmpR op_gt (pv 2) pe_int (nomark _)) (pw_and1 (pt_cmpR op_eq (pe_ix ix_list (pv 0) (pe_op op_sub (pv 2) pe_int) (fun _ _ => rfl)) pe_int (nomark _))))) (pss_one (ps_aug (i := 2) sc_with_empty_above.nd rfl (by first | exact Or.inl rfl | exact Or.inr rfl) pe_int ip_sub)))
  (pss_one (ps_ret (pe_listRg rfl (by rfl) T.b_list (prg_2 (by rfl) T.b_range (pv 2) (pe_op op_add (pv 1) pe_int))))))), rd_with_empty_above h⟩)
theorem bi_with_empty_above {f : Addr} {fd : FuncData} (F : Fun K "_with_empty_above" "_with_empty_above" s_with_empty_above f fd) : Binds K fd ["blank", "page"] [] := F.binds fun _ _ _ _ _ _ us hl => match us, hl with | [_, _], _ => rfl
abbrev s_first_copied : Stmt := topS 12
theorem sc_first_copied : FnScope ["blank", "copies", "page", "left", "lowest"] ["blank", "copies", "page"] (defScope s_first_copied) := ⟨rfl, rfl, rfl, by decide +kernel, rfl, by decide +kernel, by decide +kernel⟩
theorem ln_first_copied {vs : List V} {H : Hp} {Q : VK} {E : XK} (h : sp_first_copied K A vs H Q E) : vs.length = 3 := by
  first | (obtain ⟨_, rfl, _⟩ := h; rfl) | (obtain ⟨_, _, rfl, _⟩ := h; rfl) | (obtain ⟨_, _, _, rfl, _⟩ := h; rfl) | (obtain ⟨_, _, _, _, rfl, _⟩ := h; rfl) | (obtain ⟨_, _, _, _, _, rfl, _⟩ := h; rfl) | (obtain ⟨_, _, _, _, _, _, rfl, _⟩ := h; rfl) | (obtain ⟨_, _, _, _, _, _, _, rfl, _⟩ := h; rfl) | (obtain ⟨_, _, _, _, _, _, _, _, rfl, _⟩ := h; rfl) | (obtain ⟨_, _, _, _, _, _, _, _, _, rfl, _⟩ := h; rfl) | (obtain ⟨_, _, _, _, _, _, _, _, _, _, rfl, _⟩ := h; rfl) | (obtain ⟨_, _, _, _, _, _, _, _, _, _, _, rfl, _⟩ := h; rfl) | (obtain ⟨_, _, _, _, _, _, _, _, _, _, _, _, rfl, _⟩ := h; rfl) | (obtain ⟨_, _, _, _, _, _, _, _, _, _, _, _, _, rfl, _⟩ := h; rfl) | (obtain ⟨_, _, _, _, _, _, _, _, _, _, _, _, _, _, rfl, _⟩ := h; rfl) | (obtain ⟨_, _, _, _, _, _, _, _, _, _, _, _, _, _, _, rfl, _⟩ := h; rfl) | (obtain ⟨_, _, _, _, _, _, _, _, _, _, _, _, _, _, _, _, rfl, _⟩ := h; rfl) | (obtain ⟨_, _, _, _, _, _, _, _, _, _, _, _, _, _, _, _, _, rfl, _⟩ := h; rfl) | (obtain ⟨_, _, _, _, _, _, _, _, _, _, _, _, _, _, _, _, _, _, rfl, _⟩ := h; rfl) | (obtain ⟨_, _, _, _, _, _, _, _, _, _, _, _, _, _, _, _, _, _, _, rfl, _⟩ := h; rfl)
theorem fn_first_copied {f : Addr} {fd : FuncData} (F : Fun K "_first_copied" "_first_copied" s_first_copied f fd) (T : Txt mg A) (C : CT K A) (C_lowest_too_high : C8.Cal P w K mg base 3 "_lowest_too_high" (sp_lowest_too_high K A) []) (C_with_empty_above : C8.Cal P w K mg base 1 "_with_empty_above" (sp_with_empty_above K A) []) : FnOk P w K mg base CX0 4 f fd ["blank", "copies", "page"] (sp_first_copied K A) :=
  F.ok sc_first_copied (fun vs H Q E h => ln_first_copied h) (fun cdv Ar outer s H vs Q E hr h => ⟨t_first_copied K A, (pss_cons (ps_if (pt_cmpR op_eq (pe_ix ix_list (pv 0) (pv 2) (fun _ _ => rfl)) pe_int (nomark _)) (pss_one (ps_ret (C8.pe_c C_with_empty_above hr (by decide) (by rfl) (pa_cons (pv 0) (pa_cons (pv 2) pa_nil))))) pss_nil)
  (pss_cons (ps_set (i := 3) sc_first_copied.nd rfl (by first | exact Or.inl rfl | exact Or.inr rfl) (pe_callTy call_list_of (by rfl) T.b_list (by decide +kernel) (pa_cons (pv 0) pa_nil)))
  (pss_cons (ps_augS (pv 3) (pv 2) pget_list pe_int ip_sub set_list)
  (pss_cons (ps_set (i := 4) sc_first_copied.nd rfl (by first | exact Or.inl rfl | exact Or.inr rfl) (C8.pe_c C_lowest_too_high hr (by decide) (by rfl) (pa_cons (pv 3) (pa_cons (pv 1) pa_nil))))
  (pss_one (ps_ret (pe_ifExp (pt_cmp (pc_isN (pv 4))) (pe_lst pa_nil) (C8.pe_c C_with_empty_above hr (by decide) (by rfl) (pa_cons (pv 3) (pa_cons (pv 4) pa_nil)))))))))), rd_first_copied h⟩)
theorem bi_first_copied {f : Addr} {fd : FuncData} (F : Fun K "_first_copied" "_first_copied" s_first_copied f fd) : Binds K fd ["blank", "copies", "page"] [] := F.binds fun _ _ _ _ _ _ us hl => match us, hl with | [_, _, _], _ => rfl
abbrev s_chain_answer : Stmt := topS 13
theorem sc_chain_answer : FnScope ["blank", "lines", "copies", "page", "lowest", "copied", "left"] ["blank", "lines", "copies", "page"] (defScope s_chain_answer) := ⟨rfl, rfl, rfl, by decide +kernel, rfl, by decide +kernel, by decide +kernel⟩
theorem ln_chain_answer {vs : List V} {H : Hp} {Q : VK} {E : XK} (h : sp_chain_answer K A vs H Q E) : vs.length = 4 := by
  first | (obtain ⟨_, rfl, _⟩ := h; rfl) | (obtain ⟨_, _, rfl, _⟩ := h; rfl) | (obtain ⟨_, _, _, rfl, _⟩ := h; rfl) | (obtain ⟨_, _, _, _, rfl, _⟩ := h; rfl) | (obtain ⟨_, _, _, _, _, rfl, _⟩ := h; rfl) | (obtain ⟨_, _, _, _, _, _, rfl, _⟩ := h; rfl) | (obtain ⟨_, _, _, _, _, _, _, rfl, _⟩ := h; rfl) | (obtain ⟨_, _, _, _, _, _, _, _, rfl, _⟩ := h; rfl) | (obtain ⟨_, _, _, _, _, _, _, _, _, rfl, _⟩ := h; rfl) | (obtain ⟨_, _, _, _, _, _, _, _, _, _, rfl, _⟩ := h; rfl) | (obtain ⟨_, _, _, _, _, _, _, _, _, _, _, rfl, _⟩ := h; rfl) | (obtain ⟨_, _, _, _, _, _, _, _, _, _, _, _, rfl, _⟩ := h; rfl) | (obtain ⟨_, _, _, _, _, _, _, _, _, _, _, _, _, rfl, _⟩ := h; rfl) | (obtain ⟨_, _, _, _, _, _, _, _, _, _, _, _, _, _, rfl, _⟩ := h; rfl) | (obtain ⟨_, _, _, _, _, _, _, _, _, _, _, _, _, _, _, rfl, _⟩ := h; rfl) | (obtain ⟨_, _, _, _, _, _, _, _, _, _, _, _, _, _, _, _, rfl, _⟩ := h; rfl) | (obtain ⟨_, _, _, _, _, _, _, _, _, _, _, _, _, _, _, _, _, rfl, _⟩ := h; rfl) | (obtain ⟨_, _, _, _, _, _, _, _, _, _, _, _, _, _, _, _, _, _, rfl, _⟩ := h; rfl) | (obtain ⟨_, _, _, _, _, _, _, _, _, _, _, _, _, _, _, _, _, _, _, rfl, _⟩ := h; rfl)
theorem fn_chain_answer {f : Addr} {fd : FuncData} (F : Fun K "chain_answer" "chain_answer" s_chain_answer f fd) (T : Txt mg A) (C : CT K A) (C_NoPage : GX.ErrX P w K mg base 1 "NoPage" A.NoPage (GX.sp_err K A.NoPage "page")) (C_NotKeepable : GX.ErrX P w K mg base 1 "NotKeepable" A.NotKeepable (GX.sp_err K A.NotKeepable "page")) (C_after_copies : C8.Cal P w K mg base 1 "_after_copies" (sp_after_copies K A) []) (C_first_copied : C8.Cal P w K mg base 4 "_first_copied" (sp_first_copied K A) []) (C_lowest_too_high : C8.Cal P w K mg base 3 "_lowest_too_high" (sp_lowest_too_high K A) []) : FnOk P w K mg base (L2.CX P w) 5 f fd ["blank", "lines", "copies", "page"] (sp_chain_answer K A) :=
  F.okX sc_chain_answer (fun vs H Q E h => ln_chain_answer h) (fun cdv Ar outer s H vs Q E hr h => ⟨t_chain_answer K A E, (pss_cons (ps_if (pt_not (pt_chain op_le op_lt pe_int (pv 3) (pe_callB call_len_seq (by rfl) T.b_len (by decide +kernel) (pa_cons (pv 0) pa_nil)))) (pss_one (GX.ps_raiseO C_NoPage hr (by decide) rfl (by rfl) (takes_of rfl rfl rfl rfl) (pa_cons (pv 3) pa_nil))) pss_nil)
  (pss_cons (ps_set (i := 4) sc_chain_answer.nd rfl (by first | exact Or.inl rfl | exact Or.inr rfl) (C8.pe_c C_lowest_too_high hr (by decide) (by rfl) (pa_cons (pv 0) (pa_cons (pv 2) pa_nil))))
  (pss_cons (ps_if (pt_cmp (pc_notN (pv 4))) (pss_one (GX.ps_raiseO C_NotKeepable hr (by decide) rfl (by rfl) (takes_of rfl rfl rfl rfl) (pa_cons (pv 4) pa_nil))) pss_nil)
  (pss_cons (ps_set (i := 5) sc_chain_answer.nd rfl (by first | exact Or.inl rfl | exact Or.inr rfl) (C8.pe_c C_first_copied hr (by decide) (by rfl) (pa_cons (pv 0) (pa_cons (pv 2) (pa_cons (pv 3) pa_nil)))))
  (pss_cons (ps_set (i := 6) sc_chain_answer.nd rfl (by first | exact Or.inl rfl | exact Or.inr rfl) (C8.pe_c C_after_copies hr (by decide) (by rfl) (pa_cons (pv 0) (pa_cons (pv 1) (pa_cons (pv 3) (pa_cons (pv 5) pa_nil))))))
  (pss_cons (ps_set (i := 4) sc_chain_answer.nd rfl (by first | exact Or.inl rfl | exact Or.inr rfl) (C8.pe_c C_lowest_too_high hr (by decide) (by rfl) (pa_cons (pv 6) (pa_cons (pv 2) pa_nil))))
  (pss_cons (ps_if (pt_cmp (pc_notN (pv 4))) (pss_cons (ps_set (i := 5) sc_chain_answer.nd rfl (by first | exact Or.inl rfl | exact Or.inr rfl) (pe_callB cr_sortedI (by rfl) T.b_sorted (by decide +kernel) (pa_cons (pe_lst (_root_.StX.pa_star (pv 5) (pa_cons (pv 4) pa_nil))) pa_nil)))
  (pss_one (ps_set (i := 6) sc_chain_answer.nd rfl (by first | exact Or.inl rfl | exact Or.inr rfl) (C8.pe_c C_after_copies hr (by decide) (by rfl) (pa_cons (pv 0) (pa_cons (pv 1) (pa_cons (pv 3) (pa_cons (pv 5) pa_nil)))))))) pss_nil)
  (pss_one (ps_ret (pe_tup (pa_cons (pe_callTy call_tuple_of (by rfl) T.b_tuple (by decide +kernel) (pa_cons (pv 5) pa_nil)) (pa_cons (pv 6) pa_nil)))))))))))), rd_chain_answer C h⟩)
theorem bi_chain_answer {f : Addr} {fd : FuncData} (F : Fun K "chain_answer" "chain_answer" s_chain_answer f fd) : Binds K fd ["blank", "lines", "copies", "page"] [] := F.binds fun _ _ _ _ _ _ us hl => match us, hl with | [_, _, _, _], _ => rfl
abbrev s_law_is_integer : Stmt := topS 15
theorem sc_law_is_integer : FnScope ["actual"] ["actual"] (defScope s_law_is_integer) := ⟨rfl, rfl, rfl, by decide +kernel, rfl, by decide +kernel, by decide +kernel⟩
theorem ln_law_is_integer {vs : List V} {H : Hp} {Q : VK} {E : XK} (h : sp_law_is_integer K A vs H Q E) : vs.length = 1 := by
  first | (obtain ⟨_, rfl, _⟩ := h; rfl) | (obtain ⟨_, _, rfl, _⟩ := h; rfl) | (obtain ⟨_, _, _, rfl, _⟩ := h; rfl) | (obtain ⟨_, _, _, _, rfl, _⟩ := h; rfl) | (obtain ⟨_, _, _, _, _, rfl, _⟩ := h; rfl) | (obtain ⟨_, _, _, _, _, _, rfl, _⟩ := h; rfl) | (obtain ⟨_, _, _, _, _, _, _, rfl, _⟩ := h; rfl) | (obtain ⟨_, _, _, _, _, _, _, _, rfl, _⟩ := h; rfl) | (obtain ⟨_, _, _, _, _, _, _, _, _, rfl, _⟩ := h; rfl) | (obtain ⟨_, _, _, _, _, _, _, _, _, _, rfl, _⟩ := h; rfl) | (obtain ⟨_, _, _, _, _, _, _, _, _, _, _, rfl, _⟩ := h; rfl) | (obtain ⟨_, _, _, _, _, _, _, _, _, _, _, _, rfl, _⟩ := h; rfl) | (obtain ⟨_, _, _, _, _, _, _, _, _, _, _, _, _, rfl, _⟩ := h; rfl) | (obtain ⟨_, _, _, _, _, _, _, _, _, _, _, _, _, _, rfl, _⟩ := h; rfl) | (obtain ⟨_, _, _, _, _, _, _, _, _, _, _, _, _, _, _, rfl, _⟩ := h; rfl) | (obtain ⟨_, _, _, _, _, _, _, _, _, _, _, _, _, _, _, _, rfl, _⟩ := h; rfl) | (obtain ⟨_, _, _, _, _, _, _, _, _, _, _, _, _, _, _, _, _, rfl, _⟩ := h; rfl) | (obtain ⟨_, _, _, _, _, _, _, _, _, _, _, _, _, _, _, _, _, _, rfl, _⟩ := h; rfl) | (obtain ⟨_, _, _, _, _, _, _, _, _, _, _, _, _, _, _, _, _, _, _, rfl, _⟩ := h; rfl)
theorem fn_law_is_integer {f : Addr} {fd : FuncData} (F : Fun K "_law_is_integer" "_law_is_integer" s_law_is_integer f fd) (T : Txt mg A) (C : CT K A)  : FnOk P w K mg base CX0 1 f fd ["actual"] (sp_law_is_integer K A) :=
  F.ok sc_law_is_integer (fun vs H Q E h => ln_law_is_integer h) (fun cdv Ar outer s H vs Q E hr h => ⟨t_law_is_integer K A, (pss_one (ps_ret (pe_and (pe_callB call_isi (by rfl) T.b_isinstance (by decide +kernel) (pa_cons (pv 0) (pa_cons (pe_bltn (v := .ty "int") (by rfl) T.b_int (by decide +kernel) rfl) pa_nil))) (pe_one (pe_not (pe_callB call_isi (by rfl) T.b_isinstance (by decide +kernel) (pa_cons (pv 0) (pa_cons (pe_bltn (v := .ty "bool") (by rfl) T.b_bool (by decide +kernel) rfl) pa_nil)))))))), rd_law_is_integer h⟩)
theorem bi_law_is_integer {f : Addr} {fd : FuncData} (F : Fun K "_law_is_integer" "_law_is_integer" s_law_is_integer f fd) : Binds K fd ["actual"] [] := F.binds fun _ _ _ _ _ _ us hl => match us, hl with | [_], _ => rfl
theorem fnh_law_is_integer {f : Addr} {fd : FuncData} (F : Fun K "_law_is_integer" "_law_is_integer" s_law_is_integer f fd) (T : Txt mg A) : GX.FnG P w K mg base 1 f fd ["actual"] (fun _ _ _ => sp_law_is_integer K A) :=
  F.okG sc_law_is_integer (fun a c d vs H Q h => ln_law_is_integer h) (fun cdv Ar outer s H vs Q p hp h => ⟨t_law_is_integer K A, (pss_one (ps_ret (pe_and (pe_callB call_isi (by rfl) T.b_isinstance (by decide +kernel) (pa_cons (pv 0) (pa_cons (pe_bltn (v := .ty "int") (by rfl) T.b_int (by decide +kernel) rfl) pa_nil))) (pe_one (pe_not (pe_callB call_isi (by rfl) T.b_isinstance (by decide +kernel) (pa_cons (pv 0) (pa_cons (pe_bltn (v := .ty "bool") (by rfl) T.b_bool (by decide +kernel) rfl) pa_nil)))))))), rd_law_is_integer h⟩)
abbrev s_law_is_row : Stmt := topS 16
theorem sc_law_is_row : FnScope ["actual", "one"] ["actual"] (defScope s_law_is_row) := ⟨rfl, rfl, rfl, by decide +kernel, rfl, by decide +kernel, by decide +kernel⟩
theorem ln_law_is_row {vs : List V} {H : Hp} {Q : VK} {E : XK} (h : sp_law_is_row K A vs H Q E) : vs.length = 1 := by
  first | (obtain ⟨_, rfl, _⟩ := h; rfl) | (obtain ⟨_, _, rfl, _⟩ := h; rfl) | (obtain ⟨_, _, _, rfl, _⟩ := h; rfl) | (obtain ⟨_, _, _, _, rfl, _⟩ := h; rfl) | (obtain ⟨_, _, _, _, _, rfl, _⟩ := h; rfl) | (obtain ⟨_, _, _, _, _, _, rfl, _⟩ := h; rfl) | (obtain ⟨_, _, _, _, _, _, _, rfl, _⟩ := h; rfl) | (obtain ⟨_, _, _, _, _, _, _, _, rfl, _⟩ := h; rfl) | (obtain ⟨_, _, _, _, _, _, _, _, _, rfl, _⟩ := h; rfl) | (obtain ⟨_, _, _, _, _, _, _, _, _, _, rfl, _⟩ := h; rfl) | (obtain ⟨_, _, _, _, _, _, _, _, _, _, _, rfl, _⟩ := h; rfl) | (obtain ⟨_, _, _, _, _, _, _, _, _, _, _, _, rfl, _⟩ := h; rfl) | (obtain ⟨_, _, _, _, _, _, _, _, _, _, _, _, _, rfl, _⟩ := h; rfl) | (obtain ⟨_, _, _, _, _, _, _, _, _, _, _, _, _, _, rfl, _⟩ := h; rfl) | (obtain ⟨_, _, _, _, _, _, _, _, _, _, _, _, _, _, _, rfl, _⟩ := h; rfl) | (obtain ⟨_, _, _, _, _, _, _, _, _, _, _, _, _, _, _, _, rfl, _⟩ := h; rfl) | (obtain ⟨_, _, _, _, _, _, _, _, _, _, _, _, _, _, _, _, _, rfl, _⟩ := h; rfl) | (obtain ⟨_, _, _, _, _, _, _, _, _, _, _, _, _, _, _, _, _, _, rfl, _⟩ := h; rfl) | (obtain ⟨_, _, _, _, _, _, _, _, _, _, _, _, _, _, _, _, _, _, _, rfl, _⟩ := h; rfl)
theorem fn_law_is_row {f : Addr} {fd : FuncData} (F : Fun K "_law_is_row" "_law_is_row" s_law_is_row f fd) (T : Txt mg A) (C : CT K A) (C_law_is_integer : C8.Cal P w K mg base 1 "_law_is_integer" (sp_law_is_integer K A) []) : FnOk P w K mg base CX0 2 f fd ["actual"] (sp_law_is_row K A) :=
  F.ok sc_law_is_row (fun vs H Q E h => ln_law_is_row h) (fun cdv Ar outer s H vs Q E hr h => ⟨t_law_is_row K A, (pss_one (ps_ret (pe_callB (cr_all rfl) (by rfl) T.b_all (by decide +kernel) (pa_cons (pe_lc (own := [("one", 1)]) (g := (gName 1)) (tt := tYes) rfl sc_law_is_row.nd (GY.pi_seq (pv 0)) (blkOk_by (own := [("one", 1)]) (N := ["actual", "one"]) (sc := defScope s_law_is_row) (by decide +kernel)) (fun _ _ _ _ _ => (pg_name (i := 1) sc_law_is_row.nd rfl (by first | exact Or.inl rfl | exact Or.inr rfl))) (fun _ _ _ _ _ => pts_nil) (fun _ _ _ _ _ => (C8.pe_c C_law_is_integer hr (by decide) (by rfl) (pa_cons (pv 1) pa_nil)))) pa_nil)))), rd_law_is_row h⟩)
theorem bi_law_is_row {f : Addr} {fd : FuncData} (F : Fun K "_law_is_row" "_law_is_row" s_law_is_row f fd) : Binds K fd ["actual"] [] := F.binds fun _ _ _ _ _ _ us hl => match us, hl with | [_], _ => rfl
abbrev s_law_bag : Stmt := topS 17
theorem sc_law_bag : FnScope ["script", "k", "cell"] ["script", "k"] (defScope s_law_bag) := ⟨rfl, rfl, rfl, by decide +kernel, rfl, by decide +kernel, by decide +kernel⟩
theorem ln_law_bag {vs : List V} {H : Hp} {Q : VK} {E : XK} (h : sp_law_bag K A vs H Q E) : vs.length = 2 := by
  first | (obtain ⟨_, rfl, _⟩ := h; rfl) | (obtain ⟨_, _, rfl, _⟩ := h; rfl) | (obtain ⟨_, _, _, rfl, _⟩ := h; rfl) | (obtain ⟨_, _, _, _, rfl, _⟩ := h; rfl) | (obtain ⟨_, _, _, _, _, rfl, _⟩ := h; rfl) | (obtain ⟨_, _, _, _, _, _, rfl, _⟩ := h; rfl) | (obtain ⟨_, _, _, _, _, _, _, rfl, _⟩ := h; rfl) | (obtain ⟨_, _, _, _, _, _, _, _, rfl, _⟩ := h; rfl) | (obtain ⟨_, _, _, _, _, _, _, _, _, rfl, _⟩ := h; rfl) | (obtain ⟨_, _, _, _, _, _, _, _, _, _, rfl, _⟩ := h; rfl) | (obtain ⟨_, _, _, _, _, _, _, _, _, _, _, rfl, _⟩ := h; rfl) | (obtain ⟨_, _, _, _, _, _, _, _, _, _, _, _, rfl, _⟩ := h; rfl) | (obtain ⟨_, _, _, _, _, _, _, _, _, _, _, _, _, rfl, _⟩ := h; rfl) | (obtain ⟨_, _, _, _, _, _, _, _, _, _, _, _, _, _, rfl, _⟩ := h; rfl) | (obtain ⟨_, _, _, _, _, _, _, _, _, _, _, _, _, _, _, rfl, _⟩ := h; rfl) | (obtain ⟨_, _, _, _, _, _, _, _, _, _, _, _, _, _, _, _, rfl, _⟩ := h; rfl) | (obtain ⟨_, _, _, _, _, _, _, _, _, _, _, _, _, _, _, _, _, rfl, _⟩ := h; rfl) | (obtain ⟨_, _, _, _, _, _, _, _, _, _, _, _, _, _, _, _, _, _, rfl, _⟩ := h; rfl) | (obtain ⟨_, _, _, _, _, _, _, _, _, _, _, _, _, _, _, _, _, _, _, rfl, _⟩ := h; rfl)
theorem fn_law_bag {f : Addr} {fd : FuncData} (F : Fun K "_law_bag" "_law_bag" s_law_bag f fd) (T : Txt mg A) (C : CT K A)  : FnOk P w K mg base CX0 1 f fd ["script", "k"] (sp_law_bag K A) :=
  F.ok sc_law_bag (fun vs H Q E h => ln_law_bag h) (fun cdv Ar outer s H vs Q E hr h => ⟨t_law_bag K A, (pss_cons (ps_set (i := 2) sc_law_bag.nd rfl (by first | exact Or.inl rfl | exact Or.inr rfl) (pe_op op_add pe_int (pe_op op_mul pe_int (pv 1))))
  (pss_cons (ps_if (pt_cmpR op_lt (pv 1) (pe_callB call_len_seq (by rfl) T.b_len (by decide +kernel) (pa_cons (pv 0) pa_nil)) (nomark _)) (pss_one (ps_set (i := 2) sc_law_bag.nd rfl (by first | exact Or.inl rfl | exact Or.inr rfl) (pe_ix ix_list (pv 0) (pv 1) (fun _ _ => rfl)))) (pss_one (ps_if (pt_truth (pv 0) (by intro _; rfl)) (pss_one (ps_set (i := 2) sc_law_bag.nd rfl (by first | exact Or.inl rfl | exact Or.inr rfl) (pe_op op_add (pv 2) (pe_op op_mod (pe_callTy call_int1 (by rfl) T.b_int (by decide +kernel) (pa_cons (pe_op op_mul (pe_ix ix_list (pv 0) pe_int (fun _ _ => rfl)) pe_int) pa_nil)) pe_int)))) pss_nil)))
  (pss_cons (ps_if (pt_cmpR op_ge (pe_callB call_abs (by rfl) T.b_abs (by decide +kernel) (pa_cons (pv 2) pa_nil)) (pe_op op_pow pe_int pe_int) (nomark _)) (pss_one (ps_ret (pe_lst (pa_cons (pe_callB call_abs (by rfl) T.b_abs (by decide +kernel) (pa_cons (pv 2) pa_nil)) (pa_cons (pv 2) (pa_cons pe_int (pa_cons (pv 1) pa_nil))))))) pss_nil)
  (pss_one (ps_ret (pe_lst (pa_cons pe_int (pa_cons (pv 2) (pa_cons pe_int (pa_cons (pv 1) pa_nil)))))))))), rd_law_bag h⟩)
theorem bi_law_bag {f : Addr} {fd : FuncData} (F : Fun K "_law_bag" "_law_bag" s_law_bag f fd) : Binds K fd ["script", "k"] [] := F.binds fun _ _ _ _ _ _ us hl => match us, hl with | [_, _], _ => rfl
abbrev s_law_take : Stmt := topS 18
theorem sc_law_take : FnScope ["bag", "size", "digit", "first", "second", "third"] ["bag", "size"] (defScope s_law_take) := ⟨rfl, rfl, rfl, by decide +kernel, rfl, by decide +kernel, by decide +kernel⟩
theorem ln_law_take {vs : List V} {H : Hp} {Q : VK} {E : XK} (h : sp_law_take K A vs H Q E) : vs.length = 2 := by
  first | (obtain ⟨_, rfl, _⟩ := h; rfl) | (obtain ⟨_, _, rfl, _⟩ := h; rfl) | (obtain ⟨_, _, _, rfl, _⟩ := h; rfl) | (obtain ⟨_, _, _, _, rfl, _⟩ := h; rfl) | (obtain ⟨_, _, _, _, _, rfl, _⟩ := h; rfl) | (obtain ⟨_, _, _, _, _, _, rfl, _⟩ := h; rfl) | (obtain ⟨_, _, _, _, _, _, _, rfl, _⟩ := h; rfl) | (obtain ⟨_, _, _, _, _, _, _, _, rfl, _⟩ := h; rfl) | (obtain ⟨_, _, _, _, _, _, _, _, _, rfl, _⟩ := h; rfl) | (obtain ⟨_, _, _, _, _, _, _, _, _, _, rfl, _⟩ := h; rfl) | (obtain ⟨_, _, _, _, _, _, _, _, _, _, _, rfl, _⟩ := h; rfl) | (obtain ⟨_, _, _, _, _, _, _, _, _, _, _, _, rfl, _⟩ := h; rfl) | (obtain ⟨_, _, _, _, _, _, _, _, _, _, _, _, _, rfl, _⟩ := h; rfl) | (obtain ⟨_, _, _, _, _, _, _, _, _, _, _, _, _, _, rfl, _⟩ := h; rfl) | (obtain ⟨_, _, _, _, _, _, _, _, _, _, _, _, _, _, _, rfl, _⟩ := h; rfl) | (obtain ⟨_, _, _, _, _, _, _, _, _, _, _, _, _, _, _, _, rfl, _⟩ := h; rfl) | (obtain ⟨_, _, _, _, _, _, _, _, _, _, _, _, _, _, _, _, _, rfl, _⟩ := h; rfl) | (obtain ⟨_, _, _, _, _, _, _, _, _, _, _, _, _, _, _, _, _, _, rfl, _⟩ := h; rfl) | (obtain ⟨_, _, _, _, _, _, _, _, _, _, _, _, _, _, _, _, _, _, _, rfl, _⟩ := h; rfl)
theorem fn_law_take {f : Addr} {fd : FuncData} (F : Fun K "_law_take" "_law_take" s_law_take f fd) (T : Txt mg A) (C : CT K A)  : FnOk P w K mg base CX0 1 f fd ["bag", "size"] (sp_law_take K A) :=
  F.ok sc_law_take (fun vs H Q E h => ln_law_take h) (fun cdv Ar outer s H vs Q E hr h => ⟨t_law_take K A, (pss_cons (ps_asg (pe_op op_add (pe_ix ix_list (pv 0) pe_int (fun _ _ => rfl)) pe_int) (pg_sub (pv 0) pe_int set_list))
  (pss_cons (ps_if (pt_cmpR op_gt (pe_ix ix_list (pv 0) pe_int (fun _ _ => rfl)) pe_int (nomark _)) (pss_cons (ps_set (i := 2) sc_law_take.nd rfl (by first | exact Or.inl rfl | exact Or.inr rfl) (pe_op op_mod (pe_callTy call_int1 (by rfl) T.b_int (by decide +kernel) (pa_cons (pe_ix ix_list (pv 0) pe_int (fun _ _ => rfl)) pa_nil)) (pv 1)))
  (pss_cons (ps_asg (pe_op op_fdiv (pe_ix ix_list (pv 0) pe_int (fun _ _ => rfl)) (pv 1)) (pg_sub (pv 0) pe_int set_list))
  (pss_one (ps_ret (pv 2))))) pss_nil)
  (pss_cons (ps_set (i := 3) sc_law_take.nd rfl (by first | exact Or.inl rfl | exact Or.inr rfl) (pe_op op_mod (pe_callTy call_int1 (by rfl) T.b_int (by decide +kernel) (pa_cons (pe_op op_add (pe_op op_add (pe_op op_add (pe_op op_mul (pe_ix ix_list (pv 0) pe_int (fun _ _ => rfl)) pe_int) (pe_op op_mul (pe_ix ix_list (pv 0) pe_int (fun _ _ => rfl)) pe_int)) (pe_op op_mul (pe_ix ix_list (pv 0) pe_int (fun _ _ => rfl)) pe_int)) pe_int) pa_nil)) pe_int))
  (pss_cons (ps_set (i := 4) sc_law_take.nd rfl (by first | exact Or.inl rfl | exact Or.inr rfl) (pe_op op_mod (pe_callTy call_int1 (by rfl) T.b_int (by decide +kernel) (pa_cons (pe_op op_add (pe_op op_add (pe_op op_mul (pv 3) (pv 3)) (pe_op op_mul (pe_ix ix_list (pv 0) pe_int (fun _ _ => rfl)) pe_int)) (pe_ix ix_list (pv 0) pe_int (fun _ _ => rfl))) pa_nil)) pe_int))
  (pss_cons (ps_set (i := 5) sc_law_take.nd rfl (by first | exact Or.inl rfl | exact Or.inr rfl) (pe_op op_mod (pe_callTy call_int1 (by rfl) T.b_int (by decide +kernel) (pa_cons (pe_op op_add (pe_op op_mul (pv 4) (pv 4)) (pv 3)) pa_nil)) pe_int))
  (pss_one (ps_ret (pe_op op_mod (pe_op op_fdiv (pv 5) pe_int) (pv 1))))))))), rd_law_take h⟩)
theorem bi_law_take {f : Addr} {fd : FuncData} (F : Fun K "_law_take" "_law_take" s_law_take f fd) : Binds K fd ["bag", "size"] [] := F.binds fun _ _ _ _ _ _ us hl => match us, hl with | [_, _], _ => rfl
abbrev s_law_copies : Stmt := topS 19
theorem sc_law_copies : FnScope ["bag"] ["bag"] (defScope s_law_copies) := ⟨rfl, rfl, rfl, by decide +kernel, rfl, by decide +kernel, by decide +kernel⟩
theorem ln_law_copies {vs : List V} {H : Hp} {Q : VK} {E : XK} (h : sp_law_copies K A vs H Q E) : vs.length = 1 := by
  first | (obtain ⟨_, rfl, _⟩ := h; rfl) | (obtain ⟨_, _, rfl, _⟩ := h; rfl) | (obtain ⟨_, _, _, rfl, _⟩ := h; rfl) | (obtain ⟨_, _, _, _, rfl, _⟩ := h; rfl) | (obtain ⟨_, _, _, _, _, rfl, _⟩ := h; rfl) | (obtain ⟨_, _, _, _, _, _, rfl, _⟩ := h; rfl) | (obtain ⟨_, _, _, _, _, _, _, rfl, _⟩ := h; rfl) | (obtain ⟨_, _, _, _, _, _, _, _, rfl, _⟩ := h; rfl) | (obtain ⟨_, _, _, _, _, _, _, _, _, rfl, _⟩ := h; rfl) | (obtain ⟨_, _, _, _, _, _, _, _, _, _, rfl, _⟩ := h; rfl) | (obtain ⟨_, _, _, _, _, _, _, _, _, _, _, rfl, _⟩ := h; rfl) | (obtain ⟨_, _, _, _, _, _, _, _, _, _, _, _, rfl, _⟩ := h; rfl) | (obtain ⟨_, _, _, _, _, _, _, _, _, _, _, _, _, rfl, _⟩ := h; rfl) | (obtain ⟨_, _, _, _, _, _, _, _, _, _, _, _, _, _, rfl, _⟩ := h; rfl) | (obtain ⟨_, _, _, _, _, _, _, _, _, _, _, _, _, _, _, rfl, _⟩ := h; rfl) | (obtain ⟨_, _, _, _, _, _, _, _, _, _, _, _, _, _, _, _, rfl, _⟩ := h; rfl) | (obtain ⟨_, _, _, _, _, _, _, _, _, _, _, _, _, _, _, _, _, rfl, _⟩ := h; rfl) | (obtain ⟨_, _, _, _, _, _, _, _, _, _, _, _, _, _, _, _, _, _, rfl, _⟩ := h; rfl) | (obtain ⟨_, _, _, _, _, _, _, _, _, _, _, _, _, _, _, _, _, _, _, rfl, _⟩ := h; rfl)
theorem fn_law_copies {f : Addr} {fd : FuncData} (F : Fun K "_law_copies" "_law_copies" s_law_copies f fd) (T : Txt mg A) (C : CT K A) (C_law_take : C8.Cal P w K mg base 1 "_law_take" (sp_law_take K A) []) : FnOk P w K mg base CX0 2 f fd ["bag"] (sp_law_copies K A) :=
  F.ok sc_law_copies (fun vs H Q E h => ln_law_copies h) (fun cdv Ar outer s H vs Q E hr h => ⟨t_law_copies K A, (pss_cons (ps_if (pt_cmpR op_eq (C8.pe_c C_law_take hr (by decide) (by rfl) (pa_cons (pv 0) (pa_cons pe_int pa_nil))) pe_int (nomark _)) (pss_one (ps_ret (pe_op op_add pe_int (C8.pe_c C_law_take hr (by decide) (by rfl) (pa_cons (pv 0) (pa_cons pe_int pa_nil)))))) pss_nil)
  (pss_one (ps_ret (pe_op op_add pe_int (C8.pe_c C_law_take hr (by decide) (by rfl) (pa_cons (pv 0) (pa_cons pe_int pa_nil))))))), rd_law_copies h⟩)
theorem bi_law_copies {f : Addr} {fd : FuncData} (F : Fun K "_law_copies" "_law_copies" s_law_copies f fd) : Binds K fd ["bag"] [] := F.binds fun _ _ _ _ _ _ us hl => match us, hl with | [_], _ => rfl
abbrev s_law_page : Stmt := topS 20
theorem sc_law_page : FnScope ["bag", "lines", "way"] ["bag", "lines"] (defScope s_law_page) := ⟨rfl, rfl, rfl, by decide +kernel, rfl, by decide +kernel, by decide +kernel⟩
theorem ln_law_page {vs : List V} {H : Hp} {Q : VK} {E : XK} (h : sp_law_page K A vs H Q E) : vs.length = 2 := by
  first | (obtain ⟨_, rfl, _⟩ := h; rfl) | (obtain ⟨_, _, rfl, _⟩ := h; rfl) | (obtain ⟨_, _, _, rfl, _⟩ := h; rfl) | (obtain ⟨_, _, _, _, rfl, _⟩ := h; rfl) | (obtain ⟨_, _, _, _, _, rfl, _⟩ := h; rfl) | (obtain ⟨_, _, _, _, _, _, rfl, _⟩ := h; rfl) | (obtain ⟨_, _, _, _, _, _, _, rfl, _⟩ := h; rfl) | (obtain ⟨_, _, _, _, _, _, _, _, rfl, _⟩ := h; rfl) | (obtain ⟨_, _, _, _, _, _, _, _, _, rfl, _⟩ := h; rfl) | (obtain ⟨_, _, _, _, _, _, _, _, _, _, rfl, _⟩ := h; rfl) | (obtain ⟨_, _, _, _, _, _, _, _, _, _, _, rfl, _⟩ := h; rfl) | (obtain ⟨_, _, _, _, _, _, _, _, _, _, _, _, rfl, _⟩ := h; rfl) | (obtain ⟨_, _, _, _, _, _, _, _, _, _, _, _, _, rfl, _⟩ := h; rfl) | (obtain ⟨_, _, _, _, _, _, _, _, _, _, _, _, _, _, rfl, _⟩ := h; rfl) | (obtain ⟨_, _, _, _, _, _, _, _, _, _, _, _, _, _, _, rfl, _⟩ := h; rfl) | (obtain ⟨_, _, _, _, _, _, _, _, _, _, _, _, _, _, _, _, rfl, _⟩ := h; rfl) | (obtain ⟨_, _, _, _, _, _, _, _, _, _, _, _, _, _, _, _, _, rfl, _⟩ := h; rfl) | (obtain ⟨_, _, _, _, _, _, _, _, _, _, _, _, _, _, _, _, _, _, rfl, _⟩ := h; rfl) | (obtain ⟨_, _, _, _, _, _, _, _, _, _, _, _, _, _, _, _, _, _, _, rfl, _⟩ := h; rfl)
theorem fn_law_page {f : Addr} {fd : FuncData} (F : Fun K "_law_page" "_law_page" s_law_page f fd) (T : Txt mg A) (C : CT K A) (C_law_take : C8.Cal P w K mg base 1 "_law_take" (sp_law_take K A) []) : FnOk P w K mg base CX0 2 f fd ["bag", "lines"] (sp_law_page K A) :=
  F.ok sc_law_page (fun vs H Q E h => ln_law_page h) (fun cdv Ar outer s H vs Q E hr h => ⟨t_law_page K A, (pss_cons (ps_set (i := 2) sc_law_page.nd rfl (by first | exact Or.inl rfl | exact Or.inr rfl) (C8.pe_c C_law_take hr (by decide) (by rfl) (pa_cons (pv 0) (pa_cons pe_int pa_nil))))
  (pss_cons (ps_if (pt_cmpR op_lt (pv 2) pe_int (nomark _)) (pss_one (ps_ret pe_int)) pss_nil)
  (pss_cons (ps_if (pt_cmpR op_lt (pv 2) pe_int (nomark _)) (pss_one (ps_ret pe_int)) pss_nil)
  (pss_one (ps_ret (C8.pe_c C_law_take hr (by decide) (by rfl) (pa_cons (pv 0) (pa_cons (pe_op op_add (pv 1) pe_int) pa_nil)))))))), rd_law_page h⟩)
theorem bi_law_page {f : Addr} {fd : FuncData} (F : Fun K "_law_page" "_law_page" s_law_page f fd) : Binds K fd ["bag", "lines"] [] := F.binds fun _ _ _ _ _ _ us hl => match us, hl with | [_, _], _ => rfl
abbrev s_law_height : Stmt := topS 21
theorem sc_law_height : FnScope ["count", "below", "copies"] ["count", "below", "copies"] (defScope s_law_height) := ⟨rfl, rfl, rfl, by decide +kernel, rfl, by decide +kernel, by decide +kernel⟩
theorem ln_law_height {vs : List V} {H : Hp} {Q : VK} {E : XK} (h : sp_law_height K A vs H Q E) : vs.length = 3 := by
  first | (obtain ⟨_, rfl, _⟩ := h; rfl) | (obtain ⟨_, _, rfl, _⟩ := h; rfl) | (obtain ⟨_, _, _, rfl, _⟩ := h; rfl) | (obtain ⟨_, _, _, _, rfl, _⟩ := h; rfl) | (obtain ⟨_, _, _, _, _, rfl, _⟩ := h; rfl) | (obtain ⟨_, _, _, _, _, _, rfl, _⟩ := h; rfl) | (obtain ⟨_, _, _, _, _, _, _, rfl, _⟩ := h; rfl) | (obtain ⟨_, _, _, _, _, _, _, _, rfl, _⟩ := h; rfl) | (obtain ⟨_, _, _, _, _, _, _, _, _, rfl, _⟩ := h; rfl) | (obtain ⟨_, _, _, _, _, _, _, _, _, _, rfl, _⟩ := h; rfl) | (obtain ⟨_, _, _, _, _, _, _, _, _, _, _, rfl, _⟩ := h; rfl) | (obtain ⟨_, _, _, _, _, _, _, _, _, _, _, _, rfl, _⟩ := h; rfl) | (obtain ⟨_, _, _, _, _, _, _, _, _, _, _, _, _, rfl, _⟩ := h; rfl) | (obtain ⟨_, _, _, _, _, _, _, _, _, _, _, _, _, _, rfl, _⟩ := h; rfl) | (obtain ⟨_, _, _, _, _, _, _, _, _, _, _, _, _, _, _, rfl, _⟩ := h; rfl) | (obtain ⟨_, _, _, _, _, _, _, _, _, _, _, _, _, _, _, _, rfl, _⟩ := h; rfl) | (obtain ⟨_, _, _, _, _, _, _, _, _, _, _, _, _, _, _, _, _, rfl, _⟩ := h; rfl) | (obtain ⟨_, _, _, _, _, _, _, _, _, _, _, _, _, _, _, _, _, _, rfl, _⟩ := h; rfl) | (obtain ⟨_, _, _, _, _, _, _, _, _, _, _, _, _, _, _, _, _, _, _, rfl, _⟩ := h; rfl)
theorem fn_law_height {f : Addr} {fd : FuncData} (F : Fun K "_law_height" "_law_height" s_law_height f fd) (T : Txt mg A) (C : CT K A)  : FnOk P w K mg base CX0 1 f fd ["count", "below", "copies"] (sp_law_height K A) :=
  F.ok sc_law_height (fun vs H Q E h => ln_law_height h) (fun cdv Ar outer s H vs Q E hr h => ⟨t_law_height K A, (pss_cons (ps_if (pt_cmpR op_ge (pv 0) pe_int (nomark _)) (pss_one (ps_ret pe_int)) pss_nil)
  (pss_cons (ps_if (pt_cmpR op_eq (pv 0) pe_int (nomark _)) (pss_one (ps_ret (pe_callTy call_int1 (by rfl) T.b_int (by decide +kernel) (pa_cons (pe_cmpR op_ge (pv 1) (pv 2) (nomark _)) pa_nil)))) pss_nil)
  (pss_one (ps_ret (pe_op op_add (pv 1) pe_int))))), rd_law_height h⟩)
theorem bi_law_height {f : Addr} {fd : FuncData} (F : Fun K "_law_height" "_law_height" s_law_height f fd) : Binds K fd ["count", "below", "copies"] [] := F.binds fun _ _ _ _ _ _ us hl => match us, hl with | [_, _, _], _ => rfl
abbrev s_law_drawn_chain : Stmt := topS 22
theorem sc_law_drawn_chain : FnScope ["bag", "lines", "copies", "size", "place", "above", "middle", "below"] ["bag", "lines", "copies", "size"] (defScope s_law_drawn_chain) := ⟨rfl, rfl, rfl, by decide +kernel, rfl, by decide +kernel, by decide +kernel⟩
theorem ln_law_drawn_chain {vs : List V} {H : Hp} {Q : VK} {E : XK} (h : sp_law_drawn_chain K A vs H Q E) : vs.length = 4 := by
  first | (obtain ⟨_, rfl, _⟩ := h; rfl) | (obtain ⟨_, _, rfl, _⟩ := h; rfl) | (obtain ⟨_, _, _, rfl, _⟩ := h; rfl) | (obtain ⟨_, _, _, _, rfl, _⟩ := h; rfl) | (obtain ⟨_, _, _, _, _, rfl, _⟩ := h; rfl) | (obtain ⟨_, _, _, _, _, _, rfl, _⟩ := h; rfl) | (obtain ⟨_, _, _, _, _, _, _, rfl, _⟩ := h; rfl) | (obtain ⟨_, _, _, _, _, _, _, _, rfl, _⟩ := h; rfl) | (obtain ⟨_, _, _, _, _, _, _, _, _, rfl, _⟩ := h; rfl) | (obtain ⟨_, _, _, _, _, _, _, _, _, _, rfl, _⟩ := h; rfl) | (obtain ⟨_, _, _, _, _, _, _, _, _, _, _, rfl, _⟩ := h; rfl) | (obtain ⟨_, _, _, _, _, _, _, _, _, _, _, _, rfl, _⟩ := h; rfl) | (obtain ⟨_, _, _, _, _, _, _, _, _, _, _, _, _, rfl, _⟩ := h; rfl) | (obtain ⟨_, _, _, _, _, _, _, _, _, _, _, _, _, _, rfl, _⟩ := h; rfl) | (obtain ⟨_, _, _, _, _, _, _, _, _, _, _, _, _, _, _, rfl, _⟩ := h; rfl) | (obtain ⟨_, _, _, _, _, _, _, _, _, _, _, _, _, _, _, _, rfl, _⟩ := h; rfl) | (obtain ⟨_, _, _, _, _, _, _, _, _, _, _, _, _, _, _, _, _, rfl, _⟩ := h; rfl) | (obtain ⟨_, _, _, _, _, _, _, _, _, _, _, _, _, _, _, _, _, _, rfl, _⟩ := h; rfl) | (obtain ⟨_, _, _, _, _, _, _, _, _, _, _, _, _, _, _, _, _, _, _, rfl, _⟩ := h; rfl)
theorem fn_law_drawn_chain {f : Addr} {fd : FuncData} (F : Fun K "_law_drawn_chain" "_law_drawn_chain" s_law_drawn_chain f fd) (T : Txt mg A) (C : CT K A) (C_law_page : C8.Cal P w K mg base 2 "_law_page" (sp_law_page K A) []) (C_law_take : C8.Cal P w K mg base 1 "_law_take" (sp_law_take K A) []) : FnOk P w K mg base CX0 3 f fd ["bag", "lines", "copies", "size"] (sp_law_drawn_chain K A) :=
  F.ok sc_law_drawn_chain (fun vs H Q E h => ln_law_drawn_chain h) (fun cdv Ar outer s H vs Q E hr h => ⟨t_law_drawn_chain K A, (pss_cons (ps_if (PW.pt (pw_or (pt_cmpR op_gt (pv 2) pe_int (nomark _)) (pw_or1 (pt_cmpR op_eq (C8.pe_c C_law_take hr (by decide) (by rfl) (pa_cons (pv 0) (pa_cons pe_int pa_nil))) pe_int (nomark _))))) (pss_one (ps_ret (pe_lc (own := [("place", 4)]) (g := (gName 4)) (tt := tYes) rfl sc_law_drawn_chain.nd (pi_range1 (by rfl) T.b_range (pa_cons (pv 3) pa_nil)) (blkOk_by (own := [("place", 4)]) (N := ["bag", "lines", "copies", "size", "place", "above", "middle", "below"]) (sc := defScope s_law_drawn_chain) (by decide +kernel)) (fun _ _ _ _ _ => (pg_name (i := 4) sc_law_drawn_chain.nd rfl (by first | exact Or.inl rfl | exact Or.inr rfl))) (fun _ _ _ _ _ => pts_nil) (fun _ _ _ _ _ => (C8.pe_c C_law_page hr (by decide) (by rfl) (pa_cons (pv 0) (pa_cons (pv 1) pa_nil))))))) pss_nil)
  (pss_cons (ps_setLc (i := 5) (own := [("place", 4)]) (g := (gName 4)) (tt := tYes) rfl sc_law_drawn_chain.nd rfl rfl (sw_true rfl rfl rfl (by decide +kernel)) (pi_range1 (by rfl) T.b_range (pa_cons (C8.pe_c C_law_take hr (by decide) (by rfl) (pa_cons (pv 0) (pa_cons pe_int pa_nil))) pa_nil)) (blkOk_by (own := [("place", 4)]) (N := ["bag", "lines", "copies", "size", "place", "above", "middle", "below"]) (sc := defScope s_law_drawn_chain) (by decide +kernel)) (fun _ _ _ _ _ => (pg_name (i := 4) sc_law_drawn_chain.nd rfl (by first | exact Or.inl rfl | exact Or.inr rfl))) (fun _ _ _ _ _ => pts_nil) (fun _ _ _ _ _ => (C8.pe_c C_law_page hr (by decide) (by rfl) (pa_cons (pv 0) (pa_cons (pv 1) pa_nil)))))
  (pss_cons (ps_set (i := 6) sc_law_drawn_chain.nd rfl (by first | exact Or.inl rfl | exact Or.inr rfl) (pe_op op_cat (pe_op op_rep (pe_lst (pa_cons pe_int pa_nil)) (pv 2)) (pe_op op_rep (pe_op op_cat (pe_lst (pa_cons pe_int pa_nil)) (pe_op op_rep (pe_lst (pa_cons pe_int pa_nil)) (pe_op op_sub (pv 2) pe_int))) (C8.pe_c C_law_take hr (by decide) (by rfl) (pa_cons (pv 0) (pa_cons pe_int pa_nil))))))
  (pss_cons (ps_set (i := 6) sc_law_drawn_chain.nd rfl (by first | exact Or.inl rfl | exact Or.inr rfl) (pe_op op_cat (pe_op op_cat (pv 6) (pe_lst (pa_cons pe_int pa_nil))) (pe_op op_rep (pe_lst (pa_cons pe_int pa_nil)) (C8.pe_c C_law_take hr (by decide) (by rfl) (pa_cons (pv 0) (pa_cons (pv 2) pa_nil))))))
  (pss_cons (ps_setLc (i := 7) (own := [("place", 4)]) (g := (gName 4)) (tt := tYes) rfl sc_law_drawn_chain.nd rfl rfl (sw_true rfl rfl rfl (by decide +kernel)) (pi_range1 (by rfl) T.b_range (pa_cons (C8.pe_c C_law_take hr (by decide) (by rfl) (pa_cons (pv 0) (pa_cons pe_int pa_nil))) pa_nil)) (blkOk_by (own := [("place", 4)]) (N := ["bag", "lines", "copies", "size", "place", "above", "middle", "below"]) (sc := defScope s_law_drawn_chain) (by decide +kernel)) (fun _ _ _ _ _ => (pg_name (i := 4) sc_law_drawn_chain.nd rfl (by first | exact Or.inl rfl | exact Or.inr rfl))) (fun _ _ _ _ _ => pts_nil) (fun _ _ _ _ _ => (C8.pe_c C_law_page hr (by decide) (by rfl) (pa_cons (pv 0) (pa_cons (pv 1) pa_nil)))))
  (pss_one (ps_ret (pe_op op_cat (pe_op op_cat (pv 5) (pv 6)) (pv 7))))))))), rd_law_drawn_chain h⟩)
theorem bi_law_drawn_chain {f : Addr} {fd : FuncData} (F : Fun K "_law_drawn_chain" "_law_drawn_chain" s_law_drawn_chain f fd) : Binds K fd ["bag", "lines", "copies", "size"] [] := F.binds fun _ _ _ _ _ _ us hl => match us, hl with | [_, _, _, _], _ => rfl
abbrev s_law_kept_chain : Stmt := topS 23
theorem sc_law_kept_chain : FnScope ["bag", "lines", "copies", "size", "chain", "below", "drawn", "count"] ["bag", "lines", "copies", "size"] (defScope s_law_kept_chain) := ⟨rfl, rfl, rfl, by decide +kernel, rfl, by decide +kernel, by decide +kernel⟩
theorem ln_law_kept_chain {vs : List V} {H : Hp} {Q : VK} {E : XK} (h : sp_law_kept_chain K A vs H Q E) : vs.length = 4 := by
  first | (obtain ⟨_, rfl, _⟩ := h; rfl) | (obtain ⟨_, _, rfl, _⟩ := h; rfl) | (obtain ⟨_, _, _, rfl, _⟩ := h; rfl) | (obtain ⟨_, _, _, _, rfl, _⟩ := h; rfl) | (obtain ⟨_, _, _, _, _, rfl, _⟩ := h; rfl) | (obtain ⟨_, _, _, _, _, _, rfl, _⟩ := h; rfl) | (obtain ⟨_, _, _, _, _, _, _, rfl, _⟩ := h; rfl) | (obtain ⟨_, _, _, _, _, _, _, _, rfl, _⟩ := h; rfl) | (obtain ⟨_, _, _, _, _, _, _, _, _, rfl, _⟩ := h; rfl) | (obtain ⟨_, _, _, _, _, _, _, _, _, _, rfl, _⟩ := h; rfl) | (obtain ⟨_, _, _, _, _, _, _, _, _, _, _, rfl, _⟩ := h; rfl) | (obtain ⟨_, _, _, _, _, _, _, _, _, _, _, _, rfl, _⟩ := h; rfl) | (obtain ⟨_, _, _, _, _, _, _, _, _, _, _, _, _, rfl, _⟩ := h; rfl) | (obtain ⟨_, _, _, _, _, _, _, _, _, _, _, _, _, _, rfl, _⟩ := h; rfl) | (obtain ⟨_, _, _, _, _, _, _, _, _, _, _, _, _, _, _, rfl, _⟩ := h; rfl) | (obtain ⟨_, _, _, _, _, _, _, _, _, _, _, _, _, _, _, _, rfl, _⟩ := h; rfl) | (obtain ⟨_, _, _, _, _, _, _, _, _, _, _, _, _, _, _, _, _, rfl, _⟩ := h; rfl) | (obtain ⟨_, _, _, _, _, _, _, _, _, _, _, _, _, _, _, _, _, _, rfl, _⟩ := h; rfl) | (obtain ⟨_, _, _, _, _, _, _, _, _, _, _, _, _, _, _, _, _, _, _, rfl, _⟩ := h; rfl)
theorem fn_law_kept_chain {f : Addr} {fd : FuncData} (F : Fun K "_law_kept_chain" "_law_kept_chain" s_law_kept_chain f fd) (T : Txt mg A) (C : CT K A) (C_law_drawn_chain : C8.Cal P w K mg base 3 "_law_drawn_chain" (sp_law_drawn_chain K A) []) (C_law_height : C8.Cal P w K mg base 1 "_law_height" (sp_law_height K A) []) (C_law_take : C8.Cal P w K mg base 1 "_law_take" (sp_law_take K A) []) : FnOk P w K mg base CX0 4 f fd ["bag", "lines", "copies", "size"] (sp_law_kept_chain K A) :=
  F.ok sc_law_kept_chain (fun vs H Q E h => ln_law_kept_chain h) (fun cdv Ar outer s H vs Q E hr h => ⟨t_law_kept_chain K A, (pss_cons (ps_set (i := 4) sc_law_kept_chain.nd rfl (by first | exact Or.inl rfl | exact Or.inr rfl) (pe_lst pa_nil))
  (pss_cons (ps_set (i := 5) sc_law_kept_chain.nd rfl (by first | exact Or.inl rfl | exact Or.inr rfl) pe_int)
  (pss_cons (ps_for PassesOwn.never rfl (pi_list (pe_revL (C8.pe_c C_law_drawn_chain hr (by decide) (by rfl) (pa_cons (pv 0) (pa_cons (pv 1) (pa_cons (pv 2) (pa_cons (pv 3) pa_nil))))))) (pg_name (i := 6) sc_law_kept_chain.nd rfl (by first | exact Or.inl rfl | exact Or.inr rfl))
  (pss_cons (ps_set (i := 7) sc_law_kept_chain.nd rfl (by first | exact Or.inl rfl | exact Or.inr rfl) (pv 6))
  (pss_cons (ps_if (PW.pt (pw_and (pt_cmpR op_eq (pv 7) pe_int (nomark _)) (pw_and1 (pt_cmpR op_eq (pv 5) (pv 2) (nomark _))))) (pss_one (ps_set (i := 7) sc_law_kept_chain.nd rfl (by first | exact Or.inl rfl | exact Or.inr rfl) (pe_op op_add pe_int (C8.pe_c C_law_take hr (by decide) (by rfl) (pa_cons (pv 0) (pa_cons pe_int pa_nil)))))) pss_nil)
  (pss_cons (ps_set (i := 5) sc_law_kept_chain.nd rfl (by first | exact Or.inl rfl | exact Or.inr rfl) (C8.pe_c C_law_height hr (by decide) (by rfl) (pa_cons (pv 7) (pa_cons (pv 5) (pa_cons (pv 2) pa_nil)))))
  (pss_one (ps_expr (pe_bm PySem.F.plainAttrs_list PySem.F.slot_list_append PySem.F.type_list_append mt_append (pv 4) (pa_cons (pv 7) pa_nil))))))))
  (pss_one (ps_ret (pe_revL (pv 4))))))), rd_law_kept_chain h⟩)
theorem bi_law_kept_chain {f : Addr} {fd : FuncData} (F : Fun K "_law_kept_chain" "_law_kept_chain" s_law_kept_chain f fd) : Binds K fd ["bag", "lines", "copies", "size"] [] := F.binds fun _ _ _ _ _ _ us hl => match us, hl with | [_, _, _, _], _ => rfl
abbrev s_law_lost_chain : Stmt := topS 24
theorem sc_law_lost_chain : FnScope ["bag", "lines", "copies", "groups", "middle", "above", "place", "below"] ["bag", "lines", "copies"] (defScope s_law_lost_chain) := ⟨rfl, rfl, rfl, by decide +kernel, rfl, by decide +kernel, by decide +kernel⟩
theorem ln_law_lost_chain {vs : List V} {H : Hp} {Q : VK} {E : XK} (h : sp_law_lost_chain K A vs H Q E) : vs.length = 3 := by
  first | (obtain ⟨_, rfl, _⟩ := h; rfl) | (obtain ⟨_, _, rfl, _⟩ := h; rfl) | (obtain ⟨_, _, _, rfl, _⟩ := h; rfl) | (obtain ⟨_, _, _, _, rfl, _⟩ := h; rfl) | (obtain ⟨_, _, _, _, _, rfl, _⟩ := h; rfl) | (obtain ⟨_, _, _, _, _, _, rfl, _⟩ := h; rfl) | (obtain ⟨_, _, _, _, _, _, _, rfl, _⟩ := h; rfl) | (obtain ⟨_, _, _, _, _, _, _, _, rfl, _⟩ := h; rfl) | (obtain ⟨_, _, _, _, _, _, _, _, _, rfl, _⟩ := h; rfl) | (obtain ⟨_, _, _, _, _, _, _, _, _, _, rfl, _⟩ := h; rfl) | (obtain ⟨_, _, _, _, _, _, _, _, _, _, _, rfl, _⟩ := h; rfl) | (obtain ⟨_, _, _, _, _, _, _, _, _, _, _, _, rfl, _⟩ := h; rfl) | (obtain ⟨_, _, _, _, _, _, _, _, _, _, _, _, _, rfl, _⟩ := h; rfl) | (obtain ⟨_, _, _, _, _, _, _, _, _, _, _, _, _, _, rfl, _⟩ := h; rfl) | (obtain ⟨_, _, _, _, _, _, _, _, _, _, _, _, _, _, _, rfl, _⟩ := h; rfl) | (obtain ⟨_, _, _, _, _, _, _, _, _, _, _, _, _, _, _, _, rfl, _⟩ := h; rfl) | (obtain ⟨_, _, _, _, _, _, _, _, _, _, _, _, _, _, _, _, _, rfl, _⟩ := h; rfl) | (obtain ⟨_, _, _, _, _, _, _, _, _, _, _, _, _, _, _, _, _, _, rfl, _⟩ := h; rfl) | (obtain ⟨_, _, _, _, _, _, _, _, _, _, _, _, _, _, _, _, _, _, _, rfl, _⟩ := h; rfl)
theorem fn_law_lost_chain {f : Addr} {fd : FuncData} (F : Fun K "_law_lost_chain" "_law_lost_chain" s_law_lost_chain f fd) (T : Txt mg A) (C : CT K A) (C_law_page : C8.Cal P w K mg base 2 "_law_page" (sp_law_page K A) []) (C_law_take : C8.Cal P w K mg base 1 "_law_take" (sp_law_take K A) []) : FnOk P w K mg base CX0 3 f fd ["bag", "lines", "copies"] (sp_law_lost_chain K A) :=
  F.ok sc_law_lost_chain (fun vs H Q E h => ln_law_lost_chain h) (fun cdv Ar outer s H vs Q E hr h => ⟨t_law_lost_chain K A, (pss_cons (ps_set (i := 3) sc_law_lost_chain.nd rfl (by first | exact Or.inl rfl | exact Or.inr rfl) (C8.pe_c C_law_take hr (by decide) (by rfl) (pa_cons (pv 0) (pa_cons (pe_op op_add pe_int (pe_callB (call_min2 rfl) (by rfl) T.b_min (by decide +kernel) (pa_cons pe_int (pa_cons (pe_op op_fdiv (pe_op op_sub pe_int (pv 2)) (pv 2)) pa_nil)))) pa_nil))))
  (pss_cons (ps_set (i := 4) sc_law_lost_chain.nd rfl (by first | exact Or.inl rfl | exact Or.inr rfl) (pe_op op_cat (pe_op op_cat (pe_op op_rep (pe_lst (pa_cons pe_int pa_nil)) (pv 2)) (pe_op op_rep (pe_op op_cat (pe_lst (pa_cons pe_int pa_nil)) (pe_op op_rep (pe_lst (pa_cons pe_int pa_nil)) (pe_op op_sub (pv 2) pe_int))) (pv 3))) (pe_lst (pa_cons pe_int pa_nil))))
  (pss_cons (ps_setLc (i := 5) (own := [("place", 6)]) (g := (gName 6)) (tt := tYes) rfl sc_law_lost_chain.nd rfl rfl (sw_true rfl rfl rfl (by decide +kernel)) (pi_range1 (by rfl) T.b_range (pa_cons (C8.pe_c C_law_take hr (by decide) (by rfl) (pa_cons (pv 0) (pa_cons pe_int pa_nil))) pa_nil)) (blkOk_by (own := [("place", 6)]) (N := ["bag", "lines", "copies", "groups", "middle", "above", "place", "below"]) (sc := defScope s_law_lost_chain) (by decide +kernel)) (fun _ _ _ _ _ => (pg_name (i := 6) sc_law_lost_chain.nd rfl (by first | exact Or.inl rfl | exact Or.inr rfl))) (fun _ _ _ _ _ => pts_nil) (fun _ _ _ _ _ => (C8.pe_c C_law_page hr (by decide) (by rfl) (pa_cons (pv 0) (pa_cons (pv 1) pa_nil)))))
  (pss_cons (ps_setLc (i := 7) (own := [("place", 6)]) (g := (gName 6)) (tt := tYes) rfl sc_law_lost_chain.nd rfl rfl (sw_true rfl rfl rfl (by decide +kernel)) (pi_range1 (by rfl) T.b_range (pa_cons (C8.pe_c C_law_take hr (by decide) (by rfl) (pa_cons (pv 0) (pa_cons pe_int pa_nil))) pa_nil)) (blkOk_by (own := [("place", 6)]) (N := ["bag", "lines", "copies", "groups", "middle", "above", "place", "below"]) (sc := defScope s_law_lost_chain) (by decide +kernel)) (fun _ _ _ _ _ => (pg_name (i := 6) sc_law_lost_chain.nd rfl (by first | exact Or.inl rfl | exact Or.inr rfl))) (fun _ _ _ _ _ => pts_nil) (fun _ _ _ _ _ => (C8.pe_c C_law_page hr (by decide) (by rfl) (pa_cons (pv 0) (pa_cons (pv 1) pa_nil)))))
  (pss_one (ps_ret (pe_op op_cat (pe_op op_cat (pv 5) (pv 4)) (pv 7)))))))), rd_law_lost_chain h⟩)
theorem bi_law_lost_chain {f : Addr} {fd : FuncData} (F : Fun K "_law_lost_chain" "_law_lost_chain" s_law_lost_chain f fd) : Binds K fd ["bag", "lines", "copies"] [] := F.binds fun _ _ _ _ _ _ us hl => match us, hl with | [_, _, _], _ => rfl
abbrev s_law_heights : Stmt := topS 25
theorem sc_law_heights : FnScope ["chain", "copies", "found", "below", "count"] ["chain", "copies"] (defScope s_law_heights) := ⟨rfl, rfl, rfl, by decide +kernel, rfl, by decide +kernel, by decide +kernel⟩
theorem ln_law_heights {vs : List V} {H : Hp} {Q : VK} {E : XK} (h : sp_law_heights K A vs H Q E) : vs.length = 2 := by
  first | (obtain ⟨_, rfl, _⟩ := h; rfl) | (obtain ⟨_, _, rfl, _⟩ := h; rfl) | (obtain ⟨_, _, _, rfl, _⟩ := h; rfl) | (obtain ⟨_, _, _, _, rfl, _⟩ := h; rfl) | (obtain ⟨_, _, _, _, _, rfl, _⟩ := h; rfl) | (obtain ⟨_, _, _, _, _, _, rfl, _⟩ := h; rfl) | (obtain ⟨_, _, _, _, _, _, _, rfl, _⟩ := h; rfl) | (obtain ⟨_, _, _, _, _, _, _, _, rfl, _⟩ := h; rfl) | (obtain ⟨_, _, _, _, _, _, _, _, _, rfl, _⟩ := h; rfl) | (obtain ⟨_, _, _, _, _, _, _, _, _, _, rfl, _⟩ := h; rfl) | (obtain ⟨_, _, _, _, _, _, _, _, _, _, _, rfl, _⟩ := h; rfl) | (obtain ⟨_, _, _, _, _, _, _, _, _, _, _, _, rfl, _⟩ := h; rfl) | (obtain ⟨_, _, _, _, _, _, _, _, _, _, _, _, _, rfl, _⟩ := h; rfl) | (obtain ⟨_, _, _, _, _, _, _, _, _, _, _, _, _, _, rfl, _⟩ := h; rfl) | (obtain ⟨_, _, _, _, _, _, _, _, _, _, _, _, _, _, _, rfl, _⟩ := h; rfl) | (obtain ⟨_, _, _, _, _, _, _, _, _, _, _, _, _, _, _, _, rfl, _⟩ := h; rfl) | (obtain ⟨_, _, _, _, _, _, _, _, _, _, _, _, _, _, _, _, _, rfl, _⟩ := h; rfl) | (obtain ⟨_, _, _, _, _, _, _, _, _, _, _, _, _, _, _, _, _, _, rfl, _⟩ := h; rfl) | (obtain ⟨_, _, _, _, _, _, _, _, _, _, _, _, _, _, _, _, _, _, _, rfl, _⟩ := h; rfl)
theorem fn_law_heights {f : Addr} {fd : FuncData} (F : Fun K "_law_heights" "_law_heights" s_law_heights f fd) (T : Txt mg A) (C : CT K A) (C_law_height : C8.Cal P w K mg base 1 "_law_height" (sp_law_height K A) []) : FnOk P w K mg base CX0 2 f fd ["chain", "copies"] (sp_law_heights K A) :=
  F.ok sc_law_heights (fun vs H Q E h => ln_law_heights h) (fun cdv Ar outer s H vs Q E hr h => ⟨t_law_heights K A, (pss_cons (ps_set (i := 2) sc_law_heights.nd rfl (by first | exact Or.inl rfl | exact Or.inr rfl) (pe_lst pa_nil))
  (pss_cons (ps_set (i := 3) sc_law_heights.nd rfl (by first | exact Or.inl rfl | exact Or.inr rfl) pe_int)
  (pss_cons (ps_for PassesOwn.never rfl (pi_list (pe_revL (pv 0))) (pg_name (i := 4) sc_law_heights.nd rfl (by first | exact Or.inl rfl | exact Or.inr rfl))
  (pss_cons (ps_set (i := 3) sc_law_heights.nd rfl (by first | exact Or.inl rfl | exact Or.inr rfl) (C8.pe_c C_law_height hr (by decide) (by rfl) (pa_cons (pv 4) (pa_cons (pv 3) (pa_cons (pv 1) pa_nil)))))
  (pss_one (ps_expr (pe_bm PySem.F.plainAttrs_list PySem.F.slot_list_append PySem.F.type_list_append mt_append (pv 2) (pa_cons (pv 3) pa_nil))))))
  (pss_one (ps_ret (pe_revL (pv 2))))))), rd_law_heights h⟩)
theorem bi_law_heights {f : Addr} {fd : FuncData} (F : Fun K "_law_heights" "_law_heights" s_law_heights f fd) : Binds K fd ["chain", "copies"] [] := F.binds fun _ _ _ _ _ _ us hl => match us, hl with | [_, _], _ => rfl
abbrev s_law_lowest : Stmt := topS 26
theorem sc_law_lowest : FnScope ["chain", "copies", "found", "lost", "place"] ["chain", "copies"] (defScope s_law_lowest) := ⟨rfl, rfl, rfl, by decide +kernel, rfl, by decide +kernel, by decide +kernel⟩
theorem ln_law_lowest {vs : List V} {H : Hp} {Q : VK} {E : XK} (h : sp_law_lowest K A vs H Q E) : vs.length = 2 := by
  first | (obtain ⟨_, rfl, _⟩ := h; rfl) | (obtain ⟨_, _, rfl, _⟩ := h; rfl) | (obtain ⟨_, _, _, rfl, _⟩ := h; rfl) | (obtain ⟨_, _, _, _, rfl, _⟩ := h; rfl) | (obtain ⟨_, _, _, _, _, rfl, _⟩ := h; rfl) | (obtain ⟨_, _, _, _, _, _, rfl, _⟩ := h; rfl) | (obtain ⟨_, _, _, _, _, _, _, rfl, _⟩ := h; rfl) | (obtain ⟨_, _, _, _, _, _, _, _, rfl, _⟩ := h; rfl) | (obtain ⟨_, _, _, _, _, _, _, _, _, rfl, _⟩ := h; rfl) | (obtain ⟨_, _, _, _, _, _, _, _, _, _, rfl, _⟩ := h; rfl) | (obtain ⟨_, _, _, _, _, _, _, _, _, _, _, rfl, _⟩ := h; rfl) | (obtain ⟨_, _, _, _, _, _, _, _, _, _, _, _, rfl, _⟩ := h; rfl) | (obtain ⟨_, _, _, _, _, _, _, _, _, _, _, _, _, rfl, _⟩ := h; rfl) | (obtain ⟨_, _, _, _, _, _, _, _, _, _, _, _, _, _, rfl, _⟩ := h; rfl) | (obtain ⟨_, _, _, _, _, _, _, _, _, _, _, _, _, _, _, rfl, _⟩ := h; rfl) | (obtain ⟨_, _, _, _, _, _, _, _, _, _, _, _, _, _, _, _, rfl, _⟩ := h; rfl) | (obtain ⟨_, _, _, _, _, _, _, _, _, _, _, _, _, _, _, _, _, rfl, _⟩ := h; rfl) | (obtain ⟨_, _, _, _, _, _, _, _, _, _, _, _, _, _, _, _, _, _, rfl, _⟩ := h; rfl) | (obtain ⟨_, _, _, _, _, _, _, _, _, _, _, _, _, _, _, _, _, _, _, rfl, _⟩ := h; rfl)
theorem fn_law_lowest {f : Addr} {fd : FuncData} (F : Fun K "_law_lowest" "_law_lowest" s_law_lowest f fd) (T : Txt mg A) (C : CT K A) (C_law_heights : C8.Cal P w K mg base 2 "_law_heights" (sp_law_heights K A) []) : FnOk P w K mg base CX0 3 f fd ["chain", "copies"] (sp_law_lowest K A) :=
  F.ok sc_law_lowest (fun vs H Q E h => ln_law_lowest h) (fun cdv Ar outer s H vs Q E hr h => ⟨t_law_lowest K A, (pss_cons (ps_set (i := 2) sc_law_lowest.nd rfl (by first | exact Or.inl rfl | exact Or.inr rfl) (C8.pe_c C_law_heights hr (by decide) (by rfl) (pa_cons (pv 0) (pa_cons (pv 1) pa_nil))))
  (pss_cons (ps_setLc (i := 3) (own := [("place", 4)]) (g := (gName 4)) (tt := (tTest (tOp oGt (tOp (rIxL K) (tVar 2) (tVar 4)) (tVar 1)))) rfl sc_law_lowest.nd rfl rfl (sw_true rfl rfl rfl (by decide +kernel)) (pi_range1 (by rfl) T.b_range (pa_cons (pe_callB call_len_seq (by rfl) T.b_len (by decide +kernel) (pa_cons (pv 0) pa_nil)) pa_nil)) (blkOk_by (own := [("place", 4)]) (N := ["chain", "copies", "found", "lost", "place"]) (sc := defScope s_law_lowest) (by decide +kernel)) (fun _ _ _ _ _ => (pg_name (i := 4) sc_law_lowest.nd rfl (by first | exact Or.inl rfl | exact Or.inr rfl))) (fun _ _ _ _ _ => (pts_one (pt_cmpR op_gt (pe_ix ix_list (pv 2) (pv 4) (fun _ _ => rfl)) (pv 1) (nomark _)))) (fun _ _ _ _ _ => (pv 4)))
  (pss_cons (ps_if (pt_truth (pv 3) (by intro _; rfl)) (pss_one (ps_ret (pe_ix ix_list (pv 3) (pe_un un_neg pe_int) (fun _ _ => rfl)))) pss_nil)
  (pss_one (ps_ret pe_non))))), rd_law_lowest h⟩)
theorem bi_law_lowest {f : Addr} {fd : FuncData} (F : Fun K "_law_lowest" "_law_lowest" s_law_lowest f fd) : Binds K fd ["chain", "copies"] [] := F.binds fun _ _ _ _ _ _ us hl => match us, hl with | [_, _], _ => rfl
abbrev s_law_uses : Stmt := topS 27
theorem sc_law_uses : FnScope ["size", "page", "copied", "uses", "place"] ["size", "page", "copied"] (defScope s_law_uses) := ⟨rfl, rfl, rfl, by decide +kernel, rfl, by decide +kernel, by decide +kernel⟩
theorem ln_law_uses {vs : List V} {H : Hp} {Q : VK} {E : XK} (h : sp_law_uses K A vs H Q E) : vs.length = 3 := by
  first | (obtain ⟨_, rfl, _⟩ := h; rfl) | (obtain ⟨_, _, rfl, _⟩ := h; rfl) | (obtain ⟨_, _, _, rfl, _⟩ := h; rfl) | (obtain ⟨_, _, _, _, rfl, _⟩ := h; rfl) | (obtain ⟨_, _, _, _, _, rfl, _⟩ := h; rfl) | (obtain ⟨_, _, _, _, _, _, rfl, _⟩ := h; rfl) | (obtain ⟨_, _, _, _, _, _, _, rfl, _⟩ := h; rfl) | (obtain ⟨_, _, _, _, _, _, _, _, rfl, _⟩ := h; rfl) | (obtain ⟨_, _, _, _, _, _, _, _, _, rfl, _⟩ := h; rfl) | (obtain ⟨_, _, _, _, _, _, _, _, _, _, rfl, _⟩ := h; rfl) | (obtain ⟨_, _, _, _, _, _, _, _, _, _, _, rfl, _⟩ := h; rfl) | (obtain ⟨_, _, _, _, _, _, _, _, _, _, _, _, rfl, _⟩ := h; rfl) | (obtain ⟨_, _, _, _, _, _, _, _, _, _, _, _, _, rfl, _⟩ := h; rfl) | (obtain ⟨_, _, _, _, _, _, _, _, _, _, _, _, _, _, rfl, _⟩ := h; rfl) | (obtain ⟨_, _, _, _, _, _, _, _, _, _, _, _, _, _, _, rfl, _⟩ := h; rfl) | (obtain ⟨_, _, _, _, _, _, _, _, _, _, _, _, _, _, _, _, rfl, _⟩ := h; rfl) | (obtain ⟨_, _, _, _, _, _, _, _, _, _, _, _, _, _, _, _, _, rfl, _⟩ := h; rfl) | (obtain ⟨_, _, _, _, _, _, _, _, _, _, _, _, _, _, _, _, _, _, rfl, _⟩ := h; rfl) | (obtain ⟨_, _, _, _, _, _, _, _, _, _, _, _, _, _, _, _, _, _, _, rfl, _⟩ := h; rfl)
theorem fn_law_uses {f : Addr} {fd : FuncData} (F : Fun K "_law_uses" "_law_uses" s_law_uses f fd) (T : Txt mg A) (C : CT K A)  : FnOk P w K mg base CX0 1 f fd ["size", "page", "copied"] (sp_law_uses K A) :=
  F.ok sc_law_uses (fun vs H Q E h => ln_law_uses h) (fun cdv Ar outer s H vs Q E hr h => ⟨t_law_uses K A, (pss_cons (ps_set (i := 3) sc_law_uses.nd rfl (by first | exact Or.inl rfl | exact Or.inr rfl) (pe_lst pa_nil))
  (pss_cons (ps_for PassesOwn.never rfl (pi_range1 (by rfl) T.b_range (pa_cons (pv 0) pa_nil)) (pg_name (i := 4) sc_law_uses.nd rfl (by first | exact Or.inl rfl | exact Or.inr rfl))
  (pss_one (ps_if (pt_cmpR op_in_seq (pv 4) (pv 2) (by rfl)) (pss_one (ps_expr (pe_bm PySem.F.plainAttrs_list PySem.F.slot_list_append PySem.F.type_list_append mt_append (pv 3) (pa_cons pe_int pa_nil)))) (pss_one (ps_expr (pe_bm PySem.F.plainAttrs_list PySem.F.slot_list_append PySem.F.type_list_append mt_append (pv 3) (pa_cons (pe_op op_add (pe_callTy call_int1 (by rfl) T.b_int (by decide +kernel) (pa_cons (pe_cmpR op_eq (pv 4) (pv 1) (nomark _)) pa_nil)) (pe_callTy call_int1 (by rfl) T.b_int (by decide +kernel) (pa_cons (pe_cmpR op_in_seq (pe_op op_add (pv 4) pe_int) (pv 2) (by rfl)) pa_nil))) pa_nil)))))))
  (pss_one (ps_ret (pv 3))))), rd_law_uses h⟩)
theorem bi_law_uses {f : Addr} {fd : FuncData} (F : Fun K "_law_uses" "_law_uses" s_law_uses f fd) : Binds K fd ["size", "page", "copied"] [] := F.binds fun _ _ _ _ _ _ us hl => match us, hl with | [_, _, _], _ => rfl
abbrev s_law_after : Stmt := topS 28
theorem sc_law_after : FnScope ["chain", "lines", "page", "copied", "uses", "place"] ["chain", "lines", "page", "copied"] (defScope s_law_after) := ⟨rfl, rfl, rfl, by decide +kernel, rfl, by decide +kernel, by decide +kernel⟩
theorem ln_law_after {vs : List V} {H : Hp} {Q : VK} {E : XK} (h : sp_law_after K A vs H Q E) : vs.length = 4 := by
  first | (obtain ⟨_, rfl, _⟩ := h; rfl) | (obtain ⟨_, _, rfl, _⟩ := h; rfl) | (obtain ⟨_, _, _, rfl, _⟩ := h; rfl) | (obtain ⟨_, _, _, _, rfl, _⟩ := h; rfl) | (obtain ⟨_, _, _, _, _, rfl, _⟩ := h; rfl) | (obtain ⟨_, _, _, _, _, _, rfl, _⟩ := h; rfl) | (obtain ⟨_, _, _, _, _, _, _, rfl, _⟩ := h; rfl) | (obtain ⟨_, _, _, _, _, _, _, _, rfl, _⟩ := h; rfl) | (obtain ⟨_, _, _, _, _, _, _, _, _, rfl, _⟩ := h; rfl) | (obtain ⟨_, _, _, _, _, _, _, _, _, _, rfl, _⟩ := h; rfl) | (obtain ⟨_, _, _, _, _, _, _, _, _, _, _, rfl, _⟩ := h; rfl) | (obtain ⟨_, _, _, _, _, _, _, _, _, _, _, _, rfl, _⟩ := h; rfl) | (obtain ⟨_, _, _, _, _, _, _, _, _, _, _, _, _, rfl, _⟩ := h; rfl) | (obtain ⟨_, _, _, _, _, _, _, _, _, _, _, _, _, _, rfl, _⟩ := h; rfl) | (obtain ⟨_, _, _, _, _, _, _, _, _, _, _, _, _, _, _, rfl, _⟩ := h; rfl) | (obtain ⟨_, _, _, _, _, _, _, _, _, _, _, _, _, _, _, _, rfl, _⟩ := h; rfl) | (obtain ⟨_, _, _, _, _, _, _, _, _, _, _, _, _, _, _, _, _, rfl, _⟩ := h; rfl) | (obtain ⟨_, _, _, _, _, _, _, _, _, _, _, _, _, _, _, _, _, _, rfl, _⟩ := h; rfl) | (obtain ⟨_, _, _, _, _, _, _, _, _, _, _, _, _, _, _, _, _, _, _, rfl, _⟩ := h; rfl)
theorem fn_law_after {f : Addr} {fd : FuncData} (F : Fun K "_law_after" "_law_after" s_law_after f fd) (T : Txt mg A) (C : CT K A) (C_law_uses : C8.Cal P w K mg base 1 "_law_uses" (sp_law_uses K A) []) : FnOk P w K mg base CX0 2 f fd ["chain", "lines", "page", "copied"] (sp_law_after K A) :=
  F.ok sc_law_after (fun vs H Q E h => ln_law_after h) (fun cdv Ar outer s H vs Q E hr h => ⟨t_law_after K A, (pss_cons (ps_set (i := 4) sc_law_after.nd rfl (by first | exact Or.inl rfl | exact Or.inr rfl) (C8.pe_c C_law_uses hr (by decide) (by rfl) (pa_cons (pe_callB call_len_seq (by rfl) T.b_len (by decide +kernel) (pa_cons (pv 0) pa_nil)) (pa_cons (pv 2) (pa_cons (pv 3) pa_nil)))))
  (pss_one (ps_ret (pe_lc (own := [("place", 5)]) (g := (gName 5)) (tt := tYes) rfl sc_law_after.nd (pi_range1 (by rfl) T.b_range (pa_cons (pe_callB call_len_seq (by rfl) T.b_len (by decide +kernel) (pa_cons (pv 0) pa_nil)) pa_nil)) (blkOk_by (own := [("place", 5)]) (N := ["chain", "lines", "page", "copied", "uses", "place"]) (sc := defScope s_law_after) (by decide +kernel)) (fun _ _ _ _ _ => (pg_name (i := 5) sc_law_after.nd rfl (by first | exact Or.inl rfl | exact Or.inr rfl))) (fun _ _ _ _ _ => pts_nil) (fun _ _ _ _ _ => (pe_ifExp (pt_cmpR op_in_seq (pv 5) (pv 3) (by rfl)) (pv 1) (pe_op op_sub (pe_ix ix_list (pv 0) (pv 5) (fun _ _ => rfl)) (pe_ix ix_list (pv 4) (pv 5) (fun _ _ => rfl))))))))), rd_law_after h⟩)
theorem bi_law_after {f : Addr} {fd : FuncData} (F : Fun K "_law_after" "_law_after" s_law_after f fd) : Binds K fd ["chain", "lines", "page", "copied"] [] := F.binds fun _ _ _ _ _ _ us hl => match us, hl with | [_, _, _, _], _ => rfl
abbrev s_law_rules : Stmt := topS 29
theorem sc_law_rules : FnScope ["chain", "lines", "copies", "page", "plain", "lowest", "copied", "place", "lost"] ["chain", "lines", "copies", "page"] (defScope s_law_rules) := ⟨rfl, rfl, rfl, by decide +kernel, rfl, by decide +kernel, by decide +kernel⟩
theorem ln_law_rules {vs : List V} {H : Hp} {Q : VK} {E : XK} (h : sp_law_rules K A vs H Q E) : vs.length = 4 := by
  first | (obtain ⟨_, rfl, _⟩ := h; rfl) | (obtain ⟨_, _, rfl, _⟩ := h; rfl) | (obtain ⟨_, _, _, rfl, _⟩ := h; rfl) | (obtain ⟨_, _, _, _, rfl, _⟩ := h; rfl) | (obtain ⟨_, _, _, _, _, rfl, _⟩ := h; rfl) | (obtain ⟨_, _, _, _, _, _, rfl, _⟩ := h; rfl) | (obtain ⟨_, _, _, _, _, _, _, rfl, _⟩ := h; rfl) | (obtain ⟨_, _, _, _, _, _, _, _, rfl, _⟩ := h; rfl) | (obtain ⟨_, _, _, _, _, _, _, _, _, rfl, _⟩ := h; rfl) | (obtain ⟨_, _, _, _, _, _, _, _, _, _, rfl, _⟩ := h; rfl) | (obtain ⟨_, _, _, _, _, _, _, _, _, _, _, rfl, _⟩ := h; rfl) | (obtain ⟨_, _, _, _, _, _, _, _, _, _, _, _, rfl, _⟩ := h; rfl) | (obtain ⟨_, _, _, _, _, _, _, _, _, _, _, _, _, rfl, _⟩ := h; rfl) | (obtain ⟨_, _, _, _, _, _, _, _, _, _, _, _, _, _, rfl, _⟩ := h; rfl) | (obtain ⟨_, _, _, _, _, _, _, _, _, _, _, _, _, _, _, rfl, _⟩ := h; rfl) | (obtain ⟨_, _, _, _, _, _, _, _, _, _, _, _, _, _, _, _, rfl, _⟩ := h; rfl) | (obtain ⟨_, _, _, _, _, _, _, _, _, _, _, _, _, _, _, _, _, rfl, _⟩ := h; rfl) | (obtain ⟨_, _, _, _, _, _, _, _, _, _, _, _, _, _, _, _, _, _, rfl, _⟩ := h; rfl) | (obtain ⟨_, _, _, _, _, _, _, _, _, _, _, _, _, _, _, _, _, _, _, rfl, _⟩ := h; rfl)
theorem fn_law_rules {f : Addr} {fd : FuncData} (F : Fun K "_law_rules" "_law_rules" s_law_rules f fd) (T : Txt mg A) (C : CT K A) (C_law_after : C8.Cal P w K mg base 2 "_law_after" (sp_law_after K A) []) (C_law_lowest : C8.Cal P w K mg base 3 "_law_lowest" (sp_law_lowest K A) []) : FnOk P w K mg base CX0 4 f fd ["chain", "lines", "copies", "page"] (sp_law_rules K A) :=
  F.ok sc_law_rules (fun vs H Q E h => ln_law_rules h) (fun cdv Ar outer s H vs Q E hr h => ⟨t_law_rules K A, (pss_cons (ps_set (i := 4) sc_law_rules.nd rfl (by first | exact Or.inl rfl | exact Or.inr rfl) (pe_callTy call_list_of (by rfl) T.b_list (by decide +kernel) (pa_cons (pv 0) pa_nil)))
  (pss_cons (ps_set (i := 5) sc_law_rules.nd rfl (by first | exact Or.inl rfl | exact Or.inr rfl) (pv 3))
  (pss_cons (ps_if (pt_cmpR op_gt (pe_ix ix_list (pv 0) (pv 3) (fun _ _ => rfl)) pe_int (nomark _)) (pss_cons (ps_asg (pe_op op_sub (pe_ix ix_list (pv 4) (pv 3) (fun _ _ => rfl)) pe_int) (pg_sub (pv 4) (pv 3) set_list))
  (pss_cons (ps_set (i := 5) sc_law_rules.nd rfl (by first | exact Or.inl rfl | exact Or.inr rfl) (C8.pe_c C_law_lowest hr (by decide) (by rfl) (pa_cons (pv 4) (pa_cons (pv 2) pa_nil))))
  (pss_one (ps_if (pt_cmp (pc_isN (pv 5))) (pss_one (ps_ret (pe_lst pa_nil))) pss_nil)))) pss_nil)
  (pss_cons (ps_set (i := 6) sc_law_rules.nd rfl (by first | exact Or.inl rfl | exact Or.inr rfl) (pe_lst (pa_cons (pv 5) pa_nil)))
  (pss_cons (ps_for PassesOwn.never rfl (pi_revR (by rfl) T.b_reversed (prg_1 (by rfl) T.b_range (pv 5))) (pg_name (i := 7) sc_law_rules.nd rfl (by first | exact Or.inl rfl | exact Or.inr rfl))
  (pss_cons (ps_if (pt_cmpR op_gt (pe_ix ix_list (pv 4) (pv 7) (fun _ _ => rfl)) pe_int (nomark _)) (pss_one ps_break) pss_nil)
  (pss_one (ps_set (i := 6) sc_law_rules.nd rfl (by first | exact Or.inl rfl | exact Or.inr rfl) (pe_op op_cat (pe_lst (pa_cons (pv 7) pa_nil)) (pv 6))))))
  (pss_cons (ps_set (i := 8) sc_law_rules.nd rfl (by first | exact Or.inl rfl | exact Or.inr rfl) (C8.pe_c C_law_lowest hr (by decide) (by rfl) (pa_cons (C8.pe_c C_law_after hr (by decide) (by rfl) (pa_cons (pv 0) (pa_cons (pv 1) (pa_cons (pv 3) (pa_cons (pv 6) pa_nil))))) (pa_cons (pv 2) pa_nil))))
  (pss_cons (ps_if (pt_cmp (pc_isN (pv 8))) (pss_one (ps_ret (pv 6))) pss_nil)
  (pss_one (ps_ret (pe_callB cr_sortedI (by rfl) T.b_sorted (by decide +kernel) (pa_cons (pe_op op_cat (pv 6) (pe_lst (pa_cons (pv 8) pa_nil))) pa_nil))))))))))), rd_law_rules h⟩)
theorem bi_law_rules {f : Addr} {fd : FuncData} (F : Fun K "_law_rules" "_law_rules" s_law_rules f fd) : Binds K fd ["chain", "lines", "copies", "page"] [] := F.binds fun _ _ _ _ _ _ us hl => match us, hl with | [_, _, _, _], _ => rfl
abbrev s_law_quiet : Stmt := topS 30
theorem sc_law_quiet : FnScope ["chain", "copies", "page", "plain"] ["chain", "copies", "page"] (defScope s_law_quiet) := ⟨rfl, rfl, rfl, by decide +kernel, rfl, by decide +kernel, by decide +kernel⟩
theorem ln_law_quiet {vs : List V} {H : Hp} {Q : VK} {E : XK} (h : sp_law_quiet K A vs H Q E) : vs.length = 3 := by
  first | (obtain ⟨_, rfl, _⟩ := h; rfl) | (obtain ⟨_, _, rfl, _⟩ := h; rfl) | (obtain ⟨_, _, _, rfl, _⟩ := h; rfl) | (obtain ⟨_, _, _, _, rfl, _⟩ := h; rfl) | (obtain ⟨_, _, _, _, _, rfl, _⟩ := h; rfl) | (obtain ⟨_, _, _, _, _, _, rfl, _⟩ := h; rfl) | (obtain ⟨_, _, _, _, _, _, _, rfl, _⟩ := h; rfl) | (obtain ⟨_, _, _, _, _, _, _, _, rfl, _⟩ := h; rfl) | (obtain ⟨_, _, _, _, _, _, _, _, _, rfl, _⟩ := h; rfl) | (obtain ⟨_, _, _, _, _, _, _, _, _, _, rfl, _⟩ := h; rfl) | (obtain ⟨_, _, _, _, _, _, _, _, _, _, _, rfl, _⟩ := h; rfl) | (obtain ⟨_, _, _, _, _, _, _, _, _, _, _, _, rfl, _⟩ := h; rfl) | (obtain ⟨_, _, _, _, _, _, _, _, _, _, _, _, _, rfl, _⟩ := h; rfl) | (obtain ⟨_, _, _, _, _, _, _, _, _, _, _, _, _, _, rfl, _⟩ := h; rfl) | (obtain ⟨_, _, _, _, _, _, _, _, _, _, _, _, _, _, _, rfl, _⟩ := h; rfl) | (obtain ⟨_, _, _, _, _, _, _, _, _, _, _, _, _, _, _, _, rfl, _⟩ := h; rfl) | (obtain ⟨_, _, _, _, _, _, _, _, _, _, _, _, _, _, _, _, _, rfl, _⟩ := h; rfl) | (obtain ⟨_, _, _, _, _, _, _, _, _, _, _, _, _, _, _, _, _, _, rfl, _⟩ := h; rfl) | (obtain ⟨_, _, _, _, _, _, _, _, _, _, _, _, _, _, _, _, _, _, _, rfl, _⟩ := h; rfl)
theorem fn_law_quiet {f : Addr} {fd : FuncData} (F : Fun K "_law_quiet" "_law_quiet" s_law_quiet f fd) (T : Txt mg A) (C : CT K A) (C_law_lowest : C8.Cal P w K mg base 3 "_law_lowest" (sp_law_lowest K A) []) : FnOk P w K mg base CX0 4 f fd ["chain", "copies", "page"] (sp_law_quiet K A) :=
  F.ok sc_law_quiet (fun vs H Q E h => ln_law_quiet h) (fun cdv Ar outer s H vs Q E hr h => ⟨t_law_quiet K A, (pss_cons (ps_if (pt_cmpR op_eq (pe_ix ix_list (pv 0) (pv 2) (fun _ _ => rfl)) pe_int (nomark _)) (pss_one (ps_ret pe_bl)) pss_nil)
  (pss_cons (ps_set (i := 3) sc_law_quiet.nd rfl (by first | exact Or.inl rfl | exact Or.inr rfl) (pe_callTy call_list_of (by rfl) T.b_list (by decide +kernel) (pa_cons (pv 0) pa_nil)))
  (pss_cons (ps_asg (pe_op op_sub (pe_ix ix_list (pv 3) (pv 2) (fun _ _ => rfl)) pe_int) (pg_sub (pv 3) (pv 2) set_list))
  (pss_one (ps_ret (pe_cmp (pc_isN (C8.pe_c C_law_lowest hr (by decide) (by rfl) (pa_cons (pv 3) (pa_cons (pv 1) pa_nil)))))))))), rd_law_quiet h⟩)
theorem bi_law_quiet {f : Addr} {fd : FuncData} (F : Fun K "_law_quiet" "_law_quiet" s_law_quiet f fd) : Binds K fd ["chain", "copies", "page"] [] := F.binds fun _ _ _ _ _ _ us hl => match us, hl with | [_, _, _], _ => rfl
abbrev s_law_step : Stmt := topS 31
theorem sc_law_step : FnScope ["chain", "lines", "copies", "page", "handed", "told", "copied", "place", "uses"] ["chain", "lines", "copies", "page"] (defScope s_law_step) := ⟨rfl, rfl, rfl, by decide +kernel, rfl, by decide +kernel, by decide +kernel⟩
theorem ln_law_step {vs : List V} {H : Hp} {Q : VK} {E : XK} (h : sp_law_step K A vs H Q E) : vs.length = 4 := by
  first | (obtain ⟨_, rfl, _⟩ := h; rfl) | (obtain ⟨_, _, rfl, _⟩ := h; rfl) | (obtain ⟨_, _, _, rfl, _⟩ := h; rfl) | (obtain ⟨_, _, _, _, rfl, _⟩ := h; rfl) | (obtain ⟨_, _, _, _, _, rfl, _⟩ := h; rfl) | (obtain ⟨_, _, _, _, _, _, rfl, _⟩ := h; rfl) | (obtain ⟨_, _, _, _, _, _, _, rfl, _⟩ := h; rfl) | (obtain ⟨_, _, _, _, _, _, _, _, rfl, _⟩ := h; rfl) | (obtain ⟨_, _, _, _, _, _, _, _, _, rfl, _⟩ := h; rfl) | (obtain ⟨_, _, _, _, _, _, _, _, _, _, rfl, _⟩ := h; rfl) | (obtain ⟨_, _, _, _, _, _, _, _, _, _, _, rfl, _⟩ := h; rfl) | (obtain ⟨_, _, _, _, _, _, _, _, _, _, _, _, rfl, _⟩ := h; rfl) | (obtain ⟨_, _, _, _, _, _, _, _, _, _, _, _, _, rfl, _⟩ := h; rfl) | (obtain ⟨_, _, _, _, _, _, _, _, _, _, _, _, _, _, rfl, _⟩ := h; rfl) | (obtain ⟨_, _, _, _, _, _, _, _, _, _, _, _, _, _, _, rfl, _⟩ := h; rfl) | (obtain ⟨_, _, _, _, _, _, _, _, _, _, _, _, _, _, _, _, rfl, _⟩ := h; rfl) | (obtain ⟨_, _, _, _, _, _, _, _, _, _, _, _, _, _, _, _, _, rfl, _⟩ := h; rfl) | (obtain ⟨_, _, _, _, _, _, _, _, _, _, _, _, _, _, _, _, _, _, rfl, _⟩ := h; rfl) | (obtain ⟨_, _, _, _, _, _, _, _, _, _, _, _, _, _, _, _, _, _, _, rfl, _⟩ := h; rfl)
theorem fn_law_step {f : Addr} {fd : FuncData} (F : Fun K "_law_step" "_law_step" s_law_step f fd) (T : Txt mg A) (C : CT K A) (C_law_after : C8.Cal P w K mg base 2 "_law_after" (sp_law_after K A) []) (C_law_is_row : C8.Cal P w K mg base 2 "_law_is_row" (sp_law_is_row K A) []) (C_law_lowest : C8.Cal P w K mg base 3 "_law_lowest" (sp_law_lowest K A) []) (C_law_quiet : C8.Cal P w K mg base 4 "_law_quiet" (sp_law_quiet K A) []) (C_law_rules : C8.Cal P w K mg base 4 "_law_rules" (sp_law_rules K A) []) (C_law_uses : C8.Cal P w K mg base 1 "_law_uses" (sp_law_uses K A) []) (C_chain_answer : GX.CalX P w K mg base 5 "chain_answer" (sp_chain_answer K A)) : FnOk P w K mg base CX0 6 f fd ["chain", "lines", "copies", "page"] (sp_law_step K A) :=
  F.ok sc_law_step (fun vs H Q E h => ln_law_step h) (fun cdv Ar outer s H vs Q E hr h => ⟨t_law_step K A, (pss_cons (ps_set (i := 4) sc_law_step.nd rfl (by first | exact Or.inl rfl | exact Or.inr rfl) (pe_callTy call_list_of (by rfl) T.b_list (by decide +kernel) (pa_cons (pv 0) pa_nil)))
  (pss_cons (ps_set (i := 5) sc_law_step.nd rfl (by first | exact Or.inl rfl | exact Or.inr rfl) (GX.pe_cX C_chain_answer hr (by decide) (by rfl) passL (pa_cons (pv 4) (pa_cons (pv 1) (pa_cons (pv 2) (pa_cons (pv 3) pa_nil))))))
  (pss_cons (ps_if (PW.pt (pw_or (pt_cmpR (op_neD hr.units) (pv 4) (pv 0) (nomark _)) (pw_or (pt_not (pt_val (pe_callB call_isi (by rfl) T.b_isinstance (by decide +kernel) (pa_cons (pv 5) (pa_cons (pe_bltn (v := .ty "tuple") (by rfl) T.b_tuple (by decide +kernel) rfl) pa_nil))) (by intro _; rfl))) (pw_or1 (pt_cmpR op_ne (pe_callB call_len_seq (by rfl) T.b_len (by decide +kernel) (pa_cons (pv 5) pa_nil)) pe_int (nomark _)))))) (pss_one (ps_ret pe_non)) pss_nil)
  (pss_cons (ps_if (PW.pt (pw_or (pt_not (pt_val (pe_callB call_isi (by rfl) T.b_isinstance (by decide +kernel) (pa_cons (pe_ix ix_tup (pv 5) pe_int (fun _ _ => rfl)) (pa_cons (pe_bltn (v := .ty "tuple") (by rfl) T.b_tuple (by decide +kernel) rfl) pa_nil))) (by intro _; rfl))) (pw_or1 (pt_not (pt_val (C8.pe_c C_law_is_row hr (by decide) (by rfl) (pa_cons (pe_ix ix_tup (pv 5) pe_int (fun _ _ => rfl)) pa_nil)) (by intro _; rfl)))))) (pss_one (ps_ret pe_non)) pss_nil)
  (pss_cons (ps_if (PW.pt (pw_or (pt_not (pt_val (pe_callB call_isi (by rfl) T.b_isinstance (by decide +kernel) (pa_cons (pe_ix ix_tup (pv 5) pe_int (fun _ _ => rfl)) (pa_cons (pe_bltn (v := .ty "list") (by rfl) T.b_list (by decide +kernel) rfl) pa_nil))) (by intro _; rfl))) (pw_or1 (pt_not (pt_val (C8.pe_c C_law_is_row hr (by decide) (by rfl) (pa_cons (pe_ix ix_tup (pv 5) pe_int (fun _ _ => rfl)) pa_nil)) (by intro _; rfl)))))) (pss_one (ps_ret pe_non)) pss_nil)
  (pss_cons (ps_set (i := 6) sc_law_step.nd rfl (by first | exact Or.inl rfl | exact Or.inr rfl) (pe_callTy call_list_of (by rfl) T.b_list (by decide +kernel) (pa_cons (pe_ix ix_tup (pv 5) pe_int (fun _ _ => rfl)) pa_nil)))
  (pss_cons (ps_if (PW.pt (pw_or (pt_cmpR (op_neD hr.units) (pv 6) (pe_lc (own := [("place", 7)]) (g := (gName 7)) (tt := (tTest (tOp (rIn K false) (tVar 7) (tVar 6)))) rfl sc_law_step.nd (pi_range1 (by rfl) T.b_range (pa_cons (pe_callB call_len_seq (by rfl) T.b_len (by decide +kernel) (pa_cons (pv 0) pa_nil)) pa_nil)) (blkOk_by (own := [("place", 7)]) (N := ["chain", "lines", "copies", "page", "handed", "told", "copied", "place", "uses"]) (sc := defScope s_law_step) (by decide +kernel)) (fun _ _ _ _ _ => (pg_name (i := 7) sc_law_step.nd rfl (by first | exact Or.inl rfl | exact Or.inr rfl))) (fun _ _ _ _ _ => (pts_one (pt_cmpR op_in_seq (pv 7) (pv 6) (by rfl)))) (fun _ _ _ _ _ => (pv 7))) (nomark _)) (pw_or1 (pt_cmpR op_gt (pe_callB call_len_seq (by rfl) T.b_len (by decide +kernel) (pa_cons (pv 6) pa_nil)) (pv 2) (nomark _))))) (pss_one (ps_ret pe_non)) pss_nil)
  (pss_cons (ps_set (i := 8) sc_law_step.nd rfl (by first | exact Or.inl rfl | exact Or.inr rfl) (C8.pe_c C_law_uses hr (by decide) (by rfl) (pa_cons (pe_callB call_len_seq (by rfl) T.b_len (by decide +kernel) (pa_cons (pv 0) pa_nil)) (pa_cons (pv 3) (pa_cons (pv 6) pa_nil)))))
  (pss_cons (ps_if (pt_val (pe_callB (cr_any rfl) (by rfl) T.b_any (by decide +kernel) (pa_cons (pe_lc (own := [("place", 7)]) (g := (gName 7)) (tt := tYes) rfl sc_law_step.nd (pi_range1 (by rfl) T.b_range (pa_cons (pe_callB call_len_seq (by rfl) T.b_len (by decide +kernel) (pa_cons (pv 0) pa_nil)) pa_nil)) (blkOk_by (own := [("place", 7)]) (N := ["chain", "lines", "copies", "page", "handed", "told", "copied", "place", "uses"]) (sc := defScope s_law_step) (by decide +kernel)) (fun _ _ _ _ _ => (pg_name (i := 7) sc_law_step.nd rfl (by first | exact Or.inl rfl | exact Or.inr rfl))) (fun _ _ _ _ _ => pts_nil) (fun _ _ _ _ _ => (pe_cmpR op_gt (pe_ix ix_list (pv 8) (pv 7) (fun _ _ => rfl)) (pe_ix ix_list (pv 0) (pv 7) (fun _ _ => rfl)) (nomark _)))) pa_nil)) (by intro _; rfl)) (pss_one (ps_ret pe_non)) pss_nil)
  (pss_cons (ps_if (PW.pt (pw_or (pt_cmpR (op_neD hr.units) (pe_ix ix_tup (pv 5) pe_int (fun _ _ => rfl)) (C8.pe_c C_law_after hr (by decide) (by rfl) (pa_cons (pv 0) (pa_cons (pv 1) (pa_cons (pv 3) (pa_cons (pv 6) pa_nil))))) (nomark _)) (pw_or1 (pt_cmp (pc_notN (C8.pe_c C_law_lowest hr (by decide) (by rfl) (pa_cons (pe_ix ix_tup (pv 5) pe_int (fun _ _ => rfl)) (pa_cons (pv 2) pa_nil)))))))) (pss_one (ps_ret pe_non)) pss_nil)
  (pss_cons (ps_if (pt_cmpR op_ne (pe_cmpR (op_eqD hr.units) (pv 6) (pe_lst pa_nil) (nomark _)) (C8.pe_c C_law_quiet hr (by decide) (by rfl) (pa_cons (pv 0) (pa_cons (pv 2) (pa_cons (pv 3) pa_nil)))) (nomark _)) (pss_one (ps_ret pe_non)) pss_nil)
  (pss_cons (ps_if (pt_cmpR (op_neD hr.units) (pv 6) (C8.pe_c C_law_rules hr (by decide) (by rfl) (pa_cons (pv 0) (pa_cons (pv 1) (pa_cons (pv 2) (pa_cons (pv 3) pa_nil))))) (nomark _)) (pss_one (ps_ret pe_non)) pss_nil)
  (pss_one (ps_ret (pe_callTy call_list_of (by rfl) T.b_list (by decide +kernel) (pa_cons (pe_ix ix_tup (pv 5) pe_int (fun _ _ => rfl)) pa_nil)))))))))))))))), rd_law_step h⟩)
theorem bi_law_step {f : Addr} {fd : FuncData} (F : Fun K "_law_step" "_law_step" s_law_step f fd) : Binds K fd ["chain", "lines", "copies", "page"] [] := F.binds fun _ _ _ _ _ _ us hl => match us, hl with | [_, _, _, _], _ => rfl
abbrev s_law_next_page : Stmt := topS 32
theorem sc_law_next_page : FnScope ["script", "run", "way", "chain", "copies", "step", "fewest", "place", "found", "greatest"] ["script", "run", "way", "chain", "copies", "step"] (defScope s_law_next_page) := ⟨rfl, rfl, rfl, by decide +kernel, rfl, by decide +kernel, by decide +kernel⟩
theorem ln_law_next_page {vs : List V} {H : Hp} {Q : VK} {E : XK} (h : sp_law_next_page K A vs H Q E) : vs.length = 6 := by
  first | (obtain ⟨_, rfl, _⟩ := h; rfl) | (obtain ⟨_, _, rfl, _⟩ := h; rfl) | (obtain ⟨_, _, _, rfl, _⟩ := h; rfl) | (obtain ⟨_, _, _, _, rfl, _⟩ := h; rfl) | (obtain ⟨_, _, _, _, _, rfl, _⟩ := h; rfl) | (obtain ⟨_, _, _, _, _, _, rfl, _⟩ := h; rfl) | (obtain ⟨_, _, _, _, _, _, _, rfl, _⟩ := h; rfl) | (obtain ⟨_, _, _, _, _, _, _, _, rfl, _⟩ := h; rfl) | (obtain ⟨_, _, _, _, _, _, _, _, _, rfl, _⟩ := h; rfl) | (obtain ⟨_, _, _, _, _, _, _, _, _, _, rfl, _⟩ := h; rfl) | (obtain ⟨_, _, _, _, _, _, _, _, _, _, _, rfl, _⟩ := h; rfl) | (obtain ⟨_, _, _, _, _, _, _, _, _, _, _, _, rfl, _⟩ := h; rfl) | (obtain ⟨_, _, _, _, _, _, _, _, _, _, _, _, _, rfl, _⟩ := h; rfl) | (obtain ⟨_, _, _, _, _, _, _, _, _, _, _, _, _, _, rfl, _⟩ := h; rfl) | (obtain ⟨_, _, _, _, _, _, _, _, _, _, _, _, _, _, _, rfl, _⟩ := h; rfl) | (obtain ⟨_, _, _, _, _, _, _, _, _, _, _, _, _, _, _, _, rfl, _⟩ := h; rfl) | (obtain ⟨_, _, _, _, _, _, _, _, _, _, _, _, _, _, _, _, _, rfl, _⟩ := h; rfl) | (obtain ⟨_, _, _, _, _, _, _, _, _, _, _, _, _, _, _, _, _, _, rfl, _⟩ := h; rfl) | (obtain ⟨_, _, _, _, _, _, _, _, _, _, _, _, _, _, _, _, _, _, _, rfl, _⟩ := h; rfl)
theorem fn_law_next_page {f : Addr} {fd : FuncData} (F : Fun K "_law_next_page" "_law_next_page" s_law_next_page f fd) (T : Txt mg A) (C : CT K A) (C_law_heights : C8.Cal P w K mg base 2 "_law_heights" (sp_law_heights K A) []) (C_law_take : C8.Cal P w K mg base 1 "_law_take" (sp_law_take K A) []) : FnOk P w K mg base CX0 3 f fd ["script", "run", "way", "chain", "copies", "step"] (sp_law_next_page K A) :=
  F.ok sc_law_next_page (fun vs H Q E h => ln_law_next_page h) (fun cdv Ar outer s H vs Q E hr h => ⟨t_law_next_page K A, (pss_cons (ps_if (pt_cmpR op_eq (pv 2) pe_int (nomark _)) (pss_cons (ps_set (i := 6) sc_law_next_page.nd rfl (by first | exact Or.inl rfl | exact Or.inr rfl) (pe_callB (cr_min rfl) (by rfl) T.b_min (by decide +kernel) (pa_cons (pv 3) pa_nil)))
  (pss_one (ps_ret (pe_ix ix_list (pe_lc (own := [("place", 7)]) (g := (gName 7)) (tt := (tTest (tOp rEq (tOp (rIxL K) (tVar 3) (tVar 7)) (tVar 6)))) rfl sc_law_next_page.nd (pi_range1 (by rfl) T.b_range (pa_cons (pe_callB call_len_seq (by rfl) T.b_len (by decide +kernel) (pa_cons (pv 3) pa_nil)) pa_nil)) (blkOk_by (own := [("place", 7)]) (N := ["script", "run", "way", "chain", "copies", "step", "fewest", "place", "found", "greatest"]) (sc := defScope s_law_next_page) (by decide +kernel)) (fun _ _ _ _ _ => (pg_name (i := 7) sc_law_next_page.nd rfl (by first | exact Or.inl rfl | exact Or.inr rfl))) (fun _ _ _ _ _ => (pts_one (pt_cmpR op_eq (pe_ix ix_list (pv 3) (pv 7) (fun _ _ => rfl)) (pv 6) (nomark _)))) (fun _ _ _ _ _ => (pv 7))) (pe_un un_neg pe_int) (fun _ _ => rfl))))) pss_nil)
  (pss_cons (ps_if (pt_cmpR op_eq (pv 2) pe_int (nomark _)) (pss_cons (ps_set (i := 8) sc_law_next_page.nd rfl (by first | exact Or.inl rfl | exact Or.inr rfl) (C8.pe_c C_law_heights hr (by decide) (by rfl) (pa_cons (pv 3) (pa_cons (pv 4) pa_nil))))
  (pss_cons (ps_set (i := 9) sc_law_next_page.nd rfl (by first | exact Or.inl rfl | exact Or.inr rfl) (pe_callB (cr_max rfl) (by rfl) T.b_max (by decide +kernel) (pa_cons (pv 8) pa_nil)))
  (pss_one (ps_ret (pe_ix ix_list (pe_lc (own := [("place", 7)]) (g := (gName 7)) (tt := (tTest (tOp rEq (tOp (rIxL K) (tVar 8) (tVar 7)) (tVar 9)))) rfl sc_law_next_page.nd (pi_range1 (by rfl) T.b_range (pa_cons (pe_callB call_len_seq (by rfl) T.b_len (by decide +kernel) (pa_cons (pv 3) pa_nil)) pa_nil)) (blkOk_by (own := [("place", 7)]) (N := ["script", "run", "way", "chain", "copies", "step", "fewest", "place", "found", "greatest"]) (sc := defScope s_law_next_page) (by decide +kernel)) (fun _ _ _ _ _ => (pg_name (i := 7) sc_law_next_page.nd rfl (by first | exact Or.inl rfl | exact Or.inr rfl))) (fun _ _ _ _ _ => (pts_one (pt_cmpR op_eq (pe_ix ix_list (pv 8) (pv 7) (fun _ _ => rfl)) (pv 9) (nomark _)))) (fun _ _ _ _ _ => (pv 7))) (pe_un un_neg pe_int) (fun _ _ => rfl)))))) pss_nil)
  (pss_cons (ps_if (pt_cmpR op_lt (pe_op op_add (pv 5) pe_int) (pe_callB call_len_seq (by rfl) T.b_len (by decide +kernel) (pa_cons (pv 0) pa_nil)) (nomark _)) (pss_one (ps_ret (pe_op op_mod (pe_callTy call_int1 (by rfl) T.b_int (by decide +kernel) (pa_cons (pe_ix ix_list (pv 0) (pe_op op_add (pv 5) pe_int) (fun _ _ => rfl)) pa_nil)) (pe_callB call_len_seq (by rfl) T.b_len (by decide +kernel) (pa_cons (pv 3) pa_nil))))) pss_nil)
  (pss_one (ps_ret (C8.pe_c C_law_take hr (by decide) (by rfl) (pa_cons (pv 1) (pa_cons (pe_callB call_len_seq (by rfl) T.b_len (by decide +kernel) (pa_cons (pv 3) pa_nil)) pa_nil)))))))), rd_law_next_page h⟩)
theorem bi_law_next_page {f : Addr} {fd : FuncData} (F : Fun K "_law_next_page" "_law_next_page" s_law_next_page f fd) : Binds K fd ["script", "run", "way", "chain", "copies", "step"] [] := F.binds fun _ _ _ _ _ _ us hl => match us, hl with | [_, _, _, _, _, _], _ => rfl
abbrev s_law_is_refusal : Stmt := topS 33
theorem sc_law_is_refusal : FnScope ["raised"] ["raised"] (defScope s_law_is_refusal) := ⟨rfl, rfl, rfl, by decide +kernel, rfl, by decide +kernel, by decide +kernel⟩
theorem fnh_law_is_refusal {f : Addr} {fd : FuncData} (F : Fun K "_law_is_refusal" "_law_is_refusal" s_law_is_refusal f fd) (T : Txt mg A) (C : CT K A) : GX.FnG P w K mg base 1 f fd ["raised"] (sph_law_is_refusal K A) :=
  F.okG sc_law_is_refusal (fun a c d vs H Q h => by
    obtain ⟨_, _, _, rfl, _⟩ := h; rfl) (fun cdv Ar outer s H vs Q p hp h => ⟨t_law_is_refusal K A p.1 p.2.cls p.2.dict, (pss_cons (ps_if (pt_val (pe_callB (GX.call_isG hp) (by rfl) T.b_isinstance (by decide +kernel) (pa_cons (pv 0) (pa_cons (pe_glob (v := .ref A.LotError) (by rfl) T.g_LotError rfl) pa_nil))) (by intro _; rfl)) (pss_one (ps_ret pe_bl)) pss_nil)
  (pss_one (ps_ret (pe_and (pe_callB (GX.call_isG hp) (by rfl) T.b_isinstance (by decide +kernel) (pa_cons (pv 0) (pa_cons (pe_glob (v := .ref A.OnecopyError) (by rfl) T.g_OnecopyError rfl) pa_nil))) (pe_one (pe_callB (GX.call_isG hp) (by rfl) T.b_isinstance (by decide +kernel) (pa_cons (pv 0) (pa_cons (pe_bltn (v := .ty "ValueError") (by rfl) T.b_ValueError (by decide +kernel) rfl) pa_nil)))))))), rd_law_is_refusal C h⟩)
theorem bi_law_is_refusal {f : Addr} {fd : FuncData} (F : Fun K "_law_is_refusal" "_law_is_refusal" s_law_is_refusal f fd) : Binds K fd ["raised"] [] := F.binds fun _ _ _ _ _ _ us hl => match us, hl with | [_], _ => rfl
abbrev s_law_refused : Stmt := topS 34
theorem sc_law_refused : FnScope ["chain", "lines", "copies", "page", "handed", "told", "raised"] ["chain", "lines", "copies", "page"] (defScope s_law_refused) := ⟨rfl, rfl, rfl, by decide +kernel, rfl, by decide +kernel, by decide +kernel⟩
theorem ln_law_refused {vs : List V} {H : Hp} {Q : VK} {E : XK} (h : sp_law_refused K A vs H Q E) : vs.length = 4 := by
  first | (obtain ⟨_, rfl, _⟩ := h; rfl) | (obtain ⟨_, _, rfl, _⟩ := h; rfl) | (obtain ⟨_, _, _, rfl, _⟩ := h; rfl) | (obtain ⟨_, _, _, _, rfl, _⟩ := h; rfl) | (obtain ⟨_, _, _, _, _, rfl, _⟩ := h; rfl) | (obtain ⟨_, _, _, _, _, _, rfl, _⟩ := h; rfl) | (obtain ⟨_, _, _, _, _, _, _, rfl, _⟩ := h; rfl) | (obtain ⟨_, _, _, _, _, _, _, _, rfl, _⟩ := h; rfl) | (obtain ⟨_, _, _, _, _, _, _, _, _, rfl, _⟩ := h; rfl) | (obtain ⟨_, _, _, _, _, _, _, _, _, _, rfl, _⟩ := h; rfl) | (obtain ⟨_, _, _, _, _, _, _, _, _, _, _, rfl, _⟩ := h; rfl) | (obtain ⟨_, _, _, _, _, _, _, _, _, _, _, _, rfl, _⟩ := h; rfl) | (obtain ⟨_, _, _, _, _, _, _, _, _, _, _, _, _, rfl, _⟩ := h; rfl) | (obtain ⟨_, _, _, _, _, _, _, _, _, _, _, _, _, _, rfl, _⟩ := h; rfl) | (obtain ⟨_, _, _, _, _, _, _, _, _, _, _, _, _, _, _, rfl, _⟩ := h; rfl) | (obtain ⟨_, _, _, _, _, _, _, _, _, _, _, _, _, _, _, _, rfl, _⟩ := h; rfl) | (obtain ⟨_, _, _, _, _, _, _, _, _, _, _, _, _, _, _, _, _, rfl, _⟩ := h; rfl) | (obtain ⟨_, _, _, _, _, _, _, _, _, _, _, _, _, _, _, _, _, _, rfl, _⟩ := h; rfl) | (obtain ⟨_, _, _, _, _, _, _, _, _, _, _, _, _, _, _, _, _, _, _, rfl, _⟩ := h; rfl)
theorem fn_law_refused {f : Addr} {fd : FuncData} (F : Fun K "_law_refused" "_law_refused" s_law_refused f fd) (T : Txt mg A) (C : CT K A) (Ch_law_is_integer : GX.HotX P w K mg base 1 "_law_is_integer" (fun _ _ _ => sp_law_is_integer K A)) (Ch_law_is_refusal : GX.HotX P w K mg base 1 "_law_is_refusal" (sph_law_is_refusal K A)) (C_chain_answer : GX.CalX P w K mg base 5 "chain_answer" (sp_chain_answer K A)) : FnOk P w K mg base CX0 6 f fd ["chain", "lines", "copies", "page"] (sp_law_refused K A) :=
  F.ok sc_law_refused (fun vs H Q E h => ln_law_refused h) (fun cdv Ar outer s H vs Q E hr h => ⟨t_law_refused K A, (pss_cons (ps_set (i := 4) sc_law_refused.nd rfl (by first | exact Or.inl rfl | exact Or.inr rfl) (pe_callTy call_list_of (by rfl) T.b_list (by decide +kernel) (pa_cons (pv 0) pa_nil)))
  (pss_cons (ps_set (i := 5) sc_law_refused.nd rfl (by first | exact Or.inl rfl | exact Or.inr rfl) pe_non)
  (pss_cons (GY.ps_try_manyAs (tb := fun W => (tDrop (GX.tCallS (sp_chain_answer K A) (WE W) (tCons (tVar 4) (tCons (tVar 1) (tCons (tVar 2) (tCons (tVar 3) tNil))))))) (l := [(.ref A.NoPage, 6, fun a cls d => (tIfS (tAnd (tB (GX.tCallG (sph_law_is_refusal K A a cls d) (tCons (tVar 6) tNil))) (tAnd (tNot (tB (tCB (GX.rIsX K a cls d) (tCons (tVar 6) (tCons (tC (.ref A.NotKeepable)) tNil))))) (tB (GX.tCallG (sp_law_is_integer K A) (tCons (tXf a cls d A.NoPage "page" (tVar 6)) tNil))))) (tAsg (tTup (tCons (tC (.str "page")) (tCons (tXf a cls d A.NoPage "page" (tVar 6)) tNil))) (gName 5)) tNext)), (.ref A.NotKeepable, 6, fun a cls d => (tIfS (tAnd (tB (GX.tCallG (sph_law_is_refusal K A a cls d) (tCons (tVar 6) tNil))) (tAnd (tNot (tB (tCB (GX.rIsX K a cls d) (tCons (tVar 6) (tCons (tC (.ref A.NoPage)) tNil))))) (tB (GX.tCallG (sp_law_is_integer K A) (tCons (tXf a cls d A.NotKeepable "page" (tVar 6)) tNil))))) (tAsg (tTup (tCons (tC (.str "lost")) (tCons (tXf a cls d A.NotKeepable "page" (tVar 6)) tNil))) (gName 5)) tNext))]) rfl rfl sc_law_refused.nd takes0
  (fun W pn xe tk _ => (pss_one (ps_expr (GX.pe_cXT C_chain_answer hr (by decide) (by rfl) tk (pa_cons (pv 4) (pa_cons (pv 1) (pa_cons (pv 2) (pa_cons (pv 3) pa_nil))))))))
  (.cons rfl rfl ⟨rfl, by decide, Or.inl T.g_NoPage⟩ (fun a oe cls d pn hz hf => (pss_one (ps_if (PW.pt (pw_and (pt_val (GX.pe_callG (sp := sph_law_is_refusal K A) Ch_law_is_refusal hr (by decide) hz hf (by rfl) (pa_cons (pv 6) pa_nil)) (by intro _; rfl)) (pw_and (pt_not (pt_val (pe_callB (GX.call_isX hz hf) (by rfl) T.b_isinstance (by decide +kernel) (pa_cons (pv 6) (pa_cons (pe_glob (v := .ref A.NotKeepable) (by rfl) T.g_NotKeepable rfl) pa_nil))) (by intro _; rfl))) (pw_and1 (pt_val (GX.pe_callG (sp := fun _ _ _ => sp_law_is_integer K A) Ch_law_is_integer hr (by decide) hz hf (by rfl) (pa_cons (pe_xf C.xf_NoPage C.f_NoPage_page hz hf (pv 6)) pa_nil)) (by intro _; rfl)))))) (pss_one (ps_set (i := 5) sc_law_refused.nd rfl (by first | exact Or.inl rfl | exact Or.inr rfl) (pe_tup (pa_cons pe_str (pa_cons (pe_xf C.xf_NoPage C.f_NoPage_page hz hf (pv 6)) pa_nil))))) pss_nil)))
  (.cons rfl rfl ⟨rfl, by decide, Or.inl T.g_NotKeepable⟩ (fun a oe cls d pn hz hf => (pss_one (ps_if (PW.pt (pw_and (pt_val (GX.pe_callG (sp := sph_law_is_refusal K A) Ch_law_is_refusal hr (by decide) hz hf (by rfl) (pa_cons (pv 6) pa_nil)) (by intro _; rfl)) (pw_and (pt_not (pt_val (pe_callB (GX.call_isX hz hf) (by rfl) T.b_isinstance (by decide +kernel) (pa_cons (pv 6) (pa_cons (pe_glob (v := .ref A.NoPage) (by rfl) T.g_NoPage rfl) pa_nil))) (by intro _; rfl))) (pw_and1 (pt_val (GX.pe_callG (sp := fun _ _ _ => sp_law_is_integer K A) Ch_law_is_integer hr (by decide) hz hf (by rfl) (pa_cons (pe_xf C.xf_NotKeepable C.f_NotKeepable_page hz hf (pv 6)) pa_nil)) (by intro _; rfl)))))) (pss_one (ps_set (i := 5) sc_law_refused.nd rfl (by first | exact Or.inl rfl | exact Or.inr rfl) (pe_tup (pa_cons pe_str (pa_cons (pe_xf C.xf_NotKeepable C.f_NotKeepable_page hz hf (pv 6)) pa_nil))))) pss_nil)))
  .nil)))
  (pss_cons (ps_if (pt_cmpR (op_neD hr.units) (pv 4) (pv 0) (nomark _)) (pss_one (ps_ret pe_non)) pss_nil)
  (pss_one (ps_ret (pv 5))))))), rd_law_refused C h⟩)
theorem bi_law_refused {f : Addr} {fd : FuncData} (F : Fun K "_law_refused" "_law_refused" s_law_refused f fd) : Binds K fd ["chain", "lines", "copies", "page"] [] := F.binds fun _ _ _ _ _ _ us hl => match us, hl with | [_, _, _, _], _ => rfl
abbrev s_law_refusals : Stmt := topS 35
theorem sc_law_refusals : FnScope ["script", "chain", "lines", "copies", "bag", "lost", "blank", "page"] ["script", "chain", "lines", "copies"] (defScope s_law_refusals) := ⟨rfl, rfl, rfl, by decide +kernel, rfl, by decide +kernel, by decide +kernel⟩
theorem ln_law_refusals {vs : List V} {H : Hp} {Q : VK} {E : XK} (h : sp_law_refusals K A vs H Q E) : vs.length = 4 := by
  first | (obtain ⟨_, rfl, _⟩ := h; rfl) | (obtain ⟨_, _, rfl, _⟩ := h; rfl) | (obtain ⟨_, _, _, rfl, _⟩ := h; rfl) | (obtain ⟨_, _, _, _, rfl, _⟩ := h; rfl) | (obtain ⟨_, _, _, _, _, rfl, _⟩ := h; rfl) | (obtain ⟨_, _, _, _, _, _, rfl, _⟩ := h; rfl) | (obtain ⟨_, _, _, _, _, _, _, rfl, _⟩ := h; rfl) | (obtain ⟨_, _, _, _, _, _, _, _, rfl, _⟩ := h; rfl) | (obtain ⟨_, _, _, _, _, _, _, _, _, rfl, _⟩ := h; rfl) | (obtain ⟨_, _, _, _, _, _, _, _, _, _, rfl, _⟩ := h; rfl) | (obtain ⟨_, _, _, _, _, _, _, _, _, _, _, rfl, _⟩ := h; rfl) | (obtain ⟨_, _, _, _, _, _, _, _, _, _, _, _, rfl, _⟩ := h; rfl) | (obtain ⟨_, _, _, _, _, _, _, _, _, _, _, _, _, rfl, _⟩ := h; rfl) | (obtain ⟨_, _, _, _, _, _, _, _, _, _, _, _, _, _, rfl, _⟩ := h; rfl) | (obtain ⟨_, _, _, _, _, _, _, _, _, _, _, _, _, _, _, rfl, _⟩ := h; rfl) | (obtain ⟨_, _, _, _, _, _, _, _, _, _, _, _, _, _, _, _, rfl, _⟩ := h; rfl) | (obtain ⟨_, _, _, _, _, _, _, _, _, _, _, _, _, _, _, _, _, rfl, _⟩ := h; rfl) | (obtain ⟨_, _, _, _, _, _, _, _, _, _, _, _, _, _, _, _, _, _, rfl, _⟩ := h; rfl) | (obtain ⟨_, _, _, _, _, _, _, _, _, _, _, _, _, _, _, _, _, _, _, rfl, _⟩ := h; rfl)
theorem fn_law_refusals {f : Addr} {fd : FuncData} (F : Fun K "_law_refusals" "_law_refusals" s_law_refusals f fd) (T : Txt mg A) (C : CT K A) (C_law_bag : C8.Cal P w K mg base 1 "_law_bag" (sp_law_bag K A) []) (C_law_lost_chain : C8.Cal P w K mg base 3 "_law_lost_chain" (sp_law_lost_chain K A) []) (C_law_lowest : C8.Cal P w K mg base 3 "_law_lowest" (sp_law_lowest K A) []) (C_law_refused : C8.Cal P w K mg base 6 "_law_refused" (sp_law_refused K A) []) (C_law_take : C8.Cal P w K mg base 1 "_law_take" (sp_law_take K A) []) : FnOk P w K mg base CX0 7 f fd ["script", "chain", "lines", "copies"] (sp_law_refusals K A) :=
  F.ok sc_law_refusals (fun vs H Q E h => ln_law_refusals h) (fun cdv Ar outer s H vs Q E hr h => ⟨t_law_refusals K A, (pss_cons (ps_set (i := 4) sc_law_refusals.nd rfl (by first | exact Or.inl rfl | exact Or.inr rfl) (C8.pe_c C_law_bag hr (by decide) (by rfl) (pa_cons (pv 0) (pa_cons pe_int pa_nil))))
  (pss_cons (ps_set (i := 5) sc_law_refusals.nd rfl (by first | exact Or.inl rfl | exact Or.inr rfl) (C8.pe_c C_law_lost_chain hr (by decide) (by rfl) (pa_cons (pv 4) (pa_cons (pv 2) (pa_cons (pv 3) pa_nil)))))
  (pss_cons (ps_for PassesOwn.never rfl (pi_list (pe_lst (pa_cons (pv 1) (pa_cons (pv 5) pa_nil)))) (pg_name (i := 6) sc_law_refusals.nd rfl (by first | exact Or.inl rfl | exact Or.inr rfl))
  (pss_one (ps_for PassesOwn.never rfl (pi_list (pe_lst (pa_cons (pe_callB call_len_seq (by rfl) T.b_len (by decide +kernel) (pa_cons (pv 6) pa_nil)) (pa_cons (pe_op op_add (pe_op op_add (pe_callB call_len_seq (by rfl) T.b_len (by decide +kernel) (pa_cons (pv 6) pa_nil)) pe_int) (C8.pe_c C_law_take hr (by decide) (by rfl) (pa_cons (pv 4) (pa_cons pe_int pa_nil)))) (pa_cons (pe_op op_sub (pe_op op_sub pe_int pe_int) (C8.pe_c C_law_take hr (by decide) (by rfl) (pa_cons (pv 4) (pa_cons (pe_callB call_len_seq (by rfl) T.b_len (by decide +kernel) (pa_cons (pv 6) pa_nil)) pa_nil)))) pa_nil))))) (pg_name (i := 7) sc_law_refusals.nd rfl (by first | exact Or.inl rfl | exact Or.inr rfl))
  (pss_one (ps_if (pt_cmpR (op_neD hr.units) (C8.pe_c C_law_refused hr (by decide) (by rfl) (pa_cons (pv 6) (pa_cons (pv 2) (pa_cons (pv 3) (pa_cons (pv 7) pa_nil))))) (pe_tup (pa_cons pe_str (pa_cons (pv 7) pa_nil))) (nomark _)) (pss_one (ps_ret pe_bl)) pss_nil)))))
  (pss_cons (ps_for PassesOwn.never rfl (pi_list (pe_lst (pa_cons pe_int (pa_cons (pe_op op_sub pe_int pe_int) pa_nil)))) (pg_name (i := 7) sc_law_refusals.nd rfl (by first | exact Or.inl rfl | exact Or.inr rfl))
  (pss_one (ps_if (pt_cmpR (op_neD hr.units) (C8.pe_c C_law_refused hr (by decide) (by rfl) (pa_cons (pe_lst pa_nil) (pa_cons (pv 2) (pa_cons (pv 3) (pa_cons (pv 7) pa_nil))))) (pe_tup (pa_cons pe_str (pa_cons (pv 7) pa_nil))) (nomark _)) (pss_one (ps_ret pe_bl)) pss_nil)))
  (pss_cons (ps_for PassesOwn.never rfl (pi_list (pe_lst (pa_cons pe_int (pa_cons (C8.pe_c C_law_take hr (by decide) (by rfl) (pa_cons (pv 4) (pa_cons (pe_callB call_len_seq (by rfl) T.b_len (by decide +kernel) (pa_cons (pv 5) pa_nil)) pa_nil))) (pa_cons (pe_op op_sub (pe_callB call_len_seq (by rfl) T.b_len (by decide +kernel) (pa_cons (pv 5) pa_nil)) pe_int) pa_nil))))) (pg_name (i := 7) sc_law_refusals.nd rfl (by first | exact Or.inl rfl | exact Or.inr rfl))
  (pss_one (ps_if (pt_cmpR (op_neD hr.units) (C8.pe_c C_law_refused hr (by decide) (by rfl) (pa_cons (pv 5) (pa_cons (pv 2) (pa_cons (pv 3) (pa_cons (pv 7) pa_nil))))) (pe_tup (pa_cons pe_str (pa_cons (C8.pe_c C_law_lowest hr (by decide) (by rfl) (pa_cons (pv 5) (pa_cons (pv 3) pa_nil))) pa_nil))) (nomark _)) (pss_one (ps_ret pe_bl)) pss_nil)))
  (pss_one (ps_ret pe_bl))))))), rd_law_refusals h⟩)
theorem bi_law_refusals {f : Addr} {fd : FuncData} (F : Fun K "_law_refusals" "_law_refusals" s_law_refusals f fd) : Binds K fd ["script", "chain", "lines", "copies"] [] := F.binds fun _ _ _ _ _ _ us hl => match us, hl with | [_, _, _, _], _ => rfl
abbrev s_law : Stmt := topS 36
theorem sc_law : FnScope ["script", "bag", "lines", "copies", "size", "way", "chain", "run", "step"] ["script"] (defScope s_law) := ⟨rfl, rfl, rfl, by decide +kernel, rfl, by decide +kernel, by decide +kernel⟩
theorem ln_law {vs : List V} {H : Hp} {Q : VK} {E : XK} (h : sp_law K A vs H Q E) : vs.length = 1 := by
  first | (obtain ⟨_, rfl, _⟩ := h; rfl) | (obtain ⟨_, _, rfl, _⟩ := h; rfl) | (obtain ⟨_, _, _, rfl, _⟩ := h; rfl) | (obtain ⟨_, _, _, _, rfl, _⟩ := h; rfl) | (obtain ⟨_, _, _, _, _, rfl, _⟩ := h; rfl) | (obtain ⟨_, _, _, _, _, _, rfl, _⟩ := h; rfl) | (obtain ⟨_, _, _, _, _, _, _, rfl, _⟩ := h; rfl) | (obtain ⟨_, _, _, _, _, _, _, _, rfl, _⟩ := h; rfl) | (obtain ⟨_, _, _, _, _, _, _, _, _, rfl, _⟩ := h; rfl) | (obtain ⟨_, _, _, _, _, _, _, _, _, _, rfl, _⟩ := h; rfl) | (obtain ⟨_, _, _, _, _, _, _, _, _, _, _, rfl, _⟩ := h; rfl) | (obtain ⟨_, _, _, _, _, _, _, _, _, _, _, _, rfl, _⟩ := h; rfl) | (obtain ⟨_, _, _, _, _, _, _, _, _, _, _, _, _, rfl, _⟩ := h; rfl) | (obtain ⟨_, _, _, _, _, _, _, _, _, _, _, _, _, _, rfl, _⟩ := h; rfl) | (obtain ⟨_, _, _, _, _, _, _, _, _, _, _, _, _, _, _, rfl, _⟩ := h; rfl) | (obtain ⟨_, _, _, _, _, _, _, _, _, _, _, _, _, _, _, _, rfl, _⟩ := h; rfl) | (obtain ⟨_, _, _, _, _, _, _, _, _, _, _, _, _, _, _, _, _, rfl, _⟩ := h; rfl) | (obtain ⟨_, _, _, _, _, _, _, _, _, _, _, _, _, _, _, _, _, _, rfl, _⟩ := h; rfl) | (obtain ⟨_, _, _, _, _, _, _, _, _, _, _, _, _, _, _, _, _, _, _, rfl, _⟩ := h; rfl)
theorem fn_law {f : Addr} {fd : FuncData} (F : Fun K "law" "law" s_law f fd) (T : Txt mg A) (C : CT K A) (C_law_bag : C8.Cal P w K mg base 1 "_law_bag" (sp_law_bag K A) []) (C_law_copies : C8.Cal P w K mg base 2 "_law_copies" (sp_law_copies K A) []) (C_law_kept_chain : C8.Cal P w K mg base 4 "_law_kept_chain" (sp_law_kept_chain K A) []) (C_law_next_page : C8.Cal P w K mg base 3 "_law_next_page" (sp_law_next_page K A) []) (C_law_refusals : C8.Cal P w K mg base 7 "_law_refusals" (sp_law_refusals K A) []) (C_law_step : C8.Cal P w K mg base 6 "_law_step" (sp_law_step K A) []) (C_law_take : C8.Cal P w K mg base 1 "_law_take" (sp_law_take K A) []) : FnOk P w K mg base CX0 8 f fd ["script"] (sp_law K A) :=
  F.ok sc_law (fun vs H Q E h => ln_law h) (fun cdv Ar outer s H vs Q E hr h => ⟨t_law K A, (pss_cons (ps_set (i := 1) sc_law.nd rfl (by first | exact Or.inl rfl | exact Or.inr rfl) (C8.pe_c C_law_bag hr (by decide) (by rfl) (pa_cons (pv 0) (pa_cons pe_int pa_nil))))
  (pss_cons (ps_set (i := 2) sc_law.nd rfl (by first | exact Or.inl rfl | exact Or.inr rfl) (pe_op op_add pe_int (C8.pe_c C_law_take hr (by decide) (by rfl) (pa_cons (pv 1) (pa_cons pe_int pa_nil)))))
  (pss_cons (ps_if (pt_cmpR op_eq (C8.pe_c C_law_take hr (by decide) (by rfl) (pa_cons (pv 1) (pa_cons pe_int pa_nil))) pe_int (nomark _)) (pss_one (ps_set (i := 2) sc_law.nd rfl (by first | exact Or.inl rfl | exact Or.inr rfl) (pe_op op_add pe_int (C8.pe_c C_law_take hr (by decide) (by rfl) (pa_cons (pv 1) (pa_cons pe_int pa_nil)))))) pss_nil)
  (pss_cons (ps_set (i := 3) sc_law.nd rfl (by first | exact Or.inl rfl | exact Or.inr rfl) (C8.pe_c C_law_copies hr (by decide) (by rfl) (pa_cons (pv 1) pa_nil)))
  (pss_cons (ps_set (i := 4) sc_law.nd rfl (by first | exact Or.inl rfl | exact Or.inr rfl) (pe_op op_add pe_int (C8.pe_c C_law_take hr (by decide) (by rfl) (pa_cons (pv 1) (pa_cons pe_int pa_nil)))))
  (pss_cons (ps_if (pt_cmpR op_eq (C8.pe_c C_law_take hr (by decide) (by rfl) (pa_cons (pv 1) (pa_cons pe_int pa_nil))) pe_int (nomark _)) (pss_one (ps_set (i := 4) sc_law.nd rfl (by first | exact Or.inl rfl | exact Or.inr rfl) (pe_op op_add pe_int (C8.pe_c C_law_take hr (by decide) (by rfl) (pa_cons (pv 1) (pa_cons pe_int pa_nil)))))) pss_nil)
  (pss_cons (ps_set (i := 5) sc_law.nd rfl (by first | exact Or.inl rfl | exact Or.inr rfl) (C8.pe_c C_law_take hr (by decide) (by rfl) (pa_cons (pv 1) (pa_cons pe_int pa_nil))))
  (pss_cons (ps_set (i := 6) sc_law.nd rfl (by first | exact Or.inl rfl | exact Or.inr rfl) (C8.pe_c C_law_kept_chain hr (by decide) (by rfl) (pa_cons (C8.pe_c C_law_bag hr (by decide) (by rfl) (pa_cons (pv 0) (pa_cons pe_int pa_nil))) (pa_cons (pv 2) (pa_cons (pv 3) (pa_cons (pv 4) pa_nil))))))
  (pss_cons (ps_if (pt_not (pt_val (C8.pe_c C_law_refusals hr (by decide) (by rfl) (pa_cons (pv 0) (pa_cons (pv 6) (pa_cons (pv 2) (pa_cons (pv 3) pa_nil))))) (by intro _; rfl))) (pss_one (ps_ret pe_bl)) pss_nil)
  (pss_cons (ps_set (i := 7) sc_law.nd rfl (by first | exact Or.inl rfl | exact Or.inr rfl) (C8.pe_c C_law_bag hr (by decide) (by rfl) (pa_cons (pv 0) (pa_cons pe_int pa_nil))))
  (pss_cons (ps_for PassesOwn.never rfl (pi_range1 (by rfl) T.b_range (pa_cons (pe_op op_add pe_int (C8.pe_c C_law_take hr (by decide) (by rfl) (pa_cons (pv 7) (pa_cons pe_int pa_nil)))) pa_nil)) (pg_name (i := 8) sc_law.nd rfl (by first | exact Or.inl rfl | exact Or.inr rfl))
  (pss_cons (ps_set (i := 6) sc_law.nd rfl (by first | exact Or.inl rfl | exact Or.inr rfl) (C8.pe_c C_law_step hr (by decide) (by rfl) (pa_cons (pv 6) (pa_cons (pv 2) (pa_cons (pv 3) (pa_cons (C8.pe_c C_law_next_page hr (by decide) (by rfl) (pa_cons (pv 0) (pa_cons (pv 7) (pa_cons (pv 5) (pa_cons (pv 6) (pa_cons (pv 3) (pa_cons (pv 8) pa_nil))))))) pa_nil))))))
  (pss_one (ps_if (pt_cmp (pc_isN (pv 6))) (pss_one (ps_ret pe_bl)) pss_nil))))
  (pss_one (ps_ret pe_bl))))))))))))), rd_law h⟩)
theorem bi_law {f : Addr} {fd : FuncData} (F : Fun K "law" "law" s_law f fd) : Binds K fd ["script"] [] := F.binds fun _ _ _ _ _ _ us hl => match us, hl with | [_], _ => rfl

/-! ### the head: facts by names, the run -/
def d_NoPage_init : He.DefD := ⟨("NoPage", some "__init__"), "__init__", "NoPage.__init__", defArgs s_NoPage_init, defBody s_NoPage_init, defScope s_NoPage_init, [], []⟩
def d_NotKeepable_init : He.DefD := ⟨("NotKeepable", some "__init__"), "__init__", "NotKeepable.__init__", defArgs s_NotKeepable_init, defBody s_NotKeepable_init, defScope s_NotKeepable_init, [], []⟩
def d_height_over : He.DefD := ⟨("height_over", none), "height_over", "height_over", defArgs s_height_over, defBody s_height_over, defScope s_height_over, [], []⟩
def d_heights : He.DefD := ⟨("heights", none), "heights", "heights", defArgs s_heights, defBody s_heights, defScope s_heights, [], []⟩
def d_lowest_too_high : He.DefD := ⟨("_lowest_too_high", none), "_lowest_too_high", "_lowest_too_high", defArgs s_lowest_too_high, defBody s_lowest_too_high, defScope s_lowest_too_high, [], []⟩
def d_after_copies : He.DefD := ⟨("_after_copies", none), "_after_copies", "_after_copies", defArgs s_after_copies, defBody s_after_copies, defScope s_after_copies, [], []⟩
def d_with_empty_above : He.DefD := ⟨("_with_empty_above", none), "_with_empty_above", "_with_empty_above", defArgs s_with_empty_above, defBody s_with_empty_above, defScope s_with_empty_above, [], []⟩
def d_first_copied : He.DefD := ⟨("_first_copied", none), "_first_copied", "_first_copied", defArgs s_first_copied, defBody s_first_copied, defScope s_first_copied, [], []⟩
def d_chain_answer : He.DefD := ⟨("chain_answer", none), "chain_answer", "chain_answer", defArgs s_chain_answer, defBody s_chain_answer, defScope s_chain_answer, [], []⟩
def d_law_is_integer : He.DefD := ⟨("_law_is_integer", none), "_law_is_integer", "_law_is_integer", defArgs s_law_is_integer, defBody s_law_is_integer, defScope s_law_is_integer, [], []⟩
def d_law_is_row : He.DefD := ⟨("_law_is_row", none), "_law_is_row", "_law_is_row", defArgs s_law_is_row, defBody s_law_is_row, defScope s_law_is_row, [], []⟩
def d_law_bag : He.DefD := ⟨("_law_bag", none), "_law_bag", "_law_bag", defArgs s_law_bag, defBody s_law_bag, defScope s_law_bag, [], []⟩
def d_law_take : He.DefD := ⟨("_law_take", none), "_law_take", "_law_take", defArgs s_law_take, defBody s_law_take, defScope s_law_take, [], []⟩
def d_law_copies : He.DefD := ⟨("_law_copies", none), "_law_copies", "_law_copies", defArgs s_law_copies, defBody s_law_copies, defScope s_law_copies, [], []⟩
def d_law_page : He.DefD := ⟨("_law_page", none), "_law_page", "_law_page", defArgs s_law_page, defBody s_law_page, defScope s_law_page, [], []⟩
def d_law_height : He.DefD := ⟨("_law_height", none), "_law_height", "_law_height", defArgs s_law_height, defBody s_law_height, defScope s_law_height, [], []⟩
def d_law_drawn_chain : He.DefD := ⟨("_law_drawn_chain", none), "_law_drawn_chain", "_law_drawn_chain", defArgs s_law_drawn_chain, defBody s_law_drawn_chain, defScope s_law_drawn_chain, [], []⟩
def d_law_kept_chain : He.DefD := ⟨("_law_kept_chain", none), "_law_kept_chain", "_law_kept_chain", defArgs s_law_kept_chain, defBody s_law_kept_chain, defScope s_law_kept_chain, [], []⟩
def d_law_lost_chain : He.DefD := ⟨("_law_lost_chain", none), "_law_lost_chain", "_law_lost_chain", defArgs s_law_lost_chain, defBody s_law_lost_chain, defScope s_law_lost_chain, [], []⟩
def d_law_heights : He.DefD := ⟨("_law_heights", none), "_law_heights", "_law_heights", defArgs s_law_heights, defBody s_law_heights, defScope s_law_heights, [], []⟩
def d_law_lowest : He.DefD := ⟨("_law_lowest", none), "_law_lowest", "_law_lowest", defArgs s_law_lowest, defBody s_law_lowest, defScope s_law_lowest, [], []⟩
def d_law_uses : He.DefD := ⟨("_law_uses", none), "_law_uses", "_law_uses", defArgs s_law_uses, defBody s_law_uses, defScope s_law_uses, [], []⟩
def d_law_after : He.DefD := ⟨("_law_after", none), "_law_after", "_law_after", defArgs s_law_after, defBody s_law_after, defScope s_law_after, [], []⟩
def d_law_rules : He.DefD := ⟨("_law_rules", none), "_law_rules", "_law_rules", defArgs s_law_rules, defBody s_law_rules, defScope s_law_rules, [], []⟩
def d_law_quiet : He.DefD := ⟨("_law_quiet", none), "_law_quiet", "_law_quiet", defArgs s_law_quiet, defBody s_law_quiet, defScope s_law_quiet, [], []⟩
def d_law_step : He.DefD := ⟨("_law_step", none), "_law_step", "_law_step", defArgs s_law_step, defBody s_law_step, defScope s_law_step, [], []⟩
def d_law_next_page : He.DefD := ⟨("_law_next_page", none), "_law_next_page", "_law_next_page", defArgs s_law_next_page, defBody s_law_next_page, defScope s_law_next_page, [], []⟩
def d_law_is_refusal : He.DefD := ⟨("_law_is_refusal", none), "_law_is_refusal", "_law_is_refusal", defArgs s_law_is_refusal, defBody s_law_is_refusal, defScope s_law_is_refusal, [], []⟩
def d_law_refused : He.DefD := ⟨("_law_refused", none), "_law_refused", "_law_refused", defArgs s_law_refused, defBody s_law_refused, defScope s_law_refused, [], []⟩
def d_law_refusals : He.DefD := ⟨("_law_refusals", none), "_law_refusals", "_law_refusals", defArgs s_law_refusals, defBody s_law_refusals, defScope s_law_refusals, [], []⟩
def d_law : He.DefD := ⟨("law", none), "law", "law", defArgs s_law, defBody s_law, defScope s_law, [], []⟩
def fnS : List He.DefD := [d_NoPage_init, d_NotKeepable_init, d_height_over, d_heights, d_lowest_too_high, d_after_copies, d_with_empty_above, d_first_copied, d_chain_answer, d_law_is_integer, d_law_is_row, d_law_bag, d_law_take, d_law_copies, d_law_page, d_law_height, d_law_drawn_chain, d_law_kept_chain, d_law_lost_chain, d_law_heights, d_law_lowest, d_law_uses, d_law_after, d_law_rules, d_law_quiet, d_law_step, d_law_next_page, d_law_is_refusal, d_law_refused, d_law_refusals, d_law]
def fa0 : List He.Fa := [.glo "height_over", .glo "heights", .glo "_lowest_too_high", .glo "_after_copies", .glo "_with_empty_above", .glo "_first_copied", .glo "chain_answer", .glo "_law_is_integer", .glo "_law_is_row", .glo "_law_bag", .glo "_law_take", .glo "_law_copies", .glo "_law_page", .glo "_law_height", .glo "_law_drawn_chain", .glo "_law_kept_chain", .glo "_law_lost_chain", .glo "_law_heights", .glo "_law_lowest", .glo "_law_uses", .glo "_law_after", .glo "_law_rules", .glo "_law_quiet", .glo "_law_step", .glo "_law_next_page", .glo "_law_is_refusal", .glo "_law_refused", .glo "_law_refusals", .glo "law", .glo "LotError"]
def fa1 : List He.Fa := [.glo "NoPage", .glo "NotKeepable", .glo "OnecopyError", .free "ValueError", .free "abs", .free "all", .free "any", .free "bool", .free "enumerate", .free "int", .free "isinstance", .free "len", .free "list", .free "max", .free "min", .free "range", .free "reversed", .free "sorted", .free "tuple"]
def faS : List He.Fa := fa0 ++ fa1
def exS : List GX.Ex := [.oex "NoPage", .oex "NotKeepable", .exc "NoPage", .exc "NotKeepable", .xf "NoPage", .xf "NotKeepable", .noat "NoPage" "page", .noat "NotKeepable" "page", .exm "NoPage" "NoPage" true, .exm "NotKeepable" "NotKeepable" true, .exm "NotKeepable" "NoPage" false, .kit "NoPage" "LotError" false, .kit "NoPage" "OnecopyError" true, .kit "NoPage" "NotKeepable" false, .kitT "NoPage" "ValueError" true, .kit "NotKeepable" "LotError" false, .kit "NotKeepable" "OnecopyError" true, .kit "NotKeepable" "NoPage" false, .kitT "NotKeepable" "ValueError" true, .ini "NoPage", .ini "NotKeepable"]
def looseS : List PySem.Str := (["OnecopyError", "LotError", "NoPage", "NotKeepable", "height_over", "heights", "_lowest_too_high", "_after_copies", "_with_empty_above", "_first_copied", "chain_answer", "_law_is_integer", "_law_is_row", "_law_bag", "_law_take", "_law_copies", "_law_page", "_law_height", "_law_drawn_chain", "_law_kept_chain", "_law_lost_chain", "_law_heights", "_law_lowest", "_law_uses", "_law_after", "_law_rules", "_law_quiet", "_law_step", "_law_next_page", "_law_is_refusal"] : List PySem.Str) ++ (["_law_refused", "_law_refusals"] : List PySem.Str)
abbrev RowS : PySem.W.OpenRow := PySem.W.OpenLaw.row PySem.Challenge.rw_onecopy_k26_whole_chain_keeper
abbrev hkS : PySem.W.Hook := GX.hookE 4 faS fnS exS
def obS (s : PySem.W.SharedT) : GX.AlE := GX.obsEG 4 faS fnS exS (HandSHeadRun.getT s)
theorem obS_eq (s : PySem.W.SharedT) : obS s = hkS.obs s.abs := GX.obsEG_eq (HandSHeadRun.getT_eq s)
theorem runS (w : World) : HandSHeadRun.RunEq RowS (PySem.W.view RowS.prog [36]) hkS obS 8000 looseS w := by
  intro os
  kernel_rfl
theorem factsS {P : Program} {w : World} {K : PySem.W.Frag} {h : Heap} {mg : Str → Option Value} {fa : Addr} (X : K.In h) (GN : h.Ns mainGlobals mg) (hfa : mg ("law" : Str) = some (.ref fa)) (c : GX.SaysE faS fnS exS K) :
    ∃ fd : FuncData, (∀ (s : Shared) (v : Value), BindsTo s fd ⟨[v], []⟩ [("script", v)]) ∧ ∀ base : Heap, K.In base → base.Ns mainGlobals mg → FnOk P w K mg base CX0 8 fa fd ["script"] (sp_law K ⟨He.ga K "LotError", He.ga K "NoPage", He.ga K "NotKeepable", He.ga K "OnecopyError"⟩) := by
  have T : Txt mg ⟨He.ga K "LotError", He.ga K "NoPage", He.ga K "NotKeepable", He.ga K "OnecopyError"⟩ := ⟨He.free_ok X GN (c.1.fact 33 (f := .free "ValueError") rfl), He.free_ok X GN (c.1.fact 34 (f := .free "abs") rfl), He.free_ok X GN (c.1.fact 35 (f := .free "all") rfl), He.free_ok X GN (c.1.fact 36 (f := .free "any") rfl), He.free_ok X GN (c.1.fact 37 (f := .free "bool") rfl), He.free_ok X GN (c.1.fact 38 (f := .free "enumerate") rfl), He.free_ok X GN (c.1.fact 39 (f := .free "int") rfl), He.free_ok X GN (c.1.fact 40 (f := .free "isinstance") rfl), He.free_ok X GN (c.1.fact 41 (f := .free "len") rfl), He.free_ok X GN (c.1.fact 42 (f := .free "list") rfl), He.free_ok X GN (c.1.fact 43 (f := .free "max") rfl), He.free_ok X GN (c.1.fact 44 (f := .free "min") rfl), He.free_ok X GN (c.1.fact 45 (f := .free "range") rfl), He.free_ok X GN (c.1.fact 46 (f := .free "reversed") rfl), He.free_ok X GN (c.1.fact 47 (f := .free "sorted") rfl), He.free_ok X GN (c.1.fact 48 (f := .free "tuple") rfl), He.glo_ok X GN (c.1.fact 29 (f := .glo "LotError") rfl), He.glo_ok X GN (c.1.fact 30 (f := .glo "NoPage") rfl), He.glo_ok X GN (c.1.fact 31 (f := .glo "NotKeepable") rfl), He.glo_ok X GN (c.1.fact 32 (f := .glo "OnecopyError") rfl)⟩
  have C : CT K ⟨He.ga K "LotError", He.ga K "NoPage", He.ga K "NotKeepable", He.ga K "OnecopyError"⟩ := ⟨GX.oex_ok (c.more 0 (e := .oex "NoPage") rfl), GX.oex_ok (c.more 1 (e := .oex "NotKeepable") rfl), GX.exc_ok (c.more 2 (e := .exc "NoPage") rfl), GX.exc_ok (c.more 3 (e := .exc "NotKeepable") rfl), GX.xf_ok (c.more 4 (e := .xf "NoPage") rfl), GX.xf_ok (c.more 5 (e := .xf "NotKeepable") rfl), GX.noat_ok (c.more 6 (e := .noat "NoPage" "page") rfl), GX.noat_ok (c.more 7 (e := .noat "NotKeepable" "page") rfl), GX.exm_ok (c.more 8 (e := .exm "NoPage" "NoPage" true) rfl), GX.exm_ok (c.more 9 (e := .exm "NotKeepable" "NotKeepable" true) rfl), GX.exm_ok (c.more 10 (e := .exm "NotKeepable" "NoPage" false) rfl), GX.kit_ok (c.more 11 (e := .kit "NoPage" "LotError" false) rfl), GX.kit_ok (c.more 12 (e := .kit "NoPage" "OnecopyError" true) rfl), GX.kit_ok (c.more 13 (e := .kit "NoPage" "NotKeepable" false) rfl), GX.kitT_ok (c.more 14 (e := .kitT "NoPage" "ValueError" true) rfl), GX.kit_ok (c.more 15 (e := .kit "NotKeepable" "LotError" false) rfl), GX.kit_ok (c.more 16 (e := .kit "NotKeepable" "OnecopyError" true) rfl), GX.kit_ok (c.more 17 (e := .kit "NotKeepable" "NoPage" false) rfl), GX.kitT_ok (c.more 18 (e := .kitT "NotKeepable" "ValueError" true) rfl)⟩
  have e := hfa.symm.trans (He.glo_ok X GN (c.1.fact 28 (f := .glo "law") rfl))
  cases e
  obtain ⟨fdE0, DE0⟩ := c.1.def_ 0 (d := d_NoPage_init) rfl
  have FE0 := He5.fun_of (st := s_NoPage_init) DE0
  obtain ⟨fdE1, DE1⟩ := c.1.def_ 1 (d := d_NotKeepable_init) rfl
  have FE1 := He5.fun_of (st := s_NotKeepable_init) DE1
  obtain ⟨fd0, D0⟩ := c.1.def_ 2 (d := d_height_over) rfl
  have F0 := He5.fun_of (st := s_height_over) D0
  obtain ⟨fd1, D1⟩ := c.1.def_ 3 (d := d_heights) rfl
  have F1 := He5.fun_of (st := s_heights) D1
  obtain ⟨fd2, D2⟩ := c.1.def_ 4 (d := d_lowest_too_high) rfl
  have F2 := He5.fun_of (st := s_lowest_too_high) D2
  obtain ⟨fd3, D3⟩ := c.1.def_ 5 (d := d_after_copies) rfl
  have F3 := He5.fun_of (st := s_after_copies) D3
  obtain ⟨fd4, D4⟩ := c.1.def_ 6 (d := d_with_empty_above) rfl
  have F4 := He5.fun_of (st := s_with_empty_above) D4
  obtain ⟨fd5, D5⟩ := c.1.def_ 7 (d := d_first_copied) rfl
  have F5 := He5.fun_of (st := s_first_copied) D5
  obtain ⟨fd6, D6⟩ := c.1.def_ 8 (d := d_chain_answer) rfl
  have F6 := He5.fun_of (st := s_chain_answer) D6
  obtain ⟨fd7, D7⟩ := c.1.def_ 9 (d := d_law_is_integer) rfl
  have F7 := He5.fun_of (st := s_law_is_integer) D7
  obtain ⟨fd8, D8⟩ := c.1.def_ 10 (d := d_law_is_row) rfl
  have F8 := He5.fun_of (st := s_law_is_row) D8
  obtain ⟨fd9, D9⟩ := c.1.def_ 11 (d := d_law_bag) rfl
  have F9 := He5.fun_of (st := s_law_bag) D9
  obtain ⟨fd10, D10⟩ := c.1.def_ 12 (d := d_law_take) rfl
  have F10 := He5.fun_of (st := s_law_take) D10
  obtain ⟨fd11, D11⟩ := c.1.def_ 13 (d := d_law_copies) rfl
  have F11 := He5.fun_of (st := s_law_copies) D11
  obtain ⟨fd12, D12⟩ := c.1.def_ 14 (d := d_law_page) rfl
  have F12 := He5.fun_of (st := s_law_page) D12
  obtain ⟨fd13, D13⟩ := c.1.def_ 15 (d := d_law_height) rfl
  have F13 := He5.fun_of (st := s_law_height) D13
  obtain ⟨fd14, D14⟩ := c.1.def_ 16 (d := d_law_drawn_chain) rfl
  have F14 := He5.fun_of (st := s_law_drawn_chain) D14
  obtain ⟨fd15, D15⟩ := c.1.def_ 17 (d := d_law_kept_chain) rfl
  have F15 := He5.fun_of (st := s_law_kept_chain) D15
  obtain ⟨fd16, D16⟩ := c.1.def_ 18 (d := d_law_lost_chain) rfl
  have F16 := He5.fun_of (st := s_law_lost_chain) D16
  obtain ⟨fd17, D17⟩ := c.1.def_ 19 (d := d_law_heights) rfl
  have F17 := He5.fun_of (st := s_law_heights) D17
  obtain ⟨fd18, D18⟩ := c.1.def_ 20 (d := d_law_lowest) rfl
  have F18 := He5.fun_of (st := s_law_lowest) D18
  obtain ⟨fd19, D19⟩ := c.1.def_ 21 (d := d_law_uses) rfl
  have F19 := He5.fun_of (st := s_law_uses) D19
  obtain ⟨fd20, D20⟩ := c.1.def_ 22 (d := d_law_after) rfl
  have F20 := He5.fun_of (st := s_law_after) D20
  obtain ⟨fd21, D21⟩ := c.1.def_ 23 (d := d_law_rules) rfl
  have F21 := He5.fun_of (st := s_law_rules) D21
  obtain ⟨fd22, D22⟩ := c.1.def_ 24 (d := d_law_quiet) rfl
  have F22 := He5.fun_of (st := s_law_quiet) D22
  obtain ⟨fd23, D23⟩ := c.1.def_ 25 (d := d_law_step) rfl
  have F23 := He5.fun_of (st := s_law_step) D23
  obtain ⟨fd24, D24⟩ := c.1.def_ 26 (d := d_law_next_page) rfl
  have F24 := He5.fun_of (st := s_law_next_page) D24
  obtain ⟨fd25, D25⟩ := c.1.def_ 27 (d := d_law_is_refusal) rfl
  have F25 := He5.fun_of (st := s_law_is_refusal) D25
  obtain ⟨fd26, D26⟩ := c.1.def_ 28 (d := d_law_refused) rfl
  have F26 := He5.fun_of (st := s_law_refused) D26
  obtain ⟨fd27, D27⟩ := c.1.def_ 29 (d := d_law_refusals) rfl
  have F27 := He5.fun_of (st := s_law_refusals) D27
  obtain ⟨fd28, D28⟩ := c.1.def_ 30 (d := d_law) rfl
  have F28 := He5.fun_of (st := s_law) D28
  have b := FunD.bindsA (ps := ["script"]) D28 fun _ _ _ _ _ _ us hl => match us, hl with | [_], _ => rfl
  refine ⟨fd28, fun s v => b s [v] rfl, fun base _ _ => ?_⟩
  have C_NoPage : GX.ErrX P w K mg base 1 "NoPage" (He.ga K "NoPage") (GX.sp_err K (He.ga K "NoPage") "page") := ⟨GX.oex_ok (c.more 0 (e := .oex "NoPage") rfl), _, _, _, (GX.ini_ok (c.more 19 (e := .ini "NoPage") rfl)).1, (GX.ini_ok (c.more 19 (e := .ini "NoPage") rfl)).2, fn_NoPage_init (A := ⟨He.ga K "LotError", He.ga K "NoPage", He.ga K "NotKeepable", He.ga K "OnecopyError"⟩) FE0, He.glo_ok X GN (c.1.fact 30 (f := .glo "NoPage") rfl), bi_NoPage_init FE0⟩
  have C_NotKeepable : GX.ErrX P w K mg base 1 "NotKeepable" (He.ga K "NotKeepable") (GX.sp_err K (He.ga K "NotKeepable") "page") := ⟨GX.oex_ok (c.more 1 (e := .oex "NotKeepable") rfl), _, _, _, (GX.ini_ok (c.more 20 (e := .ini "NotKeepable") rfl)).1, (GX.ini_ok (c.more 20 (e := .ini "NotKeepable") rfl)).2, fn_NotKeepable_init (A := ⟨He.ga K "LotError", He.ga K "NoPage", He.ga K "NotKeepable", He.ga K "OnecopyError"⟩) FE1, He.glo_ok X GN (c.1.fact 31 (f := .glo "NotKeepable") rfl), bi_NotKeepable_init FE1⟩
  have C_height_over : C8.Cal P w K mg base 1 "height_over" (sp_height_over K ⟨He.ga K "LotError", He.ga K "NoPage", He.ga K "NotKeepable", He.ga K "OnecopyError"⟩) [] := ⟨_, _, _, [], fn_height_over F0 T C , He.glo_ok X GN (c.1.fact 0 (f := .glo "height_over") rfl), F0.kp, bi_height_over F0, .nil⟩
  have C_heights : C8.Cal P w K mg base 2 "heights" (sp_heights K ⟨He.ga K "LotError", He.ga K "NoPage", He.ga K "NotKeepable", He.ga K "OnecopyError"⟩) [] := ⟨_, _, _, [], fn_heights F1 T C C_height_over, He.glo_ok X GN (c.1.fact 1 (f := .glo "heights") rfl), F1.kp, bi_heights F1, .nil⟩
  have C_lowest_too_high : C8.Cal P w K mg base 3 "_lowest_too_high" (sp_lowest_too_high K ⟨He.ga K "LotError", He.ga K "NoPage", He.ga K "NotKeepable", He.ga K "OnecopyError"⟩) [] := ⟨_, _, _, [], fn_lowest_too_high F2 T C C_heights, He.glo_ok X GN (c.1.fact 2 (f := .glo "_lowest_too_high") rfl), F2.kp, bi_lowest_too_high F2, .nil⟩
  have C_after_copies : C8.Cal P w K mg base 1 "_after_copies" (sp_after_copies K ⟨He.ga K "LotError", He.ga K "NoPage", He.ga K "NotKeepable", He.ga K "OnecopyError"⟩) [] := ⟨_, _, _, [], fn_after_copies F3 T C , He.glo_ok X GN (c.1.fact 3 (f := .glo "_after_copies") rfl), F3.kp, bi_after_copies F3, .nil⟩
  have C_with_empty_above : C8.Cal P w K mg base 1 "_with_empty_above" (sp_with_empty_above K ⟨He.ga K "LotError", He.ga K "NoPage", He.ga K "NotKeepable", He.ga K "OnecopyError"⟩) [] := ⟨_, _, _, [], fn_with_empty_above F4 T C , He.glo_ok X GN (c.1.fact 4 (f := .glo "_with_empty_above") rfl), F4.kp, bi_with_empty_above F4, .nil⟩
  have C_first_copied : C8.Cal P w K mg base 4 "_first_copied" (sp_first_copied K ⟨He.ga K "LotError", He.ga K "NoPage", He.ga K "NotKeepable", He.ga K "OnecopyError"⟩) [] := ⟨_, _, _, [], fn_first_copied F5 T C C_lowest_too_high C_with_empty_above, He.glo_ok X GN (c.1.fact 5 (f := .glo "_first_copied") rfl), F5.kp, bi_first_copied F5, .nil⟩
  have C_chain_answer : GX.CalX P w K mg base 5 "chain_answer" (sp_chain_answer K ⟨He.ga K "LotError", He.ga K "NoPage", He.ga K "NotKeepable", He.ga K "OnecopyError"⟩) := ⟨_, _, _, fn_chain_answer F6 T C C_NoPage C_NotKeepable C_after_copies C_first_copied C_lowest_too_high, He.glo_ok X GN (c.1.fact 6 (f := .glo "chain_answer") rfl), F6.kp, bi_chain_answer F6⟩
  have C_law_is_integer : C8.Cal P w K mg base 1 "_law_is_integer" (sp_law_is_integer K ⟨He.ga K "LotError", He.ga K "NoPage", He.ga K "NotKeepable", He.ga K "OnecopyError"⟩) [] := ⟨_, _, _, [], fn_law_is_integer F7 T C , He.glo_ok X GN (c.1.fact 7 (f := .glo "_law_is_integer") rfl), F7.kp, bi_law_is_integer F7, .nil⟩
  have Ch_law_is_integer : GX.HotX P w K mg base 1 "_law_is_integer" (fun _ _ _ => sp_law_is_integer K ⟨He.ga K "LotError", He.ga K "NoPage", He.ga K "NotKeepable", He.ga K "OnecopyError"⟩) := ⟨_, _, _, fnh_law_is_integer F7 T, He.glo_ok X GN (c.1.fact 7 (f := .glo "_law_is_integer") rfl), F7.kp, bi_law_is_integer F7⟩
  have C_law_is_row : C8.Cal P w K mg base 2 "_law_is_row" (sp_law_is_row K ⟨He.ga K "LotError", He.ga K "NoPage", He.ga K "NotKeepable", He.ga K "OnecopyError"⟩) [] := ⟨_, _, _, [], fn_law_is_row F8 T C C_law_is_integer, He.glo_ok X GN (c.1.fact 8 (f := .glo "_law_is_row") rfl), F8.kp, bi_law_is_row F8, .nil⟩
  have C_law_bag : C8.Cal P w K mg base 1 "_law_bag" (sp_law_bag K ⟨He.ga K "LotError", He.ga K "NoPage", He.ga K "NotKeepable", He.ga K "OnecopyError"⟩) [] := ⟨_, _, _, [], fn_law_bag F9 T C , He.glo_ok X GN (c.1.fact 9 (f := .glo "_law_bag") rfl), F9.kp, bi_law_bag F9, .nil⟩
  have C_law_take : C8.Cal P w K mg base 1 "_law_take" (sp_law_take K ⟨He.ga K "LotError", He.ga K "NoPage", He.ga K "NotKeepable", He.ga K "OnecopyError"⟩) [] := ⟨_, _, _, [], fn_law_take F10 T C , He.glo_ok X GN (c.1.fact 10 (f := .glo "_law_take") rfl), F10.kp, bi_law_take F10, .nil⟩
  have C_law_copies : C8.Cal P w K mg base 2 "_law_copies" (sp_law_copies K ⟨He.ga K "LotError", He.ga K "NoPage", He.ga K "NotKeepable", He.ga K "OnecopyError"⟩) [] := ⟨_, _, _, [], fn_law_copies F11 T C C_law_take, He.glo_ok X GN (c.1.fact 11 (f := .glo "_law_copies") rfl), F11.kp, bi_law_copies F11, .nil⟩
  have C_law_page : C8.Cal P w K mg base 2 "_law_page" (sp_law_page K ⟨He.ga K "LotError", He.ga K "NoPage", He.ga K "NotKeepable", He.ga K "OnecopyError"⟩) [] := ⟨_, _, _, [], fn_law_page F12 T C C_law_take, He.glo_ok X GN (c.1.fact 12 (f := .glo "_law_page") rfl), F12.kp, bi_law_page F12, .nil⟩
  have C_law_height : C8.Cal P w K mg base 1 "_law_height" (sp_law_height K ⟨He.ga K "LotError", He.ga K "NoPage", He.ga K "NotKeepable", He.ga K "OnecopyError"⟩) [] := ⟨_, _, _, [], fn_law_height F13 T C , He.glo_ok X GN (c.1.fact 13 (f := .glo "_law_height") rfl), F13.kp, bi_law_height F13, .nil⟩
  have C_law_drawn_chain : C8.Cal P w K mg base 3 "_law_drawn_chain" (sp_law_drawn_chain K ⟨He.ga K "LotError", He.ga K "NoPage", He.ga K "NotKeepable", He.ga K "OnecopyError"⟩) [] := ⟨_, _, _, [], fn_law_drawn_chain F14 T C C_law_page C_law_take, He.glo_ok X GN (c.1.fact 14 (f := .glo "_law_drawn_chain") rfl), F14.kp, bi_law_drawn_chain F14, .nil⟩
  have C_law_kept_chain : C8.Cal P w K mg base 4 "_law_kept_chain" (sp_law_kept_chain K ⟨He.ga K "LotError", He.ga K "NoPage", He.ga K "NotKeepable", He.ga K "OnecopyError"⟩) [] := ⟨_, _, _, [], fn_law_kept_chain F15 T C C_law_drawn_chain C_law_height C_law_take, He.glo_ok X GN (c.1.fact 15 (f := .glo "_law_kept_chain") rfl), F15.kp, bi_law_kept_chain F15, .nil⟩
  have C_law_lost_chain : C8.Cal P w K mg base 3 "_law_lost_chain" (sp_law_lost_chain K ⟨He.ga K "LotError", He.ga K "NoPage", He.ga K "NotKeepable", He.ga K "OnecopyError"⟩) [] := ⟨_, _, _, [], fn_law_lost_chain F16 T C C_law_page C_law_take, He.glo_ok X GN (c.1.fact 16 (f := .glo "_law_lost_chain") rfl), F16.kp, bi_law_lost_chain F16, .nil⟩
  have C_law_heights : C8.Cal P w K mg base 2 "_law_heights" (sp_law_heights K ⟨He.ga K "LotError", He.ga K "NoPage", He.ga K "NotKeepable", He.ga K "OnecopyError"⟩) [] := ⟨_, _, _, [], fn_law_heights F17 T C C_law_height, He.glo_ok X GN (c.1.fact 17 (f := .glo "_law_heights") rfl), F17.kp, bi_law_heights F17, .nil⟩
  have C_law_lowest : C8.Cal P w K mg base 3 "_law_lowest" (sp_law_lowest K ⟨He.ga K "LotError", He.ga K "NoPage", He.ga K "NotKeepable", He.ga K "OnecopyError"⟩) [] := ⟨_, _, _, [], fn_law_lowest F18 T C C_law_heights, He.glo_ok X GN (c.1.fact 18 (f := .glo "_law_lowest") rfl), F18.kp, bi_law_lowest F18, .nil⟩
  have C_law_uses : C8.Cal P w K mg base 1 "_law_uses" (sp_law_uses K ⟨He.ga K "LotError", He.ga K "NoPage", He.ga K "NotKeepable", He.ga K "OnecopyError"⟩) [] := ⟨_, _, _, [], fn_law_uses F19 T C , He.glo_ok X GN (c.1.fact 19 (f := .glo "_law_uses") rfl), F19.kp, bi_law_uses F19, .nil⟩
  have C_law_after : C8.Cal P w K mg base 2 "_law_after" (sp_law_after K ⟨He.ga K "LotError", He.ga K "NoPage", He.ga K "NotKeepable", He.ga K "OnecopyError"⟩) [] := ⟨_, _, _, [], fn_law_after F20 T C C_law_uses, He.glo_ok X GN (c.1.fact 20 (f := .glo "_law_after") rfl), F20.kp, bi_law_after F20, .nil⟩
  have C_law_rules : C8.Cal P w K mg base 4 "_law_rules" (sp_law_rules K ⟨He.ga K "LotError", He.ga K "NoPage", He.ga K "NotKeepable", He.ga K "OnecopyError"⟩) [] := ⟨_, _, _, [], fn_law_rules F21 T C C_law_after C_law_lowest, He.glo_ok X GN (c.1.fact 21 (f := .glo "_law_rules") rfl), F21.kp, bi_law_rules F21, .nil⟩
  have C_law_quiet : C8.Cal P w K mg base 4 "_law_quiet" (sp_law_quiet K ⟨He.ga K "LotError", He.ga K "NoPage", He.ga K "NotKeepable", He.ga K "OnecopyError"⟩) [] := ⟨_, _, _, [], fn_law_quiet F22 T C C_law_lowest, He.glo_ok X GN (c.1.fact 22 (f := .glo "_law_quiet") rfl), F22.kp, bi_law_quiet F22, .nil⟩
  have C_law_step : C8.Cal P w K mg base 6 "_law_step" (sp_law_step K ⟨He.ga K "LotError", He.ga K "NoPage", He.ga K "NotKeepable", He.ga K "OnecopyError"⟩) [] := ⟨_, _, _, [], fn_law_step F23 T C C_law_after C_law_is_row C_law_lowest C_law_quiet C_law_rules C_law_uses C_chain_answer, He.glo_ok X GN (c.1.fact 23 (f := .glo "_law_step") rfl), F23.kp, bi_law_step F23, .nil⟩
  have C_law_next_page : C8.Cal P w K mg base 3 "_law_next_page" (sp_law_next_page K ⟨He.ga K "LotError", He.ga K "NoPage", He.ga K "NotKeepable", He.ga K "OnecopyError"⟩) [] := ⟨_, _, _, [], fn_law_next_page F24 T C C_law_heights C_law_take, He.glo_ok X GN (c.1.fact 24 (f := .glo "_law_next_page") rfl), F24.kp, bi_law_next_page F24, .nil⟩
  have Ch_law_is_refusal : GX.HotX P w K mg base 1 "_law_is_refusal" (sph_law_is_refusal K ⟨He.ga K "LotError", He.ga K "NoPage", He.ga K "NotKeepable", He.ga K "OnecopyError"⟩) := ⟨_, _, _, fnh_law_is_refusal F25 T C, He.glo_ok X GN (c.1.fact 25 (f := .glo "_law_is_refusal") rfl), F25.kp, bi_law_is_refusal F25⟩
  have C_law_refused : C8.Cal P w K mg base 6 "_law_refused" (sp_law_refused K ⟨He.ga K "LotError", He.ga K "NoPage", He.ga K "NotKeepable", He.ga K "OnecopyError"⟩) [] := ⟨_, _, _, [], fn_law_refused F26 T C Ch_law_is_integer Ch_law_is_refusal C_chain_answer, He.glo_ok X GN (c.1.fact 26 (f := .glo "_law_refused") rfl), F26.kp, bi_law_refused F26, .nil⟩
  have C_law_refusals : C8.Cal P w K mg base 7 "_law_refusals" (sp_law_refusals K ⟨He.ga K "LotError", He.ga K "NoPage", He.ga K "NotKeepable", He.ga K "OnecopyError"⟩) [] := ⟨_, _, _, [], fn_law_refusals F27 T C C_law_bag C_law_lost_chain C_law_lowest C_law_refused C_law_take, He.glo_ok X GN (c.1.fact 27 (f := .glo "_law_refusals") rfl), F27.kp, bi_law_refusals F27, .nil⟩
  exact fn_law F28 T C C_law_bag C_law_copies C_law_kept_chain C_law_next_page C_law_refusals C_law_step C_law_take
end G

open PySem PySem.W PySem.Calls PyProof.Rows in
set_option maxRecDepth 100000 in
set_option maxHeartbeats 0 in
theorem PySem.Challenge.cw_onecopy_k26_whole_chain_keeper_holds : PySem.Challenge.rw_onecopy_k26_whole_chain_keeper.Holds := by
  w_on; o_law
  refine HandSHeadRun.head_any (r := OpenLaw.row PySem.Challenge.rw_onecopy_k26_whole_chain_keeper) (q := view (OpenLaw.row PySem.Challenge.rw_onecopy_k26_whole_chain_keeper).prog [36]) (H := G.hkS) (ob := G.obS) (M := 8000) (loose := G.looseS) (d := HandSHeadRun.topDef (OpenLaw.row PySem.Challenge.rw_onecopy_k26_whole_chain_keeper).prog 36) (kwd := []) G.obS_eq
    (by kernel_rfl) (fun s => by kernel_rfl) G.runS (by kernel_rfl) (by kernel_rfl) (by kernel_rfl) (by rfl) (by first | assumption | decide +kernel) (by decide +kernel) ⟨rfl, rfl, rfl, rfl, rfl, by decide +kernel⟩ ?hw ?hc
  case hw => w_witness2
  case hc =>
    refine L2.walk_ofE (l := PySem.Challenge.rw_onecopy_k26_whole_chain_keeper) (n := 63) (k := 8) (x := "script") (CX := L2.CX0) rfl (by decide) (by kernel_rfl) ⟨rfl, by decide, by decide⟩ ?F (fun _ _ _ _ z => z)
    intro w mg fa h Y GN hmg0
    obtain ⟨K, KX, c⟩ := Y
    have hmg : mg ("law" : PySem.Str) = some (.ref fa) := by
      have e : (HandSHeadRun.topDef (OpenLaw.row PySem.Challenge.rw_onecopy_k26_whole_chain_keeper).prog 36).name = ("law" : PySem.Str) := by kernel_rfl
      rw [← e]
      exact hmg0
    obtain ⟨fd, hb, hF⟩ := G.factsS (P := (PySem.Challenge.rw_onecopy_k26_whole_chain_keeper).prog) (w := w) KX GN hmg c
    exact ⟨K, fd, G.sp_law K _, KX, hb, fun H a ns hl _ hS => ⟨a, ns, rfl, hS, hl, fun _ => rfl⟩, hF⟩