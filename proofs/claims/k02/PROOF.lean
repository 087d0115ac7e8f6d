import PyProof.Rows.All
import Wide.All
import OpenK.AllK
import Wide.FinOn
import HandS.ForMost
import HandS.Deep
import HandS.Flow
import HandS.IsInst
import HandS.Conv
import HandS.SortRule
import HandS.SortInts
import HandS.SetFor
import HandS.More
import HandS.Codes
import HandS.Style
import HandS.Walk
import HandS.ForExc
import HandS.ExcInit
import HandS.ExcField
import HandS.ExcIs
import HandS.ExcOwn
import HandS.TryOnly
import HandS.WordsExc
import HandS.HotCalls
import HandS.OwnEq
import HandS.Property
import OpenK.KMeth
import KE.KExcIs
import HandS.MethStar
import HandS.SetFor
import HandS.Set
import HandS.Strs
import HandS.SortInts
import HandS.Comp
import HandS.TryMany
import HandS.Star
import HandS.Conv
import HandS.Rev
import HandS.RevRange
import KE.KStateDown
import HandS.Defaults
import HandS.Head0
import HandS.Head1
import HandS.Head2
import HandS.HeadEnd
import HandS.HeadHook1
import HandS.HeadHook2
import HandS.HeadNt
import HandS.ClsMeth
import PySem.Challenge.RW_onecopy_k02_one_update
set_option Elab.async false
set_option linter.all false
set_option maxRecDepth 100000
set_option maxHeartbeats 4000000

/-! The ground: relations under names of their own, steps of a reading, facts of heaps. -/
namespace G
open PySem PySem.Spec PyProof.Rows L2

/-! ### relations by name -/
def oAdd : R2 := rI0 fun i j => .int (i + j)
def oSub : R2 := rI0 fun i j => .int (i - j)
def oMul : R2 := rI CMul fun i j => .int (i * j)
def oDiv : R2 := rI CDiv fun i j => .int (i / j)
def oMod : R2 := rI (fun _ j => 0 < j) fun i j => .int (i % j)
def oPow : R2 := rI CPow fun i j => .int (i ^ j.toNat)
def oLt : R2 := rI0 fun i j => .bl (decide (i < j))
def oLe : R2 := rI0 fun i j => .bl (decide (i ≤ j))
def oGt : R2 := rI0 fun i j => .bl (decide (j < i))
def oGe : R2 := rI0 fun i j => .bl (decide (j ≤ i))
def oNeg : V → Hp → VK → Prop := rU fun i => .int (-i)
abbrev RL := List V → Hp → VK → Prop
def oAbs : RL := fun xs H Q => ∃ i, xs = [.int i] ∧ Q (.int (if i < 0 then -i else i)) H
def oMax2 : RL := fun xs H Q => ∃ i j, xs = [.int i, .int j] ∧ Q (.int (if j > i then j else i)) H
def oMin2 : RL := fun xs H Q => ∃ i j, xs = [.int i, .int j] ∧ Q (.int (if j < i then j else i)) H
def oInt : RL := fun xs H Q => (∃ i, xs = [.int i] ∧ Q (.int i) H) ∨ ∃ k, xs = [.bl k] ∧ Q (.int (if k then 1 else 0)) H
def rLenQ (K : PySem.W.Frag) : RL := fun xs H Q => ∃ p ys, xs = [.ref p] ∧ (SqL K H p ys ∨ SqT K H p ys) ∧ Q (.int ys.length) H
def oListOf (K : PySem.W.Frag) : RL := fun xs H Q => ∃ p ys, xs = [.ref p] ∧ (SqL K H p ys ∨ SqT K H p ys) ∧ ∀ l, H l = none → Q (.ref l) (upd H l (.lst ys))
def oListD : RL := fun xs H Q => ∃ d kvs, xs = [V.ref d] ∧ Rd H d (.dT kvs) ∧ ∀ p bs, H p = none → IsKeys H kvs bs → Q (.ref p) (upd H p (.lst (bs.map V.ref)))
def oInsert : V → List V → Hp → VK → Prop := fun x vs H Q => ∃ (l : Addr) (xs : List V) (i : Int) (y : V), x = .ref l ∧ vs = [.int i, y] ∧ H l = some (.lst xs) ∧ xs.length < sizeLine ∧ 0 ≤ i ∧ i < 2 ^ 63 ∧
    Q .non (upd H l (.lst (xs.take i.toNat ++ [y] ++ xs.drop i.toNat)))
def tTruK (K : PySem.W.Frag) (ta : TE) : TT := fun σ H Q => ta σ H fun x H' => ∃ k, TruV K x H' k ∧ Q k H'

theorem hu65 {A : Around} {k : Nat} (hr : Room k A) : A.units + 65 < cLine := by have := hr.un; omega
/-- xs[i] op= e -/
theorem pget_list {X : Cx} : PGet X (rIxL X.K) := by
  intro pn st sg Hh xo yo vo uo Qo Io r1 r2 hyp
  obtain ⟨pp, items, ii, zz, rfl, rfl, hsq, hat, hQ⟩ := hyp
  cases r1
  obtain ⟨tk, rfl⟩ := r2
  obtain ⟨raw, rel, isl, _⟩ := Io.list hsq
  obtain ⟨jj, e1, e2, e3, e4, e5⟩ := atI_get hat
  obtain ⟨ww, e6, rw'⟩ := rel.get e2
  have hlen := rel.length
  have h63 := line63
  have done : EP X pn sg Qo ww st := ⟨zz, Hh, Io, rw', hQ⟩
  by_cases hn : 0 ≤ ii
  · have ej : ii.toNat = jj := by
      rw [seqIndex_of hn e5] at e1; exact Option.some.inj e1
    exact wpAny_getItem_list isl.isList hn (by omega) (by rw [ej]; simpa using e6) done
  · have ej : (ii + (raw.toArray.size : Int)).toNat = jj := by
      rw [seqIndex_neg (by omega) e4] at e1; rw [List.size_toArray, ← hlen]; exact Option.some.inj e1
    exact wpAny_getItem_list_neg isl.isList (by omega) (by rw [List.size_toArray] <;> omega) (by omega) (by rw [ej]; simpa using e6) done

/-! ### heaps -/
section
variable {H H' H1 H2 H3 : Hp} {p q s : Addr} {o o' : HO}
theorem keep (h : H q = some o) (hp : H p = none) : upd H p o' q = some o := by rw [upd_ne (ne_of_none h hp)]; exact h
theorem keepNe (h : H q = some o) (hp : q ≠ p) : upd H p o' q = some o := by rw [upd_ne hp]; exact h
theorem same_new (h : H p = none) : Same H (upd H p o) := fun _ _ e => keep e h
theorem same_mut (e : Same H H') (h : H p = none) : Same H (upd H' p o) := fun b u hb => by rw [upd_ne (ne_of_none hb h)]; exact e b u hb
/-- all that was tracked is as it was, s aside -/
def But (s : Addr) (H H' : Hp) : Prop := ∀ b o, b ≠ s → H b = some o → H' b = some o
theorem But.refl : But s H H := fun _ _ _ h => h
theorem Same.but (e : Same H H') : But s H H' := fun b o _ h => e b o h
theorem But.trans (a : But s H H1) (b : But s H1 H2) : But s H H2 := fun c o n h => b c o n (a c o n h)
theorem But.new (e : But s H H') (h : H' p = none) : But s H (upd H' p o) := fun b u n hb => keep (e b u n hb) h
theorem But.mut (e : But s H H') (h : H p = none) : But s H (upd H' p o) := fun b u n hb => by rw [upd_ne (ne_of_none hb h)]; exact e b u n hb
theorem But.self (e : But s H H') : But s H (upd H' s o) := fun b u n hb => by rw [upd_ne n]; exact e b u n hb
theorem But.free (e : But s H H') (h : H s = some o) (hs : H' s = some o') (hp : H' p = none) : H p = none := by
  cases q : H p with
  | none => rfl
  | some u =>
    by_cases hn : p = s
    · rw [hn, hs] at hp; cases hp
    · rw [e p u hn q] at hp; cases hp
theorem SqL.same {K : PySem.W.Frag} {xs : List V} (h : SqL K H p xs) (e : Same H H') : SqL K H' p xs := e.seq h
theorem SqL.but {K : PySem.W.Frag} {xs ys : List V} (e : But s H H') (hs : H s = some (.lst ys)) (hn : p ≠ s) (h : SqL K H p xs) : SqL K H' p xs := by
  rcases h with (h | ⟨o, h⟩) | h
  · exact .inl (.inl (e _ _ hn h))
  · exact .inl (.inr ⟨o, e _ _ hn h⟩)
  · exact .inr h
end

/-! ### steps -/
section
variable {K : PySem.W.Frag} {σ : L2.St} {H : Hp} {Q : VK} {D : Ends} {v x y : V} {i : Nat} {ta tb tc te tv to ti : TE} {t u : TS} {tt tu : TT} {tl tr : TA} {p C dx : Addr}
theorem w_seq (h : t { D with nx := u D } σ H) : tSeq t u D σ H := h
theorem w_next (h : D.nx σ H) : tNext D σ H := h
theorem w_ret (h : te σ H D.rt) : tRet te D σ H := h
theorem w_retN (h : D.rt .non H) : tRetN D σ H := h
theorem w_drop (h : te σ H fun _ H1 => D.nx σ H1) : tDrop te D σ H := h
theorem w_brk (h : D.bk σ H) : tBreak D σ H := h
theorem w_cont (h : D.ct σ H) : tCont D σ H := h
theorem w_asg {g : TG} (h : te σ H fun x H1 => g x σ H1 D.nx) : tAsg te g D σ H := h
theorem w_name {R : L2.St → Hp → Prop} (h : R (σ.set i (some v)) H) : gName i v σ H R := h
theorem w_sub {R : L2.St → Hp → Prop} {ts : TSet} (h : to σ H fun o H1 => ti σ H1 fun j H2 => ts o j v H2 fun H3 => R σ H3) : gSub to ti ts v σ H R := h
theorem w_setL {R : Hp → Prop} {xs : List V} {k : Int} {j : Nat} (h : H p = some (.lst xs)) (hj : ixN xs.length k = some j) (q : R (upd H p (.lst (xs.set j v)))) : rSetL (.ref p) (.int k) v H R := ⟨p, xs, k, j, rfl, rfl, h, hj, q⟩
theorem w_var (h : σ[i]? = some (some v)) (q : Q v H) : tVar i σ H Q := ⟨v, h, q⟩
theorem w_c (q : Q v H) : tC v σ H Q := q
theorem w_op {r : R2} (h : ta σ H fun x H1 => tb σ H1 fun y H2 => r x y H2 Q) : tOp r ta tb σ H Q := h
theorem w_un {r : V → Hp → VK → Prop} (h : ta σ H fun x H1 => r x H1 Q) : tUn r ta σ H Q := h
theorem w_oAdd {a b : Int} (q : Q (.int (a + b)) H) : oAdd (.int a) (.int b) H Q := ⟨a, b, rfl, rfl, q⟩
theorem w_oSub {a b : Int} (q : Q (.int (a - b)) H) : oSub (.int a) (.int b) H Q := ⟨a, b, rfl, rfl, q⟩
theorem w_oMulL {a b : Int} (h0 : -18446744073709551616 < a) (h1 : a < 18446744073709551616) (q : Q (.int (a * b)) H) : oMul (.int a) (.int b) H Q := ⟨a, b, rfl, rfl, .inl ⟨h0, h1⟩, q⟩
theorem w_oMulR {a b : Int} (h0 : -18446744073709551616 < b) (h1 : b < 18446744073709551616) (q : Q (.int (a * b)) H) : oMul (.int a) (.int b) H Q := ⟨a, b, rfl, rfl, .inr ⟨h0, h1⟩, q⟩
theorem w_oDiv {a b : Int} (h0 : 0 < b) (h1 : b < 1073741824) (q : Q (.int (a / b)) H) : oDiv (.int a) (.int b) H Q := ⟨a, b, rfl, rfl, ⟨h0, h1⟩, q⟩
theorem w_oMod {a b : Int} (hc : 0 < b) (q : Q (.int (a % b)) H) : oMod (.int a) (.int b) H Q := ⟨a, b, rfl, rfl, hc, q⟩
theorem w_oPow {a b : Int} (h0 : 0 ≤ b) (h1 : b ≤ 1000000) (h2 : a.natAbs < 18446744073709551616) (q : Q (.int (a ^ b.toNat)) H) : oPow (.int a) (.int b) H Q := ⟨a, b, rfl, rfl, ⟨h0, h1, h2⟩, q⟩
theorem w_oLt {a b : Int} (q : Q (.bl (decide (a < b))) H) : oLt (.int a) (.int b) H Q := ⟨a, b, rfl, rfl, q⟩
theorem w_oLe {a b : Int} (q : Q (.bl (decide (a ≤ b))) H) : oLe (.int a) (.int b) H Q := ⟨a, b, rfl, rfl, q⟩
theorem w_oGt {a b : Int} (q : Q (.bl (decide (b < a))) H) : oGt (.int a) (.int b) H Q := ⟨a, b, rfl, rfl, q⟩
theorem w_oGe {a b : Int} (q : Q (.bl (decide (b ≤ a))) H) : oGe (.int a) (.int b) H Q := ⟨a, b, rfl, rfl, q⟩
theorem w_oNeg {a : Int} (q : Q (.int (-a)) H) : oNeg (.int a) H Q := ⟨a, rfl, q⟩
theorem w_eqI {a b : Int} (q : Q (.bl (decide (a = b))) H) : rEq (.int a) (.int b) H Q := ⟨rfl, by
  have e : (decide (V.int a = V.int b)) = decide (a = b) := by simp
  rw [e]; exact q⟩
theorem w_neI {a b : Int} (q : Q (.bl (!decide (a = b))) H) : rNe (.int a) (.int b) H Q := ⟨rfl, by
  have e : (decide (V.int a = V.int b)) = decide (a = b) := by simp
  rw [e]; exact q⟩
theorem w_eqB {a b : Bool} (q : Q (.bl (decide (a = b))) H) : rEq (.bl a) (.bl b) H Q := ⟨rfl, by
  have e : (decide (V.bl a = V.bl b)) = decide (a = b) := by simp
  rw [e]; exact q⟩
theorem w_chain {r r' : R2} (h : ta σ H fun x H1 => tb σ H1 fun y H2 => r x y H2 fun z H3 => ∃ k, z = .bl k ∧ (if k = true then tc σ H3 fun w' H4 => r' y w' H4 Q else Q (.bl false) H3)) : tChain r r' ta tb tc σ H Q := h
/-- a known answer -/
theorem w_ex {P : Bool → Prop} {b : Bool} (q : P b) : ∃ k, V.bl b = .bl k ∧ P k := ⟨b, rfl, q⟩
theorem w_test {Qb : Bool → Hp → Prop} (h : te σ H fun x H' => ∃ k, x = .bl k ∧ Qb k H') : tTest te σ H Qb := h
theorem w_tB {Qb : Bool → Hp → Prop} (h : te σ H fun x H' => ∃ k, x = .bl k ∧ Qb k H') : tB te σ H Qb := h
theorem w_and {Qb : Bool → Hp → Prop} (h : tt σ H fun c H1 => if c = true then tu σ H1 Qb else Qb false H1) : tAnd tt tu σ H Qb := h
theorem w_or {Qb : Bool → Hp → Prop} (h : tt σ H fun c H1 => if c = true then Qb true H1 else tu σ H1 Qb) : tOr tt tu σ H Qb := h
theorem w_not {Qb : Bool → Hp → Prop} (h : tt σ H fun c H1 => Qb (!c) H1) : tNot tt σ H Qb := h
theorem w_andV (h : ta σ H fun x H1 => ∃ c, x = .bl c ∧ (if c = true then tb σ H1 Q else Q (.bl false) H1)) : tAndV ta tb σ H Q := h
theorem w_orV (h : ta σ H fun x H1 => ∃ c, x = .bl c ∧ (if c = true then Q (.bl true) H1 else tb σ H1 Q)) : tOrV ta tb σ H Q := h
theorem w_notV (h : ta σ H fun x H1 => ∃ c, x = .bl c ∧ Q (.bl (!c)) H1) : tNotV ta σ H Q := h
theorem w_if (h : tt σ H fun b H1 => if b = true then t D σ H1 else u D σ H1) : tIfS tt t u D σ H := h
theorem w_ifE (h : tt σ H fun c H1 => if c = true then ta σ H1 Q else tb σ H1 Q) : tIf tt ta tb σ H Q := h
theorem w_nil {Ql : List V → Hp → Prop} (h : Ql [] H) : tNil σ H Ql := h
theorem w_cons {Ql : List V → Hp → Prop} (h : ta σ H fun x H1 => tr σ H1 fun xs H2 => Ql (x :: xs) H2) : tCons ta tr σ H Ql := h
theorem w_tup (h : tl σ H fun xs H1 => xs.length ≤ sizeLine ∧ ∀ p, H1 p = none → Q (.ref p) (upd H1 p (.tup xs))) : tTup tl σ H Q := h
theorem w_lst (h : tl σ H fun xs H1 => xs.length ≤ sizeLine ∧ ∀ p, H1 p = none → Q (.ref p) (upd H1 p (.lst xs))) : tLst tl σ H Q := h
theorem w_small {n : Nat} {P : Prop} (hn : n ≤ 100) (h : P) : n ≤ sizeLine ∧ P := ⟨Nat.le_trans hn (by decide), h⟩
theorem w_call {sp : Sp} {E : XK} (h : tl σ H fun vs H1 => sp vs H1 Q E) : tCall sp [] E tl σ H Q := by
  show tl σ H fun vs H1 => sp (vs ++ []) H1 Q E
  simp only [List.append_nil]; exact h
theorem w_meth {sp : Sp} {m : Str} {E : XK} (h : ta σ H fun x H1 => ∃ a dx fs, x = .ref a ∧ H1 a = some (.ins C dx fs) ∧ fs.lookup m = none ∧ tl σ H1 fun vs H2 => sp (x :: vs) H2 Q E) : tMeth C m sp [] E ta tl σ H Q := by
  show ta σ H fun x H1 => ∃ a dx fs, x = .ref a ∧ H1 a = some (.ins C dx fs) ∧ fs.lookup m = none ∧ tl σ H1 fun vs H2 => sp (x :: (vs ++ [])) H2 Q E
  simp only [List.append_nil]; exact h
theorem w_make {sp : Sp} {E : XK} (h : tl σ H fun vs H1 => ∀ x dx, H1 x = none → H1 dx = none → dx ≠ x → sp (.ref x :: vs) (upd (upd H1 dx (.own x)) x (.ins C dx [])) (fun v H2 => v = .non ∧ Q (.ref x) H2) E) : tMake C sp [] E tl σ H Q := by
  show tl σ H fun vs H1 => ∀ x dx, H1 x = none → H1 dx = none → dx ≠ x → sp (.ref x :: (vs ++ [])) (upd (upd H1 dx (.own x)) x (.ins C dx [])) (fun v H2 => v = .non ∧ Q (.ref x) H2) E
  simp only [List.append_nil]; exact h
theorem w_cb {r : RL} (h : tl σ H fun vs H1 => r vs H1 Q) : tCB r tl σ H Q := h
theorem w_oInt {a : Int} (q : Q (.int a) H) : oInt [.int a] H Q := .inl ⟨a, rfl, q⟩
theorem w_oAbs {a : Int} (q : Q (.int (if a < 0 then -a else a)) H) : oAbs [.int a] H Q := ⟨a, rfl, q⟩
theorem w_oMax2 {a b : Int} (q : Q (.int (if b > a then b else a)) H) : oMax2 [.int a, .int b] H Q := ⟨a, b, rfl, q⟩
theorem w_oMin2 {a b : Int} (q : Q (.int (if b < a then b else a)) H) : oMin2 [.int a, .int b] H Q := ⟨a, b, rfl, q⟩
theorem w_lenL {xs : List V} (h : SqL K H p xs) (q : Q (.int xs.length) H) : rLenQ K [.ref p] H Q := ⟨p, xs, rfl, .inl h, q⟩
theorem w_listL {xs : List V} (h : SqL K H p xs) (q : ∀ l, H l = none → Q (.ref l) (upd H l (.lst xs))) : oListOf K [.ref p] H Q := ⟨p, xs, rfl, .inl h, q⟩
theorem w_ixL {xs : List V} {k : Int} (h : SqL K H p xs) (ha : atI xs k = some v) (q : Q v H) : rIxL K (.ref p) (.int k) H Q := ⟨p, xs, k, v, rfl, rfl, h, ha, q⟩
theorem w_ixT {xs : List V} {k : Int} (h : H p = some (.tup xs)) (ha : atI xs k = some v) (q : Q v H) : rIxT K (.ref p) (.int k) H Q := ⟨p, xs, k, v, rfl, rfl, .inl (.inl h), ha, q⟩
theorem w_fld {f : Str} (h : ta σ H fun x H1 => ∃ a C dx fs v, x = .ref a ∧ H1 a = some (.ins C dx fs) ∧ Cls K C ∧ NoAttr K C f ∧ fs.lookup f = some v ∧ Q v H1) : tFld K ta f σ H Q := h
theorem w_bm {Tn : String} {r : V → List V → Hp → VK → Prop} (h : to σ H fun x H1 => tyV K Tn x H1 ∧ tl σ H1 fun xs H2 => r x xs H2 Q) : tBM K Tn r to tl σ H Q := h
theorem w_bm0 {Tn : String} {r : V → List V → Hp → VK → Prop} (h : to σ H fun x H1 => tyV K Tn x H1 ∧ r x [] H1 Q) : tBM0 K Tn r to σ H Q := h
theorem w_tyL {P : Prop} {xs : List V} (h : SqL K H p xs) (q : P) : tyV K "list" (.ref p) H ∧ P := ⟨.inl ⟨rfl, xs, h⟩, q⟩
theorem w_append {xs : List V} (h : H p = some (.lst xs)) (hl : xs.length < sizeLine) (q : Q .non (upd H p (.lst (xs ++ [v])))) : rAppend (.ref p) [v] H Q := ⟨p, xs, v, rfl, rfl, h, hl, q⟩
theorem w_cat {b : Addr} {xs ys : List V} (h : H p = some (.lst xs)) (hb : H b = some (.lst ys)) (hl : xs.length + ys.length ≤ sizeLine) (q : ∀ l, H l = none → Q (.ref l) (upd H l (.lst (xs ++ ys)))) : rCat (.ref p) (.ref b) H Q := ⟨p, b, xs, ys, rfl, rfl, h, hb, hl, q⟩
theorem w_sl {r : V → Option Int → Option Int → Hp → VK → Prop} {lo hi : TO} (h : te σ H fun x H1 => lo σ H1 fun l H2 => hi σ H2 fun u H3 => r x l u H3 Q) : tSl r te lo hi σ H Q := h
theorem w_noPart {R : Option Int → Hp → Prop} (h : R none H) : tNoPart σ H R := h
theorem w_part {R : Option Int → Hp → Prop} (h : te σ H fun x H1 => ∃ i, x = .int i ∧ R (some i) H1) : tPart te σ H R := h
theorem w_exI {P : Int → Prop} {a : Int} (q : P a) : ∃ k, V.int a = .int k ∧ P k := ⟨a, rfl, q⟩
theorem w_slL {xs : List V} {lo hi : Option Int} (h : SqL K H p xs) (q : ∀ l, H l = none → Q (.ref l) (upd H l (.lst (cutV xs lo hi)))) : rSlL K (.ref p) lo hi H Q := ⟨p, xs, rfl, h, q⟩
theorem w_gNil {R : L2.St → Hp → Prop} (h : R σ H) : gNil [] σ H R := ⟨rfl, h⟩
theorem w_gCons {R : L2.St → Hp → Prop} {g : TG} {gs : TGs} {vs : List V} (h : g v σ H fun σ' H' => gs vs σ' H' R) : gCons g gs (v :: vs) σ H R := ⟨v, vs, rfl, h⟩
theorem w_gTup {R : L2.St → Hp → Prop} {n : Nat} {gs : TGs} {vs : List V} (h : H p = some (.tup vs)) (hn : vs.length = n) (q : gs vs σ H R) : gTup K n gs (.ref p) σ H R := ⟨p, vs, rfl, .inl (.inl h), hn, q⟩
theorem w_listRg {te : L2.St → Hp → (Int → Int → Hp → Prop) → Prop} (h : te σ H fun a b H1 => RgOk a b ∧ ∀ q, H1 q = none → Q (.ref q) (upd H1 q (.lst (rgV a b)))) : tLstRg te σ H Q := h
theorem w_rg1 {R : Int → Int → Hp → Prop} (h : ta σ H fun x H1 => ∃ n, x = .int n ∧ R 0 n H1) : tRg1 ta σ H R := h
theorem w_augS {tget : V → V → Hp → VK → Prop} {tip : TIp} {ts : TSet} (h : to σ H fun o H1 => ti σ H1 fun i H2 => tget o i H2 fun x H3 => te σ H3 fun y H4 => tip x y H4 fun z H5 => ts o i z H5 fun H6 => D.nx σ H6) : tAugS to ti te tget tip ts D σ H := h
theorem w_ipI {f : Int → Int → Int} {a b : Int} (q : Q (.int (f a b)) H) : ipI f (.int a) (.int b) H Q := ⟨a, b, rfl, rfl, q⟩
theorem w_sum {xs : List Int} (h : SqL K H p (xs.map V.int)) (q : Q (.int xs.sum) H) : rSum K [.ref p] H Q := ⟨p, xs, rfl, h, q⟩
theorem w_iteD {A B : Prop} {c : Prop} [Decidable c] (h1 : c → A) (h2 : ¬ c → B) : if decide c = true then A else B := by
  by_cases h : c
  · rw [decide_eq_true h]; exact h1 h
  · rw [decide_eq_false h, if_neg Bool.false_ne_true]; exact h2 h
theorem w_iteN {A B : Prop} {c : Prop} [Decidable c] (h1 : ¬ c → A) (h2 : c → B) : if (!decide c) = true then A else B := by
  by_cases h : c
  · rw [decide_eq_true h]; exact h2 h
  · rw [decide_eq_false h]; exact h1 h
theorem w_iteT {A B : Prop} (h : A) : if true = true then A else B := h
theorem w_iteF {A B : Prop} (h : B) : if false = true then A else B := by rw [if_neg Bool.false_ne_true]; exact h

theorem w_cut (M : L2.St → Hp → Prop) (h1 : t { D with nx := M } σ H) (h2 : ∀ σ1 H1, M σ1 H1 → u D σ1 H1) : C8.tCut t u D σ H := ⟨M, h1, h2⟩
theorem w_yes {R : Bool → Hp → Prop} (q : R true H) : tYes σ H R := q
theorem w_exA {P : Int → Prop} {n : Int} (q : P n) : ∃ m, [V.int n] = [V.int m] ∧ P m := ⟨n, rfl, q⟩
theorem w_exA2 {P : Int → Int → Prop} {n m : Int} (q : P n m) : ∃ a b, [V.int n, V.int m] = [V.int a, V.int b] ∧ P a b := ⟨n, m, rfl, q⟩
theorem w_exR {P : Addr → Prop} (q : P p) : ∃ m, V.ref p = .ref m ∧ P m := ⟨p, rfl, q⟩
theorem w_exRA {P : Addr → Prop} (q : P p) : ∃ m, [V.ref p] = [.ref m] ∧ P m := ⟨p, rfl, q⟩
theorem w_exRA2 {P : Addr → Addr → Prop} {p2 : Addr} (q : P p p2) : ∃ m m2, [V.ref p, .ref p2] = [.ref m, .ref m2] ∧ P m m2 := ⟨p, p2, rfl, q⟩
theorem w_acc {xs : List V} {P : List V → Prop} (h : H p = some (.lst xs)) (hl : xs.length < sizeLine) (q : P xs) : ∃ acc, H p = some (.lst acc) ∧ acc.length < sizeLine ∧ P acc := ⟨xs, h, hl, q⟩
theorem w_fld2 {P : V → Prop} {f : Str} {fs : List (Str × V)} (h : H p = some (.ins C dx fs)) (hc : Cls K C) (hn : NoAttr K C f) (hl : fs.lookup f = some v) (q : P v) :
    ∃ a C dx fs w, V.ref p = .ref a ∧ H a = some (.ins C dx fs) ∧ Cls K C ∧ NoAttr K C f ∧ fs.lookup f = some w ∧ P w := ⟨p, C, dx, fs, v, rfl, h, hc, hn, hl, q⟩
theorem w_mth {P : Addr → Prop} {m : Str} {fs : List (Str × V)} (h : H p = some (.ins C dx fs)) (hl : fs.lookup m = none) (q : P p) :
    ∃ a dx fs, V.ref p = .ref a ∧ H a = some (.ins C dx fs) ∧ fs.lookup m = none ∧ P p := ⟨p, dx, fs, rfl, h, hl, q⟩
theorem w_sfld {f : Str} (h : tv σ H fun y H1 => to σ H1 fun x H2 => ∃ a C dx fs, x = .ref a ∧ H2 a = some (.ins C dx fs) ∧ Cls K C ∧ NoAttr K C f ∧ fs.length < 1000 ∧ D.nx σ (upd H2 a (.ins C dx (putF f y fs)))) : sFld K to tv f D σ H := h
theorem w_sfld2 {P : Hp → Prop} {f : Str} {fs : List (Str × V)} (h : H p = some (.ins C dx fs)) (hc : Cls K C) (hn : NoAttr K C f) (hl : fs.length < 1000) (q : P (upd H p (.ins C dx (putF f v fs)))) :
    ∃ a C dx fs, V.ref p = .ref a ∧ H a = some (.ins C dx fs) ∧ Cls K C ∧ NoAttr K C f ∧ fs.length < 1000 ∧ P (upd H a (.ins C dx (putF f v fs))) := ⟨p, C, dx, fs, rfl, h, hc, hn, hl, q⟩
theorem w_never (h : False) : tNever D σ H := h
theorem w_augName {ti : TIp} (h : σ[i]? = some (some v)) (q : te σ H fun y H1 => ti v y H1 fun z H2 => D.nx (σ.set i (some z)) H2) : tAug i te ti D σ H := ⟨v, h, q⟩

theorem at0 {a : V} {r : List V} : atI (a :: r) 0 = some a := atI_nat (xs := a :: r) (j := 0) rfl
theorem at1 {a b : V} {r : List V} : atI (a :: b :: r) 1 = some b := atI_nat (xs := a :: b :: r) (j := 1) rfl
theorem at2 {a b c : V} {r : List V} : atI (a :: b :: c :: r) 2 = some c := atI_nat (xs := a :: b :: c :: r) (j := 2) rfl
theorem at3 {a b c d : V} {r : List V} : atI (a :: b :: c :: d :: r) 3 = some d := atI_nat (xs := a :: b :: c :: d :: r) (j := 3) rfl
theorem at4 {a b c d e : V} {r : List V} : atI (a :: b :: c :: d :: e :: r) 4 = some e := atI_nat (xs := a :: b :: c :: d :: e :: r) (j := 4) rfl
theorem ixn {n : Nat} {k : Int} {j : Nat} (e : k = (j : Int)) (h : j < n) : ixN n k = some j := by
  unfold ixN; rw [e, if_pos (by omega), if_pos (by omega)]; simp
theorem ix0 {a : V} {r : List V} : ixN (a :: r).length 0 = some 0 := ixn rfl (by simp)
theorem ix1 {a b : V} {r : List V} : ixN (a :: b :: r).length 1 = some 1 := ixn rfl (by simp)
theorem ix2 {a b c : V} {r : List V} : ixN (a :: b :: c :: r).length 2 = some 2 := ixn rfl (by simp)
theorem atn {xs : List V} {k : Int} {j : Nat} {v : V} (e : k = (j : Int)) (h : xs[j]? = some v) : atI xs k = some v := by rw [e]; exact atI_nat h
theorem ati {xs : List Int} {k : Int} (h0 : 0 ≤ k) (h1 : k < xs.length) : atI (xs.map V.int) k = some (V.int (xs.getD k.toNat 0)) := by
  refine atn (j := k.toNat) (by omega) ?_
  rw [List.getElem?_map, List.getElem?_eq_getElem (by omega), List.getD_eq_getElem?_getD, List.getElem?_eq_getElem (by omega)]; rfl

/-! ### loops -/
/-- a loop whose iterator has come -/
def ForW (J : It) (g : TG) (tb : TS) (D : Ends) (σ : L2.St) (H : Hp) : Prop := tFor (fun _ H R => R J H) g tb D σ H
theorem w_forR1 {g : TG} {tb : TS} (h : tl σ H fun vs H1 => ∃ n : Int, vs = [.int n] ∧ -(2 ^ 62) ≤ n ∧ n < 2 ^ 62 ∧ ForW (Itr 0 n.toNat) g tb D σ H1) : tFor (iRng1 tl) g tb D σ H := h
theorem w_forR2 {g : TG} {tb : TS} (h : tl σ H fun vs H1 => ∃ m n : Int, vs = [.int m, .int n] ∧ (-(2 ^ 62) ≤ m ∧ m < 2 ^ 62 ∧ -(2 ^ 62) ≤ n ∧ n < 2 ^ 62) ∧ ForW (Itr m (n - m).toNat) g tb D σ H1) : tFor (iRng2 tl) g tb D σ H := h
theorem w_forL {g : TG} {tb : TS} (h : te σ H fun x H1 => ∃ a, x = .ref a ∧ (∃ xs, SqL K H1 a xs) ∧ ForW (Itl K a) g tb D σ H1) : tFor (iList K te) g tb D σ H := h
theorem w_forZ {g : TG} {tb : TS} (h : tl σ H fun vs H1 => ∃ a b xs ys, vs = [.ref a, .ref b] ∧ SqL K H1 a xs ∧ SqL K H1 b ys ∧ ForW (Itz K a b) g tb D σ H1) : tFor (iZip K tl) g tb D σ H := h
theorem w_forE {g : TG} {tb : TS} (h : tl σ H fun vs H1 => ∃ a xs, vs = [.ref a] ∧ SqL K H1 a xs ∧ ForW (Ite K a) g tb D σ H1) : tFor (iEnum K tl) g tb D σ H := h
theorem w_bd1 {n : Int} {P : Prop} (h0 : -4611686018427387904 ≤ n) (h1 : n < 4611686018427387904) (q : P) : -(2 ^ 62) ≤ n ∧ n < 2 ^ 62 ∧ P := ⟨by omega, by omega, q⟩
theorem w_bd2 {m n : Int} {P : Prop} (h0 : -4611686018427387904 ≤ m) (h1 : m < 4611686018427387904) (h2 : -4611686018427387904 ≤ n) (h3 : n < 4611686018427387904) (q : P) : (-(2 ^ 62) ≤ m ∧ m < 2 ^ 62 ∧ -(2 ^ 62) ≤ n ∧ n < 2 ^ 62) ∧ P := ⟨⟨by omega, by omega, by omega, by omega⟩, q⟩
theorem w_sqE {xs : List V} {P : Prop} (h : SqL K H p xs) (q : P) : (∃ ys, SqL K H p ys) ∧ P := ⟨⟨xs, h⟩, q⟩
theorem forR {lo : Int} {n : Nat} {g : TG} {tb : TS} (Pv : Nat → L2.St → Hp → Prop) (h0 : Pv 0 σ H)
    (hs : ∀ i σ1 H1, i < n → Pv i σ1 H1 → g (.int (lo + i)) σ1 H1 fun σ2 H2 => tb { D with nx := Pv (i + 1), ct := Pv (i + 1), bk := D.nx } σ2 H2) (hd : ∀ σ1 H1, Pv n σ1 H1 → D.nx σ1 H1) : ForW (Itr lo n) g tb D σ H := for_range Pv h0 hs hd
theorem forL {a : Addr} {xs : List V} {g : TG} {tb : TS} (Pv : Nat → L2.St → Hp → Prop) (h0 : Pv 0 σ H) (hl : ∀ i σ1 H1, i ≤ xs.length → Pv i σ1 H1 → SqL K H1 a xs)
    (hs : ∀ i x σ1 H1, xs[i]? = some x → Pv i σ1 H1 → g x σ1 H1 fun σ2 H2 => tb { D with nx := Pv (i + 1), ct := Pv (i + 1), bk := D.nx } σ2 H2) (hd : ∀ σ1 H1, Pv xs.length σ1 H1 → D.nx σ1 H1) : ForW (Itl K a) g tb D σ H := for_list (xs := xs) Pv h0 hl hs hd
/-- a comprehension whose iterator has come -/
def LcW (J : It) (g : TG) (tt : TT) (te : TE) (vs : List Nat) (σ : L2.St) (H : Hp) (Q : VK) : Prop := tLc (fun _ H R => R J H) g tt te vs σ H Q
theorem w_lcR1 {g : TG} {vs : List Nat} (h : tl σ H fun us H1 => ∃ n : Int, us = [.int n] ∧ -(2 ^ 62) ≤ n ∧ n < 2 ^ 62 ∧ LcW (Itr 0 n.toNat) g tt te vs σ H1 Q) : tLc (iRng1 tl) g tt te vs σ H Q := h
theorem w_lcL {g : TG} {vs : List Nat} {tz : TE} (h : tz σ H fun x H1 => ∃ a, x = .ref a ∧ (∃ xs, SqL K H1 a xs) ∧ LcW (Itl K a) g tt te vs σ H1 Q) : tLc (iList K tz) g tt te vs σ H Q := h
/-- one turn of a comprehension -/
def LcT (tt : TT) (te : TE) (Dl : Addr) (N : Hp → Prop) (σ : L2.St) (H : Hp) : Prop := tt σ H fun b H3 =>
  if b = true then te σ H3 fun y H4 => ∃ acc, H4 Dl = some (.lst acc) ∧ acc.length < sizeLine ∧ N (upd H4 Dl (.lst (acc ++ [y]))) else N H3
theorem lcR {lo : Int} {n : Nat} {g : TG} {vs : List Nat} (Pv : Addr → Nat → Hp → Prop) (h0 : ∀ Dl, H Dl = none → Pv Dl 0 (upd H Dl (.lst [])))
    (hs : ∀ Dl i H1, H Dl = none → i < n → Pv Dl i H1 → g (.int (lo + i)) (wipe σ vs) H1 fun σ2 H2 => wipe σ2 vs = wipe σ vs ∧ LcT tt te Dl (Pv Dl (i + 1)) σ2 H2) (hd : ∀ Dl H1, H Dl = none → Pv Dl n H1 → Q (.ref Dl) H1) : LcW (Itr lo n) g tt te vs σ H Q :=
  fun Dl hD => lc_range (Pv Dl) (h0 Dl hD) (fun i H1 hi p => hs Dl i H1 hD hi p) (fun H1 p => hd Dl H1 hD p)
theorem lcL {a : Addr} {xs : List V} {g : TG} {vs : List Nat} (Pv : Addr → Nat → Hp → Prop) (h0 : ∀ Dl, H Dl = none → Pv Dl 0 (upd H Dl (.lst []))) (hl : ∀ Dl i H1, H Dl = none → i ≤ xs.length → Pv Dl i H1 → SqL K H1 a xs)
    (hs : ∀ Dl i x H1, H Dl = none → xs[i]? = some x → Pv Dl i H1 → g x (wipe σ vs) H1 fun σ2 H2 => wipe σ2 vs = wipe σ vs ∧ LcT tt te Dl (Pv Dl (i + 1)) σ2 H2) (hd : ∀ Dl H1, H Dl = none → Pv Dl xs.length H1 → Q (.ref Dl) H1) : LcW (Itl K a) g tt te vs σ H Q :=
  fun Dl hD => lc_list (K := K) (a := a) (xs := xs) (Pv Dl) (h0 Dl hD) (fun i H1 hi p => hl Dl i H1 hD hi p) (fun i x H1 hx p => hs Dl i x H1 hD hx p) (fun H1 p => hd Dl H1 hD p)
theorem w_lcT {Dl : Addr} {N : Hp → Prop} (h : te σ H fun y H4 => ∃ acc, H4 Dl = some (.lst acc) ∧ acc.length < sizeLine ∧ N (upd H4 Dl (.lst (acc ++ [y])))) : LcT tYes te Dl N σ H := h
theorem w_lcTif {Dl : Addr} {N : Hp → Prop} (h : tt σ H fun b H3 => if b = true then (te σ H3 fun y H4 => ∃ acc, H4 Dl = some (.lst acc) ∧ acc.length < sizeLine ∧ N (upd H4 Dl (.lst (acc ++ [y])))) else N H3) : LcT tt te Dl N σ H := h
theorem w_wipe {σ1 : L2.St} {P : Prop} (h : σ = σ1) (q : P) : σ = σ1 ∧ P := ⟨h, q⟩
end
/-! ### sources of draws: lists of three ints -/
section
variable {H H' H1 H2 H3 : Hp} {p q s : Addr} {o o' : HO} {xs : List V}
def Src (H : Hp) (s : Addr) : Prop := ∃ x y z : Int, H s = some (.lst [.int x, .int y, .int z])
theorem Src.ex (h : Src H s) : ∃ xs, H s = some (.lst xs) := let ⟨_, _, _, e⟩ := h; ⟨_, e⟩
theorem Src.neFree (h : Src H s) (hq : H q = none) : q ≠ s := fun e => by obtain ⟨_, _, _, hs⟩ := h; rw [e, hs] at hq; cases hq
theorem Src.neTup {xs : List V} (h : Src H s) (hq : H q = some (.tup xs)) : q ≠ s := fun e => by obtain ⟨_, _, _, hs⟩ := h; rw [e, hs] at hq; cases hq
theorem Src.neIns {C dx : Addr} {fs : List (Str × V)} (h : Src H s) (hq : H q = some (.ins C dx fs)) : q ≠ s := fun e => by obtain ⟨_, _, _, hs⟩ := h; rw [e, hs] at hq; cases hq
theorem Src.new (h : Src H s) (hp : H p = none) : Src (upd H p o) s := let ⟨x, y, z, e⟩ := h; ⟨x, y, z, keep e hp⟩
theorem Src.mut (h : Src H s) (hp : p ≠ s) : Src (upd H p o) s := let ⟨x, y, z, e⟩ := h; ⟨x, y, z, keepNe e hp.symm⟩
theorem Src.same (e : Same H H') (h : Src H s) : Src H' s := let ⟨x, y, z, q⟩ := h; ⟨x, y, z, e _ _ q⟩
theorem But.at (b : But s H H') (hn : q ≠ s) (h : H q = some o) : H' q = some o := b _ _ hn h
theorem But.back (b : But s H H') (h2 : Src H' s) (hp : H' p = none) : H p = none := by
  cases hq : H p with
  | none => rfl
  | some u => rw [b p u (h2.neFree hp) hq] at hp; cases hp
theorem But.trans' (b : But s H1 H2) (a : But s H H1) : But s H H2 := a.trans b
theorem Same.trans' (b : Same H1 H2) (a : Same H H1) : Same H H2 := a.trans b
theorem Same.at (e : Same H H') (h : H q = some o) : H' q = some o := e _ _ h
theorem ne1 (hl : H p = none) (hq : H q = some o) : q ≠ p := ne_of_none hq hl
theorem free_upd (h : upd H p o q = none) : H q = none := by
  cases e : H q with
  | none => rfl
  | some u =>
    by_cases hn : q = p
    · rw [hn, upd_same] at h; cases h
    · rw [upd_ne hn, e] at h; cases h
/-- a pair of ints at a value; a list of such pairs -/
def PR (H : Hp) (v : V) (r : Int × Int) : Prop := ∃ t, v = .ref t ∧ H t = some (.tup [.int r.1, .int r.2])
def RowsAt (H : Hp) (p : Addr) (rows : List (Int × Int)) : Prop := ∃ vs, H p = some (.lst vs) ∧ Paired (PR H) vs rows
theorem PR.but {v : V} {r : Int × Int} (b : But s H H') (hs : Src H s) (h : PR H v r) : PR H' v r := let ⟨t, e, ht⟩ := h; ⟨t, e, b.at (hs.neTup ht) ht⟩
theorem PR.same {v : V} {r : Int × Int} (b : Same H H') (h : PR H v r) : PR H' v r := let ⟨t, e, ht⟩ := h; ⟨t, e, b _ _ ht⟩
theorem PR.mutL {v : V} {r : Int × Int} {xs : List V} (hp : H p = some (.lst xs)) (h : PR H v r) : PR (upd H p o) v r := let ⟨t, e, ht⟩ := h; ⟨t, e, keepNe ht (ne_of ht hp (by intro z; cases z))⟩
theorem PRs.but {vs : List V} {rows : List (Int × Int)} (b : But s H H') (hs : Src H s) (h : Paired (PR H) vs rows) : Paired (PR H') vs rows := h.mono fun _ _ q => PR.but b hs q
theorem PRs.same {vs : List V} {rows : List (Int × Int)} (b : Same H H') (h : Paired (PR H) vs rows) : Paired (PR H') vs rows := h.mono fun _ _ q => PR.same b q
theorem PRs.mutL {vs xs : List V} {rows : List (Int × Int)} (hp : H p = some (.lst xs)) (h : Paired (PR H) vs rows) : Paired (PR (upd H p o)) vs rows := h.mono fun _ _ q => PR.mutL hp q
theorem PRs.new {vs : List V} {rows : List (Int × Int)} (hp : H p = none) (h : Paired (PR H) vs rows) : Paired (PR (upd H p o)) vs rows := h.mono fun _ _ q => PR.same (same_new hp) q
theorem RowsAt.but {rows : List (Int × Int)} (b : But s H H') (hs : Src H s) (hn : p ≠ s) (h : RowsAt H p rows) : RowsAt H' p rows := let ⟨vs, e, k⟩ := h; ⟨vs, b.at hn e, PRs.but b hs k⟩
theorem RowsAt.same {rows : List (Int × Int)} (b : Same H H') (h : RowsAt H p rows) : RowsAt H' p rows := let ⟨vs, e, k⟩ := h; ⟨vs, b _ _ e, PRs.same b k⟩
theorem RowsAt.neFree {rows : List (Int × Int)} (h : RowsAt H q rows) (hp : H p = none) : q ≠ p := let ⟨_, e, _⟩ := h; ne_of_none e hp
theorem Paired.at {α β : Type} {F : α → β → Prop} : ∀ {l₁ : List α} {l₂ : List β}, Paired F l₁ l₂ → ∀ {i : Nat} {b : β}, l₂[i]? = some b → ∃ a, l₁[i]? = some a ∧ F a b
  | _, _, .nil, i, b, h => by simp at h
  | _, _, .cons f r, 0, b, h => by
    have e := Option.some.inj h
    subst e; exact ⟨_, rfl, f⟩
  | _, _, .cons f r, i + 1, b, h => by
    obtain ⟨a, h1, h2⟩ := Paired.at r (i := i) (b := b) (by simpa using h)
    exact ⟨a, by simpa using h1, h2⟩
theorem Paired.at' {α β : Type} {F : α → β → Prop} : ∀ {l₁ : List α} {l₂ : List β}, Paired F l₁ l₂ → ∀ {i : Nat} {a : α}, l₁[i]? = some a → ∃ b, l₂[i]? = some b ∧ F a b
  | _, _, .nil, i, b, h => by simp at h
  | _, _, .cons f r, 0, b, h => by
    have e := Option.some.inj h
    subst e; exact ⟨_, rfl, f⟩
  | _, _, .cons f r, i + 1, b, h => by
    obtain ⟨a, h1, h2⟩ := Paired.at' r (i := i) (a := b) (by simpa using h)
    exact ⟨a, by simpa using h1, h2⟩
end
end G

namespace G
open PySem L2
structure CA where
  InvalidPointer : Addr
  InvalidStanding : Addr
  LotError : Addr
  NoIndex : Addr
  NoLine : Addr
  NoPage : Addr
  NoStart : Addr
  OnecopyError : Addr
  Standing : Addr
  Web : Addr
end G

/-! ### the tactic: walk_at "go" -/
local macro_rules | `(tactic| walk_at "hp") => `(tactic| first
  | assumption | exact L2.upd_same
  | exact G.keep (by walk_at "hp") (by assumption)
  | exact G.keepNe (by walk_at "hp") (by walk_at "ne")
  | exact G.But.at (by assumption) (by walk_at "ne") (by walk_at "hp")
  | exact G.Same.at (by assumption) (by walk_at "hp"))
local macro_rules | `(tactic| walk_at "ne") => `(tactic| first
  | assumption | exact Ne.symm (by assumption)
  | exact G.Src.neFree (by assumption) (by assumption) | exact (G.Src.neFree (by assumption) (by assumption)).symm
  | exact G.ne1 (by assumption) (by walk_at "hp") | exact (G.ne1 (by assumption) (by walk_at "hp")).symm)
local macro_rules | `(tactic| walk_at "src") => `(tactic| first
  | assumption | exact G.Src.new (by walk_at "src") (by assumption) | exact G.Src.mut (by walk_at "src") (by walk_at "ne") | exact G.Src.same (by assumption) (by walk_at "src"))
local macro_rules | `(tactic| walk_at "but") => `(tactic| first
  | assumption | exact G.But.refl
  | exact G.But.mut (by walk_at "but") (by assumption) | exact G.But.new (by walk_at "but") (by assumption) | exact G.But.self (by walk_at "but")
  | exact G.But.trans' (by assumption) (by walk_at "but") | exact G.But.trans' (G.Same.but (by assumption)) (by walk_at "but"))
local macro_rules | `(tactic| walk_at "same") => `(tactic| first
  | assumption | exact L2.Same.refl _
  | exact G.same_mut (by walk_at "same") (by assumption) | exact G.Same.trans' (G.same_new (by assumption)) (by walk_at "same") | exact G.Same.trans' (by assumption) (by walk_at "same"))
local macro_rules | `(tactic| walk_at "sq") => `(tactic| first
  | assumption | exact G.SqL.same (by assumption) (by walk_at "same") | exact L2.SqL.of (by walk_at "hp"))
local macro_rules | `(tactic| walk_at "at") => `(tactic| first
  | assumption | exact L2.atI_nat (by assumption) | exact G.at0 | exact G.at1 | exact G.at2 | exact G.at3 | exact G.at4)
local macro_rules | `(tactic| walk_at "ix") => `(tactic| first
  | assumption | exact G.ix0 | exact G.ix1 | exact G.ix2)
local macro_rules | `(tactic| walk_at "ar") => `(tactic| first | assumption | omega | decide)
local macro_rules | `(tactic| walk_at "one") => `(tactic| (with_reducible first
  | refine' G.w_seq ?_ | refine' G.w_asg ?_ | (refine' G.w_var ?g1 ?_; (case g1 => with_unfolding_all rfl)) | refine' G.w_c ?_ | refine' G.w_name ?_ | refine' G.w_op ?_
  | refine' G.w_oAdd ?_ | refine' G.w_oSub ?_ | (refine' G.w_oMulR ?g1 ?g2 ?_; (case g1 => walk_at "ar"); (case g2 => walk_at "ar")) | (refine' G.w_oMulL ?g1 ?g2 ?_; (case g1 => walk_at "ar"); (case g2 => walk_at "ar")) | (refine' G.w_oDiv ?g1 ?g2 ?_; (case g1 => walk_at "ar"); (case g2 => walk_at "ar")) | (refine' G.w_oMod ?g1 ?_; (case g1 => walk_at "ar")) | (refine' G.w_oPow ?g1 ?g2 ?g3 ?_; (case g1 => walk_at "ar"); (case g2 => walk_at "ar"); (case g3 => with_unfolding_all decide))
  | refine' G.w_oLt ?_ | refine' G.w_oLe ?_ | refine' G.w_oGt ?_ | refine' G.w_oGe ?_ | refine' G.w_un ?_ | refine' G.w_oNeg ?_ | refine' G.w_brk ?_ | refine' G.w_cont ?_ | refine' G.w_eqI ?_ | refine' G.w_neI ?_ | refine' G.w_eqB ?_
  | refine' G.w_cons ?_ | refine' G.w_nil ?_ | refine' G.w_ex ?_ | refine' G.w_exI ?_
  | refine' G.w_ret ?_ | refine' G.w_drop ?_ | refine' G.w_next ?_ | refine' G.w_retN ?_ | refine' G.w_if ?_ | refine' G.w_test ?_ | refine' G.w_tB ?_ | refine' G.w_ifE ?_
  | refine' G.w_iteT ?_ | refine' G.w_iteF ?_
  | refine' G.w_cb ?_ | refine' G.w_oInt ?_ | refine' G.w_oAbs ?_ | refine' G.w_oMax2 ?_ | refine' G.w_oMin2 ?_ | refine' G.w_call ?_ | refine' G.w_meth ?_ | refine' G.w_make ?_
  | refine' G.w_tup ?_ | refine' G.w_lst ?_ | (refine' G.w_small ?g1 ?_; (case g1 => with_unfolding_all exact Nat.le_of_ble_eq_true rfl))
  | (refine' G.w_ixL ?g1 ?g2 ?_; (case g1 => walk_at "sq"); (case g2 => with_unfolding_all walk_at "at"))
  | (refine' G.w_ixT ?g1 ?g2 ?_; (case g1 => walk_at "hp"); (case g2 => with_unfolding_all walk_at "at"))
  | (refine' G.w_lenL ?g1 ?_; (case g1 => walk_at "sq")) | (refine' G.w_listL ?g1 ?_; (case g1 => walk_at "sq")) | (refine' G.w_sum ?g1 ?_; (case g1 => walk_at "sq"))
  | refine' G.w_bm ?_ | refine' G.w_bm0 ?_ | (refine' G.w_tyL ?g1 ?_; (case g1 => walk_at "sq"))
  | (refine' G.w_append ?g1 ?g2 ?_; (case g1 => walk_at "hp"); (case g2 => walk_at "sz"))
  | refine' G.w_sub ?_ | (refine' G.w_setL ?g1 ?g2 ?_; (case g1 => walk_at "hp"); (case g2 => with_unfolding_all walk_at "ix"))
  | (refine' G.w_cat ?g1 ?g2 ?g3 ?_; (case g1 => walk_at "hp"); (case g2 => walk_at "hp"); (case g3 => walk_at "sz"))
  | refine' G.w_sl ?_ | refine' G.w_noPart ?_ | refine' G.w_part ?_ | (refine' G.w_slL ?g1 ?_; (case g1 => walk_at "sq"))
  | refine' G.w_gCons ?_ | refine' G.w_gNil ?_ | (refine' G.w_gTup ?g1 ?g2 ?_; (case g1 => walk_at "hp"); (case g2 => with_unfolding_all rfl))
  | refine' G.w_chain ?_ | refine' G.w_and ?_ | refine' G.w_or ?_ | refine' G.w_not ?_ | refine' G.w_andV ?_ | refine' G.w_orV ?_ | refine' G.w_notV ?_
  | refine' G.w_listRg ?_ | refine' G.w_rg1 ?_ | refine' G.w_augS ?_ | refine' G.w_ipI ?_
  | refine' G.w_fld ?_ | refine' G.w_sfld ?_ | refine' G.w_yes ?_ | refine' G.w_exA ?_ | refine' G.w_exA2 ?_ | refine' G.w_exR ?_ | refine' G.w_exRA ?_
  | (refine' G.w_acc ?g1 ?g2 ?_; (case g1 => walk_at "hp"); (case g2 => walk_at "sz"))
  | refine' G.w_forR1 ?_ | refine' G.w_forR2 ?_ | refine' G.w_forL ?_ | refine' G.w_forZ ?_ | refine' G.w_forE ?_ | refine' G.w_lcR1 ?_ | refine' G.w_lcL ?_
  | (refine' G.w_bd1 ?g1 ?g2 ?_; (case g1 => walk_at "ar"); (case g2 => walk_at "ar"))
  | (refine' G.w_bd2 ?g1 ?g2 ?g3 ?g4 ?_; (case g1 => walk_at "ar"); (case g2 => walk_at "ar"); (case g3 => walk_at "ar"); (case g4 => walk_at "ar"))
  | (refine' G.w_sqE ?g1 ?_; (case g1 => walk_at "sq"))
  | (refine' G.w_wipe ?g1 ?_; (case g1 => with_unfolding_all rfl)) | refine' G.w_lcT ?_ | refine' G.w_lcTif ?_
  | (refine' G.w_augName ?g1 ?_; (case g1 => with_unfolding_all rfl))
  | walk_at "call"))
local macro_rules | `(tactic| walk_at "sz") => `(tactic| first | assumption | exact L2.small1000 (by omega) | omega | exact L2.small1000 (by simp only [List.length_map, List.length_append, List.length_cons, List.length_nil, List.length_range, List.length_take, List.length_drop, List.length_set]; omega) | exact Nat.le_of_lt (L2.small1000 (by simp only [List.length_map, List.length_append, List.length_cons, List.length_nil, List.length_range, List.length_take, List.length_drop, List.length_set]; omega)))
local macro_rules | `(tactic| walk_at "go") => `(tactic| repeat walk_at "one")

/-! ### calls of methods and of makers that may raise, within a try: what is wanted of the error may speak of the slots -/
namespace GX
open PySem PySem.Spec PyProof.Rows L2
section
variable {X : Cx} {CX : CXT} {k : Nat} {f C : Addr} {fd : FuncData} {ps : List Str} {sp : Sp} {E : L2.St → XK} {x m : Str} {p pos apos : Pos} {e o : Expr} {es : List Expr} {ta : TE} {t : TA}
def tMethS (C : Addr) (m : Str) (sp : Sp) (E : L2.St → XK) (ta : TE) (t : TA) : TE := fun σ H Q => ta σ H fun x H1 => ∃ a dx fs, x = .ref a ∧ H1 a = some (.ins C dx fs) ∧ fs.lookup m = none ∧
  t σ H1 fun vs H2 => sp (x :: vs) H2 Q (E σ)
def tMakeS (C : Addr) (sp : Sp) (E : L2.St → XK) (t : TA) : TE := fun σ H Q => t σ H fun vs H1 => ∀ x dx, H1 x = none → H1 dx = none → dx ≠ x →
  sp (.ref x :: vs) (upd (upd H1 dx (.own x)) x (.ins C dx [])) (fun v H2 => v = .non ∧ Q (.ref x) H2) (E σ)
theorem pe_methS {pl : Sem Bool} (he : PE X o ta) (c : Cls X.K C) (hm : Meth X.K C m f) (F : FnOk X.prog X.w X.K X.mg X.base CX k f fd ps sp) (hr : Room k X.A) (hb : Binds X.K fd ps []) (hx : ∀ σ, PassesAt CX X σ (E σ)) (ha : PA X (e :: es) t)
    (hst : starEach (e :: es) X.env = (false, eval e X.env) :: starEach es X.env := by rfl) (hpl : (backTo pos (starEach es X.env)).any (·.1) = false := by rfl)
    (ht : eval (.Call (.Attribute o m apos) (e :: es) [] pos) X.env = (do
      let ov ← eval o X.env
      standAt apos.atName
      let (f, first) ← holding [ov] (getMethod ov m pl)
      callWith pos f first (backTo pos (starEach (e :: es) X.env)) (backToKw pos (keywordEach [] X.env))) := by rfl) :
    PE X (.Call (.Attribute o m apos) (e :: es) [] pos) (tMethS C m sp E ta t) := by
  refine ⟨fun pins s σ H Q I h => ?_⟩
  refine PySem.W.methodCall_KW (pl := pl) (thn (he.run pins s σ H _ I h) fun u s1 ⟨x, H1, I1, rx, a, dx, fs, ex, ea, l, q⟩ => ?_) ht
  subst ex
  obtain rfl : u = Value.ref a := rx
  refine getmeth_ok I1 ea c hm l ?_
  refine PySem.W.callWith_K (first := [.ref a]) (h₀ := X.base) I.ok.mod.kin hm.kp (thn (ha.run pos pins s1 σ H1 _ I1 q) fun us s2 ⟨vs, H2, I2, r, q2⟩ => ⟨I2.kIn, ?_⟩) hst hpl
  exact run_fnS (us := .ref a :: us) (vs := .ref a :: vs) F hr hb (hx σ) I2 (.cons rfl r) q2
theorem run_makeS {pins : List (Addr × Obj)} {σ : L2.St} {H : Hp} {s : Shared} {Q : VK} {us : List Value} {vs : List V} (M : Mk X.K C f) (F : FnOk X.prog X.w X.K X.mg X.base CX k f fd ps sp) (hr : Room (k + 1) X.A) (hb : Binds X.K fd ps [])
    (hx : PassesAt CX X σ (E σ)) (I : Inv X pins σ H s) (r : Vals vs us)
    (h : ∀ x dx, H x = none → H dx = none → dx ≠ x → sp (.ref x :: vs) (upd (upd H dx (.own x)) x (.ins C dx [])) (fun v H2 => v = .non ∧ Q (.ref x) H2) (E σ)) :
    wpAny (model X.prog X.w) X.A (call (.ref C) us) (EP X pins σ Q) X.xe s := by
  have hq := h (s.heap.objs.size + 1) s.heap.objs.size (I.hok.fresh (Nat.le_succ _)) (I.hok.fresh (Nat.le_refl _)) (Nat.ne_of_lt (Nat.lt_succ_self _))
  have I2 := Inv.made (C := C) I
  have r2 : Vals (V.ref (s.heap.objs.size + 1) :: vs) (Value.ref (s.heap.objs.size + 1) :: us) := .cons rfl r
  have hl : (Value.ref (s.heap.objs.size + 1) :: us ++ []).length = ps.length := by
    have e := r2.length
    rw [F.len _ _ _ _ hq] at e
    rw [List.append_nil]
    exact e.symm
  have b := hb _ (Value.ref (s.heap.objs.size + 1) :: us) I2.kIn hl
  rw [List.append_nil] at b
  refine wpAny_call (make_map (f := f) I.kIn M.makes M.init (beq_iff_eq.mp M.fn) (codeAny_mono (F.run _ X.stack _ _ ⟨Value.ref (s.heap.objs.size + 1) :: us, []⟩ (Value.ref (s.heap.objs.size + 1) :: us) _ _ (E σ) (hr.make C us [])
    (I2.env0.make C us []) b r2 hq) fun r s' hq' => ?_))
  cases r with
  | error e => exact hx pins _ _ e s' I2 hq'
  | ok fl =>
    cases fl with
    | ret u =>
      obtain ⟨v, H', I3, rv, ev, q3⟩ := I2.after hq'
      subst ev
      exact ⟨rv, ⟨V.ref (s.heap.objs.size + 1), H', I3, rfl, q3⟩⟩
    | next => exact False.elim hq'
    | brk => exact False.elim hq'
    | cont => exact False.elim hq'
theorem pe_makeS (M : Mk X.K C f) (F : FnOk X.prog X.w X.K X.mg X.base CX k f fd ps sp) (hr : Room (k + 1) X.A) (hg : Gl X x) (hm : X.mg x = some (.ref C)) (hb : Binds X.K fd ps []) (hx : ∀ σ, PassesAt CX X σ (E σ))
    (ha : PA X (e :: es) t) (hdb : (x == ("__debug__" : Str)) = false := by decide) (he : starEach (e :: es) X.env = (false, eval e X.env) :: starEach es X.env := by rfl) (hpl : (backTo pos (starEach es X.env)).any (·.1) = false := by rfl) :
    PE X (.Call (.Name x p) (e :: es) [] pos) (tMakeS C sp E t) := by
  refine ⟨fun pins s σ H Q I h => ?_⟩
  refine wpAny_Call_Name_kw (ld_glob I hg hm ?_ hdb)
  refine PySem.W.callWith_K (h₀ := X.base) I.ok.mod.kin M.kp (thn (ha.run pos pins s σ H _ I h) fun us s1 ⟨vs, H1, I1, r, q⟩ => ⟨I1.kIn, ?_⟩) he hpl
  exact run_makeS M F hr hb (hx σ) I1 r q
end
end GX
/-! ### isinstance of a caught error that has a dict of its own -/
namespace GX
open PySem PySem.Spec PyProof.Rows L2
def rIsX (K : PySem.W.Frag) (a : Addr) (cls : Value) (d : Option Addr) : List V → Hp → VK → Prop := fun xs H Q => ∃ (c : V) (u : Value) (b : Bool) (D dd : Addr) (fs : List (Str × V)),
  xs = [.ref a, c] ∧ ClsV c u ∧ cls = .ref D ∧ d = some dd ∧ ExcC K D ∧ H dd = some (.xd fs) ∧ PySem.W.kitOne K (.ref D) u = some b ∧ Q (.bl b) H
def rIsXT (K : PySem.W.Frag) (a : Addr) (cls : Value) (d : Option Addr) : List V → Hp → VK → Prop := fun xs H Q => ∃ (tp : Addr) (cs : List V) (us : List Value) (b : Bool) (D dd : Addr) (fs : List (Str × V)),
  xs = [.ref a, .ref tp] ∧ H tp = some (.tup cs) ∧ Paired ClsV cs us ∧ cls = .ref D ∧ d = some dd ∧ ExcC K D ∧ H dd = some (.xd fs) ∧ PySem.W.kitAny K (.ref D) us = some b ∧ Q (.bl b) H
section
variable {X : Cx} {a : Addr} {oe : Obj} {cls : Value} {d : Option Addr} {pn : List (Addr × Obj)}
theorem kit_here {K : PySem.W.Frag} {D : Addr} {x : Addr} {o : Obj} {od : Option Obj} (C : ExcC K D) : PySem.W.KitX K (.ref x) (.ref D) (fun h => PySem.W.InstAt h x o D od) := by
  have hc : (PySem.W.clsIn K D).isSome = true := by
    obtain ⟨cd, e, _⟩ := PySem.W.any_some C.hd
    rw [e]; rfl
  exact PySem.W.kitx_exc hc C.hg C.hk C.hs C.ha C.hn C.ht C.hm
theorem inst_here {pins : List (Addr × Obj)} {σ : L2.St} {H : Hp} {s : Shared} {D dd : Addr} {fs : List (Str × V)} (I : Inv (X.suite a ((a, oe) :: pn)) pins σ H s) (hz : Zc (.ref D) (some dd) oe) (hf : ∃ vs, oe.data = .fields vs) (hd : H dd = some (.xd fs)) :
    ∃ od, PySem.W.InstAt s.heap a oe D (some od) := by
  obtain ⟨hget, _⟩ := I.pin (a, oe) (List.mem_append_left _ List.mem_cons_self)
  obtain ⟨vs, hv⟩ := hf
  have ho : ObjOk X.prog X.w H s.heap dd (.xd fs) := I.hok dd _ hd
  obtain ⟨mA, hns, _⟩ := ho
  obtain ⟨od, e, _⟩ := lookIn_ns hns
  exact ⟨od, hget, hz.1, by unfold PySem.W.notCls; rw [hv] <;> rfl, by rw [hz.2]; exact e⟩
theorem call_isX (hz : Zc cls d oe) (hf : ∃ vs, oe.data = .fields vs) : CallR (X.suite a ((a, oe) :: pn)) (.builtin "isinstance") (rIsX X.K a cls d) := by
  intro pins s σ H xs us Q I r h
  obtain ⟨c, u, b, D, dd, fs, rfl, hc, rfl, rfl, C, hd, e, q⟩ := h
  obtain ⟨u1, u2, rfl, r1, r2⟩ := vals2 r
  cases (show u1 = Value.ref a from r1)
  cases hc.eq r2
  obtain ⟨od, J⟩ := inst_here I hz hf hd
  exact PySem.W.kia_one (kit_here C) I.kIn J e (fun z => nomatch z) fun tk => ⟨.bl b, H, I.tok tk, rfl, q⟩
theorem call_isXT (hz : Zc cls d oe) (hf : ∃ vs, oe.data = .fields vs) : CallR (X.suite a ((a, oe) :: pn)) (.builtin "isinstance") (rIsXT X.K a cls d) := by
  intro pins s σ H xs us Q I r h
  obtain ⟨tp, cs, ws, b, D, dd, fs, rfl, hT, hc, rfl, rfl, C, hd, e, q⟩ := h
  obtain ⟨u1, u2, rfl, r1, r2⟩ := vals2 r
  cases (show u1 = Value.ref a from r1)
  cases (show u2 = Value.ref tp from r2)
  obtain ⟨od, J⟩ := inst_here I hz hf hd
  have ho : ObjOk X.prog X.w H s.heap tp (.tup cs) := I.hok tp _ hT
  obtain ⟨_, its, rv, o, h1, h2, n, h3⟩ := ho
  cases ClsV.all hc rv
  obtain ⟨oc, od', dt, sl⟩ := o
  simp only at h2 h3
  cases h2
  cases h3
  exact PySem.W.kia_tup (kit_here C) I.kIn J h1 e (fun z => nomatch z) fun tk => ⟨.bl b, H, I.tok tk, rfl, q⟩
end
end GX

/-! ### calls, methods, makers and errors by one name each (defs that may raise) -/
namespace GX
open PySem PySem.Spec PyProof.Rows L2
structure CalX (P : Program) (w : World) (K : PySem.W.Frag) (mg : Str → Option Value) (base : Heap) (k : Nat) (x : Str) (sp : Sp) : Prop where
  ex : ∃ (f : Addr) (fd : FuncData) (ps : List Str), FnOk P w K mg base (L2.CX P w) k f fd ps sp ∧ mg x = some (.ref f) ∧ PySem.W.keepIn K (.ref f) = true ∧ L2.Binds K fd ps []
structure MetX (P : Program) (w : World) (K : PySem.W.Frag) (mg : Str → Option Value) (base : Heap) (k : Nat) (C : Addr) (m : Str) (sp : Sp) : Prop where
  ex : ∃ (f : Addr) (fd : FuncData) (ps : List Str), Cls K C ∧ Meth K C m f ∧ FnOk P w K mg base (L2.CX P w) k f fd ps sp ∧ L2.Binds K fd ps []
structure MakX (P : Program) (w : World) (K : PySem.W.Frag) (mg : Str → Option Value) (base : Heap) (k : Nat) (x : Str) (C : Addr) (sp : Sp) : Prop where
  ex : ∃ (f : Addr) (fd : FuncData) (ps : List Str), Mk K C f ∧ FnOk P w K mg base (L2.CX P w) k f fd ps sp ∧ mg x = some (.ref C) ∧ L2.Binds K fd ps []
structure ErrX (P : Program) (w : World) (K : PySem.W.Frag) (mg : Str → Option Value) (base : Heap) (k : Nat) (x : Str) (C : Addr) (sp : Sp) : Prop where
  oex : OexC K C
  ex : ∃ (f : Addr) (fd : FuncData) (ps : List Str), PySem.W.findIn K (.ref C) "__init__" = some (some (.ref f)) ∧ PySem.W.typeIn K (.ref f) = some (.type "function") ∧ FnOk P w K mg base CX0 k f fd ps sp ∧ mg x = some (.ref C) ∧ L2.Binds K fd ps []
/-- raise C(e, ..) -/
def tRaiseO (C : Addr) (sp : Sp) (E : XK) (ta : TA) : TS := fun _ σ H => tMkO C sp [] ta σ H fun cls d H' => E cls d H'
section
variable {X : Cx} {k j : Nat} {C : Addr} {x m : Str} {sp : Sp} {p pos apos pos2 : Pos} {e o : Expr} {es : List Expr} {ta : TE} {t : TA} {E : XK}
theorem pe_cX (c : CalX X.prog X.w X.K X.mg X.base k x sp) (hr : Room j X.A) (hk : k ≤ j) (hg : Gl X x) (hx : Passes (L2.CX X.prog X.w) X E) (ha : PA X (e :: es) t) (hdb : (x == ("__debug__" : Str)) = false := by decide)
    (he : starEach (e :: es) X.env = (false, eval e X.env) :: starEach es X.env := by rfl) (hpl : (backTo pos (starEach es X.env)).any (·.1) = false := by rfl) : PE X (.Call (.Name x p) (e :: es) [] pos) (tCall sp [] E t) :=
  let ⟨_, _, _, F, hm, kp, b⟩ := c.ex
  pe_call F (hr.mono hk) hg hm kp b .nil hx ha hdb he hpl
theorem pe_mkX (c : MakX X.prog X.w X.K X.mg X.base k x C sp) (hr : Room j X.A) (hk : k + 1 ≤ j) (hg : Gl X x) (hx : Passes (L2.CX X.prog X.w) X E) (ha : PA X (e :: es) t) (hdb : (x == ("__debug__" : Str)) = false := by decide)
    (he : starEach (e :: es) X.env = (false, eval e X.env) :: starEach es X.env := by rfl) (hpl : (backTo pos (starEach es X.env)).any (·.1) = false := by rfl) : PE X (.Call (.Name x p) (e :: es) [] pos) (tMake C sp [] E t) :=
  let ⟨_, _, _, M, F, hm, b⟩ := c.ex
  pe_make M F (hr.mono hk) hg hm b .nil hx ha hdb he hpl
theorem pe_mtX {pl : Sem Bool} (c : MetX X.prog X.w X.K X.mg X.base k C m sp) (hr : Room j X.A) (hk : k ≤ j) (hx : Passes (L2.CX X.prog X.w) X E) (he : PE X o ta) (ha : PA X (e :: es) t)
    (hst : starEach (e :: es) X.env = (false, eval e X.env) :: starEach es X.env := by rfl) (hpl : (backTo pos (starEach es X.env)).any (·.1) = false := by rfl)
    (ht : eval (.Call (.Attribute o m apos) (e :: es) [] pos) X.env = (do
      let ov ← eval o X.env; standAt apos.atName; let (f, first) ← holding [ov] (getMethod ov m pl)
      callWith pos f first (backTo pos (starEach (e :: es) X.env)) (backToKw pos (keywordEach [] X.env))) := by rfl) : PE X (.Call (.Attribute o m apos) (e :: es) [] pos) (tMeth C m sp [] E ta t) :=
  let ⟨_, _, _, hc, hm, F, b⟩ := c.ex
  pe_meth (pl := pl) he hc hm F (hr.mono hk) b .nil hx ha hst hpl ht
theorem pe_mtXT {W : WX} {pl : Sem Bool} (c : MetX X.prog X.w X.K X.mg X.base k C m sp) (hr : Room j X.A) (hk : k ≤ j) (tk : Takes X W) (he : PE X o ta) (ha : PA X (e :: es) t)
    (hst : starEach (e :: es) X.env = (false, eval e X.env) :: starEach es X.env := by rfl) (hpl : (backTo pos (starEach es X.env)).any (·.1) = false := by rfl)
    (ht : eval (.Call (.Attribute o m apos) (e :: es) [] pos) X.env = (do
      let ov ← eval o X.env; standAt apos.atName; let (f, first) ← holding [ov] (getMethod ov m pl)
      callWith pos f first (backTo pos (starEach (e :: es) X.env)) (backToKw pos (keywordEach [] X.env))) := by rfl) : PE X (.Call (.Attribute o m apos) (e :: es) [] pos) (tMethS C m sp (WE W) ta t) :=
  let ⟨_, _, _, hc, hm, F, b⟩ := c.ex
  pe_methS (pl := pl) he hc hm F (hr.mono hk) b (fun σ => passAt tk σ) ha hst hpl ht
theorem pe_mkXT {W : WX} (c : MakX X.prog X.w X.K X.mg X.base k x C sp) (hr : Room j X.A) (hk : k + 1 ≤ j) (hg : Gl X x) (tk : Takes X W) (ha : PA X (e :: es) t) (hdb : (x == ("__debug__" : Str)) = false := by decide)
    (he : starEach (e :: es) X.env = (false, eval e X.env) :: starEach es X.env := by rfl) (hpl : (backTo pos (starEach es X.env)).any (·.1) = false := by rfl) : PE X (.Call (.Name x p) (e :: es) [] pos) (tMakeS C sp (WE W) t) :=
  let ⟨_, _, _, M, F, hm, b⟩ := c.ex
  pe_makeS M F (hr.mono hk) hg hm b (fun σ => passAt tk σ) ha hdb he hpl
theorem ps_raiseO (c : ErrX X.prog X.w X.K X.mg X.base k x C sp) (hr : Room j X.A) (hk : k + 1 ≤ j) (hc : X.calm = true) (hg : Gl X x) (tk : Takes X (fun cls d _ H => E cls d H)) (ha : PA X (e :: es) t) (hdb : (x == ("__debug__" : Str)) = false := by decide)
    (he : starEach (e :: es) X.env = (false, eval e X.env) :: starEach es X.env := by rfl) (hpl : (backTo pos (starEach es X.env)).any (·.1) = false := by rfl) : PS X (.Raise (some (.Call (.Name x p) (e :: es) [] pos)) none pos2) (tRaiseO C sp E t) :=
  let ⟨_, _, _, iC, tI, F, hm, b⟩ := c.ex
  ps_raise hc tk (pmk_oex c.oex iC tI F (hr.mono hk) b .nil pass0 hg hm ha hdb he hpl)
end
/-- what an error with one field tells -/
def Raised (C : Addr) (f : Str) (v : V) (H : Hp) (E : XK) : Prop := ∀ (d : Addr) (H' : Hp), H d = none → Same H H' → H' d = some (.xd [(f, v)]) → E (.ref C) (some d) H'
/-- the promise of an error's __init__(self, v): self.f = v -/
def sp_err (K : PySem.W.Frag) (C : Addr) (f : Str) : Sp := fun vs H Q _ => ∃ (a : Addr) (v : V), vs = [.ref a, v] ∧ OexC K C ∧ PySem.W.findIn K (.ref C) f = some none ∧ H a = some (exo a C none) ∧
  ∀ dx, H dx = none → dx ≠ a → Q .non (upd (upd H dx (exd dx [(f, v)])) a (exo a C (some dx)))
def t_err (K : PySem.W.Frag) (f : Str) : TS := tOst K f (tVar 0) (tVar 1)
theorem rd_err {K : PySem.W.Frag} {C : Addr} {f p1 p2 : Str} {vs : List V} {H : Hp} {Q : VK} {E : XK} (h : sp_err K C f vs H Q E) : t_err K f { nx := fun _ H' => Q .non H', rt := Q } (start [p1, p2] vs) H := by
  obtain ⟨a, v, rfl, T, hno, ha, q⟩ := h
  exact ⟨_, rfl, _, rfl, a, C, rfl, T, hno, .inl ⟨ha, q⟩⟩
theorem w_raiseO {K : PySem.W.Frag} {C : Addr} {f : Str} {E : XK} {ta : TA} {D : Ends} {σ : L2.St} {H : Hp} {v : V} {H1 : Hp} (T : OexC K C) (hno : PySem.W.findIn K (.ref C) f = some none) (e1 : ∀ Q, Q [v] H1 → ta σ H Q) (r : Raised C f v H1 E) : tRaiseO C (sp_err K C f) E ta D σ H := by
  refine e1 _ ⟨(by show 1 ≤ 1000; decide), fun a ha => ⟨a, v, rfl, T, hno, upd_same, fun dx hdx ndx => ⟨rfl, dx, [(f, v)], upd_same, by rw [upd_ne ndx]; exact upd_same, ?_, ?_⟩⟩⟩
  · rw [upd_ne ndx] at hdx; exact hdx
  · have hd0 : H1 dx = none := by rw [upd_ne ndx] at hdx; exact hdx
    refine r dx _ hd0 (fun b o e => ?_) upd_same
    have nb : b ≠ dx := ne_of_none e hd0
    have na : b ≠ a := ne_of_none e ha
    rw [upd_ne nb, del_ne na, upd_ne na, upd_ne nb, upd_ne na]; exact e
end GX

/-! ### + by an own __add__; defs called within an except suite; errors with two fields -/
namespace GX
open PySem PySem.Spec PyProof.Rows L2
def rOwnAdd (C : Addr) (sp : Sp) (E : XK) : R2 := fun x y H Q => ∃ (a b dx dy : Addr) (fs gs : List (Str × V)), x = .ref a ∧ y = .ref b ∧ H a = some (.ins C dx fs) ∧ H b = some (.ins C dy gs) ∧
  sp [.ref a, .ref b] H (fun v H' => ∃ p, v = .ref p ∧ Q (.ref p) H') E
structure AddX (P : Program) (w : World) (K : PySem.W.Frag) (mg : Str → Option Value) (base : Heap) (k : Nat) (C : Addr) (sp : Sp) : Prop where
  ex : ∃ (f : Addr) (fd : FuncData) (ps : List Str), FnOk P w K mg base (L2.CX P w) k f fd ps sp ∧ PySem.W.findIn K (.ref C) "__add__" = some (some (.ref f)) ∧ PySem.W.isFn K (.ref f) = true ∧ L2.Binds K fd ps [] ∧ PySem.W.selfFirst K C = true
structure EqX (P : Program) (w : World) (K : PySem.W.Frag) (mg : Str → Option Value) (base : Heap) (k : Nat) (C : Addr) (sp : Sp) : Prop where
  ex : ∃ (f : Addr) (fd : FuncData) (ps : List Str), FnOk P w K mg base CX0 k f fd ps sp ∧ PySem.W.findIn K (.ref C) "__eq__" = some (some (.ref f)) ∧ PySem.W.isFn K (.ref f) = true ∧ L2.Binds K fd ps []
/-- x == y of two instances of a class with an own __eq__ -/
def rOwnEq2 (C : Addr) (sp : Sp) (E : XK) : R2 := fun x y H Q => ∃ (a b dx dy : Addr) (fs gs : List (Str × V)), x = .ref a ∧ y = .ref b ∧ H a = some (.ins C dx fs) ∧ H b = some (.ins C dy gs) ∧
  sp [.ref a, .ref b] H (fun v H' => ∃ r, v = .bl r ∧ Q (.bl r) H') E
section
variable {X : Cx} {k j : Nat} {C : Addr} {sp : Sp}
theorem looks_ins {pins : List (Addr × Obj)} {σ : L2.St} {H : Hp} {s : Shared} {b dy : Addr} {gs : List (Str × V)} (J0 : Inv X pins σ H s) (hb : H b = some (.ins C dy gs)) : PySem.W.Looks (model X.prog X.w) s.heap (typeOf (.ref b)) (.ref C) := by
  obtain ⟨_, J, _⟩ := ins_get J0.hok hb
  obtain ⟨_, J, _⟩ := J.look
  exact J.type
theorem run_add (c : AddX X.prog X.w X.K X.mg X.base k C sp) (room : Room j X.A) (le : k ≤ j) {pins : List (Addr × Obj)} {σ : L2.St} {H : Hp} {s : Shared} {x y : V} {v u : Value} {Q : VK} {E : XK} (out : PassesAt (L2.CX X.prog X.w) X σ E) (J0 : Inv X pins σ H s) (rx : RelV x v) (ry : RelV y u) (h : rOwnAdd C sp E x y H Q) :
    wpAny (model X.prog X.w) X.A (binaryOp .Add v u) (EP X pins σ Q) X.xe s := by
  obtain ⟨f, fd, ps, F, hs, hf, hbd, hself⟩ := c.ex
  obtain ⟨a, b, dx, dy, fs, gs, rfl, rfl, ha, hb, hsp⟩ := h
  cases rx
  cases ry
  have look := looks_ins J0 hb
  obtain ⟨_, J, _⟩ := ins_get J0.hok ha
  obtain ⟨_, J, _⟩ := J.look
  obtain ⟨m, hF⟩ := J0.fr
  have args2 : Vals [V.ref a, V.ref b] [Value.ref a, Value.ref b] := .cons rfl (.cons rfl .nil)
  have two := F.len _ _ _ _ hsp
  have bound := hbd s [.ref a, .ref b] J0.kIn (by simpa using two)
  refine PySem.W.binop_K (op := .Add) hF J0.ok.mod.kin J look hself hs hf (wpAny_call (codeAny_mono (F.run X.A X.stack s H ⟨[.ref a, .ref b], []⟩ _ _ _ E (room.mono le) J0.env0 (by simpa using bound) args2 hsp) fun r s' back => ?_))
  cases r with
  | error e => exact out pins H s e s' J0 back
  | ok fl =>
    cases fl with
    | ret w =>
      obtain ⟨z, H', J', rz, p, ez, q⟩ := J0.after back
      subst ez
      cases rz
      exact ⟨.ref p, H', J', rfl, q⟩
    | next => exact back.elim
    | brk => exact back.elim
    | cont => exact back.elim
theorem op_addX {E : XK} (c : AddX X.prog X.w X.K X.mg X.base k C sp) (room : Room j X.A) (le : k ≤ j) (out : Passes (L2.CX X.prog X.w) X E) : OpR X (binaryOp .Add) (rOwnAdd C sp E) :=
  fun pins s σ H x y v u Q J rx ry h => run_add c room le (fun pins H s e s' => out pins σ H s e s') J rx ry h
/-- a + b within a try -/
def tAddS (C : Addr) (sp : Sp) (E : L2.St → XK) (ta tb : TE) : TE := fun σ H Q => ta σ H fun x H1 => tb σ H1 fun y H2 => rOwnAdd C sp (E σ) x y H2 Q
theorem pe_addS {W : WX} {a b : Expr} {ta tb : TE} {pos : Pos} (c : AddX X.prog X.w X.K X.mg X.base k C sp) (room : Room j X.A) (le : k ≤ j) (tk : Takes X W) (ha : PE X a ta) (hb : PE X b tb) : PE X (.BinOp a .Add b pos) (tAddS C sp (WE W) ta tb) :=
  ⟨fun pins s σ H Q J h => wpAny_BinOp (binT (R := fun x y H2 => rOwnAdd C sp (WE W σ) x y H2 Q) ha hb J h fun v u s2 x y H2 J2 rx ry q => run_add c room le (passAt tk σ) J2 rx ry q)⟩
theorem op_eqX (c : EqX X.prog X.w X.K X.mg X.base k C sp) (room : Room j X.A) (le : k ≤ j) : OpR X (compareOp .Eq) (rOwnEq2 C sp E0) := by
  intro pins s σ H x y v u Q J0 rx ry h
  obtain ⟨f, fd, ps, F, hs, hf, hbd⟩ := c.ex
  obtain ⟨a, b, dx, dy, fs, gs, rfl, rfl, ha, hb, hsp⟩ := h
  cases rx
  cases ry
  have look := looks_ins J0 hb
  obtain ⟨_, J, _⟩ := ins_get J0.hok ha
  obtain ⟨_, J, _⟩ := J.look
  obtain ⟨m, hF⟩ := J0.fr
  have args2 : Vals [V.ref a, V.ref b] [Value.ref a, Value.ref b] := .cons rfl (.cons rfl .nil)
  have two := F.len _ _ _ _ hsp
  have bound := hbd s [.ref a, .ref b] J0.kIn (by simpa using two)
  show wpAny (model X.prog X.w) X.A (richCompare .Eq (.ref a) (.ref b)) (EP X pins σ Q) X.xe s
  refine PySem.W.cmp_K (op := .Eq) room.units0 hF J0.ok.mod.kin J look (by simp [PySem.W.notFirst]) hs hf (wpAny_call (codeAny_mono (F.run X.A X.stack s H ⟨[.ref a, .ref b], []⟩ _ _ _ E0 (room.mono le) J0.env0 (by simpa using bound) args2 hsp) fun r s' back => ?_))
  cases r with
  | error e => exact back.elim
  | ok fl =>
    cases fl with
    | ret w =>
      obtain ⟨z, H', J', rz, p, ez, q⟩ := J0.after back
      subst ez
      cases rz
      exact ⟨.bl p, H', J', rfl, q⟩
    | next => exact back.elim
    | brk => exact back.elim
    | cont => exact back.elim
end
end GX

/-! ### a def called while an exception is held: what it promises may speak of that exception -/
namespace GX
open PySem PySem.Spec PyProof.Rows L2
abbrev SpE := Addr → Value → Option Addr → Sp
structure FnG (P : Program) (w : World) (K : PySem.W.Frag) (mg : Str → Option Value) (base : Heap) (k : Nat) (f : Addr) (fd : FuncData) (ps : List Str) (sp : SpE) : Prop where
  len : ∀ a c d vs H Q, sp a c d vs H Q E0 → vs.length = ps.length
  run : ∀ (A : Around) (outer : List Env) (s : Shared) (H : Hp) (args : Args) (us : List Value) (vs : List V) (Q : VK) (p : Addr × Obj), L2H.RoomH k A → L2H.PinOk outer H s p → (∃ fv, p.2.data = .fields fv) →
    Env0 P w K mg base A outer s H → BindsTo s fd args (ps.zip us) → Vals vs us → sp p.1 p.2.cls p.2.dict vs H Q E0 → codeAny (model P w) A (.call (.ref f) args) (CR CX0 outer P w H s Q E0) s
abbrev cxG (P : Program) (w : World) (K : PySem.W.Frag) (mg : Str → Option Value) (base : Heap) (N : List Str) (qual : Str) (scope : Scope) (f : Addr) (cd : Value) (A : Around) (outer : List Env) (s : Shared) (H : Hp) (p : Addr × Obj) : Cx :=
  L2H.cxH CX0 P w K mg base N qual scope f cd A outer s H E0 p
theorem _root_.L2.Fun.okG {P : Program} {w : World} {K : PySem.W.Frag} {mg : Str → Option Value} {base : Heap} {x qual : Str} {st : Stmt} {f : Addr} {fd : FuncData} {N ps : List Str} {k : Nat} {sp : SpE} (F : Fun K x qual st f fd) (S : FnScope N ps (defScope st))
    (len : ∀ a c d vs H Q, sp a c d vs H Q E0 → vs.length = ps.length)
    (walks : ∀ (cdv : Value) (A : Around) (outer : List Env) (s : Shared) (H : Hp) (vs : List V) (Q : VK) (p : Addr × Obj), (∃ fv, p.2.data = .fields fv) → sp p.1 p.2.cls p.2.dict vs H Q E0 →
      ∃ t, PSs (cxG P w K mg base N qual (defScope st) f cdv A outer s H p) (defBody st) t ∧ t { nx := fun _ H' => Q .non H', rt := Q } (start N vs) H) : FnG P w K mg base (k + 1) f fd ps sp := by
  obtain ⟨oc, od, kV, doc, pm, an, cdv, ct, osl, rfl, at_, code⟩ := F.ex
  constructor
  · exact len
  intro A outer s H args us vs Q p room pin fields env bound rel promise
  have many := len _ _ _ _ _ _ promise
  have inK : K.In s.heap := env.mod.kin.keeps fun b o e => (env.bs b o e).1
  have free : s.heap.NoLimit := env.mod.nolimit.keeps fun b o e => (env.bs b o e).1
  have kinds : ∀ y ∈ ps.zip us, (defScope st).names.lookup y.1 = some .local ∨ ((defScope st).names.lookup y.1 = some .cell ∧ ((cellsFrom (s.heap.objs.size + 1) (defScope st).names []).lookup y.1).isSome = true) := by
    rintro ⟨n, v⟩ hy
    cases S.par n (List.of_mem_zip hy).1 with
    | inl q => exact .inl q
    | inr q => exact .inr ⟨q, PySem.W.cellsFrom_some _ _ _ (.inl q)⟩
  refine codeAny_call_function room.depth (inK _ _ at_) rfl S.co S.gen rfl (PySem.W.codeRec_of inK code) (bound _ _ _ _ (wpAny_newFunctionEnv_cells S.kind kinds fun e0 he s1 x => ?_))
  subst he
  refine ⟨free.keeps x.toInCall.keep, codeAny_func ?_⟩
  obtain ⟨t, der, goal⟩ := walks cdv A outer s H vs Q p fields promise
  have J : Inv (cxG P w K mg base N qual (defScope st) f cdv A outer s H p) [] (start N vs) H s1 := L2H.inv_startH S pin env many rel x
  refine wpAny_mono (der.run [] s1 (start N vs) H _ J goal) (fun r s' back => ?_) fun e s' back => back
  cases r with
  | ret u =>
    obtain ⟨v, σ', H', J', rv, q⟩ := back
    exact ⟨v, H', J'.os, J'.bare, J'.base, J'.hok, rv, q⟩
  | next =>
    obtain ⟨σ', H', J', q⟩ := back
    exact ⟨.non, H', J'.os, J'.bare, J'.base, J'.hok, rfl, q⟩
  | brk => obtain ⟨_, _, _, z⟩ := back; exact False.elim z
  | cont => obtain ⟨_, _, _, z⟩ := back; exact False.elim z
structure HotX (P : Program) (w : World) (K : PySem.W.Frag) (mg : Str → Option Value) (base : Heap) (k : Nat) (x : Str) (sp : SpE) : Prop where
  ex : ∃ (f : Addr) (fd : FuncData) (ps : List Str), FnG P w K mg base k f fd ps sp ∧ mg x = some (.ref f) ∧ PySem.W.keepIn K (.ref f) = true ∧ L2.Binds K fd ps []
/-- f(..) within an except suite -/
def tCallG (sp : Sp) (t : TA) : TE := fun σ H Q => t σ H fun vs H1 => sp vs H1 Q E0
theorem pe_callG {X : Cx} {k j : Nat} {x : Str} {sp : SpE} {p pos : Pos} {e : Expr} {es : List Expr} {t : TA} {a : Addr} {oe : Obj} {cls : Value} {d : Option Addr} {pn : List (Addr × Obj)} (c : HotX X.prog X.w X.K X.mg X.base k x sp) (room : Room j X.A) (le : k ≤ j) (hz : Zc cls d oe) (hf : ∃ vs, oe.data = .fields vs)
    (hg : Gl (X.suite a ((a, oe) :: pn)) x) (ha : PA (X.suite a ((a, oe) :: pn)) (e :: es) t) (hdb : (x == ("__debug__" : Str)) = false := by decide)
    (he : starEach (e :: es) X.env = (false, eval e X.env) :: starEach es X.env := by rfl) (hpl : (backTo pos (starEach es X.env)).any (·.1) = false := by rfl) : PE (X.suite a ((a, oe) :: pn)) (.Call (.Name x p) (e :: es) [] pos) (tCallG (sp a cls d) t) := by
  obtain ⟨f, fd, ps, F, hm, kp, hbd⟩ := c.ex
  obtain ⟨rfl, rfl⟩ := hz
  refine ⟨fun pins s σ H Q J0 h => ?_⟩
  refine wpAny_Call_Name_kw (ld_glob J0 hg hm (PySem.W.callWith_K (h₀ := X.base) J0.ok.mod.kin kp (thn (ha.run pos pins s σ H _ J0 h) fun us s1 ⟨vs, H1, J1, rel, q⟩ => ⟨J1.kIn, ?_⟩) he hpl) hdb)
  have two := F.len _ _ _ _ _ _ q
  have bound := hbd s1 us J1.kIn (by rw [List.append_nil, ← rel.length]; exact two)
  rw [List.append_nil] at bound
  have P1 := J1.pin (a, oe) (List.mem_append_left _ List.mem_cons_self)
  have pin : L2H.PinOk (X.suite a ((a, oe) :: pn)).stack H1 s1 (a, oe) := ⟨P1.1, P1.2.1, fun hmm => (List.mem_cons.mp (J1.stkSub a hmm)).elim P1.2.2.1 P1.2.2.2.1, P1.2.2.2.2⟩
  refine wpAny_call (codeAny_mono (F.run _ (X.suite a ((a, oe) :: pn)).stack s1 H1 ⟨us, []⟩ us vs Q (a, oe) ⟨(room.mono le).dp, (room.mono le).un⟩ pin hf J1.env0 bound rel q) fun r s' back => ?_)
  cases r with
  | error e => exact back.elim
  | ok fl =>
    cases fl with
    | ret u => exact J1.after back
    | next => exact back.elim
    | brk => exact back.elim
    | cont => exact back.elim
/-- isinstance of the exception that is held, within a def that is called in the suite -/
theorem call_isG {P : Program} {w : World} {K : PySem.W.Frag} {mg : Str → Option Value} {base : Heap} {N : List Str} {qual : Str} {scope : Scope} {f : Addr} {cd : Value} {A : Around} {outer : List Env} {s0 : Shared} {H0 : Hp} {p : Addr × Obj} (hf : ∃ vs, p.2.data = .fields vs) :
    CallR (cxG P w K mg base N qual scope f cd A outer s0 H0 p) (.builtin "isinstance") (rIsX K p.1 p.2.cls p.2.dict) := by
  intro pins s σ H xs us Q J0 r h
  obtain ⟨c, u, b, D, dd, fs, rfl, hc, ecls, edict, C, hd, e, q⟩ := h
  obtain ⟨u1, u2, rfl, r1, r2⟩ := vals2 r
  cases (show u1 = Value.ref p.1 from r1)
  cases hc.eq r2
  obtain ⟨hget, _⟩ := J0.pin p (List.mem_append_left _ (by show p ∈ [p]; simp))
  obtain ⟨vs, hv⟩ := hf
  have ho : ObjOk P w H s.heap dd (.xd fs) := J0.hok dd _ hd
  obtain ⟨mA, hns, _⟩ := ho
  obtain ⟨od, e2, _⟩ := lookIn_ns hns
  have J : PySem.W.InstAt s.heap p.1 p.2 D (some od) := ⟨hget, ecls, by unfold PySem.W.notCls; rw [hv] <;> rfl, by rw [edict]; exact e2⟩
  exact PySem.W.kia_one (kit_here C) J0.kIn J e (fun z => nomatch z) fun tk => ⟨.bl b, H, J0.tok tk, rfl, q⟩
/-! ### errors with two fields -/
def sp_err2 (K : PySem.W.Frag) (C : Addr) (f g : Str) : Sp := fun vs H Q _ => ∃ (a : Addr) (v u : V), vs = [.ref a, v, u] ∧ OexC K C ∧ PySem.W.findIn K (.ref C) f = some none ∧ PySem.W.findIn K (.ref C) g = some none ∧ H a = some (exo a C none) ∧
  ∀ dx (H' : Hp), H dx = none → dx ≠ a → H' a = some (exo a C (some dx)) → H' dx = some (exd dx [(g, u), (f, v)]) → (∀ b, b ≠ a → b ≠ dx → H' b = H b) → Q .non H'
def t_err2 (K : PySem.W.Frag) (f g : Str) : TS := tSeq (tOst K f (tVar 0) (tVar 1)) (tOst K g (tVar 0) (tVar 2))
theorem rd_err2 {K : PySem.W.Frag} {C : Addr} {f g p1 p2 p3 : Str} {vs : List V} {H : Hp} {Q : VK} {E : XK} (h : sp_err2 K C f g vs H Q E) : t_err2 K f g { nx := fun _ H' => Q .non H', rt := Q } (start [p1, p2, p3] vs) H := by
  obtain ⟨a, v, u, rfl, T, hf, hg, ha, q⟩ := h
  refine ⟨_, rfl, _, rfl, a, C, rfl, T, hf, .inl ⟨ha, fun dx hdx ndx => ?_⟩⟩
  refine ⟨_, rfl, _, rfl, a, C, rfl, T, hg, .inr ⟨dx, [(f, v)], upd_same, by rw [upd_ne ndx]; exact upd_same, by show 1 ≤ 900; decide, ?_⟩⟩
  refine q dx _ hdx ndx (by rw [upd_ne ndx.symm]; exact upd_same) upd_same fun b nb nd => ?_
  rw [upd_ne nd, upd_ne nb, upd_ne nd]
/-- what an error with two fields tells -/
def Raised2 (C : Addr) (f g : Str) (v u : V) (H : Hp) (E : XK) : Prop := ∀ (d : Addr) (H' : Hp), H d = none → Same H H' → H' d = some (.xd [(g, u), (f, v)]) → E (.ref C) (some d) H'
theorem w_raiseO2 {K : PySem.W.Frag} {C : Addr} {f g : Str} {E : XK} {ta : TA} {D : Ends} {σ : L2.St} {H : Hp} {v u : V} {H1 : Hp} (T : OexC K C) (hf : PySem.W.findIn K (.ref C) f = some none) (hg : PySem.W.findIn K (.ref C) g = some none) (e1 : ∀ Q, Q [v, u] H1 → ta σ H Q) (r : Raised2 C f g v u H1 E) : tRaiseO C (sp_err2 K C f g) E ta D σ H := by
  refine e1 _ ⟨(by show 2 ≤ 1000; decide), fun a ha => ⟨a, v, u, rfl, T, hf, hg, upd_same, fun dx H' hdx ndx h1 h2 h3 => ⟨rfl, dx, _, h1, h2, ?_, ?_⟩⟩⟩
  · rw [upd_ne ndx] at hdx; exact hdx
  · have hd0 : H1 dx = none := by rw [upd_ne ndx] at hdx; exact hdx
    refine r dx _ hd0 (fun b o e => ?_) upd_same
    have nb : b ≠ dx := ne_of_none e hd0
    have na : b ≠ a := ne_of_none e ha
    rw [upd_ne nb, del_ne na, h3 b na nb, upd_ne na]; exact e
end GX

/-! ### facts of the head about error classes and own operators -/
namespace GX
open PySem PySem.Spec PyProof.Rows L2
def clsB (K : PySem.W.Frag) (C : Addr) : Bool := match K.lookup C with
  | some ⟨.type t, _, .cls cd, sl⟩ => (match cd.mro, sl.toList with
    | .ref C2 :: bm, [_, _, _, _, some (.builtin n), _] => t == "type" && (C2 == C && (n == "ValueError.__new__" && (!cd.hasDel && (cd.hasDict && PySem.HandSPX.refsVE bm))))
    | _, _ => false)
  | _ => false
theorem clsB_ok {K : PySem.W.Frag} {C : Addr} (h : clsB K C = true) : ∃ nm q N bs bm sn sub ab col dd k0 k1 k2 k3 k5, K.lookup C = some (excClassObj nm q C N bs bm true sn sub ab col dd k0 k1 k2 k3 k5 "ValueError.__new__") ∧ PySem.HandSPX.refsVE bm = true := by
  unfold clsB at h
  split at h
  · rename_i t dd cd sl found
    split at h
    · rename_i C2 bm k0 k1 k2 k3 n k5 em es
      simp only [Bool.and_eq_true, beq_iff_eq, Bool.not_eq_true'] at h
      obtain ⟨rfl, rfl, rfl, nodel, hasd, tail⟩ := h
      obtain ⟨nm, bs, mro, ns, qn, hd, sn, sub, ab, col, del⟩ := cd
      dsimp only at em nodel hasd
      subst em nodel hasd
      obtain ⟨l⟩ := sl
      simp only at es
      subst es
      exact ⟨nm, qn, ns, bs, bm, sn, sub, ab, col, dd, k0, k1, k2, k3, k5, found, tail⟩
    · cases h
  · cases h
inductive Ex where
  | oex (x : Str)
  | exc (x : Str)
  | xf (x : Str)
  | noat (x f : Str)
  | ini (x : Str)
  | kit (x y : Str) (b : Bool)
  | kitT (x : Str) (t : String) (b : Bool)
  | exm (x y : Str) (b : Bool)
  | first (x : Str)
  | ins (x : Str)
  | kitR (t : String) (x : Str) (b : Bool)
  | kitA (x : Str) (ys : List Str) (b : Bool)
  | nfst (x : Str) (t : String)
def Ex.ok (K : PySem.W.Frag) : Ex → Bool
  | .oex x => clsB K (He.ga K x) && (decide (PySem.W.findIn K (.ref (He.ga K x)) "__setattr__" = some (some (.builtin "object.__setattr__"))) && (decide (PySem.W.subIn K (.ref (He.ga K x)) (.type "BaseException") = some true) && (decide (PySem.W.typeIn K (.ref (He.ga K x)) = some (.type "type")) && PySem.W.keepIn K (.ref (He.ga K x)))))
  | .exc x => decide (PySem.W.findIn K (.ref (He.ga K x)) "__getattribute__" = some (some (.builtin "BaseException.__getattribute__"))) && (decide (PySem.W.findIn K (.ref (He.ga K x)) "__getattr__" = some none) && (decide (PySem.W.subIn K (.ref (He.ga K x)) (.type "BaseException") = some true) &&
      (PySem.W.hasDictIn K (He.ga K x) && (decide (PySem.W.findIn K (.ref (He.ga K x)) "__class__" = some (some (.builtin "object.__class__"))) && (decide (PySem.W.specialIn K (.builtin "object.__class__") "__get__" = some (some (.builtin "getset_descriptor.__get__"))) &&
      (decide (PySem.W.takesIn K (.builtin "object.__class__") = some true) && decide (PySem.W.mroIn K (He.ga K x) (.type "object") = some true)))))))
  | .xf x => xfB K (He.ga K x)
  | .noat x f => decide (PySem.W.findIn K (.ref (He.ga K x)) f = some none)
  | .ini x => decide (PySem.W.findIn K (.ref (He.ga K x)) "__init__" = some (some (.ref (He.ma K (He.ga K x) "__init__")))) && decide (PySem.W.typeIn K (.ref (He.ma K (He.ga K x) "__init__")) = some (.type "function"))
  | .kit x y b => decide (PySem.W.kitOne K (.ref (He.ga K x)) (.ref (He.ga K y)) = some b)
  | .kitT x t b => decide (PySem.W.kitOne K (.ref (He.ga K x)) (.type t) = some b)
  | .exm x y b => decide (PySem.W.exmOne K (.ref (He.ga K x)) (.ref (He.ga K y)) = some b)
  | .first x => PySem.W.selfFirst K (He.ga K x)
  | .kitR t x b => decide (PySem.W.kitOne K (.type t) (.ref (He.ga K x)) = some b)
  | .kitA x ys b => decide (PySem.W.kitAny K (.ref (He.ga K x)) (ys.map fun y => .ref (He.ga K y)) = some b)
  | .nfst x t => PySem.W.notFirst K (He.ga K x) (.type t)
  | .ins x => decide (PySem.W.findIn K (.ref (He.ga K x)) "__class__" = some (some (.builtin "object.__class__"))) && (decide (PySem.W.specialIn K (.builtin "object.__class__") "__get__" = some (some (.builtin "getset_descriptor.__get__"))) &&
      (decide (PySem.W.takesIn K (.builtin "object.__class__") = some true) && decide (PySem.W.mroIn K (He.ga K x) (.type "object") = some true)))
structure InsC (K : PySem.W.Frag) (C : Addr) : Prop where
  ha : PySem.W.findIn K (.ref C) "__class__" = some (some (.builtin "object.__class__"))
  hn : PySem.W.specialIn K (.builtin "object.__class__") "__get__" = some (some (.builtin "getset_descriptor.__get__"))
  ht : PySem.W.takesIn K (.builtin "object.__class__") = some true
  hm : PySem.W.mroIn K C (.type "object") = some true
section
variable {K : PySem.W.Frag} {x y f : Str} {t : String} {b : Bool}
theorem oex_ok (h : (Ex.oex x).ok K = true) : OexC K (He.ga K x) := by
  obtain ⟨h1, h⟩ := He.ba h
  obtain ⟨h2, h⟩ := He.ba h
  obtain ⟨h3, h⟩ := He.ba h
  obtain ⟨h4, h5⟩ := He.ba h
  exact ⟨clsB_ok h1, of_decide_eq_true h2, of_decide_eq_true h3, of_decide_eq_true h4, h5⟩
theorem exc_ok (h : (Ex.exc x).ok K = true) : ExcC K (He.ga K x) := by
  obtain ⟨h1, h⟩ := He.ba h
  obtain ⟨h2, h⟩ := He.ba h
  obtain ⟨h3, h⟩ := He.ba h
  obtain ⟨h4, h⟩ := He.ba h
  obtain ⟨h5, h⟩ := He.ba h
  obtain ⟨h6, h⟩ := He.ba h
  obtain ⟨h7, h8⟩ := He.ba h
  exact ⟨of_decide_eq_true h1, of_decide_eq_true h2, of_decide_eq_true h3, h4, of_decide_eq_true h5, of_decide_eq_true h6, of_decide_eq_true h7, of_decide_eq_true h8⟩
theorem xf_ok (h : (Ex.xf x).ok K = true) : XfC K (He.ga K x) := xfB_ok h
theorem noat_ok (h : (Ex.noat x f).ok K = true) : PySem.W.findIn K (.ref (He.ga K x)) f = some none := of_decide_eq_true h
theorem ini_ok (h : (Ex.ini x).ok K = true) : PySem.W.findIn K (.ref (He.ga K x)) "__init__" = some (some (.ref (He.ma K (He.ga K x) "__init__"))) ∧ PySem.W.typeIn K (.ref (He.ma K (He.ga K x) "__init__")) = some (.type "function") := by
  obtain ⟨h1, h2⟩ := He.ba h
  exact ⟨of_decide_eq_true h1, of_decide_eq_true h2⟩
theorem kit_ok (h : (Ex.kit x y b).ok K = true) : PySem.W.kitOne K (.ref (He.ga K x)) (.ref (He.ga K y)) = some b := of_decide_eq_true h
theorem kitT_ok (h : (Ex.kitT x t b).ok K = true) : PySem.W.kitOne K (.ref (He.ga K x)) (.type t) = some b := of_decide_eq_true h
theorem exm_ok (h : (Ex.exm x y b).ok K = true) : PySem.W.exmOne K (.ref (He.ga K x)) (.ref (He.ga K y)) = some b := of_decide_eq_true h
theorem kitR_ok (h : (Ex.kitR t x b).ok K = true) : PySem.W.kitOne K (.type t) (.ref (He.ga K x)) = some b := of_decide_eq_true h
theorem kitA_ok {ys : List Str} (h : (Ex.kitA x ys b).ok K = true) : PySem.W.kitAny K (.ref (He.ga K x)) (ys.map fun y => .ref (He.ga K y)) = some b := of_decide_eq_true h
theorem nfst_ok (h : (Ex.nfst x t).ok K = true) : PySem.W.notFirst K (He.ga K x) (.type t) = true := h
theorem first_ok (h : (Ex.first x).ok K = true) : PySem.W.selfFirst K (He.ga K x) = true := h
theorem ins_ok (h : (Ex.ins x).ok K = true) : InsC K (He.ga K x) := by
  obtain ⟨h5, h⟩ := He.ba h
  obtain ⟨h6, h⟩ := He.ba h
  obtain ⟨h7, h8⟩ := He.ba h
  exact ⟨of_decide_eq_true h5, of_decide_eq_true h6, of_decide_eq_true h7, of_decide_eq_true h8⟩
end
abbrev AlE : Type := He.AlD × Bool
def obsE (fa : List He.Fa) (fn : List He.DefD) (ex : List Ex) (K : PySem.W.Frag) : AlE := (He.obsD fa fn K, ex.all fun e => e.ok K)
def obsEG (n : Nat) (fa : List He.Fa) (fn : List He.DefD) (ex : List Ex) (g : Addr → Option Obj) : AlE := obsE fa fn ex (He.frG g (He.asD g n))
def SaysE (fa : List He.Fa) (fn : List He.DefD) (ex : List Ex) (K : PySem.W.Frag) : Prop := He.SaysD fa fn K ∧ (ex.all fun e => e.ok K) = true
def hookE (n : Nat) (fa : List He.Fa) (fn : List He.DefD) (ex : List Ex) : PySem.W.Hook where
  α := AlE
  obs := fun s => obsEG n fa fn ex s.heap.get?
  val := fun _ => (He.valD fn, true)
  says := fun _ h => ∃ K : PySem.W.Frag, K.In h ∧ SaysE fa fn ex K
  of := fun _ _ e => ⟨_, He.frG_in, congrArg (fun z : AlE => z.1) e, congrArg (fun z : AlE => z.2) e⟩
  keeps := fun _ _ _ ⟨K, hK, c⟩ k => ⟨K, PySem.W.Frag.In.keeps hK k, c⟩
theorem obsEG_eq {n : Nat} {fa : List He.Fa} {fn : List He.DefD} {ex : List Ex} {g : Addr → Option Obj} {s : Shared} (h : ∀ a, g a = s.heap.get? a) : obsEG n fa fn ex g = (hookE n fa fn ex).obs s := by
  obtain rfl : g = s.heap.get? := funext h
  rfl
theorem SaysE.more {fa : List He.Fa} {fn : List He.DefD} {ex : List Ex} {K : PySem.W.Frag} (c : SaysE fa fn ex K) (i : Nat) {e : Ex} (h : ex[i]? = some e := by rfl) : e.ok K = true := List.all_eq_true.mp c.2 e (List.mem_of_getElem? h)
end GX

namespace GX
open PySem L2 G
/-- try: body; except C as n: suite (n in slot i) -/
def tTryAs (K : PySem.W.Frag) (C : Addr) (i : Nat) (tb : WX → TS) (ts : Addr → Value → Option Addr → TS) : TS := fun D σ H => tb (wAs K (.ref C) i ts (fun _ _ _ _ => False) D) D σ H
theorem w_isX {K : PySem.W.Frag} {a D dd : Addr} {c : V} {u : Value} {b : Bool} {fs : List (Str × V)} {H : Hp} {Q : VK} (hc : ClsV c u) (C : ExcC K D) (hd : H dd = some (.xd fs)) (e : PySem.W.kitOne K (.ref D) u = some b) (q : Q (.bl b) H) :
    rIsX K a (.ref D) (some dd) [.ref a, c] H Q := ⟨c, u, b, D, dd, fs, rfl, hc, rfl, rfl, C, hd, e, q⟩
theorem w_xf {a C dd : Addr} {f : Str} {fs : List (Str × V)} {v : V} {te : TE} {σ : L2.St} {H : Hp} {Q : VK} (h : ∀ Q : VK, Q (.ref a) H → te σ H Q) (hd : H dd = some (.xd fs)) (l : fs.lookup f = some v) (q : Q v H) : tXf a (.ref C) (some dd) C f te σ H Q :=
  h _ ⟨rfl, rfl, dd, fs, v, rfl, hd, l, q⟩
theorem w_callG {sp : Sp} {tl : TA} {σ : L2.St} {H : Hp} {Q : VK} (h : tl σ H fun vs H1 => sp vs H1 Q E0) : tCallG sp tl σ H Q := h
theorem w_addS {C : Addr} {sp : Sp} {E : L2.St → XK} {ta tb : TE} {σ : L2.St} {H : Hp} {Q : VK} (h : ta σ H fun x H1 => tb σ H1 fun y H2 => rOwnAdd C sp (E σ) x y H2 Q) : tAddS C sp E ta tb σ H Q := h
end GX
namespace GX
open PySem PySem.Spec PyProof.Rows L2
/-- f(..) of a def that may raise, within a try -/
def tCallS (sp : Sp) (E : L2.St → XK) (t : TA) : TE := fun σ H Q => t σ H fun vs H1 => sp vs H1 Q (E σ)
theorem w_callS {sp : Sp} {E : L2.St → XK} {tl : TA} {σ : L2.St} {H : Hp} {Q : VK} (h : tl σ H fun vs H1 => sp vs H1 Q (E σ)) : tCallS sp E tl σ H Q := h
theorem pe_cXT {X : Cx} {k j : Nat} {x : Str} {sp : Sp} {W : WX} {p pos : Pos} {e : Expr} {es : List Expr} {t : TA} (c : CalX X.prog X.w X.K X.mg X.base k x sp) (hr : Room j X.A) (hk : k ≤ j) (hg : Gl X x) (tk : Takes X W) (ha : PA X (e :: es) t) (hdb : (x == ("__debug__" : Str)) = false := by decide)
    (he : starEach (e :: es) X.env = (false, eval e X.env) :: starEach es X.env := by rfl) (hpl : (backTo pos (starEach es X.env)).any (·.1) = false := by rfl) : PE X (.Call (.Name x p) (e :: es) [] pos) (tCallS sp (WE W) t) := by
  obtain ⟨f, fd, ps, F, hm, kp, hbd⟩ := c.ex
  refine ⟨fun pins s σ H Q J0 h => ?_⟩
  exact wpAny_Call_Name_kw (ld_glob J0 hg hm (PySem.W.callWith_K (h₀ := X.base) J0.ok.mod.kin kp (thn (ha.run pos pins s σ H _ J0 h) fun us s1 ⟨vs, H1, J1, rel, q⟩ => ⟨J1.kIn, run_fnS F (hr.mono hk) hbd (passAt tk σ) J1 rel q⟩) he hpl) hdb)
end GX
namespace GX
open PySem L2 G
def oInsert : V → List V → Hp → VK → Prop := fun x vs H Q => ∃ (l : Addr) (xs : List V) (i : Int) (y : V), x = .ref l ∧ vs = [.int i, y] ∧ H l = some (.lst xs) ∧ xs.length < sizeLine ∧ 0 ≤ i ∧ i < 2 ^ 63 ∧ Q .non (upd H l (.lst (xs.take i.toNat ++ [y] ++ xs.drop i.toNat)))
theorem mt_ins {X : Cx} : MtR X "list.insert" oInsert := mt_insert
theorem w_insert {H : Hp} {Q : VK} {p : Addr} {xs : List V} {i : Int} {y : V} (h : H p = some (.lst xs)) (hz : xs.length ≤ 900) (h0 : 0 ≤ i) (h1 : i < 1000000) (q : ∀ zs, Q .non (upd H p (.lst zs))) : oInsert (.ref p) [.int i, y] H Q :=
  ⟨p, xs, i, y, rfl, rfl, h, small1000 (by omega), h0, by omega, q _⟩
end GX

/-! ### several except clauses with names; walks over what is a list or a tuple -/
namespace GY
open PySem PySem.Spec PyProof.Rows L2
abbrev Cls3 := Value × Nat × (Addr → Value → Option Addr → TS)
def wManyAs (K : PySem.W.Frag) (Wout : WX) (D : Ends) : List Cls3 → WX
  | [] => Wout
  | (c, i, ts) :: r => fun cls d σ H => ∃ b, PySem.W.exmOne K cls c = some b ∧
      (b = true → ∀ a, H a = none → ts a cls d { nx := fun σ' H' => D.nx (σ'.set i none) H', rt := D.rt, bk := fun σ' H' => D.bk (σ'.set i none) H', ct := fun σ' H' => D.ct (σ'.set i none) H' } (σ.set i (some (.ref a))) H) ∧
      (b = false → wManyAs K Wout D r cls d σ H)
inductive HdsAs (X : Cx) : List ExceptHandler → List Cls3 → Prop
  | nil : HdsAs X [] []
  | cons {x n : Str} {c : Value} {i : Nat} {ts : Addr → Value → Option Addr → TS} {b₀ : Stmt} {suite : List Stmt} {np pos' : Pos} {hds : List ExceptHandler} {l : List Cls3} (hi : X.N[i]? = some n) (hln : X.env.kindOf n = some .local) (hc : Names X x c)
      (hsu : ∀ (a : Addr) (oe : Obj) (cls : Value) (d : Option Addr) (pn : List (Addr × Obj)), Zc cls d oe → (∃ vs, oe.data = .fields vs) → PSs (X.suite a ((a, oe) :: pn)) (b₀ :: suite) (ts a cls d)) (r : HdsAs X hds l) :
      HdsAs X (.ExceptHandler (some (.Name x np)) (some n) (b₀ :: suite) pos' :: hds) ((c, i, ts) :: l)
def tTryMany (K : PySem.W.Frag) (l : List Cls3) (tb : WX → TS) : TS := fun D σ H => tb (wManyAs K (fun _ _ _ _ => False) D l) D σ H
section
variable {X : Cx} {body : List Stmt} {h₀ : ExceptHandler} {hds : List ExceptHandler} {l : List Cls3} {pos : Pos} {tb : WX → TS}
theorem ps_try_manyAs (hs : X.stack = X.env :: X.outer) (hf : X.env.frame = some X.env.locals) (hN : X.N.Nodup) (tk : Takes X (fun _ _ _ _ => False))
    (hb : ∀ (W : WX) (pn : List (Addr × Obj)) (xe : Value → Shared → Prop), Takes (X.tr pn xe) W → PassesOwn (model X.prog X.w) X.A X.env xe → PSs (X.tr pn xe) body (tb W))
    (hh : HdsAs X (h₀ :: hds) l) : PS X (.Try body (h₀ :: hds) [] [] pos) (tTryMany X.K l tb) := by
  refine ⟨fun pins s σ H D I h => ?_⟩
  have ok := I.ok
  have hfr : X.A.frames = some (X.env :: X.outer) := by rw [ok.frames, hs]
  refine wpAny_Try_except ?_
  refine wpAny_mono ((hb (wManyAs X.K (fun _ _ _ _ => False) D l) (X.pn ++ pins) (fun e s₁ => wpAny (model X.prog X.w) X.A (noteFrame e X.env) (fun _ s₂ => wpAny (model X.prog X.w) X.A (setFlight e none) (fun _ s₃ =>
    wpAny (model X.prog X.w) X.A (handleBy e X.env (h₀ :: hds)) (SP X pins D) X.xe s₃) X.xe s₂) X.xe s₁) (fun u s' xx => ?_) PassesOwn.looking).run [] s σ H D (I.toTry _) h) (fun f s1 hsp => ?_) (fun e s1 he => he)
  · obtain ⟨a, B, sI, pins', σ', H', cls, d, rfl, J', nb, up, sky, na, os, ag, w⟩ := xx
    have J : Inv X pins σ' H' sI := J'.ofTry ok
    have sky' : Sky B (X.env :: X.outer) a (Zc cls d) X.env.locals s'.heap := by rw [← hs]; exact sky
    show wpAny (model X.prog X.w) X.A (noteFrame (.ref a) X.env) _ _ _
    refine Sky.land Zc.steady hfr hf sky' fun h3 fl3 up3 => ?_
    have J3 : Inv X pins σ' H' { s' with heap := h3 } := J.landed nb fl3.1 (up.trans up3) os ag
    obtain ⟨oe3, vs3, he3, hz3, hd3⟩ := fl3.there
    have notFr : ∀ {h : Heap} {o : Obj} {vs : Array Value}, h.FunFrames B (X.env :: X.outer) → h.get? a = some o → o.data = .fields vs → a ∉ frs (X.env :: X.outer) := fun {h o vs} ff e dd hm => by
      obtain ⟨_, o', e', hnf⟩ := ff.mem hm
      rw [e] at e'; cases e'
      exact hnf _ dd
    have nfr := notFr fl3.2.2.1 he3 hd3
    have nL : a ≠ X.env.locals := fun z => nfr (List.mem_filterMap.mpr ⟨X.env, List.mem_cons_self, by rw [hf, z]⟩)
    have nF : a ∉ X.fs := fun hm => by
      obtain ⟨e, he, q⟩ := List.mem_filterMap.mp hm
      exact nfr (List.mem_filterMap.mpr ⟨e, List.mem_cons_of_mem _ he, q⟩)
    have S3 := J3.suite he3 hd3 na nL nF
    have go : ∀ {hds' : List ExceptHandler} {l' : List Cls3}, HdsAs X hds' l' → wManyAs X.K (fun _ _ _ _ => False) D l' cls d σ' H' →
        wpAny (model X.prog X.w) X.A (handleBy (.ref a) X.env hds') (SP X pins D) X.xe { s' with heap := h3 } := by
      intro hds' l' hk
      induction hk with
      | nil => exact fun w => w.elim
      | @cons x n c i ts b₀ suite np pos' hds2 l2 hi hln hc hsu r ih =>
        intro w
        have hloc : Loc X.env.scope n := .inl hln
        obtain ⟨b, hb1, hyes, hno⟩ := w
        refine wpAny_handleBy_cons (codeAny_handlers_test ?_) (by intro q; cases q)
        have LT : PySem.W.Looks (model X.prog X.w) h3 (typeOf (.ref a)) cls := fun A Q E s k q => wpAny_typeOf_ref (k _ _ he3) (by rw [hz3.1]; exact q)
        have LM := PySem.W.exm_one (M := model X.prog X.w) (J3.kIn) LT hb1
        have test : ∀ {Q : Value → Shared → Prop} {E : Value → Shared → Prop}, Q c { s' with heap := h3 } → wpAny (model X.prog X.w) (X.A.mark (some (.ref a))) (eval (.Name x np) X.env) Q E { s' with heap := h3 } := fun {Q E} q => by
          obtain ⟨hg, hdbg, hm | ⟨hm, hv, hnn⟩⟩ := hc
          · exact ld_glob (X := X.suite a ((a, oe3) :: (X.pn ++ pins))) S3 hg hm q hdbg
          · exact ld_blt (X := X.suite a ((a, oe3) :: (X.pn ++ pins))) S3 hg hm hv q hnn hdbg
        refine test (LM.here ?_)
        cases b with
        | true =>
          refine codeAny_handlers_suite_as ?_
          refine HandSPX.lands_againZ fl3 fun h4 fl4 up4 => ?_
          have J4 : Inv X pins σ' H' { s' with heap := h4 } := J.landed nb fl4.1 ((up.trans up3).trans up4) os ag
          obtain ⟨oe4, vs4, he4, hz4, hd4⟩ := fl4.there
          have S4 := J4.suite he4 hd4 na nL nF
          refine store_ok (X := X.suite a ((a, oe4) :: (X.pn ++ pins))) (v := .ref a) S4 hN hi hloc rfl (fun s5 S5 => ?_) (.inr hln)
          refine wpAny_mono ((hsu a oe4 cls d (X.pn ++ pins) hz4 ⟨_, hd4⟩).run [] s5 _ H' _ S5 (hyes rfl a na)) (fun f s6 hsp => ?_) (fun _ _ z => False.elim z)
          have end_ : ∀ {σ6 : L2.St} {H6 : Hp} {Q : Shared → Prop}, Inv (X.suite a ((a, oe4) :: (X.pn ++ pins))) [] σ6 H6 s6 → (∀ s7, Inv X pins (σ6.set i none) H6 s7 → Q s7) →
              wpAny (model X.prog X.w) X.A (do bindName X.env n .none; unbindBehindTheSuite X.env n pos') (fun _ s7 => Q s7) X.xe s6 := fun {σ6 H6 Q} S6 hq => gone_ok (S6.unsuite ok) hN hi hln hq
          cases f with
          | next =>
            obtain ⟨σ6, H6, S6, q6⟩ := hsp
            exact end_ S6 fun s7 J7 => ⟨_, _, J7, q6⟩
          | brk =>
            obtain ⟨σ6, H6, S6, q6⟩ := hsp
            exact end_ S6 fun s7 J7 => ⟨_, _, J7, q6⟩
          | cont =>
            obtain ⟨σ6, H6, S6, q6⟩ := hsp
            exact end_ S6 fun s7 J7 => ⟨_, _, J7, q6⟩
          | ret u =>
            obtain ⟨v6, σ6, H6, S6, r6, q6⟩ := hsp
            exact end_ S6 fun s7 J7 => ⟨_, _, _, J7, r6, q6⟩
        | false =>
          show wpAny _ X.A (handleBy (.ref a) X.env hds2) _ _ _
          exact ih (hno rfl)
    exact go hh w
  · cases f with
    | next =>
      obtain ⟨σ', H', J', q⟩ := hsp
      exact wpAny_execs_nil ⟨σ', H', J'.ofTry ok, q⟩
    | brk =>
      obtain ⟨σ', H', J', q⟩ := hsp
      exact ⟨σ', H', J'.ofTry ok, q⟩
    | cont =>
      obtain ⟨σ', H', J', q⟩ := hsp
      exact ⟨σ', H', J'.ofTry ok, q⟩
    | ret u =>
      obtain ⟨v, σ', H', J', r, q⟩ := hsp
      exact ⟨v, σ', H', J'.ofTry ok, r, q⟩
end
/-- what is walked: a list or a tuple -/
def iSeq (K : PySem.W.Frag) (tl : TE) : TI := fun σ H R => tl σ H fun x H1 => ∃ a, x = .ref a ∧ (((∃ xs, SqL K H1 a xs) ∧ R (Itl K a) H1) ∨ ((∃ xs, SqT K H1 a xs) ∧ R (Itt K a) H1))
theorem pi_seq {X : Cx} {tg l : Expr} {tl : TE} (hl : PE X l tl) : PI X tg l (iSeq X.K tl) := by
  refine ⟨fun pins s σ H R I h => ?_⟩
  refine thn (hl.run pins s σ H _ I h) fun v s1 ⟨x, H1, I1, r1, a, e, q⟩ => ?_
  subst e
  cases r1
  rcases q with ⟨⟨xs, hq⟩, q⟩ | ⟨⟨xs, hq⟩, q⟩
  · obtain ⟨its, rv, p, _⟩ := I1.list hq
    refine wpAny_pyIter_list p.isList ?_
    refine ⟨s1.heap.objs.size, [s1.heap.objs.size], _, _, H1, rfl, I1.kept (t' := s1.toks) fun b o e => Heap.get?_push_of_some _ e, turn_list a _, ⟨_, Heap.get?_push_size _ rfl, rfl, rfl⟩, fun b hb => ?_, q⟩
    obtain rfl : b = s1.heap.objs.size := by simpa using hb
    exact I1.fpOk (Nat.le_refl _) (I1.hok.fresh (Nat.le_refl _))
  · obtain ⟨its, rv, p, _⟩ := I1.tuple hq
    refine wpAny_pyIter_tuple (show s1.heap.IsTuple a its.toArray from p) ?_
    refine ⟨s1.heap.objs.size, [s1.heap.objs.size], _, _, H1, rfl, I1.kept (t' := s1.toks) fun b o e => Heap.get?_push_of_some _ e, turn_tuple a _, ⟨_, Heap.get?_push_size _ rfl, rfl, rfl⟩, fun b hb => ?_, q⟩
    obtain rfl : b = s1.heap.objs.size := by simpa using hb
    exact I1.fpOk (Nat.le_refl _) (I1.hok.fresh (Nat.le_refl _))
end GY

namespace GX
open PySem PySem.Spec PyProof.Rows L2
/-- x == y where x's class has an own __eq__; y: an instance of that class, or a list -/
def rOwnEq (C : Addr) (sp : Sp) (E : XK) : R2 := fun x y H Q => ∃ (a b dx : Addr) (fs : List (Str × V)), x = .ref a ∧ y = .ref b ∧ H a = some (.ins C dx fs) ∧ ((∃ dy gs, H b = some (.ins C dy gs)) ∨ ∃ ys, H b = some (.lst ys)) ∧
  sp [.ref a, .ref b] H (fun v H' => ∃ r, v = .bl r ∧ Q (.bl r) H') E
section
variable {X : Cx} {CX : CXT} {n : Nat} {C f : Addr} {fd : FuncData} {ps : List Str} {sp : Sp} {E : XK}
theorem op_eqO (F : FnOk X.prog X.w X.K X.mg X.base CX n f fd ps sp) (hs : PySem.W.findIn X.K (.ref C) "__eq__" = some (some (.ref f))) (hf : PySem.W.isFn X.K (.ref f) = true) (hb : L2.Binds X.K fd ps []) (hx : Passes CX X E) (hr : Room n X.A)
    (hl : PySem.W.notFirst X.K C (.type "list") = true) : OpR X (compareOp .Eq) (rOwnEq C sp E) := by
  intro pins s σ H x y v u Q I rx ry hq
  obtain ⟨a, b, dx, fs, rfl, rfl, ha, hbb, hsp⟩ := hq
  cases rx
  cases ry
  obtain ⟨mA, J, _⟩ := ins_get I.hok ha
  obtain ⟨od, J, _⟩ := J.look
  obtain ⟨m, hF⟩ := I.fr
  have two : ∃ t, PySem.W.Looks (model X.prog X.w) s.heap (typeOf (.ref b)) t ∧ PySem.W.notFirst X.K C t = true := by
    rcases hbb with ⟨dy, gs, hbb⟩ | ⟨ys, hbb⟩
    · obtain ⟨mB, J', _⟩ := ins_get I.hok hbb
      obtain ⟨od', J', _⟩ := J'.look
      exact ⟨.ref C, J'.type, by simp [PySem.W.notFirst]⟩
    · obtain ⟨its, _, p, _⟩ := I.list (SqL.of hbb)
      obtain ⟨o, k, e1, e2, _⟩ := p
      exact ⟨.type "list", PySem.W.kitAt_ty _ _ ⟨o, e1, e2⟩, hl⟩
  obtain ⟨t, ht, hn⟩ := two
  show wpAny (model X.prog X.w) X.A (richCompare .Eq (.ref a) (.ref b)) (EP X pins σ Q) X.xe s
  refine PySem.W.cmp_K (op := .Eq) hr.units0 hF I.ok.mod.kin J ht hn hs hf ?_
  have hlen := F.len _ _ _ _ hsp
  have r2 : Vals [V.ref a, V.ref b] [Value.ref a, Value.ref b] := .cons rfl (.cons rfl .nil)
  have bd := hb s [.ref a, .ref b] I.kIn (by simpa using hlen)
  refine wpAny_call (codeAny_mono (F.run X.A X.stack s H ⟨[.ref a, .ref b], []⟩ _ _ _ E hr I.env0 (by simpa using bd) r2 hsp) fun r s' back => ?_)
  cases r with
  | error e => exact hx pins σ H s e s' I back
  | ok fl =>
    cases fl with
    | ret w =>
      obtain ⟨z, H', I', rz, c, ez, q⟩ := I.after back
      subst ez
      cases rz
      exact ⟨.bl c, H', I', rfl, q⟩
    | next => exact back.elim
    | brk => exact back.elim
    | cont => exact back.elim
end
end GX

namespace GX
open PySem PySem.Spec PyProof.Rows L2
/-- y in x where x's class has an own __contains__ -/
def rOwnIn (C : Addr) (sp : Sp) (E : XK) : R2 := fun y x H Q => ∃ (a dx : Addr) (fs : List (Str × V)), x = .ref a ∧ H a = some (.ins C dx fs) ∧ sp [.ref a, y] H (fun v H' => ∃ r, v = .bl r ∧ Q (.bl r) H') E
section
variable {X : Cx} {CX : CXT} {n : Nat} {C f : Addr} {fd : FuncData} {ps : List Str} {sp : Sp} {E : XK}
theorem op_inO (F : FnOk X.prog X.w X.K X.mg X.base CX n f fd ps sp) (hs : PySem.W.findIn X.K (.ref C) "__contains__" = some (some (.ref f))) (hf : PySem.W.isFn X.K (.ref f) = true) (hb : L2.Binds X.K fd ps []) (hx : Passes CX X E) (hr : Room n X.A) :
    OpR X (compareOp .In) (rOwnIn C sp E) := by
  intro pins s σ H y x v u Q I ry rx hq
  obtain ⟨a, dx, fs, rfl, ha, hsp⟩ := hq
  cases rx
  obtain ⟨mA, J, _⟩ := ins_get I.hok ha
  obtain ⟨od, J, _⟩ := J.look
  obtain ⟨m, hF⟩ := I.fr
  refine PySem.W.in_K hF I.ok.mod.kin J hs hf ?_
  have hlen := F.len _ _ _ _ hsp
  have r2 : Vals [V.ref a, y] [Value.ref a, v] := .cons rfl (.cons ry .nil)
  have bd := hb s [.ref a, v] I.kIn (by simpa using hlen)
  refine wpAny_call (codeAny_mono (F.run X.A X.stack s H ⟨[.ref a, v], []⟩ _ _ _ E hr I.env0 (by simpa using bd) r2 hsp) fun r s' back => ?_)
  cases r with
  | error e => exact hx pins σ H s e s' I back
  | ok fl =>
    cases fl with
    | ret w =>
      obtain ⟨z, H', I', rz, c, ez, q⟩ := I.after back
      subst ez
      cases rz
      exact wpAny_pure ⟨.bl c, H', I', rfl, q⟩
    | next => exact back.elim
    | brk => exact back.elim
    | cont => exact back.elim
end
end GX

namespace GX
open PySem PySem.Spec PyProof.Rows L2
/-- x is y, both truth values -/
def rIsB : R2 := fun x y H Q => ∃ a b, x = .bl a ∧ y = .bl b ∧ Q (.bl (decide (a = b))) H
theorem op_isB {X : Cx} : OpR X (compareOp .Is) rIsB := by
  intro pins s σ H x y v u Q I rx ry h
  obtain ⟨a, b, rfl, rfl, q⟩ := h
  cases rx
  cases ry
  refine wpAny_bind (wpAny_pure (wpAny_pure ⟨.bl (decide (a = b)), H, I, ?_, q⟩))
  cases a <;> cases b <;> rfl
end GX

/-! ### own ==, own in, by one name each -/
namespace GX
open PySem PySem.Spec PyProof.Rows L2
structure EqO (P : Program) (w : World) (K : PySem.W.Frag) (mg : Str → Option Value) (base : Heap) (k : Nat) (C : Addr) (sp : Sp) : Prop where
  ex : ∃ (f : Addr) (fd : FuncData) (ps : List Str), FnOk P w K mg base CX0 k f fd ps sp ∧ PySem.W.findIn K (.ref C) "__eq__" = some (some (.ref f)) ∧ PySem.W.isFn K (.ref f) = true ∧ L2.Binds K fd ps [] ∧ PySem.W.notFirst K C (.type "list") = true
structure InO (P : Program) (w : World) (K : PySem.W.Frag) (mg : Str → Option Value) (base : Heap) (k : Nat) (C : Addr) (sp : Sp) : Prop where
  ex : ∃ (f : Addr) (fd : FuncData) (ps : List Str), FnOk P w K mg base CX0 k f fd ps sp ∧ PySem.W.findIn K (.ref C) "__contains__" = some (some (.ref f)) ∧ PySem.W.isFn K (.ref f) = true ∧ L2.Binds K fd ps []
section
variable {X : Cx} {k j : Nat} {C : Addr} {sp : Sp}
theorem op_eqB (c : EqO X.prog X.w X.K X.mg X.base k C sp) (room : Room j X.A) (le : k ≤ j) : OpR X (compareOp .Eq) (rOwnEq C sp E0) :=
  let ⟨_, _, _, F, hs, hf, hb, hl⟩ := c.ex
  op_eqO F hs hf hb pass0 (room.mono le) hl
theorem op_inB (c : InO X.prog X.w X.K X.mg X.base k C sp) (room : Room j X.A) (le : k ≤ j) : OpR X (compareOp .In) (rOwnIn C sp E0) :=
  let ⟨_, _, _, F, hs, hf, hb⟩ := c.ex
  op_inO F hs hf hb pass0 (room.mono le)
end
end GX

namespace GX
open PySem PySem.Spec PyProof.Rows L2
abbrev freshSet (w : World) : Obj := { cls := .type "set", dict := none, data := .set #[] 0 (.fresh 0 0 (!w.params.followText "set-order")) }
section
variable {P : Program} {w : World} {A : Around} {E : Value → Shared → Prop} {s : Shared}
/-- the fresh set takes what a list of ints holds -/
theorem fillSet {l : Addr} {items : Array Value} (ns : List Int) {R : Result → Shared → Prop} (hA : A.in1.in1.in1.handled = none) (hl : s.heap.IsList l items) (hit : IntsAre items.toList ns) (hb : ns.length + 1 < scanBound)
    (fin : ∀ (h' : Heap) (tk c : Nat), SetR w h' s.heap.objs.size (fun j => decide (j ∈ ns)) c → c ≤ ns.length → (∀ b o, s.heap.get? b = some o → h'.get? b = some o) → R (.ok (.ret .none)) { s with heap := h', toks := tk }) :
    codeAny (model P w) A.in1.in1 (.builtin "set.update.loop" ⟨[.ref s.heap.objs.size, .ref (s.heap.objs.size + 1)], []⟩) R { s with heap := (s.heap.push (freshSet w)).push { cls := .type "list_iterator", data := .fields #[.ref l, .int 0 0] } } := by
  have n0 : items.size = ns.length := by
    have q := IntsAre.length hit
    rwa [Array.length_toList] at q
  have hold : ∀ b o, s.heap.get? b = some o → ((s.heap.push (freshSet w)).push { cls := .type "list_iterator", data := .fields #[.ref l, .int 0 0] }).get? b = some o := fun b o e =>
    Heap.get?_push_of_some _ (Heap.get?_push_of_some _ e)
  have z1 : (s.heap.push (freshSet w)).objs.size = s.heap.objs.size + 1 := Heap.size_push ..
  have lt : l < s.heap.objs.size := by
    obtain ⟨o, ho, _⟩ := hl
    exact Heap.lt_size ho
  have nl : l ≠ s.heap.objs.size + 1 := Nat.ne_of_lt (Nat.lt_succ_of_lt lt)
  have nf : s.heap.objs.size ∉ [s.heap.objs.size + 1, l] := by
    simp only [List.mem_cons, List.mem_singleton, List.not_mem_nil, or_false, not_or]
    exact ⟨Nat.ne_of_lt (Nat.lt_succ_self _), Nat.ne_of_gt lt⟩
  have vals : ∀ (i : Nat) (v : Value), items[i]? = some v → ∃ k t, ns[i]? = some k ∧ v = .int k t := fun i v hv => by
    obtain ⟨hi, _⟩ := Array.getElem?_eq_some_iff.mp hv
    rw [n0] at hi
    obtain ⟨t, e⟩ := IntsAre.int_at hit i v (by rw [Array.getElem?_toList]; exact hv)
    exact ⟨ns[i], t, List.getElem?_eq_getElem hi, by rw [e, List.getD_eq_getElem?_getD, List.getElem?_eq_getElem hi] <;> rfl⟩
  have itAt : ((s.heap.push (freshSet w)).push { cls := .type "list_iterator", data := .fields #[.ref l, .int 0 0] }).get? (s.heap.objs.size + 1) = some { cls := .type "list_iterator", data := .fields #[.ref l, .int 0 0] } := by
    rw [← z1]
    exact Heap.get?_push_size _ rfl
  have stAt : ((s.heap.push (freshSet w)).push { cls := .type "list_iterator", data := .fields #[.ref l, .int 0 0] }).get? s.heap.objs.size = some (freshSet w) := Heap.get?_push_of_some _ (Heap.get?_push_size _ rfl)
  have hl2 : ((s.heap.push (freshSet w)).push { cls := .type "list_iterator", data := .fields #[.ref l, .int 0 0] }).IsList l items := hl.at fun o e => hold l o e
  refine set_update_ints ((Walks.list hA (s.heap.objs.size + 1) l nl items).toS) s.heap.objs.size nf ns n0 hb vals (items.size - 0) 0 _ (by omega) (Nat.zero_le _)
    ⟨⟨_, itAt, rfl, rfl⟩, hl2⟩ ⟨0, Nat.le_refl 0, setR_new_at stAt⟩ fun s' c m hc hS => ?_
  obtain ⟨h', g, d, tk, os⟩ := s'
  obtain rfl : g = s.gens := m.gens
  obtain rfl : d = s.drawn := m.drawn
  obtain rfl : os = s.os := m.os
  rw [n0] at hc
  refine fin h' tk c hS hc fun b o e => ?_
  have b0 : b < s.heap.objs.size := Heap.lt_size e
  exact m.heap b o (by simp only [List.mem_cons, List.mem_singleton, List.not_mem_nil, or_false, not_or]; exact ⟨Nat.ne_of_lt b0, Nat.ne_of_lt (Nat.lt_succ_of_lt b0)⟩) (hold b o e)
/-- set(l), l a list of ints -/
theorem mkSet {l : Addr} {items : Array Value} (ns : List Int) {Q : Value → Shared → Prop} (hA : A.handled = none) (hl : s.heap.IsList l items) (hit : IntsAre items.toList ns) (hb : ns.length + 1 < scanBound)
    (fin : ∀ (h' : Heap) (tk c : Nat), SetR w h' s.heap.objs.size (fun j => decide (j ∈ ns)) c → c ≤ ns.length → (∀ b o, s.heap.get? b = some o → h'.get? b = some o) → Q (.ref s.heap.objs.size) { s with heap := h', toks := tk }) :
    wpAny (model P w) A (call (.type "set") [.ref l]) Q E s := by
  obtain ⟨c, tl, hmro⟩ := PySem.F.called_set.mro
  have hmade := PySem.F.called_set.made
  have hsub := PySem.F.called_set.sub
  have g1 := PySem.F.called_set.notType
  have g2 := PySem.F.called_set.canCreate
  have g3 := PySem.F.typeCall_set_1 (.ref l)
  refine wpAny_call (codeAny_of_tree ?_)
  show wpAny _ _ (callAny (.type "set") _) _ _ _
  refine wpAny_pure ⟨Code.quiet_builtin _ (by decide +kernel), codeAny_builtin PySem.F.entry_type_call ?_⟩
  rw [Around.under_plain (weight_type_call_type "set" [.ref l] []) rfl]
  repeat (any_goals (first | assumption | wp_step))
  refine codeAny_mono (code_set_led1 (.ref l) (E := E) (Q₁ := fun obj s₁ => obj = .ref s.heap.objs.size ∧ s₁ = { s with heap := s.heap.push (freshSet w) }) ⟨rfl, rfl⟩) fun r s₁ hr => ?_
  rcases r with e | f
  · exact hr
  cases f with
  | ret obj =>
    obtain ⟨rfl, rfl⟩ := hr
    have hS : (s.heap.push (freshSet w)).get? s.heap.objs.size = some (freshSet w) := Heap.get?_push_size _ rfl
    have hT : Shared.TypeIs { s with heap := s.heap.push (freshSet w) } (.ref s.heap.objs.size) "set" := ⟨_, hS, rfl⟩
    have hli := PySem.F.called_set.init.lookup
    have hbi := PySem.F.called_set.init.bind (.ref s.heap.objs.size)
    repeat (any_goals (first | assumption | wp_step))
    refine codeAny_mono (codeAny_call_builtin (R := wants (fun r s₂ => r = .none ∧ ∃ h' tk c, s₂ = { s with heap := h', toks := tk } ∧ SetR w h' s.heap.objs.size (fun j => decide (j ∈ ns)) c ∧ c ≤ ns.length ∧
          (∀ b o, s.heap.get? b = some o → h'.get? b = some o)) E) PySem.F.called_set.init.plain PySem.F.entry_set_init (check_set_init_1 hT ?_)) fun r₂ s₂ hr₂ => ?_
    · obtain ⟨⟨oc, od, dt, sl⟩, ho, hc, n, hd⟩ := id hl
      cases hc
      cases hd
      have ho2 : (s.heap.push (freshSet w)).get? l = some { cls := .type "list", dict := od, data := .seq items n, slots := sl } := Heap.get?_push_of_some _ ho
      have hl1 : (s.heap.push (freshSet w)).IsList l items := ⟨_, ho2, rfl, n, rfl⟩
      have u1 := PySem.F.sub_list_set
      have u2 := PySem.F.sub_list_frozenset
      have u3 : (Value.type "list" == Value.type "dict") = false := by decide
      unfold Builtin.«set.__init__» noKeywords Builtin.Frozenset.updateFrom
      generalize hPI : pyIter = PI
      wp_walk
      subst hPI
      refine wpAny_pyIter_list hl1 ?_
      refine wpAny_bind (wpAny_runValue ?_)
      have z1 : (s.heap.push (freshSet w)).objs.size = s.heap.objs.size + 1 := Heap.size_push ..
      rw [z1]
      refine fillSet ns (s := s) (by simp [hA]) hl hit hb fun h' tk c R c1 keep => ?_
      show wpAny _ _ _ _ _ _
      refine wpAny_pure ?_
      show wpAny _ _ (ret Value.none) _ _ _
      exact wpAny_pure ⟨rfl, h', tk, c, rfl, R, c1, keep⟩
    · rcases r₂ with e | f
      · exact hr₂
      cases f with
      | ret r =>
        obtain ⟨rfl, h', tk, c, rfl, R, c1, keep⟩ := hr₂
        repeat (any_goals (first | assumption | wp_step))
        exact fin _ _ _ R c1 keep
      | _ => exact hr₂.elim
  | _ => exact hr.elim
end
section
variable {X : Cx}
/-- set(l), l a list of ints -/
def rSetLI (w : World) : List V → Hp → VK → Prop := fun vs H Q => ∃ (l : Addr) (ns : List Int), vs = [V.ref l] ∧ H l = some (.lst (ns.map V.int)) ∧ ns.length ≤ 1000 ∧
  ∀ (p : Addr) (n : Nat), n ≤ ns.length → H p = none → Q (.ref p) (upd H p (SetO w p (fun j => decide (j ∈ ns)) n))
theorem cr_setLI (hc : X.calm = true) : CallR X (.type "set") (rSetLI X.w) := by
  intro pins s σ H vs us Q I r h
  obtain ⟨l, ns, rfl, hl, hn, q⟩ := h
  obtain ⟨its, rv, pl, hz⟩ := I.list (SqL.of hl)
  rw [Vals.ref1 r]
  refine mkSet ns (I.ok.hd hc) pl.isList (by simpa using rv.ints) (by unfold scanBound; omega) fun h' tk c R hc keep => ?_
  exact ⟨.ref _, upd H s.heap.objs.size (SetO X.w s.heap.objs.size (fun j => decide (j ∈ ns)) c), I.laid (t' := tk) keep (Nat.le_refl _) (setO_new R), rfl, q _ c hc (I.hok.fresh (Nat.le_refl _))⟩
section
variable {P : Program} {w : World} {A : Around} {E : Value → Shared → Prop} {s : Shared}
/-- sorted(a set of ints) -/
theorem sortedSet {a : Addr} {S : Int → Bool} {n : Nat} {Q : Value → Shared → Prop} (R : SetR w s.heap a S n) (hA : A.handled = none)
    (fin : ∀ s' p (out : Array Value) (c : Nat) (ns : List Int), (∀ b o, s.heap.get? b = some o → s'.heap.get? b = some o) → s'.gens = s.gens → s'.os = s.os → s.heap.objs.size ≤ p →
      s'.heap.get? p = some (seqObj "list" out c) → IntsAre out.toList ns → ns.Pairwise (· < ·) → (∀ k, k ∈ ns ↔ S k = true) → ns.length = n → Q (.ref p) s') :
    wpAny (model P w) A (call (.builtin "sorted") [.ref a]) Q E s := by
  obtain ⟨o, es, ep, t, ho, hex, hd, g, nd, mem, few, fits, cnt, ris, led⟩ := R
  refine Calls.call_function_entry kind_sorted plain_sorted entry_sorted (args_sorted1 _) ?_
  unfold Builtin.«sorted»
  refine wpAny_bind (m := checkCount "sorted" 1 1 _) (wpAny_pure ?_)
  refine wpAny_bind (collect_set (A := A.in1) hA ⟨o, ho, hex.1, hd⟩ fits few ris led fun s1 vs keep up g1 o1 pm => ?_)
  have vl : vs.length = n := by rw [pm.length_eq, List.length_map, Array.length_toList]; exact cnt
  have vz : vs.length ≤ sizeLine := fits_of_scanBound (by rw [vl, ← cnt]; exact few)
  have hI : IntsAre vs (vs.map SrtO.iv) := SrtO.ints_iv fun v hv => by
    obtain ⟨e, he, z⟩ := List.mem_map.mp (pm.mem_iff.mp hv)
    obtain ⟨k, tk, h1, _⟩ := g e he
    exact ⟨k, tk, z ▸ h1⟩
  have ek : ∀ e ∈ es.toList, SrtO.iv e.2 = keyOf e := fun e he => by
    obtain ⟨k, tk, h1, _⟩ := g e he
    unfold keyOf
    rw [h1] <;> rfl
  have pk : (vs.map SrtO.iv).Perm (es.toList.map keyOf) := by
    have z := pm.map SrtO.iv
    rw [List.map_map] at z
    exact z.trans (.of_eq (List.map_congr_left fun e he => ek e he))
  refine wpAny_bind (wpAny_newList ?_ vz)
  have at1 : (s1.heap.push (seqObj "list" vs.toArray 0)).get? s1.heap.objs.size = some (seqObj "list" vs.toArray 0) := Heap.get?_push_size _ rfl
  refine wpAny_bind (wpAny_holding (wpAny_call_entry slot_list_sort ⟨_, at1, rfl⟩ entry_list_sort
    (SrtO.list_sort_ord SrtO.swo_int at1 vz (fun h2 => SrtO.ints_sortable hI h2) fun out so sb => ⟨_, rfl, ?_⟩) (args_list_sort _)))
  obtain ⟨k1, k2, k3⟩ := SrtO.ints_out hI so sb
  obtain ⟨c, hc⟩ := sortedHeap_at (vs := vs) (out := out.toArray) at1
  have pn : (out.map SrtO.iv).Perm (es.toList.map keyOf) := k2.trans pk
  refine wpAny_pure ⟨_, rfl, fin _ s1.heap.objs.size out.toArray c (out.map SrtO.iv) (fun b u e => ?_) g1 o1 up hc (by simpa using k1) (lt_of_le_nodup _ k3 (pn.nodup_iff.mpr nd)) (fun k => by rw [pn.mem_iff, ← mem k]) ?_⟩
  · have z := keep b u e
    have lt := Heap.lt_size z
    show (sortedHeap (s1.heap.push (seqObj "list" vs.toArray 0)) s1.heap.objs.size vs out.toArray).get? b = some u
    rw [sortedHeap_old (Nat.ne_of_lt lt) (by rw [size_push']; exact Nat.lt_succ_of_lt lt)]
    exact Heap.get?_push_of_some _ z
  · rw [pn.length_eq, List.length_map, Array.length_toList]; exact cnt
end
/-- sorted(a set of ints) -/
def rSortSet (w : World) : List V → Hp → VK → Prop := fun vs H Q => ∃ (a : Addr) (S : Int → Bool) (n : Nat), vs = [V.ref a] ∧ H a = some (SetO w a S n) ∧ n ≤ 1000 ∧
  ∀ (ns : List Int) (p : Addr), ns.Pairwise (· < ·) → (∀ k : Int, k ∈ ns ↔ S k = true) → ns.length = n → H p = none → Q (.ref p) (upd H p (.lst (ns.map V.int)))
theorem cr_sortSet (hc : X.calm = true) : CallR X (.builtin "sorted") (rSortSet X.w) := by
  intro pins s σ H vs us Q I r h
  obtain ⟨a, S, n, rfl, ha, n1, q⟩ := h
  rw [Vals.ref1 r]
  refine sortedSet (setO_get I ha) (I.ok.hd hc) fun s' p out c ns keep g o hp at' hi hs hm hl => ?_
  have fresh : H p = none := I.hok.fresh hp
  have len : (ns.map V.int).length ≤ sizeLine := by rw [List.length_map, hl, sizeLine_eq]; omega
  have J : Inv X pins σ (upd H p (.lst (ns.map V.int))) { s with heap := s'.heap, gens := s'.gens, drawn := s'.drawn, toks := s'.toks } :=
    I.call (ch := []) (Un.laid keep hp fresh) (I.hok.laid keep hp ⟨len, out.toList, c, vals_of_ints hi, at'⟩) (by rw [g]; exact I.bare) (fun _ z => nomatch z)
  obtain ⟨h', g', d', t', o'⟩ := s'
  cases o
  exact ⟨.ref p, _, J, rfl, q ns p hs hm hl fresh⟩
end
end GX

/-! ### sets from tuples; methods with a star parameter -/
namespace GX
open PySem PySem.Spec PyProof.Rows L2
section
variable {X : Cx}
/-- set(t), t a tuple of ints -/
def rSetTI (K : PySem.W.Frag) (w : World) : List V → Hp → VK → Prop := fun vs H Q => ∃ (l : Addr) (ns : List Int), vs = [V.ref l] ∧ SqT K H l (ns.map V.int) ∧ ns.length ≤ 1000 ∧
  ∀ (p : Addr) (n : Nat), n ≤ ns.length → H p = none → Q (.ref p) (upd H p (SetO w p (fun j => decide (j ∈ ns)) n))
theorem cr_setTI (hc : X.calm = true) : CallR X (.type "set") (rSetTI X.K X.w) := by
  intro pins s σ H vs us Q I r h
  obtain ⟨l, ns, rfl, hl, hn, q⟩ := h
  obtain ⟨its, rv, pl, hz⟩ := I.tuple hl
  rw [Vals.ref1 r]
  refine call_set_tupI ns (I.ok.hd hc) pl (by simpa using rv.ints) (by unfold scanBound; omega) fun h' tk c R hc keep => ?_
  exact ⟨.ref _, upd H s.heap.objs.size (SetO X.w s.heap.objs.size (fun j => decide (j ∈ ns)) c), I.laid (t' := tk) keep (Nat.le_refl _) (setO_new R), rfl, q _ c hc (I.hok.fresh (Nat.le_refl _))⟩
end
/-- a method with a star parameter: positional promises -/
structure MetR (P : Program) (w : World) (K : PySem.W.Frag) (mg : Str → Option Value) (base : Heap) (k : Nat) (C : Addr) (m : Str) (sp : Sp) : Prop where
  ex : ∃ (f : Addr), Cls K C ∧ Meth K C m f ∧ FnR P w K mg base (L2.CX P w) k f sp
section
variable {X : Cx} {CX : CXT} {k j : Nat} {C f : Addr} {m : Str} {sp : Sp} {E : XK} {o e : Expr} {es : List Expr} {ta : TE} {t : TA} {apos pos : Pos}
theorem pe_mtR {pl : Sem Bool} (c : MetR X.prog X.w X.K X.mg X.base k C m sp) (hr : Room j X.A) (hk : k ≤ j) (hx : Passes (L2.CX X.prog X.w) X E) (he : PE X o ta) (ha : PA X (e :: es) t)
    (hst : starEach (e :: es) X.env = (false, eval e X.env) :: starEach es X.env := by rfl) (hpl : (backTo pos (starEach es X.env)).any (·.1) = false := by rfl)
    (ht : eval (.Call (.Attribute o m apos) (e :: es) [] pos) X.env = (do
      let ov ← eval o X.env; standAt apos.atName; let (f, first) ← holding [ov] (getMethod ov m pl)
      callWith pos f first (backTo pos (starEach (e :: es) X.env)) (backToKw pos (keywordEach [] X.env))) := by rfl) : PE X (.Call (.Attribute o m apos) (e :: es) [] pos) (tMeth C m sp [] E ta t) := by
  obtain ⟨f, hc, hm, F⟩ := c.ex
  refine ⟨fun pins s σ H Q I h => ?_⟩
  refine PySem.W.methodCall_KW (pl := pl) (thn (he.run pins s σ H _ I h) fun u s1 ⟨x, H1, I1, rx, a, dx, fs, ex, ea, l, q⟩ => ?_) ht
  subst ex
  obtain rfl : u = Value.ref a := rx
  refine getmeth_ok I1 ea hc hm l ?_
  refine PySem.W.callWith_K (first := [.ref a]) (h₀ := X.base) I.ok.mod.kin hm.kp (thn (ha.run pos pins s1 σ H1 _ I1 q) fun us s2 ⟨vs, H2, I2, r, q2⟩ => ⟨I2.kIn, ?_⟩) hst hpl
  exact wpAny_call (run_fnR (us := .ref a :: us) (vs := .ref a :: vs) (F.mono hk) hr hx I2 (.cons rfl r) (by simpa using q2))
end
end GX
/-! ### a def with a star parameter as it stands behind the top -/
namespace GX
open PySem PySem.Spec PyProof.Rows L2
/-- the promise by positional values: what is left over comes as one tuple -/
def starSp (m : Nat) (sp : Sp) : Sp := fun vs H Q E => ∃ ws rest, vs = ws ++ rest ∧ ws.length = m ∧ rest.length ≤ sizeLine ∧ ∀ p, H p = none → sp (ws ++ [V.ref p]) (upd H p (.tup rest)) Q E
theorem okStar {P : Program} {w : World} {K : PySem.W.Frag} {mg : Str → Option Value} {base : Heap} {x qual : Str} {st : Stmt} {f : Addr} {fd : FuncData} {N ps : List Str} {pv : Str} {k : Nat} {sp : Sp} (F : L2.Fun K x qual st f fd) (S : FnScope N (ps ++ [pv]) (defScope st))
    (hb : ∀ (kV doc pm : Value) (an : Option Addr) (cdv ct : Value) (us rest : List Value), us.length = ps.length → bindArgs (PySem.W.fnOf x qual (defArgs st) (defBody st) (defScope st) .none kV doc pm an cdv ct) ⟨us ++ rest, []⟩ = (newTuple rest >>= fun t => pure (ps.zip us ++ [(pv, t)])))
    (hbody : ∀ (cdv : Value) (A : Around) (outer : List Env) (s : Shared) (H : Hp) (vs : List V) (Q : VK) (E : XK), Room k (A.deeper (envOfC qual (defScope st) s.heap.objs.size f cdv)) → sp vs H Q E →
      ∃ t, PSs (cxOf (L2.CX P w) P w K mg base N qual (defScope st) f cdv A outer s H E) (defBody st) t ∧ t { nx := fun _ H' => Q .non H', rt := Q } (start N vs) H) : FnR P w K mg base (L2.CX P w) (k + 1) f (starSp ps.length sp) := by
  obtain ⟨oc, od, kV, doc, pm, an, cdv, ct, osl, rfl, lk, hcd⟩ := F.ex
  exact StX.fn_star lk hcd S StX.cxUp (hb kV doc pm an cdv ct) fun A outer s H vs Q E hr hsp => hbody cdv A outer s H vs Q E hr hsp
end GX

/-! ### classmethods of own classes; a class held by a variable -/
namespace GX
open PySem PySem.Spec PyProof.Rows L2
structure CmX (P : Program) (w : World) (K : PySem.W.Frag) (mg : Str → Option Value) (base : Heap) (k : Nat) (C : Addr) (m : Str) (sp : Sp) : Prop where
  ex : ∃ (p g : Addr), ClX.CRead K C (.type "type") ∧ ClX.CMet K C (.type "type") m p g ∧ FnR P w K mg base (L2.CX P w) k g sp
theorem rawX {P : Program} {w : World} {K : PySem.W.Frag} {mg : Str → Option Value} {base : Heap} {k : Nat} {f : Addr} {fd : FuncData} {ps : List Str} {sp : Sp} (F : FnOk P w K mg base (L2.CX P w) k f fd ps sp) (hb : L2.Binds K fd ps []) : FnR P w K mg base (L2.CX P w) k f sp :=
  (F.raw hb .nil).imp fun vs H Q E h => by rw [List.append_nil]; exact h
section
variable {X : Cx} {k j : Nat} {C : Addr} {x m : Str} {sp : Sp} {p pos apos : Pos} {e o : Expr} {es : List Expr} {ta tf : TE} {t : TA} {E : XK}
theorem pe_cmX {pl : Sem Bool} (c : CmX X.prog X.w X.K X.mg X.base k C m sp) (hr : Room j X.A) (hk : k ≤ j) (hx : Passes (L2.CX X.prog X.w) X E) (he : PE X o ta) (ha : PA X (e :: es) t)
    (hst : starEach (e :: es) X.env = (false, eval e X.env) :: starEach es X.env := by rfl) (hpl : (backTo pos (starEach es X.env)).any (·.1) = false := by rfl)
    (ht : eval (.Call (.Attribute o m apos) (e :: es) [] pos) X.env = (do
      let ov ← eval o X.env; standAt apos.atName; let (f, first) ← holding [ov] (getMethod ov m pl)
      callWith pos f first (backTo pos (starEach (e :: es) X.env)) (backToKw pos (keywordEach [] X.env))) := by rfl) : PE X (.Call (.Attribute o m apos) (e :: es) [] pos) (ClX.tCMeth C sp E ta t) := by
  obtain ⟨p, g, r, c, F⟩ := c.ex
  exact ClX.pe_cmeth (pl := pl) he r c F (hr.mono hk) hx ha hst hpl ht
/-- cls(..), cls a variable that holds the class at C -/
def tMakeV (C : Addr) (sp : Sp) (E : XK) (tf : TE) (t : TA) : TE := fun σ H Q => tf σ H fun x H1 => x = .ref C ∧ tMake C sp [] E t σ H1 Q
theorem pe_mkV {y : Str} (c : MakX X.prog X.w X.K X.mg X.base k y C sp) (hr : Room j X.A) (hk : k + 1 ≤ j) (hx : Passes (L2.CX X.prog X.w) X E) (hf : PE X (.Name x p) tf) (ha : PA X (e :: es) t)
    (he : starEach (e :: es) X.env = (false, eval e X.env) :: starEach es X.env := by rfl) (hpl : (backTo pos (starEach es X.env)).any (·.1) = false := by rfl) : PE X (.Call (.Name x p) (e :: es) [] pos) (tMakeV C sp E tf t) := by
  obtain ⟨f, fd, ps, M, F, hm, b⟩ := c.ex
  refine ⟨fun pins s σ H Q I h => ?_⟩
  refine wpAny_Call_Name_kw (thn (hf.run pins s σ H _ I h) fun u s1 ⟨v, H1, I1, rx, ex, q⟩ => ?_)
  subst ex
  obtain rfl : u = Value.ref C := rx
  refine PySem.W.callWith_K (h₀ := X.base) I1.ok.mod.kin M.kp (thn (ha.run pos pins s1 σ H1 _ I1 q) fun us s2 ⟨vs, H2, I2, r, q2⟩ => ⟨I2.kIn, ?_⟩) he hpl
  exact run_make M F (hr.mono hk) b .nil hx I2 r q2
end
end GX
namespace G
open PySem L2
theorem w_cmeth {C : Addr} {sp : Sp} {E : XK} {ta : TE} {t : TA} {σ : L2.St} {H : Hp} {Q : VK} (h : ta σ H fun x H1 => x = .ref C ∧ t σ H1 fun vs H2 => sp (.ref C :: vs) H2 Q E) : ClX.tCMeth C sp E ta t σ H Q := h
theorem w_makeV {C : Addr} {sp : Sp} {E : XK} {tf : TE} {t : TA} {σ : L2.St} {H : Hp} {Q : VK} (h : tf σ H fun x H1 => x = .ref C ∧ tMake C sp [] E t σ H1 Q) : GX.tMakeV C sp E tf t σ H Q := h
theorem w_isref {C : Addr} {P : Prop} (q : P) : V.ref C = .ref C ∧ P := ⟨rfl, q⟩
end G

/-! ### the head's facts, with classmethods -/
namespace GX
open PySem PySem.Spec PyProof.Rows L2
inductive Ey where
  | ex (e : Ex)
  | cm (x m : Str)
def Ey.ok (K : PySem.W.Frag) : Ey → Bool
  | .ex e => e.ok K
  | .cm x m => He5.wrapB K (He.ga K x) "classmethod" "classmethod.__get__" m && (PySem.W.fnIn K (He5.wf K (He.ga K x) "classmethod" m) && PySem.W.readsIn K (He.ga K x) (.type "type"))
theorem cread_ok {K : PySem.W.Frag} {C : Addr} (h : PySem.W.readsIn K C (.type "type") = true) : ClX.CRead K C (.type "type") := by
  refine ⟨h, ?_⟩
  unfold PySem.W.readsIn at h
  obtain ⟨h, _⟩ := He.ba h
  obtain ⟨h, _⟩ := He.ba h
  obtain ⟨h, h3⟩ := He.ba h
  obtain ⟨_, h2⟩ := He.ba h
  unfold PySem.W.specialIn
  rw [beq_iff_eq.mp h2, Option.bind_some]
  exact beq_iff_eq.mp h3
theorem cm_ok {K : PySem.W.Frag} {x m : Str} (h : (Ey.cm x m).ok K = true) : ClX.CRead K (He.ga K x) (.type "type") ∧ ClX.CMet K (He.ga K x) (.type "type") m (He.ma K (He.ga K x) m) (He5.wf K (He.ga K x) "classmethod" m) := by
  obtain ⟨h1, h⟩ := He.ba h
  obtain ⟨h2, h3⟩ := He.ba h
  exact ⟨cread_ok h3, He5.cmet_of h1 h2⟩
abbrev AlF : Type := He.AlD × Bool
def obsF (fa : List He.Fa) (fn : List He5.DefA) (ex : List Ey) (K : PySem.W.Frag) : AlF := (He5.obsA fa fn K, ex.all fun e => e.ok K)
def obsFG (n : Nat) (fa : List He.Fa) (fn : List He5.DefA) (ex : List Ey) (g : Addr → Option Obj) : AlF := obsF fa fn ex (He.frG g (He5.asA g n))
def SaysF (fa : List He.Fa) (fn : List He5.DefA) (ex : List Ey) (K : PySem.W.Frag) : Prop := He5.SaysA fa fn K ∧ (ex.all fun e => e.ok K) = true
def hookF (n : Nat) (fa : List He.Fa) (fn : List He5.DefA) (ex : List Ey) : PySem.W.Hook where
  α := AlF
  obs := fun s => obsFG n fa fn ex s.heap.get?
  val := fun _ => (He5.valA fn, true)
  says := fun _ h => ∃ K : PySem.W.Frag, K.In h ∧ SaysF fa fn ex K
  of := fun _ _ e => ⟨_, He.frG_in, congrArg (fun z : AlF => z.1) e, congrArg (fun z : AlF => z.2) e⟩
  keeps := fun _ _ _ ⟨K, hK, c⟩ k => ⟨K, PySem.W.Frag.In.keeps hK k, c⟩
theorem obsFG_eq {n : Nat} {fa : List He.Fa} {fn : List He5.DefA} {ex : List Ey} {g : Addr → Option Obj} {s : Shared} (h : ∀ a, g a = s.heap.get? a) : obsFG n fa fn ex g = (hookF n fa fn ex).obs s := by
  obtain rfl : g = s.heap.get? := funext h
  rfl
theorem SaysF.more {fa : List He.Fa} {fn : List He5.DefA} {ex : List Ey} {K : PySem.W.Frag} (c : SaysF fa fn ex K) (i : Nat) {e : Ey} (h : ex[i]? = some e := by rfl) : e.ok K = true := List.all_eq_true.mp c.2 e (List.mem_of_getElem? h)
end GX

namespace G
open PySem L2
def topS (i : Nat) : Stmt := PySem.Challenge.pw_onecopy_k02_one_update.main.body.getD i (.Pass ⟨0, 0, 0, 0⟩)
abbrev s_InvalidPointer_init : Stmt := inClass (topS 5) 0
abbrev s_InvalidStanding_init : Stmt := inClass (topS 6) 0
abbrev s_NoLine_init : Stmt := inClass (topS 7) 0
abbrev s_NoPage_init : Stmt := inClass (topS 4) 0
abbrev s_law_box : Stmt := topS 18
abbrev s_law_draw : Stmt := topS 19
abbrev s_law_clean : Stmt := topS 20
abbrev s_law_free_rows : Stmt := topS 21
abbrev s_law_forest_rows : Stmt := topS 22
abbrev s_law_block_rows : Stmt := topS 23
abbrev s_law_ring_rows : Stmt := topS 24
abbrev s_law_dense_rows : Stmt := topS 25
abbrev s_law_large_rows : Stmt := topS 26
abbrev s_law_small_rows : Stmt := topS 27
abbrev s_law_names : Stmt := topS 28
abbrev s_law_mixed : Stmt := topS 29
abbrev s_law_web : Stmt := topS 30
abbrev s_check_pages : Stmt := topS 9
abbrev s_is_pointer : Stmt := topS 10
abbrev s_as_known : Stmt := topS 11
abbrev s_grouped : Stmt := topS 12
abbrev s_Web_init : Stmt := inClass (topS 13) 0
abbrev s_Web_holders : Stmt := inClass (topS 13) 7
abbrev s_Web_eq : Stmt := inClass (topS 13) 4
abbrev s_lines_used : Stmt := topS 15
abbrev s_Standing_init : Stmt := inClass (topS 16) 0
abbrev s_Standing_fresh : Stmt := inClass (topS 16) 1
abbrev s_Standing_eq : Stmt := inClass (topS 16) 2
abbrev s_Standing_blanks : Stmt := inClass (topS 16) 3
abbrev s_Standing_blank_of : Stmt := inClass (topS 16) 4
abbrev s_Standing_used : Stmt := inClass (topS 16) 5
abbrev s_Standingcheck_lines : Stmt := inClass (topS 16) 8
abbrev s_Standing_after : Stmt := inClass (topS 16) 7
abbrev s_law_whole : Stmt := topS 31
abbrev s_law_pages : Stmt := topS 32
abbrev s_law_outside : Stmt := topS 36
abbrev s_law_lines : Stmt := topS 33
abbrev s_law_blank : Stmt := topS 34
abbrev s_law_uses : Stmt := topS 35
abbrev s_law_truth : Stmt := topS 37
abbrev s_law_fits : Stmt := topS 38
abbrev s_law_called : Stmt := topS 39
abbrev s_law_refused : Stmt := topS 40
abbrev s_law_drawn_update : Stmt := topS 41
abbrev s_law_update : Stmt := topS 42
abbrev s_law_equal : Stmt := topS 43
abbrev s_law_equality : Stmt := topS 44
abbrev s_law_spoilt : Stmt := topS 45
abbrev s_law_invalid : Stmt := topS 46
abbrev s_law_wrong_list : Stmt := topS 47
abbrev s_law_no_page : Stmt := topS 48
abbrev s_law : Stmt := topS 49
/-! ### the head: facts by names, the run -/
def d_InvalidPointer_init : He5.DefA := ⟨(fun K => He.fAd K ("InvalidPointer", some "__init__")), "__init__", "InvalidPointer.__init__", defArgs s_InvalidPointer_init, defBody s_InvalidPointer_init, defScope s_InvalidPointer_init, [], []⟩
def d_InvalidStanding_init : He5.DefA := ⟨(fun K => He.fAd K ("InvalidStanding", some "__init__")), "__init__", "InvalidStanding.__init__", defArgs s_InvalidStanding_init, defBody s_InvalidStanding_init, defScope s_InvalidStanding_init, [], []⟩
def d_NoLine_init : He5.DefA := ⟨(fun K => He.fAd K ("NoLine", some "__init__")), "__init__", "NoLine.__init__", defArgs s_NoLine_init, defBody s_NoLine_init, defScope s_NoLine_init, [], []⟩
def d_NoPage_init : He5.DefA := ⟨(fun K => He.fAd K ("NoPage", some "__init__")), "__init__", "NoPage.__init__", defArgs s_NoPage_init, defBody s_NoPage_init, defScope s_NoPage_init, [], []⟩
def d_law_box : He5.DefA := ⟨(fun K => He.fAd K ("_law_box", none)), "_law_box", "_law_box", defArgs s_law_box, defBody s_law_box, defScope s_law_box, [], []⟩
def d_law_draw : He5.DefA := ⟨(fun K => He.fAd K ("_law_draw", none)), "_law_draw", "_law_draw", defArgs s_law_draw, defBody s_law_draw, defScope s_law_draw, [], []⟩
def d_law_clean : He5.DefA := ⟨(fun K => He.fAd K ("_law_clean", none)), "_law_clean", "_law_clean", defArgs s_law_clean, defBody s_law_clean, defScope s_law_clean, [], []⟩
def d_law_free_rows : He5.DefA := ⟨(fun K => He.fAd K ("_law_free_rows", none)), "_law_free_rows", "_law_free_rows", defArgs s_law_free_rows, defBody s_law_free_rows, defScope s_law_free_rows, [], []⟩
def d_law_forest_rows : He5.DefA := ⟨(fun K => He.fAd K ("_law_forest_rows", none)), "_law_forest_rows", "_law_forest_rows", defArgs s_law_forest_rows, defBody s_law_forest_rows, defScope s_law_forest_rows, [], []⟩
def d_law_block_rows : He5.DefA := ⟨(fun K => He.fAd K ("_law_block_rows", none)), "_law_block_rows", "_law_block_rows", defArgs s_law_block_rows, defBody s_law_block_rows, defScope s_law_block_rows, [], []⟩
def d_law_ring_rows : He5.DefA := ⟨(fun K => He.fAd K ("_law_ring_rows", none)), "_law_ring_rows", "_law_ring_rows", defArgs s_law_ring_rows, defBody s_law_ring_rows, defScope s_law_ring_rows, [], []⟩
def d_law_dense_rows : He5.DefA := ⟨(fun K => He.fAd K ("_law_dense_rows", none)), "_law_dense_rows", "_law_dense_rows", defArgs s_law_dense_rows, defBody s_law_dense_rows, defScope s_law_dense_rows, [], []⟩
def d_law_large_rows : He5.DefA := ⟨(fun K => He.fAd K ("_law_large_rows", none)), "_law_large_rows", "_law_large_rows", defArgs s_law_large_rows, defBody s_law_large_rows, defScope s_law_large_rows, [], []⟩
def d_law_small_rows : He5.DefA := ⟨(fun K => He.fAd K ("_law_small_rows", none)), "_law_small_rows", "_law_small_rows", defArgs s_law_small_rows, defBody s_law_small_rows, defScope s_law_small_rows, [], []⟩
def d_law_names : He5.DefA := ⟨(fun K => He.fAd K ("_law_names", none)), "_law_names", "_law_names", defArgs s_law_names, defBody s_law_names, defScope s_law_names, [], []⟩
def d_law_mixed : He5.DefA := ⟨(fun K => He.fAd K ("_law_mixed", none)), "_law_mixed", "_law_mixed", defArgs s_law_mixed, defBody s_law_mixed, defScope s_law_mixed, [], []⟩
def d_law_web : He5.DefA := ⟨(fun K => He.fAd K ("_law_web", none)), "_law_web", "_law_web", defArgs s_law_web, defBody s_law_web, defScope s_law_web, [], []⟩
def d_check_pages : He5.DefA := ⟨(fun K => He.fAd K ("check_pages", none)), "check_pages", "check_pages", defArgs s_check_pages, defBody s_check_pages, defScope s_check_pages, [], []⟩
def d_is_pointer : He5.DefA := ⟨(fun K => He.fAd K ("_is_pointer", none)), "_is_pointer", "_is_pointer", defArgs s_is_pointer, defBody s_is_pointer, defScope s_is_pointer, [], []⟩
def d_as_known : He5.DefA := ⟨(fun K => He.fAd K ("_as_known", none)), "_as_known", "_as_known", defArgs s_as_known, defBody s_as_known, defScope s_as_known, [], []⟩
def d_grouped : He5.DefA := ⟨(fun K => He.fAd K ("_grouped", none)), "_grouped", "_grouped", defArgs s_grouped, defBody s_grouped, defScope s_grouped, [], []⟩
def d_Web_init : He5.DefA := ⟨(fun K => He.fAd K ("Web", some "__init__")), "__init__", "Web.__init__", defArgs s_Web_init, defBody s_Web_init, defScope s_Web_init, [], []⟩
def d_Web_holders : He5.DefA := ⟨(fun K => He.fAd K ("Web", some "holders")), "holders", "Web.holders", defArgs s_Web_holders, defBody s_Web_holders, defScope s_Web_holders, [], []⟩
def d_Web_eq : He5.DefA := ⟨(fun K => He.fAd K ("Web", some "__eq__")), "__eq__", "Web.__eq__", defArgs s_Web_eq, defBody s_Web_eq, defScope s_Web_eq, [], []⟩
def d_lines_used : He5.DefA := ⟨(fun K => He.fAd K ("lines_used", none)), "lines_used", "lines_used", defArgs s_lines_used, defBody s_lines_used, defScope s_lines_used, [], []⟩
def d_Standing_init : He5.DefA := ⟨(fun K => He.fAd K ("Standing", some "__init__")), "__init__", "Standing.__init__", defArgs s_Standing_init, defBody s_Standing_init, defScope s_Standing_init, [], []⟩
def d_Standing_fresh : He5.DefA := ⟨(fun K => He5.wf K (He.ga K "Standing") "classmethod" "fresh"), "fresh", "Standing.fresh", defArgs s_Standing_fresh, defBody s_Standing_fresh, defScope s_Standing_fresh, [], []⟩
def d_Standing_eq : He5.DefA := ⟨(fun K => He.fAd K ("Standing", some "__eq__")), "__eq__", "Standing.__eq__", defArgs s_Standing_eq, defBody s_Standing_eq, defScope s_Standing_eq, [], []⟩
def d_Standing_blanks : He5.DefA := ⟨(fun K => He.fAd K ("Standing", some "blanks")), "blanks", "Standing.blanks", defArgs s_Standing_blanks, defBody s_Standing_blanks, defScope s_Standing_blanks, [], []⟩
def d_Standing_blank_of : He5.DefA := ⟨(fun K => He.fAd K ("Standing", some "blank_of")), "blank_of", "Standing.blank_of", defArgs s_Standing_blank_of, defBody s_Standing_blank_of, defScope s_Standing_blank_of, [], []⟩
def d_Standing_used : He5.DefA := ⟨(fun K => He.fAd K ("Standing", some "used")), "used", "Standing.used", defArgs s_Standing_used, defBody s_Standing_used, defScope s_Standing_used, [], []⟩
def d_Standingcheck_lines : He5.DefA := ⟨(fun K => He.fAd K ("Standing", some "_check_lines")), "_check_lines", "Standing._check_lines", defArgs s_Standingcheck_lines, defBody s_Standingcheck_lines, defScope s_Standingcheck_lines, [], []⟩
def d_Standing_after : He5.DefA := ⟨(fun K => He.fAd K ("Standing", some "after")), "after", "Standing.after", defArgs s_Standing_after, defBody s_Standing_after, defScope s_Standing_after, [], []⟩
def d_law_whole : He5.DefA := ⟨(fun K => He.fAd K ("_law_whole", none)), "_law_whole", "_law_whole", defArgs s_law_whole, defBody s_law_whole, defScope s_law_whole, [], []⟩
def d_law_pages : He5.DefA := ⟨(fun K => He.fAd K ("_law_pages", none)), "_law_pages", "_law_pages", defArgs s_law_pages, defBody s_law_pages, defScope s_law_pages, [], []⟩
def d_law_outside : He5.DefA := ⟨(fun K => He.fAd K ("_law_outside", none)), "_law_outside", "_law_outside", defArgs s_law_outside, defBody s_law_outside, defScope s_law_outside, [], []⟩
def d_law_lines : He5.DefA := ⟨(fun K => He.fAd K ("_law_lines", none)), "_law_lines", "_law_lines", defArgs s_law_lines, defBody s_law_lines, defScope s_law_lines, [], []⟩
def d_law_blank : He5.DefA := ⟨(fun K => He.fAd K ("_law_blank", none)), "_law_blank", "_law_blank", defArgs s_law_blank, defBody s_law_blank, defScope s_law_blank, [], []⟩
def d_law_uses : He5.DefA := ⟨(fun K => He.fAd K ("_law_uses", none)), "_law_uses", "_law_uses", defArgs s_law_uses, defBody s_law_uses, defScope s_law_uses, [], []⟩
def d_law_truth : He5.DefA := ⟨(fun K => He.fAd K ("_law_truth", none)), "_law_truth", "_law_truth", defArgs s_law_truth, defBody s_law_truth, defScope s_law_truth, [], []⟩
def d_law_fits : He5.DefA := ⟨(fun K => He.fAd K ("_law_fits", none)), "_law_fits", "_law_fits", defArgs s_law_fits, defBody s_law_fits, defScope s_law_fits, [], []⟩
def d_law_called : He5.DefA := ⟨(fun K => He.fAd K ("_law_called", none)), "_law_called", "_law_called", defArgs s_law_called, defBody s_law_called, defScope s_law_called, [], []⟩
def d_law_refused : He5.DefA := ⟨(fun K => He.fAd K ("_law_refused", none)), "_law_refused", "_law_refused", defArgs s_law_refused, defBody s_law_refused, defScope s_law_refused, [], []⟩
def d_law_drawn_update : He5.DefA := ⟨(fun K => He.fAd K ("_law_drawn_update", none)), "_law_drawn_update", "_law_drawn_update", defArgs s_law_drawn_update, defBody s_law_drawn_update, defScope s_law_drawn_update, [], []⟩
def d_law_update : He5.DefA := ⟨(fun K => He.fAd K ("_law_update", none)), "_law_update", "_law_update", defArgs s_law_update, defBody s_law_update, defScope s_law_update, [], []⟩
def d_law_equal : He5.DefA := ⟨(fun K => He.fAd K ("_law_equal", none)), "_law_equal", "_law_equal", defArgs s_law_equal, defBody s_law_equal, defScope s_law_equal, [], []⟩
def d_law_equality : He5.DefA := ⟨(fun K => He.fAd K ("_law_equality", none)), "_law_equality", "_law_equality", defArgs s_law_equality, defBody s_law_equality, defScope s_law_equality, [], []⟩
def d_law_spoilt : He5.DefA := ⟨(fun K => He.fAd K ("_law_spoilt", none)), "_law_spoilt", "_law_spoilt", defArgs s_law_spoilt, defBody s_law_spoilt, defScope s_law_spoilt, [], []⟩
def d_law_invalid : He5.DefA := ⟨(fun K => He.fAd K ("_law_invalid", none)), "_law_invalid", "_law_invalid", defArgs s_law_invalid, defBody s_law_invalid, defScope s_law_invalid, [], []⟩
def d_law_wrong_list : He5.DefA := ⟨(fun K => He.fAd K ("_law_wrong_list", none)), "_law_wrong_list", "_law_wrong_list", defArgs s_law_wrong_list, defBody s_law_wrong_list, defScope s_law_wrong_list, [], []⟩
def d_law_no_page : He5.DefA := ⟨(fun K => He.fAd K ("_law_no_page", none)), "_law_no_page", "_law_no_page", defArgs s_law_no_page, defBody s_law_no_page, defScope s_law_no_page, [], []⟩
def d_law : He5.DefA := ⟨(fun K => He.fAd K ("law", none)), "law", "law", defArgs s_law, defBody s_law, defScope s_law, [], []⟩
def fnS : List He5.DefA := [d_InvalidPointer_init, d_InvalidStanding_init, d_NoLine_init, d_NoPage_init, d_law_box, d_law_draw, d_law_clean, d_law_free_rows, d_law_forest_rows, d_law_block_rows, d_law_ring_rows, d_law_dense_rows, d_law_large_rows, d_law_small_rows, d_law_names, d_law_mixed, d_law_web, d_check_pages, d_is_pointer, d_as_known, d_grouped, d_Web_init, d_Web_holders, d_Web_eq, d_lines_used, d_Standing_init, d_Standing_fresh, d_Standing_eq, d_Standing_blanks, d_Standing_blank_of, d_Standing_used, d_Standingcheck_lines, d_Standing_after, d_law_whole, d_law_pages, d_law_outside, d_law_lines, d_law_blank, d_law_uses, d_law_truth, d_law_fits, d_law_called, d_law_refused, d_law_drawn_update, d_law_update, d_law_equal, d_law_equality, d_law_spoilt, d_law_invalid, d_law_wrong_list, d_law_no_page, d_law]
def fa0 : List He.Fa := [.glo "_law_box", .glo "_law_draw", .glo "_law_clean", .glo "_law_free_rows", .glo "_law_forest_rows", .glo "_law_block_rows", .glo "_law_ring_rows", .glo "_law_dense_rows", .glo "_law_large_rows", .glo "_law_small_rows", .glo "_law_names", .glo "_law_mixed", .glo "_law_web", .glo "check_pages", .glo "_is_pointer", .glo "_as_known", .glo "_grouped", .mkr "Web", .meth "Web" "holders", .meth "Web" "__eq__", .glo "lines_used", .mkr "Standing", .meth "Standing" "__eq__", .meth "Standing" "blanks", .meth "Standing" "blank_of", .meth "Standing" "used", .meth "Standing" "_check_lines", .meth "Standing" "after", .glo "_law_whole", .glo "_law_pages"]
def fa1 : List He.Fa := [.glo "_law_outside", .glo "_law_lines", .glo "_law_blank", .glo "_law_uses", .glo "_law_truth", .glo "_law_fits", .glo "_law_called", .glo "_law_refused", .glo "_law_drawn_update", .glo "_law_update", .glo "_law_equal", .glo "_law_equality", .glo "_law_spoilt", .glo "_law_invalid", .glo "_law_wrong_list", .glo "_law_no_page", .glo "law", .glo "InvalidPointer", .glo "InvalidStanding", .glo "LotError", .glo "NoLine", .glo "NoPage", .glo "OnecopyError", .glo "Standing", .glo "Web", .cls "Standing", .noat "Standing" "_blank", .noat "Standing" "lines", .noat "Standing" "web", .cls "Web"]
def fa2 : List He.Fa := [.noat "Web" "_arrows", .noat "Web" "_holders", .noat "Web" "_known", .noat "Web" "_targets", .noat "Web" "pages", .free "ValueError", .free "bool", .free "enumerate", .free "int", .free "isinstance", .free "len", .free "list", .free "max", .free "min", .free "range", .free "reversed", .free "set", .free "sorted", .free "sum"]
def faS : List He.Fa := fa0 ++ fa1 ++ fa2
def exS : List GX.Ey := [.ex (.oex "NoPage"), .ex (.noat "NoPage" "page"), .ex (.oex "InvalidPointer"), .ex (.noat "InvalidPointer" "index"), .ex (.oex "NoLine"), .ex (.noat "NoLine" "page"), .ex (.oex "InvalidStanding"), .ex (.noat "InvalidStanding" "page"), .ex (.exc "NoPage"), .ex (.exc "NoLine"), .ex (.exc "InvalidStanding"), .ex (.xf "NoPage"), .ex (.xf "NoLine"), .ex (.xf "InvalidStanding"), .ex (.exm "NoPage" "NoPage" true), .ex (.exm "NoLine" "NoLine" true), .ex (.exm "InvalidStanding" "InvalidStanding" true), .ex (.exm "NoLine" "NoPage" false), .ex (.kit "NoPage" "OnecopyError" true), .ex (.kitT "NoPage" "ValueError" true), .ex (.kit "NoLine" "OnecopyError" true), .ex (.kitT "NoLine" "ValueError" true), .ex (.kit "InvalidStanding" "OnecopyError" true), .ex (.kitT "InvalidStanding" "ValueError" true), .ex (.kitA "NoPage" ["NoLine", "LotError", "InvalidStanding"] false), .ex (.kitA "NoLine" ["NoPage", "LotError", "InvalidStanding"] false), .ex (.kitA "InvalidStanding" ["NoPage", "NoLine", "LotError"] false), .ex (.kitA "NoPage" ["NoLine", "InvalidStanding"] false), .ex (.ins "Web"), .ex (.kitR "list" "Web" false), .ex (.ins "Standing"), .ex (.kitR "list" "Standing" false), .cm "Standing" "fresh", .ex (.ini "InvalidPointer"), .ex (.ini "InvalidStanding"), .ex (.ini "NoLine"), .ex (.ini "NoPage"), .ex (.nfst "Web" "list"), .ex (.nfst "Standing" "list")]
def looseS : List PySem.Str := (["_wall", "OnecopyError", "LotError", "NoPage", "InvalidPointer", "InvalidStanding", "NoLine", "check_pages", "_is_pointer", "_as_known", "_grouped", "Web", "lines_used", "Standing", "_law_box", "_law_draw", "_law_clean", "_law_free_rows", "_law_forest_rows", "_law_block_rows", "_law_ring_rows", "_law_dense_rows", "_law_large_rows", "_law_small_rows", "_law_names", "_law_mixed", "_law_web", "_law_whole", "_law_pages", "_law_lines"] : List PySem.Str) ++ (["_law_blank", "_law_uses", "_law_outside", "_law_truth", "_law_fits", "_law_called", "_law_refused", "_law_drawn_update", "_law_update", "_law_equal", "_law_equality", "_law_spoilt", "_law_invalid", "_law_wrong_list", "_law_no_page"] : List PySem.Str)
abbrev RowS : PySem.W.OpenRow := PySem.W.OpenLaw.row PySem.Challenge.rw_onecopy_k02_one_update
abbrev hkS : PySem.W.Hook := GX.hookF 5 faS fnS exS
def obS (s : PySem.W.SharedT) : GX.AlF := GX.obsFG 5 faS fnS exS (HandSHeadRun.getT s)
theorem obS_eq (s : PySem.W.SharedT) : obS s = hkS.obs s.abs := GX.obsFG_eq (HandSHeadRun.getT_eq s)
theorem runS (w : World) : HandSHeadRun.RunEq RowS (PySem.W.view RowS.prog [49]) hkS obS 8000 looseS w := by
  intro os
  kernel_rfl
end G

section
namespace G
open PySem PySem.Spec PyProof.Rows L2
/-! ### any(xs) of a list of ints -/
theorem truth_ints {prog : Program} {w : World} {A : Around} {ns : List Int} {its : List Value} (rv : Vals (ns.map V.int) its) :
    TruthOf prog w A (fun i v => its.toArray[i]? = some v) (fun i => (ns.map fun z => z != 0).getD i false) := fun i v s Q E hv hq => by
  have hv' : its[i]? = some v := by simpa using hv
  obtain ⟨x, hx, r⟩ := Paired.at rv hv'
  rw [List.getElem?_map] at hx
  obtain ⟨n, hn, rfl⟩ := Option.map_eq_some_iff.mp hx
  obtain ⟨t, rfl⟩ := r
  have hg : (ns.map fun z => z != 0).getD i false = (n != 0) := by rw [List.getD_eq_getElem?_getD, List.getElem?_map, hn] <;> rfl
  have hq' : Q ((ns.map fun z => z != 0).getD i false) s := hq
  rw [hg] at hq'
  exact PySem.P.truthy_int hq'
def rAnyI (K : PySem.W.Frag) : List V → Hp → VK → Prop := fun vs H Q => ∃ (a : Addr) (ns : List Int), vs = [V.ref a] ∧ SqL K H a (ns.map V.int) ∧ Q (.bl (ns.any fun z => decide (z ≠ 0))) H
theorem cr_anyI {X : Cx} (hc : X.calm = true) : CallR X (.builtin "any") (rAnyI X.K) := by
  intro pins s σ H vs us Q I r h
  obtain ⟨a, ns, rfl, hs, q⟩ := h
  obtain ⟨its, rv, hl, _⟩ := I.list hs
  rw [Vals.ref1 r]
  have hlen := rv.length
  refine call_any_walk (iter_any hl.isList fun s₂ e2 st hne => ?_)
  subst e2
  refine ⟨_, _, _, _, _, _, _, rfl, Walks.list (A := X.A.in1) (I.ok.hd hc) _ a hne its.toArray, st, truth_ints rv, fun h' tk hk => ?_⟩
  refine ⟨.bl _, H, I.kept fun b o eo => hk b o (fun hmem => ?_) (Heap.get?_push_of_some _ eo), ?_, q⟩
  · rcases List.mem_cons.mp hmem with e1 | hmem
    · exact absurd (e1 ▸ Heap.lt_size eo) (Nat.lt_irrefl _)
    · cases hmem
  · show Value.bool _ = Value.bool _
    rw [show its.toArray.size = (ns.map fun z => z != 0).length by rw [List.size_toArray, ← hlen, List.length_map, List.length_map], L2.any_range, List.any_map]
    congr 1
    apply congrArg (ns.any)
    funext z
    by_cases hz : z = 0 <;> simp [hz]
theorem w_anyI {K : PySem.W.Frag} {H : Hp} {Q : VK} {p : Addr} {ns : List Int} (h : SqL K H p (ns.map V.int)) (q : Q (.bl (ns.any fun z => decide (z ≠ 0))) H) : rAnyI K [.ref p] H Q := ⟨p, ns, rfl, h, q⟩
/-! ### comprehensions over enumerate(list) -/
section
variable {K : PySem.W.Frag} {σ : L2.St} {H : Hp} {Q : VK} {tt : TT} {te : TE} {tl : TA}
theorem w_lcE {g : TG} {vs : List Nat} (h : tl σ H fun us H1 => ∃ a xs, us = [.ref a] ∧ SqL K H1 a xs ∧ LcW (Ite K a) g tt te vs σ H1 Q) : tLc (iEnum K tl) g tt te vs σ H Q := h
theorem lcE {a : Addr} {xs : List V} {g : TG} {vs : List Nat} (Pv : Addr → Nat → Hp → Prop) (h0 : ∀ Dl, H Dl = none → Pv Dl 0 (upd H Dl (.lst []))) (hl : ∀ Dl i H1, H Dl = none → i ≤ xs.length → Pv Dl i H1 → SqL K H1 a xs)
    (hs : ∀ Dl i x T H1, H Dl = none → xs[i]? = some x → Pv Dl i H1 → H1 T = none → g (.ref T) (wipe σ vs) (upd H1 T (.tup [.int (i : Nat), x])) fun σ2 H2 => wipe σ2 vs = wipe σ vs ∧ LcT tt te Dl (Pv Dl (i + 1)) σ2 H2)
    (hd : ∀ Dl H1, H Dl = none → Pv Dl xs.length H1 → Q (.ref Dl) H1) : LcW (Ite K a) g tt te vs σ H Q :=
  fun Dl hD => lc_it (walk_enum (K := K) (a := a) (xs := xs)) (Pv Dl) (h0 Dl hD) (fun i H1 hi p => hl Dl i H1 hD hi p) (fun i x H1 H' hi p y => by
    obtain ⟨T, u, v, rfl, hT, rfl, e1, e2⟩ := y
    have e1 := Option.some.inj e1
    subst e1
    exact hs Dl i v T H1 hD e2 p hT) (fun H1 p => hd Dl H1 hD p)
theorem w_enumSq {a : Addr} {xs : List V} {P : Addr → Prop} (h : SqL K H a xs) (q : P a) : ∃ b ys, [V.ref a] = [.ref b] ∧ SqL K H b ys ∧ P b := ⟨a, xs, rfl, h, q⟩
end
/-! ### ints in lists: deep equality -/
theorem dp_is {K : PySem.W.Frag} {H : Hp} : ∀ xs : List Int, DpAll K H (xs.map V.int) (xs.map PyData.int)
  | [] => .nil
  | x :: xs => .cons (.int x) (dp_is xs)
theorem dp_ints {K : PySem.W.Frag} {H : Hp} {p : Addr} {xs : List Int} (h : SqL K H p (xs.map V.int)) : Dp K H (.ref p) (.list (xs.map PyData.int)) := .lst h (dp_is xs)
theorem di_lay : ∀ xs : List Int, PyData.canLayAll0 (xs.map PyData.int) = true
  | [] => rfl
  | x :: xs => by
    rw [List.map_cons]
    show (PyData.canLay0 (.int x) && PyData.canLayAll0 (xs.map PyData.int)) = true
    rw [di_lay xs]; rfl
theorem di_depth : ∀ xs : List Int, PyData.depthAll (xs.map PyData.int) = 0
  | [] => rfl
  | x :: xs => by
    rw [List.map_cons]
    show max (PyData.depth (.int x)) (PyData.depthAll (xs.map PyData.int)) = 0
    rw [di_depth xs]; rfl
theorem di_shaped (xs : List Int) : SeqAt.shaped (.list (xs.map PyData.int)) = true := by
  have h1 : PyData.canLay0 (.list (xs.map PyData.int)) = true := di_lay xs
  have h2 : PyData.depth (.list (xs.map PyData.int)) ≤ 64 := by
    show PyData.depthAll (xs.map PyData.int) + 1 ≤ 64
    rw [di_depth]; decide
  show (PyData.canLay0 (.list (xs.map PyData.int)) && decide (PyData.depth (.list (xs.map PyData.int)) ≤ 64)) = true
  rw [h1, decide_eq_true h2]; rfl
theorem di_eqv : ∀ xs ys : List Int, PyData.eqvAll (xs.map PyData.int) (ys.map PyData.int) = decide (xs = ys)
  | [], [] => rfl
  | [], y :: ys => by simp [PyData.eqvAll]
  | x :: xs, [] => by simp [PyData.eqvAll]
  | x :: xs, y :: ys => by
    rw [List.map_cons, List.map_cons]
    simp only [PyData.eqvAll, PyData.eqv, di_eqv xs ys]
    by_cases h : x = y
    · by_cases h2 : xs = ys <;> simp [h, h2]
    · simp [h]
theorem w_neI2 {K : PySem.W.Frag} {H : Hp} {Q : VK} {p q : Addr} {xs ys : List Int} (hp : SqL K H p (xs.map V.int)) (hq : SqL K H q (ys.map V.int)) (k : Q (.bl (!decide (xs = ys))) H) : rNeD K (.ref p) (.ref q) H Q := by
  refine ⟨_, _, dp_ints hp, dp_ints hq, di_shaped xs, di_shaped ys, ?_⟩
  show Q (.bl (!PyData.eqvAll (xs.map PyData.int) (ys.map PyData.int))) H
  rw [di_eqv]; exact k
theorem w_eqI2 {K : PySem.W.Frag} {H : Hp} {Q : VK} {p q : Addr} {xs ys : List Int} (hp : SqL K H p (xs.map V.int)) (hq : SqL K H q (ys.map V.int)) (k : Q (.bl (decide (xs = ys))) H) : rEqD K (.ref p) (.ref q) H Q := by
  refine ⟨_, _, dp_ints hp, dp_ints hq, di_shaped xs, di_shaped ys, ?_⟩
  show Q (.bl (PyData.eqvAll (xs.map PyData.int) (ys.map PyData.int))) H
  rw [di_eqv]; exact k
end G
local macro_rules | `(tactic| walk_at "call") => `(tactic| first
  | (refine' G.w_anyI ?g1 ?_; (case g1 => walk_at "sq")) | refine' G.w_lcE ?_ | (refine' G.w_enumSq ?g1 ?_; (case g1 => walk_at "sq"))
  | (refine' G.w_neI2 ?g1 ?g2 ?_; (case g1 => walk_at "sq"); (case g2 => walk_at "sq")) | (refine' G.w_eqI2 ?g1 ?g2 ?_; (case g1 => walk_at "sq"); (case g2 => walk_at "sq")))

namespace G
open PySem L2
/-! ### more words -/
section
variable {K : PySem.W.Frag} {σ : L2.St} {H : Hp} {Q : VK} {D : Ends} {v x y : V} {ta te : TE} {p : Addr}
theorem w_tru {Qb : Bool → Hp → Prop} (h : ta σ H fun x H' => ∃ k, TruV K x H' k ∧ Qb k H') : tTruK K ta σ H Qb := h
theorem w_truL {xs : List V} {Qb : Bool → Prop} (h : SqL K H p xs) (q : Qb (!xs.isEmpty)) : ∃ k, TruV K (.ref p) H k ∧ Qb k := ⟨_, .inl ⟨xs, h, rfl⟩, q⟩
theorem w_revL (h : te σ H fun x H1 => ∃ a xs, x = .ref a ∧ SqL K H1 a xs ∧ ∀ p, H1 p = none → Q (.ref p) (upd H1 p (.lst xs.reverse))) : tRevL K te σ H Q := h
theorem w_revL2 {xs : List V} {P : Addr → List V → Prop} (h : SqL K H p xs) (q : P p xs) : ∃ a ys, V.ref p = .ref a ∧ SqL K H a ys ∧ P a ys := ⟨p, xs, rfl, h, q⟩
theorem w_rep {xs : List V} {k : Int} (h : H p = some (.lst xs)) (h0 : -4611686018427387904 ≤ k) (h1 : k < 4611686018427387904) (hl : xs.length * k.toNat ≤ sizeLine)
    (q : ∀ l, H l = none → Q (.ref l) (upd H l (.lst (List.replicate k.toNat xs).flatten))) : rRep (.ref p) (.int k) H Q := ⟨p, k, xs, rfl, rfl, h, by omega, by omega, hl, q⟩
theorem w_isNr (h : ta σ H fun x H1 => Q (.bl (decide (x = .non))) H1) : tIsN ta σ H Q := h
theorem w_notN (h : ta σ H fun x H1 => Q (.bl (!decide (x = .non))) H1) : tNotN ta σ H Q := h
theorem w_any {bs : List Bool} (h : SqL K H p (bs.map V.bl)) (q : Q (.bl (bs.any id)) H) : rAny K [.ref p] H Q := ⟨p, bs, rfl, h, q⟩
theorem w_all {bs : List Bool} (h : SqL K H p (bs.map V.bl)) (q : Q (.bl (bs.all id)) H) : rAll K [.ref p] H Q := ⟨p, bs, rfl, h, q⟩
theorem w_isT {t u : String} {b : Bool} (ty : TyX K H x (.type t)) (e : PySem.W.kitOne K (.type t) (.type u) = some b) (q : Q (.bl b) H) : rIsi K [x, .ty u] H Q :=
  ⟨x, .ty u, .type t, .type u, b, rfl, ClsV.ty u, ty, e, q⟩
theorem w_isII {a : Int} (q : Q (.bl true) H) : rIsi K [.int a, .ty "int"] H Q := w_isT (t := "int") (b := true) (TyX.base (TyOf.int a)) (kit_ty (by decide +kernel)) q
theorem w_isIB {a : Int} (q : Q (.bl false) H) : rIsi K [.int a, .ty "bool"] H Q := w_isT (t := "int") (b := false) (TyX.base (TyOf.int a)) (kit_ty (by decide +kernel)) q
theorem w_isBB {a : Bool} (q : Q (.bl true) H) : rIsi K [.bl a, .ty "bool"] H Q := w_isT (t := "bool") (b := true) (TyX.base (TyOf.bl a)) (kit_ty (by decide +kernel)) q
theorem w_isLL {xs : List V} (h : H p = some (.lst xs)) (q : Q (.bl true) H) : rIsi K [.ref p, .ty "list"] H Q := w_isT (t := "list") (b := true) (TyX.base (TyOf.lst h)) (kit_ty (by decide +kernel)) q
end
theorem w_iteNT {A B : Prop} (h : B) : if (!true) = true then A else B := h
theorem w_iteNF {A B : Prop} (h : A) : if (!false) = true then A else B := h
theorem w_iteRf {α : Type} {a : α} {i : Decidable (a = a)} {A B : Prop} (h : A) : if (@decide (a = a) i) = true then A else B := by rw [decide_eq_true rfl]; exact h
theorem w_iteNRf {α : Type} {a : α} {i : Decidable (a = a)} {A B : Prop} (h : B) : if (!(@decide (a = a) i)) = true then A else B := by rw [decide_eq_true rfl]; exact h
theorem at_of {xs : List V} {k : Int} {j : Nat} {v : V} (e : k = (j : Int)) (h : xs[j]? = some v) : atI xs k = some v := atn e h
end G
local macro_rules | `(tactic| walk_at "call") => `(tactic| first
  | refine' G.w_iteNT ?_ | refine' G.w_iteNF ?_ | refine' G.w_iteRf ?_ | refine' G.w_iteNRf ?_ | refine' G.w_tru ?_ | (refine' G.w_truL ?g1 ?_; (case g1 => walk_at "sq")) | refine' G.w_revL ?_ | (refine' G.w_revL2 ?g1 ?_; (case g1 => walk_at "sq"))
  | (refine' G.w_rep ?g1 ?g2 ?g3 ?g4 ?_; (case g1 => walk_at "hp"); (case g2 => walk_at "ar"); (case g3 => walk_at "ar"); (case g4 => walk_at "sz"))
  | refine' G.w_isNr ?_ | refine' G.w_notN ?_ | refine' G.w_isII ?_ | refine' G.w_isIB ?_ | refine' G.w_isBB ?_ | (refine' G.w_isLL ?g1 ?_; (case g1 => walk_at "hp")))

namespace G
open PySem L2
variable {K : PySem.W.Frag} {A : CA} {vs : List V} {H : Hp} {Q : VK} {E : XK}
/-- chains: numbers from 0 to 60 -/
def Chn (c : List Int) : Prop := ∀ n ∈ c, 0 ≤ n ∧ n ≤ 60
theorem Chn.app {a b : List Int} (h : Chn a) (k : Chn b) : Chn (a ++ b) := fun n hn => by
  rcases List.mem_append.mp hn with q | q
  · exact h n q
  · exact k n q
theorem Chn.set {a : List Int} {i : Nat} {v : Int} (h : Chn a) (h0 : 0 ≤ v) (h1 : v ≤ 60) : Chn (a.set i v) := fun n hn => by
  rcases List.mem_or_eq_of_mem_set hn with q | q
  · exact h n q
  · rw [q]; exact ⟨h0, h1⟩
theorem Chn.sub {a b : List Int} (h : Chn a) (k : ∀ x ∈ b, x ∈ a) : Chn b := fun n hn => h n (k n hn)
theorem Chn.rep {a : List Int} {k : Nat} (h : Chn a) : Chn (List.replicate k a).flatten := h.sub fun x hx => by
  obtain ⟨l, hl, hm⟩ := List.mem_flatten.mp hx
  rw [(List.mem_replicate.mp hl).2] at hm; exact hm
theorem map_rep {a : List Int} {k : Nat} : (List.replicate k (a.map V.int)).flatten = ((List.replicate k a).flatten).map V.int := by
  rw [List.map_flatten, List.map_replicate]
theorem len_rep {α : Type} {a : List α} {k : Nat} : (List.replicate k a).flatten.length = k * a.length := by
  simp [List.length_flatten, List.map_replicate, List.sum_replicate_nat]
theorem snocI (xs : List Int) (z : Int) : xs.map V.int ++ [V.int z] = (xs ++ [z]).map V.int := by rw [List.map_append]; rfl
end G

namespace G
open PySem L2
theorem sIx_nat (n k : Nat) (d : Nat) : HT.sIx n d (some (k : Int)) = min k n := by
  unfold HT.sIx
  simp
  omega
theorem cut_map (c : List Int) (i j : Nat) : cutV (c.map V.int) (some (i : Int)) (some (j : Int)) = ((c.drop i).take (j - i)).map V.int := by
  unfold cutV
  rw [sIx_nat, sIx_nat, List.length_map, ← List.map_drop, ← List.map_take]
  congr 1
  by_cases h : i ≤ c.length
  · rw [show min i c.length = i by omega]
    by_cases h2 : j ≤ c.length
    · rw [show min j c.length = j by omega]
    · rw [show min j c.length = c.length by omega, List.take_of_length_le (by simp), List.take_of_length_le (by simp; omega)]
  · rw [show min i c.length = c.length by omega, List.drop_eq_nil_of_le (Nat.le_refl _), List.drop_eq_nil_of_le (by omega)]
    simp
theorem cut_mapFrom (c : List Int) (i : Nat) : cutV (c.map V.int) (some (i : Int)) none = (c.drop i).map V.int := by
  unfold cutV
  rw [sIx_nat, List.length_map, ← List.map_drop, ← List.map_take]
  congr 1
  show List.take (c.length - _) _ = _
  by_cases h : i ≤ c.length
  · rw [show min i c.length = i by omega, List.take_of_length_le (by simp)]
  · rw [List.drop_eq_nil_of_le (show c.length ≤ i by omega), List.drop_eq_nil_of_le (by omega)]; simp
theorem cut_mapTo (c : List Int) (j : Nat) : cutV (c.map V.int) none (some (j : Int)) = (c.take j).map V.int := by
  unfold cutV
  rw [sIx_nat, List.length_map, ← List.map_drop, ← List.map_take]
  congr 1
  show List.take (_ - 0) (List.drop 0 c) = _
  rw [List.drop_zero, Nat.sub_zero]
  by_cases h : j ≤ c.length
  · rw [show min j c.length = j by omega]
  · rw [List.take_of_length_le (by omega), List.take_of_length_le (by omega)]
variable {K : PySem.W.Frag} {A : CA} {vs : List V} {H : Hp} {Q : VK} {E : XK}
theorem w_oIntB {b : Bool} (q : Q (.int (if b then 1 else 0)) H) : oInt [.bl b] H Q := .inr ⟨b, rfl, q⟩
theorem getI {c : List Int} {i : Nat} {x : V} (h : (c.map V.int)[i]? = some x) : ∃ hi : i < c.length, x = V.int c[i] := by
  rw [List.getElem?_map] at h
  have hi : i < c.length := by
    by_cases hc : i < c.length
    · exact hc
    · rw [List.getElem?_eq_none (by omega)] at h; cases h
  rw [List.getElem?_eq_getElem hi] at h
  exact ⟨hi, (Option.some.inj h).symm⟩
end G
local macro_rules | `(tactic| walk_at "call") => `(tactic| refine' G.w_oIntB ?_)

namespace G
open PySem L2
/-! ### made lists -/
section
variable {K : PySem.W.Frag} {σ : L2.St} {H : Hp} {ta tb : TE} {xs ys : List Int} {k a : Int} {i : Nat}
/-- the expression makes a new list of these ints -/
def Mk (ta : TE) (σ : L2.St) (H : Hp) (xs : List Int) : Prop := ∀ Q : VK, (∀ p H', H p = none → Same H H' → H' p = some (.lst (xs.map V.int)) → Q (.ref p) H') → ta σ H Q
/-- the expression is this int and changes nothing -/
def Iv (tb : TE) (σ : L2.St) (k : Int) : Prop := ∀ (H : Hp) (Q : VK), Q (.int k) H → tb σ H Q
theorem Iv.var (h : σ[i]? = some (some (.int k))) : Iv (tVar i) σ k := fun _ _ q => w_var h q
theorem Iv.c : Iv (tC (.int k)) σ k := fun _ _ q => q
theorem Iv.sub {m : Int} (h : Iv ta σ k) (h2 : Iv tb σ m) : Iv (tOp oSub ta tb) σ (k - m) := fun _ _ q => w_op (h _ _ (h2 _ _ (w_oSub q)))
theorem Iv.add {m : Int} (h : Iv ta σ k) (h2 : Iv tb σ m) : Iv (tOp oAdd ta tb) σ (k + m) := fun _ _ q => w_op (h _ _ (h2 _ _ (w_oAdd q)))
theorem Mk.one (h : Iv ta σ a) : Mk (tLst (tCons ta tNil)) σ H [a] := fun Q q => w_lst (w_cons (h _ _ (w_nil ⟨Nat.le_trans (by simp : [V.int a].length ≤ 1) (by decide), fun p hp => q p _ hp (same_new hp) upd_same⟩)))
theorem Mk.rep (h : Mk ta σ H xs) (h2 : Iv tb σ k) (h0 : -4611686018427387904 ≤ k) (h1 : k < 4611686018427387904) (hl : xs.length * k.toNat ≤ 100000) : Mk (tOp rRep ta tb) σ H (List.replicate k.toNat xs).flatten := fun Q q =>
  w_op (h _ fun p H1 hp e hx => h2 _ _ (w_rep hx h0 h1 (by rw [List.length_map]; exact Nat.le_trans hl (by decide)) fun l hl => q l _ (e.free hl) (e.trans (same_new hl)) (by rw [map_rep]; exact upd_same)))
theorem Mk.cat (h : Mk ta σ H xs) (h2 : ∀ H', Same H H' → Mk tb σ H' ys) (hl : xs.length + ys.length ≤ 100000) : Mk (tOp rCat ta tb) σ H (xs ++ ys) := fun Q q =>
  w_op (h _ fun p H1 hp e hx => h2 H1 e _ fun p2 H2 hp2 e2 hy => w_cat (e2 _ _ hx) hy (by rw [List.length_map, List.length_map]; exact Nat.le_trans hl (by decide)) fun l hl => q l _ ((e.trans e2).free hl) ((e.trans e2).trans (same_new hl)) (by rw [← List.map_append]; exact upd_same))
theorem Mk.same {H' : Hp} (e : Same H H') (h : ∀ H1, Mk ta σ H1 xs) : Mk ta σ H' xs := h H'
end
theorem flat_one {α : Type} (k : Nat) (x : α) : (List.replicate k [x]).flatten = List.replicate k x := by
  induction k with
  | zero => rfl
  | succ k ih => rw [List.replicate_succ, List.flatten_cons, ih]; rfl
end G

namespace G
open PySem PySem.Spec PyProof.Rows L2
/-! ### list(range(i, j, c)), shifts, reversed ranges -/
def tLstRg3 (ta : TA) : TE := fun σ H Q => ta σ H fun vs H1 => ∃ (i j c : Int) (n : Nat), vs = [.int i, .int j, .int c] ∧ RgC i j c n ∧ n ≤ 2 ^ 20 ∧ ∀ q, H1 q = none → Q (.ref q) (upd H1 q (.lst ((List.range n).map fun (m : Nat) => V.int (i + (m : Int) * c))))
theorem pe_listRg3 {X : Cx} {a b c : Expr} {ta : TA} {p p2 pos pos2 : Pos} (hc : X.calm = true) (hgl : Gl X "list") (hml : X.mg "list" = none) (hg : Gl X "range") (hm : X.mg "range" = none) (ha : PA X [a, b, c] ta)
    (hs : starEach [a, b, c] X.env = (false, eval a X.env) :: starEach [b, c] X.env := by rfl) (hpl : (backTo pos (starEach [b, c] X.env)).any (·.1) = false := by rfl)
    (na : starEach [.Call (.Name "range" p) [a, b, c] [] pos] X.env = (false, eval (.Call (.Name "range" p) [a, b, c] [] pos) X.env) :: starEach [] X.env := by rfl) :
    PE X (.Call (.Name "list" p2) [.Call (.Name "range" p) [a, b, c] [] pos] [] pos2) (tLstRg3 ta) := by
  refine ⟨fun pins s σ H Q I h => ?_⟩
  refine Call_ (ld_blt I hgl hml boot_list (PyProof.Rows.callWith_type1 (args_cons ?_ na) na))
  refine Call_ (ld_blt I hg hm boot_range (PyProof.Rows.callWith_type1 (thn (ha.run pos pins s σ H _ I h) fun us s1 ⟨vs, H1, I1, r1, q1⟩ => ?_) hs hpl))
  obtain ⟨i, j, k, n, e, ⟨c0, c1, c2, c3⟩, hn, q⟩ := q1
  subst e
  cases r1 with
  | cons r rr =>
    cases rr with
    | cons r' rr =>
      cases rr with
      | cons r'' rr =>
        cases rr
        obtain ⟨t, rfl⟩ := r
        obtain ⟨t', rfl⟩ := r'
        obtain ⟨t'', rfl⟩ := r''
        refine call_range_3 c0 ?_ (.inl (PyProof.noPylong_small c1))
        refine args_nil ?_
        have I2 : Inv X pins σ H1 { s1 with heap := s1.heap.push { cls := .type "range", data := .fields #[.int i t, .int j t', .int k t''] } } := I1.kept (t' := s1.toks) fun b o e => Heap.get?_push_of_some _ e
        refine call_list_range (n := n) (I2.ok.hd hc) (IsRange.new ..) c2 c3 (Nat.le_trans hn (by decide)) fun h' tk acc c' hk e' hi => ?_
        have e : acc.toList.length = n := by rw [Array.length_toList]; exact hi.1
        refine ⟨.ref _, upd H1 _ (.lst ((List.range n).map fun (m : Nat) => V.int (i + (m : Int) * k))), I2.laid hk (Nat.le_refl _) (show ObjOk X.prog X.w _ _ _ (.lst ((List.range n).map fun (m : Nat) => V.int (i + (m : Int) * k))) from ⟨?_, acc.toList, c', ?_, ?_⟩), rfl, q _ (I2.hok.fresh (Nat.le_refl _))⟩
        · rw [List.length_map, List.length_range, sizeLine_eq]; omega
        · rw [← e]
          refine vals_of_get acc.toList _ fun j u hj => ?_
          obtain ⟨t, rfl⟩ := hi.2 j u (by rw [← hj, Array.getElem?_toList])
          exact ⟨t, rfl⟩
        · rw [Array.toArray_toList]; exact e'
theorem rg_down {a b : Int} {w n : Nat} (hw : 1 ≤ w) (hw1 : w ≤ 1000000) (ha : 0 ≤ a) (ha' : a ≤ 1000000) (hb : 0 ≤ b) (hn : 1 ≤ n) (e : a = b + ((n * w : Nat) : Int)) : RgC a b (-(w : Int)) n := by
  have hnw : 1 * 1 ≤ n * w := Nat.mul_le_mul hn hw
  have hs : Builtin.Range.rangeSize a b (-(w : Int)) = n := by
    unfold Builtin.Range.rangeSize
    rw [if_neg (by omega), if_pos (by omega), Int.neg_neg]
    have h1 : a - b - 1 = ((n * w - 1 : Nat) : Int) := by omega
    rw [h1, ← Int.natCast_ediv]
    have h2 : (n * w - 1) / w = n - 1 := by
      obtain ⟨m, rfl⟩ : ∃ m, n = m + 1 := ⟨n - 1, by omega⟩
      have e3 : (m + 1) * w - 1 = w * m + (w - 1) := by rw [Nat.add_mul, Nat.mul_comm]; omega
      rw [e3, Nat.mul_add_div (by omega), Nat.div_eq_of_lt (by omega)]; simp
    rw [h2]; omega
  have hnn : n ≤ n * w := Nat.le_mul_of_pos_right _ hw
  refine ⟨by omega, by omega, ?_, hs⟩
  unfold Builtin.Range.small
  rw [hs, if_neg (by omega)]
  unfold Builtin.Range.rangeFitsLong
  simp only [Bool.and_eq_true, Bool.or_eq_true, decide_eq_true_eq, beq_iff_eq]
  omega
def oShl1 : R2 := fun x y H Q => ∃ k : Nat, x = .int 1 ∧ y = .int (k : Int) ∧ k ≤ 134217727 ∧ Q (.int (2 ^ k)) H
def oShrN : R2 := fun x y H Q => ∃ (i : Int) (k : Nat), x = .int i ∧ y = .int (k : Int) ∧ Q (.int (i / 2 ^ k)) H
def oOdd : R2 := fun x y H Q => ∃ n : Nat, x = .int (n : Int) ∧ y = .int 1 ∧ Q (.int ((n % 2 : Nat) : Int)) H
section
variable {K : PySem.W.Frag} {σ : L2.St} {H : Hp} {Q : VK} {p : Addr} {ns : List Int} {i : Int}
theorem inV_int : ∀ (ns : List Int) (i : Int), inV (.int i) (ns.map V.int) = decide (i ∈ ns)
  | [], i => rfl
  | n :: ns, i => by
    have ih := inV_int ns i
    unfold inV at ih ⊢
    rw [List.map_cons, List.any_cons, ih]
    show (decide (n = i) || decide (i ∈ ns)) = _
    by_cases c : n = i
    · subst c; simp
    · by_cases c2 : i ∈ ns <;> simp [c, c2, Ne.symm c]
theorem all_flat : ∀ ns : List Int, (ns.map V.int).all flatV = true
  | [] => rfl
  | n :: ns => by rw [List.map_cons, List.all_cons, all_flat ns]; rfl
theorem w_inI (h : SqL K H p (ns.map V.int)) (q : Q (.bl (decide (i ∈ ns))) H) : rIn K false (.int i) (.ref p) H Q := ⟨p, _, rfl, .inl h, rfl, all_flat ns, by rw [inV_int]; exact q⟩
theorem w_max (h : SqL K H p (ns.map V.int)) (h0 : 0 < ns.length) (q : ∀ m, m ∈ ns → (∀ y, y ∈ ns → y ≤ m) → Q (.int m) H) : rMax K [.ref p] H Q := ⟨p, ns, rfl, h, h0, q⟩
theorem w_forRev {ta : TE} {g : TG} {tb : TS} {D : Ends} (h : ta σ H fun x H1 => ∃ n : Int, x = .int n ∧ -(2 ^ 62) ≤ (0 : Int) ∧ (0 : Int) < 2 ^ 62 ∧ -(2 ^ 62) ≤ n ∧ n < 2 ^ 62 ∧ ForW (Itc (0 + (((n - 0).toNat : Nat) : Int) - 1) (-1) (n - 0).toNat) g tb D σ H1) : tFor (iRevR (tRg1 ta)) g tb D σ H := h
theorem w_bdR {n : Int} {P : Prop} (h0 : -4611686018427387904 ≤ n) (h1 : n < 4611686018427387904) (q : P) : -(2 ^ 62) ≤ (0 : Int) ∧ (0 : Int) < 2 ^ 62 ∧ -(2 ^ 62) ≤ n ∧ n < 2 ^ 62 ∧ P := ⟨by omega, by omega, by omega, by omega, q⟩
/-- reversed(range(n)): the place of turn t is n - 1 - t -/
theorem forC {n : Nat} {g : TG} {tb : TS} {D : Ends} (Pv : Nat → L2.St → Hp → Prop) (h0 : Pv 0 σ H)
    (hs : ∀ i σ1 H1, i < n → Pv i σ1 H1 → g (.int ((n - 1 - i : Nat) : Int)) σ1 H1 fun σ2 H2 => tb { D with nx := Pv (i + 1), ct := Pv (i + 1), bk := D.nx } σ2 H2) (hd : ∀ σ1 H1, Pv n σ1 H1 → D.nx σ1 H1) :
    ForW (Itc (0 + ((((n : Nat) : Int) - 0).toNat : Int) - 1) (-1) (((n : Nat) : Int) - 0).toNat) g tb D σ H := by
  rw [show (((n : Nat) : Int) - 0).toNat = n by omega]
  refine for_rangeC Pv h0 (fun i σ1 H1 hi p => ?_) hd
  have e : (0 : Int) + ((n : Nat) : Int) - 1 + ((i : Nat) : Int) * -1 = ((n - 1 - i : Nat) : Int) := by omega
  rw [e]
  exact hs i σ1 H1 hi p
end
theorem at_int {xs : List Int} {j : Nat} {v : Int} (h : xs[j]? = some v) : atI (xs.map V.int) (j : Int) = some (V.int v) := at_of (j := j) rfl (by rw [List.getElem?_map, h]; rfl)
theorem w_lstRg3 {σ : L2.St} {H : Hp} {Q : VK} {ta : TA} (h : ta σ H fun vs H1 => ∃ (i j c : Int) (n : Nat), vs = [.int i, .int j, .int c] ∧ RgC i j c n ∧ n ≤ 2 ^ 20 ∧ ∀ q, H1 q = none → Q (.ref q) (upd H1 q (.lst ((List.range n).map fun (m : Nat) => V.int (i + (m : Int) * c))))) : tLstRg3 ta σ H Q := h
theorem w_ninI {K : PySem.W.Frag} {H : Hp} {Q : VK} {p : Addr} {ns : List Int} {i : Int} (h : SqL K H p (ns.map V.int)) (q : Q (.bl (!decide (i ∈ ns))) H) : rIn K true (.int i) (.ref p) H Q := ⟨p, _, rfl, .inl h, rfl, all_flat ns, by rw [inV_int]; exact q⟩
theorem w_min {K : PySem.W.Frag} {H : Hp} {Q : VK} {p : Addr} {ns : List Int} (h : SqL K H p (ns.map V.int)) (h0 : 0 < ns.length) (q : ∀ m, m ∈ ns → (∀ y, y ∈ ns → m ≤ y) → Q (.int m) H) : rMin K [.ref p] H Q := ⟨p, ns, rfl, h, h0, q⟩
theorem w_sortI {K : PySem.W.Frag} {H : Hp} {Q : VK} {p : Addr} {ns : List Int} (h : SqL K H p (ns.map V.int)) (q : ∀ (ns' : List Int) (l : Addr), ns'.Perm ns → ns'.Pairwise (· ≤ ·) → H l = none → Q (.ref l) (upd H l (.lst (ns'.map V.int)))) : rSortedI K [.ref p] H Q := ⟨p, ns, rfl, h, q⟩
theorem sorted_eq {xs ys : List Int} (hp : xs.Perm ys) (hx : xs.Pairwise (· ≤ ·)) (hy : ys.Pairwise (· ≤ ·)) : xs = ys := hp.eq_of_pairwise (fun a b _ _ h1 h2 => by omega) hx hy
theorem at_last1 {xs : List V} {v : V} : atI (xs ++ [v]) (-1) = some v := atI_last _ _
/-- natural numbers as ints -/
abbrev nI (l : List Nat) : List Int := l.map fun (n : Nat) => (n : Int)
theorem mem_nI {l : List Nat} {i : Nat} : (i : Int) ∈ nI l ↔ i ∈ l := by
  constructor
  · intro h
    obtain ⟨j, hj, e⟩ := List.mem_map.mp h
    rw [← Int.ofNat_inj.mp e]; exact hj
  · exact fun h => List.mem_map.mpr ⟨i, h, rfl⟩
theorem w_wl {c : TT} {tb : TS} {D : Ends} {σ : L2.St} {H : Hp} (W : Nat → L2.St → Hp → Prop) (m : Nat) (h0 : W m σ H) (hs : ∀ m σ H, W m σ H → c σ H fun b H1 => if b = true then tb { D with nx := fun σ' H' => ∃ m', m' < m ∧ W m' σ' H', ct := fun σ' H' => ∃ m', m' < m ∧ W m' σ' H', bk := D.nx } σ H1 else D.nx σ H1)
    (mono : ∀ σ H Q Q', (∀ b H1, Q b H1 → Q' b H1) → c σ H Q → c σ H Q') : tWhile c tb D σ H := by
  refine ⟨W, ⟨m, h0⟩, fun m σ H p => mono σ H _ _ (fun b H1 q => ?_) (hs m σ H p)⟩
  cases b with
  | true => exact ⟨_, fun _ _ h => h, q⟩
  | false => exact q
end G
namespace GY
open PySem L2 G
def oTupOf (K : PySem.W.Frag) : RL := fun xs H Q => ∃ p ys, xs = [.ref p] ∧ ((SqL K H p ys ∧ ∀ l, H l = none → Q (.ref l) (upd H l (.tup ys))) ∨ (SqT K H p ys ∧ Q (.ref p) H))
section
variable {K : PySem.W.Frag} {σ : L2.St} {H : Hp} {Q : VK} {p : Addr} {xs ys : List V} {te tz : TE} {t : TA} {tt : TT}
theorem w_tupL (h : SqL K H p ys) (q : ∀ l, H l = none → Q (.ref l) (upd H l (.tup ys))) : oTupOf K [.ref p] H Q := ⟨p, ys, rfl, .inl ⟨h, q⟩⟩
theorem w_star {Ql : List V → Hp → Prop} (h : te σ H fun x H1 => ∃ p xs, x = V.ref p ∧ (SqT K H1 p xs ∨ SqL K H1 p xs) ∧ t σ H1 fun ys H2 => Ql (xs ++ ys) H2) : _root_.StX.tStar K te t σ H Ql := h
theorem w_starL {P : List V → Prop} (h : SqL K H p xs) (q : P xs) : ∃ a ys, V.ref p = V.ref a ∧ (SqT K H a ys ∨ SqL K H a ys) ∧ P ys := ⟨p, xs, rfl, .inr h, q⟩
theorem w_listT (h : SqT K H p ys) (q : ∀ l, H l = none → Q (.ref l) (upd H l (.lst ys))) : oListOf K [.ref p] H Q := ⟨p, ys, rfl, .inr h, q⟩
theorem w_lcS {g : TG} {vs : List Nat} (h : tz σ H fun x H1 => ∃ a, x = .ref a ∧ (((∃ xs, SqL K H1 a xs) ∧ LcW (Itl K a) g tt te vs σ H1 Q) ∨ ((∃ xs, SqT K H1 a xs) ∧ LcW (Itt K a) g tt te vs σ H1 Q))) : tLc (iSeq K tz) g tt te vs σ H Q := h
theorem lcT {a : Addr} {g : TG} {vs : List Nat} (Pv : Addr → Nat → Hp → Prop) (h0 : ∀ Dl, H Dl = none → Pv Dl 0 (upd H Dl (.lst []))) (hl : ∀ Dl i H1, H Dl = none → i ≤ xs.length → Pv Dl i H1 → SqT K H1 a xs)
    (hs : ∀ Dl i x H1, H Dl = none → xs[i]? = some x → Pv Dl i H1 → g x (wipe σ vs) H1 fun σ2 H2 => wipe σ2 vs = wipe σ vs ∧ LcT tt te Dl (Pv Dl (i + 1)) σ2 H2) (hd : ∀ Dl H1, H Dl = none → Pv Dl xs.length H1 → Q (.ref Dl) H1) : LcW (Itt K a) g tt te vs σ H Q :=
  fun Dl hD => lc_tup (K := K) (a := a) (xs := xs) (Pv Dl) (h0 Dl hD) (fun i H1 hi p => hl Dl i H1 hD hi p) (fun i x H1 hx p => hs Dl i x H1 hD hx p) (fun H1 p => hd Dl H1 hD p)
end
end GY
local macro_rules | `(tactic| walk_at "sqt") => `(tactic| first | assumption | exact L2.SqT.of (by walk_at "hp"))
local macro_rules | `(tactic| walk_at "call") => `(tactic| first
  | (refine' G.w_inI ?g1 ?_; (case g1 => walk_at "sq")) | (refine' G.w_ninI ?g1 ?_; (case g1 => walk_at "sq")) | refine' G.w_forRev ?_ | refine' G.w_lstRg3 ?_ | (refine' G.w_bdR ?g1 ?g2 ?_; (case g1 => walk_at "ar"); (case g2 => walk_at "ar"))
  | (refine' G.w_max ?g1 ?g2 ?_; (case g1 => walk_at "sq"); (case g2 => walk_at "ar")) | (refine' G.w_min ?g1 ?g2 ?_; (case g1 => walk_at "sq"); (case g2 => walk_at "ar"))
  | (refine' G.w_sortI ?g1 ?_; (case g1 => walk_at "sq")) | (refine' GY.w_tupL ?g1 ?_; (case g1 => walk_at "sq")) | refine' GY.w_star ?_ | (refine' GY.w_starL ?g1 ?_; (case g1 => walk_at "sq")) | (refine' GY.w_listT ?g1 ?_; (case g1 => walk_at "sqt")))

namespace G
open PySem PySem.Spec PyProof.Rows L2
section
variable {K : PySem.W.Frag} {A : CA} {vs : List V} {H : Hp} {Q : VK} {E : XK}
theorem map_drop_take (xs : List Int) (a b : Nat) : ((xs.map V.int).drop a).take b = ((xs.drop a).take b).map V.int := by rw [← List.map_drop, ← List.map_take]
theorem cut_ints (xs : List Int) (lo hi : Option Int) : ∃ ys : List Int, cutV (xs.map V.int) lo hi = ys.map V.int := ⟨_, map_drop_take xs _ _⟩
end
section
def Par (ps : List Int) : Prop := ∀ (k : Nat) (z : Int), ps[k]? = some z → -1 ≤ z ∧ z < (k : Int)
theorem Par.snoc {ps : List Int} {z : Int} (h : Par ps) (h0 : -1 ≤ z) (h1 : z < ps.length) : Par (ps ++ [z]) := by
  intro k w hk
  by_cases hc : k < ps.length
  · rw [List.getElem?_append_left hc] at hk; exact h k w hk
  · rw [List.getElem?_append_right (by omega)] at hk
    have e : k - ps.length = 0 := by
      cases hd : k - ps.length with
      | zero => rfl
      | succ n => rw [hd] at hk; simp at hk
    rw [e] at hk
    have := Option.some.inj hk
    subst this; omega
theorem par1 : Par [-1] := by
  intro k z hk
  cases k with
  | zero =>
    have e : (-1 : Int) = z := Option.some.inj hk
    subst e; decide
  | succ n => simp at hk
end
section
/-- rows of pairs of pages below m, two different ones each, none twice -/
structure RG (m : Int) (rows : List (Int × Int)) : Prop where
  bd : ∀ r ∈ rows, 0 ≤ r.1 ∧ r.1 < m ∧ 0 ≤ r.2 ∧ r.2 < m ∧ r.1 ≠ r.2
  nd : rows.Nodup
theorem RG.nil {m : Int} : RG m [] := ⟨fun _ h => (by cases h), List.nodup_nil⟩
theorem RG.snoc {m n : Int} {rows : List (Int × Int)} {r : Int × Int} (h : RG m rows) (hm : m ≤ n) (h0 : 0 ≤ r.1) (h1 : r.1 < n) (h2 : 0 ≤ r.2) (h3 : r.2 < n) (h4 : r.1 ≠ r.2) (hn : r ∉ rows) : RG n (rows ++ [r]) := by
  refine ⟨fun x hx => ?_, ?_⟩
  · rcases List.mem_append.mp hx with k | k
    · have := h.bd x k; omega
    · have e := List.mem_singleton.mp k
      subst e; exact ⟨h0, h1, h2, h3, h4⟩
  · rw [List.nodup_append]
    exact ⟨h.nd, by simp, fun a ha b hb e => by
      have e2 := List.mem_singleton.mp hb
      subst e2; subst e; exact hn ha⟩
theorem RG.mono {m n : Int} {rows : List (Int × Int)} (h : RG m rows) (hm : m ≤ n) : RG n rows := ⟨fun x hx => by have := h.bd x hx; omega, h.nd⟩
theorem RG.no {m : Int} {rows : List (Int × Int)} {r : Int × Int} (h : RG m rows) (hr : m ≤ r.1 ∨ m ≤ r.2) : r ∉ rows := fun hm => by have := h.bd r hm; omega
variable {H : Hp} {q t : Addr} {vs : List V} {rows : List (Int × Int)} {a b : Int} {o o2 : HO}
theorem push_row (hq : H q = some (.lst vs)) (hp : Paired (PR H) vs rows) (ht : H t = none) : Paired (PR (upd (upd H t (.tup [.int a, .int b])) q o)) (vs ++ [.ref t]) (rows ++ [(a, b)]) := by
  have hqt : q ≠ t := ne_of_none hq ht
  exact (PRs.mutL (keep hq ht) (PRs.new ht hp)).snoc ⟨t, rfl, keepNe upd_same hqt.symm⟩
end
section
/-- each page once -/
structure NM (m : Int) (ns : List Int) : Prop where
  len : (ns.length : Int) = m
  bd : ∀ z ∈ ns, 0 ≤ z ∧ z < m
  inj : ∀ (i j : Nat) (a : Int), ns[i]? = some a → ns[j]? = some a → i = j
theorem rng_ints (n : Nat) : rgV 0 (n : Int) = ((List.range n).map fun i => ((i : Nat) : Int)).map V.int := by
  unfold rgV
  rw [List.map_map]
  have e : ((n : Int) - 0).toNat = n := by omega
  rw [e]
  refine List.map_congr_left fun i _ => ?_
  show V.int (0 + (i : Int)) = V.int (i : Int)
  rw [Int.zero_add]
theorem nm_map {n : Nat} {f : Nat → Int} (hb : ∀ i, i < n → 0 ≤ f i ∧ f i < (n : Int)) (hi : ∀ i j, i < n → j < n → f i = f j → i = j) : NM (n : Int) ((List.range n).map f) := by
  refine ⟨by simp, fun z hz => ?_, fun i j a h1 h2 => ?_⟩
  · obtain ⟨i, h, rfl⟩ := List.mem_map.mp hz
    exact hb i (List.mem_range.mp h)
  · rw [List.getElem?_map] at h1 h2
    cases e1 : (List.range n)[i]? with
    | none => rw [e1] at h1; cases h1
    | some x =>
      cases e2 : (List.range n)[j]? with
      | none => rw [e2] at h2; cases h2
      | some y =>
        rw [e1] at h1; rw [e2] at h2
        have g1 := List.getElem?_eq_some_iff.mp e1
        have g2 := List.getElem?_eq_some_iff.mp e2
        obtain ⟨l1, k1⟩ := g1
        obtain ⟨l2, k2⟩ := g2
        rw [List.getElem_range] at k1 k2
        rw [List.length_range] at l1 l2
        have f1 : f x = a := Option.some.inj h1
        have f2 : f y = a := Option.some.inj h2
        subst k1; subst k2
        exact hi _ _ l1 l2 (f1.trans f2.symm)
theorem NM.swap {m : Int} {ns : List Int} {i j : Nat} {a b : Int} (h : NM m ns) (hi : ns[i]? = some a) (hj : ns[j]? = some b) : NM m ((ns.set i b).set j a) := by
  have li := (List.getElem?_eq_some_iff.mp hi).1
  have lj := (List.getElem?_eq_some_iff.mp hj).1
  have key : ∀ (k : Nat) (z : Int), ((ns.set i b).set j a)[k]? = some z → (k = j ∧ z = a) ∨ (k ≠ j ∧ k = i ∧ z = b) ∨ (k ≠ j ∧ k ≠ i ∧ ns[k]? = some z) := by
    intro k z hk
    rw [List.getElem?_set] at hk
    by_cases c1 : j = k
    · rw [if_pos c1, if_pos (by rw [List.length_set]; exact lj)] at hk
      exact .inl ⟨c1.symm, (Option.some.inj hk).symm⟩
    · rw [if_neg c1, List.getElem?_set] at hk
      by_cases c2 : i = k
      · rw [if_pos c2, if_pos li] at hk
        exact .inr (.inl ⟨fun e => c1 e.symm, c2.symm, (Option.some.inj hk).symm⟩)
      · rw [if_neg c2] at hk
        exact .inr (.inr ⟨fun e => c1 e.symm, fun e => c2 e.symm, hk⟩)
  refine ⟨by rw [List.length_set, List.length_set]; exact h.len, fun z hz => ?_, fun k l z h1 h2 => ?_⟩
  · obtain ⟨k, hk⟩ := List.getElem?_of_mem hz
    rcases key k z hk with ⟨_, rfl⟩ | ⟨_, _, rfl⟩ | ⟨_, _, e⟩
    · exact h.bd _ (List.mem_of_getElem? hi)
    · exact h.bd _ (List.mem_of_getElem? hj)
    · exact h.bd _ (List.mem_of_getElem? e)
  · rcases key k z h1 with ⟨rfl, rfl⟩ | ⟨n1, rfl, rfl⟩ | ⟨n1, n2, e⟩ <;> rcases key l _ h2 with ⟨q1, q2⟩ | ⟨m1, q1, q2⟩ | ⟨m1, m2, e'⟩
    · omega
    · subst q2; have := h.inj _ _ _ hi hj; omega
    · have := h.inj _ _ _ hi e'; omega
    · subst q2; have := h.inj _ _ _ hi hj; omega
    · omega
    · have := h.inj _ _ _ hj e'; omega
    · subst q2; have := h.inj _ _ _ hi e; omega
    · subst q2; have := h.inj _ _ _ hj e; omega
    · exact h.inj _ _ _ e e'
theorem NM.get {m : Int} {ns : List Int} (h : NM m ns) {k : Int} (h0 : 0 ≤ k) (h1 : k < m) : ∃ z, ns[k.toNat]? = some z ∧ atI (ns.map V.int) k = some (V.int z) ∧ 0 ≤ z ∧ z < m := by
  have hl := h.len
  have hk : k.toNat < ns.length := by omega
  have hb := h.bd _ (List.getElem_mem hk)
  exact ⟨ns[k.toNat], List.getElem?_eq_getElem hk, at_of (j := k.toNat) (by omega) (by simp [hk]), hb.1, hb.2⟩
def ren (ns : List Int) (r : Int × Int) : Int × Int := (ns.getD r.1.toNat 0, ns.getD r.2.toNat 0)
theorem NM.at {m : Int} {ns : List Int} (h : NM m ns) {k : Int} (h0 : 0 ≤ k) (h1 : k < m) : atI (ns.map V.int) k = some (V.int (ns.getD k.toNat 0)) ∧ 0 ≤ ns.getD k.toNat 0 ∧ ns.getD k.toNat 0 < m := by
  obtain ⟨z, e1, e2, e3, e4⟩ := h.get h0 h1
  have e : ns.getD k.toNat 0 = z := by rw [List.getD_eq_getElem?_getD, e1]; rfl
  rw [e]; exact ⟨e2, e3, e4⟩
theorem NM.inj' {m : Int} {ns : List Int} (h : NM m ns) {k l : Int} (h0 : 0 ≤ k) (h1 : k < m) (l0 : 0 ≤ l) (l1 : l < m) (e : ns.getD k.toNat 0 = ns.getD l.toNat 0) : k = l := by
  obtain ⟨z, e1, _⟩ := h.get h0 h1
  obtain ⟨w, e2, _⟩ := h.get l0 l1
  rw [List.getD_eq_getElem?_getD, e1, List.getD_eq_getElem?_getD, e2] at e
  have e : z = w := e
  subst e
  have := h.inj _ _ _ e1 e2
  omega
theorem RG.ren {m : Int} {ns : List Int} {rows : List (Int × Int)} (h : RG m rows) (hN : NM m ns) : RG m (rows.map (ren ns)) := by
  refine ⟨fun r hr => ?_, ?_⟩
  · obtain ⟨x, hx, rfl⟩ := List.mem_map.mp hr
    obtain ⟨a, b, c, d, e⟩ := h.bd x hx
    have f1 := hN.at a b
    have f2 := hN.at c d
    exact ⟨f1.2.1, f1.2.2, f2.2.1, f2.2.2, fun z => e (hN.inj' a b c d z)⟩
  · have hb := h.bd
    have hd := h.nd
    clear h
    induction rows with
    | nil => exact List.nodup_nil
    | cons x r ih =>
      rw [List.map_cons, List.nodup_cons]
      rw [List.nodup_cons] at hd
      refine ⟨fun hm => ?_, ih (fun y hy => hb y (List.mem_cons_of_mem _ hy)) hd.2⟩
      obtain ⟨y, hy, e⟩ := List.mem_map.mp hm
      have h1 := hb x List.mem_cons_self
      have h2 := hb y (List.mem_cons_of_mem _ hy)
      have e1 := hN.inj' h2.1 h2.2.1 h1.1 h1.2.1 (congrArg Prod.fst e)
      have e2 := hN.inj' h2.2.2.1 h2.2.2.2.1 h1.2.2.1 h1.2.2.2.1 (congrArg Prod.snd e)
      have : y = x := Prod.ext e1 e2
      subst this; exact hd.1 hy
theorem RG.rot {m : Int} {rows : List (Int × Int)} (k : Nat) (h : RG m rows) : RG m (rows.drop k ++ rows.take k) := by
  have hp : (rows.drop k ++ rows.take k).Perm rows := (List.perm_append_comm).trans (by rw [List.take_append_drop])
  exact ⟨fun r hr => h.bd r (hp.mem_iff.mp hr), hp.nodup_iff.mpr h.nd⟩
theorem cut_from (xs : List V) (t : Nat) (h : t ≤ xs.length) : cutV xs (some (t : Int)) none = xs.drop t := by
  unfold cutV
  rw [show HT.sIx xs.length 0 (some (t : Int)) = t by rw [HT.sIx_nat]; omega, HT.sIx_none]
  exact List.take_of_length_le (by rw [List.length_drop]; omega)
theorem cut_to (xs : List V) (t : Nat) (h : t ≤ xs.length) : cutV xs none (some (t : Int)) = xs.take t := by
  unfold cutV
  rw [show HT.sIx xs.length xs.length (some (t : Int)) = t by rw [HT.sIx_nat]; omega, HT.sIx_none]
  rfl
theorem Paired.drop {α β : Type} {F : α → β → Prop} : ∀ (k : Nat) {l₁ : List α} {l₂ : List β}, Paired F l₁ l₂ → Paired F (l₁.drop k) (l₂.drop k)
  | 0, _, _, h => h
  | _ + 1, _, _, .nil => .nil
  | k + 1, _, _, .cons _ r => Paired.drop k r
theorem Paired.take {α β : Type} {F : α → β → Prop} : ∀ (k : Nat) {l₁ : List α} {l₂ : List β}, Paired F l₁ l₂ → Paired F (l₁.take k) (l₂.take k)
  | 0, _, _, _ => .nil
  | _ + 1, _, _, .nil => .nil
  | k + 1, _, _, .cons f r => .cons f (Paired.take k r)
theorem Paired.app {α β : Type} {F : α → β → Prop} {l₃ : List α} {l₄ : List β} (h2 : Paired F l₃ l₄) : ∀ {l₁ : List α} {l₂ : List β}, Paired F l₁ l₂ → Paired F (l₁ ++ l₃) (l₂ ++ l₄)
  | _, _, .nil => h2
  | _, _, .cons f r => .cons f (Paired.app h2 r)
end
section
def RB (m : Int) (rows : List (Int × Int)) : Prop := ∀ r ∈ rows, 0 ≤ r.1 ∧ r.1 < m ∧ 0 ≤ r.2 ∧ r.2 < m
theorem RB.snoc {m a b : Int} {rows : List (Int × Int)} (h : RB m rows) (h0 : 0 ≤ a) (h1 : a < m) (h2 : 0 ≤ b) (h3 : b < m) : RB m (rows ++ [(a, b)]) := fun x hx => by
  rcases List.mem_append.mp hx with k | k
  · exact h x k
  · have e := List.mem_singleton.mp k
    subst e; exact ⟨h0, h1, h2, h3⟩
/-- a growing list of rows at q beside the source s, behind H0 -/
structure Grow (H0 : Hp) (s q : Addr) (us : List V) (rows : List (Int × Int)) (H : Hp) : Prop where
  b : But s H0 H
  src : Src H s
  at_ : H q = some (.lst us)
  pr : Paired (PR H) us rows
theorem Grow.step {H0 H H' : Hp} {s q : Addr} {us : List V} {rows : List (Int × Int)} (g : Grow H0 s q us rows H) (hn : q ≠ s) (b : But s H H') (hs : Src H' s) : Grow H0 s q us rows H' :=
  ⟨g.b.trans b, hs, b.at hn g.at_, PRs.but b g.src g.pr⟩
theorem Grow.push {H0 H : Hp} {s q t : Addr} {us : List V} {rows : List (Int × Int)} {a b : Int} (g : Grow H0 s q us rows H) (hn : q ≠ s) (h0 : H0 q = none) (ht : H t = none) :
    Grow H0 s q (us ++ [.ref t]) (rows ++ [(a, b)]) (upd (upd H t (.tup [.int a, .int b])) q (.lst (us ++ [.ref t]))) :=
  ⟨(g.b.new ht).mut h0, (g.src.new ht).mut hn, upd_same, push_row g.at_ g.pr ht⟩
theorem Grow.start {H : Hp} {s q : Addr} (hs : Src H s) (hq : H q = none) : Grow H s q [] [] (upd H q (.lst [])) := ⟨But.refl.new hq, hs.new hq, upd_same, .nil⟩
end
section
def pd (r : Int × Int) : PyData := .tuple [.int r.1, .int r.2]
theorem pd_eqv (r s : Int × Int) : PyData.eqv (pd r) (pd s) = decide (r = s) := by
  show (PyData.eqv (.int r.1) (.int s.1) && (PyData.eqv (.int r.2) (.int s.2) && PyData.eqvAll [] [])) = _
  simp only [PyData.eqv, PyData.eqvAll, Bool.and_true]
  by_cases h1 : r.1 = s.1
  · by_cases h2 : r.2 = s.2
    · have : r = s := Prod.ext h1 h2
      subst this; simp
    · have : ¬ r = s := fun e => h2 (congrArg Prod.snd e)
      simp [h1, h2, this]
  · have : ¬ r = s := fun e => h1 (congrArg Prod.fst e)
    simp [h1, this]
theorem pd_any (rows : List (Int × Int)) (r : Int × Int) : ((rows.map pd).any fun z => PyData.eqv z (pd r)) = decide (r ∈ rows) := by
  induction rows with
  | nil => simp
  | cons x xs ih =>
    rw [List.map_cons, List.any_cons, ih, pd_eqv]
    by_cases h : x = r
    · subst h; simp
    · have h' : ¬ r = x := fun e => h e.symm
      simp [h, h']
theorem pd_shaped (r : Int × Int) : SeqAt.shaped (pd r) = true := rfl
theorem pd_lay (rows : List (Int × Int)) : PyData.canLayAll0 (rows.map pd) = true := by
  induction rows with
  | nil => rfl
  | cons x xs ih => rw [List.map_cons]; simp only [PyData.canLayAll0, ih, Bool.and_true]; rfl
theorem pd_depth (rows : List (Int × Int)) : PyData.depthAll (rows.map pd) ≤ 1 := by
  induction rows with
  | nil => exact Nat.zero_le _
  | cons x xs ih =>
    rw [List.map_cons]
    show max (PyData.depth (pd x)) (PyData.depthAll (xs.map pd)) ≤ 1
    exact Nat.max_le.mpr ⟨Nat.le_refl 1, ih⟩
theorem pds_shaped (rows : List (Int × Int)) : SeqAt.shaped (.list (rows.map pd)) = true := by
  have h1 : PyData.canLay0 (.list (rows.map pd)) = true := pd_lay rows
  have h2 : PyData.depth (.list (rows.map pd)) ≤ 64 := by
    show PyData.depthAll (rows.map pd) + 1 ≤ 64
    have := pd_depth rows; omega
  show (PyData.canLay0 (.list (rows.map pd)) && decide (PyData.depth (.list (rows.map pd)) ≤ 64)) = true
  rw [h1, decide_eq_true h2]; rfl
theorem dp_row {K : PySem.W.Frag} {H : Hp} {v : V} {r : Int × Int} (h : PR H v r) : Dp K H v (pd r) := by
  obtain ⟨t, rfl, ht⟩ := h
  exact .tup (.inl (.inl ht)) (.cons (.int _) (.cons (.int _) .nil))
theorem dp_all {K : PySem.W.Frag} {H : Hp} : ∀ {vs : List V} {rows : List (Int × Int)}, Paired (PR H) vs rows → DpAll K H vs (rows.map pd)
  | _, _, .nil => .nil
  | _, _, .cons f r => .cons (dp_row f) (dp_all r)
theorem dp_rows {K : PySem.W.Frag} {H : Hp} {p : Addr} {vs : List V} {rows : List (Int × Int)} (hp : H p = some (.lst vs)) (h : Paired (PR H) vs rows) : Dp K H (.ref p) (.list (rows.map pd)) := .lst (SqL.of hp) (dp_all h)
theorem Src.but {s s0 : Addr} {H H' : Hp} (b : But s H H') (hn : s0 ≠ s) (h : Src H s0) : Src H' s0 := let ⟨x, y, z, e⟩ := h; ⟨x, y, z, b.at hn e⟩
theorem same_but {s : Addr} {H H1 H2 : Hp} (e : Same H H1) (hs : H s = none) (b : But s H1 H2) : Same H H2 := fun c o h => b c o (ne_of_none h hs) (e c o h)
end
section
/-- blank numbers within the lines -/
structure BK (lines : Int) (n : Nat) (bs : List Int) : Prop where
  len : bs.length = n
  bd : ∀ b ∈ bs, 0 ≤ b ∧ b ≤ lines
theorem BK.set {lines v : Int} {n i : Nat} {bs : List Int} (h : BK lines n bs) (h0 : 0 ≤ v) (h1 : v ≤ lines) : BK lines n (bs.set i v) := by
  refine ⟨by rw [List.length_set]; exact h.len, fun b hb => ?_⟩
  rcases List.mem_or_eq_of_mem_set hb with k | k
  · exact h.bd b k
  · subst k; exact ⟨h0, h1⟩
theorem BK.get {lines : Int} {n : Nat} {bs : List Int} (h : BK lines n bs) {k : Int} (h0 : 0 ≤ k) (h1 : k < n) : ∃ z, bs[k.toNat]? = some z ∧ atI (bs.map V.int) k = some (V.int z) ∧ ixN (bs.map V.int).length k = some k.toNat ∧ 0 ≤ z ∧ z ≤ lines := by
  have hl := h.len
  have hk : k.toNat < bs.length := by omega
  have hb := h.bd _ (List.getElem_mem hk)
  exact ⟨bs[k.toNat], List.getElem?_eq_getElem hk, at_of (j := k.toNat) (by omega) (by simp [hk]), ixn (by omega) (by rw [List.length_map]; omega), hb.1, hb.2⟩
end
section
theorem w_cnt {K : PySem.W.Frag} {H : Hp} {Q : VK} {p : Addr} {ns : List Int} {k : Int} (h : SqL K H p (ns.map V.int)) (q : Q (.int (ns.count k : Nat)) H) : rCntI K (.ref p) [.int k] H Q := ⟨p, ns, k, rfl, rfl, h, q⟩
end
section
theorem w_iteB {A B : Prop} {b : Bool} (h1 : b = true → A) (h2 : b = false → B) : if b = true then A else B := by
  cases b with
  | true => exact h1 rfl
  | false => rw [if_neg Bool.false_ne_true]; exact h2 rfl
/-- owners that are a dealing -/
structure DealP (rows : List (Int × Int)) (bs os : List Int) : Prop where
  len : os.length = rows.length
  ends : ∀ (i : Nat) (o : Int) (r : Int × Int), os[i]? = some o → rows[i]? = some r → o = r.1 ∨ o = r.2
  fit : ∀ (p : Nat) (b : Int), bs[p]? = some b → ((os.count (p : Int) : Nat) : Int) ≤ b
theorem count_take {os : List Int} {i : Nat} {o : Int} (h : os[i]? = some o) (z : Int) : (os.take (i + 1)).count z = (os.take i).count z + (if o = z then 1 else 0) := by
  rw [List.take_succ, h, List.count_append]
  show _ + List.count z [o] = _
  by_cases e : o = z
  · subst e; simp
  · simp [e]
/-- what is left behind the first i owners -/
def LeftAt (bs os : List Int) (i : Nat) (left : List Int) : Prop := left.length = bs.length ∧ ∀ (p : Nat) (b : Int), bs[p]? = some b → left[p]? = some (b - (((os.take i).count (p : Int) : Nat) : Int))
theorem LeftAt.start (bs os : List Int) : LeftAt bs os 0 bs := ⟨rfl, fun p b h => by rw [h]; simp⟩
theorem LeftAt.step {bs os left : List Int} {i : Nat} {o z : Int} (h : LeftAt bs os i left) (ho : os[i]? = some o) (h0 : 0 ≤ o) (hz : left[o.toNat]? = some z) : LeftAt bs os (i + 1) (left.set o.toNat (z - 1)) := by
  refine ⟨by rw [List.length_set]; exact h.1, fun p b hb => ?_⟩
  have hl := h.2 p b hb
  rw [List.getElem?_set, count_take ho]
  by_cases e : o.toNat = p
  · have e2 : o = (p : Int) := by omega
    have hlt : o.toNat < left.length := (List.getElem?_eq_some_iff.mp hz).1
    rw [if_pos e, if_pos hlt, if_pos e2]
    rw [e] at hz
    rw [hz] at hl
    have := Option.some.inj hl
    congr 1; omega
  · have e2 : ¬ o = (p : Int) := fun q => e (by omega)
    rw [if_neg e, if_neg e2, hl]; rfl
theorem cut_le (xs : List Int) (lo hi : Option Int) : ∃ ys : List Int, cutV (xs.map V.int) lo hi = ys.map V.int ∧ ys.length ≤ xs.length := by
  refine ⟨_, map_drop_take xs _ _, ?_⟩
  rw [List.length_take, List.length_drop]; omega
theorem cut_one (xs : List Int) {p : Int} (h : 0 ≤ p) : ∃ ys : List Int, cutV (xs.map V.int) (some p) (some (p + 1)) = ys.map V.int ∧ ys.length ≤ 1 := by
  refine ⟨_, map_drop_take xs _ _, ?_⟩
  rw [List.length_take, List.length_drop]
  obtain ⟨n, rfl⟩ : ∃ n : Nat, p = (n : Int) := ⟨p.toNat, by omega⟩
  rw [show ((n : Int) + 1) = ((n + 1 : Nat) : Int) by omega, HT.sIx_nat, HT.sIx_nat]
  omega
theorem cut_fst (xs : List Int) {p : Int} (h : 0 ≤ p) : ∃ ys : List Int, cutV (xs.map V.int) none (some p) = ys.map V.int ∧ ys.length ≤ p.toNat := by
  refine ⟨_, map_drop_take xs _ _, ?_⟩
  rw [List.length_take, List.length_drop]
  obtain ⟨n, rfl⟩ : ∃ n : Nat, p = (n : Int) := ⟨p.toNat, by omega⟩
  rw [HT.sIx_nat, HT.sIx_none]
  omega
theorem cut_snd (xs : List Int) {p : Int} (h : 0 ≤ p) : ∃ ys : List Int, cutV (xs.map V.int) (some p) none = ys.map V.int ∧ ys.length ≤ xs.length - p.toNat := by
  refine ⟨_, map_drop_take xs _ _, ?_⟩
  rw [List.length_take, List.length_drop]
  obtain ⟨n, rfl⟩ : ∃ n : Nat, p = (n : Int) := ⟨p.toNat, by omega⟩
  rw [HT.sIx_nat, HT.sIx_none, List.length_map]
  omega
end
section
variable {K : PySem.W.Frag} {a b : Addr} {xs ys : List V} {g : TG} {tb : TS} {D : Ends} {σ : L2.St} {H : Hp}
theorem forE (Pv : Nat → L2.St → Hp → Prop) (h0 : Pv 0 σ H) (hl : ∀ i σ1 H1, i ≤ xs.length → Pv i σ1 H1 → SqL K H1 a xs)
    (hs : ∀ i x T σ1 H1, xs[i]? = some x → Pv i σ1 H1 → H1 T = none → g (.ref T) σ1 (upd H1 T (.tup [.int (i : Nat), x])) fun σ2 H2 => tb { D with nx := Pv (i + 1), ct := Pv (i + 1), bk := D.nx } σ2 H2)
    (hd : ∀ σ1 H1, Pv xs.length σ1 H1 → D.nx σ1 H1) : ForW (Ite K a) g tb D σ H := by
  refine ⟨fun i m s1 G1 => m = xs.length - i ∧ i ≤ xs.length ∧ Pv i s1 G1, ⟨xs.length, rfl, Nat.zero_le _, h0⟩, ?_⟩
  rintro i m s1 G1 ⟨rfl, hi, p⟩
  have hq := hl i s1 G1 hi p
  by_cases lt : i < xs.length
  · refine Or.inr ⟨⟨xs, xs[i], hq, List.getElem?_eq_getElem lt⟩, Pv (i + 1), fun s2 G2 p2 => ⟨xs.length - (i + 1), by omega, rfl, lt, p2⟩, ?_⟩
    rintro v G2 ⟨T, x, rfl, hT, rfl, hx⟩
    exact hs i x T s1 G1 (hx xs hq) p hT
  · have e : i = xs.length := by omega
    subst e
    exact Or.inl ⟨⟨xs, hq, Nat.le_refl _⟩, hd s1 G1 p⟩
theorem forZ (hl : xs.length = ys.length) (Pv : Nat → L2.St → Hp → Prop) (h0 : Pv 0 σ H) (hq : ∀ i σ1 H1, Pv i σ1 H1 → SqL K H1 a xs ∧ SqL K H1 b ys)
    (hs : ∀ i x y T σ1 H1, xs[i]? = some x → ys[i]? = some y → Pv i σ1 H1 → H1 T = none → i < xs.length → g (.ref T) σ1 (upd H1 T (.tup [x, y])) fun σ2 H2 => tb { D with nx := Pv (i + 1), ct := Pv (i + 1), bk := D.nx } σ2 H2)
    (hd : ∀ σ1 H1, Pv xs.length σ1 H1 → D.nx σ1 H1) : ForW (Itz K a b) g tb D σ H := by
  refine ⟨fun i m s1 G1 => m = xs.length - i ∧ i ≤ xs.length ∧ Pv i s1 G1, ⟨xs.length, rfl, Nat.zero_le _, h0⟩, ?_⟩
  rintro i m s1 G1 ⟨rfl, hi, p⟩
  have hh := hq i s1 G1 p
  by_cases lt : i < xs.length
  · refine Or.inr ⟨⟨xs, ys, xs[i], ys[i], hh.1, hh.2, List.getElem?_eq_getElem lt, List.getElem?_eq_getElem (by omega)⟩, Pv (i + 1), fun s2 G2 p2 => ⟨xs.length - (i + 1), by omega, rfl, lt, p2⟩, ?_⟩
    rintro v G2 ⟨T, x, y, rfl, hT, rfl, hx, hy⟩
    exact hs i x y T s1 G1 (hx xs hh.1) (hy ys hh.2) p hT lt
  · have e : i = xs.length := by omega
    subst e
    exact Or.inl ⟨⟨xs, ys, hh.1, hh.2, Or.inl (Nat.le_refl _)⟩, hd s1 G1 p⟩
def SO (l : List (Int × Int)) : Prop := l.Pairwise fun a b => SrtO.lexB b a = false
theorem lex_anti {a b : Int × Int} (h1 : SrtO.lexB a b = false) (h2 : SrtO.lexB b a = false) : a = b := by
  have g1 := SrtO.lexB_no.mp h1
  have g2 := SrtO.lexB_no.mp h2
  have e1 : a.1 = b.1 := by omega
  exact Prod.ext e1 (by omega)
theorem SO.uniq : ∀ {l m : List (Int × Int)}, SO l → SO m → l.Perm m → l = m
  | [], m, _, _, h => h.nil_eq
  | x :: l, [], _, _, h => absurd h.length_eq (by simp)
  | x :: l, y :: m, hl, hm, h => by
    have hx := List.pairwise_cons.mp hl
    have hy := List.pairwise_cons.mp hm
    have e : x = y := by
      have h1 : y ∈ x :: l := h.mem_iff.mpr List.mem_cons_self
      have h2 : x ∈ y :: m := h.mem_iff.mp List.mem_cons_self
      rcases List.mem_cons.mp h1 with k | k
      · exact k.symm
      · rcases List.mem_cons.mp h2 with k2 | k2
        · exact k2
        · exact lex_anti (hy.1 x k2) (hx.1 y k)
    subst e
    rw [SO.uniq hx.2 hy.2 h.cons_inv]
structure SortedOf (rows rs : List (Int × Int)) : Prop where
  perm : rs.Perm rows
  so : SO rs
theorem SortedOf.uniq {rows l m : List (Int × Int)} (h1 : SortedOf rows l) (h2 : SortedOf rows m) : l = m := SO.uniq h1.so h2.so (h1.perm.trans h2.perm.symm)
theorem SortedOf.rg {n : Int} {rows rs : List (Int × Int)} (h : SortedOf rows rs) (hR : RG n rows) : RG n rs := ⟨fun r hr => hR.bd r (h.perm.mem_iff.mp hr), h.perm.nodup_iff.mpr hR.nd⟩
/-- sorted(..) of a list of pairs -/
theorem w_sortP {K : PySem.W.Frag} {H : Hp} {Q : VK} {p : Addr} {us : List V} {rows : List (Int × Int)} (hp : H p = some (.lst us)) (hP : Paired (PR H) us rows)
    (q : ∀ (rs : List (Int × Int)) (ys : List V) (l : Addr), SortedOf rows rs → H l = none → ys.length = us.length → Paired (PR H) ys rs → Q (.ref l) (upd H l (.lst ys))) : rSortedPO K [.ref p] H Q := by
  have pick : ∀ v ∈ us, ∃ r, PR H v r := fun v hv => by
    obtain ⟨i, hi⟩ := List.getElem?_of_mem hv
    obtain ⟨r, _, h⟩ := Paired.at' hP hi
    exact ⟨r, h⟩
  let k : V → Int × Int := fun v => match v with
    | .ref t => match H t with
      | some (.tup [.int i, .int j]) => (i, j)
      | _ => (0, 0)
    | _ => (0, 0)
  have hk : ∀ {v : V} {r : Int × Int}, PR H v r → k v = r := fun {v r} h => by
    obtain ⟨t, rfl, ht⟩ := h
    show (match H t with
      | some (.tup [.int i, .int j]) => (i, j)
      | _ => (0, 0)) = r
    rw [ht]
  have hmap : ∀ {l : List V} {s : List (Int × Int)}, Paired (PR H) l s → l.map k = s := fun {l s} h => by
    induction h with
    | nil => rfl
    | cons f _ ih => rw [List.map_cons, hk f, ih]
  refine ⟨p, us, k, rfl, SqL.of hp, fun v hv => ?_, fun ys l h1 h2 hl => ?_⟩
  · obtain ⟨r, hr⟩ := pick v hv
    obtain ⟨t, rfl, ht⟩ := id hr
    exact ⟨t, rfl, by rw [hk hr]; exact ht⟩
  · have hy : ∀ v ∈ ys, PR H v (k v) := fun v hv => by
      obtain ⟨r, hr⟩ := pick v (h2.perm.mem_iff.mp hv)
      rw [hk hr]; exact hr
    have hpy : Paired (PR H) ys (ys.map k) := by
      clear h1 h2
      induction ys with
      | nil => exact .nil
      | cons v r ih => exact .cons (hy v List.mem_cons_self) (ih fun w hw => hy w (List.mem_cons_of_mem _ hw))
    refine q (ys.map k) ys l ⟨?_, ?_⟩ hl h2.perm.length_eq hpy
    · rw [← hmap hP]; exact h2.perm.map k
    · exact List.pairwise_map.mpr h1
def key (r : Int × Int) : List L2.Key := [.inl r.1, .inl r.2]
def ent (r : Int × Int) : List L2.Key × V := (key r, .bl true)
theorem key_inj {r s : Int × Int} (h : key r = key s) : r = s := by
  unfold key at h
  have h1 := List.cons.inj h
  have h2 := List.cons.inj h1.2
  exact Prod.ext (Sum.inl.inj h1.1) (Sum.inl.inj h2.1)
theorem no_key {r : Int × Int} : ∀ {l : List (Int × Int)}, r ∉ l → valV (l.map ent) (key r) = none
  | [], _ => rfl
  | x :: l, h => by
    rw [List.map_cons, valV_neg (p := ent x) (fun e => h (by rw [key_inj e]; exact List.mem_cons_self))]
    exact no_key fun m => h (List.mem_cons_of_mem _ m)
end
section
theorem sne {f g : Str} (h : decide (f = g) = false) : ¬ f = g := of_decide_eq_false h
def webFs (n : Int) (d ar tg hd : Addr) : List (Str × V) := putF "_holders" (.ref hd) (putF "_targets" (.ref tg) (putF "_arrows" (.ref ar) (putF "_known" (.ref d) (putF "pages" (.int n) []))))
theorem web_pages {n : Int} {d ar tg hd : Addr} : (webFs n d ar tg hd).lookup ("pages" : Str) = some (.int n) := by
  unfold webFs
  rw [lookup_putF, if_neg (by decide +kernel), lookup_putF, if_neg (by decide +kernel), lookup_putF, if_neg (by decide +kernel), lookup_putF, if_neg (by decide +kernel), lookup_putF, if_pos rfl]
theorem web_arrows {n : Int} {d ar tg hd : Addr} : (webFs n d ar tg hd).lookup ("_arrows" : Str) = some (.ref ar) := by
  unfold webFs
  rw [lookup_putF, if_neg (by decide +kernel), lookup_putF, if_neg (by decide +kernel), lookup_putF, if_pos rfl]
theorem web_noarrows {n : Int} {d ar tg hd : Addr} : (webFs n d ar tg hd).lookup ("arrows" : Str) = none := by
  unfold webFs
  rw [lookup_putF, if_neg (by decide +kernel), lookup_putF, if_neg (by decide +kernel), lookup_putF, if_neg (by decide +kernel), lookup_putF, if_neg (by decide +kernel), lookup_putF, if_neg (by decide +kernel)]
  rfl
theorem len_put1 {f : Str} {v : V} {fs : List (Str × V)} {k : Nat} (h : fs.length ≤ k) : (putF f v fs).length ≤ k + 1 := Nat.le_trans (length_putF f v fs) (Nat.succ_le_succ h)
structure WebAt (A : CA) (H : Hp) (w : Addr) (n : Int) (rs : List (Int × Int)) : Prop where
  ex : ∃ (dx d ar tg hd : Addr) (us : List V), H w = some (.ins A.Web dx (webFs n d ar tg hd)) ∧ H ar = some (.lst us) ∧ Paired (PR H) us rs ∧ us.length ≤ 600
theorem WebAt.same {A : CA} {H H' : Hp} {w : Addr} {n : Int} {rs : List (Int × Int)} (e : Same H H') (h : WebAt A H w n rs) : WebAt A H' w n rs :=
  let ⟨dx, d, ar, tg, hd, us, h1, h2, h3, h4⟩ := h.ex; ⟨dx, d, ar, tg, hd, us, e _ _ h1, e _ _ h2, PRs.same e h3, h4⟩
end
section
theorem w_mth2 {H : Hp} {p C dx : Addr} {P : Prop} {m : Str} {fs : List (Str × V)} (h : H p = some (.ins C dx fs)) (hl : fs.lookup m = none) (q : P) :
    ∃ a dx fs, V.ref p = .ref a ∧ H a = some (.ins C dx fs) ∧ fs.lookup m = none ∧ P := ⟨p, dx, fs, rfl, h, hl, q⟩
theorem inV2 (o a b : Int) : inV (.int o) [.int a, .int b] = decide (o = a ∨ o = b) := by
  show (eqV (.int a) (.int o) || (eqV (.int b) (.int o) || false)) = _
  show ((a == o) || ((b == o) || false)) = _
  rw [Bool.or_false]
  by_cases h1 : o = a
  · subst h1; simp
  · by_cases h2 : o = b
    · subst h2; simp
    · have e1 : (a == o) = false := by simpa using fun e => h1 e.symm
      have e2 : (b == o) = false := by simpa using fun e => h2 e.symm
      rw [e1, e2]; simp [h1, h2]
theorem pds_eqv : ∀ rows : List (Int × Int), PyData.eqvAll (rows.map pd) (rows.map pd) = true
  | [] => rfl
  | r :: rows => by
    rw [List.map_cons]
    show (PyData.eqv (pd r) (pd r) && PyData.eqvAll (rows.map pd) (rows.map pd)) = true
    rw [pd_eqv, pds_eqv rows]; simp
theorem w_eqR {K : PySem.W.Frag} {H : Hp} {Q : VK} {p q : Addr} {us ws : List V} {rs : List (Int × Int)} (hp : H p = some (.lst us)) (h1 : Paired (PR H) us rs) (hq : H q = some (.lst ws)) (h2 : Paired (PR H) ws rs) (k : Q (.bl true) H) : rEqD K (.ref p) (.ref q) H Q := by
  refine ⟨_, _, dp_rows hp h1, dp_rows hq h2, pds_shaped rs, pds_shaped rs, ?_⟩
  show Q (.bl (PyData.eqvAll (rs.map pd) (rs.map pd))) H
  rw [pds_eqv]; exact k
end
end G

end
section
local macro_rules | `(tactic| walk_at "call") => `(tactic| first
  | (refine' G.w_anyI ?g1 ?_; (case g1 => walk_at "sq")) | refine' G.w_lcE ?_ | (refine' G.w_enumSq ?g1 ?_; (case g1 => walk_at "sq"))
  | (refine' G.w_neI2 ?g1 ?g2 ?_; (case g1 => walk_at "sq"); (case g2 => walk_at "sq")) | (refine' G.w_eqI2 ?g1 ?g2 ?_; (case g1 => walk_at "sq"); (case g2 => walk_at "sq")))

local macro_rules | `(tactic| walk_at "call") => `(tactic| first
  | refine' G.w_iteNT ?_ | refine' G.w_iteNF ?_ | refine' G.w_iteRf ?_ | refine' G.w_iteNRf ?_ | refine' G.w_tru ?_ | (refine' G.w_truL ?g1 ?_; (case g1 => walk_at "sq")) | refine' G.w_revL ?_ | (refine' G.w_revL2 ?g1 ?_; (case g1 => walk_at "sq"))
  | (refine' G.w_rep ?g1 ?g2 ?g3 ?g4 ?_; (case g1 => walk_at "hp"); (case g2 => walk_at "ar"); (case g3 => walk_at "ar"); (case g4 => walk_at "sz"))
  | refine' G.w_isNr ?_ | refine' G.w_notN ?_ | refine' G.w_isII ?_ | refine' G.w_isIB ?_ | refine' G.w_isBB ?_ | (refine' G.w_isLL ?g1 ?_; (case g1 => walk_at "hp")))

local macro_rules | `(tactic| walk_at "call") => `(tactic| refine' G.w_oIntB ?_)

local macro_rules | `(tactic| walk_at "sqt") => `(tactic| first | assumption | exact L2.SqT.of (by walk_at "hp"))
local macro_rules | `(tactic| walk_at "call") => `(tactic| first
  | (refine' G.w_inI ?g1 ?_; (case g1 => walk_at "sq")) | (refine' G.w_ninI ?g1 ?_; (case g1 => walk_at "sq")) | refine' G.w_forRev ?_ | refine' G.w_lstRg3 ?_ | (refine' G.w_bdR ?g1 ?g2 ?_; (case g1 => walk_at "ar"); (case g2 => walk_at "ar"))
  | (refine' G.w_max ?g1 ?g2 ?_; (case g1 => walk_at "sq"); (case g2 => walk_at "ar")) | (refine' G.w_min ?g1 ?g2 ?_; (case g1 => walk_at "sq"); (case g2 => walk_at "ar"))
  | (refine' G.w_sortI ?g1 ?_; (case g1 => walk_at "sq")) | (refine' GY.w_tupL ?g1 ?_; (case g1 => walk_at "sq")) | refine' GY.w_star ?_ | (refine' GY.w_starL ?g1 ?_; (case g1 => walk_at "sq")) | (refine' GY.w_listT ?g1 ?_; (case g1 => walk_at "sqt")))

local macro_rules | `(tactic| walk_at "call") => `(tactic| (refine' G.w_cnt ?g1 ?_; (case g1 => walk_at "sq")))

namespace G
open PySem L2 GX
/-! ### draws, second kind -/
def sp_law_box (K : PySem.W.Frag) (A : CA) : Sp := fun vs H Q _ => ∃ (a : Addr) (k : Int) (ns : List Int), vs = [.ref a, .int k] ∧ SqL K H a (ns.map V.int) ∧ 0 ≤ k ∧ ns.length ≤ 63 ∧
  ∀ (s : Addr) (H' : Hp), H s = none → Same H H' → Src H' s → Q (.ref s) H'
def sp_law_draw (K : PySem.W.Frag) (A : CA) : Sp := fun vs H Q _ => ∃ (s : Addr) (n : Int), vs = [.ref s, .int n] ∧ Src H s ∧ 0 < n ∧ n < 1000000 ∧
  ∀ (r : Int) (H' : Hp), 0 ≤ r → r < n → But s H H' → Src H' s → Q (.int r) H'
theorem i_draw {K : PySem.W.Frag} {A : CA} {H : Hp} {Q : VK} {E : XK} {s : Addr} {n : Int} (hs : Src H s) (h0 : 0 < n) (h1 : n < 1000000)
    (k : ∀ (r : Int) (H' : Hp), 0 ≤ r → r < n → But s H H' → Src H' s → Q (.int r) H') : sp_law_draw K A [.ref s, .int n] H Q E := ⟨s, n, rfl, hs, h0, h1, k⟩
def t_law_box (K : PySem.W.Frag) (A : CA) : TS :=
  (tSeq (tAsg (tOp oAdd (tOp oMul (tVar 1) (tC (.int 7919))) (tC (.int 53))) (gName 2))
  (C8.tCut (tIfS (tTest (tOp oLt (tVar 1) (tCB (rLenQ K) (tCons (tVar 0) tNil)))) (tAsg (tOp (rIxL K) (tVar 0) (tVar 1)) (gName 2)) (tIfS (tTest (tOp oGt (tCB (rLenQ K) (tCons (tVar 0) tNil)) (tC (.int 0)))) (tAsg (tOp oMod (tCB oInt (tCons (tOp oAdd (tOp oMul (tOp (rIxL K) (tVar 0) (tOp oMod (tCB oInt (tCons (tVar 1) tNil)) (tCB (rLenQ K) (tCons (tVar 0) tNil)))) (tC (.int 48271))) (tOp oMul (tVar 1) (tC (.int 69621)))) tNil)) (tC (.int 1000003))) (gName 2)) tNext))
  (tSeq (tIfS (tTest (tOp oLt (tVar 2) (tOp oPow (tC (.int 10)) (tC (.int 18))))) (tRet (tLst (tCons (tC (.int 0)) (tCons (tVar 2) (tCons (tC (.int 0)) tNil))))) tNext)
  (tRet (tLst (tCons (tVar 2) (tCons (tVar 2) (tCons (tC (.int 0)) tNil))))))))
def t_law_draw (K : PySem.W.Frag) (A : CA) : TS :=
  (tSeq (tIfS (tTest (tOp oGt (tOp (rIxL K) (tVar 0) (tC (.int 0))) (tC (.int 0)))) (tSeq (tAsg (tOp oMod (tCB oInt (tCons (tOp (rIxL K) (tVar 0) (tC (.int 0))) tNil)) (tVar 1)) (gName 2))
  (tSeq (tAsg (tOp oDiv (tOp (rIxL K) (tVar 0) (tC (.int 0))) (tVar 1)) (gSub (tVar 0) (tC (.int 0)) rSetL))
  (tRet (tVar 2)))) tNext)
  (tSeq (tAsg (tOp oAdd (tOp (rIxL K) (tVar 0) (tC (.int 2))) (tC (.int 1))) (gSub (tVar 0) (tC (.int 2)) rSetL))
  (tSeq (tAsg (tOp oMod (tCB oInt (tCons (tOp oAdd (tOp oAdd (tOp oMul (tOp (rIxL K) (tVar 0) (tC (.int 1))) (tC (.int 48271))) (tOp oMul (tOp (rIxL K) (tVar 0) (tC (.int 2))) (tC (.int 1103515245)))) (tC (.int 12345))) tNil)) (tC (.int 2147483647))) (gName 3))
  (tSeq (tAsg (tOp oMod (tCB oInt (tCons (tOp oAdd (tOp oMul (tVar 3) (tVar 3)) (tOp oMul (tOp (rIxL K) (tVar 0) (tC (.int 2))) (tC (.int 40692)))) tNil)) (tC (.int 2147483629))) (gName 4))
  (tSeq (tAsg (tOp oMod (tCB oInt (tCons (tOp oAdd (tOp oMul (tVar 4) (tVar 4)) (tVar 3)) tNil)) (tC (.int 2147483587))) (gName 5))
  (tRet (tOp oMod (tCB oInt (tCons (tOp oDiv (tVar 5) (tC (.int 5))) tNil)) (tVar 1))))))))

theorem rd_law_box {K : PySem.W.Frag} {A : CA} {vs : List V} {H : Hp} {Q : VK} {E : XK} (h : sp_law_box K A vs H Q E) :
    t_law_box K A { nx := fun _ H' => Q .non H', rt := Q } (start ["script", "place", "cell"] vs) H := by
  obtain ⟨a, k, ns, rfl, hs, h0, h63, q⟩ := h
  unfold t_law_box
  walk_at "go"
  refine w_cut (fun σ H' => ∃ c : Int, σ = [some (.ref a), some (.int k), some (.int c)] ∧ H' = H) ?_ ?_
  · walk_at "go"
    rw [List.length_map]
    refine w_iteD (fun c => ?_) (fun c => ?_)
    · have hx := ati (xs := ns) h0 c
      walk_at "go"
      exact ⟨_, rfl, rfl⟩
    · walk_at "go"
      rw [List.length_map]
      refine w_iteD (fun c2 => ?_) (fun c2 => ?_)
      · walk_at "go"
        rw [List.length_map]
        refine w_oMod c2 ?_
        have hx := ati (xs := ns) (k := k % (ns.length : Int)) (Int.emod_nonneg _ (by omega)) (Int.emod_lt_of_pos _ c2)
        walk_at "go"
        exact ⟨_, rfl, rfl⟩
      · walk_at "go"
        exact ⟨_, rfl, rfl⟩
  rintro σ H1 ⟨c, rfl, rfl⟩
  walk_at "go"
  refine w_iteD (fun hc => ?_) (fun hc => ?_)
  · walk_at "go"
    intro l hl
    exact q _ _ hl (same_new hl) ⟨_, _, _, upd_same⟩
  · walk_at "go"
    intro l hl
    exact q _ _ hl (same_new hl) ⟨_, _, _, upd_same⟩
theorem rd_law_draw {K : PySem.W.Frag} {A : CA} {vs : List V} {H : Hp} {Q : VK} {E : XK} (h : sp_law_draw K A vs H Q E) :
    t_law_draw K A { nx := fun _ H' => Q .non H', rt := Q } (start ["box", "many", "digit", "first", "second", "third"] vs) H := by
  obtain ⟨s, n, rfl, ⟨x, y, z, hs⟩, h0, h1, k⟩ := h
  unfold t_law_draw
  walk_at "go"
  refine w_iteD (fun hc => ?_) (fun hc => ?_)
  · walk_at "go"
    exact k _ _ (Int.emod_nonneg _ (by omega)) (Int.emod_lt_of_pos _ h0) But.refl.self ⟨_, _, _, upd_same⟩
  · walk_at "go"
    exact k _ _ (Int.emod_nonneg _ (by omega)) (Int.emod_lt_of_pos _ h0) But.refl.self ⟨_, _, _, upd_same⟩
end G

local macro_rules | `(tactic| walk_at "call") => `(tactic| (refine' G.i_draw ?g1 ?g2 ?g3 ?_; (case g1 => walk_at "src"); (case g2 => walk_at "ar"); (case g3 => walk_at "ar")))

namespace G
open PySem L2 GX
def sp_law_clean (K : PySem.W.Frag) (A : CA) : Sp := fun vs H Q _ => ∃ (n : Int) (pq : Addr) (us : List V) (rows : List (Int × Int)), vs = [.int n, .ref pq] ∧ H pq = some (.lst us) ∧ Paired (PR H) us rows ∧ us.length ≤ 900 ∧
  ∀ (rows' : List (Int × Int)) (us' : List V) (l : Addr) (H' : Hp), RG n rows' → us'.length ≤ us.length → H l = none → Same H H' → H' l = some (.lst us') → Paired (PR H') us' rows' → Q (.ref l) H'
def t_law_clean (K : PySem.W.Frag) (A : CA) : TS :=
  (tSeq (tAsg (tLst tNil) (gName 2))
  (tSeq (tFor (iList K (tVar 1)) (gName 3)
  (tIfS (tAnd (tTest (tOp oLe (tC (.int 0)) (tOp (rIxT K) (tVar 3) (tC (.int 0))))) (tAnd (tTest (tOp oLt (tOp (rIxT K) (tVar 3) (tC (.int 0))) (tVar 0))) (tAnd (tTest (tOp oLe (tC (.int 0)) (tOp (rIxT K) (tVar 3) (tC (.int 1))))) (tTest (tOp oLt (tOp (rIxT K) (tVar 3) (tC (.int 1))) (tVar 0)))))) (tIfS (tAnd (tTest (tOp rNe (tOp (rIxT K) (tVar 3) (tC (.int 0))) (tOp (rIxT K) (tVar 3) (tC (.int 1))))) (tTest (tOp (rNotInD K) (tVar 3) (tVar 2)))) (tDrop (tBM K "list" rAppend (tVar 2) (tCons (tVar 3) tNil))) tNext) tNext))
  (tRet (tVar 2))))

theorem rd_law_clean {K : PySem.W.Frag} {A : CA} {vs : List V} {H : Hp} {Q : VK} {E : XK} (h : sp_law_clean K A vs H Q E) :
    t_law_clean K A { nx := fun _ H' => Q .non H', rt := Q } (start ["pages", "rows", "kept", "row"] vs) H := by
  obtain ⟨n, pq, us, rows, rfl, hq, hP, hl, k⟩ := h
  unfold t_law_clean
  walk_at "go"
  intro l hl0
  have npl : pq ≠ l := ne_of_none hq hl0
  have hq0 := keep (o' := .lst []) hq hl0
  walk_at "go"
  refine forL (xs := us) (fun i σ H' => ∃ (rows' : List (Int × Int)) (us' : List V) (k3 : Option V), σ = [some (.int n), some (.ref pq), some (.ref l), k3] ∧ RG n rows' ∧ us'.length ≤ i ∧ Same H H' ∧ H' l = some (.lst us') ∧ Paired (PR H') us' rows') ?_ ?_ ?_ ?_
  · exact ⟨[], [], none, rfl, .nil, Nat.le_refl _, same_new hl0, upd_same, .nil⟩
  · rintro i σ H1 hi ⟨rows', us', k3, rfl, hR', hl', e, hL, hP'⟩
    exact SqL.of (e _ _ hq)
  · rintro i x σ H1 hx ⟨rows', us', k3, rfl, hR', hl', e, hL, hP'⟩
    obtain ⟨r, hr, t, rfl, ht⟩ := Paired.at' hP hx
    have ht' := e _ _ ht
    have hi : i < us.length := (List.getElem?_eq_some_iff.mp hx).1
    have no : ∃ (rows' : List (Int × Int)) (us' : List V) (k3 : Option V), [some (V.int n), some (.ref pq), some (.ref l), some (.ref t)] = [some (.int n), some (.ref pq), some (.ref l), k3] ∧ RG n rows' ∧ us'.length ≤ i + 1 ∧ Same H H1 ∧ H1 l = some (.lst us') ∧ Paired (PR H1) us' rows' := ⟨rows', us', _, rfl, hR', by omega, e, hL, hP'⟩
    walk_at "go"
    refine w_iteD (fun c1 => ?_) (fun c1 => ?_)
    · walk_at "go"
      refine w_iteD (fun c2 => ?_) (fun c2 => ?_)
      · walk_at "go"
        refine w_iteD (fun c3 => ?_) (fun c3 => ?_)
        · walk_at "go"
          refine w_iteD (fun c4 => ?_) (fun c4 => ?_)
          · walk_at "go"
            refine w_iteN (fun c5 => ?_) (fun c5 => ?_)
            · walk_at "go"
              refine ⟨pd r, rows'.map pd, dp_row ⟨t, rfl, ht'⟩, dp_rows hL hP', pd_shaped r, pds_shaped _, ?_⟩
              rw [pd_any]
              walk_at "go"
              refine w_iteN (fun c6 => ?_) (fun c6 => ?_)
              · walk_at "go"
                refine ⟨rows' ++ [r], _, _, rfl, hR'.snoc (Int.le_refl _) c1 c2 c3 c4 c5 c6, ?_, same_mut e hl0, upd_same, ?_⟩
                · rw [List.length_append, List.length_singleton]; omega
                · exact (PRs.mutL hL hP').snoc ⟨t, rfl, keepNe ht' (ne_of ht' hL (by intro z; cases z))⟩
              · walk_at "go"
                exact no
            · walk_at "go"
              exact no
          · walk_at "go"
            exact no
        · walk_at "go"
          exact no
      · walk_at "go"
        exact no
    · walk_at "go"
      exact no
  · rintro σ H1 ⟨rows', us', k3, rfl, hR', hl', e, hL, hP'⟩
    walk_at "go"
    exact k rows' us' l H1 hR' hl' hl0 e hL hP'
/-- what a maker of rows promises: rows of pages, at most m of them, in a new list -/
def MkRows (n : Int) (m : Nat) (s : Addr) (H : Hp) (Q : VK) : Prop := ∀ (rows : List (Int × Int)) (us : List V) (p : Addr) (H' : Hp), RB n rows → us.length ≤ m → H p = none → Grow H s p us rows H' → Q (.ref p) H'
theorem cell_bd {c n : Int} (h0 : 0 ≤ c) (h1 : c < n * n) (hn : 0 < n) : 0 ≤ c / n ∧ c / n < n ∧ 0 ≤ c % n ∧ c % n < n :=
  ⟨Int.ediv_nonneg h0 (by omega), Int.ediv_lt_of_lt_mul hn h1, Int.emod_nonneg _ (by omega), Int.emod_lt_of_pos _ hn⟩
theorem sq_bd {n : Int} (h0 : 1 ≤ n) (h1 : n ≤ 200) : 0 < n * n ∧ n * n < 1000000 ∧ -18446744073709551616 < n ∧ n < 18446744073709551616 := by
  have a : 0 < n * n := Int.mul_pos (by omega) (by omega)
  have b : n * n ≤ 200 * 200 := Int.mul_le_mul h1 h1 (by omega) (by omega)
  omega
def sp_law_free_rows (K : PySem.W.Frag) (A : CA) : Sp := fun vs H Q _ => ∃ (s : Addr) (n : Int), vs = [.ref s, .int n] ∧ Src H s ∧ 1 ≤ n ∧ n ≤ 200 ∧ MkRows n 14 s H Q
def t_law_free_rows (K : PySem.W.Frag) (A : CA) : TS :=
  (tSeq (tAsg (tLst tNil) (gName 2))
  (tSeq (tFor (iRng1 (tCons (tCall (sp_law_draw K A) [] E0 (tCons (tVar 0) (tCons (tC (.int 15)) tNil))) tNil)) (gName 3)
  (tSeq (tAsg (tCall (sp_law_draw K A) [] E0 (tCons (tVar 0) (tCons (tOp oMul (tVar 1) (tVar 1)) tNil))) (gName 4))
  (tDrop (tBM K "list" rAppend (tVar 2) (tCons (tTup (tCons (tOp oDiv (tVar 4) (tVar 1)) (tCons (tOp oMod (tCB oInt (tCons (tVar 4) tNil)) (tVar 1)) tNil))) tNil)))))
  (tRet (tVar 2))))

theorem rd_law_free_rows {K : PySem.W.Frag} {A : CA} {vs : List V} {H : Hp} {Q : VK} {E : XK} (h : sp_law_free_rows K A vs H Q E) :
    t_law_free_rows K A { nx := fun _ H' => Q .non H', rt := Q } (start ["box", "pages", "rows", "k", "cell"] vs) H := by
  obtain ⟨s, n, rfl, hs, n0, n1, q⟩ := h
  obtain ⟨q0, q1, q2, q3⟩ := sq_bd n0 n1
  unfold t_law_free_rows
  walk_at "go"
  intro p hp
  have nps : p ≠ s := hs.neFree hp
  have g0 := Grow.start hs hp
  walk_at "go"
  intro z H1 z0 z1 b1 s1
  have g1 := g0.step nps b1 s1
  walk_at "go"
  refine forR (fun i σ H' => ∃ (rows : List (Int × Int)) (us : List V) (k3 k4 : Option V), σ = [some (.ref s), some (.int n), some (.ref p), k3, k4] ∧ RB n rows ∧ us.length ≤ i ∧ Grow H s p us rows H') ?_ ?_ ?_
  · exact ⟨[], [], none, none, rfl, (fun x hx => by cases hx), Nat.zero_le _, g1⟩
  · rintro i σ H2 hi ⟨rows, us, k3, k4, rfl, hB, hl, g⟩
    have s2 := g.src
    walk_at "go"
    intro c H3 c0 c1 b3 s3
    have g3 := g.step nps b3 s3
    have h3 := g3.at_
    obtain ⟨e0, e1, e2, e3⟩ := cell_bd c0 c1 (by omega)
    walk_at "go"
    intro t ht
    walk_at "go"
    refine ⟨_, _, _, _, rfl, hB.snoc e0 e1 e2 e3, ?_, g3.push nps hp ht⟩
    rw [List.length_append, List.length_singleton]; omega
  · rintro σ H2 ⟨rows, us, k3, k4, rfl, hB, hl, g⟩
    walk_at "go"
    exact q rows us p H2 hB (by omega) hp g
def sp_law_forest_rows (K : PySem.W.Frag) (A : CA) : Sp := fun vs H Q _ => ∃ (s : Addr) (n : Int), vs = [.ref s, .int n] ∧ Src H s ∧ 1 ≤ n ∧ n ≤ 200 ∧ MkRows n 400 s H Q
def t_law_forest_rows (K : PySem.W.Frag) (A : CA) : TS :=
  (tSeq (tAsg (tLst tNil) (gName 2))
  (tSeq (tFor (iRng2 (tCons (tC (.int 1)) (tCons (tVar 1) tNil))) (gName 3)
  (tSeq (tAsg (tCall (sp_law_draw K A) [] E0 (tCons (tVar 0) (tCons (tOp oAdd (tVar 3) (tC (.int 1))) tNil))) (gName 4))
  (tSeq (tAsg (tCall (sp_law_draw K A) [] E0 (tCons (tVar 0) (tCons (tC (.int 4)) tNil))) (gName 5))
  (C8.tCut (tIfS (tAnd (tTest (tOp oLt (tVar 4) (tVar 3))) (tTest (tOp rNe (tVar 5) (tC (.int 1))))) (tDrop (tBM K "list" rAppend (tVar 2) (tCons (tTup (tCons (tVar 4) (tCons (tVar 3) tNil))) tNil))) tNext)
  (tIfS (tAnd (tTest (tOp oLt (tVar 4) (tVar 3))) (tOr (tTest (tOp rEq (tVar 5) (tC (.int 1)))) (tTest (tOp rEq (tVar 5) (tC (.int 2)))))) (tDrop (tBM K "list" rAppend (tVar 2) (tCons (tTup (tCons (tVar 3) (tCons (tVar 4) tNil))) tNil))) tNext)))))
  (tRet (tVar 2))))

theorem rd_law_forest_rows {K : PySem.W.Frag} {A : CA} {vs : List V} {H : Hp} {Q : VK} {E : XK} (h : sp_law_forest_rows K A vs H Q E) :
    t_law_forest_rows K A { nx := fun _ H' => Q .non H', rt := Q } (start ["box", "pages", "rows", "page", "parent", "side"] vs) H := by
  obtain ⟨s, n, rfl, hs, n0, n1, q⟩ := h
  unfold t_law_forest_rows
  walk_at "go"
  intro p hp
  have nps : p ≠ s := hs.neFree hp
  have g0 := Grow.start hs hp
  walk_at "go"
  refine forR (fun i σ H' => ∃ (rows : List (Int × Int)) (us : List V) (k3 k4 k5 : Option V), σ = [some (.ref s), some (.int n), some (.ref p), k3, k4, k5] ∧ RB n rows ∧ us.length ≤ 2 * i ∧ Grow H s p us rows H') ?_ ?_ ?_
  · exact ⟨[], [], none, none, none, rfl, (fun x hx => by cases hx), Nat.zero_le _, g0⟩
  · rintro i σ H2 hi ⟨rows, us, k3, k4, k5, rfl, hB, hl, g⟩
    have s2 := g.src
    walk_at "go"
    intro pa H3 a0 a1 b3 s3
    have g3 := g.step nps b3 s3
    walk_at "go"
    intro sd H4 d0 d1 b4 s4
    have g4 := g3.step nps b4 s4
    have h4 := g4.at_
    walk_at "go"
    refine w_cut (fun σ H' => ∃ (rows : List (Int × Int)) (us : List V), σ = [some (.ref s), some (.int n), some (.ref p), some (.int (1 + (i : Int))), some (.int pa), some (.int sd)] ∧ RB n rows ∧ us.length ≤ 2 * i + 1 ∧ Grow H s p us rows H') ?_ ?_
    · have no : ∃ (rows : List (Int × Int)) (us : List V), [some (V.ref s), some (.int n), some (.ref p), some (.int (1 + (i : Int))), some (.int pa), some (.int sd)] = [some (.ref s), some (.int n), some (.ref p), some (.int (1 + (i : Int))), some (.int pa), some (.int sd)] ∧ RB n rows ∧ us.length ≤ 2 * i + 1 ∧ Grow H s p us rows H4 := ⟨rows, us, rfl, hB, by omega, g4⟩
      walk_at "go"
      refine w_iteD (fun c1 => ?_) (fun c1 => ?_)
      · walk_at "go"
        refine w_iteN (fun c2 => ?_) (fun c2 => ?_)
        · walk_at "go"
          intro t ht
          walk_at "go"
          refine ⟨_, _, rfl, hB.snoc a0 (by omega) (by omega) (by omega), ?_, g4.push nps hp ht⟩
          rw [List.length_append, List.length_singleton]; omega
        · walk_at "go"
          exact no
      · walk_at "go"
        exact no
    rintro σ H5 ⟨rows, us, rfl, hB, hl, g5⟩
    have h5 := g5.at_
    have no : ∃ (rows : List (Int × Int)) (us : List V) (k3 k4 k5 : Option V), [some (V.ref s), some (.int n), some (.ref p), some (.int (1 + (i : Int))), some (.int pa), some (.int sd)] = [some (.ref s), some (.int n), some (.ref p), k3, k4, k5] ∧ RB n rows ∧ us.length ≤ 2 * (i + 1) ∧ Grow H s p us rows H5 := ⟨rows, us, _, _, _, rfl, hB, by omega, g5⟩
    have yes : pa < 1 + (i : Int) → (tDrop (tBM K "list" rAppend (tVar 2) (tCons (tTup (tCons (tVar 3) (tCons (tVar 4) tNil))) tNil)))
        { nx := fun σ H' => ∃ (rows : List (Int × Int)) (us : List V) (k3 k4 k5 : Option V), σ = [some (.ref s), some (.int n), some (.ref p), k3, k4, k5] ∧ RB n rows ∧ us.length ≤ 2 * (i + 1) ∧ Grow H s p us rows H', rt := Q }
        [some (.ref s), some (.int n), some (.ref p), some (.int (1 + (i : Int))), some (.int pa), some (.int sd)] H5 := fun c => by
      walk_at "go"
      intro t ht
      walk_at "go"
      refine ⟨_, _, _, _, _, rfl, hB.snoc (by omega) (by omega) a0 (by omega), ?_, g5.push nps hp ht⟩
      rw [List.length_append, List.length_singleton]; omega
    walk_at "go"
    refine w_iteD (fun c1 => ?_) (fun c1 => ?_)
    · walk_at "go"
      refine w_iteD (fun c2 => ?_) (fun c2 => ?_)
      · exact yes c1
      · walk_at "go"
        refine w_iteD (fun c3 => ?_) (fun c3 => ?_)
        · exact yes c1
        · walk_at "go"
          exact no
    · walk_at "go"
      exact no
  · rintro σ H2 ⟨rows, us, k3, k4, k5, rfl, hB, hl, g⟩
    walk_at "go"
    exact q rows us p H2 hB (by omega) hp g
end G

namespace G
open PySem L2 GX
theorem tri_bd {k z : Int} (h0 : 0 ≤ k) (hz : 0 < z) : 0 ≤ (k + 1) % z ∧ (k + 1) % z < z := ⟨Int.emod_nonneg _ (by omega), Int.emod_lt_of_pos _ hz⟩
def sp_law_block_rows (K : PySem.W.Frag) (A : CA) : Sp := fun vs H Q _ => ∃ (s : Addr) (n : Int), vs = [.ref s, .int n] ∧ Src H s ∧ 1 ≤ n ∧ n ≤ 200 ∧ MkRows n 400 s H Q
def t_law_block_rows (K : PySem.W.Frag) (A : CA) : TS :=
  (tSeq (tAsg (tLst tNil) (gName 2))
  (tSeq (tAsg (tC (.int 0)) (gName 3))
  (tSeq (tFor (iRng1 (tCons (tC (.int 7)) tNil)) (gName 4)
  (tIfS (tTest (tOp oLt (tVar 3) (tVar 1))) (tSeq (tAsg (tOp oAdd (tC (.int 1)) (tCall (sp_law_draw K A) [] E0 (tCons (tVar 0) (tCons (tOp oSub (tVar 1) (tVar 3)) tNil)))) (gName 5))
  (tSeq (tAsg (tCall (sp_law_draw K A) [] E0 (tCons (tVar 0) (tCons (tC (.int 4)) tNil))) (gName 6))
  (tSeq (tFor (iRng1 (tCons (tVar 5) tNil)) (gName 7)
  (tSeq (tAsg (tOp oAdd (tVar 3) (tOp oMod (tCB oInt (tCons (tOp oAdd (tVar 7) (tC (.int 1))) tNil)) (tVar 5))) (gName 8))
  (C8.tCut (tIfS (tOr (tTest (tOp oLt (tVar 6) (tC (.int 2)))) (tTest (tOp oLt (tOp oAdd (tVar 7) (tC (.int 1))) (tVar 5)))) (tDrop (tBM K "list" rAppend (tVar 2) (tCons (tTup (tCons (tOp oAdd (tVar 3) (tVar 7)) (tCons (tVar 8) tNil))) tNil))) tNext)
  (tIfS (tAnd (tTest (tOp rEq (tVar 6) (tC (.int 3)))) (tTest (tOp oLt (tOp oAdd (tVar 7) (tC (.int 1))) (tVar 5)))) (tDrop (tBM K "list" rAppend (tVar 2) (tCons (tTup (tCons (tVar 8) (tCons (tOp oAdd (tVar 3) (tVar 7)) tNil))) tNil))) tNext))))
  (tAsg (tOp oAdd (tVar 3) (tVar 5)) (gName 3))))) tNext))
  (tRet (tVar 2)))))

theorem rd_law_block_rows {K : PySem.W.Frag} {A : CA} {vs : List V} {H : Hp} {Q : VK} {E : XK} (h : sp_law_block_rows K A vs H Q E) :
    t_law_block_rows K A { nx := fun _ H' => Q .non H', rt := Q } (start ["box", "pages", "rows", "start", "turn", "size", "side", "k", "near"] vs) H := by
  obtain ⟨s, n, rfl, hs, n0, n1, q⟩ := h
  unfold t_law_block_rows
  walk_at "go"
  intro p hp
  have nps : p ≠ s := hs.neFree hp
  have g0 := Grow.start hs hp
  walk_at "go"
  refine forR (fun i σ H' => ∃ (rows : List (Int × Int)) (us : List V) (st : Int) (k4 k5 k6 k7 k8 : Option V), σ = [some (.ref s), some (.int n), some (.ref p), some (.int st), k4, k5, k6, k7, k8] ∧ RB n rows ∧ 0 ≤ st ∧ st ≤ n ∧ (us.length : Int) ≤ 2 * st ∧ Grow H s p us rows H') ?_ ?_ ?_
  · exact ⟨[], [], 0, none, none, none, none, none, rfl, (fun x hx => by cases hx), by omega, by omega, by simp, g0⟩
  · rintro i σ H2 hi ⟨rows, us, st, k4, k5, k6, k7, k8, rfl, hB, t0, t1, hl, g⟩
    have s2 := g.src
    walk_at "go"
    refine w_iteD (fun c1 => ?_) (fun c1 => ?_)
    · walk_at "go"
      intro z H3 z0 z1 b3 s3
      have g3 := g.step nps b3 s3
      walk_at "go"
      intro sd H4 d0 d1 b4 s4
      have g4 := g3.step nps b4 s4
      walk_at "go"
      refine forR (fun j σ H' => ∃ (rows : List (Int × Int)) (us : List V) (k7 k8 : Option V), σ = [some (.ref s), some (.int n), some (.ref p), some (.int st), some (.int (0 + (i : Int))), some (.int (1 + z)), some (.int sd), k7, k8] ∧ RB n rows ∧ (us.length : Int) ≤ 2 * st + 2 * j ∧ Grow H s p us rows H') ?_ ?_ ?_
      · exact ⟨rows, us, k7, k8, rfl, hB, by omega, g4⟩
      · rintro j σ H5 hj ⟨rows, us, k7, k8, rfl, hB, hl, g5⟩
        have h5 := g5.at_
        obtain ⟨e0, e1⟩ := tri_bd (k := 0 + (j : Int)) (z := 1 + z) (by omega) (by omega)
        walk_at "go"
        have hn0 : ∃ ne : Int, (0 + (j : Int) + 1) % (1 + z) = ne ∧ 0 ≤ ne ∧ ne < 1 + z := ⟨_, rfl, e0, e1⟩
        obtain ⟨ne, en, e0, e1⟩ := hn0
        rw [en]
        refine w_cut (fun σ H' => ∃ (rows : List (Int × Int)) (us : List V), σ = [some (.ref s), some (.int n), some (.ref p), some (.int st), some (.int (0 + (i : Int))), some (.int (1 + z)), some (.int sd), some (.int (0 + (j : Int))), some (.int (st + ne))] ∧ RB n rows ∧ (us.length : Int) ≤ 2 * st + 2 * j + 1 ∧ Grow H s p us rows H') ?_ ?_
        · have no : ∃ (rows : List (Int × Int)) (us : List V), [some (V.ref s), some (.int n), some (.ref p), some (.int st), some (.int (0 + (i : Int))), some (.int (1 + z)), some (.int sd), some (.int (0 + (j : Int))), some (.int (st + ne))] = [some (.ref s), some (.int n), some (.ref p), some (.int st), some (.int (0 + (i : Int))), some (.int (1 + z)), some (.int sd), some (.int (0 + (j : Int))), some (.int (st + ne))] ∧ RB n rows ∧ (us.length : Int) ≤ 2 * st + 2 * j + 1 ∧ Grow H s p us rows H5 := ⟨rows, us, rfl, hB, by omega, g5⟩
          have yes : (tDrop (tBM K "list" rAppend (tVar 2) (tCons (tTup (tCons (tOp oAdd (tVar 3) (tVar 7)) (tCons (tVar 8) tNil))) tNil)))
              { nx := fun σ H' => ∃ (rows : List (Int × Int)) (us : List V), σ = [some (.ref s), some (.int n), some (.ref p), some (.int st), some (.int (0 + (i : Int))), some (.int (1 + z)), some (.int sd), some (.int (0 + (j : Int))), some (.int (st + ne))] ∧ RB n rows ∧ (us.length : Int) ≤ 2 * st + 2 * j + 1 ∧ Grow H s p us rows H', rt := Q }
              [some (.ref s), some (.int n), some (.ref p), some (.int st), some (.int (0 + (i : Int))), some (.int (1 + z)), some (.int sd), some (.int (0 + (j : Int))), some (.int (st + ne))] H5 := by
            walk_at "go"
            intro t ht
            walk_at "go"
            refine ⟨_, _, rfl, hB.snoc (by omega) (by omega) (by omega) (by omega), ?_, g5.push nps hp ht⟩
            rw [List.length_append, List.length_singleton]; omega
          walk_at "go"
          refine w_iteD (fun c2 => ?_) (fun c2 => ?_)
          · with_reducible refine w_iteT ?_
            exact yes
          · walk_at "go"
            refine w_iteD (fun c3 => ?_) (fun c3 => ?_)
            · exact yes
            · walk_at "go"
              exact no
        rintro σ H6 ⟨rows, us, rfl, hB, hl, g6⟩
        have h6 := g6.at_
        have no : ∃ (rows : List (Int × Int)) (us : List V) (k7 k8 : Option V), [some (V.ref s), some (.int n), some (.ref p), some (.int st), some (.int (0 + (i : Int))), some (.int (1 + z)), some (.int sd), some (.int (0 + (j : Int))), some (.int (st + ne))] = [some (.ref s), some (.int n), some (.ref p), some (.int st), some (.int (0 + (i : Int))), some (.int (1 + z)), some (.int sd), k7, k8] ∧ RB n rows ∧ (us.length : Int) ≤ 2 * st + 2 * (j + 1 : Nat) ∧ Grow H s p us rows H6 := ⟨rows, us, _, _, rfl, hB, by omega, g6⟩
        walk_at "go"
        refine w_iteD (fun c2 => ?_) (fun c2 => ?_)
        · walk_at "go"
          refine w_iteD (fun c3 => ?_) (fun c3 => ?_)
          · walk_at "go"
            intro t ht
            walk_at "go"
            refine ⟨_, _, _, _, rfl, hB.snoc (by omega) (by omega) (by omega) (by omega), ?_, g6.push nps hp ht⟩
            rw [List.length_append, List.length_singleton]; omega
          · walk_at "go"
            exact no
        · walk_at "go"
          exact no
      · rintro σ H5 ⟨rows, us, k7, k8, rfl, hB, hl, g5⟩
        walk_at "go"
        exact ⟨rows, us, st + (1 + z), _, _, _, _, _, rfl, hB, by omega, by omega, by omega, g5⟩
    · walk_at "go"
      exact ⟨rows, us, st, _, _, _, _, _, rfl, hB, t0, t1, hl, g⟩
  · rintro σ H2 ⟨rows, us, st, k4, k5, k6, k7, k8, rfl, hB, t0, t1, hl, g⟩
    walk_at "go"
    exact q rows us p H2 hB (by omega) hp g
theorem Paired.set {α β : Type} {F : α → β → Prop} : ∀ {l₁ : List α} {l₂ : List β} {a : α} {b : β} (i : Nat), Paired F l₁ l₂ → F a b → Paired F (l₁.set i a) (l₂.set i b)
  | _, _, _, _, _, .nil, _ => .nil
  | _, _, _, _, 0, .cons _ r, f => .cons f r
  | _, _, _, _, i + 1, .cons g r, f => .cons g (Paired.set i r f)
theorem Paired.erase {α β : Type} {F : α → β → Prop} : ∀ {l₁ : List α} {l₂ : List β} (i : Nat), Paired F l₁ l₂ → Paired F (l₁.eraseIdx i) (l₂.eraseIdx i)
  | _, _, _, .nil => .nil
  | _, _, 0, .cons _ r => r
  | _, _, i + 1, .cons g r => .cons g (Paired.erase i r)
theorem set_row {H : Hp} {q t : Addr} {vs : List V} {rows : List (Int × Int)} {a b : Int} {o : HO} (i : Nat) (hq : H q = some (.lst vs)) (hp : Paired (PR H) vs rows) (ht : H t = none) : Paired (PR (upd (upd H t (.tup [.int a, .int b])) q o)) (vs.set i (.ref t)) (rows.set i (a, b)) :=
  Paired.set i (PRs.mutL (keep hq ht) (PRs.new ht hp)) ⟨t, rfl, keepNe upd_same (ne_of_none hq ht).symm⟩
theorem RB.set {m a b : Int} {rows : List (Int × Int)} {i : Nat} (h : RB m rows) (h0 : 0 ≤ a) (h1 : a < m) (h2 : 0 ≤ b) (h3 : b < m) : RB m (rows.set i (a, b)) := fun x hx => by
  rcases List.mem_or_eq_of_mem_set hx with k | k
  · exact h x k
  · subst k; exact ⟨h0, h1, h2, h3⟩
theorem RB.erase {m : Int} {rows : List (Int × Int)} {i : Nat} (h : RB m rows) : RB m (rows.eraseIdx i) := fun x hx => h x (List.mem_of_mem_eraseIdx hx)
def sp_law_ring_rows (K : PySem.W.Frag) (A : CA) : Sp := fun vs H Q _ => ∃ (s : Addr) (n : Int), vs = [.ref s, .int n] ∧ Src H s ∧ 1 ≤ n ∧ n ≤ 200 ∧ MkRows n 400 s H Q
def t_law_ring_rows (K : PySem.W.Frag) (A : CA) : TS :=
  (tSeq (tAsg (tVar 1) (gName 2))
  (C8.tCut (tIfS (tTest (tOp oGt (tVar 1) (tC (.int 3)))) (tAsg (tOp oSub (tVar 1) (tCall (sp_law_draw K A) [] E0 (tCons (tVar 0) (tCons (tC (.int 2)) tNil)))) (gName 2)) tNext)
  (tSeq (tAsg (tLc (iRng1 (tCons (tVar 2) tNil)) (gName 4) tYes (tTup (tCons (tVar 4) (tCons (tOp oMod (tCB oInt (tCons (tOp oAdd (tVar 4) (tC (.int 1))) tNil)) (tVar 2)) tNil))) [4]) (gName 3))
  (tSeq (tAsg (tCall (sp_law_draw K A) [] E0 (tCons (tVar 0) (tCons (tOp oMul (tC (.int 2)) (tVar 2)) tNil))) (gName 5))
  (C8.tCut (tIfS (tTest (tOp oLt (tVar 5) (tVar 2))) (tAsg (tTup (tCons (tOp (rIxT K) (tOp (rIxL K) (tVar 3) (tVar 5)) (tC (.int 1))) (tCons (tOp (rIxT K) (tOp (rIxL K) (tVar 3) (tVar 5)) (tC (.int 0))) tNil))) (gSub (tVar 3) (tVar 5) rSetL)) tNext)
  (tSeq (tFor (iRng1 (tCons (tCall (sp_law_draw K A) [] E0 (tCons (tVar 0) (tCons (tC (.int 4)) tNil))) tNil)) (gName 4)
  (tSeq (tAsg (tCall (sp_law_draw K A) [] E0 (tCons (tVar 0) (tCons (tOp oMul (tVar 1) (tVar 1)) tNil))) (gName 6))
  (tDrop (tBM K "list" rAppend (tVar 3) (tCons (tTup (tCons (tOp oDiv (tVar 6) (tVar 1)) (tCons (tOp oMod (tCB oInt (tCons (tVar 6) tNil)) (tVar 1)) tNil))) tNil)))))
  (tRet (tVar 3))))))))

theorem rd_law_ring_rows {K : PySem.W.Frag} {A : CA} {vs : List V} {H : Hp} {Q : VK} {E : XK} (h : sp_law_ring_rows K A vs H Q E) :
    t_law_ring_rows K A { nx := fun _ H' => Q .non H', rt := Q } (start ["box", "pages", "size", "rows", "k", "turned", "cell"] vs) H := by
  obtain ⟨s, n, rfl, hs, n0, n1, q⟩ := h
  obtain ⟨q0, q1, q2, q3⟩ := sq_bd n0 n1
  unfold t_law_ring_rows
  walk_at "go"
  refine w_cut (fun σ H' => ∃ (z : Int), σ = [some (.ref s), some (.int n), some (.int z), none, none, none, none] ∧ 1 ≤ z ∧ z ≤ n ∧ But s H H' ∧ Src H' s) ?_ ?_
  · walk_at "go"
    refine w_iteD (fun c => ?_) (fun c => ?_)
    · walk_at "go"
      intro r H1 r0 r1 b1 s1
      walk_at "go"
      exact ⟨_, rfl, by omega, by omega, b1, s1⟩
    · walk_at "go"
      exact ⟨_, rfl, by omega, by omega, But.refl, hs⟩
  rintro σ H1 ⟨z, rfl, z0, z1, b1, s1⟩
  walk_at "go"
  refine lcR (fun Dl i H' => ∃ rows us, RB n rows ∧ us.length = i ∧ Grow H s Dl us rows H') (fun Dl hD => ⟨[], [], (fun x hx => by cases hx), rfl, b1.new hD, s1.new hD, upd_same, .nil⟩) ?_ ?_
  · rintro Dl i H2 hD hi ⟨rows, us, hB, hl, g⟩
    have nD : Dl ≠ s := s1.neFree hD
    have h2 := g.at_
    obtain ⟨e0, e1⟩ := tri_bd (k := 0 + (i : Int)) (z := z) (by omega) (by omega)
    walk_at "go"
    intro t ht
    walk_at "go"
    refine ⟨_, _, hB.snoc (by omega) (by omega) e0 (by omega), ?_, g.push nD (b1.back s1 hD) ht⟩
    rw [List.length_append, List.length_singleton]; omega
  · rintro p H2 hp ⟨rows, us, hB, hl, g⟩
    have nps : p ≠ s := s1.neFree hp
    have hp := b1.back s1 hp
    have s2 := g.src
    walk_at "go"
    intro tu H3 u0 u1 b3 s3
    have g3 := g.step nps b3 s3
    walk_at "go"
    refine w_cut (fun σ H' => ∃ rows us, σ = [some (.ref s), some (.int n), some (.int z), some (.ref p), none, some (.int tu), none] ∧ RB n rows ∧ us.length ≤ 200 ∧ Grow H s p us rows H') ?_ ?_
    · walk_at "go"
      refine w_iteD (fun c => ?_) (fun c => ?_)
      · have h3 := g3.at_
        have hlen := g3.pr.length
        have hk : tu.toNat < rows.length := by omega
        obtain ⟨v, hv, t, rfl, ht⟩ := Paired.at g3.pr (List.getElem?_eq_getElem hk)
        have hbd := hB _ (List.getElem_mem hk)
        generalize rows[tu.toNat] = r at ht hbd
        have hx : atI us tu = some (V.ref t) := atn (j := tu.toNat) (by omega) hv
        have hix : ixN us.length tu = some tu.toNat := ixn (by omega) (by omega)
        walk_at "go"
        intro t2 ht2
        walk_at "go"
        refine ⟨_, _, rfl, RB.set (i := tu.toNat) hB hbd.2.2.1 hbd.2.2.2 hbd.1 hbd.2.1, ?_, (g3.b.new ht2).mut hp, (s3.new ht2).mut nps, upd_same, set_row _ h3 g3.pr ht2⟩
        rw [List.length_set]; omega
      · walk_at "go"
        exact ⟨rows, us, rfl, hB, by omega, g3⟩
    rintro σ H4 ⟨rows, us, rfl, hB, hl, g4⟩
    have s4 := g4.src
    walk_at "go"
    intro m H5 m0 m1 b5 s5
    have g5 := g4.step nps b5 s5
    walk_at "go"
    refine forR (fun i σ H' => ∃ (rows : List (Int × Int)) (us : List V) (k4 k6 : Option V), σ = [some (.ref s), some (.int n), some (.int z), some (.ref p), k4, some (.int tu), k6] ∧ RB n rows ∧ us.length ≤ 200 + i ∧ Grow H s p us rows H') ?_ ?_ ?_
    · exact ⟨rows, us, _, _, rfl, hB, hl, g5⟩
    · rintro i σ H6 hi ⟨rows, us, k4, k6, rfl, hB, hl, g⟩
      have s6 := g.src
      walk_at "go"
      intro c H7 c0 c1 b7 s7
      have g7 := g.step nps b7 s7
      have h7 := g7.at_
      obtain ⟨e0, e1, e2, e3⟩ := cell_bd c0 c1 (by omega)
      walk_at "go"
      intro t ht
      walk_at "go"
      refine ⟨_, _, _, _, rfl, hB.snoc e0 e1 e2 e3, ?_, g7.push nps hp ht⟩
      rw [List.length_append, List.length_singleton]; omega
    · rintro σ H6 ⟨rows, us, k4, k6, rfl, hB, hl, g⟩
      walk_at "go"
      exact q rows us p H6 hB (by omega) hp g
end G

namespace G
open PySem L2 GX
theorem w_popAt {H : Hp} {Q : VK} {p : Addr} {xs : List V} {i : Int} (h : H p = some (.lst xs)) (h0 : 0 ≤ i) (h1 : i < xs.length) (h2 : i < 1000000)
    (q : ∀ y, xs[i.toNat]? = some y → Q y (upd H p (.lst (xs.eraseIdx i.toNat)))) : rPopAt (.ref p) [.int i] H Q := by
  have hk : i.toNat < xs.length := by omega
  exact ⟨p, xs, i, i.toNat, xs[i.toNat], rfl, rfl, h, by omega, by omega, seqIndex_of h0 h1, List.getElem?_eq_getElem hk, q _ (List.getElem?_eq_getElem hk)⟩
local macro_rules | `(tactic| walk_at "call") => `(tactic| (refine' G.w_popAt ?g1 ?g2 ?g3 ?g4 ?_; (case g1 => walk_at "hp"); (case g2 => walk_at "ar"); (case g3 => walk_at "ar"); (case g4 => walk_at "ar")))
theorem Grow.pop {H0 H : Hp} {s q : Addr} {us : List V} {rows : List (Int × Int)} (i : Nat) (g : Grow H0 s q us rows H) (hn : q ≠ s) (h0 : H0 q = none) :
    Grow H0 s q (us.eraseIdx i) (rows.eraseIdx i) (upd H q (.lst (us.eraseIdx i))) :=
  ⟨g.b.mut h0, g.src.mut hn, upd_same, Paired.erase i (PRs.mutL g.at_ g.pr)⟩
def sp_law_dense_rows (K : PySem.W.Frag) (A : CA) : Sp := fun vs H Q _ => ∃ (s : Addr) (n : Int), vs = [.ref s, .int n] ∧ Src H s ∧ 1 ≤ n ∧ n ≤ 7 ∧ MkRows n 400 s H Q
def t_law_dense_rows (K : PySem.W.Frag) (A : CA) : TS :=
  (tSeq (tAsg (tLc (iRng1 (tCons (tOp oMul (tVar 1) (tVar 1)) tNil)) (gName 3) tYes (tTup (tCons (tOp oDiv (tVar 3) (tVar 1)) (tCons (tOp oMod (tCB oInt (tCons (tVar 3) tNil)) (tVar 1)) tNil))) [3]) (gName 2))
  (tSeq (tFor (iRng1 (tCons (tCall (sp_law_draw K A) [] E0 (tCons (tVar 0) (tCons (tC (.int 12)) tNil))) tNil)) (gName 3)
  (tIfS (tTest (tOp oGt (tCB (rLenQ K) (tCons (tVar 2) tNil)) (tC (.int 0)))) (tDrop (tBM K "list" rPopAt (tVar 2) (tCons (tCall (sp_law_draw K A) [] E0 (tCons (tVar 0) (tCons (tCB (rLenQ K) (tCons (tVar 2) tNil)) tNil))) tNil))) tNext))
  (tRet (tVar 2))))

theorem rd_law_dense_rows {K : PySem.W.Frag} {A : CA} {vs : List V} {H : Hp} {Q : VK} {E : XK} (h : sp_law_dense_rows K A vs H Q E) :
    t_law_dense_rows K A { nx := fun _ H' => Q .non H', rt := Q } (start ["box", "pages", "rows", "k"] vs) H := by
  obtain ⟨s, n, rfl, hs, n0, n1, q⟩ := h
  have q0 : 0 < n * n := Int.mul_pos (by omega) (by omega)
  have q1 : n * n ≤ 7 * 7 := Int.mul_le_mul n1 n1 (by omega) (by omega)
  have q2 : -18446744073709551616 < n := by omega
  have q3 : n < 18446744073709551616 := by omega
  unfold t_law_dense_rows
  walk_at "go"
  refine lcR (fun Dl i H' => ∃ rows us, RB n rows ∧ us.length = i ∧ Grow H s Dl us rows H') (fun Dl hD => ⟨[], [], (fun x hx => by cases hx), rfl, But.refl.new hD, hs.new hD, upd_same, .nil⟩) ?_ ?_
  · rintro Dl i H2 hD hi ⟨rows, us, hB, hl, g⟩
    have nD : Dl ≠ s := hs.neFree hD
    have h2 := g.at_
    obtain ⟨e0, e1, e2, e3⟩ := cell_bd (c := 0 + (i : Int)) (n := n) (by omega) (by omega) (by omega)
    walk_at "go"
    intro t ht
    walk_at "go"
    refine ⟨_, _, hB.snoc e0 e1 e2 e3, ?_, g.push nD hD ht⟩
    rw [List.length_append, List.length_singleton]; omega
  · rintro p H2 hp ⟨rows, us, hB, hl, g⟩
    have nps : p ≠ s := hs.neFree hp
    have s2 := g.src
    walk_at "go"
    intro m H3 m0 m1 b3 s3
    have g3 := g.step nps b3 s3
    walk_at "go"
    refine forR (fun i σ H' => ∃ (rows : List (Int × Int)) (us : List V) (k3 : Option V), σ = [some (.ref s), some (.int n), some (.ref p), k3] ∧ RB n rows ∧ us.length ≤ 49 ∧ Grow H s p us rows H') ?_ ?_ ?_
    · exact ⟨rows, us, _, rfl, hB, by omega, g3⟩
    · rintro i σ H4 hi ⟨rows, us, k3, rfl, hB, hl, g⟩
      have s4 := g.src
      have h4 := g.at_
      walk_at "go"
      refine w_iteD (fun c => ?_) (fun c => ?_)
      · walk_at "go"
        intro z H5 z0 z1 b5 s5
        have g5 := g.step nps b5 s5
        have h5 := g5.at_
        walk_at "go"
        intro y hy
        walk_at "go"
        refine ⟨_, _, _, rfl, RB.erase (i := z.toNat) hB, ?_, Grow.pop _ g5 nps hp⟩
        exact Nat.le_trans (List.length_eraseIdx_le _ _) hl
      · walk_at "go"
        exact ⟨rows, us, _, rfl, hB, hl, g⟩
    · rintro σ H6 ⟨rows, us, k3, rfl, hB, hl, g⟩
      walk_at "go"
      exact q rows us p H6 hB (by omega) hp g
def sp_law_small_rows (K : PySem.W.Frag) (A : CA) : Sp := fun vs H Q _ => ∃ (s : Addr) (n k : Int), vs = [.ref s, .int n, .int k] ∧ Src H s ∧ 1 ≤ n ∧ n ≤ 7 ∧ MkRows n 400 s H Q
theorem i_free {K : PySem.W.Frag} {A : CA} {H : Hp} {Q : VK} {E : XK} {s : Addr} {n : Int} (hs : Src H s) (n0 : 1 ≤ n) (n1 : n ≤ 7) (q : MkRows n 400 s H Q) : sp_law_free_rows K A [.ref s, .int n] H Q E :=
  ⟨s, n, rfl, hs, n0, by omega, fun r u p H' a b c d => q r u p H' a (by omega) c d⟩
theorem i_forest {K : PySem.W.Frag} {A : CA} {H : Hp} {Q : VK} {E : XK} {s : Addr} {n : Int} (hs : Src H s) (n0 : 1 ≤ n) (n1 : n ≤ 7) (q : MkRows n 400 s H Q) : sp_law_forest_rows K A [.ref s, .int n] H Q E := ⟨s, n, rfl, hs, n0, by omega, q⟩
theorem i_block {K : PySem.W.Frag} {A : CA} {H : Hp} {Q : VK} {E : XK} {s : Addr} {n : Int} (hs : Src H s) (n0 : 1 ≤ n) (n1 : n ≤ 7) (q : MkRows n 400 s H Q) : sp_law_block_rows K A [.ref s, .int n] H Q E := ⟨s, n, rfl, hs, n0, by omega, q⟩
theorem i_ring {K : PySem.W.Frag} {A : CA} {H : Hp} {Q : VK} {E : XK} {s : Addr} {n : Int} (hs : Src H s) (n0 : 1 ≤ n) (n1 : n ≤ 7) (q : MkRows n 400 s H Q) : sp_law_ring_rows K A [.ref s, .int n] H Q E := ⟨s, n, rfl, hs, n0, by omega, q⟩
theorem i_dense {K : PySem.W.Frag} {A : CA} {H : Hp} {Q : VK} {E : XK} {s : Addr} {n : Int} (hs : Src H s) (n0 : 1 ≤ n) (n1 : n ≤ 7) (q : MkRows n 400 s H Q) : sp_law_dense_rows K A [.ref s, .int n] H Q E := ⟨s, n, rfl, hs, n0, n1, q⟩
def t_law_small_rows (K : PySem.W.Frag) (A : CA) : TS :=
  (tSeq (tIfS (tTest (tOp oLt (tVar 2) (tC (.int 2)))) (tRet (tCall (sp_law_free_rows K A) [] E0 (tCons (tVar 0) (tCons (tVar 1) tNil)))) tNext)
  (tSeq (tIfS (tOr (tTest (tOp rEq (tVar 2) (tC (.int 2)))) (tTest (tOp rEq (tVar 2) (tC (.int 3))))) (tRet (tCall (sp_law_forest_rows K A) [] E0 (tCons (tVar 0) (tCons (tVar 1) tNil)))) tNext)
  (tSeq (tIfS (tTest (tOp rEq (tVar 2) (tC (.int 4)))) (tRet (tCall (sp_law_block_rows K A) [] E0 (tCons (tVar 0) (tCons (tVar 1) tNil)))) tNext)
  (tSeq (tIfS (tTest (tOp rEq (tVar 2) (tC (.int 5)))) (tRet (tCall (sp_law_ring_rows K A) [] E0 (tCons (tVar 0) (tCons (tVar 1) tNil)))) tNext)
  (tRet (tCall (sp_law_dense_rows K A) [] E0 (tCons (tVar 0) (tCons (tVar 1) tNil))))))))

theorem rd_law_small_rows {K : PySem.W.Frag} {A : CA} {vs : List V} {H : Hp} {Q : VK} {E : XK} (h : sp_law_small_rows K A vs H Q E) :
    t_law_small_rows K A { nx := fun _ H' => Q .non H', rt := Q } (start ["box", "pages", "shape"] vs) H := by
  obtain ⟨s, n, k, rfl, hs, n0, n1, q⟩ := h
  unfold t_law_small_rows
  walk_at "go"
  refine w_iteD (fun c => ?_) (fun c => ?_)
  · walk_at "go"
    exact i_free hs n0 n1 q
  walk_at "go"
  refine w_iteD (fun c1 => ?_) (fun c1 => ?_)
  · walk_at "go"
    exact i_forest hs n0 n1 q
  walk_at "go"
  refine w_iteD (fun c2 => ?_) (fun c2 => ?_)
  · walk_at "go"
    exact i_forest hs n0 n1 q
  walk_at "go"
  refine w_iteD (fun c3 => ?_) (fun c3 => ?_)
  · walk_at "go"
    exact i_block hs n0 n1 q
  walk_at "go"
  refine w_iteD (fun c4 => ?_) (fun c4 => ?_)
  · walk_at "go"
    exact i_ring hs n0 n1 q
  walk_at "go"
  exact i_dense hs n0 n1 q
end G

local macro_rules | `(tactic| walk_at "call") => `(tactic| (refine' G.w_popAt ?g1 ?g2 ?g3 ?g4 ?_; (case g1 => walk_at "hp"); (case g2 => walk_at "ar"); (case g3 => walk_at "ar"); (case g4 => walk_at "ar")))

namespace G
open PySem PySem.Spec PyProof.Rows L2 RT
section
variable {prog : Program} {w : World} {A : Around} {E : Value → Shared → Prop} {s : Shared}
theorem list_init_rev {R : Result → Shared → Prop} {it l : Addr} {items : Array Value} (hh : A.handled = none) (hit : s.heap.IsRevIter it l ((items.size : Int) - 1)) (hl : s.heap.IsList l items) (hne : l ≠ it) (hn : items.size ≤ sizeLine)
    (S : Addr) (hSi : S ≠ it) (hSl : S ≠ l) (hS : s.heap.get? S = some { cls := .type "list", data := .seq #[] })
    (hR : ∀ h' tk acc' c', (∀ b o, b ≠ S → b ≠ it → s.heap.get? b = some o → h'.get? b = some o) → h'.get? S = some { cls := .type "list", dict := none, data := .seq acc' c', slots := #[] } →
      ItemsOf (fun i v => items[items.size - 1 - i]? = some v) acc' items.size → R (.ok (.ret .none)) { s with heap := h', toks := tk }) :
    wpAny (model prog w) A.in1 (Builtin.«list.__init__» ⟨[.ref S, .ref it], []⟩)
      (fun fin s' => match fin with | .done f => R (.ok f) s' | .again c' => c'.quiet = true ∧ codeAny (model prog w) A c' R s') (fun e s' => R (.error e) s') s := by
  have hSf : S ∉ [it, l] := by simp only [List.mem_cons, List.not_mem_nil, or_false, not_or]; exact ⟨hSi, hSl⟩
  show wpAny _ _ (do let old ← Builtin.List.listItems (.ref S); Builtin.List.listUpdate (.ref S) (fun _ => #[]); letGo old.toList.reverse; Builtin.List.listExtendWith (.ref S) (.ref it) .none) _ _ s
  refine wpAny_bind ?_
  unfold Builtin.List.listItems
  refine wpAny_bind (wpAny_seqItems hS rfl (wpAny_pure ?_))
  show wpAny _ _ (updateSeq S (fun _ => #[]) >>= fun _ => letGo (#[] : Array Value).toList.reverse >>= fun _ => Builtin.List.listExtendWith (.ref S) (.ref it) .none) _ _ s
  refine wpAny_bind (wpAny_updateSeq hS rfl ?_)
  have hS₂ := Heap.get?_update_self (Obj.mapSeq (fun _ => (#[] : Array Value))) hS rfl
  have oth : ∀ b o, b ≠ S → s.heap.get? b = some o → (s.heap.update S (Obj.mapSeq (fun _ => (#[] : Array Value)))).get? b = some o :=
    fun b o hb e => (Heap.get?_update_other _ _ (Ne.symm hb)).trans e
  refine wpAny_bind (wpAny_letGo ?_)
  have hit1 : (s.heap.update S (Obj.mapSeq (fun _ => (#[] : Array Value)))).IsRevIter it l ((items.size : Int) - 1) := hit.at fun o e => oth it o (Ne.symm hSi) e
  have hl1 : (s.heap.update S (Obj.mapSeq (fun _ => (#[] : Array Value)))).IsList l items := let ⟨ol, e, r⟩ := hl; ⟨ol, oth l ol (Ne.symm hSl) e, r⟩
  have hT : ({ s with heap := s.heap.update S (Obj.mapSeq (fun _ => (#[] : Array Value))) } : Shared).TypeIs (.ref it) "list_reverseiterator" := Heap.IsRevIter.typeIs (s := { s with heap := s.heap.update S (Obj.mapSeq (fun _ => (#[] : Array Value))) }) hit1
  have h1 : Builtin.List.listSameRef (.ref S) (.ref it) = false := by simp [Builtin.List.listSameRef, hSi]
  have W := (Walks.listRev (prog := prog) (w := w) (A := A.in1) hh it l hne items).toS
  unfold Builtin.List.listExtendWith
  refine wpAny_bind (wpAny_typeOf hT ?_)
  rw [if_neg (by rw [h1]; decide)]
  refine wpAny_bind (wpAny_pyIter_revIter (s := { s with heap := s.heap.update S (Obj.mapSeq (fun _ => (#[] : Array Value))) }) hit1 ?_)
  refine wpAny_bind (wpAny_holding ?_)
  unfold Builtin.List.listLengthHint
  refine wpAny_bind (wpAny_specialOf hT nolen_lri ?_)
  show wpAny _ A.in1 (specialOf (Value.ref it) (Str.ofString "__length_hint__") >>= _) _ _ _
  refine wpAny_bind (wpAny_specialOf hT hint_lri ?_)
  generalize hid : ("list_reverseiterator.__length_hint__" : String) = id0
  wp_delta
  rw [show splitId id0 = some ("list_reverseiterator", "__length_hint__") from by subst hid; decide +kernel]
  subst hid
  refine wpAny_bind (wpAny_isInstance (b := true) hT (by rw [isSubtype_type]; kernel_rfl) ?_)
  refine wpAny_pure ?_
  rw [if_neg (by decide)]
  have e0 : ((items.size : Nat) : Int) - 1 - ((0 : Nat) : Int) = (items.size : Int) - 1 := by omega
  refine wpAny_pure ⟨plainId_quiet F.plain_extend_loop _, codeAny_extend_loopS W hn _ hSf _ items.size 0 _ _ _ rfl (Nat.zero_le _) ⟨Nat.zero_le _, by rw [e0]; exact hit1, hl1⟩ hS₂ (ItemsOf.nil _) fun s' acc' c' hm hS' hacc => ?_⟩
  rw [Moved.eq_with hm]
  refine hR s'.heap s'.toks acc' c' (fun b o hb hb2 e => ?_) hS' hacc
  refine hm.heap b o (fun hmem => ?_) (oth b o hb e)
  rcases List.mem_cons.mp hmem with e' | hmem
  · exact hb e'
  · exact hb2 (List.mem_singleton.mp hmem)
theorem call_list_rev {Q : Value → Shared → Prop} {it l : Addr} {items : Array Value} (hh : A.handled = none) (hit : s.heap.IsRevIter it l ((items.size : Int) - 1)) (hl : s.heap.IsList l items) (hne : l ≠ it) (hn : items.size ≤ sizeLine)
    (hQ : ∀ h' tk acc' c', (∀ b o, b ≠ it → s.heap.get? b = some o → h'.get? b = some o) →
      h'.get? s.heap.objs.size = some { cls := .type "list", dict := none, data := .seq acc' c', slots := #[] } → ItemsOf (fun i v => items[items.size - 1 - i]? = some v) acc' items.size → Q (.ref s.heap.objs.size) { s with heap := h', toks := tk }) :
    wpAny (model prog w) A (call (.type "list") [.ref it]) Q E s := by
  refine callType_codes (Q₁ := fun obj s₁ => obj = .ref s.heap.objs.size ∧ s₁ = { s with heap := s.heap.push { cls := .type "list", data := .seq #[] } }) F.called_list (F.typeCall_list_1 _) F.entry_list_init
    (code_list_new _ ⟨rfl, rfl⟩) fun obj s₁ h₁ => ?_
  obtain ⟨rfl, rfl⟩ := h₁
  have hS : (s.heap.push { cls := .type "list", data := .seq #[] }).get? s.heap.objs.size = some { cls := .type "list", data := .seq #[] } := Heap.get?_push_size _ rfl
  obtain ⟨oi, hoi, _⟩ := id hit
  obtain ⟨ol, hol, _⟩ := id hl
  have hSi : s.heap.objs.size ≠ it := Nat.ne_of_gt (Heap.lt_size hoi)
  have hSl : s.heap.objs.size ≠ l := Nat.ne_of_gt (Heap.lt_size hol)
  refine ⟨⟨_, hS, rfl⟩, F.args_list_init_2 _ _, list_init_rev (A := A.in1) hh (hit.at fun o e => Heap.get?_push_of_some _ e) (hl.push _) hne hn _ hSi hSl hS fun h' tk acc' c' hk hS' hacc => ?_⟩
  exact ⟨rfl, hQ h' tk acc' c' (fun b o hb e => hk b o (Nat.ne_of_lt (Heap.lt_size e)) hb (Heap.get?_push_of_some _ e)) hS' hacc⟩
end
/-- list(reversed(x)), x a list: a new list -/
def tLstRev (K : PySem.W.Frag) (te : TE) : TE := fun σ H Q => te σ H fun v H1 => ∃ (a : Addr) (xs : List V), v = .ref a ∧ SqL K H1 a xs ∧ ∀ q, H1 q = none → Q (.ref q) (upd H1 q (.lst xs.reverse))
section
variable {X : Cx}
theorem pe_listRev {e : Expr} {te : TE} {p p2 pos pos2 : Pos} (hc : X.calm = true) (hg : Gl X "list") (hm : X.mg "list" = none) (hg2 : Gl X "reversed") (hm2 : X.mg "reversed" = none) (he : PE X e te)
    (hs : starEach [e] X.env = (false, eval e X.env) :: starEach [] X.env := by rfl)
    (hs2 : starEach [.Call (.Name "reversed" p2) [e] [] pos2] X.env = (false, eval (.Call (.Name "reversed" p2) [e] [] pos2) X.env) :: starEach [] X.env := by rfl) :
    PE X (.Call (.Name "list" p) [.Call (.Name "reversed" p2) [e] [] pos2] [] pos) (tLstRev X.K te) := by
  refine ⟨fun pins s σ H Q I h => ?_⟩
  refine Call_ (ld_blt I hg hm boot_list (PyProof.Rows.callWith_type1 (args_cons (Call_ (ld_blt I hg2 hm2 PyProof.Rows.boot_reversed (PyProof.Rows.callWith_type1 (args_cons (thn (he.run pins s σ H _ I h) fun u s1 ⟨v, H1, I1, r1, q1⟩ => args_nil ?_) hs) hs rfl))) hs2) hs2))
  obtain ⟨a, xs, ev, hq, q⟩ := q1
  subst ev
  obtain rfl : u = Value.ref a := r1
  obtain ⟨its, rv, p', hz⟩ := I1.list hq
  refine call_reversed_list p'.isList (args_nil ?_)
  have hl := p'.isList
  obtain ⟨ol, hol, _⟩ := id hl
  have hne : a ≠ s1.heap.objs.size := Nat.ne_of_lt (Heap.lt_size hol)
  have hn : its.toArray.size ≤ sizeLine := by rw [List.size_toArray, ← rv.length]; exact hz
  have hf := I1.fpOk (H' := H1) (b := s1.heap.objs.size) (Nat.le_refl _) (I1.hok.fresh (Nat.le_refl _))
  refine call_list_rev (s := { s1 with heap := s1.heap.push (revObj a ((its.toArray.size : Int) - 1)) }) (I1.ok.hd hc) ⟨_, Heap.get?_push_size _ rfl, rfl, rfl⟩ (hl.push _) hne hn fun h' tk acc c' hk e' hi => ?_
  have hT : s1.heap.objs.size ≤ (s1.heap.push (revObj a ((its.toArray.size : Int) - 1))).objs.size := by
    have hp : (s1.heap.push (revObj a ((its.toArray.size : Int) - 1))).get? s1.heap.objs.size = some (revObj a ((its.toArray.size : Int) - 1)) := Heap.get?_push_size _ rfl
    exact Nat.le_of_lt (Heap.lt_size hp)
  refine ⟨.ref _, upd H1 _ (.lst xs.reverse), I1.turnedNew (t' := tk) (ch := [s1.heap.objs.size]) (fun b o hb e => hk b o (fun z => hb (by simp [z])) (Heap.get?_push_of_some _ e)) (fun b hb => by obtain rfl : b = _ := List.mem_singleton.mp hb; exact hf) hT
    (show ObjOk X.prog X.w _ _ _ (.lst xs.reverse) from ⟨by rw [List.length_reverse]; exact hz, acc.toList, c', vals_rev rv hi, by rw [Array.toArray_toList]; exact e'⟩), rfl, q _ (I1.hok.fresh hT)⟩
end
end G

namespace G
open PySem L2 GX
def sp_law_large_rows (K : PySem.W.Frag) (A : CA) : Sp := fun vs H Q _ => ∃ (s : Addr) (n : Int), vs = [.ref s, .int n] ∧ Src H s ∧ 1 ≤ n ∧ n ≤ 200 ∧ MkRows n 400 s H Q
theorem div_bd {i : Nat} {b n : Int} (hb : 1 ≤ b) (hi : 1 + (i : Int) < n) : 0 ≤ (1 + (i : Int) - 1) / b ∧ (1 + (i : Int) - 1) / b < n := by
  have e : (1 + (i : Int) - 1) = (i : Int) := by omega
  rw [e]
  have h1 : 0 ≤ (i : Int) / b := Int.ediv_nonneg (by omega) (by omega)
  have h2 : (i : Int) / b ≤ i := Int.ediv_le_self _ (by omega)
  omega
theorem at5 {a b c d e : V} {r : Int} (h0 : 0 ≤ r) (h1 : r < 5) : ∃ v, atI [a, b, c, d, e] r = some v ∧ (v = a ∨ v = b ∨ v = c ∨ v = d ∨ v = e) := by
  have hr : r = 0 ∨ r = 1 ∨ r = 2 ∨ r = 3 ∨ r = 4 := by omega
  rcases hr with rfl | rfl | rfl | rfl | rfl
  · exact ⟨a, rfl, .inl rfl⟩
  · exact ⟨b, rfl, .inr (.inl rfl)⟩
  · exact ⟨c, rfl, .inr (.inr (.inl rfl))⟩
  · exact ⟨d, rfl, .inr (.inr (.inr (.inl rfl)))⟩
  · exact ⟨e, rfl, .inr (.inr (.inr (.inr rfl)))⟩
theorem branch {n r : Int} (hn : 1 ≤ n) (hm : n ≤ 200) (h0 : 0 ≤ r) (h1 : r < 5) : ∃ z : Int, atI [V.int 1, .int 1, .int 2, .int 3, .int n] r = some (.int z) ∧ 1 ≤ z ∧ z ≤ 200 := by
  obtain ⟨v, e, h⟩ := at5 (a := V.int 1) (b := .int 1) (c := .int 2) (d := .int 3) (e := .int n) h0 h1
  rcases h with rfl | rfl | rfl | rfl | rfl
  · exact ⟨1, e, by omega, by omega⟩
  · exact ⟨1, e, by omega, by omega⟩
  · exact ⟨2, e, by omega, by omega⟩
  · exact ⟨3, e, by omega, by omega⟩
  · exact ⟨n, e, hn, hm⟩
def t_law_large_rows (K : PySem.W.Frag) (A : CA) : TS :=
  (tSeq (tAsg (tOp (rIxL K) (tLst (tCons (tC (.int 1)) (tCons (tC (.int 1)) (tCons (tC (.int 2)) (tCons (tC (.int 3)) (tCons (tVar 1) tNil)))))) (tCall (sp_law_draw K A) [] E0 (tCons (tVar 0) (tCons (tC (.int 5)) tNil)))) (gName 2))
  (tSeq (tAsg (tCall (sp_law_draw K A) [] E0 (tCons (tVar 0) (tCons (tC (.int 5)) tNil))) (gName 3))
  (tSeq (tAsg (tLst tNil) (gName 4))
  (tSeq (tFor (iRng2 (tCons (tC (.int 1)) (tCons (tVar 1) tNil))) (gName 5)
  (tSeq (tAsg (tOp oDiv (tOp oSub (tVar 5) (tC (.int 1))) (tVar 2)) (gName 6))
  (C8.tCut (tIfS (tTest (tOp rNe (tVar 3) (tC (.int 1)))) (tDrop (tBM K "list" rAppend (tVar 4) (tCons (tTup (tCons (tVar 6) (tCons (tVar 5) tNil))) tNil))) tNext)
  (tIfS (tOr (tTest (tOp rEq (tVar 3) (tC (.int 1)))) (tOr (tTest (tOp rEq (tVar 3) (tC (.int 2)))) (tAnd (tTest (tOp rEq (tVar 3) (tC (.int 3)))) (tTest (tOp rEq (tOp oMod (tCB oInt (tCons (tVar 5) tNil)) (tC (.int 3))) (tC (.int 0))))))) (tDrop (tBM K "list" rAppend (tVar 4) (tCons (tTup (tCons (tVar 5) (tCons (tVar 6) tNil))) tNil))) tNext))))
  (C8.tCut (tIfS (tTest (tOp rEq (tCall (sp_law_draw K A) [] E0 (tCons (tVar 0) (tCons (tC (.int 3)) tNil))) (tC (.int 0)))) (tDrop (tBM K "list" rAppend (tVar 4) (tCons (tTup (tCons (tOp oSub (tVar 1) (tC (.int 1))) (tCons (tC (.int 0)) tNil))) tNil))) tNext)
  (tRet (tVar 4)))))))

theorem rd_law_large_rows {K : PySem.W.Frag} {A : CA} {vs : List V} {H : Hp} {Q : VK} {E : XK} (h : sp_law_large_rows K A vs H Q E) :
    t_law_large_rows K A { nx := fun _ H' => Q .non H', rt := Q } (start ["box", "pages", "branch", "side", "rows", "page", "parent"] vs) H := by
  obtain ⟨s, n, rfl, hs, n0, n1, q⟩ := h
  unfold t_law_large_rows
  walk_at "go"
  intro l hl
  have nls : l ≠ s := hs.neFree hl
  have s0 : Src (upd H l (.lst [V.int 1, .int 1, .int 2, .int 3, .int n])) s := hs.new hl
  have hl0 : (upd H l (.lst [V.int 1, .int 1, .int 2, .int 3, .int n])) l = some (.lst [V.int 1, .int 1, .int 2, .int 3, .int n]) := upd_same
  have b0 : But s H (upd H l (.lst [V.int 1, .int 1, .int 2, .int 3, .int n])) := But.refl.new hl
  generalize upd H l (.lst [V.int 1, .int 1, .int 2, .int 3, .int n]) = H0 at s0 hl0 b0
  walk_at "go"
  intro r H1 r0 r1 b1 s1
  have hl1 := b1.at nls hl0
  obtain ⟨z, ez, z1, z2⟩ := branch n0 n1 r0 r1
  walk_at "go"
  intro sd H2 d0 d1 b2 s2
  walk_at "go"
  intro p hp
  have nps : p ≠ s := s2.neFree hp
  have bb := (b0.trans b1).trans b2
  have hp0 : H p = none := bb.back s2 hp
  have g0 : Grow H s p [] [] (upd H2 p (.lst [])) := ⟨bb.new hp, s2.new hp, upd_same, .nil⟩
  walk_at "go"
  refine forR (fun i σ H' => ∃ (rows : List (Int × Int)) (us : List V) (k5 k6 : Option V), σ = [some (.ref s), some (.int n), some (.int z), some (.int sd), some (.ref p), k5, k6] ∧ RB n rows ∧ us.length ≤ 2 * i ∧ Grow H s p us rows H') ?_ ?_ ?_
  · exact ⟨[], [], none, none, rfl, (fun x hx => by cases hx), Nat.zero_le _, g0⟩
  · rintro i σ H3 hi ⟨rows, us, k5, k6, rfl, hB, hl, g⟩
    have h3 := g.at_
    obtain ⟨e0, e1⟩ := div_bd (i := i) (n := n) z1 (by omega)
    walk_at "go"
    generalize hpa : (1 + (i : Int) - 1) / z = pa at e0 e1
    refine w_cut (fun σ H' => ∃ (rows : List (Int × Int)) (us : List V), σ = [some (.ref s), some (.int n), some (.int z), some (.int sd), some (.ref p), some (.int (1 + (i : Int))), some (.int pa)] ∧ RB n rows ∧ us.length ≤ 2 * i + 1 ∧ Grow H s p us rows H') ?_ ?_
    · walk_at "go"
      refine w_iteN (fun c => ?_) (fun c => ?_)
      · walk_at "go"
        intro t ht
        walk_at "go"
        refine ⟨_, _, rfl, hB.snoc e0 e1 (by omega) (by omega), ?_, g.push nps hp0 ht⟩
        rw [List.length_append, List.length_singleton]; omega
      · walk_at "go"
        exact ⟨rows, us, rfl, hB, by omega, g⟩
    rintro σ H4 ⟨rows, us, rfl, hB, hl, g4⟩
    have h4 := g4.at_
    have no : ∃ (rows : List (Int × Int)) (us : List V) (k5 k6 : Option V), [some (V.ref s), some (.int n), some (.int z), some (.int sd), some (.ref p), some (.int (1 + (i : Int))), some (.int pa)] = [some (.ref s), some (.int n), some (.int z), some (.int sd), some (.ref p), k5, k6] ∧ RB n rows ∧ us.length ≤ 2 * (i + 1) ∧ Grow H s p us rows H4 := ⟨rows, us, _, _, rfl, hB, by omega, g4⟩
    have yes : (tDrop (tBM K "list" rAppend (tVar 4) (tCons (tTup (tCons (tVar 5) (tCons (tVar 6) tNil))) tNil)))
        { nx := fun σ H' => ∃ (rows : List (Int × Int)) (us : List V) (k5 k6 : Option V), σ = [some (.ref s), some (.int n), some (.int z), some (.int sd), some (.ref p), k5, k6] ∧ RB n rows ∧ us.length ≤ 2 * (i + 1) ∧ Grow H s p us rows H', rt := Q }
        [some (.ref s), some (.int n), some (.int z), some (.int sd), some (.ref p), some (.int (1 + (i : Int))), some (.int pa)] H4 := by
      walk_at "go"
      intro t ht
      walk_at "go"
      refine ⟨_, _, _, _, rfl, hB.snoc (by omega) (by omega) e0 e1, ?_, g4.push nps hp0 ht⟩
      rw [List.length_append, List.length_singleton]; omega
    walk_at "go"
    refine w_iteD (fun c1 => ?_) (fun c1 => ?_)
    · exact yes
    · walk_at "go"
      refine w_iteD (fun c2 => ?_) (fun c2 => ?_)
      · exact yes
      · walk_at "go"
        refine w_iteD (fun c3 => ?_) (fun c3 => ?_)
        · walk_at "go"
          refine w_iteD (fun c4 => ?_) (fun c4 => ?_)
          · exact yes
          · walk_at "go"
            exact no
        · walk_at "go"
          exact no
  · rintro σ H3 ⟨rows, us, k5, k6, rfl, hB, hl, g⟩
    have hl' : us.length ≤ 398 := by omega
    walk_at "go"
    refine w_cut (fun σ H' => ∃ (rows : List (Int × Int)) (us : List V) (k5 k6 : Option V), σ = [some (.ref s), some (.int n), some (.int z), some (.int sd), some (.ref p), k5, k6] ∧ RB n rows ∧ us.length ≤ 400 ∧ Grow H s p us rows H') ?_ ?_
    · have s3 := g.src
      walk_at "go"
      intro c H4 c0 c1 b4 s4
      have g4 := g.step nps b4 s4
      have h4 := g4.at_
      walk_at "go"
      refine w_iteD (fun c => ?_) (fun c => ?_)
      · walk_at "go"
        intro t ht
        walk_at "go"
        refine ⟨_, _, _, _, rfl, hB.snoc (by omega) (by omega) (by omega) (by omega), ?_, g4.push nps hp0 ht⟩
        rw [List.length_append, List.length_singleton]; omega
      · walk_at "go"
        exact ⟨rows, us, _, _, rfl, hB, by omega, g4⟩
    rintro σ H4 ⟨rows, us, k5, k6, rfl, hB, hl, g4⟩
    walk_at "go"
    exact q rows us p H4 hB hl hp0 g4
end G

namespace G
open PySem L2 GX
/-- names: one number below m for each page -/
structure NB (m : Int) (ns : List Int) : Prop where
  len : (ns.length : Int) = m
  bd : ∀ z ∈ ns, 0 ≤ z ∧ z < m
theorem NB.at {m : Int} {ns : List Int} (h : NB m ns) {k : Int} (h0 : 0 ≤ k) (h1 : k < m) : ∃ z, atI (ns.map V.int) k = some (V.int z) ∧ 0 ≤ z ∧ z < m := by
  have hl := h.len
  have hk : k.toNat < ns.length := by omega
  have hb := h.bd _ (List.getElem_mem hk)
  exact ⟨ns[k.toNat], at_of (j := k.toNat) (by omega) (by simp [hk]), hb.1, hb.2⟩
def sp_law_names (K : PySem.W.Frag) (A : CA) : Sp := fun vs H Q _ => ∃ (s : Addr) (n : Int), vs = [.ref s, .int n] ∧ Src H s ∧ 1 ≤ n ∧ n ≤ 200 ∧
  ∀ (ns : List Int) (p : Addr) (H' : Hp), NB n ns → H p = none → But s H H' → Src H' s → H' p = some (.lst (ns.map V.int)) → Q (.ref p) H'
theorem rgV_ints (n : Int) (h : 0 ≤ n) : ∃ xs : List Int, rgV 0 n = xs.map V.int ∧ (xs.length : Int) = n ∧ ∀ z ∈ xs, 0 ≤ z ∧ z < n := by
  obtain ⟨k, rfl⟩ : ∃ k : Nat, n = (k : Int) := ⟨n.toNat, by omega⟩
  refine ⟨_, rng_ints k, by simp, fun z hz => ?_⟩
  obtain ⟨i, hi, rfl⟩ := List.mem_map.mp hz
  have := List.mem_range.mp hi
  omega
theorem map_erase {α β : Type} (f : α → β) : ∀ (l : List α) (i : Nat), (l.eraseIdx i).map f = (l.map f).eraseIdx i
  | [], _ => rfl
  | _ :: _, 0 => rfl
  | a :: l, i + 1 => congrArg (f a :: ·) (map_erase f l i)
def t_law_names (K : PySem.W.Frag) (A : CA) : TS :=
  (tSeq (tAsg (tLst tNil) (gName 2))
  (tSeq (tIfS (tTest (tOp oGt (tVar 1) (tC (.int 7)))) (tSeq (tAsg (tCall (sp_law_draw K A) [] E0 (tCons (tVar 0) (tCons (tVar 1) tNil))) (gName 3))
  (tSeq (tAsg (tOp oSub (tC (.int 1)) (tOp oMul (tC (.int 2)) (tCall (sp_law_draw K A) [] E0 (tCons (tVar 0) (tCons (tC (.int 2)) tNil))))) (gName 4))
  (tSeq (tFor (iRng1 (tCons (tVar 1) tNil)) (gName 5)
  (tDrop (tBM K "list" rAppend (tVar 2) (tCons (tOp oMod (tCB oInt (tCons (tOp oAdd (tVar 3) (tOp oMul (tVar 4) (tVar 5))) tNil)) (tVar 1)) tNil))))
  (tRet (tVar 2))))) tNext)
  (tSeq (tAsg (tLstRg (tRg1 (tVar 1))) (gName 6))
  (tSeq (tFor (iRng1 (tCons (tVar 1) tNil)) (gName 5)
  (tDrop (tBM K "list" rAppend (tVar 2) (tCons (tBM K "list" rPopAt (tVar 6) (tCons (tCall (sp_law_draw K A) [] E0 (tCons (tVar 0) (tCons (tCB (rLenQ K) (tCons (tVar 6) tNil)) tNil))) tNil)) tNil))))
  (tRet (tVar 2))))))

theorem rd_law_names {K : PySem.W.Frag} {A : CA} {vs : List V} {H : Hp} {Q : VK} {E : XK} (h : sp_law_names K A vs H Q E) :
    t_law_names K A { nx := fun _ H' => Q .non H', rt := Q } (start ["box", "pages", "names", "start", "step", "k", "left"] vs) H := by
  obtain ⟨s, n, rfl, hs, n0, n1, q⟩ := h
  unfold t_law_names
  walk_at "go"
  intro p hp
  have nps : p ≠ s := hs.neFree hp
  have s0 : Src (upd H p (.lst [])) s := hs.new hp
  have b0 : But s H (upd H p (.lst [])) := But.refl.new hp
  have hp0 : (upd H p (.lst [])) p = some (.lst (([] : List Int).map V.int)) := upd_same
  generalize upd H p (.lst []) = H0 at s0 b0 hp0
  walk_at "go"
  refine w_iteD (fun c => ?_) (fun c => ?_)
  · walk_at "go"
    intro st H1 t0 t1 b1 s1
    walk_at "go"
    intro r H2 r0 r1 b2 s2
    walk_at "go"
    have hp2 := b2.at nps (b1.at nps hp0)
    have bb := (b0.trans b1).trans b2
    refine forR (fun i σ H' => ∃ (ns : List Int) (k5 : Option V), σ = [some (.ref s), some (.int n), some (.ref p), some (.int st), some (.int (1 - 2 * r)), k5, none] ∧ ns.length = i ∧ (∀ z ∈ ns, 0 ≤ z ∧ z < n) ∧ But s H H' ∧ Src H' s ∧ H' p = some (.lst (ns.map V.int))) ?_ ?_ ?_
    · exact ⟨[], none, rfl, rfl, (fun x hx => by cases hx), bb, s2, hp2⟩
    · rintro i σ H3 hi ⟨ns, k5, rfl, hl, hB, b, s3, h3⟩
      have v0 : 0 ≤ (st + (1 - 2 * r) * (0 + (i : Int))) % n := Int.emod_nonneg _ (by omega)
      have v1 : (st + (1 - 2 * r) * (0 + (i : Int))) % n < n := Int.emod_lt_of_pos _ (by omega)
      walk_at "go"
      refine ⟨ns ++ [(st + (1 - 2 * r) * (0 + (i : Int))) % n], _, rfl, by rw [List.length_append, List.length_singleton]; omega, ?_, b.mut hp, s3.mut nps, ?_⟩
      · intro z hz
        rcases List.mem_append.mp hz with k | k
        · exact hB z k
        · rw [List.mem_singleton.mp k]; exact ⟨v0, v1⟩
      · rw [← snocI]; exact upd_same
    · rintro σ H3 ⟨ns, k5, rfl, hl, hB, b, s3, h3⟩
      walk_at "go"
      exact q ns p H3 ⟨by omega, hB⟩ hp b s3 h3
  · walk_at "go"
    refine ⟨RgOk.of_le (by omega) (by omega) (by omega) (by omega), fun l hl => ?_⟩
    have nls : l ≠ s := s0.neFree hl
    have npl : p ≠ l := ne_of_none hp0 hl
    obtain ⟨xs, ex, xl, xb⟩ := rgV_ints n (by omega)
    rw [ex]
    walk_at "go"
    refine forR (fun i σ H' => ∃ (ns xs : List Int) (k5 : Option V), σ = [some (.ref s), some (.int n), some (.ref p), none, none, k5, some (.ref l)] ∧ ns.length = i ∧ (i : Int) + xs.length = n ∧ (∀ z ∈ ns, 0 ≤ z ∧ z < n) ∧ (∀ z ∈ xs, 0 ≤ z ∧ z < n) ∧ But s H H' ∧ Src H' s ∧ H' p = some (.lst (ns.map V.int)) ∧ H' l = some (.lst (xs.map V.int))) ?_ ?_ ?_
    · exact ⟨[], xs, none, rfl, rfl, by omega, (fun x hx => by cases hx), xb, b0.new hl, s0.new hl, keep hp0 hl, upd_same⟩
    · rintro i σ H3 hi ⟨ns, xs, k5, rfl, hn, hx, hB, hC, b, s3, h3, h4⟩
      walk_at "go"
      rw [List.length_map]
      walk_at "go"
      intro z H4 z0 z1 b4 s4
      have hp4 := b4.at nps h3
      have hl4 := b4.at nls h4
      have hz : z < ((xs.map V.int).length : Int) := by rw [List.length_map]; exact z1
      walk_at "go"
      intro y hy
      have hzn : z.toNat < xs.length := by omega
      have ey : y = V.int xs[z.toNat] := by
        rw [List.getElem?_map, List.getElem?_eq_getElem hzn] at hy
        exact (Option.some.inj hy).symm
      subst ey
      have hle : H = H := rfl
      have hp5 : (upd H4 l (.lst ((xs.map V.int).eraseIdx z.toNat))) p = some (.lst (ns.map V.int)) := keepNe hp4 npl
      walk_at "go"
      refine ⟨ns ++ [xs[z.toNat]], xs.eraseIdx z.toNat, _, rfl, by rw [List.length_append, List.length_singleton]; omega, ?_, ?_, ?_, ?_, ?_, ?_, ?_⟩
      · rw [List.length_eraseIdx_of_lt hzn]; omega
      · intro w hw
        rcases List.mem_append.mp hw with k | k
        · exact hB w k
        · rw [List.mem_singleton.mp k]; exact hC _ (List.getElem_mem hzn)
      · exact fun w hw => hC w (List.mem_of_mem_eraseIdx hw)
      · exact ((b.trans b4).mut (b0.back s0 hl)).mut hp
      · exact (s4.mut nls).mut nps
      · rw [← snocI]; exact upd_same
      · rw [map_erase]; exact keepNe upd_same npl.symm
    · rintro σ H3 ⟨ns, xs, k5, rfl, hn, hx, hB, hC, b, s3, h3, h4⟩
      walk_at "go"
      exact q ns p H3 ⟨by omega, hB⟩ hp b s3 h3
def sp_law_mixed (K : PySem.W.Frag) (A : CA) : Sp := fun vs H Q _ => ∃ (s pq : Addr) (us : List V) (rows : List (Int × Int)), vs = [.ref s, .ref pq] ∧ Src H s ∧ H pq = some (.lst us) ∧ pq ≠ s ∧ Paired (PR H) us rows ∧ us.length ≤ 900 ∧
  ∀ (rows' : List (Int × Int)) (us' : List V) (p : Addr) (H' : Hp), rows'.Perm rows → H p = none → But s H H' → Src H' s → H' p = some (.lst us') → Paired (PR H') us' rows' → Q (.ref p) H'
theorem w_listRev {K : PySem.W.Frag} {te : TE} {σ : L2.St} {H : Hp} {Q : VK} (h : te σ H fun v H1 => ∃ (a : Addr) (xs : List V), v = .ref a ∧ SqL K H1 a xs ∧ ∀ q, H1 q = none → Q (.ref q) (upd H1 q (.lst xs.reverse))) : tLstRev K te σ H Q := h
theorem PRs.len {H : Hp} {us : List V} {rows : List (Int × Int)} (h : Paired (PR H) us rows) : us.length = rows.length := h.length
theorem perm_pop {α : Type} : ∀ {l : List α} {i : Nat} (h : i < l.length), (l[i] :: l.eraseIdx i).Perm l
  | _ :: _, 0, _ => .refl _
  | a :: l, i + 1, h => ((List.Perm.swap a _ _).trans (.cons a (perm_pop (l := l) (i := i) (by simpa using h))))
theorem paired_rev {α β : Type} {F : α → β → Prop} : ∀ {l₁ : List α} {l₂ : List β}, Paired F l₁ l₂ → Paired F l₁.reverse l₂.reverse
  | _, _, .nil => .nil
  | _, _, .cons f r => by rw [List.reverse_cons, List.reverse_cons]; exact (paired_rev r).snoc f
def t_law_mixed (K : PySem.W.Frag) (A : CA) : TS :=
  (tSeq (tIfS (tTest (tOp oGt (tCB (rLenQ K) (tCons (tVar 1) tNil)) (tC (.int 14)))) (tSeq (tAsg (tCall (sp_law_draw K A) [] E0 (tCons (tVar 0) (tCons (tCB (rLenQ K) (tCons (tVar 1) tNil)) tNil))) (gName 2))
  (tRet (G.tLstRev K (tCB (oListOf K) (tCons (tOp rCat (tSl (rSlL K) (tVar 1) (tPart (tVar 2)) tNoPart) (tSl (rSlL K) (tVar 1) tNoPart (tPart (tVar 2)))) tNil))))) tNext)
  (tSeq (tAsg (tCB (oListOf K) (tCons (tVar 1) tNil)) (gName 3))
  (tSeq (tAsg (tLst tNil) (gName 4))
  (tSeq (tFor (iRng1 (tCons (tCB (rLenQ K) (tCons (tVar 1) tNil)) tNil)) (gName 5)
  (tDrop (tBM K "list" rAppend (tVar 4) (tCons (tBM K "list" rPopAt (tVar 3) (tCons (tCall (sp_law_draw K A) [] E0 (tCons (tVar 0) (tCons (tCB (rLenQ K) (tCons (tVar 3) tNil)) tNil))) tNil)) tNil))))
  (tRet (tVar 4))))))

theorem rd_law_mixed {K : PySem.W.Frag} {A : CA} {vs : List V} {H : Hp} {Q : VK} {E : XK} (h : sp_law_mixed K A vs H Q E) :
    t_law_mixed K A { nx := fun _ H' => Q .non H', rt := Q } (start ["box", "rows", "cut", "left", "mixed", "k"] vs) H := by
  obtain ⟨s, pq, us, rows, rfl, hs, hq, nqs, hP, hn, q⟩ := h
  have hlen := hP.length
  unfold t_law_mixed
  walk_at "go"
  refine w_iteD (fun c => ?_) (fun c => ?_)
  · walk_at "go"
    intro z H1 z0 z1 b1 s1
    have hq1 := b1.at nqs hq
    have hP1 := PRs.but b1 hs hP
    obtain ⟨j, rfl⟩ : ∃ j : Nat, z = (j : Int) := ⟨z.toNat, by omega⟩
    walk_at "go"
    refine w_listRev ?_
    walk_at "go"
    rw [cut_from us j (by omega)]
    intro a ha
    have hqa := keep (o' := .lst (us.drop j)) hq1 ha
    walk_at "go"
    rw [cut_to us j (by omega)]
    intro a2 ha2
    have haa : (upd H1 a (.lst (us.drop j))) a = some (.lst (us.drop j)) := upd_same
    have hab := keep (o' := .lst (us.take j)) haa ha2
    have hbb : (upd (upd H1 a (.lst (us.drop j))) a2 (.lst (us.take j))) a2 = some (.lst (us.take j)) := upd_same
    have hz : (us.drop j).length + (us.take j).length ≤ sizeLine := by rw [List.length_drop, List.length_take]; exact Nat.le_of_lt (L2.small1000 (by omega))
    have hPb := PRs.new (o := .lst (us.take j)) ha2 (PRs.new (o := .lst (us.drop j)) ha hP1)
    have bb : But s H (upd (upd H1 a (.lst (us.drop j))) a2 (.lst (us.take j))) := (b1.new ha).new ha2
    have sb : Src (upd (upd H1 a (.lst (us.drop j))) a2 (.lst (us.take j))) s := (s1.new ha).new ha2
    generalize upd (upd H1 a (.lst (us.drop j))) a2 (.lst (us.take j)) = H2 at hab hbb hPb bb sb
    walk_at "go"
    intro l hl
    have hll : (upd H2 l (.lst (us.drop j ++ us.take j))) l = some (.lst (us.drop j ++ us.take j)) := upd_same
    walk_at "go"
    intro l2 hl2
    have hll2 : (upd (upd H2 l (.lst (us.drop j ++ us.take j))) l2 (.lst (us.drop j ++ us.take j))) l2 = some (.lst (us.drop j ++ us.take j)) := upd_same
    have hP2 := PRs.new (o := .lst (us.drop j ++ us.take j)) hl2 (PRs.new (o := .lst (us.drop j ++ us.take j)) hl hPb)
    have b2 := (bb.new (o := .lst (us.drop j ++ us.take j)) hl).new (o := .lst (us.drop j ++ us.take j)) hl2
    have s2 := (sb.new (o := .lst (us.drop j ++ us.take j)) hl).new (o := .lst (us.drop j ++ us.take j)) hl2
    refine ⟨l2, us.drop j ++ us.take j, rfl, SqL.of hll2, fun p hp => ?_⟩
    walk_at "go"
    refine q (rows.drop j ++ rows.take j).reverse (us.drop j ++ us.take j).reverse p _ ?_ (b2.back s2 hp) (b2.new hp) (s2.new hp) upd_same ?_
    · exact (List.reverse_perm _).trans (List.perm_append_comm.trans (by rw [List.take_append_drop]))
    · exact paired_rev (PRs.new hp (G.Paired.app (G.Paired.take j hP2) (G.Paired.drop j hP2)))
  · walk_at "go"
    intro l hl
    have nls : l ≠ s := hs.neFree hl
    have hql := keep (o' := .lst us) hq hl
    walk_at "go"
    intro p hp
    have s1 : Src (upd (upd H l (.lst us)) p (.lst [])) s := (hs.new hl).new hp
    have nps : p ≠ s := (hs.new (o := .lst us) hl).neFree hp
    have hp0 : H p = none := by
      by_cases e : p = l
      · rw [e, upd_same] at hp; cases hp
      · rw [upd_ne e] at hp; exact hp
    have b1 : But s H (upd (upd H l (.lst us)) p (.lst [])) := (But.refl.new hl).new hp
    have hl1 : (upd (upd H l (.lst us)) p (.lst [])) l = some (.lst us) := keep upd_same hp
    have npl : p ≠ l := fun e => by rw [e, upd_same] at hp; cases hp
    have hq1 : (upd (upd H l (.lst us)) p (.lst [])) pq = some (.lst us) := keep hql hp
    have hP1 := PRs.new (o := .lst []) hp (PRs.new (o := .lst us) hl hP)
    have hpp : (upd (upd H l (.lst us)) p (.lst [])) p = some (.lst []) := upd_same
    generalize upd (upd H l (.lst us)) p (.lst []) = H1 at s1 b1 hl1 hq1 hP1 hpp
    walk_at "go"
    refine forR (fun i σ H' => ∃ (rl rm : List (Int × Int)) (ul um : List V) (k5 : Option V), σ = [some (.ref s), some (.ref pq), none, some (.ref l), some (.ref p), k5] ∧ um.length = i ∧ i + ul.length = us.length ∧ (rm ++ rl).Perm rows ∧ But s H H' ∧ Src H' s ∧ H' l = some (.lst ul) ∧ H' p = some (.lst um) ∧ Paired (PR H') ul rl ∧ Paired (PR H') um rm) ?_ ?_ ?_
    · exact ⟨rows, [], us, [], none, rfl, rfl, by omega, .refl _, b1, s1, hl1, hpp, hP1, .nil⟩
    · rintro i σ H3 hi ⟨rl, rm, ul, um, k5, rfl, e1, e2, hR, b, s3, h3, h4, hA, hB⟩
      walk_at "go"
      intro z H4 z0 z1 b4 s4
      have hp4 := b4.at nps h4
      have hl4 := b4.at nls h3
      have hA4 := PRs.but b4 s3 hA
      have hB4 := PRs.but b4 s3 hB
      have lA := hA.length
      have hzr : z.toNat < rl.length := by omega
      obtain ⟨y, hy, hyr⟩ := Paired.at hA4 (List.getElem?_eq_getElem hzr)
      have hz1 : z < (ul.length : Int) := z1
      walk_at "go"
      intro y' hy'
      obtain rfl : y = y' := Option.some.inj (hy.symm.trans hy')
      have hp5 : (upd H4 l (.lst (ul.eraseIdx z.toNat))) p = some (.lst um) := keepNe hp4 npl
      walk_at "go"
      refine ⟨rl.eraseIdx z.toNat, rm ++ [rl[z.toNat]], ul.eraseIdx z.toNat, um ++ [y], _, rfl, by rw [List.length_append, List.length_singleton]; omega, ?_, ?_, ?_, ?_, ?_, upd_same, ?_, ?_⟩
      · rw [List.length_eraseIdx_of_lt (by omega)]; omega
      · rw [List.append_assoc]
        exact (List.Perm.append_left rm (perm_pop hzr)).trans hR
      · exact ((b.trans b4).mut hl).mut hp0
      · exact (s4.mut nls).mut nps
      · exact keepNe upd_same npl.symm
      · exact PRs.mutL hp5 (PRs.mutL hl4 (Paired.erase _ hA4))
      · exact (PRs.mutL hp5 (PRs.mutL hl4 hB4)).snoc (PR.mutL hp5 (PR.mutL hl4 hyr))
    · rintro σ H3 ⟨rl, rm, ul, um, k5, rfl, e1, e2, hR, b, s3, h3, h4, hA, hB⟩
      walk_at "go"
      have e0 : ul.length = 0 := by omega
      have lA := hA.length
      have er : rl = [] := List.length_eq_zero_iff.mp (by omega)
      rw [er, List.append_nil] at hR
      exact q rm um p H3 hR hp0 b s3 h4 hB
end G

namespace G
open PySem L2 GX
theorem RG.perm {n : Int} {rows rs : List (Int × Int)} (h : rs.Perm rows) (hR : RG n rows) : RG n rs := ⟨fun r hr => hR.bd r (h.mem_iff.mp hr), h.nodup_iff.mpr hR.nd⟩
def sp_law_web (K : PySem.W.Frag) (A : CA) : Sp := fun vs H Q _ => ∃ (s : Addr), vs = [.ref s] ∧ Src H s ∧
  ∀ (n : Int) (rows : List (Int × Int)) (us : List V) (p l : Addr) (H' : Hp), 1 ≤ n → n ≤ 200 → RG n rows → us.length ≤ 400 → H p = none → H l = none → l ≠ p → But s H H' → Src H' s → H' l = some (.lst [.int n, .ref p]) → H' p = some (.lst us) → Paired (PR H') us rows → Q (.ref l) H'
theorem i_large {K : PySem.W.Frag} {A : CA} {H : Hp} {Q : VK} {E : XK} {s : Addr} {n : Int} (hs : Src H s) (n0 : 1 ≤ n) (n1 : n ≤ 200) (q : MkRows n 400 s H Q) : sp_law_large_rows K A [.ref s, .int n] H Q E := ⟨s, n, rfl, hs, n0, n1, q⟩
theorem i_small {K : PySem.W.Frag} {A : CA} {H : Hp} {Q : VK} {E : XK} {s : Addr} {n k : Int} (hs : Src H s) (n0 : 1 ≤ n) (n1 : n ≤ 7) (q : MkRows n 400 s H Q) : sp_law_small_rows K A [.ref s, .int n, .int k] H Q E := ⟨s, n, k, rfl, hs, n0, n1, q⟩
def t_law_web (K : PySem.W.Frag) (A : CA) : TS :=
  (tSeq (tAsg (tCall (sp_law_draw K A) [] E0 (tCons (tVar 0) (tCons (tC (.int 8)) tNil))) (gName 1))
  (C8.tCut (tIfS (tTest (tOp rEq (tVar 1) (tC (.int 7)))) (tSeq (tAsg (tOp oAdd (tC (.int 10)) (tCall (sp_law_draw K A) [] E0 (tCons (tVar 0) (tCons (tC (.int 31)) tNil)))) (gName 2))
  (C8.tCut (tIfS (tTest (tOp rEq (tCall (sp_law_draw K A) [] E0 (tCons (tVar 0) (tCons (tC (.int 8)) tNil))) (tC (.int 0)))) (tAsg (tC (.int 200)) (gName 2)) tNext)
  (tAsg (tCall (sp_law_large_rows K A) [] E0 (tCons (tVar 0) (tCons (tVar 2) tNil))) (gName 3)))) (tSeq (tAsg (tOp oAdd (tC (.int 1)) (tCall (sp_law_draw K A) [] E0 (tCons (tVar 0) (tCons (tC (.int 7)) tNil)))) (gName 2))
  (tAsg (tCall (sp_law_small_rows K A) [] E0 (tCons (tVar 0) (tCons (tVar 2) (tCons (tVar 1) tNil)))) (gName 3))))
  (tSeq (tAsg (tCall (sp_law_names K A) [] E0 (tCons (tVar 0) (tCons (tVar 2) tNil))) (gName 4))
  (tSeq (tAsg (tCall (sp_law_clean K A) [] E0 (tCons (tVar 2) (tCons (tLc (iList K (tVar 3)) (gName 5) tYes (tTup (tCons (tOp (rIxL K) (tVar 4) (tOp (rIxT K) (tVar 5) (tC (.int 0)))) (tCons (tOp (rIxL K) (tVar 4) (tOp (rIxT K) (tVar 5) (tC (.int 1)))) tNil))) [5]) tNil))) (gName 3))
  (tRet (tLst (tCons (tVar 2) (tCons (tCall (sp_law_mixed K A) [] E0 (tCons (tVar 0) (tCons (tVar 3) tNil))) tNil))))))))

theorem rd_law_web {K : PySem.W.Frag} {A : CA} {vs : List V} {H : Hp} {Q : VK} {E : XK} (h : sp_law_web K A vs H Q E) :
    t_law_web K A { nx := fun _ H' => Q .non H', rt := Q } (start ["box", "shape", "pages", "rows", "names", "row"] vs) H := by
  obtain ⟨s, rfl, hs, q⟩ := h
  unfold t_law_web
  walk_at "go"
  intro sh H1 h0 h1 b1 s1
  walk_at "go"
  refine w_cut (fun σ H' => ∃ (n : Int) (rows : List (Int × Int)) (us : List V) (p : Addr), σ = [some (.ref s), some (.int sh), some (.int n), some (.ref p), none, none] ∧ 1 ≤ n ∧ n ≤ 200 ∧ RB n rows ∧ us.length ≤ 400 ∧ p ≠ s ∧ Grow H s p us rows H') ?_ ?_
  · walk_at "go"
    refine w_iteD (fun c => ?_) (fun c => ?_)
    · walk_at "go"
      intro z H2 z0 z1 b2 s2
      walk_at "go"
      refine w_cut (fun σ H' => ∃ (n : Int), σ = [some (.ref s), some (.int sh), some (.int n), none, none, none] ∧ 1 ≤ n ∧ n ≤ 200 ∧ But s H H' ∧ Src H' s) ?_ ?_
      · walk_at "go"
        intro y H3 y0 y1 b3 s3
        walk_at "go"
        have b := (b1.trans b2).trans b3
        refine w_iteD (fun c => ?_) (fun c => ?_)
        · walk_at "go"
          exact ⟨_, rfl, by omega, by omega, b, s3⟩
        · walk_at "go"
          exact ⟨_, rfl, by omega, by omega, b, s3⟩
      rintro σ H3 ⟨n, rfl, n0, n1, b, s3⟩
      walk_at "go"
      refine i_large s3 n0 n1 fun rows us p H4 hB hl hp g => ?_
      walk_at "go"
      exact ⟨n, rows, us, p, rfl, n0, n1, hB, hl, s3.neFree hp, b.trans g.b, g.src, g.at_, g.pr⟩
    · walk_at "go"
      intro z H2 z0 z1 b2 s2
      walk_at "go"
      refine i_small s2 (by omega) (by omega) fun rows us p H4 hB hl hp g => ?_
      walk_at "go"
      exact ⟨_, rows, us, p, rfl, by omega, by omega, hB, hl, s2.neFree hp, (b1.trans b2).trans g.b, g.src, g.at_, g.pr⟩
  rintro σ H2 ⟨n, rows, us, p, rfl, n0, n1, hB, hl, nps, g⟩
  have s2 := g.src
  walk_at "go"
  refine ⟨s, n, rfl, s2, n0, n1, fun ns pn H3 hN hpn b3 s3 h3 => ?_⟩
  have hp3 := b3.at nps g.at_
  have hP3 := PRs.but b3 s2 g.pr
  have b03 := g.b.trans b3
  walk_at "go"
  refine lcL (xs := us) (fun Dl i H' => ∃ rs us', us'.length = i ∧ Same H3 H' ∧ H' Dl = some (.lst us') ∧ Paired (PR H') us' rs) (fun Dl hD => ⟨[], [], rfl, same_new hD, upd_same, .nil⟩) (fun Dl i H' hD hi ⟨rs, us', _, e, _⟩ => SqL.of (e _ _ hp3)) ?_ ?_
  · rintro Dl i x H' hD hx ⟨rs, us', hu, e, hL, hP'⟩
    obtain ⟨r, hr, t, rfl, htup⟩ := Paired.at' hP3 hx
    have hb := hB r (List.mem_of_getElem? hr)
    obtain ⟨z1, f1, _⟩ := hN.at hb.1 hb.2.1
    obtain ⟨z2, f2, _⟩ := hN.at hb.2.2.1 hb.2.2.2
    have htup' := e _ _ htup
    have hpn' := e _ _ h3
    have hi : i < us.length := (List.getElem?_eq_some_iff.mp hx).1
    walk_at "go"
    intro t2 ht2
    walk_at "go"
    exact ⟨rs ++ [(z1, z2)], _, by simp [hu], same_mut (e.trans (same_new ht2)) hD, upd_same, push_row hL hP' ht2⟩
  · rintro Dl H' hD ⟨rs, us', hu, e, hL, hP'⟩
    walk_at "go"
    refine ⟨n, Dl, us', rs, rfl, hL, hP', by omega, fun rk uk pk H4 hRk hlk hpk e4 hk4 hPk => ?_⟩
    walk_at "go"
    have s4 : Src H4 s := Src.same e4 (Src.same e s3)
    have b4 : But s H H4 := (b03.trans (G.Same.but e)).trans (G.Same.but e4)
    have npk : pk ≠ s := (Src.same e s3).neFree hpk
    refine ⟨s, pk, uk, rk, rfl, s4, hk4, npk, hPk, by omega, fun rm um pm H5 hPerm hpm b5 s5 h5 hPm => ?_⟩
    walk_at "go"
    intro l hl5
    have npl : pm ≠ l := ne_of_none h5 hl5
    have bb := b4.trans b5
    have hlen := hPm.length
    have hlen2 := hPk.length
    have hlen3 := hPerm.length_eq
    walk_at "go"
    exact q n rm um pm l _ n0 n1 (RG.perm hPerm hRk) (by omega) (b4.back s4 hpm) (bb.back s5 hl5) npl.symm (bb.new hl5) (s5.new hl5) upd_same (keepNe h5 npl) (PRs.new hl5 hPm)
end G

end
local macro_rules | `(tactic| walk_at "call") => `(tactic| (refine' G.w_cnt ?g1 ?_; (case g1 => walk_at "sq")))

local macro_rules | `(tactic| walk_at "call") => `(tactic| (refine' G.i_draw ?g1 ?g2 ?g3 ?_; (case g1 => walk_at "src"); (case g2 => walk_at "ar"); (case g3 => walk_at "ar")))

local macro_rules | `(tactic| walk_at "call") => `(tactic| (refine' G.w_popAt ?g1 ?g2 ?g3 ?g4 ?_; (case g1 => walk_at "hp"); (case g2 => walk_at "ar"); (case g3 => walk_at "ar"); (case g4 => walk_at "ar")))

namespace G
open PySem PySem.Spec PyProof.Rows L2 GX
structure CTB (K : PySem.W.Frag) (A : CA) : Prop where
  c_Web : Cls K A.Web
  n_Web__arrows : NoAttr K A.Web "_arrows"
  n_Web__holders : NoAttr K A.Web "_holders"
  n_Web__known : NoAttr K A.Web "_known"
  n_Web__targets : NoAttr K A.Web "_targets"
  n_Web_pages : NoAttr K A.Web "pages"
  e_NoPage : OexC K A.NoPage
  f_NoPage : PySem.W.findIn K (.ref A.NoPage) "page" = some none
  e_InvalidPointer : OexC K A.InvalidPointer
  f_InvalidPointer : PySem.W.findIn K (.ref A.InvalidPointer) "index" = some none
end G

namespace G
open PySem L2 GX
/-! ### pages that are not there -/
def isOut (n z : Int) : Bool := !(decide (0 ≤ z) && decide (z < n))
theorem in_of {n z : Int} (h : isOut n z = false) : 0 ≤ z ∧ z < n := by
  unfold isOut at h
  simpa using h
theorem isOut_in {n z : Int} (h0 : 0 ≤ z) (h1 : z < n) : isOut n z = false := by
  unfold isOut
  simp [h0, h1]
/-- check_pages: nothing, or NoPage with the first page outside -/
def Checked (K : PySem.W.Frag) (A : CA) (n : Int) (ps : List Int) (H : Hp) (E : XK) (R : Prop) : Prop :=
  (∀ z, ps.find? (isOut n) = some z → Raised A.NoPage "page" (.int z) H E) ∧ (ps.find? (isOut n) = none → R)
def sp_check_pages (K : PySem.W.Frag) (A : CA) : Sp := fun vs H Q E => ∃ (w p dx : Addr) (fs : List (Str × V)) (n : Int) (ps : List Int), vs = [.ref w, .ref p] ∧ H w = some (.ins A.Web dx fs) ∧ fs.lookup ("pages" : Str) = some (V.int n) ∧ SqL K H p (ps.map V.int) ∧
  Checked K A n ps H E (Q .non H)
def t_check_pages (K : PySem.W.Frag) (A : CA) (E : XK) : TS :=
  (tFor (iList K (tVar 1)) (gName 2)
  (tIfS (tNot (tTest (tChain oLe oLt (tC (.int 0)) (tVar 2) (tFld K (tVar 0) "pages")))) (GX.tRaiseO A.NoPage (GX.sp_err K A.NoPage "page") E (tCons (tVar 2) tNil)) tNext))

theorem find_take {n : Int} : ∀ {ps : List Int} {i : Nat} {z : Int}, (∀ y ∈ ps.take i, isOut n y = false) → ps[i]? = some z → isOut n z = true → ps.find? (isOut n) = some z
  | [], i, z, _, h, _ => by cases h
  | a :: l, 0, z, _, h, o => by
    obtain rfl : a = z := Option.some.inj h
    rw [List.find?_cons, o]
  | a :: l, i + 1, z, k, h, o => by
    rw [List.find?_cons, k a (by rw [List.take_succ_cons]; exact List.mem_cons_self)]
    exact find_take (fun y hy => k y (by rw [List.take_succ_cons]; exact List.mem_cons_of_mem _ hy)) h o
theorem rd_check_pages {K : PySem.W.Frag} {A : CA} (T : CTB K A) {vs : List V} {H : Hp} {Q : VK} {E : XK} (h : sp_check_pages K A vs H Q E) :
    t_check_pages K A E { nx := fun _ H' => Q .non H', rt := Q } (start ["web", "pages", "page"] vs) H := by
  obtain ⟨w, p, dx, fs, n, ps, rfl, hw, hn, hp, k1, k2⟩ := h
  unfold t_check_pages
  walk_at "go"
  refine forL (xs := ps.map V.int) (fun i σ H' => ∃ k2 : Option V, σ = [some (.ref w), some (.ref p), k2] ∧ H' = H ∧ ∀ y ∈ ps.take i, isOut n y = false) ?_ ?_ ?_ ?_
  · exact ⟨none, rfl, rfl, fun y hy => by cases hy⟩
  · rintro i σ H1 _ ⟨k2, rfl, rfl, _⟩
    exact hp
  · rintro i x σ H1 hx ⟨k3, rfl, rfl, hin⟩
    obtain ⟨z, hz, rfl⟩ : ∃ z, ps[i]? = some z ∧ x = V.int z := by
      rw [List.getElem?_map] at hx
      cases e : ps[i]? with
      | none => rw [e] at hx; cases hx
      | some z => rw [e] at hx; exact ⟨z, rfl, (Option.some.inj hx).symm⟩
    have no : (h0 : 0 ≤ z) → (h1 : z < n) → ∃ k2 : Option V, [some (V.ref w), some (.ref p), some (.int z)] = [some (.ref w), some (.ref p), k2] ∧ H1 = H1 ∧ ∀ y ∈ ps.take (i + 1), isOut n y = false := fun h0 h1 => ⟨_, rfl, rfl, fun y hy => by
      rw [List.take_succ, hz] at hy
      rcases List.mem_append.mp hy with k | k
      · exact hin y k
      · obtain rfl : y = z := by simpa using k
        exact isOut_in h0 h1⟩
    have out : isOut n z = true → tRaiseO A.NoPage (sp_err K A.NoPage "page") E (tCons (tVar 2) tNil) { nx := fun σ H' => ∃ k2 : Option V, σ = [some (.ref w), some (.ref p), k2] ∧ H' = H1 ∧ ∀ y ∈ ps.take (i + 1), isOut n y = false, rt := Q } [some (V.ref w), some (.ref p), some (.int z)] H1 := fun o =>
      w_raiseO (v := .int z) (H1 := H1) T.e_NoPage T.f_NoPage (fun Q q => by walk_at "go"; exact q) (k1 z (find_take hin hz o))
    walk_at "go"
    refine w_iteD (fun c1 => ?_) (fun c1 => ?_)
    · walk_at "go"
      refine w_fld2 hw T.c_Web T.n_Web_pages hn ?_
      walk_at "go"
      by_cases c2 : z < n
      · rw [decide_eq_true c2]
        walk_at "go"
        exact no c1 c2
      · rw [decide_eq_false c2]
        walk_at "go"
        exact out (by unfold isOut; simp [c2])
    · walk_at "go"
      exact out (by unfold isOut; simp [c1])
  · rintro σ H1 ⟨k3, rfl, rfl, hin⟩
    rw [List.length_map, List.take_length] at hin
    exact k2 (List.find?_eq_none.mpr fun y hy => by rw [hin y hy]; decide)
/-! ### pointers -/
def isPtr (n a b : Int) : Bool := decide (0 ≤ a ∧ a < n ∧ 0 ≤ b ∧ b < n ∧ a ≠ b)
def sp_is_pointer (K : PySem.W.Frag) (A : CA) : Sp := fun vs H Q _ => ∃ (n a b : Int), vs = [.int n, .int a, .int b] ∧ Q (.bl (isPtr n a b)) H
def t_is_pointer (K : PySem.W.Frag) (A : CA) : TS :=
  (tRet (tAndV (tChain oLe oLt (tC (.int 0)) (tVar 1) (tVar 0)) (tAndV (tChain oLe oLt (tC (.int 0)) (tVar 2) (tVar 0)) (tOp rNe (tVar 1) (tVar 2)))))

theorem rd_is_pointer {K : PySem.W.Frag} {A : CA} {vs : List V} {H : Hp} {Q : VK} {E : XK} (h : sp_is_pointer K A vs H Q E) :
    t_is_pointer K A { nx := fun _ H' => Q .non H', rt := Q } (start ["pages", "holder", "target"] vs) H := by
  obtain ⟨n, a, b, rfl, q⟩ := h
  unfold t_is_pointer
  walk_at "go"
  have no : ¬ (0 ≤ a ∧ a < n ∧ 0 ≤ b ∧ b < n ∧ a ≠ b) → Q (.bl false) H := fun c => by
    have e : isPtr n a b = false := decide_eq_false c
    rw [e] at q; exact q
  refine w_iteD (fun c1 => ?_) (fun c1 => ?_)
  · walk_at "go"
    by_cases c2 : a < n
    · rw [decide_eq_true c2]
      walk_at "go"
      refine w_iteD (fun c3 => ?_) (fun c3 => ?_)
      · walk_at "go"
        by_cases c4 : b < n
        · rw [decide_eq_true c4]
          walk_at "go"
          by_cases c5 : a = b
          · rw [decide_eq_true c5]
            exact no (by omega)
          · rw [decide_eq_false c5]
            have e : isPtr n a b = true := decide_eq_true ⟨c1, c2, c3, c4, c5⟩
            rw [e] at q; exact q
        · rw [decide_eq_false c4]
          walk_at "go"
          exact no (by omega)
      · walk_at "go"
        exact no (by omega)
    · rw [decide_eq_false c2]
      walk_at "go"
      exact no (by omega)
  · walk_at "go"
    exact no (by omega)
end G

namespace G
open PySem L2 GX
theorem Raised.at {C : Addr} {f : Str} {v : V} {H H1 : Hp} {E : XK} (e : Same H H1) (r : Raised C f v H E) : Raised C f v H1 E := fun d H' hd e' h => r d H' (e.free hd) (e.trans e') h
/-- the rows before the i-th one are pointers, each for the first time -/
def OkTo (n : Int) (rows : List (Int × Int)) (i : Nat) : Prop := ∀ j r, j < i → rows[j]? = some r → isPtr n r.1 r.2 = true ∧ r ∉ rows.take j
theorem isPtr_iff {n a b : Int} : isPtr n a b = true ↔ 0 ≤ a ∧ a < n ∧ 0 ≤ b ∧ b < n ∧ a ≠ b := by
  unfold isPtr
  exact decide_eq_true_iff
def sp_as_known (K : PySem.W.Frag) (A : CA) : Sp := fun vs H Q E => ∃ (n : Int) (pq : Addr) (us : List V) (rows : List (Int × Int)), vs = [.int n, .ref pq] ∧ H pq = some (.lst us) ∧ Paired (PR H) us rows ∧ us.length ≤ 600 ∧
  (∀ k r, rows[k]? = some r → OkTo n rows k → (isPtr n r.1 r.2 = false ∨ r ∈ rows.take k) → Raised A.InvalidPointer "index" (.int (k : Nat)) H E) ∧
  (OkTo n rows rows.length → ∀ (d : Addr) (H' : Hp), H d = none → Same H H' → H' d = some (.dT (rows.map ent)) → Q (.ref d) H')
theorem has_key {r : Int × Int} : ∀ {l : List (Int × Int)}, r ∈ l → valV (l.map ent) (key r) = some (.bl true)
  | x :: l, h => by
    by_cases c : x = r
    · subst c; exact valV_pos (p := ent x) rfl
    · rw [List.map_cons, valV_neg (p := ent x) (fun e => c (key_inj e))]
      rcases List.mem_cons.mp h with z | z
      · exact absurd z.symm c
      · exact has_key z
def t_as_known (K : PySem.W.Frag) (A : CA) (E : XK) : TS :=
  (tSeq (tAsg tDNewT (gName 2))
  (tSeq (tFor (iEnum K (tCons (tVar 1) tNil)) (gTup K 2 (gCons (gName 3) (gCons (gTup K 2 (gCons (gName 4) (gCons (gName 5) gNil))) gNil)))
  (tSeq (tIfS (tOr (tNot (tB (tCall (sp_is_pointer K A) [] E0 (tCons (tVar 0) (tCons (tVar 4) (tCons (tVar 5) tNil)))))) (tB (tDIn (tTup (tCons (tVar 4) (tCons (tVar 5) tNil))) (tVar 2)))) (GX.tRaiseO A.InvalidPointer (GX.sp_err K A.InvalidPointer "index") E (tCons (tVar 3) tNil)) tNext)
  (sDPut (tVar 2) (tTup (tCons (tVar 4) (tCons (tVar 5) tNil))) (tC (.bl true)))))
  (tRet (tVar 2))))

theorem rd_as_known {K : PySem.W.Frag} {A : CA} (T : CTB K A) {vs : List V} {H : Hp} {Q : VK} {E : XK} (h : sp_as_known K A vs H Q E) :
    t_as_known K A E { nx := fun _ H' => Q .non H', rt := Q } (start ["pages", "pointers", "known", "index", "holder", "target"] vs) H := by
  obtain ⟨n, pq, us, rows, rfl, hq, hP, hl, kW, q⟩ := h
  have hlen := hP.length
  unfold t_as_known
  walk_at "go"
  intro d hd
  walk_at "go"
  refine ⟨pq, us, rfl, SqL.of (keep hq hd), ?_⟩
  refine forE (xs := us) (fun i σ H' => ∃ k3 k4 k5 : Option V, σ = [some (.int n), some (.ref pq), some (.ref d), k3, k4, k5] ∧ OkTo n rows i ∧ Same H H' ∧ H' d = some (.dT ((rows.take i).map ent))) ?_ ?_ ?_ ?_
  · exact ⟨none, none, none, rfl, fun j r hj => absurd hj (Nat.not_lt_zero _), same_new hd, upd_same⟩
  · rintro i σ H1 _ ⟨k3, k4, k5, rfl, _, e, _⟩
    exact SqL.of (e _ _ hq)
  · rintro i x T0 σ H1 hx ⟨k3, k4, k5, rfl, ok, e, hdd⟩ hT
    obtain ⟨r, hr, t, rfl, ht⟩ := Paired.at' hP hx
    have hi : i < us.length := (List.getElem?_eq_some_iff.mp hx).1
    have htT : (upd H1 T0 (.tup [.int (i : Nat), .ref t])) t = some (.tup [.int r.1, .int r.2]) := keep (e _ _ ht) hT
    have hTd : d ≠ T0 := ne_of_none hdd hT
    have out : ∀ (H2 : Hp), Same H1 H2 → (isPtr n r.1 r.2 = false ∨ r ∈ rows.take i) → tRaiseO A.InvalidPointer (sp_err K A.InvalidPointer "index") E (tCons (tVar 3) tNil) { nx := fun _ _ => True, rt := Q } [some (V.int n), some (.ref pq), some (.ref d), some (.int (i : Nat)), some (.int r.1), some (.int r.2)] H2 := fun H2 e2 hb =>
      w_raiseO (v := .int (i : Nat)) (H1 := H2) T.e_InvalidPointer T.f_InvalidPointer (fun Q q => by walk_at "go"; exact q) (Raised.at (e.trans e2) (kW i r hr ok hb))
    walk_at "go"
    refine ⟨n, r.1, r.2, rfl, ?_⟩
    walk_at "go"
    cases hp : isPtr n r.1 r.2 with
    | false =>
      walk_at "go"
      exact out _ (same_new hT) (.inl hp)
    | true =>
    walk_at "go"
    show (tB (tDIn (tTup (tCons (tVar 4) (tCons (tVar 5) tNil))) (tVar 2))) _ _ _
    unfold tDIn
    walk_at "go"
    intro t2 ht2
    walk_at "go"
    refine ⟨d, _, rfl, DGet.t (k := key r) (keep (keep hdd hT) ht2) upd_same, ?_⟩
    by_cases hm : r ∈ rows.take i
    · rw [has_key hm]
      walk_at "go"
      exact w_iteT (out _ ((same_new hT).trans (same_new ht2)) (.inr hm))
    rw [no_key hm]
    walk_at "go"
    refine w_iteF ?_
    unfold sDPut
    walk_at "go"
    intro t3 ht3
    have hd3 : (upd (upd (upd H1 T0 (.tup [.int (i : Nat), .ref t])) t2 (.tup [.int r.1, .int r.2])) t3 (.tup [.int r.1, .int r.2])) d = some (.dT ((rows.take i).map ent)) := keep (keep (keep hdd hT) ht2) ht3
    refine ⟨d, _, rfl, DPut.t (k := key r) hd3 upd_same (small1000 (by rw [List.length_map, List.length_take]; omega)), ?_⟩
    rw [putK_new _ (no_key hm)]
    refine ⟨_, _, _, rfl, ?_, same_mut (((e.trans (same_new hT)).trans (same_new ht2)).trans (same_new ht3)) hd, ?_⟩
    · intro j s hj hs
      by_cases c : j < i
      · exact ok j s c hs
      · obtain rfl : j = i := by omega
        rw [hr] at hs
        cases hs
        exact ⟨hp, hm⟩
    · rw [List.take_succ, hr, List.map_append]
      exact upd_same
  · rintro σ H1 ⟨k3, k4, k5, rfl, ok, e, hdd⟩
    rw [hlen, List.take_length] at hdd
    rw [hlen] at ok
    walk_at "go"
    exact q ok d H1 hd e hdd
/-! ### tables of lists -/
structure TabAt (H : Hp) (p : Addr) (ls : List (List Int)) : Prop where
  ex : ∃ qs : List Addr, H p = some (.lst (qs.map V.ref)) ∧ qs.length = ls.length ∧ ∀ (k : Nat) (q : Addr) (l : List Int), qs[k]? = some q → ls[k]? = some l → H q = some (.lst (l.map V.int))
theorem TabAt.same {H H' : Hp} {p : Addr} {ls : List (List Int)} (e : Same H H') (h : TabAt H p ls) : TabAt H' p ls := let ⟨qs, a, b, c⟩ := h.ex; ⟨qs, e _ _ a, b, fun k q l x y => e _ _ (c k q l x y)⟩
def grp (rows : List (Int × Int)) (k : Nat) : List Int := (rows.filter fun r => decide (r.1 = (k : Int))).map (·.2)
def grps (n : Int) (rows : List (Int × Int)) : List (List Int) := (List.range n.toNat).map (grp rows)
theorem grp_snoc {rows : List (Int × Int)} {r : Int × Int} {k : Nat} : grp (rows ++ [r]) k = if r.1 = (k : Int) then grp rows k ++ [r.2] else grp rows k := by
  unfold grp
  rw [List.filter_append, List.map_append]
  by_cases c : r.1 = (k : Int)
  · simp [c]
  · simp [c]
/-- the heap without what stands at l -/
def cutL (l : Addr) (H : Hp) : Hp := fun b => if b = l then none else H b
theorem cutL_at {l b : Addr} {H : Hp} {o : HO} (h : H b = some o) (n : b ≠ l) : cutL l H b = some o := by
  unfold cutL; rw [if_neg n]; exact h
theorem cutL_same {l : Addr} {H H' : Hp} (e : Same H H') : Same (cutL l H) (cutL l H') := fun b o h => by
  unfold cutL at h ⊢
  by_cases c : b = l
  · rw [if_pos c] at h; cases h
  · rw [if_neg c] at h ⊢; exact e b o h
theorem cutL_upd {l p : Addr} {H : Hp} {o : HO} (n : p ≠ l) : cutL l (upd H p o) = upd (cutL l H) p o := funext fun b => by
  by_cases c : b = p
  · subst c; rw [upd_same]; exact cutL_at upd_same n
  · rw [upd_ne c]
    unfold cutL
    rw [upd_ne c]
theorem cutL_of {l : Addr} {H H' : Hp} (e : Same H H') (h : H l = none) : Same H (cutL l H') := fun b o hb => cutL_at (e b o hb) (ne_of_none hb h)
theorem cutL_to {l : Addr} {H H' : Hp} (h : ∀ b o, b ≠ l → H b = some o → H' b = some o) : Same (cutL l H) H' := fun b o hb => by
  unfold cutL at hb
  by_cases c : b = l
  · rw [if_pos c] at hb; cases hb
  · rw [if_neg c] at hb; exact h b o c hb
def sp_grouped (K : PySem.W.Frag) (A : CA) : Sp := fun vs H Q _ => ∃ (n : Int) (pq : Addr) (us : List V) (rows : List (Int × Int)), vs = [.int n, .ref pq] ∧ H pq = some (.lst us) ∧ Paired (PR H) us rows ∧ (∀ r ∈ rows, 0 ≤ r.1 ∧ r.1 < n) ∧ us.length ≤ 600 ∧ 0 ≤ n ∧ n ≤ 500 ∧
  ∀ (f : Addr) (H' : Hp), H f = none → Same H H' → TabAt H' f (grps n rows) → (∀ (l : Addr) (o : HO), H l = some o → TabAt (cutL l H') f (grps n rows)) → Q (.ref f) H'
def t_grouped (K : PySem.W.Frag) (A : CA) : TS :=
  (tSeq (tAsg (tLc (iRng1 (tCons (tVar 0) tNil)) (gName 3) tYes (tLst tNil) [3]) (gName 2))
  (tSeq (tFor (iList K (tVar 1)) (gTup K 2 (gCons (gName 4) (gCons (gName 5) gNil)))
  (tDrop (tBM K "list" rAppend (tOp (rIxL K) (tVar 2) (tVar 4)) (tCons (tVar 5) tNil))))
  (tRet (tVar 2))))

theorem rd_grouped {K : PySem.W.Frag} {A : CA} {vs : List V} {H : Hp} {Q : VK} {E : XK} (h : sp_grouped K A vs H Q E) :
    t_grouped K A { nx := fun _ H' => Q .non H', rt := Q } (start ["pages", "pairs", "found", "_", "page", "other"] vs) H := by
  obtain ⟨n, pq, us, rows, rfl, hq, hP, hR, hl, n0, n1, q⟩ := h
  have hlen := hP.length
  unfold t_grouped
  walk_at "go"
  refine lcR (fun Dl i H' => Same H H' ∧ ∃ ls : List Addr, H' Dl = some (.lst (ls.map V.ref)) ∧ ls.length = i ∧ ls.Nodup ∧ ∀ l ∈ ls, H l = none ∧ l ≠ Dl ∧ H' l = some (.lst [])) (fun Dl hD => ⟨same_new hD, [], upd_same, rfl, List.nodup_nil, fun _ h => by cases h⟩) ?_ ?_
  · rintro Dl i H1 hD hi ⟨e, ls, hL, hll, hnd, hls⟩
    walk_at "go"
    intro l hl0
    have hL1 := keep (o' := .lst []) hL hl0
    walk_at "go"
    refine ⟨same_mut (e.trans (same_new hl0)) hD, ls ++ [l], by rw [List.map_append]; exact upd_same, by simp [hll], ?_, fun x hx => ?_⟩
    · refine List.nodup_append.mpr ⟨hnd, List.nodup_cons.mpr ⟨List.not_mem_nil, List.nodup_nil⟩, fun a ha b hb => ?_⟩
      rw [List.mem_singleton.mp hb]
      exact ne_of_none (hls a ha).2.2 hl0
    rcases List.mem_append.mp hx with k | k
    · obtain ⟨a1, a2, a3⟩ := hls x k
      exact ⟨a1, a2, keepNe (keep a3 hl0) a2⟩
    · rw [List.mem_singleton.mp k]
      have hne : l ≠ Dl := (ne_of_none hL hl0).symm
      exact ⟨e.free hl0, hne, keepNe upd_same hne⟩
  · rintro Dl H1 hD ⟨e, ls, hL, hll, hnd, hls⟩
    have hq1 := e _ _ hq
    walk_at "go"
    refine forL (xs := us) (fun i σ H' => ∃ k3 k4 k5 : Option V, σ = [some (.int n), some (.ref pq), some (.ref Dl), k3, k4, k5] ∧ Same H H' ∧ H' Dl = some (.lst (ls.map V.ref)) ∧ ∀ k l, ls[k]? = some l → H' l = some (.lst ((grp (rows.take i) k).map V.int))) ?_ ?_ ?_ ?_
    · exact ⟨_, _, _, rfl, e, hL, fun k l hl => (hls l (List.mem_of_getElem? hl)).2.2⟩
    · rintro i σ H2 _ ⟨k3, k4, k5, rfl, e2, _⟩
      exact SqL.of (e2 _ _ hq)
    · rintro i x σ H2 hx ⟨k3, k4, k5, rfl, e2, hL2, hls2⟩
      obtain ⟨r, hr, t, rfl, ht⟩ := Paired.at' hP hx
      have hb := hR r (List.mem_of_getElem? hr)
      have hi : i < us.length := (List.getElem?_eq_some_iff.mp hx).1
      have ht2 := e2 _ _ ht
      have hk : r.1.toNat < ls.length := by omega
      have hm := List.getElem_mem hk
      have hxx : atI (ls.map V.ref) r.1 = some (V.ref ls[r.1.toNat]) := atn (j := r.1.toNat) (by omega) (by simp [hk])
      have hgl : ls[r.1.toNat]? = some ls[r.1.toNat] := List.getElem?_eq_getElem hk
      obtain ⟨a1, a2, _⟩ := hls _ hm
      have a3 := hls2 _ _ hgl
      have a4 : (grp (rows.take i) r.1.toNat).length ≤ 600 := by
        unfold grp
        rw [List.length_map]
        refine Nat.le_trans (List.length_filter_le _ _) ?_
        rw [List.length_take]; omega
      generalize hle : ls[r.1.toNat] = l at hxx a1 a2 a3 hgl
      have a5 : ((grp (rows.take i) r.1.toNat).map V.int).length ≤ 600 := by rw [List.length_map]; exact a4
      walk_at "go"
      refine ⟨_, _, _, rfl, same_mut e2 a1, keepNe hL2 a2.symm, fun k y hy => ?_⟩
      rw [List.take_succ, hr]
      show _ = some (HO.lst ((grp (rows.take i ++ [r]) k).map V.int))
      rw [grp_snoc]
      by_cases c : k = r.1.toNat
      · subst c
        rw [hgl] at hy
        cases hy
        rw [if_pos (by omega), List.map_append]
        exact upd_same
      · rw [if_neg (by omega)]
        have hyl : y ≠ l := fun z => c (nd_ix hnd hy (by rw [z]; exact hgl))
        exact keepNe (hls2 k y hy) hyl
    · rintro σ H2 ⟨k3, k4, k5, rfl, e2, hL2, hls2⟩
      walk_at "go"
      have T : ∀ H3 : Hp, H3 Dl = some (.lst (ls.map V.ref)) → (∀ k l, ls[k]? = some l → H3 l = some (.lst ((grp (rows.take us.length) k).map V.int))) → TabAt H3 Dl (grps n rows) := fun H3 hL3 hls3 => by
        refine ⟨ls, hL3, ?_, fun k p l hk hl2 => ?_⟩
        · unfold grps; rw [List.length_map, List.length_range]; omega
        · have z := hls3 k p hk
          rw [hlen, List.take_length] at z
          unfold grps at hl2
          rw [List.getElem?_map] at hl2
          have hkn : k < n.toNat := by
            have := (List.getElem?_eq_some_iff.mp hk).1
            omega
          rw [List.getElem?_range hkn] at hl2
          cases hl2
          exact z
      exact q Dl H2 hD e2 (T H2 hL2 hls2) fun l o hl => T _ (cutL_at hL2 (ne_of_none hl hD).symm) fun k p hk => cutL_at (hls2 k p hk) (ne_of_none hl (hls p (List.mem_of_getElem? hk)).1).symm
end G

namespace G
open PySem L2 GX
def swp (r : Int × Int) : Int × Int := (r.2, r.1)
structure WebX (A : CA) (H : Hp) (w : Addr) (n : Int) (rs : List (Int × Int)) : Prop where
  ex : ∃ (dx d ar tg hd : Addr) (us : List V) (ks : List (Int × Int)), H w = some (.ins A.Web dx (webFs n d ar tg hd)) ∧ H d = some (.dT (ks.map ent)) ∧ (∀ r, r ∈ ks ↔ r ∈ rs) ∧ H ar = some (.lst us) ∧ Paired (PR H) us rs ∧ us.length ≤ 600 ∧
    TabAt H tg (grps n rs) ∧ TabAt H hd (grps n (rs.map swp))
theorem WebX.same {A : CA} {H H' : Hp} {w : Addr} {n : Int} {rs : List (Int × Int)} (e : Same H H') (h : WebX A H w n rs) : WebX A H' w n rs :=
  let ⟨dx, d, ar, tg, hd, us, ks, h1, h2, h3, h4, h5, h6, h7, h8⟩ := h.ex; ⟨dx, d, ar, tg, hd, us, ks, e _ _ h1, e _ _ h2, h3, e _ _ h4, PRs.same e h5, h6, h7.same e, h8.same e⟩
theorem TabAt.mutI {H : Hp} {w p C dx : Addr} {fs : List (Str × V)} {o : HO} {ls : List (List Int)} (hw : H w = some (.ins C dx fs)) (h : TabAt H p ls) : TabAt (upd H w o) p ls :=
  let ⟨qs, a, b, c⟩ := h.ex
  ⟨qs, keepNe a (ne_of a hw (by intro z; cases z)), b, fun k q l x y => keepNe (c k q l x y) (ne_of (c k q l x y) hw (by intro z; cases z))⟩
theorem OkTo.rg {n : Int} {rows : List (Int × Int)} (h : OkTo n rows rows.length) : RG n rows := by
  refine ⟨fun r hr => ?_, ?_⟩
  · obtain ⟨j, hj⟩ := List.getElem?_of_mem hr
    exact isPtr_iff.mp (h j r (List.getElem?_eq_some_iff.mp hj).1 hj).1
  · refine List.pairwise_iff_getElem.mpr fun i j hi hj hij e => ?_
    have h1 := List.getElem?_eq_getElem hj
    have h2 := (h j _ hj h1).2
    refine h2 (List.mem_of_getElem? (i := i) ?_)
    rw [List.getElem?_take_of_lt hij, List.getElem?_eq_getElem hi, e]
def sp_Web_init (K : PySem.W.Frag) (A : CA) : Sp := fun vs H Q E => ∃ (H0 : Hp) (w dx pq : Addr) (n : Int) (us : List V) (rows : List (Int × Int)), vs = [.ref w, .int n, .ref pq] ∧ H = upd (upd H0 dx (.own w)) w (.ins A.Web dx []) ∧ H0 w = none ∧ H0 dx = none ∧ dx ≠ w ∧ H0 pq = some (.lst us) ∧ Paired (PR H0) us rows ∧ us.length ≤ 600 ∧ 1 ≤ n ∧ n ≤ 500 ∧
  (∀ k r, rows[k]? = some r → OkTo n rows k → (isPtr n r.1 r.2 = false ∨ r ∈ rows.take k) → Raised A.InvalidPointer "index" (.int (k : Nat)) H0 E) ∧
  (OkTo n rows rows.length → ∀ (rs : List (Int × Int)) (H' : Hp), SortedOf rows rs → RG n rs → Same H0 H' → WebX A H' w n rs → (∀ (l : Addr) (vs : List V), H0 l = some (.lst vs) → WebX A (cutL l H') w n rs) → Q .non H')
def t_Web_init (K : PySem.W.Frag) (A : CA) (E : XK) : TS :=
  (tSeq (sFld K (tVar 0) (tVar 1) "pages")
  (tSeq (sFld K (tVar 0) (tCall (sp_as_known K A) [] E (tCons (tVar 1) (tCons (tVar 2) tNil))) "_known")
  (tSeq (sFld K (tVar 0) (tCB (rSortedPO K) (tCons (tCB oListD (tCons (tFld K (tVar 0) "_known") tNil)) tNil)) "_arrows")
  (tSeq (sFld K (tVar 0) (tCall (sp_grouped K A) [] E0 (tCons (tVar 1) (tCons (tFld K (tVar 0) "_arrows") tNil))) "_targets")
  (sFld K (tVar 0) (tCall (sp_grouped K A) [] E0 (tCons (tVar 1) (tCons (tLc (iList K (tFld K (tVar 0) "_arrows")) (gTup K 2 (gCons (gName 3) (gCons (gName 4) gNil))) tYes (tTup (tCons (tVar 4) (tCons (tVar 3) tNil))) [3, 4]) tNil))) "_holders")))))

theorem rd_Web_init {K : PySem.W.Frag} {A : CA} (T : CTB K A) {vs : List V} {H : Hp} {Q : VK} {E : XK} (h : sp_Web_init K A vs H Q E) :
    t_Web_init K A E { nx := fun _ H' => Q .non H', rt := Q } (start ["self", "pages", "pointers", "holder", "target"] vs) H := by
  obtain ⟨H0, w, dx, pq, n, us, rows, rfl, rfl, fw, fdx, ndx, hq, hP, hl, n1, n2, kW, q⟩ := h
  have hlen := hP.length
  have e0 : Same H0 (upd (upd H0 dx (.own w)) w (.ins A.Web dx [])) := same_mut (same_new fdx) fw
  unfold t_Web_init
  walk_at "go"
  refine w_sfld2 upd_same T.c_Web T.n_Web_pages (by decide) ?_
  -- the instance stands at w, all else as it was
  have st : ∀ (fs : List (Str × V)) (H1 H2 : Hp), Same H0 H1 → Same H0 (upd H1 w (.ins A.Web dx fs)) := fun fs H1 _ e => same_mut e fw
  have e1 := same_mut (o := .ins A.Web dx (putF "pages" (.int n) [])) e0 fw
  have hw1 : (upd (upd (upd H0 dx (.own w)) w (.ins A.Web dx [])) w (.ins A.Web dx (putF "pages" (.int n) []))) w = some (.ins A.Web dx (putF "pages" (.int n) [])) := upd_same
  generalize upd (upd (upd H0 dx (.own w)) w (.ins A.Web dx [])) w (.ins A.Web dx (putF "pages" (.int n) [])) = H1 at e1 hw1
  walk_at "go"
  refine ⟨n, pq, us, rows, rfl, e1 _ _ hq, PRs.same e1 hP, hl, fun k r hk ok hb => Raised.at e1 (kW k r hk ok hb), fun ok d H2 fd e2 hd => ?_⟩
  have hR := OkTo.rg ok
  walk_at "go"
  refine w_sfld2 (e2 _ _ hw1) T.c_Web T.n_Web__known (Nat.lt_of_le_of_lt (len_put1 (Nat.zero_le 0)) (by decide)) ?_
  have nd : d ≠ w := (ne_of_none hw1 fd).symm
  have E2 := same_mut (o := .ins A.Web dx (putF "_known" (.ref d) (putF "pages" (.int n) []))) (e1.trans e2) fw
  have hw2 : (upd H2 w (.ins A.Web dx (putF "_known" (.ref d) (putF "pages" (.int n) [])))) w = some (.ins A.Web dx (putF "_known" (.ref d) (putF "pages" (.int n) []))) := upd_same
  have hd2 : (upd H2 w (.ins A.Web dx (putF "_known" (.ref d) (putF "pages" (.int n) [])))) d = some (.dT (rows.map ent)) := keepNe hd nd
  generalize upd H2 w (.ins A.Web dx (putF "_known" (.ref d) (putF "pages" (.int n) []))) = H3 at E2 hw2 hd2
  walk_at "go"
  refine w_fld2 hw2 T.c_Web T.n_Web__known (by rw [lookup_putF, if_pos rfl]) ?_
  walk_at "go"
  refine ⟨d, _, rfl, Or.inl hd2, fun kl bs fkl hk => ?_⟩
  have hkP : Paired (PR (upd H3 kl (.lst (bs.map V.ref)))) (bs.map V.ref) rows := by
    have hk2 : ∀ {l : List (Int × Int)} {cs : List Addr}, IsKeys H3 (l.map ent) cs → Paired (PR H3) (cs.map V.ref) l := fun {l} => by
      induction l with
      | nil => intro cs h; cases h; exact .nil
      | cons x r ih => intro cs h; cases h with
        | cons f g => exact .cons ⟨_, rfl, f⟩ (ih g)
    exact PRs.new fkl (hk2 hk)
  have hkl : (upd H3 kl (.lst (bs.map V.ref))) kl = some (.lst (bs.map V.ref)) := upd_same
  have E4 := E2.trans (same_new (o := .lst (bs.map V.ref)) fkl)
  have hd4 : (upd H3 kl (.lst (bs.map V.ref))) d = some (.dT (rows.map ent)) := keep hd2 fkl
  have hw4 : (upd H3 kl (.lst (bs.map V.ref))) w = _ := keep hw2 fkl
  generalize upd H3 kl (.lst (bs.map V.ref)) = H4 at hkP hkl E4 hw4 hd4
  walk_at "go"
  refine w_sortP hkl hkP fun rs ys ar hS far hyl hyP => ?_
  have hyl2 : ys.length ≤ 600 := by have := hkP.length; omega
  have harw : ar ≠ w := (ne_of_none hw4 far).symm
  walk_at "go"
  refine w_sfld2 (keep hw4 far) T.c_Web T.n_Web__arrows (Nat.lt_of_le_of_lt (len_put1 (len_put1 (Nat.zero_le 0))) (by decide)) ?_
  have E5 := same_mut (o := .ins A.Web dx (putF "_arrows" (.ref ar) (putF "_known" (.ref d) (putF "pages" (.int n) [])))) (E4.trans (same_new (o := .lst ys) far)) fw
  have har5 : (upd (upd H4 ar (.lst ys)) w (.ins A.Web dx (putF "_arrows" (.ref ar) (putF "_known" (.ref d) (putF "pages" (.int n) []))))) ar = some (.lst ys) := keepNe upd_same harw
  have hw5 : (upd (upd H4 ar (.lst ys)) w (.ins A.Web dx (putF "_arrows" (.ref ar) (putF "_known" (.ref d) (putF "pages" (.int n) []))))) w = some (.ins A.Web dx (putF "_arrows" (.ref ar) (putF "_known" (.ref d) (putF "pages" (.int n) [])))) := upd_same
  have hP5 : Paired (PR (upd (upd H4 ar (.lst ys)) w (.ins A.Web dx (putF "_arrows" (.ref ar) (putF "_known" (.ref d) (putF "pages" (.int n) [])))))) ys rs := (PRs.new far hyP).mono fun v r ⟨t, e, ht⟩ => ⟨t, e, keepNe ht (ne_of ht (keep hw4 far) (by intro z; cases z))⟩
  have hd5 : (upd (upd H4 ar (.lst ys)) w (.ins A.Web dx (putF "_arrows" (.ref ar) (putF "_known" (.ref d) (putF "pages" (.int n) []))))) d = some (.dT (rows.map ent)) := keepNe (keep hd4 far) nd
  generalize upd (upd H4 ar (.lst ys)) w (.ins A.Web dx (putF "_arrows" (.ref ar) (putF "_known" (.ref d) (putF "pages" (.int n) [])))) = H5 at E5 har5 hw5 hP5 hd5
  have hRs := hS.rg hR
  have lk5 : (putF "_arrows" (V.ref ar) (putF "_known" (.ref d) (putF "pages" (.int n) []))).lookup ("_arrows" : Str) = some (.ref ar) := by rw [lookup_putF, if_pos rfl]
  walk_at "go"
  refine w_fld2 hw5 T.c_Web T.n_Web__arrows lk5 ?_
  walk_at "go"
  refine ⟨n, ar, ys, rs, rfl, har5, hP5, fun r hr => ⟨(hRs.bd r hr).1, (hRs.bd r hr).2.1⟩, hyl2, by omega, n2, fun tg H6 ftg e6 htg ctg => ?_⟩
  walk_at "go"
  refine w_sfld2 (e6 _ _ hw5) T.c_Web T.n_Web__targets (Nat.lt_of_le_of_lt (len_put1 (len_put1 (len_put1 (Nat.zero_le 0)))) (by decide)) ?_
  have ntg : tg ≠ w := (ne_of_none hw5 ftg).symm
  have E7 := same_mut (o := .ins A.Web dx (putF "_targets" (.ref tg) (putF "_arrows" (.ref ar) (putF "_known" (.ref d) (putF "pages" (.int n) []))))) (E5.trans e6) fw
  have har7 : (upd H6 w (.ins A.Web dx (putF "_targets" (.ref tg) (putF "_arrows" (.ref ar) (putF "_known" (.ref d) (putF "pages" (.int n) [])))))) ar = some (.lst ys) := keepNe (e6 _ _ har5) harw
  have hw7 : (upd H6 w (.ins A.Web dx (putF "_targets" (.ref tg) (putF "_arrows" (.ref ar) (putF "_known" (.ref d) (putF "pages" (.int n) [])))))) w = some (.ins A.Web dx (putF "_targets" (.ref tg) (putF "_arrows" (.ref ar) (putF "_known" (.ref d) (putF "pages" (.int n) []))))) := upd_same
  have hP7 : Paired (PR (upd H6 w (.ins A.Web dx (putF "_targets" (.ref tg) (putF "_arrows" (.ref ar) (putF "_known" (.ref d) (putF "pages" (.int n) []))))))) ys rs := (PRs.same e6 hP5).mono fun v r ⟨t, e, ht⟩ => ⟨t, e, keepNe ht (ne_of ht (e6 _ _ hw5) (by intro z; cases z))⟩
  have hd7 : (upd H6 w (.ins A.Web dx (putF "_targets" (.ref tg) (putF "_arrows" (.ref ar) (putF "_known" (.ref d) (putF "pages" (.int n) [])))))) d = some (.dT (rows.map ent)) := keepNe (e6 _ _ hd5) nd
  have htg7 := TabAt.mutI (o := .ins A.Web dx (putF "_targets" (.ref tg) (putF "_arrows" (.ref ar) (putF "_known" (.ref d) (putF "pages" (.int n) []))))) (e6 _ _ hw5) htg
  have ctg7 : ∀ (l : Addr) (vs : List V), H0 l = some (.lst vs) → TabAt (cutL l (upd H6 w (.ins A.Web dx (putF "_targets" (.ref tg) (putF "_arrows" (.ref ar) (putF "_known" (.ref d) (putF "pages" (.int n) []))))))) tg (grps n rs) := fun l vs hl => by
    have nw : w ≠ l := (ne_of_none hl fw).symm
    rw [cutL_upd nw]
    exact TabAt.mutI (cutL_at (e6 _ _ hw5) nw) (ctg l _ (E5 _ _ hl))
  generalize upd H6 w (.ins A.Web dx (putF "_targets" (.ref tg) (putF "_arrows" (.ref ar) (putF "_known" (.ref d) (putF "pages" (.int n) []))))) = H7 at E7 har7 hw7 hP7 hd7 htg7 ctg7
  have lk7 : (putF "_targets" (V.ref tg) (putF "_arrows" (V.ref ar) (putF "_known" (.ref d) (putF "pages" (.int n) [])))).lookup ("_arrows" : Str) = some (.ref ar) := by rw [lookup_putF, if_neg (by decide +kernel), lookup_putF, if_pos rfl]
  walk_at "go"
  refine w_fld2 hw7 T.c_Web T.n_Web__arrows lk7 ?_
  walk_at "go"
  refine lcL (xs := ys) (fun Dl i H' => Same H7 H' ∧ ∃ ws, H' Dl = some (.lst ws) ∧ ws.length = i ∧ Paired (PR H') ws ((rs.map fun r => (r.2, r.1)).take i)) (fun Dl hD => ⟨same_new hD, [], upd_same, rfl, .nil⟩) (fun Dl i H' hD hi ⟨e, _⟩ => SqL.of (e _ _ har7)) ?_ ?_
  · rintro Dl i x H8 hD hx ⟨e, ws, hDl, hwl, hW⟩
    obtain ⟨r, hr, t, rfl, ht⟩ := Paired.at' hP7 hx
    have hi : i < ys.length := (List.getElem?_eq_some_iff.mp hx).1
    have ht8 := e _ _ ht
    walk_at "go"
    intro t2 ht2
    walk_at "go"
    refine ⟨same_mut (e.trans (same_new ht2)) hD, _, upd_same, by simp [hwl], ?_⟩
    rw [List.take_succ, List.getElem?_map, hr]
    exact push_row hDl hW ht2
  · rintro Dl H8 hD ⟨e, ws, hDl, hwl, hW⟩
    have hyrs := hP7.length
    rw [hyrs, List.take_of_length_le (by rw [List.length_map]; exact Nat.le_refl _)] at hW
    walk_at "go"
    refine ⟨n, Dl, ws, _, rfl, hDl, hW, fun r hr => ?_, by omega, by omega, n2, fun hd H9 fhd e9 hhd chd => ?_⟩
    · obtain ⟨y, hy, rfl⟩ := List.mem_map.mp hr
      exact ⟨(hRs.bd y hy).2.2.1, (hRs.bd y hy).2.2.2.1⟩
    · walk_at "go"
      have hw9 := e9 _ _ (e _ _ hw7)
      refine w_sfld2 hw9 T.c_Web T.n_Web__holders (Nat.lt_of_le_of_lt (len_put1 (len_put1 (len_put1 (len_put1 (Nat.zero_le 0))))) (by decide)) ?_
      have hmut := fun {p : Addr} {ls : List (List Int)} (h : TabAt H9 p ls) => TabAt.mutI (o := .ins A.Web dx (putF "_holders" (.ref hd) (putF "_targets" (.ref tg) (putF "_arrows" (.ref ar) (putF "_known" (.ref d) (putF "pages" (.int n) [])))))) hw9 h
      refine q ok rs _ hS hRs (same_mut ((E7.trans e).trans e9) fw) ⟨dx, d, ar, tg, hd, ys, rows, upd_same, keepNe (e9 _ _ (e _ _ hd7)) nd, fun r => hS.perm.mem_iff.symm, keepNe (e9 _ _ (e _ _ har7)) harw, ?_, hyl2, hmut ((htg7.same e).same e9), hmut hhd⟩ fun l vs hl => ?_
      · exact (PRs.same e9 (PRs.same e hP7)).mono fun v r ⟨t, z, ht⟩ => ⟨t, z, keepNe ht (ne_of ht hw9 (by intro z; cases z))⟩
      · have nw : w ≠ l := (ne_of_none hl fw).symm
        have hl9 := e9 _ _ (e _ _ (E7 _ _ hl))
        rw [cutL_upd nw]
        have cut := fun {p : Addr} {ls : List (List Int)} (h : TabAt (cutL l H9) p ls) => TabAt.mutI (o := .ins A.Web dx (putF "_holders" (.ref hd) (putF "_targets" (.ref tg) (putF "_arrows" (.ref ar) (putF "_known" (.ref d) (putF "pages" (.int n) [])))))) (cutL_at hw9 nw) h
        refine ⟨dx, d, ar, tg, hd, ys, rows, upd_same, keepNe (cutL_at (e9 _ _ (e _ _ hd7)) (ne_of_none (e1 _ _ hl) fd).symm) nd, fun r => hS.perm.mem_iff.symm, keepNe (cutL_at (e9 _ _ (e _ _ har7)) (ne_of_none (E4 _ _ hl) far).symm) harw, ?_, hyl2, cut (((ctg7 l vs hl).same (cutL_same e)).same (cutL_same e9)), cut (chd l _ (e _ _ (E7 _ _ hl)))⟩
        exact (PRs.same e9 (PRs.same e hP7)).mono fun v r ⟨t, z, ht⟩ => ⟨t, z, keepNe (cutL_at ht (ne_of ht hl9 (by intro z; cases z))) (ne_of ht hw9 (by intro z; cases z))⟩
end G

namespace G
open PySem L2 GX
theorem web_targets {n : Int} {d ar tg hd : Addr} : (webFs n d ar tg hd).lookup ("_targets" : Str) = some (.ref tg) := by
  unfold webFs
  rw [lookup_putF, if_neg (by decide +kernel), lookup_putF, if_pos rfl]
theorem web_holders {n : Int} {d ar tg hd : Addr} : (webFs n d ar tg hd).lookup ("_holders" : Str) = some (.ref hd) := by
  unfold webFs
  rw [lookup_putF, if_pos rfl]
theorem web_known {n : Int} {d ar tg hd : Addr} : (webFs n d ar tg hd).lookup ("_known" : Str) = some (.ref d) := by
  unfold webFs
  rw [lookup_putF, if_neg (by decide +kernel), lookup_putF, if_neg (by decide +kernel), lookup_putF, if_neg (by decide +kernel), lookup_putF, if_pos rfl]
theorem i_check {K : PySem.W.Frag} {A : CA} {H : Hp} {Q : VK} {E : XK} {w q dx : Addr} {fs : List (Str × V)} {n p : Int} (hw : H w = some (.ins A.Web dx fs)) (hn : fs.lookup ("pages" : Str) = some (.int n)) (hq : H q = some (.lst [.int p]))
    (bad : isOut n p = true → Raised A.NoPage "page" (.int p) H E) (good : 0 ≤ p → p < n → Q .non H) : sp_check_pages K A [.ref w, .ref q] H Q E := by
  refine ⟨w, q, dx, fs, n, [p], rfl, hw, hn, SqL.of hq, fun z hz => ?_, fun hz => ?_⟩
  · have hz1 := List.find?_some hz
    have hz2 : z = p := List.mem_singleton.mp (List.mem_of_find?_eq_some hz)
    subst hz2
    exact bad hz1
  · have h1 := List.find?_eq_none.mp hz p List.mem_cons_self
    have h2 := in_of (n := n) (z := p) (by simpa using h1)
    exact good h2.1 h2.2
theorem TabAt.get {H : Hp} {t : Addr} {n : Int} {rows : List (Int × Int)} (h : TabAt H t (grps n rows)) {p : Int} (h0 : 0 ≤ p) (h1 : p < n) : ∃ (qs : List V) (q : Addr), H t = some (.lst qs) ∧ atI qs p = some (.ref q) ∧ H q = some (.lst ((grp rows p.toNat).map V.int)) := by
  obtain ⟨qs, a, b, c⟩ := h.ex
  have hp : p.toNat < n.toNat := by omega
  have hq : p.toNat < qs.length := by
    rw [b]; unfold grps; rw [List.length_map, List.length_range]; exact hp
  refine ⟨_, qs[p.toNat], a, at_of (j := p.toNat) (by omega) (by simp [hq]), c p.toNat _ _ (List.getElem?_eq_getElem hq) ?_⟩
  unfold grps
  rw [List.getElem?_map, List.getElem?_range hp]
  rfl
def Told (A : CA) (n p : Int) (l : List Int) (H : Hp) (Q : VK) (E : XK) : Prop :=
  (isOut n p = true → Raised A.NoPage "page" (.int p) H E) ∧ (0 ≤ p → p < n → ∀ (q : Addr) (H' : Hp), H q = none → Same H H' → H' q = some (.lst (l.map V.int)) → Q (.ref q) H')
def sp_Web_holders (K : PySem.W.Frag) (A : CA) : Sp := fun vs H Q E => ∃ (w : Addr) (n p : Int) (rs : List (Int × Int)), vs = [.ref w, .int p] ∧ WebX A H w n rs ∧ Told A n p (grp (rs.map swp) p.toNat) H Q E
def t_Web_holders (K : PySem.W.Frag) (A : CA) (E : XK) : TS :=
  (tSeq (tDrop (tCall (sp_check_pages K A) [] E (tCons (tVar 0) (tCons (tLst (tCons (tVar 1) tNil)) tNil))))
  (tRet (tCB (oListOf K) (tCons (tOp (rIxL K) (tFld K (tVar 0) "_holders") (tVar 1)) tNil))))

theorem rd_Web_holders {K : PySem.W.Frag} {A : CA} (T : CTB K A) {vs : List V} {H : Hp} {Q : VK} {E : XK} (h : sp_Web_holders K A vs H Q E) :
    t_Web_holders K A E { nx := fun _ H' => Q .non H', rt := Q } (start ["self", "page"] vs) H := by
  obtain ⟨w, n, p, rs, rfl, hW, k1, k2⟩ := h
  obtain ⟨dx, d, ar, tg, hd, us, ks, h1, _, _, _, _, _, _, ht⟩ := hW.ex
  unfold t_Web_holders
  walk_at "go"
  intro q hq
  have e := same_new (o := .lst [V.int p]) hq
  walk_at "go"
  refine i_check (keep h1 hq) web_pages upd_same (fun o => Raised.at e (k1 o)) fun p0 p1 => ?_
  walk_at "go"
  refine w_fld2 (keep h1 hq) T.c_Web T.n_Web__holders web_holders ?_
  obtain ⟨qs, r, t1, t2, t3⟩ := (ht.same e).get p0 p1
  walk_at "go"
  intro l hl
  exact k2 p0 p1 l _ (e.free hl) (e.trans (same_new hl)) upd_same
end G

namespace G
open PySem L2 GX
theorem w_listT {K : PySem.W.Frag} {p : Addr} {xs : List V} {H : Hp} {Q : VK} (h : H p = some (.tup xs)) (q : ∀ l, H l = none → Q (.ref l) (upd H l (.lst xs))) : oListOf K [.ref p] H Q := ⟨p, xs, rfl, .inr (.inl (.inl h)), q⟩
def sp_law_whole (K : PySem.W.Frag) (A : CA) : Sp := fun vs H Q _ => ∃ a : Int, vs = [.int a, .int a] ∧ Q (.bl true) H
def t_law_whole (K : PySem.W.Frag) (A : CA) : TS :=
  (tRet (tAndV (tCB (rIsi K) (tCons (tVar 0) (tCons (tC (.ty "int")) tNil))) (tAndV (tNotV (tCB (rIsi K) (tCons (tVar 0) (tCons (tC (.ty "bool")) tNil)))) (tOp rEq (tVar 0) (tVar 1)))))

theorem rd_law_whole {K : PySem.W.Frag} {A : CA} {vs : List V} {H : Hp} {Q : VK} {E : XK} (h : sp_law_whole K A vs H Q E) :
    t_law_whole K A { nx := fun _ H' => Q .non H', rt := Q } (start ["told", "due"] vs) H := by
  obtain ⟨a, rfl, q⟩ := h
  unfold t_law_whole
  walk_at "go"
  refine w_isT (t := "int") (b := true) (TyX.base (TyOf.int a)) (kit_ty (by decide +kernel)) ?_
  walk_at "go"
  refine w_isT (t := "int") (b := false) (TyX.base (TyOf.int a)) (kit_ty (by decide +kernel)) ?_
  walk_at "go"
  refine w_iteT ?_
  walk_at "go"
  rw [decide_eq_true rfl]
  exact q
def sp_law_pages (K : PySem.W.Frag) (A : CA) : Sp := fun vs H Q _ => ∃ (p q : Addr) (xs : List Int), vs = [.ref p, .ref q] ∧ H p = some (.lst (xs.map V.int)) ∧ H q = some (.lst (xs.map V.int)) ∧ xs.length ≤ 1000000 ∧ Q (.bl true) H
theorem i_whole {K : PySem.W.Frag} {A : CA} {H : Hp} {Q : VK} {E : XK} {a : Int} (q : Q (.bl true) H) : sp_law_whole K A [.int a, .int a] H Q E := ⟨a, rfl, q⟩
def t_law_pages (K : PySem.W.Frag) (A : CA) : TS :=
  (tSeq (tIfS (tOr (tNot (tB (tCB (rIsi K) (tCons (tVar 0) (tCons (tC (.ty "list")) tNil))))) (tTest (tOp rNe (tCB (rLenQ K) (tCons (tVar 0) tNil)) (tCB (rLenQ K) (tCons (tVar 1) tNil))))) (tRet (tC (.bl false))) tNext)
  (tSeq (tFor (iRng1 (tCons (tCB (rLenQ K) (tCons (tVar 1) tNil)) tNil)) (gName 2)
  (tIfS (tNot (tB (tCall (sp_law_whole K A) [] E0 (tCons (tOp (rIxL K) (tVar 0) (tVar 2)) (tCons (tOp (rIxL K) (tVar 1) (tVar 2)) tNil))))) (tRet (tC (.bl false))) tNext))
  (tRet (tC (.bl true)))))

theorem rd_law_pages {K : PySem.W.Frag} {A : CA} {vs : List V} {H : Hp} {Q : VK} {E : XK} (h : sp_law_pages K A vs H Q E) :
    t_law_pages K A { nx := fun _ H' => Q .non H', rt := Q } (start ["told", "due", "k"] vs) H := by
  obtain ⟨p, q, xs, rfl, hp, hq, hl, k⟩ := h
  have hl2 : (xs.map V.int).length ≤ 1000000 := by rw [List.length_map]; exact hl
  unfold t_law_pages
  walk_at "go"
  refine w_isT (t := "list") (b := true) (TyX.base (TyOf.lst hp)) (kit_ty (by decide +kernel)) ?_
  walk_at "go"
  refine w_iteF ?_
  walk_at "go"
  refine w_iteN (fun c => absurd rfl c) (fun _ => ?_)
  walk_at "go"
  refine forR (fun i σ H' => ∃ k2 : Option V, σ = [some (.ref p), some (.ref q), k2] ∧ H' = H) ?_ ?_ ?_
  · exact ⟨none, rfl, rfl⟩
  · rintro i σ H' hi ⟨k2, rfl, rfl⟩
    have hi2 : i < xs.length := by rw [List.length_map] at hi; omega
    have e1 : atI (xs.map V.int) (0 + (i : Int)) = some (V.int xs[i]) := at_of (j := i) (by omega) (by simp [hi2])
    walk_at "go"
    refine i_whole ?_
    walk_at "go"
    refine w_iteF ?_
    walk_at "go"
    exact ⟨_, rfl, rfl⟩
  · rintro σ H' ⟨k2, rfl, rfl⟩
    walk_at "go"
    exact k
theorem i_pages {K : PySem.W.Frag} {A : CA} {H : Hp} {Q : VK} {E : XK} {p q : Addr} {xs : List Int} (hp : H p = some (.lst (xs.map V.int))) (hq : H q = some (.lst (xs.map V.int))) (hl : xs.length ≤ 1000000) (k : Q (.bl true) H) : sp_law_pages K A [.ref p, .ref q] H Q E := ⟨p, q, xs, rfl, hp, hq, hl, k⟩
end G

local macro_rules | `(tactic| walk_at "call") => `(tactic| (refine' G.i_whole ?_))

namespace G
open PySem L2 GX
def sp_law_outside (K : PySem.W.Frag) (A : CA) : Sp := fun vs H Q _ => ∃ (s : Addr) (n : Int), vs = [.ref s, .int n] ∧ Src H s ∧ 1 ≤ n ∧ n ≤ 200 ∧
  ∀ (z : Int) (H' : Hp), isOut n z = true → But s H H' → Src H' s → Q (.int z) H'
theorem at6 {a b c d e f : V} {r : Int} (h0 : 0 ≤ r) (h1 : r < 6) : ∃ v, atI [a, b, c, d, e, f] r = some v ∧ (v = a ∨ v = b ∨ v = c ∨ v = d ∨ v = e ∨ v = f) := by
  have hr : r = 0 ∨ r = 1 ∨ r = 2 ∨ r = 3 ∨ r = 4 ∨ r = 5 := by omega
  rcases hr with rfl | rfl | rfl | rfl | rfl | rfl
  · exact ⟨a, rfl, .inl rfl⟩
  · exact ⟨b, rfl, .inr (.inl rfl)⟩
  · exact ⟨c, rfl, .inr (.inr (.inl rfl))⟩
  · exact ⟨d, rfl, .inr (.inr (.inr (.inl rfl)))⟩
  · exact ⟨e, rfl, .inr (.inr (.inr (.inr (.inl rfl))))⟩
  · exact ⟨f, rfl, .inr (.inr (.inr (.inr (.inr rfl))))⟩
theorem out_of {n z : Int} (h : z < 0 ∨ n ≤ z) : isOut n z = true := by
  unfold isOut
  rcases h with h | h
  · have : ¬ 0 ≤ z := by omega
    simp [this]
  · have : ¬ z < n := by omega
    simp [this]
def t_law_outside (K : PySem.W.Frag) (A : CA) : TS :=
  (tSeq (tAsg (tCall (sp_law_draw K A) [] E0 (tCons (tVar 0) (tCons (tC (.int 9)) tNil))) (gName 2))
  (tRet (tOp (rIxL K) (tLst (tCons (tVar 1) (tCons (tUn oNeg (tC (.int 1))) (tCons (tOp oSub (tC (.int 0)) (tVar 1)) (tCons (tOp oAdd (tOp oAdd (tVar 1) (tC (.int 1))) (tVar 2)) (tCons (tOp oSub (tUn oNeg (tC (.int 2))) (tVar 2)) (tCons (tOp oAdd (tOp oPow (tC (.int 10)) (tC (.int 12))) (tVar 2)) tNil))))))) (tCall (sp_law_draw K A) [] E0 (tCons (tVar 0) (tCons (tC (.int 6)) tNil))))))

theorem rd_law_outside {K : PySem.W.Frag} {A : CA} {vs : List V} {H : Hp} {Q : VK} {E : XK} (h : sp_law_outside K A vs H Q E) :
    t_law_outside K A { nx := fun _ H' => Q .non H', rt := Q } (start ["box", "pages", "far"] vs) H := by
  obtain ⟨s, n, rfl, hs, n0, n1, q⟩ := h
  unfold t_law_outside
  walk_at "go"
  intro f H1 f0 f1 b1 s1
  walk_at "go"
  intro l hl
  have nl : l ≠ s := s1.neFree hl
  generalize hxs : [V.int n, V.int (-1), V.int (0 - n), V.int (n + 1 + f), V.int (-2 - f), V.int (10 ^ Int.toNat 12 + f)] = xs
  have s2 := s1.new (o := .lst xs) hl
  have b2 := b1.new (o := .lst xs) hl
  have h2 : (upd H1 l (.lst xs)) l = some (.lst xs) := upd_same
  generalize upd H1 l (.lst xs) = H2 at s2 b2 h2
  walk_at "go"
  intro r H3 r0 r1 b3 s3
  have h3 := b3.at nl h2
  obtain ⟨v, ev, hv⟩ := at6 (a := V.int n) (b := V.int (-1)) (c := V.int (0 - n)) (d := V.int (n + 1 + f)) (e := V.int (-2 - f)) (f := V.int (10 ^ Int.toNat 12 + f)) r0 r1
  rw [hxs] at ev
  have hz : ∃ z : Int, v = .int z ∧ isOut n z = true := by
    rcases hv with rfl | rfl | rfl | rfl | rfl | rfl
    · exact ⟨_, rfl, out_of (by omega)⟩
    · exact ⟨_, rfl, out_of (by omega)⟩
    · exact ⟨_, rfl, out_of (by omega)⟩
    · exact ⟨_, rfl, out_of (by omega)⟩
    · exact ⟨_, rfl, out_of (by omega)⟩
    · refine ⟨_, rfl, out_of (.inr ?_)⟩
      have : (10 : Int) ^ Int.toNat 12 = 1000000000000 := by decide
      rw [this]; omega
  obtain ⟨z, rfl, hz⟩ := hz
  walk_at "go"
  exact q z H3 hz (b2.trans b3) s3
end G

namespace G
open PySem L2 GX
theorem web_noholders {n : Int} {d ar tg hd : Addr} : (webFs n d ar tg hd).lookup ("holders" : Str) = none := by
  unfold webFs
  rw [lookup_putF, if_neg (by decide +kernel), lookup_putF, if_neg (by decide +kernel), lookup_putF, if_neg (by decide +kernel), lookup_putF, if_neg (by decide +kernel), lookup_putF, if_neg (by decide +kernel)]
  rfl
theorem WebX.obj {A : CA} {H : Hp} {w : Addr} {n : Int} {rs : List (Int × Int)} (h : WebX A H w n rs) : ∃ (dx d ar tg hd : Addr), H w = some (.ins A.Web dx (webFs n d ar tg hd)) :=
  let ⟨dx, d, ar, tg, hd, _, _, h1, _⟩ := h.ex; ⟨dx, d, ar, tg, hd, h1⟩
theorem i_told {A : CA} {n p : Int} {l : List Int} {H : Hp} {Q : VK} {E : XK} (p0 : 0 ≤ p) (p1 : p < n) (k : ∀ (q : Addr) (H' : Hp), H q = none → Same H H' → H' q = some (.lst (l.map V.int)) → Q (.ref q) H') : Told A n p l H Q E :=
  ⟨fun o => (by rw [isOut_in p0 p1] at o; cases o), fun _ _ => k⟩
theorem grp_len {rs : List (Int × Int)} {k : Nat} : (grp rs k).length ≤ rs.length := by
  unfold grp
  rw [List.length_map]
  exact List.length_filter_le _ _
theorem w_reverse {H : Hp} {Q : VK} {p : Addr} {xs : List V} (h : H p = some (.lst xs)) (q : Q .non (upd H p (.lst xs.reverse))) : rReverse (.ref p) [] H Q := ⟨p, xs, rfl, rfl, h, q⟩
end G

namespace G
open PySem L2 GX
/-- xs.insert(i, y) -/
theorem w_insert {H : Hp} {Q : VK} {p : Addr} {xs : List V} {i : Int} {y : V} (h : H p = some (.lst xs)) (hz : xs.length ≤ 900) (h0 : 0 ≤ i) (h1 : i < 1000000) (q : Q .non (upd H p (.lst (xs.take i.toNat ++ [y] ++ xs.drop i.toNat)))) : GX.oInsert (.ref p) [.int i, y] H Q :=
  ⟨p, xs, i, y, rfl, rfl, h, L2.small1000 (by omega), h0, by omega, q⟩
def within (xs : List Int) (rows : List (Int × Int)) : List (Int × Int) := rows.filter fun r => decide (r.1 ∈ xs) && decide (r.2 ∈ xs)
theorem within_snoc {xs : List Int} {rows : List (Int × Int)} {r : Int × Int} : within xs (rows ++ [r]) = if r.1 ∈ xs ∧ r.2 ∈ xs then within xs rows ++ [r] else within xs rows := by
  unfold within
  rw [List.filter_append]
  by_cases c : r.1 ∈ xs ∧ r.2 ∈ xs
  · rw [if_pos c]; simp [c.1, c.2]
  · rw [if_neg c]
    have : (decide (r.1 ∈ xs) && decide (r.2 ∈ xs)) = false := by
      by_cases c1 : r.1 ∈ xs
      · have c2 : ¬ r.2 ∈ xs := fun z => c ⟨c1, z⟩
        simp [c2]
      · simp [c1]
    simp [this]
theorem rg_ins {n : Int} {cur : List (Int × Int)} {r : Int × Int} {i : Nat} (h : RG n (cur.take i ++ [r] ++ cur.drop i)) : RG n cur ∧ (0 ≤ r.1 ∧ r.1 < n ∧ 0 ≤ r.2 ∧ r.2 < n ∧ r.1 ≠ r.2) ∧ r ∉ cur := by
  have p : (r :: cur).Perm (cur.take i ++ [r] ++ cur.drop i) := by
    rw [List.append_assoc]
    have := (List.perm_middle (a := r) (l₁ := cur.take i) (l₂ := cur.drop i)).symm
    rw [List.take_append_drop] at this
    exact this
  have g := G.RG.perm p h
  have nd := List.nodup_cons.mp g.nd
  exact ⟨⟨fun x hx => g.bd x (List.mem_cons_of_mem _ hx), nd.2⟩, g.bd r List.mem_cons_self, nd.1⟩
end G

namespace G
open PySem L2 GX
theorem rg_okto {n : Int} {rows : List (Int × Int)} (h : RG n rows) : ∀ i, OkTo n rows i := fun i j r _ hr => by
  refine ⟨isPtr_iff.mpr (h.bd r (List.mem_of_getElem? hr)), fun hm => ?_⟩
  obtain ⟨m, hm2⟩ := List.getElem?_of_mem hm
  have hmj : m < j := by
    have := (List.getElem?_eq_some_iff.mp hm2).1
    rw [List.length_take] at this; omega
  rw [List.getElem?_take_of_lt hmj] at hm2
  have := nd_ix h.nd hm2 hr
  omega
theorem rg_good {n : Int} {rows : List (Int × Int)} (h : RG n rows) {k : Nat} {r : Int × Int} (hr : rows[k]? = some r) : ¬ (isPtr n r.1 r.2 = false ∨ r ∈ rows.take k) := fun c => by
  have z := rg_okto h (k + 1) k r (Nat.lt_succ_self k) hr
  rcases c with c | c
  · rw [z.1] at c; cases c
  · exact z.2 c
/-- Web(n, rows) of rows that are right -/
theorem i_web {K : PySem.W.Frag} {A : CA} {H : Hp} {Q : VK} {E : XK} {x dx pq : Addr} {n : Int} {us : List V} {rows : List (Int × Int)} (hx : H x = none) (hdx : H dx = none) (nx : dx ≠ x) (hq : H pq = some (.lst us)) (hP : Paired (PR H) us rows) (hl : us.length ≤ 600) (n0 : 1 ≤ n) (n1 : n ≤ 500) (hR : RG n rows)
    (q : ∀ (rs : List (Int × Int)) (H' : Hp), SortedOf rows rs → RG n rs → Same H H' → WebX A H' x n rs → (∀ (l : Addr) (vs : List V), H l = some (.lst vs) → WebX A (cutL l H') x n rs) → Q .non H') : sp_Web_init K A [.ref x, .int n, .ref pq] (upd (upd H dx (.own x)) x (.ins A.Web dx [])) Q E :=
  ⟨H, x, dx, pq, n, us, rows, rfl, rfl, hx, hdx, nx, hq, hP, hl, n0, n1, fun _ _ hk _ hb => absurd hb (rg_good hR hk), fun _ rs H' hS hR' e hW hC => q rs H' hS hR' e hW hC⟩
end G

namespace G
open PySem L2 GX
theorem pds_eqv2 : ∀ r s : List (Int × Int), PyData.eqvAll (r.map pd) (s.map pd) = decide (r = s)
  | [], [] => rfl
  | [], b :: s => by simp [PyData.eqvAll]
  | a :: r, [] => by simp [PyData.eqvAll]
  | a :: r, b :: s => by
    rw [List.map_cons, List.map_cons]
    show (PyData.eqv (pd a) (pd b) && PyData.eqvAll (r.map pd) (s.map pd)) = _
    rw [pd_eqv, pds_eqv2 r s]
    by_cases h1 : a = b
    · by_cases h2 : r = s
      · simp [h1, h2]
      · simp [h1, h2]
    · simp [h1]
theorem w_eqRR {K : PySem.W.Frag} {H : Hp} {Q : VK} {p q : Addr} {us ws : List V} {r s : List (Int × Int)} (hp : H p = some (.lst us)) (h1 : Paired (PR H) us r) (hq : H q = some (.lst ws)) (h2 : Paired (PR H) ws s) (k : Q (.bl (decide (r = s))) H) : rEqD K (.ref p) (.ref q) H Q := by
  refine ⟨_, _, dp_rows hp h1, dp_rows hq h2, pds_shaped r, pds_shaped s, ?_⟩
  show Q (.bl (PyData.eqvAll (r.map pd) (s.map pd))) H
  rw [pds_eqv2]; exact k
/-- what isinstance(.., Web) wants to know of the class -/
structure CTI (K : PySem.W.Frag) (A : CA) : Prop where
  ha : PySem.W.findIn K (.ref A.Web) "__class__" = some (some (.builtin "object.__class__"))
  hn : PySem.W.specialIn K (.builtin "object.__class__") "__get__" = some (some (.builtin "getset_descriptor.__get__"))
  ht : PySem.W.takesIn K (.builtin "object.__class__") = some true
  hm : PySem.W.mroIn K A.Web (.type "object") = some true
  kl : PySem.W.kitOne K (.type "list") (.ref A.Web) = some false
theorem kit_self {K : PySem.W.Frag} {C : Addr} : PySem.W.kitOne K (.ref C) (.ref C) = some true := by
  unfold PySem.W.kitOne
  simp
def sp_Web_eq (K : PySem.W.Frag) (A : CA) : Sp := fun vs H Q _ => ∃ (a b : Addr) (n : Int) (rs : List (Int × Int)), vs = [.ref a, .ref b] ∧ WebX A H a n rs ∧
  ((∃ ys, H b = some (.lst ys) ∧ Q (.bl false) H) ∨ ∃ (m : Int) (ss : List (Int × Int)), WebX A H b m ss ∧ Q (.bl (decide (n = m ∧ rs = ss))) H)
def t_Web_eq (K : PySem.W.Frag) (A : CA) : TS :=
  (tRet (tAndV (tCB (rIsi K) (tCons (tVar 1) (tCons (tC (.ref A.Web)) tNil))) (tAndV (tOp rEq (tFld K (tVar 0) "pages") (tFld K (tVar 1) "pages")) (tOp (rEqD K) (tFld K (tVar 0) "_arrows") (tFld K (tVar 1) "_arrows")))))

theorem rd_Web_eq {K : PySem.W.Frag} {A : CA} (T : CTB K A) (I : CTI K A) {vs : List V} {H : Hp} {Q : VK} {E : XK} (h : sp_Web_eq K A vs H Q E) :
    t_Web_eq K A { nx := fun _ H' => Q .non H', rt := Q } (start ["self", "other"] vs) H := by
  obtain ⟨a, b, n, rs, rfl, hW, hb⟩ := h
  obtain ⟨dx, d, ar, tg, hd, us, ks, h1, _, _, h2, h3, _⟩ := hW.ex
  unfold t_Web_eq
  walk_at "go"
  rcases hb with ⟨ys, hb, q⟩ | ⟨m, ss, hV, q⟩
  · refine ⟨.ref b, .ref A.Web, .type "list", .ref A.Web, false, rfl, ClsV.own _, TyX.base (TyOf.lst hb), I.kl, ?_⟩
    walk_at "go"
    exact q
  · obtain ⟨dy, d', ar', tg', hd', us', ks', g1, _, _, g2, g3, _⟩ := hV.ex
    refine ⟨.ref b, .ref A.Web, .ref A.Web, .ref A.Web, true, rfl, ClsV.own _, TyX.base (TyOf.ins g1 T.c_Web I.ha I.hn I.ht I.hm), kit_self, ?_⟩
    walk_at "go"
    refine w_fld2 h1 T.c_Web T.n_Web_pages web_pages ?_
    walk_at "go"
    refine w_fld2 g1 T.c_Web T.n_Web_pages web_pages ?_
    walk_at "go"
    refine w_iteD (fun c => ?_) (fun c => ?_)
    · walk_at "go"
      refine w_fld2 h1 T.c_Web T.n_Web__arrows web_arrows ?_
      walk_at "go"
      refine w_fld2 g1 T.c_Web T.n_Web__arrows web_arrows ?_
      refine w_eqRR h2 h3 g2 g3 ?_
      have e : decide (n = m ∧ rs = ss) = decide (rs = ss) := by simp [c]
      rw [e] at q
      exact q
    · have e : decide (n = m ∧ rs = ss) = false := by simp [c]
      rw [e] at q
      exact q
theorem w_ownEq {K : PySem.W.Frag} {A : CA} {H : Hp} {Q : VK} {a b : Addr} {n m : Int} {rs ss : List (Int × Int)} (h1 : WebX A H a n rs) (h2 : WebX A H b m ss) (q : Q (.bl (decide (n = m ∧ rs = ss))) H) : rOwnEq A.Web (sp_Web_eq K A) E0 (.ref a) (.ref b) H Q := by
  obtain ⟨dx, d, ar, tg, hd, g1⟩ := h1.obj
  obtain ⟨dy, d', ar', tg', hd', g2⟩ := h2.obj
  exact ⟨a, b, dx, _, rfl, rfl, g1, .inl ⟨_, _, g2⟩, a, b, n, rs, rfl, h1, .inr ⟨m, ss, h2, _, rfl, q⟩⟩
end G

namespace G
open PySem L2 GX
/-- a comprehension with two fors over lists: the second list stands at an address that the first names -/
theorem lc2L {K : PySem.W.Frag} {a : Addr} {xs : List V} {t1 : TE} {tt : TT} {te : TE} {vs vs1 : List Nat} {s1 s2 : Nat} {σ : L2.St} {H : Hp} {Q : VK} (Pv : Addr → Nat → Hp → Prop) (Pw : Addr → Nat → Nat → Hp → Prop)
    (h0 : ∀ D, H D = none → Pv D 0 (upd H D (.lst []))) (hl : ∀ D i H1, H D = none → Pv D i H1 → SqL K H1 a xs)
    (w1 : ∀ x, wipe ((wipe σ vs).set s1 (some x)) vs = wipe σ vs) (w2 : ∀ x y, wipe ((wipe ((wipe σ vs).set s1 (some x)) vs1).set s2 (some y)) vs1 = wipe ((wipe σ vs).set s1 (some x)) vs1)
    (hs : ∀ D i x H1, H D = none → xs[i]? = some x → Pv D i H1 → ∃ (b : Addr) (ys : List V), (∀ R : VK, R (.ref b) H1 → t1 ((wipe σ vs).set s1 (some x)) H1 R) ∧ Pw D i 0 H1 ∧ (∀ j H4, Pw D i j H4 → SqL K H4 b ys) ∧
      (∀ j y H4, ys[j]? = some y → Pw D i j H4 → LcT tt te D (Pw D i (j + 1)) ((wipe ((wipe σ vs).set s1 (some x)) vs1).set s2 (some y)) H4) ∧ (∀ H4, Pw D i ys.length H4 → Pv D (i + 1) H4))
    (hd : ∀ D H1, H D = none → Pv D xs.length H1 → Q (.ref D) H1) : tLc2 (fun _ H R => R (Itl K a) H) (gName s1) tYes (iList K t1) (gName s2) tt te vs vs1 σ H Q := by
  intro D hD
  refine ⟨fun i m H' => i ≤ xs.length ∧ m = xs.length - i ∧ Pv D i H', ⟨_, Nat.zero_le _, rfl, h0 D hD⟩, ?_⟩
  rintro i m H' ⟨hi, rfl, p⟩
  rcases Nat.lt_or_eq_of_le hi with c | c
  · right
    obtain ⟨x, hx⟩ : ∃ x, xs[i]? = some x := ⟨_, List.getElem?_eq_getElem c⟩
    refine ⟨⟨xs, x, hl D i H' hD p, hx⟩, fun H2 => Pv D (i + 1) H2, fun H2 q => ⟨xs.length - (i + 1), by omega, by omega, rfl, q⟩, ?_⟩
    rintro y H2 ⟨rfl, hy⟩
    obtain rfl : x = y := Option.some.inj (hx.symm.trans (hy xs (hl D i _ hD p)))
    obtain ⟨b, ys, k1, k2, k3, k4, k5⟩ := hs D i x _ hD hx p
    refine And.intro (w1 x) ?_
    refine k1 _ ⟨b, rfl, ⟨ys, k3 0 _ k2⟩, ?_⟩
    refine ⟨fun j k H4 => j ≤ ys.length ∧ k = ys.length - j ∧ Pw D i j H4, ⟨_, Nat.zero_le _, rfl, k2⟩, ?_⟩
    rintro j k H4 ⟨hj, rfl, r⟩
    rcases Nat.lt_or_eq_of_le hj with c2 | c2
    · right
      obtain ⟨y, hy2⟩ : ∃ y, ys[j]? = some y := ⟨_, List.getElem?_eq_getElem c2⟩
      refine ⟨⟨ys, y, k3 j H4 r, hy2⟩, fun H5 => Pw D i (j + 1) H5, fun H5 q => ⟨ys.length - (j + 1), by omega, by omega, rfl, q⟩, ?_⟩
      rintro z H5 ⟨rfl, hz⟩
      obtain rfl : y = z := Option.some.inj (hy2.symm.trans (hz ys (k3 j _ r)))
      exact And.intro (w2 x y) (k4 j y _ hy2 r)
    · left
      subst c2
      exact ⟨⟨ys, k3 _ H4 r, Nat.le_refl _⟩, k5 H4 r⟩
  · left
    subst c
    exact ⟨⟨xs, hl D _ H' hD p, Nat.le_refl _⟩, hd D H' hD p⟩
theorem w_lc2L {K : PySem.W.Frag} {g g1 : TG} {tt tt1 : TT} {wi1 : TI} {te tz : TE} {vs vs1 : List Nat} {σ : L2.St} {H : Hp} {Q : VK} (h : tz σ H fun x H1 => ∃ a, x = .ref a ∧ (∃ xs, SqL K H1 a xs) ∧ tLc2 (fun _ H R => R (Itl K a) H) g tt wi1 g1 tt1 te vs vs1 σ H1 Q) :
    tLc2 (iList K tz) g tt wi1 g1 tt1 te vs vs1 σ H Q := h
/-- the pointers among the pages ps, page by page -/
theorem count_by : ∀ (ps : List Int) (S : Int → Bool) (rs : List (Int × Int)), ps.Nodup → (∀ p ∈ ps, 0 ≤ p) → (∀ r ∈ rs, 0 ≤ r.1) →
    (ps.flatMap fun p => (grp rs p.toNat).filter S).length = (rs.filter fun r => decide (r.1 ∈ ps) && S r.2).length
  | [], S, rs, _, _, _ => by
    have : (rs.filter fun r => decide (r.1 ∈ ([] : List Int)) && S r.2) = [] := List.filter_eq_nil_iff.mpr fun r _ h => by simp at h
    rw [this]; rfl
  | p :: ps, S, rs, nd, h0, hr => by
    obtain ⟨nd1, nd2⟩ := List.nodup_cons.mp nd
    have ih := count_by ps S rs nd2 (fun q hq => h0 q (List.mem_cons_of_mem _ hq)) hr
    have hp := h0 p List.mem_cons_self
    rw [List.flatMap_cons, List.length_append, ih]
    clear ih
    have e : ((p.toNat : Nat) : Int) = p := Int.toNat_of_nonneg hp
    unfold grp
    rw [e]
    clear hr
    induction rs with
    | nil => rfl
    | cons r rs ih2 =>
      by_cases c : r.1 = p
      · have n1 : decide (r.1 ∈ ps) = false := decide_eq_false (c ▸ nd1)
        have n2 : decide (r.1 ∈ p :: ps) = true := decide_eq_true (by rw [c]; exact List.mem_cons_self)
        rw [List.filter_cons, List.filter_cons, List.filter_cons, if_pos (decide_eq_true c), n1, n2, List.map_cons, List.filter_cons, Bool.false_and, Bool.true_and, if_neg Bool.false_ne_true]
        cases hS : S r.2
        · rw [if_neg Bool.false_ne_true, if_neg Bool.false_ne_true]; exact ih2
        · rw [if_pos (show true = true from rfl), if_pos (show true = true from rfl), List.length_cons, List.length_cons]; omega
      · have n2 : decide (r.1 ∈ p :: ps) = decide (r.1 ∈ ps) := by
          rw [Bool.eq_iff_iff, decide_eq_true_iff, decide_eq_true_iff, List.mem_cons]
          exact ⟨fun h => h.resolve_left c, Or.inr⟩
        rw [List.filter_cons, List.filter_cons, List.filter_cons, if_neg (by simp [c]), n2]
        cases (decide (r.1 ∈ ps) && S r.2)
        · rw [if_neg Bool.false_ne_true, if_neg Bool.false_ne_true]; exact ih2
        · rw [if_pos (show true = true from rfl), if_pos (show true = true from rfl), List.length_cons, List.length_cons]; omega
theorem inner_count {ps xs : List Int} {rs : List (Int × Int)} (hp : ps.Pairwise (· < ·)) (hm : ∀ k : Int, k ∈ ps ↔ k ∈ xs) (h0 : ∀ x ∈ xs, 0 ≤ x) (hr : ∀ r ∈ rs, 0 ≤ r.1) :
    (ps.flatMap fun p => (grp rs p.toNat).filter fun t => decide (t ∈ xs)).length = (within xs rs).length := by
  rw [count_by ps _ rs (hp.imp fun h => Int.ne_of_lt h) (fun p hq => h0 p ((hm p).mp hq)) hr]
  unfold within
  congr 1
  refine List.filter_congr fun r _ => ?_
  have : decide (r.1 ∈ ps) = decide (r.1 ∈ xs) := decide_eq_decide.mpr (hm r.1)
  rw [this]
theorem flat_take {α β : Type} {f : α → List β} {l : List α} {i : Nat} {x : α} (h : l[i]? = some x) : (l.take (i + 1)).flatMap f = (l.take i).flatMap f ++ f x := by
  rw [List.take_succ, h, List.flatMap_append]
  simp
theorem part_le {α β : Type} {f : α → List β} {l : List α} {i : Nat} : ((l.take i).flatMap f).length ≤ (l.flatMap f).length := by
  have e : l.flatMap f = (l.take i).flatMap f ++ (l.drop i).flatMap f := by rw [← List.flatMap_append, List.take_append_drop]
  rw [e, List.length_append]; omega
theorem partF_le {β : Type} {S : β → Bool} {g : List β} {j : Nat} : ((g.take j).filter S).length ≤ (g.filter S).length := by
  have e : g.filter S = (g.take j).filter S ++ (g.drop j).filter S := by rw [← List.filter_append, List.take_append_drop]
  rw [e, List.length_append]; omega
end G

namespace G
open PySem L2 GX
def stFs (w : Addr) (lines : Int) (lb : Addr) : List (Str × V) := putF "_blank" (.ref lb) (putF "lines" (.int lines) (putF "web" (.ref w) []))
theorem st_web {w lb : Addr} {l : Int} : (stFs w l lb).lookup ("web" : Str) = some (.ref w) := by
  unfold stFs
  rw [lookup_putF, if_neg (by decide +kernel), lookup_putF, if_neg (by decide +kernel), lookup_putF, if_pos rfl]
theorem st_blank {w lb : Addr} {l : Int} : (stFs w l lb).lookup ("_blank" : Str) = some (.ref lb) := by
  unfold stFs
  rw [lookup_putF, if_pos rfl]
theorem st_noblanks {w lb : Addr} {l : Int} : (stFs w l lb).lookup ("blanks" : Str) = none := by
  unfold stFs
  rw [lookup_putF, if_neg (by decide +kernel), lookup_putF, if_neg (by decide +kernel), lookup_putF, if_neg (by decide +kernel)]
  rfl
structure StAt (A : CA) (H : Hp) (st w : Addr) (n : Int) (rs : List (Int × Int)) (lines : Int) (bs : List Int) : Prop where
  ex : ∃ (dx lb : Addr), H st = some (.ins A.Standing dx (stFs w lines lb)) ∧ H lb = some (.lst (bs.map V.int))
  web : WebX A H w n rs
theorem StAt.same {A : CA} {H H' : Hp} {st w : Addr} {n lines : Int} {rs : List (Int × Int)} {bs : List Int} (e : Same H H') (h : StAt A H st w n rs lines bs) : StAt A H' st w n rs lines bs :=
  ⟨let ⟨dx, lb, h1, h2⟩ := h.ex; ⟨dx, lb, e _ _ h1, e _ _ h2⟩, h.web.same e⟩
/-- a new standing: it and its list of blank lines came behind H -/
structure StNew (A : CA) (H H' : Hp) (st w : Addr) (lines : Int) (bs : List Int) : Prop where
  ex : ∃ (dx lb : Addr), H' st = some (.ins A.Standing dx (stFs w lines lb)) ∧ H' lb = some (.lst (bs.map V.int)) ∧ H lb = none
  no : H st = none
theorem StNew.base {A : CA} {H0 H H' : Hp} {st w : Addr} {lines : Int} {bs : List Int} (e : Same H0 H) (h : StNew A H H' st w lines bs) : StNew A H0 H' st w lines bs :=
  ⟨let ⟨dx, lb, a, b, c⟩ := h.ex; ⟨dx, lb, a, b, e.free c⟩, e.free h.no⟩
theorem StNew.same {A : CA} {H0 H H' : Hp} {st w : Addr} {lines : Int} {bs : List Int} (e : Same H H') (h : StNew A H0 H st w lines bs) : StNew A H0 H' st w lines bs :=
  ⟨let ⟨dx, lb, a, b, c⟩ := h.ex; ⟨dx, lb, e _ _ a, e _ _ b, c⟩, h.no⟩
/-- without a list that stood before -/
theorem StNew.cut {A : CA} {H0 H : Hp} {st w l : Addr} {lines : Int} {bs : List Int} {o : HO} (hl : H0 l = some o) (h : StNew A H0 H st w lines bs) : StNew A H0 (cutL l H) st w lines bs :=
  ⟨let ⟨dx, lb, a, b, c⟩ := h.ex; ⟨dx, lb, cutL_at a (ne_of_none hl h.no).symm, cutL_at b (ne_of_none hl c).symm, c⟩, h.no⟩
theorem StNew.at' {A : CA} {H0 H : Hp} {st w : Addr} {n lines : Int} {rs : List (Int × Int)} {bs : List Int} (h : StNew A H0 H st w lines bs) (hW : WebX A H w n rs) : StAt A H st w n rs lines bs :=
  ⟨let ⟨dx, lb, a, b, _⟩ := h.ex; ⟨dx, lb, a, b⟩, hW⟩
structure CTS (K : PySem.W.Frag) (A : CA) : Prop where
  b : CTB K A
  c_Standing : Cls K A.Standing
  n_Standing__blank : NoAttr K A.Standing "_blank"
  n_Standing_lines : NoAttr K A.Standing "lines"
  n_Standing_web : NoAttr K A.Standing "web"
  e_NoLine : OexC K A.NoLine
  f_NoLine : PySem.W.findIn K (.ref A.NoLine) "page" = some none
  e_IS : OexC K A.InvalidStanding
  f_IS : PySem.W.findIn K (.ref A.InvalidStanding) "page" = some none
theorem st_lines {w lb : Addr} {l : Int} : (stFs w l lb).lookup ("lines" : Str) = some (.int l) := by
  unfold stFs
  rw [lookup_putF, if_neg (by decide +kernel), lookup_putF, if_pos rfl]
/-- the first number that is out of bounds -/
def badK (lines : Int) (bs : List Int) (k : Nat) : Prop := ∃ b, bs[k]? = some b ∧ (b < 0 ∨ lines < b) ∧ ∀ (j : Nat) (c : Int), j < k → bs[j]? = some c → 0 ≤ c ∧ c ≤ lines
def sp_Standing_init (K : PySem.W.Frag) (A : CA) : Sp := fun vs H Q E => ∃ (H0 : Hp) (st dx w pb : Addr) (n lines : Int) (rs : List (Int × Int)) (bs : List Int), vs = [.ref st, .ref w, .int lines, .ref pb] ∧ H = upd (upd H0 dx (.own st)) st (.ins A.Standing dx []) ∧ H0 st = none ∧ H0 dx = none ∧ dx ≠ st ∧ WebX A H0 w n rs ∧ 1 ≤ n ∧ n ≤ 500 ∧ H0 pb = some (.lst (bs.map V.int)) ∧ bs.length ≤ 1000 ∧
  (bs.length ≠ n.toNat → Raised A.InvalidStanding "page" .non H0 E) ∧ (bs.length = n.toNat → ∀ k : Nat, badK lines bs k → Raised A.InvalidStanding "page" (.int (k : Nat)) H0 E) ∧
  (BK lines n.toNat bs → ∀ (H' : Hp), StNew A H0 H' st w lines bs → Same H0 H' → StAt A H' st w n rs lines bs → Q .non H')
def t_Standing_init (K : PySem.W.Frag) (A : CA) (E : XK) : TS :=
  (tSeq (tIfS (tTest (tOp rNe (tCB (rLenQ K) (tCons (tVar 3) tNil)) (tFld K (tVar 1) "pages"))) (GX.tRaiseO A.InvalidStanding (GX.sp_err K A.InvalidStanding "page") E (tCons (tC .non) tNil)) tNext)
  (tSeq (tFor (iEnum K (tCons (tVar 3) tNil)) (gTup K 2 (gCons (gName 4) (gCons (gName 5) gNil)))
  (tIfS (tNot (tTest (tChain oLe oLe (tC (.int 0)) (tVar 5) (tVar 2)))) (GX.tRaiseO A.InvalidStanding (GX.sp_err K A.InvalidStanding "page") E (tCons (tVar 4) tNil)) tNext))
  (tSeq (sFld K (tVar 0) (tVar 1) "web")
  (tSeq (sFld K (tVar 0) (tVar 2) "lines")
  (sFld K (tVar 0) (tCB (oListOf K) (tCons (tVar 3) tNil)) "_blank")))))

theorem rd_Standing_init {K : PySem.W.Frag} {A : CA} (T : CTS K A) {vs : List V} {H : Hp} {Q : VK} {E : XK} (h : sp_Standing_init K A vs H Q E) :
    t_Standing_init K A E { nx := fun _ H' => Q .non H', rt := Q } (start ["self", "web", "lines", "blank", "page", "number"] vs) H := by
  obtain ⟨H0, st, dx, w, pb, n, lines, rs, bs, rfl, rfl, fst_, fdx, ndx, hW, n1, n2, hb, hbl, kL, kB, q⟩ := h
  have e0 : Same H0 (upd (upd H0 dx (.own st)) st (.ins A.Standing dx [])) := same_mut (same_new fdx) fst_
  have hst : (upd (upd H0 dx (.own st)) st (.ins A.Standing dx [])) st = some (.ins A.Standing dx []) := upd_same
  generalize upd (upd H0 dx (.own st)) st (.ins A.Standing dx []) = H1 at e0 hst
  have hb1 := e0 _ _ hb
  obtain ⟨dw, d, ar, tg, hd, h1⟩ := (hW.same e0).obj
  unfold t_Standing_init
  walk_at "go"
  refine w_fld2 h1 T.b.c_Web T.b.n_Web_pages web_pages ?_
  walk_at "go"
  rw [List.length_map]
  refine w_iteN (fun c => ?_) (fun c => ?_)
  · refine w_raiseO (v := .non) (H1 := H1) T.e_IS T.f_IS (fun Q q => by walk_at "go"; exact q) (Raised.at e0 (kL (by omega)))
  have hlen : bs.length = n.toNat := by omega
  walk_at "go"
  refine ⟨pb, _, rfl, SqL.of hb1, ?_⟩
  refine forE (xs := bs.map V.int) (fun i σ H' => ∃ k4 k5 : Option V, σ = [some (.ref st), some (.ref w), some (.int lines), some (.ref pb), k4, k5] ∧ Same H1 H' ∧ ∀ (j : Nat) (c : Int), j < i → bs[j]? = some c → 0 ≤ c ∧ c ≤ lines) ?_ ?_ ?_ ?_
  · exact ⟨none, none, rfl, Same.refl _, fun j c hj => absurd hj (Nat.not_lt_zero j)⟩
  · rintro i σ H2 _ ⟨k4, k5, rfl, e, _⟩
    exact SqL.of (e _ _ hb1)
  · rintro i x Tt σ H2 hx ⟨k4, k5, rfl, e, ok⟩ hT
    obtain ⟨z, hz, rfl⟩ : ∃ z, bs[i]? = some z ∧ V.int z = x := by
      rw [List.getElem?_map] at hx
      cases hbi : bs[i]? with
      | none => rw [hbi] at hx; cases hx
      | some z => rw [hbi] at hx; exact ⟨z, rfl, Option.some.inj hx⟩
    have ok' : 0 ≤ z → z ≤ lines → ∀ (j : Nat) (c : Int), j < i + 1 → bs[j]? = some c → 0 ≤ c ∧ c ≤ lines := fun z0 z1 j c hj hc => by
      rcases Nat.lt_or_ge j i with h | h
      · exact ok j c h hc
      · have : j = i := by omega
        subst this
        rw [hz] at hc
        cases hc
        exact ⟨z0, z1⟩
    have eT := same_new (o := .tup [V.int (i : Nat), .int z]) hT
    have bad : (z < 0 ∨ lines < z) → ∀ H3 : Hp, Same H1 H3 → Raised A.InvalidStanding "page" (.int (i : Nat)) H3 E := fun c H3 e3 => Raised.at (e0.trans e3) (kB hlen i ⟨z, hz, c, ok⟩)
    walk_at "go"
    refine w_iteD (fun c => ?_) (fun c => ?_)
    · walk_at "go"
      by_cases c2 : z ≤ lines
      · rw [decide_eq_true c2]
        refine w_iteF ?_
        walk_at "go"
        exact ⟨_, _, rfl, e.trans eT, ok' c c2⟩
      · rw [decide_eq_false c2]
        refine w_iteNF ?_
        exact w_raiseO (v := .int (i : Nat)) T.e_IS T.f_IS (fun Q q => by walk_at "go"; exact q) (bad (.inr (by omega)) _ (e.trans eT))
    · walk_at "go"
      exact w_raiseO (D := { nx := fun _ _ => True, rt := fun _ _ => True }) (v := .int (i : Nat)) T.e_IS T.f_IS (fun Q q => by walk_at "go"; exact q) (bad (.inl (by omega)) _ (e.trans eT))
  · rintro σ H2 ⟨k4, k5, rfl, e, ok⟩
    have hB : BK lines n.toNat bs := ⟨hlen, fun b hb => by
      obtain ⟨j, hj⟩ := List.getElem?_of_mem hb
      exact ok j b (by rw [List.length_map]; exact (List.getElem?_eq_some_iff.mp hj).1) hj⟩
    have hst2 := e _ _ hst
    walk_at "go"
    refine w_sfld2 hst2 T.c_Standing T.n_Standing_web (by decide) ?_
    walk_at "go"
    refine w_sfld2 upd_same T.c_Standing T.n_Standing_lines (Nat.lt_of_le_of_lt (len_put1 (Nat.zero_le 0)) (by decide)) ?_
    have nbs : pb ≠ st := ne_of_none hb fst_
    have hb3 : (upd (upd H2 st (.ins A.Standing dx (putF "web" (.ref w) []))) st (.ins A.Standing dx (putF "lines" (.int lines) (putF "web" (.ref w) [])))) pb = some (.lst (bs.map V.int)) := keepNe (keepNe (e _ _ hb1) nbs) nbs
    have E3 := same_mut (o := .ins A.Standing dx (putF "lines" (.int lines) (putF "web" (.ref w) []))) (same_mut (o := .ins A.Standing dx (putF "web" (.ref w) [])) (e0.trans e) fst_) fst_
    have hst3 : (upd (upd H2 st (.ins A.Standing dx (putF "web" (.ref w) []))) st (.ins A.Standing dx (putF "lines" (.int lines) (putF "web" (.ref w) [])))) st = some (.ins A.Standing dx (putF "lines" (.int lines) (putF "web" (.ref w) []))) := upd_same
    generalize upd (upd H2 st (.ins A.Standing dx (putF "web" (.ref w) []))) st (.ins A.Standing dx (putF "lines" (.int lines) (putF "web" (.ref w) []))) = H3 at hb3 E3 hst3
    walk_at "go"
    intro lb hlb
    walk_at "go"
    have nlb : lb ≠ st := (ne_of_none hst3 hlb).symm
    refine w_sfld2 (keep hst3 hlb) T.c_Standing T.n_Standing__blank (Nat.lt_of_le_of_lt (len_put1 (len_put1 (Nat.zero_le 0))) (by decide)) ?_
    have EE := same_mut (o := .ins A.Standing dx (stFs w lines lb)) (E3.trans (same_new (o := .lst (bs.map V.int)) hlb)) fst_
    exact q hB _ ⟨⟨dx, lb, upd_same, keepNe upd_same nlb, E3.free hlb⟩, fst_⟩ EE ⟨⟨dx, lb, upd_same, keepNe upd_same nlb⟩, hW.same EE⟩
def sp_Standing_blanks (K : PySem.W.Frag) (A : CA) : Sp := fun vs H Q _ => ∃ (st w : Addr) (n lines : Int) (rs : List (Int × Int)) (bs : List Int), vs = [.ref st] ∧ StAt A H st w n rs lines bs ∧
  ∀ (p : Addr) (H' : Hp), H p = none → Same H H' → H' p = some (.lst (bs.map V.int)) → Q (.ref p) H'
def t_Standing_blanks (K : PySem.W.Frag) (A : CA) : TS :=
  (tRet (tCB (oListOf K) (tCons (tFld K (tVar 0) "_blank") tNil)))

theorem rd_Standing_blanks {K : PySem.W.Frag} {A : CA} (T : CTS K A) {vs : List V} {H : Hp} {Q : VK} {E : XK} (h : sp_Standing_blanks K A vs H Q E) :
    t_Standing_blanks K A { nx := fun _ H' => Q .non H', rt := Q } (start ["self"] vs) H := by
  obtain ⟨st, w, n, lines, rs, bs, rfl, hS, q⟩ := h
  obtain ⟨dx, lb, h1, h2⟩ := hS.ex
  unfold t_Standing_blanks
  walk_at "go"
  refine w_fld2 h1 T.c_Standing T.n_Standing__blank st_blank ?_
  walk_at "go"
  intro p hp
  exact q p _ hp (same_new hp) upd_same
end G

namespace G
open PySem L2 GX
/-- how many lines of page k an answer (the copied pages cs, the page p written) takes -/
def uses (rs : List (Int × Int)) (p : Int) (cs : List Int) (k : Int) : Int :=
  (if p ∉ cs ∧ k = p then 1 else 0) + ((rs.filter fun r => decide (r.1 = k) && (decide (r.2 ∈ cs) && !decide (r.1 ∈ cs))).length : Nat)
/-- a dict of numbers: a page stands in it where the number isn't 0 -/
structure UsedAt (H : Hp) (d : Addr) (m : Nat) (f : Int → Int) : Prop where
  ex : ∃ kvs : List (Key × V), H d = some (.dK kvs) ∧ kvs.length ≤ m ∧ (∀ k : Int, valV kvs (Sum.inl k) = if f k = 0 then none else some (.int (f k))) ∧ (∀ kv ∈ kvs, ∃ k : Int, kv.1 = Sum.inl k ∧ f k ≠ 0)
theorem UsedAt.same {H H' : Hp} {d : Addr} {m : Nat} {f : Int → Int} (e : Same H H') (h : UsedAt H d m f) : UsedAt H' d m f := let ⟨kvs, a, b⟩ := h.ex; ⟨kvs, e _ _ a, b⟩
theorem UsedAt.mut {H : Hp} {d p : Addr} {o : HO} {m : Nat} {f : Int → Int} (n : d ≠ p) (h : UsedAt H d m f) : UsedAt (upd H p o) d m f := let ⟨kvs, a, b⟩ := h.ex; ⟨kvs, keepNe a n, b⟩
theorem keys_put {κ : Type} [DecidableEq κ] {kvs : List (κ × V)} {k : κ} {v : V} {kv : κ × V} (h : kv ∈ putK kvs k v) : kv.1 = k ∨ ∃ kv' ∈ kvs, kv'.1 = kv.1 := by
  unfold putK at h
  split at h
  · obtain ⟨y, hy, e⟩ := List.mem_map.mp h
    split at e
    · next c => left; rw [← e]; first | exact c | rfl
    · right; exact ⟨y, hy, by rw [← e]⟩
  · rcases List.mem_append.mp h with q | q
    · right; exact ⟨kv, q, rfl⟩
    · left; rw [List.mem_singleton.mp q]
theorem UsedAt.put {H : Hp} {d : Addr} {m : Nat} {f g : Int → Int} {k v : Int} (h : UsedAt H d m f) (hm : m < 1000000) (hv : v = g k) (g0 : g k ≠ 0) (he : ∀ j, j ≠ k → g j = f j) {D : L2.St → Hp → Prop} {σ : L2.St} (q : ∀ H', (∃ o, H' = upd H d o) → UsedAt H' d (m + 1) g → D σ H') :
    ∃ (a : Addr) (H4 : Hp), V.ref d = V.ref a ∧ DPut H a (.int k) (.int v) H4 ∧ D σ H4 := by
  subst hv
  obtain ⟨kvs, hd, hl, hv, hk⟩ := h.ex
  refine ⟨d, _, rfl, DPut.k (k := Sum.inl k) hd (by rw [sizeLine_eq]; omega), q _ ⟨_, rfl⟩ ⟨_, upd_same, Nat.le_trans (length_putK _ _ _) (by omega), fun j => ?_, fun kv hkv => ?_⟩⟩
  · rw [valV_put]
    by_cases c : j = k
    · subst c; rw [if_pos rfl, if_neg g0]
    · rw [if_neg (fun z => c (Sum.inl.inj z)), hv, he j c]
  · rcases keys_put hkv with z | ⟨kv', hkv', z⟩
    · exact ⟨k, z, g0⟩
    · obtain ⟨j, e, f0⟩ := hk kv' hkv'
      refine ⟨j, z ▸ e, ?_⟩
      by_cases c : j = k
      · subst c; exact g0
      · rw [he j c]; exact f0
theorem UsedAt.get {H : Hp} {d : Addr} {m : Nat} {f : Int → Int} {k : Int} (h : UsedAt H d m f) : ∃ o, DGet H d (.int k) o ∧ o.getD (.int 0) = .int (f k) := by
  obtain ⟨kvs, hd, hl, hv, hk⟩ := h.ex
  refine ⟨_, DGet.k (k := Sum.inl k) hd, ?_⟩
  rw [hv]
  by_cases c : f k = 0
  · rw [if_pos c, c]; rfl
  · rw [if_neg c]; rfl
theorem UsedAt.isD {H : Hp} {d : Addr} {m : Nat} {f : Int → Int} (h : UsedAt H d m f) : IsD H d := let ⟨kvs, hd, _⟩ := h.ex; .inl ⟨kvs, .inl hd⟩
def sp_lines_used (K : PySem.W.Frag) (A : CA) : Sp := fun vs H Q E => ∃ (w t : Addr) (n p : Int) (cs : List Int) (rs : List (Int × Int)), vs = [.ref w, .int p, .ref t] ∧ WebX A H w n rs ∧ RG n rs ∧ SqT K H t (cs.map V.int) ∧ cs.length ≤ 100 ∧ (∀ c ∈ cs, 0 ≤ c ∧ c < n) ∧
  ∀ (d : Addr) (H' : Hp), H d = none → Same H H' → UsedAt H' d 100000 (uses rs p cs) → Q (.ref d) H'
def cntD (cs done : List Int) (k : Int) : Nat := (done.filter fun h => decide (h = k) && !decide (h ∈ cs)).length
theorem cntD_out {y k : Int} {cs done : List Int} (h : y ∈ cs) : cntD cs (done ++ [y]) k = cntD cs done k := by
  unfold cntD
  rw [List.filter_append, List.filter_cons, if_neg (by simp [h]), List.filter_nil, List.append_nil]
theorem cntD_in {y k : Int} {cs done : List Int} (h : y ∉ cs) : cntD cs (done ++ [y]) k = if k = y then cntD cs done k + 1 else cntD cs done k := by
  unfold cntD
  rw [List.filter_append, List.length_append, List.filter_cons]
  by_cases c : k = y
  · subst c
    rw [if_pos (by simp [h]), if_pos rfl]
    rfl
  · rw [if_neg (by simp [Ne.symm c]), if_neg c]
    rfl
/-- after the holders in done -/
def usesD (p : Int) (cs done : List Int) (k : Int) : Int := (if p ∉ cs ∧ k = p then 1 else 0) + (cntD cs done k : Nat)
theorem usesD_nn {p : Int} {cs done : List Int} {k : Int} : 0 ≤ usesD p cs done k := by
  unfold usesD; split <;> omega
theorem usesD_out {p y : Int} {cs done : List Int} (h : y ∈ cs) : usesD p cs (done ++ [y]) = usesD p cs done := funext fun k => by
  unfold usesD
  rw [cntD_out h]
theorem usesD_in {p y k : Int} {cs done : List Int} (h : y ∉ cs) : usesD p cs (done ++ [y]) k = if k = y then usesD p cs done k + 1 else usesD p cs done k := by
  unfold usesD
  rw [cntD_in h]
  by_cases c : k = y
  · rw [if_pos c, if_pos c]; omega
  · rw [if_neg c, if_neg c]
theorem usesD_all {p : Int} {cs ns : List Int} {rs : List (Int × Int)} (hs : ns.Pairwise (· < ·)) (hm : ∀ k : Int, k ∈ ns ↔ k ∈ cs) (h0 : ∀ c ∈ cs, 0 ≤ c) (hr : ∀ r ∈ rs, 0 ≤ r.2) :
    usesD p cs (ns.flatMap fun c => grp (rs.map swp) c.toNat) = uses rs p cs := funext fun k => by
  unfold usesD uses cntD
  have e := count_by ns (fun h => decide (h = k) && !decide (h ∈ cs)) (rs.map swp) (hs.imp fun h => Int.ne_of_lt h) (fun c hc => h0 c ((hm c).mp hc)) (fun r hr2 => by
    obtain ⟨y, hy, rfl⟩ := List.mem_map.mp hr2
    exact hr y hy)
  rw [List.filter_flatMap, e, List.filter_map, List.length_map]
  congr 3
  refine List.filter_congr fun r _ => ?_
  have z : decide (r.2 ∈ ns) = decide (r.2 ∈ cs) := decide_eq_decide.mpr (hm r.2)
  show (decide (r.2 ∈ ns) && (decide (r.1 = k) && !decide (r.1 ∈ cs))) = _
  rw [z]
  cases decide (r.2 ∈ cs) <;> cases decide (r.1 = k) <;> rfl
theorem w_dput {td ty tv : TE} {D : Ends} {σ : L2.St} {H : Hp} (h : tv σ H fun v H1 => td σ H1 fun x H2 => ty σ H2 fun y H3 => ∃ a H4, x = V.ref a ∧ DPut H3 a y v H4 ∧ D.nx σ H4) : sDPut td ty tv D σ H := h
theorem w_dget2 {td ty tx : TE} {σ : L2.St} {H : Hp} {Q : VK} (h : td σ H fun x H1 => ∃ a, x = .ref a ∧ IsD H1 a ∧ ty σ H1 fun y H2 => tx σ H2 fun z H3 => ∃ o, DGet H3 a y o ∧ Q (o.getD z) H3) : tDGet2 td ty tx σ H Q := h
def t_lines_used (K : PySem.W.Frag) (A : CA) (w : World) (E : XK) : TS :=
  (tSeq (tAsg (tCB (GX.rSetTI K w) (tCons (tVar 2) tNil)) (gName 3))
  (tSeq (tAsg tDNewK (gName 4))
  (C8.tCut (tIfS (tTest (tOp (rSNotIn w) (tVar 1) (tVar 3))) (sDPut (tVar 4) (tVar 1) (tC (.int 1))) tNext)
  (tSeq (tFor (iList K (tCB (GX.rSortSet w) (tCons (tVar 3) tNil))) (gName 5)
  (tFor (iList K (tMeth A.Web "holders" (sp_Web_holders K A) [] E (tVar 0) (tCons (tVar 5) tNil))) (gName 6)
  (tIfS (tTest (tOp (rSNotIn w) (tVar 6) (tVar 3))) (sDPut (tVar 4) (tVar 6) (tOp oAdd (tDGet2 (tVar 4) (tVar 6) (tC (.int 0))) (tC (.int 1)))) tNext)))
  (tRet (tVar 4))))))

theorem rd_lines_used {K : PySem.W.Frag} {A : CA} {w0 : World} {vs : List V} {H : Hp} {Q : VK} {E : XK} (h : sp_lines_used K A vs H Q E) :
    t_lines_used K A w0 E { nx := fun _ H' => Q .non H', rt := Q } (start ["web", "page", "copied", "anew", "used", "target", "holder"] vs) H := by
  obtain ⟨w, t, n, p, cs, rs, rfl, hW, hR, ht, hcl, hcb, q⟩ := h
  unfold t_lines_used
  walk_at "go"
  refine ⟨t, cs, rfl, ht, by omega, fun sa m hm hsa => ?_⟩
  walk_at "go"
  intro d hd
  have nsd : sa ≠ d := ne_of_none (o := SetO w0 sa (fun j => decide (j ∈ cs)) m) upd_same hd
  have hd0 : H d = none := by
    have z := hd
    rw [upd_ne nsd.symm] at z
    exact z
  have e1 : Same H (upd (upd H sa (SetO w0 sa (fun j => decide (j ∈ cs)) m)) d (.dK [])) := (same_new hsa).trans (same_new hd)
  have hs1 : (upd (upd H sa (SetO w0 sa (fun j => decide (j ∈ cs)) m)) d (.dK [])) sa = some (SetO w0 sa (fun j => decide (j ∈ cs)) m) := keep upd_same hd
  have U1 : UsedAt (upd (upd H sa (SetO w0 sa (fun j => decide (j ∈ cs)) m)) d (.dK [])) d 0 (fun _ => 0) := ⟨[], upd_same, Nat.le_refl _, fun k => rfl, fun kv h => by cases h⟩
  generalize upd (upd H sa (SetO w0 sa (fun j => decide (j ∈ cs)) m)) d (.dK []) = H1 at e1 hs1 U1
  walk_at "go"
  refine w_cut (fun σ H' => σ = [some (.ref w), some (.int p), some (.ref t), some (.ref sa), some (.ref d), none, none] ∧ Same H H' ∧ H' sa = some (SetO w0 sa (fun j => decide (j ∈ cs)) m) ∧ UsedAt H' d 1 (usesD p cs [])) ?_ ?_
  · walk_at "go"
    refine ⟨p, sa, _, m, rfl, rfl, hs1, ?_⟩
    refine ⟨_, rfl, ?_⟩
    by_cases c : p ∈ cs
    · rw [decide_eq_true c]
      walk_at "go"
      refine ⟨rfl, e1, hs1, ?_⟩
      have z : usesD p cs [] = fun _ => 0 := funext fun k => by unfold usesD cntD; simp [c]
      rw [z]
      obtain ⟨kvs, a, b, c2⟩ := U1.ex
      exact ⟨kvs, a, by omega, c2⟩
    · rw [decide_eq_false c]
      refine w_iteNF ?_
      refine w_dput ?_
      walk_at "go"
      refine U1.put (g := usesD p cs []) (by decide) (by unfold usesD cntD; simp [c]) (by unfold usesD cntD; simp [c]) (fun j hj => by unfold usesD cntD; simp [hj]) ?_
      rintro H2 ⟨o, rfl⟩ U2
      exact ⟨rfl, same_mut e1 hd0, keepNe hs1 nsd, U2⟩
  rintro σ H2 ⟨rfl, e2, hs2, U2⟩
  clear U1 hs1 e1 hd hsa
  walk_at "go"
  refine ⟨sa, _, m, rfl, hs2, by omega, fun ns p1 hso hmem hlen hp1 => ?_⟩
  have hmem2 : ∀ k : Int, k ∈ ns ↔ k ∈ cs := fun k => (hmem k).trans (by simp)
  have e3 := e2.trans (same_new (o := .lst (ns.map V.int)) hp1)
  have hs3 : (upd H2 p1 (.lst (ns.map V.int))) sa = some (SetO w0 sa (fun j => decide (j ∈ cs)) m) := keep hs2 hp1
  have g3 : (upd H2 p1 (.lst (ns.map V.int))) p1 = some (.lst (ns.map V.int)) := upd_same
  have npd : p1 ≠ d := fun z => by
    obtain ⟨kvs, a, _⟩ := U2.ex
    rw [← z, hp1] at a; cases a
  have U3 := U2.mut (o := .lst (ns.map V.int)) npd.symm
  generalize upd H2 p1 (.lst (ns.map V.int)) = H3 at e3 hs3 g3 U3
  clear U2 hs2 e2 hp1
  have nl : ns.length ≤ 100 := by omega
  walk_at "go"
  refine forL (xs := ns.map V.int) (fun i σ H' => ∃ k5 k6 : Option V, σ = [some (.ref w), some (.int p), some (.ref t), some (.ref sa), some (.ref d), k5, k6] ∧ Same H H' ∧ H' sa = some (SetO w0 sa (fun j => decide (j ∈ cs)) m) ∧ H' p1 = some (.lst (ns.map V.int)) ∧ UsedAt H' d (1 + 600 * i) (usesD p cs ((ns.take i).flatMap fun c => grp (rs.map swp) c.toNat))) ?_ ?_ ?_ ?_
  · exact ⟨none, none, rfl, e3, hs3, g3, U3⟩
  · rintro i σ H4 _ ⟨k5, k6, rfl, _, _, g4, _⟩
    exact SqL.of g4
  · rintro i x σ H4 hx ⟨k5, k6, rfl, e4, hs4, g4, U4⟩
    obtain ⟨z, hz, rfl⟩ : ∃ z, ns[i]? = some z ∧ x = V.int z := by
      rw [List.getElem?_map] at hx
      cases e : ns[i]? with
      | none => rw [e] at hx; cases hx
      | some z => rw [e] at hx; exact ⟨z, rfl, (Option.some.inj hx).symm⟩
    have zb := hcb z ((hmem2 z).mp (List.mem_of_getElem? hz))
    have il : i < ns.length := (List.getElem?_eq_some_iff.mp hz).1
    have hW4 := hW.same e4
    obtain ⟨dx, dd, ar, tg, hd, h1⟩ := hW4.obj
    obtain ⟨_, _, _, _, _, us, _, _, _, _, _, h5, h6, _⟩ := hW4.ex
    have glen : (grp (rs.map swp) z.toNat).length ≤ 600 := by
      have a := grp_len (rs := rs.map swp) (k := z.toNat)
      have b := h5.length
      rw [List.length_map] at a
      omega
    clear h5 h6
    walk_at "go"
    refine w_mth2 h1 web_noholders ?_
    walk_at "go"
    refine ⟨w, n, z, rs, rfl, hW4, i_told zb.1 zb.2 fun q5 H5 hq5 e5 g5 => ?_⟩
    have nq : q5 ≠ d := fun y => by
      obtain ⟨kvs, a, _⟩ := U4.ex
      rw [← y, hq5] at a; cases a
    have e6 := e4.trans e5
    have hs5 := e5 _ _ hs4
    have g45 := e5 _ _ g4
    have U5 := U4.same e5
    rw [flat_take hz]
    generalize (ns.take i).flatMap (fun c => grp (rs.map swp) c.toNat) = done at U5
    generalize grp (rs.map swp) z.toNat = l at glen g5
    walk_at "go"
    refine forL (xs := l.map V.int) (fun j σ H' => ∃ k6 : Option V, σ = [some (.ref w), some (.int p), some (.ref t), some (.ref sa), some (.ref d), some (.int z), k6] ∧ Same H H' ∧ H' sa = some (SetO w0 sa (fun j => decide (j ∈ cs)) m) ∧ H' p1 = some (.lst (ns.map V.int)) ∧ H' q5 = some (.lst (l.map V.int)) ∧ UsedAt H' d (1 + 600 * i + j) (usesD p cs (done ++ l.take j))) ?_ ?_ ?_ ?_
    · refine ⟨_, rfl, e6, hs5, g45, g5, ?_⟩
      rw [List.take_zero, List.append_nil]
      exact U5
    · rintro j σ H6 _ ⟨k6, rfl, _, _, _, g6, _⟩
      exact SqL.of g6
    · rintro j y σ H6 hy ⟨k6, rfl, e7, hs6, g46, g6, U6⟩
      obtain ⟨h, hh, rfl⟩ : ∃ h, l[j]? = some h ∧ y = V.int h := by
        rw [List.getElem?_map] at hy
        cases e : l[j]? with
        | none => rw [e] at hy; cases hy
        | some h => rw [e] at hy; exact ⟨h, rfl, (Option.some.inj hy).symm⟩
      have jl : j < l.length := (List.getElem?_eq_some_iff.mp hh).1
      have step : done ++ l.take (j + 1) = (done ++ l.take j) ++ [h] := by rw [List.take_succ, hh, List.append_assoc]; rfl
      walk_at "go"
      refine ⟨h, sa, _, m, rfl, rfl, hs6, _, rfl, ?_⟩
      rw [step]
      by_cases c : h ∈ cs
      · rw [decide_eq_true c]
        walk_at "go"
        refine ⟨_, rfl, e7, hs6, g46, g6, ?_⟩
        rw [usesD_out c]
        obtain ⟨kvs, a, b, c2⟩ := U6.ex
        exact ⟨kvs, a, by omega, c2⟩
      · rw [decide_eq_false c]
        refine w_iteNF ?_
        refine w_dput ?_
        walk_at "go"
        refine w_dget2 ?_
        walk_at "go"
        obtain ⟨o, ho, hv⟩ := U6.get (k := h)
        refine ⟨U6.isD, ?_⟩
        walk_at "go"
        refine ⟨o, ho, ?_⟩
        rw [hv]
        have nn := usesD_nn (p := p) (cs := cs) (done := done ++ l.take j) (k := h)
        have vv : usesD p cs (done ++ l.take j ++ [h]) h = usesD p cs (done ++ l.take j) h + 1 := by rw [usesD_in c, if_pos rfl]
        walk_at "go"
        refine U6.put (g := usesD p cs (done ++ l.take j ++ [h])) (by omega) vv.symm (by omega) (fun y hy => by rw [usesD_in c, if_neg hy]) ?_
        rintro H7 ⟨o', rfl⟩ U7
        have g6d : q5 ≠ d := nq
        exact ⟨_, rfl, same_mut e7 hd0, keepNe hs6 nsd, keepNe g46 npd, keepNe g6 nq, U7⟩
    · rintro σ H6 ⟨k6, rfl, e7, hs6, g46, g6, U6⟩
      rw [List.length_map, List.take_length] at U6
      refine ⟨_, _, rfl, e7, hs6, g46, ?_⟩
      obtain ⟨kvs, a, b, c2⟩ := U6.ex
      exact ⟨kvs, a, by omega, c2⟩
  · rintro σ H4 ⟨k5, k6, rfl, e4, hs4, g4, U4⟩
    rw [List.length_map, List.take_length, usesD_all hso hmem2 (fun c hc => (hcb c hc).1) (fun r hr => (hR.bd r hr).2.2.1)] at U4
    walk_at "go"
    obtain ⟨kvs, a, b, c2⟩ := U4.ex
    exact q d H4 hd0 e4 ⟨kvs, a, by omega, c2⟩
end G

namespace G
open PySem L2 GX
theorem st_no {w lb : Addr} {l : Int} {m : Str} (h1 : ("_blank" : Str) ≠ m) (h2 : ("lines" : Str) ≠ m) (h3 : ("web" : Str) ≠ m) : (stFs w l lb).lookup m = none := by
  unfold stFs
  rw [lookup_putF, if_neg (fun z => h1 z.symm), lookup_putF, if_neg (fun z => h2 z.symm), lookup_putF, if_neg (fun z => h3 z.symm)]
  rfl
def sp_Standing_used (K : PySem.W.Frag) (A : CA) : Sp := fun vs H Q _ => ∃ (st w : Addr) (n L : Int) (rs : List (Int × Int)) (bs : List Int), vs = [.ref st] ∧ StAt A H st w n rs L bs ∧ 0 ≤ L ∧ L ≤ 1000 ∧ 0 ≤ n ∧ n ≤ 1000 ∧ ∀ H', Same H H' → Q (.int (L * n - bs.sum)) H'
def t_Standing_used (K : PySem.W.Frag) (A : CA) : TS :=
  (tRet (tOp oSub (tOp oMul (tFld K (tVar 0) "lines") (tFld K (tFld K (tVar 0) "web") "pages")) (tCB (rSum K) (tCons (tFld K (tVar 0) "_blank") tNil))))

theorem rd_Standing_used {K : PySem.W.Frag} {A : CA} (T : CTS K A) {vs : List V} {H : Hp} {Q : VK} {E : XK} (h : sp_Standing_used K A vs H Q E) :
    t_Standing_used K A { nx := fun _ H' => Q .non H', rt := Q } (start ["self"] vs) H := by
  obtain ⟨st, w, n, L, rs, bs, rfl, hS, L0, L1, n0, n1, q⟩ := h
  have a0 : -18446744073709551616 < L := by omega
  have a1 : L < 18446744073709551616 := by omega
  have a2 : -18446744073709551616 < n := by omega
  have a3 : n < 18446744073709551616 := by omega
  obtain ⟨dx, lb, h1, h2⟩ := hS.ex
  obtain ⟨dw, d, ar, tg, hd, g1⟩ := hS.web.obj
  unfold t_Standing_used
  walk_at "go"
  refine w_fld2 h1 T.c_Standing T.n_Standing_lines st_lines ?_
  walk_at "go"
  refine w_fld2 h1 T.c_Standing T.n_Standing_web st_web ?_
  walk_at "go"
  refine w_fld2 g1 T.b.c_Web T.b.n_Web_pages web_pages ?_
  walk_at "go"
  refine w_fld2 h1 T.c_Standing T.n_Standing__blank st_blank ?_
  walk_at "go"
  exact q H (fun _ _ h => h)
end G

namespace G
open PySem L2 GX
/-- the numbers stand: no page takes more lines than it has blank -/
def Fits (n : Int) (bs : List Int) (f : Int → Int) : Prop := ∀ k, 0 ≤ k → k < n → f k ≤ bs.getD k.toNat 0
def sp_Standingcheck_lines (K : PySem.W.Frag) (A : CA) : Sp := fun vs H Q E => ∃ (st w d : Addr) (n L : Int) (m : Nat) (rs : List (Int × Int)) (bs : List Int) (f : Int → Int), vs = [.ref st, .ref d] ∧ StAt A H st w n rs L bs ∧ BK L n.toNat bs ∧ UsedAt H d m f ∧ (∀ k, f k ≠ 0 → 0 ≤ k ∧ k < n) ∧
  (∀ z, 0 ≤ z → z < n → bs.getD z.toNat 0 < f z → (∀ y, 0 ≤ y → y < z → f y ≤ bs.getD y.toNat 0) → Raised A.NoLine "page" (.int z) H E) ∧ (Fits n bs f → ∀ H', Same H H' → Q .non H')
theorem w_dget {td ty : TE} {σ : L2.St} {H : Hp} {Q : VK} (h : td σ H fun x H1 => ty σ H1 fun y H2 => ∃ a v, x = V.ref a ∧ DGet H2 a y (some v) ∧ Q v H2) : tDGet td ty σ H Q := h
theorem w_listD {H : Hp} {Q : VK} {p : Addr} {kvs : List (Key × V)} (h : H p = some (.dK kvs)) (q : ∀ l, H l = none → Q (.ref l) (upd H l (.lst (kvs.map fun kv => kV kv.1)))) : rListD [.ref p] H Q := ⟨p, kvs, rfl, h, q⟩
theorem keys_int : ∀ {kvs : List (Key × V)} {P : Int → Prop}, (∀ kv ∈ kvs, ∃ k : Int, kv.1 = Sum.inl k ∧ P k) → ∃ ks : List Int, (kvs.map fun kv => kV kv.1) = ks.map V.int ∧ ks.length = kvs.length ∧ ∀ k, k ∈ ks ↔ ∃ kv ∈ kvs, kv.1 = Sum.inl k
  | [], _, _ => ⟨[], rfl, rfl, fun k => by simp⟩
  | kv :: r, P, h => by
    obtain ⟨ks, e, l, m⟩ := keys_int (kvs := r) (P := P) fun x hx => h x (List.mem_cons_of_mem _ hx)
    obtain ⟨k, hk, _⟩ := h kv List.mem_cons_self
    refine ⟨k :: ks, ?_, by simp [l], fun j => ?_⟩
    · rw [List.map_cons, List.map_cons, e, hk]; rfl
    · rw [List.mem_cons, m j]
      constructor
      · rintro (rfl | ⟨x, hx, e⟩)
        · exact ⟨kv, List.mem_cons_self, hk⟩
        · exact ⟨x, List.mem_cons_of_mem _ hx, e⟩
      · rintro ⟨x, hx, e⟩
        rcases List.mem_cons.mp hx with rfl | hx
        · left; rw [hk] at e; exact (Sum.inl.inj e).symm
        · exact .inr ⟨x, hx, e⟩
theorem UsedAt.keys {H : Hp} {d : Addr} {m : Nat} {f : Int → Int} (h : UsedAt H d m f) : ∃ kvs ks, H d = some (.dK kvs) ∧ (kvs.map fun kv => kV kv.1) = List.map V.int ks ∧ ks.length ≤ m ∧ ∀ k, k ∈ ks ↔ f k ≠ 0 := by
  obtain ⟨kvs, hd, hl, hv, hk⟩ := h.ex
  obtain ⟨ks, e, l, mm⟩ := keys_int hk
  refine ⟨kvs, ks, hd, e, by omega, fun k => (mm k).trans ⟨fun ⟨kv, hkv, e2⟩ => ?_, fun f0 => ?_⟩⟩
  · obtain ⟨j, e3, f0⟩ := hk kv hkv
    rw [e2] at e3
    rw [Sum.inl.inj e3]; exact f0
  · have z := hv k
    rw [if_neg f0] at z
    unfold valV at z
    cases hf : kvs.find? fun kv => decide (kv.1 = Sum.inl k) with
    | none => rw [hf] at z; cases z
    | some kv => exact ⟨kv, List.mem_of_find?_eq_some hf, by simpa using List.find?_some hf⟩
theorem UsedAt.getS {H : Hp} {d : Addr} {m : Nat} {f : Int → Int} {k : Int} (h : UsedAt H d m f) (f0 : f k ≠ 0) : DGet H d (.int k) (some (.int (f k))) := by
  obtain ⟨kvs, hd, hl, hv, hk⟩ := h.ex
  have z := DGet.k (k := Sum.inl k) hd
  rw [hv, if_neg f0] at z
  exact z
def t_Standingcheck_lines (K : PySem.W.Frag) (A : CA) (E : XK) : TS :=
  (tFor (iList K (tCB (rSortedI K) (tCons (tCB rListD (tCons (tVar 1) tNil)) tNil))) (gName 2)
  (tIfS (tTest (tOp oGt (tDGet (tVar 1) (tVar 2)) (tOp (rIxL K) (tFld K (tVar 0) "_blank") (tVar 2)))) (GX.tRaiseO A.NoLine (GX.sp_err K A.NoLine "page") E (tCons (tVar 2) tNil)) tNext))

theorem rd_Standingcheck_lines {K : PySem.W.Frag} {A : CA} (T : CTS K A) {vs : List V} {H : Hp} {Q : VK} {E : XK} (h : sp_Standingcheck_lines K A vs H Q E) :
    t_Standingcheck_lines K A E { nx := fun _ H' => Q .non H', rt := Q } (start ["self", "used", "page"] vs) H := by
  obtain ⟨st, w, d, n, L, m, rs, bs, f, rfl, hS, hB, hU, hf, k1, k2⟩ := h
  obtain ⟨dx, lb, h1, h2⟩ := hS.ex
  obtain ⟨kvs, ks, hd, ek, _, hks⟩ := hU.keys
  unfold t_Standingcheck_lines
  walk_at "go"
  refine w_listD hd fun l1 hl1 => ?_
  rw [ek]
  have e1 := same_new (o := .lst (ks.map V.int)) hl1
  have g1 : (upd H l1 (.lst (ks.map V.int))) l1 = some (.lst (ks.map V.int)) := upd_same
  generalize upd H l1 (.lst (ks.map V.int)) = H1 at e1 g1
  walk_at "go"
  refine w_sortI (SqL.of g1) fun ns l2 pm so hl2 => ?_
  have hns : ∀ k, k ∈ ns ↔ f k ≠ 0 := fun k => pm.mem_iff.trans (hks k)
  have e2 := e1.trans (same_new (o := .lst (ns.map V.int)) hl2)
  have g2 : (upd H1 l2 (.lst (ns.map V.int))) l2 = some (.lst (ns.map V.int)) := upd_same
  generalize upd H1 l2 (.lst (ns.map V.int)) = H2 at e2 g2
  have b0 : ∀ y : Int, 0 ≤ bs.getD y.toNat 0 := fun y => by
    rw [List.getD_eq_getElem?_getD]
    cases hy : bs[y.toNat]? with
    | none => exact Int.le_refl 0
    | some b => exact (hB.bd b (List.mem_of_getElem? hy)).1
  walk_at "go"
  refine forL (xs := ns.map V.int) (fun i σ H' => ∃ k2 : Option V, σ = [some (.ref st), some (.ref d), k2] ∧ H' = H2 ∧ ∀ y ∈ ns.take i, f y ≤ bs.getD y.toNat 0) ?_ ?_ ?_ ?_
  · exact ⟨none, rfl, rfl, fun y hy => by cases hy⟩
  · rintro i σ H3 _ ⟨k2, rfl, rfl, _⟩
    exact SqL.of g2
  · rintro i x σ H3 hx ⟨k3, rfl, rfl, hin⟩
    obtain ⟨z, hz, rfl⟩ : ∃ z, ns[i]? = some z ∧ x = V.int z := by
      rw [List.getElem?_map] at hx
      cases e : ns[i]? with
      | none => rw [e] at hx; cases hx
      | some z => rw [e] at hx; exact ⟨z, rfl, (Option.some.inj hx).symm⟩
    have f0 := (hns z).mp (List.mem_of_getElem? hz)
    have zb := hf z f0
    obtain ⟨b, b1, b2, _, _⟩ := hB.get (k := z) zb.1 (by omega)
    have bd : bs.getD z.toNat 0 = b := by rw [List.getD_eq_getElem?_getD, b1]; rfl
    walk_at "go"
    refine w_dget ?_
    walk_at "go"
    refine ⟨d, _, rfl, (hU.same e2).getS f0, ?_⟩
    have lbH := e2 _ _ h2
    walk_at "go"
    refine w_fld2 (e2 _ _ h1) T.c_Standing T.n_Standing__blank st_blank ?_
    walk_at "go"
    refine w_iteD (fun c => ?_) (fun c => ?_)
    · refine w_raiseO (v := .int z) (H1 := H3) T.e_NoLine T.f_NoLine (fun Q q => by walk_at "go"; exact q) (Raised.at e2 (k1 z zb.1 zb.2 (by omega) fun y y0 yz => ?_))
      by_cases fy : f y = 0
      · rw [fy]; exact b0 y
      · obtain ⟨j, hj⟩ := List.getElem?_of_mem ((hns y).mpr fy)
        rcases Nat.lt_or_ge j i with c2 | c2
        · exact hin y (List.mem_of_getElem? (i := j) (by rw [List.getElem?_take_of_lt c2]; exact hj))
        · exfalso
          obtain ⟨hi, ei⟩ := List.getElem?_eq_some_iff.mp hz
          obtain ⟨hj2, ej⟩ := List.getElem?_eq_some_iff.mp hj
          rcases Nat.lt_or_eq_of_le c2 with c3 | c3
          · have := List.pairwise_iff_getElem.mp so i j hi hj2 c3
            omega
          · subst c3; omega
    · walk_at "go"
      refine ⟨_, rfl, rfl, fun y hy => ?_⟩
      rw [List.take_succ, hz] at hy
      rcases List.mem_append.mp hy with k | k
      · exact hin y k
      · obtain rfl : y = z := by simpa using k
        omega
  · rintro σ H3 ⟨k3, rfl, rfl, hin⟩
    rw [List.length_map, List.take_length] at hin
    walk_at "go"
    refine k2 (fun k k0 k1 => ?_) H3 e2
    by_cases fk : f k = 0
    · rw [fk]; exact b0 k
    · exact hin k ((hns k).mpr fk)
end G

namespace G
open PySem L2 GX
/-- the blank lines behind an answer -/
def aft (n : Int) (rs : List (Int × Int)) (bs : List Int) (L p : Int) (cs : List Int) : List Int := (List.range n.toNat).map fun k : Nat => if (k : Int) ∈ cs then L else bs.getD k 0 - uses rs p cs k
theorem aft_len {n : Int} {rs : List (Int × Int)} {bs : List Int} {L p : Int} {cs : List Int} : (aft n rs bs L p cs).length = n.toNat := by
  unfold aft; rw [List.length_map, List.length_range]
theorem uses_nn {rs : List (Int × Int)} {p : Int} {cs : List Int} {k : Int} : 0 ≤ uses rs p cs k := by
  unfold uses; split <;> omega
theorem uses_in {n : Int} {rs : List (Int × Int)} {p : Int} {cs : List Int} (hR : RG n rs) (hp : 0 ≤ p ∧ p < n) {k : Int} (h : uses rs p cs k ≠ 0) : 0 ≤ k ∧ k < n := by
  unfold uses at h
  by_cases c : p ∉ cs ∧ k = p
  · rw [c.2]; exact hp
  · rw [if_neg c] at h
    have l : 0 < (rs.filter fun r => decide (r.1 = k) && (decide (r.2 ∈ cs) && !decide (r.1 ∈ cs))).length := by omega
    obtain ⟨r, hr⟩ := List.exists_mem_of_length_pos l
    obtain ⟨h1, h2⟩ := List.mem_filter.mp hr
    have e : r.1 = k := by
      have z := (Bool.and_eq_true_iff.mp h2).1
      exact of_decide_eq_true z
    have := hR.bd r h1
    omega
theorem aft_bk {n : Int} {rs : List (Int × Int)} {bs : List Int} {L p : Int} {cs : List Int} (hB : BK L n.toNat bs) (hL : 0 ≤ L) (hF : Fits n bs (uses rs p cs)) : BK L n.toNat (aft n rs bs L p cs) := by
  refine ⟨aft_len, fun b hb => ?_⟩
  obtain ⟨k, hk, rfl⟩ := List.mem_map.mp hb
  have kn := List.mem_range.mp hk
  by_cases c : (k : Int) ∈ cs
  · rw [if_pos c]; exact ⟨hL, Int.le_refl L⟩
  · rw [if_neg c]
    have a := hF k (by omega) (by omega)
    have b := uses_nn (rs := rs) (p := p) (cs := cs) (k := k)
    rw [Int.toNat_natCast] at a
    have d : bs.getD k 0 ≤ L := by
      rw [List.getD_eq_getElem?_getD]
      cases e : bs[k]? with
      | none => exact hL
      | some z => exact (hB.bd z (List.mem_of_getElem? e)).2
    omega
theorem sqT_same {K : PySem.W.Frag} {H H' : Hp} {p : Addr} {xs : List V} (h : SqT K H p xs) (e : Same H H') : SqT K H' p xs := by
  rcases h with (h | ⟨o, h⟩) | h
  · exact .inl (.inl (e _ _ h))
  · exact .inl (.inr ⟨o, e _ _ h⟩)
  · exact .inr h
theorem w_forT {K : PySem.W.Frag} {te : TE} {g : TG} {tb : TS} {D : Ends} {σ : L2.St} {H : Hp} (h : te σ H fun x H1 => ∃ a, x = .ref a ∧ (∃ xs, SqT K H1 a xs) ∧ ForW (Itt K a) g tb D σ H1) : tFor (iTup K te) g tb D σ H := h
theorem forT {K : PySem.W.Frag} {g : TG} {tb : TS} {D : Ends} {σ : L2.St} {H : Hp} {a : Addr} {xs : List V} (Pv : Nat → L2.St → Hp → Prop) (h0 : Pv 0 σ H) (hl : ∀ i σ1 H1, i ≤ xs.length → Pv i σ1 H1 → SqT K H1 a xs)
    (hs : ∀ i x σ1 H1, xs[i]? = some x → Pv i σ1 H1 → g x σ1 H1 fun σ2 H2 => tb { D with nx := Pv (i + 1), ct := Pv (i + 1), bk := D.nx } σ2 H2) (hd : ∀ σ1 H1, Pv xs.length σ1 H1 → D.nx σ1 H1) : ForW (Itt K a) g tb D σ H := for_tup (xs := xs) Pv h0 hl hs hd
theorem set_range {m j : Nat} {f : Nat → Int} {v : Int} (hj : j < m) : (((List.range m).map f).map V.int).set j (.int v) = ((List.range m).map fun k => if k = j then v else f k).map V.int := by
  refine List.ext_getElem? fun k => ?_
  rw [List.getElem?_set]
  by_cases c : j = k
  · subst c
    rw [if_pos rfl, if_pos (by rw [List.length_map, List.length_map, List.length_range]; exact hj)]
    simp [hj]
  · rw [if_neg c]
    rcases Nat.lt_or_ge k m with h | h
    · simp [h, Ne.symm c]
    · simp [h]
def sp_Standing_after (K : PySem.W.Frag) (A : CA) : Sp := fun vs H Q E => ∃ (st w t : Addr) (n L p : Int) (rs : List (Int × Int)) (bs cs : List Int), vs = [.ref st, .int p, .ref t] ∧ StAt A H st w n rs L bs ∧ RG n rs ∧ BK L n.toNat bs ∧ 1 ≤ n ∧ n ≤ 500 ∧ 0 ≤ L ∧ SqT K H t (cs.map V.int) ∧ cs.length ≤ 50 ∧
  (∀ z, (p :: cs).find? (isOut n) = some z → Raised A.NoPage "page" (.int z) H E) ∧
  ((p :: cs).find? (isOut n) = none → (∀ z, 0 ≤ z → z < n → bs.getD z.toNat 0 < uses rs p cs z → (∀ y, 0 ≤ y → y < z → uses rs p cs y ≤ bs.getD y.toNat 0) → Raised A.NoLine "page" (.int z) H E) ∧
    (Fits n bs (uses rs p cs) → ∀ (s2 : Addr) (H' : Hp), StNew A H H' s2 w L (aft n rs bs L p cs) → Same H H' → StAt A H' s2 w n rs L (aft n rs bs L p cs) → Q (.ref s2) H'))
theorem BK.noBad {L : Int} {n : Nat} {bs : List Int} (h : BK L n bs) (k : Nat) : ¬ badK L bs k := fun ⟨b, hb, c, _⟩ => by have := h.bd b (List.mem_of_getElem? hb); omega
def t_Standing_after (K : PySem.W.Frag) (A : CA) (E : XK) : TS :=
  (tSeq (tDrop (tCall (sp_check_pages K A) [] E (tCons (tFld K (tVar 0) "web") (tCons (tLst (tCons (tVar 1) (_root_.StX.tStar K (tVar 2) tNil))) tNil))))
  (tSeq (tAsg (tCall (sp_lines_used K A) [] E (tCons (tFld K (tVar 0) "web") (tCons (tVar 1) (tCons (tVar 2) tNil)))) (gName 3))
  (tSeq (tDrop (tMeth A.Standing "_check_lines" (sp_Standingcheck_lines K A) [] E (tVar 0) (tCons (tVar 3) tNil)))
  (tSeq (tAsg (tLc (iEnum K (tCons (tFld K (tVar 0) "_blank") tNil)) (gTup K 2 (gCons (gName 5) (gCons (gName 6) gNil))) tYes (tOp oSub (tVar 6) (tDGet2 (tVar 3) (tVar 5) (tC (.int 0)))) [5, 6]) (gName 4))
  (tSeq (tFor (iTup K (tVar 2)) (gName 7)
  (tAsg (tFld K (tVar 0) "lines") (gSub (tVar 4) (tVar 7) rSetL)))
  (tRet (tMake A.Standing (sp_Standing_init K A) [] E (tCons (tFld K (tVar 0) "web") (tCons (tFld K (tVar 0) "lines") (tCons (tVar 4) tNil))))))))))

theorem rd_Standing_after {K : PySem.W.Frag} {A : CA} (T : CTS K A) {vs : List V} {H : Hp} {Q : VK} {E : XK} (h : sp_Standing_after K A vs H Q E) :
    t_Standing_after K A E { nx := fun _ H' => Q .non H', rt := Q } (start ["self", "page", "copied", "used", "blank", "at", "number", "target"] vs) H := by
  obtain ⟨st, w, t, n, L, p, rs, bs, cs, rfl, hS, hR, hB, n0, n1, L0, ht, hcl, k1, k2⟩ := h
  obtain ⟨dx, lb, h1, h2⟩ := hS.ex
  obtain ⟨dw, d0, ar, tg, hd0, g1⟩ := hS.web.obj
  unfold t_Standing_after
  walk_at "go"
  refine w_fld2 h1 T.c_Standing T.n_Standing_web st_web ?_
  walk_at "go"
  refine GY.w_star ?_
  walk_at "go"
  refine ⟨t, _, rfl, .inl ht, ?_⟩
  walk_at "go"
  refine ⟨Nat.le_of_lt (small1000 (by rw [List.length_cons, List.length_append, List.length_map, List.length_nil]; omega)), fun l1 hl1 => ?_⟩
  rw [List.append_nil]
  have e1 := same_new (o := .lst (V.int p :: cs.map V.int)) hl1
  have gl1 : (upd H l1 (.lst (V.int p :: cs.map V.int))) l1 = some (.lst ((p :: cs).map V.int)) := upd_same
  generalize upd H l1 (.lst (V.int p :: cs.map V.int)) = H1 at e1 gl1
  walk_at "go"
  refine ⟨w, l1, dw, _, n, p :: cs, rfl, e1 _ _ g1, web_pages, SqL.of gl1, fun z hz => Raised.at e1 (k1 z hz), fun hz => ?_⟩
  obtain ⟨k2, k3⟩ := k2 hz
  have inn : ∀ z ∈ p :: cs, 0 ≤ z ∧ z < n := fun z hz2 => in_of (by simpa using List.find?_eq_none.mp hz z hz2)
  have pb := inn p List.mem_cons_self
  have cb : ∀ c ∈ cs, 0 ≤ c ∧ c < n := fun c hc => inn c (List.mem_cons_of_mem _ hc)
  clear k1 gl1
  walk_at "go"
  refine w_fld2 (e1 _ _ h1) T.c_Standing T.n_Standing_web st_web ?_
  walk_at "go"
  refine ⟨w, t, n, p, cs, rs, rfl, hS.web.same e1, hR, sqT_same ht e1, by omega, cb, fun d H2 hd e2 hU => ?_⟩
  have E2 := e1.trans e2
  walk_at "go"
  refine w_mth2 (E2 _ _ h1) (st_no (by decide) (by decide) (by decide)) ?_
  walk_at "go"
  refine ⟨st, w, d, n, L, 100000, rs, bs, uses rs p cs, rfl, hS.same E2, hB, hU, fun k hk => uses_in hR pb hk, fun z z0 z1 c1 c2 => Raised.at E2 (k2 z z0 z1 c1 c2), fun hF H3 e3 => ?_⟩
  have E3 := E2.trans e3
  have hU3 := hU.same e3
  have h13 := E3 _ _ h1
  have h23 := E3 _ _ h2
  walk_at "go"
  refine w_lcE ?_
  walk_at "go"
  refine w_fld2 h13 T.c_Standing T.n_Standing__blank st_blank ?_
  walk_at "go"
  refine ⟨lb, bs.map V.int, rfl, SqL.of h23, ?_⟩
  refine lcE (xs := bs.map V.int) (fun Dl i H' => Same H3 H' ∧ H' Dl = some (.lst (((List.range i).map fun k : Nat => bs.getD k 0 - uses rs p cs k).map V.int))) (fun Dl hD => ⟨same_new hD, upd_same⟩) (fun Dl i H' hD hi ⟨e, _⟩ => SqL.of (e _ _ h23)) ?_ ?_
  · rintro Dl i x Tt H4 hD hx ⟨e4, g4⟩ hT
    obtain ⟨b, hb, rfl⟩ : ∃ b, bs[i]? = some b ∧ x = V.int b := by
      rw [List.getElem?_map] at hx
      cases e : bs[i]? with
      | none => rw [e] at hx; cases hx
      | some b => rw [e] at hx; exact ⟨b, rfl, (Option.some.inj hx).symm⟩
    have il : i < bs.length := (List.getElem?_eq_some_iff.mp hb).1
    have bl := hB.len
    have bd : bs.getD i 0 = b := by rw [List.getD_eq_getElem?_getD, hb]; rfl
    have e5 := e4.trans (same_new (o := .tup [V.int (i : Nat), .int b]) hT)
    have g5 : (upd H4 Tt (.tup [V.int (i : Nat), .int b])) Dl = _ := keep g4 hT
    have gT : (upd H4 Tt (.tup [V.int (i : Nat), .int b])) Tt = some (.tup [V.int (i : Nat), .int b]) := upd_same
    have hU5 := hU3.same e5
    have sl : (((List.range i).map fun k : Nat => bs.getD k 0 - uses rs p cs k).map V.int).length < sizeLine := small1000 (by rw [List.length_map, List.length_map, List.length_range]; omega)
    generalize upd H4 Tt (.tup [V.int (i : Nat), .int b]) = H5 at e5 g5 gT hU5
    walk_at "go"
    refine w_dget2 ?_
    walk_at "go"
    obtain ⟨o, ho, hv⟩ := hU5.get (k := (i : Int))
    refine ⟨hU5.isD, ?_⟩
    walk_at "go"
    refine ⟨o, ho, ?_⟩
    rw [hv]
    walk_at "go"
    refine ⟨same_mut e5 hD, ?_⟩
    rw [List.range_succ, List.map_append, List.map_append]
    show _ = some (HO.lst (_ ++ [V.int (bs.getD i 0 - uses rs p cs i)]))
    rw [bd]
    exact upd_same
  rintro b2 H4 hb2 ⟨e4, g4⟩
  rw [List.length_map, hB.len] at g4
  have E4 := E3.trans e4
  have b2H : H b2 = none := E3.free hb2
  walk_at "go"
  refine w_forT ?_
  walk_at "go"
  refine ⟨⟨_, sqT_same ht E4⟩, ?_⟩
  refine forT (xs := cs.map V.int) (fun i σ H' => ∃ k7 : Option V, σ = [some (.ref st), some (.int p), some (.ref t), some (.ref d), some (.ref b2), none, none, k7] ∧ Same H H' ∧ H' b2 = some (.lst (((List.range n.toNat).map fun k : Nat => if (k : Int) ∈ cs.take i then L else bs.getD k 0 - uses rs p cs k).map V.int))) ?_ ?_ ?_ ?_
  · refine ⟨none, rfl, E4, ?_⟩
    rw [g4]
    congr 3
  · rintro i σ H5 _ ⟨k7, rfl, e5, _⟩
    exact sqT_same ht e5
  · rintro i x σ H5 hx ⟨k7, rfl, e5, g5⟩
    obtain ⟨c, hc, rfl⟩ : ∃ c, cs[i]? = some c ∧ x = V.int c := by
      rw [List.getElem?_map] at hx
      cases e : cs[i]? with
      | none => rw [e] at hx; cases hx
      | some c => rw [e] at hx; exact ⟨c, rfl, (Option.some.inj hx).symm⟩
    have cb1 := cb c (List.mem_of_getElem? hc)
    obtain ⟨_, _, _, hj, _, _⟩ := hB.get (k := c) cb1.1 (by omega)
    rw [List.length_map, hB.len] at hj
    walk_at "go"
    refine w_fld2 (e5 _ _ h1) T.c_Standing T.n_Standing_lines st_lines ?_
    refine w_sub ?_
    walk_at "go"
    refine w_setL g5 (by rw [List.length_map, List.length_map, List.length_range]; exact hj) ?_
    walk_at "go"
    refine ⟨_, rfl, same_mut e5 b2H, ?_⟩
    rw [set_range (by omega), upd_same]
    congr 3
    refine List.map_congr_left fun k hk => ?_
    have tk : cs.take (i + 1) = cs.take i ++ [c] := by rw [List.take_succ, hc]; rfl
    rw [tk]
    by_cases ck : k = c.toNat
    · have : (k : Int) = c := by omega
      rw [if_pos ck, this, if_pos (List.mem_append_right _ List.mem_cons_self)]
    · have nk : ¬ (k : Int) = c := fun z => ck (by omega)
      rw [if_neg ck]
      by_cases m : (k : Int) ∈ cs.take i
      · rw [if_pos m, if_pos (List.mem_append_left _ m)]
      · rw [if_neg m, if_neg (fun z => by
          rcases List.mem_append.mp z with z | z
          · exact m z
          · exact nk (List.mem_singleton.mp z))]
  · rintro σ H5 ⟨k7, rfl, e5, g5⟩
    rw [List.length_map, List.take_length] at g5
    have g5' : H5 b2 = some (.lst ((aft n rs bs L p cs).map V.int)) := g5
    walk_at "go"
    refine w_fld2 (e5 _ _ h1) T.c_Standing T.n_Standing_web st_web ?_
    walk_at "go"
    refine w_fld2 (e5 _ _ h1) T.c_Standing T.n_Standing_lines st_lines ?_
    walk_at "go"
    intro s2 dx2 hs2 hdx2 nx2
    refine ⟨H5, s2, dx2, w, b2, n, L, rs, aft n rs bs L p cs, rfl, rfl, hs2, hdx2, nx2, hS.web.same e5, n0, n1, g5', by rw [aft_len]; omega, fun c => absurd aft_len c, fun _ k hk => absurd hk (BK.noBad (aft_bk hB L0 hF) k), fun _ H6 n6 e6 hS6 => ?_⟩
    refine ⟨rfl, ?_⟩
    exact k3 hF s2 H6 (n6.base e5) (e5.trans e6) hS6
end G

section
local macro_rules | `(tactic| walk_at "call") => `(tactic| first | refine' G.w_makeV ?_ | refine' G.w_isref ?_ | refine' G.w_cmeth ?_)
namespace G
open PySem L2 GX
/-- Standing(w, L, bs) of numbers that are right -/
theorem i_standing {K : PySem.W.Frag} {A : CA} {H : Hp} {Q : VK} {E : XK} {x dx w pb : Addr} {n L : Int} {rs : List (Int × Int)} {bs : List Int} (hx : H x = none) (hdx : H dx = none) (nx : dx ≠ x) (hW : WebX A H w n rs) (n0 : 1 ≤ n) (n1 : n ≤ 500) (hb : H pb = some (.lst (bs.map V.int))) (hB : BK L n.toNat bs)
    (q : ∀ H', StNew A H H' x w L bs → Same H H' → StAt A H' x w n rs L bs → Q .non H') : sp_Standing_init K A [.ref x, .ref w, .int L, .ref pb] (upd (upd H dx (.own x)) x (.ins A.Standing dx [])) Q E :=
  ⟨H, x, dx, w, pb, n, L, rs, bs, rfl, rfl, hx, hdx, nx, hW, n0, n1, hb, by rw [hB.len]; omega, fun c => absurd hB.len c, fun _ k hk => absurd hk (hB.noBad k), fun _ => q⟩
theorem BK.rep {L : Int} {n : Nat} (h : 0 ≤ L) : BK L n (List.replicate n L) := ⟨List.length_replicate, fun b hb => by rw [List.eq_of_mem_replicate hb]; exact ⟨h, Int.le_refl L⟩⟩
def sp_Standing_fresh (K : PySem.W.Frag) (A : CA) : Sp := fun vs H Q _ => ∃ (w : Addr) (n L : Int) (rs : List (Int × Int)), vs = [.ref A.Standing, .ref w, .int L] ∧ WebX A H w n rs ∧ 1 ≤ n ∧ n ≤ 500 ∧ 0 ≤ L ∧
  ∀ (st : Addr) (H' : Hp), StNew A H H' st w L (List.replicate n.toNat L) → Same H H' → StAt A H' st w n rs L (List.replicate n.toNat L) → Q (.ref st) H'
def t_Standing_fresh (K : PySem.W.Frag) (A : CA) (E : XK) : TS :=
  (tRet (GX.tMakeV A.Standing (sp_Standing_init K A) E (tVar 0) (tCons (tVar 1) (tCons (tVar 2) (tCons (tOp rRep (tLst (tCons (tVar 2) tNil)) (tFld K (tVar 1) "pages")) tNil)))))

theorem rd_Standing_fresh {K : PySem.W.Frag} {A : CA} (T : CTS K A) {vs : List V} {H : Hp} {Q : VK} {E : XK} (h : sp_Standing_fresh K A vs H Q E) :
    t_Standing_fresh K A E { nx := fun _ H' => Q .non H', rt := Q } (start ["cls", "web", "lines"] vs) H := by
  obtain ⟨w, n, L, rs, rfl, hW, n0, n1, L0, q⟩ := h
  obtain ⟨dw, d, ar, tg, hd, g1⟩ := hW.obj
  unfold t_Standing_fresh
  walk_at "go"
  intro l0 hl0
  have e0 := same_new (o := .lst [V.int L]) hl0
  have g0 : (upd H l0 (.lst [V.int L])) l0 = some (.lst [V.int L]) := upd_same
  have h1 := e0 _ _ g1
  generalize upd H l0 (.lst [V.int L]) = H0 at e0 g0 h1
  walk_at "go"
  refine w_fld2 h1 T.b.c_Web T.b.n_Web_pages web_pages ?_
  refine w_rep g0 (by omega) (by omega) (Nat.le_of_lt (small1000 (by rw [List.length_singleton]; omega))) fun l hl => ?_
  rw [flat_one]
  have e1 := e0.trans (same_new (o := .lst (List.replicate n.toNat (V.int L))) hl)
  have g2 : (upd H0 l (.lst (List.replicate n.toNat (V.int L)))) l = some (.lst ((List.replicate n.toNat L).map V.int)) := by rw [upd_same, List.map_replicate]
  generalize upd H0 l (.lst (List.replicate n.toNat (V.int L))) = H1 at e1 g2
  walk_at "go"
  intro x dx hx hdx nx
  refine i_standing hx hdx nx (hW.same e1) n0 n1 g2 (BK.rep L0) fun H2 N2 e2 hS2 => ⟨rfl, ?_⟩
  exact q x H2 (N2.base e1) (e1.trans e2) hS2
structure CTJ (K : PySem.W.Frag) (A : CA) : Prop where
  i : InsC K A.Standing
  kl : PySem.W.kitOne K (.type "list") (.ref A.Standing) = some false
def sp_Standing_eq (K : PySem.W.Frag) (A : CA) : Sp := fun vs H Q _ => ∃ (a b w : Addr) (n L : Int) (rs : List (Int × Int)) (bs : List Int), vs = [.ref a, .ref b] ∧ StAt A H a w n rs L bs ∧
  ((∃ ys, H b = some (.lst ys) ∧ Q (.bl false) H) ∨ ∃ (v : Addr) (m M : Int) (ss : List (Int × Int)) (cs : List Int), StAt A H b v m ss M cs ∧ Q (.bl (decide ((n = m ∧ rs = ss) ∧ L = M ∧ bs = cs))) H)
def t_Standing_eq (K : PySem.W.Frag) (A : CA) : TS :=
  (tRet (tAndV (tCB (rIsi K) (tCons (tVar 1) (tCons (tC (.ref A.Standing)) tNil))) (tAndV (tOp (GX.rOwnEq A.Web (sp_Web_eq K A) E0) (tFld K (tVar 0) "web") (tFld K (tVar 1) "web")) (tAndV (tOp rEq (tFld K (tVar 0) "lines") (tFld K (tVar 1) "lines")) (tOp (rEqD K) (tFld K (tVar 0) "_blank") (tFld K (tVar 1) "_blank"))))))

theorem rd_Standing_eq {K : PySem.W.Frag} {A : CA} (T : CTS K A) (J : CTJ K A) {vs : List V} {H : Hp} {Q : VK} {E : XK} (h : sp_Standing_eq K A vs H Q E) :
    t_Standing_eq K A { nx := fun _ H' => Q .non H', rt := Q } (start ["self", "other"] vs) H := by
  obtain ⟨a, b, w, n, L, rs, bs, rfl, hS, hb⟩ := h
  obtain ⟨dx, lb, h1, h2⟩ := hS.ex
  unfold t_Standing_eq
  walk_at "go"
  rcases hb with ⟨ys, hb, q⟩ | ⟨v, m, M, ss, cs, hV, q⟩
  · refine ⟨.ref b, .ref A.Standing, .type "list", .ref A.Standing, false, rfl, ClsV.own _, TyX.base (TyOf.lst hb), J.kl, ?_⟩
    walk_at "go"
    exact q
  · obtain ⟨dy, lc, g1, g2⟩ := hV.ex
    refine ⟨.ref b, .ref A.Standing, .ref A.Standing, .ref A.Standing, true, rfl, ClsV.own _, TyX.base (TyOf.ins g1 T.c_Standing J.i.ha J.i.hn J.i.ht J.i.hm), kit_self, ?_⟩
    walk_at "go"
    refine w_fld2 h1 T.c_Standing T.n_Standing_web st_web ?_
    walk_at "go"
    refine w_fld2 g1 T.c_Standing T.n_Standing_web st_web ?_
    refine w_ownEq hS.web hV.web ?_
    walk_at "go"
    refine w_iteD (fun c => ?_) (fun c => ?_)
    · walk_at "go"
      refine w_fld2 h1 T.c_Standing T.n_Standing_lines st_lines ?_
      walk_at "go"
      refine w_fld2 g1 T.c_Standing T.n_Standing_lines st_lines ?_
      walk_at "go"
      refine w_iteD (fun c2 => ?_) (fun c2 => ?_)
      · walk_at "go"
        refine w_fld2 h1 T.c_Standing T.n_Standing__blank st_blank ?_
        walk_at "go"
        refine w_fld2 g1 T.c_Standing T.n_Standing__blank st_blank ?_
        refine w_eqI2 (SqL.of h2) (SqL.of g2) ?_
        have e : decide ((n = m ∧ rs = ss) ∧ L = M ∧ bs = cs) = decide (bs = cs) := by simp [c, c2]
        rw [e] at q
        exact q
      · have e : decide ((n = m ∧ rs = ss) ∧ L = M ∧ bs = cs) = false := by simp [c2]
        rw [e] at q
        exact q
    · have e : decide ((n = m ∧ rs = ss) ∧ L = M ∧ bs = cs) = false := decide_eq_false fun z => c z.1
      rw [e] at q
      exact q
def sp_Standing_blank_of (K : PySem.W.Frag) (A : CA) : Sp := fun vs H Q E => ∃ (st w : Addr) (n L p : Int) (rs : List (Int × Int)) (bs : List Int), vs = [.ref st, .int p] ∧ StAt A H st w n rs L bs ∧ BK L n.toNat bs ∧ 1 ≤ n ∧ n ≤ 500 ∧
  (isOut n p = true → Raised A.NoPage "page" (.int p) H E) ∧ (0 ≤ p → p < n → ∀ H', Same H H' → Q (.int (bs.getD p.toNat 0)) H')
def t_Standing_blank_of (K : PySem.W.Frag) (A : CA) (E : XK) : TS :=
  (tSeq (tDrop (tCall (sp_check_pages K A) [] E (tCons (tFld K (tVar 0) "web") (tCons (tLst (tCons (tVar 1) tNil)) tNil))))
  (tRet (tOp (rIxL K) (tFld K (tVar 0) "_blank") (tVar 1))))

theorem rd_Standing_blank_of {K : PySem.W.Frag} {A : CA} (T : CTS K A) {vs : List V} {H : Hp} {Q : VK} {E : XK} (h : sp_Standing_blank_of K A vs H Q E) :
    t_Standing_blank_of K A E { nx := fun _ H' => Q .non H', rt := Q } (start ["self", "page"] vs) H := by
  obtain ⟨st, w, n, L, p, rs, bs, rfl, hS, hB, n0, n1, k1, k2⟩ := h
  obtain ⟨dx, lb, h1, h2⟩ := hS.ex
  obtain ⟨dw, d0, ar, tg, hd0, g1⟩ := hS.web.obj
  unfold t_Standing_blank_of
  walk_at "go"
  refine w_fld2 h1 T.c_Standing T.n_Standing_web st_web ?_
  walk_at "go"
  intro l1 hl1
  have e1 := same_new (o := .lst [V.int p]) hl1
  have gl1 : (upd H l1 (.lst [V.int p])) l1 = some (.lst ([p].map V.int)) := upd_same
  generalize upd H l1 (.lst [V.int p]) = H1 at e1 gl1
  walk_at "go"
  refine ⟨w, l1, dw, _, n, [p], rfl, e1 _ _ g1, web_pages, SqL.of gl1, fun z hz => ?_, fun hz => ?_⟩
  · have c : isOut n p = true ∧ z = p := by
      rw [List.find?_cons] at hz
      cases o : isOut n p with
      | true => rw [o] at hz; exact ⟨rfl, (Option.some.inj hz).symm⟩
      | false => rw [o] at hz; cases hz
    rw [c.2]
    exact Raised.at e1 (k1 c.1)
  · have pb : 0 ≤ p ∧ p < n := in_of (by simpa using List.find?_eq_none.mp hz p List.mem_cons_self)
    obtain ⟨b, b1, b2, _, _⟩ := hB.get (k := p) pb.1 (by omega)
    have bd : bs.getD p.toNat 0 = b := by rw [List.getD_eq_getElem?_getD, b1]; rfl
    have lbH := e1 _ _ h2
    walk_at "go"
    refine w_fld2 (e1 _ _ h1) T.c_Standing T.n_Standing__blank st_blank ?_
    walk_at "go"
    have z := k2 pb.1 pb.2 H1 e1
    rw [bd] at z
    exact z
end G

end
namespace G
open PySem L2 GX
end G

namespace G
open PySem L2 GX
theorem uses_perm {rs rows : List (Int × Int)} (h : rs.Perm rows) (p : Int) (cs : List Int) : uses rs p cs = uses rows p cs := funext fun k => by
  unfold uses
  rw [(h.filter _).length_eq]
theorem uses_snoc {rows : List (Int × Int)} {r : Int × Int} {p k : Int} {cs : List Int} : uses (rows ++ [r]) p cs k = if k = r.1 ∧ r.2 ∈ cs ∧ r.1 ∉ cs then uses rows p cs k + 1 else uses rows p cs k := by
  unfold uses
  rw [List.filter_append, List.length_append, List.filter_cons, List.filter_nil]
  by_cases c : k = r.1 ∧ r.2 ∈ cs ∧ r.1 ∉ cs
  · rw [if_pos c]
    have z : (decide (r.1 = k) && (decide (r.2 ∈ cs) && !decide (r.1 ∈ cs))) = true := by simp [c.1, c.2.1, c.2.2]
    have y : ∀ q : Bool, q = true → (if q = true then [r] else []).length = 1 := fun q e => by rw [e]; rfl
    rw [y _ z]; omega
  · rw [if_neg c]
    have z : (decide (r.1 = k) && (decide (r.2 ∈ cs) && !decide (r.1 ∈ cs))) = false := by
      rw [Bool.eq_false_iff]
      intro h
      have h := (Bool.and_eq_true_iff.mp h)
      have h2 := Bool.and_eq_true_iff.mp h.2
      exact c ⟨(of_decide_eq_true h.1).symm, of_decide_eq_true h2.1, by simpa using h2.2⟩
    have y : ∀ q : Bool, q = false → (if q = true then [r] else []).length = 0 := fun q e => by rw [e]; rfl
    rw [y _ z]; omega
/-- the list of uses, page by page -/
def usesL (n : Int) (rows : List (Int × Int)) (p : Int) (cs : List Int) : List Int := (List.range n.toNat).map fun k : Nat => uses rows p cs k
def sp_law_uses (K : PySem.W.Frag) (A : CA) : Sp := fun vs H Q _ => ∃ (pq pc : Addr) (n p : Int) (us : List V) (rows : List (Int × Int)) (cs : List Int), vs = [.int n, .ref pq, .int p, .ref pc] ∧ H pq = some (.lst us) ∧ Paired (PR H) us rows ∧ RG n rows ∧ H pc = some (.lst (cs.map V.int)) ∧ 1 ≤ n ∧ n ≤ 200 ∧ us.length ≤ 400 ∧ 0 ≤ p ∧ p < n ∧
  ∀ (l : Addr) (H' : Hp), H l = none → Same H H' → H' l = some (.lst ((usesL n rows p cs).map V.int)) → Q (.ref l) H'
def t_law_uses (K : PySem.W.Frag) (A : CA) : TS :=
  (tSeq (tAsg (tOp rRep (tLst (tCons (tC (.int 0)) tNil)) (tVar 0)) (gName 4))
  (C8.tCut (tIfS (tTest (tOp (rIn K true) (tVar 2) (tVar 3))) (tAsg (tC (.int 1)) (gSub (tVar 4) (tVar 2) rSetL)) tNext)
  (tSeq (tFor (iList K (tVar 1)) (gName 5)
  (tIfS (tAnd (tTest (tOp (rIn K false) (tOp (rIxT K) (tVar 5) (tC (.int 1))) (tVar 3))) (tTest (tOp (rIn K true) (tOp (rIxT K) (tVar 5) (tC (.int 0))) (tVar 3)))) (tAsg (tOp oAdd (tOp (rIxL K) (tVar 4) (tOp (rIxT K) (tVar 5) (tC (.int 0)))) (tC (.int 1))) (gSub (tVar 4) (tOp (rIxT K) (tVar 5) (tC (.int 0))) rSetL)) tNext))
  (tRet (tVar 4)))))

theorem rd_law_uses {K : PySem.W.Frag} {A : CA} {vs : List V} {H : Hp} {Q : VK} {E : XK} (h : sp_law_uses K A vs H Q E) :
    t_law_uses K A { nx := fun _ H' => Q .non H', rt := Q } (start ["pages", "rows", "page", "copied", "uses", "row"] vs) H := by
  obtain ⟨pq, pc, n, p, us, rows, cs, rfl, hq, hP, hR, hc, n0, n1, hul, p0, p1, q⟩ := h
  unfold t_law_uses
  walk_at "go"
  intro l0 hl0
  have e0 := same_new (o := .lst [V.int 0]) hl0
  have g0 : (upd H l0 (.lst [V.int 0])) l0 = some (.lst [V.int 0]) := upd_same
  generalize upd H l0 (.lst [V.int 0]) = H0 at e0 g0
  walk_at "go"
  refine w_rep g0 (by omega) (by omega) (Nat.le_of_lt (small1000 (by rw [List.length_singleton]; omega))) fun l hl => ?_
  rw [flat_one]
  have e1 := e0.trans (same_new (o := .lst (List.replicate n.toNat (V.int 0))) hl)
  have lH : H l = none := e0.free hl
  have g1 : (upd H0 l (.lst (List.replicate n.toNat (V.int 0)))) l = some (.lst (((List.range n.toNat).map fun _ => (0 : Int)).map V.int)) := by
    rw [upd_same, List.map_const', List.map_replicate, List.length_range]
  generalize upd H0 l (.lst (List.replicate n.toNat (V.int 0))) = H1 at e1 g1
  have ixn : ∀ k : Int, 0 ≤ k → k < n → ∀ f : Nat → Int, ixN (((List.range n.toNat).map f).map V.int).length k = some k.toNat := fun k k0 k1 f => by
    have B : BK 0 n.toNat ((List.range n.toNat).map fun _ => (0 : Int)) := ⟨by rw [List.length_map, List.length_range], fun b hb => by
      obtain ⟨_, _, rfl⟩ := List.mem_map.mp hb
      exact ⟨Int.le_refl 0, Int.le_refl 0⟩⟩
    obtain ⟨_, _, _, hj, _, _⟩ := B.get (k := k) k0 (by omega)
    rw [List.length_map, List.length_map, List.length_range] at hj ⊢
    exact hj
  walk_at "go"
  refine w_cut (fun σ H' => σ = [some (.int n), some (.ref pq), some (.int p), some (.ref pc), some (.ref l), none] ∧ Same H H' ∧ H' l = some (.lst (((List.range n.toNat).map fun k : Nat => uses [] p cs k).map V.int))) ?_ ?_
  · have hc1 := e1 _ _ hc
    walk_at "go"
    refine w_ninI (SqL.of hc1) ?_
    walk_at "go"
    by_cases c : p ∈ cs
    · rw [decide_eq_true c]
      walk_at "go"
      refine ⟨rfl, e1, ?_⟩
      rw [g1]
      congr 3
      refine List.map_congr_left fun k _ => ?_
      unfold uses; simp [c]
    · rw [decide_eq_false c]
      refine w_iteNF ?_
      walk_at "go"
      refine w_setL g1 (ixn p p0 p1 _) ?_
      refine ⟨rfl, same_mut e1 lH, ?_⟩
      rw [upd_same, set_range (by omega)]
      congr 3
      refine List.map_congr_left fun k _ => ?_
      unfold uses
      by_cases ck : k = p.toNat
      · have : (k : Int) = p := by omega
        simp [ck, c]; omega
      · have : ¬ (k : Int) = p := fun z => ck (by omega)
        simp [ck, this]
  rintro σ H2 ⟨rfl, e2, g2⟩
  have hq2 := e2 _ _ hq
  walk_at "go"
  refine forL (xs := us) (fun i σ H' => ∃ k5 : Option V, σ = [some (.int n), some (.ref pq), some (.int p), some (.ref pc), some (.ref l), k5] ∧ Same H H' ∧ H' l = some (.lst ((usesL n (rows.take i) p cs).map V.int))) ?_ ?_ ?_ ?_
  · exact ⟨none, rfl, e2, g2⟩
  · rintro i σ H3 _ ⟨k5, rfl, e3, _⟩
    exact SqL.of (e3 _ _ hq)
  · rintro i x σ H3 hx ⟨k5, rfl, e3, g3⟩
    obtain ⟨r, hr, t, rfl, ht⟩ := Paired.at' hP hx
    have hb := hR.bd r (List.mem_of_getElem? hr)
    have ht3 := e3 _ _ ht
    have hc3 := e3 _ _ hc
    have tk : rows.take (i + 1) = rows.take i ++ [r] := by rw [List.take_succ, hr]; rfl
    have keepL : (¬ (r.2 ∈ cs ∧ r.1 ∉ cs)) → usesL n (rows.take (i + 1)) p cs = usesL n (rows.take i) p cs := fun h => by
      unfold usesL
      refine List.map_congr_left fun k _ => ?_
      rw [tk, uses_snoc, if_neg (fun z => h z.2)]
    walk_at "go"
    refine w_inI (SqL.of hc3) ?_
    walk_at "go"
    refine w_iteD (fun c1 => ?_) (fun c1 => ?_)
    · walk_at "go"
      refine w_ninI (SqL.of hc3) ?_
      walk_at "go"
      by_cases c2 : r.1 ∈ cs
      · rw [decide_eq_true c2]
        walk_at "go"
        exact ⟨_, rfl, e3, by rw [keepL (fun z => z.2 c2)]; exact g3⟩
      · rw [decide_eq_false c2]
        refine w_iteNF ?_
        have kn : r.1.toNat < n.toNat := by omega
        have av : atI ((usesL n (rows.take i) p cs).map V.int) r.1 = some (V.int (uses (rows.take i) p cs r.1)) := at_of (j := r.1.toNat) (by omega) (by
          unfold usesL
          have e : ((r.1.toNat : Nat) : Int) = r.1 := by omega
          simp [kn, e])
        walk_at "go"
        refine w_setL g3 (ixn r.1 hb.1 hb.2.1 _) ?_
        refine ⟨_, rfl, same_mut e3 lH, ?_⟩
        rw [upd_same]
        unfold usesL
        rw [set_range kn]
        congr 3
        refine List.map_congr_left fun k _ => ?_
        rw [tk, uses_snoc]
        by_cases ck : k = r.1.toNat
        · have e : (k : Int) = r.1 := by omega
          rw [if_pos ck, e, if_pos ⟨rfl, c1, c2⟩]
        · rw [if_neg ck, if_neg (fun z => ck (by omega))]
    · walk_at "go"
      exact ⟨_, rfl, e3, by rw [keepL (fun z => c1 z.1)]; exact g3⟩
  · rintro σ H3 ⟨k5, rfl, e3, g3⟩
    rw [hP.length, List.take_length] at g3
    walk_at "go"
    exact q l H3 lH e3 g3
end G

namespace G
open PySem L2 GX
def sp_law_lines (K : PySem.W.Frag) (A : CA) : Sp := fun vs H Q _ => ∃ s : Addr, vs = [.ref s] ∧ Src H s ∧ ∀ (L : Int) (H' : Hp), 0 ≤ L → L ≤ 60 → But s H H' → Src H' s → Q (.int L) H'
def t_law_lines (K : PySem.W.Frag) (A : CA) : TS :=
  (tSeq (tAsg (tCall (sp_law_draw K A) [] E0 (tCons (tVar 0) (tCons (tC (.int 8)) tNil))) (gName 1))
  (tSeq (tIfS (tTest (tOp rEq (tVar 1) (tC (.int 6)))) (tRet (tC (.int 60))) tNext)
  (tSeq (tIfS (tTest (tOp rEq (tVar 1) (tC (.int 7)))) (tRet (tOp oAdd (tC (.int 6)) (tCall (sp_law_draw K A) [] E0 (tCons (tVar 0) (tCons (tC (.int 54)) tNil))))) tNext)
  (tRet (tVar 1)))))

theorem rd_law_lines {K : PySem.W.Frag} {A : CA} {vs : List V} {H : Hp} {Q : VK} {E : XK} (h : sp_law_lines K A vs H Q E) :
    t_law_lines K A { nx := fun _ H' => Q .non H', rt := Q } (start ["box", "kind"] vs) H := by
  obtain ⟨s, rfl, hs, q⟩ := h
  unfold t_law_lines
  walk_at "go"
  intro z H1 z0 z1 b1 s1
  walk_at "go"
  refine w_iteD (fun c => ?_) (fun c => ?_)
  · walk_at "go"
    exact q _ _ (by omega) (by omega) b1 s1
  walk_at "go"
  refine w_iteD (fun c => ?_) (fun c => ?_)
  · walk_at "go"
    intro y H2 y0 y1 b2 s2
    walk_at "go"
    exact q _ _ (by omega) (by omega) (b1.trans b2) s2
  · walk_at "go"
    exact q _ _ z0 (by omega) b1 s1
end G

namespace G
open PySem L2 GX
def sp_law_blank (K : PySem.W.Frag) (A : CA) : Sp := fun vs H Q _ => ∃ (s pq : Addr) (n L : Int) (us : List V) (rows : List (Int × Int)), vs = [.ref s, .int n, .ref pq, .int L] ∧ Src H s ∧ H pq = some (.lst us) ∧ pq ≠ s ∧ Paired (PR H) us rows ∧ us.length ≤ 400 ∧ 1 ≤ n ∧ n ≤ 200 ∧ 0 ≤ L ∧ L ≤ 60 ∧
  ∀ (bs : List Int) (l : Addr) (H' : Hp), BK L n.toNat bs → H l = none → But s H H' → Src H' s → H' l = some (.lst (bs.map V.int)) → Q (.ref l) H'
def t_law_blank (K : PySem.W.Frag) (A : CA) : TS :=
  (tSeq (tAsg (tCall (sp_law_draw K A) [] E0 (tCons (tVar 0) (tCons (tC (.int 6)) tNil))) (gName 4))
  (tSeq (tIfS (tTest (tOp rEq (tVar 4) (tC (.int 0)))) (tRet (tOp rRep (tLst (tCons (tVar 3) tNil)) (tVar 1))) tNext)
  (tSeq (tAsg (tCB oMin2 (tCons (tVar 3) (tCons (tC (.int 2)) tNil))) (gName 5))
  (tSeq (tIfS (tTest (tOp oGt (tVar 1) (tC (.int 7)))) (tSeq (tAsg (tOp (rIxL K) (tLst (tCons (tVar 5) (tCons (tVar 3) tNil))) (tCall (sp_law_draw K A) [] E0 (tCons (tVar 0) (tCons (tC (.int 2)) tNil)))) (gName 6))
  (tSeq (tAsg (tCall (sp_law_draw K A) [] E0 (tCons (tVar 0) (tCons (tOp oAdd (tVar 6) (tC (.int 1))) tNil))) (gName 7))
  (tSeq (tAsg (tCall (sp_law_draw K A) [] E0 (tCons (tVar 0) (tCons (tOp oAdd (tVar 6) (tC (.int 1))) tNil))) (gName 8))
  (tRet (tLc (iRng1 (tCons (tVar 1) tNil)) (gName 9) tYes (tOp oMod (tCB oInt (tCons (tOp oAdd (tVar 8) (tOp oMul (tVar 7) (tVar 9))) tNil)) (tOp oAdd (tVar 6) (tC (.int 1)))) [9]))))) tNext)
  (tSeq (tAsg (tLst tNil) (gName 10))
  (tSeq (tFor (iRng1 (tCons (tVar 1) tNil)) (gName 9)
  (tIfS (tTest (tOp oLt (tVar 4) (tC (.int 3)))) (tDrop (tBM K "list" rAppend (tVar 10) (tCons (tCall (sp_law_draw K A) [] E0 (tCons (tVar 0) (tCons (tOp oAdd (tVar 5) (tC (.int 1))) tNil))) tNil))) (tIfS (tTest (tOp rEq (tVar 4) (tC (.int 3)))) (tSeq (tAsg (tCB (rLenQ K) (tCons (tLc (iList K (tVar 2)) (gName 12) (tTest (tOp rEq (tOp (rIxT K) (tVar 12) (tC (.int 0))) (tVar 9))) (tVar 12) [12]) tNil)) (gName 11))
  (tDrop (tBM K "list" rAppend (tVar 10) (tCons (tCB oMax2 (tCons (tC (.int 0)) (tCons (tCB oMin2 (tCons (tVar 3) (tCons (tOp oAdd (tOp oSub (tVar 11) (tC (.int 1))) (tCall (sp_law_draw K A) [] E0 (tCons (tVar 0) (tCons (tC (.int 3)) tNil)))) tNil))) tNil))) tNil)))) (tDrop (tBM K "list" rAppend (tVar 10) (tCons (tCall (sp_law_draw K A) [] E0 (tCons (tVar 0) (tCons (tOp oAdd (tVar 3) (tC (.int 1))) tNil))) tNil))))))
  (tRet (tVar 10))))))))

theorem rd_law_blank {K : PySem.W.Frag} {A : CA} {vs : List V} {H : Hp} {Q : VK} {E : XK} (h : sp_law_blank K A vs H Q E) :
    t_law_blank K A { nx := fun _ H' => Q .non H', rt := Q } (start ["box", "pages", "rows", "lines", "style", "least", "most", "step", "start", "page", "blank", "held", "row"] vs) H := by
  obtain ⟨s, pq, n, L, us, rows, rfl, hs, hq, nqs, hP, hul, n0, n1, L0, L1, q⟩ := h
  unfold t_law_blank
  walk_at "go"
  intro sty H1 y0 y1 b1 s1
  have hq1 := b1.at nqs hq
  have hP1 := PRs.but b1 hs hP
  walk_at "go"
  refine w_iteD (fun c => ?_) (fun c => ?_)
  · walk_at "go"
    intro l0 hl0
    have b2 := b1.new (o := .lst [V.int L]) hl0
    have s2 := Src.new (o := .lst [V.int L]) s1 hl0
    have g2 : (upd H1 l0 (.lst [V.int L])) l0 = some (.lst [V.int L]) := upd_same
    generalize upd H1 l0 (.lst [V.int L]) = H2 at b2 s2 g2
    walk_at "go"
    refine w_rep g2 (by omega) (by omega) (Nat.le_of_lt (small1000 (by rw [List.length_singleton]; omega))) fun l hl => ?_
    rw [flat_one]
    walk_at "go"
    refine q (List.replicate n.toNat L) l _ ⟨List.length_replicate, fun b hb => by rw [List.eq_of_mem_replicate hb]; exact ⟨L0, Int.le_refl L⟩⟩ (b2.back s2 hl) (b2.new hl) (s2.new hl) (by rw [upd_same, List.map_replicate])
  walk_at "go"
  have e0 : 0 ≤ (if (2 : Int) < L then (2 : Int) else L) := by split <;> omega
  have e1 : (if (2 : Int) < L then (2 : Int) else L) ≤ L := by split <;> omega
  generalize (if (2 : Int) < L then (2 : Int) else L) = e at e0 e1
  refine w_iteD (fun c2 => ?_) (fun c2 => ?_)
  · walk_at "go"
    intro l0 hl0
    have b2 := b1.new (o := .lst [V.int e, .int L]) hl0
    have s2 := Src.new (o := .lst [V.int e, .int L]) s1 hl0
    have g2 : (upd H1 l0 (.lst [V.int e, .int L])) l0 = some (.lst [V.int e, .int L]) := upd_same
    have nl0 : l0 ≠ s := s1.neFree hl0
    generalize upd H1 l0 (.lst [V.int e, .int L]) = H2 at b2 s2 g2
    walk_at "go"
    intro z H3 z0 z1 b3 s3
    have g3 := b3.at nl0 g2
    obtain ⟨m, hm, m0, m1⟩ : ∃ m, atI [V.int e, .int L] z = some (.int m) ∧ 0 ≤ m ∧ m ≤ L := by
      by_cases cz : z = 0
      · subst cz; exact ⟨e, rfl, e0, e1⟩
      · have : z = 1 := by omega
        subst this; exact ⟨L, rfl, L0, Int.le_refl L⟩
    refine w_ixL (SqL.of g3) hm ?_
    walk_at "go"
    intro st H4 t0 t1 b4 s4
    walk_at "go"
    intro sa H5 u0 u1 b5 s5
    have B := ((b2.trans b3).trans b4).trans b5
    walk_at "go"
    have bo : ∀ j : Nat, j < n.toNat → -18446744073709551616 < sa + st * (0 + (j : Int)) ∧ sa + st * (0 + (j : Int)) < 18446744073709551616 := fun j hj => by
      have h1 : 0 ≤ st * (0 + (j : Int)) := Int.mul_nonneg t0 (by omega)
      have h2 : st * (0 + (j : Int)) ≤ 60 * 200 := Int.mul_le_mul (by omega) (by omega) (by omega) (by omega)
      omega
    refine lcR (fun Dl j H' => Same H5 H' ∧ ∃ xs : List Int, H' Dl = some (.lst (xs.map V.int)) ∧ xs.length = j ∧ ∀ x ∈ xs, 0 ≤ x ∧ x ≤ L) (fun Dl hD => ⟨same_new hD, [], upd_same, rfl, fun x hx => by cases hx⟩) ?_ ?_
    · rintro Dl j H6 hD hj ⟨e6, xs, g6, xl, xb⟩
      have sl : (xs.map V.int).length < sizeLine := small1000 (by rw [List.length_map]; omega)
      obtain ⟨w0, w1⟩ := bo j hj
      have mm : -18446744073709551616 < st := by omega
      have mm2 : st < 18446744073709551616 := by omega
      walk_at "go"
      refine ⟨same_mut e6 hD, xs ++ [(sa + st * (0 + (j : Int))) % (m + 1)], by rw [upd_same, List.map_append]; rfl, by rw [List.length_append, List.length_singleton, xl], fun x hx => ?_⟩
      rcases List.mem_append.mp hx with h | h
      · exact xb x h
      · rw [List.mem_singleton.mp h]
        have a1 := Int.emod_nonneg (sa + st * (0 + (j : Int))) (b := m + 1) (by omega)
        have a2 := Int.emod_lt_of_pos (sa + st * (0 + (j : Int))) (b := m + 1) (by omega)
        omega
    · rintro Dl H6 hD ⟨e6, xs, g6, xl, xb⟩
      exact q xs Dl H6 ⟨xl, xb⟩ (B.back s5 hD) (B.trans (fun a o _ h => e6 _ _ h)) (Src.same e6 s5) g6
  walk_at "go"
  intro p hp
  have nps : p ≠ s := s1.neFree hp
  have pH : H p = none := b1.back s1 hp
  have b2 := b1.new (o := .lst []) hp
  have s2 := Src.new (o := .lst []) s1 hp
  have g2 : (upd H1 p (.lst [])) p = some (.lst (([] : List Int).map V.int)) := upd_same
  generalize upd H1 p (.lst []) = H2 at b2 s2 g2
  walk_at "go"
  refine forR (fun i σ H' => ∃ (k9 k11 : Option V) (xs : List Int), σ = [some (.ref s), some (.int n), some (.ref pq), some (.int L), some (.int sty), some (.int e), none, none, none, k9, some (.ref p), k11, none] ∧ xs.length = i ∧ (∀ x ∈ xs, 0 ≤ x ∧ x ≤ L) ∧ But s H H' ∧ Src H' s ∧ H' p = some (.lst (xs.map V.int))) ?_ ?_ ?_
  · exact ⟨none, none, [], rfl, rfl, fun x hx => (by cases hx), b2, s2, g2⟩
  · rintro i σ H3 hi ⟨k9, k11, xs, rfl, xl, xb, b3, s3, g3⟩
    have sl : (xs.map V.int).length < sizeLine := small1000 (by rw [List.length_map]; omega)
    have fin : ∀ (k11 : Option V) (z : Int) (H4 : Hp), 0 ≤ z → z ≤ L → But s H H4 → Src H4 s → H4 p = some (.lst (xs.map V.int)) → ∃ (k9' k11' : Option V) (ys : List Int), [some (.ref s), some (.int n), some (.ref pq), some (.int L), some (.int sty), some (.int e), none, none, none, some (V.int (0 + (i : Int))), some (.ref p), k11, none] = [some (.ref s), some (.int n), some (.ref pq), some (.int L), some (.int sty), some (.int e), none, none, none, k9', some (.ref p), k11', none] ∧ ys.length = i + 1 ∧ (∀ x ∈ ys, 0 ≤ x ∧ x ≤ L) ∧ But s H (upd H4 p (.lst (xs.map V.int ++ [V.int z]))) ∧ Src (upd H4 p (.lst (xs.map V.int ++ [V.int z]))) s ∧ (upd H4 p (.lst (xs.map V.int ++ [V.int z]))) p = some (.lst (ys.map V.int)) := fun k z H4 z0 z1 b4 s4 g4 =>
      ⟨_, _, xs ++ [z], rfl, by rw [List.length_append, List.length_singleton, xl], fun x hx => by
        rcases List.mem_append.mp hx with h | h
        · exact xb x h
        · rw [List.mem_singleton.mp h]; exact ⟨z0, z1⟩, b4.mut pH, s4.mut nps, by rw [upd_same, List.map_append]; rfl⟩
    walk_at "go"
    refine w_iteD (fun c3 => ?_) (fun c3 => ?_)
    · walk_at "go"
      intro z H4 z0 z1 b4 s4
      have g4 := b4.at nps g3
      walk_at "go"
      exact fin _ z _ z0 (by omega) (b3.trans b4) s4 g4
    walk_at "go"
    refine w_iteD (fun c4 => ?_) (fun c4 => ?_)
    · have hq3 := b3.at nqs hq
      have hP3 := PRs.but b3 hs hP
      walk_at "go"
      refine lcL (xs := us) (fun Dl j H' => Same H3 H' ∧ ∃ ws : List V, H' Dl = some (.lst ws) ∧ ws.length ≤ j) (fun Dl hD => ⟨same_new hD, [], upd_same, Nat.le_refl _⟩) (fun Dl j H' hD hj ⟨e, _⟩ => SqL.of (e _ _ hq3)) ?_ ?_
      · rintro Dl j x H4 hD hx ⟨e4, ws, g4, wl⟩
        obtain ⟨r, hr, t, rfl, ht⟩ := Paired.at' hP3 hx
        have jl : j < us.length := (List.getElem?_eq_some_iff.mp hx).1
        have ht4 := e4 _ _ ht
        have sl4 : ws.length < sizeLine := small1000 (by omega)
        walk_at "go"
        refine w_iteD (fun c5 => ?_) (fun c5 => ?_)
        · walk_at "go"
          exact ⟨same_mut e4 hD, _, upd_same, by rw [List.length_append, List.length_singleton]; omega⟩
        · walk_at "go"
          exact ⟨e4, ws, g4, by omega⟩
      rintro Dl H4 hD ⟨e4, ws, g4, wl⟩
      have s4 := Src.same e4 s3
      have g34 := e4 _ _ g3
      have b4 : But s H H4 := b3.trans (fun a o _ h => e4 _ _ h)
      walk_at "go"
      intro z H5 z0 z1 b5 s5
      have g5 := b5.at nps g34
      walk_at "go"

      exact fin _ _ H5 (by split <;> omega) (by split <;> omega) (b4.trans b5) s5 g5
    · walk_at "go"
      intro z H4 z0 z1 b4 s4
      have g4 := b4.at nps g3
      walk_at "go"
      exact fin _ z _ z0 (by omega) (b3.trans b4) s4 g4
  · rintro σ H3 ⟨k9, k11, xs, rfl, xl, xb, b3, s3, g3⟩
    walk_at "go"
    exact q xs p H3 ⟨xl, xb⟩ pH b3 s3 g3
end G

namespace G
open PySem L2 GX
theorem w_ownEqS {K : PySem.W.Frag} {A : CA} {H : Hp} {Q : VK} {a b w v : Addr} {n m L M : Int} {rs ss : List (Int × Int)} {bs cs : List Int} (h1 : StAt A H a w n rs L bs) (h2 : StAt A H b v m ss M cs) (q : Q (.bl (decide ((n = m ∧ rs = ss) ∧ L = M ∧ bs = cs))) H) : rOwnEq A.Standing (sp_Standing_eq K A) E0 (.ref a) (.ref b) H Q := by
  obtain ⟨dx, lb, g1, _⟩ := h1.ex
  obtain ⟨dy, lc, g2, _⟩ := h2.ex
  exact ⟨a, b, dx, _, rfl, rfl, g1, .inl ⟨_, _, g2⟩, a, b, w, n, L, rs, bs, rfl, h1, .inr ⟨v, m, M, ss, cs, h2, _, rfl, q⟩⟩
theorem w_ownEqL {K : PySem.W.Frag} {A : CA} {H : Hp} {Q : VK} {a b w : Addr} {n L : Int} {rs : List (Int × Int)} {bs : List Int} {ys : List V} (h1 : StAt A H a w n rs L bs) (h2 : H b = some (.lst ys)) (q : Q (.bl false) H) : rOwnEq A.Standing (sp_Standing_eq K A) E0 (.ref a) (.ref b) H Q := by
  obtain ⟨dx, lb, g1, _⟩ := h1.ex
  exact ⟨a, b, dx, _, rfl, rfl, g1, .inr ⟨_, h2⟩, a, b, w, n, L, rs, bs, rfl, h1, .inl ⟨ys, h2, _, rfl, q⟩⟩
def sp_law_truth (K : PySem.W.Frag) (A : CA) : Sp := fun vs H Q _ => ∃ (a b : Bool), vs = [.bl a, .bl b] ∧ a = b ∧ Q (.bl true) H
def t_law_truth (K : PySem.W.Frag) (A : CA) : TS :=
  (tRet (tAndV (tCB (rIsi K) (tCons (tVar 0) (tCons (tC (.ty "bool")) tNil))) (tOp rEq (tVar 0) (tVar 1))))

theorem rd_law_truth {K : PySem.W.Frag} {A : CA} {vs : List V} {H : Hp} {Q : VK} {E : XK} (h : sp_law_truth K A vs H Q E) :
    t_law_truth K A { nx := fun _ H' => Q .non H', rt := Q } (start ["told", "due"] vs) H := by
  obtain ⟨a, b, rfl, rfl, q⟩ := h
  unfold t_law_truth
  walk_at "go"
  refine w_isT (t := "bool") (b := true) (TyX.base (TyOf.bl a)) (kit_ty (by decide +kernel)) ?_
  walk_at "go"
  rw [decide_eq_true rfl]
  exact q
def sp_law_equal (K : PySem.W.Frag) (A : CA) : Sp := fun vs H Q _ => ∃ (a b w v : Addr) (n m L M : Int) (rs ss : List (Int × Int)) (bs cs : List Int), vs = [.ref a, .ref b, .bl (decide ((n = m ∧ rs = ss) ∧ L = M ∧ bs = cs))] ∧ StAt A H a w n rs L bs ∧ StAt A H b v m ss M cs ∧ Q (.bl true) H
def t_law_equal (K : PySem.W.Frag) (A : CA) : TS :=
  (tSeq (tAsg (tOp (GX.rOwnEq A.Standing (sp_Standing_eq K A) E0) (tVar 0) (tVar 1)) (gName 3))
  (tSeq (tAsg (tOp (GX.rOwnEq A.Standing (sp_Standing_eq K A) E0) (tVar 1) (tVar 0)) (gName 4))
  (tRet (tAndV (tCall (sp_law_truth K A) [] E0 (tCons (tVar 3) (tCons (tVar 2) tNil))) (tCall (sp_law_truth K A) [] E0 (tCons (tVar 4) (tCons (tVar 2) tNil)))))))

theorem rd_law_equal {K : PySem.W.Frag} {A : CA} {vs : List V} {H : Hp} {Q : VK} {E : XK} (h : sp_law_equal K A vs H Q E) :
    t_law_equal K A { nx := fun _ H' => Q .non H', rt := Q } (start ["first", "second", "due", "there", "back"] vs) H := by
  obtain ⟨a, b, w, v, n, m, L, M, rs, ss, bs, cs, rfl, h1, h2, q⟩ := h
  have e : decide ((m = n ∧ ss = rs) ∧ M = L ∧ cs = bs) = decide ((n = m ∧ rs = ss) ∧ L = M ∧ bs = cs) := decide_eq_decide.mpr ⟨fun z => ⟨⟨z.1.1.symm, z.1.2.symm⟩, z.2.1.symm, z.2.2.symm⟩, fun z => ⟨⟨z.1.1.symm, z.1.2.symm⟩, z.2.1.symm, z.2.2.symm⟩⟩
  unfold t_law_equal
  walk_at "go"
  refine w_ownEqS h1 h2 ?_
  walk_at "go"
  refine w_ownEqS h2 h1 ?_
  rw [e]
  generalize decide ((n = m ∧ rs = ss) ∧ L = M ∧ bs = cs) = r
  walk_at "go"
  refine ⟨r, r, rfl, rfl, ?_⟩
  walk_at "go"
  exact ⟨r, r, rfl, rfl, q⟩
theorem sum_sub {L : Int} : ∀ bs : List Int, (bs.map fun b => L - b).sum = L * bs.length - bs.sum
  | [] => by simp
  | b :: bs => by
    rw [List.map_cons, List.sum_cons, List.sum_cons, sum_sub bs, List.length_cons]
    rw [show ((bs.length + 1 : Nat) : Int) = (bs.length : Int) + 1 from rfl, Int.mul_add]; omega
def sp_law_fits (K : PySem.W.Frag) (A : CA) : Sp := fun vs H Q _ => ∃ (st w pb : Addr) (n L : Int) (rs : List (Int × Int)) (bs : List Int), vs = [.ref st, .ref w, .int L, .ref pb] ∧ StAt A H st w n rs L bs ∧ BK L n.toNat bs ∧ H pb = some (.lst (bs.map V.int)) ∧ 1 ≤ n ∧ n ≤ 200 ∧ 0 ≤ L ∧ L ≤ 60 ∧ ∀ H', Same H H' → Q (.bl true) H'
def t_law_fits (K : PySem.W.Frag) (A : CA) : TS :=
  (tSeq (tIfS (tOr (tNot (tB (tCB (rIsi K) (tCons (tVar 0) (tCons (tC (.ref A.Standing)) tNil))))) (tNot (tB (tCall (sp_law_whole K A) [] E0 (tCons (tFld K (tVar 0) "lines") (tCons (tVar 2) tNil)))))) (tRet (tC (.bl false))) tNext)
  (tSeq (tIfS (tOr (tNot (tB (tCall (sp_law_truth K A) [] E0 (tCons (tOp (GX.rOwnEq A.Web (sp_Web_eq K A) E0) (tFld K (tVar 0) "web") (tVar 1)) (tCons (tC (.bl true)) tNil))))) (tNot (tB (tCall (sp_law_pages K A) [] E0 (tCons (tMeth A.Standing "blanks" (sp_Standing_blanks K A) [] E0 (tVar 0) tNil) (tCons (tVar 3) tNil)))))) (tRet (tC (.bl false))) tNext)
  (tSeq (tFor (iRng1 (tCons (tCB (rLenQ K) (tCons (tVar 3) tNil)) tNil)) (gName 4)
  (tIfS (tNot (tB (tCall (sp_law_whole K A) [] E0 (tCons (tMeth A.Standing "blank_of" (sp_Standing_blank_of K A) [] E0 (tVar 0) (tCons (tVar 4) tNil)) (tCons (tOp (rIxL K) (tVar 3) (tVar 4)) tNil))))) (tRet (tC (.bl false))) tNext))
  (tRet (tCall (sp_law_whole K A) [] E0 (tCons (tMeth A.Standing "used" (sp_Standing_used K A) [] E0 (tVar 0) tNil) (tCons (tCB (rSum K) (tCons (tLc (iList K (tVar 3)) (gName 5) tYes (tOp oSub (tVar 2) (tVar 5)) [5]) tNil)) tNil)))))))

theorem rd_law_fits {K : PySem.W.Frag} {A : CA} (T : CTS K A) (J : CTJ K A) {vs : List V} {H : Hp} {Q : VK} {E : XK} (h : sp_law_fits K A vs H Q E) :
    t_law_fits K A { nx := fun _ H' => Q .non H', rt := Q } (start ["told", "web", "lines", "blank", "page", "number"] vs) H := by
  obtain ⟨st, w, pb, n, L, rs, bs, rfl, hS, hB, hb, n0, n1, L0, L1, q⟩ := h
  obtain ⟨dx, lb, h1, _⟩ := hS.ex
  have bl := hB.len
  unfold t_law_fits
  walk_at "go"
  refine ⟨.ref st, .ref A.Standing, .ref A.Standing, .ref A.Standing, true, rfl, ClsV.own _, TyX.base (TyOf.ins h1 T.c_Standing J.i.ha J.i.hn J.i.ht J.i.hm), kit_self, ?_⟩
  walk_at "go"
  refine w_iteNT ?_
  walk_at "go"
  refine w_fld2 h1 T.c_Standing T.n_Standing_lines st_lines ?_
  walk_at "go"
  refine w_iteNT ?_
  walk_at "go"
  refine w_fld2 h1 T.c_Standing T.n_Standing_web st_web ?_
  walk_at "go"
  refine w_ownEq hS.web hS.web ?_
  rw [decide_eq_true ⟨rfl, rfl⟩]
  walk_at "go"
  refine ⟨true, true, rfl, rfl, ?_⟩
  refine ⟨true, rfl, w_iteNT ?_⟩
  walk_at "go"
  refine w_mth2 h1 (st_no (by decide) (by decide) (by decide)) ?_
  walk_at "go"
  refine ⟨st, w, n, L, rs, bs, rfl, hS, fun q1 H1 hq1 e1 g1 => ?_⟩
  have hb1 := e1 _ _ hb
  have hS1 := hS.same e1
  walk_at "go"
  refine i_pages (xs := bs) g1 hb1 (by omega) ?_
  refine ⟨true, rfl, w_iteNT ?_⟩
  walk_at "go"
  rw [List.length_map]
  walk_at "go"
  refine forR (fun i σ H' => ∃ k4 : Option V, σ = [some (.ref st), some (.ref w), some (.int L), some (.ref pb), k4, none] ∧ Same H1 H') ?_ ?_ ?_
  · exact ⟨none, rfl, fun _ _ z => z⟩
  · rintro i σ H2 hi ⟨k4, rfl, e2⟩
    obtain ⟨dy, lc, h2, _⟩ := (hS1.same e2).ex
    obtain ⟨b, b1, b2, _, _⟩ := hB.get (k := 0 + (i : Int)) (by omega) (by omega)
    have bd : bs.getD (0 + (i : Int)).toNat 0 = b := by rw [List.getD_eq_getElem?_getD, b1]; rfl
    have hb2 := e2 _ _ hb1
    walk_at "go"
    refine w_mth2 h2 (st_no (by decide) (by decide) (by decide)) ?_
    walk_at "go"
    refine ⟨st, w, n, L, _, rs, bs, rfl, hS1.same e2, hB, n0, by omega, fun o => (by rw [isOut_in (by omega) (by omega)] at o; cases o), fun _ _ H3 e3 => ?_⟩
    rw [bd]
    have hb3 := e3 _ _ hb2
    walk_at "go"
    exact ⟨_, rfl, e2.trans e3⟩
  · rintro σ H2 ⟨k4, rfl, e2⟩
    obtain ⟨dy, lc, h2, _⟩ := (hS1.same e2).ex
    walk_at "go"
    refine w_mth2 h2 (st_no (by decide) (by decide) (by decide)) ?_
    walk_at "go"
    refine ⟨st, w, n, L, rs, bs, rfl, hS1.same e2, L0, by omega, by omega, by omega, fun H3 e3 => ?_⟩
    have hb3 := e3 _ _ (e2 _ _ hb1)
    have E3 := (e1.trans e2).trans e3
    walk_at "go"
    refine lcL (xs := bs.map V.int) (fun Dl i H' => Same H3 H' ∧ H' Dl = some (.lst (((bs.take i).map fun b => L - b).map V.int))) (fun Dl hD => ⟨same_new hD, upd_same⟩) (fun Dl i H' hD hi ⟨e, _⟩ => SqL.of (e _ _ hb3)) ?_ ?_
    · rintro Dl i y H' hD hy ⟨e, gD⟩
      obtain ⟨b, hb, rfl⟩ : ∃ b, bs[i]? = some b ∧ y = V.int b := by
        rw [List.getElem?_map] at hy
        cases e : bs[i]? with
        | none => rw [e] at hy; cases hy
        | some b => rw [e] at hy; exact ⟨b, rfl, (Option.some.inj hy).symm⟩
      have sl : (((bs.take i).map fun b => L - b).map V.int).length < sizeLine := small1000 (by rw [List.length_map, List.length_map, List.length_take]; omega)
      walk_at "go"
      refine ⟨same_mut e hD, ?_⟩
      rw [List.take_succ, hb, List.map_append, List.map_append]
      exact upd_same
    rintro Dl H10 hD ⟨e10, g10⟩
    rw [List.length_map, List.take_length] at g10
    walk_at "go"
    rw [sum_sub, bl, show ((n.toNat : Nat) : Int) = n by omega]
    exact i_whole (q H10 (E3.trans e10))
def sp_law_called (K : PySem.W.Frag) (A : CA) : Sp := fun vs H Q E => ∃ (st w t : Addr) (n L p : Int) (rs : List (Int × Int)) (bs cs : List Int), vs = [.ref st, .int p, .ref t] ∧ StAt A H st w n rs L bs ∧ RG n rs ∧ BK L n.toNat bs ∧ 1 ≤ n ∧ n ≤ 500 ∧ 0 ≤ L ∧ H t = some (.lst (cs.map V.int)) ∧ cs.length ≤ 5 ∧
  (∀ z, (p :: cs).find? (isOut n) = some z → Raised A.NoPage "page" (.int z) H E) ∧
  ((p :: cs).find? (isOut n) = none → (∀ z, 0 ≤ z → z < n → bs.getD z.toNat 0 < uses rs p cs z → (∀ y, 0 ≤ y → y < z → uses rs p cs y ≤ bs.getD y.toNat 0) → Raised A.NoLine "page" (.int z) H E) ∧
    (Fits n bs (uses rs p cs) → ∀ (s2 : Addr) (H' : Hp), StNew A H H' s2 w L (aft n rs bs L p cs) → Same H H' → StAt A H' s2 w n rs L (aft n rs bs L p cs) → Q (.ref s2) H'))
theorem i_after {K : PySem.W.Frag} {A : CA} {H : Hp} {Q : VK} {E : XK} {st w : Addr} {n L p : Int} {rs : List (Int × Int)} {bs cs : List Int} (hS : StAt A H st w n rs L bs) (hR : RG n rs) (hB : BK L n.toNat bs) (n0 : 1 ≤ n) (n1 : n ≤ 500) (L0 : 0 ≤ L) (hcl : cs.length ≤ 5)
    (k1 : ∀ z, (p :: cs).find? (isOut n) = some z → Raised A.NoPage "page" (.int z) H E)
    (k2 : (p :: cs).find? (isOut n) = none → (∀ z, 0 ≤ z → z < n → bs.getD z.toNat 0 < uses rs p cs z → (∀ y, 0 ≤ y → y < z → uses rs p cs y ≤ bs.getD y.toNat 0) → Raised A.NoLine "page" (.int z) H E) ∧
      (Fits n bs (uses rs p cs) → ∀ (s2 : Addr) (H' : Hp), StNew A H H' s2 w L (aft n rs bs L p cs) → Same H H' → StAt A H' s2 w n rs L (aft n rs bs L p cs) → Q (.ref s2) H')) :
    starSp 2 (sp_Standing_after K A) ([.ref st, .int p] ++ cs.map V.int) H Q E := by
  refine ⟨[.ref st, .int p], cs.map V.int, rfl, rfl, Nat.le_of_lt (small1000 (by rw [List.length_map]; omega)), fun t ht => ?_⟩
  have e := same_new (o := .tup (cs.map V.int)) ht
  exact ⟨st, w, t, n, L, p, rs, bs, cs, rfl, hS.same e, hR, hB, n0, n1, L0, SqT.of upd_same, by omega, fun z hz => Raised.at e (k1 z hz), fun hz => ⟨fun z z0 z1 a b => Raised.at e ((k2 hz).1 z z0 z1 a b), fun hF s2 H' h1 h2 h3 => (k2 hz).2 hF s2 H' (h1.base e) (e.trans h2) h3⟩⟩
theorem w_lenE {a b : Nat} {A B : Prop} (h1 : a = b → A) (h2 : a ≠ b → B) : if decide ((a : Int) = (b : Int)) = true then A else B := w_iteD (fun c => h1 (by omega)) (fun c => h2 (by omega))
def t_law_called (K : PySem.W.Frag) (A : CA) (E : XK) : TS :=
  (tSeq (tIfS (tTest (tOp rEq (tCB (rLenQ K) (tCons (tVar 2) tNil)) (tC (.int 0)))) (tRet (tMeth A.Standing "after" (GX.starSp 2 (sp_Standing_after K A)) [] E (tVar 0) (tCons (tVar 1) tNil))) tNext)
  (tSeq (tIfS (tTest (tOp rEq (tCB (rLenQ K) (tCons (tVar 2) tNil)) (tC (.int 1)))) (tRet (tMeth A.Standing "after" (GX.starSp 2 (sp_Standing_after K A)) [] E (tVar 0) (tCons (tVar 1) (tCons (tOp (rIxL K) (tVar 2) (tC (.int 0))) tNil)))) tNext)
  (tSeq (tIfS (tTest (tOp rEq (tCB (rLenQ K) (tCons (tVar 2) tNil)) (tC (.int 2)))) (tRet (tMeth A.Standing "after" (GX.starSp 2 (sp_Standing_after K A)) [] E (tVar 0) (tCons (tVar 1) (tCons (tOp (rIxL K) (tVar 2) (tC (.int 0))) (tCons (tOp (rIxL K) (tVar 2) (tC (.int 1))) tNil))))) tNext)
  (tSeq (tIfS (tTest (tOp rEq (tCB (rLenQ K) (tCons (tVar 2) tNil)) (tC (.int 3)))) (tRet (tMeth A.Standing "after" (GX.starSp 2 (sp_Standing_after K A)) [] E (tVar 0) (tCons (tVar 1) (tCons (tOp (rIxL K) (tVar 2) (tC (.int 0))) (tCons (tOp (rIxL K) (tVar 2) (tC (.int 1))) (tCons (tOp (rIxL K) (tVar 2) (tC (.int 2))) tNil)))))) tNext)
  (tSeq (tIfS (tTest (tOp rEq (tCB (rLenQ K) (tCons (tVar 2) tNil)) (tC (.int 4)))) (tRet (tMeth A.Standing "after" (GX.starSp 2 (sp_Standing_after K A)) [] E (tVar 0) (tCons (tVar 1) (tCons (tOp (rIxL K) (tVar 2) (tC (.int 0))) (tCons (tOp (rIxL K) (tVar 2) (tC (.int 1))) (tCons (tOp (rIxL K) (tVar 2) (tC (.int 2))) (tCons (tOp (rIxL K) (tVar 2) (tC (.int 3))) tNil))))))) tNext)
  (tRet (tMeth A.Standing "after" (GX.starSp 2 (sp_Standing_after K A)) [] E (tVar 0) (tCons (tVar 1) (tCons (tOp (rIxL K) (tVar 2) (tC (.int 0))) (tCons (tOp (rIxL K) (tVar 2) (tC (.int 1))) (tCons (tOp (rIxL K) (tVar 2) (tC (.int 2))) (tCons (tOp (rIxL K) (tVar 2) (tC (.int 3))) (tCons (tOp (rIxL K) (tVar 2) (tC (.int 4))) tNil)))))))))))))

theorem rd_law_called {K : PySem.W.Frag} {A : CA} {vs : List V} {H : Hp} {Q : VK} {E : XK} (h : sp_law_called K A vs H Q E) :
    t_law_called K A E { nx := fun _ H' => Q .non H', rt := Q } (start ["standing", "page", "copied"] vs) H := by
  obtain ⟨st, w, t, n, L, p, rs, bs, cs, rfl, hS, hR, hB, n0, n1, L0, ht, hcl, k1, k2⟩ := h
  obtain ⟨dx, lb, h1, h2⟩ := hS.ex
  have fin := i_after (K := K) hS hR hB n0 n1 L0 hcl k1 k2
  clear k1 k2
  have m1 := h1
  unfold t_law_called
  match cs, hcl, ht, fin with
  | [], _, ht, fin =>
    walk_at "go"
    refine w_iteD (fun _ => ?_) (fun c => absurd rfl c)
    walk_at "go"
    refine w_mth2 h1 (st_no (by decide) (by decide) (by decide)) ?_
    walk_at "go"
    exact fin
  | [a], _, ht, fin =>
    walk_at "go"
    refine w_iteD (fun c => absurd c (by simp)) (fun _ => ?_)
    walk_at "go"
    refine w_iteD (fun _ => ?_) (fun c => absurd rfl c)
    walk_at "go"
    refine w_mth2 h1 (st_no (by decide) (by decide) (by decide)) ?_
    walk_at "go"
    exact fin
  | [a, b], _, ht, fin =>
    walk_at "go"
    refine w_iteD (fun c => absurd c (by simp)) (fun _ => ?_)
    walk_at "go"
    refine w_iteD (fun c => absurd c (by simp)) (fun _ => ?_)
    walk_at "go"
    refine w_iteD (fun _ => ?_) (fun c => absurd rfl c)
    walk_at "go"
    refine w_mth2 h1 (st_no (by decide) (by decide) (by decide)) ?_
    walk_at "go"
    exact fin
  | [a, b, c], _, ht, fin =>
    walk_at "go"
    refine w_iteD (fun c => absurd c (by simp)) (fun _ => ?_)
    walk_at "go"
    refine w_iteD (fun c => absurd c (by simp)) (fun _ => ?_)
    walk_at "go"
    refine w_iteD (fun c => absurd c (by simp)) (fun _ => ?_)
    walk_at "go"
    refine w_iteD (fun _ => ?_) (fun c => absurd rfl c)
    walk_at "go"
    refine w_mth2 h1 (st_no (by decide) (by decide) (by decide)) ?_
    walk_at "go"
    exact fin
  | [a, b, c, d], _, ht, fin =>
    walk_at "go"
    refine w_iteD (fun c => absurd c (by simp)) (fun _ => ?_)
    walk_at "go"
    refine w_iteD (fun c => absurd c (by simp)) (fun _ => ?_)
    walk_at "go"
    refine w_iteD (fun c => absurd c (by simp)) (fun _ => ?_)
    walk_at "go"
    refine w_iteD (fun c => absurd c (by simp)) (fun _ => ?_)
    walk_at "go"
    refine w_iteD (fun _ => ?_) (fun c => absurd rfl c)
    walk_at "go"
    refine w_mth2 h1 (st_no (by decide) (by decide) (by decide)) ?_
    walk_at "go"
    exact fin
  | [a, b, c, d, e], _, ht, fin =>
    walk_at "go"
    refine w_iteD (fun c => absurd c (by simp)) (fun _ => ?_)
    walk_at "go"
    refine w_iteD (fun c => absurd c (by simp)) (fun _ => ?_)
    walk_at "go"
    refine w_iteD (fun c => absurd c (by simp)) (fun _ => ?_)
    walk_at "go"
    refine w_iteD (fun c => absurd c (by simp)) (fun _ => ?_)
    walk_at "go"
    refine w_iteD (fun c => absurd c (by simp)) (fun _ => ?_)
    walk_at "go"
    refine w_mth2 h1 (st_no (by decide) (by decide) (by decide)) ?_
    walk_at "go"
    exact fin
  | _ :: _ :: _ :: _ :: _ :: _ :: _, h, _, _ => exact absurd h (by simp)
end G

namespace G
open PySem L2 GX
structure ErrJ (K : PySem.W.Frag) (C O : Addr) : Prop where
  exc : ExcC K C
  self : PySem.W.exmOne K (.ref C) (.ref C) = some true
  base : PySem.W.kitOne K (.ref C) (.ref O) = some true
  val : PySem.W.kitOne K (.ref C) (.type "ValueError") = some true
structure CTR (K : PySem.W.Frag) (A : CA) : Prop where
  np : ErrJ K A.NoPage A.OnecopyError
  nl : ErrJ K A.NoLine A.OnecopyError
  is : ErrJ K A.InvalidStanding A.OnecopyError
  off : PySem.W.exmOne K (.ref A.NoLine) (.ref A.NoPage) = some false
  anp : PySem.W.kitAny K (.ref A.NoPage) [.ref A.NoLine, .ref A.LotError, .ref A.InvalidStanding] = some false
  anl : PySem.W.kitAny K (.ref A.NoLine) [.ref A.NoPage, .ref A.LotError, .ref A.InvalidStanding] = some false
  ais : PySem.W.kitAny K (.ref A.InvalidStanding) [.ref A.NoPage, .ref A.NoLine, .ref A.LotError] = some false
  anq : PySem.W.kitAny K (.ref A.NoPage) [.ref A.NoLine, .ref A.InvalidStanding] = some false
theorem w_isXT {K : PySem.W.Frag} {a D dd tp : Addr} {cs : List V} {us : List Value} {b : Bool} {fs : List (Str × V)} {H : Hp} {Q : VK} (hT : H tp = some (.tup cs)) (hc : Paired ClsV cs us) (C : ExcC K D) (hd : H dd = some (.xd fs)) (e : PySem.W.kitAny K (.ref D) us = some b) (q : Q (.bl b) H) :
    rIsXT K a (.ref D) (some dd) [.ref a, .ref tp] H Q := ⟨tp, cs, us, b, D, dd, fs, rfl, hT, hc, rfl, rfl, C, hd, e, q⟩
/-- the head of a suite: isinstance of the two bases -/
theorem w_bases {K : PySem.W.Frag} {C O a dd : Addr} {f : Str} {i : Nat} {v : V} {s u : TS} {D : Ends} {σ : L2.St} {H : Hp} (F : ErrJ K C O) (hσ : σ[i]? = some (some (.ref a))) (hd : H dd = some (.xd [(f, v)])) (q : s D σ H) :
    tIfS (tAnd (tB (tCB (rIsX K a (.ref C) (some dd)) (tCons (tVar i) (tCons (tC (.ref O)) tNil)))) (tB (tCB (rIsX K a (.ref C) (some dd)) (tCons (tVar i) (tCons (tC (.ty "ValueError")) tNil))))) s u D σ H := by
  have vI : ∀ {H : Hp} {Q : VK}, Q (.ref a) H → tVar i σ H Q := fun q => ⟨_, hσ, q⟩
  refine w_if ?_
  refine w_and ?_
  refine w_tB (w_cb (w_cons (vI (w_cons (w_c (w_nil ?_))))))
  refine GX.w_isX (ClsV.own O) F.exc hd F.base ?_
  refine ⟨true, rfl, ?_⟩
  refine w_iteT ?_
  refine w_tB (w_cb (w_cons (vI (w_cons (w_c (w_nil ?_))))))
  refine GX.w_isX (ClsV.ty "ValueError") F.exc hd F.val ?_
  exact ⟨true, rfl, q⟩
theorem w_others3 {K : PySem.W.Frag} {C O N L M a dd : Addr} {f : Str} {i : Nat} {v : V} {s u : TS} {D : Ends} {σ : L2.St} {H : Hp} (F : ErrJ K C O) (oth : PySem.W.kitAny K (.ref C) [.ref N, .ref L, .ref M] = some false) (hσ : σ[i]? = some (some (.ref a))) (hd : H dd = some (.xd [(f, v)])) (q : ∀ H', Same H H' → s D σ H') :
    tIfS (tNot (tB (tCB (GX.rIsXT K a (.ref C) (some dd)) (tCons (tVar i) (tCons (tTup (tCons (tC (.ref N)) (tCons (tC (.ref L)) (tCons (tC (.ref M)) tNil)))) tNil))))) s u D σ H := by
  have vI : ∀ {H : Hp} {Q : VK}, Q (.ref a) H → tVar i σ H Q := fun q => ⟨_, hσ, q⟩
  refine w_if ?_
  refine w_not ?_
  refine w_tB (w_cb (w_cons (vI (w_cons (w_tup (w_cons (w_c (w_cons (w_c (w_cons (w_c (w_nil ?_))))))))))))
  refine w_small (by show 3 ≤ 100; decide) fun tp htp => w_nil ?_
  have e := same_new (o := .tup [V.ref N, .ref L, .ref M]) htp
  refine w_isXT upd_same (.cons (ClsV.own N) (.cons (ClsV.own L) (.cons (ClsV.own M) .nil))) F.exc (e _ _ hd) oth ?_
  exact ⟨false, rfl, q _ e⟩
theorem w_others2 {K : PySem.W.Frag} {C O N L a dd : Addr} {f : Str} {i : Nat} {v : V} {σ : L2.St} {H : Hp} {R : Bool → Hp → Prop} (F : ErrJ K C O) (oth : PySem.W.kitAny K (.ref C) [.ref N, .ref L] = some false) (hσ : σ[i]? = some (some (.ref a))) (hd : H dd = some (.xd [(f, v)])) (q : ∀ H', Same H H' → R true H') :
    tNot (tB (tCB (GX.rIsXT K a (.ref C) (some dd)) (tCons (tVar i) (tCons (tTup (tCons (tC (.ref N)) (tCons (tC (.ref L)) tNil))) tNil)))) σ H R := by
  have vI : ∀ {H : Hp} {Q : VK}, Q (.ref a) H → tVar i σ H Q := fun q => ⟨_, hσ, q⟩
  refine w_not ?_
  refine w_tB (w_cb (w_cons (vI (w_cons (w_tup (w_cons (w_c (w_cons (w_c (w_nil ?_))))))))))
  refine w_small (by show 2 ≤ 100; decide) fun tp htp => w_nil ?_
  have e := same_new (o := .tup [V.ref N, .ref L]) htp
  refine w_isXT upd_same (.cons (ClsV.own N) (.cons (ClsV.own L) .nil)) F.exc (e _ _ hd) oth ?_
  exact ⟨false, rfl, q _ e⟩
theorem w_field {C a dd : Addr} {f : Str} {i : Nat} {v : V} {σ : L2.St} {H : Hp} {Q : VK} (hσ : σ[i]? = some (some (.ref a))) (hd : H dd = some (.xd [(f, v)])) (q : Q v H) : tXf a (.ref C) (some dd) C f (tVar i) σ H Q :=
  GX.w_xf (fun _ q => ⟨_, hσ, q⟩) hd (by simp [List.lookup]) q
/-- what a refused update tells -/
def RefR (n : Int) (rs : List (Int × Int)) (bs : List Int) (p : Int) (cs R : List Int) : Prop :=
  (∃ z, (p :: cs).find? (isOut n) = some z ∧ R = [0, z]) ∨ ((p :: cs).find? (isOut n) = none ∧ ∃ z, 0 ≤ z ∧ z < n ∧ bs.getD z.toNat 0 < uses rs p cs z ∧ (∀ y, 0 ≤ y → y < z → uses rs p cs y ≤ bs.getD y.toNat 0) ∧ R = [1, z]) ∨
  ((p :: cs).find? (isOut n) = none ∧ Fits n bs (uses rs p cs) ∧ R = [])
def sp_law_refused (K : PySem.W.Frag) (A : CA) : Sp := fun vs H Q _ => ∃ (st w t : Addr) (n L p : Int) (rs : List (Int × Int)) (bs cs R : List Int), vs = [.ref st, .int p, .ref t] ∧ StAt A H st w n rs L bs ∧ RG n rs ∧ BK L n.toNat bs ∧ 1 ≤ n ∧ n ≤ 500 ∧ 0 ≤ L ∧ H t = some (.lst (cs.map V.int)) ∧ cs.length ≤ 5 ∧ RefR n rs bs p cs R ∧
  ∀ q H', H q = none → Same H H' → H' q = some (.lst (R.map V.int)) → Q (.ref q) H'
def t_law_refused (K : PySem.W.Frag) (A : CA) : TS :=
  (tSeq (GY.tTryMany K [(.ref A.NoPage, 3, fun a cls d => (tSeq (tIfS (tAnd (tB (tCB (GX.rIsX K a cls d) (tCons (tVar 3) (tCons (tC (.ref A.OnecopyError)) tNil)))) (tB (tCB (GX.rIsX K a cls d) (tCons (tVar 3) (tCons (tC (.ty "ValueError")) tNil))))) (tIfS (tNot (tB (tCB (GX.rIsXT K a cls d) (tCons (tVar 3) (tCons (tTup (tCons (tC (.ref A.NoLine)) (tCons (tC (.ref A.LotError)) (tCons (tC (.ref A.InvalidStanding)) tNil)))) tNil))))) (tRet (tLst (tCons (tC (.int 0)) (tCons (tXf a cls d A.NoPage "page" (tVar 3)) tNil)))) tNext) tNext)
  (tRet (tLst (tCons (tC (.int 2)) tNil))))), (.ref A.NoLine, 4, fun a cls d => (tSeq (tIfS (tAnd (tB (tCB (GX.rIsX K a cls d) (tCons (tVar 4) (tCons (tC (.ref A.OnecopyError)) tNil)))) (tB (tCB (GX.rIsX K a cls d) (tCons (tVar 4) (tCons (tC (.ty "ValueError")) tNil))))) (tIfS (tNot (tB (tCB (GX.rIsXT K a cls d) (tCons (tVar 4) (tCons (tTup (tCons (tC (.ref A.NoPage)) (tCons (tC (.ref A.LotError)) (tCons (tC (.ref A.InvalidStanding)) tNil)))) tNil))))) (tRet (tLst (tCons (tC (.int 1)) (tCons (tXf a cls d A.NoLine "page" (tVar 4)) tNil)))) tNext) tNext)
  (tRet (tLst (tCons (tC (.int 2)) tNil)))))] (fun W => (tDrop (GX.tCallS (sp_law_called K A) (WE W) (tCons (tVar 0) (tCons (tVar 1) (tCons (tVar 2) tNil)))))))
  (tRet (tLst tNil)))

theorem rd_law_refused {K : PySem.W.Frag} {A : CA} (T : CTR K A) {vs : List V} {H : Hp} {Q : VK} {E : XK} (h : sp_law_refused K A vs H Q E) :
    t_law_refused K A { nx := fun _ H' => Q .non H', rt := Q } (start ["standing", "page", "copied", "e", "raised"] vs) H := by
  obtain ⟨st, w, t, n, L, p, rs, bs, cs, R, rfl, hS, hR, hB, n0, n1, L0, ht, hcl, hr, q⟩ := h
  unfold t_law_refused
  walk_at "go"
  unfold GY.tTryMany
  refine w_drop (GX.w_callS ?_)
  walk_at "go"
  refine ⟨st, w, t, n, L, p, rs, bs, cs, rfl, hS, hR, hB, n0, n1, L0, ht, hcl, fun z hz => ?_, fun hz => ⟨fun z z0 z1 a b => ?_, fun hF s2 H' _ e _ => ?_⟩⟩
  · intro dd H2 hdd e2 hx
    have er : R = [0, z] := by
      rcases hr with ⟨y, hy, rfl⟩ | ⟨hy, _⟩ | ⟨hy, _⟩
      · rw [hz] at hy; rw [Option.some.inj hy]
      · rw [hz] at hy; cases hy
      · rw [hz] at hy; cases hy
    subst er
    refine ⟨true, T.np.self, fun _ r hr => ?_, fun z => nomatch z⟩
    refine w_seq (w_bases T.np rfl hx (w_others3 T.np T.anp rfl hx fun H3 e3 => ?_))
    refine w_ret (w_lst (w_cons (w_c (w_cons (w_field rfl (e3 _ _ hx) (w_nil ?_))))))
    refine w_small (by show 2 ≤ 100; decide) fun p hp => ?_
    exact q p _ ((e2.trans e3).free hp) ((e2.trans e3).trans (same_new hp)) upd_same
  · intro dd H2 hdd e2 hx
    have er : R = [1, z] := by
      rcases hr with ⟨y, hy, rfl⟩ | ⟨_, y, y0, y1, ya, yb, rfl⟩ | ⟨_, hF, _⟩
      · rw [hz] at hy; cases hy
      · rcases Int.lt_trichotomy y z with c | c | c
        · have := b y y0 c; omega
        · rw [c]
        · have := yb z z0 c; omega
      · have := hF z z0 z1; omega
    subst er
    refine ⟨false, T.off, (fun z => nomatch z), fun _ => ⟨true, T.nl.self, fun _ r hr => ?_, fun z => nomatch z⟩⟩
    refine w_seq (w_bases T.nl rfl hx (w_others3 T.nl T.anl rfl hx fun H3 e3 => ?_))
    refine w_ret (w_lst (w_cons (w_c (w_cons (w_field rfl (e3 _ _ hx) (w_nil ?_))))))
    refine w_small (by show 2 ≤ 100; decide) fun p hp => ?_
    exact q p _ ((e2.trans e3).free hp) ((e2.trans e3).trans (same_new hp)) upd_same
  · have er : R = [] := by
      rcases hr with ⟨y, hy, rfl⟩ | ⟨_, y, y0, y1, ya, yb, rfl⟩ | ⟨_, _, er⟩
      · rw [hz] at hy; cases hy
      · have := hF y y0 y1; omega
      · exact er
    subst er
    walk_at "go"
    intro l hl
    exact q l _ (e.free hl) (e.trans (same_new hl)) upd_same
def sp_law_no_page (K : PySem.W.Frag) (A : CA) : Sp := fun vs H Q _ => ∃ (st w : Addr) (n L p : Int) (rs : List (Int × Int)) (bs : List Int), vs = [.ref st, .int p] ∧ StAt A H st w n rs L bs ∧ BK L n.toNat bs ∧ 1 ≤ n ∧ n ≤ 500 ∧ isOut n p = true ∧ ∀ q H', H q = none → Same H H' → H' q = some (.lst [.int p]) → Q (.ref q) H'
theorem w_methS {C : Addr} {m : Str} {sp : Sp} {E : L2.St → XK} {ta : TE} {tl : TA} {σ : L2.St} {H : Hp} {Q : VK} {a dx : Addr} {fs : List (Str × V)} (ha : ∀ Q : VK, Q (.ref a) H → ta σ H Q) (h1 : H a = some (.ins C dx fs)) (l : fs.lookup m = none) (h : tl σ H fun vs H2 => sp (.ref a :: vs) H2 Q (E σ)) : tMethS C m sp E ta tl σ H Q :=
  ha _ ⟨a, dx, fs, rfl, h1, l, h⟩
theorem w_makeS {tl : TA} {C : Addr} {sp : Sp} {E : L2.St → XK} {σ : L2.St} {H : Hp} {Q : VK} (h : tl σ H fun vs H1 => ∀ x dx, H1 x = none → H1 dx = none → dx ≠ x → sp (.ref x :: vs) (upd (upd H1 dx (.own x)) x (.ins C dx [])) (fun v H2 => v = .non ∧ Q (.ref x) H2) (E σ)) : tMakeS C sp E tl σ H Q := h
def t_law_no_page (K : PySem.W.Frag) (A : CA) : TS :=
  (tSeq (GX.tTryAs K A.NoPage 2 (fun W => (tDrop (GX.tMethS A.Standing "blank_of" (sp_Standing_blank_of K A) (WE W) (tVar 0) (tCons (tVar 1) tNil)))) (fun a cls d => (tIfS (tAnd (tB (tCB (GX.rIsX K a cls d) (tCons (tVar 2) (tCons (tC (.ref A.OnecopyError)) tNil)))) (tNot (tB (tCB (GX.rIsXT K a cls d) (tCons (tVar 2) (tCons (tTup (tCons (tC (.ref A.NoLine)) (tCons (tC (.ref A.InvalidStanding)) tNil))) tNil)))))) (tRet (tLst (tCons (tXf a cls d A.NoPage "page" (tVar 2)) tNil))) tNext)))
  (tRet (tLst tNil)))

theorem rd_law_no_page {K : PySem.W.Frag} {A : CA} (T : CTR K A) {vs : List V} {H : Hp} {Q : VK} {E : XK} (h : sp_law_no_page K A vs H Q E) :
    t_law_no_page K A { nx := fun _ H' => Q .non H', rt := Q } (start ["standing", "page", "e"] vs) H := by
  obtain ⟨st, w, n, L, p, rs, bs, rfl, hS, hB, n0, n1, ho, q⟩ := h
  obtain ⟨dx, lb, h1, _⟩ := hS.ex
  unfold t_law_no_page
  walk_at "go"
  unfold tTryAs
  refine w_drop (w_methS (fun Q q => ⟨_, rfl, q⟩) h1 (st_no (by decide) (by decide) (by decide)) ?_)
  walk_at "go"
  refine ⟨st, w, n, L, p, rs, bs, rfl, hS, hB, n0, n1, fun _ => ?_, fun p0 p1 => (by rw [isOut_in p0 p1] at ho; cases ho)⟩
  intro dd H2 hdd e2 hx
  refine ⟨true, T.np.self, fun _ r hr => ?_, fun z => nomatch z⟩
  have vI : ∀ {H : Hp} {Q : VK}, Q (.ref r) H → tVar 2 [some (.ref st), some (.int p), some (.ref r)] H Q := fun q => ⟨_, rfl, q⟩
  refine w_if (w_and (w_tB (w_cb (w_cons (vI (w_cons (w_c (w_nil ?_))))))))
  refine GX.w_isX (ClsV.own _) T.np.exc hx T.np.base ?_
  refine ⟨true, rfl, w_iteT ?_⟩
  refine w_others2 (i := 2) T.np T.anq rfl hx fun H3 e3 => ?_
  refine w_iteT ?_
  refine w_ret (w_lst (w_cons (w_field rfl (e3 _ _ hx) (w_nil ?_))))
  refine w_small (by show 1 ≤ 100; decide) fun p hp => ?_
  exact q p _ ((e2.trans e3).free hp) ((e2.trans e3).trans (same_new hp)) upd_same
/-- what a wrong list of blank lines tells -/
def WrongV (n L : Int) (bs : List Int) (v : V) : Prop := (bs.length ≠ n.toNat ∧ v = .non) ∨ (bs.length = n.toNat ∧ ∃ k : Nat, badK L bs k ∧ v = .int (k : Nat))
theorem badK_one {L : Int} {bs : List Int} {j k : Nat} (h1 : badK L bs j) (h2 : badK L bs k) : j = k := by
  obtain ⟨b, hb, cb, fb⟩ := h1
  obtain ⟨c, hc, cc, fc⟩ := h2
  rcases Nat.lt_trichotomy j k with h | h | h
  · have := fc j b h hb; omega
  · exact h
  · have := fb k c h hc; omega
def sp_law_invalid (K : PySem.W.Frag) (A : CA) : Sp := fun vs H Q _ => ∃ (w pb : Addr) (n L : Int) (rs : List (Int × Int)) (bs : List Int) (v : V), vs = [.ref w, .int L, .ref pb] ∧ WebX A H w n rs ∧ 1 ≤ n ∧ n ≤ 500 ∧ H pb = some (.lst (bs.map V.int)) ∧ bs.length ≤ 1000 ∧ WrongV n L bs v ∧ ∀ q H', H q = none → Same H H' → H' q = some (.lst [v]) → Q (.ref q) H'
def t_law_invalid (K : PySem.W.Frag) (A : CA) : TS :=
  (tSeq (GX.tTryAs K A.InvalidStanding 3 (fun W => (tDrop (GX.tMakeS A.Standing (sp_Standing_init K A) (WE W) (tCons (tVar 0) (tCons (tVar 1) (tCons (tVar 2) tNil)))))) (fun a cls d => (tIfS (tAnd (tB (tCB (GX.rIsX K a cls d) (tCons (tVar 3) (tCons (tC (.ref A.OnecopyError)) tNil)))) (tB (tCB (GX.rIsX K a cls d) (tCons (tVar 3) (tCons (tC (.ty "ValueError")) tNil))))) (tIfS (tNot (tB (tCB (GX.rIsXT K a cls d) (tCons (tVar 3) (tCons (tTup (tCons (tC (.ref A.NoPage)) (tCons (tC (.ref A.NoLine)) (tCons (tC (.ref A.LotError)) tNil)))) tNil))))) (tRet (tLst (tCons (tXf a cls d A.InvalidStanding "page" (tVar 3)) tNil))) tNext) tNext)))
  (tRet (tLst tNil)))

theorem rd_law_invalid {K : PySem.W.Frag} {A : CA} (T : CTR K A) {vs : List V} {H : Hp} {Q : VK} {E : XK} (h : sp_law_invalid K A vs H Q E) :
    t_law_invalid K A { nx := fun _ H' => Q .non H', rt := Q } (start ["web", "lines", "blank", "e"] vs) H := by
  obtain ⟨w, pb, n, L, rs, bs, v, rfl, hW, n0, n1, hb, hbl, hv, q⟩ := h
  unfold t_law_invalid
  walk_at "go"
  unfold tTryAs
  refine w_drop (w_makeS ?_)
  walk_at "go"
  intro x dx hx hdx nx
  have suite : Raised A.InvalidStanding "page" v H (WE (wAs K (.ref A.InvalidStanding) 3 (fun a cls d => tIfS (tAnd (tB (tCB (rIsX K a cls d) (tCons (tVar 3) (tCons (tC (.ref A.OnecopyError)) tNil)))) (tB (tCB (rIsX K a cls d) (tCons (tVar 3) (tCons (tC (.ty "ValueError")) tNil)))))
      (tIfS (tNot (tB (tCB (GX.rIsXT K a cls d) (tCons (tVar 3) (tCons (tTup (tCons (tC (.ref A.NoPage)) (tCons (tC (.ref A.NoLine)) (tCons (tC (.ref A.LotError)) tNil)))) tNil))))) (tRet (tLst (tCons (tXf a cls d A.InvalidStanding "page" (tVar 3)) tNil))) tNext) tNext) (fun _ _ _ _ => False)
      { nx := tRet (tLst tNil) { nx := fun _ H' => Q .non H', rt := Q }, rt := Q }) (start ["web", "lines", "blank", "e"] [.ref w, .int L, .ref pb])) := by
    intro dd H2 hdd e2 hx
    refine ⟨true, T.is.self, fun _ r hr => ?_, fun z => nomatch z⟩
    refine w_bases T.is rfl hx (w_others3 T.is T.ais rfl hx fun H3 e3 => ?_)
    refine w_ret (w_lst (w_cons (w_field rfl (e3 _ _ hx) (w_nil ?_))))
    refine w_small (by show 1 ≤ 100; decide) fun p hp => ?_
    exact q p _ ((e2.trans e3).free hp) ((e2.trans e3).trans (same_new hp)) upd_same
  refine ⟨H, x, dx, w, pb, n, L, rs, bs, rfl, rfl, hx, hdx, nx, hW, n0, n1, hb, hbl, fun c => ?_, fun c k hk => ?_, fun hB => ?_⟩
  · rcases hv with ⟨_, rfl⟩ | ⟨z, _⟩
    · exact suite
    · exact absurd z c
  · rcases hv with ⟨z, _⟩ | ⟨_, j, hj, rfl⟩
    · exact absurd c z
    · rw [badK_one hk hj]; exact suite
  · exfalso
    rcases hv with ⟨z, _⟩ | ⟨_, j, hj, _⟩
    · exact z hB.len
    · exact hB.noBad j hj
end G

namespace G
open PySem L2 GX
/-- a list of numbers out of rows, by a test and a field -/
theorem lc_rows {K : PySem.W.Frag} {A : CA} {H : Hp} {Q : VK} {pq : Addr} {us : List V} {rows : List (Int × Int)} {g : TG} {tt : TT} {te : TE} {vs : List Nat} {σ : L2.St} (f : Int × Int → Int) (c : Int × Int → Bool) (hq : H pq = some (.lst us)) (hP : Paired (PR H) us rows) (hl : us.length ≤ 400)
    (hs : ∀ (t : Addr) (r : Int × Int) (H1 : Hp) (R : TS), r ∈ rows → H1 t = some (.tup [.int r.1, .int r.2]) → ∀ N : Hp → Prop, ∀ Dl, (c r = true → ∃ acc, H1 Dl = some (.lst acc) ∧ acc.length < sizeLine ∧ N (upd H1 Dl (.lst (acc ++ [.int (f r)])))) → (c r = false → N H1) →
      g (.ref t) (wipe σ vs) H1 fun σ2 H2 => wipe σ2 vs = wipe σ vs ∧ LcT tt te Dl N σ2 H2)
    (q : ∀ (l : Addr) (H' : Hp), H l = none → Same H H' → H' l = some (.lst (((rows.filter c).map f).map V.int)) → Q (.ref l) H') : LcW (Itl K pq) g tt te vs σ H Q := by
  refine lcL (xs := us) (fun Dl j H' => Same H H' ∧ H' Dl = some (.lst ((((rows.take j).filter c).map f).map V.int))) (fun Dl hD => ⟨same_new hD, upd_same⟩) (fun Dl j H' hD hj ⟨e, _⟩ => SqL.of (e _ _ hq)) ?_ ?_
  · rintro Dl j x H' hD hx ⟨e, hg⟩
    obtain ⟨r, hr, t, rfl, ht⟩ := Paired.at' hP hx
    have jl : j < us.length := (List.getElem?_eq_some_iff.mp hx).1
    have tk : rows.take (j + 1) = rows.take j ++ [r] := by rw [List.take_succ, hr]; rfl
    have sl : ((((rows.take j).filter c).map f).map V.int).length < sizeLine := by
      refine small1000 ?_
      rw [List.length_map, List.length_map]
      refine Nat.le_trans (List.length_filter_le _ _) ?_
      rw [List.length_take]; omega
    refine hs t r H' (fun _ _ _ => True) (List.mem_of_getElem? hr) (e _ _ ht) _ Dl (fun hc => ⟨_, hg, sl, same_mut e hD, ?_⟩) (fun hc => ⟨e, ?_⟩)
    · rw [tk, List.filter_append, List.filter_cons, if_pos hc, List.filter_nil, List.map_append, List.map_append, upd_same]; rfl
    · rw [tk, List.filter_append, List.filter_cons, if_neg (by rw [hc]; decide), List.filter_nil, List.append_nil]; exact hg
  · rintro Dl H' hD ⟨e, hg⟩
    rw [hP.length, List.take_length] at hg
    exact q Dl H' hD e hg
def sp_law_drawn_update (K : PySem.W.Frag) (A : CA) : Sp := fun vs H Q _ => ∃ (s pq : Addr) (n : Int) (us : List V) (rows : List (Int × Int)), vs = [.ref s, .int n, .ref pq] ∧ Src H s ∧ H pq = some (.lst us) ∧ pq ≠ s ∧ Paired (PR H) us rows ∧ us.length ≤ 400 ∧ 1 ≤ n ∧ n ≤ 200 ∧
  ∀ (p : Int) (cs : List Int) (t l : Addr) (H' : Hp), cs.length ≤ 5 → H t = none → H l = none → But s H H' → Src H' s → H' l = some (.lst [.int p, .ref t]) → H' t = some (.lst (cs.map V.int)) → Q (.ref l) H'
def t_law_drawn_update (K : PySem.W.Frag) (A : CA) : TS :=
  (tSeq (tAsg (tCall (sp_law_draw K A) [] E0 (tCons (tVar 0) (tCons (tVar 1) tNil))) (gName 3))
  (tSeq (tAsg (tCall (sp_law_draw K A) [] E0 (tCons (tVar 0) (tCons (tC (.int 11)) tNil))) (gName 4))
  (tSeq (tAsg (tLc (iRng1 (tCons (tCall (sp_law_draw K A) [] E0 (tCons (tVar 0) (tCons (tC (.int 6)) tNil))) tNil)) (gName 6) tYes (tCall (sp_law_draw K A) [] E0 (tCons (tVar 0) (tCons (tVar 1) tNil))) [6]) (gName 5))
  (tSeq (tAsg (tCall (sp_law_outside K A) [] E0 (tCons (tVar 0) (tCons (tVar 1) tNil))) (gName 7))
  (tSeq (tAsg (tCall (sp_law_draw K A) [] E0 (tCons (tVar 0) (tCons (tCB oMax2 (tCons (tC (.int 1)) (tCons (tCB (rLenQ K) (tCons (tVar 5) tNil)) tNil))) tNil))) (gName 8))
  (C8.tCut (tIfS (tAnd (tTest (tOp rEq (tVar 4) (tC (.int 0)))) (tTest (tOp oGt (tCB (rLenQ K) (tCons (tVar 5) tNil)) (tC (.int 0))))) (tAsg (tVar 3) (gSub (tVar 5) (tVar 8) rSetL)) (tIfS (tTest (tOp rEq (tVar 4) (tC (.int 1)))) (tAsg (tSl (rSlL K) (tLc (iList K (tVar 2)) (gName 9) (tTest (tOp rEq (tOp (rIxT K) (tVar 9) (tC (.int 0))) (tVar 3))) (tOp (rIxT K) (tVar 9) (tC (.int 1))) [9]) tNoPart (tPart (tC (.int 5)))) (gName 5)) (tIfS (tTest (tOp rEq (tVar 4) (tC (.int 2)))) (tAsg (tOp rCat (tSl (rSlL K) (tLc (iList K (tVar 2)) (gName 9) (tTest (tOp rEq (tOp (rIxT K) (tVar 9) (tC (.int 1))) (tVar 3))) (tOp (rIxT K) (tVar 9) (tC (.int 0))) [9]) tNoPart (tPart (tC (.int 3)))) (tLst (tCons (tVar 3) tNil))) (gName 5)) (tIfS (tTest (tOp rEq (tVar 4) (tC (.int 3)))) (tAsg (tOp rCat (tSl (rSlL K) (tVar 5) tNoPart (tPart (tC (.int 2)))) (tSl (rSlL K) (tVar 5) tNoPart (tPart (tC (.int 2))))) (gName 5)) (tIfS (tAnd (tOr (tTest (tOp rEq (tVar 4) (tC (.int 6)))) (tTest (tOp rEq (tVar 4) (tC (.int 7))))) (tTest (tOp oGt (tCB (rLenQ K) (tCons (tVar 5) tNil)) (tC (.int 0))))) (tAsg (tVar 7) (gSub (tVar 5) (tVar 8) rSetL)) tNext)))))
  (C8.tCut (tIfS (tOr (tTest (tOp rEq (tVar 4) (tC (.int 5)))) (tTest (tOp rEq (tVar 4) (tC (.int 6))))) (tAsg (tCall (sp_law_outside K A) [] E0 (tCons (tVar 0) (tCons (tVar 1) tNil))) (gName 3)) tNext)
  (tRet (tLst (tCons (tVar 3) (tCons (tVar 5) tNil)))))))))))

theorem rd_law_drawn_update {K : PySem.W.Frag} {A : CA} {vs : List V} {H : Hp} {Q : VK} {E : XK} (h : sp_law_drawn_update K A vs H Q E) :
    t_law_drawn_update K A { nx := fun _ H' => Q .non H', rt := Q } (start ["box", "pages", "rows", "page", "style", "copied", "k", "far", "at", "row"] vs) H := by
  obtain ⟨s, pq, n, us, rows, rfl, hs, hq, nqs, hP, hul, n0, n1, q⟩ := h
  unfold t_law_drawn_update
  walk_at "go"
  intro p H1 p0 p1 b1 s1
  walk_at "go"
  intro sty H2 y0 y1 b2 s2
  walk_at "go"
  intro m H3 m0 m1 b3 s3
  have B3 := (b1.trans b2).trans b3
  walk_at "go"
  refine lcR (fun Dl i H' => But s H3 H' ∧ Src H' s ∧ ∃ xs : List Int, H' Dl = some (.lst (xs.map V.int)) ∧ xs.length = i) (fun Dl hD => ⟨But.refl.new hD, s3.new hD, [], upd_same, rfl⟩) ?_ ?_
  · rintro Dl i H4 hD hi ⟨b4, s4, xs, g4, xl⟩
    have nD : Dl ≠ s := s3.neFree hD
    have sl : (xs.map V.int).length < sizeLine := small1000 (by rw [List.length_map]; omega)
    walk_at "go"
    intro z H5 z0 z1 b5 s5
    have g5 := b5.at nD g4
    walk_at "go"
    exact ⟨(b4.trans b5).mut hD, s5.mut nD, xs ++ [z], by rw [upd_same, List.map_append]; rfl, by rw [List.length_append, List.length_singleton, xl]⟩
  rintro l4 H4 hl4 ⟨b4, s4, xs, g4, xl⟩
  have B4 := B3.trans b4
  have l4H : H l4 = none := B3.back s3 hl4
  have nl4 : l4 ≠ s := s3.neFree hl4
  have xl5 : xs.length ≤ 5 := by omega
  clear b1 b2 b3 b4 s1 s2 s3 hl4 B3
  walk_at "go"
  refine ⟨s, n, rfl, s4, n0, n1, fun far H5 _ b5 s5 => ?_⟩
  have g5 := b5.at nl4 g4
  walk_at "go"
  rw [List.length_map]
  walk_at "go"
  intro z H6 z0 z1 b6 s6
  have B6 := (B4.trans b5).trans b6
  have g6 := b6.at nl4 g5
  clear b5 b6 s4 s5 g4 g5 B4
  have z2 : 0 < xs.length → z < xs.length := fun c => by
    split at z1 <;> omega
  clear z1
  walk_at "go"
  refine w_cut (fun σ H' => ∃ (cs : List Int) (lt : Addr) (k9 : Option V), σ = [some (.ref s), some (.int n), some (.ref pq), some (.int p), some (.int sty), some (.ref lt), none, some (.int far), some (.int z), k9] ∧ cs.length ≤ 5 ∧ H lt = none ∧ But s H H' ∧ Src H' s ∧ H' lt = some (.lst (cs.map V.int))) ?_ ?_
  · have hq6 := B6.at nqs hq
    have hP6 := PRs.but B6 hs hP
    have set1 : ∀ v : Int, 0 < xs.length → ∃ (cs : List Int) (lt : Addr) (k9 : Option V), [some (V.ref s), some (.int n), some (.ref pq), some (.int p), some (.int sty), some (.ref l4), none, some (.int far), some (.int z), none] = [some (.ref s), some (.int n), some (.ref pq), some (.int p), some (.int sty), some (.ref lt), none, some (.int far), some (.int z), k9] ∧ cs.length ≤ 5 ∧ H lt = none ∧ But s H (upd H6 l4 (.lst ((xs.map V.int).set z.toNat (.int v)))) ∧ Src (upd H6 l4 (.lst ((xs.map V.int).set z.toNat (.int v)))) s ∧ (upd H6 l4 (.lst ((xs.map V.int).set z.toNat (.int v)))) lt = some (.lst (cs.map V.int)) := fun v _ =>
      ⟨xs.set z.toNat v, l4, none, rfl, by rw [List.length_set]; exact xl5, l4H, B6.mut l4H, s6.mut nl4, by rw [upd_same, List.map_set]⟩
    have keep1 : ∃ (cs : List Int) (lt : Addr) (k9 : Option V), [some (V.ref s), some (.int n), some (.ref pq), some (.int p), some (.int sty), some (.ref l4), none, some (.int far), some (.int z), none] = [some (.ref s), some (.int n), some (.ref pq), some (.int p), some (.int sty), some (.ref lt), none, some (.int far), some (.int z), k9] ∧ cs.length ≤ 5 ∧ H lt = none ∧ But s H H6 ∧ Src H6 s ∧ H6 lt = some (.lst (cs.map V.int)) :=
      ⟨xs, l4, none, rfl, xl5, l4H, B6, s6, g6⟩
    have ixz : 0 < xs.length → ixN (xs.map V.int).length z = some z.toNat := fun c => ixn (by omega) (by rw [List.length_map]; have := z2 c; omega)
    walk_at "go"
    refine w_iteD (fun c => ?_) (fun c0 => ?_)
    · subst c
      walk_at "go"
      refine w_iteD (fun c2 => ?_) (fun c2 => ?_)
      · rw [List.length_map] at c2
        walk_at "go"
        refine w_setL g6 (ixz (by omega)) ?_
        exact set1 p (by omega)
      · walk_at "go"
        refine w_iteD (fun c => absurd c (by decide)) (fun _ => ?_)
        walk_at "go"
        refine w_iteD (fun c => absurd c (by decide)) (fun _ => ?_)
        walk_at "go"
        refine w_iteD (fun c => absurd c (by decide)) (fun _ => ?_)
        walk_at "go"
        refine w_iteD (fun c => absurd c (by decide)) (fun _ => ?_)
        walk_at "go"
        refine w_iteD (fun c => absurd c (by decide)) (fun _ => ?_)
        walk_at "go"
        exact keep1
    walk_at "go"
    refine w_iteD (fun c => ?_) (fun c1 => ?_)
    · walk_at "go"
      refine lc_rows (A := A) (fun r => r.2) (fun r => decide (r.1 = p)) hq6 hP6 hul (fun t r H1 _ _ ht N Dl hy hn => ?_) fun l7 H7 hl7 e7 g7 => ?_
      · walk_at "go"
        refine w_iteD (fun c => ?_) (fun c => ?_)
        · obtain ⟨acc, ha, hz, hN⟩ := hy (decide_eq_true c)
          walk_at "go"
          exact hN
        · walk_at "go"
          exact hn (decide_eq_false c)
      walk_at "go"
      intro l8 hl8
      rw [show (5 : Int) = ((5 : Nat) : Int) from rfl, cut_mapTo]
      have e8 := e7.trans (same_new (o := .lst ((((rows.filter fun r => decide (r.1 = p)).map fun r => r.2).take 5).map V.int)) hl8)
      walk_at "go"
      exact ⟨_, l8, _, rfl, List.length_take_le _ _, B6.back s6 (e7.free hl8), B6.trans (fun a o _ h => e8 a o h), Src.same e8 s6, upd_same⟩
    walk_at "go"
    refine w_iteD (fun c => ?_) (fun c2 => ?_)
    · walk_at "go"
      refine lc_rows (A := A) (fun r => r.1) (fun r => decide (r.2 = p)) hq6 hP6 hul (fun t r H1 _ _ ht N Dl hy hn => ?_) fun l7 H7 hl7 e7 g7 => ?_
      · walk_at "go"
        refine w_iteD (fun c => ?_) (fun c => ?_)
        · obtain ⟨acc, ha, hz, hN⟩ := hy (decide_eq_true c)
          walk_at "go"
          exact hN
        · walk_at "go"
          exact hn (decide_eq_false c)
      walk_at "go"
      intro l8 hl8
      rw [show (3 : Int) = ((3 : Nat) : Int) from rfl, cut_mapTo]
      have tl : ((((rows.filter fun r => decide (r.2 = p)).map fun r => r.1).take 3)).length ≤ 3 := List.length_take_le _ _
      generalize (((rows.filter fun r => decide (r.2 = p)).map fun r => r.1).take 3) = ys at tl
      have e8 := e7.trans (same_new (o := .lst (ys.map V.int)) hl8)
      have g8 : (upd H7 l8 (.lst (ys.map V.int))) l8 = some (.lst (ys.map V.int)) := upd_same
      generalize upd H7 l8 (.lst (ys.map V.int)) = H8 at e8 g8
      walk_at "go"
      intro l9 hl9
      have e9 := e8.trans (same_new (o := .lst [V.int p]) hl9)
      have g9 : (upd H8 l9 (.lst [V.int p])) l9 = some (.lst [V.int p]) := upd_same
      have g89 := keep (o' := .lst [V.int p]) g8 hl9
      generalize upd H8 l9 (.lst [V.int p]) = H9 at e9 g9 g89
      have sz : (ys.map V.int).length + [V.int p].length ≤ sizeLine := Nat.le_of_lt (small1000 (by rw [List.length_map, List.length_singleton]; omega))
      walk_at "go"
      intro l10 hl10
      have e10 := e9.trans (same_new (o := .lst (ys.map V.int ++ [V.int p])) hl10)
      walk_at "go"
      refine ⟨ys ++ [p], l10, _, rfl, by rw [List.length_append, List.length_singleton]; omega, B6.back s6 (e9.free hl10), B6.trans (fun a o _ h => e10 a o h), Src.same e10 s6, by rw [upd_same, List.map_append]; rfl⟩
    walk_at "go"
    refine w_iteD (fun c => ?_) (fun c3 => ?_)
    · walk_at "go"
      intro l8 hl8
      rw [show (2 : Int) = ((2 : Nat) : Int) from rfl, cut_mapTo]
      have tl : (xs.take 2).length ≤ 2 := List.length_take_le _ _
      have e8 := same_new (o := .lst ((xs.take 2).map V.int)) hl8
      have g8 : (upd H6 l8 (.lst ((xs.take 2).map V.int))) l8 = some (.lst ((xs.take 2).map V.int)) := upd_same
      have g68 := e8 _ _ g6
      generalize upd H6 l8 (.lst ((xs.take 2).map V.int)) = H8 at e8 g8 g68
      walk_at "go"
      intro l9 hl9
      rw [cut_mapTo]
      have e9 := e8.trans (same_new (o := .lst ((xs.take 2).map V.int)) hl9)
      have g9 : (upd H8 l9 (.lst ((xs.take 2).map V.int))) l9 = some (.lst ((xs.take 2).map V.int)) := upd_same
      have g89 := keep (o' := .lst ((xs.take 2).map V.int)) g8 hl9
      generalize upd H8 l9 (.lst ((xs.take 2).map V.int)) = H9 at e9 g9 g89
      generalize xs.take 2 = ys at tl g9 g89
      have sz : (ys.map V.int).length + (ys.map V.int).length ≤ sizeLine := Nat.le_of_lt (small1000 (by rw [List.length_map]; omega))
      walk_at "go"
      intro l10 hl10
      have e10 := e9.trans (same_new (o := .lst (ys.map V.int ++ ys.map V.int)) hl10)
      walk_at "go"
      refine ⟨ys ++ ys, l10, _, rfl, by rw [List.length_append]; omega, B6.back s6 (e9.free hl10), B6.trans (fun a o _ h => e10 a o h), Src.same e10 s6, by rw [upd_same, List.map_append]⟩
    walk_at "go"
    refine w_iteD (fun c => ?_) (fun c4 => ?_)
    · walk_at "go"
      refine w_iteD (fun c2 => ?_) (fun c2 => ?_)
      · rw [List.length_map] at c2
        walk_at "go"
        refine w_setL g6 (ixz (by omega)) ?_
        exact set1 far (by omega)
      · walk_at "go"
        exact keep1
    walk_at "go"
    refine w_iteD (fun c => ?_) (fun c4 => ?_)
    · walk_at "go"
      refine w_iteD (fun c2 => ?_) (fun c2 => ?_)
      · rw [List.length_map] at c2
        walk_at "go"
        refine w_setL g6 (ixz (by omega)) ?_
        exact set1 far (by omega)
      · walk_at "go"
        exact keep1
    · walk_at "go"
      exact keep1
  · rintro σ H7 ⟨cs, lt, k9, rfl, cl, ltH, B7, s7, g7⟩
    walk_at "go"
    refine w_cut (fun σ H' => ∃ p : Int, σ = [some (.ref s), some (.int n), some (.ref pq), some (.int p), some (.int sty), some (.ref lt), none, some (.int far), some (.int z), k9] ∧ But s H H' ∧ Src H' s ∧ H' lt = some (.lst (cs.map V.int))) ?_ ?_
    · walk_at "go"
      have out : sp_law_outside K A [.ref s, .int n] H7 (fun v H' => ∃ p : Int, [some (V.ref s), some (.int n), some (.ref pq), some v, some (.int sty), some (.ref lt), none, some (.int far), some (.int z), k9] = [some (.ref s), some (.int n), some (.ref pq), some (.int p), some (.int sty), some (.ref lt), none, some (.int far), some (.int z), k9] ∧ But s H H' ∧ Src H' s ∧ H' lt = some (.lst (cs.map V.int))) E0 :=
        ⟨s, n, rfl, s7, n0, n1, fun z H8 _ b8 s8 => ⟨z, rfl, B7.trans b8, s8, b8.at (hs.neFree ltH) g7⟩⟩
      refine w_iteD (fun c => ?_) (fun c => ?_)
      · walk_at "go"
        exact out
      walk_at "go"
      refine w_iteD (fun c => ?_) (fun c => ?_)
      · walk_at "go"
        exact out
      walk_at "go"
      exact ⟨p, rfl, B7, s7, g7⟩
    · rintro σ H8 ⟨p, rfl, B8, s8, g8⟩
      walk_at "go"
      intro l hl
      have nl : lt ≠ l := ne_of_none g8 hl
      exact q p cs lt l _ cl ltH (B8.back s8 hl) (B8.new hl) (s8.new hl) upd_same (keep g8 hl)
end G

namespace G
open PySem L2 GX
/-- all that stood in H0 stands; the source at s came behind it -/
structure Fix (s : Addr) (H0 H : Hp) : Prop where
  no : H0 s = none
  all : Same H0 H
theorem Fix.but {s : Addr} {H0 H H' : Hp} (f : Fix s H0 H) (b : But s H H') : Fix s H0 H' := ⟨f.no, fun a o e => b a o (ne_of_none e f.no) (f.all a o e)⟩
theorem Fix.same {s : Addr} {H0 H H' : Hp} (f : Fix s H0 H) (e : Same H H') : Fix s H0 H' := ⟨f.no, f.all.trans e⟩
theorem Fix.free {s p : Addr} {H0 H : Hp} (f : Fix s H0 H) (h : H p = none) : H0 p = none := Same.free f.all h
theorem Fix.mut {s p : Addr} {o : HO} {H0 H : Hp} (f : Fix s H0 H) (h : H0 p = none) : Fix s H0 (upd H p o) := ⟨f.no, same_mut f.all h⟩
def sp_law_spoilt (K : PySem.W.Frag) (A : CA) : Sp := fun vs H Q _ => ∃ (s pb : Addr) (n L : Int) (bs : List Int), vs = [.ref s, .int n, .int L, .ref pb] ∧ Src H s ∧ H pb = some (.lst (bs.map V.int)) ∧ pb ≠ s ∧ BK L n.toNat bs ∧ 1 ≤ n ∧ n ≤ 200 ∧ 0 ≤ L ∧ L ≤ 60 ∧
  ∀ (ws : List Int) (l : Addr) (H' : Hp), ¬ BK L n.toNat ws → ws.length ≤ 300 → H l = none → But s H H' → Src H' s → H' l = some (.lst (ws.map V.int)) → Q (.ref l) H'
theorem at4d {a b c d : V} {r : Int} (h0 : 0 ≤ r) (h1 : r < 4) : ∃ v, atI [a, b, c, d] r = some v ∧ (v = a ∨ v = b ∨ v = c ∨ v = d) := by
  have hr : r = 0 ∨ r = 1 ∨ r = 2 ∨ r = 3 := by omega
  rcases hr with rfl | rfl | rfl | rfl
  · exact ⟨a, rfl, .inl rfl⟩
  · exact ⟨b, rfl, .inr (.inl rfl)⟩
  · exact ⟨c, rfl, .inr (.inr (.inl rfl))⟩
  · exact ⟨d, rfl, .inr (.inr (.inr rfl))⟩
def t_law_spoilt (K : PySem.W.Frag) (A : CA) : TS :=
  (tSeq (tAsg (tCB (oListOf K) (tCons (tVar 3) tNil)) (gName 4))
  (tSeq (tFor (iRng1 (tCons (tOp oAdd (tC (.int 1)) (tCall (sp_law_draw K A) [] E0 (tCons (tVar 0) (tCons (tC (.int 2)) tNil)))) tNil)) (gName 5)
  (tSeq (tAsg (tCall (sp_law_draw K A) [] E0 (tCons (tVar 0) (tCons (tVar 1) tNil))) (gName 6))
  (tSeq (tAsg (tCall (sp_law_draw K A) [] E0 (tCons (tVar 0) (tCons (tC (.int 9)) tNil))) (gName 7))
  (tAsg (tOp (rIxL K) (tLst (tCons (tUn oNeg (tC (.int 1))) (tCons (tOp oAdd (tVar 2) (tC (.int 1))) (tCons (tOp oSub (tUn oNeg (tC (.int 2))) (tVar 7)) (tCons (tOp oAdd (tOp oAdd (tVar 2) (tC (.int 2))) (tVar 7)) tNil))))) (tCall (sp_law_draw K A) [] E0 (tCons (tVar 0) (tCons (tC (.int 4)) tNil)))) (gSub (tVar 4) (tVar 6) rSetL)))))
  (tSeq (tAsg (tCall (sp_law_draw K A) [] E0 (tCons (tVar 0) (tCons (tC (.int 6)) tNil))) (gName 8))
  (tSeq (tIfS (tTest (tOp rEq (tVar 8) (tC (.int 0)))) (tRet (tSl (rSlL K) (tVar 4) tNoPart (tPart (tOp oSub (tCB (rLenQ K) (tCons (tVar 4) tNil)) (tC (.int 1)))))) tNext)
  (tSeq (tIfS (tTest (tOp rEq (tVar 8) (tC (.int 1)))) (tRet (tOp rCat (tVar 4) (tLst (tCons (tCall (sp_law_draw K A) [] E0 (tCons (tVar 0) (tCons (tOp oAdd (tVar 2) (tC (.int 1))) tNil))) tNil)))) tNext)
  (tSeq (tIfS (tTest (tOp rEq (tVar 8) (tC (.int 2)))) (tRet (tOp rCat (tCB (oListOf K) (tCons (tVar 3) tNil)) (tLst (tCons (tVar 2) tNil)))) tNext)
  (tRet (tVar 4))))))))

theorem rd_law_spoilt {K : PySem.W.Frag} {A : CA} {vs : List V} {H : Hp} {Q : VK} {E : XK} (h : sp_law_spoilt K A vs H Q E) :
    t_law_spoilt K A { nx := fun _ H' => Q .non H', rt := Q } (start ["box", "pages", "lines", "blank", "wrong", "turn", "at", "far", "kind"] vs) H := by
  obtain ⟨s, pb, n, L, bs, rfl, hs, hb, nbs, hB, n0, n1, L0, L1, q⟩ := h
  have bl := hB.len
  unfold t_law_spoilt
  walk_at "go"
  intro wr hwr
  have nw : wr ≠ s := hs.neFree hwr
  have b1 : But s H (upd H wr (.lst (bs.map V.int))) := But.refl.new hwr
  have s1 := Src.new (o := .lst (bs.map V.int)) hs hwr
  have g1 : (upd H wr (.lst (bs.map V.int))) wr = some (.lst (bs.map V.int)) := upd_same
  have wrH := hwr
  generalize upd H wr (.lst (bs.map V.int)) = H1 at b1 s1 g1
  walk_at "go"
  intro r H2 r0 r1 b2 s2
  have g2 := b2.at nw g1
  have B2 := b1.trans b2
  walk_at "go"
  refine forR (fun i σ H' => ∃ (k5 k6 k7 : Option V) (ws : List Int), σ = [some (.ref s), some (.int n), some (.int L), some (.ref pb), some (.ref wr), k5, k6, k7, none] ∧ ws.length = n.toNat ∧ (i = 0 ∨ ∃ w ∈ ws, w < 0 ∨ L < w) ∧ But s H H' ∧ Src H' s ∧ H' wr = some (.lst (ws.map V.int))) ?_ ?_ ?_
  · exact ⟨none, none, none, bs, rfl, bl, .inl rfl, B2, s2, g2⟩
  · rintro i σ H3 hi ⟨k5, k6, k7, ws, rfl, wl, -, b3, s3, g3⟩
    walk_at "go"
    intro at_ H4 a0 a1 b4 s4
    have al : at_.toNat < ws.length ∧ at_ = (at_.toNat : Int) := ⟨by rw [wl]; omega, by omega⟩
    walk_at "go"
    intro far H5 f0 f1 b5 s5
    have g5 := b5.at nw (b4.at nw g3)
    have B5 := (b3.trans b4).trans b5
    walk_at "go"
    intro l6 hl6
    have n6 : l6 ≠ s := s5.neFree hl6
    have n6w : l6 ≠ wr := (ne_of_none g5 hl6).symm
    generalize hxs : [V.int (-1), V.int (L + 1), V.int (-2 - far), V.int (L + 2 + far)] = xs
    have B6 := B5.new (o := .lst xs) hl6
    have s6 := Src.new (o := .lst xs) s5 hl6
    have g6 : (upd H5 l6 (.lst xs)) l6 = some (.lst xs) := upd_same
    have gw6 := keep (o' := .lst xs) g5 hl6
    generalize upd H5 l6 (.lst xs) = H6 at B6 s6 g6 gw6
    walk_at "go"
    intro z H7 z0 z1 b7 s7
    have g7 := b7.at n6 g6
    have gw7 := b7.at nw gw6
    obtain ⟨v, ev, hv⟩ := at4d (a := V.int (-1)) (b := V.int (L + 1)) (c := V.int (-2 - far)) (d := V.int (L + 2 + far)) z0 z1
    rw [hxs] at ev
    obtain ⟨y, rfl, hy⟩ : ∃ y : Int, v = .int y ∧ (y < 0 ∨ L < y) := by
      rcases hv with rfl | rfl | rfl | rfl
      · exact ⟨_, rfl, by omega⟩
      · exact ⟨_, rfl, by omega⟩
      · exact ⟨_, rfl, by omega⟩
      · exact ⟨_, rfl, by omega⟩
    walk_at "go"
    refine w_setL gw7 (ixn (j := at_.toNat) al.2 (by rw [List.length_map]; exact al.1)) ?_
    exact ⟨_, _, _, ws.set at_.toNat y, rfl, by rw [List.length_set]; exact wl, .inr ⟨y, List.mem_iff_getElem?.mpr ⟨at_.toNat, by rw [List.getElem?_set_self al.1]⟩, hy⟩, (B6.trans b7).mut wrH, s7.mut nw, by rw [upd_same, List.map_set]⟩
  · rintro σ H3 ⟨k5, k6, k7, ws, rfl, wl, hbad, b3, s3, g3⟩
    have bad : ∃ w ∈ ws, w < 0 ∨ L < w := by
      rcases hbad with c | c
      · omega
      · exact c
    walk_at "go"
    intro kd H4 k0 k1 b4 s4
    have g4 := b4.at nw g3
    have hb4 := b4.at nbs (b3.at nbs hb)
    have B4 := b3.trans b4
    walk_at "go"
    refine w_iteD (fun c => ?_) (fun c0 => ?_)
    · walk_at "go"
      intro l hl
      rw [List.length_map, show (ws.length : Int) - 1 = ((ws.length - 1 : Nat) : Int) by omega, cut_mapTo]
      have lt : (ws.take (ws.length - 1)).length = ws.length - 1 := by rw [List.length_take]; omega
      exact q (ws.take (ws.length - 1)) l _ (fun c => by have := c.len; omega) (by omega) (B4.back s4 hl) (B4.new hl) (s4.new hl) upd_same
    walk_at "go"
    refine w_iteD (fun c => ?_) (fun c1 => ?_)
    · walk_at "go"
      intro y H5 y0 y1 b5 s5
      have g5 := b5.at nw g4
      have B5 := B4.trans b5
      walk_at "go"
      intro l6 hl6
      have B6 := B5.new (o := .lst [V.int y]) hl6
      have s6 := Src.new (o := .lst [V.int y]) s5 hl6
      have g6 : (upd H5 l6 (.lst [V.int y])) l6 = some (.lst [V.int y]) := upd_same
      have g56 := keep (o' := .lst [V.int y]) g5 hl6
      generalize upd H5 l6 (.lst [V.int y]) = H6 at B6 s6 g6 g56
      have sz : (ws.map V.int).length + [V.int y].length ≤ sizeLine := Nat.le_of_lt (small1000 (by rw [List.length_map, List.length_singleton]; omega))
      walk_at "go"
      intro l hl
      exact q (ws ++ [y]) l _ (fun c => by have := c.len; rw [List.length_append, List.length_singleton] at this; omega) (by rw [List.length_append, List.length_singleton]; omega) (B6.back s6 hl) (B6.new hl) (s6.new hl) (by rw [upd_same, List.map_append]; rfl)
    walk_at "go"
    refine w_iteD (fun c => ?_) (fun c2 => ?_)
    · walk_at "go"
      intro l5 hl5
      have B5 := B4.new (o := .lst (bs.map V.int)) hl5
      have s5 := Src.new (o := .lst (bs.map V.int)) s4 hl5
      have g5 : (upd H4 l5 (.lst (bs.map V.int))) l5 = some (.lst (bs.map V.int)) := upd_same
      generalize upd H4 l5 (.lst (bs.map V.int)) = H5 at B5 s5 g5
      walk_at "go"
      intro l6 hl6
      have B6 := B5.new (o := .lst [V.int L]) hl6
      have s6 := Src.new (o := .lst [V.int L]) s5 hl6
      have g6 : (upd H5 l6 (.lst [V.int L])) l6 = some (.lst [V.int L]) := upd_same
      have g56 := keep (o' := .lst [V.int L]) g5 hl6
      generalize upd H5 l6 (.lst [V.int L]) = H6 at B6 s6 g6 g56
      have sz : (bs.map V.int).length + [V.int L].length ≤ sizeLine := Nat.le_of_lt (small1000 (by rw [List.length_map, List.length_singleton]; omega))
      walk_at "go"
      intro l hl
      exact q (bs ++ [L]) l _ (fun c => by have := c.len; rw [List.length_append, List.length_singleton] at this; omega) (by rw [List.length_append, List.length_singleton]; omega) (B6.back s6 hl) (B6.new hl) (s6.new hl) (by rw [upd_same, List.map_append]; rfl)
    · walk_at "go"
      exact q ws wr H4 (fun c => by obtain ⟨w, hw, z⟩ := bad; have := c.bd w hw; omega) (by omega) wrH B4 s4 g4
theorem wrong_bad {n L : Int} {ws : List Int} (h : ¬ BK L n.toNat ws) (hl : ws.length = n.toNat) : ∃ k : Nat, badK L ws k := by
  have ex : ∃ k : Nat, ∃ b, ws[k]? = some b ∧ (b < 0 ∨ L < b) := by
    refine Classical.byContradiction fun c => h ⟨hl, fun b hb => ?_⟩
    obtain ⟨j, hj⟩ := List.getElem?_of_mem hb
    refine ⟨Int.not_lt.mp fun z => c ⟨j, b, hj, .inl z⟩, Int.not_lt.mp fun z => c ⟨j, b, hj, .inr z⟩⟩
  obtain ⟨k, hk, hmin⟩ : ∃ k : Nat, (∃ b, ws[k]? = some b ∧ (b < 0 ∨ L < b)) ∧ ∀ j, j < k → ¬ ∃ b, ws[j]? = some b ∧ (b < 0 ∨ L < b) := by
    obtain ⟨k0, h0⟩ := ex
    induction k0 using Nat.strongRecOn with
    | _ k0 ih =>
      by_cases c : ∃ j, j < k0 ∧ ∃ b, ws[j]? = some b ∧ (b < 0 ∨ L < b)
      · obtain ⟨j, hj, hb⟩ := c
        exact ih j hj hb
      · exact ⟨k0, h0, fun j hj hb => c ⟨j, hj, hb⟩⟩
  obtain ⟨b, hb, cb⟩ := hk
  refine ⟨k, b, hb, cb, fun j c hj hc => ⟨Int.not_lt.mp fun z => hmin j hj ⟨c, hc, .inl z⟩, Int.not_lt.mp fun z => hmin j hj ⟨c, hc, .inr z⟩⟩⟩
/-- the places of the wrong numbers among the first i -/
def badL (L : Int) (ws : List Int) (i : Nat) : List Int := (List.range i).filterMap fun k : Nat => match ws[k]? with | some b => if b < 0 ∨ L < b then some (k : Int) else none | none => none
theorem badL_succ {L : Int} {ws : List Int} {i : Nat} : badL L ws (i + 1) = badL L ws i ++ (match ws[i]? with | some b => if b < 0 ∨ L < b then [(i : Int)] else [] | none => []) := by
  unfold badL
  rw [List.range_succ, List.filterMap_append]
  congr 1
  rw [List.filterMap_cons, List.filterMap_nil]
  cases ws[i]? with
  | none => rfl
  | some b =>
    by_cases c : b < 0 ∨ L < b
    · simp only [if_pos c]
    · simp only [if_neg c]
theorem badL_le {L : Int} {ws : List Int} {i : Nat} : (badL L ws i).length ≤ i := by
  unfold badL
  refine Nat.le_trans (List.length_filterMap_le _ _) ?_
  rw [List.length_range]; exact Nat.le_refl _
theorem badL_head {L : Int} {ws : List Int} {k : Nat} (h : badK L ws k) : ∀ m, k < m → ∃ r, badL L ws m = (k : Int) :: r := by
  obtain ⟨b, hb, cb, fb⟩ := h
  have z : ∀ i, i ≤ k → badL L ws i = [] := by
    intro i
    induction i with
    | zero => intro _; rfl
    | succ i ih =>
      intro hi
      rw [badL_succ, ih (by omega)]
      cases e : ws[i]? with
      | none => rfl
      | some c =>
        have := fb i c (by omega) e
        simp only [List.nil_append]
        rw [if_neg (by omega)]
  intro m
  induction m with
  | zero => intro h; omega
  | succ m ih =>
    intro hm
    rw [badL_succ]
    by_cases c : k = m
    · subst c
      rw [z k (Nat.le_refl _), hb]
      simp only [List.nil_append]
      rw [if_pos cb]
      exact ⟨[], rfl⟩
    · obtain ⟨r, e⟩ := ih (by omega)
      rw [e]
      exact ⟨_, rfl⟩
def sp_law_wrong_list (K : PySem.W.Frag) (A : CA) : Sp := fun vs H Q _ => ∃ (H0 : Hp) (s w pb : Addr) (n L : Int) (rs : List (Int × Int)) (bs : List Int), vs = [.ref s, .ref w, .int n, .int L, .ref pb] ∧ Src H s ∧ Fix s H0 H ∧ WebX A H0 w n rs ∧ H0 pb = some (.lst (bs.map V.int)) ∧ BK L n.toNat bs ∧ 1 ≤ n ∧ n ≤ 200 ∧ 0 ≤ L ∧ L ≤ 60 ∧
  ∀ H', Src H' s → Fix s H0 H' → Q (.bl true) H'
def t_law_wrong_list (K : PySem.W.Frag) (A : CA) : TS :=
  (tSeq (tAsg (tCall (sp_law_spoilt K A) [] E0 (tCons (tVar 0) (tCons (tVar 2) (tCons (tVar 3) (tCons (tVar 4) tNil))))) (gName 5))
  (tSeq (tAsg (tCB (oListOf K) (tCons (tVar 5) tNil)) (gName 6))
  (tSeq (tAsg (tCall (sp_law_invalid K A) [] E0 (tCons (tVar 1) (tCons (tVar 3) (tCons (tVar 6) tNil)))) (gName 7))
  (tSeq (tIfS (tOr (tTest (tOp rNe (tCB (rLenQ K) (tCons (tVar 7) tNil)) (tC (.int 1)))) (tNot (tB (tCall (sp_law_pages K A) [] E0 (tCons (tVar 6) (tCons (tVar 5) tNil)))))) (tRet (tC (.bl false))) tNext)
  (tSeq (tIfS (tTest (tOp rNe (tCB (rLenQ K) (tCons (tVar 5) tNil)) (tVar 2))) (tRet (tIsN (tOp (rIxL K) (tVar 7) (tC (.int 0))))) tNext)
  (tSeq (tAsg (tLc (iRng1 (tCons (tVar 2) tNil)) (gName 9) (tOr (tTest (tOp oLt (tOp (rIxL K) (tVar 5) (tVar 9)) (tC (.int 0)))) (tTest (tOp oGt (tOp (rIxL K) (tVar 5) (tVar 9)) (tVar 3)))) (tVar 9) [9]) (gName 8))
  (tRet (tCall (sp_law_whole K A) [] E0 (tCons (tOp (rIxL K) (tVar 7) (tC (.int 0))) (tCons (tOp (rIxL K) (tVar 8) (tC (.int 0))) tNil))))))))))

theorem rd_law_wrong_list {K : PySem.W.Frag} {A : CA} {vs : List V} {H : Hp} {Q : VK} {E : XK} (h : sp_law_wrong_list K A vs H Q E) :
    t_law_wrong_list K A { nx := fun _ H' => Q .non H', rt := Q } (start ["box", "web", "pages", "lines", "blank", "wrong", "passed", "told", "first", "page"] vs) H := by
  obtain ⟨H0, s, w, pb, n, L, rs, bs, rfl, hs, f0, hW, hb, hB, n0, n1, L0, L1, q⟩ := h
  unfold t_law_wrong_list
  walk_at "go"
  refine ⟨s, pb, n, L, bs, rfl, hs, f0.all _ _ hb, ne_of_none hb f0.no, hB, n0, n1, L0, L1, fun ws l H1 hbad wl hl b1 s1 g1 => ?_⟩
  have f1 := f0.but b1
  walk_at "go"
  intro l2 hl2
  have e2 := same_new (o := .lst (ws.map V.int)) hl2
  have f2 := f1.same e2
  have s2 := Src.same e2 s1
  have g2 : (upd H1 l2 (.lst (ws.map V.int))) l2 = some (.lst (ws.map V.int)) := upd_same
  have g12 := e2 _ _ g1
  generalize upd H1 l2 (.lst (ws.map V.int)) = H2 at e2 f2 s2 g2 g12
  obtain ⟨v, hv⟩ : ∃ v, WrongV n L ws v := by
    by_cases c : ws.length = n.toNat
    · obtain ⟨k, hk⟩ := wrong_bad hbad c
      exact ⟨_, .inr ⟨c, k, hk, rfl⟩⟩
    · exact ⟨_, .inl ⟨c, rfl⟩⟩
  walk_at "go"
  refine ⟨w, l2, n, L, rs, ws, v, rfl, hW.same f2.all, n0, by omega, g2, by omega, hv, fun t3 H3 ht3 e3 g3 => ?_⟩
  have f3 := f2.same e3
  have s3 := Src.same e3 s2
  have g23 := e3 _ _ g2
  have g13 := e3 _ _ g12
  clear e2 f2 s2 g2 g12 e3 ht3 f1 g1 b1
  walk_at "go"
  refine w_iteN (fun c => absurd rfl c) (fun _ => ?_)
  walk_at "go"
  refine i_pages (xs := ws) g23 g13 (by omega) ?_
  refine ⟨true, rfl, w_iteNT ?_⟩
  walk_at "go"
  rw [List.length_map]
  rcases hv with ⟨c, rfl⟩ | ⟨c, k, hk, rfl⟩
  · refine w_iteN (fun _ => ?_) (fun z => absurd z (by omega))
    walk_at "go"
    refine w_isNr ?_
    walk_at "go"
    exact q H3 s3 f3
  · refine w_iteN (fun z => absurd (show (ws.length : Int) = n by omega) z) (fun _ => ?_)
    walk_at "go"
    refine lcR (fun Dl i H' => Same H3 H' ∧ H' Dl = some (.lst ((badL L ws i).map V.int))) (fun Dl hD => ⟨same_new hD, upd_same⟩) ?_ ?_
    · rintro Dl i H4 hD hi ⟨e4, g4⟩
      obtain ⟨b, hb⟩ : ∃ b, ws[i]? = some b := ⟨_, List.getElem?_eq_getElem (by omega)⟩
      have ba : atI (ws.map V.int) (0 + (i : Int)) = some (V.int b) := at_of (j := i) (by omega) (by rw [List.getElem?_map, hb]; rfl)
      have g14 := e4 _ _ g13
      have sl : ((badL L ws i).map V.int).length < sizeLine := small1000 (by rw [List.length_map]; have := badL_le (L := L) (ws := ws) (i := i); omega)
      have yes : (b < 0 ∨ L < b) → Same H3 (upd H4 Dl (.lst ((badL L ws i).map V.int ++ [V.int (0 + (i : Int))]))) ∧ (upd H4 Dl (.lst ((badL L ws i).map V.int ++ [V.int (0 + (i : Int))]))) Dl = some (.lst ((badL L ws (i + 1)).map V.int)) := fun c => ⟨same_mut e4 hD, by
        rw [badL_succ, hb]
        simp only [if_pos c]
        rw [upd_same, List.map_append, Int.zero_add]; rfl⟩
      walk_at "go"
      refine w_iteD (fun c => ?_) (fun c => ?_)
      · walk_at "go"
        exact yes (.inl c)
      walk_at "go"
      refine w_iteD (fun c2 => ?_) (fun c2 => ?_)
      · walk_at "go"
        exact yes (.inr (by omega))
      · walk_at "go"
        refine ⟨e4, ?_⟩
        rw [badL_succ, hb]
        simp only [if_neg (show ¬ (b < 0 ∨ L < b) by omega)]
        rw [List.append_nil]
        exact g4
    rintro Dl H4 hD ⟨e4, g4⟩
    obtain ⟨rr, er⟩ := badL_head hk n.toNat (by obtain ⟨b, hb, _⟩ := hk; have := (List.getElem?_eq_some_iff.mp hb).1; omega)
    rw [er] at g4
    have g34 := e4 _ _ g3
    have f4 := f3.same e4
    have s4 := Src.same e4 s3
    walk_at "go"
    exact q H4 s4 f4
end G

namespace G
open PySem L2 GX
def ovN (m : Nat) (bs : List Int) (f : Int → Int) : List Nat := (List.range m).filter fun k : Nat => decide (bs.getD k 0 < f k)
theorem over_head {m : Nat} {bs : List Int} {f : Int → Int} {k : Nat} {r : List Nat} (h : ovN m bs f = k :: r) : k < m ∧ bs.getD k 0 < f k ∧ ∀ j, j < k → f j ≤ bs.getD j 0 := by
  have e : ((List.range m).filter fun k : Nat => decide (bs.getD k 0 < f k)).head? = some k := by
    have : ovN m bs f = _ := h
    unfold ovN at this
    rw [this]; rfl
  rw [List.head?_filter, List.find?_range_eq_some] at e
  obtain ⟨a, b, c⟩ := e
  refine ⟨List.mem_range.mp b, of_decide_eq_true a, fun j hj => ?_⟩
  have := c j hj
  simp at this
  exact this
theorem over_nil {n : Int} {bs : List Int} {f : Int → Int} (h : ovN n.toNat bs f = []) : Fits n bs f := fun k k0 k1 => by
  have := List.filter_eq_nil_iff.mp h k.toNat (List.mem_range.mpr (by omega))
  have e : ((k.toNat : Nat) : Int) = k := by omega
  rw [decide_eq_true_iff, e] at this
  omega
theorem ovN_succ {i : Nat} {bs : List Int} {f : Int → Int} : ovN (i + 1) bs f = ovN i bs f ++ if bs.getD i 0 < f i then [i] else [] := by
  unfold ovN
  rw [List.range_succ, List.filter_append, List.filter_cons, List.filter_nil]
  by_cases c : bs.getD i 0 < f i
  · rw [if_pos (decide_eq_true c), if_pos c]
  · rw [if_neg (by simpa using c), if_neg c]
theorem ovN_le {i : Nat} {bs : List Int} {f : Int → Int} : (ovN i bs f).length ≤ i := by
  unfold ovN
  refine Nat.le_trans (List.length_filter_le _ _) ?_
  rw [List.length_range]; exact Nat.le_refl _
theorem ref_over {n p : Int} {rs rows : List (Int × Int)} {bs cs : List Int} {k : Nat} {r : List Nat} (hp : rs.Perm rows) (hz : (p :: cs).find? (isOut n) = none) (h : ovN n.toNat bs (uses rows p cs) = k :: r) : RefR n rs bs p cs [1, (k : Int)] := by
  obtain ⟨a, b, c⟩ := over_head h
  refine .inr (.inl ⟨hz, k, by omega, by omega, by rw [uses_perm hp, Int.toNat_natCast]; exact b, fun y y0 y1 => ?_, rfl⟩)
  have := c y.toNat (by omega)
  rw [show ((y.toNat : Nat) : Int) = y by omega] at this
  rw [uses_perm hp]; exact this
theorem ref_ex (n : Int) (rs : List (Int × Int)) (bs : List Int) (p : Int) (cs : List Int) : ∃ R, RefR n rs bs p cs R := by
  cases hz : (p :: cs).find? (isOut n) with
  | some z => exact ⟨_, .inl ⟨z, hz, rfl⟩⟩
  | none =>
    cases h : ovN n.toNat bs (uses rs p cs) with
    | nil => exact ⟨_, .inr (.inr ⟨hz, over_nil h, rfl⟩)⟩
    | cons k r => exact ⟨_, ref_over (List.Perm.refl rs) hz h⟩
def sp_law_update (K : PySem.W.Frag) (A : CA) : Sp := fun vs H Q _ => ∃ (H0 : Hp) (s st w pq pb : Addr) (n L : Int) (us : List V) (rows rs : List (Int × Int)) (bs : List Int), vs = [.ref s, .ref st, .ref w, .int n, .ref pq, .int L, .ref pb] ∧ Src H s ∧ Fix s H0 H ∧ StAt A H0 st w n rs L bs ∧ RG n rs ∧ RG n rows ∧ rs.Perm rows ∧ BK L n.toNat bs ∧
  H0 pq = some (.lst us) ∧ Paired (PR H0) us rows ∧ us.length ≤ 400 ∧ H0 pb = some (.lst (bs.map V.int)) ∧ 1 ≤ n ∧ n ≤ 200 ∧ 0 ≤ L ∧ L ≤ 60 ∧ ∀ H', Fix s H0 H' → Q (.bl true) H'
def t_law_update (K : PySem.W.Frag) (A : CA) : TS :=
  (tSeq (tAsg (tCall (sp_law_drawn_update K A) [] E0 (tCons (tVar 0) (tCons (tVar 3) (tCons (tVar 4) tNil)))) (gName 7))
  (tSeq (tAsg (tOp (rIxL K) (tVar 7) (tC (.int 0))) (gName 8))
  (tSeq (tAsg (tOp (rIxL K) (tVar 7) (tC (.int 1))) (gName 9))
  (tSeq (tAsg (tLc (iList K (tOp rCat (tLst (tCons (tVar 8) tNil)) (tVar 9))) (gName 11) (tOr (tTest (tOp oLt (tVar 11) (tC (.int 0)))) (tTest (tOp oGe (tVar 11) (tVar 3)))) (tVar 11) [11]) (gName 10))
  (tSeq (tIfS (tTest (tOp (rNeD K) (tVar 10) (tLst tNil))) (tRet (tCall (sp_law_pages K A) [] E0 (tCons (tCall (sp_law_refused K A) [] E0 (tCons (tVar 1) (tCons (tVar 8) (tCons (tVar 9) tNil)))) (tCons (tLst (tCons (tC (.int 0)) (tCons (tOp (rIxL K) (tVar 10) (tC (.int 0))) tNil))) tNil)))) tNext)
  (tSeq (tAsg (tCall (sp_law_uses K A) [] E0 (tCons (tVar 3) (tCons (tVar 4) (tCons (tVar 8) (tCons (tVar 9) tNil))))) (gName 12))
  (tSeq (tAsg (tLc (iRng1 (tCons (tVar 3) tNil)) (gName 11) (tTest (tOp oGt (tOp (rIxL K) (tVar 12) (tVar 11)) (tOp (rIxL K) (tVar 6) (tVar 11)))) (tVar 11) [11]) (gName 13))
  (tSeq (tIfS (tTest (tOp (rNeD K) (tVar 13) (tLst tNil))) (tRet (tCall (sp_law_pages K A) [] E0 (tCons (tCall (sp_law_refused K A) [] E0 (tCons (tVar 1) (tCons (tVar 8) (tCons (tVar 9) tNil)))) (tCons (tLst (tCons (tC (.int 1)) (tCons (tOp (rIxL K) (tVar 13) (tC (.int 0))) tNil))) tNil)))) tNext)
  (tSeq (tAsg (tLc (iRng1 (tCons (tVar 3) tNil)) (gName 11) tYes (tOp oSub (tOp (rIxL K) (tVar 6) (tVar 11)) (tOp (rIxL K) (tVar 12) (tVar 11))) [11]) (gName 14))
  (tSeq (tFor (iList K (tVar 9)) (gName 11)
  (tAsg (tVar 5) (gSub (tVar 14) (tVar 11) rSetL)))
  (tSeq (tAsg (tCall (sp_law_called K A) [] E0 (tCons (tVar 1) (tCons (tVar 8) (tCons (tVar 9) tNil)))) (gName 15))
  (tSeq (tIfS (tOr (tNot (tB (tCall (sp_law_fits K A) [] E0 (tCons (tVar 15) (tCons (tVar 2) (tCons (tVar 5) (tCons (tVar 14) tNil))))))) (tTest (tOp (rNeD K) (tCall (sp_law_refused K A) [] E0 (tCons (tVar 1) (tCons (tVar 8) (tCons (tVar 9) tNil)))) (tLst tNil)))) (tRet (tC (.bl false))) tNext)
  (tSeq (tAsg (tMeth A.Standing "blanks" (sp_Standing_blanks K A) [] E0 (tVar 15) tNil) (gName 16))
  (tSeq (tDrop (tBM0 K "list" rReverse (tVar 16)))
  (tSeq (tDrop (tBM K "list" rAppend (tVar 16) (tCons (tVar 5) tNil)))
  (tSeq (tDrop (tCall (sp_law_refused K A) [] E0 (tCons (tVar 15) (tCons (tVar 8) (tCons (tLst (tCons (tVar 8) tNil)) tNil)))))
  (tRet (tCall (sp_law_pages K A) [] E0 (tCons (tMeth A.Standing "blanks" (sp_Standing_blanks K A) [] E0 (tVar 15) tNil) (tCons (tVar 14) tNil))))))))))))))))))))

theorem rd_law_update {K : PySem.W.Frag} {A : CA} {vs : List V} {H : Hp} {Q : VK} {E : XK} (h : sp_law_update K A vs H Q E) :
    t_law_update K A { nx := fun _ H' => Q .non H', rt := Q } (start ["box", "standing", "web", "pages", "rows", "lines", "blank", "update", "page", "copied", "outside", "one", "uses", "short", "due", "made", "told"] vs) H := by
  obtain ⟨H0, s, st, w, pq, pb, n, L, us, rows, rs, bs, rfl, hs, f0, hS, hRs, hR, hp, hB, hq, hP, hul, hb, n0, n1, L0, L1, q⟩ := h
  have bl := hB.len
  unfold t_law_update
  walk_at "go"
  refine ⟨s, pq, n, us, rows, rfl, hs, f0.all _ _ hq, ne_of_none hq f0.no, PRs.same f0.all hP, hul, n0, n1, fun p cs t l H1 cl ht hl b1 s1 g1 gt1 => ?_⟩
  have f1 := f0.but b1
  clear hs f0 ht hl b1 s1
  walk_at "go"
  intro l3 hl3
  have e3 := same_new (o := .lst [V.int p]) hl3
  have g3 : (upd H1 l3 (.lst [V.int p])) l3 = some (.lst [V.int p]) := upd_same
  have gt3 := e3 _ _ gt1
  have f3 := f1.same e3
  have szc : [V.int p].length + (cs.map V.int).length ≤ sizeLine := Nat.le_of_lt (small1000 (by rw [List.length_map, List.length_singleton]; omega))
  generalize upd H1 l3 (.lst [V.int p]) = H3 at e3 g3 gt3 f3
  walk_at "go"
  intro l4 hl4
  have e4 := same_new (o := .lst ([V.int p] ++ cs.map V.int)) hl4
  have g4 : (upd H3 l4 (.lst ([V.int p] ++ cs.map V.int))) l4 = some (.lst ((p :: cs).map V.int)) := upd_same
  have gt4 := e4 _ _ gt3
  have f4 := f3.same e4
  generalize upd H3 l4 (.lst ([V.int p] ++ cs.map V.int)) = H4 at e4 g4 gt4 f4
  clear e3 g3 gt3 f3 hl3 g1 gt1 f1 hl4
  walk_at "go"
  refine lcL (xs := (p :: cs).map V.int) (fun Dl i H' => Same H4 H' ∧ H' Dl = some (.lst ((((p :: cs).take i).filter (isOut n)).map V.int))) (fun Dl hD => ⟨same_new hD, upd_same⟩) (fun Dl i H' hD hi ⟨e, _⟩ => SqL.of (e _ _ g4)) ?_ ?_
  · rintro Dl i x H8 hD hx ⟨e, hL⟩
    obtain ⟨z, hz, rfl⟩ : ∃ z, (p :: cs)[i]? = some z ∧ x = V.int z := by
      rw [List.getElem?_map] at hx
      cases e : (p :: cs)[i]? with
      | none => rw [e] at hx; cases hx
      | some z => rw [e] at hx; exact ⟨z, rfl, (Option.some.inj hx).symm⟩
    have e2 : (p :: cs).take (i + 1) = (p :: cs).take i ++ [z] := by rw [List.take_succ, hz]; rfl
    have fl : ((((p :: cs).take i).filter (isOut n)).map V.int).length < sizeLine := small1000 (by
      rw [List.length_map]
      refine Nat.le_trans (List.length_filter_le _ _) ?_
      rw [List.length_take, List.length_cons]; omega)
    have yes : isOut n z = true → Same H4 (upd H8 Dl (.lst ((((p :: cs).take i).filter (isOut n)).map V.int ++ [V.int z]))) ∧ (upd H8 Dl (.lst ((((p :: cs).take i).filter (isOut n)).map V.int ++ [V.int z]))) Dl = some (.lst ((((p :: cs).take (i + 1)).filter (isOut n)).map V.int)) := fun o => ⟨same_mut e hD, by
      rw [e2, List.filter_append, List.map_append, List.filter_cons_of_pos o]; exact upd_same⟩
    walk_at "go"
    refine w_iteD (fun c => ?_) (fun c => ?_)
    · walk_at "go"
      exact yes (out_of (.inl c))
    · walk_at "go"
      refine w_iteD (fun c2 => ?_) (fun c2 => ?_)
      · walk_at "go"
        exact yes (out_of (.inr c2))
      · walk_at "go"
        refine ⟨e, ?_⟩
        have o : ¬ isOut n z = true := by rw [isOut_in (by omega) (by omega)]; decide
        rw [e2, List.filter_append, List.filter_cons_of_neg o, List.filter_nil, List.append_nil]; exact hL
  rintro po H5 hpo ⟨e5, g5⟩
  rw [List.length_map, List.take_length] at g5
  have gt5 := e5 _ _ gt4
  have f5 := f4.same e5
  clear e5 gt4 f4 g4 e4 hpo szc
  walk_at "go"
  intro lz hlz
  refine w_neI2 (ys := []) (SqL.of (keep g5 hlz)) (SqL.of upd_same) ?_
  have e6 := same_new (o := .lst []) hlz
  have g6 := e6 _ _ g5
  have gt6 := e6 _ _ gt5
  have f6 := f5.same e6
  generalize upd H5 lz (.lst []) = H6 at e6 g6 gt6 f6
  clear g5 gt5 f5 e6 hlz
  refine ⟨_, rfl, ?_⟩
  cases ho : (p :: cs).filter (isOut n) with
  | cons z r =>
    have hz : (p :: cs).find? (isOut n) = some z := by rw [← List.head?_filter, ho]; rfl
    rw [decide_eq_false (by simp)]
    rw [ho] at g6
    refine w_iteNF ?_
    walk_at "go"
    refine ⟨st, w, t, n, L, p, rs, bs, cs, _, rfl, hS.same f6.all, hRs, hB, n0, by omega, L0, gt6, cl, .inl ⟨z, hz, rfl⟩, fun q7 H7 hq7 e7 g7 => ?_⟩
    have g67 := e7 _ _ g6
    have f7 := f6.same e7
    walk_at "go"
    intro l8 hl8
    refine i_pages (K := K) (A := A) (E := E0) (xs := [0, z]) (keep g7 hl8) upd_same (by simp) ?_
    exact q _ (f7.same (same_new hl8))
  | nil =>
    have hz : (p :: cs).find? (isOut n) = none := by rw [← List.head?_filter, ho]; rfl
    have inn : ∀ z ∈ p :: cs, 0 ≤ z ∧ z < n := fun z hz2 => in_of (by simpa using List.find?_eq_none.mp hz z hz2)
    have pb_ := inn p List.mem_cons_self
    have cb : ∀ c ∈ cs, 0 ≤ c ∧ c < n := fun c hc => inn c (List.mem_cons_of_mem _ hc)
    rw [decide_eq_true rfl]
    refine w_iteNT ?_
    walk_at "go"
    refine ⟨pq, t, n, p, us, rows, cs, rfl, f6.all _ _ hq, PRs.same f6.all hP, hR, gt6, n0, n1, hul, pb_.1, pb_.2, fun lu H7 hlu e7 g7 => ?_⟩
    have gt7 := e7 _ _ gt6
    have f7 := f6.same e7
    clear e7 gt6 f6 g6 hlu
    walk_at "go"
    refine lcR (fun Dl i H' => Same H7 H' ∧ H' Dl = some (.lst ((ovN i bs (uses rows p cs)).map fun k : Nat => V.int (k : Nat)))) (fun Dl hD => ⟨same_new hD, upd_same⟩) ?_ ?_
    · rintro Dl i H8 hD hi ⟨e, g8⟩
      obtain ⟨b, b1, b2, _, _, _⟩ := hB.get (k := 0 + (i : Int)) (by omega) (by omega)
      have bd : bs.getD i 0 = b := by
        have e : (0 + (i : Int)).toNat = i := by omega
        rw [List.getD_eq_getElem?_getD, ← e, b1]; rfl
      have av : atI ((usesL n rows p cs).map V.int) (0 + (i : Int)) = some (V.int (uses rows p cs i)) := at_of (j := i) (by omega) (by
        unfold usesL
        simp [hi])
      have gb := e _ _ (f7.all _ _ hb)
      have gu := e _ _ g7
      have sl : ((ovN i bs (uses rows p cs)).map fun k : Nat => V.int (k : Nat)).length < sizeLine := small1000 (by rw [List.length_map]; have := ovN_le (i := i) (bs := bs) (f := uses rows p cs); omega)
      walk_at "go"
      refine w_iteD (fun c => ?_) (fun c => ?_)
      · walk_at "go"
        refine ⟨same_mut e hD, ?_⟩
        rw [ovN_succ, bd, if_pos (by omega), upd_same, List.map_append, Int.zero_add]; rfl
      · walk_at "go"
        refine ⟨e, ?_⟩
        rw [ovN_succ, bd, if_neg (by omega), List.append_nil]; exact g8
    rintro sh H8 hsh ⟨e8, g8⟩
    have gt8 := e8 _ _ gt7
    have gu8 := e8 _ _ g7
    have f8 := f7.same e8
    clear e8 gt7 g7 f7 hsh
    walk_at "go"
    intro lz2 hlz2
    have e9 := same_new (o := .lst []) hlz2
    have g9 := e9 _ _ g8
    have gt9 := e9 _ _ gt8
    have gu9 := e9 _ _ gu8
    have f9 := f8.same e9
    have gz9 : (upd H8 lz2 (.lst [])) lz2 = some (.lst (([] : List Int).map V.int)) := upd_same
    generalize upd H8 lz2 (.lst []) = H9 at e9 g9 gt9 gu9 f9 gz9
    clear g8 gt8 gu8 f8 e9 hlz2
    have g9' : H9 sh = some (.lst (((ovN n.toNat bs (uses rows p cs)).map fun k : Nat => (k : Int)).map V.int)) := by rw [g9, List.map_map]; rfl
    clear g9
    refine w_neI2 (SqL.of g9') (SqL.of gz9) ?_
    refine ⟨_, rfl, ?_⟩
    cases hov : ovN n.toNat bs (uses rows p cs) with
    | cons k r =>
      rw [decide_eq_false (by simp)]
      rw [hov] at g9'
      refine w_iteNF ?_
      walk_at "go"
      refine ⟨st, w, t, n, L, p, rs, bs, cs, _, rfl, hS.same f9.all, hRs, hB, n0, by omega, L0, gt9, cl, ref_over hp hz hov, fun q7 H10 hq7 e10 g10 => ?_⟩
      have gs10 := e10 _ _ g9'
      have f10 := f9.same e10
      walk_at "go"
      intro l11 hl11
      refine i_pages (K := K) (A := A) (E := E0) (xs := [1, (k : Int)]) (keep g10 hl11) upd_same (by simp) ?_
      exact q _ (f10.same (same_new hl11))
    | nil =>
      have hF : Fits n bs (uses rows p cs) := over_nil hov
      have hFs : Fits n bs (uses rs p cs) := by rw [uses_perm hp]; exact hF
      rw [decide_eq_true (by rfl)]
      refine w_iteNT ?_
      walk_at "go"
      refine lcR (fun Dl j H' => Same H9 H' ∧ H' Dl = some (.lst (((List.range j).map fun k : Nat => bs.getD k 0 - uses rows p cs k).map V.int))) (fun Dl hD => ⟨same_new hD, upd_same⟩) ?_ ?_
      · rintro Dl j H' hD hj ⟨e, gD⟩
        obtain ⟨b, b1, b2, _, _, _⟩ := hB.get (k := 0 + (j : Int)) (by omega) (by omega)
        have bd : bs.getD j 0 = b := by
          have e : (0 + (j : Int)).toNat = j := by omega
          rw [List.getD_eq_getElem?_getD, ← e, b1]; rfl
        have av : atI ((usesL n rows p cs).map V.int) (0 + (j : Int)) = some (V.int (uses rows p cs j)) := at_of (j := j) (by omega) (by
          unfold usesL
          simp [hj])
        have gb := e _ _ (f9.all _ _ hb)
        have gu := e _ _ gu9
        have sl : (((List.range j).map fun k : Nat => bs.getD k 0 - uses rows p cs k).map V.int).length < sizeLine := small1000 (by rw [List.length_map, List.length_map, List.length_range]; omega)
        walk_at "go"
        refine ⟨same_mut e hD, ?_⟩
        rw [List.range_succ, List.map_append, List.map_append]
        show _ = some (HO.lst (_ ++ [V.int (bs.getD j 0 - uses rows p cs j)]))
        rw [bd]
        exact upd_same
      rintro nb H10 hnb ⟨e10, g10⟩
      have gt10 := e10 _ _ gt9
      have f10 := f9.same e10
      have nbH : H0 nb = none := f9.free hnb
      have nbt : nb ≠ t := (ne_of_none gt9 hnb).symm
      clear e10 gu9 gt9 gz9 g9' f9 hnb
      walk_at "go"
      refine forL (xs := cs.map V.int) (fun j σ H' => ∃ k11 : Option V, σ = [some (.ref s), some (.ref st), some (.ref w), some (.int n), some (.ref pq), some (.int L), some (.ref pb), some (.ref l), some (.int p), some (.ref t), some (.ref po), k11, some (.ref lu), some (.ref sh), some (.ref nb), none, none] ∧
        Fix s H0 H' ∧ H' t = some (.lst (cs.map V.int)) ∧ H' nb = some (.lst (((List.range n.toNat).map fun k : Nat => if (k : Int) ∈ cs.take j then L else bs.getD k 0 - uses rows p cs k).map V.int))) ?_ ?_ ?_ ?_
      · refine ⟨none, rfl, f10, gt10, ?_⟩
        rw [g10]
        congr 3
      · rintro j σ H5 _ ⟨k7, rfl, _, h5, _⟩
        exact SqL.of h5
      · rintro j y σ H5 hx ⟨k7, rfl, f5, h5, g5⟩
        obtain ⟨c, hc, rfl⟩ : ∃ c, cs[j]? = some c ∧ y = V.int c := by
          rw [List.getElem?_map] at hx
          cases e : cs[j]? with
          | none => rw [e] at hx; cases hx
          | some c => rw [e] at hx; exact ⟨c, rfl, (Option.some.inj hx).symm⟩
        have cb1 := cb c (List.mem_of_getElem? hc)
        obtain ⟨_, _, _, hj, _, _⟩ := hB.get (k := c) cb1.1 (by omega)
        rw [List.length_map, bl] at hj
        walk_at "go"
        refine w_setL g5 (by rw [List.length_map, List.length_map, List.length_range]; exact hj) ?_
        refine ⟨_, rfl, f5.mut nbH, keepNe h5 nbt.symm, ?_⟩
        rw [set_range (by omega), upd_same]
        congr 3
        refine List.map_congr_left fun k hk => ?_
        have tk : cs.take (j + 1) = cs.take j ++ [c] := by rw [List.take_succ, hc]; rfl
        rw [tk]
        by_cases ck : k = c.toNat
        · have : (k : Int) = c := by omega
          rw [if_pos ck, this, if_pos (List.mem_append_right _ List.mem_cons_self)]
        · have nk : ¬ (k : Int) = c := fun z => ck (by omega)
          rw [if_neg ck]
          by_cases m : (k : Int) ∈ cs.take j
          · rw [if_pos m, if_pos (List.mem_append_left _ m)]
          · rw [if_neg m, if_neg (fun z => by
              rcases List.mem_append.mp z with z | z
              · exact m z
              · exact nk (List.mem_singleton.mp z))]
      · clear f10 gt10 g10
        rintro σ H10 ⟨k7, rfl, f10, gt10, g10⟩
        rw [List.length_map, List.take_length] at g10
        have g10' : H10 nb = some (.lst ((aft n rs bs L p cs).map V.int)) := by
          rw [g10]; unfold aft; rw [uses_perm hp]
        clear g10
        have hB2 := aft_bk (L := L) hB L0 hFs
        walk_at "go"
        refine ⟨st, w, t, n, L, p, rs, bs, cs, rfl, hS.same f10.all, hRs, hB, n0, by omega, L0, gt10, cl, fun z hz2 => (by rw [hz] at hz2; cases hz2), fun _ => ⟨fun z z0 z1 a _ => absurd (hFs z z0 z1) (by omega), fun _ st2 H11 _ e11 hS11 => ?_⟩⟩
        have f11 := f10.same e11
        have gt11 := e11 _ _ gt10
        have g11 := e11 _ _ g10'
        clear e11 gt10 g10' f10
        walk_at "go"
        refine ⟨st2, w, nb, n, L, rs, _, rfl, hS11, hB2, g11, n0, n1, L0, L1, fun H12 e12 => ⟨true, rfl, w_iteNT ?_⟩⟩
        have f12 := f11.same e12
        have gt12 := e12 _ _ gt11
        have g12 := e12 _ _ g11
        have hS12 := hS11.same e12
        clear e12 gt11 g11 f11 hS11
        walk_at "go"
        refine ⟨st, w, t, n, L, p, rs, bs, cs, [], rfl, hS.same f12.all, hRs, hB, n0, by omega, L0, gt12, cl, .inr (.inr ⟨hz, hFs, rfl⟩), fun q13 H13 hq13 e13 g13 => ?_⟩
        have f13 := f12.same e13
        have g123 := e13 _ _ g12
        have hS13 := hS12.same e13
        clear e13 gt12 g12 f12 hS12
        walk_at "go"
        intro l14 hl14
        have e14 := same_new (o := .lst []) hl14
        refine w_neI2 (xs := []) (ys := []) (SqL.of (keep g13 hl14)) (SqL.of upd_same) ?_
        have f14 := f13.same e14
        have g14 := e14 _ _ g123
        have hS14 := hS13.same e14
        generalize upd H13 l14 (.lst []) = H14 at e14 f14 g14 hS14
        clear f13 g123 hS13 e14 hl14 g13
        obtain ⟨dx, lb, h14, _⟩ := hS14.ex
        refine ⟨_, rfl, ?_⟩
        rw [decide_eq_true rfl]
        refine w_iteNT ?_
        walk_at "go"
        refine w_mth2 h14 (st_no (by decide) (by decide) (by decide)) ?_
        walk_at "go"
        refine ⟨st2, w, n, L, rs, _, rfl, hS14, fun q15 H15 hq15 e15 g15 => ?_⟩
        have nq : H0 q15 = none := f14.free hq15
        have nqb : nb ≠ q15 := ne_of_none g14 hq15
        have f15 := f14.same e15
        walk_at "go"
        refine w_reverse g15 ?_
        have e16 := same_mut (o := .lst ((aft n rs bs L p cs).map V.int).reverse) e15 hq15
        have g16 : (upd H15 q15 (.lst ((aft n rs bs L p cs).map V.int).reverse)) q15 = some (.lst ((aft n rs bs L p cs).map V.int).reverse) := upd_same
        generalize upd H15 q15 (.lst ((aft n rs bs L p cs).map V.int).reverse) = H16 at e16 g16
        have sl : ((aft n rs bs L p cs).map V.int).reverse.length < sizeLine := small1000 (by rw [List.length_reverse, List.length_map, aft_len]; omega)
        walk_at "go"
        have e17 := same_mut (o := .lst (((aft n rs bs L p cs).map V.int).reverse ++ [V.int L])) e16 hq15
        generalize upd H16 q15 (.lst (((aft n rs bs L p cs).map V.int).reverse ++ [V.int L])) = H17 at e17
        have f17 := f14.same e17
        have g17 := e17 _ _ g14
        have hS17 := hS14.same e17
        clear e16 g16 e15 g15 hq15 f15 g14 hS14 f14 h14 e17
        walk_at "go"
        intro l18 hl18
        have e18 := same_new (o := .lst [V.int p]) hl18
        have g18 : (upd H17 l18 (.lst [V.int p])) l18 = some (.lst ([p].map V.int)) := upd_same
        have f18 := f17.same e18
        have gb18 := e18 _ _ g17
        have hS18 := hS17.same e18
        generalize upd H17 l18 (.lst [V.int p]) = H18 at e18 g18 f18 gb18 hS18
        obtain ⟨R, hR2⟩ := ref_ex n rs (aft n rs bs L p cs) p [p]
        walk_at "go"
        refine ⟨st2, w, l18, n, L, p, rs, _, [p], R, rfl, hS18, hRs, hB2, n0, by omega, L0, g18, by simp, hR2, fun q19 H19 hq19 e19 g19 => ?_⟩
        have f19 := f18.same e19
        have gb19 := e19 _ _ gb18
        have hS19 := hS18.same e19
        obtain ⟨dy, lc, h19, _⟩ := hS19.ex
        walk_at "go"
        refine w_mth2 h19 (st_no (by decide) (by decide) (by decide)) ?_
        walk_at "go"
        refine ⟨st2, w, n, L, rs, _, rfl, hS19, fun q20 H20 hq20 e20 g20 => ?_⟩
        walk_at "go"
        refine i_pages (K := K) (A := A) (E := E0) g20 (e20 _ _ gb19) (by rw [aft_len]; omega) ?_
        exact q _ (f19.same e20)
end G

namespace G
open PySem L2 GX
theorem w_isB {a b : Bool} {H : Hp} {Q : VK} (q : Q (.bl (decide (a = b))) H) : GX.rIsB (.bl a) (.bl b) H Q := ⟨a, b, rfl, rfl, q⟩
theorem sz_big {n : Nat} (h : n ≤ 45000) : n < sizeLine := by
  rw [sizeLine_eq]; omega
theorem SortedOf.of_perm {rows ss rs : List (Int × Int)} (h : SortedOf ss rs) (p : ss.Perm rows) : SortedOf rows rs := ⟨h.perm.trans p, h.so⟩
theorem RG.erase {n : Int} {rows : List (Int × Int)} (h : RG n rows) (j : Nat) : RG n (rows.take j ++ rows.drop (j + 1)) := by
  rw [← List.eraseIdx_eq_take_drop_succ]
  exact ⟨fun r hr => h.bd r ((List.eraseIdx_sublist rows j).subset hr), h.nd.sublist (List.eraseIdx_sublist rows j)⟩
theorem cutTo (c : List V) (j : Nat) : cutV c none (some (j : Int)) = c.take j := by
  unfold cutV
  rw [sIx_nat]
  show List.take (_ - 0) (List.drop 0 c) = _
  rw [List.drop_zero, Nat.sub_zero]
  by_cases h : j ≤ c.length
  · rw [show min j c.length = j by omega]
  · rw [List.take_of_length_le (by omega), List.take_of_length_le (by omega)]
theorem cutFrom (c : List V) (i : Nat) : cutV c (some (i : Int)) none = c.drop i := by
  unfold cutV
  rw [sIx_nat]
  show List.take (c.length - _) _ = _
  by_cases h : i ≤ c.length
  · rw [show min i c.length = i by omega, List.take_of_length_le (by simp)]
  · rw [List.drop_eq_nil_of_le (show c.length ≤ i by omega), List.drop_eq_nil_of_le (by omega)]; simp
theorem w_ninRows {K : PySem.W.Frag} {H : Hp} {Q : VK} {p t : Addr} {us : List V} {rows : List (Int × Int)} {r : Int × Int} (hp : H p = some (.lst us)) (hP : Paired (PR H) us rows) (ht : H t = some (.tup [.int r.1, .int r.2])) (q : Q (.bl (!decide (r ∈ rows))) H) : rNotInD K (.ref t) (.ref p) H Q :=
  ⟨pd r, rows.map pd, dp_row ⟨t, rfl, ht⟩, dp_rows hp hP, pd_shaped r, pds_shaped _, by rw [pd_any]; exact q⟩
theorem i_equal {K : PySem.W.Frag} {A : CA} {H : Hp} {Q : VK} {E : XK} {a b w v : Addr} {n m L M : Int} {rs ss : List (Int × Int)} {bs cs : List Int} {d : Bool} (h1 : StAt A H a w n rs L bs) (h2 : StAt A H b v m ss M cs) (hd : d = decide ((n = m ∧ rs = ss) ∧ L = M ∧ bs = cs)) (q : Q (.bl true) H) : sp_law_equal K A [.ref a, .ref b, .bl d] H Q E :=
  ⟨a, b, w, v, n, m, L, M, rs, ss, bs, cs, by rw [hd], h1, h2, q⟩
structure EqH (A : CA) (H0 : Hp) (st w wb pq pb : Addr) (n L : Int) (us : List V) (rows rs : List (Int × Int)) (bs : List Int) : Prop where
  st : StAt A H0 st w n rs L bs
  wb : WebX A H0 wb n rs
  rg : RG n rows
  so : SortedOf rows rs
  bk : BK L n.toNat bs
  at_ : H0 pq = some (.lst us)
  pr : Paired (PR H0) us rows
  blank : H0 pb = some (.lst (bs.map V.int))
  ul : us.length ≤ 400
  n0 : 1 ≤ n
  n1 : n ≤ 200
  L0 : 0 ≤ L
  L1 : L ≤ 60
def t_eR3 (K : PySem.W.Frag) (A : CA) : TS :=
  (tSeq (tAsg (tOp rCat (tSl (rSlL K) (tVar 3) tNoPart (tPart (tVar 7))) (tSl (rSlL K) (tVar 3) (tPart (tOp oAdd (tVar 7) (tC (.int 1)))) tNoPart)) (gName 10))
  (tRet (tCall (sp_law_equal K A) [] E0 (tCons (tVar 1) (tCons (tMake A.Standing (sp_Standing_init K A) [] E0 (tCons (tMake A.Web (sp_Web_init K A) [] E0 (tCons (tVar 2) (tCons (tVar 10) tNil))) (tCons (tVar 4) (tCons (tCB (oListOf K) (tCons (tVar 5) tNil)) tNil)))) (tCons (tOp (rEqD K) (tVar 10) (tVar 3)) tNil))))))
theorem rd_eR3 {K : PySem.W.Frag} {A : CA} {H0 H : Hp} {s st w wb pq pb c : Addr} {n L z : Int} {us : List V} {rows rs : List (Int × Int)} {bs : List Int} {k9 : Option V} {Q : VK} (P : EqH A H0 st w wb pq pb n L us rows rs bs) (hs : Src H s) (f0 : Fix s H0 H) (z0 : 0 ≤ z) (z1 : z < n) (q : ∀ H', Src H' s → Fix s H0 H' → Q (.bl true) H') :
    t_eR3 K A { nx := fun _ H' => Q .non H', rt := Q } [some (.ref s), some (.ref st), some (.int n), some (.ref pq), some (.int L), some (.ref pb), some (.ref wb), some (.int z), some (.ref c), k9, none] H := by
  have n0 := P.n0
  have n1 := P.n1
  have ul := P.ul
  have hlen := P.pr.length
  obtain ⟨j, rfl⟩ : ∃ j : Nat, z = (j : Int) := ⟨z.toNat, by omega⟩
  have hq := f0.all _ _ P.at_
  have hP := PRs.same f0.all P.pr
  unfold t_eR3
  walk_at "go"
  intro l1 hl1
  rw [cutTo]
  have e1 := same_new (o := .lst (us.take j)) hl1
  have g1 : (upd H l1 (.lst (us.take j))) l1 = some (.lst (us.take j)) := upd_same
  have hq1 := e1 _ _ hq
  generalize upd H l1 (.lst (us.take j)) = H1 at e1 g1 hq1
  walk_at "go"
  intro l2 hl2
  rw [show (j : Int) + 1 = ((j + 1 : Nat) : Int) from rfl, cutFrom]
  have e2 := e1.trans (same_new (o := .lst (us.drop (j + 1))) hl2)
  have g2 : (upd H1 l2 (.lst (us.drop (j + 1)))) l2 = some (.lst (us.drop (j + 1))) := upd_same
  have g12 := keep (o' := .lst (us.drop (j + 1))) g1 hl2
  generalize upd H1 l2 (.lst (us.drop (j + 1))) = H2 at e2 g2 g12
  have hz : (us.take j).length + (us.drop (j + 1)).length ≤ sizeLine := Nat.le_of_lt (sz_big (by rw [List.length_take, List.length_drop]; omega))
  walk_at "go"
  intro l3 hl3
  have e3 := e2.trans (same_new (o := .lst (us.take j ++ us.drop (j + 1))) hl3)
  have g3 : (upd H2 l3 (.lst (us.take j ++ us.drop (j + 1)))) l3 = some (.lst (us.take j ++ us.drop (j + 1))) := upd_same
  generalize upd H2 l3 (.lst (us.take j ++ us.drop (j + 1))) = H3 at e3 g3
  have hPl : Paired (PR H3) (us.take j ++ us.drop (j + 1)) (rows.take j ++ rows.drop (j + 1)) := PRs.same e3 (G.Paired.app (G.Paired.drop (j + 1) hP) (G.Paired.take j hP))
  have ll : (us.take j ++ us.drop (j + 1)).length ≤ 400 := by rw [List.length_append, List.length_take, List.length_drop]; omega
  have f3 := f0.same e3
  have s3 := Src.same e3 hs
  clear e1 e2 g1 g2 g12 hq1 hz hl1 hl2 hl3 e3
  walk_at "go"
  intro x dx hx hdx nx
  refine i_web hx hdx nx g3 hPl (by omega) n0 (by omega) (P.rg.erase j) fun ss H4 hS4 hR4 e4 hW4 _ => ⟨rfl, ?_⟩
  have f4 := f3.same e4
  have s4 := Src.same e4 s3
  have g4 := e4 _ _ g3
  have hP4 := PRs.same e4 hPl
  have gb4 := f4.all _ _ P.blank
  clear hx hdx nx g3 hPl f3 s3 e4
  walk_at "go"
  intro l5 hl5
  have e5 := same_new (o := .lst (bs.map V.int)) hl5
  have g5 : (upd H4 l5 (.lst (bs.map V.int))) l5 = some (.lst (bs.map V.int)) := upd_same
  have f5 := f4.same e5
  have s5 := Src.same e5 s4
  have g45 := e5 _ _ g4
  have hP5 := PRs.same e5 hP4
  have hW5 := hW4.same e5
  generalize upd H4 l5 (.lst (bs.map V.int)) = H5 at e5 g5 f5 s5 g45 hP5 hW5
  walk_at "go"
  intro x2 dx2 hx2 hdx2 nx2
  refine i_standing hx2 hdx2 nx2 hW5 n0 (by omega) g5 P.bk fun H6 N6 e6 hS6 => ⟨rfl, ?_⟩
  have f6 := f5.same e6
  have s6 := Src.same e6 s5
  walk_at "go"
  refine w_eqRR (e6 _ _ g45) (PRs.same e6 hP5) (f6.all _ _ P.at_) (PRs.same f6.all P.pr) ?_
  walk_at "go"
  refine i_equal (P.st.same f6.all) hS6 ?_ (q _ s6 f6)
  refine decide_eq_decide.mpr ⟨fun c => ⟨⟨rfl, ?_⟩, rfl, rfl⟩, fun c => ?_⟩
  · rw [c] at hS4
    exact P.so.uniq hS4
  · have a1 := hS4.perm.length_eq
    have a2 := P.so.perm.length_eq
    rw [← c.1.2, List.length_append, List.length_take, List.length_drop] at a1
    rw [List.take_of_length_le (by omega), List.drop_eq_nil_of_le (by omega), List.append_nil]
def t_eR2 (K : PySem.W.Frag) (A : CA) : TS :=
  (tSeq (tIfS (tAnd (tTest (tOp oLt (tVar 7) (tCB (rLenQ K) (tCons (tVar 3) tNil)))) (tTest (tOp (rNotInD K) (tTup (tCons (tOp (rIxT K) (tOp (rIxL K) (tVar 3) (tVar 7)) (tC (.int 1))) (tCons (tOp (rIxT K) (tOp (rIxL K) (tVar 3) (tVar 7)) (tC (.int 0))) tNil))) (tVar 3)))) (tSeq (tAsg (tOp rCat (tOp rCat (tSl (rSlL K) (tVar 3) tNoPart (tPart (tVar 7))) (tLst (tCons (tTup (tCons (tOp (rIxT K) (tOp (rIxL K) (tVar 3) (tVar 7)) (tC (.int 1))) (tCons (tOp (rIxT K) (tOp (rIxL K) (tVar 3) (tVar 7)) (tC (.int 0))) tNil))) tNil))) (tSl (rSlL K) (tVar 3) (tPart (tOp oAdd (tVar 7) (tC (.int 1)))) tNoPart)) (gName 9))
  (tIfS (tNot (tB (tCall (sp_law_equal K A) [] E0 (tCons (tVar 1) (tCons (tMake A.Standing (sp_Standing_init K A) [] E0 (tCons (tMake A.Web (sp_Web_init K A) [] E0 (tCons (tVar 2) (tCons (tVar 9) tNil))) (tCons (tVar 4) (tCons (tCB (oListOf K) (tCons (tVar 5) tNil)) tNil)))) (tCons (tC (.bl false)) tNil)))))) (tRet (tC (.bl false))) tNext)) tNext)
  (tSeq (tAsg (tOp rCat (tSl (rSlL K) (tVar 3) tNoPart (tPart (tVar 7))) (tSl (rSlL K) (tVar 3) (tPart (tOp oAdd (tVar 7) (tC (.int 1)))) tNoPart)) (gName 10))
  (tRet (tCall (sp_law_equal K A) [] E0 (tCons (tVar 1) (tCons (tMake A.Standing (sp_Standing_init K A) [] E0 (tCons (tMake A.Web (sp_Web_init K A) [] E0 (tCons (tVar 2) (tCons (tVar 10) tNil))) (tCons (tVar 4) (tCons (tCB (oListOf K) (tCons (tVar 5) tNil)) tNil)))) (tCons (tOp (rEqD K) (tVar 10) (tVar 3)) tNil)))))))
theorem rd_eR2 {K : PySem.W.Frag} {A : CA} {H0 H : Hp} {s st w wb pq pb c : Addr} {n L z : Int} {us : List V} {rows rs : List (Int × Int)} {bs : List Int} {Q : VK} (P : EqH A H0 st w wb pq pb n L us rows rs bs) (hs : Src H s) (f0 : Fix s H0 H) (z0 : 0 ≤ z) (z1 : z < n) (q : ∀ H', Src H' s → Fix s H0 H' → Q (.bl true) H') :
    t_eR2 K A { nx := fun _ H' => Q .non H', rt := Q } [some (.ref s), some (.ref st), some (.int n), some (.ref pq), some (.int L), some (.ref pb), some (.ref wb), some (.int z), some (.ref c), none, none] H := by
  have n0 := P.n0
  have n1 := P.n1
  have ul := P.ul
  have hlen := P.pr.length
  obtain ⟨j, rfl⟩ : ∃ j : Nat, z = (j : Int) := ⟨z.toNat, by omega⟩
  have hq := f0.all _ _ P.at_
  have hP := PRs.same f0.all P.pr
  unfold t_eR2
  walk_at "go"
  refine w_iteD (fun cl => ?_) (fun _ => ?_)
  rotate_left
  · exact rd_eR3 P hs f0 z0 z1 q
  have jl : j < us.length := by omega
  obtain ⟨v, hv, t, rfl, ht⟩ : ∃ v, us[j]? = some v ∧ PR H v (rows[j]'(by omega)) := by
    obtain ⟨v, h1, h2⟩ := Paired.at hP (List.getElem?_eq_getElem (show j < rows.length by omega))
    exact ⟨v, h1, h2⟩
  have hrm : rows[j]'(by omega) ∈ rows := List.getElem_mem _
  have hRj := P.rg.bd _ hrm
  generalize rows[j]'(by omega) = r at ht hrm hRj
  have av : atI us (j : Int) = some (.ref t) := at_of (j := j) (by omega) hv
  walk_at "go"
  intro p hp
  have e1 := same_new (o := .tup [V.int r.2, .int r.1]) hp
  have g1 : (upd H p (.tup [V.int r.2, .int r.1])) p = some (.tup [V.int r.2, .int r.1]) := upd_same
  have hq1 := e1 _ _ hq
  have hP1 := PRs.same e1 hP
  have ht1 := e1 _ _ ht
  have f1 := f0.same e1
  have s1 := Src.same e1 hs
  generalize upd H p (.tup [V.int r.2, .int r.1]) = H1 at e1 g1 hq1 hP1 ht1 f1 s1
  walk_at "go"
  refine w_ninRows (r := (r.2, r.1)) hq1 hP1 g1 ?_
  refine ⟨_, rfl, ?_⟩
  by_cases c : (r.2, r.1) ∈ rows
  · rw [decide_eq_true c]
    refine w_iteNT ?_
    exact rd_eR3 P s1 f1 z0 z1 q
  rw [decide_eq_false c]
  refine w_iteNF ?_
  clear hq hP ht e1 g1 hs f0 hp
  walk_at "go"
  intro l1 hl1
  rw [cutTo]
  have e2 := same_new (o := .lst (us.take j)) hl1
  have g2 : (upd H1 l1 (.lst (us.take j))) l1 = some (.lst (us.take j)) := upd_same
  have hq2 := e2 _ _ hq1
  have ht2 := e2 _ _ ht1
  generalize upd H1 l1 (.lst (us.take j)) = H2 at e2 g2 hq2 ht2
  walk_at "go"
  intro p2 hp2
  have e3 := e2.trans (same_new (o := .tup [V.int r.2, .int r.1]) hp2)
  have g3 : (upd H2 p2 (.tup [V.int r.2, .int r.1])) p2 = some (.tup [V.int r.2, .int r.1]) := upd_same
  have g23 := keep (o' := .tup [V.int r.2, .int r.1]) g2 hp2
  have hq3 := keep (o' := .tup [V.int r.2, .int r.1]) hq2 hp2
  generalize upd H2 p2 (.tup [V.int r.2, .int r.1]) = H3 at e3 g3 g23 hq3
  walk_at "go"
  intro l4 hl4
  have e4 := e3.trans (same_new (o := .lst [V.ref p2]) hl4)
  have g4 : (upd H3 l4 (.lst [V.ref p2])) l4 = some (.lst [V.ref p2]) := upd_same
  have g34 := keep (o' := .lst [V.ref p2]) g3 hl4
  have g24 := keep (o' := .lst [V.ref p2]) g23 hl4
  have hq4 := keep (o' := .lst [V.ref p2]) hq3 hl4
  generalize upd H3 l4 (.lst [V.ref p2]) = H4 at e4 g4 g34 g24 hq4
  have hz4 : (us.take j).length + [V.ref p2].length ≤ sizeLine := Nat.le_of_lt (sz_big (by rw [List.length_take, List.length_singleton]; omega))
  walk_at "go"
  intro l5 hl5
  have e5 := e4.trans (same_new (o := .lst (us.take j ++ [V.ref p2])) hl5)
  have g5 : (upd H4 l5 (.lst (us.take j ++ [V.ref p2]))) l5 = some (.lst (us.take j ++ [V.ref p2])) := upd_same
  have g35 := keep (o' := .lst (us.take j ++ [V.ref p2])) g34 hl5
  have hq5 := keep (o' := .lst (us.take j ++ [V.ref p2])) hq4 hl5
  generalize upd H4 l5 (.lst (us.take j ++ [V.ref p2])) = H5 at e5 g5 g35 hq5
  walk_at "go"
  intro l6 hl6
  rw [show (j : Int) + 1 = ((j + 1 : Nat) : Int) from rfl, cutFrom]
  have e6 := e5.trans (same_new (o := .lst (us.drop (j + 1))) hl6)
  have g6 : (upd H5 l6 (.lst (us.drop (j + 1)))) l6 = some (.lst (us.drop (j + 1))) := upd_same
  have g36 := keep (o' := .lst (us.drop (j + 1))) g35 hl6
  have g56 := keep (o' := .lst (us.drop (j + 1))) g5 hl6
  generalize upd H5 l6 (.lst (us.drop (j + 1))) = H6 at e6 g6 g36 g56
  have hz6 : (us.take j ++ [V.ref p2]).length + (us.drop (j + 1)).length ≤ sizeLine := Nat.le_of_lt (sz_big (by rw [List.length_append, List.length_take, List.length_singleton, List.length_drop]; omega))
  walk_at "go"
  intro l7 hl7
  have e7 := e6.trans (same_new (o := .lst (us.take j ++ [V.ref p2] ++ us.drop (j + 1))) hl7)
  have g7 : (upd H6 l7 (.lst (us.take j ++ [V.ref p2] ++ us.drop (j + 1)))) l7 = some (.lst (us.take j ++ [V.ref p2] ++ us.drop (j + 1))) := upd_same
  have g37 := keep (o' := .lst (us.take j ++ [V.ref p2] ++ us.drop (j + 1))) g36 hl7
  generalize upd H6 l7 (.lst (us.take j ++ [V.ref p2] ++ us.drop (j + 1))) = H7 at e7 g7 g37
  have hP7 : Paired (PR H7) (us.take j ++ [V.ref p2] ++ us.drop (j + 1)) (rows.take j ++ [(r.2, r.1)] ++ rows.drop (j + 1)) :=
    G.Paired.app (PRs.same e7 (G.Paired.drop (j + 1) hP1)) (G.Paired.app (.cons ⟨p2, rfl, g37⟩ .nil) (PRs.same e7 (G.Paired.take j hP1)))
  have hR7 : RG n (rows.take j ++ [(r.2, r.1)] ++ rows.drop (j + 1)) := by
    have hE := P.rg.erase j
    have sub : ∀ y ∈ rows.take j ++ rows.drop (j + 1), y ∈ rows := fun y hy => by
      rcases List.mem_append.mp hy with k | k
      · exact List.mem_of_mem_take k
      · exact List.mem_of_mem_drop k
    have pm : (rows.take j ++ [(r.2, r.1)] ++ rows.drop (j + 1)).Perm ((r.2, r.1) :: (rows.take j ++ rows.drop (j + 1))) := by
      rw [List.append_assoc]
      exact List.perm_middle
    refine RG.perm pm ⟨fun y hy => ?_, List.nodup_cons.mpr ⟨fun z => c (sub _ z), hE.nd⟩⟩
    rcases List.mem_cons.mp hy with rfl | hy
    · exact ⟨hRj.2.2.1, hRj.2.2.2.1, hRj.1, hRj.2.1, fun z => hRj.2.2.2.2 z.symm⟩
    · exact hE.bd y hy
  have inn : (r.2, r.1) ∈ rows.take j ++ [(r.2, r.1)] ++ rows.drop (j + 1) := by simp
  have l7l : (us.take j ++ [V.ref p2] ++ us.drop (j + 1)).length ≤ 600 := by rw [List.length_append, List.length_append, List.length_take, List.length_singleton, List.length_drop]; omega
  have f7 := f1.same e7
  have s7 := Src.same e7 s1
  generalize us.take j ++ [V.ref p2] ++ us.drop (j + 1) = ut at g7 hP7 l7l
  generalize rows.take j ++ [(r.2, r.1)] ++ rows.drop (j + 1) = turned at hP7 hR7 inn
  clear e2 e3 e4 e5 e6 e7 g2 g3 g4 g5 g6 g23 g24 g34 g35 g36 g37 g56 hq1 hq2 hq3 hq4 hq5 ht1 ht2 hP1 hz4 hz6 hl1 hl4 hl5 hl6 hl7 hp2 f1 s1
  walk_at "go"
  intro x dx hx hdx nx
  refine i_web hx hdx nx g7 hP7 (by omega) n0 (by omega) hR7 fun ss H8 hS8 hR8 e8 hW8 _ => ⟨rfl, ?_⟩
  have f8 := f7.same e8
  have s8 := Src.same e8 s7
  have gb8 := f8.all _ _ P.blank
  walk_at "go"
  intro l9 hl9
  have e9 := same_new (o := .lst (bs.map V.int)) hl9
  have g9 : (upd H8 l9 (.lst (bs.map V.int))) l9 = some (.lst (bs.map V.int)) := upd_same
  have f9 := f8.same e9
  have s9 := Src.same e9 s8
  have hW9 := hW8.same e9
  generalize upd H8 l9 (.lst (bs.map V.int)) = H9 at e9 g9 f9 s9 hW9
  walk_at "go"
  intro x2 dx2 hx2 hdx2 nx2
  refine i_standing hx2 hdx2 nx2 hW9 n0 (by omega) g9 P.bk fun H10 N10 e10 hS10 => ⟨rfl, ?_⟩
  have f10 := f9.same e10
  have s10 := Src.same e10 s9
  have ne : ¬ ((n = n ∧ rs = ss) ∧ L = L ∧ bs = bs) := fun z => by
    have k : (r.2, r.1) ∈ ss := hS8.perm.mem_iff.mpr inn
    rw [← z.1.2] at k
    exact c (P.so.perm.mem_iff.mp k)
  walk_at "go"
  refine i_equal (P.st.same f10.all) hS10 (decide_eq_false ne).symm ⟨true, rfl, w_iteNT ?_⟩
  exact rd_eR3 P s10 f10 z0 z1 q
theorem mod_ne {b d L : Int} (b0 : 0 ≤ b) (b1 : b ≤ L) (d0 : 0 ≤ d) (d1 : d < L) : 0 ≤ (b + 1 + d) % (L + 1) ∧ (b + 1 + d) % (L + 1) ≤ L ∧ (b + 1 + d) % (L + 1) ≠ b := by
  have m0 := Int.emod_nonneg (b + 1 + d) (b := L + 1) (by omega)
  have m1 := Int.emod_lt_of_pos (b + 1 + d) (b := L + 1) (by omega)
  refine ⟨m0, by omega, fun z => ?_⟩
  by_cases c : b + 1 + d < L + 1
  · rw [Int.emod_eq_of_lt (by omega) c] at z; omega
  · have e : (b + 1 + d) % (L + 1) = (b + 1 + d - (L + 1)) % (L + 1) := by
      have := Int.add_emod_right (b + 1 + d - (L + 1)) (L + 1)
      rw [Int.sub_add_cancel] at this
      exact this
    rw [e, Int.emod_eq_of_lt (by omega) (by omega)] at z
    omega
def t_eR1 (K : PySem.W.Frag) (A : CA) : TS :=
  (tSeq (tAsg (tCall (sp_law_draw K A) [] E0 (tCons (tVar 0) (tCons (tVar 2) tNil))) (gName 7))
  (tSeq (tAsg (tCB (oListOf K) (tCons (tVar 5) tNil)) (gName 8))
  (tSeq (tIfS (tTest (tOp oGt (tVar 4) (tC (.int 0)))) (tSeq (tAsg (tOp oMod (tCB oInt (tCons (tOp oAdd (tOp oAdd (tOp (rIxL K) (tVar 5) (tVar 7)) (tC (.int 1))) (tCall (sp_law_draw K A) [] E0 (tCons (tVar 0) (tCons (tVar 4) tNil)))) tNil)) (tOp oAdd (tVar 4) (tC (.int 1)))) (gSub (tVar 8) (tVar 7) rSetL))
  (tIfS (tNot (tB (tCall (sp_law_equal K A) [] E0 (tCons (tVar 1) (tCons (tMake A.Standing (sp_Standing_init K A) [] E0 (tCons (tVar 6) (tCons (tVar 4) (tCons (tVar 8) tNil)))) (tCons (tC (.bl false)) tNil)))))) (tRet (tC (.bl false))) tNext)) tNext)
  (tSeq (tIfS (tAnd (tTest (tOp oLt (tVar 7) (tCB (rLenQ K) (tCons (tVar 3) tNil)))) (tTest (tOp (rNotInD K) (tTup (tCons (tOp (rIxT K) (tOp (rIxL K) (tVar 3) (tVar 7)) (tC (.int 1))) (tCons (tOp (rIxT K) (tOp (rIxL K) (tVar 3) (tVar 7)) (tC (.int 0))) tNil))) (tVar 3)))) (tSeq (tAsg (tOp rCat (tOp rCat (tSl (rSlL K) (tVar 3) tNoPart (tPart (tVar 7))) (tLst (tCons (tTup (tCons (tOp (rIxT K) (tOp (rIxL K) (tVar 3) (tVar 7)) (tC (.int 1))) (tCons (tOp (rIxT K) (tOp (rIxL K) (tVar 3) (tVar 7)) (tC (.int 0))) tNil))) tNil))) (tSl (rSlL K) (tVar 3) (tPart (tOp oAdd (tVar 7) (tC (.int 1)))) tNoPart)) (gName 9))
  (tIfS (tNot (tB (tCall (sp_law_equal K A) [] E0 (tCons (tVar 1) (tCons (tMake A.Standing (sp_Standing_init K A) [] E0 (tCons (tMake A.Web (sp_Web_init K A) [] E0 (tCons (tVar 2) (tCons (tVar 9) tNil))) (tCons (tVar 4) (tCons (tCB (oListOf K) (tCons (tVar 5) tNil)) tNil)))) (tCons (tC (.bl false)) tNil)))))) (tRet (tC (.bl false))) tNext)) tNext)
  (tSeq (tAsg (tOp rCat (tSl (rSlL K) (tVar 3) tNoPart (tPart (tVar 7))) (tSl (rSlL K) (tVar 3) (tPart (tOp oAdd (tVar 7) (tC (.int 1)))) tNoPart)) (gName 10))
  (tRet (tCall (sp_law_equal K A) [] E0 (tCons (tVar 1) (tCons (tMake A.Standing (sp_Standing_init K A) [] E0 (tCons (tMake A.Web (sp_Web_init K A) [] E0 (tCons (tVar 2) (tCons (tVar 10) tNil))) (tCons (tVar 4) (tCons (tCB (oListOf K) (tCons (tVar 5) tNil)) tNil)))) (tCons (tOp (rEqD K) (tVar 10) (tVar 3)) tNil))))))))))
theorem rd_eR1 {K : PySem.W.Frag} {A : CA} {H0 H : Hp} {s st w wb pq pb : Addr} {n L : Int} {us : List V} {rows rs : List (Int × Int)} {bs : List Int} {Q : VK} (P : EqH A H0 st w wb pq pb n L us rows rs bs) (hs : Src H s) (f0 : Fix s H0 H) (q : ∀ H', Src H' s → Fix s H0 H' → Q (.bl true) H') :
    t_eR1 K A { nx := fun _ H' => Q .non H', rt := Q } [some (.ref s), some (.ref st), some (.int n), some (.ref pq), some (.int L), some (.ref pb), some (.ref wb), none, none, none, none] H := by
  have n0 := P.n0
  have n1 := P.n1
  have L0 := P.L0
  have L1 := P.L1
  unfold t_eR1
  walk_at "go"
  intro z H1 z0 z1 b1 s1
  have f1 := f0.but b1
  have gb1 := f1.all _ _ P.blank
  walk_at "go"
  intro ch hch
  have nch : ch ≠ s := s1.neFree hch
  have hch0 : H0 ch = none := f1.free hch
  have e2 := same_new (o := .lst (bs.map V.int)) hch
  have g2 : (upd H1 ch (.lst (bs.map V.int))) ch = some (.lst (bs.map V.int)) := upd_same
  have f2 := f1.same e2
  have s2 := Src.same e2 s1
  generalize upd H1 ch (.lst (bs.map V.int)) = H2 at e2 g2 f2 s2
  walk_at "go"
  refine w_iteD (fun c => ?_) (fun c => ?_)
  · obtain ⟨b, b1', b2, bi, b0, bL⟩ := P.bk.get (k := z) z0 (by omega)
    have gb2 := f2.all _ _ P.blank
    walk_at "go"
    intro d H3 d0 d1 b3 s3
    have f3 := f2.but b3
    have g3 := b3.at nch g2
    obtain ⟨v0, v1, v2⟩ := mod_ne b0 bL d0 d1
    walk_at "go"
    generalize (b + 1 + d) % (L + 1) = v at v0 v1 v2
    have f4 := f3.mut (o := .lst ((bs.map V.int).set z.toNat (.int v))) hch0
    have s4 := s3.mut (o := .lst ((bs.map V.int).set z.toNat (.int v))) nch
    have g4 : (upd H3 ch (.lst ((bs.map V.int).set z.toNat (.int v)))) ch = some (.lst ((bs.set z.toNat v).map V.int)) := by rw [upd_same, List.map_set]
    generalize upd H3 ch (.lst ((bs.map V.int).set z.toNat (.int v))) = H4 at f4 s4 g4
    intro x2 dx2 hx2 hdx2 nx2
    refine i_standing hx2 hdx2 nx2 (P.wb.same f4.all) n0 (by omega) g4 (P.bk.set v0 v1) fun H5 N5 e5 hS5 => ⟨rfl, ?_⟩
    have f5 := f4.same e5
    have s5 := Src.same e5 s4
    have ne : ¬ ((n = n ∧ rs = rs) ∧ L = L ∧ bs = bs.set z.toNat v) := fun h => by
      have k : (bs.set z.toNat v)[z.toNat]? = some v := by rw [List.getElem?_set_self]; exact (List.getElem?_eq_some_iff.mp b1').1
      rw [← h.2.2, b1'] at k
      exact v2 (Option.some.inj k).symm
    walk_at "go"
    refine i_equal (P.st.same f5.all) hS5 (decide_eq_false ne).symm ⟨true, rfl, w_iteNT ?_⟩
    exact rd_eR2 P s5 f5 z0 z1 q
  · exact rd_eR2 P s2 f2 z0 z1 q
def sp_law_equality (K : PySem.W.Frag) (A : CA) : Sp := fun vs H Q _ => ∃ (H0 : Hp) (s st w pq pb : Addr) (n L : Int) (us : List V) (rows rs : List (Int × Int)) (bs : List Int), vs = [.ref s, .ref st, .int n, .ref pq, .int L, .ref pb] ∧ Src H s ∧ Fix s H0 H ∧ EqH A H0 st w w pq pb n L us rows rs bs ∧
  ∀ H', Src H' s → Fix s H0 H' → Q (.bl true) H'
theorem EqH.same {A : CA} {H0 H1 : Hp} {st w wb wc pq pb : Addr} {n L : Int} {us : List V} {rows rs : List (Int × Int)} {bs : List Int} (e : Same H0 H1) (P : EqH A H0 st w wb pq pb n L us rows rs bs) (hW : WebX A H1 wc n rs) : EqH A H1 st w wc pq pb n L us rows rs bs :=
  ⟨P.st.same e, hW, P.rg, P.so, P.bk, e _ _ P.at_, PRs.same e P.pr, e _ _ P.blank, P.ul, P.n0, P.n1, P.L0, P.L1⟩
theorem cutL_sub {l : Addr} {H : Hp} : Same (cutL l H) H := cutL_to fun _ _ _ h => h
theorem cutL_none {l : Addr} {H : Hp} : cutL l H l = none := by unfold cutL; rw [if_pos rfl]
def t_law_equality (K : PySem.W.Frag) (A : CA) : TS :=
  (tSeq (tAsg (tMake A.Web (sp_Web_init K A) [] E0 (tCons (tVar 2) (tCons (G.tLstRev K (tCB (oListOf K) (tCons (tVar 3) tNil))) tNil))) (gName 6))
  (tSeq (tIfS (tNot (tB (tCall (sp_law_equal K A) [] E0 (tCons (tVar 1) (tCons (tMake A.Standing (sp_Standing_init K A) [] E0 (tCons (tVar 6) (tCons (tVar 4) (tCons (tCB (oListOf K) (tCons (tVar 5) tNil)) tNil)))) (tCons (tC (.bl true)) tNil)))))) (tRet (tC (.bl false))) tNext)
  (tSeq (tIfS (tTest (tOp GX.rIsB (tOp (GX.rOwnEq A.Standing (sp_Standing_eq K A) E0) (tVar 1) (tCB (oListOf K) (tCons (tVar 5) tNil))) (tC (.bl true)))) (tRet (tC (.bl false))) tNext)
  (tSeq (tIfS (tAnd (tTest (tOp oLt (tVar 4) (tC (.int 60)))) (tNot (tB (tCall (sp_law_equal K A) [] E0 (tCons (tVar 1) (tCons (tMake A.Standing (sp_Standing_init K A) [] E0 (tCons (tVar 6) (tCons (tOp oAdd (tVar 4) (tC (.int 1))) (tCons (tCB (oListOf K) (tCons (tVar 5) tNil)) tNil)))) (tCons (tC (.bl false)) tNil))))))) (tRet (tC (.bl false))) tNext)
  (tSeq (tAsg (tCall (sp_law_draw K A) [] E0 (tCons (tVar 0) (tCons (tVar 2) tNil))) (gName 7))
  (tSeq (tAsg (tCB (oListOf K) (tCons (tVar 5) tNil)) (gName 8))
  (tSeq (tIfS (tTest (tOp oGt (tVar 4) (tC (.int 0)))) (tSeq (tAsg (tOp oMod (tCB oInt (tCons (tOp oAdd (tOp oAdd (tOp (rIxL K) (tVar 5) (tVar 7)) (tC (.int 1))) (tCall (sp_law_draw K A) [] E0 (tCons (tVar 0) (tCons (tVar 4) tNil)))) tNil)) (tOp oAdd (tVar 4) (tC (.int 1)))) (gSub (tVar 8) (tVar 7) rSetL))
  (tIfS (tNot (tB (tCall (sp_law_equal K A) [] E0 (tCons (tVar 1) (tCons (tMake A.Standing (sp_Standing_init K A) [] E0 (tCons (tVar 6) (tCons (tVar 4) (tCons (tVar 8) tNil)))) (tCons (tC (.bl false)) tNil)))))) (tRet (tC (.bl false))) tNext)) tNext)
  (tSeq (tIfS (tAnd (tTest (tOp oLt (tVar 7) (tCB (rLenQ K) (tCons (tVar 3) tNil)))) (tTest (tOp (rNotInD K) (tTup (tCons (tOp (rIxT K) (tOp (rIxL K) (tVar 3) (tVar 7)) (tC (.int 1))) (tCons (tOp (rIxT K) (tOp (rIxL K) (tVar 3) (tVar 7)) (tC (.int 0))) tNil))) (tVar 3)))) (tSeq (tAsg (tOp rCat (tOp rCat (tSl (rSlL K) (tVar 3) tNoPart (tPart (tVar 7))) (tLst (tCons (tTup (tCons (tOp (rIxT K) (tOp (rIxL K) (tVar 3) (tVar 7)) (tC (.int 1))) (tCons (tOp (rIxT K) (tOp (rIxL K) (tVar 3) (tVar 7)) (tC (.int 0))) tNil))) tNil))) (tSl (rSlL K) (tVar 3) (tPart (tOp oAdd (tVar 7) (tC (.int 1)))) tNoPart)) (gName 9))
  (tIfS (tNot (tB (tCall (sp_law_equal K A) [] E0 (tCons (tVar 1) (tCons (tMake A.Standing (sp_Standing_init K A) [] E0 (tCons (tMake A.Web (sp_Web_init K A) [] E0 (tCons (tVar 2) (tCons (tVar 9) tNil))) (tCons (tVar 4) (tCons (tCB (oListOf K) (tCons (tVar 5) tNil)) tNil)))) (tCons (tC (.bl false)) tNil)))))) (tRet (tC (.bl false))) tNext)) tNext)
  (tSeq (tAsg (tOp rCat (tSl (rSlL K) (tVar 3) tNoPart (tPart (tVar 7))) (tSl (rSlL K) (tVar 3) (tPart (tOp oAdd (tVar 7) (tC (.int 1)))) tNoPart)) (gName 10))
  (tRet (tCall (sp_law_equal K A) [] E0 (tCons (tVar 1) (tCons (tMake A.Standing (sp_Standing_init K A) [] E0 (tCons (tMake A.Web (sp_Web_init K A) [] E0 (tCons (tVar 2) (tCons (tVar 10) tNil))) (tCons (tVar 4) (tCons (tCB (oListOf K) (tCons (tVar 5) tNil)) tNil)))) (tCons (tOp (rEqD K) (tVar 10) (tVar 3)) tNil))))))))))))))

theorem rd_law_equality {K : PySem.W.Frag} {A : CA} {vs : List V} {H : Hp} {Q : VK} {E : XK} (h : sp_law_equality K A vs H Q E) :
    t_law_equality K A { nx := fun _ H' => Q .non H', rt := Q } (start ["box", "standing", "pages", "rows", "lines", "blank", "web", "at", "changed", "turned", "less"] vs) H := by
  obtain ⟨H0, s, st, w, pq, pb, n, L, us, rows, rs, bs, rfl, hs, f0, P, q⟩ := h
  have n0 := P.n0
  have n1 := P.n1
  have L0 := P.L0
  have L1 := P.L1
  have ul := P.ul
  have hq := f0.all _ _ P.at_
  have hP := PRs.same f0.all P.pr
  have hlen := hP.length
  unfold t_law_equality
  walk_at "go"
  refine w_listRev ?_
  walk_at "go"
  intro l1 hl1
  have e1 := same_new (o := .lst us) hl1
  refine ⟨l1, us, rfl, SqL.of upd_same, fun l2 hl2 => ?_⟩
  have e2 := e1.trans (same_new (o := .lst us.reverse) hl2)
  have g2 : (upd (upd H l1 (.lst us)) l2 (.lst us.reverse)) l2 = some (.lst us.reverse) := upd_same
  generalize upd (upd H l1 (.lst us)) l2 (.lst us.reverse) = H2 at e2 g2
  obtain ⟨y1, y2, y3, hsrc⟩ := Src.same e2 hs
  have s2 : Src H2 s := ⟨y1, y2, y3, hsrc⟩
  have f2 := f0.same e2
  walk_at "go"
  intro x dx hx hdx nx
  refine i_web hx hdx nx g2 (paired_rev (PRs.same e2 hP)) (by rw [List.length_reverse]; omega) n0 (by omega) ⟨fun r hr => P.rg.bd r (List.mem_reverse.mp hr), (List.reverse_perm _).nodup_iff.mpr P.rg.nd⟩ fun rs3 H3 hS3 hR3 e3 hW3 cW => ⟨rfl, ?_⟩
  obtain rfl : rs3 = rs := (hS3.of_perm (List.reverse_perm _)).uniq P.so
  have cW3 := cW s _ hsrc
  have f3 := f2.same e3
  have s3 := Src.same e3 s2
  have eB : Same H0 (cutL s H3) := cutL_of f3.all f3.no
  have PB := P.same eB cW3
  have fB : Fix s (cutL s H3) H3 := ⟨cutL_none, cutL_sub⟩
  have qB : ∀ H', Src H' s → Fix s (cutL s H3) H' → Q (.bl true) H' := fun H' a b => q H' a ⟨f3.no, eB.trans b.all⟩
  generalize cutL s H3 = B at eB PB fB qB
  clear q hx hdx nx e1 e2 e3 g2 hl1 hl2 hq hP f0 f2 f3 hs s2 hsrc cW cW3 P hS3 hR3
  have gb3 := fB.all _ _ PB.blank
  walk_at "go"
  intro l4 hl4
  have e4 := same_new (o := .lst (bs.map V.int)) hl4
  have g4 : (upd H3 l4 (.lst (bs.map V.int))) l4 = some (.lst (bs.map V.int)) := upd_same
  have f4 := fB.same e4
  have s4 := Src.same e4 s3
  generalize upd H3 l4 (.lst (bs.map V.int)) = H4 at e4 g4 f4 s4
  walk_at "go"
  intro x2 dx2 hx2 hdx2 nx2
  refine i_standing hx2 hdx2 nx2 (PB.wb.same f4.all) n0 (by omega) g4 PB.bk fun H5 N5 e5 hS5 => ⟨rfl, ?_⟩
  have f5 := f4.same e5
  have s5 := Src.same e5 s4
  walk_at "go"
  refine i_equal (PB.st.same f5.all) hS5 (by simp) ⟨true, rfl, w_iteNT ?_⟩
  have gb5 := f5.all _ _ PB.blank
  walk_at "go"
  intro l6 hl6
  have e6 := same_new (o := .lst (bs.map V.int)) hl6
  have g6 : (upd H5 l6 (.lst (bs.map V.int))) l6 = some (.lst (bs.map V.int)) := upd_same
  have f6 := f5.same e6
  have s6 := Src.same e6 s5
  generalize upd H5 l6 (.lst (bs.map V.int)) = H6 at e6 g6 f6 s6
  walk_at "go"
  refine w_ownEqL (PB.st.same f6.all) g6 ?_
  walk_at "go"
  refine w_isB ?_
  walk_at "go"
  refine w_iteF ?_
  walk_at "go"
  refine w_iteD (fun c => ?_) (fun c => ?_)
  · have gb6 := f6.all _ _ PB.blank
    walk_at "go"
    intro l7 hl7
    have e7 := same_new (o := .lst (bs.map V.int)) hl7
    have g7 : (upd H6 l7 (.lst (bs.map V.int))) l7 = some (.lst (bs.map V.int)) := upd_same
    have f7 := f6.same e7
    have s7 := Src.same e7 s6
    generalize upd H6 l7 (.lst (bs.map V.int)) = H7 at e7 g7 f7 s7
    walk_at "go"
    intro x3 dx3 hx3 hdx3 nx3
    refine i_standing hx3 hdx3 nx3 (PB.wb.same f7.all) n0 (by omega) g7 (L := L + 1) ⟨PB.bk.len, fun b hb => by have := PB.bk.bd b hb; omega⟩ fun H8 N8 e8 hS8 => ⟨rfl, ?_⟩
    have f8 := f7.same e8
    have s8 := Src.same e8 s7
    have ne : ¬ ((n = n ∧ rs3 = rs3) ∧ L = L + 1 ∧ bs = bs) := fun z => by omega
    walk_at "go"
    refine i_equal (PB.st.same f8.all) hS8 (decide_eq_false ne).symm ⟨true, rfl, w_iteNT ?_⟩
    exact rd_eR1 PB s8 f8 qB
  · exact rd_eR1 PB s6 f6 qB
end G

namespace G
open PySem L2 GX
theorem Same.butN {H H1 H2 : Hp} {s : Addr} (e : Same H H1) (b : But s H1 H2) (hs : H s = none) : Same H H2 := fun p u h => b p u (ne_of_none h hs) (e p u h)
def sp_law (K : PySem.W.Frag) (A : CA) : Sp := fun vs H Q _ => ∃ (a : Addr) (ns : List Int), vs = [.ref a] ∧ SqL K H a (ns.map V.int) ∧ ns.length ≤ 63 ∧ ∀ H', Q (.bl true) H'
def t_law (K : PySem.W.Frag) (A : CA) : TS :=
  (tSeq (tAsg (tCall (sp_law_web K A) [] E0 (tCons (tCall (sp_law_box K A) [] E0 (tCons (tVar 0) (tCons (tC (.int 0)) tNil))) tNil)) (gName 1))
  (tSeq (tAsg (tOp (rIxL K) (tVar 1) (tC (.int 0))) (gName 2))
  (tSeq (tAsg (tOp (rIxL K) (tVar 1) (tC (.int 1))) (gName 3))
  (tSeq (tAsg (tCall (sp_law_box K A) [] E0 (tCons (tVar 0) (tCons (tC (.int 1)) tNil))) (gName 4))
  (tSeq (tAsg (tCall (sp_law_lines K A) [] E0 (tCons (tVar 4) tNil)) (gName 5))
  (tSeq (tAsg (tCall (sp_law_blank K A) [] E0 (tCons (tVar 4) (tCons (tVar 2) (tCons (tVar 3) (tCons (tVar 5) tNil))))) (gName 6))
  (tSeq (tAsg (tLc (iList K (tVar 6)) (gName 8) tYes (tOp oSub (tVar 5) (tVar 8)) [8]) (gName 7))
  (tSeq (tAsg (tMake A.Web (sp_Web_init K A) [] E0 (tCons (tVar 2) (tCons (tCB (oListOf K) (tCons (tVar 3) tNil)) tNil))) (gName 9))
  (tSeq (tAsg (tCB (oListOf K) (tCons (tVar 6) tNil)) (gName 10))
  (tSeq (tAsg (tMake A.Standing (sp_Standing_init K A) [] E0 (tCons (tVar 9) (tCons (tVar 5) (tCons (tVar 10) tNil)))) (gName 11))
  (tSeq (tAsg (tMake A.Standing (sp_Standing_init K A) [] E0 (tCons (tVar 9) (tCons (tVar 5) (tCons (tCB (oListOf K) (tCons (tVar 7) tNil)) tNil)))) (gName 12))
  (tSeq (tIfS (tOr (tNot (tB (tCall (sp_law_pages K A) [] E0 (tCons (tVar 10) (tCons (tVar 6) tNil))))) (tNot (tB (tCall (sp_law_fits K A) [] E0 (tCons (tVar 11) (tCons (tVar 9) (tCons (tVar 5) (tCons (tVar 6) tNil)))))))) (tRet (tC (.bl false))) tNext)
  (tSeq (tAsg (tUn oNeg (tC (.int 1))) (gSub (tVar 10) (tC (.int 0)) rSetL))
  (tSeq (tDrop (tBM K "list" rAppend (tVar 10) (tCons (tVar 5) tNil)))
  (tSeq (tAsg (tCall (sp_law_box K A) [] E0 (tCons (tVar 0) (tCons (tC (.int 2)) tNil))) (gName 13))
  (tSeq (tAsg (tCall (sp_law_outside K A) [] E0 (tCons (tVar 13) (tCons (tVar 2) tNil))) (gName 14))
  (tSeq (tIfS (tNot (tB (tCall (sp_law_equality K A) [] E0 (tCons (tVar 13) (tCons (tVar 11) (tCons (tVar 2) (tCons (tVar 3) (tCons (tVar 5) (tCons (tVar 6) tNil))))))))) (tRet (tC (.bl false))) tNext)
  (tSeq (tIfS (tNot (tB (tCall (sp_law_pages K A) [] E0 (tCons (tCall (sp_law_no_page K A) [] E0 (tCons (tVar 11) (tCons (tVar 14) tNil))) (tCons (tLst (tCons (tVar 14) tNil)) tNil))))) (tRet (tC (.bl false))) tNext)
  (tSeq (tIfS (tNot (tB (tCall (sp_law_wrong_list K A) [] E0 (tCons (tCall (sp_law_box K A) [] E0 (tCons (tVar 0) (tCons (tC (.int 3)) tNil))) (tCons (tVar 9) (tCons (tVar 2) (tCons (tVar 5) (tCons (tVar 6) tNil)))))))) (tRet (tC (.bl false))) tNext)
  (tSeq (tFor (iRng2 (tCons (tC (.int 4)) (tCons (tCB oMax2 (tCons (tC (.int 10)) (tCons (tCB oMin2 (tCons (tCB (rLenQ K) (tCons (tVar 0) tNil)) (tCons (tC (.int 24)) tNil))) tNil))) tNil))) (gName 15)
  (tSeq (tIfS (tNot (tB (tCall (sp_law_update K A) [] E0 (tCons (tCall (sp_law_box K A) [] E0 (tCons (tVar 0) (tCons (tVar 15) tNil))) (tCons (tVar 11) (tCons (tVar 9) (tCons (tVar 2) (tCons (tVar 3) (tCons (tVar 5) (tCons (tVar 6) tNil)))))))))) (tRet (tC (.bl false))) tNext)
  (tIfS (tNot (tB (tCall (sp_law_pages K A) [] E0 (tCons (tMeth A.Standing "blanks" (sp_Standing_blanks K A) [] E0 (tVar 11) tNil) (tCons (tVar 6) tNil))))) (tRet (tC (.bl false))) tNext)))
  (tSeq (tAsg (tOp oMod (tCB oInt (tCons (tOp oAdd (tVar 5) (tC (.int 1))) tNil)) (tC (.int 61))) (gName 16))
  (tSeq (tIfS (tNot (tB (tCall (sp_law_fits K A) [] E0 (tCons (ClX.tCMeth A.Standing (sp_Standing_fresh K A) E0 (tC (.ref A.Standing)) (tCons (tVar 9) (tCons (tVar 16) tNil))) (tCons (tVar 9) (tCons (tVar 16) (tCons (tOp rRep (tLst (tCons (tVar 16) tNil)) (tVar 2)) tNil))))))) (tRet (tC (.bl false))) tNext)
  (tRet (tAndV (tCall (sp_law_fits K A) [] E0 (tCons (tVar 12) (tCons (tVar 9) (tCons (tVar 5) (tCons (tVar 7) tNil))))) (tCall (sp_law_fits K A) [] E0 (tCons (tVar 11) (tCons (tVar 9) (tCons (tVar 5) (tCons (tVar 6) tNil)))))))))))))))))))))))))))))

theorem rd_law {K : PySem.W.Frag} {A : CA} {vs : List V} {H : Hp} {Q : VK} {E : XK} (h : sp_law K A vs H Q E) :
    t_law K A { nx := fun _ H' => Q .non H', rt := Q } (start ["script", "world", "pages", "rows", "box", "lines", "blank", "other", "number", "web", "passed", "standing", "second", "asked", "far", "place", "more"] vs) H := by
  obtain ⟨a, ns, rfl, ht, hn, q⟩ := h
  unfold t_law
  walk_at "go"
  refine ⟨a, 0, ns, rfl, ht, by decide, hn, fun s0 H1 hs0 e1 S1 => ?_⟩
  walk_at "go"
  refine ⟨s0, rfl, S1, fun n rows us p l H2 n0 n1 hR hul hp hl nlp b2 S2 gl gp hP => ?_⟩
  have e2 := Same.butN e1 b2 hs0
  have ht2 := SqL.same ht e2
  clear b2 S2 S1 hs0 e1 hp hl
  walk_at "go"
  refine ⟨a, 1, ns, rfl, ht2, by decide, hn, fun s1 H3 hs1 e3 S3 => ?_⟩
  have gp3 := e3 _ _ gp
  have hP3 := PRs.same e3 hP
  walk_at "go"
  refine ⟨s1, rfl, S3, fun L H4 L0 L1 b4 S4 => ?_⟩
  have np : p ≠ s1 := ne_of_none gp hs1
  have gp4 := b4.at np gp3
  have hP4 := PRs.but b4 S3 hP3
  walk_at "go"
  refine ⟨s1, p, n, L, us, rows, rfl, S4, gp4, np, hP4, hul, n0, n1, L0, L1, fun bs pb H5 hB hpb b5 S5 g5 => ?_⟩
  have e5 := Same.butN e3 (b4.trans b5) hs1
  have gp5 := e5 _ _ gp
  have hP5 := PRs.same e5 hP
  have ht5 := SqL.same ht2 e5
  have bl := hB.len
  clear e3 S3 gp3 hP3 b4 S4 gp4 hP4 b5 hpb ht2 ht gp hP gl e2 e5 hs1 S5 np nlp
  walk_at "go"
  refine lcL (xs := bs.map V.int) (fun Dl i H' => Same H5 H' ∧ H' Dl = some (.lst (((bs.take i).map fun b => L - b).map V.int))) (fun Dl hD => ⟨same_new hD, upd_same⟩) (fun Dl i H' hD hi ⟨e, _⟩ => SqL.of (e _ _ g5)) ?_ ?_
  · rintro Dl i y H' hD hy ⟨e, gD⟩
    obtain ⟨b, hb, rfl⟩ : ∃ b, bs[i]? = some b ∧ y = V.int b := by
      rw [List.getElem?_map] at hy
      cases e : bs[i]? with
      | none => rw [e] at hy; cases hy
      | some b => rw [e] at hy; exact ⟨b, rfl, (Option.some.inj hy).symm⟩
    have sl : (((bs.take i).map fun b => L - b).map V.int).length < sizeLine := small1000 (by rw [List.length_map, List.length_map, List.length_take]; omega)
    walk_at "go"
    refine ⟨same_mut e hD, ?_⟩
    rw [List.take_succ, hb, List.map_append, List.map_append]
    exact upd_same
  rintro ob H6 hob ⟨e6, g6⟩
  rw [List.length_map, List.take_length] at g6
  have hB2 : BK L n.toNat (bs.map fun b => L - b) := ⟨by rw [List.length_map]; exact bl, fun c hc => by
    obtain ⟨b, hb, rfl⟩ := List.mem_map.mp hc
    have := hB.bd b hb
    omega⟩
  have gp6 := e6 _ _ gp5
  have hP6 := PRs.same e6 hP5
  have g56 := e6 _ _ g5
  have ht6 := SqL.same ht5 e6
  clear gp5 hP5 g5 ht5 e6 hob
  walk_at "go"
  intro l7 hl7
  have e7 := same_new (o := .lst us) hl7
  have g7 : (upd H6 l7 (.lst us)) l7 = some (.lst us) := upd_same
  have hP7 := PRs.same e7 hP6
  have gp7 := e7 _ _ gp6
  have g57 := e7 _ _ g56
  have g67 := e7 _ _ g6
  have ht7 := SqL.same ht6 e7
  generalize upd H6 l7 (.lst us) = H7 at e7 g7 hP7 gp7 g57 g67 ht7
  clear gp6 hP6 g56 g6 ht6 hl7 e7
  walk_at "go"
  intro x dx hx hdx nx
  refine i_web hx hdx nx g7 hP7 (by omega) n0 (by omega) hR fun rs H8 hS hRs e8 hW _ => ⟨rfl, ?_⟩
  have hP8 := PRs.same e8 hP7
  have gp8 := e8 _ _ gp7
  have g58 := e8 _ _ g57
  have g68 := e8 _ _ g67
  have ht8 := SqL.same ht7 e8
  clear hx hdx nx g7 hP7 gp7 g57 g67 ht7 e8
  walk_at "go"
  intro pd hpd
  have e9 := same_new (o := .lst (bs.map V.int)) hpd
  have g9 : (upd H8 pd (.lst (bs.map V.int))) pd = some (.lst (bs.map V.int)) := upd_same
  generalize upd H8 pd (.lst (bs.map V.int)) = H9 at e9 g9
  walk_at "go"
  intro st dx9 hst hdx9 nx9
  refine i_standing hst hdx9 nx9 (hW.same e9) n0 (by omega) g9 hB fun H10 N10 e10 hS10 => ⟨rfl, ?_⟩
  have E10 := e9.trans e10
  have g10 := e10 _ _ g9
  have c10 : Same H8 (cutL pd H10) := cutL_of E10 hpd
  have St10 : StAt A (cutL pd H10) st x n rs L bs := (N10.cut g9).at' (hW.same c10)
  have go10 := E10 _ _ g68
  clear hst hdx9 nx9 N10 hS10 e10 e9 g9
  walk_at "go"
  intro l11 hl11
  have e11 := same_new (o := .lst ((bs.map fun b => L - b).map V.int)) hl11
  have g11 : (upd H10 l11 (.lst ((bs.map fun b => L - b).map V.int))) l11 = some (.lst ((bs.map fun b => L - b).map V.int)) := upd_same
  have g111 := keep (o' := .lst ((bs.map fun b => L - b).map V.int)) g10 hl11
  generalize upd H10 l11 (.lst ((bs.map fun b => L - b).map V.int)) = H11 at e11 g11 g111
  walk_at "go"
  intro st2 dx12 hst2 hdx12 nx12
  refine i_standing hst2 hdx12 nx12 ((hW.same E10).same e11) n0 (by omega) g11 hB2 fun H12 N12 e12 hS12 => ⟨rfl, ?_⟩
  have E12 := e11.trans e12
  have g12 := e12 _ _ g111
  have cB : Same (cutL pd H10) (cutL pd H12) := cutL_same E12
  have c8 := c10.trans cB
  have St12 := St10.same cB
  have Su12 : StAt A (cutL pd H12) st2 x n rs L (bs.map fun b => L - b) := (N12.cut g111).at' (hW.same c8)
  have W12 := hW.same c8
  have gp12 := c8 _ _ gp8
  have hP12 := PRs.same c8 hP8
  have gb12 := c8 _ _ g58
  have go12 := c8 _ _ g68
  have ht12 := SqL.same ht8 c8
  have BH : Same (cutL pd H12) H12 := cutL_sub
  have nB : (cutL pd H12) pd = none := cutL_none
  generalize cutL pd H12 = B at BH nB St12 Su12 W12 gp12 hP12 gb12 go12 ht12
  clear cB c8 c10 St10 go10 hst2 hdx12 nx12 N12 hS12 e12 E12 e11 g11 g111 hl11 E10 g10 hpd hP8 gp8 g58 g68 ht8 hW
  have gb := BH _ _ gb12
  have P : EqH A B st x x p pb n L us rows rs bs := ⟨St12, W12, hR, hS, hB, gp12, hP12, gb12, hul, n0, n1, L0, L1⟩
  walk_at "go"
  refine i_pages (xs := bs) g12 gb (by omega) ?_
  refine ⟨true, rfl, w_iteNT ?_⟩
  walk_at "go"
  refine ⟨st, x, pb, n, L, rs, bs, rfl, St12.same BH, hB, gb, n0, n1, L0, L1, fun H13 e13 => ⟨true, rfl, w_iteNT ?_⟩⟩
  have B13 := BH.trans e13
  have g13 := e13 _ _ g12
  clear e13 g12 gb BH
  walk_at "go"
  refine w_setL g13 (ixn (j := 0) rfl (by rw [List.length_map]; omega)) ?_
  have B14 := same_mut (o := .lst ((bs.map V.int).set 0 (.int (-1)))) B13 nB
  have g14 : (upd H13 pd (.lst ((bs.map V.int).set 0 (.int (-1))))) pd = some (.lst ((bs.map V.int).set 0 (.int (-1)))) := upd_same
  generalize upd H13 pd (.lst ((bs.map V.int).set 0 (.int (-1)))) = H14 at B14 g14
  have sl14 : ((bs.map V.int).set 0 (.int (-1))).length < sizeLine := small1000 (by rw [List.length_set, List.length_map]; omega)
  walk_at "go"
  have B15 := same_mut (o := .lst ((bs.map V.int).set 0 (.int (-1)) ++ [V.int L])) B14 nB
  generalize upd H14 pd (.lst ((bs.map V.int).set 0 (.int (-1)) ++ [V.int L])) = H15 at B15
  clear B14 g14 sl14 B13 g13 nB
  refine ⟨a, 2, ns, rfl, SqL.same ht12 B15, by decide, hn, fun s2 H16 hs2 e16 S16 => ?_⟩
  have f16 : Fix s2 B H16 := ⟨B15.free hs2, B15.trans e16⟩
  clear hs2 e16 B15
  walk_at "go"
  refine ⟨s2, n, rfl, S16, n0, n1, fun far H17 hfar b17 S17 => ?_⟩
  have f17 := f16.but b17
  clear f16 b17 S16
  walk_at "go"
  refine ⟨B, s2, st, x, p, pb, n, L, us, rows, rs, bs, rfl, S17, f17, P, fun H18 S18 f18 => ⟨true, rfl, w_iteNT ?_⟩⟩
  have B18 := f18.all
  clear f18 f17 S17 S18
  walk_at "go"
  refine ⟨st, x, n, L, far, rs, bs, rfl, St12.same B18, hB, n0, by omega, hfar, fun q19 H19 hq19 e19 g19 => ?_⟩
  have B19 := B18.trans e19
  clear B18 e19
  walk_at "go"
  intro l20 hl20
  walk_at "go"
  refine i_pages (xs := [far]) (keep g19 hl20) upd_same (by simp) ?_
  have B20 := B19.trans (same_new (o := .lst [V.int far]) hl20)
  generalize upd H19 l20 (.lst [V.int far]) = H20 at B20
  clear B19 g19 hl20 hq19
  refine ⟨true, rfl, w_iteNT ?_⟩
  walk_at "go"
  refine ⟨a, 3, ns, rfl, SqL.same ht12 B20, by decide, hn, fun s3 H21 hs3 e21 S21 => ?_⟩
  have f21 : Fix s3 B H21 := ⟨B20.free hs3, B20.trans e21⟩
  walk_at "go"
  refine ⟨B, s3, x, pb, n, L, rs, bs, rfl, S21, f21, W12, gb12, hB, n0, n1, L0, L1, fun H22 S22 f22 => ⟨true, rfl, w_iteNT ?_⟩⟩
  have B22 := f22.all
  clear f22 f21 S21 S22 hs3 e21 B20
  have ht22 := SqL.same ht12 B22
  walk_at "go"
  generalize ((if (if (24 : Int) < ((ns.map V.int).length : Int) then (24 : Int) else ((ns.map V.int).length : Int)) > 10 then if (24 : Int) < ((ns.map V.int).length : Int) then (24 : Int) else ((ns.map V.int).length : Int) else 10) - 4).toNat = T
  refine forR (fun i σ H' => ∃ k15 : Option V, σ = [some (.ref a), some (.ref l), some (.int n), some (.ref p), some (.ref s1), some (.int L), some (.ref pb), some (.ref ob), none, some (.ref x), some (.ref pd), some (.ref st), some (.ref st2), some (.ref s2), some (.int far), k15, none] ∧ Same B H') ?_ ?_ ?_
  · exact ⟨none, rfl, B22⟩
  · rintro i σ H23 hi ⟨k15, rfl, B23⟩
    walk_at "go"
    refine ⟨a, 4 + (i : Int), ns, rfl, SqL.same ht12 B23, by omega, hn, fun s4 H24 hs4 e24 S24 => ?_⟩
    have f24 : Fix s4 B H24 := ⟨B23.free hs4, B23.trans e24⟩
    walk_at "go"
    refine ⟨B, s4, st, x, p, pb, n, L, us, rows, rs, bs, rfl, S24, f24, St12, hRs, hR, hS.perm, hB, gp12, hP12, hul, gb12, n0, n1, L0, L1, fun H25 f25 => ⟨true, rfl, w_iteNT ?_⟩⟩
    have B25 := f25.all
    obtain ⟨dy, lc, h25, _⟩ := (St12.same B25).ex
    walk_at "go"
    refine w_mth2 h25 (st_no (by decide) (by decide) (by decide)) ?_
    walk_at "go"
    refine ⟨st, x, n, L, rs, bs, rfl, St12.same B25, fun q26 H26 hq26 e26 g26 => ?_⟩
    walk_at "go"
    refine i_pages (xs := bs) g26 ((B25.trans e26) _ _ gb12) (by omega) ?_
    refine ⟨true, rfl, w_iteNT ?_⟩
    exact ⟨_, rfl, B25.trans e26⟩
  · rintro σ H23 ⟨k15, rfl, B23⟩
    walk_at "go"
    have M0 : 0 ≤ (L + 1) % 61 := Int.emod_nonneg _ (by decide)
    have M1 : (L + 1) % 61 ≤ 60 := by have := Int.emod_lt_of_pos (L + 1) (b := 61) (by decide); omega
    generalize (L + 1) % 61 = M at M0 M1
    refine w_cmeth ?_
    walk_at "go"
    refine ⟨rfl, ?_⟩
    walk_at "go"
    refine ⟨x, n, M, rs, rfl, W12.same B23, n0, by omega, M0, fun st3 H24 N24 e24 hS24 => ?_⟩
    have B24 := B23.trans e24
    walk_at "go"
    intro l25 hl25
    have e25 := same_new (o := .lst [V.int M]) hl25
    have g25 : (upd H24 l25 (.lst [V.int M])) l25 = some (.lst [V.int M]) := upd_same
    have hS25 := hS24.same e25
    have B25 := B24.trans e25
    generalize upd H24 l25 (.lst [V.int M]) = H25 at e25 g25 hS25 B25
    walk_at "go"
    refine w_rep g25 (by omega) (by omega) (Nat.le_of_lt (small1000 (by rw [List.length_singleton]; omega))) fun l26 hl26 => ?_
    rw [flat_one]
    have e26 := same_new (o := .lst (List.replicate n.toNat (V.int M))) hl26
    have g26 : (upd H25 l26 (.lst (List.replicate n.toNat (V.int M)))) l26 = some (.lst ((List.replicate n.toNat M).map V.int)) := by rw [upd_same, List.map_replicate]
    have hS26 := hS25.same e26
    have B26 := B25.trans e26
    generalize upd H25 l26 (.lst (List.replicate n.toNat (V.int M))) = H26 at e26 g26 hS26 B26
    walk_at "go"
    refine ⟨st3, x, l26, n, M, rs, _, rfl, hS26, BK.rep M0, g26, n0, n1, M0, M1, fun H27 e27 => ⟨true, rfl, w_iteNT ?_⟩⟩
    have B27 := B26.trans e27
    walk_at "go"
    refine ⟨st2, x, ob, n, L, rs, _, rfl, Su12.same B27, hB2, B27 _ _ go12, n0, n1, L0, L1, fun H28 e28 => ?_⟩
    have B28 := B27.trans e28
    walk_at "go"
    exact ⟨st, x, pb, n, L, rs, bs, rfl, St12.same B28, hB, B28 _ _ gb12, n0, n1, L0, L1, fun H29 e29 => q H29⟩
end G

namespace G
open PySem L2 GX
structure CT (K : PySem.W.Frag) (A : CA) : Prop where
  c_Web : Cls K A.Web
  n_Web__arrows : NoAttr K A.Web "_arrows"
  n_Web__holders : NoAttr K A.Web "_holders"
  n_Web__known : NoAttr K A.Web "_known"
  n_Web__targets : NoAttr K A.Web "_targets"
  n_Web_pages : NoAttr K A.Web "pages"
  e_NoPage : OexC K A.NoPage
  f_NoPage_page : PySem.W.findIn K (.ref A.NoPage) "page" = some none
  e_InvalidPointer : OexC K A.InvalidPointer
  f_InvalidPointer_index : PySem.W.findIn K (.ref A.InvalidPointer) "index" = some none
  c_Standing : Cls K A.Standing
  n_Standing__blank : NoAttr K A.Standing "_blank"
  n_Standing_lines : NoAttr K A.Standing "lines"
  n_Standing_web : NoAttr K A.Standing "web"
  e_NoLine : OexC K A.NoLine
  f_NoLine_page : PySem.W.findIn K (.ref A.NoLine) "page" = some none
  e_InvalidStanding : OexC K A.InvalidStanding
  f_InvalidStanding_page : PySem.W.findIn K (.ref A.InvalidStanding) "page" = some none
  x_NoPage : ExcC K A.NoPage
  x_NoLine : ExcC K A.NoLine
  x_InvalidStanding : ExcC K A.InvalidStanding
  xf_NoPage : XfC K A.NoPage
  xf_NoLine : XfC K A.NoLine
  xf_InvalidStanding : XfC K A.InvalidStanding
  m_NoPage : PySem.W.exmOne K (.ref A.NoPage) (.ref A.NoPage) = some true
  m_NoLine : PySem.W.exmOne K (.ref A.NoLine) (.ref A.NoLine) = some true
  m_InvalidStanding : PySem.W.exmOne K (.ref A.InvalidStanding) (.ref A.InvalidStanding) = some true
  mf_NoLine_NoPage : PySem.W.exmOne K (.ref A.NoLine) (.ref A.NoPage) = some false
  k_NoPage_OnecopyError : PySem.W.kitOne K (.ref A.NoPage) (.ref A.OnecopyError) = some true
  k_NoPage_ValueError : PySem.W.kitOne K (.ref A.NoPage) (.type "ValueError") = some true
  k_NoLine_OnecopyError : PySem.W.kitOne K (.ref A.NoLine) (.ref A.OnecopyError) = some true
  k_NoLine_ValueError : PySem.W.kitOne K (.ref A.NoLine) (.type "ValueError") = some true
  k_InvalidStanding_OnecopyError : PySem.W.kitOne K (.ref A.InvalidStanding) (.ref A.OnecopyError) = some true
  k_InvalidStanding_ValueError : PySem.W.kitOne K (.ref A.InvalidStanding) (.type "ValueError") = some true
  ka_NoPage : PySem.W.kitAny K (.ref A.NoPage) [.ref A.NoLine, .ref A.LotError, .ref A.InvalidStanding] = some false
  ka_NoLine : PySem.W.kitAny K (.ref A.NoLine) [.ref A.NoPage, .ref A.LotError, .ref A.InvalidStanding] = some false
  ka_InvalidStanding : PySem.W.kitAny K (.ref A.InvalidStanding) [.ref A.NoPage, .ref A.NoLine, .ref A.LotError] = some false
  ka_NoPage_two : PySem.W.kitAny K (.ref A.NoPage) [.ref A.NoLine, .ref A.InvalidStanding] = some false
  i_Web : InsC K A.Web
  kr_Web : PySem.W.kitOne K (.type "list") (.ref A.Web) = some false
  i_Standing : InsC K A.Standing
  kr_Standing : PySem.W.kitOne K (.type "list") (.ref A.Standing) = some false
section
variable {K : PySem.W.Frag} {A : CA} (C : CT K A)
include C
theorem CT.b : CTB K A := ⟨C.c_Web, C.n_Web__arrows, C.n_Web__holders, C.n_Web__known, C.n_Web__targets, C.n_Web_pages, C.e_NoPage, C.f_NoPage_page, C.e_InvalidPointer, C.f_InvalidPointer_index⟩
theorem CT.s : CTS K A := ⟨C.b, C.c_Standing, C.n_Standing__blank, C.n_Standing_lines, C.n_Standing_web, C.e_NoLine, C.f_NoLine_page, C.e_InvalidStanding, C.f_InvalidStanding_page⟩
theorem CT.i : CTI K A := ⟨C.i_Web.ha, C.i_Web.hn, C.i_Web.ht, C.i_Web.hm, C.kr_Web⟩
theorem CT.j : CTJ K A := ⟨C.i_Standing, C.kr_Standing⟩
theorem CT.r : CTR K A := ⟨⟨C.x_NoPage, C.m_NoPage, C.k_NoPage_OnecopyError, C.k_NoPage_ValueError⟩, ⟨C.x_NoLine, C.m_NoLine, C.k_NoLine_OnecopyError, C.k_NoLine_ValueError⟩, ⟨C.x_InvalidStanding, C.m_InvalidStanding, C.k_InvalidStanding_OnecopyError, C.k_InvalidStanding_ValueError⟩,
  C.mf_NoLine_NoPage, C.ka_NoPage, C.ka_NoLine, C.ka_InvalidStanding, C.ka_NoPage_two⟩
end
end G

namespace G
open PySem L2
structure Txt (mg : Str → Option Value) (A : CA) : Prop where
  b_ValueError : mg "ValueError" = none
  b_bool : mg "bool" = none
  b_enumerate : mg "enumerate" = none
  b_int : mg "int" = none
  b_isinstance : mg "isinstance" = none
  b_len : mg "len" = none
  b_list : mg "list" = none
  b_max : mg "max" = none
  b_min : mg "min" = none
  b_range : mg "range" = none
  b_reversed : mg "reversed" = none
  b_set : mg "set" = none
  b_sorted : mg "sorted" = none
  b_sum : mg "sum" = none
  g_InvalidStanding : mg "InvalidStanding" = some (.ref A.InvalidStanding)
  g_LotError : mg "LotError" = some (.ref A.LotError)
  g_NoLine : mg "NoLine" = some (.ref A.NoLine)
  g_NoPage : mg "NoPage" = some (.ref A.NoPage)
  g_OnecopyError : mg "OnecopyError" = some (.ref A.OnecopyError)
  g_Standing : mg "Standing" = some (.ref A.Standing)
  g_Web : mg "Web" = some (.ref A.Web)
variable {P : Program} {w : World} {K : PySem.W.Frag} {mg : Str → Option Value} {base : Heap} {A : CA}
theorem sc_InvalidPointer_init : FnScope ["self", "index"] ["self", "index"] (defScope s_InvalidPointer_init) := ⟨rfl, rfl, rfl, by decide +kernel, rfl, by decide +kernel, by decide +kernel⟩
theorem fn_InvalidPointer_init {f : Addr} {fd : FuncData} (F : Fun K "__init__" "InvalidPointer.__init__" s_InvalidPointer_init f fd) : FnOk P w K mg base CX0 1 f fd ["self", "index"] (GX.sp_err K A.InvalidPointer "index") :=
  F.ok sc_InvalidPointer_init (fun vs H Q E h => by obtain ⟨_, _, rfl, _⟩ := h; rfl) (fun cdv Ar outer s H vs Q E hr h => ⟨GX.t_err K "index", (pss_one (ps_ost (pv 0) (pv 1))), GX.rd_err h⟩)
theorem bi_InvalidPointer_init {f : Addr} {fd : FuncData} (F : Fun K "__init__" "InvalidPointer.__init__" s_InvalidPointer_init f fd) : Binds K fd ["self", "index"] [] := F.binds fun _ _ _ _ _ _ us hl => match us, hl with | [_, _], _ => rfl
theorem sc_InvalidStanding_init : FnScope ["self", "page"] ["self", "page"] (defScope s_InvalidStanding_init) := ⟨rfl, rfl, rfl, by decide +kernel, rfl, by decide +kernel, by decide +kernel⟩
theorem fn_InvalidStanding_init {f : Addr} {fd : FuncData} (F : Fun K "__init__" "InvalidStanding.__init__" s_InvalidStanding_init f fd) : FnOk P w K mg base CX0 1 f fd ["self", "page"] (GX.sp_err K A.InvalidStanding "page") :=
  F.ok sc_InvalidStanding_init (fun vs H Q E h => by obtain ⟨_, _, rfl, _⟩ := h; rfl) (fun cdv Ar outer s H vs Q E hr h => ⟨GX.t_err K "page", (pss_one (ps_ost (pv 0) (pv 1))), GX.rd_err h⟩)
theorem bi_InvalidStanding_init {f : Addr} {fd : FuncData} (F : Fun K "__init__" "InvalidStanding.__init__" s_InvalidStanding_init f fd) : Binds K fd ["self", "page"] [] := F.binds fun _ _ _ _ _ _ us hl => match us, hl with | [_, _], _ => rfl
theorem sc_NoLine_init : FnScope ["self", "page"] ["self", "page"] (defScope s_NoLine_init) := ⟨rfl, rfl, rfl, by decide +kernel, rfl, by decide +kernel, by decide +kernel⟩
theorem fn_NoLine_init {f : Addr} {fd : FuncData} (F : Fun K "__init__" "NoLine.__init__" s_NoLine_init f fd) : FnOk P w K mg base CX0 1 f fd ["self", "page"] (GX.sp_err K A.NoLine "page") :=
  F.ok sc_NoLine_init (fun vs H Q E h => by obtain ⟨_, _, rfl, _⟩ := h; rfl) (fun cdv Ar outer s H vs Q E hr h => ⟨GX.t_err K "page", (pss_one (ps_ost (pv 0) (pv 1))), GX.rd_err h⟩)
theorem bi_NoLine_init {f : Addr} {fd : FuncData} (F : Fun K "__init__" "NoLine.__init__" s_NoLine_init f fd) : Binds K fd ["self", "page"] [] := F.binds fun _ _ _ _ _ _ us hl => match us, hl with | [_, _], _ => rfl
theorem sc_NoPage_init : FnScope ["self", "page"] ["self", "page"] (defScope s_NoPage_init) := ⟨rfl, rfl, rfl, by decide +kernel, rfl, by decide +kernel, by decide +kernel⟩
theorem fn_NoPage_init {f : Addr} {fd : FuncData} (F : Fun K "__init__" "NoPage.__init__" s_NoPage_init f fd) : FnOk P w K mg base CX0 1 f fd ["self", "page"] (GX.sp_err K A.NoPage "page") :=
  F.ok sc_NoPage_init (fun vs H Q E h => by obtain ⟨_, _, rfl, _⟩ := h; rfl) (fun cdv Ar outer s H vs Q E hr h => ⟨GX.t_err K "page", (pss_one (ps_ost (pv 0) (pv 1))), GX.rd_err h⟩)
theorem bi_NoPage_init {f : Addr} {fd : FuncData} (F : Fun K "__init__" "NoPage.__init__" s_NoPage_init f fd) : Binds K fd ["self", "page"] [] := F.binds fun _ _ _ _ _ _ us hl => match us, hl with | [_, _], _ => rfl
theorem sc_law_box : FnScope ["script", "place", "cell"] ["script", "place"] (defScope s_law_box) := ⟨rfl, rfl, rfl, by decide +kernel, rfl, by decide +kernel, by decide +kernel⟩
theorem ln_law_box {vs : List V} {H : Hp} {Q : VK} {E : XK} (h : sp_law_box K A vs H Q E) : vs.length = 2 := by
  first | (obtain ⟨_, rfl, _⟩ := h; rfl) | (obtain ⟨_, _, rfl, _⟩ := h; rfl) | (obtain ⟨_, _, _, rfl, _⟩ := h; rfl) | (obtain ⟨_, _, _, _, rfl, _⟩ := h; rfl) | (obtain ⟨_, _, _, _, _, rfl, _⟩ := h; rfl) | (obtain ⟨_, _, _, _, _, _, rfl, _⟩ := h; rfl) | (obtain ⟨_, _, _, _, _, _, _, rfl, _⟩ := h; rfl) | (obtain ⟨_, _, _, _, _, _, _, _, rfl, _⟩ := h; rfl) | (obtain ⟨_, _, _, _, _, _, _, _, _, rfl, _⟩ := h; rfl) | (obtain ⟨_, _, _, _, _, _, _, _, _, _, rfl, _⟩ := h; rfl) | (obtain ⟨_, _, _, _, _, _, _, _, _, _, _, rfl, _⟩ := h; rfl) | (obtain ⟨_, _, _, _, _, _, _, _, _, _, _, _, rfl, _⟩ := h; rfl) | (obtain ⟨_, _, _, _, _, _, _, _, _, _, _, _, _, rfl, _⟩ := h; rfl) | (obtain ⟨_, _, _, _, _, _, _, _, _, _, _, _, _, _, rfl, _⟩ := h; rfl) | (obtain ⟨_, _, _, _, _, _, _, _, _, _, _, _, _, _, _, rfl, _⟩ := h; rfl) | (obtain ⟨_, _, _, _, _, _, _, _, _, _, _, _, _, _, _, _, rfl, _⟩ := h; rfl) | (obtain ⟨_, _, _, _, _, _, _, _, _, _, _, _, _, _, _, _, _, rfl, _⟩ := h; rfl) | (obtain ⟨_, _, _, _, _, _, _, _, _, _, _, _, _, _, _, _, _, _, rfl, _⟩ := h; rfl) | (obtain ⟨_, _, _, _, _, _, _, _, _, _, _, _, _, _, _, _, _, _, _, rfl, _⟩ := h; rfl)
theorem fn_law_box {f : Addr} {fd : FuncData} (F : Fun K "_law_box" "_law_box" s_law_box f fd) (T : Txt mg A) (C : CT K A)  : FnOk P w K mg base CX0 1 f fd ["script", "place"] (sp_law_box K A) :=
  F.ok sc_law_box (fun vs H Q E h => ln_law_box h) (fun cdv Ar outer s H vs Q E hr h => ⟨t_law_box K A, (pss_cons (ps_set (i := 2) sc_law_box.nd rfl (by first | exact Or.inl rfl | exact Or.inr rfl) (pe_op op_add (pe_op op_mul (pv 1) pe_int) pe_int))
  (C8.pss_cut (ps_if (pt_cmpR op_lt (pv 1) (pe_callB call_len_seq (by rfl) T.b_len (by decide +kernel) (pa_cons (pv 0) pa_nil)) (nomark _)) (pss_one (ps_set (i := 2) sc_law_box.nd rfl (by first | exact Or.inl rfl | exact Or.inr rfl) (pe_ix ix_list (pv 0) (pv 1) (fun _ _ => rfl)))) (pss_one (ps_if (pt_cmpR op_gt (pe_callB call_len_seq (by rfl) T.b_len (by decide +kernel) (pa_cons (pv 0) pa_nil)) pe_int (nomark _)) (pss_one (ps_set (i := 2) sc_law_box.nd rfl (by first | exact Or.inl rfl | exact Or.inr rfl) (pe_op op_mod (pe_callTy call_int1 (by rfl) T.b_int (by decide +kernel) (pa_cons (pe_op op_add (pe_op op_mul (pe_ix ix_list (pv 0) (pe_op op_mod (pe_callTy call_int1 (by rfl) T.b_int (by decide +kernel) (pa_cons (pv 1) pa_nil)) (pe_callB call_len_seq (by rfl) T.b_len (by decide +kernel) (pa_cons (pv 0) pa_nil))) (fun _ _ => rfl)) pe_int) (pe_op op_mul (pv 1) pe_int)) pa_nil)) pe_int))) pss_nil)))
  (pss_cons (ps_if (pt_cmpR op_lt (pv 2) (pe_op op_pow pe_int pe_int) (nomark _)) (pss_one (ps_ret (pe_lst (pa_cons pe_int (pa_cons (pv 2) (pa_cons pe_int pa_nil)))))) pss_nil)
  (pss_one (ps_ret (pe_lst (pa_cons (pv 2) (pa_cons (pv 2) (pa_cons pe_int pa_nil))))))))), rd_law_box h⟩)
theorem bi_law_box {f : Addr} {fd : FuncData} (F : Fun K "_law_box" "_law_box" s_law_box f fd) : Binds K fd ["script", "place"] [] := F.binds fun _ _ _ _ _ _ us hl => match us, hl with | [_, _], _ => rfl
theorem sc_law_draw : FnScope ["box", "many", "digit", "first", "second", "third"] ["box", "many"] (defScope s_law_draw) := ⟨rfl, rfl, rfl, by decide +kernel, rfl, by decide +kernel, by decide +kernel⟩
theorem ln_law_draw {vs : List V} {H : Hp} {Q : VK} {E : XK} (h : sp_law_draw K A vs H Q E) : vs.length = 2 := by
  first | (obtain ⟨_, rfl, _⟩ := h; rfl) | (obtain ⟨_, _, rfl, _⟩ := h; rfl) | (obtain ⟨_, _, _, rfl, _⟩ := h; rfl) | (obtain ⟨_, _, _, _, rfl, _⟩ := h; rfl) | (obtain ⟨_, _, _, _, _, rfl, _⟩ := h; rfl) | (obtain ⟨_, _, _, _, _, _, rfl, _⟩ := h; rfl) | (obtain ⟨_, _, _, _, _, _, _, rfl, _⟩ := h; rfl) | (obtain ⟨_, _, _, _, _, _, _, _, rfl, _⟩ := h; rfl) | (obtain ⟨_, _, _, _, _, _, _, _, _, rfl, _⟩ := h; rfl) | (obtain ⟨_, _, _, _, _, _, _, _, _, _, rfl, _⟩ := h; rfl) | (obtain ⟨_, _, _, _, _, _, _, _, _, _, _, rfl, _⟩ := h; rfl) | (obtain ⟨_, _, _, _, _, _, _, _, _, _, _, _, rfl, _⟩ := h; rfl) | (obtain ⟨_, _, _, _, _, _, _, _, _, _, _, _, _, rfl, _⟩ := h; rfl) | (obtain ⟨_, _, _, _, _, _, _, _, _, _, _, _, _, _, rfl, _⟩ := h; rfl) | (obtain ⟨_, _, _, _, _, _, _, _, _, _, _, _, _, _, _, rfl, _⟩ := h; rfl) | (obtain ⟨_, _, _, _, _, _, _, _, _, _, _, _, _, _, _, _, rfl, _⟩ := h; rfl) | (obtain ⟨_, _, _, _, _, _, _, _, _, _, _, _, _, _, _, _, _, rfl, _⟩ := h; rfl) | (obtain ⟨_, _, _, _, _, _, _, _, _, _, _, _, _, _, _, _, _, _, rfl, _⟩ := h; rfl) | (obtain ⟨_, _, _, _, _, _, _, _, _, _, _, _, _, _, _, _, _, _, _, rfl, _⟩ := h; rfl)
theorem fn_law_draw {f : Addr} {fd : FuncData} (F : Fun K "_law_draw" "_law_draw" s_law_draw f fd) (T : Txt mg A) (C : CT K A)  : FnOk P w K mg base CX0 1 f fd ["box", "many"] (sp_law_draw K A) :=
  F.ok sc_law_draw (fun vs H Q E h => ln_law_draw h) (fun cdv Ar outer s H vs Q E hr h => ⟨t_law_draw K A, (pss_cons (ps_if (pt_cmpR op_gt (pe_ix ix_list (pv 0) pe_int (fun _ _ => rfl)) pe_int (nomark _)) (pss_cons (ps_set (i := 2) sc_law_draw.nd rfl (by first | exact Or.inl rfl | exact Or.inr rfl) (pe_op op_mod (pe_callTy call_int1 (by rfl) T.b_int (by decide +kernel) (pa_cons (pe_ix ix_list (pv 0) pe_int (fun _ _ => rfl)) pa_nil)) (pv 1)))
  (pss_cons (ps_asg (pe_op op_fdiv (pe_ix ix_list (pv 0) pe_int (fun _ _ => rfl)) (pv 1)) (pg_sub (pv 0) pe_int set_list))
  (pss_one (ps_ret (pv 2))))) pss_nil)
  (pss_cons (ps_asg (pe_op op_add (pe_ix ix_list (pv 0) pe_int (fun _ _ => rfl)) pe_int) (pg_sub (pv 0) pe_int set_list))
  (pss_cons (ps_set (i := 3) sc_law_draw.nd rfl (by first | exact Or.inl rfl | exact Or.inr rfl) (pe_op op_mod (pe_callTy call_int1 (by rfl) T.b_int (by decide +kernel) (pa_cons (pe_op op_add (pe_op op_add (pe_op op_mul (pe_ix ix_list (pv 0) pe_int (fun _ _ => rfl)) pe_int) (pe_op op_mul (pe_ix ix_list (pv 0) pe_int (fun _ _ => rfl)) pe_int)) pe_int) pa_nil)) pe_int))
  (pss_cons (ps_set (i := 4) sc_law_draw.nd rfl (by first | exact Or.inl rfl | exact Or.inr rfl) (pe_op op_mod (pe_callTy call_int1 (by rfl) T.b_int (by decide +kernel) (pa_cons (pe_op op_add (pe_op op_mul (pv 3) (pv 3)) (pe_op op_mul (pe_ix ix_list (pv 0) pe_int (fun _ _ => rfl)) pe_int)) pa_nil)) pe_int))
  (pss_cons (ps_set (i := 5) sc_law_draw.nd rfl (by first | exact Or.inl rfl | exact Or.inr rfl) (pe_op op_mod (pe_callTy call_int1 (by rfl) T.b_int (by decide +kernel) (pa_cons (pe_op op_add (pe_op op_mul (pv 4) (pv 4)) (pv 3)) pa_nil)) pe_int))
  (pss_one (ps_ret (pe_op op_mod (pe_callTy call_int1 (by rfl) T.b_int (by decide +kernel) (pa_cons (pe_op op_fdiv (pv 5) pe_int) pa_nil)) (pv 1))))))))), rd_law_draw h⟩)
theorem bi_law_draw {f : Addr} {fd : FuncData} (F : Fun K "_law_draw" "_law_draw" s_law_draw f fd) : Binds K fd ["box", "many"] [] := F.binds fun _ _ _ _ _ _ us hl => match us, hl with | [_, _], _ => rfl
theorem sc_law_clean : FnScope ["pages", "rows", "kept", "row"] ["pages", "rows"] (defScope s_law_clean) := ⟨rfl, rfl, rfl, by decide +kernel, rfl, by decide +kernel, by decide +kernel⟩
theorem ln_law_clean {vs : List V} {H : Hp} {Q : VK} {E : XK} (h : sp_law_clean K A vs H Q E) : vs.length = 2 := by
  first | (obtain ⟨_, rfl, _⟩ := h; rfl) | (obtain ⟨_, _, rfl, _⟩ := h; rfl) | (obtain ⟨_, _, _, rfl, _⟩ := h; rfl) | (obtain ⟨_, _, _, _, rfl, _⟩ := h; rfl) | (obtain ⟨_, _, _, _, _, rfl, _⟩ := h; rfl) | (obtain ⟨_, _, _, _, _, _, rfl, _⟩ := h; rfl) | (obtain ⟨_, _, _, _, _, _, _, rfl, _⟩ := h; rfl) | (obtain ⟨_, _, _, _, _, _, _, _, rfl, _⟩ := h; rfl) | (obtain ⟨_, _, _, _, _, _, _, _, _, rfl, _⟩ := h; rfl) | (obtain ⟨_, _, _, _, _, _, _, _, _, _, rfl, _⟩ := h; rfl) | (obtain ⟨_, _, _, _, _, _, _, _, _, _, _, rfl, _⟩ := h; rfl) | (obtain ⟨_, _, _, _, _, _, _, _, _, _, _, _, rfl, _⟩ := h; rfl) | (obtain ⟨_, _, _, _, _, _, _, _, _, _, _, _, _, rfl, _⟩ := h; rfl) | (obtain ⟨_, _, _, _, _, _, _, _, _, _, _, _, _, _, rfl, _⟩ := h; rfl) | (obtain ⟨_, _, _, _, _, _, _, _, _, _, _, _, _, _, _, rfl, _⟩ := h; rfl) | (obtain ⟨_, _, _, _, _, _, _, _, _, _, _, _, _, _, _, _, rfl, _⟩ := h; rfl) | (obtain ⟨_, _, _, _, _, _, _, _, _, _, _, _, _, _, _, _, _, rfl, _⟩ := h; rfl) | (obtain ⟨_, _, _, _, _, _, _, _, _, _, _, _, _, _, _, _, _, _, rfl, _⟩ := h; rfl) | (obtain ⟨_, _, _, _, _, _, _, _, _, _, _, _, _, _, _, _, _, _, _, rfl, _⟩ := h; rfl)
theorem fn_law_clean {f : Addr} {fd : FuncData} (F : Fun K "_law_clean" "_law_clean" s_law_clean f fd) (T : Txt mg A) (C : CT K A)  : FnOk P w K mg base CX0 1 f fd ["pages", "rows"] (sp_law_clean K A) :=
  F.ok sc_law_clean (fun vs H Q E h => ln_law_clean h) (fun cdv Ar outer s H vs Q E hr h => ⟨t_law_clean K A, (pss_cons (ps_set (i := 2) sc_law_clean.nd rfl (by first | exact Or.inl rfl | exact Or.inr rfl) (pe_lst pa_nil))
  (pss_cons (ps_for PassesOwn.never rfl (pi_list (pv 1)) (pg_name (i := 3) sc_law_clean.nd rfl (by first | exact Or.inl rfl | exact Or.inr rfl))
  (pss_one (ps_if (PW.pt (pw_and (pt_cmpR op_le pe_int (pe_ix ix_tup (pv 3) pe_int (fun _ _ => rfl)) (nomark _)) (pw_and (pt_cmpR op_lt (pe_ix ix_tup (pv 3) pe_int (fun _ _ => rfl)) (pv 0) (nomark _)) (pw_and (pt_cmpR op_le pe_int (pe_ix ix_tup (pv 3) pe_int (fun _ _ => rfl)) (nomark _)) (pw_and1 (pt_cmpR op_lt (pe_ix ix_tup (pv 3) pe_int (fun _ _ => rfl)) (pv 0) (nomark _))))))) (pss_one (ps_if (PW.pt (pw_and (pt_cmpR op_ne (pe_ix ix_tup (pv 3) pe_int (fun _ _ => rfl)) (pe_ix ix_tup (pv 3) pe_int (fun _ _ => rfl)) (nomark _)) (pw_and1 (pt_cmpR (op_notInD (hu65 hr)) (pv 3) (pv 2) (by rfl))))) (pss_one (ps_expr (pe_bm PySem.F.plainAttrs_list PySem.F.slot_list_append PySem.F.type_list_append mt_append (pv 2) (pa_cons (pv 3) pa_nil)))) pss_nil)) pss_nil)))
  (pss_one (ps_ret (pv 2))))), rd_law_clean h⟩)
theorem bi_law_clean {f : Addr} {fd : FuncData} (F : Fun K "_law_clean" "_law_clean" s_law_clean f fd) : Binds K fd ["pages", "rows"] [] := F.binds fun _ _ _ _ _ _ us hl => match us, hl with | [_, _], _ => rfl
theorem sc_law_free_rows : FnScope ["box", "pages", "rows", "k", "cell"] ["box", "pages"] (defScope s_law_free_rows) := ⟨rfl, rfl, rfl, by decide +kernel, rfl, by decide +kernel, by decide +kernel⟩
theorem ln_law_free_rows {vs : List V} {H : Hp} {Q : VK} {E : XK} (h : sp_law_free_rows K A vs H Q E) : vs.length = 2 := by
  first | (obtain ⟨_, rfl, _⟩ := h; rfl) | (obtain ⟨_, _, rfl, _⟩ := h; rfl) | (obtain ⟨_, _, _, rfl, _⟩ := h; rfl) | (obtain ⟨_, _, _, _, rfl, _⟩ := h; rfl) | (obtain ⟨_, _, _, _, _, rfl, _⟩ := h; rfl) | (obtain ⟨_, _, _, _, _, _, rfl, _⟩ := h; rfl) | (obtain ⟨_, _, _, _, _, _, _, rfl, _⟩ := h; rfl) | (obtain ⟨_, _, _, _, _, _, _, _, rfl, _⟩ := h; rfl) | (obtain ⟨_, _, _, _, _, _, _, _, _, rfl, _⟩ := h; rfl) | (obtain ⟨_, _, _, _, _, _, _, _, _, _, rfl, _⟩ := h; rfl) | (obtain ⟨_, _, _, _, _, _, _, _, _, _, _, rfl, _⟩ := h; rfl) | (obtain ⟨_, _, _, _, _, _, _, _, _, _, _, _, rfl, _⟩ := h; rfl) | (obtain ⟨_, _, _, _, _, _, _, _, _, _, _, _, _, rfl, _⟩ := h; rfl) | (obtain ⟨_, _, _, _, _, _, _, _, _, _, _, _, _, _, rfl, _⟩ := h; rfl) | (obtain ⟨_, _, _, _, _, _, _, _, _, _, _, _, _, _, _, rfl, _⟩ := h; rfl) | (obtain ⟨_, _, _, _, _, _, _, _, _, _, _, _, _, _, _, _, rfl, _⟩ := h; rfl) | (obtain ⟨_, _, _, _, _, _, _, _, _, _, _, _, _, _, _, _, _, rfl, _⟩ := h; rfl) | (obtain ⟨_, _, _, _, _, _, _, _, _, _, _, _, _, _, _, _, _, _, rfl, _⟩ := h; rfl) | (obtain ⟨_, _, _, _, _, _, _, _, _, _, _, _, _, _, _, _, _, _, _, rfl, _⟩ := h; rfl)
theorem fn_law_free_rows {f : Addr} {fd : FuncData} (F : Fun K "_law_free_rows" "_law_free_rows" s_law_free_rows f fd) (T : Txt mg A) (C : CT K A) (C_law_draw : C8.Cal P w K mg base 1 "_law_draw" (sp_law_draw K A) []) : FnOk P w K mg base CX0 2 f fd ["box", "pages"] (sp_law_free_rows K A) :=
  F.ok sc_law_free_rows (fun vs H Q E h => ln_law_free_rows h) (fun cdv Ar outer s H vs Q E hr h => ⟨t_law_free_rows K A, (pss_cons (ps_set (i := 2) sc_law_free_rows.nd rfl (by first | exact Or.inl rfl | exact Or.inr rfl) (pe_lst pa_nil))
  (pss_cons (ps_for PassesOwn.never rfl (pi_range1 (by rfl) T.b_range (pa_cons (C8.pe_c C_law_draw hr (by decide) (by rfl) (pa_cons (pv 0) (pa_cons pe_int pa_nil))) pa_nil)) (pg_name (i := 3) sc_law_free_rows.nd rfl (by first | exact Or.inl rfl | exact Or.inr rfl))
  (pss_cons (ps_set (i := 4) sc_law_free_rows.nd rfl (by first | exact Or.inl rfl | exact Or.inr rfl) (C8.pe_c C_law_draw hr (by decide) (by rfl) (pa_cons (pv 0) (pa_cons (pe_op op_mul (pv 1) (pv 1)) pa_nil))))
  (pss_one (ps_expr (pe_bm PySem.F.plainAttrs_list PySem.F.slot_list_append PySem.F.type_list_append mt_append (pv 2) (pa_cons (pe_tup (pa_cons (pe_op op_fdiv (pv 4) (pv 1)) (pa_cons (pe_op op_mod (pe_callTy call_int1 (by rfl) T.b_int (by decide +kernel) (pa_cons (pv 4) pa_nil)) (pv 1)) pa_nil))) pa_nil))))))
  (pss_one (ps_ret (pv 2))))), rd_law_free_rows h⟩)
theorem bi_law_free_rows {f : Addr} {fd : FuncData} (F : Fun K "_law_free_rows" "_law_free_rows" s_law_free_rows f fd) : Binds K fd ["box", "pages"] [] := F.binds fun _ _ _ _ _ _ us hl => match us, hl with | [_, _], _ => rfl
theorem sc_law_forest_rows : FnScope ["box", "pages", "rows", "page", "parent", "side"] ["box", "pages"] (defScope s_law_forest_rows) := ⟨rfl, rfl, rfl, by decide +kernel, rfl, by decide +kernel, by decide +kernel⟩
theorem ln_law_forest_rows {vs : List V} {H : Hp} {Q : VK} {E : XK} (h : sp_law_forest_rows K A vs H Q E) : vs.length = 2 := by
  first | (obtain ⟨_, rfl, _⟩ := h; rfl) | (obtain ⟨_, _, rfl, _⟩ := h; rfl) | (obtain ⟨_, _, _, rfl, _⟩ := h; rfl) | (obtain ⟨_, _, _, _, rfl, _⟩ := h; rfl) | (obtain ⟨_, _, _, _, _, rfl, _⟩ := h; rfl) | (obtain ⟨_, _, _, _, _, _, rfl, _⟩ := h; rfl) | (obtain ⟨_, _, _, _, _, _, _, rfl, _⟩ := h; rfl) | (obtain ⟨_, _, _, _, _, _, _, _, rfl, _⟩ := h; rfl) | (obtain ⟨_, _, _, _, _, _, _, _, _, rfl, _⟩ := h; rfl) | (obtain ⟨_, _, _, _, _, _, _, _, _, _, rfl, _⟩ := h; rfl) | (obtain ⟨_, _, _, _, _, _, _, _, _, _, _, rfl, _⟩ := h; rfl) | (obtain ⟨_, _, _, _, _, _, _, _, _, _, _, _, rfl, _⟩ := h; rfl) | (obtain ⟨_, _, _, _, _, _, _, _, _, _, _, _, _, rfl, _⟩ := h; rfl) | (obtain ⟨_, _, _, _, _, _, _, _, _, _, _, _, _, _, rfl, _⟩ := h; rfl) | (obtain ⟨_, _, _, _, _, _, _, _, _, _, _, _, _, _, _, rfl, _⟩ := h; rfl) | (obtain ⟨_, _, _, _, _, _, _, _, _, _, _, _, _, _, _, _, rfl, _⟩ := h; rfl) | (obtain ⟨_, _, _, _, _, _, _, _, _, _, _, _, _, _, _, _, _, rfl, _⟩ := h; rfl) | (obtain ⟨_, _, _, _, _, _, _, _, _, _, _, _, _, _, _, _, _, _, rfl, _⟩ := h; rfl) | (obtain ⟨_, _, _, _, _, _, _, _, _, _, _, _, _, _, _, _, _, _, _, rfl, _⟩ := h; rfl)
theorem fn_law_forest_rows {f : Addr} {fd : FuncData} (F : Fun K "_law_forest_rows" "_law_forest_rows" s_law_forest_rows f fd) (T : Txt mg A) (C : CT K A) (C_law_draw : C8.Cal P w K mg base 1 "_law_draw" (sp_law_draw K A) []) : FnOk P w K mg base CX0 2 f fd ["box", "pages"] (sp_law_forest_rows K A) :=
  F.ok sc_law_forest_rows (fun vs H Q E h => ln_law_forest_rows h) (fun cdv Ar outer s H vs Q E hr h => ⟨t_law_forest_rows K A, (pss_cons (ps_set (i := 2) sc_law_forest_rows.nd rfl (by first | exact Or.inl rfl | exact Or.inr rfl) (pe_lst pa_nil))
  (pss_cons (ps_for PassesOwn.never rfl (pi_range2 (by rfl) T.b_range (pa_cons pe_int (pa_cons (pv 1) pa_nil))) (pg_name (i := 3) sc_law_forest_rows.nd rfl (by first | exact Or.inl rfl | exact Or.inr rfl))
  (pss_cons (ps_set (i := 4) sc_law_forest_rows.nd rfl (by first | exact Or.inl rfl | exact Or.inr rfl) (C8.pe_c C_law_draw hr (by decide) (by rfl) (pa_cons (pv 0) (pa_cons (pe_op op_add (pv 3) pe_int) pa_nil))))
  (pss_cons (ps_set (i := 5) sc_law_forest_rows.nd rfl (by first | exact Or.inl rfl | exact Or.inr rfl) (C8.pe_c C_law_draw hr (by decide) (by rfl) (pa_cons (pv 0) (pa_cons pe_int pa_nil))))
  (C8.pss_cut (ps_if (PW.pt (pw_and (pt_cmpR op_lt (pv 4) (pv 3) (nomark _)) (pw_and1 (pt_cmpR op_ne (pv 5) pe_int (nomark _))))) (pss_one (ps_expr (pe_bm PySem.F.plainAttrs_list PySem.F.slot_list_append PySem.F.type_list_append mt_append (pv 2) (pa_cons (pe_tup (pa_cons (pv 4) (pa_cons (pv 3) pa_nil))) pa_nil)))) pss_nil)
  (pss_one (ps_if (PW.pt (pw_and (pt_cmpR op_lt (pv 4) (pv 3) (nomark _)) (pw_and1 (PW.pt (pw_or (pt_cmpR op_eq (pv 5) pe_int (nomark _)) (pw_or1 (pt_cmpR op_eq (pv 5) pe_int (nomark _)))))))) (pss_one (ps_expr (pe_bm PySem.F.plainAttrs_list PySem.F.slot_list_append PySem.F.type_list_append mt_append (pv 2) (pa_cons (pe_tup (pa_cons (pv 3) (pa_cons (pv 4) pa_nil))) pa_nil)))) pss_nil))))))
  (pss_one (ps_ret (pv 2))))), rd_law_forest_rows h⟩)
theorem bi_law_forest_rows {f : Addr} {fd : FuncData} (F : Fun K "_law_forest_rows" "_law_forest_rows" s_law_forest_rows f fd) : Binds K fd ["box", "pages"] [] := F.binds fun _ _ _ _ _ _ us hl => match us, hl with | [_, _], _ => rfl
theorem sc_law_block_rows : FnScope ["box", "pages", "rows", "start", "turn", "size", "side", "k", "near"] ["box", "pages"] (defScope s_law_block_rows) := ⟨rfl, rfl, rfl, by decide +kernel, rfl, by decide +kernel, by decide +kernel⟩
theorem ln_law_block_rows {vs : List V} {H : Hp} {Q : VK} {E : XK} (h : sp_law_block_rows K A vs H Q E) : vs.length = 2 := by
  first | (obtain ⟨_, rfl, _⟩ := h; rfl) | (obtain ⟨_, _, rfl, _⟩ := h; rfl) | (obtain ⟨_, _, _, rfl, _⟩ := h; rfl) | (obtain ⟨_, _, _, _, rfl, _⟩ := h; rfl) | (obtain ⟨_, _, _, _, _, rfl, _⟩ := h; rfl) | (obtain ⟨_, _, _, _, _, _, rfl, _⟩ := h; rfl) | (obtain ⟨_, _, _, _, _, _, _, rfl, _⟩ := h; rfl) | (obtain ⟨_, _, _, _, _, _, _, _, rfl, _⟩ := h; rfl) | (obtain ⟨_, _, _, _, _, _, _, _, _, rfl, _⟩ := h; rfl) | (obtain ⟨_, _, _, _, _, _, _, _, _, _, rfl, _⟩ := h; rfl) | (obtain ⟨_, _, _, _, _, _, _, _, _, _, _, rfl, _⟩ := h; rfl) | (obtain ⟨_, _, _, _, _, _, _, _, _, _, _, _, rfl, _⟩ := h; rfl) | (obtain ⟨_, _, _, _, _, _, _, _, _, _, _, _, _, rfl, _⟩ := h; rfl) | (obtain ⟨_, _, _, _, _, _, _, _, _, _, _, _, _, _, rfl, _⟩ := h; rfl) | (obtain ⟨_, _, _, _, _, _, _, _, _, _, _, _, _, _, _, rfl, _⟩ := h; rfl) | (obtain ⟨_, _, _, _, _, _, _, _, _, _, _, _, _, _, _, _, rfl, _⟩ := h; rfl) | (obtain ⟨_, _, _, _, _, _, _, _, _, _, _, _, _, _, _, _, _, rfl, _⟩ := h; rfl) | (obtain ⟨_, _, _, _, _, _, _, _, _, _, _, _, _, _, _, _, _, _, rfl, _⟩ := h; rfl) | (obtain ⟨_, _, _, _, _, _, _, _, _, _, _, _, _, _, _, _, _, _, _, rfl, _⟩ := h; rfl)
theorem fn_law_block_rows {f : Addr} {fd : FuncData} (F : Fun K "_law_block_rows" "_law_block_rows" s_law_block_rows f fd) (T : Txt mg A) (C : CT K A) (C_law_draw : C8.Cal P w K mg base 1 "_law_draw" (sp_law_draw K A) []) : FnOk P w K mg base CX0 2 f fd ["box", "pages"] (sp_law_block_rows K A) :=
  F.ok sc_law_block_rows (fun vs H Q E h => ln_law_block_rows h) (fun cdv Ar outer s H vs Q E hr h => ⟨t_law_block_rows K A, (pss_cons (ps_set (i := 2) sc_law_block_rows.nd rfl (by first | exact Or.inl rfl | exact Or.inr rfl) (pe_lst pa_nil))
  (pss_cons (ps_set (i := 3) sc_law_block_rows.nd rfl (by first | exact Or.inl rfl | exact Or.inr rfl) pe_int)
  (pss_cons (ps_for PassesOwn.never rfl (pi_range1 (by rfl) T.b_range (pa_cons pe_int pa_nil)) (pg_name (i := 4) sc_law_block_rows.nd rfl (by first | exact Or.inl rfl | exact Or.inr rfl))
  (pss_one (ps_if (pt_cmpR op_lt (pv 3) (pv 1) (nomark _)) (pss_cons (ps_set (i := 5) sc_law_block_rows.nd rfl (by first | exact Or.inl rfl | exact Or.inr rfl) (pe_op op_add pe_int (C8.pe_c C_law_draw hr (by decide) (by rfl) (pa_cons (pv 0) (pa_cons (pe_op op_sub (pv 1) (pv 3)) pa_nil)))))
  (pss_cons (ps_set (i := 6) sc_law_block_rows.nd rfl (by first | exact Or.inl rfl | exact Or.inr rfl) (C8.pe_c C_law_draw hr (by decide) (by rfl) (pa_cons (pv 0) (pa_cons pe_int pa_nil))))
  (pss_cons (ps_for PassesOwn.never rfl (pi_range1 (by rfl) T.b_range (pa_cons (pv 5) pa_nil)) (pg_name (i := 7) sc_law_block_rows.nd rfl (by first | exact Or.inl rfl | exact Or.inr rfl))
  (pss_cons (ps_set (i := 8) sc_law_block_rows.nd rfl (by first | exact Or.inl rfl | exact Or.inr rfl) (pe_op op_add (pv 3) (pe_op op_mod (pe_callTy call_int1 (by rfl) T.b_int (by decide +kernel) (pa_cons (pe_op op_add (pv 7) pe_int) pa_nil)) (pv 5))))
  (C8.pss_cut (ps_if (PW.pt (pw_or (pt_cmpR op_lt (pv 6) pe_int (nomark _)) (pw_or1 (pt_cmpR op_lt (pe_op op_add (pv 7) pe_int) (pv 5) (nomark _))))) (pss_one (ps_expr (pe_bm PySem.F.plainAttrs_list PySem.F.slot_list_append PySem.F.type_list_append mt_append (pv 2) (pa_cons (pe_tup (pa_cons (pe_op op_add (pv 3) (pv 7)) (pa_cons (pv 8) pa_nil))) pa_nil)))) pss_nil)
  (pss_one (ps_if (PW.pt (pw_and (pt_cmpR op_eq (pv 6) pe_int (nomark _)) (pw_and1 (pt_cmpR op_lt (pe_op op_add (pv 7) pe_int) (pv 5) (nomark _))))) (pss_one (ps_expr (pe_bm PySem.F.plainAttrs_list PySem.F.slot_list_append PySem.F.type_list_append mt_append (pv 2) (pa_cons (pe_tup (pa_cons (pv 8) (pa_cons (pe_op op_add (pv 3) (pv 7)) pa_nil))) pa_nil)))) pss_nil)))))
  (pss_one (ps_set (i := 3) sc_law_block_rows.nd rfl (by first | exact Or.inl rfl | exact Or.inr rfl) (pe_op op_add (pv 3) (pv 5))))))) pss_nil)))
  (pss_one (ps_ret (pv 2)))))), rd_law_block_rows h⟩)
theorem bi_law_block_rows {f : Addr} {fd : FuncData} (F : Fun K "_law_block_rows" "_law_block_rows" s_law_block_rows f fd) : Binds K fd ["box", "pages"] [] := F.binds fun _ _ _ _ _ _ us hl => match us, hl with | [_, _], _ => rfl
theorem sc_law_ring_rows : FnScope ["box", "pages", "size", "rows", "k", "turned", "cell"] ["box", "pages"] (defScope s_law_ring_rows) := ⟨rfl, rfl, rfl, by decide +kernel, rfl, by decide +kernel, by decide +kernel⟩
theorem ln_law_ring_rows {vs : List V} {H : Hp} {Q : VK} {E : XK} (h : sp_law_ring_rows K A vs H Q E) : vs.length = 2 := by
  first | (obtain ⟨_, rfl, _⟩ := h; rfl) | (obtain ⟨_, _, rfl, _⟩ := h; rfl) | (obtain ⟨_, _, _, rfl, _⟩ := h; rfl) | (obtain ⟨_, _, _, _, rfl, _⟩ := h; rfl) | (obtain ⟨_, _, _, _, _, rfl, _⟩ := h; rfl) | (obtain ⟨_, _, _, _, _, _, rfl, _⟩ := h; rfl) | (obtain ⟨_, _, _, _, _, _, _, rfl, _⟩ := h; rfl) | (obtain ⟨_, _, _, _, _, _, _, _, rfl, _⟩ := h; rfl) | (obtain ⟨_, _, _, _, _, _, _, _, _, rfl, _⟩ := h; rfl) | (obtain ⟨_, _, _, _, _, _, _, _, _, _, rfl, _⟩ := h; rfl) | (obtain ⟨_, _, _, _, _, _, _, _, _, _, _, rfl, _⟩ := h; rfl) | (obtain ⟨_, _, _, _, _, _, _, _, _, _, _, _, rfl, _⟩ := h; rfl) | (obtain ⟨_, _, _, _, _, _, _, _, _, _, _, _, _, rfl, _⟩ := h; rfl) | (obtain ⟨_, _, _, _, _, _, _, _, _, _, _, _, _, _, rfl, _⟩ := h; rfl) | (obtain ⟨_, _, _, _, _, _, _, _, _, _, _, _, _, _, _, rfl, _⟩ := h; rfl) | (obtain ⟨_, _, _, _, _, _, _, _, _, _, _, _, _, _, _, _, rfl, _⟩ := h; rfl) | (obtain ⟨_, _, _, _, _, _, _, _, _, _, _, _, _, _, _, _, _, rfl, _⟩ := h; rfl) | (obtain ⟨_, _, _, _, _, _, _, _, _, _, _, _, _, _, _, _, _, _, rfl, _⟩ := h; rfl) | (obtain ⟨_, _, _, _, _, _, _, _, _, _, _, _, _, _, _, _, _, _, _, rfl, _⟩ := h; rfl)
theorem fn_law_ring_rows {f : Addr} {fd : FuncData} (F : Fun K "_law_ring_rows" "_law_ring_rows" s_law_ring_rows f fd) (T : Txt mg A) (C : CT K A) (C_law_draw : C8.Cal P w K mg base 1 "_law_draw" (sp_law_draw K A) []) : FnOk P w K mg base CX0 2 f fd ["box", "pages"] (sp_law_ring_rows K A) :=
  F.ok sc_law_ring_rows (fun vs H Q E h => ln_law_ring_rows h) (fun cdv Ar outer s H vs Q E hr h => ⟨t_law_ring_rows K A, (pss_cons (ps_set (i := 2) sc_law_ring_rows.nd rfl (by first | exact Or.inl rfl | exact Or.inr rfl) (pv 1))
  (C8.pss_cut (ps_if (pt_cmpR op_gt (pv 1) pe_int (nomark _)) (pss_one (ps_set (i := 2) sc_law_ring_rows.nd rfl (by first | exact Or.inl rfl | exact Or.inr rfl) (pe_op op_sub (pv 1) (C8.pe_c C_law_draw hr (by decide) (by rfl) (pa_cons (pv 0) (pa_cons pe_int pa_nil)))))) pss_nil)
  (pss_cons (ps_setLc (i := 3) (own := [("k", 4)]) (g := (gName 4)) (tt := tYes) rfl sc_law_ring_rows.nd rfl rfl (sw_true rfl rfl rfl (by decide +kernel)) (pi_range1 (by rfl) T.b_range (pa_cons (pv 2) pa_nil)) (blkOk_by (own := [("k", 4)]) (N := ["box", "pages", "size", "rows", "k", "turned", "cell"]) (sc := defScope s_law_ring_rows) (by decide +kernel)) (fun _ _ _ _ _ => (pg_name (i := 4) sc_law_ring_rows.nd rfl (by first | exact Or.inl rfl | exact Or.inr rfl))) (fun _ _ _ _ _ => pts_nil) (fun _ _ _ _ _ => (pe_tup (pa_cons (pv 4) (pa_cons (pe_op op_mod (pe_callTy call_int1 (by rfl) T.b_int (by decide +kernel) (pa_cons (pe_op op_add (pv 4) pe_int) pa_nil)) (pv 2)) pa_nil)))))
  (pss_cons (ps_set (i := 5) sc_law_ring_rows.nd rfl (by first | exact Or.inl rfl | exact Or.inr rfl) (C8.pe_c C_law_draw hr (by decide) (by rfl) (pa_cons (pv 0) (pa_cons (pe_op op_mul pe_int (pv 2)) pa_nil))))
  (C8.pss_cut (ps_if (pt_cmpR op_lt (pv 5) (pv 2) (nomark _)) (pss_one (ps_asg (pe_tup (pa_cons (pe_ix ix_tup (pe_ix ix_list (pv 3) (pv 5) (fun _ _ => rfl)) pe_int (fun _ _ => rfl)) (pa_cons (pe_ix ix_tup (pe_ix ix_list (pv 3) (pv 5) (fun _ _ => rfl)) pe_int (fun _ _ => rfl)) pa_nil))) (pg_sub (pv 3) (pv 5) set_list))) pss_nil)
  (pss_cons (ps_for PassesOwn.never rfl (pi_range1 (by rfl) T.b_range (pa_cons (C8.pe_c C_law_draw hr (by decide) (by rfl) (pa_cons (pv 0) (pa_cons pe_int pa_nil))) pa_nil)) (pg_name (i := 4) sc_law_ring_rows.nd rfl (by first | exact Or.inl rfl | exact Or.inr rfl))
  (pss_cons (ps_set (i := 6) sc_law_ring_rows.nd rfl (by first | exact Or.inl rfl | exact Or.inr rfl) (C8.pe_c C_law_draw hr (by decide) (by rfl) (pa_cons (pv 0) (pa_cons (pe_op op_mul (pv 1) (pv 1)) pa_nil))))
  (pss_one (ps_expr (pe_bm PySem.F.plainAttrs_list PySem.F.slot_list_append PySem.F.type_list_append mt_append (pv 3) (pa_cons (pe_tup (pa_cons (pe_op op_fdiv (pv 6) (pv 1)) (pa_cons (pe_op op_mod (pe_callTy call_int1 (by rfl) T.b_int (by decide +kernel) (pa_cons (pv 6) pa_nil)) (pv 1)) pa_nil))) pa_nil))))))
  (pss_one (ps_ret (pv 3))))))))), rd_law_ring_rows h⟩)
theorem bi_law_ring_rows {f : Addr} {fd : FuncData} (F : Fun K "_law_ring_rows" "_law_ring_rows" s_law_ring_rows f fd) : Binds K fd ["box", "pages"] [] := F.binds fun _ _ _ _ _ _ us hl => match us, hl with | [_, _], _ => rfl
theorem sc_law_dense_rows : FnScope ["box", "pages", "rows", "k"] ["box", "pages"] (defScope s_law_dense_rows) := ⟨rfl, rfl, rfl, by decide +kernel, rfl, by decide +kernel, by decide +kernel⟩
theorem ln_law_dense_rows {vs : List V} {H : Hp} {Q : VK} {E : XK} (h : sp_law_dense_rows K A vs H Q E) : vs.length = 2 := by
  first | (obtain ⟨_, rfl, _⟩ := h; rfl) | (obtain ⟨_, _, rfl, _⟩ := h; rfl) | (obtain ⟨_, _, _, rfl, _⟩ := h; rfl) | (obtain ⟨_, _, _, _, rfl, _⟩ := h; rfl) | (obtain ⟨_, _, _, _, _, rfl, _⟩ := h; rfl) | (obtain ⟨_, _, _, _, _, _, rfl, _⟩ := h; rfl) | (obtain ⟨_, _, _, _, _, _, _, rfl, _⟩ := h; rfl) | (obtain ⟨_, _, _, _, _, _, _, _, rfl, _⟩ := h; rfl) | (obtain ⟨_, _, _, _, _, _, _, _, _, rfl, _⟩ := h; rfl) | (obtain ⟨_, _, _, _, _, _, _, _, _, _, rfl, _⟩ := h; rfl) | (obtain ⟨_, _, _, _, _, _, _, _, _, _, _, rfl, _⟩ := h; rfl) | (obtain ⟨_, _, _, _, _, _, _, _, _, _, _, _, rfl, _⟩ := h; rfl) | (obtain ⟨_, _, _, _, _, _, _, _, _, _, _, _, _, rfl, _⟩ := h; rfl) | (obtain ⟨_, _, _, _, _, _, _, _, _, _, _, _, _, _, rfl, _⟩ := h; rfl) | (obtain ⟨_, _, _, _, _, _, _, _, _, _, _, _, _, _, _, rfl, _⟩ := h; rfl) | (obtain ⟨_, _, _, _, _, _, _, _, _, _, _, _, _, _, _, _, rfl, _⟩ := h; rfl) | (obtain ⟨_, _, _, _, _, _, _, _, _, _, _, _, _, _, _, _, _, rfl, _⟩ := h; rfl) | (obtain ⟨_, _, _, _, _, _, _, _, _, _, _, _, _, _, _, _, _, _, rfl, _⟩ := h; rfl) | (obtain ⟨_, _, _, _, _, _, _, _, _, _, _, _, _, _, _, _, _, _, _, rfl, _⟩ := h; rfl)
theorem fn_law_dense_rows {f : Addr} {fd : FuncData} (F : Fun K "_law_dense_rows" "_law_dense_rows" s_law_dense_rows f fd) (T : Txt mg A) (C : CT K A) (C_law_draw : C8.Cal P w K mg base 1 "_law_draw" (sp_law_draw K A) []) : FnOk P w K mg base CX0 2 f fd ["box", "pages"] (sp_law_dense_rows K A) :=
  F.ok sc_law_dense_rows (fun vs H Q E h => ln_law_dense_rows h) (fun cdv Ar outer s H vs Q E hr h => ⟨t_law_dense_rows K A, (pss_cons (ps_setLc (i := 2) (own := [("k", 3)]) (g := (gName 3)) (tt := tYes) rfl sc_law_dense_rows.nd rfl rfl (sw_true rfl rfl rfl (by decide +kernel)) (pi_range1 (by rfl) T.b_range (pa_cons (pe_op op_mul (pv 1) (pv 1)) pa_nil)) (blkOk_by (own := [("k", 3)]) (N := ["box", "pages", "rows", "k"]) (sc := defScope s_law_dense_rows) (by decide +kernel)) (fun _ _ _ _ _ => (pg_name (i := 3) sc_law_dense_rows.nd rfl (by first | exact Or.inl rfl | exact Or.inr rfl))) (fun _ _ _ _ _ => pts_nil) (fun _ _ _ _ _ => (pe_tup (pa_cons (pe_op op_fdiv (pv 3) (pv 1)) (pa_cons (pe_op op_mod (pe_callTy call_int1 (by rfl) T.b_int (by decide +kernel) (pa_cons (pv 3) pa_nil)) (pv 1)) pa_nil)))))
  (pss_cons (ps_for PassesOwn.never rfl (pi_range1 (by rfl) T.b_range (pa_cons (C8.pe_c C_law_draw hr (by decide) (by rfl) (pa_cons (pv 0) (pa_cons pe_int pa_nil))) pa_nil)) (pg_name (i := 3) sc_law_dense_rows.nd rfl (by first | exact Or.inl rfl | exact Or.inr rfl))
  (pss_one (ps_if (pt_cmpR op_gt (pe_callB call_len_seq (by rfl) T.b_len (by decide +kernel) (pa_cons (pv 2) pa_nil)) pe_int (nomark _)) (pss_one (ps_expr (pe_bm PySem.F.plainAttrs_list PySem.F.slot_list_pop PySem.F.type_list_pop mt_popAt (pv 2) (pa_cons (C8.pe_c C_law_draw hr (by decide) (by rfl) (pa_cons (pv 0) (pa_cons (pe_callB call_len_seq (by rfl) T.b_len (by decide +kernel) (pa_cons (pv 2) pa_nil)) pa_nil))) pa_nil)))) pss_nil)))
  (pss_one (ps_ret (pv 2))))), rd_law_dense_rows h⟩)
theorem bi_law_dense_rows {f : Addr} {fd : FuncData} (F : Fun K "_law_dense_rows" "_law_dense_rows" s_law_dense_rows f fd) : Binds K fd ["box", "pages"] [] := F.binds fun _ _ _ _ _ _ us hl => match us, hl with | [_, _], _ => rfl
theorem sc_law_large_rows : FnScope ["box", "pages", "branch", "side", "rows", "page", "parent"] ["box", "pages"] (defScope s_law_large_rows) := ⟨rfl, rfl, rfl, by decide +kernel, rfl, by decide +kernel, by decide +kernel⟩
theorem ln_law_large_rows {vs : List V} {H : Hp} {Q : VK} {E : XK} (h : sp_law_large_rows K A vs H Q E) : vs.length = 2 := by
  first | (obtain ⟨_, rfl, _⟩ := h; rfl) | (obtain ⟨_, _, rfl, _⟩ := h; rfl) | (obtain ⟨_, _, _, rfl, _⟩ := h; rfl) | (obtain ⟨_, _, _, _, rfl, _⟩ := h; rfl) | (obtain ⟨_, _, _, _, _, rfl, _⟩ := h; rfl) | (obtain ⟨_, _, _, _, _, _, rfl, _⟩ := h; rfl) | (obtain ⟨_, _, _, _, _, _, _, rfl, _⟩ := h; rfl) | (obtain ⟨_, _, _, _, _, _, _, _, rfl, _⟩ := h; rfl) | (obtain ⟨_, _, _, _, _, _, _, _, _, rfl, _⟩ := h; rfl) | (obtain ⟨_, _, _, _, _, _, _, _, _, _, rfl, _⟩ := h; rfl) | (obtain ⟨_, _, _, _, _, _, _, _, _, _, _, rfl, _⟩ := h; rfl) | (obtain ⟨_, _, _, _, _, _, _, _, _, _, _, _, rfl, _⟩ := h; rfl) | (obtain ⟨_, _, _, _, _, _, _, _, _, _, _, _, _, rfl, _⟩ := h; rfl) | (obtain ⟨_, _, _, _, _, _, _, _, _, _, _, _, _, _, rfl, _⟩ := h; rfl) | (obtain ⟨_, _, _, _, _, _, _, _, _, _, _, _, _, _, _, rfl, _⟩ := h; rfl) | (obtain ⟨_, _, _, _, _, _, _, _, _, _, _, _, _, _, _, _, rfl, _⟩ := h; rfl) | (obtain ⟨_, _, _, _, _, _, _, _, _, _, _, _, _, _, _, _, _, rfl, _⟩ := h; rfl) | (obtain ⟨_, _, _, _, _, _, _, _, _, _, _, _, _, _, _, _, _, _, rfl, _⟩ := h; rfl) | (obtain ⟨_, _, _, _, _, _, _, _, _, _, _, _, _, _, _, _, _, _, _, rfl, _⟩ := h; rfl)
theorem fn_law_large_rows {f : Addr} {fd : FuncData} (F : Fun K "_law_large_rows" "_law_large_rows" s_law_large_rows f fd) (T : Txt mg A) (C : CT K A) (C_law_draw : C8.Cal P w K mg base 1 "_law_draw" (sp_law_draw K A) []) : FnOk P w K mg base CX0 2 f fd ["box", "pages"] (sp_law_large_rows K A) :=
  F.ok sc_law_large_rows (fun vs H Q E h => ln_law_large_rows h) (fun cdv Ar outer s H vs Q E hr h => ⟨t_law_large_rows K A, (pss_cons (ps_set (i := 2) sc_law_large_rows.nd rfl (by first | exact Or.inl rfl | exact Or.inr rfl) (pe_ix ix_list (pe_lst (pa_cons pe_int (pa_cons pe_int (pa_cons pe_int (pa_cons pe_int (pa_cons (pv 1) pa_nil)))))) (C8.pe_c C_law_draw hr (by decide) (by rfl) (pa_cons (pv 0) (pa_cons pe_int pa_nil))) (fun _ _ => rfl)))
  (pss_cons (ps_set (i := 3) sc_law_large_rows.nd rfl (by first | exact Or.inl rfl | exact Or.inr rfl) (C8.pe_c C_law_draw hr (by decide) (by rfl) (pa_cons (pv 0) (pa_cons pe_int pa_nil))))
  (pss_cons (ps_set (i := 4) sc_law_large_rows.nd rfl (by first | exact Or.inl rfl | exact Or.inr rfl) (pe_lst pa_nil))
  (pss_cons (ps_for PassesOwn.never rfl (pi_range2 (by rfl) T.b_range (pa_cons pe_int (pa_cons (pv 1) pa_nil))) (pg_name (i := 5) sc_law_large_rows.nd rfl (by first | exact Or.inl rfl | exact Or.inr rfl))
  (pss_cons (ps_set (i := 6) sc_law_large_rows.nd rfl (by first | exact Or.inl rfl | exact Or.inr rfl) (pe_op op_fdiv (pe_op op_sub (pv 5) pe_int) (pv 2)))
  (C8.pss_cut (ps_if (pt_cmpR op_ne (pv 3) pe_int (nomark _)) (pss_one (ps_expr (pe_bm PySem.F.plainAttrs_list PySem.F.slot_list_append PySem.F.type_list_append mt_append (pv 4) (pa_cons (pe_tup (pa_cons (pv 6) (pa_cons (pv 5) pa_nil))) pa_nil)))) pss_nil)
  (pss_one (ps_if (PW.pt (pw_or (pt_cmpR op_eq (pv 3) pe_int (nomark _)) (pw_or (pt_cmpR op_eq (pv 3) pe_int (nomark _)) (pw_or1 (PW.pt (pw_and (pt_cmpR op_eq (pv 3) pe_int (nomark _)) (pw_and1 (pt_cmpR op_eq (pe_op op_mod (pe_callTy call_int1 (by rfl) T.b_int (by decide +kernel) (pa_cons (pv 5) pa_nil)) pe_int) pe_int (nomark _))))))))) (pss_one (ps_expr (pe_bm PySem.F.plainAttrs_list PySem.F.slot_list_append PySem.F.type_list_append mt_append (pv 4) (pa_cons (pe_tup (pa_cons (pv 5) (pa_cons (pv 6) pa_nil))) pa_nil)))) pss_nil)))))
  (C8.pss_cut (ps_if (pt_cmpR op_eq (C8.pe_c C_law_draw hr (by decide) (by rfl) (pa_cons (pv 0) (pa_cons pe_int pa_nil))) pe_int (nomark _)) (pss_one (ps_expr (pe_bm PySem.F.plainAttrs_list PySem.F.slot_list_append PySem.F.type_list_append mt_append (pv 4) (pa_cons (pe_tup (pa_cons (pe_op op_sub (pv 1) pe_int) (pa_cons pe_int pa_nil))) pa_nil)))) pss_nil)
  (pss_one (ps_ret (pv 4)))))))), rd_law_large_rows h⟩)
theorem bi_law_large_rows {f : Addr} {fd : FuncData} (F : Fun K "_law_large_rows" "_law_large_rows" s_law_large_rows f fd) : Binds K fd ["box", "pages"] [] := F.binds fun _ _ _ _ _ _ us hl => match us, hl with | [_, _], _ => rfl
theorem sc_law_small_rows : FnScope ["box", "pages", "shape"] ["box", "pages", "shape"] (defScope s_law_small_rows) := ⟨rfl, rfl, rfl, by decide +kernel, rfl, by decide +kernel, by decide +kernel⟩
theorem ln_law_small_rows {vs : List V} {H : Hp} {Q : VK} {E : XK} (h : sp_law_small_rows K A vs H Q E) : vs.length = 3 := by
  first | (obtain ⟨_, rfl, _⟩ := h; rfl) | (obtain ⟨_, _, rfl, _⟩ := h; rfl) | (obtain ⟨_, _, _, rfl, _⟩ := h; rfl) | (obtain ⟨_, _, _, _, rfl, _⟩ := h; rfl) | (obtain ⟨_, _, _, _, _, rfl, _⟩ := h; rfl) | (obtain ⟨_, _, _, _, _, _, rfl, _⟩ := h; rfl) | (obtain ⟨_, _, _, _, _, _, _, rfl, _⟩ := h; rfl) | (obtain ⟨_, _, _, _, _, _, _, _, rfl, _⟩ := h; rfl) | (obtain ⟨_, _, _, _, _, _, _, _, _, rfl, _⟩ := h; rfl) | (obtain ⟨_, _, _, _, _, _, _, _, _, _, rfl, _⟩ := h; rfl) | (obtain ⟨_, _, _, _, _, _, _, _, _, _, _, rfl, _⟩ := h; rfl) | (obtain ⟨_, _, _, _, _, _, _, _, _, _, _, _, rfl, _⟩ := h; rfl) | (obtain ⟨_, _, _, _, _, _, _, _, _, _, _, _, _, rfl, _⟩ := h; rfl) | (obtain ⟨_, _, _, _, _, _, _, _, _, _, _, _, _, _, rfl, _⟩ := h; rfl) | (obtain ⟨_, _, _, _, _, _, _, _, _, _, _, _, _, _, _, rfl, _⟩ := h; rfl) | (obtain ⟨_, _, _, _, _, _, _, _, _, _, _, _, _, _, _, _, rfl, _⟩ := h; rfl) | (obtain ⟨_, _, _, _, _, _, _, _, _, _, _, _, _, _, _, _, _, rfl, _⟩ := h; rfl) | (obtain ⟨_, _, _, _, _, _, _, _, _, _, _, _, _, _, _, _, _, _, rfl, _⟩ := h; rfl) | (obtain ⟨_, _, _, _, _, _, _, _, _, _, _, _, _, _, _, _, _, _, _, rfl, _⟩ := h; rfl)
theorem fn_law_small_rows {f : Addr} {fd : FuncData} (F : Fun K "_law_small_rows" "_law_small_rows" s_law_small_rows f fd) (T : Txt mg A) (C : CT K A) (C_law_block_rows : C8.Cal P w K mg base 2 "_law_block_rows" (sp_law_block_rows K A) []) (C_law_dense_rows : C8.Cal P w K mg base 2 "_law_dense_rows" (sp_law_dense_rows K A) []) (C_law_forest_rows : C8.Cal P w K mg base 2 "_law_forest_rows" (sp_law_forest_rows K A) []) (C_law_free_rows : C8.Cal P w K mg base 2 "_law_free_rows" (sp_law_free_rows K A) []) (C_law_ring_rows : C8.Cal P w K mg base 2 "_law_ring_rows" (sp_law_ring_rows K A) []) : FnOk P w K mg base CX0 3 f fd ["box", "pages", "shape"] (sp_law_small_rows K A) :=
  F.ok sc_law_small_rows (fun vs H Q E h => ln_law_small_rows h) (fun cdv Ar outer s H vs Q E hr h => ⟨t_law_small_rows K A, (pss_cons (ps_if (pt_cmpR op_lt (pv 2) pe_int (nomark _)) (pss_one (ps_ret (C8.pe_c C_law_free_rows hr (by decide) (by rfl) (pa_cons (pv 0) (pa_cons (pv 1) pa_nil))))) pss_nil)
  (pss_cons (ps_if (PW.pt (pw_or (pt_cmpR op_eq (pv 2) pe_int (nomark _)) (pw_or1 (pt_cmpR op_eq (pv 2) pe_int (nomark _))))) (pss_one (ps_ret (C8.pe_c C_law_forest_rows hr (by decide) (by rfl) (pa_cons (pv 0) (pa_cons (pv 1) pa_nil))))) pss_nil)
  (pss_cons (ps_if (pt_cmpR op_eq (pv 2) pe_int (nomark _)) (pss_one (ps_ret (C8.pe_c C_law_block_rows hr (by decide) (by rfl) (pa_cons (pv 0) (pa_cons (pv 1) pa_nil))))) pss_nil)
  (pss_cons (ps_if (pt_cmpR op_eq (pv 2) pe_int (nomark _)) (pss_one (ps_ret (C8.pe_c C_law_ring_rows hr (by decide) (by rfl) (pa_cons (pv 0) (pa_cons (pv 1) pa_nil))))) pss_nil)
  (pss_one (ps_ret (C8.pe_c C_law_dense_rows hr (by decide) (by rfl) (pa_cons (pv 0) (pa_cons (pv 1) pa_nil))))))))), rd_law_small_rows h⟩)
theorem bi_law_small_rows {f : Addr} {fd : FuncData} (F : Fun K "_law_small_rows" "_law_small_rows" s_law_small_rows f fd) : Binds K fd ["box", "pages", "shape"] [] := F.binds fun _ _ _ _ _ _ us hl => match us, hl with | [_, _, _], _ => rfl
theorem sc_law_names : FnScope ["box", "pages", "names", "start", "step", "k", "left"] ["box", "pages"] (defScope s_law_names) := ⟨rfl, rfl, rfl, by decide +kernel, rfl, by decide +kernel, by decide +kernel⟩
theorem ln_law_names {vs : List V} {H : Hp} {Q : VK} {E : XK} (h : sp_law_names K A vs H Q E) : vs.length = 2 := by
  first | (obtain ⟨_, rfl, _⟩ := h; rfl) | (obtain ⟨_, _, rfl, _⟩ := h; rfl) | (obtain ⟨_, _, _, rfl, _⟩ := h; rfl) | (obtain ⟨_, _, _, _, rfl, _⟩ := h; rfl) | (obtain ⟨_, _, _, _, _, rfl, _⟩ := h; rfl) | (obtain ⟨_, _, _, _, _, _, rfl, _⟩ := h; rfl) | (obtain ⟨_, _, _, _, _, _, _, rfl, _⟩ := h; rfl) | (obtain ⟨_, _, _, _, _, _, _, _, rfl, _⟩ := h; rfl) | (obtain ⟨_, _, _, _, _, _, _, _, _, rfl, _⟩ := h; rfl) | (obtain ⟨_, _, _, _, _, _, _, _, _, _, rfl, _⟩ := h; rfl) | (obtain ⟨_, _, _, _, _, _, _, _, _, _, _, rfl, _⟩ := h; rfl) | (obtain ⟨_, _, _, _, _, _, _, _, _, _, _, _, rfl, _⟩ := h; rfl) | (obtain ⟨_, _, _, _, _, _, _, _, _, _, _, _, _, rfl, _⟩ := h; rfl) | (obtain ⟨_, _, _, _, _, _, _, _, _, _, _, _, _, _, rfl, _⟩ := h; rfl) | (obtain ⟨_, _, _, _, _, _, _, _, _, _, _, _, _, _, _, rfl, _⟩ := h; rfl) | (obtain ⟨_, _, _, _, _, _, _, _, _, _, _, _, _, _, _, _, rfl, _⟩ := h; rfl) | (obtain ⟨_, _, _, _, _, _, _, _, _, _, _, _, _, _, _, _, _, rfl, _⟩ := h; rfl) | (obtain ⟨_, _, _, _, _, _, _, _, _, _, _, _, _, _, _, _, _, _, rfl, _⟩ := h; rfl) | (obtain ⟨_, _, _, _, _, _, _, _, _, _, _, _, _, _, _, _, _, _, _, rfl, _⟩ := h; rfl)
theorem fn_law_names {f : Addr} {fd : FuncData} (F : Fun K "_law_names" "_law_names" s_law_names f fd) (T : Txt mg A) (C : CT K A) (C_law_draw : C8.Cal P w K mg base 1 "_law_draw" (sp_law_draw K A) []) : FnOk P w K mg base CX0 2 f fd ["box", "pages"] (sp_law_names K A) :=
  F.ok sc_law_names (fun vs H Q E h => ln_law_names h) (fun cdv Ar outer s H vs Q E hr h => ⟨t_law_names K A, (pss_cons (ps_set (i := 2) sc_law_names.nd rfl (by first | exact Or.inl rfl | exact Or.inr rfl) (pe_lst pa_nil))
  (pss_cons (ps_if (pt_cmpR op_gt (pv 1) pe_int (nomark _)) (pss_cons (ps_set (i := 3) sc_law_names.nd rfl (by first | exact Or.inl rfl | exact Or.inr rfl) (C8.pe_c C_law_draw hr (by decide) (by rfl) (pa_cons (pv 0) (pa_cons (pv 1) pa_nil))))
  (pss_cons (ps_set (i := 4) sc_law_names.nd rfl (by first | exact Or.inl rfl | exact Or.inr rfl) (pe_op op_sub pe_int (pe_op op_mul pe_int (C8.pe_c C_law_draw hr (by decide) (by rfl) (pa_cons (pv 0) (pa_cons pe_int pa_nil))))))
  (pss_cons (ps_for PassesOwn.never rfl (pi_range1 (by rfl) T.b_range (pa_cons (pv 1) pa_nil)) (pg_name (i := 5) sc_law_names.nd rfl (by first | exact Or.inl rfl | exact Or.inr rfl))
  (pss_one (ps_expr (pe_bm PySem.F.plainAttrs_list PySem.F.slot_list_append PySem.F.type_list_append mt_append (pv 2) (pa_cons (pe_op op_mod (pe_callTy call_int1 (by rfl) T.b_int (by decide +kernel) (pa_cons (pe_op op_add (pv 3) (pe_op op_mul (pv 4) (pv 5))) pa_nil)) (pv 1)) pa_nil)))))
  (pss_one (ps_ret (pv 2)))))) pss_nil)
  (pss_cons (ps_set (i := 6) sc_law_names.nd rfl (by first | exact Or.inl rfl | exact Or.inr rfl) (pe_listRg rfl (by rfl) T.b_list (prg_1 (by rfl) T.b_range (pv 1))))
  (pss_cons (ps_for PassesOwn.never rfl (pi_range1 (by rfl) T.b_range (pa_cons (pv 1) pa_nil)) (pg_name (i := 5) sc_law_names.nd rfl (by first | exact Or.inl rfl | exact Or.inr rfl))
  (pss_one (ps_expr (pe_bm PySem.F.plainAttrs_list PySem.F.slot_list_append PySem.F.type_list_append mt_append (pv 2) (pa_cons (pe_bm PySem.F.plainAttrs_list PySem.F.slot_list_pop PySem.F.type_list_pop mt_popAt (pv 6) (pa_cons (C8.pe_c C_law_draw hr (by decide) (by rfl) (pa_cons (pv 0) (pa_cons (pe_callB call_len_seq (by rfl) T.b_len (by decide +kernel) (pa_cons (pv 6) pa_nil)) pa_nil))) pa_nil)) pa_nil)))))
  (pss_one (ps_ret (pv 2))))))), rd_law_names h⟩)
theorem bi_law_names {f : Addr} {fd : FuncData} (F : Fun K "_law_names" "_law_names" s_law_names f fd) : Binds K fd ["box", "pages"] [] := F.binds fun _ _ _ _ _ _ us hl => match us, hl with | [_, _], _ => rfl
theorem sc_law_mixed : FnScope ["box", "rows", "cut", "left", "mixed", "k"] ["box", "rows"] (defScope s_law_mixed) := ⟨rfl, rfl, rfl, by decide +kernel, rfl, by decide +kernel, by decide +kernel⟩
theorem ln_law_mixed {vs : List V} {H : Hp} {Q : VK} {E : XK} (h : sp_law_mixed K A vs H Q E) : vs.length = 2 := by
  first | (obtain ⟨_, rfl, _⟩ := h; rfl) | (obtain ⟨_, _, rfl, _⟩ := h; rfl) | (obtain ⟨_, _, _, rfl, _⟩ := h; rfl) | (obtain ⟨_, _, _, _, rfl, _⟩ := h; rfl) | (obtain ⟨_, _, _, _, _, rfl, _⟩ := h; rfl) | (obtain ⟨_, _, _, _, _, _, rfl, _⟩ := h; rfl) | (obtain ⟨_, _, _, _, _, _, _, rfl, _⟩ := h; rfl) | (obtain ⟨_, _, _, _, _, _, _, _, rfl, _⟩ := h; rfl) | (obtain ⟨_, _, _, _, _, _, _, _, _, rfl, _⟩ := h; rfl) | (obtain ⟨_, _, _, _, _, _, _, _, _, _, rfl, _⟩ := h; rfl) | (obtain ⟨_, _, _, _, _, _, _, _, _, _, _, rfl, _⟩ := h; rfl) | (obtain ⟨_, _, _, _, _, _, _, _, _, _, _, _, rfl, _⟩ := h; rfl) | (obtain ⟨_, _, _, _, _, _, _, _, _, _, _, _, _, rfl, _⟩ := h; rfl) | (obtain ⟨_, _, _, _, _, _, _, _, _, _, _, _, _, _, rfl, _⟩ := h; rfl) | (obtain ⟨_, _, _, _, _, _, _, _, _, _, _, _, _, _, _, rfl, _⟩ := h; rfl) | (obtain ⟨_, _, _, _, _, _, _, _, _, _, _, _, _, _, _, _, rfl, _⟩ := h; rfl) | (obtain ⟨_, _, _, _, _, _, _, _, _, _, _, _, _, _, _, _, _, rfl, _⟩ := h; rfl) | (obtain ⟨_, _, _, _, _, _, _, _, _, _, _, _, _, _, _, _, _, _, rfl, _⟩ := h; rfl) | (obtain ⟨_, _, _, _, _, _, _, _, _, _, _, _, _, _, _, _, _, _, _, rfl, _⟩ := h; rfl)
theorem fn_law_mixed {f : Addr} {fd : FuncData} (F : Fun K "_law_mixed" "_law_mixed" s_law_mixed f fd) (T : Txt mg A) (C : CT K A) (C_law_draw : C8.Cal P w K mg base 1 "_law_draw" (sp_law_draw K A) []) : FnOk P w K mg base CX0 2 f fd ["box", "rows"] (sp_law_mixed K A) :=
  F.ok sc_law_mixed (fun vs H Q E h => ln_law_mixed h) (fun cdv Ar outer s H vs Q E hr h => ⟨t_law_mixed K A, (pss_cons (ps_if (pt_cmpR op_gt (pe_callB call_len_seq (by rfl) T.b_len (by decide +kernel) (pa_cons (pv 1) pa_nil)) pe_int (nomark _)) (pss_cons (ps_set (i := 2) sc_law_mixed.nd rfl (by first | exact Or.inl rfl | exact Or.inr rfl) (C8.pe_c C_law_draw hr (by decide) (by rfl) (pa_cons (pv 0) (pa_cons (pe_callB call_len_seq (by rfl) T.b_len (by decide +kernel) (pa_cons (pv 1) pa_nil)) pa_nil))))
  (pss_one (ps_ret (G.pe_listRev rfl (by rfl) T.b_list (by rfl) T.b_reversed (pe_callTy call_list_of (by rfl) T.b_list (by decide +kernel) (pa_cons (pe_op op_cat (pe_slice sl_list (pv 1) (po_some (pv 2)) po_none) (pe_slice sl_list (pv 1) po_none (po_some (pv 2)))) pa_nil)))))) pss_nil)
  (pss_cons (ps_set (i := 3) sc_law_mixed.nd rfl (by first | exact Or.inl rfl | exact Or.inr rfl) (pe_callTy call_list_of (by rfl) T.b_list (by decide +kernel) (pa_cons (pv 1) pa_nil)))
  (pss_cons (ps_set (i := 4) sc_law_mixed.nd rfl (by first | exact Or.inl rfl | exact Or.inr rfl) (pe_lst pa_nil))
  (pss_cons (ps_for PassesOwn.never rfl (pi_range1 (by rfl) T.b_range (pa_cons (pe_callB call_len_seq (by rfl) T.b_len (by decide +kernel) (pa_cons (pv 1) pa_nil)) pa_nil)) (pg_name (i := 5) sc_law_mixed.nd rfl (by first | exact Or.inl rfl | exact Or.inr rfl))
  (pss_one (ps_expr (pe_bm PySem.F.plainAttrs_list PySem.F.slot_list_append PySem.F.type_list_append mt_append (pv 4) (pa_cons (pe_bm PySem.F.plainAttrs_list PySem.F.slot_list_pop PySem.F.type_list_pop mt_popAt (pv 3) (pa_cons (C8.pe_c C_law_draw hr (by decide) (by rfl) (pa_cons (pv 0) (pa_cons (pe_callB call_len_seq (by rfl) T.b_len (by decide +kernel) (pa_cons (pv 3) pa_nil)) pa_nil))) pa_nil)) pa_nil)))))
  (pss_one (ps_ret (pv 4))))))), rd_law_mixed h⟩)
theorem bi_law_mixed {f : Addr} {fd : FuncData} (F : Fun K "_law_mixed" "_law_mixed" s_law_mixed f fd) : Binds K fd ["box", "rows"] [] := F.binds fun _ _ _ _ _ _ us hl => match us, hl with | [_, _], _ => rfl
theorem sc_law_web : FnScope ["box", "shape", "pages", "rows", "names", "row"] ["box"] (defScope s_law_web) := ⟨rfl, rfl, rfl, by decide +kernel, rfl, by decide +kernel, by decide +kernel⟩
theorem ln_law_web {vs : List V} {H : Hp} {Q : VK} {E : XK} (h : sp_law_web K A vs H Q E) : vs.length = 1 := by
  first | (obtain ⟨_, rfl, _⟩ := h; rfl) | (obtain ⟨_, _, rfl, _⟩ := h; rfl) | (obtain ⟨_, _, _, rfl, _⟩ := h; rfl) | (obtain ⟨_, _, _, _, rfl, _⟩ := h; rfl) | (obtain ⟨_, _, _, _, _, rfl, _⟩ := h; rfl) | (obtain ⟨_, _, _, _, _, _, rfl, _⟩ := h; rfl) | (obtain ⟨_, _, _, _, _, _, _, rfl, _⟩ := h; rfl) | (obtain ⟨_, _, _, _, _, _, _, _, rfl, _⟩ := h; rfl) | (obtain ⟨_, _, _, _, _, _, _, _, _, rfl, _⟩ := h; rfl) | (obtain ⟨_, _, _, _, _, _, _, _, _, _, rfl, _⟩ := h; rfl) | (obtain ⟨_, _, _, _, _, _, _, _, _, _, _, rfl, _⟩ := h; rfl) | (obtain ⟨_, _, _, _, _, _, _, _, _, _, _, _, rfl, _⟩ := h; rfl) | (obtain ⟨_, _, _, _, _, _, _, _, _, _, _, _, _, rfl, _⟩ := h; rfl) | (obtain ⟨_, _, _, _, _, _, _, _, _, _, _, _, _, _, rfl, _⟩ := h; rfl) | (obtain ⟨_, _, _, _, _, _, _, _, _, _, _, _, _, _, _, rfl, _⟩ := h; rfl) | (obtain ⟨_, _, _, _, _, _, _, _, _, _, _, _, _, _, _, _, rfl, _⟩ := h; rfl) | (obtain ⟨_, _, _, _, _, _, _, _, _, _, _, _, _, _, _, _, _, rfl, _⟩ := h; rfl) | (obtain ⟨_, _, _, _, _, _, _, _, _, _, _, _, _, _, _, _, _, _, rfl, _⟩ := h; rfl) | (obtain ⟨_, _, _, _, _, _, _, _, _, _, _, _, _, _, _, _, _, _, _, rfl, _⟩ := h; rfl)
theorem fn_law_web {f : Addr} {fd : FuncData} (F : Fun K "_law_web" "_law_web" s_law_web f fd) (T : Txt mg A) (C : CT K A) (C_law_clean : C8.Cal P w K mg base 1 "_law_clean" (sp_law_clean K A) []) (C_law_draw : C8.Cal P w K mg base 1 "_law_draw" (sp_law_draw K A) []) (C_law_large_rows : C8.Cal P w K mg base 2 "_law_large_rows" (sp_law_large_rows K A) []) (C_law_mixed : C8.Cal P w K mg base 2 "_law_mixed" (sp_law_mixed K A) []) (C_law_names : C8.Cal P w K mg base 2 "_law_names" (sp_law_names K A) []) (C_law_small_rows : C8.Cal P w K mg base 3 "_law_small_rows" (sp_law_small_rows K A) []) : FnOk P w K mg base CX0 4 f fd ["box"] (sp_law_web K A) :=
  F.ok sc_law_web (fun vs H Q E h => ln_law_web h) (fun cdv Ar outer s H vs Q E hr h => ⟨t_law_web K A, (pss_cons (ps_set (i := 1) sc_law_web.nd rfl (by first | exact Or.inl rfl | exact Or.inr rfl) (C8.pe_c C_law_draw hr (by decide) (by rfl) (pa_cons (pv 0) (pa_cons pe_int pa_nil))))
  (C8.pss_cut (ps_if (pt_cmpR op_eq (pv 1) pe_int (nomark _)) (pss_cons (ps_set (i := 2) sc_law_web.nd rfl (by first | exact Or.inl rfl | exact Or.inr rfl) (pe_op op_add pe_int (C8.pe_c C_law_draw hr (by decide) (by rfl) (pa_cons (pv 0) (pa_cons pe_int pa_nil)))))
  (C8.pss_cut (ps_if (pt_cmpR op_eq (C8.pe_c C_law_draw hr (by decide) (by rfl) (pa_cons (pv 0) (pa_cons pe_int pa_nil))) pe_int (nomark _)) (pss_one (ps_set (i := 2) sc_law_web.nd rfl (by first | exact Or.inl rfl | exact Or.inr rfl) pe_int)) pss_nil)
  (pss_one (ps_set (i := 3) sc_law_web.nd rfl (by first | exact Or.inl rfl | exact Or.inr rfl) (C8.pe_c C_law_large_rows hr (by decide) (by rfl) (pa_cons (pv 0) (pa_cons (pv 2) pa_nil))))))) (pss_cons (ps_set (i := 2) sc_law_web.nd rfl (by first | exact Or.inl rfl | exact Or.inr rfl) (pe_op op_add pe_int (C8.pe_c C_law_draw hr (by decide) (by rfl) (pa_cons (pv 0) (pa_cons pe_int pa_nil)))))
  (pss_one (ps_set (i := 3) sc_law_web.nd rfl (by first | exact Or.inl rfl | exact Or.inr rfl) (C8.pe_c C_law_small_rows hr (by decide) (by rfl) (pa_cons (pv 0) (pa_cons (pv 2) (pa_cons (pv 1) pa_nil))))))))
  (pss_cons (ps_set (i := 4) sc_law_web.nd rfl (by first | exact Or.inl rfl | exact Or.inr rfl) (C8.pe_c C_law_names hr (by decide) (by rfl) (pa_cons (pv 0) (pa_cons (pv 2) pa_nil))))
  (pss_cons (ps_set (i := 3) sc_law_web.nd rfl (by first | exact Or.inl rfl | exact Or.inr rfl) (C8.pe_c C_law_clean hr (by decide) (by rfl) (pa_cons (pv 2) (pa_cons (pe_lc (own := [("row", 5)]) (g := (gName 5)) (tt := tYes) rfl sc_law_web.nd (pi_list (pv 3)) (blkOk_by (own := [("row", 5)]) (N := ["box", "shape", "pages", "rows", "names", "row"]) (sc := defScope s_law_web) (by decide +kernel)) (fun _ _ _ _ _ => (pg_name (i := 5) sc_law_web.nd rfl (by first | exact Or.inl rfl | exact Or.inr rfl))) (fun _ _ _ _ _ => pts_nil) (fun _ _ _ _ _ => (pe_tup (pa_cons (pe_ix ix_list (pv 4) (pe_ix ix_tup (pv 5) pe_int (fun _ _ => rfl)) (fun _ _ => rfl)) (pa_cons (pe_ix ix_list (pv 4) (pe_ix ix_tup (pv 5) pe_int (fun _ _ => rfl)) (fun _ _ => rfl)) pa_nil))))) pa_nil))))
  (pss_one (ps_ret (pe_lst (pa_cons (pv 2) (pa_cons (C8.pe_c C_law_mixed hr (by decide) (by rfl) (pa_cons (pv 0) (pa_cons (pv 3) pa_nil))) pa_nil))))))))), rd_law_web h⟩)
theorem bi_law_web {f : Addr} {fd : FuncData} (F : Fun K "_law_web" "_law_web" s_law_web f fd) : Binds K fd ["box"] [] := F.binds fun _ _ _ _ _ _ us hl => match us, hl with | [_], _ => rfl
theorem sc_check_pages : FnScope ["web", "pages", "page"] ["web", "pages"] (defScope s_check_pages) := ⟨rfl, rfl, rfl, by decide +kernel, rfl, by decide +kernel, by decide +kernel⟩
theorem ln_check_pages {vs : List V} {H : Hp} {Q : VK} {E : XK} (h : sp_check_pages K A vs H Q E) : vs.length = 2 := by
  first | (obtain ⟨_, rfl, _⟩ := h; rfl) | (obtain ⟨_, _, rfl, _⟩ := h; rfl) | (obtain ⟨_, _, _, rfl, _⟩ := h; rfl) | (obtain ⟨_, _, _, _, rfl, _⟩ := h; rfl) | (obtain ⟨_, _, _, _, _, rfl, _⟩ := h; rfl) | (obtain ⟨_, _, _, _, _, _, rfl, _⟩ := h; rfl) | (obtain ⟨_, _, _, _, _, _, _, rfl, _⟩ := h; rfl) | (obtain ⟨_, _, _, _, _, _, _, _, rfl, _⟩ := h; rfl) | (obtain ⟨_, _, _, _, _, _, _, _, _, rfl, _⟩ := h; rfl) | (obtain ⟨_, _, _, _, _, _, _, _, _, _, rfl, _⟩ := h; rfl) | (obtain ⟨_, _, _, _, _, _, _, _, _, _, _, rfl, _⟩ := h; rfl) | (obtain ⟨_, _, _, _, _, _, _, _, _, _, _, _, rfl, _⟩ := h; rfl) | (obtain ⟨_, _, _, _, _, _, _, _, _, _, _, _, _, rfl, _⟩ := h; rfl) | (obtain ⟨_, _, _, _, _, _, _, _, _, _, _, _, _, _, rfl, _⟩ := h; rfl) | (obtain ⟨_, _, _, _, _, _, _, _, _, _, _, _, _, _, _, rfl, _⟩ := h; rfl) | (obtain ⟨_, _, _, _, _, _, _, _, _, _, _, _, _, _, _, _, rfl, _⟩ := h; rfl) | (obtain ⟨_, _, _, _, _, _, _, _, _, _, _, _, _, _, _, _, _, rfl, _⟩ := h; rfl) | (obtain ⟨_, _, _, _, _, _, _, _, _, _, _, _, _, _, _, _, _, _, rfl, _⟩ := h; rfl) | (obtain ⟨_, _, _, _, _, _, _, _, _, _, _, _, _, _, _, _, _, _, _, rfl, _⟩ := h; rfl)
theorem fn_check_pages {f : Addr} {fd : FuncData} (F : Fun K "check_pages" "check_pages" s_check_pages f fd) (T : Txt mg A) (C : CT K A) (C_NoPage : GX.ErrX P w K mg base 1 "NoPage" A.NoPage (GX.sp_err K A.NoPage "page")) : FnOk P w K mg base (L2.CX P w) 3 f fd ["web", "pages"] (sp_check_pages K A) :=
  F.okX sc_check_pages (fun vs H Q E h => ln_check_pages h) (fun cdv Ar outer s H vs Q E hr h => ⟨t_check_pages K A E, (pss_one (ps_for (passes_of rfl) rfl (pi_list (pv 1)) (pg_name (i := 2) sc_check_pages.nd rfl (by first | exact Or.inl rfl | exact Or.inr rfl))
  (pss_one (ps_if (pt_not (pt_chain op_le op_lt pe_int (pv 2) (pe_fld (pv 0) rfl))) (pss_one (GX.ps_raiseO C_NoPage hr (by decide) rfl (by rfl) (takes_of rfl rfl rfl rfl) (pa_cons (pv 2) pa_nil))) pss_nil)))), rd_check_pages C.b h⟩)
theorem bi_check_pages {f : Addr} {fd : FuncData} (F : Fun K "check_pages" "check_pages" s_check_pages f fd) : Binds K fd ["web", "pages"] [] := F.binds fun _ _ _ _ _ _ us hl => match us, hl with | [_, _], _ => rfl
theorem sc_is_pointer : FnScope ["pages", "holder", "target"] ["pages", "holder", "target"] (defScope s_is_pointer) := ⟨rfl, rfl, rfl, by decide +kernel, rfl, by decide +kernel, by decide +kernel⟩
theorem ln_is_pointer {vs : List V} {H : Hp} {Q : VK} {E : XK} (h : sp_is_pointer K A vs H Q E) : vs.length = 3 := by
  first | (obtain ⟨_, rfl, _⟩ := h; rfl) | (obtain ⟨_, _, rfl, _⟩ := h; rfl) | (obtain ⟨_, _, _, rfl, _⟩ := h; rfl) | (obtain ⟨_, _, _, _, rfl, _⟩ := h; rfl) | (obtain ⟨_, _, _, _, _, rfl, _⟩ := h; rfl) | (obtain ⟨_, _, _, _, _, _, rfl, _⟩ := h; rfl) | (obtain ⟨_, _, _, _, _, _, _, rfl, _⟩ := h; rfl) | (obtain ⟨_, _, _, _, _, _, _, _, rfl, _⟩ := h; rfl) | (obtain ⟨_, _, _, _, _, _, _, _, _, rfl, _⟩ := h; rfl) | (obtain ⟨_, _, _, _, _, _, _, _, _, _, rfl, _⟩ := h; rfl) | (obtain ⟨_, _, _, _, _, _, _, _, _, _, _, rfl, _⟩ := h; rfl) | (obtain ⟨_, _, _, _, _, _, _, _, _, _, _, _, rfl, _⟩ := h; rfl) | (obtain ⟨_, _, _, _, _, _, _, _, _, _, _, _, _, rfl, _⟩ := h; rfl) | (obtain ⟨_, _, _, _, _, _, _, _, _, _, _, _, _, _, rfl, _⟩ := h; rfl) | (obtain ⟨_, _, _, _, _, _, _, _, _, _, _, _, _, _, _, rfl, _⟩ := h; rfl) | (obtain ⟨_, _, _, _, _, _, _, _, _, _, _, _, _, _, _, _, rfl, _⟩ := h; rfl) | (obtain ⟨_, _, _, _, _, _, _, _, _, _, _, _, _, _, _, _, _, rfl, _⟩ := h; rfl) | (obtain ⟨_, _, _, _, _, _, _, _, _, _, _, _, _, _, _, _, _, _, rfl, _⟩ := h; rfl) | (obtain ⟨_, _, _, _, _, _, _, _, _, _, _, _, _, _, _, _, _, _, _, rfl, _⟩ := h; rfl)
theorem fn_is_pointer {f : Addr} {fd : FuncData} (F : Fun K "_is_pointer" "_is_pointer" s_is_pointer f fd) (T : Txt mg A) (C : CT K A)  : FnOk P w K mg base CX0 1 f fd ["pages", "holder", "target"] (sp_is_pointer K A) :=
  F.ok sc_is_pointer (fun vs H Q E h => ln_is_pointer h) (fun cdv Ar outer s H vs Q E hr h => ⟨t_is_pointer K A, (pss_one (ps_ret (pe_and (pe_chain op_le op_lt pe_int (pv 1) (pv 0)) (pe_and (pe_chain op_le op_lt pe_int (pv 2) (pv 0)) (pe_one (pe_cmpR op_ne (pv 1) (pv 2) (nomark _))))))), rd_is_pointer h⟩)
theorem bi_is_pointer {f : Addr} {fd : FuncData} (F : Fun K "_is_pointer" "_is_pointer" s_is_pointer f fd) : Binds K fd ["pages", "holder", "target"] [] := F.binds fun _ _ _ _ _ _ us hl => match us, hl with | [_, _, _], _ => rfl
theorem sc_as_known : FnScope ["pages", "pointers", "known", "index", "holder", "target"] ["pages", "pointers"] (defScope s_as_known) := ⟨rfl, rfl, rfl, by decide +kernel, rfl, by decide +kernel, by decide +kernel⟩
theorem ln_as_known {vs : List V} {H : Hp} {Q : VK} {E : XK} (h : sp_as_known K A vs H Q E) : vs.length = 2 := by
  first | (obtain ⟨_, rfl, _⟩ := h; rfl) | (obtain ⟨_, _, rfl, _⟩ := h; rfl) | (obtain ⟨_, _, _, rfl, _⟩ := h; rfl) | (obtain ⟨_, _, _, _, rfl, _⟩ := h; rfl) | (obtain ⟨_, _, _, _, _, rfl, _⟩ := h; rfl) | (obtain ⟨_, _, _, _, _, _, rfl, _⟩ := h; rfl) | (obtain ⟨_, _, _, _, _, _, _, rfl, _⟩ := h; rfl) | (obtain ⟨_, _, _, _, _, _, _, _, rfl, _⟩ := h; rfl) | (obtain ⟨_, _, _, _, _, _, _, _, _, rfl, _⟩ := h; rfl) | (obtain ⟨_, _, _, _, _, _, _, _, _, _, rfl, _⟩ := h; rfl) | (obtain ⟨_, _, _, _, _, _, _, _, _, _, _, rfl, _⟩ := h; rfl) | (obtain ⟨_, _, _, _, _, _, _, _, _, _, _, _, rfl, _⟩ := h; rfl) | (obtain ⟨_, _, _, _, _, _, _, _, _, _, _, _, _, rfl, _⟩ := h; rfl) | (obtain ⟨_, _, _, _, _, _, _, _, _, _, _, _, _, _, rfl, _⟩ := h; rfl) | (obtain ⟨_, _, _, _, _, _, _, _, _, _, _, _, _, _, _, rfl, _⟩ := h; rfl) | (obtain ⟨_, _, _, _, _, _, _, _, _, _, _, _, _, _, _, _, rfl, _⟩ := h; rfl) | (obtain ⟨_, _, _, _, _, _, _, _, _, _, _, _, _, _, _, _, _, rfl, _⟩ := h; rfl) | (obtain ⟨_, _, _, _, _, _, _, _, _, _, _, _, _, _, _, _, _, _, rfl, _⟩ := h; rfl) | (obtain ⟨_, _, _, _, _, _, _, _, _, _, _, _, _, _, _, _, _, _, _, rfl, _⟩ := h; rfl)
theorem fn_as_known {f : Addr} {fd : FuncData} (F : Fun K "_as_known" "_as_known" s_as_known f fd) (T : Txt mg A) (C : CT K A) (C_InvalidPointer : GX.ErrX P w K mg base 1 "InvalidPointer" A.InvalidPointer (GX.sp_err K A.InvalidPointer "index")) (C_is_pointer : C8.Cal P w K mg base 1 "_is_pointer" (sp_is_pointer K A) []) : FnOk P w K mg base (L2.CX P w) 3 f fd ["pages", "pointers"] (sp_as_known K A) :=
  F.okX sc_as_known (fun vs H Q E h => ln_as_known h) (fun cdv Ar outer s H vs Q E hr h => ⟨t_as_known K A E, (pss_cons (ps_set (i := 2) sc_as_known.nd rfl (by first | exact Or.inl rfl | exact Or.inr rfl) pe_dnewT)
  (pss_cons (ps_for (passes_of rfl) rfl (pi_enum (by rfl) T.b_enumerate (pa_cons (pv 1) pa_nil)) (pg_tup rfl (pgs_cons (pg_name (i := 3) sc_as_known.nd rfl (by first | exact Or.inl rfl | exact Or.inr rfl)) (pgs_cons (pg_tup rfl (pgs_cons (pg_name (i := 4) sc_as_known.nd rfl (by first | exact Or.inl rfl | exact Or.inr rfl)) (pgs_cons (pg_name (i := 5) sc_as_known.nd rfl (by first | exact Or.inl rfl | exact Or.inr rfl)) pgs_nil))) pgs_nil)))
  (pss_cons (ps_if (PW.pt (pw_or (pt_not (pt_val (C8.pe_c C_is_pointer hr (by decide) (by rfl) (pa_cons (pv 0) (pa_cons (pv 4) (pa_cons (pv 5) pa_nil)))) (by intro _; rfl))) (pw_or1 (pt_cmp (pc_din (hu_of hr) (pe_tup (pa_cons (pv 4) (pa_cons (pv 5) pa_nil))) (pv 2)))))) (pss_one (GX.ps_raiseO C_InvalidPointer hr (by decide) rfl (by rfl) (takes_of rfl rfl rfl rfl) (pa_cons (pv 3) pa_nil))) pss_nil)
  (pss_one (ps_dput (hu_of hr) (pv 2) (pe_tup (pa_cons (pv 4) (pa_cons (pv 5) pa_nil))) pe_bl rfl))))
  (pss_one (ps_ret (pv 2))))), rd_as_known C.b h⟩)
theorem bi_as_known {f : Addr} {fd : FuncData} (F : Fun K "_as_known" "_as_known" s_as_known f fd) : Binds K fd ["pages", "pointers"] [] := F.binds fun _ _ _ _ _ _ us hl => match us, hl with | [_, _], _ => rfl
theorem sc_grouped : FnScope ["pages", "pairs", "found", "_", "page", "other"] ["pages", "pairs"] (defScope s_grouped) := ⟨rfl, rfl, rfl, by decide +kernel, rfl, by decide +kernel, by decide +kernel⟩
theorem ln_grouped {vs : List V} {H : Hp} {Q : VK} {E : XK} (h : sp_grouped K A vs H Q E) : vs.length = 2 := by
  first | (obtain ⟨_, rfl, _⟩ := h; rfl) | (obtain ⟨_, _, rfl, _⟩ := h; rfl) | (obtain ⟨_, _, _, rfl, _⟩ := h; rfl) | (obtain ⟨_, _, _, _, rfl, _⟩ := h; rfl) | (obtain ⟨_, _, _, _, _, rfl, _⟩ := h; rfl) | (obtain ⟨_, _, _, _, _, _, rfl, _⟩ := h; rfl) | (obtain ⟨_, _, _, _, _, _, _, rfl, _⟩ := h; rfl) | (obtain ⟨_, _, _, _, _, _, _, _, rfl, _⟩ := h; rfl) | (obtain ⟨_, _, _, _, _, _, _, _, _, rfl, _⟩ := h; rfl) | (obtain ⟨_, _, _, _, _, _, _, _, _, _, rfl, _⟩ := h; rfl) | (obtain ⟨_, _, _, _, _, _, _, _, _, _, _, rfl, _⟩ := h; rfl) | (obtain ⟨_, _, _, _, _, _, _, _, _, _, _, _, rfl, _⟩ := h; rfl) | (obtain ⟨_, _, _, _, _, _, _, _, _, _, _, _, _, rfl, _⟩ := h; rfl) | (obtain ⟨_, _, _, _, _, _, _, _, _, _, _, _, _, _, rfl, _⟩ := h; rfl) | (obtain ⟨_, _, _, _, _, _, _, _, _, _, _, _, _, _, _, rfl, _⟩ := h; rfl) | (obtain ⟨_, _, _, _, _, _, _, _, _, _, _, _, _, _, _, _, rfl, _⟩ := h; rfl) | (obtain ⟨_, _, _, _, _, _, _, _, _, _, _, _, _, _, _, _, _, rfl, _⟩ := h; rfl) | (obtain ⟨_, _, _, _, _, _, _, _, _, _, _, _, _, _, _, _, _, _, rfl, _⟩ := h; rfl) | (obtain ⟨_, _, _, _, _, _, _, _, _, _, _, _, _, _, _, _, _, _, _, rfl, _⟩ := h; rfl)
theorem fn_grouped {f : Addr} {fd : FuncData} (F : Fun K "_grouped" "_grouped" s_grouped f fd) (T : Txt mg A) (C : CT K A)  : FnOk P w K mg base CX0 1 f fd ["pages", "pairs"] (sp_grouped K A) :=
  F.ok sc_grouped (fun vs H Q E h => ln_grouped h) (fun cdv Ar outer s H vs Q E hr h => ⟨t_grouped K A, (pss_cons (ps_setLc (i := 2) (own := [("_", 3)]) (g := (gName 3)) (tt := tYes) rfl sc_grouped.nd rfl rfl (sw_true rfl rfl rfl (by decide +kernel)) (pi_range1 (by rfl) T.b_range (pa_cons (pv 0) pa_nil)) (blkOk_by (own := [("_", 3)]) (N := ["pages", "pairs", "found", "_", "page", "other"]) (sc := defScope s_grouped) (by decide +kernel)) (fun _ _ _ _ _ => (pg_name (i := 3) sc_grouped.nd rfl (by first | exact Or.inl rfl | exact Or.inr rfl))) (fun _ _ _ _ _ => pts_nil) (fun _ _ _ _ _ => (pe_lst pa_nil)))
  (pss_cons (ps_for PassesOwn.never rfl (pi_list (pv 1)) (pg_tup rfl (pgs_cons (pg_name (i := 4) sc_grouped.nd rfl (by first | exact Or.inl rfl | exact Or.inr rfl)) (pgs_cons (pg_name (i := 5) sc_grouped.nd rfl (by first | exact Or.inl rfl | exact Or.inr rfl)) pgs_nil)))
  (pss_one (ps_expr (pe_bm PySem.F.plainAttrs_list PySem.F.slot_list_append PySem.F.type_list_append mt_append (pe_ix ix_list (pv 2) (pv 4) (fun _ _ => rfl)) (pa_cons (pv 5) pa_nil)))))
  (pss_one (ps_ret (pv 2))))), rd_grouped h⟩)
theorem bi_grouped {f : Addr} {fd : FuncData} (F : Fun K "_grouped" "_grouped" s_grouped f fd) : Binds K fd ["pages", "pairs"] [] := F.binds fun _ _ _ _ _ _ us hl => match us, hl with | [_, _], _ => rfl
theorem sc_Web_init : FnScope ["self", "pages", "pointers", "holder", "target"] ["self", "pages", "pointers"] (defScope s_Web_init) := ⟨rfl, rfl, rfl, by decide +kernel, rfl, by decide +kernel, by decide +kernel⟩
theorem ln_Web_init {vs : List V} {H : Hp} {Q : VK} {E : XK} (h : sp_Web_init K A vs H Q E) : vs.length = 3 := by
  first | (obtain ⟨_, rfl, _⟩ := h; rfl) | (obtain ⟨_, _, rfl, _⟩ := h; rfl) | (obtain ⟨_, _, _, rfl, _⟩ := h; rfl) | (obtain ⟨_, _, _, _, rfl, _⟩ := h; rfl) | (obtain ⟨_, _, _, _, _, rfl, _⟩ := h; rfl) | (obtain ⟨_, _, _, _, _, _, rfl, _⟩ := h; rfl) | (obtain ⟨_, _, _, _, _, _, _, rfl, _⟩ := h; rfl) | (obtain ⟨_, _, _, _, _, _, _, _, rfl, _⟩ := h; rfl) | (obtain ⟨_, _, _, _, _, _, _, _, _, rfl, _⟩ := h; rfl) | (obtain ⟨_, _, _, _, _, _, _, _, _, _, rfl, _⟩ := h; rfl) | (obtain ⟨_, _, _, _, _, _, _, _, _, _, _, rfl, _⟩ := h; rfl) | (obtain ⟨_, _, _, _, _, _, _, _, _, _, _, _, rfl, _⟩ := h; rfl) | (obtain ⟨_, _, _, _, _, _, _, _, _, _, _, _, _, rfl, _⟩ := h; rfl) | (obtain ⟨_, _, _, _, _, _, _, _, _, _, _, _, _, _, rfl, _⟩ := h; rfl) | (obtain ⟨_, _, _, _, _, _, _, _, _, _, _, _, _, _, _, rfl, _⟩ := h; rfl) | (obtain ⟨_, _, _, _, _, _, _, _, _, _, _, _, _, _, _, _, rfl, _⟩ := h; rfl) | (obtain ⟨_, _, _, _, _, _, _, _, _, _, _, _, _, _, _, _, _, rfl, _⟩ := h; rfl) | (obtain ⟨_, _, _, _, _, _, _, _, _, _, _, _, _, _, _, _, _, _, rfl, _⟩ := h; rfl) | (obtain ⟨_, _, _, _, _, _, _, _, _, _, _, _, _, _, _, _, _, _, _, rfl, _⟩ := h; rfl)
theorem fn_Web_init {f : Addr} {fd : FuncData} (F : Fun K "__init__" "Web.__init__" s_Web_init f fd) (T : Txt mg A) (C : CT K A) (C_as_known : GX.CalX P w K mg base 3 "_as_known" (sp_as_known K A)) (C_grouped : C8.Cal P w K mg base 1 "_grouped" (sp_grouped K A) []) : FnOk P w K mg base (L2.CX P w) 4 f fd ["self", "pages", "pointers"] (sp_Web_init K A) :=
  F.okX sc_Web_init (fun vs H Q E h => ln_Web_init h) (fun cdv Ar outer s H vs Q E hr h => ⟨t_Web_init K A E, (pss_cons (ps_fld (pv 0) (pv 1) rfl)
  (pss_cons (ps_fld (pv 0) (GX.pe_cX C_as_known hr (by decide) (by rfl) (passes_call (takes_of rfl rfl rfl rfl) (fun _ _ _ _ h => h)) (pa_cons (pv 1) (pa_cons (pv 2) pa_nil))) rfl)
  (pss_cons (ps_fld (pv 0) (pe_callB cr_sortedPO (by rfl) T.b_sorted (by decide +kernel) (pa_cons (pe_callTy (call_list_dT rfl) (by rfl) T.b_list (by decide +kernel) (pa_cons (pe_fld (pv 0) rfl) pa_nil)) pa_nil)) rfl)
  (pss_cons (ps_fld (pv 0) (C8.pe_c C_grouped hr (by decide) (by rfl) (pa_cons (pv 1) (pa_cons (pe_fld (pv 0) rfl) pa_nil))) rfl)
  (pss_one (ps_fld (pv 0) (C8.pe_c C_grouped hr (by decide) (by rfl) (pa_cons (pv 1) (pa_cons (pe_lc (own := [("holder", 3), ("target", 4)]) (g := (gTup K 2 (gCons (gName 3) (gCons (gName 4) gNil)))) (tt := tYes) rfl sc_Web_init.nd (pi_list (pe_fld (pv 0) rfl)) (blkOk_by (own := [("holder", 3), ("target", 4)]) (N := ["self", "pages", "pointers", "holder", "target"]) (sc := defScope s_Web_init) (by decide +kernel)) (fun _ _ _ _ _ => (pg_tup rfl (pgs_cons (pg_name (i := 3) sc_Web_init.nd rfl (by first | exact Or.inl rfl | exact Or.inr rfl)) (pgs_cons (pg_name (i := 4) sc_Web_init.nd rfl (by first | exact Or.inl rfl | exact Or.inr rfl)) pgs_nil)))) (fun _ _ _ _ _ => pts_nil) (fun _ _ _ _ _ => (pe_tup (pa_cons (pv 4) (pa_cons (pv 3) pa_nil))))) pa_nil))) rfl)))))), rd_Web_init C.b h⟩)
theorem bi_Web_init {f : Addr} {fd : FuncData} (F : Fun K "__init__" "Web.__init__" s_Web_init f fd) : Binds K fd ["self", "pages", "pointers"] [] := F.binds fun _ _ _ _ _ _ us hl => match us, hl with | [_, _, _], _ => rfl
theorem sc_Web_holders : FnScope ["self", "page"] ["self", "page"] (defScope s_Web_holders) := ⟨rfl, rfl, rfl, by decide +kernel, rfl, by decide +kernel, by decide +kernel⟩
theorem ln_Web_holders {vs : List V} {H : Hp} {Q : VK} {E : XK} (h : sp_Web_holders K A vs H Q E) : vs.length = 2 := by
  first | (obtain ⟨_, rfl, _⟩ := h; rfl) | (obtain ⟨_, _, rfl, _⟩ := h; rfl) | (obtain ⟨_, _, _, rfl, _⟩ := h; rfl) | (obtain ⟨_, _, _, _, rfl, _⟩ := h; rfl) | (obtain ⟨_, _, _, _, _, rfl, _⟩ := h; rfl) | (obtain ⟨_, _, _, _, _, _, rfl, _⟩ := h; rfl) | (obtain ⟨_, _, _, _, _, _, _, rfl, _⟩ := h; rfl) | (obtain ⟨_, _, _, _, _, _, _, _, rfl, _⟩ := h; rfl) | (obtain ⟨_, _, _, _, _, _, _, _, _, rfl, _⟩ := h; rfl) | (obtain ⟨_, _, _, _, _, _, _, _, _, _, rfl, _⟩ := h; rfl) | (obtain ⟨_, _, _, _, _, _, _, _, _, _, _, rfl, _⟩ := h; rfl) | (obtain ⟨_, _, _, _, _, _, _, _, _, _, _, _, rfl, _⟩ := h; rfl) | (obtain ⟨_, _, _, _, _, _, _, _, _, _, _, _, _, rfl, _⟩ := h; rfl) | (obtain ⟨_, _, _, _, _, _, _, _, _, _, _, _, _, _, rfl, _⟩ := h; rfl) | (obtain ⟨_, _, _, _, _, _, _, _, _, _, _, _, _, _, _, rfl, _⟩ := h; rfl) | (obtain ⟨_, _, _, _, _, _, _, _, _, _, _, _, _, _, _, _, rfl, _⟩ := h; rfl) | (obtain ⟨_, _, _, _, _, _, _, _, _, _, _, _, _, _, _, _, _, rfl, _⟩ := h; rfl) | (obtain ⟨_, _, _, _, _, _, _, _, _, _, _, _, _, _, _, _, _, _, rfl, _⟩ := h; rfl) | (obtain ⟨_, _, _, _, _, _, _, _, _, _, _, _, _, _, _, _, _, _, _, rfl, _⟩ := h; rfl)
theorem fn_Web_holders {f : Addr} {fd : FuncData} (F : Fun K "holders" "Web.holders" s_Web_holders f fd) (T : Txt mg A) (C : CT K A) (C_check_pages : GX.CalX P w K mg base 3 "check_pages" (sp_check_pages K A)) : FnOk P w K mg base (L2.CX P w) 4 f fd ["self", "page"] (sp_Web_holders K A) :=
  F.okX sc_Web_holders (fun vs H Q E h => ln_Web_holders h) (fun cdv Ar outer s H vs Q E hr h => ⟨t_Web_holders K A E, (pss_cons (ps_expr (GX.pe_cX C_check_pages hr (by decide) (by rfl) (passes_call (takes_of rfl rfl rfl rfl) (fun _ _ _ _ h => h)) (pa_cons (pv 0) (pa_cons (pe_lst (pa_cons (pv 1) pa_nil)) pa_nil))))
  (pss_one (ps_ret (pe_callTy call_list_of (by rfl) T.b_list (by decide +kernel) (pa_cons (pe_ix ix_list (pe_fld (pv 0) rfl) (pv 1) (fun _ _ => rfl)) pa_nil))))), rd_Web_holders C.b h⟩)
theorem bi_Web_holders {f : Addr} {fd : FuncData} (F : Fun K "holders" "Web.holders" s_Web_holders f fd) : Binds K fd ["self", "page"] [] := F.binds fun _ _ _ _ _ _ us hl => match us, hl with | [_, _], _ => rfl
theorem sc_Web_eq : FnScope ["self", "other"] ["self", "other"] (defScope s_Web_eq) := ⟨rfl, rfl, rfl, by decide +kernel, rfl, by decide +kernel, by decide +kernel⟩
theorem ln_Web_eq {vs : List V} {H : Hp} {Q : VK} {E : XK} (h : sp_Web_eq K A vs H Q E) : vs.length = 2 := by
  first | (obtain ⟨_, rfl, _⟩ := h; rfl) | (obtain ⟨_, _, rfl, _⟩ := h; rfl) | (obtain ⟨_, _, _, rfl, _⟩ := h; rfl) | (obtain ⟨_, _, _, _, rfl, _⟩ := h; rfl) | (obtain ⟨_, _, _, _, _, rfl, _⟩ := h; rfl) | (obtain ⟨_, _, _, _, _, _, rfl, _⟩ := h; rfl) | (obtain ⟨_, _, _, _, _, _, _, rfl, _⟩ := h; rfl) | (obtain ⟨_, _, _, _, _, _, _, _, rfl, _⟩ := h; rfl) | (obtain ⟨_, _, _, _, _, _, _, _, _, rfl, _⟩ := h; rfl) | (obtain ⟨_, _, _, _, _, _, _, _, _, _, rfl, _⟩ := h; rfl) | (obtain ⟨_, _, _, _, _, _, _, _, _, _, _, rfl, _⟩ := h; rfl) | (obtain ⟨_, _, _, _, _, _, _, _, _, _, _, _, rfl, _⟩ := h; rfl) | (obtain ⟨_, _, _, _, _, _, _, _, _, _, _, _, _, rfl, _⟩ := h; rfl) | (obtain ⟨_, _, _, _, _, _, _, _, _, _, _, _, _, _, rfl, _⟩ := h; rfl) | (obtain ⟨_, _, _, _, _, _, _, _, _, _, _, _, _, _, _, rfl, _⟩ := h; rfl) | (obtain ⟨_, _, _, _, _, _, _, _, _, _, _, _, _, _, _, _, rfl, _⟩ := h; rfl) | (obtain ⟨_, _, _, _, _, _, _, _, _, _, _, _, _, _, _, _, _, rfl, _⟩ := h; rfl) | (obtain ⟨_, _, _, _, _, _, _, _, _, _, _, _, _, _, _, _, _, _, rfl, _⟩ := h; rfl) | (obtain ⟨_, _, _, _, _, _, _, _, _, _, _, _, _, _, _, _, _, _, _, rfl, _⟩ := h; rfl)
theorem fn_Web_eq {f : Addr} {fd : FuncData} (F : Fun K "__eq__" "Web.__eq__" s_Web_eq f fd) (T : Txt mg A) (C : CT K A)  : FnOk P w K mg base CX0 1 f fd ["self", "other"] (sp_Web_eq K A) :=
  F.ok sc_Web_eq (fun vs H Q E h => ln_Web_eq h) (fun cdv Ar outer s H vs Q E hr h => ⟨t_Web_eq K A, (pss_one (ps_ret (pe_and (pe_callB call_isi (by rfl) T.b_isinstance (by decide +kernel) (pa_cons (pv 1) (pa_cons (pe_glob (v := .ref A.Web) (by rfl) T.g_Web rfl) pa_nil))) (pe_and (pe_cmpR op_eq (pe_fld (pv 0) rfl) (pe_fld (pv 1) rfl) (nomark _)) (pe_one (pe_cmpR (op_eqD hr.units) (pe_fld (pv 0) rfl) (pe_fld (pv 1) rfl) (nomark _))))))), rd_Web_eq C.b C.i h⟩)
theorem bi_Web_eq {f : Addr} {fd : FuncData} (F : Fun K "__eq__" "Web.__eq__" s_Web_eq f fd) : Binds K fd ["self", "other"] [] := F.binds fun _ _ _ _ _ _ us hl => match us, hl with | [_, _], _ => rfl
theorem sc_lines_used : FnScope ["web", "page", "copied", "anew", "used", "target", "holder"] ["web", "page", "copied"] (defScope s_lines_used) := ⟨rfl, rfl, rfl, by decide +kernel, rfl, by decide +kernel, by decide +kernel⟩
theorem ln_lines_used {vs : List V} {H : Hp} {Q : VK} {E : XK} (h : sp_lines_used K A vs H Q E) : vs.length = 3 := by
  first | (obtain ⟨_, rfl, _⟩ := h; rfl) | (obtain ⟨_, _, rfl, _⟩ := h; rfl) | (obtain ⟨_, _, _, rfl, _⟩ := h; rfl) | (obtain ⟨_, _, _, _, rfl, _⟩ := h; rfl) | (obtain ⟨_, _, _, _, _, rfl, _⟩ := h; rfl) | (obtain ⟨_, _, _, _, _, _, rfl, _⟩ := h; rfl) | (obtain ⟨_, _, _, _, _, _, _, rfl, _⟩ := h; rfl) | (obtain ⟨_, _, _, _, _, _, _, _, rfl, _⟩ := h; rfl) | (obtain ⟨_, _, _, _, _, _, _, _, _, rfl, _⟩ := h; rfl) | (obtain ⟨_, _, _, _, _, _, _, _, _, _, rfl, _⟩ := h; rfl) | (obtain ⟨_, _, _, _, _, _, _, _, _, _, _, rfl, _⟩ := h; rfl) | (obtain ⟨_, _, _, _, _, _, _, _, _, _, _, _, rfl, _⟩ := h; rfl) | (obtain ⟨_, _, _, _, _, _, _, _, _, _, _, _, _, rfl, _⟩ := h; rfl) | (obtain ⟨_, _, _, _, _, _, _, _, _, _, _, _, _, _, rfl, _⟩ := h; rfl) | (obtain ⟨_, _, _, _, _, _, _, _, _, _, _, _, _, _, _, rfl, _⟩ := h; rfl) | (obtain ⟨_, _, _, _, _, _, _, _, _, _, _, _, _, _, _, _, rfl, _⟩ := h; rfl) | (obtain ⟨_, _, _, _, _, _, _, _, _, _, _, _, _, _, _, _, _, rfl, _⟩ := h; rfl) | (obtain ⟨_, _, _, _, _, _, _, _, _, _, _, _, _, _, _, _, _, _, rfl, _⟩ := h; rfl) | (obtain ⟨_, _, _, _, _, _, _, _, _, _, _, _, _, _, _, _, _, _, _, rfl, _⟩ := h; rfl)
theorem fn_lines_used {f : Addr} {fd : FuncData} (F : Fun K "lines_used" "lines_used" s_lines_used f fd) (T : Txt mg A) (C : CT K A) (C_Web_holders : GX.MetX P w K mg base 4 A.Web "holders" (sp_Web_holders K A)) : FnOk P w K mg base (L2.CX P w) 5 f fd ["web", "page", "copied"] (sp_lines_used K A) :=
  F.okX sc_lines_used (fun vs H Q E h => ln_lines_used h) (fun cdv Ar outer s H vs Q E hr h => ⟨t_lines_used K A w E, (pss_cons (ps_set (i := 3) sc_lines_used.nd rfl (by first | exact Or.inl rfl | exact Or.inr rfl) (pe_callTy (GX.cr_setTI rfl) (by rfl) T.b_set (by decide +kernel) (pa_cons (pv 2) pa_nil)))
  (pss_cons (ps_set (i := 4) sc_lines_used.nd rfl (by first | exact Or.inl rfl | exact Or.inr rfl) pe_dnewK)
  (C8.pss_cut (ps_if (pt_cmpR or_snotin (pv 1) (pv 3) (by rfl)) (pss_one (ps_dput (hu_of hr) (pv 4) (pv 1) pe_int rfl)) pss_nil)
  (pss_cons (ps_for (passes_of rfl) rfl (pi_list (pe_callB (GX.cr_sortSet rfl) (by rfl) T.b_sorted (by decide +kernel) (pa_cons (pv 3) pa_nil))) (pg_name (i := 5) sc_lines_used.nd rfl (by first | exact Or.inl rfl | exact Or.inr rfl))
  (pss_one (ps_for (passes_of rfl) rfl (pi_list (GX.pe_mtX C_Web_holders hr (by decide) (passes_call (takes_of rfl rfl rfl rfl) (fun _ _ _ _ h => h)) (pv 0) (pa_cons (pv 5) pa_nil))) (pg_name (i := 6) sc_lines_used.nd rfl (by first | exact Or.inl rfl | exact Or.inr rfl))
  (pss_one (ps_if (pt_cmpR or_snotin (pv 6) (pv 3) (by rfl)) (pss_one (ps_dput (hu_of hr) (pv 4) (pv 6) (pe_op op_add (pe_dget2 (hu_of hr) (pv 4) (pv 6) pe_int ⟨rfl, rfl, rfl, rfl⟩) pe_int) rfl)) pss_nil)))))
  (pss_one (ps_ret (pv 4))))))), rd_lines_used h⟩)
theorem bi_lines_used {f : Addr} {fd : FuncData} (F : Fun K "lines_used" "lines_used" s_lines_used f fd) : Binds K fd ["web", "page", "copied"] [] := F.binds fun _ _ _ _ _ _ us hl => match us, hl with | [_, _, _], _ => rfl
theorem sc_Standing_init : FnScope ["self", "web", "lines", "blank", "page", "number"] ["self", "web", "lines", "blank"] (defScope s_Standing_init) := ⟨rfl, rfl, rfl, by decide +kernel, rfl, by decide +kernel, by decide +kernel⟩
theorem ln_Standing_init {vs : List V} {H : Hp} {Q : VK} {E : XK} (h : sp_Standing_init K A vs H Q E) : vs.length = 4 := by
  first | (obtain ⟨_, rfl, _⟩ := h; rfl) | (obtain ⟨_, _, rfl, _⟩ := h; rfl) | (obtain ⟨_, _, _, rfl, _⟩ := h; rfl) | (obtain ⟨_, _, _, _, rfl, _⟩ := h; rfl) | (obtain ⟨_, _, _, _, _, rfl, _⟩ := h; rfl) | (obtain ⟨_, _, _, _, _, _, rfl, _⟩ := h; rfl) | (obtain ⟨_, _, _, _, _, _, _, rfl, _⟩ := h; rfl) | (obtain ⟨_, _, _, _, _, _, _, _, rfl, _⟩ := h; rfl) | (obtain ⟨_, _, _, _, _, _, _, _, _, rfl, _⟩ := h; rfl) | (obtain ⟨_, _, _, _, _, _, _, _, _, _, rfl, _⟩ := h; rfl) | (obtain ⟨_, _, _, _, _, _, _, _, _, _, _, rfl, _⟩ := h; rfl) | (obtain ⟨_, _, _, _, _, _, _, _, _, _, _, _, rfl, _⟩ := h; rfl) | (obtain ⟨_, _, _, _, _, _, _, _, _, _, _, _, _, rfl, _⟩ := h; rfl) | (obtain ⟨_, _, _, _, _, _, _, _, _, _, _, _, _, _, rfl, _⟩ := h; rfl) | (obtain ⟨_, _, _, _, _, _, _, _, _, _, _, _, _, _, _, rfl, _⟩ := h; rfl) | (obtain ⟨_, _, _, _, _, _, _, _, _, _, _, _, _, _, _, _, rfl, _⟩ := h; rfl) | (obtain ⟨_, _, _, _, _, _, _, _, _, _, _, _, _, _, _, _, _, rfl, _⟩ := h; rfl) | (obtain ⟨_, _, _, _, _, _, _, _, _, _, _, _, _, _, _, _, _, _, rfl, _⟩ := h; rfl) | (obtain ⟨_, _, _, _, _, _, _, _, _, _, _, _, _, _, _, _, _, _, _, rfl, _⟩ := h; rfl)
theorem fn_Standing_init {f : Addr} {fd : FuncData} (F : Fun K "__init__" "Standing.__init__" s_Standing_init f fd) (T : Txt mg A) (C : CT K A) (C_InvalidStanding : GX.ErrX P w K mg base 1 "InvalidStanding" A.InvalidStanding (GX.sp_err K A.InvalidStanding "page")) : FnOk P w K mg base (L2.CX P w) 3 f fd ["self", "web", "lines", "blank"] (sp_Standing_init K A) :=
  F.okX sc_Standing_init (fun vs H Q E h => ln_Standing_init h) (fun cdv Ar outer s H vs Q E hr h => ⟨t_Standing_init K A E, (pss_cons (ps_if (pt_cmpR op_ne (pe_callB call_len_seq (by rfl) T.b_len (by decide +kernel) (pa_cons (pv 3) pa_nil)) (pe_fld (pv 1) rfl) (nomark _)) (pss_one (GX.ps_raiseO C_InvalidStanding hr (by decide) rfl (by rfl) (takes_of rfl rfl rfl rfl) (pa_cons pe_non pa_nil))) pss_nil)
  (pss_cons (ps_for (passes_of rfl) rfl (pi_enum (by rfl) T.b_enumerate (pa_cons (pv 3) pa_nil)) (pg_tup rfl (pgs_cons (pg_name (i := 4) sc_Standing_init.nd rfl (by first | exact Or.inl rfl | exact Or.inr rfl)) (pgs_cons (pg_name (i := 5) sc_Standing_init.nd rfl (by first | exact Or.inl rfl | exact Or.inr rfl)) pgs_nil)))
  (pss_one (ps_if (pt_not (pt_chain op_le op_le pe_int (pv 5) (pv 2))) (pss_one (GX.ps_raiseO C_InvalidStanding hr (by decide) rfl (by rfl) (takes_of rfl rfl rfl rfl) (pa_cons (pv 4) pa_nil))) pss_nil)))
  (pss_cons (ps_fld (pv 0) (pv 1) rfl)
  (pss_cons (ps_fld (pv 0) (pv 2) rfl)
  (pss_one (ps_fld (pv 0) (pe_callTy call_list_of (by rfl) T.b_list (by decide +kernel) (pa_cons (pv 3) pa_nil)) rfl)))))), rd_Standing_init C.s h⟩)
theorem bi_Standing_init {f : Addr} {fd : FuncData} (F : Fun K "__init__" "Standing.__init__" s_Standing_init f fd) : Binds K fd ["self", "web", "lines", "blank"] [] := F.binds fun _ _ _ _ _ _ us hl => match us, hl with | [_, _, _, _], _ => rfl
theorem sc_Standing_fresh : FnScope ["cls", "web", "lines"] ["cls", "web", "lines"] (defScope s_Standing_fresh) := ⟨rfl, rfl, rfl, by decide +kernel, rfl, by decide +kernel, by decide +kernel⟩
theorem ln_Standing_fresh {vs : List V} {H : Hp} {Q : VK} {E : XK} (h : sp_Standing_fresh K A vs H Q E) : vs.length = 3 := by
  first | (obtain ⟨_, rfl, _⟩ := h; rfl) | (obtain ⟨_, _, rfl, _⟩ := h; rfl) | (obtain ⟨_, _, _, rfl, _⟩ := h; rfl) | (obtain ⟨_, _, _, _, rfl, _⟩ := h; rfl) | (obtain ⟨_, _, _, _, _, rfl, _⟩ := h; rfl) | (obtain ⟨_, _, _, _, _, _, rfl, _⟩ := h; rfl) | (obtain ⟨_, _, _, _, _, _, _, rfl, _⟩ := h; rfl) | (obtain ⟨_, _, _, _, _, _, _, _, rfl, _⟩ := h; rfl) | (obtain ⟨_, _, _, _, _, _, _, _, _, rfl, _⟩ := h; rfl) | (obtain ⟨_, _, _, _, _, _, _, _, _, _, rfl, _⟩ := h; rfl) | (obtain ⟨_, _, _, _, _, _, _, _, _, _, _, rfl, _⟩ := h; rfl) | (obtain ⟨_, _, _, _, _, _, _, _, _, _, _, _, rfl, _⟩ := h; rfl) | (obtain ⟨_, _, _, _, _, _, _, _, _, _, _, _, _, rfl, _⟩ := h; rfl) | (obtain ⟨_, _, _, _, _, _, _, _, _, _, _, _, _, _, rfl, _⟩ := h; rfl) | (obtain ⟨_, _, _, _, _, _, _, _, _, _, _, _, _, _, _, rfl, _⟩ := h; rfl) | (obtain ⟨_, _, _, _, _, _, _, _, _, _, _, _, _, _, _, _, rfl, _⟩ := h; rfl) | (obtain ⟨_, _, _, _, _, _, _, _, _, _, _, _, _, _, _, _, _, rfl, _⟩ := h; rfl) | (obtain ⟨_, _, _, _, _, _, _, _, _, _, _, _, _, _, _, _, _, _, rfl, _⟩ := h; rfl) | (obtain ⟨_, _, _, _, _, _, _, _, _, _, _, _, _, _, _, _, _, _, _, rfl, _⟩ := h; rfl)
theorem fn_Standing_fresh {f : Addr} {fd : FuncData} (F : Fun K "fresh" "Standing.fresh" s_Standing_fresh f fd) (T : Txt mg A) (C : CT K A) (C_Standing_init : GX.MakX P w K mg base 3 "Standing" A.Standing (sp_Standing_init K A)) : FnOk P w K mg base (L2.CX P w) 5 f fd ["cls", "web", "lines"] (sp_Standing_fresh K A) :=
  F.okX sc_Standing_fresh (fun vs H Q E h => ln_Standing_fresh h) (fun cdv Ar outer s H vs Q E hr h => ⟨t_Standing_fresh K A E, (pss_one (ps_ret (GX.pe_mkV C_Standing_init hr (by decide) (passes_call (takes_of rfl rfl rfl rfl) (fun _ _ _ _ h => h)) (pv 0) (pa_cons (pv 1) (pa_cons (pv 2) (pa_cons (pe_op op_rep (pe_lst (pa_cons (pv 2) pa_nil)) (pe_fld (pv 1) rfl)) pa_nil)))))), rd_Standing_fresh C.s h⟩)
theorem bi_Standing_fresh {f : Addr} {fd : FuncData} (F : Fun K "fresh" "Standing.fresh" s_Standing_fresh f fd) : Binds K fd ["cls", "web", "lines"] [] := F.binds fun _ _ _ _ _ _ us hl => match us, hl with | [_, _, _], _ => rfl
theorem sc_Standing_eq : FnScope ["self", "other"] ["self", "other"] (defScope s_Standing_eq) := ⟨rfl, rfl, rfl, by decide +kernel, rfl, by decide +kernel, by decide +kernel⟩
theorem ln_Standing_eq {vs : List V} {H : Hp} {Q : VK} {E : XK} (h : sp_Standing_eq K A vs H Q E) : vs.length = 2 := by
  first | (obtain ⟨_, rfl, _⟩ := h; rfl) | (obtain ⟨_, _, rfl, _⟩ := h; rfl) | (obtain ⟨_, _, _, rfl, _⟩ := h; rfl) | (obtain ⟨_, _, _, _, rfl, _⟩ := h; rfl) | (obtain ⟨_, _, _, _, _, rfl, _⟩ := h; rfl) | (obtain ⟨_, _, _, _, _, _, rfl, _⟩ := h; rfl) | (obtain ⟨_, _, _, _, _, _, _, rfl, _⟩ := h; rfl) | (obtain ⟨_, _, _, _, _, _, _, _, rfl, _⟩ := h; rfl) | (obtain ⟨_, _, _, _, _, _, _, _, _, rfl, _⟩ := h; rfl) | (obtain ⟨_, _, _, _, _, _, _, _, _, _, rfl, _⟩ := h; rfl) | (obtain ⟨_, _, _, _, _, _, _, _, _, _, _, rfl, _⟩ := h; rfl) | (obtain ⟨_, _, _, _, _, _, _, _, _, _, _, _, rfl, _⟩ := h; rfl) | (obtain ⟨_, _, _, _, _, _, _, _, _, _, _, _, _, rfl, _⟩ := h; rfl) | (obtain ⟨_, _, _, _, _, _, _, _, _, _, _, _, _, _, rfl, _⟩ := h; rfl) | (obtain ⟨_, _, _, _, _, _, _, _, _, _, _, _, _, _, _, rfl, _⟩ := h; rfl) | (obtain ⟨_, _, _, _, _, _, _, _, _, _, _, _, _, _, _, _, rfl, _⟩ := h; rfl) | (obtain ⟨_, _, _, _, _, _, _, _, _, _, _, _, _, _, _, _, _, rfl, _⟩ := h; rfl) | (obtain ⟨_, _, _, _, _, _, _, _, _, _, _, _, _, _, _, _, _, _, rfl, _⟩ := h; rfl) | (obtain ⟨_, _, _, _, _, _, _, _, _, _, _, _, _, _, _, _, _, _, _, rfl, _⟩ := h; rfl)
theorem fn_Standing_eq {f : Addr} {fd : FuncData} (F : Fun K "__eq__" "Standing.__eq__" s_Standing_eq f fd) (T : Txt mg A) (C : CT K A) (C_Web_eq : GX.EqO P w K mg base 1 A.Web (sp_Web_eq K A)) : FnOk P w K mg base CX0 2 f fd ["self", "other"] (sp_Standing_eq K A) :=
  F.ok sc_Standing_eq (fun vs H Q E h => ln_Standing_eq h) (fun cdv Ar outer s H vs Q E hr h => ⟨t_Standing_eq K A, (pss_one (ps_ret (pe_and (pe_callB call_isi (by rfl) T.b_isinstance (by decide +kernel) (pa_cons (pv 1) (pa_cons (pe_glob (v := .ref A.Standing) (by rfl) T.g_Standing rfl) pa_nil))) (pe_and (pe_cmpR (GX.op_eqB C_Web_eq hr (by decide)) (pe_fld (pv 0) rfl) (pe_fld (pv 1) rfl) (nomark _)) (pe_and (pe_cmpR op_eq (pe_fld (pv 0) rfl) (pe_fld (pv 1) rfl) (nomark _)) (pe_one (pe_cmpR (op_eqD hr.units) (pe_fld (pv 0) rfl) (pe_fld (pv 1) rfl) (nomark _)))))))), rd_Standing_eq C.s C.j h⟩)
theorem bi_Standing_eq {f : Addr} {fd : FuncData} (F : Fun K "__eq__" "Standing.__eq__" s_Standing_eq f fd) : Binds K fd ["self", "other"] [] := F.binds fun _ _ _ _ _ _ us hl => match us, hl with | [_, _], _ => rfl
theorem sc_Standing_blanks : FnScope ["self"] ["self"] (defScope s_Standing_blanks) := ⟨rfl, rfl, rfl, by decide +kernel, rfl, by decide +kernel, by decide +kernel⟩
theorem ln_Standing_blanks {vs : List V} {H : Hp} {Q : VK} {E : XK} (h : sp_Standing_blanks K A vs H Q E) : vs.length = 1 := by
  first | (obtain ⟨_, rfl, _⟩ := h; rfl) | (obtain ⟨_, _, rfl, _⟩ := h; rfl) | (obtain ⟨_, _, _, rfl, _⟩ := h; rfl) | (obtain ⟨_, _, _, _, rfl, _⟩ := h; rfl) | (obtain ⟨_, _, _, _, _, rfl, _⟩ := h; rfl) | (obtain ⟨_, _, _, _, _, _, rfl, _⟩ := h; rfl) | (obtain ⟨_, _, _, _, _, _, _, rfl, _⟩ := h; rfl) | (obtain ⟨_, _, _, _, _, _, _, _, rfl, _⟩ := h; rfl) | (obtain ⟨_, _, _, _, _, _, _, _, _, rfl, _⟩ := h; rfl) | (obtain ⟨_, _, _, _, _, _, _, _, _, _, rfl, _⟩ := h; rfl) | (obtain ⟨_, _, _, _, _, _, _, _, _, _, _, rfl, _⟩ := h; rfl) | (obtain ⟨_, _, _, _, _, _, _, _, _, _, _, _, rfl, _⟩ := h; rfl) | (obtain ⟨_, _, _, _, _, _, _, _, _, _, _, _, _, rfl, _⟩ := h; rfl) | (obtain ⟨_, _, _, _, _, _, _, _, _, _, _, _, _, _, rfl, _⟩ := h; rfl) | (obtain ⟨_, _, _, _, _, _, _, _, _, _, _, _, _, _, _, rfl, _⟩ := h; rfl) | (obtain ⟨_, _, _, _, _, _, _, _, _, _, _, _, _, _, _, _, rfl, _⟩ := h; rfl) | (obtain ⟨_, _, _, _, _, _, _, _, _, _, _, _, _, _, _, _, _, rfl, _⟩ := h; rfl) | (obtain ⟨_, _, _, _, _, _, _, _, _, _, _, _, _, _, _, _, _, _, rfl, _⟩ := h; rfl) | (obtain ⟨_, _, _, _, _, _, _, _, _, _, _, _, _, _, _, _, _, _, _, rfl, _⟩ := h; rfl)
theorem fn_Standing_blanks {f : Addr} {fd : FuncData} (F : Fun K "blanks" "Standing.blanks" s_Standing_blanks f fd) (T : Txt mg A) (C : CT K A)  : FnOk P w K mg base CX0 1 f fd ["self"] (sp_Standing_blanks K A) :=
  F.ok sc_Standing_blanks (fun vs H Q E h => ln_Standing_blanks h) (fun cdv Ar outer s H vs Q E hr h => ⟨t_Standing_blanks K A, (pss_one (ps_ret (pe_callTy call_list_of (by rfl) T.b_list (by decide +kernel) (pa_cons (pe_fld (pv 0) rfl) pa_nil)))), rd_Standing_blanks C.s h⟩)
theorem bi_Standing_blanks {f : Addr} {fd : FuncData} (F : Fun K "blanks" "Standing.blanks" s_Standing_blanks f fd) : Binds K fd ["self"] [] := F.binds fun _ _ _ _ _ _ us hl => match us, hl with | [_], _ => rfl
theorem sc_Standing_blank_of : FnScope ["self", "page"] ["self", "page"] (defScope s_Standing_blank_of) := ⟨rfl, rfl, rfl, by decide +kernel, rfl, by decide +kernel, by decide +kernel⟩
theorem ln_Standing_blank_of {vs : List V} {H : Hp} {Q : VK} {E : XK} (h : sp_Standing_blank_of K A vs H Q E) : vs.length = 2 := by
  first | (obtain ⟨_, rfl, _⟩ := h; rfl) | (obtain ⟨_, _, rfl, _⟩ := h; rfl) | (obtain ⟨_, _, _, rfl, _⟩ := h; rfl) | (obtain ⟨_, _, _, _, rfl, _⟩ := h; rfl) | (obtain ⟨_, _, _, _, _, rfl, _⟩ := h; rfl) | (obtain ⟨_, _, _, _, _, _, rfl, _⟩ := h; rfl) | (obtain ⟨_, _, _, _, _, _, _, rfl, _⟩ := h; rfl) | (obtain ⟨_, _, _, _, _, _, _, _, rfl, _⟩ := h; rfl) | (obtain ⟨_, _, _, _, _, _, _, _, _, rfl, _⟩ := h; rfl) | (obtain ⟨_, _, _, _, _, _, _, _, _, _, rfl, _⟩ := h; rfl) | (obtain ⟨_, _, _, _, _, _, _, _, _, _, _, rfl, _⟩ := h; rfl) | (obtain ⟨_, _, _, _, _, _, _, _, _, _, _, _, rfl, _⟩ := h; rfl) | (obtain ⟨_, _, _, _, _, _, _, _, _, _, _, _, _, rfl, _⟩ := h; rfl) | (obtain ⟨_, _, _, _, _, _, _, _, _, _, _, _, _, _, rfl, _⟩ := h; rfl) | (obtain ⟨_, _, _, _, _, _, _, _, _, _, _, _, _, _, _, rfl, _⟩ := h; rfl) | (obtain ⟨_, _, _, _, _, _, _, _, _, _, _, _, _, _, _, _, rfl, _⟩ := h; rfl) | (obtain ⟨_, _, _, _, _, _, _, _, _, _, _, _, _, _, _, _, _, rfl, _⟩ := h; rfl) | (obtain ⟨_, _, _, _, _, _, _, _, _, _, _, _, _, _, _, _, _, _, rfl, _⟩ := h; rfl) | (obtain ⟨_, _, _, _, _, _, _, _, _, _, _, _, _, _, _, _, _, _, _, rfl, _⟩ := h; rfl)
theorem fn_Standing_blank_of {f : Addr} {fd : FuncData} (F : Fun K "blank_of" "Standing.blank_of" s_Standing_blank_of f fd) (T : Txt mg A) (C : CT K A) (C_check_pages : GX.CalX P w K mg base 3 "check_pages" (sp_check_pages K A)) : FnOk P w K mg base (L2.CX P w) 4 f fd ["self", "page"] (sp_Standing_blank_of K A) :=
  F.okX sc_Standing_blank_of (fun vs H Q E h => ln_Standing_blank_of h) (fun cdv Ar outer s H vs Q E hr h => ⟨t_Standing_blank_of K A E, (pss_cons (ps_expr (GX.pe_cX C_check_pages hr (by decide) (by rfl) (passes_call (takes_of rfl rfl rfl rfl) (fun _ _ _ _ h => h)) (pa_cons (pe_fld (pv 0) rfl) (pa_cons (pe_lst (pa_cons (pv 1) pa_nil)) pa_nil))))
  (pss_one (ps_ret (pe_ix ix_list (pe_fld (pv 0) rfl) (pv 1) (fun _ _ => rfl))))), rd_Standing_blank_of C.s h⟩)
theorem bi_Standing_blank_of {f : Addr} {fd : FuncData} (F : Fun K "blank_of" "Standing.blank_of" s_Standing_blank_of f fd) : Binds K fd ["self", "page"] [] := F.binds fun _ _ _ _ _ _ us hl => match us, hl with | [_, _], _ => rfl
theorem sc_Standing_used : FnScope ["self"] ["self"] (defScope s_Standing_used) := ⟨rfl, rfl, rfl, by decide +kernel, rfl, by decide +kernel, by decide +kernel⟩
theorem ln_Standing_used {vs : List V} {H : Hp} {Q : VK} {E : XK} (h : sp_Standing_used K A vs H Q E) : vs.length = 1 := by
  first | (obtain ⟨_, rfl, _⟩ := h; rfl) | (obtain ⟨_, _, rfl, _⟩ := h; rfl) | (obtain ⟨_, _, _, rfl, _⟩ := h; rfl) | (obtain ⟨_, _, _, _, rfl, _⟩ := h; rfl) | (obtain ⟨_, _, _, _, _, rfl, _⟩ := h; rfl) | (obtain ⟨_, _, _, _, _, _, rfl, _⟩ := h; rfl) | (obtain ⟨_, _, _, _, _, _, _, rfl, _⟩ := h; rfl) | (obtain ⟨_, _, _, _, _, _, _, _, rfl, _⟩ := h; rfl) | (obtain ⟨_, _, _, _, _, _, _, _, _, rfl, _⟩ := h; rfl) | (obtain ⟨_, _, _, _, _, _, _, _, _, _, rfl, _⟩ := h; rfl) | (obtain ⟨_, _, _, _, _, _, _, _, _, _, _, rfl, _⟩ := h; rfl) | (obtain ⟨_, _, _, _, _, _, _, _, _, _, _, _, rfl, _⟩ := h; rfl) | (obtain ⟨_, _, _, _, _, _, _, _, _, _, _, _, _, rfl, _⟩ := h; rfl) | (obtain ⟨_, _, _, _, _, _, _, _, _, _, _, _, _, _, rfl, _⟩ := h; rfl) | (obtain ⟨_, _, _, _, _, _, _, _, _, _, _, _, _, _, _, rfl, _⟩ := h; rfl) | (obtain ⟨_, _, _, _, _, _, _, _, _, _, _, _, _, _, _, _, rfl, _⟩ := h; rfl) | (obtain ⟨_, _, _, _, _, _, _, _, _, _, _, _, _, _, _, _, _, rfl, _⟩ := h; rfl) | (obtain ⟨_, _, _, _, _, _, _, _, _, _, _, _, _, _, _, _, _, _, rfl, _⟩ := h; rfl) | (obtain ⟨_, _, _, _, _, _, _, _, _, _, _, _, _, _, _, _, _, _, _, rfl, _⟩ := h; rfl)
theorem fn_Standing_used {f : Addr} {fd : FuncData} (F : Fun K "used" "Standing.used" s_Standing_used f fd) (T : Txt mg A) (C : CT K A)  : FnOk P w K mg base CX0 1 f fd ["self"] (sp_Standing_used K A) :=
  F.ok sc_Standing_used (fun vs H Q E h => ln_Standing_used h) (fun cdv Ar outer s H vs Q E hr h => ⟨t_Standing_used K A, (pss_one (ps_ret (pe_op op_sub (pe_op op_mul (pe_fld (pv 0) rfl) (pe_fld (pe_fld (pv 0) rfl) rfl)) (pe_callB (cr_sum rfl) (by rfl) T.b_sum (by decide +kernel) (pa_cons (pe_fld (pv 0) rfl) pa_nil))))), rd_Standing_used C.s h⟩)
theorem bi_Standing_used {f : Addr} {fd : FuncData} (F : Fun K "used" "Standing.used" s_Standing_used f fd) : Binds K fd ["self"] [] := F.binds fun _ _ _ _ _ _ us hl => match us, hl with | [_], _ => rfl
theorem sc_Standingcheck_lines : FnScope ["self", "used", "page"] ["self", "used"] (defScope s_Standingcheck_lines) := ⟨rfl, rfl, rfl, by decide +kernel, rfl, by decide +kernel, by decide +kernel⟩
theorem ln_Standingcheck_lines {vs : List V} {H : Hp} {Q : VK} {E : XK} (h : sp_Standingcheck_lines K A vs H Q E) : vs.length = 2 := by
  first | (obtain ⟨_, rfl, _⟩ := h; rfl) | (obtain ⟨_, _, rfl, _⟩ := h; rfl) | (obtain ⟨_, _, _, rfl, _⟩ := h; rfl) | (obtain ⟨_, _, _, _, rfl, _⟩ := h; rfl) | (obtain ⟨_, _, _, _, _, rfl, _⟩ := h; rfl) | (obtain ⟨_, _, _, _, _, _, rfl, _⟩ := h; rfl) | (obtain ⟨_, _, _, _, _, _, _, rfl, _⟩ := h; rfl) | (obtain ⟨_, _, _, _, _, _, _, _, rfl, _⟩ := h; rfl) | (obtain ⟨_, _, _, _, _, _, _, _, _, rfl, _⟩ := h; rfl) | (obtain ⟨_, _, _, _, _, _, _, _, _, _, rfl, _⟩ := h; rfl) | (obtain ⟨_, _, _, _, _, _, _, _, _, _, _, rfl, _⟩ := h; rfl) | (obtain ⟨_, _, _, _, _, _, _, _, _, _, _, _, rfl, _⟩ := h; rfl) | (obtain ⟨_, _, _, _, _, _, _, _, _, _, _, _, _, rfl, _⟩ := h; rfl) | (obtain ⟨_, _, _, _, _, _, _, _, _, _, _, _, _, _, rfl, _⟩ := h; rfl) | (obtain ⟨_, _, _, _, _, _, _, _, _, _, _, _, _, _, _, rfl, _⟩ := h; rfl) | (obtain ⟨_, _, _, _, _, _, _, _, _, _, _, _, _, _, _, _, rfl, _⟩ := h; rfl) | (obtain ⟨_, _, _, _, _, _, _, _, _, _, _, _, _, _, _, _, _, rfl, _⟩ := h; rfl) | (obtain ⟨_, _, _, _, _, _, _, _, _, _, _, _, _, _, _, _, _, _, rfl, _⟩ := h; rfl) | (obtain ⟨_, _, _, _, _, _, _, _, _, _, _, _, _, _, _, _, _, _, _, rfl, _⟩ := h; rfl)
theorem fn_Standingcheck_lines {f : Addr} {fd : FuncData} (F : Fun K "_check_lines" "Standing._check_lines" s_Standingcheck_lines f fd) (T : Txt mg A) (C : CT K A) (C_NoLine : GX.ErrX P w K mg base 1 "NoLine" A.NoLine (GX.sp_err K A.NoLine "page")) : FnOk P w K mg base (L2.CX P w) 3 f fd ["self", "used"] (sp_Standingcheck_lines K A) :=
  F.okX sc_Standingcheck_lines (fun vs H Q E h => ln_Standingcheck_lines h) (fun cdv Ar outer s H vs Q E hr h => ⟨t_Standingcheck_lines K A E, (pss_one (ps_for (passes_of rfl) rfl (pi_list (pe_callB cr_sortedI (by rfl) T.b_sorted (by decide +kernel) (pa_cons (pe_callTy (call_list_dK rfl) (by rfl) T.b_list (by decide +kernel) (pa_cons (pv 1) pa_nil)) pa_nil))) (pg_name (i := 2) sc_Standingcheck_lines.nd rfl (by first | exact Or.inl rfl | exact Or.inr rfl))
  (pss_one (ps_if (pt_cmpR op_gt (pe_dget (hu_of hr) (pv 1) (pv 2) (fun _ _ => rfl)) (pe_ix ix_list (pe_fld (pv 0) rfl) (pv 2) (fun _ _ => rfl)) (nomark _)) (pss_one (GX.ps_raiseO C_NoLine hr (by decide) rfl (by rfl) (takes_of rfl rfl rfl rfl) (pa_cons (pv 2) pa_nil))) pss_nil)))), rd_Standingcheck_lines C.s h⟩)
theorem bi_Standingcheck_lines {f : Addr} {fd : FuncData} (F : Fun K "_check_lines" "Standing._check_lines" s_Standingcheck_lines f fd) : Binds K fd ["self", "used"] [] := F.binds fun _ _ _ _ _ _ us hl => match us, hl with | [_, _], _ => rfl
theorem sc_Standing_after : FnScope ["self", "page", "copied", "used", "blank", "at", "number", "target"] ["self", "page", "copied"] (defScope s_Standing_after) := ⟨rfl, rfl, rfl, by decide +kernel, rfl, by decide +kernel, by decide +kernel⟩
theorem fn_Standing_after {f : Addr} {fd : FuncData} (F : Fun K "after" "Standing.after" s_Standing_after f fd) (T : Txt mg A) (C : CT K A) (C_Standing_init : GX.MakX P w K mg base 3 "Standing" A.Standing (sp_Standing_init K A)) (C_Standingcheck_lines : GX.MetX P w K mg base 3 A.Standing "_check_lines" (sp_Standingcheck_lines K A)) (C_check_pages : GX.CalX P w K mg base 3 "check_pages" (sp_check_pages K A)) (C_lines_used : GX.CalX P w K mg base 5 "lines_used" (sp_lines_used K A)) : FnR P w K mg base (L2.CX P w) 6 f (GX.starSp 2 (sp_Standing_after K A)) :=
  GX.okStar (ps := ["self", "page"]) (pv := "copied") F sc_Standing_after (fun kV doc pm an cdv ct => StX.bind_star2 (B := fun l => bindArgs (PySem.W.fnOf "after" "Standing.after" (defArgs s_Standing_after) (defBody s_Standing_after) (defScope s_Standing_after) .none kV doc pm an cdv ct) ⟨l, []⟩) (fun _ _ => rfl) (fun _ _ _ _ => rfl)) (fun cdv Ar outer s H vs Q E hr h => ⟨t_Standing_after K A E, (pss_cons (ps_expr (GX.pe_cX C_check_pages hr (by decide) (by rfl) (passes_call (takes_of rfl rfl rfl rfl) (fun _ _ _ _ h => h)) (pa_cons (pe_fld (pv 0) rfl) (pa_cons (pe_lst (pa_cons (pv 1) (_root_.StX.pa_star (pv 2) pa_nil))) pa_nil))))
  (pss_cons (ps_set (i := 3) sc_Standing_after.nd rfl (by first | exact Or.inl rfl | exact Or.inr rfl) (GX.pe_cX C_lines_used hr (by decide) (by rfl) (passes_call (takes_of rfl rfl rfl rfl) (fun _ _ _ _ h => h)) (pa_cons (pe_fld (pv 0) rfl) (pa_cons (pv 1) (pa_cons (pv 2) pa_nil)))))
  (pss_cons (ps_expr (GX.pe_mtX C_Standingcheck_lines hr (by decide) (passes_call (takes_of rfl rfl rfl rfl) (fun _ _ _ _ h => h)) (pv 0) (pa_cons (pv 3) pa_nil)))
  (pss_cons (ps_setLc (i := 4) (own := [("at", 5), ("number", 6)]) (g := (gTup K 2 (gCons (gName 5) (gCons (gName 6) gNil)))) (tt := tYes) rfl sc_Standing_after.nd rfl rfl (sw_true rfl rfl rfl (by decide +kernel)) (pi_enum (by rfl) T.b_enumerate (pa_cons (pe_fld (pv 0) rfl) pa_nil)) (blkOk_by (own := [("at", 5), ("number", 6)]) (N := ["self", "page", "copied", "used", "blank", "at", "number", "target"]) (sc := defScope s_Standing_after) (by decide +kernel)) (fun _ _ _ _ _ => (pg_tup rfl (pgs_cons (pg_name (i := 5) sc_Standing_after.nd rfl (by first | exact Or.inl rfl | exact Or.inr rfl)) (pgs_cons (pg_name (i := 6) sc_Standing_after.nd rfl (by first | exact Or.inl rfl | exact Or.inr rfl)) pgs_nil)))) (fun _ _ _ _ _ => pts_nil) (fun _ _ _ _ _ => (pe_op op_sub (pv 6) (pe_dget2 (hu_of hr) (pv 3) (pv 5) pe_int ⟨rfl, rfl, rfl, rfl⟩))))
  (pss_cons (ps_for (passes_of rfl) rfl (pi_tup (pv 2)) (pg_name (i := 7) sc_Standing_after.nd rfl (by first | exact Or.inl rfl | exact Or.inr rfl))
  (pss_one (ps_asg (pe_fld (pv 0) rfl) (pg_sub (pv 4) (pv 7) set_list))))
  (pss_one (ps_ret (GX.pe_mkX C_Standing_init hr (by decide) (by rfl) (passes_call (takes_of rfl rfl rfl rfl) (fun _ _ _ _ h => h)) (pa_cons (pe_fld (pv 0) rfl) (pa_cons (pe_fld (pv 0) rfl) (pa_cons (pv 4) pa_nil))))))))))), rd_Standing_after C.s h⟩)
theorem sc_law_whole : FnScope ["told", "due"] ["told", "due"] (defScope s_law_whole) := ⟨rfl, rfl, rfl, by decide +kernel, rfl, by decide +kernel, by decide +kernel⟩
theorem ln_law_whole {vs : List V} {H : Hp} {Q : VK} {E : XK} (h : sp_law_whole K A vs H Q E) : vs.length = 2 := by
  first | (obtain ⟨_, rfl, _⟩ := h; rfl) | (obtain ⟨_, _, rfl, _⟩ := h; rfl) | (obtain ⟨_, _, _, rfl, _⟩ := h; rfl) | (obtain ⟨_, _, _, _, rfl, _⟩ := h; rfl) | (obtain ⟨_, _, _, _, _, rfl, _⟩ := h; rfl) | (obtain ⟨_, _, _, _, _, _, rfl, _⟩ := h; rfl) | (obtain ⟨_, _, _, _, _, _, _, rfl, _⟩ := h; rfl) | (obtain ⟨_, _, _, _, _, _, _, _, rfl, _⟩ := h; rfl) | (obtain ⟨_, _, _, _, _, _, _, _, _, rfl, _⟩ := h; rfl) | (obtain ⟨_, _, _, _, _, _, _, _, _, _, rfl, _⟩ := h; rfl) | (obtain ⟨_, _, _, _, _, _, _, _, _, _, _, rfl, _⟩ := h; rfl) | (obtain ⟨_, _, _, _, _, _, _, _, _, _, _, _, rfl, _⟩ := h; rfl) | (obtain ⟨_, _, _, _, _, _, _, _, _, _, _, _, _, rfl, _⟩ := h; rfl) | (obtain ⟨_, _, _, _, _, _, _, _, _, _, _, _, _, _, rfl, _⟩ := h; rfl) | (obtain ⟨_, _, _, _, _, _, _, _, _, _, _, _, _, _, _, rfl, _⟩ := h; rfl) | (obtain ⟨_, _, _, _, _, _, _, _, _, _, _, _, _, _, _, _, rfl, _⟩ := h; rfl) | (obtain ⟨_, _, _, _, _, _, _, _, _, _, _, _, _, _, _, _, _, rfl, _⟩ := h; rfl) | (obtain ⟨_, _, _, _, _, _, _, _, _, _, _, _, _, _, _, _, _, _, rfl, _⟩ := h; rfl) | (obtain ⟨_, _, _, _, _, _, _, _, _, _, _, _, _, _, _, _, _, _, _, rfl, _⟩ := h; rfl)
theorem fn_law_whole {f : Addr} {fd : FuncData} (F : Fun K "_law_whole" "_law_whole" s_law_whole f fd) (T : Txt mg A) (C : CT K A)  : FnOk P w K mg base CX0 1 f fd ["told", "due"] (sp_law_whole K A) :=
  F.ok sc_law_whole (fun vs H Q E h => ln_law_whole h) (fun cdv Ar outer s H vs Q E hr h => ⟨t_law_whole K A, (pss_one (ps_ret (pe_and (pe_callB call_isi (by rfl) T.b_isinstance (by decide +kernel) (pa_cons (pv 0) (pa_cons (pe_bltn (v := .ty "int") (by rfl) T.b_int (by decide +kernel) rfl) pa_nil))) (pe_and (pe_not (pe_callB call_isi (by rfl) T.b_isinstance (by decide +kernel) (pa_cons (pv 0) (pa_cons (pe_bltn (v := .ty "bool") (by rfl) T.b_bool (by decide +kernel) rfl) pa_nil)))) (pe_one (pe_cmpR op_eq (pv 0) (pv 1) (nomark _))))))), rd_law_whole h⟩)
theorem bi_law_whole {f : Addr} {fd : FuncData} (F : Fun K "_law_whole" "_law_whole" s_law_whole f fd) : Binds K fd ["told", "due"] [] := F.binds fun _ _ _ _ _ _ us hl => match us, hl with | [_, _], _ => rfl
theorem sc_law_pages : FnScope ["told", "due", "k"] ["told", "due"] (defScope s_law_pages) := ⟨rfl, rfl, rfl, by decide +kernel, rfl, by decide +kernel, by decide +kernel⟩
theorem ln_law_pages {vs : List V} {H : Hp} {Q : VK} {E : XK} (h : sp_law_pages K A vs H Q E) : vs.length = 2 := by
  first | (obtain ⟨_, rfl, _⟩ := h; rfl) | (obtain ⟨_, _, rfl, _⟩ := h; rfl) | (obtain ⟨_, _, _, rfl, _⟩ := h; rfl) | (obtain ⟨_, _, _, _, rfl, _⟩ := h; rfl) | (obtain ⟨_, _, _, _, _, rfl, _⟩ := h; rfl) | (obtain ⟨_, _, _, _, _, _, rfl, _⟩ := h; rfl) | (obtain ⟨_, _, _, _, _, _, _, rfl, _⟩ := h; rfl) | (obtain ⟨_, _, _, _, _, _, _, _, rfl, _⟩ := h; rfl) | (obtain ⟨_, _, _, _, _, _, _, _, _, rfl, _⟩ := h; rfl) | (obtain ⟨_, _, _, _, _, _, _, _, _, _, rfl, _⟩ := h; rfl) | (obtain ⟨_, _, _, _, _, _, _, _, _, _, _, rfl, _⟩ := h; rfl) | (obtain ⟨_, _, _, _, _, _, _, _, _, _, _, _, rfl, _⟩ := h; rfl) | (obtain ⟨_, _, _, _, _, _, _, _, _, _, _, _, _, rfl, _⟩ := h; rfl) | (obtain ⟨_, _, _, _, _, _, _, _, _, _, _, _, _, _, rfl, _⟩ := h; rfl) | (obtain ⟨_, _, _, _, _, _, _, _, _, _, _, _, _, _, _, rfl, _⟩ := h; rfl) | (obtain ⟨_, _, _, _, _, _, _, _, _, _, _, _, _, _, _, _, rfl, _⟩ := h; rfl) | (obtain ⟨_, _, _, _, _, _, _, _, _, _, _, _, _, _, _, _, _, rfl, _⟩ := h; rfl) | (obtain ⟨_, _, _, _, _, _, _, _, _, _, _, _, _, _, _, _, _, _, rfl, _⟩ := h; rfl) | (obtain ⟨_, _, _, _, _, _, _, _, _, _, _, _, _, _, _, _, _, _, _, rfl, _⟩ := h; rfl)
theorem fn_law_pages {f : Addr} {fd : FuncData} (F : Fun K "_law_pages" "_law_pages" s_law_pages f fd) (T : Txt mg A) (C : CT K A) (C_law_whole : C8.Cal P w K mg base 1 "_law_whole" (sp_law_whole K A) []) : FnOk P w K mg base CX0 2 f fd ["told", "due"] (sp_law_pages K A) :=
  F.ok sc_law_pages (fun vs H Q E h => ln_law_pages h) (fun cdv Ar outer s H vs Q E hr h => ⟨t_law_pages K A, (pss_cons (ps_if (PW.pt (pw_or (pt_not (pt_val (pe_callB call_isi (by rfl) T.b_isinstance (by decide +kernel) (pa_cons (pv 0) (pa_cons (pe_bltn (v := .ty "list") (by rfl) T.b_list (by decide +kernel) rfl) pa_nil))) (by intro _; rfl))) (pw_or1 (pt_cmpR op_ne (pe_callB call_len_seq (by rfl) T.b_len (by decide +kernel) (pa_cons (pv 0) pa_nil)) (pe_callB call_len_seq (by rfl) T.b_len (by decide +kernel) (pa_cons (pv 1) pa_nil)) (nomark _))))) (pss_one (ps_ret pe_bl)) pss_nil)
  (pss_cons (ps_for PassesOwn.never rfl (pi_range1 (by rfl) T.b_range (pa_cons (pe_callB call_len_seq (by rfl) T.b_len (by decide +kernel) (pa_cons (pv 1) pa_nil)) pa_nil)) (pg_name (i := 2) sc_law_pages.nd rfl (by first | exact Or.inl rfl | exact Or.inr rfl))
  (pss_one (ps_if (pt_not (pt_val (C8.pe_c C_law_whole hr (by decide) (by rfl) (pa_cons (pe_ix ix_list (pv 0) (pv 2) (fun _ _ => rfl)) (pa_cons (pe_ix ix_list (pv 1) (pv 2) (fun _ _ => rfl)) pa_nil))) (by intro _; rfl))) (pss_one (ps_ret pe_bl)) pss_nil)))
  (pss_one (ps_ret pe_bl)))), rd_law_pages h⟩)
theorem bi_law_pages {f : Addr} {fd : FuncData} (F : Fun K "_law_pages" "_law_pages" s_law_pages f fd) : Binds K fd ["told", "due"] [] := F.binds fun _ _ _ _ _ _ us hl => match us, hl with | [_, _], _ => rfl
theorem sc_law_outside : FnScope ["box", "pages", "far"] ["box", "pages"] (defScope s_law_outside) := ⟨rfl, rfl, rfl, by decide +kernel, rfl, by decide +kernel, by decide +kernel⟩
theorem ln_law_outside {vs : List V} {H : Hp} {Q : VK} {E : XK} (h : sp_law_outside K A vs H Q E) : vs.length = 2 := by
  first | (obtain ⟨_, rfl, _⟩ := h; rfl) | (obtain ⟨_, _, rfl, _⟩ := h; rfl) | (obtain ⟨_, _, _, rfl, _⟩ := h; rfl) | (obtain ⟨_, _, _, _, rfl, _⟩ := h; rfl) | (obtain ⟨_, _, _, _, _, rfl, _⟩ := h; rfl) | (obtain ⟨_, _, _, _, _, _, rfl, _⟩ := h; rfl) | (obtain ⟨_, _, _, _, _, _, _, rfl, _⟩ := h; rfl) | (obtain ⟨_, _, _, _, _, _, _, _, rfl, _⟩ := h; rfl) | (obtain ⟨_, _, _, _, _, _, _, _, _, rfl, _⟩ := h; rfl) | (obtain ⟨_, _, _, _, _, _, _, _, _, _, rfl, _⟩ := h; rfl) | (obtain ⟨_, _, _, _, _, _, _, _, _, _, _, rfl, _⟩ := h; rfl) | (obtain ⟨_, _, _, _, _, _, _, _, _, _, _, _, rfl, _⟩ := h; rfl) | (obtain ⟨_, _, _, _, _, _, _, _, _, _, _, _, _, rfl, _⟩ := h; rfl) | (obtain ⟨_, _, _, _, _, _, _, _, _, _, _, _, _, _, rfl, _⟩ := h; rfl) | (obtain ⟨_, _, _, _, _, _, _, _, _, _, _, _, _, _, _, rfl, _⟩ := h; rfl) | (obtain ⟨_, _, _, _, _, _, _, _, _, _, _, _, _, _, _, _, rfl, _⟩ := h; rfl) | (obtain ⟨_, _, _, _, _, _, _, _, _, _, _, _, _, _, _, _, _, rfl, _⟩ := h; rfl) | (obtain ⟨_, _, _, _, _, _, _, _, _, _, _, _, _, _, _, _, _, _, rfl, _⟩ := h; rfl) | (obtain ⟨_, _, _, _, _, _, _, _, _, _, _, _, _, _, _, _, _, _, _, rfl, _⟩ := h; rfl)
theorem fn_law_outside {f : Addr} {fd : FuncData} (F : Fun K "_law_outside" "_law_outside" s_law_outside f fd) (T : Txt mg A) (C : CT K A) (C_law_draw : C8.Cal P w K mg base 1 "_law_draw" (sp_law_draw K A) []) : FnOk P w K mg base CX0 2 f fd ["box", "pages"] (sp_law_outside K A) :=
  F.ok sc_law_outside (fun vs H Q E h => ln_law_outside h) (fun cdv Ar outer s H vs Q E hr h => ⟨t_law_outside K A, (pss_cons (ps_set (i := 2) sc_law_outside.nd rfl (by first | exact Or.inl rfl | exact Or.inr rfl) (C8.pe_c C_law_draw hr (by decide) (by rfl) (pa_cons (pv 0) (pa_cons pe_int pa_nil))))
  (pss_one (ps_ret (pe_ix ix_list (pe_lst (pa_cons (pv 1) (pa_cons (pe_un un_neg pe_int) (pa_cons (pe_op op_sub pe_int (pv 1)) (pa_cons (pe_op op_add (pe_op op_add (pv 1) pe_int) (pv 2)) (pa_cons (pe_op op_sub (pe_un un_neg pe_int) (pv 2)) (pa_cons (pe_op op_add (pe_op op_pow pe_int pe_int) (pv 2)) pa_nil))))))) (C8.pe_c C_law_draw hr (by decide) (by rfl) (pa_cons (pv 0) (pa_cons pe_int pa_nil))) (fun _ _ => rfl))))), rd_law_outside h⟩)
theorem bi_law_outside {f : Addr} {fd : FuncData} (F : Fun K "_law_outside" "_law_outside" s_law_outside f fd) : Binds K fd ["box", "pages"] [] := F.binds fun _ _ _ _ _ _ us hl => match us, hl with | [_, _], _ => rfl
theorem sc_law_lines : FnScope ["box", "kind"] ["box"] (defScope s_law_lines) := ⟨rfl, rfl, rfl, by decide +kernel, rfl, by decide +kernel, by decide +kernel⟩
theorem ln_law_lines {vs : List V} {H : Hp} {Q : VK} {E : XK} (h : sp_law_lines K A vs H Q E) : vs.length = 1 := by
  first | (obtain ⟨_, rfl, _⟩ := h; rfl) | (obtain ⟨_, _, rfl, _⟩ := h; rfl) | (obtain ⟨_, _, _, rfl, _⟩ := h; rfl) | (obtain ⟨_, _, _, _, rfl, _⟩ := h; rfl) | (obtain ⟨_, _, _, _, _, rfl, _⟩ := h; rfl) | (obtain ⟨_, _, _, _, _, _, rfl, _⟩ := h; rfl) | (obtain ⟨_, _, _, _, _, _, _, rfl, _⟩ := h; rfl) | (obtain ⟨_, _, _, _, _, _, _, _, rfl, _⟩ := h; rfl) | (obtain ⟨_, _, _, _, _, _, _, _, _, rfl, _⟩ := h; rfl) | (obtain ⟨_, _, _, _, _, _, _, _, _, _, rfl, _⟩ := h; rfl) | (obtain ⟨_, _, _, _, _, _, _, _, _, _, _, rfl, _⟩ := h; rfl) | (obtain ⟨_, _, _, _, _, _, _, _, _, _, _, _, rfl, _⟩ := h; rfl) | (obtain ⟨_, _, _, _, _, _, _, _, _, _, _, _, _, rfl, _⟩ := h; rfl) | (obtain ⟨_, _, _, _, _, _, _, _, _, _, _, _, _, _, rfl, _⟩ := h; rfl) | (obtain ⟨_, _, _, _, _, _, _, _, _, _, _, _, _, _, _, rfl, _⟩ := h; rfl) | (obtain ⟨_, _, _, _, _, _, _, _, _, _, _, _, _, _, _, _, rfl, _⟩ := h; rfl) | (obtain ⟨_, _, _, _, _, _, _, _, _, _, _, _, _, _, _, _, _, rfl, _⟩ := h; rfl) | (obtain ⟨_, _, _, _, _, _, _, _, _, _, _, _, _, _, _, _, _, _, rfl, _⟩ := h; rfl) | (obtain ⟨_, _, _, _, _, _, _, _, _, _, _, _, _, _, _, _, _, _, _, rfl, _⟩ := h; rfl)
theorem fn_law_lines {f : Addr} {fd : FuncData} (F : Fun K "_law_lines" "_law_lines" s_law_lines f fd) (T : Txt mg A) (C : CT K A) (C_law_draw : C8.Cal P w K mg base 1 "_law_draw" (sp_law_draw K A) []) : FnOk P w K mg base CX0 2 f fd ["box"] (sp_law_lines K A) :=
  F.ok sc_law_lines (fun vs H Q E h => ln_law_lines h) (fun cdv Ar outer s H vs Q E hr h => ⟨t_law_lines K A, (pss_cons (ps_set (i := 1) sc_law_lines.nd rfl (by first | exact Or.inl rfl | exact Or.inr rfl) (C8.pe_c C_law_draw hr (by decide) (by rfl) (pa_cons (pv 0) (pa_cons pe_int pa_nil))))
  (pss_cons (ps_if (pt_cmpR op_eq (pv 1) pe_int (nomark _)) (pss_one (ps_ret pe_int)) pss_nil)
  (pss_cons (ps_if (pt_cmpR op_eq (pv 1) pe_int (nomark _)) (pss_one (ps_ret (pe_op op_add pe_int (C8.pe_c C_law_draw hr (by decide) (by rfl) (pa_cons (pv 0) (pa_cons pe_int pa_nil)))))) pss_nil)
  (pss_one (ps_ret (pv 1)))))), rd_law_lines h⟩)
theorem bi_law_lines {f : Addr} {fd : FuncData} (F : Fun K "_law_lines" "_law_lines" s_law_lines f fd) : Binds K fd ["box"] [] := F.binds fun _ _ _ _ _ _ us hl => match us, hl with | [_], _ => rfl
theorem sc_law_blank : FnScope ["box", "pages", "rows", "lines", "style", "least", "most", "step", "start", "page", "blank", "held", "row"] ["box", "pages", "rows", "lines"] (defScope s_law_blank) := ⟨rfl, rfl, rfl, by decide +kernel, rfl, by decide +kernel, by decide +kernel⟩
theorem ln_law_blank {vs : List V} {H : Hp} {Q : VK} {E : XK} (h : sp_law_blank K A vs H Q E) : vs.length = 4 := by
  first | (obtain ⟨_, rfl, _⟩ := h; rfl) | (obtain ⟨_, _, rfl, _⟩ := h; rfl) | (obtain ⟨_, _, _, rfl, _⟩ := h; rfl) | (obtain ⟨_, _, _, _, rfl, _⟩ := h; rfl) | (obtain ⟨_, _, _, _, _, rfl, _⟩ := h; rfl) | (obtain ⟨_, _, _, _, _, _, rfl, _⟩ := h; rfl) | (obtain ⟨_, _, _, _, _, _, _, rfl, _⟩ := h; rfl) | (obtain ⟨_, _, _, _, _, _, _, _, rfl, _⟩ := h; rfl) | (obtain ⟨_, _, _, _, _, _, _, _, _, rfl, _⟩ := h; rfl) | (obtain ⟨_, _, _, _, _, _, _, _, _, _, rfl, _⟩ := h; rfl) | (obtain ⟨_, _, _, _, _, _, _, _, _, _, _, rfl, _⟩ := h; rfl) | (obtain ⟨_, _, _, _, _, _, _, _, _, _, _, _, rfl, _⟩ := h; rfl) | (obtain ⟨_, _, _, _, _, _, _, _, _, _, _, _, _, rfl, _⟩ := h; rfl) | (obtain ⟨_, _, _, _, _, _, _, _, _, _, _, _, _, _, rfl, _⟩ := h; rfl) | (obtain ⟨_, _, _, _, _, _, _, _, _, _, _, _, _, _, _, rfl, _⟩ := h; rfl) | (obtain ⟨_, _, _, _, _, _, _, _, _, _, _, _, _, _, _, _, rfl, _⟩ := h; rfl) | (obtain ⟨_, _, _, _, _, _, _, _, _, _, _, _, _, _, _, _, _, rfl, _⟩ := h; rfl) | (obtain ⟨_, _, _, _, _, _, _, _, _, _, _, _, _, _, _, _, _, _, rfl, _⟩ := h; rfl) | (obtain ⟨_, _, _, _, _, _, _, _, _, _, _, _, _, _, _, _, _, _, _, rfl, _⟩ := h; rfl)
theorem fn_law_blank {f : Addr} {fd : FuncData} (F : Fun K "_law_blank" "_law_blank" s_law_blank f fd) (T : Txt mg A) (C : CT K A) (C_law_draw : C8.Cal P w K mg base 1 "_law_draw" (sp_law_draw K A) []) : FnOk P w K mg base CX0 2 f fd ["box", "pages", "rows", "lines"] (sp_law_blank K A) :=
  F.ok sc_law_blank (fun vs H Q E h => ln_law_blank h) (fun cdv Ar outer s H vs Q E hr h => ⟨t_law_blank K A, (pss_cons (ps_set (i := 4) sc_law_blank.nd rfl (by first | exact Or.inl rfl | exact Or.inr rfl) (C8.pe_c C_law_draw hr (by decide) (by rfl) (pa_cons (pv 0) (pa_cons pe_int pa_nil))))
  (pss_cons (ps_if (pt_cmpR op_eq (pv 4) pe_int (nomark _)) (pss_one (ps_ret (pe_op op_rep (pe_lst (pa_cons (pv 3) pa_nil)) (pv 1)))) pss_nil)
  (pss_cons (ps_set (i := 5) sc_law_blank.nd rfl (by first | exact Or.inl rfl | exact Or.inr rfl) (pe_callB (call_min2 rfl) (by rfl) T.b_min (by decide +kernel) (pa_cons (pv 3) (pa_cons pe_int pa_nil))))
  (pss_cons (ps_if (pt_cmpR op_gt (pv 1) pe_int (nomark _)) (pss_cons (ps_set (i := 6) sc_law_blank.nd rfl (by first | exact Or.inl rfl | exact Or.inr rfl) (pe_ix ix_list (pe_lst (pa_cons (pv 5) (pa_cons (pv 3) pa_nil))) (C8.pe_c C_law_draw hr (by decide) (by rfl) (pa_cons (pv 0) (pa_cons pe_int pa_nil))) (fun _ _ => rfl)))
  (pss_cons (ps_set (i := 7) sc_law_blank.nd rfl (by first | exact Or.inl rfl | exact Or.inr rfl) (C8.pe_c C_law_draw hr (by decide) (by rfl) (pa_cons (pv 0) (pa_cons (pe_op op_add (pv 6) pe_int) pa_nil))))
  (pss_cons (ps_set (i := 8) sc_law_blank.nd rfl (by first | exact Or.inl rfl | exact Or.inr rfl) (C8.pe_c C_law_draw hr (by decide) (by rfl) (pa_cons (pv 0) (pa_cons (pe_op op_add (pv 6) pe_int) pa_nil))))
  (pss_one (ps_ret (pe_lc (own := [("page", 9)]) (g := (gName 9)) (tt := tYes) rfl sc_law_blank.nd (pi_range1 (by rfl) T.b_range (pa_cons (pv 1) pa_nil)) (blkOk_by (own := [("page", 9)]) (N := ["box", "pages", "rows", "lines", "style", "least", "most", "step", "start", "page", "blank", "held", "row"]) (sc := defScope s_law_blank) (by decide +kernel)) (fun _ _ _ _ _ => (pg_name (i := 9) sc_law_blank.nd rfl (by first | exact Or.inl rfl | exact Or.inr rfl))) (fun _ _ _ _ _ => pts_nil) (fun _ _ _ _ _ => (pe_op op_mod (pe_callTy call_int1 (by rfl) T.b_int (by decide +kernel) (pa_cons (pe_op op_add (pv 8) (pe_op op_mul (pv 7) (pv 9))) pa_nil)) (pe_op op_add (pv 6) pe_int))))))))) pss_nil)
  (pss_cons (ps_set (i := 10) sc_law_blank.nd rfl (by first | exact Or.inl rfl | exact Or.inr rfl) (pe_lst pa_nil))
  (pss_cons (ps_for PassesOwn.never rfl (pi_range1 (by rfl) T.b_range (pa_cons (pv 1) pa_nil)) (pg_name (i := 9) sc_law_blank.nd rfl (by first | exact Or.inl rfl | exact Or.inr rfl))
  (pss_one (ps_if (pt_cmpR op_lt (pv 4) pe_int (nomark _)) (pss_one (ps_expr (pe_bm PySem.F.plainAttrs_list PySem.F.slot_list_append PySem.F.type_list_append mt_append (pv 10) (pa_cons (C8.pe_c C_law_draw hr (by decide) (by rfl) (pa_cons (pv 0) (pa_cons (pe_op op_add (pv 5) pe_int) pa_nil))) pa_nil)))) (pss_one (ps_if (pt_cmpR op_eq (pv 4) pe_int (nomark _)) (pss_cons (ps_set (i := 11) sc_law_blank.nd rfl (by first | exact Or.inl rfl | exact Or.inr rfl) (pe_callB call_len_seq (by rfl) T.b_len (by decide +kernel) (pa_cons (pe_lc (own := [("row", 12)]) (g := (gName 12)) (tt := (tTest (tOp rEq (tOp (rIxT K) (tVar 12) (tC (.int 0))) (tVar 9)))) rfl sc_law_blank.nd (pi_list (pv 2)) (blkOk_by (own := [("row", 12)]) (N := ["box", "pages", "rows", "lines", "style", "least", "most", "step", "start", "page", "blank", "held", "row"]) (sc := defScope s_law_blank) (by decide +kernel)) (fun _ _ _ _ _ => (pg_name (i := 12) sc_law_blank.nd rfl (by first | exact Or.inl rfl | exact Or.inr rfl))) (fun _ _ _ _ _ => (pts_one (pt_cmpR op_eq (pe_ix ix_tup (pv 12) pe_int (fun _ _ => rfl)) (pv 9) (nomark _)))) (fun _ _ _ _ _ => (pv 12))) pa_nil)))
  (pss_one (ps_expr (pe_bm PySem.F.plainAttrs_list PySem.F.slot_list_append PySem.F.type_list_append mt_append (pv 10) (pa_cons (pe_callB (call_max2 rfl) (by rfl) T.b_max (by decide +kernel) (pa_cons pe_int (pa_cons (pe_callB (call_min2 rfl) (by rfl) T.b_min (by decide +kernel) (pa_cons (pv 3) (pa_cons (pe_op op_add (pe_op op_sub (pv 11) pe_int) (C8.pe_c C_law_draw hr (by decide) (by rfl) (pa_cons (pv 0) (pa_cons pe_int pa_nil)))) pa_nil))) pa_nil))) pa_nil))))) (pss_one (ps_expr (pe_bm PySem.F.plainAttrs_list PySem.F.slot_list_append PySem.F.type_list_append mt_append (pv 10) (pa_cons (C8.pe_c C_law_draw hr (by decide) (by rfl) (pa_cons (pv 0) (pa_cons (pe_op op_add (pv 3) pe_int) pa_nil))) pa_nil)))))))))
  (pss_one (ps_ret (pv 10))))))))), rd_law_blank h⟩)
theorem bi_law_blank {f : Addr} {fd : FuncData} (F : Fun K "_law_blank" "_law_blank" s_law_blank f fd) : Binds K fd ["box", "pages", "rows", "lines"] [] := F.binds fun _ _ _ _ _ _ us hl => match us, hl with | [_, _, _, _], _ => rfl
theorem sc_law_uses : FnScope ["pages", "rows", "page", "copied", "uses", "row"] ["pages", "rows", "page", "copied"] (defScope s_law_uses) := ⟨rfl, rfl, rfl, by decide +kernel, rfl, by decide +kernel, by decide +kernel⟩
theorem ln_law_uses {vs : List V} {H : Hp} {Q : VK} {E : XK} (h : sp_law_uses K A vs H Q E) : vs.length = 4 := by
  first | (obtain ⟨_, rfl, _⟩ := h; rfl) | (obtain ⟨_, _, rfl, _⟩ := h; rfl) | (obtain ⟨_, _, _, rfl, _⟩ := h; rfl) | (obtain ⟨_, _, _, _, rfl, _⟩ := h; rfl) | (obtain ⟨_, _, _, _, _, rfl, _⟩ := h; rfl) | (obtain ⟨_, _, _, _, _, _, rfl, _⟩ := h; rfl) | (obtain ⟨_, _, _, _, _, _, _, rfl, _⟩ := h; rfl) | (obtain ⟨_, _, _, _, _, _, _, _, rfl, _⟩ := h; rfl) | (obtain ⟨_, _, _, _, _, _, _, _, _, rfl, _⟩ := h; rfl) | (obtain ⟨_, _, _, _, _, _, _, _, _, _, rfl, _⟩ := h; rfl) | (obtain ⟨_, _, _, _, _, _, _, _, _, _, _, rfl, _⟩ := h; rfl) | (obtain ⟨_, _, _, _, _, _, _, _, _, _, _, _, rfl, _⟩ := h; rfl) | (obtain ⟨_, _, _, _, _, _, _, _, _, _, _, _, _, rfl, _⟩ := h; rfl) | (obtain ⟨_, _, _, _, _, _, _, _, _, _, _, _, _, _, rfl, _⟩ := h; rfl) | (obtain ⟨_, _, _, _, _, _, _, _, _, _, _, _, _, _, _, rfl, _⟩ := h; rfl) | (obtain ⟨_, _, _, _, _, _, _, _, _, _, _, _, _, _, _, _, rfl, _⟩ := h; rfl) | (obtain ⟨_, _, _, _, _, _, _, _, _, _, _, _, _, _, _, _, _, rfl, _⟩ := h; rfl) | (obtain ⟨_, _, _, _, _, _, _, _, _, _, _, _, _, _, _, _, _, _, rfl, _⟩ := h; rfl) | (obtain ⟨_, _, _, _, _, _, _, _, _, _, _, _, _, _, _, _, _, _, _, rfl, _⟩ := h; rfl)
theorem fn_law_uses {f : Addr} {fd : FuncData} (F : Fun K "_law_uses" "_law_uses" s_law_uses f fd) (T : Txt mg A) (C : CT K A)  : FnOk P w K mg base CX0 1 f fd ["pages", "rows", "page", "copied"] (sp_law_uses K A) :=
  F.ok sc_law_uses (fun vs H Q E h => ln_law_uses h) (fun cdv Ar outer s H vs Q E hr h => ⟨t_law_uses K A, (pss_cons (ps_set (i := 4) sc_law_uses.nd rfl (by first | exact Or.inl rfl | exact Or.inr rfl) (pe_op op_rep (pe_lst (pa_cons pe_int pa_nil)) (pv 0)))
  (C8.pss_cut (ps_if (pt_cmpR op_notIn_seq (pv 2) (pv 3) (by rfl)) (pss_one (ps_asg pe_int (pg_sub (pv 4) (pv 2) set_list))) pss_nil)
  (pss_cons (ps_for PassesOwn.never rfl (pi_list (pv 1)) (pg_name (i := 5) sc_law_uses.nd rfl (by first | exact Or.inl rfl | exact Or.inr rfl))
  (pss_one (ps_if (PW.pt (pw_and (pt_cmpR op_in_seq (pe_ix ix_tup (pv 5) pe_int (fun _ _ => rfl)) (pv 3) (by rfl)) (pw_and1 (pt_cmpR op_notIn_seq (pe_ix ix_tup (pv 5) pe_int (fun _ _ => rfl)) (pv 3) (by rfl))))) (pss_one (ps_asg (pe_op op_add (pe_ix ix_list (pv 4) (pe_ix ix_tup (pv 5) pe_int (fun _ _ => rfl)) (fun _ _ => rfl)) pe_int) (pg_sub (pv 4) (pe_ix ix_tup (pv 5) pe_int (fun _ _ => rfl)) set_list))) pss_nil)))
  (pss_one (ps_ret (pv 4)))))), rd_law_uses h⟩)
theorem bi_law_uses {f : Addr} {fd : FuncData} (F : Fun K "_law_uses" "_law_uses" s_law_uses f fd) : Binds K fd ["pages", "rows", "page", "copied"] [] := F.binds fun _ _ _ _ _ _ us hl => match us, hl with | [_, _, _, _], _ => rfl
theorem sc_law_truth : FnScope ["told", "due"] ["told", "due"] (defScope s_law_truth) := ⟨rfl, rfl, rfl, by decide +kernel, rfl, by decide +kernel, by decide +kernel⟩
theorem ln_law_truth {vs : List V} {H : Hp} {Q : VK} {E : XK} (h : sp_law_truth K A vs H Q E) : vs.length = 2 := by
  first | (obtain ⟨_, rfl, _⟩ := h; rfl) | (obtain ⟨_, _, rfl, _⟩ := h; rfl) | (obtain ⟨_, _, _, rfl, _⟩ := h; rfl) | (obtain ⟨_, _, _, _, rfl, _⟩ := h; rfl) | (obtain ⟨_, _, _, _, _, rfl, _⟩ := h; rfl) | (obtain ⟨_, _, _, _, _, _, rfl, _⟩ := h; rfl) | (obtain ⟨_, _, _, _, _, _, _, rfl, _⟩ := h; rfl) | (obtain ⟨_, _, _, _, _, _, _, _, rfl, _⟩ := h; rfl) | (obtain ⟨_, _, _, _, _, _, _, _, _, rfl, _⟩ := h; rfl) | (obtain ⟨_, _, _, _, _, _, _, _, _, _, rfl, _⟩ := h; rfl) | (obtain ⟨_, _, _, _, _, _, _, _, _, _, _, rfl, _⟩ := h; rfl) | (obtain ⟨_, _, _, _, _, _, _, _, _, _, _, _, rfl, _⟩ := h; rfl) | (obtain ⟨_, _, _, _, _, _, _, _, _, _, _, _, _, rfl, _⟩ := h; rfl) | (obtain ⟨_, _, _, _, _, _, _, _, _, _, _, _, _, _, rfl, _⟩ := h; rfl) | (obtain ⟨_, _, _, _, _, _, _, _, _, _, _, _, _, _, _, rfl, _⟩ := h; rfl) | (obtain ⟨_, _, _, _, _, _, _, _, _, _, _, _, _, _, _, _, rfl, _⟩ := h; rfl) | (obtain ⟨_, _, _, _, _, _, _, _, _, _, _, _, _, _, _, _, _, rfl, _⟩ := h; rfl) | (obtain ⟨_, _, _, _, _, _, _, _, _, _, _, _, _, _, _, _, _, _, rfl, _⟩ := h; rfl) | (obtain ⟨_, _, _, _, _, _, _, _, _, _, _, _, _, _, _, _, _, _, _, rfl, _⟩ := h; rfl)
theorem fn_law_truth {f : Addr} {fd : FuncData} (F : Fun K "_law_truth" "_law_truth" s_law_truth f fd) (T : Txt mg A) (C : CT K A)  : FnOk P w K mg base CX0 1 f fd ["told", "due"] (sp_law_truth K A) :=
  F.ok sc_law_truth (fun vs H Q E h => ln_law_truth h) (fun cdv Ar outer s H vs Q E hr h => ⟨t_law_truth K A, (pss_one (ps_ret (pe_and (pe_callB call_isi (by rfl) T.b_isinstance (by decide +kernel) (pa_cons (pv 0) (pa_cons (pe_bltn (v := .ty "bool") (by rfl) T.b_bool (by decide +kernel) rfl) pa_nil))) (pe_one (pe_cmpR op_eq (pv 0) (pv 1) (nomark _)))))), rd_law_truth h⟩)
theorem bi_law_truth {f : Addr} {fd : FuncData} (F : Fun K "_law_truth" "_law_truth" s_law_truth f fd) : Binds K fd ["told", "due"] [] := F.binds fun _ _ _ _ _ _ us hl => match us, hl with | [_, _], _ => rfl
theorem sc_law_fits : FnScope ["told", "web", "lines", "blank", "page", "number"] ["told", "web", "lines", "blank"] (defScope s_law_fits) := ⟨rfl, rfl, rfl, by decide +kernel, rfl, by decide +kernel, by decide +kernel⟩
theorem ln_law_fits {vs : List V} {H : Hp} {Q : VK} {E : XK} (h : sp_law_fits K A vs H Q E) : vs.length = 4 := by
  first | (obtain ⟨_, rfl, _⟩ := h; rfl) | (obtain ⟨_, _, rfl, _⟩ := h; rfl) | (obtain ⟨_, _, _, rfl, _⟩ := h; rfl) | (obtain ⟨_, _, _, _, rfl, _⟩ := h; rfl) | (obtain ⟨_, _, _, _, _, rfl, _⟩ := h; rfl) | (obtain ⟨_, _, _, _, _, _, rfl, _⟩ := h; rfl) | (obtain ⟨_, _, _, _, _, _, _, rfl, _⟩ := h; rfl) | (obtain ⟨_, _, _, _, _, _, _, _, rfl, _⟩ := h; rfl) | (obtain ⟨_, _, _, _, _, _, _, _, _, rfl, _⟩ := h; rfl) | (obtain ⟨_, _, _, _, _, _, _, _, _, _, rfl, _⟩ := h; rfl) | (obtain ⟨_, _, _, _, _, _, _, _, _, _, _, rfl, _⟩ := h; rfl) | (obtain ⟨_, _, _, _, _, _, _, _, _, _, _, _, rfl, _⟩ := h; rfl) | (obtain ⟨_, _, _, _, _, _, _, _, _, _, _, _, _, rfl, _⟩ := h; rfl) | (obtain ⟨_, _, _, _, _, _, _, _, _, _, _, _, _, _, rfl, _⟩ := h; rfl) | (obtain ⟨_, _, _, _, _, _, _, _, _, _, _, _, _, _, _, rfl, _⟩ := h; rfl) | (obtain ⟨_, _, _, _, _, _, _, _, _, _, _, _, _, _, _, _, rfl, _⟩ := h; rfl) | (obtain ⟨_, _, _, _, _, _, _, _, _, _, _, _, _, _, _, _, _, rfl, _⟩ := h; rfl) | (obtain ⟨_, _, _, _, _, _, _, _, _, _, _, _, _, _, _, _, _, _, rfl, _⟩ := h; rfl) | (obtain ⟨_, _, _, _, _, _, _, _, _, _, _, _, _, _, _, _, _, _, _, rfl, _⟩ := h; rfl)
theorem fn_law_fits {f : Addr} {fd : FuncData} (F : Fun K "_law_fits" "_law_fits" s_law_fits f fd) (T : Txt mg A) (C : CT K A) (C_Standing_blank_of : GX.MetX P w K mg base 4 A.Standing "blank_of" (sp_Standing_blank_of K A)) (C_Standing_blanks : C8.Met P w K mg base 1 A.Standing "blanks" (sp_Standing_blanks K A) []) (C_Standing_used : C8.Met P w K mg base 1 A.Standing "used" (sp_Standing_used K A) []) (C_Web_eq : GX.EqO P w K mg base 1 A.Web (sp_Web_eq K A)) (C_law_pages : C8.Cal P w K mg base 2 "_law_pages" (sp_law_pages K A) []) (C_law_truth : C8.Cal P w K mg base 1 "_law_truth" (sp_law_truth K A) []) (C_law_whole : C8.Cal P w K mg base 1 "_law_whole" (sp_law_whole K A) []) : FnOk P w K mg base CX0 5 f fd ["told", "web", "lines", "blank"] (sp_law_fits K A) :=
  F.ok sc_law_fits (fun vs H Q E h => ln_law_fits h) (fun cdv Ar outer s H vs Q E hr h => ⟨t_law_fits K A, (pss_cons (ps_if (PW.pt (pw_or (pt_not (pt_val (pe_callB call_isi (by rfl) T.b_isinstance (by decide +kernel) (pa_cons (pv 0) (pa_cons (pe_glob (v := .ref A.Standing) (by rfl) T.g_Standing rfl) pa_nil))) (by intro _; rfl))) (pw_or1 (pt_not (pt_val (C8.pe_c C_law_whole hr (by decide) (by rfl) (pa_cons (pe_fld (pv 0) rfl) (pa_cons (pv 2) pa_nil))) (by intro _; rfl)))))) (pss_one (ps_ret pe_bl)) pss_nil)
  (pss_cons (ps_if (PW.pt (pw_or (pt_not (pt_val (C8.pe_c C_law_truth hr (by decide) (by rfl) (pa_cons (pe_cmpR (GX.op_eqB C_Web_eq hr (by decide)) (pe_fld (pv 0) rfl) (pv 1) (nomark _)) (pa_cons pe_bl pa_nil))) (by intro _; rfl))) (pw_or1 (pt_not (pt_val (C8.pe_c C_law_pages hr (by decide) (by rfl) (pa_cons (C8.pe_mt0 C_Standing_blanks hr (by decide) (pv 0)) (pa_cons (pv 3) pa_nil))) (by intro _; rfl)))))) (pss_one (ps_ret pe_bl)) pss_nil)
  (pss_cons (ps_for PassesOwn.never rfl (pi_range1 (by rfl) T.b_range (pa_cons (pe_callB call_len_seq (by rfl) T.b_len (by decide +kernel) (pa_cons (pv 3) pa_nil)) pa_nil)) (pg_name (i := 4) sc_law_fits.nd rfl (by first | exact Or.inl rfl | exact Or.inr rfl))
  (pss_one (ps_if (pt_not (pt_val (C8.pe_c C_law_whole hr (by decide) (by rfl) (pa_cons (GX.pe_mtX C_Standing_blank_of hr (by decide) passL (pv 0) (pa_cons (pv 4) pa_nil)) (pa_cons (pe_ix ix_list (pv 3) (pv 4) (fun _ _ => rfl)) pa_nil))) (by intro _; rfl))) (pss_one (ps_ret pe_bl)) pss_nil)))
  (pss_one (ps_ret (C8.pe_c C_law_whole hr (by decide) (by rfl) (pa_cons (C8.pe_mt0 C_Standing_used hr (by decide) (pv 0)) (pa_cons (pe_callB (cr_sum rfl) (by rfl) T.b_sum (by decide +kernel) (pa_cons (pe_lc (own := [("number", 5)]) (g := (gName 5)) (tt := tYes) rfl sc_law_fits.nd (pi_list (pv 3)) (blkOk_by (own := [("number", 5)]) (N := ["told", "web", "lines", "blank", "page", "number"]) (sc := defScope s_law_fits) (by decide +kernel)) (fun _ _ _ _ _ => (pg_name (i := 5) sc_law_fits.nd rfl (by first | exact Or.inl rfl | exact Or.inr rfl))) (fun _ _ _ _ _ => pts_nil) (fun _ _ _ _ _ => (pe_op op_sub (pv 2) (pv 5)))) pa_nil)) pa_nil)))))))), rd_law_fits C.s C.j h⟩)
theorem bi_law_fits {f : Addr} {fd : FuncData} (F : Fun K "_law_fits" "_law_fits" s_law_fits f fd) : Binds K fd ["told", "web", "lines", "blank"] [] := F.binds fun _ _ _ _ _ _ us hl => match us, hl with | [_, _, _, _], _ => rfl
theorem sc_law_called : FnScope ["standing", "page", "copied"] ["standing", "page", "copied"] (defScope s_law_called) := ⟨rfl, rfl, rfl, by decide +kernel, rfl, by decide +kernel, by decide +kernel⟩
theorem ln_law_called {vs : List V} {H : Hp} {Q : VK} {E : XK} (h : sp_law_called K A vs H Q E) : vs.length = 3 := by
  first | (obtain ⟨_, rfl, _⟩ := h; rfl) | (obtain ⟨_, _, rfl, _⟩ := h; rfl) | (obtain ⟨_, _, _, rfl, _⟩ := h; rfl) | (obtain ⟨_, _, _, _, rfl, _⟩ := h; rfl) | (obtain ⟨_, _, _, _, _, rfl, _⟩ := h; rfl) | (obtain ⟨_, _, _, _, _, _, rfl, _⟩ := h; rfl) | (obtain ⟨_, _, _, _, _, _, _, rfl, _⟩ := h; rfl) | (obtain ⟨_, _, _, _, _, _, _, _, rfl, _⟩ := h; rfl) | (obtain ⟨_, _, _, _, _, _, _, _, _, rfl, _⟩ := h; rfl) | (obtain ⟨_, _, _, _, _, _, _, _, _, _, rfl, _⟩ := h; rfl) | (obtain ⟨_, _, _, _, _, _, _, _, _, _, _, rfl, _⟩ := h; rfl) | (obtain ⟨_, _, _, _, _, _, _, _, _, _, _, _, rfl, _⟩ := h; rfl) | (obtain ⟨_, _, _, _, _, _, _, _, _, _, _, _, _, rfl, _⟩ := h; rfl) | (obtain ⟨_, _, _, _, _, _, _, _, _, _, _, _, _, _, rfl, _⟩ := h; rfl) | (obtain ⟨_, _, _, _, _, _, _, _, _, _, _, _, _, _, _, rfl, _⟩ := h; rfl) | (obtain ⟨_, _, _, _, _, _, _, _, _, _, _, _, _, _, _, _, rfl, _⟩ := h; rfl) | (obtain ⟨_, _, _, _, _, _, _, _, _, _, _, _, _, _, _, _, _, rfl, _⟩ := h; rfl) | (obtain ⟨_, _, _, _, _, _, _, _, _, _, _, _, _, _, _, _, _, _, rfl, _⟩ := h; rfl) | (obtain ⟨_, _, _, _, _, _, _, _, _, _, _, _, _, _, _, _, _, _, _, rfl, _⟩ := h; rfl)
theorem fn_law_called {f : Addr} {fd : FuncData} (F : Fun K "_law_called" "_law_called" s_law_called f fd) (T : Txt mg A) (C : CT K A) (C_Standing_after : GX.MetR P w K mg base 6 A.Standing "after" (GX.starSp 2 (sp_Standing_after K A))) : FnOk P w K mg base (L2.CX P w) 7 f fd ["standing", "page", "copied"] (sp_law_called K A) :=
  F.okX sc_law_called (fun vs H Q E h => ln_law_called h) (fun cdv Ar outer s H vs Q E hr h => ⟨t_law_called K A E, (pss_cons (ps_if (pt_cmpR op_eq (pe_callB call_len_seq (by rfl) T.b_len (by decide +kernel) (pa_cons (pv 2) pa_nil)) pe_int (nomark _)) (pss_one (ps_ret (GX.pe_mtR C_Standing_after hr (by decide) (passes_call (takes_of rfl rfl rfl rfl) (fun _ _ _ _ h => h)) (pv 0) (pa_cons (pv 1) pa_nil)))) pss_nil)
  (pss_cons (ps_if (pt_cmpR op_eq (pe_callB call_len_seq (by rfl) T.b_len (by decide +kernel) (pa_cons (pv 2) pa_nil)) pe_int (nomark _)) (pss_one (ps_ret (GX.pe_mtR C_Standing_after hr (by decide) (passes_call (takes_of rfl rfl rfl rfl) (fun _ _ _ _ h => h)) (pv 0) (pa_cons (pv 1) (pa_cons (pe_ix ix_list (pv 2) pe_int (fun _ _ => rfl)) pa_nil))))) pss_nil)
  (pss_cons (ps_if (pt_cmpR op_eq (pe_callB call_len_seq (by rfl) T.b_len (by decide +kernel) (pa_cons (pv 2) pa_nil)) pe_int (nomark _)) (pss_one (ps_ret (GX.pe_mtR C_Standing_after hr (by decide) (passes_call (takes_of rfl rfl rfl rfl) (fun _ _ _ _ h => h)) (pv 0) (pa_cons (pv 1) (pa_cons (pe_ix ix_list (pv 2) pe_int (fun _ _ => rfl)) (pa_cons (pe_ix ix_list (pv 2) pe_int (fun _ _ => rfl)) pa_nil)))))) pss_nil)
  (pss_cons (ps_if (pt_cmpR op_eq (pe_callB call_len_seq (by rfl) T.b_len (by decide +kernel) (pa_cons (pv 2) pa_nil)) pe_int (nomark _)) (pss_one (ps_ret (GX.pe_mtR C_Standing_after hr (by decide) (passes_call (takes_of rfl rfl rfl rfl) (fun _ _ _ _ h => h)) (pv 0) (pa_cons (pv 1) (pa_cons (pe_ix ix_list (pv 2) pe_int (fun _ _ => rfl)) (pa_cons (pe_ix ix_list (pv 2) pe_int (fun _ _ => rfl)) (pa_cons (pe_ix ix_list (pv 2) pe_int (fun _ _ => rfl)) pa_nil))))))) pss_nil)
  (pss_cons (ps_if (pt_cmpR op_eq (pe_callB call_len_seq (by rfl) T.b_len (by decide +kernel) (pa_cons (pv 2) pa_nil)) pe_int (nomark _)) (pss_one (ps_ret (GX.pe_mtR C_Standing_after hr (by decide) (passes_call (takes_of rfl rfl rfl rfl) (fun _ _ _ _ h => h)) (pv 0) (pa_cons (pv 1) (pa_cons (pe_ix ix_list (pv 2) pe_int (fun _ _ => rfl)) (pa_cons (pe_ix ix_list (pv 2) pe_int (fun _ _ => rfl)) (pa_cons (pe_ix ix_list (pv 2) pe_int (fun _ _ => rfl)) (pa_cons (pe_ix ix_list (pv 2) pe_int (fun _ _ => rfl)) pa_nil)))))))) pss_nil)
  (pss_one (ps_ret (GX.pe_mtR C_Standing_after hr (by decide) (passes_call (takes_of rfl rfl rfl rfl) (fun _ _ _ _ h => h)) (pv 0) (pa_cons (pv 1) (pa_cons (pe_ix ix_list (pv 2) pe_int (fun _ _ => rfl)) (pa_cons (pe_ix ix_list (pv 2) pe_int (fun _ _ => rfl)) (pa_cons (pe_ix ix_list (pv 2) pe_int (fun _ _ => rfl)) (pa_cons (pe_ix ix_list (pv 2) pe_int (fun _ _ => rfl)) (pa_cons (pe_ix ix_list (pv 2) pe_int (fun _ _ => rfl)) pa_nil)))))))))))))), rd_law_called h⟩)
theorem bi_law_called {f : Addr} {fd : FuncData} (F : Fun K "_law_called" "_law_called" s_law_called f fd) : Binds K fd ["standing", "page", "copied"] [] := F.binds fun _ _ _ _ _ _ us hl => match us, hl with | [_, _, _], _ => rfl
theorem sc_law_refused : FnScope ["standing", "page", "copied", "e", "raised"] ["standing", "page", "copied"] (defScope s_law_refused) := ⟨rfl, rfl, rfl, by decide +kernel, rfl, by decide +kernel, by decide +kernel⟩
theorem ln_law_refused {vs : List V} {H : Hp} {Q : VK} {E : XK} (h : sp_law_refused K A vs H Q E) : vs.length = 3 := by
  first | (obtain ⟨_, rfl, _⟩ := h; rfl) | (obtain ⟨_, _, rfl, _⟩ := h; rfl) | (obtain ⟨_, _, _, rfl, _⟩ := h; rfl) | (obtain ⟨_, _, _, _, rfl, _⟩ := h; rfl) | (obtain ⟨_, _, _, _, _, rfl, _⟩ := h; rfl) | (obtain ⟨_, _, _, _, _, _, rfl, _⟩ := h; rfl) | (obtain ⟨_, _, _, _, _, _, _, rfl, _⟩ := h; rfl) | (obtain ⟨_, _, _, _, _, _, _, _, rfl, _⟩ := h; rfl) | (obtain ⟨_, _, _, _, _, _, _, _, _, rfl, _⟩ := h; rfl) | (obtain ⟨_, _, _, _, _, _, _, _, _, _, rfl, _⟩ := h; rfl) | (obtain ⟨_, _, _, _, _, _, _, _, _, _, _, rfl, _⟩ := h; rfl) | (obtain ⟨_, _, _, _, _, _, _, _, _, _, _, _, rfl, _⟩ := h; rfl) | (obtain ⟨_, _, _, _, _, _, _, _, _, _, _, _, _, rfl, _⟩ := h; rfl) | (obtain ⟨_, _, _, _, _, _, _, _, _, _, _, _, _, _, rfl, _⟩ := h; rfl) | (obtain ⟨_, _, _, _, _, _, _, _, _, _, _, _, _, _, _, rfl, _⟩ := h; rfl) | (obtain ⟨_, _, _, _, _, _, _, _, _, _, _, _, _, _, _, _, rfl, _⟩ := h; rfl) | (obtain ⟨_, _, _, _, _, _, _, _, _, _, _, _, _, _, _, _, _, rfl, _⟩ := h; rfl) | (obtain ⟨_, _, _, _, _, _, _, _, _, _, _, _, _, _, _, _, _, _, rfl, _⟩ := h; rfl) | (obtain ⟨_, _, _, _, _, _, _, _, _, _, _, _, _, _, _, _, _, _, _, rfl, _⟩ := h; rfl)
theorem fn_law_refused {f : Addr} {fd : FuncData} (F : Fun K "_law_refused" "_law_refused" s_law_refused f fd) (T : Txt mg A) (C : CT K A) (C_law_called : GX.CalX P w K mg base 7 "_law_called" (sp_law_called K A)) : FnOk P w K mg base CX0 8 f fd ["standing", "page", "copied"] (sp_law_refused K A) :=
  F.ok sc_law_refused (fun vs H Q E h => ln_law_refused h) (fun cdv Ar outer s H vs Q E hr h => ⟨t_law_refused K A, (pss_cons (GY.ps_try_manyAs (tb := fun W => (tDrop (GX.tCallS (sp_law_called K A) (WE W) (tCons (tVar 0) (tCons (tVar 1) (tCons (tVar 2) tNil)))))) (l := [(.ref A.NoPage, 3, fun a cls d => (tSeq (tIfS (tAnd (tB (tCB (GX.rIsX K a cls d) (tCons (tVar 3) (tCons (tC (.ref A.OnecopyError)) tNil)))) (tB (tCB (GX.rIsX K a cls d) (tCons (tVar 3) (tCons (tC (.ty "ValueError")) tNil))))) (tIfS (tNot (tB (tCB (GX.rIsXT K a cls d) (tCons (tVar 3) (tCons (tTup (tCons (tC (.ref A.NoLine)) (tCons (tC (.ref A.LotError)) (tCons (tC (.ref A.InvalidStanding)) tNil)))) tNil))))) (tRet (tLst (tCons (tC (.int 0)) (tCons (tXf a cls d A.NoPage "page" (tVar 3)) tNil)))) tNext) tNext)
  (tRet (tLst (tCons (tC (.int 2)) tNil))))), (.ref A.NoLine, 4, fun a cls d => (tSeq (tIfS (tAnd (tB (tCB (GX.rIsX K a cls d) (tCons (tVar 4) (tCons (tC (.ref A.OnecopyError)) tNil)))) (tB (tCB (GX.rIsX K a cls d) (tCons (tVar 4) (tCons (tC (.ty "ValueError")) tNil))))) (tIfS (tNot (tB (tCB (GX.rIsXT K a cls d) (tCons (tVar 4) (tCons (tTup (tCons (tC (.ref A.NoPage)) (tCons (tC (.ref A.LotError)) (tCons (tC (.ref A.InvalidStanding)) tNil)))) tNil))))) (tRet (tLst (tCons (tC (.int 1)) (tCons (tXf a cls d A.NoLine "page" (tVar 4)) tNil)))) tNext) tNext)
  (tRet (tLst (tCons (tC (.int 2)) tNil)))))]) rfl rfl sc_law_refused.nd takes0
  (fun W pn xe tk _ => (pss_one (ps_expr (GX.pe_cXT C_law_called hr (by decide) (by rfl) tk (pa_cons (pv 0) (pa_cons (pv 1) (pa_cons (pv 2) pa_nil)))))))
  (.cons rfl rfl ⟨rfl, by decide, Or.inl T.g_NoPage⟩ (fun a oe cls d pn hz hf => (pss_cons (ps_if (PW.pt (pw_and (pt_val (pe_callB (GX.call_isX hz hf) (by rfl) T.b_isinstance (by decide +kernel) (pa_cons (pv 3) (pa_cons (pe_glob (v := .ref A.OnecopyError) (by rfl) T.g_OnecopyError rfl) pa_nil))) (by intro _; rfl)) (pw_and1 (pt_val (pe_callB (GX.call_isX hz hf) (by rfl) T.b_isinstance (by decide +kernel) (pa_cons (pv 3) (pa_cons (pe_bltn (v := .ty "ValueError") (by rfl) T.b_ValueError (by decide +kernel) rfl) pa_nil))) (by intro _; rfl))))) (pss_one (ps_if (pt_not (pt_val (pe_callB (GX.call_isXT hz hf) (by rfl) T.b_isinstance (by decide +kernel) (pa_cons (pv 3) (pa_cons (pe_tup (pa_cons (pe_glob (v := .ref A.NoLine) (by rfl) T.g_NoLine rfl) (pa_cons (pe_glob (v := .ref A.LotError) (by rfl) T.g_LotError rfl) (pa_cons (pe_glob (v := .ref A.InvalidStanding) (by rfl) T.g_InvalidStanding rfl) pa_nil)))) pa_nil))) (by intro _; rfl))) (pss_one (ps_ret (pe_lst (pa_cons pe_int (pa_cons (pe_xf C.xf_NoPage C.f_NoPage_page hz hf (pv 3)) pa_nil))))) pss_nil)) pss_nil)
  (pss_one (ps_ret (pe_lst (pa_cons pe_int pa_nil))))))
  (.cons rfl rfl ⟨rfl, by decide, Or.inl T.g_NoLine⟩ (fun a oe cls d pn hz hf => (pss_cons (ps_if (PW.pt (pw_and (pt_val (pe_callB (GX.call_isX hz hf) (by rfl) T.b_isinstance (by decide +kernel) (pa_cons (pv 4) (pa_cons (pe_glob (v := .ref A.OnecopyError) (by rfl) T.g_OnecopyError rfl) pa_nil))) (by intro _; rfl)) (pw_and1 (pt_val (pe_callB (GX.call_isX hz hf) (by rfl) T.b_isinstance (by decide +kernel) (pa_cons (pv 4) (pa_cons (pe_bltn (v := .ty "ValueError") (by rfl) T.b_ValueError (by decide +kernel) rfl) pa_nil))) (by intro _; rfl))))) (pss_one (ps_if (pt_not (pt_val (pe_callB (GX.call_isXT hz hf) (by rfl) T.b_isinstance (by decide +kernel) (pa_cons (pv 4) (pa_cons (pe_tup (pa_cons (pe_glob (v := .ref A.NoPage) (by rfl) T.g_NoPage rfl) (pa_cons (pe_glob (v := .ref A.LotError) (by rfl) T.g_LotError rfl) (pa_cons (pe_glob (v := .ref A.InvalidStanding) (by rfl) T.g_InvalidStanding rfl) pa_nil)))) pa_nil))) (by intro _; rfl))) (pss_one (ps_ret (pe_lst (pa_cons pe_int (pa_cons (pe_xf C.xf_NoLine C.f_NoLine_page hz hf (pv 4)) pa_nil))))) pss_nil)) pss_nil)
  (pss_one (ps_ret (pe_lst (pa_cons pe_int pa_nil))))))
  .nil)))
  (pss_one (ps_ret (pe_lst pa_nil)))), rd_law_refused C.r h⟩)
theorem bi_law_refused {f : Addr} {fd : FuncData} (F : Fun K "_law_refused" "_law_refused" s_law_refused f fd) : Binds K fd ["standing", "page", "copied"] [] := F.binds fun _ _ _ _ _ _ us hl => match us, hl with | [_, _, _], _ => rfl
theorem sc_law_drawn_update : FnScope ["box", "pages", "rows", "page", "style", "copied", "k", "far", "at", "row"] ["box", "pages", "rows"] (defScope s_law_drawn_update) := ⟨rfl, rfl, rfl, by decide +kernel, rfl, by decide +kernel, by decide +kernel⟩
theorem ln_law_drawn_update {vs : List V} {H : Hp} {Q : VK} {E : XK} (h : sp_law_drawn_update K A vs H Q E) : vs.length = 3 := by
  first | (obtain ⟨_, rfl, _⟩ := h; rfl) | (obtain ⟨_, _, rfl, _⟩ := h; rfl) | (obtain ⟨_, _, _, rfl, _⟩ := h; rfl) | (obtain ⟨_, _, _, _, rfl, _⟩ := h; rfl) | (obtain ⟨_, _, _, _, _, rfl, _⟩ := h; rfl) | (obtain ⟨_, _, _, _, _, _, rfl, _⟩ := h; rfl) | (obtain ⟨_, _, _, _, _, _, _, rfl, _⟩ := h; rfl) | (obtain ⟨_, _, _, _, _, _, _, _, rfl, _⟩ := h; rfl) | (obtain ⟨_, _, _, _, _, _, _, _, _, rfl, _⟩ := h; rfl) | (obtain ⟨_, _, _, _, _, _, _, _, _, _, rfl, _⟩ := h; rfl) | (obtain ⟨_, _, _, _, _, _, _, _, _, _, _, rfl, _⟩ := h; rfl) | (obtain ⟨_, _, _, _, _, _, _, _, _, _, _, _, rfl, _⟩ := h; rfl) | (obtain ⟨_, _, _, _, _, _, _, _, _, _, _, _, _, rfl, _⟩ := h; rfl) | (obtain ⟨_, _, _, _, _, _, _, _, _, _, _, _, _, _, rfl, _⟩ := h; rfl) | (obtain ⟨_, _, _, _, _, _, _, _, _, _, _, _, _, _, _, rfl, _⟩ := h; rfl) | (obtain ⟨_, _, _, _, _, _, _, _, _, _, _, _, _, _, _, _, rfl, _⟩ := h; rfl) | (obtain ⟨_, _, _, _, _, _, _, _, _, _, _, _, _, _, _, _, _, rfl, _⟩ := h; rfl) | (obtain ⟨_, _, _, _, _, _, _, _, _, _, _, _, _, _, _, _, _, _, rfl, _⟩ := h; rfl) | (obtain ⟨_, _, _, _, _, _, _, _, _, _, _, _, _, _, _, _, _, _, _, rfl, _⟩ := h; rfl)
theorem fn_law_drawn_update {f : Addr} {fd : FuncData} (F : Fun K "_law_drawn_update" "_law_drawn_update" s_law_drawn_update f fd) (T : Txt mg A) (C : CT K A) (C_law_draw : C8.Cal P w K mg base 1 "_law_draw" (sp_law_draw K A) []) (C_law_outside : C8.Cal P w K mg base 2 "_law_outside" (sp_law_outside K A) []) : FnOk P w K mg base CX0 3 f fd ["box", "pages", "rows"] (sp_law_drawn_update K A) :=
  F.ok sc_law_drawn_update (fun vs H Q E h => ln_law_drawn_update h) (fun cdv Ar outer s H vs Q E hr h => ⟨t_law_drawn_update K A, (pss_cons (ps_set (i := 3) sc_law_drawn_update.nd rfl (by first | exact Or.inl rfl | exact Or.inr rfl) (C8.pe_c C_law_draw hr (by decide) (by rfl) (pa_cons (pv 0) (pa_cons (pv 1) pa_nil))))
  (pss_cons (ps_set (i := 4) sc_law_drawn_update.nd rfl (by first | exact Or.inl rfl | exact Or.inr rfl) (C8.pe_c C_law_draw hr (by decide) (by rfl) (pa_cons (pv 0) (pa_cons pe_int pa_nil))))
  (pss_cons (ps_setLc (i := 5) (own := [("k", 6)]) (g := (gName 6)) (tt := tYes) rfl sc_law_drawn_update.nd rfl rfl (sw_true rfl rfl rfl (by decide +kernel)) (pi_range1 (by rfl) T.b_range (pa_cons (C8.pe_c C_law_draw hr (by decide) (by rfl) (pa_cons (pv 0) (pa_cons pe_int pa_nil))) pa_nil)) (blkOk_by (own := [("k", 6)]) (N := ["box", "pages", "rows", "page", "style", "copied", "k", "far", "at", "row"]) (sc := defScope s_law_drawn_update) (by decide +kernel)) (fun _ _ _ _ _ => (pg_name (i := 6) sc_law_drawn_update.nd rfl (by first | exact Or.inl rfl | exact Or.inr rfl))) (fun _ _ _ _ _ => pts_nil) (fun _ _ _ _ _ => (C8.pe_c C_law_draw hr (by decide) (by rfl) (pa_cons (pv 0) (pa_cons (pv 1) pa_nil)))))
  (pss_cons (ps_set (i := 7) sc_law_drawn_update.nd rfl (by first | exact Or.inl rfl | exact Or.inr rfl) (C8.pe_c C_law_outside hr (by decide) (by rfl) (pa_cons (pv 0) (pa_cons (pv 1) pa_nil))))
  (pss_cons (ps_set (i := 8) sc_law_drawn_update.nd rfl (by first | exact Or.inl rfl | exact Or.inr rfl) (C8.pe_c C_law_draw hr (by decide) (by rfl) (pa_cons (pv 0) (pa_cons (pe_callB (call_max2 rfl) (by rfl) T.b_max (by decide +kernel) (pa_cons pe_int (pa_cons (pe_callB call_len_seq (by rfl) T.b_len (by decide +kernel) (pa_cons (pv 5) pa_nil)) pa_nil))) pa_nil))))
  (C8.pss_cut (ps_if (PW.pt (pw_and (pt_cmpR op_eq (pv 4) pe_int (nomark _)) (pw_and1 (pt_cmpR op_gt (pe_callB call_len_seq (by rfl) T.b_len (by decide +kernel) (pa_cons (pv 5) pa_nil)) pe_int (nomark _))))) (pss_one (ps_asg (pv 3) (pg_sub (pv 5) (pv 8) set_list))) (pss_one (ps_if (pt_cmpR op_eq (pv 4) pe_int (nomark _)) (pss_one (ps_set (i := 5) sc_law_drawn_update.nd rfl (by first | exact Or.inl rfl | exact Or.inr rfl) (pe_slice sl_list (pe_lc (own := [("row", 9)]) (g := (gName 9)) (tt := (tTest (tOp rEq (tOp (rIxT K) (tVar 9) (tC (.int 0))) (tVar 3)))) rfl sc_law_drawn_update.nd (pi_list (pv 2)) (blkOk_by (own := [("row", 9)]) (N := ["box", "pages", "rows", "page", "style", "copied", "k", "far", "at", "row"]) (sc := defScope s_law_drawn_update) (by decide +kernel)) (fun _ _ _ _ _ => (pg_name (i := 9) sc_law_drawn_update.nd rfl (by first | exact Or.inl rfl | exact Or.inr rfl))) (fun _ _ _ _ _ => (pts_one (pt_cmpR op_eq (pe_ix ix_tup (pv 9) pe_int (fun _ _ => rfl)) (pv 3) (nomark _)))) (fun _ _ _ _ _ => (pe_ix ix_tup (pv 9) pe_int (fun _ _ => rfl)))) po_none (po_some pe_int)))) (pss_one (ps_if (pt_cmpR op_eq (pv 4) pe_int (nomark _)) (pss_one (ps_set (i := 5) sc_law_drawn_update.nd rfl (by first | exact Or.inl rfl | exact Or.inr rfl) (pe_op op_cat (pe_slice sl_list (pe_lc (own := [("row", 9)]) (g := (gName 9)) (tt := (tTest (tOp rEq (tOp (rIxT K) (tVar 9) (tC (.int 1))) (tVar 3)))) rfl sc_law_drawn_update.nd (pi_list (pv 2)) (blkOk_by (own := [("row", 9)]) (N := ["box", "pages", "rows", "page", "style", "copied", "k", "far", "at", "row"]) (sc := defScope s_law_drawn_update) (by decide +kernel)) (fun _ _ _ _ _ => (pg_name (i := 9) sc_law_drawn_update.nd rfl (by first | exact Or.inl rfl | exact Or.inr rfl))) (fun _ _ _ _ _ => (pts_one (pt_cmpR op_eq (pe_ix ix_tup (pv 9) pe_int (fun _ _ => rfl)) (pv 3) (nomark _)))) (fun _ _ _ _ _ => (pe_ix ix_tup (pv 9) pe_int (fun _ _ => rfl)))) po_none (po_some pe_int)) (pe_lst (pa_cons (pv 3) pa_nil))))) (pss_one (ps_if (pt_cmpR op_eq (pv 4) pe_int (nomark _)) (pss_one (ps_set (i := 5) sc_law_drawn_update.nd rfl (by first | exact Or.inl rfl | exact Or.inr rfl) (pe_op op_cat (pe_slice sl_list (pv 5) po_none (po_some pe_int)) (pe_slice sl_list (pv 5) po_none (po_some pe_int))))) (pss_one (ps_if (PW.pt (pw_and (PW.pt (pw_or (pt_cmpR op_eq (pv 4) pe_int (nomark _)) (pw_or1 (pt_cmpR op_eq (pv 4) pe_int (nomark _))))) (pw_and1 (pt_cmpR op_gt (pe_callB call_len_seq (by rfl) T.b_len (by decide +kernel) (pa_cons (pv 5) pa_nil)) pe_int (nomark _))))) (pss_one (ps_asg (pv 7) (pg_sub (pv 5) (pv 8) set_list))) pss_nil)))))))))
  (C8.pss_cut (ps_if (PW.pt (pw_or (pt_cmpR op_eq (pv 4) pe_int (nomark _)) (pw_or1 (pt_cmpR op_eq (pv 4) pe_int (nomark _))))) (pss_one (ps_set (i := 3) sc_law_drawn_update.nd rfl (by first | exact Or.inl rfl | exact Or.inr rfl) (C8.pe_c C_law_outside hr (by decide) (by rfl) (pa_cons (pv 0) (pa_cons (pv 1) pa_nil))))) pss_nil)
  (pss_one (ps_ret (pe_lst (pa_cons (pv 3) (pa_cons (pv 5) pa_nil)))))))))))), rd_law_drawn_update h⟩)
theorem bi_law_drawn_update {f : Addr} {fd : FuncData} (F : Fun K "_law_drawn_update" "_law_drawn_update" s_law_drawn_update f fd) : Binds K fd ["box", "pages", "rows"] [] := F.binds fun _ _ _ _ _ _ us hl => match us, hl with | [_, _, _], _ => rfl
theorem sc_law_update : FnScope ["box", "standing", "web", "pages", "rows", "lines", "blank", "update", "page", "copied", "outside", "one", "uses", "short", "due", "made", "told"] ["box", "standing", "web", "pages", "rows", "lines", "blank"] (defScope s_law_update) := ⟨rfl, rfl, rfl, by decide +kernel, rfl, by decide +kernel, by decide +kernel⟩
theorem ln_law_update {vs : List V} {H : Hp} {Q : VK} {E : XK} (h : sp_law_update K A vs H Q E) : vs.length = 7 := by
  first | (obtain ⟨_, rfl, _⟩ := h; rfl) | (obtain ⟨_, _, rfl, _⟩ := h; rfl) | (obtain ⟨_, _, _, rfl, _⟩ := h; rfl) | (obtain ⟨_, _, _, _, rfl, _⟩ := h; rfl) | (obtain ⟨_, _, _, _, _, rfl, _⟩ := h; rfl) | (obtain ⟨_, _, _, _, _, _, rfl, _⟩ := h; rfl) | (obtain ⟨_, _, _, _, _, _, _, rfl, _⟩ := h; rfl) | (obtain ⟨_, _, _, _, _, _, _, _, rfl, _⟩ := h; rfl) | (obtain ⟨_, _, _, _, _, _, _, _, _, rfl, _⟩ := h; rfl) | (obtain ⟨_, _, _, _, _, _, _, _, _, _, rfl, _⟩ := h; rfl) | (obtain ⟨_, _, _, _, _, _, _, _, _, _, _, rfl, _⟩ := h; rfl) | (obtain ⟨_, _, _, _, _, _, _, _, _, _, _, _, rfl, _⟩ := h; rfl) | (obtain ⟨_, _, _, _, _, _, _, _, _, _, _, _, _, rfl, _⟩ := h; rfl) | (obtain ⟨_, _, _, _, _, _, _, _, _, _, _, _, _, _, rfl, _⟩ := h; rfl) | (obtain ⟨_, _, _, _, _, _, _, _, _, _, _, _, _, _, _, rfl, _⟩ := h; rfl) | (obtain ⟨_, _, _, _, _, _, _, _, _, _, _, _, _, _, _, _, rfl, _⟩ := h; rfl) | (obtain ⟨_, _, _, _, _, _, _, _, _, _, _, _, _, _, _, _, _, rfl, _⟩ := h; rfl) | (obtain ⟨_, _, _, _, _, _, _, _, _, _, _, _, _, _, _, _, _, _, rfl, _⟩ := h; rfl) | (obtain ⟨_, _, _, _, _, _, _, _, _, _, _, _, _, _, _, _, _, _, _, rfl, _⟩ := h; rfl)
theorem fn_law_update {f : Addr} {fd : FuncData} (F : Fun K "_law_update" "_law_update" s_law_update f fd) (T : Txt mg A) (C : CT K A) (C_Standing_blanks : C8.Met P w K mg base 1 A.Standing "blanks" (sp_Standing_blanks K A) []) (C_law_called : GX.CalX P w K mg base 7 "_law_called" (sp_law_called K A)) (C_law_drawn_update : C8.Cal P w K mg base 3 "_law_drawn_update" (sp_law_drawn_update K A) []) (C_law_fits : C8.Cal P w K mg base 5 "_law_fits" (sp_law_fits K A) []) (C_law_pages : C8.Cal P w K mg base 2 "_law_pages" (sp_law_pages K A) []) (C_law_refused : C8.Cal P w K mg base 8 "_law_refused" (sp_law_refused K A) []) (C_law_uses : C8.Cal P w K mg base 1 "_law_uses" (sp_law_uses K A) []) : FnOk P w K mg base CX0 9 f fd ["box", "standing", "web", "pages", "rows", "lines", "blank"] (sp_law_update K A) :=
  F.ok sc_law_update (fun vs H Q E h => ln_law_update h) (fun cdv Ar outer s H vs Q E hr h => ⟨t_law_update K A, (pss_cons (ps_set (i := 7) sc_law_update.nd rfl (by first | exact Or.inl rfl | exact Or.inr rfl) (C8.pe_c C_law_drawn_update hr (by decide) (by rfl) (pa_cons (pv 0) (pa_cons (pv 3) (pa_cons (pv 4) pa_nil)))))
  (pss_cons (ps_set (i := 8) sc_law_update.nd rfl (by first | exact Or.inl rfl | exact Or.inr rfl) (pe_ix ix_list (pv 7) pe_int (fun _ _ => rfl)))
  (pss_cons (ps_set (i := 9) sc_law_update.nd rfl (by first | exact Or.inl rfl | exact Or.inr rfl) (pe_ix ix_list (pv 7) pe_int (fun _ _ => rfl)))
  (pss_cons (ps_setLc (i := 10) (own := [("one", 11)]) (g := (gName 11)) (tt := (tOr (tTest (tOp oLt (tVar 11) (tC (.int 0)))) (tTest (tOp oGe (tVar 11) (tVar 3))))) rfl sc_law_update.nd rfl rfl (sw_true rfl rfl rfl (by decide +kernel)) (pi_list (pe_op op_cat (pe_lst (pa_cons (pv 8) pa_nil)) (pv 9))) (blkOk_by (own := [("one", 11)]) (N := ["box", "standing", "web", "pages", "rows", "lines", "blank", "update", "page", "copied", "outside", "one", "uses", "short", "due", "made", "told"]) (sc := defScope s_law_update) (by decide +kernel)) (fun _ _ _ _ _ => (pg_name (i := 11) sc_law_update.nd rfl (by first | exact Or.inl rfl | exact Or.inr rfl))) (fun _ _ _ _ _ => (pts_one (PW.pt (pw_or (pt_cmpR op_lt (pv 11) pe_int (nomark _)) (pw_or1 (pt_cmpR op_ge (pv 11) (pv 3) (nomark _))))))) (fun _ _ _ _ _ => (pv 11)))
  (pss_cons (ps_if (pt_cmpR (op_neD hr.units) (pv 10) (pe_lst pa_nil) (nomark _)) (pss_one (ps_ret (C8.pe_c C_law_pages hr (by decide) (by rfl) (pa_cons (C8.pe_c C_law_refused hr (by decide) (by rfl) (pa_cons (pv 1) (pa_cons (pv 8) (pa_cons (pv 9) pa_nil)))) (pa_cons (pe_lst (pa_cons pe_int (pa_cons (pe_ix ix_list (pv 10) pe_int (fun _ _ => rfl)) pa_nil))) pa_nil))))) pss_nil)
  (pss_cons (ps_set (i := 12) sc_law_update.nd rfl (by first | exact Or.inl rfl | exact Or.inr rfl) (C8.pe_c C_law_uses hr (by decide) (by rfl) (pa_cons (pv 3) (pa_cons (pv 4) (pa_cons (pv 8) (pa_cons (pv 9) pa_nil))))))
  (pss_cons (ps_setLc (i := 13) (own := [("one", 11)]) (g := (gName 11)) (tt := (tTest (tOp oGt (tOp (rIxL K) (tVar 12) (tVar 11)) (tOp (rIxL K) (tVar 6) (tVar 11))))) rfl sc_law_update.nd rfl rfl (sw_true rfl rfl rfl (by decide +kernel)) (pi_range1 (by rfl) T.b_range (pa_cons (pv 3) pa_nil)) (blkOk_by (own := [("one", 11)]) (N := ["box", "standing", "web", "pages", "rows", "lines", "blank", "update", "page", "copied", "outside", "one", "uses", "short", "due", "made", "told"]) (sc := defScope s_law_update) (by decide +kernel)) (fun _ _ _ _ _ => (pg_name (i := 11) sc_law_update.nd rfl (by first | exact Or.inl rfl | exact Or.inr rfl))) (fun _ _ _ _ _ => (pts_one (pt_cmpR op_gt (pe_ix ix_list (pv 12) (pv 11) (fun _ _ => rfl)) (pe_ix ix_list (pv 6) (pv 11) (fun _ _ => rfl)) (nomark _)))) (fun _ _ _ _ _ => (pv 11)))
  (pss_cons (ps_if (pt_cmpR (op_neD hr.units) (pv 13) (pe_lst pa_nil) (nomark _)) (pss_one (ps_ret (C8.pe_c C_law_pages hr (by decide) (by rfl) (pa_cons (C8.pe_c C_law_refused hr (by decide) (by rfl) (pa_cons (pv 1) (pa_cons (pv 8) (pa_cons (pv 9) pa_nil)))) (pa_cons (pe_lst (pa_cons pe_int (pa_cons (pe_ix ix_list (pv 13) pe_int (fun _ _ => rfl)) pa_nil))) pa_nil))))) pss_nil)
  (pss_cons (ps_setLc (i := 14) (own := [("one", 11)]) (g := (gName 11)) (tt := tYes) rfl sc_law_update.nd rfl rfl (sw_true rfl rfl rfl (by decide +kernel)) (pi_range1 (by rfl) T.b_range (pa_cons (pv 3) pa_nil)) (blkOk_by (own := [("one", 11)]) (N := ["box", "standing", "web", "pages", "rows", "lines", "blank", "update", "page", "copied", "outside", "one", "uses", "short", "due", "made", "told"]) (sc := defScope s_law_update) (by decide +kernel)) (fun _ _ _ _ _ => (pg_name (i := 11) sc_law_update.nd rfl (by first | exact Or.inl rfl | exact Or.inr rfl))) (fun _ _ _ _ _ => pts_nil) (fun _ _ _ _ _ => (pe_op op_sub (pe_ix ix_list (pv 6) (pv 11) (fun _ _ => rfl)) (pe_ix ix_list (pv 12) (pv 11) (fun _ _ => rfl)))))
  (pss_cons (ps_for PassesOwn.never rfl (pi_list (pv 9)) (pg_name (i := 11) sc_law_update.nd rfl (by first | exact Or.inl rfl | exact Or.inr rfl))
  (pss_one (ps_asg (pv 5) (pg_sub (pv 14) (pv 11) set_list))))
  (pss_cons (ps_set (i := 15) sc_law_update.nd rfl (by first | exact Or.inl rfl | exact Or.inr rfl) (GX.pe_cX C_law_called hr (by decide) (by rfl) passL (pa_cons (pv 1) (pa_cons (pv 8) (pa_cons (pv 9) pa_nil)))))
  (pss_cons (ps_if (PW.pt (pw_or (pt_not (pt_val (C8.pe_c C_law_fits hr (by decide) (by rfl) (pa_cons (pv 15) (pa_cons (pv 2) (pa_cons (pv 5) (pa_cons (pv 14) pa_nil))))) (by intro _; rfl))) (pw_or1 (pt_cmpR (op_neD hr.units) (C8.pe_c C_law_refused hr (by decide) (by rfl) (pa_cons (pv 1) (pa_cons (pv 8) (pa_cons (pv 9) pa_nil)))) (pe_lst pa_nil) (nomark _))))) (pss_one (ps_ret pe_bl)) pss_nil)
  (pss_cons (ps_set (i := 16) sc_law_update.nd rfl (by first | exact Or.inl rfl | exact Or.inr rfl) (C8.pe_mt0 C_Standing_blanks hr (by decide) (pv 15)))
  (pss_cons (ps_expr (pe_bm0 PySem.F.plainAttrs_list PySem.F.slot_list_reverse PySem.F.type_list_reverse mt_reverse (pv 16)))
  (pss_cons (ps_expr (pe_bm PySem.F.plainAttrs_list PySem.F.slot_list_append PySem.F.type_list_append mt_append (pv 16) (pa_cons (pv 5) pa_nil)))
  (pss_cons (ps_expr (C8.pe_c C_law_refused hr (by decide) (by rfl) (pa_cons (pv 15) (pa_cons (pv 8) (pa_cons (pe_lst (pa_cons (pv 8) pa_nil)) pa_nil)))))
  (pss_one (ps_ret (C8.pe_c C_law_pages hr (by decide) (by rfl) (pa_cons (C8.pe_mt0 C_Standing_blanks hr (by decide) (pv 15)) (pa_cons (pv 14) pa_nil))))))))))))))))))))), rd_law_update h⟩)
theorem bi_law_update {f : Addr} {fd : FuncData} (F : Fun K "_law_update" "_law_update" s_law_update f fd) : Binds K fd ["box", "standing", "web", "pages", "rows", "lines", "blank"] [] := F.binds fun _ _ _ _ _ _ us hl => match us, hl with | [_, _, _, _, _, _, _], _ => rfl
theorem sc_law_equal : FnScope ["first", "second", "due", "there", "back"] ["first", "second", "due"] (defScope s_law_equal) := ⟨rfl, rfl, rfl, by decide +kernel, rfl, by decide +kernel, by decide +kernel⟩
theorem ln_law_equal {vs : List V} {H : Hp} {Q : VK} {E : XK} (h : sp_law_equal K A vs H Q E) : vs.length = 3 := by
  first | (obtain ⟨_, rfl, _⟩ := h; rfl) | (obtain ⟨_, _, rfl, _⟩ := h; rfl) | (obtain ⟨_, _, _, rfl, _⟩ := h; rfl) | (obtain ⟨_, _, _, _, rfl, _⟩ := h; rfl) | (obtain ⟨_, _, _, _, _, rfl, _⟩ := h; rfl) | (obtain ⟨_, _, _, _, _, _, rfl, _⟩ := h; rfl) | (obtain ⟨_, _, _, _, _, _, _, rfl, _⟩ := h; rfl) | (obtain ⟨_, _, _, _, _, _, _, _, rfl, _⟩ := h; rfl) | (obtain ⟨_, _, _, _, _, _, _, _, _, rfl, _⟩ := h; rfl) | (obtain ⟨_, _, _, _, _, _, _, _, _, _, rfl, _⟩ := h; rfl) | (obtain ⟨_, _, _, _, _, _, _, _, _, _, _, rfl, _⟩ := h; rfl) | (obtain ⟨_, _, _, _, _, _, _, _, _, _, _, _, rfl, _⟩ := h; rfl) | (obtain ⟨_, _, _, _, _, _, _, _, _, _, _, _, _, rfl, _⟩ := h; rfl) | (obtain ⟨_, _, _, _, _, _, _, _, _, _, _, _, _, _, rfl, _⟩ := h; rfl) | (obtain ⟨_, _, _, _, _, _, _, _, _, _, _, _, _, _, _, rfl, _⟩ := h; rfl) | (obtain ⟨_, _, _, _, _, _, _, _, _, _, _, _, _, _, _, _, rfl, _⟩ := h; rfl) | (obtain ⟨_, _, _, _, _, _, _, _, _, _, _, _, _, _, _, _, _, rfl, _⟩ := h; rfl) | (obtain ⟨_, _, _, _, _, _, _, _, _, _, _, _, _, _, _, _, _, _, rfl, _⟩ := h; rfl) | (obtain ⟨_, _, _, _, _, _, _, _, _, _, _, _, _, _, _, _, _, _, _, rfl, _⟩ := h; rfl)
theorem fn_law_equal {f : Addr} {fd : FuncData} (F : Fun K "_law_equal" "_law_equal" s_law_equal f fd) (T : Txt mg A) (C : CT K A) (C_Standing_eq : GX.EqO P w K mg base 2 A.Standing (sp_Standing_eq K A)) (C_law_truth : C8.Cal P w K mg base 1 "_law_truth" (sp_law_truth K A) []) : FnOk P w K mg base CX0 3 f fd ["first", "second", "due"] (sp_law_equal K A) :=
  F.ok sc_law_equal (fun vs H Q E h => ln_law_equal h) (fun cdv Ar outer s H vs Q E hr h => ⟨t_law_equal K A, (pss_cons (ps_set (i := 3) sc_law_equal.nd rfl (by first | exact Or.inl rfl | exact Or.inr rfl) (pe_cmpR (GX.op_eqB C_Standing_eq hr (by decide)) (pv 0) (pv 1) (nomark _)))
  (pss_cons (ps_set (i := 4) sc_law_equal.nd rfl (by first | exact Or.inl rfl | exact Or.inr rfl) (pe_cmpR (GX.op_eqB C_Standing_eq hr (by decide)) (pv 1) (pv 0) (nomark _)))
  (pss_one (ps_ret (pe_and (C8.pe_c C_law_truth hr (by decide) (by rfl) (pa_cons (pv 3) (pa_cons (pv 2) pa_nil))) (pe_one (C8.pe_c C_law_truth hr (by decide) (by rfl) (pa_cons (pv 4) (pa_cons (pv 2) pa_nil))))))))), rd_law_equal h⟩)
theorem bi_law_equal {f : Addr} {fd : FuncData} (F : Fun K "_law_equal" "_law_equal" s_law_equal f fd) : Binds K fd ["first", "second", "due"] [] := F.binds fun _ _ _ _ _ _ us hl => match us, hl with | [_, _, _], _ => rfl
theorem sc_law_equality : FnScope ["box", "standing", "pages", "rows", "lines", "blank", "web", "at", "changed", "turned", "less"] ["box", "standing", "pages", "rows", "lines", "blank"] (defScope s_law_equality) := ⟨rfl, rfl, rfl, by decide +kernel, rfl, by decide +kernel, by decide +kernel⟩
theorem ln_law_equality {vs : List V} {H : Hp} {Q : VK} {E : XK} (h : sp_law_equality K A vs H Q E) : vs.length = 6 := by
  first | (obtain ⟨_, rfl, _⟩ := h; rfl) | (obtain ⟨_, _, rfl, _⟩ := h; rfl) | (obtain ⟨_, _, _, rfl, _⟩ := h; rfl) | (obtain ⟨_, _, _, _, rfl, _⟩ := h; rfl) | (obtain ⟨_, _, _, _, _, rfl, _⟩ := h; rfl) | (obtain ⟨_, _, _, _, _, _, rfl, _⟩ := h; rfl) | (obtain ⟨_, _, _, _, _, _, _, rfl, _⟩ := h; rfl) | (obtain ⟨_, _, _, _, _, _, _, _, rfl, _⟩ := h; rfl) | (obtain ⟨_, _, _, _, _, _, _, _, _, rfl, _⟩ := h; rfl) | (obtain ⟨_, _, _, _, _, _, _, _, _, _, rfl, _⟩ := h; rfl) | (obtain ⟨_, _, _, _, _, _, _, _, _, _, _, rfl, _⟩ := h; rfl) | (obtain ⟨_, _, _, _, _, _, _, _, _, _, _, _, rfl, _⟩ := h; rfl) | (obtain ⟨_, _, _, _, _, _, _, _, _, _, _, _, _, rfl, _⟩ := h; rfl) | (obtain ⟨_, _, _, _, _, _, _, _, _, _, _, _, _, _, rfl, _⟩ := h; rfl) | (obtain ⟨_, _, _, _, _, _, _, _, _, _, _, _, _, _, _, rfl, _⟩ := h; rfl) | (obtain ⟨_, _, _, _, _, _, _, _, _, _, _, _, _, _, _, _, rfl, _⟩ := h; rfl) | (obtain ⟨_, _, _, _, _, _, _, _, _, _, _, _, _, _, _, _, _, rfl, _⟩ := h; rfl) | (obtain ⟨_, _, _, _, _, _, _, _, _, _, _, _, _, _, _, _, _, _, rfl, _⟩ := h; rfl) | (obtain ⟨_, _, _, _, _, _, _, _, _, _, _, _, _, _, _, _, _, _, _, rfl, _⟩ := h; rfl)
theorem fn_law_equality {f : Addr} {fd : FuncData} (F : Fun K "_law_equality" "_law_equality" s_law_equality f fd) (T : Txt mg A) (C : CT K A) (C_Standing_eq : GX.EqO P w K mg base 2 A.Standing (sp_Standing_eq K A)) (C_Standing_init : GX.MakX P w K mg base 3 "Standing" A.Standing (sp_Standing_init K A)) (C_Web_init : GX.MakX P w K mg base 4 "Web" A.Web (sp_Web_init K A)) (C_law_draw : C8.Cal P w K mg base 1 "_law_draw" (sp_law_draw K A) []) (C_law_equal : C8.Cal P w K mg base 3 "_law_equal" (sp_law_equal K A) []) : FnOk P w K mg base CX0 6 f fd ["box", "standing", "pages", "rows", "lines", "blank"] (sp_law_equality K A) :=
  F.ok sc_law_equality (fun vs H Q E h => ln_law_equality h) (fun cdv Ar outer s H vs Q E hr h => ⟨t_law_equality K A, (pss_cons (ps_set (i := 6) sc_law_equality.nd rfl (by first | exact Or.inl rfl | exact Or.inr rfl) (GX.pe_mkX C_Web_init hr (by decide) (by rfl) passL (pa_cons (pv 2) (pa_cons (G.pe_listRev rfl (by rfl) T.b_list (by rfl) T.b_reversed (pe_callTy call_list_of (by rfl) T.b_list (by decide +kernel) (pa_cons (pv 3) pa_nil))) pa_nil))))
  (pss_cons (ps_if (pt_not (pt_val (C8.pe_c C_law_equal hr (by decide) (by rfl) (pa_cons (pv 1) (pa_cons (GX.pe_mkX C_Standing_init hr (by decide) (by rfl) passL (pa_cons (pv 6) (pa_cons (pv 4) (pa_cons (pe_callTy call_list_of (by rfl) T.b_list (by decide +kernel) (pa_cons (pv 5) pa_nil)) pa_nil)))) (pa_cons pe_bl pa_nil)))) (by intro _; rfl))) (pss_one (ps_ret pe_bl)) pss_nil)
  (pss_cons (ps_if (pt_cmpR GX.op_isB (pe_cmpR (GX.op_eqB C_Standing_eq hr (by decide)) (pv 1) (pe_callTy call_list_of (by rfl) T.b_list (by decide +kernel) (pa_cons (pv 5) pa_nil)) (nomark _)) pe_bl (nomark _)) (pss_one (ps_ret pe_bl)) pss_nil)
  (pss_cons (ps_if (PW.pt (pw_and (pt_cmpR op_lt (pv 4) pe_int (nomark _)) (pw_and1 (pt_not (pt_val (C8.pe_c C_law_equal hr (by decide) (by rfl) (pa_cons (pv 1) (pa_cons (GX.pe_mkX C_Standing_init hr (by decide) (by rfl) passL (pa_cons (pv 6) (pa_cons (pe_op op_add (pv 4) pe_int) (pa_cons (pe_callTy call_list_of (by rfl) T.b_list (by decide +kernel) (pa_cons (pv 5) pa_nil)) pa_nil)))) (pa_cons pe_bl pa_nil)))) (by intro _; rfl)))))) (pss_one (ps_ret pe_bl)) pss_nil)
  (pss_cons (ps_set (i := 7) sc_law_equality.nd rfl (by first | exact Or.inl rfl | exact Or.inr rfl) (C8.pe_c C_law_draw hr (by decide) (by rfl) (pa_cons (pv 0) (pa_cons (pv 2) pa_nil))))
  (pss_cons (ps_set (i := 8) sc_law_equality.nd rfl (by first | exact Or.inl rfl | exact Or.inr rfl) (pe_callTy call_list_of (by rfl) T.b_list (by decide +kernel) (pa_cons (pv 5) pa_nil)))
  (pss_cons (ps_if (pt_cmpR op_gt (pv 4) pe_int (nomark _)) (pss_cons (ps_asg (pe_op op_mod (pe_callTy call_int1 (by rfl) T.b_int (by decide +kernel) (pa_cons (pe_op op_add (pe_op op_add (pe_ix ix_list (pv 5) (pv 7) (fun _ _ => rfl)) pe_int) (C8.pe_c C_law_draw hr (by decide) (by rfl) (pa_cons (pv 0) (pa_cons (pv 4) pa_nil)))) pa_nil)) (pe_op op_add (pv 4) pe_int)) (pg_sub (pv 8) (pv 7) set_list))
  (pss_one (ps_if (pt_not (pt_val (C8.pe_c C_law_equal hr (by decide) (by rfl) (pa_cons (pv 1) (pa_cons (GX.pe_mkX C_Standing_init hr (by decide) (by rfl) passL (pa_cons (pv 6) (pa_cons (pv 4) (pa_cons (pv 8) pa_nil)))) (pa_cons pe_bl pa_nil)))) (by intro _; rfl))) (pss_one (ps_ret pe_bl)) pss_nil))) pss_nil)
  (pss_cons (ps_if (PW.pt (pw_and (pt_cmpR op_lt (pv 7) (pe_callB call_len_seq (by rfl) T.b_len (by decide +kernel) (pa_cons (pv 3) pa_nil)) (nomark _)) (pw_and1 (pt_cmpR (op_notInD (hu65 hr)) (pe_tup (pa_cons (pe_ix ix_tup (pe_ix ix_list (pv 3) (pv 7) (fun _ _ => rfl)) pe_int (fun _ _ => rfl)) (pa_cons (pe_ix ix_tup (pe_ix ix_list (pv 3) (pv 7) (fun _ _ => rfl)) pe_int (fun _ _ => rfl)) pa_nil))) (pv 3) (by rfl))))) (pss_cons (ps_set (i := 9) sc_law_equality.nd rfl (by first | exact Or.inl rfl | exact Or.inr rfl) (pe_op op_cat (pe_op op_cat (pe_slice sl_list (pv 3) po_none (po_some (pv 7))) (pe_lst (pa_cons (pe_tup (pa_cons (pe_ix ix_tup (pe_ix ix_list (pv 3) (pv 7) (fun _ _ => rfl)) pe_int (fun _ _ => rfl)) (pa_cons (pe_ix ix_tup (pe_ix ix_list (pv 3) (pv 7) (fun _ _ => rfl)) pe_int (fun _ _ => rfl)) pa_nil))) pa_nil))) (pe_slice sl_list (pv 3) (po_some (pe_op op_add (pv 7) pe_int)) po_none)))
  (pss_one (ps_if (pt_not (pt_val (C8.pe_c C_law_equal hr (by decide) (by rfl) (pa_cons (pv 1) (pa_cons (GX.pe_mkX C_Standing_init hr (by decide) (by rfl) passL (pa_cons (GX.pe_mkX C_Web_init hr (by decide) (by rfl) passL (pa_cons (pv 2) (pa_cons (pv 9) pa_nil))) (pa_cons (pv 4) (pa_cons (pe_callTy call_list_of (by rfl) T.b_list (by decide +kernel) (pa_cons (pv 5) pa_nil)) pa_nil)))) (pa_cons pe_bl pa_nil)))) (by intro _; rfl))) (pss_one (ps_ret pe_bl)) pss_nil))) pss_nil)
  (pss_cons (ps_set (i := 10) sc_law_equality.nd rfl (by first | exact Or.inl rfl | exact Or.inr rfl) (pe_op op_cat (pe_slice sl_list (pv 3) po_none (po_some (pv 7))) (pe_slice sl_list (pv 3) (po_some (pe_op op_add (pv 7) pe_int)) po_none)))
  (pss_one (ps_ret (C8.pe_c C_law_equal hr (by decide) (by rfl) (pa_cons (pv 1) (pa_cons (GX.pe_mkX C_Standing_init hr (by decide) (by rfl) passL (pa_cons (GX.pe_mkX C_Web_init hr (by decide) (by rfl) passL (pa_cons (pv 2) (pa_cons (pv 10) pa_nil))) (pa_cons (pv 4) (pa_cons (pe_callTy call_list_of (by rfl) T.b_list (by decide +kernel) (pa_cons (pv 5) pa_nil)) pa_nil)))) (pa_cons (pe_cmpR (op_eqD hr.units) (pv 10) (pv 3) (nomark _)) pa_nil))))))))))))))), rd_law_equality h⟩)
theorem bi_law_equality {f : Addr} {fd : FuncData} (F : Fun K "_law_equality" "_law_equality" s_law_equality f fd) : Binds K fd ["box", "standing", "pages", "rows", "lines", "blank"] [] := F.binds fun _ _ _ _ _ _ us hl => match us, hl with | [_, _, _, _, _, _], _ => rfl
theorem sc_law_spoilt : FnScope ["box", "pages", "lines", "blank", "wrong", "turn", "at", "far", "kind"] ["box", "pages", "lines", "blank"] (defScope s_law_spoilt) := ⟨rfl, rfl, rfl, by decide +kernel, rfl, by decide +kernel, by decide +kernel⟩
theorem ln_law_spoilt {vs : List V} {H : Hp} {Q : VK} {E : XK} (h : sp_law_spoilt K A vs H Q E) : vs.length = 4 := by
  first | (obtain ⟨_, rfl, _⟩ := h; rfl) | (obtain ⟨_, _, rfl, _⟩ := h; rfl) | (obtain ⟨_, _, _, rfl, _⟩ := h; rfl) | (obtain ⟨_, _, _, _, rfl, _⟩ := h; rfl) | (obtain ⟨_, _, _, _, _, rfl, _⟩ := h; rfl) | (obtain ⟨_, _, _, _, _, _, rfl, _⟩ := h; rfl) | (obtain ⟨_, _, _, _, _, _, _, rfl, _⟩ := h; rfl) | (obtain ⟨_, _, _, _, _, _, _, _, rfl, _⟩ := h; rfl) | (obtain ⟨_, _, _, _, _, _, _, _, _, rfl, _⟩ := h; rfl) | (obtain ⟨_, _, _, _, _, _, _, _, _, _, rfl, _⟩ := h; rfl) | (obtain ⟨_, _, _, _, _, _, _, _, _, _, _, rfl, _⟩ := h; rfl) | (obtain ⟨_, _, _, _, _, _, _, _, _, _, _, _, rfl, _⟩ := h; rfl) | (obtain ⟨_, _, _, _, _, _, _, _, _, _, _, _, _, rfl, _⟩ := h; rfl) | (obtain ⟨_, _, _, _, _, _, _, _, _, _, _, _, _, _, rfl, _⟩ := h; rfl) | (obtain ⟨_, _, _, _, _, _, _, _, _, _, _, _, _, _, _, rfl, _⟩ := h; rfl) | (obtain ⟨_, _, _, _, _, _, _, _, _, _, _, _, _, _, _, _, rfl, _⟩ := h; rfl) | (obtain ⟨_, _, _, _, _, _, _, _, _, _, _, _, _, _, _, _, _, rfl, _⟩ := h; rfl) | (obtain ⟨_, _, _, _, _, _, _, _, _, _, _, _, _, _, _, _, _, _, rfl, _⟩ := h; rfl) | (obtain ⟨_, _, _, _, _, _, _, _, _, _, _, _, _, _, _, _, _, _, _, rfl, _⟩ := h; rfl)
theorem fn_law_spoilt {f : Addr} {fd : FuncData} (F : Fun K "_law_spoilt" "_law_spoilt" s_law_spoilt f fd) (T : Txt mg A) (C : CT K A) (C_law_draw : C8.Cal P w K mg base 1 "_law_draw" (sp_law_draw K A) []) : FnOk P w K mg base CX0 2 f fd ["box", "pages", "lines", "blank"] (sp_law_spoilt K A) :=
  F.ok sc_law_spoilt (fun vs H Q E h => ln_law_spoilt h) (fun cdv Ar outer s H vs Q E hr h => ⟨t_law_spoilt K A, (pss_cons (ps_set (i := 4) sc_law_spoilt.nd rfl (by first | exact Or.inl rfl | exact Or.inr rfl) (pe_callTy call_list_of (by rfl) T.b_list (by decide +kernel) (pa_cons (pv 3) pa_nil)))
  (pss_cons (ps_for PassesOwn.never rfl (pi_range1 (by rfl) T.b_range (pa_cons (pe_op op_add pe_int (C8.pe_c C_law_draw hr (by decide) (by rfl) (pa_cons (pv 0) (pa_cons pe_int pa_nil)))) pa_nil)) (pg_name (i := 5) sc_law_spoilt.nd rfl (by first | exact Or.inl rfl | exact Or.inr rfl))
  (pss_cons (ps_set (i := 6) sc_law_spoilt.nd rfl (by first | exact Or.inl rfl | exact Or.inr rfl) (C8.pe_c C_law_draw hr (by decide) (by rfl) (pa_cons (pv 0) (pa_cons (pv 1) pa_nil))))
  (pss_cons (ps_set (i := 7) sc_law_spoilt.nd rfl (by first | exact Or.inl rfl | exact Or.inr rfl) (C8.pe_c C_law_draw hr (by decide) (by rfl) (pa_cons (pv 0) (pa_cons pe_int pa_nil))))
  (pss_one (ps_asg (pe_ix ix_list (pe_lst (pa_cons (pe_un un_neg pe_int) (pa_cons (pe_op op_add (pv 2) pe_int) (pa_cons (pe_op op_sub (pe_un un_neg pe_int) (pv 7)) (pa_cons (pe_op op_add (pe_op op_add (pv 2) pe_int) (pv 7)) pa_nil))))) (C8.pe_c C_law_draw hr (by decide) (by rfl) (pa_cons (pv 0) (pa_cons pe_int pa_nil))) (fun _ _ => rfl)) (pg_sub (pv 4) (pv 6) set_list))))))
  (pss_cons (ps_set (i := 8) sc_law_spoilt.nd rfl (by first | exact Or.inl rfl | exact Or.inr rfl) (C8.pe_c C_law_draw hr (by decide) (by rfl) (pa_cons (pv 0) (pa_cons pe_int pa_nil))))
  (pss_cons (ps_if (pt_cmpR op_eq (pv 8) pe_int (nomark _)) (pss_one (ps_ret (pe_slice sl_list (pv 4) po_none (po_some (pe_op op_sub (pe_callB call_len_seq (by rfl) T.b_len (by decide +kernel) (pa_cons (pv 4) pa_nil)) pe_int))))) pss_nil)
  (pss_cons (ps_if (pt_cmpR op_eq (pv 8) pe_int (nomark _)) (pss_one (ps_ret (pe_op op_cat (pv 4) (pe_lst (pa_cons (C8.pe_c C_law_draw hr (by decide) (by rfl) (pa_cons (pv 0) (pa_cons (pe_op op_add (pv 2) pe_int) pa_nil))) pa_nil))))) pss_nil)
  (pss_cons (ps_if (pt_cmpR op_eq (pv 8) pe_int (nomark _)) (pss_one (ps_ret (pe_op op_cat (pe_callTy call_list_of (by rfl) T.b_list (by decide +kernel) (pa_cons (pv 3) pa_nil)) (pe_lst (pa_cons (pv 2) pa_nil))))) pss_nil)
  (pss_one (ps_ret (pv 4))))))))), rd_law_spoilt h⟩)
theorem bi_law_spoilt {f : Addr} {fd : FuncData} (F : Fun K "_law_spoilt" "_law_spoilt" s_law_spoilt f fd) : Binds K fd ["box", "pages", "lines", "blank"] [] := F.binds fun _ _ _ _ _ _ us hl => match us, hl with | [_, _, _, _], _ => rfl
theorem sc_law_invalid : FnScope ["web", "lines", "blank", "e"] ["web", "lines", "blank"] (defScope s_law_invalid) := ⟨rfl, rfl, rfl, by decide +kernel, rfl, by decide +kernel, by decide +kernel⟩
theorem ln_law_invalid {vs : List V} {H : Hp} {Q : VK} {E : XK} (h : sp_law_invalid K A vs H Q E) : vs.length = 3 := by
  first | (obtain ⟨_, rfl, _⟩ := h; rfl) | (obtain ⟨_, _, rfl, _⟩ := h; rfl) | (obtain ⟨_, _, _, rfl, _⟩ := h; rfl) | (obtain ⟨_, _, _, _, rfl, _⟩ := h; rfl) | (obtain ⟨_, _, _, _, _, rfl, _⟩ := h; rfl) | (obtain ⟨_, _, _, _, _, _, rfl, _⟩ := h; rfl) | (obtain ⟨_, _, _, _, _, _, _, rfl, _⟩ := h; rfl) | (obtain ⟨_, _, _, _, _, _, _, _, rfl, _⟩ := h; rfl) | (obtain ⟨_, _, _, _, _, _, _, _, _, rfl, _⟩ := h; rfl) | (obtain ⟨_, _, _, _, _, _, _, _, _, _, rfl, _⟩ := h; rfl) | (obtain ⟨_, _, _, _, _, _, _, _, _, _, _, rfl, _⟩ := h; rfl) | (obtain ⟨_, _, _, _, _, _, _, _, _, _, _, _, rfl, _⟩ := h; rfl) | (obtain ⟨_, _, _, _, _, _, _, _, _, _, _, _, _, rfl, _⟩ := h; rfl) | (obtain ⟨_, _, _, _, _, _, _, _, _, _, _, _, _, _, rfl, _⟩ := h; rfl) | (obtain ⟨_, _, _, _, _, _, _, _, _, _, _, _, _, _, _, rfl, _⟩ := h; rfl) | (obtain ⟨_, _, _, _, _, _, _, _, _, _, _, _, _, _, _, _, rfl, _⟩ := h; rfl) | (obtain ⟨_, _, _, _, _, _, _, _, _, _, _, _, _, _, _, _, _, rfl, _⟩ := h; rfl) | (obtain ⟨_, _, _, _, _, _, _, _, _, _, _, _, _, _, _, _, _, _, rfl, _⟩ := h; rfl) | (obtain ⟨_, _, _, _, _, _, _, _, _, _, _, _, _, _, _, _, _, _, _, rfl, _⟩ := h; rfl)
theorem fn_law_invalid {f : Addr} {fd : FuncData} (F : Fun K "_law_invalid" "_law_invalid" s_law_invalid f fd) (T : Txt mg A) (C : CT K A) (C_Standing_init : GX.MakX P w K mg base 3 "Standing" A.Standing (sp_Standing_init K A)) : FnOk P w K mg base CX0 5 f fd ["web", "lines", "blank"] (sp_law_invalid K A) :=
  F.ok sc_law_invalid (fun vs H Q E h => ln_law_invalid h) (fun cdv Ar outer s H vs Q E hr h => ⟨t_law_invalid K A, (pss_cons (ps_try_as (i := 3) (tb := fun W => (tDrop (GX.tMakeS A.Standing (sp_Standing_init K A) (WE W) (tCons (tVar 0) (tCons (tVar 1) (tCons (tVar 2) tNil)))))) (ts := fun a cls d => (tIfS (tAnd (tB (tCB (GX.rIsX K a cls d) (tCons (tVar 3) (tCons (tC (.ref A.OnecopyError)) tNil)))) (tB (tCB (GX.rIsX K a cls d) (tCons (tVar 3) (tCons (tC (.ty "ValueError")) tNil))))) (tIfS (tNot (tB (tCB (GX.rIsXT K a cls d) (tCons (tVar 3) (tCons (tTup (tCons (tC (.ref A.NoPage)) (tCons (tC (.ref A.NoLine)) (tCons (tC (.ref A.LotError)) tNil)))) tNil))))) (tRet (tLst (tCons (tXf a cls d A.InvalidStanding "page" (tVar 3)) tNil))) tNext) tNext)) (Wout := fun _ _ _ _ => False) rfl rfl sc_law_invalid.nd rfl rfl ⟨rfl, by decide, Or.inl T.g_InvalidStanding⟩ takes0
  (fun W pn xe tk _ => (pss_one (ps_expr (GX.pe_mkXT C_Standing_init hr (by decide) (by rfl) tk (pa_cons (pv 0) (pa_cons (pv 1) (pa_cons (pv 2) pa_nil)))))))
  (fun a oe cls d pn hz hf => (pss_one (ps_if (PW.pt (pw_and (pt_val (pe_callB (GX.call_isX hz hf) (by rfl) T.b_isinstance (by decide +kernel) (pa_cons (pv 3) (pa_cons (pe_glob (v := .ref A.OnecopyError) (by rfl) T.g_OnecopyError rfl) pa_nil))) (by intro _; rfl)) (pw_and1 (pt_val (pe_callB (GX.call_isX hz hf) (by rfl) T.b_isinstance (by decide +kernel) (pa_cons (pv 3) (pa_cons (pe_bltn (v := .ty "ValueError") (by rfl) T.b_ValueError (by decide +kernel) rfl) pa_nil))) (by intro _; rfl))))) (pss_one (ps_if (pt_not (pt_val (pe_callB (GX.call_isXT hz hf) (by rfl) T.b_isinstance (by decide +kernel) (pa_cons (pv 3) (pa_cons (pe_tup (pa_cons (pe_glob (v := .ref A.NoPage) (by rfl) T.g_NoPage rfl) (pa_cons (pe_glob (v := .ref A.NoLine) (by rfl) T.g_NoLine rfl) (pa_cons (pe_glob (v := .ref A.LotError) (by rfl) T.g_LotError rfl) pa_nil)))) pa_nil))) (by intro _; rfl))) (pss_one (ps_ret (pe_lst (pa_cons (pe_xf C.xf_InvalidStanding C.f_InvalidStanding_page hz hf (pv 3)) pa_nil)))) pss_nil)) pss_nil))))
  (pss_one (ps_ret (pe_lst pa_nil)))), rd_law_invalid C.r h⟩)
theorem bi_law_invalid {f : Addr} {fd : FuncData} (F : Fun K "_law_invalid" "_law_invalid" s_law_invalid f fd) : Binds K fd ["web", "lines", "blank"] [] := F.binds fun _ _ _ _ _ _ us hl => match us, hl with | [_, _, _], _ => rfl
theorem sc_law_wrong_list : FnScope ["box", "web", "pages", "lines", "blank", "wrong", "passed", "told", "first", "page"] ["box", "web", "pages", "lines", "blank"] (defScope s_law_wrong_list) := ⟨rfl, rfl, rfl, by decide +kernel, rfl, by decide +kernel, by decide +kernel⟩
theorem ln_law_wrong_list {vs : List V} {H : Hp} {Q : VK} {E : XK} (h : sp_law_wrong_list K A vs H Q E) : vs.length = 5 := by
  first | (obtain ⟨_, rfl, _⟩ := h; rfl) | (obtain ⟨_, _, rfl, _⟩ := h; rfl) | (obtain ⟨_, _, _, rfl, _⟩ := h; rfl) | (obtain ⟨_, _, _, _, rfl, _⟩ := h; rfl) | (obtain ⟨_, _, _, _, _, rfl, _⟩ := h; rfl) | (obtain ⟨_, _, _, _, _, _, rfl, _⟩ := h; rfl) | (obtain ⟨_, _, _, _, _, _, _, rfl, _⟩ := h; rfl) | (obtain ⟨_, _, _, _, _, _, _, _, rfl, _⟩ := h; rfl) | (obtain ⟨_, _, _, _, _, _, _, _, _, rfl, _⟩ := h; rfl) | (obtain ⟨_, _, _, _, _, _, _, _, _, _, rfl, _⟩ := h; rfl) | (obtain ⟨_, _, _, _, _, _, _, _, _, _, _, rfl, _⟩ := h; rfl) | (obtain ⟨_, _, _, _, _, _, _, _, _, _, _, _, rfl, _⟩ := h; rfl) | (obtain ⟨_, _, _, _, _, _, _, _, _, _, _, _, _, rfl, _⟩ := h; rfl) | (obtain ⟨_, _, _, _, _, _, _, _, _, _, _, _, _, _, rfl, _⟩ := h; rfl) | (obtain ⟨_, _, _, _, _, _, _, _, _, _, _, _, _, _, _, rfl, _⟩ := h; rfl) | (obtain ⟨_, _, _, _, _, _, _, _, _, _, _, _, _, _, _, _, rfl, _⟩ := h; rfl) | (obtain ⟨_, _, _, _, _, _, _, _, _, _, _, _, _, _, _, _, _, rfl, _⟩ := h; rfl) | (obtain ⟨_, _, _, _, _, _, _, _, _, _, _, _, _, _, _, _, _, _, rfl, _⟩ := h; rfl) | (obtain ⟨_, _, _, _, _, _, _, _, _, _, _, _, _, _, _, _, _, _, _, rfl, _⟩ := h; rfl)
theorem fn_law_wrong_list {f : Addr} {fd : FuncData} (F : Fun K "_law_wrong_list" "_law_wrong_list" s_law_wrong_list f fd) (T : Txt mg A) (C : CT K A) (C_law_invalid : C8.Cal P w K mg base 5 "_law_invalid" (sp_law_invalid K A) []) (C_law_pages : C8.Cal P w K mg base 2 "_law_pages" (sp_law_pages K A) []) (C_law_spoilt : C8.Cal P w K mg base 2 "_law_spoilt" (sp_law_spoilt K A) []) (C_law_whole : C8.Cal P w K mg base 1 "_law_whole" (sp_law_whole K A) []) : FnOk P w K mg base CX0 6 f fd ["box", "web", "pages", "lines", "blank"] (sp_law_wrong_list K A) :=
  F.ok sc_law_wrong_list (fun vs H Q E h => ln_law_wrong_list h) (fun cdv Ar outer s H vs Q E hr h => ⟨t_law_wrong_list K A, (pss_cons (ps_set (i := 5) sc_law_wrong_list.nd rfl (by first | exact Or.inl rfl | exact Or.inr rfl) (C8.pe_c C_law_spoilt hr (by decide) (by rfl) (pa_cons (pv 0) (pa_cons (pv 2) (pa_cons (pv 3) (pa_cons (pv 4) pa_nil))))))
  (pss_cons (ps_set (i := 6) sc_law_wrong_list.nd rfl (by first | exact Or.inl rfl | exact Or.inr rfl) (pe_callTy call_list_of (by rfl) T.b_list (by decide +kernel) (pa_cons (pv 5) pa_nil)))
  (pss_cons (ps_set (i := 7) sc_law_wrong_list.nd rfl (by first | exact Or.inl rfl | exact Or.inr rfl) (C8.pe_c C_law_invalid hr (by decide) (by rfl) (pa_cons (pv 1) (pa_cons (pv 3) (pa_cons (pv 6) pa_nil)))))
  (pss_cons (ps_if (PW.pt (pw_or (pt_cmpR op_ne (pe_callB call_len_seq (by rfl) T.b_len (by decide +kernel) (pa_cons (pv 7) pa_nil)) pe_int (nomark _)) (pw_or1 (pt_not (pt_val (C8.pe_c C_law_pages hr (by decide) (by rfl) (pa_cons (pv 6) (pa_cons (pv 5) pa_nil))) (by intro _; rfl)))))) (pss_one (ps_ret pe_bl)) pss_nil)
  (pss_cons (ps_if (pt_cmpR op_ne (pe_callB call_len_seq (by rfl) T.b_len (by decide +kernel) (pa_cons (pv 5) pa_nil)) (pv 2) (nomark _)) (pss_one (ps_ret (pe_cmp (pc_isN (pe_ix ix_list (pv 7) pe_int (fun _ _ => rfl)))))) pss_nil)
  (pss_cons (ps_setLc (i := 8) (own := [("page", 9)]) (g := (gName 9)) (tt := (tOr (tTest (tOp oLt (tOp (rIxL K) (tVar 5) (tVar 9)) (tC (.int 0)))) (tTest (tOp oGt (tOp (rIxL K) (tVar 5) (tVar 9)) (tVar 3))))) rfl sc_law_wrong_list.nd rfl rfl (sw_true rfl rfl rfl (by decide +kernel)) (pi_range1 (by rfl) T.b_range (pa_cons (pv 2) pa_nil)) (blkOk_by (own := [("page", 9)]) (N := ["box", "web", "pages", "lines", "blank", "wrong", "passed", "told", "first", "page"]) (sc := defScope s_law_wrong_list) (by decide +kernel)) (fun _ _ _ _ _ => (pg_name (i := 9) sc_law_wrong_list.nd rfl (by first | exact Or.inl rfl | exact Or.inr rfl))) (fun _ _ _ _ _ => (pts_one (PW.pt (pw_or (pt_cmpR op_lt (pe_ix ix_list (pv 5) (pv 9) (fun _ _ => rfl)) pe_int (nomark _)) (pw_or1 (pt_cmpR op_gt (pe_ix ix_list (pv 5) (pv 9) (fun _ _ => rfl)) (pv 3) (nomark _))))))) (fun _ _ _ _ _ => (pv 9)))
  (pss_one (ps_ret (C8.pe_c C_law_whole hr (by decide) (by rfl) (pa_cons (pe_ix ix_list (pv 7) pe_int (fun _ _ => rfl)) (pa_cons (pe_ix ix_list (pv 8) pe_int (fun _ _ => rfl)) pa_nil))))))))))), rd_law_wrong_list h⟩)
theorem bi_law_wrong_list {f : Addr} {fd : FuncData} (F : Fun K "_law_wrong_list" "_law_wrong_list" s_law_wrong_list f fd) : Binds K fd ["box", "web", "pages", "lines", "blank"] [] := F.binds fun _ _ _ _ _ _ us hl => match us, hl with | [_, _, _, _, _], _ => rfl
theorem sc_law_no_page : FnScope ["standing", "page", "e"] ["standing", "page"] (defScope s_law_no_page) := ⟨rfl, rfl, rfl, by decide +kernel, rfl, by decide +kernel, by decide +kernel⟩
theorem ln_law_no_page {vs : List V} {H : Hp} {Q : VK} {E : XK} (h : sp_law_no_page K A vs H Q E) : vs.length = 2 := by
  first | (obtain ⟨_, rfl, _⟩ := h; rfl) | (obtain ⟨_, _, rfl, _⟩ := h; rfl) | (obtain ⟨_, _, _, rfl, _⟩ := h; rfl) | (obtain ⟨_, _, _, _, rfl, _⟩ := h; rfl) | (obtain ⟨_, _, _, _, _, rfl, _⟩ := h; rfl) | (obtain ⟨_, _, _, _, _, _, rfl, _⟩ := h; rfl) | (obtain ⟨_, _, _, _, _, _, _, rfl, _⟩ := h; rfl) | (obtain ⟨_, _, _, _, _, _, _, _, rfl, _⟩ := h; rfl) | (obtain ⟨_, _, _, _, _, _, _, _, _, rfl, _⟩ := h; rfl) | (obtain ⟨_, _, _, _, _, _, _, _, _, _, rfl, _⟩ := h; rfl) | (obtain ⟨_, _, _, _, _, _, _, _, _, _, _, rfl, _⟩ := h; rfl) | (obtain ⟨_, _, _, _, _, _, _, _, _, _, _, _, rfl, _⟩ := h; rfl) | (obtain ⟨_, _, _, _, _, _, _, _, _, _, _, _, _, rfl, _⟩ := h; rfl) | (obtain ⟨_, _, _, _, _, _, _, _, _, _, _, _, _, _, rfl, _⟩ := h; rfl) | (obtain ⟨_, _, _, _, _, _, _, _, _, _, _, _, _, _, _, rfl, _⟩ := h; rfl) | (obtain ⟨_, _, _, _, _, _, _, _, _, _, _, _, _, _, _, _, rfl, _⟩ := h; rfl) | (obtain ⟨_, _, _, _, _, _, _, _, _, _, _, _, _, _, _, _, _, rfl, _⟩ := h; rfl) | (obtain ⟨_, _, _, _, _, _, _, _, _, _, _, _, _, _, _, _, _, _, rfl, _⟩ := h; rfl) | (obtain ⟨_, _, _, _, _, _, _, _, _, _, _, _, _, _, _, _, _, _, _, rfl, _⟩ := h; rfl)
theorem fn_law_no_page {f : Addr} {fd : FuncData} (F : Fun K "_law_no_page" "_law_no_page" s_law_no_page f fd) (T : Txt mg A) (C : CT K A) (C_Standing_blank_of : GX.MetX P w K mg base 4 A.Standing "blank_of" (sp_Standing_blank_of K A)) : FnOk P w K mg base CX0 5 f fd ["standing", "page"] (sp_law_no_page K A) :=
  F.ok sc_law_no_page (fun vs H Q E h => ln_law_no_page h) (fun cdv Ar outer s H vs Q E hr h => ⟨t_law_no_page K A, (pss_cons (ps_try_as (i := 2) (tb := fun W => (tDrop (GX.tMethS A.Standing "blank_of" (sp_Standing_blank_of K A) (WE W) (tVar 0) (tCons (tVar 1) tNil)))) (ts := fun a cls d => (tIfS (tAnd (tB (tCB (GX.rIsX K a cls d) (tCons (tVar 2) (tCons (tC (.ref A.OnecopyError)) tNil)))) (tNot (tB (tCB (GX.rIsXT K a cls d) (tCons (tVar 2) (tCons (tTup (tCons (tC (.ref A.NoLine)) (tCons (tC (.ref A.InvalidStanding)) tNil))) tNil)))))) (tRet (tLst (tCons (tXf a cls d A.NoPage "page" (tVar 2)) tNil))) tNext)) (Wout := fun _ _ _ _ => False) rfl rfl sc_law_no_page.nd rfl rfl ⟨rfl, by decide, Or.inl T.g_NoPage⟩ takes0
  (fun W pn xe tk _ => (pss_one (ps_expr (GX.pe_mtXT C_Standing_blank_of hr (by decide) tk (pv 0) (pa_cons (pv 1) pa_nil)))))
  (fun a oe cls d pn hz hf => (pss_one (ps_if (PW.pt (pw_and (pt_val (pe_callB (GX.call_isX hz hf) (by rfl) T.b_isinstance (by decide +kernel) (pa_cons (pv 2) (pa_cons (pe_glob (v := .ref A.OnecopyError) (by rfl) T.g_OnecopyError rfl) pa_nil))) (by intro _; rfl)) (pw_and1 (pt_not (pt_val (pe_callB (GX.call_isXT hz hf) (by rfl) T.b_isinstance (by decide +kernel) (pa_cons (pv 2) (pa_cons (pe_tup (pa_cons (pe_glob (v := .ref A.NoLine) (by rfl) T.g_NoLine rfl) (pa_cons (pe_glob (v := .ref A.InvalidStanding) (by rfl) T.g_InvalidStanding rfl) pa_nil))) pa_nil))) (by intro _; rfl)))))) (pss_one (ps_ret (pe_lst (pa_cons (pe_xf C.xf_NoPage C.f_NoPage_page hz hf (pv 2)) pa_nil)))) pss_nil))))
  (pss_one (ps_ret (pe_lst pa_nil)))), rd_law_no_page C.r h⟩)
theorem bi_law_no_page {f : Addr} {fd : FuncData} (F : Fun K "_law_no_page" "_law_no_page" s_law_no_page f fd) : Binds K fd ["standing", "page"] [] := F.binds fun _ _ _ _ _ _ us hl => match us, hl with | [_, _], _ => rfl
theorem sc_law : FnScope ["script", "world", "pages", "rows", "box", "lines", "blank", "other", "number", "web", "passed", "standing", "second", "asked", "far", "place", "more"] ["script"] (defScope s_law) := ⟨rfl, rfl, rfl, by decide +kernel, rfl, by decide +kernel, by decide +kernel⟩
theorem ln_law {vs : List V} {H : Hp} {Q : VK} {E : XK} (h : sp_law K A vs H Q E) : vs.length = 1 := by
  first | (obtain ⟨_, rfl, _⟩ := h; rfl) | (obtain ⟨_, _, rfl, _⟩ := h; rfl) | (obtain ⟨_, _, _, rfl, _⟩ := h; rfl) | (obtain ⟨_, _, _, _, rfl, _⟩ := h; rfl) | (obtain ⟨_, _, _, _, _, rfl, _⟩ := h; rfl) | (obtain ⟨_, _, _, _, _, _, rfl, _⟩ := h; rfl) | (obtain ⟨_, _, _, _, _, _, _, rfl, _⟩ := h; rfl) | (obtain ⟨_, _, _, _, _, _, _, _, rfl, _⟩ := h; rfl) | (obtain ⟨_, _, _, _, _, _, _, _, _, rfl, _⟩ := h; rfl) | (obtain ⟨_, _, _, _, _, _, _, _, _, _, rfl, _⟩ := h; rfl) | (obtain ⟨_, _, _, _, _, _, _, _, _, _, _, rfl, _⟩ := h; rfl) | (obtain ⟨_, _, _, _, _, _, _, _, _, _, _, _, rfl, _⟩ := h; rfl) | (obtain ⟨_, _, _, _, _, _, _, _, _, _, _, _, _, rfl, _⟩ := h; rfl) | (obtain ⟨_, _, _, _, _, _, _, _, _, _, _, _, _, _, rfl, _⟩ := h; rfl) | (obtain ⟨_, _, _, _, _, _, _, _, _, _, _, _, _, _, _, rfl, _⟩ := h; rfl) | (obtain ⟨_, _, _, _, _, _, _, _, _, _, _, _, _, _, _, _, rfl, _⟩ := h; rfl) | (obtain ⟨_, _, _, _, _, _, _, _, _, _, _, _, _, _, _, _, _, rfl, _⟩ := h; rfl) | (obtain ⟨_, _, _, _, _, _, _, _, _, _, _, _, _, _, _, _, _, _, rfl, _⟩ := h; rfl) | (obtain ⟨_, _, _, _, _, _, _, _, _, _, _, _, _, _, _, _, _, _, _, rfl, _⟩ := h; rfl)
theorem fn_law {f : Addr} {fd : FuncData} (F : Fun K "law" "law" s_law f fd) (T : Txt mg A) (C : CT K A) (C_Standing_init : GX.MakX P w K mg base 3 "Standing" A.Standing (sp_Standing_init K A)) (C_Standing_blanks : C8.Met P w K mg base 1 A.Standing "blanks" (sp_Standing_blanks K A) []) (C_Standing_fresh : GX.CmX P w K mg base 5 A.Standing "fresh" (sp_Standing_fresh K A)) (C_Web_init : GX.MakX P w K mg base 4 "Web" A.Web (sp_Web_init K A)) (C_law_blank : C8.Cal P w K mg base 2 "_law_blank" (sp_law_blank K A) []) (C_law_box : C8.Cal P w K mg base 1 "_law_box" (sp_law_box K A) []) (C_law_equality : C8.Cal P w K mg base 6 "_law_equality" (sp_law_equality K A) []) (C_law_fits : C8.Cal P w K mg base 5 "_law_fits" (sp_law_fits K A) []) (C_law_lines : C8.Cal P w K mg base 2 "_law_lines" (sp_law_lines K A) []) (C_law_no_page : C8.Cal P w K mg base 5 "_law_no_page" (sp_law_no_page K A) []) (C_law_outside : C8.Cal P w K mg base 2 "_law_outside" (sp_law_outside K A) []) (C_law_pages : C8.Cal P w K mg base 2 "_law_pages" (sp_law_pages K A) []) (C_law_update : C8.Cal P w K mg base 9 "_law_update" (sp_law_update K A) []) (C_law_web : C8.Cal P w K mg base 4 "_law_web" (sp_law_web K A) []) (C_law_wrong_list : C8.Cal P w K mg base 6 "_law_wrong_list" (sp_law_wrong_list K A) []) : FnOk P w K mg base CX0 10 f fd ["script"] (sp_law K A) :=
  F.ok sc_law (fun vs H Q E h => ln_law h) (fun cdv Ar outer s H vs Q E hr h => ⟨t_law K A, (pss_cons (ps_set (i := 1) sc_law.nd rfl (by first | exact Or.inl rfl | exact Or.inr rfl) (C8.pe_c C_law_web hr (by decide) (by rfl) (pa_cons (C8.pe_c C_law_box hr (by decide) (by rfl) (pa_cons (pv 0) (pa_cons pe_int pa_nil))) pa_nil)))
  (pss_cons (ps_set (i := 2) sc_law.nd rfl (by first | exact Or.inl rfl | exact Or.inr rfl) (pe_ix ix_list (pv 1) pe_int (fun _ _ => rfl)))
  (pss_cons (ps_set (i := 3) sc_law.nd rfl (by first | exact Or.inl rfl | exact Or.inr rfl) (pe_ix ix_list (pv 1) pe_int (fun _ _ => rfl)))
  (pss_cons (ps_set (i := 4) sc_law.nd rfl (by first | exact Or.inl rfl | exact Or.inr rfl) (C8.pe_c C_law_box hr (by decide) (by rfl) (pa_cons (pv 0) (pa_cons pe_int pa_nil))))
  (pss_cons (ps_set (i := 5) sc_law.nd rfl (by first | exact Or.inl rfl | exact Or.inr rfl) (C8.pe_c C_law_lines hr (by decide) (by rfl) (pa_cons (pv 4) pa_nil)))
  (pss_cons (ps_set (i := 6) sc_law.nd rfl (by first | exact Or.inl rfl | exact Or.inr rfl) (C8.pe_c C_law_blank hr (by decide) (by rfl) (pa_cons (pv 4) (pa_cons (pv 2) (pa_cons (pv 3) (pa_cons (pv 5) pa_nil))))))
  (pss_cons (ps_setLc (i := 7) (own := [("number", 8)]) (g := (gName 8)) (tt := tYes) rfl sc_law.nd rfl rfl (sw_true rfl rfl rfl (by decide +kernel)) (pi_list (pv 6)) (blkOk_by (own := [("number", 8)]) (N := ["script", "world", "pages", "rows", "box", "lines", "blank", "other", "number", "web", "passed", "standing", "second", "asked", "far", "place", "more"]) (sc := defScope s_law) (by decide +kernel)) (fun _ _ _ _ _ => (pg_name (i := 8) sc_law.nd rfl (by first | exact Or.inl rfl | exact Or.inr rfl))) (fun _ _ _ _ _ => pts_nil) (fun _ _ _ _ _ => (pe_op op_sub (pv 5) (pv 8))))
  (pss_cons (ps_set (i := 9) sc_law.nd rfl (by first | exact Or.inl rfl | exact Or.inr rfl) (GX.pe_mkX C_Web_init hr (by decide) (by rfl) passL (pa_cons (pv 2) (pa_cons (pe_callTy call_list_of (by rfl) T.b_list (by decide +kernel) (pa_cons (pv 3) pa_nil)) pa_nil))))
  (pss_cons (ps_set (i := 10) sc_law.nd rfl (by first | exact Or.inl rfl | exact Or.inr rfl) (pe_callTy call_list_of (by rfl) T.b_list (by decide +kernel) (pa_cons (pv 6) pa_nil)))
  (pss_cons (ps_set (i := 11) sc_law.nd rfl (by first | exact Or.inl rfl | exact Or.inr rfl) (GX.pe_mkX C_Standing_init hr (by decide) (by rfl) passL (pa_cons (pv 9) (pa_cons (pv 5) (pa_cons (pv 10) pa_nil)))))
  (pss_cons (ps_set (i := 12) sc_law.nd rfl (by first | exact Or.inl rfl | exact Or.inr rfl) (GX.pe_mkX C_Standing_init hr (by decide) (by rfl) passL (pa_cons (pv 9) (pa_cons (pv 5) (pa_cons (pe_callTy call_list_of (by rfl) T.b_list (by decide +kernel) (pa_cons (pv 7) pa_nil)) pa_nil)))))
  (pss_cons (ps_if (PW.pt (pw_or (pt_not (pt_val (C8.pe_c C_law_pages hr (by decide) (by rfl) (pa_cons (pv 10) (pa_cons (pv 6) pa_nil))) (by intro _; rfl))) (pw_or1 (pt_not (pt_val (C8.pe_c C_law_fits hr (by decide) (by rfl) (pa_cons (pv 11) (pa_cons (pv 9) (pa_cons (pv 5) (pa_cons (pv 6) pa_nil))))) (by intro _; rfl)))))) (pss_one (ps_ret pe_bl)) pss_nil)
  (pss_cons (ps_asg (pe_un un_neg pe_int) (pg_sub (pv 10) pe_int set_list))
  (pss_cons (ps_expr (pe_bm PySem.F.plainAttrs_list PySem.F.slot_list_append PySem.F.type_list_append mt_append (pv 10) (pa_cons (pv 5) pa_nil)))
  (pss_cons (ps_set (i := 13) sc_law.nd rfl (by first | exact Or.inl rfl | exact Or.inr rfl) (C8.pe_c C_law_box hr (by decide) (by rfl) (pa_cons (pv 0) (pa_cons pe_int pa_nil))))
  (pss_cons (ps_set (i := 14) sc_law.nd rfl (by first | exact Or.inl rfl | exact Or.inr rfl) (C8.pe_c C_law_outside hr (by decide) (by rfl) (pa_cons (pv 13) (pa_cons (pv 2) pa_nil))))
  (pss_cons (ps_if (pt_not (pt_val (C8.pe_c C_law_equality hr (by decide) (by rfl) (pa_cons (pv 13) (pa_cons (pv 11) (pa_cons (pv 2) (pa_cons (pv 3) (pa_cons (pv 5) (pa_cons (pv 6) pa_nil))))))) (by intro _; rfl))) (pss_one (ps_ret pe_bl)) pss_nil)
  (pss_cons (ps_if (pt_not (pt_val (C8.pe_c C_law_pages hr (by decide) (by rfl) (pa_cons (C8.pe_c C_law_no_page hr (by decide) (by rfl) (pa_cons (pv 11) (pa_cons (pv 14) pa_nil))) (pa_cons (pe_lst (pa_cons (pv 14) pa_nil)) pa_nil))) (by intro _; rfl))) (pss_one (ps_ret pe_bl)) pss_nil)
  (pss_cons (ps_if (pt_not (pt_val (C8.pe_c C_law_wrong_list hr (by decide) (by rfl) (pa_cons (C8.pe_c C_law_box hr (by decide) (by rfl) (pa_cons (pv 0) (pa_cons pe_int pa_nil))) (pa_cons (pv 9) (pa_cons (pv 2) (pa_cons (pv 5) (pa_cons (pv 6) pa_nil)))))) (by intro _; rfl))) (pss_one (ps_ret pe_bl)) pss_nil)
  (pss_cons (ps_for PassesOwn.never rfl (pi_range2 (by rfl) T.b_range (pa_cons pe_int (pa_cons (pe_callB (call_max2 rfl) (by rfl) T.b_max (by decide +kernel) (pa_cons pe_int (pa_cons (pe_callB (call_min2 rfl) (by rfl) T.b_min (by decide +kernel) (pa_cons (pe_callB call_len_seq (by rfl) T.b_len (by decide +kernel) (pa_cons (pv 0) pa_nil)) (pa_cons pe_int pa_nil))) pa_nil))) pa_nil))) (pg_name (i := 15) sc_law.nd rfl (by first | exact Or.inl rfl | exact Or.inr rfl))
  (pss_cons (ps_if (pt_not (pt_val (C8.pe_c C_law_update hr (by decide) (by rfl) (pa_cons (C8.pe_c C_law_box hr (by decide) (by rfl) (pa_cons (pv 0) (pa_cons (pv 15) pa_nil))) (pa_cons (pv 11) (pa_cons (pv 9) (pa_cons (pv 2) (pa_cons (pv 3) (pa_cons (pv 5) (pa_cons (pv 6) pa_nil)))))))) (by intro _; rfl))) (pss_one (ps_ret pe_bl)) pss_nil)
  (pss_one (ps_if (pt_not (pt_val (C8.pe_c C_law_pages hr (by decide) (by rfl) (pa_cons (C8.pe_mt0 C_Standing_blanks hr (by decide) (pv 11)) (pa_cons (pv 6) pa_nil))) (by intro _; rfl))) (pss_one (ps_ret pe_bl)) pss_nil))))
  (pss_cons (ps_set (i := 16) sc_law.nd rfl (by first | exact Or.inl rfl | exact Or.inr rfl) (pe_op op_mod (pe_callTy call_int1 (by rfl) T.b_int (by decide +kernel) (pa_cons (pe_op op_add (pv 5) pe_int) pa_nil)) pe_int))
  (pss_cons (ps_if (pt_not (pt_val (C8.pe_c C_law_fits hr (by decide) (by rfl) (pa_cons (GX.pe_cmX C_Standing_fresh hr (by decide) passL (pe_glob (by rfl) T.g_Standing rfl) (pa_cons (pv 9) (pa_cons (pv 16) pa_nil))) (pa_cons (pv 9) (pa_cons (pv 16) (pa_cons (pe_op op_rep (pe_lst (pa_cons (pv 16) pa_nil)) (pv 2)) pa_nil))))) (by intro _; rfl))) (pss_one (ps_ret pe_bl)) pss_nil)
  (pss_one (ps_ret (pe_and (C8.pe_c C_law_fits hr (by decide) (by rfl) (pa_cons (pv 12) (pa_cons (pv 9) (pa_cons (pv 5) (pa_cons (pv 7) pa_nil))))) (pe_one (C8.pe_c C_law_fits hr (by decide) (by rfl) (pa_cons (pv 11) (pa_cons (pv 9) (pa_cons (pv 5) (pa_cons (pv 6) pa_nil))))))))))))))))))))))))))))))), rd_law h⟩)
theorem bi_law {f : Addr} {fd : FuncData} (F : Fun K "law" "law" s_law f fd) : Binds K fd ["script"] [] := F.binds fun _ _ _ _ _ _ us hl => match us, hl with | [_], _ => rfl

theorem factsS {P : Program} {w : World} {K : PySem.W.Frag} {h : Heap} {mg : Str → Option Value} {fa : Addr} (X : K.In h) (GN : h.Ns mainGlobals mg) (hfa : mg ("law" : Str) = some (.ref fa)) (c : GX.SaysF faS fnS exS K) :
    ∃ fd : FuncData, (∀ (s : Shared) (v : Value), BindsTo s fd ⟨[v], []⟩ [("script", v)]) ∧ ∀ base : Heap, K.In base → base.Ns mainGlobals mg → FnOk P w K mg base CX0 10 fa fd ["script"] (sp_law K ⟨He.ga K "InvalidPointer", He.ga K "InvalidStanding", He.ga K "LotError", He.ga K "NoIndex", He.ga K "NoLine", He.ga K "NoPage", He.ga K "NoStart", He.ga K "OnecopyError", He.ga K "Standing", He.ga K "Web"⟩) := by
  have T : Txt mg ⟨He.ga K "InvalidPointer", He.ga K "InvalidStanding", He.ga K "LotError", He.ga K "NoIndex", He.ga K "NoLine", He.ga K "NoPage", He.ga K "NoStart", He.ga K "OnecopyError", He.ga K "Standing", He.ga K "Web"⟩ := ⟨He.free_ok X GN (c.1.fact 65 (f := .free "ValueError") rfl), He.free_ok X GN (c.1.fact 66 (f := .free "bool") rfl), He.free_ok X GN (c.1.fact 67 (f := .free "enumerate") rfl), He.free_ok X GN (c.1.fact 68 (f := .free "int") rfl), He.free_ok X GN (c.1.fact 69 (f := .free "isinstance") rfl), He.free_ok X GN (c.1.fact 70 (f := .free "len") rfl), He.free_ok X GN (c.1.fact 71 (f := .free "list") rfl), He.free_ok X GN (c.1.fact 72 (f := .free "max") rfl), He.free_ok X GN (c.1.fact 73 (f := .free "min") rfl), He.free_ok X GN (c.1.fact 74 (f := .free "range") rfl), He.free_ok X GN (c.1.fact 75 (f := .free "reversed") rfl), He.free_ok X GN (c.1.fact 76 (f := .free "set") rfl), He.free_ok X GN (c.1.fact 77 (f := .free "sorted") rfl), He.free_ok X GN (c.1.fact 78 (f := .free "sum") rfl), He.glo_ok X GN (c.1.fact 48 (f := .glo "InvalidStanding") rfl), He.glo_ok X GN (c.1.fact 49 (f := .glo "LotError") rfl), He.glo_ok X GN (c.1.fact 50 (f := .glo "NoLine") rfl), He.glo_ok X GN (c.1.fact 51 (f := .glo "NoPage") rfl), He.glo_ok X GN (c.1.fact 52 (f := .glo "OnecopyError") rfl), He.glo_ok X GN (c.1.fact 53 (f := .glo "Standing") rfl), He.glo_ok X GN (c.1.fact 54 (f := .glo "Web") rfl)⟩
  have C : CT K ⟨He.ga K "InvalidPointer", He.ga K "InvalidStanding", He.ga K "LotError", He.ga K "NoIndex", He.ga K "NoLine", He.ga K "NoPage", He.ga K "NoStart", He.ga K "OnecopyError", He.ga K "Standing", He.ga K "Web"⟩ := ⟨He.cls_ok (c.1.fact 59 (f := .cls "Web") rfl), He.noat_ok (c.1.fact 60 (f := .noat "Web" "_arrows") rfl), He.noat_ok (c.1.fact 61 (f := .noat "Web" "_holders") rfl), He.noat_ok (c.1.fact 62 (f := .noat "Web" "_known") rfl), He.noat_ok (c.1.fact 63 (f := .noat "Web" "_targets") rfl), He.noat_ok (c.1.fact 64 (f := .noat "Web" "pages") rfl), GX.oex_ok (c.more 0 (e := .ex (.oex "NoPage")) rfl), GX.noat_ok (c.more 1 (e := .ex (.noat "NoPage" "page")) rfl), GX.oex_ok (c.more 2 (e := .ex (.oex "InvalidPointer")) rfl), GX.noat_ok (c.more 3 (e := .ex (.noat "InvalidPointer" "index")) rfl), He.cls_ok (c.1.fact 55 (f := .cls "Standing") rfl), He.noat_ok (c.1.fact 56 (f := .noat "Standing" "_blank") rfl), He.noat_ok (c.1.fact 57 (f := .noat "Standing" "lines") rfl), He.noat_ok (c.1.fact 58 (f := .noat "Standing" "web") rfl), GX.oex_ok (c.more 4 (e := .ex (.oex "NoLine")) rfl), GX.noat_ok (c.more 5 (e := .ex (.noat "NoLine" "page")) rfl), GX.oex_ok (c.more 6 (e := .ex (.oex "InvalidStanding")) rfl), GX.noat_ok (c.more 7 (e := .ex (.noat "InvalidStanding" "page")) rfl), GX.exc_ok (c.more 8 (e := .ex (.exc "NoPage")) rfl), GX.exc_ok (c.more 9 (e := .ex (.exc "NoLine")) rfl), GX.exc_ok (c.more 10 (e := .ex (.exc "InvalidStanding")) rfl), GX.xf_ok (c.more 11 (e := .ex (.xf "NoPage")) rfl), GX.xf_ok (c.more 12 (e := .ex (.xf "NoLine")) rfl), GX.xf_ok (c.more 13 (e := .ex (.xf "InvalidStanding")) rfl), GX.exm_ok (c.more 14 (e := .ex (.exm "NoPage" "NoPage" true)) rfl), GX.exm_ok (c.more 15 (e := .ex (.exm "NoLine" "NoLine" true)) rfl), GX.exm_ok (c.more 16 (e := .ex (.exm "InvalidStanding" "InvalidStanding" true)) rfl), GX.exm_ok (c.more 17 (e := .ex (.exm "NoLine" "NoPage" false)) rfl), GX.kit_ok (c.more 18 (e := .ex (.kit "NoPage" "OnecopyError" true)) rfl), GX.kitT_ok (c.more 19 (e := .ex (.kitT "NoPage" "ValueError" true)) rfl), GX.kit_ok (c.more 20 (e := .ex (.kit "NoLine" "OnecopyError" true)) rfl), GX.kitT_ok (c.more 21 (e := .ex (.kitT "NoLine" "ValueError" true)) rfl), GX.kit_ok (c.more 22 (e := .ex (.kit "InvalidStanding" "OnecopyError" true)) rfl), GX.kitT_ok (c.more 23 (e := .ex (.kitT "InvalidStanding" "ValueError" true)) rfl), GX.kitA_ok (c.more 24 (e := .ex (.kitA "NoPage" ["NoLine", "LotError", "InvalidStanding"] false)) rfl), GX.kitA_ok (c.more 25 (e := .ex (.kitA "NoLine" ["NoPage", "LotError", "InvalidStanding"] false)) rfl), GX.kitA_ok (c.more 26 (e := .ex (.kitA "InvalidStanding" ["NoPage", "NoLine", "LotError"] false)) rfl), GX.kitA_ok (c.more 27 (e := .ex (.kitA "NoPage" ["NoLine", "InvalidStanding"] false)) rfl), GX.ins_ok (c.more 28 (e := .ex (.ins "Web")) rfl), GX.kitR_ok (c.more 29 (e := .ex (.kitR "list" "Web" false)) rfl), GX.ins_ok (c.more 30 (e := .ex (.ins "Standing")) rfl), GX.kitR_ok (c.more 31 (e := .ex (.kitR "list" "Standing" false)) rfl)⟩
  have e := hfa.symm.trans (He.glo_ok X GN (c.1.fact 46 (f := .glo "law") rfl))
  cases e
  obtain ⟨fdE0, DE0⟩ := c.1.def_ 0 (d := d_InvalidPointer_init) rfl
  have FE0 := He5.fun_of (st := s_InvalidPointer_init) DE0
  obtain ⟨fdE1, DE1⟩ := c.1.def_ 1 (d := d_InvalidStanding_init) rfl
  have FE1 := He5.fun_of (st := s_InvalidStanding_init) DE1
  obtain ⟨fdE2, DE2⟩ := c.1.def_ 2 (d := d_NoLine_init) rfl
  have FE2 := He5.fun_of (st := s_NoLine_init) DE2
  obtain ⟨fdE3, DE3⟩ := c.1.def_ 3 (d := d_NoPage_init) rfl
  have FE3 := He5.fun_of (st := s_NoPage_init) DE3
  obtain ⟨fd0, D0⟩ := c.1.def_ 4 (d := d_law_box) rfl
  have F0 := He5.fun_of (st := s_law_box) D0
  obtain ⟨fd1, D1⟩ := c.1.def_ 5 (d := d_law_draw) rfl
  have F1 := He5.fun_of (st := s_law_draw) D1
  obtain ⟨fd2, D2⟩ := c.1.def_ 6 (d := d_law_clean) rfl
  have F2 := He5.fun_of (st := s_law_clean) D2
  obtain ⟨fd3, D3⟩ := c.1.def_ 7 (d := d_law_free_rows) rfl
  have F3 := He5.fun_of (st := s_law_free_rows) D3
  obtain ⟨fd4, D4⟩ := c.1.def_ 8 (d := d_law_forest_rows) rfl
  have F4 := He5.fun_of (st := s_law_forest_rows) D4
  obtain ⟨fd5, D5⟩ := c.1.def_ 9 (d := d_law_block_rows) rfl
  have F5 := He5.fun_of (st := s_law_block_rows) D5
  obtain ⟨fd6, D6⟩ := c.1.def_ 10 (d := d_law_ring_rows) rfl
  have F6 := He5.fun_of (st := s_law_ring_rows) D6
  obtain ⟨fd7, D7⟩ := c.1.def_ 11 (d := d_law_dense_rows) rfl
  have F7 := He5.fun_of (st := s_law_dense_rows) D7
  obtain ⟨fd8, D8⟩ := c.1.def_ 12 (d := d_law_large_rows) rfl
  have F8 := He5.fun_of (st := s_law_large_rows) D8
  obtain ⟨fd9, D9⟩ := c.1.def_ 13 (d := d_law_small_rows) rfl
  have F9 := He5.fun_of (st := s_law_small_rows) D9
  obtain ⟨fd10, D10⟩ := c.1.def_ 14 (d := d_law_names) rfl
  have F10 := He5.fun_of (st := s_law_names) D10
  obtain ⟨fd11, D11⟩ := c.1.def_ 15 (d := d_law_mixed) rfl
  have F11 := He5.fun_of (st := s_law_mixed) D11
  obtain ⟨fd12, D12⟩ := c.1.def_ 16 (d := d_law_web) rfl
  have F12 := He5.fun_of (st := s_law_web) D12
  obtain ⟨fd13, D13⟩ := c.1.def_ 17 (d := d_check_pages) rfl
  have F13 := He5.fun_of (st := s_check_pages) D13
  obtain ⟨fd14, D14⟩ := c.1.def_ 18 (d := d_is_pointer) rfl
  have F14 := He5.fun_of (st := s_is_pointer) D14
  obtain ⟨fd15, D15⟩ := c.1.def_ 19 (d := d_as_known) rfl
  have F15 := He5.fun_of (st := s_as_known) D15
  obtain ⟨fd16, D16⟩ := c.1.def_ 20 (d := d_grouped) rfl
  have F16 := He5.fun_of (st := s_grouped) D16
  obtain ⟨fd17, D17⟩ := c.1.def_ 21 (d := d_Web_init) rfl
  have F17 := He5.fun_of (st := s_Web_init) D17
  obtain ⟨fd18, D18⟩ := c.1.def_ 22 (d := d_Web_holders) rfl
  have F18 := He5.fun_of (st := s_Web_holders) D18
  obtain ⟨fd19, D19⟩ := c.1.def_ 23 (d := d_Web_eq) rfl
  have F19 := He5.fun_of (st := s_Web_eq) D19
  obtain ⟨fd20, D20⟩ := c.1.def_ 24 (d := d_lines_used) rfl
  have F20 := He5.fun_of (st := s_lines_used) D20
  obtain ⟨fd21, D21⟩ := c.1.def_ 25 (d := d_Standing_init) rfl
  have F21 := He5.fun_of (st := s_Standing_init) D21
  obtain ⟨fd22, D22⟩ := c.1.def_ 26 (d := d_Standing_fresh) rfl
  have F22 := He5.fun_of (st := s_Standing_fresh) D22
  obtain ⟨fd23, D23⟩ := c.1.def_ 27 (d := d_Standing_eq) rfl
  have F23 := He5.fun_of (st := s_Standing_eq) D23
  obtain ⟨fd24, D24⟩ := c.1.def_ 28 (d := d_Standing_blanks) rfl
  have F24 := He5.fun_of (st := s_Standing_blanks) D24
  obtain ⟨fd25, D25⟩ := c.1.def_ 29 (d := d_Standing_blank_of) rfl
  have F25 := He5.fun_of (st := s_Standing_blank_of) D25
  obtain ⟨fd26, D26⟩ := c.1.def_ 30 (d := d_Standing_used) rfl
  have F26 := He5.fun_of (st := s_Standing_used) D26
  obtain ⟨fd27, D27⟩ := c.1.def_ 31 (d := d_Standingcheck_lines) rfl
  have F27 := He5.fun_of (st := s_Standingcheck_lines) D27
  obtain ⟨fd28, D28⟩ := c.1.def_ 32 (d := d_Standing_after) rfl
  have F28 := He5.fun_of (st := s_Standing_after) D28
  obtain ⟨fd29, D29⟩ := c.1.def_ 33 (d := d_law_whole) rfl
  have F29 := He5.fun_of (st := s_law_whole) D29
  obtain ⟨fd30, D30⟩ := c.1.def_ 34 (d := d_law_pages) rfl
  have F30 := He5.fun_of (st := s_law_pages) D30
  obtain ⟨fd31, D31⟩ := c.1.def_ 35 (d := d_law_outside) rfl
  have F31 := He5.fun_of (st := s_law_outside) D31
  obtain ⟨fd32, D32⟩ := c.1.def_ 36 (d := d_law_lines) rfl
  have F32 := He5.fun_of (st := s_law_lines) D32
  obtain ⟨fd33, D33⟩ := c.1.def_ 37 (d := d_law_blank) rfl
  have F33 := He5.fun_of (st := s_law_blank) D33
  obtain ⟨fd34, D34⟩ := c.1.def_ 38 (d := d_law_uses) rfl
  have F34 := He5.fun_of (st := s_law_uses) D34
  obtain ⟨fd35, D35⟩ := c.1.def_ 39 (d := d_law_truth) rfl
  have F35 := He5.fun_of (st := s_law_truth) D35
  obtain ⟨fd36, D36⟩ := c.1.def_ 40 (d := d_law_fits) rfl
  have F36 := He5.fun_of (st := s_law_fits) D36
  obtain ⟨fd37, D37⟩ := c.1.def_ 41 (d := d_law_called) rfl
  have F37 := He5.fun_of (st := s_law_called) D37
  obtain ⟨fd38, D38⟩ := c.1.def_ 42 (d := d_law_refused) rfl
  have F38 := He5.fun_of (st := s_law_refused) D38
  obtain ⟨fd39, D39⟩ := c.1.def_ 43 (d := d_law_drawn_update) rfl
  have F39 := He5.fun_of (st := s_law_drawn_update) D39
  obtain ⟨fd40, D40⟩ := c.1.def_ 44 (d := d_law_update) rfl
  have F40 := He5.fun_of (st := s_law_update) D40
  obtain ⟨fd41, D41⟩ := c.1.def_ 45 (d := d_law_equal) rfl
  have F41 := He5.fun_of (st := s_law_equal) D41
  obtain ⟨fd42, D42⟩ := c.1.def_ 46 (d := d_law_equality) rfl
  have F42 := He5.fun_of (st := s_law_equality) D42
  obtain ⟨fd43, D43⟩ := c.1.def_ 47 (d := d_law_spoilt) rfl
  have F43 := He5.fun_of (st := s_law_spoilt) D43
  obtain ⟨fd44, D44⟩ := c.1.def_ 48 (d := d_law_invalid) rfl
  have F44 := He5.fun_of (st := s_law_invalid) D44
  obtain ⟨fd45, D45⟩ := c.1.def_ 49 (d := d_law_wrong_list) rfl
  have F45 := He5.fun_of (st := s_law_wrong_list) D45
  obtain ⟨fd46, D46⟩ := c.1.def_ 50 (d := d_law_no_page) rfl
  have F46 := He5.fun_of (st := s_law_no_page) D46
  obtain ⟨fd47, D47⟩ := c.1.def_ 51 (d := d_law) rfl
  have F47 := He5.fun_of (st := s_law) D47
  have b := FunD.bindsA (ps := ["script"]) D47 fun _ _ _ _ _ _ us hl => match us, hl with | [_], _ => rfl
  refine ⟨fd47, fun s v => b s [v] rfl, fun base _ _ => ?_⟩
  have C_InvalidPointer : GX.ErrX P w K mg base 1 "InvalidPointer" (He.ga K "InvalidPointer") (GX.sp_err K (He.ga K "InvalidPointer") "index") := ⟨GX.oex_ok (c.more 2 (e := .ex (.oex "InvalidPointer")) rfl), _, _, _, (GX.ini_ok (c.more 33 (e := .ex (.ini "InvalidPointer")) rfl)).1, (GX.ini_ok (c.more 33 (e := .ex (.ini "InvalidPointer")) rfl)).2, fn_InvalidPointer_init (A := ⟨He.ga K "InvalidPointer", He.ga K "InvalidStanding", He.ga K "LotError", He.ga K "NoIndex", He.ga K "NoLine", He.ga K "NoPage", He.ga K "NoStart", He.ga K "OnecopyError", He.ga K "Standing", He.ga K "Web"⟩) FE0, He.glo_ok X GN (c.1.fact 47 (f := .glo "InvalidPointer") rfl), bi_InvalidPointer_init FE0⟩
  have C_InvalidStanding : GX.ErrX P w K mg base 1 "InvalidStanding" (He.ga K "InvalidStanding") (GX.sp_err K (He.ga K "InvalidStanding") "page") := ⟨GX.oex_ok (c.more 6 (e := .ex (.oex "InvalidStanding")) rfl), _, _, _, (GX.ini_ok (c.more 34 (e := .ex (.ini "InvalidStanding")) rfl)).1, (GX.ini_ok (c.more 34 (e := .ex (.ini "InvalidStanding")) rfl)).2, fn_InvalidStanding_init (A := ⟨He.ga K "InvalidPointer", He.ga K "InvalidStanding", He.ga K "LotError", He.ga K "NoIndex", He.ga K "NoLine", He.ga K "NoPage", He.ga K "NoStart", He.ga K "OnecopyError", He.ga K "Standing", He.ga K "Web"⟩) FE1, He.glo_ok X GN (c.1.fact 48 (f := .glo "InvalidStanding") rfl), bi_InvalidStanding_init FE1⟩
  have C_NoLine : GX.ErrX P w K mg base 1 "NoLine" (He.ga K "NoLine") (GX.sp_err K (He.ga K "NoLine") "page") := ⟨GX.oex_ok (c.more 4 (e := .ex (.oex "NoLine")) rfl), _, _, _, (GX.ini_ok (c.more 35 (e := .ex (.ini "NoLine")) rfl)).1, (GX.ini_ok (c.more 35 (e := .ex (.ini "NoLine")) rfl)).2, fn_NoLine_init (A := ⟨He.ga K "InvalidPointer", He.ga K "InvalidStanding", He.ga K "LotError", He.ga K "NoIndex", He.ga K "NoLine", He.ga K "NoPage", He.ga K "NoStart", He.ga K "OnecopyError", He.ga K "Standing", He.ga K "Web"⟩) FE2, He.glo_ok X GN (c.1.fact 50 (f := .glo "NoLine") rfl), bi_NoLine_init FE2⟩
  have C_NoPage : GX.ErrX P w K mg base 1 "NoPage" (He.ga K "NoPage") (GX.sp_err K (He.ga K "NoPage") "page") := ⟨GX.oex_ok (c.more 0 (e := .ex (.oex "NoPage")) rfl), _, _, _, (GX.ini_ok (c.more 36 (e := .ex (.ini "NoPage")) rfl)).1, (GX.ini_ok (c.more 36 (e := .ex (.ini "NoPage")) rfl)).2, fn_NoPage_init (A := ⟨He.ga K "InvalidPointer", He.ga K "InvalidStanding", He.ga K "LotError", He.ga K "NoIndex", He.ga K "NoLine", He.ga K "NoPage", He.ga K "NoStart", He.ga K "OnecopyError", He.ga K "Standing", He.ga K "Web"⟩) FE3, He.glo_ok X GN (c.1.fact 51 (f := .glo "NoPage") rfl), bi_NoPage_init FE3⟩
  have C_law_box : C8.Cal P w K mg base 1 "_law_box" (sp_law_box K ⟨He.ga K "InvalidPointer", He.ga K "InvalidStanding", He.ga K "LotError", He.ga K "NoIndex", He.ga K "NoLine", He.ga K "NoPage", He.ga K "NoStart", He.ga K "OnecopyError", He.ga K "Standing", He.ga K "Web"⟩) [] := ⟨_, _, _, [], fn_law_box F0 T C , He.glo_ok X GN (c.1.fact 0 (f := .glo "_law_box") rfl), F0.kp, bi_law_box F0, .nil⟩
  have C_law_draw : C8.Cal P w K mg base 1 "_law_draw" (sp_law_draw K ⟨He.ga K "InvalidPointer", He.ga K "InvalidStanding", He.ga K "LotError", He.ga K "NoIndex", He.ga K "NoLine", He.ga K "NoPage", He.ga K "NoStart", He.ga K "OnecopyError", He.ga K "Standing", He.ga K "Web"⟩) [] := ⟨_, _, _, [], fn_law_draw F1 T C , He.glo_ok X GN (c.1.fact 1 (f := .glo "_law_draw") rfl), F1.kp, bi_law_draw F1, .nil⟩
  have C_law_clean : C8.Cal P w K mg base 1 "_law_clean" (sp_law_clean K ⟨He.ga K "InvalidPointer", He.ga K "InvalidStanding", He.ga K "LotError", He.ga K "NoIndex", He.ga K "NoLine", He.ga K "NoPage", He.ga K "NoStart", He.ga K "OnecopyError", He.ga K "Standing", He.ga K "Web"⟩) [] := ⟨_, _, _, [], fn_law_clean F2 T C , He.glo_ok X GN (c.1.fact 2 (f := .glo "_law_clean") rfl), F2.kp, bi_law_clean F2, .nil⟩
  have C_law_free_rows : C8.Cal P w K mg base 2 "_law_free_rows" (sp_law_free_rows K ⟨He.ga K "InvalidPointer", He.ga K "InvalidStanding", He.ga K "LotError", He.ga K "NoIndex", He.ga K "NoLine", He.ga K "NoPage", He.ga K "NoStart", He.ga K "OnecopyError", He.ga K "Standing", He.ga K "Web"⟩) [] := ⟨_, _, _, [], fn_law_free_rows F3 T C C_law_draw, He.glo_ok X GN (c.1.fact 3 (f := .glo "_law_free_rows") rfl), F3.kp, bi_law_free_rows F3, .nil⟩
  have C_law_forest_rows : C8.Cal P w K mg base 2 "_law_forest_rows" (sp_law_forest_rows K ⟨He.ga K "InvalidPointer", He.ga K "InvalidStanding", He.ga K "LotError", He.ga K "NoIndex", He.ga K "NoLine", He.ga K "NoPage", He.ga K "NoStart", He.ga K "OnecopyError", He.ga K "Standing", He.ga K "Web"⟩) [] := ⟨_, _, _, [], fn_law_forest_rows F4 T C C_law_draw, He.glo_ok X GN (c.1.fact 4 (f := .glo "_law_forest_rows") rfl), F4.kp, bi_law_forest_rows F4, .nil⟩
  have C_law_block_rows : C8.Cal P w K mg base 2 "_law_block_rows" (sp_law_block_rows K ⟨He.ga K "InvalidPointer", He.ga K "InvalidStanding", He.ga K "LotError", He.ga K "NoIndex", He.ga K "NoLine", He.ga K "NoPage", He.ga K "NoStart", He.ga K "OnecopyError", He.ga K "Standing", He.ga K "Web"⟩) [] := ⟨_, _, _, [], fn_law_block_rows F5 T C C_law_draw, He.glo_ok X GN (c.1.fact 5 (f := .glo "_law_block_rows") rfl), F5.kp, bi_law_block_rows F5, .nil⟩
  have C_law_ring_rows : C8.Cal P w K mg base 2 "_law_ring_rows" (sp_law_ring_rows K ⟨He.ga K "InvalidPointer", He.ga K "InvalidStanding", He.ga K "LotError", He.ga K "NoIndex", He.ga K "NoLine", He.ga K "NoPage", He.ga K "NoStart", He.ga K "OnecopyError", He.ga K "Standing", He.ga K "Web"⟩) [] := ⟨_, _, _, [], fn_law_ring_rows F6 T C C_law_draw, He.glo_ok X GN (c.1.fact 6 (f := .glo "_law_ring_rows") rfl), F6.kp, bi_law_ring_rows F6, .nil⟩
  have C_law_dense_rows : C8.Cal P w K mg base 2 "_law_dense_rows" (sp_law_dense_rows K ⟨He.ga K "InvalidPointer", He.ga K "InvalidStanding", He.ga K "LotError", He.ga K "NoIndex", He.ga K "NoLine", He.ga K "NoPage", He.ga K "NoStart", He.ga K "OnecopyError", He.ga K "Standing", He.ga K "Web"⟩) [] := ⟨_, _, _, [], fn_law_dense_rows F7 T C C_law_draw, He.glo_ok X GN (c.1.fact 7 (f := .glo "_law_dense_rows") rfl), F7.kp, bi_law_dense_rows F7, .nil⟩
  have C_law_large_rows : C8.Cal P w K mg base 2 "_law_large_rows" (sp_law_large_rows K ⟨He.ga K "InvalidPointer", He.ga K "InvalidStanding", He.ga K "LotError", He.ga K "NoIndex", He.ga K "NoLine", He.ga K "NoPage", He.ga K "NoStart", He.ga K "OnecopyError", He.ga K "Standing", He.ga K "Web"⟩) [] := ⟨_, _, _, [], fn_law_large_rows F8 T C C_law_draw, He.glo_ok X GN (c.1.fact 8 (f := .glo "_law_large_rows") rfl), F8.kp, bi_law_large_rows F8, .nil⟩
  have C_law_small_rows : C8.Cal P w K mg base 3 "_law_small_rows" (sp_law_small_rows K ⟨He.ga K "InvalidPointer", He.ga K "InvalidStanding", He.ga K "LotError", He.ga K "NoIndex", He.ga K "NoLine", He.ga K "NoPage", He.ga K "NoStart", He.ga K "OnecopyError", He.ga K "Standing", He.ga K "Web"⟩) [] := ⟨_, _, _, [], fn_law_small_rows F9 T C C_law_block_rows C_law_dense_rows C_law_forest_rows C_law_free_rows C_law_ring_rows, He.glo_ok X GN (c.1.fact 9 (f := .glo "_law_small_rows") rfl), F9.kp, bi_law_small_rows F9, .nil⟩
  have C_law_names : C8.Cal P w K mg base 2 "_law_names" (sp_law_names K ⟨He.ga K "InvalidPointer", He.ga K "InvalidStanding", He.ga K "LotError", He.ga K "NoIndex", He.ga K "NoLine", He.ga K "NoPage", He.ga K "NoStart", He.ga K "OnecopyError", He.ga K "Standing", He.ga K "Web"⟩) [] := ⟨_, _, _, [], fn_law_names F10 T C C_law_draw, He.glo_ok X GN (c.1.fact 10 (f := .glo "_law_names") rfl), F10.kp, bi_law_names F10, .nil⟩
  have C_law_mixed : C8.Cal P w K mg base 2 "_law_mixed" (sp_law_mixed K ⟨He.ga K "InvalidPointer", He.ga K "InvalidStanding", He.ga K "LotError", He.ga K "NoIndex", He.ga K "NoLine", He.ga K "NoPage", He.ga K "NoStart", He.ga K "OnecopyError", He.ga K "Standing", He.ga K "Web"⟩) [] := ⟨_, _, _, [], fn_law_mixed F11 T C C_law_draw, He.glo_ok X GN (c.1.fact 11 (f := .glo "_law_mixed") rfl), F11.kp, bi_law_mixed F11, .nil⟩
  have C_law_web : C8.Cal P w K mg base 4 "_law_web" (sp_law_web K ⟨He.ga K "InvalidPointer", He.ga K "InvalidStanding", He.ga K "LotError", He.ga K "NoIndex", He.ga K "NoLine", He.ga K "NoPage", He.ga K "NoStart", He.ga K "OnecopyError", He.ga K "Standing", He.ga K "Web"⟩) [] := ⟨_, _, _, [], fn_law_web F12 T C C_law_clean C_law_draw C_law_large_rows C_law_mixed C_law_names C_law_small_rows, He.glo_ok X GN (c.1.fact 12 (f := .glo "_law_web") rfl), F12.kp, bi_law_web F12, .nil⟩
  have C_check_pages : GX.CalX P w K mg base 3 "check_pages" (sp_check_pages K ⟨He.ga K "InvalidPointer", He.ga K "InvalidStanding", He.ga K "LotError", He.ga K "NoIndex", He.ga K "NoLine", He.ga K "NoPage", He.ga K "NoStart", He.ga K "OnecopyError", He.ga K "Standing", He.ga K "Web"⟩) := ⟨_, _, _, fn_check_pages F13 T C C_NoPage, He.glo_ok X GN (c.1.fact 13 (f := .glo "check_pages") rfl), F13.kp, bi_check_pages F13⟩
  have C_is_pointer : C8.Cal P w K mg base 1 "_is_pointer" (sp_is_pointer K ⟨He.ga K "InvalidPointer", He.ga K "InvalidStanding", He.ga K "LotError", He.ga K "NoIndex", He.ga K "NoLine", He.ga K "NoPage", He.ga K "NoStart", He.ga K "OnecopyError", He.ga K "Standing", He.ga K "Web"⟩) [] := ⟨_, _, _, [], fn_is_pointer F14 T C , He.glo_ok X GN (c.1.fact 14 (f := .glo "_is_pointer") rfl), F14.kp, bi_is_pointer F14, .nil⟩
  have C_as_known : GX.CalX P w K mg base 3 "_as_known" (sp_as_known K ⟨He.ga K "InvalidPointer", He.ga K "InvalidStanding", He.ga K "LotError", He.ga K "NoIndex", He.ga K "NoLine", He.ga K "NoPage", He.ga K "NoStart", He.ga K "OnecopyError", He.ga K "Standing", He.ga K "Web"⟩) := ⟨_, _, _, fn_as_known F15 T C C_InvalidPointer C_is_pointer, He.glo_ok X GN (c.1.fact 15 (f := .glo "_as_known") rfl), F15.kp, bi_as_known F15⟩
  have C_grouped : C8.Cal P w K mg base 1 "_grouped" (sp_grouped K ⟨He.ga K "InvalidPointer", He.ga K "InvalidStanding", He.ga K "LotError", He.ga K "NoIndex", He.ga K "NoLine", He.ga K "NoPage", He.ga K "NoStart", He.ga K "OnecopyError", He.ga K "Standing", He.ga K "Web"⟩) [] := ⟨_, _, _, [], fn_grouped F16 T C , He.glo_ok X GN (c.1.fact 16 (f := .glo "_grouped") rfl), F16.kp, bi_grouped F16, .nil⟩
  have C_Web_init : GX.MakX P w K mg base 4 "Web" (He.ga K "Web") (sp_Web_init K ⟨He.ga K "InvalidPointer", He.ga K "InvalidStanding", He.ga K "LotError", He.ga K "NoIndex", He.ga K "NoLine", He.ga K "NoPage", He.ga K "NoStart", He.ga K "OnecopyError", He.ga K "Standing", He.ga K "Web"⟩) := ⟨_, _, _, He.mkr_ok (c.1.fact 17 (f := .mkr "Web") rfl), fn_Web_init F17 T C C_as_known C_grouped, He.glo_ok X GN (c.1.fact 54 (f := .glo "Web") rfl), bi_Web_init F17⟩
  have C_Web_holders : GX.MetX P w K mg base 4 (He.ga K "Web") "holders" (sp_Web_holders K ⟨He.ga K "InvalidPointer", He.ga K "InvalidStanding", He.ga K "LotError", He.ga K "NoIndex", He.ga K "NoLine", He.ga K "NoPage", He.ga K "NoStart", He.ga K "OnecopyError", He.ga K "Standing", He.ga K "Web"⟩) := ⟨_, _, _, C.c_Web, He.meth_ok (c.1.fact 18 (f := .meth "Web" "holders") rfl), fn_Web_holders F18 T C C_check_pages, bi_Web_holders F18⟩
  have C_Web_eq : GX.EqO P w K mg base 1 (He.ga K "Web") (sp_Web_eq K ⟨He.ga K "InvalidPointer", He.ga K "InvalidStanding", He.ga K "LotError", He.ga K "NoIndex", He.ga K "NoLine", He.ga K "NoPage", He.ga K "NoStart", He.ga K "OnecopyError", He.ga K "Standing", He.ga K "Web"⟩) := ⟨_, _, _, fn_Web_eq F19 T C , (He.meth_ok (c.1.fact 19 (f := .meth "Web" "__eq__") rfl)).at_, (He.meth_ok (c.1.fact 19 (f := .meth "Web" "__eq__") rfl)).fn, bi_Web_eq F19, GX.nfst_ok (c.more 37 (e := .ex (.nfst "Web" "list")) rfl)⟩
  have C_lines_used : GX.CalX P w K mg base 5 "lines_used" (sp_lines_used K ⟨He.ga K "InvalidPointer", He.ga K "InvalidStanding", He.ga K "LotError", He.ga K "NoIndex", He.ga K "NoLine", He.ga K "NoPage", He.ga K "NoStart", He.ga K "OnecopyError", He.ga K "Standing", He.ga K "Web"⟩) := ⟨_, _, _, fn_lines_used F20 T C C_Web_holders, He.glo_ok X GN (c.1.fact 20 (f := .glo "lines_used") rfl), F20.kp, bi_lines_used F20⟩
  have C_Standing_init : GX.MakX P w K mg base 3 "Standing" (He.ga K "Standing") (sp_Standing_init K ⟨He.ga K "InvalidPointer", He.ga K "InvalidStanding", He.ga K "LotError", He.ga K "NoIndex", He.ga K "NoLine", He.ga K "NoPage", He.ga K "NoStart", He.ga K "OnecopyError", He.ga K "Standing", He.ga K "Web"⟩) := ⟨_, _, _, He.mkr_ok (c.1.fact 21 (f := .mkr "Standing") rfl), fn_Standing_init F21 T C C_InvalidStanding, He.glo_ok X GN (c.1.fact 53 (f := .glo "Standing") rfl), bi_Standing_init F21⟩
  have C_Standing_fresh : GX.CmX P w K mg base 5 (He.ga K "Standing") "fresh" (sp_Standing_fresh K ⟨He.ga K "InvalidPointer", He.ga K "InvalidStanding", He.ga K "LotError", He.ga K "NoIndex", He.ga K "NoLine", He.ga K "NoPage", He.ga K "NoStart", He.ga K "OnecopyError", He.ga K "Standing", He.ga K "Web"⟩) := ⟨⟨_, _, (GX.cm_ok (c.more 32 (e := .cm "Standing" "fresh") rfl)).1, (GX.cm_ok (c.more 32 (e := .cm "Standing" "fresh") rfl)).2, GX.rawX (fn_Standing_fresh F22 T C C_Standing_init) (bi_Standing_fresh F22)⟩⟩
  have C_Standing_eq : GX.EqO P w K mg base 2 (He.ga K "Standing") (sp_Standing_eq K ⟨He.ga K "InvalidPointer", He.ga K "InvalidStanding", He.ga K "LotError", He.ga K "NoIndex", He.ga K "NoLine", He.ga K "NoPage", He.ga K "NoStart", He.ga K "OnecopyError", He.ga K "Standing", He.ga K "Web"⟩) := ⟨_, _, _, fn_Standing_eq F23 T C C_Web_eq, (He.meth_ok (c.1.fact 22 (f := .meth "Standing" "__eq__") rfl)).at_, (He.meth_ok (c.1.fact 22 (f := .meth "Standing" "__eq__") rfl)).fn, bi_Standing_eq F23, GX.nfst_ok (c.more 38 (e := .ex (.nfst "Standing" "list")) rfl)⟩
  have C_Standing_blanks : C8.Met P w K mg base 1 (He.ga K "Standing") "blanks" (sp_Standing_blanks K ⟨He.ga K "InvalidPointer", He.ga K "InvalidStanding", He.ga K "LotError", He.ga K "NoIndex", He.ga K "NoLine", He.ga K "NoPage", He.ga K "NoStart", He.ga K "OnecopyError", He.ga K "Standing", He.ga K "Web"⟩) [] := ⟨_, _, _, [], C.c_Standing, He.meth_ok (c.1.fact 23 (f := .meth "Standing" "blanks") rfl), fn_Standing_blanks F24 T C , bi_Standing_blanks F24, .nil⟩
  have C_Standing_blank_of : GX.MetX P w K mg base 4 (He.ga K "Standing") "blank_of" (sp_Standing_blank_of K ⟨He.ga K "InvalidPointer", He.ga K "InvalidStanding", He.ga K "LotError", He.ga K "NoIndex", He.ga K "NoLine", He.ga K "NoPage", He.ga K "NoStart", He.ga K "OnecopyError", He.ga K "Standing", He.ga K "Web"⟩) := ⟨_, _, _, C.c_Standing, He.meth_ok (c.1.fact 24 (f := .meth "Standing" "blank_of") rfl), fn_Standing_blank_of F25 T C C_check_pages, bi_Standing_blank_of F25⟩
  have C_Standing_used : C8.Met P w K mg base 1 (He.ga K "Standing") "used" (sp_Standing_used K ⟨He.ga K "InvalidPointer", He.ga K "InvalidStanding", He.ga K "LotError", He.ga K "NoIndex", He.ga K "NoLine", He.ga K "NoPage", He.ga K "NoStart", He.ga K "OnecopyError", He.ga K "Standing", He.ga K "Web"⟩) [] := ⟨_, _, _, [], C.c_Standing, He.meth_ok (c.1.fact 25 (f := .meth "Standing" "used") rfl), fn_Standing_used F26 T C , bi_Standing_used F26, .nil⟩
  have C_Standingcheck_lines : GX.MetX P w K mg base 3 (He.ga K "Standing") "_check_lines" (sp_Standingcheck_lines K ⟨He.ga K "InvalidPointer", He.ga K "InvalidStanding", He.ga K "LotError", He.ga K "NoIndex", He.ga K "NoLine", He.ga K "NoPage", He.ga K "NoStart", He.ga K "OnecopyError", He.ga K "Standing", He.ga K "Web"⟩) := ⟨_, _, _, C.c_Standing, He.meth_ok (c.1.fact 26 (f := .meth "Standing" "_check_lines") rfl), fn_Standingcheck_lines F27 T C C_NoLine, bi_Standingcheck_lines F27⟩
  have C_Standing_after : GX.MetR P w K mg base 6 (He.ga K "Standing") "after" (GX.starSp 2 (sp_Standing_after K ⟨He.ga K "InvalidPointer", He.ga K "InvalidStanding", He.ga K "LotError", He.ga K "NoIndex", He.ga K "NoLine", He.ga K "NoPage", He.ga K "NoStart", He.ga K "OnecopyError", He.ga K "Standing", He.ga K "Web"⟩)) := ⟨⟨_, C.c_Standing, He.meth_ok (c.1.fact 27 (f := .meth "Standing" "after") rfl), fn_Standing_after F28 T C C_Standing_init C_Standingcheck_lines C_check_pages C_lines_used⟩⟩
  have C_law_whole : C8.Cal P w K mg base 1 "_law_whole" (sp_law_whole K ⟨He.ga K "InvalidPointer", He.ga K "InvalidStanding", He.ga K "LotError", He.ga K "NoIndex", He.ga K "NoLine", He.ga K "NoPage", He.ga K "NoStart", He.ga K "OnecopyError", He.ga K "Standing", He.ga K "Web"⟩) [] := ⟨_, _, _, [], fn_law_whole F29 T C , He.glo_ok X GN (c.1.fact 28 (f := .glo "_law_whole") rfl), F29.kp, bi_law_whole F29, .nil⟩
  have C_law_pages : C8.Cal P w K mg base 2 "_law_pages" (sp_law_pages K ⟨He.ga K "InvalidPointer", He.ga K "InvalidStanding", He.ga K "LotError", He.ga K "NoIndex", He.ga K "NoLine", He.ga K "NoPage", He.ga K "NoStart", He.ga K "OnecopyError", He.ga K "Standing", He.ga K "Web"⟩) [] := ⟨_, _, _, [], fn_law_pages F30 T C C_law_whole, He.glo_ok X GN (c.1.fact 29 (f := .glo "_law_pages") rfl), F30.kp, bi_law_pages F30, .nil⟩
  have C_law_outside : C8.Cal P w K mg base 2 "_law_outside" (sp_law_outside K ⟨He.ga K "InvalidPointer", He.ga K "InvalidStanding", He.ga K "LotError", He.ga K "NoIndex", He.ga K "NoLine", He.ga K "NoPage", He.ga K "NoStart", He.ga K "OnecopyError", He.ga K "Standing", He.ga K "Web"⟩) [] := ⟨_, _, _, [], fn_law_outside F31 T C C_law_draw, He.glo_ok X GN (c.1.fact 30 (f := .glo "_law_outside") rfl), F31.kp, bi_law_outside F31, .nil⟩
  have C_law_lines : C8.Cal P w K mg base 2 "_law_lines" (sp_law_lines K ⟨He.ga K "InvalidPointer", He.ga K "InvalidStanding", He.ga K "LotError", He.ga K "NoIndex", He.ga K "NoLine", He.ga K "NoPage", He.ga K "NoStart", He.ga K "OnecopyError", He.ga K "Standing", He.ga K "Web"⟩) [] := ⟨_, _, _, [], fn_law_lines F32 T C C_law_draw, He.glo_ok X GN (c.1.fact 31 (f := .glo "_law_lines") rfl), F32.kp, bi_law_lines F32, .nil⟩
  have C_law_blank : C8.Cal P w K mg base 2 "_law_blank" (sp_law_blank K ⟨He.ga K "InvalidPointer", He.ga K "InvalidStanding", He.ga K "LotError", He.ga K "NoIndex", He.ga K "NoLine", He.ga K "NoPage", He.ga K "NoStart", He.ga K "OnecopyError", He.ga K "Standing", He.ga K "Web"⟩) [] := ⟨_, _, _, [], fn_law_blank F33 T C C_law_draw, He.glo_ok X GN (c.1.fact 32 (f := .glo "_law_blank") rfl), F33.kp, bi_law_blank F33, .nil⟩
  have C_law_uses : C8.Cal P w K mg base 1 "_law_uses" (sp_law_uses K ⟨He.ga K "InvalidPointer", He.ga K "InvalidStanding", He.ga K "LotError", He.ga K "NoIndex", He.ga K "NoLine", He.ga K "NoPage", He.ga K "NoStart", He.ga K "OnecopyError", He.ga K "Standing", He.ga K "Web"⟩) [] := ⟨_, _, _, [], fn_law_uses F34 T C , He.glo_ok X GN (c.1.fact 33 (f := .glo "_law_uses") rfl), F34.kp, bi_law_uses F34, .nil⟩
  have C_law_truth : C8.Cal P w K mg base 1 "_law_truth" (sp_law_truth K ⟨He.ga K "InvalidPointer", He.ga K "InvalidStanding", He.ga K "LotError", He.ga K "NoIndex", He.ga K "NoLine", He.ga K "NoPage", He.ga K "NoStart", He.ga K "OnecopyError", He.ga K "Standing", He.ga K "Web"⟩) [] := ⟨_, _, _, [], fn_law_truth F35 T C , He.glo_ok X GN (c.1.fact 34 (f := .glo "_law_truth") rfl), F35.kp, bi_law_truth F35, .nil⟩
  have C_law_fits : C8.Cal P w K mg base 5 "_law_fits" (sp_law_fits K ⟨He.ga K "InvalidPointer", He.ga K "InvalidStanding", He.ga K "LotError", He.ga K "NoIndex", He.ga K "NoLine", He.ga K "NoPage", He.ga K "NoStart", He.ga K "OnecopyError", He.ga K "Standing", He.ga K "Web"⟩) [] := ⟨_, _, _, [], fn_law_fits F36 T C C_Standing_blank_of C_Standing_blanks C_Standing_used C_Web_eq C_law_pages C_law_truth C_law_whole, He.glo_ok X GN (c.1.fact 35 (f := .glo "_law_fits") rfl), F36.kp, bi_law_fits F36, .nil⟩
  have C_law_called : GX.CalX P w K mg base 7 "_law_called" (sp_law_called K ⟨He.ga K "InvalidPointer", He.ga K "InvalidStanding", He.ga K "LotError", He.ga K "NoIndex", He.ga K "NoLine", He.ga K "NoPage", He.ga K "NoStart", He.ga K "OnecopyError", He.ga K "Standing", He.ga K "Web"⟩) := ⟨_, _, _, fn_law_called F37 T C C_Standing_after, He.glo_ok X GN (c.1.fact 36 (f := .glo "_law_called") rfl), F37.kp, bi_law_called F37⟩
  have C_law_refused : C8.Cal P w K mg base 8 "_law_refused" (sp_law_refused K ⟨He.ga K "InvalidPointer", He.ga K "InvalidStanding", He.ga K "LotError", He.ga K "NoIndex", He.ga K "NoLine", He.ga K "NoPage", He.ga K "NoStart", He.ga K "OnecopyError", He.ga K "Standing", He.ga K "Web"⟩) [] := ⟨_, _, _, [], fn_law_refused F38 T C C_law_called, He.glo_ok X GN (c.1.fact 37 (f := .glo "_law_refused") rfl), F38.kp, bi_law_refused F38, .nil⟩
  have C_law_drawn_update : C8.Cal P w K mg base 3 "_law_drawn_update" (sp_law_drawn_update K ⟨He.ga K "InvalidPointer", He.ga K "InvalidStanding", He.ga K "LotError", He.ga K "NoIndex", He.ga K "NoLine", He.ga K "NoPage", He.ga K "NoStart", He.ga K "OnecopyError", He.ga K "Standing", He.ga K "Web"⟩) [] := ⟨_, _, _, [], fn_law_drawn_update F39 T C C_law_draw C_law_outside, He.glo_ok X GN (c.1.fact 38 (f := .glo "_law_drawn_update") rfl), F39.kp, bi_law_drawn_update F39, .nil⟩
  have C_law_update : C8.Cal P w K mg base 9 "_law_update" (sp_law_update K ⟨He.ga K "InvalidPointer", He.ga K "InvalidStanding", He.ga K "LotError", He.ga K "NoIndex", He.ga K "NoLine", He.ga K "NoPage", He.ga K "NoStart", He.ga K "OnecopyError", He.ga K "Standing", He.ga K "Web"⟩) [] := ⟨_, _, _, [], fn_law_update F40 T C C_Standing_blanks C_law_called C_law_drawn_update C_law_fits C_law_pages C_law_refused C_law_uses, He.glo_ok X GN (c.1.fact 39 (f := .glo "_law_update") rfl), F40.kp, bi_law_update F40, .nil⟩
  have C_law_equal : C8.Cal P w K mg base 3 "_law_equal" (sp_law_equal K ⟨He.ga K "InvalidPointer", He.ga K "InvalidStanding", He.ga K "LotError", He.ga K "NoIndex", He.ga K "NoLine", He.ga K "NoPage", He.ga K "NoStart", He.ga K "OnecopyError", He.ga K "Standing", He.ga K "Web"⟩) [] := ⟨_, _, _, [], fn_law_equal F41 T C C_Standing_eq C_law_truth, He.glo_ok X GN (c.1.fact 40 (f := .glo "_law_equal") rfl), F41.kp, bi_law_equal F41, .nil⟩
  have C_law_equality : C8.Cal P w K mg base 6 "_law_equality" (sp_law_equality K ⟨He.ga K "InvalidPointer", He.ga K "InvalidStanding", He.ga K "LotError", He.ga K "NoIndex", He.ga K "NoLine", He.ga K "NoPage", He.ga K "NoStart", He.ga K "OnecopyError", He.ga K "Standing", He.ga K "Web"⟩) [] := ⟨_, _, _, [], fn_law_equality F42 T C C_Standing_eq C_Standing_init C_Web_init C_law_draw C_law_equal, He.glo_ok X GN (c.1.fact 41 (f := .glo "_law_equality") rfl), F42.kp, bi_law_equality F42, .nil⟩
  have C_law_spoilt : C8.Cal P w K mg base 2 "_law_spoilt" (sp_law_spoilt K ⟨He.ga K "InvalidPointer", He.ga K "InvalidStanding", He.ga K "LotError", He.ga K "NoIndex", He.ga K "NoLine", He.ga K "NoPage", He.ga K "NoStart", He.ga K "OnecopyError", He.ga K "Standing", He.ga K "Web"⟩) [] := ⟨_, _, _, [], fn_law_spoilt F43 T C C_law_draw, He.glo_ok X GN (c.1.fact 42 (f := .glo "_law_spoilt") rfl), F43.kp, bi_law_spoilt F43, .nil⟩
  have C_law_invalid : C8.Cal P w K mg base 5 "_law_invalid" (sp_law_invalid K ⟨He.ga K "InvalidPointer", He.ga K "InvalidStanding", He.ga K "LotError", He.ga K "NoIndex", He.ga K "NoLine", He.ga K "NoPage", He.ga K "NoStart", He.ga K "OnecopyError", He.ga K "Standing", He.ga K "Web"⟩) [] := ⟨_, _, _, [], fn_law_invalid F44 T C C_Standing_init, He.glo_ok X GN (c.1.fact 43 (f := .glo "_law_invalid") rfl), F44.kp, bi_law_invalid F44, .nil⟩
  have C_law_wrong_list : C8.Cal P w K mg base 6 "_law_wrong_list" (sp_law_wrong_list K ⟨He.ga K "InvalidPointer", He.ga K "InvalidStanding", He.ga K "LotError", He.ga K "NoIndex", He.ga K "NoLine", He.ga K "NoPage", He.ga K "NoStart", He.ga K "OnecopyError", He.ga K "Standing", He.ga K "Web"⟩) [] := ⟨_, _, _, [], fn_law_wrong_list F45 T C C_law_invalid C_law_pages C_law_spoilt C_law_whole, He.glo_ok X GN (c.1.fact 44 (f := .glo "_law_wrong_list") rfl), F45.kp, bi_law_wrong_list F45, .nil⟩
  have C_law_no_page : C8.Cal P w K mg base 5 "_law_no_page" (sp_law_no_page K ⟨He.ga K "InvalidPointer", He.ga K "InvalidStanding", He.ga K "LotError", He.ga K "NoIndex", He.ga K "NoLine", He.ga K "NoPage", He.ga K "NoStart", He.ga K "OnecopyError", He.ga K "Standing", He.ga K "Web"⟩) [] := ⟨_, _, _, [], fn_law_no_page F46 T C C_Standing_blank_of, He.glo_ok X GN (c.1.fact 45 (f := .glo "_law_no_page") rfl), F46.kp, bi_law_no_page F46, .nil⟩
  exact fn_law F47 T C C_Standing_init C_Standing_blanks C_Standing_fresh C_Web_init C_law_blank C_law_box C_law_equality C_law_fits C_law_lines C_law_no_page C_law_outside C_law_pages C_law_update C_law_web C_law_wrong_list
end G

open PySem PySem.W PySem.Calls PyProof.Rows in
set_option maxRecDepth 100000 in
set_option maxHeartbeats 0 in
theorem PySem.Challenge.cw_onecopy_k02_one_update_holds : PySem.Challenge.rw_onecopy_k02_one_update.Holds := by
  w_on; o_law
  refine HandSHeadRun.head_any (r := OpenLaw.row PySem.Challenge.rw_onecopy_k02_one_update) (q := view (OpenLaw.row PySem.Challenge.rw_onecopy_k02_one_update).prog [49]) (H := G.hkS) (ob := G.obS) (M := 8000) (loose := G.looseS) (d := HandSHeadRun.topDef (OpenLaw.row PySem.Challenge.rw_onecopy_k02_one_update).prog 49) (kwd := []) G.obS_eq
    (by kernel_rfl) (fun s => by kernel_rfl) G.runS (by kernel_rfl) (by kernel_rfl) (by kernel_rfl) (by rfl) (by first | assumption | decide +kernel) (by decide +kernel) ⟨rfl, rfl, rfl, rfl, rfl, by decide +kernel⟩ ?hw ?hc
  case hw => w_witness2
  case hc =>
    refine L2.walk_ofE (l := PySem.Challenge.rw_onecopy_k02_one_update) (n := 63) (k := 10) (x := "script") (CX := L2.CX0) rfl (by decide) (by kernel_rfl) ⟨rfl, by decide, by decide⟩ ?F (fun _ _ _ _ z => z)
    intro w mg fa h Y GN hmg0
    obtain ⟨K, KX, c⟩ := Y
    have hmg : mg ("law" : PySem.Str) = some (.ref fa) := by
      have e : (HandSHeadRun.topDef (OpenLaw.row PySem.Challenge.rw_onecopy_k02_one_update).prog 49).name = ("law" : PySem.Str) := by kernel_rfl
      rw [← e]
      exact hmg0
    obtain ⟨fd, hb, hF⟩ := G.factsS (P := (PySem.Challenge.rw_onecopy_k02_one_update).prog) (w := w) KX GN hmg c
    exact ⟨K, fd, G.sp_law K _, KX, hb, fun H a ns hl _ hS => ⟨a, ns, rfl, hS, hl, fun _ => rfl⟩, hF⟩