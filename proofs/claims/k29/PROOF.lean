import PyProof.Rows.All
import Wide.All
import OpenK.AllK
import Wide.FinOn
import HandS.ForMost
import HandS.Deep
import HandS.Flow
import HandS.IsInst
import HandS.Conv
import HandS.SortRule
import HandS.SortInts
import HandS.SetFor
import HandS.More
import HandS.Codes
import HandS.Style
import HandS.Walk
import HandS.ForExc
import HandS.ExcInit
import HandS.ExcField
import HandS.ExcIs
import HandS.ExcOwn
import HandS.TryOnly
import HandS.WordsExc
import HandS.HotCalls
import HandS.OwnEq
import HandS.Property
import OpenK.KMeth
import KE.KExcIs
import KE.KStateDown
import HandS.Defaults
import HandS.Head0
import HandS.Head1
import HandS.Head2
import HandS.HeadEnd
import HandS.HeadHook1
import HandS.HeadHook2
import HandS.HeadNt
import PySem.Challenge.RW_onecopy_k29_whole_parting
set_option Elab.async false
set_option linter.all false
set_option maxRecDepth 100000
set_option maxHeartbeats 4000000

/-! The ground: relations under names of their own, steps of a reading, facts of heaps. -/
namespace G
open PySem PySem.Spec PyProof.Rows L2

/-! ### relations by name -/
def oAdd : R2 := rI0 fun i j => .int (i + j)
def oSub : R2 := rI0 fun i j => .int (i - j)
def oMul : R2 := rI CMul fun i j => .int (i * j)
def oDiv : R2 := rI CDiv fun i j => .int (i / j)
def oMod : R2 := rI (fun _ j => 0 < j) fun i j => .int (i % j)
def oPow : R2 := rI CPow fun i j => .int (i ^ j.toNat)
def oLt : R2 := rI0 fun i j => .bl (decide (i < j))
def oLe : R2 := rI0 fun i j => .bl (decide (i ≤ j))
def oGt : R2 := rI0 fun i j => .bl (decide (j < i))
def oGe : R2 := rI0 fun i j => .bl (decide (j ≤ i))
def oNeg : V → Hp → VK → Prop := rU fun i => .int (-i)
abbrev RL := List V → Hp → VK → Prop
def oAbs : RL := fun xs H Q => ∃ i, xs = [.int i] ∧ Q (.int (if i < 0 then -i else i)) H
def oMax2 : RL := fun xs H Q => ∃ i j, xs = [.int i, .int j] ∧ Q (.int (if j > i then j else i)) H
def oMin2 : RL := fun xs H Q => ∃ i j, xs = [.int i, .int j] ∧ Q (.int (if j < i then j else i)) H
def oInt : RL := fun xs H Q => (∃ i, xs = [.int i] ∧ Q (.int i) H) ∨ ∃ k, xs = [.bl k] ∧ Q (.int (if k then 1 else 0)) H
def rLenQ (K : PySem.W.Frag) : RL := fun xs H Q => ∃ p ys, xs = [.ref p] ∧ (SqL K H p ys ∨ SqT K H p ys) ∧ Q (.int ys.length) H
def oListOf (K : PySem.W.Frag) : RL := fun xs H Q => ∃ p ys, xs = [.ref p] ∧ (SqL K H p ys ∨ SqT K H p ys) ∧ ∀ l, H l = none → Q (.ref l) (upd H l (.lst ys))
def oListD : RL := fun xs H Q => ∃ d kvs, xs = [V.ref d] ∧ Rd H d (.dT kvs) ∧ ∀ p bs, H p = none → IsKeys H kvs bs → Q (.ref p) (upd H p (.lst (bs.map V.ref)))
def oInsert : V → List V → Hp → VK → Prop := fun x vs H Q => ∃ (l : Addr) (xs : List V) (i : Int) (y : V), x = .ref l ∧ vs = [.int i, y] ∧ H l = some (.lst xs) ∧ xs.length < sizeLine ∧ 0 ≤ i ∧ i < 2 ^ 63 ∧
    Q .non (upd H l (.lst (xs.take i.toNat ++ [y] ++ xs.drop i.toNat)))
def tTruK (K : PySem.W.Frag) (ta : TE) : TT := fun σ H Q => ta σ H fun x H' => ∃ k, TruV K x H' k ∧ Q k H'

theorem hu65 {A : Around} {k : Nat} (hr : Room k A) : A.units + 65 < cLine := by have := hr.un; omega
/-- xs[i] op= e -/
theorem pget_list {X : Cx} : PGet X (rIxL X.K) := by
  intro pn st sg Hh xo yo vo uo Qo Io r1 r2 hyp
  obtain ⟨pp, items, ii, zz, rfl, rfl, hsq, hat, hQ⟩ := hyp
  cases r1
  obtain ⟨tk, rfl⟩ := r2
  obtain ⟨raw, rel, isl, _⟩ := Io.list hsq
  obtain ⟨jj, e1, e2, e3, e4, e5⟩ := atI_get hat
  obtain ⟨ww, e6, rw'⟩ := rel.get e2
  have hlen := rel.length
  have h63 := line63
  have done : EP X pn sg Qo ww st := ⟨zz, Hh, Io, rw', hQ⟩
  by_cases hn : 0 ≤ ii
  · have ej : ii.toNat = jj := by
      rw [seqIndex_of hn e5] at e1; exact Option.some.inj e1
    exact wpAny_getItem_list isl.isList hn (by omega) (by rw [ej]; simpa using e6) done
  · have ej : (ii + (raw.toArray.size : Int)).toNat = jj := by
      rw [seqIndex_neg (by omega) e4] at e1; rw [List.size_toArray, ← hlen]; exact Option.some.inj e1
    exact wpAny_getItem_list_neg isl.isList (by omega) (by rw [List.size_toArray] <;> omega) (by omega) (by rw [ej]; simpa using e6) done

/-! ### heaps -/
section
variable {H H' H1 H2 H3 : Hp} {p q s : Addr} {o o' : HO}
theorem keep (h : H q = some o) (hp : H p = none) : upd H p o' q = some o := by rw [upd_ne (ne_of_none h hp)]; exact h
theorem keepNe (h : H q = some o) (hp : q ≠ p) : upd H p o' q = some o := by rw [upd_ne hp]; exact h
theorem same_new (h : H p = none) : Same H (upd H p o) := fun _ _ e => keep e h
theorem same_mut (e : Same H H') (h : H p = none) : Same H (upd H' p o) := fun b u hb => by rw [upd_ne (ne_of_none hb h)]; exact e b u hb
/-- all that was tracked is as it was, s aside -/
def But (s : Addr) (H H' : Hp) : Prop := ∀ b o, b ≠ s → H b = some o → H' b = some o
theorem But.refl : But s H H := fun _ _ _ h => h
theorem Same.but (e : Same H H') : But s H H' := fun b o _ h => e b o h
theorem But.trans (a : But s H H1) (b : But s H1 H2) : But s H H2 := fun c o n h => b c o n (a c o n h)
theorem But.new (e : But s H H') (h : H' p = none) : But s H (upd H' p o) := fun b u n hb => keep (e b u n hb) h
theorem But.mut (e : But s H H') (h : H p = none) : But s H (upd H' p o) := fun b u n hb => by rw [upd_ne (ne_of_none hb h)]; exact e b u n hb
theorem But.self (e : But s H H') : But s H (upd H' s o) := fun b u n hb => by rw [upd_ne n]; exact e b u n hb
theorem But.free (e : But s H H') (h : H s = some o) (hs : H' s = some o') (hp : H' p = none) : H p = none := by
  cases q : H p with
  | none => rfl
  | some u =>
    by_cases hn : p = s
    · rw [hn, hs] at hp; cases hp
    · rw [e p u hn q] at hp; cases hp
theorem SqL.same {K : PySem.W.Frag} {xs : List V} (h : SqL K H p xs) (e : Same H H') : SqL K H' p xs := e.seq h
theorem SqL.but {K : PySem.W.Frag} {xs ys : List V} (e : But s H H') (hs : H s = some (.lst ys)) (hn : p ≠ s) (h : SqL K H p xs) : SqL K H' p xs := by
  rcases h with (h | ⟨o, h⟩) | h
  · exact .inl (.inl (e _ _ hn h))
  · exact .inl (.inr ⟨o, e _ _ hn h⟩)
  · exact .inr h
end

/-! ### steps -/
section
variable {K : PySem.W.Frag} {σ : L2.St} {H : Hp} {Q : VK} {D : Ends} {v x y : V} {i : Nat} {ta tb tc te tv to ti : TE} {t u : TS} {tt tu : TT} {tl tr : TA} {p C dx : Addr}
theorem w_seq (h : t { D with nx := u D } σ H) : tSeq t u D σ H := h
theorem w_next (h : D.nx σ H) : tNext D σ H := h
theorem w_ret (h : te σ H D.rt) : tRet te D σ H := h
theorem w_retN (h : D.rt .non H) : tRetN D σ H := h
theorem w_drop (h : te σ H fun _ H1 => D.nx σ H1) : tDrop te D σ H := h
theorem w_brk (h : D.bk σ H) : tBreak D σ H := h
theorem w_cont (h : D.ct σ H) : tCont D σ H := h
theorem w_asg {g : TG} (h : te σ H fun x H1 => g x σ H1 D.nx) : tAsg te g D σ H := h
theorem w_name {R : L2.St → Hp → Prop} (h : R (σ.set i (some v)) H) : gName i v σ H R := h
theorem w_sub {R : L2.St → Hp → Prop} {ts : TSet} (h : to σ H fun o H1 => ti σ H1 fun j H2 => ts o j v H2 fun H3 => R σ H3) : gSub to ti ts v σ H R := h
theorem w_setL {R : Hp → Prop} {xs : List V} {k : Int} {j : Nat} (h : H p = some (.lst xs)) (hj : ixN xs.length k = some j) (q : R (upd H p (.lst (xs.set j v)))) : rSetL (.ref p) (.int k) v H R := ⟨p, xs, k, j, rfl, rfl, h, hj, q⟩
theorem w_var (h : σ[i]? = some (some v)) (q : Q v H) : tVar i σ H Q := ⟨v, h, q⟩
theorem w_c (q : Q v H) : tC v σ H Q := q
theorem w_op {r : R2} (h : ta σ H fun x H1 => tb σ H1 fun y H2 => r x y H2 Q) : tOp r ta tb σ H Q := h
theorem w_un {r : V → Hp → VK → Prop} (h : ta σ H fun x H1 => r x H1 Q) : tUn r ta σ H Q := h
theorem w_oAdd {a b : Int} (q : Q (.int (a + b)) H) : oAdd (.int a) (.int b) H Q := ⟨a, b, rfl, rfl, q⟩
theorem w_oSub {a b : Int} (q : Q (.int (a - b)) H) : oSub (.int a) (.int b) H Q := ⟨a, b, rfl, rfl, q⟩
theorem w_oMulL {a b : Int} (h0 : -18446744073709551616 < a) (h1 : a < 18446744073709551616) (q : Q (.int (a * b)) H) : oMul (.int a) (.int b) H Q := ⟨a, b, rfl, rfl, .inl ⟨h0, h1⟩, q⟩
theorem w_oMulR {a b : Int} (h0 : -18446744073709551616 < b) (h1 : b < 18446744073709551616) (q : Q (.int (a * b)) H) : oMul (.int a) (.int b) H Q := ⟨a, b, rfl, rfl, .inr ⟨h0, h1⟩, q⟩
theorem w_oDiv {a b : Int} (h0 : 0 < b) (h1 : b < 1073741824) (q : Q (.int (a / b)) H) : oDiv (.int a) (.int b) H Q := ⟨a, b, rfl, rfl, ⟨h0, h1⟩, q⟩
theorem w_oMod {a b : Int} (hc : 0 < b) (q : Q (.int (a % b)) H) : oMod (.int a) (.int b) H Q := ⟨a, b, rfl, rfl, hc, q⟩
theorem w_oPow {a b : Int} (h0 : 0 ≤ b) (h1 : b ≤ 1000000) (h2 : a.natAbs < 18446744073709551616) (q : Q (.int (a ^ b.toNat)) H) : oPow (.int a) (.int b) H Q := ⟨a, b, rfl, rfl, ⟨h0, h1, h2⟩, q⟩
theorem w_oLt {a b : Int} (q : Q (.bl (decide (a < b))) H) : oLt (.int a) (.int b) H Q := ⟨a, b, rfl, rfl, q⟩
theorem w_oLe {a b : Int} (q : Q (.bl (decide (a ≤ b))) H) : oLe (.int a) (.int b) H Q := ⟨a, b, rfl, rfl, q⟩
theorem w_oGt {a b : Int} (q : Q (.bl (decide (b < a))) H) : oGt (.int a) (.int b) H Q := ⟨a, b, rfl, rfl, q⟩
theorem w_oGe {a b : Int} (q : Q (.bl (decide (b ≤ a))) H) : oGe (.int a) (.int b) H Q := ⟨a, b, rfl, rfl, q⟩
theorem w_oNeg {a : Int} (q : Q (.int (-a)) H) : oNeg (.int a) H Q := ⟨a, rfl, q⟩
theorem w_eqI {a b : Int} (q : Q (.bl (decide (a = b))) H) : rEq (.int a) (.int b) H Q := ⟨rfl, by
  have e : (decide (V.int a = V.int b)) = decide (a = b) := by simp
  rw [e]; exact q⟩
theorem w_neI {a b : Int} (q : Q (.bl (!decide (a = b))) H) : rNe (.int a) (.int b) H Q := ⟨rfl, by
  have e : (decide (V.int a = V.int b)) = decide (a = b) := by simp
  rw [e]; exact q⟩
theorem w_eqB {a b : Bool} (q : Q (.bl (decide (a = b))) H) : rEq (.bl a) (.bl b) H Q := ⟨rfl, by
  have e : (decide (V.bl a = V.bl b)) = decide (a = b) := by simp
  rw [e]; exact q⟩
theorem w_chain {r r' : R2} (h : ta σ H fun x H1 => tb σ H1 fun y H2 => r x y H2 fun z H3 => ∃ k, z = .bl k ∧ (if k = true then tc σ H3 fun w' H4 => r' y w' H4 Q else Q (.bl false) H3)) : tChain r r' ta tb tc σ H Q := h
/-- a known answer -/
theorem w_ex {P : Bool → Prop} {b : Bool} (q : P b) : ∃ k, V.bl b = .bl k ∧ P k := ⟨b, rfl, q⟩
theorem w_test {Qb : Bool → Hp → Prop} (h : te σ H fun x H' => ∃ k, x = .bl k ∧ Qb k H') : tTest te σ H Qb := h
theorem w_tB {Qb : Bool → Hp → Prop} (h : te σ H fun x H' => ∃ k, x = .bl k ∧ Qb k H') : tB te σ H Qb := h
theorem w_and {Qb : Bool → Hp → Prop} (h : tt σ H fun c H1 => if c = true then tu σ H1 Qb else Qb false H1) : tAnd tt tu σ H Qb := h
theorem w_or {Qb : Bool → Hp → Prop} (h : tt σ H fun c H1 => if c = true then Qb true H1 else tu σ H1 Qb) : tOr tt tu σ H Qb := h
theorem w_not {Qb : Bool → Hp → Prop} (h : tt σ H fun c H1 => Qb (!c) H1) : tNot tt σ H Qb := h
theorem w_andV (h : ta σ H fun x H1 => ∃ c, x = .bl c ∧ (if c = true then tb σ H1 Q else Q (.bl false) H1)) : tAndV ta tb σ H Q := h
theorem w_orV (h : ta σ H fun x H1 => ∃ c, x = .bl c ∧ (if c = true then Q (.bl true) H1 else tb σ H1 Q)) : tOrV ta tb σ H Q := h
theorem w_notV (h : ta σ H fun x H1 => ∃ c, x = .bl c ∧ Q (.bl (!c)) H1) : tNotV ta σ H Q := h
theorem w_if (h : tt σ H fun b H1 => if b = true then t D σ H1 else u D σ H1) : tIfS tt t u D σ H := h
theorem w_ifE (h : tt σ H fun c H1 => if c = true then ta σ H1 Q else tb σ H1 Q) : tIf tt ta tb σ H Q := h
theorem w_nil {Ql : List V → Hp → Prop} (h : Ql [] H) : tNil σ H Ql := h
theorem w_cons {Ql : List V → Hp → Prop} (h : ta σ H fun x H1 => tr σ H1 fun xs H2 => Ql (x :: xs) H2) : tCons ta tr σ H Ql := h
theorem w_tup (h : tl σ H fun xs H1 => xs.length ≤ sizeLine ∧ ∀ p, H1 p = none → Q (.ref p) (upd H1 p (.tup xs))) : tTup tl σ H Q := h
theorem w_lst (h : tl σ H fun xs H1 => xs.length ≤ sizeLine ∧ ∀ p, H1 p = none → Q (.ref p) (upd H1 p (.lst xs))) : tLst tl σ H Q := h
theorem w_small {n : Nat} {P : Prop} (hn : n ≤ 100) (h : P) : n ≤ sizeLine ∧ P := ⟨Nat.le_trans hn (by decide), h⟩
theorem w_call {sp : Sp} {E : XK} (h : tl σ H fun vs H1 => sp vs H1 Q E) : tCall sp [] E tl σ H Q := by
  show tl σ H fun vs H1 => sp (vs ++ []) H1 Q E
  simp only [List.append_nil]; exact h
theorem w_meth {sp : Sp} {m : Str} {E : XK} (h : ta σ H fun x H1 => ∃ a dx fs, x = .ref a ∧ H1 a = some (.ins C dx fs) ∧ fs.lookup m = none ∧ tl σ H1 fun vs H2 => sp (x :: vs) H2 Q E) : tMeth C m sp [] E ta tl σ H Q := by
  show ta σ H fun x H1 => ∃ a dx fs, x = .ref a ∧ H1 a = some (.ins C dx fs) ∧ fs.lookup m = none ∧ tl σ H1 fun vs H2 => sp (x :: (vs ++ [])) H2 Q E
  simp only [List.append_nil]; exact h
theorem w_make {sp : Sp} {E : XK} (h : tl σ H fun vs H1 => ∀ x dx, H1 x = none → H1 dx = none → dx ≠ x → sp (.ref x :: vs) (upd (upd H1 dx (.own x)) x (.ins C dx [])) (fun v H2 => v = .non ∧ Q (.ref x) H2) E) : tMake C sp [] E tl σ H Q := by
  show tl σ H fun vs H1 => ∀ x dx, H1 x = none → H1 dx = none → dx ≠ x → sp (.ref x :: (vs ++ [])) (upd (upd H1 dx (.own x)) x (.ins C dx [])) (fun v H2 => v = .non ∧ Q (.ref x) H2) E
  simp only [List.append_nil]; exact h
theorem w_cb {r : RL} (h : tl σ H fun vs H1 => r vs H1 Q) : tCB r tl σ H Q := h
theorem w_oInt {a : Int} (q : Q (.int a) H) : oInt [.int a] H Q := .inl ⟨a, rfl, q⟩
theorem w_oAbs {a : Int} (q : Q (.int (if a < 0 then -a else a)) H) : oAbs [.int a] H Q := ⟨a, rfl, q⟩
theorem w_oMax2 {a b : Int} (q : Q (.int (if b > a then b else a)) H) : oMax2 [.int a, .int b] H Q := ⟨a, b, rfl, q⟩
theorem w_oMin2 {a b : Int} (q : Q (.int (if b < a then b else a)) H) : oMin2 [.int a, .int b] H Q := ⟨a, b, rfl, q⟩
theorem w_lenL {xs : List V} (h : SqL K H p xs) (q : Q (.int xs.length) H) : rLenQ K [.ref p] H Q := ⟨p, xs, rfl, .inl h, q⟩
theorem w_listL {xs : List V} (h : SqL K H p xs) (q : ∀ l, H l = none → Q (.ref l) (upd H l (.lst xs))) : oListOf K [.ref p] H Q := ⟨p, xs, rfl, .inl h, q⟩
theorem w_ixL {xs : List V} {k : Int} (h : SqL K H p xs) (ha : atI xs k = some v) (q : Q v H) : rIxL K (.ref p) (.int k) H Q := ⟨p, xs, k, v, rfl, rfl, h, ha, q⟩
theorem w_ixT {xs : List V} {k : Int} (h : H p = some (.tup xs)) (ha : atI xs k = some v) (q : Q v H) : rIxT K (.ref p) (.int k) H Q := ⟨p, xs, k, v, rfl, rfl, .inl (.inl h), ha, q⟩
theorem w_fld {f : Str} (h : ta σ H fun x H1 => ∃ a C dx fs v, x = .ref a ∧ H1 a = some (.ins C dx fs) ∧ Cls K C ∧ NoAttr K C f ∧ fs.lookup f = some v ∧ Q v H1) : tFld K ta f σ H Q := h
theorem w_bm {Tn : String} {r : V → List V → Hp → VK → Prop} (h : to σ H fun x H1 => tyV K Tn x H1 ∧ tl σ H1 fun xs H2 => r x xs H2 Q) : tBM K Tn r to tl σ H Q := h
theorem w_bm0 {Tn : String} {r : V → List V → Hp → VK → Prop} (h : to σ H fun x H1 => tyV K Tn x H1 ∧ r x [] H1 Q) : tBM0 K Tn r to σ H Q := h
theorem w_tyL {P : Prop} {xs : List V} (h : SqL K H p xs) (q : P) : tyV K "list" (.ref p) H ∧ P := ⟨.inl ⟨rfl, xs, h⟩, q⟩
theorem w_append {xs : List V} (h : H p = some (.lst xs)) (hl : xs.length < sizeLine) (q : Q .non (upd H p (.lst (xs ++ [v])))) : rAppend (.ref p) [v] H Q := ⟨p, xs, v, rfl, rfl, h, hl, q⟩
theorem w_cat {b : Addr} {xs ys : List V} (h : H p = some (.lst xs)) (hb : H b = some (.lst ys)) (hl : xs.length + ys.length ≤ sizeLine) (q : ∀ l, H l = none → Q (.ref l) (upd H l (.lst (xs ++ ys)))) : rCat (.ref p) (.ref b) H Q := ⟨p, b, xs, ys, rfl, rfl, h, hb, hl, q⟩
theorem w_sl {r : V → Option Int → Option Int → Hp → VK → Prop} {lo hi : TO} (h : te σ H fun x H1 => lo σ H1 fun l H2 => hi σ H2 fun u H3 => r x l u H3 Q) : tSl r te lo hi σ H Q := h
theorem w_noPart {R : Option Int → Hp → Prop} (h : R none H) : tNoPart σ H R := h
theorem w_part {R : Option Int → Hp → Prop} (h : te σ H fun x H1 => ∃ i, x = .int i ∧ R (some i) H1) : tPart te σ H R := h
theorem w_exI {P : Int → Prop} {a : Int} (q : P a) : ∃ k, V.int a = .int k ∧ P k := ⟨a, rfl, q⟩
theorem w_slL {xs : List V} {lo hi : Option Int} (h : SqL K H p xs) (q : ∀ l, H l = none → Q (.ref l) (upd H l (.lst (cutV xs lo hi)))) : rSlL K (.ref p) lo hi H Q := ⟨p, xs, rfl, h, q⟩
theorem w_gNil {R : L2.St → Hp → Prop} (h : R σ H) : gNil [] σ H R := ⟨rfl, h⟩
theorem w_gCons {R : L2.St → Hp → Prop} {g : TG} {gs : TGs} {vs : List V} (h : g v σ H fun σ' H' => gs vs σ' H' R) : gCons g gs (v :: vs) σ H R := ⟨v, vs, rfl, h⟩
theorem w_gTup {R : L2.St → Hp → Prop} {n : Nat} {gs : TGs} {vs : List V} (h : H p = some (.tup vs)) (hn : vs.length = n) (q : gs vs σ H R) : gTup K n gs (.ref p) σ H R := ⟨p, vs, rfl, .inl (.inl h), hn, q⟩
theorem w_listRg {te : L2.St → Hp → (Int → Int → Hp → Prop) → Prop} (h : te σ H fun a b H1 => RgOk a b ∧ ∀ q, H1 q = none → Q (.ref q) (upd H1 q (.lst (rgV a b)))) : tLstRg te σ H Q := h
theorem w_rg1 {R : Int → Int → Hp → Prop} (h : ta σ H fun x H1 => ∃ n, x = .int n ∧ R 0 n H1) : tRg1 ta σ H R := h
theorem w_augS {tget : V → V → Hp → VK → Prop} {tip : TIp} {ts : TSet} (h : to σ H fun o H1 => ti σ H1 fun i H2 => tget o i H2 fun x H3 => te σ H3 fun y H4 => tip x y H4 fun z H5 => ts o i z H5 fun H6 => D.nx σ H6) : tAugS to ti te tget tip ts D σ H := h
theorem w_ipI {f : Int → Int → Int} {a b : Int} (q : Q (.int (f a b)) H) : ipI f (.int a) (.int b) H Q := ⟨a, b, rfl, rfl, q⟩
theorem w_sum {xs : List Int} (h : SqL K H p (xs.map V.int)) (q : Q (.int xs.sum) H) : rSum K [.ref p] H Q := ⟨p, xs, rfl, h, q⟩
theorem w_iteD {A B : Prop} {c : Prop} [Decidable c] (h1 : c → A) (h2 : ¬ c → B) : if decide c = true then A else B := by
  by_cases h : c
  · rw [decide_eq_true h]; exact h1 h
  · rw [decide_eq_false h, if_neg Bool.false_ne_true]; exact h2 h
theorem w_iteN {A B : Prop} {c : Prop} [Decidable c] (h1 : ¬ c → A) (h2 : c → B) : if (!decide c) = true then A else B := by
  by_cases h : c
  · rw [decide_eq_true h]; exact h2 h
  · rw [decide_eq_false h]; exact h1 h
theorem w_iteT {A B : Prop} (h : A) : if true = true then A else B := h
theorem w_iteF {A B : Prop} (h : B) : if false = true then A else B := by rw [if_neg Bool.false_ne_true]; exact h

theorem w_cut (M : L2.St → Hp → Prop) (h1 : t { D with nx := M } σ H) (h2 : ∀ σ1 H1, M σ1 H1 → u D σ1 H1) : C8.tCut t u D σ H := ⟨M, h1, h2⟩
theorem w_yes {R : Bool → Hp → Prop} (q : R true H) : tYes σ H R := q
theorem w_exA {P : Int → Prop} {n : Int} (q : P n) : ∃ m, [V.int n] = [V.int m] ∧ P m := ⟨n, rfl, q⟩
theorem w_exA2 {P : Int → Int → Prop} {n m : Int} (q : P n m) : ∃ a b, [V.int n, V.int m] = [V.int a, V.int b] ∧ P a b := ⟨n, m, rfl, q⟩
theorem w_exR {P : Addr → Prop} (q : P p) : ∃ m, V.ref p = .ref m ∧ P m := ⟨p, rfl, q⟩
theorem w_exRA {P : Addr → Prop} (q : P p) : ∃ m, [V.ref p] = [.ref m] ∧ P m := ⟨p, rfl, q⟩
theorem w_exRA2 {P : Addr → Addr → Prop} {p2 : Addr} (q : P p p2) : ∃ m m2, [V.ref p, .ref p2] = [.ref m, .ref m2] ∧ P m m2 := ⟨p, p2, rfl, q⟩
theorem w_acc {xs : List V} {P : List V → Prop} (h : H p = some (.lst xs)) (hl : xs.length < sizeLine) (q : P xs) : ∃ acc, H p = some (.lst acc) ∧ acc.length < sizeLine ∧ P acc := ⟨xs, h, hl, q⟩
theorem w_fld2 {P : V → Prop} {f : Str} {fs : List (Str × V)} (h : H p = some (.ins C dx fs)) (hc : Cls K C) (hn : NoAttr K C f) (hl : fs.lookup f = some v) (q : P v) :
    ∃ a C dx fs w, V.ref p = .ref a ∧ H a = some (.ins C dx fs) ∧ Cls K C ∧ NoAttr K C f ∧ fs.lookup f = some w ∧ P w := ⟨p, C, dx, fs, v, rfl, h, hc, hn, hl, q⟩
theorem w_mth {P : Addr → Prop} {m : Str} {fs : List (Str × V)} (h : H p = some (.ins C dx fs)) (hl : fs.lookup m = none) (q : P p) :
    ∃ a dx fs, V.ref p = .ref a ∧ H a = some (.ins C dx fs) ∧ fs.lookup m = none ∧ P p := ⟨p, dx, fs, rfl, h, hl, q⟩
theorem w_sfld {f : Str} (h : tv σ H fun y H1 => to σ H1 fun x H2 => ∃ a C dx fs, x = .ref a ∧ H2 a = some (.ins C dx fs) ∧ Cls K C ∧ NoAttr K C f ∧ fs.length < 1000 ∧ D.nx σ (upd H2 a (.ins C dx (putF f y fs)))) : sFld K to tv f D σ H := h
theorem w_sfld2 {P : Hp → Prop} {f : Str} {fs : List (Str × V)} (h : H p = some (.ins C dx fs)) (hc : Cls K C) (hn : NoAttr K C f) (hl : fs.length < 1000) (q : P (upd H p (.ins C dx (putF f v fs)))) :
    ∃ a C dx fs, V.ref p = .ref a ∧ H a = some (.ins C dx fs) ∧ Cls K C ∧ NoAttr K C f ∧ fs.length < 1000 ∧ P (upd H a (.ins C dx (putF f v fs))) := ⟨p, C, dx, fs, rfl, h, hc, hn, hl, q⟩
theorem w_never (h : False) : tNever D σ H := h
theorem w_augName {ti : TIp} (h : σ[i]? = some (some v)) (q : te σ H fun y H1 => ti v y H1 fun z H2 => D.nx (σ.set i (some z)) H2) : tAug i te ti D σ H := ⟨v, h, q⟩

theorem at0 {a : V} {r : List V} : atI (a :: r) 0 = some a := atI_nat (xs := a :: r) (j := 0) rfl
theorem at1 {a b : V} {r : List V} : atI (a :: b :: r) 1 = some b := atI_nat (xs := a :: b :: r) (j := 1) rfl
theorem at2 {a b c : V} {r : List V} : atI (a :: b :: c :: r) 2 = some c := atI_nat (xs := a :: b :: c :: r) (j := 2) rfl
theorem at3 {a b c d : V} {r : List V} : atI (a :: b :: c :: d :: r) 3 = some d := atI_nat (xs := a :: b :: c :: d :: r) (j := 3) rfl
theorem at4 {a b c d e : V} {r : List V} : atI (a :: b :: c :: d :: e :: r) 4 = some e := atI_nat (xs := a :: b :: c :: d :: e :: r) (j := 4) rfl
theorem ixn {n : Nat} {k : Int} {j : Nat} (e : k = (j : Int)) (h : j < n) : ixN n k = some j := by
  unfold ixN; rw [e, if_pos (by omega), if_pos (by omega)]; simp
theorem ix0 {a : V} {r : List V} : ixN (a :: r).length 0 = some 0 := ixn rfl (by simp)
theorem ix1 {a b : V} {r : List V} : ixN (a :: b :: r).length 1 = some 1 := ixn rfl (by simp)
theorem ix2 {a b c : V} {r : List V} : ixN (a :: b :: c :: r).length 2 = some 2 := ixn rfl (by simp)
theorem atn {xs : List V} {k : Int} {j : Nat} {v : V} (e : k = (j : Int)) (h : xs[j]? = some v) : atI xs k = some v := by rw [e]; exact atI_nat h
theorem ati {xs : List Int} {k : Int} (h0 : 0 ≤ k) (h1 : k < xs.length) : atI (xs.map V.int) k = some (V.int (xs.getD k.toNat 0)) := by
  refine atn (j := k.toNat) (by omega) ?_
  rw [List.getElem?_map, List.getElem?_eq_getElem (by omega), List.getD_eq_getElem?_getD, List.getElem?_eq_getElem (by omega)]; rfl

/-! ### loops -/
/-- a loop whose iterator has come -/
def ForW (J : It) (g : TG) (tb : TS) (D : Ends) (σ : L2.St) (H : Hp) : Prop := tFor (fun _ H R => R J H) g tb D σ H
theorem w_forR1 {g : TG} {tb : TS} (h : tl σ H fun vs H1 => ∃ n : Int, vs = [.int n] ∧ -(2 ^ 62) ≤ n ∧ n < 2 ^ 62 ∧ ForW (Itr 0 n.toNat) g tb D σ H1) : tFor (iRng1 tl) g tb D σ H := h
theorem w_forR2 {g : TG} {tb : TS} (h : tl σ H fun vs H1 => ∃ m n : Int, vs = [.int m, .int n] ∧ (-(2 ^ 62) ≤ m ∧ m < 2 ^ 62 ∧ -(2 ^ 62) ≤ n ∧ n < 2 ^ 62) ∧ ForW (Itr m (n - m).toNat) g tb D σ H1) : tFor (iRng2 tl) g tb D σ H := h
theorem w_forL {g : TG} {tb : TS} (h : te σ H fun x H1 => ∃ a, x = .ref a ∧ (∃ xs, SqL K H1 a xs) ∧ ForW (Itl K a) g tb D σ H1) : tFor (iList K te) g tb D σ H := h
theorem w_forZ {g : TG} {tb : TS} (h : tl σ H fun vs H1 => ∃ a b xs ys, vs = [.ref a, .ref b] ∧ SqL K H1 a xs ∧ SqL K H1 b ys ∧ ForW (Itz K a b) g tb D σ H1) : tFor (iZip K tl) g tb D σ H := h
theorem w_forE {g : TG} {tb : TS} (h : tl σ H fun vs H1 => ∃ a xs, vs = [.ref a] ∧ SqL K H1 a xs ∧ ForW (Ite K a) g tb D σ H1) : tFor (iEnum K tl) g tb D σ H := h
theorem w_bd1 {n : Int} {P : Prop} (h0 : -4611686018427387904 ≤ n) (h1 : n < 4611686018427387904) (q : P) : -(2 ^ 62) ≤ n ∧ n < 2 ^ 62 ∧ P := ⟨by omega, by omega, q⟩
theorem w_bd2 {m n : Int} {P : Prop} (h0 : -4611686018427387904 ≤ m) (h1 : m < 4611686018427387904) (h2 : -4611686018427387904 ≤ n) (h3 : n < 4611686018427387904) (q : P) : (-(2 ^ 62) ≤ m ∧ m < 2 ^ 62 ∧ -(2 ^ 62) ≤ n ∧ n < 2 ^ 62) ∧ P := ⟨⟨by omega, by omega, by omega, by omega⟩, q⟩
theorem w_sqE {xs : List V} {P : Prop} (h : SqL K H p xs) (q : P) : (∃ ys, SqL K H p ys) ∧ P := ⟨⟨xs, h⟩, q⟩
theorem forR {lo : Int} {n : Nat} {g : TG} {tb : TS} (Pv : Nat → L2.St → Hp → Prop) (h0 : Pv 0 σ H)
    (hs : ∀ i σ1 H1, i < n → Pv i σ1 H1 → g (.int (lo + i)) σ1 H1 fun σ2 H2 => tb { D with nx := Pv (i + 1), ct := Pv (i + 1), bk := D.nx } σ2 H2) (hd : ∀ σ1 H1, Pv n σ1 H1 → D.nx σ1 H1) : ForW (Itr lo n) g tb D σ H := for_range Pv h0 hs hd
theorem forL {a : Addr} {xs : List V} {g : TG} {tb : TS} (Pv : Nat → L2.St → Hp → Prop) (h0 : Pv 0 σ H) (hl : ∀ i σ1 H1, i ≤ xs.length → Pv i σ1 H1 → SqL K H1 a xs)
    (hs : ∀ i x σ1 H1, xs[i]? = some x → Pv i σ1 H1 → g x σ1 H1 fun σ2 H2 => tb { D with nx := Pv (i + 1), ct := Pv (i + 1), bk := D.nx } σ2 H2) (hd : ∀ σ1 H1, Pv xs.length σ1 H1 → D.nx σ1 H1) : ForW (Itl K a) g tb D σ H := for_list (xs := xs) Pv h0 hl hs hd
/-- a comprehension whose iterator has come -/
def LcW (J : It) (g : TG) (tt : TT) (te : TE) (vs : List Nat) (σ : L2.St) (H : Hp) (Q : VK) : Prop := tLc (fun _ H R => R J H) g tt te vs σ H Q
theorem w_lcR1 {g : TG} {vs : List Nat} (h : tl σ H fun us H1 => ∃ n : Int, us = [.int n] ∧ -(2 ^ 62) ≤ n ∧ n < 2 ^ 62 ∧ LcW (Itr 0 n.toNat) g tt te vs σ H1 Q) : tLc (iRng1 tl) g tt te vs σ H Q := h
theorem w_lcL {g : TG} {vs : List Nat} {tz : TE} (h : tz σ H fun x H1 => ∃ a, x = .ref a ∧ (∃ xs, SqL K H1 a xs) ∧ LcW (Itl K a) g tt te vs σ H1 Q) : tLc (iList K tz) g tt te vs σ H Q := h
/-- one turn of a comprehension -/
def LcT (tt : TT) (te : TE) (Dl : Addr) (N : Hp → Prop) (σ : L2.St) (H : Hp) : Prop := tt σ H fun b H3 =>
  if b = true then te σ H3 fun y H4 => ∃ acc, H4 Dl = some (.lst acc) ∧ acc.length < sizeLine ∧ N (upd H4 Dl (.lst (acc ++ [y]))) else N H3
theorem lcR {lo : Int} {n : Nat} {g : TG} {vs : List Nat} (Pv : Addr → Nat → Hp → Prop) (h0 : ∀ Dl, H Dl = none → Pv Dl 0 (upd H Dl (.lst [])))
    (hs : ∀ Dl i H1, H Dl = none → i < n → Pv Dl i H1 → g (.int (lo + i)) (wipe σ vs) H1 fun σ2 H2 => wipe σ2 vs = wipe σ vs ∧ LcT tt te Dl (Pv Dl (i + 1)) σ2 H2) (hd : ∀ Dl H1, H Dl = none → Pv Dl n H1 → Q (.ref Dl) H1) : LcW (Itr lo n) g tt te vs σ H Q :=
  fun Dl hD => lc_range (Pv Dl) (h0 Dl hD) (fun i H1 hi p => hs Dl i H1 hD hi p) (fun H1 p => hd Dl H1 hD p)
theorem lcL {a : Addr} {xs : List V} {g : TG} {vs : List Nat} (Pv : Addr → Nat → Hp → Prop) (h0 : ∀ Dl, H Dl = none → Pv Dl 0 (upd H Dl (.lst []))) (hl : ∀ Dl i H1, H Dl = none → i ≤ xs.length → Pv Dl i H1 → SqL K H1 a xs)
    (hs : ∀ Dl i x H1, H Dl = none → xs[i]? = some x → Pv Dl i H1 → g x (wipe σ vs) H1 fun σ2 H2 => wipe σ2 vs = wipe σ vs ∧ LcT tt te Dl (Pv Dl (i + 1)) σ2 H2) (hd : ∀ Dl H1, H Dl = none → Pv Dl xs.length H1 → Q (.ref Dl) H1) : LcW (Itl K a) g tt te vs σ H Q :=
  fun Dl hD => lc_list (K := K) (a := a) (xs := xs) (Pv Dl) (h0 Dl hD) (fun i H1 hi p => hl Dl i H1 hD hi p) (fun i x H1 hx p => hs Dl i x H1 hD hx p) (fun H1 p => hd Dl H1 hD p)
theorem w_lcT {Dl : Addr} {N : Hp → Prop} (h : te σ H fun y H4 => ∃ acc, H4 Dl = some (.lst acc) ∧ acc.length < sizeLine ∧ N (upd H4 Dl (.lst (acc ++ [y])))) : LcT tYes te Dl N σ H := h
theorem w_lcTif {Dl : Addr} {N : Hp → Prop} (h : tt σ H fun b H3 => if b = true then (te σ H3 fun y H4 => ∃ acc, H4 Dl = some (.lst acc) ∧ acc.length < sizeLine ∧ N (upd H4 Dl (.lst (acc ++ [y])))) else N H3) : LcT tt te Dl N σ H := h
theorem w_wipe {σ1 : L2.St} {P : Prop} (h : σ = σ1) (q : P) : σ = σ1 ∧ P := ⟨h, q⟩
end
/-! ### sources of draws: lists of three ints -/
section
variable {H H' H1 H2 H3 : Hp} {p q s : Addr} {o o' : HO} {xs : List V}
def Src (H : Hp) (s : Addr) : Prop := ∃ x y z u : Int, H s = some (.lst [.int x, .int y, .int z, .int u])
theorem Src.ex (h : Src H s) : ∃ xs, H s = some (.lst xs) := let ⟨_, _, _, _, e⟩ := h; ⟨_, e⟩
theorem Src.neFree (h : Src H s) (hq : H q = none) : q ≠ s := fun e => by obtain ⟨_, _, _, _, hs⟩ := h; rw [e, hs] at hq; cases hq
theorem Src.neTup {xs : List V} (h : Src H s) (hq : H q = some (.tup xs)) : q ≠ s := fun e => by obtain ⟨_, _, _, _, hs⟩ := h; rw [e, hs] at hq; cases hq
theorem Src.neIns {C dx : Addr} {fs : List (Str × V)} (h : Src H s) (hq : H q = some (.ins C dx fs)) : q ≠ s := fun e => by obtain ⟨_, _, _, _, hs⟩ := h; rw [e, hs] at hq; cases hq
theorem Src.new (h : Src H s) (hp : H p = none) : Src (upd H p o) s := let ⟨x, y, z, u, e⟩ := h; ⟨x, y, z, u, keep e hp⟩
theorem Src.mut (h : Src H s) (hp : p ≠ s) : Src (upd H p o) s := let ⟨x, y, z, u, e⟩ := h; ⟨x, y, z, u, keepNe e hp.symm⟩
theorem Src.same (e : Same H H') (h : Src H s) : Src H' s := let ⟨x, y, z, u, q⟩ := h; ⟨x, y, z, u, e _ _ q⟩
theorem But.at (b : But s H H') (hn : q ≠ s) (h : H q = some o) : H' q = some o := b _ _ hn h
theorem But.back (b : But s H H') (h2 : Src H' s) (hp : H' p = none) : H p = none := by
  cases hq : H p with
  | none => rfl
  | some u => rw [b p u (h2.neFree hp) hq] at hp; cases hp
theorem But.trans' (b : But s H1 H2) (a : But s H H1) : But s H H2 := a.trans b
theorem Same.trans' (b : Same H1 H2) (a : Same H H1) : Same H H2 := a.trans b
theorem Same.at (e : Same H H') (h : H q = some o) : H' q = some o := e _ _ h
theorem ne1 (hl : H p = none) (hq : H q = some o) : q ≠ p := ne_of_none hq hl
theorem free_upd (h : upd H p o q = none) : H q = none := by
  cases e : H q with
  | none => rfl
  | some u =>
    by_cases hn : q = p
    · rw [hn, upd_same] at h; cases h
    · rw [upd_ne hn, e] at h; cases h
/-- a pair of ints at a value; a list of such pairs -/
def PR (H : Hp) (v : V) (r : Int × Int) : Prop := ∃ t, v = .ref t ∧ H t = some (.tup [.int r.1, .int r.2])
def RowsAt (H : Hp) (p : Addr) (rows : List (Int × Int)) : Prop := ∃ vs, H p = some (.lst vs) ∧ Paired (PR H) vs rows
theorem PR.but {v : V} {r : Int × Int} (b : But s H H') (hs : Src H s) (h : PR H v r) : PR H' v r := let ⟨t, e, ht⟩ := h; ⟨t, e, b.at (hs.neTup ht) ht⟩
theorem PR.same {v : V} {r : Int × Int} (b : Same H H') (h : PR H v r) : PR H' v r := let ⟨t, e, ht⟩ := h; ⟨t, e, b _ _ ht⟩
theorem PR.mutL {v : V} {r : Int × Int} {xs : List V} (hp : H p = some (.lst xs)) (h : PR H v r) : PR (upd H p o) v r := let ⟨t, e, ht⟩ := h; ⟨t, e, keepNe ht (ne_of ht hp (by intro z; cases z))⟩
theorem PRs.but {vs : List V} {rows : List (Int × Int)} (b : But s H H') (hs : Src H s) (h : Paired (PR H) vs rows) : Paired (PR H') vs rows := h.mono fun _ _ q => PR.but b hs q
theorem PRs.same {vs : List V} {rows : List (Int × Int)} (b : Same H H') (h : Paired (PR H) vs rows) : Paired (PR H') vs rows := h.mono fun _ _ q => PR.same b q
theorem PRs.mutL {vs xs : List V} {rows : List (Int × Int)} (hp : H p = some (.lst xs)) (h : Paired (PR H) vs rows) : Paired (PR (upd H p o)) vs rows := h.mono fun _ _ q => PR.mutL hp q
theorem PRs.new {vs : List V} {rows : List (Int × Int)} (hp : H p = none) (h : Paired (PR H) vs rows) : Paired (PR (upd H p o)) vs rows := h.mono fun _ _ q => PR.same (same_new hp) q
theorem RowsAt.but {rows : List (Int × Int)} (b : But s H H') (hs : Src H s) (hn : p ≠ s) (h : RowsAt H p rows) : RowsAt H' p rows := let ⟨vs, e, k⟩ := h; ⟨vs, b.at hn e, PRs.but b hs k⟩
theorem RowsAt.same {rows : List (Int × Int)} (b : Same H H') (h : RowsAt H p rows) : RowsAt H' p rows := let ⟨vs, e, k⟩ := h; ⟨vs, b _ _ e, PRs.same b k⟩
theorem RowsAt.neFree {rows : List (Int × Int)} (h : RowsAt H q rows) (hp : H p = none) : q ≠ p := let ⟨_, e, _⟩ := h; ne_of_none e hp
theorem Paired.at {α β : Type} {F : α → β → Prop} : ∀ {l₁ : List α} {l₂ : List β}, Paired F l₁ l₂ → ∀ {i : Nat} {b : β}, l₂[i]? = some b → ∃ a, l₁[i]? = some a ∧ F a b
  | _, _, .nil, i, b, h => by simp at h
  | _, _, .cons f r, 0, b, h => by
    have e := Option.some.inj h
    subst e; exact ⟨_, rfl, f⟩
  | _, _, .cons f r, i + 1, b, h => by
    obtain ⟨a, h1, h2⟩ := Paired.at r (i := i) (b := b) (by simpa using h)
    exact ⟨a, by simpa using h1, h2⟩
theorem Paired.at' {α β : Type} {F : α → β → Prop} : ∀ {l₁ : List α} {l₂ : List β}, Paired F l₁ l₂ → ∀ {i : Nat} {a : α}, l₁[i]? = some a → ∃ b, l₂[i]? = some b ∧ F a b
  | _, _, .nil, i, b, h => by simp at h
  | _, _, .cons f r, 0, b, h => by
    have e := Option.some.inj h
    subst e; exact ⟨_, rfl, f⟩
  | _, _, .cons f r, i + 1, b, h => by
    obtain ⟨a, h1, h2⟩ := Paired.at' r (i := i) (a := b) (by simpa using h)
    exact ⟨a, by simpa using h1, h2⟩
end
end G

namespace G
open PySem L2
structure CA where
  CopiesDiffer : Addr
  LotError : Addr
  OnecopyError : Addr
  Stretch : Addr
end G

/-! ### the tactic: walk_at "go" -/
local macro_rules | `(tactic| walk_at "hp") => `(tactic| first
  | assumption | exact L2.upd_same
  | exact G.keep (by walk_at "hp") (by assumption)
  | exact G.keepNe (by walk_at "hp") (by walk_at "ne")
  | exact G.But.at (by assumption) (by walk_at "ne") (by walk_at "hp")
  | exact G.Same.at (by assumption) (by walk_at "hp"))
local macro_rules | `(tactic| walk_at "ne") => `(tactic| first
  | assumption | exact Ne.symm (by assumption)
  | exact G.Src.neFree (by assumption) (by assumption) | exact (G.Src.neFree (by assumption) (by assumption)).symm
  | exact G.ne1 (by assumption) (by walk_at "hp") | exact (G.ne1 (by assumption) (by walk_at "hp")).symm)
local macro_rules | `(tactic| walk_at "src") => `(tactic| first
  | assumption | exact G.Src.new (by walk_at "src") (by assumption) | exact G.Src.mut (by walk_at "src") (by walk_at "ne") | exact G.Src.same (by assumption) (by walk_at "src"))
local macro_rules | `(tactic| walk_at "but") => `(tactic| first
  | assumption | exact G.But.refl
  | exact G.But.mut (by walk_at "but") (by assumption) | exact G.But.new (by walk_at "but") (by assumption) | exact G.But.self (by walk_at "but")
  | exact G.But.trans' (by assumption) (by walk_at "but") | exact G.But.trans' (G.Same.but (by assumption)) (by walk_at "but"))
local macro_rules | `(tactic| walk_at "same") => `(tactic| first
  | assumption | exact L2.Same.refl _
  | exact G.same_mut (by walk_at "same") (by assumption) | exact G.Same.trans' (G.same_new (by assumption)) (by walk_at "same") | exact G.Same.trans' (by assumption) (by walk_at "same"))
local macro_rules | `(tactic| walk_at "sq") => `(tactic| first
  | assumption | exact G.SqL.same (by assumption) (by walk_at "same") | exact L2.SqL.of (by walk_at "hp"))
local macro_rules | `(tactic| walk_at "at") => `(tactic| first
  | assumption | exact L2.atI_nat (by assumption) | exact G.at0 | exact G.at1 | exact G.at2 | exact G.at3 | exact G.at4)
local macro_rules | `(tactic| walk_at "ix") => `(tactic| first
  | assumption | exact G.ix0 | exact G.ix1 | exact G.ix2)
local macro_rules | `(tactic| walk_at "ar") => `(tactic| first | assumption | omega | decide)
local macro_rules | `(tactic| walk_at "one") => `(tactic| (with_reducible first
  | refine' G.w_seq ?_ | refine' G.w_asg ?_ | (refine' G.w_var ?g1 ?_; (case g1 => with_unfolding_all rfl)) | refine' G.w_c ?_ | refine' G.w_name ?_ | refine' G.w_op ?_
  | refine' G.w_oAdd ?_ | refine' G.w_oSub ?_ | (refine' G.w_oMulR ?g1 ?g2 ?_; (case g1 => walk_at "ar"); (case g2 => walk_at "ar")) | (refine' G.w_oMulL ?g1 ?g2 ?_; (case g1 => walk_at "ar"); (case g2 => walk_at "ar")) | (refine' G.w_oDiv ?g1 ?g2 ?_; (case g1 => walk_at "ar"); (case g2 => walk_at "ar")) | (refine' G.w_oMod ?g1 ?_; (case g1 => walk_at "ar")) | (refine' G.w_oPow ?g1 ?g2 ?g3 ?_; (case g1 => walk_at "ar"); (case g2 => walk_at "ar"); (case g3 => with_unfolding_all decide))
  | refine' G.w_oLt ?_ | refine' G.w_oLe ?_ | refine' G.w_oGt ?_ | refine' G.w_oGe ?_ | refine' G.w_un ?_ | refine' G.w_oNeg ?_ | refine' G.w_brk ?_ | refine' G.w_cont ?_ | refine' G.w_eqI ?_ | refine' G.w_neI ?_ | refine' G.w_eqB ?_
  | refine' G.w_cons ?_ | refine' G.w_nil ?_ | refine' G.w_ex ?_ | refine' G.w_exI ?_
  | refine' G.w_ret ?_ | refine' G.w_drop ?_ | refine' G.w_next ?_ | refine' G.w_retN ?_ | refine' G.w_if ?_ | refine' G.w_test ?_ | refine' G.w_tB ?_ | refine' G.w_ifE ?_
  | refine' G.w_iteT ?_ | refine' G.w_iteF ?_
  | refine' G.w_cb ?_ | refine' G.w_oInt ?_ | refine' G.w_oAbs ?_ | refine' G.w_oMax2 ?_ | refine' G.w_oMin2 ?_ | refine' G.w_call ?_ | refine' G.w_meth ?_ | refine' G.w_make ?_
  | refine' G.w_tup ?_ | refine' G.w_lst ?_ | (refine' G.w_small ?g1 ?_; (case g1 => with_unfolding_all exact Nat.le_of_ble_eq_true rfl))
  | (refine' G.w_ixL ?g1 ?g2 ?_; (case g1 => walk_at "sq"); (case g2 => with_unfolding_all walk_at "at"))
  | (refine' G.w_ixT ?g1 ?g2 ?_; (case g1 => walk_at "hp"); (case g2 => with_unfolding_all walk_at "at"))
  | (refine' G.w_lenL ?g1 ?_; (case g1 => walk_at "sq")) | (refine' G.w_listL ?g1 ?_; (case g1 => walk_at "sq")) | (refine' G.w_sum ?g1 ?_; (case g1 => walk_at "sq"))
  | refine' G.w_bm ?_ | refine' G.w_bm0 ?_ | (refine' G.w_tyL ?g1 ?_; (case g1 => walk_at "sq"))
  | (refine' G.w_append ?g1 ?g2 ?_; (case g1 => walk_at "hp"); (case g2 => walk_at "sz"))
  | refine' G.w_sub ?_ | (refine' G.w_setL ?g1 ?g2 ?_; (case g1 => walk_at "hp"); (case g2 => with_unfolding_all walk_at "ix"))
  | (refine' G.w_cat ?g1 ?g2 ?g3 ?_; (case g1 => walk_at "hp"); (case g2 => walk_at "hp"); (case g3 => walk_at "sz"))
  | refine' G.w_sl ?_ | refine' G.w_noPart ?_ | refine' G.w_part ?_ | (refine' G.w_slL ?g1 ?_; (case g1 => walk_at "sq"))
  | refine' G.w_gCons ?_ | refine' G.w_gNil ?_ | (refine' G.w_gTup ?g1 ?g2 ?_; (case g1 => walk_at "hp"); (case g2 => with_unfolding_all rfl))
  | refine' G.w_chain ?_ | refine' G.w_and ?_ | refine' G.w_or ?_ | refine' G.w_not ?_ | refine' G.w_andV ?_ | refine' G.w_orV ?_ | refine' G.w_notV ?_
  | refine' G.w_listRg ?_ | refine' G.w_rg1 ?_ | refine' G.w_augS ?_ | refine' G.w_ipI ?_
  | refine' G.w_fld ?_ | refine' G.w_sfld ?_ | refine' G.w_yes ?_ | refine' G.w_exA ?_ | refine' G.w_exA2 ?_ | refine' G.w_exR ?_ | refine' G.w_exRA ?_
  | (refine' G.w_acc ?g1 ?g2 ?_; (case g1 => walk_at "hp"); (case g2 => walk_at "sz"))
  | refine' G.w_forR1 ?_ | refine' G.w_forR2 ?_ | refine' G.w_forL ?_ | refine' G.w_forZ ?_ | refine' G.w_forE ?_ | refine' G.w_lcR1 ?_ | refine' G.w_lcL ?_
  | (refine' G.w_bd1 ?g1 ?g2 ?_; (case g1 => walk_at "ar"); (case g2 => walk_at "ar"))
  | (refine' G.w_bd2 ?g1 ?g2 ?g3 ?g4 ?_; (case g1 => walk_at "ar"); (case g2 => walk_at "ar"); (case g3 => walk_at "ar"); (case g4 => walk_at "ar"))
  | (refine' G.w_sqE ?g1 ?_; (case g1 => walk_at "sq"))
  | (refine' G.w_wipe ?g1 ?_; (case g1 => with_unfolding_all rfl)) | refine' G.w_lcT ?_ | refine' G.w_lcTif ?_
  | (refine' G.w_augName ?g1 ?_; (case g1 => with_unfolding_all rfl))
  | walk_at "call"))
local macro_rules | `(tactic| walk_at "sz") => `(tactic| first | assumption | exact L2.small1000 (by omega) | omega | exact L2.small1000 (by simp only [List.length_map, List.length_append, List.length_cons, List.length_nil, List.length_range, List.length_take, List.length_drop, List.length_set]; omega) | exact Nat.le_of_lt (L2.small1000 (by simp only [List.length_map, List.length_append, List.length_cons, List.length_nil, List.length_range, List.length_take, List.length_drop, List.length_set]; omega)))
local macro_rules | `(tactic| walk_at "go") => `(tactic| repeat walk_at "one")

/-! the mathematics of heights -/
namespace M
def ho (b n w : Int) : Int := if n = 0 then b + 1 else if n = 1 ∧ b ≥ w then 1 else 0
def lo (b n w : Int) : Int := if n ≥ 2 then 0 else if n = 1 then (if b ≥ w then 1 else 0) else b + 1
theorem lo_eq {b n w : Int} (h : 0 ≤ n) : lo b n w = ho b n w := by
  unfold lo ho
  by_cases h0 : n = 0
  · subst h0; simp
  · by_cases h1 : n = 1
    · subst h1; simp
    · rw [if_pos (by omega), if_neg h0, if_neg (by omega)]
/-- heights of the pages of a chain given from its end: hscan b of the reversed chain -/
def hscan (w : Int) : Int → List Int → List Int
  | _, [] => []
  | b, n :: r => ho b n w :: hscan w (ho b n w) r
/-- the height that stands after a reversed chain -/
def hlast (w : Int) : Int → List Int → Int
  | b, [] => b
  | b, n :: r => hlast w (ho b n w) r
theorem hscan_snoc (w b : Int) (xs : List Int) (n : Int) : hscan w b (xs ++ [n]) = hscan w b xs ++ [ho (hlast w b xs) n w] := by
  induction xs generalizing b with
  | nil => rfl
  | cons x r ih => simp [hscan, hlast, ih]
theorem hlast_snoc (w b : Int) (xs : List Int) (n : Int) : hlast w b (xs ++ [n]) = ho (hlast w b xs) n w := by
  induction xs generalizing b with
  | nil => rfl
  | cons x r ih => simp [hlast, ih]
theorem hscan_length (w b : Int) (xs : List Int) : (hscan w b xs).length = xs.length := by
  induction xs generalizing b with
  | nil => rfl
  | cons x r ih => simp [hscan, ih]
/-- the heights from the top, and the height of the first page -/
def hts (w : Int) (c : List Int) : List Int := (hscan w 0 c.reverse).reverse
def ht (w : Int) : List Int → Int
  | [] => 0
  | n :: r => ho (ht w r) n w
theorem ht_c (w n : Int) (r : List Int) : ht w (n :: r) = ho (ht w r) n w := rfl
theorem ho0 (b w : Int) : ho b 0 w = b + 1 := rfl
theorem hlast_rev (w : Int) (c : List Int) : hlast w 0 c.reverse = ht w c := by
  induction c with
  | nil => rfl
  | cons n r ih => rw [List.reverse_cons, hlast_snoc, ih]; rfl
theorem hts_cons (w n : Int) (r : List Int) : hts w (n :: r) = ht w (n :: r) :: hts w r := by
  unfold hts; rw [List.reverse_cons, hscan_snoc, List.reverse_append, hlast_rev]; rfl
theorem hts_nil (w : Int) : hts w [] = [] := rfl
theorem hts_length (w : Int) (c : List Int) : (hts w c).length = c.length := by unfold hts; simp [hscan_length]
theorem hts_get (w : Int) (c : List Int) (i : Nat) (h : i < c.length) : (hts w c)[i]? = some (ht w (c.drop i)) := by
  induction c generalizing i with
  | nil => simp at h
  | cons n r ih =>
    rw [hts_cons]
    cases i with
    | zero => rfl
    | succ i => simp at h; simpa using ih i h
/-- keepable: no height above w -/
def keep (w : Int) (c : List Int) : Bool := !(hts w c).any fun h => decide (h > w)
/-- the search of a stretch from a place on: fuel, the rest from the place -/
def seek (w : Nat) : Nat → List Int → Bool
  | 0, _ => false
  | _ + 1, [] => false
  | f + 1, n :: r => if n > 1 then false else if n = 0 then true else if (r.take (w - 1)).any (fun z => decide (z ≠ 0)) then false else seek w f (r.drop (w - 1))
/-- the law's search -/
def stretch (w : Nat) (c : List Int) : Bool :=
  (List.range (c.length - w)).any fun s => !((c.drop s).take w).any (fun z => decide (z ≠ 0)) && seek w c.length (c.drop (s + w))

theorem ht_nonneg (w : Int) (c : List Int) : 0 ≤ ht w c := by
  induction c with
  | nil => exact Int.le_refl 0
  | cons n r ih => unfold ht ho; split <;> (try split) <;> omega

theorem ht_zeros (w : Int) : ∀ (k : Nat) (r : List Int), (r.take k).any (fun z => decide (z ≠ 0)) = false → k ≤ r.length → ht w r = (k : Int) + ht w (r.drop k)
  | 0, r, _, _ => by simp
  | k + 1, [], _, h => by simp at h
  | k + 1, n :: r, ha, h => by
    simp only [List.take_succ_cons, List.any_cons, Bool.or_eq_false_iff, decide_eq_false_iff_not, Decidable.not_not] at ha
    obtain ⟨rfl, h2⟩ := ha
    have := ht_zeros w k r h2 (by simpa using h)
    simp only [List.drop_succ_cons]
    rw [ht_c, ho0, this]; omega
/-- a found stretch makes a height of at least 1 at its place (all entries at least 0) -/
theorem seek_ht (w : Nat) (hw : 1 ≤ w) : ∀ (f : Nat) (c : List Int), (∀ n ∈ c, 0 ≤ n) → seek w f c = true → 1 ≤ ht w c
  | 0, c, _, h => by simp [seek] at h
  | f + 1, [], _, h => by simp [seek] at h
  | f + 1, n :: r, h0, h => by
    have hn : 0 ≤ n := h0 n (by simp)
    unfold seek at h
    by_cases h1 : n > 1
    · rw [if_pos h1] at h; simp at h
    rw [if_neg h1] at h
    by_cases h2 : n = 0
    · subst h2
      have := ht_nonneg w r
      unfold ht ho; rw [if_pos rfl]; omega
    rw [if_neg h2] at h
    have h3 : n = 1 := by omega
    subst h3
    by_cases h4 : (r.take (w - 1)).any (fun z => decide (z ≠ 0)) = true
    · rw [if_pos h4] at h; simp at h
    rw [if_neg h4] at h
    have h4 : (r.take (w - 1)).any (fun z => decide (z ≠ 0)) = false := by simpa using h4
    have h5 := seek_ht w hw f (r.drop (w - 1)) (fun z hz => h0 z (List.mem_cons_of_mem _ (List.mem_of_mem_drop hz))) h
    have hl : w - 1 ≤ r.length := by
      by_cases hc : w - 1 ≤ r.length
      · exact hc
      · rw [List.drop_eq_nil_of_le (by omega)] at h
        cases f <;> simp [seek] at h
    have := ht_zeros w (w - 1) r h4 hl
    unfold ht ho
    rw [if_neg (by decide), if_pos ⟨rfl, by omega⟩]; omega
theorem keep_false {w : Nat} {c : List Int} (h : keep w c = false) : ∃ i, i < c.length ∧ ht w (c.drop i) > w := by
  unfold keep at h
  simp only [Bool.not_eq_false', List.any_eq_true, decide_eq_true_eq] at h
  obtain ⟨x, hx, hg⟩ := h
  obtain ⟨i, hi, e⟩ := List.getElem_of_mem hx
  have hl : i < c.length := by rw [hts_length] at hi; exact hi
  have := hts_get w c i hl
  rw [List.getElem?_eq_getElem hi, e] at this
  exact ⟨i, hl, by rw [← Option.some.inj this]; exact hg⟩
theorem keep_true {w : Nat} {c : List Int} (h : keep w c = true) : ∀ i, i < c.length → ht w (c.drop i) ≤ w := by
  intro i hi
  unfold keep at h
  simp only [Bool.not_eq_true', List.any_eq_false, decide_eq_true_eq] at h
  have := hts_get w c i hi
  have hm : ht w (c.drop i) ∈ hts w c := List.mem_of_getElem? this
  have := h _ hm
  omega
theorem keep_of {w : Nat} {c : List Int} (h : ∀ i, i < c.length → ht w (c.drop i) ≤ w) : keep w c = true := by
  cases hk : keep w c with
  | true => rfl
  | false => obtain ⟨i, hi, hg⟩ := keep_false hk; have := h i hi; omega
/-- the run of zeros that a height wants -/
theorem zeros_of (w : Int) : ∀ (k : Nat) (c : List Int), (k : Int) + 1 ≤ ht w c → (c.take k).any (fun z => decide (z ≠ 0)) = false ∧ k < c.length ∧ ht w (c.drop k) = ht w c - k
  | 0, [], h => by simp [ht] at h
  | 0, n :: r, h => by simp
  | k + 1, [], h => by simp [ht] at h; omega
  | k + 1, n :: r, h => by
    have e : n = 0 ∧ ht w (n :: r) = ht w r + 1 := by
      rw [ht_c] at h ⊢
      by_cases h0 : n = 0
      · exact ⟨h0, by rw [h0, ho0]⟩
      · unfold ho at h
        rw [if_neg h0] at h
        split at h <;> omega
    obtain ⟨rfl, e⟩ := e
    obtain ⟨h1, h2, h3⟩ := zeros_of w k r (by omega)
    refine ⟨by simpa using h1, by simp; omega, ?_⟩
    rw [List.drop_succ_cons, h3, e]; omega
/-- from a height 1 below which no height exceeds w the search finds -/
theorem seek_of (w : Nat) (hw : 1 ≤ w) : ∀ (f : Nat) (c : List Int), (∀ n ∈ c, 0 ≤ n) → c.length ≤ f → ht w c = 1 → (∀ i, 0 < i → i < c.length → ht w (c.drop i) ≤ w) → seek w f c = true
  | f, [], _, _, h, _ => by simp [ht] at h
  | 0, n :: r, _, hl, _, _ => by simp at hl
  | f + 1, n :: r, h0, hl, h, hk => by
    have hn : 0 ≤ n := h0 n (by simp)
    unfold seek
    by_cases h2 : n = 0
    · subst h2; simp
    by_cases h3 : n = 1
    · subst h3
      rw [if_neg (by decide), if_neg (by decide)]
      have hr : ht w r ≥ w := by
        unfold ht ho at h
        rw [if_neg (by decide)] at h
        by_cases hc : (1 : Int) = 1 ∧ ht w r ≥ w
        · exact hc.2
        · rw [if_neg hc] at h; omega
      have hr2 : ht w r ≤ w := by
        cases r with
        | nil => unfold ht; omega
        | cons x xs => simpa using hk 1 (by omega) (by simp)
      obtain ⟨z1, z2, z3⟩ := zeros_of w (w - 1) r (by omega)
      rw [z1]
      simp only [Bool.false_eq_true, if_false]
      refine seek_of w hw f (r.drop (w - 1)) (fun z hz => h0 z (List.mem_cons_of_mem _ (List.mem_of_mem_drop hz))) ?_ (by omega) ?_
      · simp at hl ⊢; omega
      · intro i hi hi2
        have := hk (1 + (w - 1) + i) (by omega) (by simp at hi2 ⊢; omega)
        have e : (1 :: r).drop (1 + (w - 1) + i) = (r.drop (w - 1)).drop i := by
          rw [List.drop_drop, show 1 + (w - 1) + i = (w - 1 + i) + 1 by omega, List.drop_succ_cons]
        rw [e] at this; exact this
    · exfalso
      unfold ht ho at h
      rw [if_neg h2, if_neg (by omega)] at h; omega
/-- the last place of a height above w -/
theorem last_high {w : Nat} {c : List Int} (h : keep w c = false) : ∃ i, i < c.length ∧ ht w (c.drop i) > w ∧ ∀ j, i < j → j < c.length → ht w (c.drop j) ≤ w := by
  obtain ⟨i, hi, hg⟩ := keep_false h
  obtain ⟨m, hm⟩ : ∃ m, m = c.length - i := ⟨_, rfl⟩
  induction m using Nat.strongRecOn generalizing i with
  | _ m ih =>
    by_cases hc : ∃ j, i < j ∧ j < c.length ∧ ht w (c.drop j) > w
    · obtain ⟨j, h1, h2, h3⟩ := hc
      exact ih (c.length - j) (by omega) j h2 h3 rfl
    · exact ⟨i, hi, hg, fun j h1 h2 => by
        by_cases hj : ht w (c.drop j) ≤ w
        · exact hj
        · exact absurd ⟨j, h1, h2, by omega⟩ hc⟩
theorem ht_drop_succ {w : Int} {c : List Int} {i : Nat} (h : i < c.length) : ht w (c.drop i) = ho (ht w (c.drop (i + 1))) c[i] w := by
  rw [List.drop_eq_getElem_cons h]; rfl
theorem stretch_keep (w : Nat) (hw : 1 ≤ w) (c : List Int) (h0 : ∀ n ∈ c, 0 ≤ n) : stretch w c = !keep w c := by
  cases hk : keep w c with
  | true =>
    simp only [Bool.not_true]
    unfold stretch
    rw [List.any_eq_false]
    intro s hs
    have hs : s < c.length - w := by simpa using hs
    simp only [Bool.and_eq_true, Bool.not_eq_true', not_and, Bool.not_eq_true]
    intro hz
    cases hf : seek w c.length (c.drop (s + w)) with
    | false => rfl
    | true =>
      exfalso
      have h1 := seek_ht w hw _ _ (fun z hz => h0 z (List.mem_of_mem_drop hz)) hf
      have h2 := ht_zeros w w (c.drop s) hz (by simp; omega)
      rw [List.drop_drop] at h2
      have h3 := keep_true hk s (by omega)
      omega
  | false =>
    simp only [Bool.not_false]
    obtain ⟨i, hi, hg, hl⟩ := last_high hk
    have hle : ht w (c.drop i) = w + 1 := by
      have h4 : ht w (c.drop (i + 1)) ≤ w := by
        by_cases hc : i + 1 < c.length
        · exact hl _ (by omega) hc
        · rw [List.drop_eq_nil_of_le (by omega)]; unfold ht; omega
      have := ht_drop_succ (w := w) hi
      rw [this] at hg ⊢
      unfold ho at hg ⊢
      split at hg
      · rename_i e; rw [if_pos e]; omega
      · split at hg <;> omega
    obtain ⟨z1, z2, z3⟩ := zeros_of w w (c.drop i) (by omega)
    rw [List.drop_drop] at z3
    have hlen : i + w < c.length := by simp at z2; omega
    unfold stretch
    rw [List.any_eq_true]
    refine ⟨i, by simp; omega, ?_⟩
    rw [z1]
    simp only [Bool.not_false, Bool.true_and]
    refine seek_of w hw _ _ (fun z hz => h0 z (List.mem_of_mem_drop hz)) (by simp) (by omega) ?_
    intro j hj hj2
    rw [List.drop_drop]
    exact hl _ (by omega) (by simp at hj2; omega)
end M
namespace M
theorem take_snoc {α : Type} (l : List α) (i : Nat) (h : i < l.length) : l.take i ++ [l[i]] = l.take (i + 1) := by
  induction l generalizing i with
  | nil => simp at h
  | cons x r ih =>
    cases i with
    | zero => simp
    | succ i => simp at h; simp [h]
end M

/-! the mathematics of stretches -/
namespace M
/-- along a stretch given from its end: the height behind it, none if some height is too great -/
def rr (w : Int) : Int → List Int → Option Int
  | b, [] => some b
  | b, n :: r => if ho b n w > w then none else rr w (ho b n w) r
theorem rr_c (w b n : Int) (r : List Int) : rr w b (n :: r) = if ho b n w > w then none else rr w (ho b n w) r := rfl
theorem rr_app (w b : Int) (xs ys : List Int) : rr w b (xs ++ ys) = (rr w b xs).bind fun h => rr w h ys := by
  induction xs generalizing b with
  | nil => rfl
  | cons x r ih =>
    rw [List.cons_append, rr_c, rr_c]
    split
    · rfl
    · exact ih _
def rise (c : List Int) (w b : Int) : Option Int := rr w b c.reverse
theorem rise_app (a c : List Int) (w b : Int) : rise (a ++ c) w b = (rise c w b).bind fun h => rise a w h := by unfold rise; rw [List.reverse_append, rr_app]
theorem ho_nonneg {b n w : Int} (h : 0 ≤ b) : 0 ≤ ho b n w := by unfold ho; split <;> (try split) <;> omega
theorem rr_bd {w b h : Int} {xs : List Int} (h0 : 0 ≤ b) (h1 : b ≤ w) (e : rr w b xs = some h) : 0 ≤ h ∧ h ≤ w := by
  induction xs generalizing b with
  | nil => unfold rr at e; cases e; exact ⟨h0, h1⟩
  | cons x r ih =>
    unfold rr at e
    split at e
    · cases e
    · exact ih (ho_nonneg h0) (by omega) e
theorem rise_bd {c : List Int} {w b h : Int} (h0 : 0 ≤ b) (h1 : b ≤ w) (e : rise c w b = some h) : 0 ≤ h ∧ h ≤ w := rr_bd h0 h1 e
/-- the lift -/
def lf (c : List Int) (w : Nat) : List (Option Int) := (List.range (w + 1)).map fun (b : Nat) => rise c w (b : Int)
theorem lf_len (c : List Int) (w : Nat) : (lf c w).length = w + 1 := by unfold lf; simp
theorem lf_get {c : List Int} {w i : Nat} (h : i ≤ w) : (lf c w)[i]? = some (rise c w (i : Int)) := by unfold lf; rw [List.getElem?_map, List.getElem?_range (by omega)]; rfl
theorem lf_mem {c : List Int} {w : Nat} {h : Int} (m : some h ∈ lf c w) : 0 ≤ h ∧ h ≤ w := by
  unfold lf at m
  obtain ⟨b, hb, e⟩ := List.mem_map.mp m
  have : b < w + 1 := by simpa using hb
  exact rise_bd (by omega) (by omega) e
/-- a joined stretch's lift, by the two lifts -/
def jn (a b : List (Option Int)) : List (Option Int) := b.map fun o => o.bind fun h => a.getD h.toNat none
theorem jn_lf (a b : List Int) (w : Nat) : jn (lf a w) (lf b w) = lf (a ++ b) w := by
  unfold jn lf
  rw [List.map_map]
  refine List.map_congr_left fun i hi => ?_
  have hi : i < w + 1 := by simpa using hi
  show (rise b w i).bind _ = rise (a ++ b) w i
  rw [rise_app]
  cases e : rise b w i with
  | none => rfl
  | some h =>
    have hb := rise_bd (by omega) (by omega : (i : Int) ≤ w) e
    show ((List.range (w + 1)).map fun (b : Nat) => rise a w (b : Int)).getD h.toNat none = rise a w h
    rw [List.getD_eq_getElem?_getD, List.getElem?_map, List.getElem?_range (by omega)]
    show rise a w ((h.toNat : Nat) : Int) = rise a w h
    rw [Int.toNat_of_nonneg hb.1]
/-- pages with two or more lines: the height 0 -/
theorem rr_great {w : Int} (hw : 0 ≤ w) : ∀ (xs : List Int) (b : Int), (∀ n ∈ xs, 2 ≤ n) → xs ≠ [] → rr w b xs = some 0
  | [], _, _, h => absurd rfl h
  | x :: r, b, h, _ => by
    have hx := h x (by simp)
    have e : ho b x w = 0 := by unfold ho; rw [if_neg (by omega), if_neg (by omega)]
    unfold rr
    rw [e, if_neg (by omega)]
    cases r with
    | nil => rfl
    | cons y r => exact rr_great hw (y :: r) 0 (fun n hn => h n (List.mem_cons_of_mem _ hn)) (by simp)
theorem rise_great {w b : Int} (hw : 0 ≤ w) {c : List Int} (h : ∀ n ∈ c, 2 ≤ n) (hc : c ≠ []) : rise c w b = some 0 := rr_great hw _ _ (fun n hn => h n (List.mem_reverse.mp hn)) (by simpa using hc)
theorem lf_great (a b c d : List Int) (w : Nat) (hc : ∀ n ∈ c, 2 ≤ n) (hd : ∀ n ∈ d, 2 ≤ n) (c0 : c ≠ []) (d0 : d ≠ []) : lf (a ++ c ++ b) w = lf (a ++ d ++ b) w := by
  unfold lf
  refine List.map_congr_left fun i _ => ?_
  rw [rise_app, rise_app (a ++ d)]
  cases rise b w (i : Int) with
  | none => rfl
  | some h =>
    show rise (a ++ c) w h = rise (a ++ d) w h
    rw [rise_app, rise_app, rise_great (by omega) hc c0, rise_great (by omega) hd d0]
/-- the law's reckoning -/
def rl (w : Int) : Int → List Int → Option Int
  | b, [] => some b
  | b, n :: r => if lo b n w > w then none else rl w (lo b n w) r
theorem rl_eq {w : Int} : ∀ (xs : List Int) (b : Int), (∀ n ∈ xs, 0 ≤ n) → rl w b xs = rr w b xs
  | [], _, _ => rfl
  | x :: r, b, h => by
    unfold rl rr
    rw [lo_eq (h x (by simp))]
    split
    · rfl
    · exact rl_eq r _ fun n hn => h n (List.mem_cons_of_mem _ hn)
theorem rr_take {w b : Int} {xs : List Int} {i : Nat} (h : i < xs.length) : rr w b (xs.take (i + 1)) = (rr w b (xs.take i)).bind fun g => if ho g xs[i] w > w then none else some (ho g xs[i] w) := by
  rw [← take_snoc xs i h, rr_app]
  cases rr w b (xs.take i) with
  | none => rfl
  | some g =>
    show rr w g [xs[i]] = _
    unfold rr
    split
    · rename_i e; rw [Option.bind_some, if_pos e]
    · rename_i e; rw [Option.bind_some, if_neg e]; rfl
theorem rr_none {w b : Int} {xs : List Int} {i : Nat} (h : rr w b (xs.take i) = none) : rr w b xs = none := by
  have := rr_app w b (xs.take i) (xs.drop i)
  rw [List.take_append_drop, h] at this
  exact this
theorem rl_c (w b n : Int) (r : List Int) : rl w b (n :: r) = if lo b n w > w then none else rl w (lo b n w) r := rfl
theorem rl_app (w b : Int) (xs ys : List Int) : rl w b (xs ++ ys) = (rl w b xs).bind fun h => rl w h ys := by
  induction xs generalizing b with
  | nil => rfl
  | cons x r ih =>
    rw [List.cons_append, rl_c, rl_c]
    split
    · rfl
    · exact ih _
end M

/-! the mathematics of the parting -/
namespace M
def room (a b : Option Int) (w : Nat) : Nat := match a, b with
  | some x, some y => ((w : Int) - (if x ≤ y then x else y)).toNat
  | _, _ => 0
theorem rr_zeros (w : Int) : ∀ (n : Nat) (b : Int), b ≤ w → rr w b (List.replicate n 0) = if b + n ≤ w then some (b + n) else none
  | 0, b, h => by
    show some b = _
    rw [if_pos (by omega)]; simp
  | n + 1, b, h => by
    rw [List.replicate_succ, rr_c, ho0]
    by_cases c : b + 1 > w
    · rw [if_pos c, if_neg (by omega)]
    · rw [if_neg c, rr_zeros w n (b + 1) (by omega)]
      by_cases d : b + 1 + (n : Int) ≤ w
      · rw [if_pos d, if_pos (by omega)]
        congr 1; omega
      · rw [if_neg d, if_neg (by omega)]
theorem rise_zeros {w b : Int} {n : Nat} (h : b ≤ w) : rise (List.replicate n 0) w b = if b + n ≤ w then some (b + n) else none := by
  unfold rise; rw [List.reverse_replicate]; exact rr_zeros w n b h
theorem rise_three {a c z : List Int} {w : Int} : rise (a ++ c ++ z) w 0 = (rise z w 0).bind fun h => (rise c w h).bind fun g => rise a w g := by
  rw [rise_app]
  cases rise z w 0 with
  | none => rfl
  | some h => exact rise_app a c w h
theorem rise_part {c : List Int} {w i n : Nat} (hi : i ≤ w) : rise (List.replicate n 0 ++ c ++ List.replicate i 0) w 0 = (rise c w i).bind fun g => rise (List.replicate n 0) w g := by
  rw [rise_three, rise_zeros (by omega), if_pos (by omega), Option.bind_some, Int.zero_add]
/-- what parting gives parts the two -/
theorem part_ne {c d : List Int} {w i : Nat} (hi : i ≤ w) (h : rise c w i ≠ rise d w i) :
    (rise (List.replicate (room (rise c w i) (rise d w i) w) 0 ++ c ++ List.replicate i 0) w 0).isSome ≠ (rise (List.replicate (room (rise c w i) (rise d w i) w) 0 ++ d ++ List.replicate i 0) w 0).isSome := by
  rw [rise_part hi, rise_part hi]
  have b1 : ∀ {c : List Int} {g : Int}, rise c w i = some g → 0 ≤ g ∧ g ≤ w := fun e => rise_bd (by omega) (by omega) e
  cases e1 : rise c w i with
  | none =>
    cases e2 : rise d w i with
    | none => rw [e1, e2] at h; exact absurd rfl h
    | some y =>
      have := b1 e2
      show false ≠ (rise (List.replicate 0 0) w y).isSome
      rw [rise_zeros this.2, if_pos (by omega)]; simp
  | some x =>
    have hx := b1 e1
    cases e2 : rise d w i with
    | none =>
      show (rise (List.replicate 0 0) w x).isSome ≠ false
      rw [rise_zeros hx.2, if_pos (by omega)]; simp
    | some y =>
      have hy := b1 e2
      rw [e1, e2] at h
      have hn : x ≠ y := fun z => h (by rw [z])
      show (rise (List.replicate ((w : Int) - (if x ≤ y then x else y)).toNat 0) w x).isSome ≠ (rise (List.replicate ((w : Int) - (if x ≤ y then x else y)).toNat 0) w y).isSome
      rw [rise_zeros hx.2, rise_zeros hy.2]
      by_cases c : x ≤ y
      · rw [if_pos c, if_pos (by omega), if_neg (by omega)]; simp
      · rw [if_neg c, if_neg (by omega), if_pos (by omega)]; simp
theorem lf_ext {c d : List Int} {w : Nat} (h : ∀ i, i ≤ w → rise c w i = rise d w i) : lf c w = lf d w := by
  unfold lf
  exact List.map_congr_left fun i hi => h i (by have : i < w + 1 := by simpa using hi
                                                omega)
theorem lf_rise {c d : List Int} {w i : Nat} (hi : i ≤ w) (h : lf c w = lf d w) : rise c w i = rise d w i := by
  have a := lf_get (c := c) hi
  rw [h, lf_get hi] at a
  exact (Option.some.inj a).symm
theorem room_le {a b : Option Int} {w : Nat} (ha : ∀ x, a = some x → 0 ≤ x) (hb : ∀ x, b = some x → 0 ≤ x) : room a b w ≤ w := by
  unfold room
  cases a with
  | none => exact Nat.zero_le _
  | some x => cases b with
    | none => exact Nat.zero_le _
    | some y =>
      have := ha x rfl
      have := hb y rfl
      show ((w : Int) - (if x ≤ y then x else y)).toNat ≤ w
      split <;> omega
end M

/-! ### calls of methods and of makers that may raise, within a try: what is wanted of the error may speak of the slots -/
namespace GX
open PySem PySem.Spec PyProof.Rows L2
section
variable {X : Cx} {CX : CXT} {k : Nat} {f C : Addr} {fd : FuncData} {ps : List Str} {sp : Sp} {E : L2.St → XK} {x m : Str} {p pos apos : Pos} {e o : Expr} {es : List Expr} {ta : TE} {t : TA}
def tMethS (C : Addr) (m : Str) (sp : Sp) (E : L2.St → XK) (ta : TE) (t : TA) : TE := fun σ H Q => ta σ H fun x H1 => ∃ a dx fs, x = .ref a ∧ H1 a = some (.ins C dx fs) ∧ fs.lookup m = none ∧
  t σ H1 fun vs H2 => sp (x :: vs) H2 Q (E σ)
def tMakeS (C : Addr) (sp : Sp) (E : L2.St → XK) (t : TA) : TE := fun σ H Q => t σ H fun vs H1 => ∀ x dx, H1 x = none → H1 dx = none → dx ≠ x →
  sp (.ref x :: vs) (upd (upd H1 dx (.own x)) x (.ins C dx [])) (fun v H2 => v = .non ∧ Q (.ref x) H2) (E σ)
theorem pe_methS {pl : Sem Bool} (he : PE X o ta) (c : Cls X.K C) (hm : Meth X.K C m f) (F : FnOk X.prog X.w X.K X.mg X.base CX k f fd ps sp) (hr : Room k X.A) (hb : Binds X.K fd ps []) (hx : ∀ σ, PassesAt CX X σ (E σ)) (ha : PA X (e :: es) t)
    (hst : starEach (e :: es) X.env = (false, eval e X.env) :: starEach es X.env := by rfl) (hpl : (backTo pos (starEach es X.env)).any (·.1) = false := by rfl)
    (ht : eval (.Call (.Attribute o m apos) (e :: es) [] pos) X.env = (do
      let ov ← eval o X.env
      standAt apos.atName
      let (f, first) ← holding [ov] (getMethod ov m pl)
      callWith pos f first (backTo pos (starEach (e :: es) X.env)) (backToKw pos (keywordEach [] X.env))) := by rfl) :
    PE X (.Call (.Attribute o m apos) (e :: es) [] pos) (tMethS C m sp E ta t) := by
  refine ⟨fun pins s σ H Q I h => ?_⟩
  refine PySem.W.methodCall_KW (pl := pl) (thn (he.run pins s σ H _ I h) fun u s1 ⟨x, H1, I1, rx, a, dx, fs, ex, ea, l, q⟩ => ?_) ht
  subst ex
  obtain rfl : u = Value.ref a := rx
  refine getmeth_ok I1 ea c hm l ?_
  refine PySem.W.callWith_K (first := [.ref a]) (h₀ := X.base) I.ok.mod.kin hm.kp (thn (ha.run pos pins s1 σ H1 _ I1 q) fun us s2 ⟨vs, H2, I2, r, q2⟩ => ⟨I2.kIn, ?_⟩) hst hpl
  exact run_fnS (us := .ref a :: us) (vs := .ref a :: vs) F hr hb (hx σ) I2 (.cons rfl r) q2
theorem run_makeS {pins : List (Addr × Obj)} {σ : L2.St} {H : Hp} {s : Shared} {Q : VK} {us : List Value} {vs : List V} (M : Mk X.K C f) (F : FnOk X.prog X.w X.K X.mg X.base CX k f fd ps sp) (hr : Room (k + 1) X.A) (hb : Binds X.K fd ps [])
    (hx : PassesAt CX X σ (E σ)) (I : Inv X pins σ H s) (r : Vals vs us)
    (h : ∀ x dx, H x = none → H dx = none → dx ≠ x → sp (.ref x :: vs) (upd (upd H dx (.own x)) x (.ins C dx [])) (fun v H2 => v = .non ∧ Q (.ref x) H2) (E σ)) :
    wpAny (model X.prog X.w) X.A (call (.ref C) us) (EP X pins σ Q) X.xe s := by
  have hq := h (s.heap.objs.size + 1) s.heap.objs.size (I.hok.fresh (Nat.le_succ _)) (I.hok.fresh (Nat.le_refl _)) (Nat.ne_of_lt (Nat.lt_succ_self _))
  have I2 := Inv.made (C := C) I
  have r2 : Vals (V.ref (s.heap.objs.size + 1) :: vs) (Value.ref (s.heap.objs.size + 1) :: us) := .cons rfl r
  have hl : (Value.ref (s.heap.objs.size + 1) :: us ++ []).length = ps.length := by
    have e := r2.length
    rw [F.len _ _ _ _ hq] at e
    rw [List.append_nil]
    exact e.symm
  have b := hb _ (Value.ref (s.heap.objs.size + 1) :: us) I2.kIn hl
  rw [List.append_nil] at b
  refine wpAny_call (make_map (f := f) I.kIn M.makes M.init (beq_iff_eq.mp M.fn) (codeAny_mono (F.run _ X.stack _ _ ⟨Value.ref (s.heap.objs.size + 1) :: us, []⟩ (Value.ref (s.heap.objs.size + 1) :: us) _ _ (E σ) (hr.make C us [])
    (I2.env0.make C us []) b r2 hq) fun r s' hq' => ?_))
  cases r with
  | error e => exact hx pins _ _ e s' I2 hq'
  | ok fl =>
    cases fl with
    | ret u =>
      obtain ⟨v, H', I3, rv, ev, q3⟩ := I2.after hq'
      subst ev
      exact ⟨rv, ⟨V.ref (s.heap.objs.size + 1), H', I3, rfl, q3⟩⟩
    | next => exact False.elim hq'
    | brk => exact False.elim hq'
    | cont => exact False.elim hq'
theorem pe_makeS (M : Mk X.K C f) (F : FnOk X.prog X.w X.K X.mg X.base CX k f fd ps sp) (hr : Room (k + 1) X.A) (hg : Gl X x) (hm : X.mg x = some (.ref C)) (hb : Binds X.K fd ps []) (hx : ∀ σ, PassesAt CX X σ (E σ))
    (ha : PA X (e :: es) t) (hdb : (x == ("__debug__" : Str)) = false := by decide) (he : starEach (e :: es) X.env = (false, eval e X.env) :: starEach es X.env := by rfl) (hpl : (backTo pos (starEach es X.env)).any (·.1) = false := by rfl) :
    PE X (.Call (.Name x p) (e :: es) [] pos) (tMakeS C sp E t) := by
  refine ⟨fun pins s σ H Q I h => ?_⟩
  refine wpAny_Call_Name_kw (ld_glob I hg hm ?_ hdb)
  refine PySem.W.callWith_K (h₀ := X.base) I.ok.mod.kin M.kp (thn (ha.run pos pins s σ H _ I h) fun us s1 ⟨vs, H1, I1, r, q⟩ => ⟨I1.kIn, ?_⟩) he hpl
  exact run_makeS M F hr hb (hx σ) I1 r q
end
end GX
/-! ### isinstance of a caught error that has a dict of its own -/
namespace GX
open PySem PySem.Spec PyProof.Rows L2
def rIsX (K : PySem.W.Frag) (a : Addr) (cls : Value) (d : Option Addr) : List V → Hp → VK → Prop := fun xs H Q => ∃ (c : V) (u : Value) (b : Bool) (D dd : Addr) (fs : List (Str × V)),
  xs = [.ref a, c] ∧ ClsV c u ∧ cls = .ref D ∧ d = some dd ∧ ExcC K D ∧ H dd = some (.xd fs) ∧ PySem.W.kitOne K (.ref D) u = some b ∧ Q (.bl b) H
def rIsXT (K : PySem.W.Frag) (a : Addr) (cls : Value) (d : Option Addr) : List V → Hp → VK → Prop := fun xs H Q => ∃ (tp : Addr) (cs : List V) (us : List Value) (b : Bool) (D dd : Addr) (fs : List (Str × V)),
  xs = [.ref a, .ref tp] ∧ H tp = some (.tup cs) ∧ Paired ClsV cs us ∧ cls = .ref D ∧ d = some dd ∧ ExcC K D ∧ H dd = some (.xd fs) ∧ PySem.W.kitAny K (.ref D) us = some b ∧ Q (.bl b) H
section
variable {X : Cx} {a : Addr} {oe : Obj} {cls : Value} {d : Option Addr} {pn : List (Addr × Obj)}
theorem kit_here {K : PySem.W.Frag} {D : Addr} {x : Addr} {o : Obj} {od : Option Obj} (C : ExcC K D) : PySem.W.KitX K (.ref x) (.ref D) (fun h => PySem.W.InstAt h x o D od) := by
  have hc : (PySem.W.clsIn K D).isSome = true := by
    obtain ⟨cd, e, _⟩ := PySem.W.any_some C.hd
    rw [e]; rfl
  exact PySem.W.kitx_exc hc C.hg C.hk C.hs C.ha C.hn C.ht C.hm
theorem inst_here {pins : List (Addr × Obj)} {σ : L2.St} {H : Hp} {s : Shared} {D dd : Addr} {fs : List (Str × V)} (I : Inv (X.suite a ((a, oe) :: pn)) pins σ H s) (hz : Zc (.ref D) (some dd) oe) (hf : ∃ vs, oe.data = .fields vs) (hd : H dd = some (.xd fs)) :
    ∃ od, PySem.W.InstAt s.heap a oe D (some od) := by
  obtain ⟨hget, _⟩ := I.pin (a, oe) (List.mem_append_left _ List.mem_cons_self)
  obtain ⟨vs, hv⟩ := hf
  have ho : ObjOk X.prog X.w H s.heap dd (.xd fs) := I.hok dd _ hd
  obtain ⟨mA, hns, _⟩ := ho
  obtain ⟨od, e, _⟩ := lookIn_ns hns
  exact ⟨od, hget, hz.1, by unfold PySem.W.notCls; rw [hv] <;> rfl, by rw [hz.2]; exact e⟩
theorem call_isX (hz : Zc cls d oe) (hf : ∃ vs, oe.data = .fields vs) : CallR (X.suite a ((a, oe) :: pn)) (.builtin "isinstance") (rIsX X.K a cls d) := by
  intro pins s σ H xs us Q I r h
  obtain ⟨c, u, b, D, dd, fs, rfl, hc, rfl, rfl, C, hd, e, q⟩ := h
  obtain ⟨u1, u2, rfl, r1, r2⟩ := vals2 r
  cases (show u1 = Value.ref a from r1)
  cases hc.eq r2
  obtain ⟨od, J⟩ := inst_here I hz hf hd
  exact PySem.W.kia_one (kit_here C) I.kIn J e (fun z => nomatch z) fun tk => ⟨.bl b, H, I.tok tk, rfl, q⟩
theorem call_isXT (hz : Zc cls d oe) (hf : ∃ vs, oe.data = .fields vs) : CallR (X.suite a ((a, oe) :: pn)) (.builtin "isinstance") (rIsXT X.K a cls d) := by
  intro pins s σ H xs us Q I r h
  obtain ⟨tp, cs, ws, b, D, dd, fs, rfl, hT, hc, rfl, rfl, C, hd, e, q⟩ := h
  obtain ⟨u1, u2, rfl, r1, r2⟩ := vals2 r
  cases (show u1 = Value.ref a from r1)
  cases (show u2 = Value.ref tp from r2)
  obtain ⟨od, J⟩ := inst_here I hz hf hd
  have ho : ObjOk X.prog X.w H s.heap tp (.tup cs) := I.hok tp _ hT
  obtain ⟨_, its, rv, o, h1, h2, n, h3⟩ := ho
  cases ClsV.all hc rv
  obtain ⟨oc, od', dt, sl⟩ := o
  simp only at h2 h3
  cases h2
  cases h3
  exact PySem.W.kia_tup (kit_here C) I.kIn J h1 e (fun z => nomatch z) fun tk => ⟨.bl b, H, I.tok tk, rfl, q⟩
end
end GX

/-! ### calls, methods, makers and errors by one name each (defs that may raise) -/
namespace GX
open PySem PySem.Spec PyProof.Rows L2
structure CalX (P : Program) (w : World) (K : PySem.W.Frag) (mg : Str → Option Value) (base : Heap) (k : Nat) (x : Str) (sp : Sp) : Prop where
  ex : ∃ (f : Addr) (fd : FuncData) (ps : List Str), FnOk P w K mg base (L2.CX P w) k f fd ps sp ∧ mg x = some (.ref f) ∧ PySem.W.keepIn K (.ref f) = true ∧ L2.Binds K fd ps []
structure MetX (P : Program) (w : World) (K : PySem.W.Frag) (mg : Str → Option Value) (base : Heap) (k : Nat) (C : Addr) (m : Str) (sp : Sp) : Prop where
  ex : ∃ (f : Addr) (fd : FuncData) (ps : List Str), Cls K C ∧ Meth K C m f ∧ FnOk P w K mg base (L2.CX P w) k f fd ps sp ∧ L2.Binds K fd ps []
structure MakX (P : Program) (w : World) (K : PySem.W.Frag) (mg : Str → Option Value) (base : Heap) (k : Nat) (x : Str) (C : Addr) (sp : Sp) : Prop where
  ex : ∃ (f : Addr) (fd : FuncData) (ps : List Str), Mk K C f ∧ FnOk P w K mg base (L2.CX P w) k f fd ps sp ∧ mg x = some (.ref C) ∧ L2.Binds K fd ps []
structure ErrX (P : Program) (w : World) (K : PySem.W.Frag) (mg : Str → Option Value) (base : Heap) (k : Nat) (x : Str) (C : Addr) (sp : Sp) : Prop where
  oex : OexC K C
  ex : ∃ (f : Addr) (fd : FuncData) (ps : List Str), PySem.W.findIn K (.ref C) "__init__" = some (some (.ref f)) ∧ PySem.W.typeIn K (.ref f) = some (.type "function") ∧ FnOk P w K mg base CX0 k f fd ps sp ∧ mg x = some (.ref C) ∧ L2.Binds K fd ps []
/-- raise C(e, ..) -/
def tRaiseO (C : Addr) (sp : Sp) (E : XK) (ta : TA) : TS := fun _ σ H => tMkO C sp [] ta σ H fun cls d H' => E cls d H'
section
variable {X : Cx} {k j : Nat} {C : Addr} {x m : Str} {sp : Sp} {p pos apos pos2 : Pos} {e o : Expr} {es : List Expr} {ta : TE} {t : TA} {E : XK}
theorem pe_cX (c : CalX X.prog X.w X.K X.mg X.base k x sp) (hr : Room j X.A) (hk : k ≤ j) (hg : Gl X x) (hx : Passes (L2.CX X.prog X.w) X E) (ha : PA X (e :: es) t) (hdb : (x == ("__debug__" : Str)) = false := by decide)
    (he : starEach (e :: es) X.env = (false, eval e X.env) :: starEach es X.env := by rfl) (hpl : (backTo pos (starEach es X.env)).any (·.1) = false := by rfl) : PE X (.Call (.Name x p) (e :: es) [] pos) (tCall sp [] E t) :=
  let ⟨_, _, _, F, hm, kp, b⟩ := c.ex
  pe_call F (hr.mono hk) hg hm kp b .nil hx ha hdb he hpl
theorem pe_mkX (c : MakX X.prog X.w X.K X.mg X.base k x C sp) (hr : Room j X.A) (hk : k + 1 ≤ j) (hg : Gl X x) (hx : Passes (L2.CX X.prog X.w) X E) (ha : PA X (e :: es) t) (hdb : (x == ("__debug__" : Str)) = false := by decide)
    (he : starEach (e :: es) X.env = (false, eval e X.env) :: starEach es X.env := by rfl) (hpl : (backTo pos (starEach es X.env)).any (·.1) = false := by rfl) : PE X (.Call (.Name x p) (e :: es) [] pos) (tMake C sp [] E t) :=
  let ⟨_, _, _, M, F, hm, b⟩ := c.ex
  pe_make M F (hr.mono hk) hg hm b .nil hx ha hdb he hpl
theorem pe_mtX {pl : Sem Bool} (c : MetX X.prog X.w X.K X.mg X.base k C m sp) (hr : Room j X.A) (hk : k ≤ j) (hx : Passes (L2.CX X.prog X.w) X E) (he : PE X o ta) (ha : PA X (e :: es) t)
    (hst : starEach (e :: es) X.env = (false, eval e X.env) :: starEach es X.env := by rfl) (hpl : (backTo pos (starEach es X.env)).any (·.1) = false := by rfl)
    (ht : eval (.Call (.Attribute o m apos) (e :: es) [] pos) X.env = (do
      let ov ← eval o X.env; standAt apos.atName; let (f, first) ← holding [ov] (getMethod ov m pl)
      callWith pos f first (backTo pos (starEach (e :: es) X.env)) (backToKw pos (keywordEach [] X.env))) := by rfl) : PE X (.Call (.Attribute o m apos) (e :: es) [] pos) (tMeth C m sp [] E ta t) :=
  let ⟨_, _, _, hc, hm, F, b⟩ := c.ex
  pe_meth (pl := pl) he hc hm F (hr.mono hk) b .nil hx ha hst hpl ht
theorem pe_mtXT {W : WX} {pl : Sem Bool} (c : MetX X.prog X.w X.K X.mg X.base k C m sp) (hr : Room j X.A) (hk : k ≤ j) (tk : Takes X W) (he : PE X o ta) (ha : PA X (e :: es) t)
    (hst : starEach (e :: es) X.env = (false, eval e X.env) :: starEach es X.env := by rfl) (hpl : (backTo pos (starEach es X.env)).any (·.1) = false := by rfl)
    (ht : eval (.Call (.Attribute o m apos) (e :: es) [] pos) X.env = (do
      let ov ← eval o X.env; standAt apos.atName; let (f, first) ← holding [ov] (getMethod ov m pl)
      callWith pos f first (backTo pos (starEach (e :: es) X.env)) (backToKw pos (keywordEach [] X.env))) := by rfl) : PE X (.Call (.Attribute o m apos) (e :: es) [] pos) (tMethS C m sp (WE W) ta t) :=
  let ⟨_, _, _, hc, hm, F, b⟩ := c.ex
  pe_methS (pl := pl) he hc hm F (hr.mono hk) b (fun σ => passAt tk σ) ha hst hpl ht
theorem pe_mkXT {W : WX} (c : MakX X.prog X.w X.K X.mg X.base k x C sp) (hr : Room j X.A) (hk : k + 1 ≤ j) (hg : Gl X x) (tk : Takes X W) (ha : PA X (e :: es) t) (hdb : (x == ("__debug__" : Str)) = false := by decide)
    (he : starEach (e :: es) X.env = (false, eval e X.env) :: starEach es X.env := by rfl) (hpl : (backTo pos (starEach es X.env)).any (·.1) = false := by rfl) : PE X (.Call (.Name x p) (e :: es) [] pos) (tMakeS C sp (WE W) t) :=
  let ⟨_, _, _, M, F, hm, b⟩ := c.ex
  pe_makeS M F (hr.mono hk) hg hm b (fun σ => passAt tk σ) ha hdb he hpl
theorem ps_raiseO (c : ErrX X.prog X.w X.K X.mg X.base k x C sp) (hr : Room j X.A) (hk : k + 1 ≤ j) (hc : X.calm = true) (hg : Gl X x) (tk : Takes X (fun cls d _ H => E cls d H)) (ha : PA X (e :: es) t) (hdb : (x == ("__debug__" : Str)) = false := by decide)
    (he : starEach (e :: es) X.env = (false, eval e X.env) :: starEach es X.env := by rfl) (hpl : (backTo pos (starEach es X.env)).any (·.1) = false := by rfl) : PS X (.Raise (some (.Call (.Name x p) (e :: es) [] pos)) none pos2) (tRaiseO C sp E t) :=
  let ⟨_, _, _, iC, tI, F, hm, b⟩ := c.ex
  ps_raise hc tk (pmk_oex c.oex iC tI F (hr.mono hk) b .nil pass0 hg hm ha hdb he hpl)
end
/-- what an error with one field tells -/
def Raised (C : Addr) (f : Str) (v : V) (H : Hp) (E : XK) : Prop := ∀ (d : Addr) (H' : Hp), H d = none → Same H H' → H' d = some (.xd [(f, v)]) → E (.ref C) (some d) H'
/-- the promise of an error's __init__(self, v): self.f = v -/
def sp_err (K : PySem.W.Frag) (C : Addr) (f : Str) : Sp := fun vs H Q _ => ∃ (a : Addr) (v : V), vs = [.ref a, v] ∧ OexC K C ∧ PySem.W.findIn K (.ref C) f = some none ∧ H a = some (exo a C none) ∧
  ∀ dx, H dx = none → dx ≠ a → Q .non (upd (upd H dx (exd dx [(f, v)])) a (exo a C (some dx)))
def t_err (K : PySem.W.Frag) (f : Str) : TS := tOst K f (tVar 0) (tVar 1)
theorem rd_err {K : PySem.W.Frag} {C : Addr} {f p1 p2 : Str} {vs : List V} {H : Hp} {Q : VK} {E : XK} (h : sp_err K C f vs H Q E) : t_err K f { nx := fun _ H' => Q .non H', rt := Q } (start [p1, p2] vs) H := by
  obtain ⟨a, v, rfl, T, hno, ha, q⟩ := h
  exact ⟨_, rfl, _, rfl, a, C, rfl, T, hno, .inl ⟨ha, q⟩⟩
theorem w_raiseO {K : PySem.W.Frag} {C : Addr} {f : Str} {E : XK} {ta : TA} {D : Ends} {σ : L2.St} {H : Hp} {v : V} {H1 : Hp} (T : OexC K C) (hno : PySem.W.findIn K (.ref C) f = some none) (e1 : ∀ Q, Q [v] H1 → ta σ H Q) (r : Raised C f v H1 E) : tRaiseO C (sp_err K C f) E ta D σ H := by
  refine e1 _ ⟨(by show 1 ≤ 1000; decide), fun a ha => ⟨a, v, rfl, T, hno, upd_same, fun dx hdx ndx => ⟨rfl, dx, [(f, v)], upd_same, by rw [upd_ne ndx]; exact upd_same, ?_, ?_⟩⟩⟩
  · rw [upd_ne ndx] at hdx; exact hdx
  · have hd0 : H1 dx = none := by rw [upd_ne ndx] at hdx; exact hdx
    refine r dx _ hd0 (fun b o e => ?_) upd_same
    have nb : b ≠ dx := ne_of_none e hd0
    have na : b ≠ a := ne_of_none e ha
    rw [upd_ne nb, del_ne na, upd_ne na, upd_ne nb, upd_ne na]; exact e
end GX

/-! ### + by an own __add__; defs called within an except suite; errors with two fields -/
namespace GX
open PySem PySem.Spec PyProof.Rows L2
def rOwnAdd (C : Addr) (sp : Sp) (E : XK) : R2 := fun x y H Q => ∃ (a b dx dy : Addr) (fs gs : List (Str × V)), x = .ref a ∧ y = .ref b ∧ H a = some (.ins C dx fs) ∧ H b = some (.ins C dy gs) ∧
  sp [.ref a, .ref b] H (fun v H' => ∃ p, v = .ref p ∧ Q (.ref p) H') E
structure AddX (P : Program) (w : World) (K : PySem.W.Frag) (mg : Str → Option Value) (base : Heap) (k : Nat) (C : Addr) (sp : Sp) : Prop where
  ex : ∃ (f : Addr) (fd : FuncData) (ps : List Str), FnOk P w K mg base (L2.CX P w) k f fd ps sp ∧ PySem.W.findIn K (.ref C) "__add__" = some (some (.ref f)) ∧ PySem.W.isFn K (.ref f) = true ∧ L2.Binds K fd ps [] ∧ PySem.W.selfFirst K C = true
structure EqX (P : Program) (w : World) (K : PySem.W.Frag) (mg : Str → Option Value) (base : Heap) (k : Nat) (C : Addr) (sp : Sp) : Prop where
  ex : ∃ (f : Addr) (fd : FuncData) (ps : List Str), FnOk P w K mg base CX0 k f fd ps sp ∧ PySem.W.findIn K (.ref C) "__eq__" = some (some (.ref f)) ∧ PySem.W.isFn K (.ref f) = true ∧ L2.Binds K fd ps []
/-- x == y of two instances of a class with an own __eq__ -/
def rOwnEq2 (C : Addr) (sp : Sp) (E : XK) : R2 := fun x y H Q => ∃ (a b dx dy : Addr) (fs gs : List (Str × V)), x = .ref a ∧ y = .ref b ∧ H a = some (.ins C dx fs) ∧ H b = some (.ins C dy gs) ∧
  sp [.ref a, .ref b] H (fun v H' => ∃ r, v = .bl r ∧ Q (.bl r) H') E
section
variable {X : Cx} {k j : Nat} {C : Addr} {sp : Sp}
theorem looks_ins {pins : List (Addr × Obj)} {σ : L2.St} {H : Hp} {s : Shared} {b dy : Addr} {gs : List (Str × V)} (J0 : Inv X pins σ H s) (hb : H b = some (.ins C dy gs)) : PySem.W.Looks (model X.prog X.w) s.heap (typeOf (.ref b)) (.ref C) := by
  obtain ⟨_, J, _⟩ := ins_get J0.hok hb
  obtain ⟨_, J, _⟩ := J.look
  exact J.type
theorem run_add (c : AddX X.prog X.w X.K X.mg X.base k C sp) (room : Room j X.A) (le : k ≤ j) {pins : List (Addr × Obj)} {σ : L2.St} {H : Hp} {s : Shared} {x y : V} {v u : Value} {Q : VK} {E : XK} (out : PassesAt (L2.CX X.prog X.w) X σ E) (J0 : Inv X pins σ H s) (rx : RelV x v) (ry : RelV y u) (h : rOwnAdd C sp E x y H Q) :
    wpAny (model X.prog X.w) X.A (binaryOp .Add v u) (EP X pins σ Q) X.xe s := by
  obtain ⟨f, fd, ps, F, hs, hf, hbd, hself⟩ := c.ex
  obtain ⟨a, b, dx, dy, fs, gs, rfl, rfl, ha, hb, hsp⟩ := h
  cases rx
  cases ry
  have look := looks_ins J0 hb
  obtain ⟨_, J, _⟩ := ins_get J0.hok ha
  obtain ⟨_, J, _⟩ := J.look
  obtain ⟨m, hF⟩ := J0.fr
  have args2 : Vals [V.ref a, V.ref b] [Value.ref a, Value.ref b] := .cons rfl (.cons rfl .nil)
  have two := F.len _ _ _ _ hsp
  have bound := hbd s [.ref a, .ref b] J0.kIn (by simpa using two)
  refine PySem.W.binop_K (op := .Add) hF J0.ok.mod.kin J look hself hs hf (wpAny_call (codeAny_mono (F.run X.A X.stack s H ⟨[.ref a, .ref b], []⟩ _ _ _ E (room.mono le) J0.env0 (by simpa using bound) args2 hsp) fun r s' back => ?_))
  cases r with
  | error e => exact out pins H s e s' J0 back
  | ok fl =>
    cases fl with
    | ret w =>
      obtain ⟨z, H', J', rz, p, ez, q⟩ := J0.after back
      subst ez
      cases rz
      exact ⟨.ref p, H', J', rfl, q⟩
    | next => exact back.elim
    | brk => exact back.elim
    | cont => exact back.elim
theorem op_addX {E : XK} (c : AddX X.prog X.w X.K X.mg X.base k C sp) (room : Room j X.A) (le : k ≤ j) (out : Passes (L2.CX X.prog X.w) X E) : OpR X (binaryOp .Add) (rOwnAdd C sp E) :=
  fun pins s σ H x y v u Q J rx ry h => run_add c room le (fun pins H s e s' => out pins σ H s e s') J rx ry h
/-- a + b within a try -/
def tAddS (C : Addr) (sp : Sp) (E : L2.St → XK) (ta tb : TE) : TE := fun σ H Q => ta σ H fun x H1 => tb σ H1 fun y H2 => rOwnAdd C sp (E σ) x y H2 Q
theorem pe_addS {W : WX} {a b : Expr} {ta tb : TE} {pos : Pos} (c : AddX X.prog X.w X.K X.mg X.base k C sp) (room : Room j X.A) (le : k ≤ j) (tk : Takes X W) (ha : PE X a ta) (hb : PE X b tb) : PE X (.BinOp a .Add b pos) (tAddS C sp (WE W) ta tb) :=
  ⟨fun pins s σ H Q J h => wpAny_BinOp (binT (R := fun x y H2 => rOwnAdd C sp (WE W σ) x y H2 Q) ha hb J h fun v u s2 x y H2 J2 rx ry q => run_add c room le (passAt tk σ) J2 rx ry q)⟩
theorem op_eqX (c : EqX X.prog X.w X.K X.mg X.base k C sp) (room : Room j X.A) (le : k ≤ j) : OpR X (compareOp .Eq) (rOwnEq2 C sp E0) := by
  intro pins s σ H x y v u Q J0 rx ry h
  obtain ⟨f, fd, ps, F, hs, hf, hbd⟩ := c.ex
  obtain ⟨a, b, dx, dy, fs, gs, rfl, rfl, ha, hb, hsp⟩ := h
  cases rx
  cases ry
  have look := looks_ins J0 hb
  obtain ⟨_, J, _⟩ := ins_get J0.hok ha
  obtain ⟨_, J, _⟩ := J.look
  obtain ⟨m, hF⟩ := J0.fr
  have args2 : Vals [V.ref a, V.ref b] [Value.ref a, Value.ref b] := .cons rfl (.cons rfl .nil)
  have two := F.len _ _ _ _ hsp
  have bound := hbd s [.ref a, .ref b] J0.kIn (by simpa using two)
  show wpAny (model X.prog X.w) X.A (richCompare .Eq (.ref a) (.ref b)) (EP X pins σ Q) X.xe s
  refine PySem.W.cmp_K (op := .Eq) room.units0 hF J0.ok.mod.kin J look (by simp [PySem.W.notFirst]) hs hf (wpAny_call (codeAny_mono (F.run X.A X.stack s H ⟨[.ref a, .ref b], []⟩ _ _ _ E0 (room.mono le) J0.env0 (by simpa using bound) args2 hsp) fun r s' back => ?_))
  cases r with
  | error e => exact back.elim
  | ok fl =>
    cases fl with
    | ret w =>
      obtain ⟨z, H', J', rz, p, ez, q⟩ := J0.after back
      subst ez
      cases rz
      exact ⟨.bl p, H', J', rfl, q⟩
    | next => exact back.elim
    | brk => exact back.elim
    | cont => exact back.elim
end
end GX

/-! ### a def called while an exception is held: what it promises may speak of that exception -/
namespace GX
open PySem PySem.Spec PyProof.Rows L2
abbrev SpE := Addr → Value → Option Addr → Sp
structure FnG (P : Program) (w : World) (K : PySem.W.Frag) (mg : Str → Option Value) (base : Heap) (k : Nat) (f : Addr) (fd : FuncData) (ps : List Str) (sp : SpE) : Prop where
  len : ∀ a c d vs H Q, sp a c d vs H Q E0 → vs.length = ps.length
  run : ∀ (A : Around) (outer : List Env) (s : Shared) (H : Hp) (args : Args) (us : List Value) (vs : List V) (Q : VK) (p : Addr × Obj), L2H.RoomH k A → L2H.PinOk outer H s p → (∃ fv, p.2.data = .fields fv) →
    Env0 P w K mg base A outer s H → BindsTo s fd args (ps.zip us) → Vals vs us → sp p.1 p.2.cls p.2.dict vs H Q E0 → codeAny (model P w) A (.call (.ref f) args) (CR CX0 outer P w H s Q E0) s
abbrev cxG (P : Program) (w : World) (K : PySem.W.Frag) (mg : Str → Option Value) (base : Heap) (N : List Str) (qual : Str) (scope : Scope) (f : Addr) (cd : Value) (A : Around) (outer : List Env) (s : Shared) (H : Hp) (p : Addr × Obj) : Cx :=
  L2H.cxH CX0 P w K mg base N qual scope f cd A outer s H E0 p
theorem _root_.L2.Fun.okG {P : Program} {w : World} {K : PySem.W.Frag} {mg : Str → Option Value} {base : Heap} {x qual : Str} {st : Stmt} {f : Addr} {fd : FuncData} {N ps : List Str} {k : Nat} {sp : SpE} (F : Fun K x qual st f fd) (S : FnScope N ps (defScope st))
    (len : ∀ a c d vs H Q, sp a c d vs H Q E0 → vs.length = ps.length)
    (walks : ∀ (cdv : Value) (A : Around) (outer : List Env) (s : Shared) (H : Hp) (vs : List V) (Q : VK) (p : Addr × Obj), (∃ fv, p.2.data = .fields fv) → sp p.1 p.2.cls p.2.dict vs H Q E0 →
      ∃ t, PSs (cxG P w K mg base N qual (defScope st) f cdv A outer s H p) (defBody st) t ∧ t { nx := fun _ H' => Q .non H', rt := Q } (start N vs) H) : FnG P w K mg base (k + 1) f fd ps sp := by
  obtain ⟨oc, od, kV, doc, pm, an, cdv, ct, osl, rfl, at_, code⟩ := F.ex
  constructor
  · exact len
  intro A outer s H args us vs Q p room pin fields env bound rel promise
  have many := len _ _ _ _ _ _ promise
  have inK : K.In s.heap := env.mod.kin.keeps fun b o e => (env.bs b o e).1
  have free : s.heap.NoLimit := env.mod.nolimit.keeps fun b o e => (env.bs b o e).1
  have kinds : ∀ y ∈ ps.zip us, (defScope st).names.lookup y.1 = some .local ∨ ((defScope st).names.lookup y.1 = some .cell ∧ ((cellsFrom (s.heap.objs.size + 1) (defScope st).names []).lookup y.1).isSome = true) := by
    rintro ⟨n, v⟩ hy
    cases S.par n (List.of_mem_zip hy).1 with
    | inl q => exact .inl q
    | inr q => exact .inr ⟨q, PySem.W.cellsFrom_some _ _ _ (.inl q)⟩
  refine codeAny_call_function room.depth (inK _ _ at_) rfl S.co S.gen rfl (PySem.W.codeRec_of inK code) (bound _ _ _ _ (wpAny_newFunctionEnv_cells S.kind kinds fun e0 he s1 x => ?_))
  subst he
  refine ⟨free.keeps x.toInCall.keep, codeAny_func ?_⟩
  obtain ⟨t, der, goal⟩ := walks cdv A outer s H vs Q p fields promise
  have J : Inv (cxG P w K mg base N qual (defScope st) f cdv A outer s H p) [] (start N vs) H s1 := L2H.inv_startH S pin env many rel x
  refine wpAny_mono (der.run [] s1 (start N vs) H _ J goal) (fun r s' back => ?_) fun e s' back => back
  cases r with
  | ret u =>
    obtain ⟨v, σ', H', J', rv, q⟩ := back
    exact ⟨v, H', J'.os, J'.bare, J'.base, J'.hok, rv, q⟩
  | next =>
    obtain ⟨σ', H', J', q⟩ := back
    exact ⟨.non, H', J'.os, J'.bare, J'.base, J'.hok, rfl, q⟩
  | brk => obtain ⟨_, _, _, z⟩ := back; exact False.elim z
  | cont => obtain ⟨_, _, _, z⟩ := back; exact False.elim z
structure HotX (P : Program) (w : World) (K : PySem.W.Frag) (mg : Str → Option Value) (base : Heap) (k : Nat) (x : Str) (sp : SpE) : Prop where
  ex : ∃ (f : Addr) (fd : FuncData) (ps : List Str), FnG P w K mg base k f fd ps sp ∧ mg x = some (.ref f) ∧ PySem.W.keepIn K (.ref f) = true ∧ L2.Binds K fd ps []
/-- f(..) within an except suite -/
def tCallG (sp : Sp) (t : TA) : TE := fun σ H Q => t σ H fun vs H1 => sp vs H1 Q E0
theorem pe_callG {X : Cx} {k j : Nat} {x : Str} {sp : SpE} {p pos : Pos} {e : Expr} {es : List Expr} {t : TA} {a : Addr} {oe : Obj} {cls : Value} {d : Option Addr} {pn : List (Addr × Obj)} (c : HotX X.prog X.w X.K X.mg X.base k x sp) (room : Room j X.A) (le : k ≤ j) (hz : Zc cls d oe) (hf : ∃ vs, oe.data = .fields vs)
    (hg : Gl (X.suite a ((a, oe) :: pn)) x) (ha : PA (X.suite a ((a, oe) :: pn)) (e :: es) t) (hdb : (x == ("__debug__" : Str)) = false := by decide)
    (he : starEach (e :: es) X.env = (false, eval e X.env) :: starEach es X.env := by rfl) (hpl : (backTo pos (starEach es X.env)).any (·.1) = false := by rfl) : PE (X.suite a ((a, oe) :: pn)) (.Call (.Name x p) (e :: es) [] pos) (tCallG (sp a cls d) t) := by
  obtain ⟨f, fd, ps, F, hm, kp, hbd⟩ := c.ex
  obtain ⟨rfl, rfl⟩ := hz
  refine ⟨fun pins s σ H Q J0 h => ?_⟩
  refine wpAny_Call_Name_kw (ld_glob J0 hg hm (PySem.W.callWith_K (h₀ := X.base) J0.ok.mod.kin kp (thn (ha.run pos pins s σ H _ J0 h) fun us s1 ⟨vs, H1, J1, rel, q⟩ => ⟨J1.kIn, ?_⟩) he hpl) hdb)
  have two := F.len _ _ _ _ _ _ q
  have bound := hbd s1 us J1.kIn (by rw [List.append_nil, ← rel.length]; exact two)
  rw [List.append_nil] at bound
  have P1 := J1.pin (a, oe) (List.mem_append_left _ List.mem_cons_self)
  have pin : L2H.PinOk (X.suite a ((a, oe) :: pn)).stack H1 s1 (a, oe) := ⟨P1.1, P1.2.1, fun hmm => (List.mem_cons.mp (J1.stkSub a hmm)).elim P1.2.2.1 P1.2.2.2.1, P1.2.2.2.2⟩
  refine wpAny_call (codeAny_mono (F.run _ (X.suite a ((a, oe) :: pn)).stack s1 H1 ⟨us, []⟩ us vs Q (a, oe) ⟨(room.mono le).dp, (room.mono le).un⟩ pin hf J1.env0 bound rel q) fun r s' back => ?_)
  cases r with
  | error e => exact back.elim
  | ok fl =>
    cases fl with
    | ret u => exact J1.after back
    | next => exact back.elim
    | brk => exact back.elim
    | cont => exact back.elim
/-- isinstance of the exception that is held, within a def that is called in the suite -/
theorem call_isG {P : Program} {w : World} {K : PySem.W.Frag} {mg : Str → Option Value} {base : Heap} {N : List Str} {qual : Str} {scope : Scope} {f : Addr} {cd : Value} {A : Around} {outer : List Env} {s0 : Shared} {H0 : Hp} {p : Addr × Obj} (hf : ∃ vs, p.2.data = .fields vs) :
    CallR (cxG P w K mg base N qual scope f cd A outer s0 H0 p) (.builtin "isinstance") (rIsX K p.1 p.2.cls p.2.dict) := by
  intro pins s σ H xs us Q J0 r h
  obtain ⟨c, u, b, D, dd, fs, rfl, hc, ecls, edict, C, hd, e, q⟩ := h
  obtain ⟨u1, u2, rfl, r1, r2⟩ := vals2 r
  cases (show u1 = Value.ref p.1 from r1)
  cases hc.eq r2
  obtain ⟨hget, _⟩ := J0.pin p (List.mem_append_left _ (by show p ∈ [p]; simp))
  obtain ⟨vs, hv⟩ := hf
  have ho : ObjOk P w H s.heap dd (.xd fs) := J0.hok dd _ hd
  obtain ⟨mA, hns, _⟩ := ho
  obtain ⟨od, e2, _⟩ := lookIn_ns hns
  have J : PySem.W.InstAt s.heap p.1 p.2 D (some od) := ⟨hget, ecls, by unfold PySem.W.notCls; rw [hv] <;> rfl, by rw [edict]; exact e2⟩
  exact PySem.W.kia_one (kit_here C) J0.kIn J e (fun z => nomatch z) fun tk => ⟨.bl b, H, J0.tok tk, rfl, q⟩
/-! ### errors with two fields -/
def sp_err2 (K : PySem.W.Frag) (C : Addr) (f g : Str) : Sp := fun vs H Q _ => ∃ (a : Addr) (v u : V), vs = [.ref a, v, u] ∧ OexC K C ∧ PySem.W.findIn K (.ref C) f = some none ∧ PySem.W.findIn K (.ref C) g = some none ∧ H a = some (exo a C none) ∧
  ∀ dx (H' : Hp), H dx = none → dx ≠ a → H' a = some (exo a C (some dx)) → H' dx = some (exd dx [(g, u), (f, v)]) → (∀ b, b ≠ a → b ≠ dx → H' b = H b) → Q .non H'
def t_err2 (K : PySem.W.Frag) (f g : Str) : TS := tSeq (tOst K f (tVar 0) (tVar 1)) (tOst K g (tVar 0) (tVar 2))
theorem rd_err2 {K : PySem.W.Frag} {C : Addr} {f g p1 p2 p3 : Str} {vs : List V} {H : Hp} {Q : VK} {E : XK} (h : sp_err2 K C f g vs H Q E) : t_err2 K f g { nx := fun _ H' => Q .non H', rt := Q } (start [p1, p2, p3] vs) H := by
  obtain ⟨a, v, u, rfl, T, hf, hg, ha, q⟩ := h
  refine ⟨_, rfl, _, rfl, a, C, rfl, T, hf, .inl ⟨ha, fun dx hdx ndx => ?_⟩⟩
  refine ⟨_, rfl, _, rfl, a, C, rfl, T, hg, .inr ⟨dx, [(f, v)], upd_same, by rw [upd_ne ndx]; exact upd_same, by show 1 ≤ 900; decide, ?_⟩⟩
  refine q dx _ hdx ndx (by rw [upd_ne ndx.symm]; exact upd_same) upd_same fun b nb nd => ?_
  rw [upd_ne nd, upd_ne nb, upd_ne nd]
/-- what an error with two fields tells -/
def Raised2 (C : Addr) (f g : Str) (v u : V) (H : Hp) (E : XK) : Prop := ∀ (d : Addr) (H' : Hp), H d = none → Same H H' → H' d = some (.xd [(g, u), (f, v)]) → E (.ref C) (some d) H'
theorem w_raiseO2 {K : PySem.W.Frag} {C : Addr} {f g : Str} {E : XK} {ta : TA} {D : Ends} {σ : L2.St} {H : Hp} {v u : V} {H1 : Hp} (T : OexC K C) (hf : PySem.W.findIn K (.ref C) f = some none) (hg : PySem.W.findIn K (.ref C) g = some none) (e1 : ∀ Q, Q [v, u] H1 → ta σ H Q) (r : Raised2 C f g v u H1 E) : tRaiseO C (sp_err2 K C f g) E ta D σ H := by
  refine e1 _ ⟨(by show 2 ≤ 1000; decide), fun a ha => ⟨a, v, u, rfl, T, hf, hg, upd_same, fun dx H' hdx ndx h1 h2 h3 => ⟨rfl, dx, _, h1, h2, ?_, ?_⟩⟩⟩
  · rw [upd_ne ndx] at hdx; exact hdx
  · have hd0 : H1 dx = none := by rw [upd_ne ndx] at hdx; exact hdx
    refine r dx _ hd0 (fun b o e => ?_) upd_same
    have nb : b ≠ dx := ne_of_none e hd0
    have na : b ≠ a := ne_of_none e ha
    rw [upd_ne nb, del_ne na, h3 b na nb, upd_ne na]; exact e
end GX

/-! ### facts of the head about error classes and own operators -/
namespace GX
open PySem PySem.Spec PyProof.Rows L2
def clsB (K : PySem.W.Frag) (C : Addr) : Bool := match K.lookup C with
  | some ⟨.type t, _, .cls cd, sl⟩ => (match cd.mro, sl.toList with
    | .ref C2 :: bm, [_, _, _, _, some (.builtin n), _] => t == "type" && (C2 == C && (n == "ValueError.__new__" && (!cd.hasDel && (cd.hasDict && PySem.HandSPX.refsVE bm))))
    | _, _ => false)
  | _ => false
theorem clsB_ok {K : PySem.W.Frag} {C : Addr} (h : clsB K C = true) : ∃ nm q N bs bm sn sub ab col dd k0 k1 k2 k3 k5, K.lookup C = some (excClassObj nm q C N bs bm true sn sub ab col dd k0 k1 k2 k3 k5 "ValueError.__new__") ∧ PySem.HandSPX.refsVE bm = true := by
  unfold clsB at h
  split at h
  · rename_i t dd cd sl found
    split at h
    · rename_i C2 bm k0 k1 k2 k3 n k5 em es
      simp only [Bool.and_eq_true, beq_iff_eq, Bool.not_eq_true'] at h
      obtain ⟨rfl, rfl, rfl, nodel, hasd, tail⟩ := h
      obtain ⟨nm, bs, mro, ns, qn, hd, sn, sub, ab, col, del⟩ := cd
      dsimp only at em nodel hasd
      subst em nodel hasd
      obtain ⟨l⟩ := sl
      simp only at es
      subst es
      exact ⟨nm, qn, ns, bs, bm, sn, sub, ab, col, dd, k0, k1, k2, k3, k5, found, tail⟩
    · cases h
  · cases h
inductive Ex where
  | oex (x : Str)
  | exc (x : Str)
  | xf (x : Str)
  | noat (x f : Str)
  | ini (x : Str)
  | kit (x y : Str) (b : Bool)
  | kitT (x : Str) (t : String) (b : Bool)
  | exm (x y : Str) (b : Bool)
  | first (x : Str)
  | ins (x : Str)
def Ex.ok (K : PySem.W.Frag) : Ex → Bool
  | .oex x => clsB K (He.ga K x) && (decide (PySem.W.findIn K (.ref (He.ga K x)) "__setattr__" = some (some (.builtin "object.__setattr__"))) && (decide (PySem.W.subIn K (.ref (He.ga K x)) (.type "BaseException") = some true) && (decide (PySem.W.typeIn K (.ref (He.ga K x)) = some (.type "type")) && PySem.W.keepIn K (.ref (He.ga K x)))))
  | .exc x => decide (PySem.W.findIn K (.ref (He.ga K x)) "__getattribute__" = some (some (.builtin "BaseException.__getattribute__"))) && (decide (PySem.W.findIn K (.ref (He.ga K x)) "__getattr__" = some none) && (decide (PySem.W.subIn K (.ref (He.ga K x)) (.type "BaseException") = some true) &&
      (PySem.W.hasDictIn K (He.ga K x) && (decide (PySem.W.findIn K (.ref (He.ga K x)) "__class__" = some (some (.builtin "object.__class__"))) && (decide (PySem.W.specialIn K (.builtin "object.__class__") "__get__" = some (some (.builtin "getset_descriptor.__get__"))) &&
      (decide (PySem.W.takesIn K (.builtin "object.__class__") = some true) && decide (PySem.W.mroIn K (He.ga K x) (.type "object") = some true)))))))
  | .xf x => xfB K (He.ga K x)
  | .noat x f => decide (PySem.W.findIn K (.ref (He.ga K x)) f = some none)
  | .ini x => decide (PySem.W.findIn K (.ref (He.ga K x)) "__init__" = some (some (.ref (He.ma K (He.ga K x) "__init__")))) && decide (PySem.W.typeIn K (.ref (He.ma K (He.ga K x) "__init__")) = some (.type "function"))
  | .kit x y b => decide (PySem.W.kitOne K (.ref (He.ga K x)) (.ref (He.ga K y)) = some b)
  | .kitT x t b => decide (PySem.W.kitOne K (.ref (He.ga K x)) (.type t) = some b)
  | .exm x y b => decide (PySem.W.exmOne K (.ref (He.ga K x)) (.ref (He.ga K y)) = some b)
  | .first x => PySem.W.selfFirst K (He.ga K x)
  | .ins x => decide (PySem.W.findIn K (.ref (He.ga K x)) "__class__" = some (some (.builtin "object.__class__"))) && (decide (PySem.W.specialIn K (.builtin "object.__class__") "__get__" = some (some (.builtin "getset_descriptor.__get__"))) &&
      (decide (PySem.W.takesIn K (.builtin "object.__class__") = some true) && decide (PySem.W.mroIn K (He.ga K x) (.type "object") = some true)))
structure InsC (K : PySem.W.Frag) (C : Addr) : Prop where
  ha : PySem.W.findIn K (.ref C) "__class__" = some (some (.builtin "object.__class__"))
  hn : PySem.W.specialIn K (.builtin "object.__class__") "__get__" = some (some (.builtin "getset_descriptor.__get__"))
  ht : PySem.W.takesIn K (.builtin "object.__class__") = some true
  hm : PySem.W.mroIn K C (.type "object") = some true
section
variable {K : PySem.W.Frag} {x y f : Str} {t : String} {b : Bool}
theorem oex_ok (h : (Ex.oex x).ok K = true) : OexC K (He.ga K x) := by
  obtain ⟨h1, h⟩ := He.ba h
  obtain ⟨h2, h⟩ := He.ba h
  obtain ⟨h3, h⟩ := He.ba h
  obtain ⟨h4, h5⟩ := He.ba h
  exact ⟨clsB_ok h1, of_decide_eq_true h2, of_decide_eq_true h3, of_decide_eq_true h4, h5⟩
theorem exc_ok (h : (Ex.exc x).ok K = true) : ExcC K (He.ga K x) := by
  obtain ⟨h1, h⟩ := He.ba h
  obtain ⟨h2, h⟩ := He.ba h
  obtain ⟨h3, h⟩ := He.ba h
  obtain ⟨h4, h⟩ := He.ba h
  obtain ⟨h5, h⟩ := He.ba h
  obtain ⟨h6, h⟩ := He.ba h
  obtain ⟨h7, h8⟩ := He.ba h
  exact ⟨of_decide_eq_true h1, of_decide_eq_true h2, of_decide_eq_true h3, h4, of_decide_eq_true h5, of_decide_eq_true h6, of_decide_eq_true h7, of_decide_eq_true h8⟩
theorem xf_ok (h : (Ex.xf x).ok K = true) : XfC K (He.ga K x) := xfB_ok h
theorem noat_ok (h : (Ex.noat x f).ok K = true) : PySem.W.findIn K (.ref (He.ga K x)) f = some none := of_decide_eq_true h
theorem ini_ok (h : (Ex.ini x).ok K = true) : PySem.W.findIn K (.ref (He.ga K x)) "__init__" = some (some (.ref (He.ma K (He.ga K x) "__init__"))) ∧ PySem.W.typeIn K (.ref (He.ma K (He.ga K x) "__init__")) = some (.type "function") := by
  obtain ⟨h1, h2⟩ := He.ba h
  exact ⟨of_decide_eq_true h1, of_decide_eq_true h2⟩
theorem kit_ok (h : (Ex.kit x y b).ok K = true) : PySem.W.kitOne K (.ref (He.ga K x)) (.ref (He.ga K y)) = some b := of_decide_eq_true h
theorem kitT_ok (h : (Ex.kitT x t b).ok K = true) : PySem.W.kitOne K (.ref (He.ga K x)) (.type t) = some b := of_decide_eq_true h
theorem exm_ok (h : (Ex.exm x y b).ok K = true) : PySem.W.exmOne K (.ref (He.ga K x)) (.ref (He.ga K y)) = some b := of_decide_eq_true h
theorem first_ok (h : (Ex.first x).ok K = true) : PySem.W.selfFirst K (He.ga K x) = true := h
theorem ins_ok (h : (Ex.ins x).ok K = true) : InsC K (He.ga K x) := by
  obtain ⟨h5, h⟩ := He.ba h
  obtain ⟨h6, h⟩ := He.ba h
  obtain ⟨h7, h8⟩ := He.ba h
  exact ⟨of_decide_eq_true h5, of_decide_eq_true h6, of_decide_eq_true h7, of_decide_eq_true h8⟩
end
abbrev AlE : Type := He.AlD × Bool
def obsE (fa : List He.Fa) (fn : List He.DefD) (ex : List Ex) (K : PySem.W.Frag) : AlE := (He.obsD fa fn K, ex.all fun e => e.ok K)
def obsEG (n : Nat) (fa : List He.Fa) (fn : List He.DefD) (ex : List Ex) (g : Addr → Option Obj) : AlE := obsE fa fn ex (He.frG g (He.asD g n))
def SaysE (fa : List He.Fa) (fn : List He.DefD) (ex : List Ex) (K : PySem.W.Frag) : Prop := He.SaysD fa fn K ∧ (ex.all fun e => e.ok K) = true
def hookE (n : Nat) (fa : List He.Fa) (fn : List He.DefD) (ex : List Ex) : PySem.W.Hook where
  α := AlE
  obs := fun s => obsEG n fa fn ex s.heap.get?
  val := fun _ => (He.valD fn, true)
  says := fun _ h => ∃ K : PySem.W.Frag, K.In h ∧ SaysE fa fn ex K
  of := fun _ _ e => ⟨_, He.frG_in, congrArg (fun z : AlE => z.1) e, congrArg (fun z : AlE => z.2) e⟩
  keeps := fun _ _ _ ⟨K, hK, c⟩ k => ⟨K, PySem.W.Frag.In.keeps hK k, c⟩
theorem obsEG_eq {n : Nat} {fa : List He.Fa} {fn : List He.DefD} {ex : List Ex} {g : Addr → Option Obj} {s : Shared} (h : ∀ a, g a = s.heap.get? a) : obsEG n fa fn ex g = (hookE n fa fn ex).obs s := by
  obtain rfl : g = s.heap.get? := funext h
  rfl
theorem SaysE.more {fa : List He.Fa} {fn : List He.DefD} {ex : List Ex} {K : PySem.W.Frag} (c : SaysE fa fn ex K) (i : Nat) {e : Ex} (h : ex[i]? = some e := by rfl) : e.ok K = true := List.all_eq_true.mp c.2 e (List.mem_of_getElem? h)
end GX

namespace G
open PySem PySem.Spec PyProof.Rows L2
/-! ### any(xs) of a list of ints -/
theorem truth_ints {prog : Program} {w : World} {A : Around} {ns : List Int} {its : List Value} (rv : Vals (ns.map V.int) its) :
    TruthOf prog w A (fun i v => its.toArray[i]? = some v) (fun i => (ns.map fun z => z != 0).getD i false) := fun i v s Q E hv hq => by
  have hv' : its[i]? = some v := by simpa using hv
  obtain ⟨x, hx, r⟩ := Paired.at rv hv'
  rw [List.getElem?_map] at hx
  obtain ⟨n, hn, rfl⟩ := Option.map_eq_some_iff.mp hx
  obtain ⟨t, rfl⟩ := r
  have hg : (ns.map fun z => z != 0).getD i false = (n != 0) := by rw [List.getD_eq_getElem?_getD, List.getElem?_map, hn] <;> rfl
  have hq' : Q ((ns.map fun z => z != 0).getD i false) s := hq
  rw [hg] at hq'
  exact PySem.P.truthy_int hq'
def rAnyI (K : PySem.W.Frag) : List V → Hp → VK → Prop := fun vs H Q => ∃ (a : Addr) (ns : List Int), vs = [V.ref a] ∧ SqL K H a (ns.map V.int) ∧ Q (.bl (ns.any fun z => decide (z ≠ 0))) H
theorem cr_anyI {X : Cx} (hc : X.calm = true) : CallR X (.builtin "any") (rAnyI X.K) := by
  intro pins s σ H vs us Q I r h
  obtain ⟨a, ns, rfl, hs, q⟩ := h
  obtain ⟨its, rv, hl, _⟩ := I.list hs
  rw [Vals.ref1 r]
  have hlen := rv.length
  refine call_any_walk (iter_any hl.isList fun s₂ e2 st hne => ?_)
  subst e2
  refine ⟨_, _, _, _, _, _, _, rfl, Walks.list (A := X.A.in1) (I.ok.hd hc) _ a hne its.toArray, st, truth_ints rv, fun h' tk hk => ?_⟩
  refine ⟨.bl _, H, I.kept fun b o eo => hk b o (fun hmem => ?_) (Heap.get?_push_of_some _ eo), ?_, q⟩
  · rcases List.mem_cons.mp hmem with e1 | hmem
    · exact absurd (e1 ▸ Heap.lt_size eo) (Nat.lt_irrefl _)
    · cases hmem
  · show Value.bool _ = Value.bool _
    rw [show its.toArray.size = (ns.map fun z => z != 0).length by rw [List.size_toArray, ← hlen, List.length_map, List.length_map], L2.any_range, List.any_map]
    congr 1
    apply congrArg (ns.any)
    funext z
    by_cases hz : z = 0 <;> simp [hz]
theorem w_anyI {K : PySem.W.Frag} {H : Hp} {Q : VK} {p : Addr} {ns : List Int} (h : SqL K H p (ns.map V.int)) (q : Q (.bl (ns.any fun z => decide (z ≠ 0))) H) : rAnyI K [.ref p] H Q := ⟨p, ns, rfl, h, q⟩
/-! ### comprehensions over enumerate(list) -/
section
variable {K : PySem.W.Frag} {σ : L2.St} {H : Hp} {Q : VK} {tt : TT} {te : TE} {tl : TA}
theorem w_lcE {g : TG} {vs : List Nat} (h : tl σ H fun us H1 => ∃ a xs, us = [.ref a] ∧ SqL K H1 a xs ∧ LcW (Ite K a) g tt te vs σ H1 Q) : tLc (iEnum K tl) g tt te vs σ H Q := h
theorem lcE {a : Addr} {xs : List V} {g : TG} {vs : List Nat} (Pv : Addr → Nat → Hp → Prop) (h0 : ∀ Dl, H Dl = none → Pv Dl 0 (upd H Dl (.lst []))) (hl : ∀ Dl i H1, H Dl = none → i ≤ xs.length → Pv Dl i H1 → SqL K H1 a xs)
    (hs : ∀ Dl i x T H1, H Dl = none → xs[i]? = some x → Pv Dl i H1 → H1 T = none → g (.ref T) (wipe σ vs) (upd H1 T (.tup [.int (i : Nat), x])) fun σ2 H2 => wipe σ2 vs = wipe σ vs ∧ LcT tt te Dl (Pv Dl (i + 1)) σ2 H2)
    (hd : ∀ Dl H1, H Dl = none → Pv Dl xs.length H1 → Q (.ref Dl) H1) : LcW (Ite K a) g tt te vs σ H Q :=
  fun Dl hD => lc_it (walk_enum (K := K) (a := a) (xs := xs)) (Pv Dl) (h0 Dl hD) (fun i H1 hi p => hl Dl i H1 hD hi p) (fun i x H1 H' hi p y => by
    obtain ⟨T, u, v, rfl, hT, rfl, e1, e2⟩ := y
    have e1 := Option.some.inj e1
    subst e1
    exact hs Dl i v T H1 hD e2 p hT) (fun H1 p => hd Dl H1 hD p)
theorem w_enumSq {a : Addr} {xs : List V} {P : Addr → Prop} (h : SqL K H a xs) (q : P a) : ∃ b ys, [V.ref a] = [.ref b] ∧ SqL K H b ys ∧ P b := ⟨a, xs, rfl, h, q⟩
end
/-! ### ints in lists: deep equality -/
theorem dp_is {K : PySem.W.Frag} {H : Hp} : ∀ xs : List Int, DpAll K H (xs.map V.int) (xs.map PyData.int)
  | [] => .nil
  | x :: xs => .cons (.int x) (dp_is xs)
theorem dp_ints {K : PySem.W.Frag} {H : Hp} {p : Addr} {xs : List Int} (h : SqL K H p (xs.map V.int)) : Dp K H (.ref p) (.list (xs.map PyData.int)) := .lst h (dp_is xs)
theorem di_lay : ∀ xs : List Int, PyData.canLayAll0 (xs.map PyData.int) = true
  | [] => rfl
  | x :: xs => by
    rw [List.map_cons]
    show (PyData.canLay0 (.int x) && PyData.canLayAll0 (xs.map PyData.int)) = true
    rw [di_lay xs]; rfl
theorem di_depth : ∀ xs : List Int, PyData.depthAll (xs.map PyData.int) = 0
  | [] => rfl
  | x :: xs => by
    rw [List.map_cons]
    show max (PyData.depth (.int x)) (PyData.depthAll (xs.map PyData.int)) = 0
    rw [di_depth xs]; rfl
theorem di_shaped (xs : List Int) : SeqAt.shaped (.list (xs.map PyData.int)) = true := by
  have h1 : PyData.canLay0 (.list (xs.map PyData.int)) = true := di_lay xs
  have h2 : PyData.depth (.list (xs.map PyData.int)) ≤ 64 := by
    show PyData.depthAll (xs.map PyData.int) + 1 ≤ 64
    rw [di_depth]; decide
  show (PyData.canLay0 (.list (xs.map PyData.int)) && decide (PyData.depth (.list (xs.map PyData.int)) ≤ 64)) = true
  rw [h1, decide_eq_true h2]; rfl
theorem di_eqv : ∀ xs ys : List Int, PyData.eqvAll (xs.map PyData.int) (ys.map PyData.int) = decide (xs = ys)
  | [], [] => rfl
  | [], y :: ys => by simp [PyData.eqvAll]
  | x :: xs, [] => by simp [PyData.eqvAll]
  | x :: xs, y :: ys => by
    rw [List.map_cons, List.map_cons]
    simp only [PyData.eqvAll, PyData.eqv, di_eqv xs ys]
    by_cases h : x = y
    · by_cases h2 : xs = ys <;> simp [h, h2]
    · simp [h]
theorem w_neI2 {K : PySem.W.Frag} {H : Hp} {Q : VK} {p q : Addr} {xs ys : List Int} (hp : SqL K H p (xs.map V.int)) (hq : SqL K H q (ys.map V.int)) (k : Q (.bl (!decide (xs = ys))) H) : rNeD K (.ref p) (.ref q) H Q := by
  refine ⟨_, _, dp_ints hp, dp_ints hq, di_shaped xs, di_shaped ys, ?_⟩
  show Q (.bl (!PyData.eqvAll (xs.map PyData.int) (ys.map PyData.int))) H
  rw [di_eqv]; exact k
theorem w_eqI2 {K : PySem.W.Frag} {H : Hp} {Q : VK} {p q : Addr} {xs ys : List Int} (hp : SqL K H p (xs.map V.int)) (hq : SqL K H q (ys.map V.int)) (k : Q (.bl (decide (xs = ys))) H) : rEqD K (.ref p) (.ref q) H Q := by
  refine ⟨_, _, dp_ints hp, dp_ints hq, di_shaped xs, di_shaped ys, ?_⟩
  show Q (.bl (PyData.eqvAll (xs.map PyData.int) (ys.map PyData.int))) H
  rw [di_eqv]; exact k
end G
local macro_rules | `(tactic| walk_at "call") => `(tactic| first
  | (refine' G.w_anyI ?g1 ?_; (case g1 => walk_at "sq")) | refine' G.w_lcE ?_ | (refine' G.w_enumSq ?g1 ?_; (case g1 => walk_at "sq"))
  | (refine' G.w_neI2 ?g1 ?g2 ?_; (case g1 => walk_at "sq"); (case g2 => walk_at "sq")) | (refine' G.w_eqI2 ?g1 ?g2 ?_; (case g1 => walk_at "sq"); (case g2 => walk_at "sq")))

namespace G
open PySem L2
/-! ### more words -/
section
variable {K : PySem.W.Frag} {σ : L2.St} {H : Hp} {Q : VK} {D : Ends} {v x y : V} {ta te : TE} {p : Addr}
theorem w_tru {Qb : Bool → Hp → Prop} (h : ta σ H fun x H' => ∃ k, TruV K x H' k ∧ Qb k H') : tTruK K ta σ H Qb := h
theorem w_truL {xs : List V} {Qb : Bool → Prop} (h : SqL K H p xs) (q : Qb (!xs.isEmpty)) : ∃ k, TruV K (.ref p) H k ∧ Qb k := ⟨_, .inl ⟨xs, h, rfl⟩, q⟩
theorem w_revL (h : te σ H fun x H1 => ∃ a xs, x = .ref a ∧ SqL K H1 a xs ∧ ∀ p, H1 p = none → Q (.ref p) (upd H1 p (.lst xs.reverse))) : tRevL K te σ H Q := h
theorem w_revL2 {xs : List V} {P : Addr → List V → Prop} (h : SqL K H p xs) (q : P p xs) : ∃ a ys, V.ref p = .ref a ∧ SqL K H a ys ∧ P a ys := ⟨p, xs, rfl, h, q⟩
theorem w_rep {xs : List V} {k : Int} (h : H p = some (.lst xs)) (h0 : -4611686018427387904 ≤ k) (h1 : k < 4611686018427387904) (hl : xs.length * k.toNat ≤ sizeLine)
    (q : ∀ l, H l = none → Q (.ref l) (upd H l (.lst (List.replicate k.toNat xs).flatten))) : rRep (.ref p) (.int k) H Q := ⟨p, k, xs, rfl, rfl, h, by omega, by omega, hl, q⟩
theorem w_isNr (h : ta σ H fun x H1 => Q (.bl (decide (x = .non))) H1) : tIsN ta σ H Q := h
theorem w_notN (h : ta σ H fun x H1 => Q (.bl (!decide (x = .non))) H1) : tNotN ta σ H Q := h
theorem w_any {bs : List Bool} (h : SqL K H p (bs.map V.bl)) (q : Q (.bl (bs.any id)) H) : rAny K [.ref p] H Q := ⟨p, bs, rfl, h, q⟩
theorem w_all {bs : List Bool} (h : SqL K H p (bs.map V.bl)) (q : Q (.bl (bs.all id)) H) : rAll K [.ref p] H Q := ⟨p, bs, rfl, h, q⟩
theorem w_isT {t u : String} {b : Bool} (ty : TyX K H x (.type t)) (e : PySem.W.kitOne K (.type t) (.type u) = some b) (q : Q (.bl b) H) : rIsi K [x, .ty u] H Q :=
  ⟨x, .ty u, .type t, .type u, b, rfl, ClsV.ty u, ty, e, q⟩
theorem w_isII {a : Int} (q : Q (.bl true) H) : rIsi K [.int a, .ty "int"] H Q := w_isT (t := "int") (b := true) (TyX.base (TyOf.int a)) (kit_ty (by decide +kernel)) q
theorem w_isIB {a : Int} (q : Q (.bl false) H) : rIsi K [.int a, .ty "bool"] H Q := w_isT (t := "int") (b := false) (TyX.base (TyOf.int a)) (kit_ty (by decide +kernel)) q
theorem w_isBB {a : Bool} (q : Q (.bl true) H) : rIsi K [.bl a, .ty "bool"] H Q := w_isT (t := "bool") (b := true) (TyX.base (TyOf.bl a)) (kit_ty (by decide +kernel)) q
theorem w_isLL {xs : List V} (h : H p = some (.lst xs)) (q : Q (.bl true) H) : rIsi K [.ref p, .ty "list"] H Q := w_isT (t := "list") (b := true) (TyX.base (TyOf.lst h)) (kit_ty (by decide +kernel)) q
end
theorem at_of {xs : List V} {k : Int} {j : Nat} {v : V} (e : k = (j : Int)) (h : xs[j]? = some v) : atI xs k = some v := atn e h
/-! ### the draws -/
def sp_law_bag (K : PySem.W.Frag) (A : CA) : Sp := fun vs H Q _ => ∃ (a : Addr) (k : Int) (ns : List Int), vs = [.ref a, .int k] ∧ SqL K H a (ns.map V.int) ∧ 0 ≤ k ∧ k ≤ 1000 ∧ ns.length ≤ 63 ∧
  ∀ (s : Addr) (H' : Hp), H s = none → Same H H' → Src H' s → Q (.ref s) H'
def sp_law_take (K : PySem.W.Frag) (A : CA) : Sp := fun vs H Q _ => ∃ (s : Addr) (n : Int), vs = [.ref s, .int n] ∧ Src H s ∧ 0 < n ∧ n < 1073741824 ∧
  ∀ (r : Int) (H' : Hp), 0 ≤ r → r < n → But s H H' → Src H' s → Q (.int r) H'
def sp_law_copies (K : PySem.W.Frag) (A : CA) : Sp := fun vs H Q _ => ∃ (s : Addr), vs = [.ref s] ∧ Src H s ∧
  ∀ (r : Int) (H' : Hp), 1 ≤ r → r ≤ 70 → But s H H' → Src H' s → Q (.int r) H'
theorem i_take {K : PySem.W.Frag} {A : CA} {H : Hp} {Q : VK} {E : XK} {s : Addr} {n : Int} (hs : Src H s) (h0 : 0 < n) (h1 : n < 1073741824)
    (k : ∀ (r : Int) (H' : Hp), 0 ≤ r → r < n → But s H H' → Src H' s → Q (.int r) H') : sp_law_take K A [.ref s, .int n] H Q E := ⟨s, n, rfl, hs, h0, h1, k⟩
theorem i_copies {K : PySem.W.Frag} {A : CA} {H : Hp} {Q : VK} {E : XK} {s : Addr} (hs : Src H s)
    (k : ∀ (r : Int) (H' : Hp), 1 ≤ r → r ≤ 70 → But s H H' → Src H' s → Q (.int r) H') : sp_law_copies K A [.ref s] H Q E := ⟨s, rfl, hs, k⟩
theorem i_bag {K : PySem.W.Frag} {A : CA} {H : Hp} {Q : VK} {E : XK} {a : Addr} {k : Int} {ns : List Int} (h : SqL K H a (ns.map V.int)) (hl : ns.length ≤ 63) (h0 : 0 ≤ k) (h1 : k ≤ 1000)
    (q : ∀ (s : Addr) (H' : Hp), H s = none → Same H H' → Src H' s → Q (.ref s) H') : sp_law_bag K A [.ref a, .int k] H Q E := ⟨a, k, ns, rfl, h, h0, h1, hl, q⟩
end G
local macro_rules | `(tactic| walk_at "call") => `(tactic| first
  | refine' G.w_tru ?_ | (refine' G.w_truL ?g1 ?_; (case g1 => walk_at "sq")) | refine' G.w_revL ?_ | (refine' G.w_revL2 ?g1 ?_; (case g1 => walk_at "sq"))
  | (refine' G.w_rep ?g1 ?g2 ?g3 ?g4 ?_; (case g1 => walk_at "hp"); (case g2 => walk_at "ar"); (case g3 => walk_at "ar"); (case g4 => walk_at "sz"))
  | refine' G.w_isNr ?_ | refine' G.w_notN ?_ | refine' G.w_isII ?_ | refine' G.w_isIB ?_ | refine' G.w_isBB ?_ | (refine' G.w_isLL ?g1 ?_; (case g1 => walk_at "hp"))
  | (refine' G.i_take ?g1 ?g2 ?g3 ?_; (case g1 => walk_at "src"); (case g2 => walk_at "ar"); (case g3 => walk_at "ar"))
  | (refine' G.i_copies ?g1 ?_; (case g1 => walk_at "src"))
  | (refine' G.i_bag ?g1 ?g2 ?g3 ?g4 ?_; (case g1 => walk_at "sq"); (case g2 => walk_at "ar"); (case g3 => walk_at "ar"); (case g4 => walk_at "ar")))
namespace G
open PySem L2
def t_law_bag (K : PySem.W.Frag) (A : CA) : TS :=
  (tSeq (tAsg (tOp oAdd (tC (.int 104729)) (tOp oMul (tC (.int 7919)) (tVar 1))) (gName 2))
  (tSeq (tIfS (tTest (tOp oLt (tVar 1) (tCB (rLenQ K) (tCons (tVar 0) tNil)))) (tAsg (tOp (rIxL K) (tVar 0) (tVar 1)) (gName 2)) (tIfS (tTruK K (tVar 0)) (tAsg (tOp oAdd (tVar 2) (tOp oMod (tCB oInt (tCons (tOp oMul (tOp (rIxL K) (tVar 0) (tC (.int 0))) (tC (.int 31))) tNil)) (tC (.int 1000003)))) (gName 2)) tNext))
  (tSeq (tIfS (tTest (tOp oGe (tCB oAbs (tCons (tVar 2) tNil)) (tOp oPow (tC (.int 10)) (tC (.int 18))))) (tRet (tLst (tCons (tCB oAbs (tCons (tVar 2) tNil)) (tCons (tVar 2) (tCons (tC (.int 0)) (tCons (tVar 1) tNil)))))) tNext)
  (tRet (tLst (tCons (tC (.int 0)) (tCons (tVar 2) (tCons (tC (.int 0)) (tCons (tVar 1) tNil)))))))))
def t_law_take (K : PySem.W.Frag) (A : CA) : TS :=
  (tSeq (tAsg (tOp oAdd (tOp (rIxL K) (tVar 0) (tC (.int 2))) (tC (.int 1))) (gSub (tVar 0) (tC (.int 2)) rSetL))
  (tSeq (tIfS (tTest (tOp oGt (tOp (rIxL K) (tVar 0) (tC (.int 0))) (tC (.int 0)))) (tSeq (tAsg (tOp oMod (tCB oInt (tCons (tOp (rIxL K) (tVar 0) (tC (.int 0))) tNil)) (tVar 1)) (gName 2))
  (tSeq (tAsg (tOp oDiv (tOp (rIxL K) (tVar 0) (tC (.int 0))) (tVar 1)) (gSub (tVar 0) (tC (.int 0)) rSetL))
  (tRet (tVar 2)))) tNext)
  (tSeq (tAsg (tOp oMod (tCB oInt (tCons (tOp oAdd (tOp oAdd (tOp oAdd (tOp oMul (tOp (rIxL K) (tVar 0) (tC (.int 1))) (tC (.int 48271))) (tOp oMul (tOp (rIxL K) (tVar 0) (tC (.int 2))) (tC (.int 69621)))) (tOp oMul (tOp (rIxL K) (tVar 0) (tC (.int 3))) (tC (.int 7919)))) (tC (.int 11))) tNil)) (tC (.int 2147483647))) (gName 3))
  (tSeq (tAsg (tOp oMod (tCB oInt (tCons (tOp oAdd (tOp oAdd (tOp oMul (tVar 3) (tVar 3)) (tOp oMul (tOp (rIxL K) (tVar 0) (tC (.int 2))) (tC (.int 40692)))) (tOp (rIxL K) (tVar 0) (tC (.int 1)))) tNil)) (tC (.int 2147483399))) (gName 4))
  (tSeq (tAsg (tOp oMod (tCB oInt (tCons (tOp oAdd (tOp oMul (tVar 4) (tVar 4)) (tVar 3)) tNil)) (tC (.int 2147483629))) (gName 5))
  (tRet (tOp oMod (tOp oDiv (tVar 5) (tC (.int 16))) (tVar 1))))))))
def t_law_copies (K : PySem.W.Frag) (A : CA) : TS :=
  (tSeq (tIfS (tTest (tOp rEq (tCall (sp_law_take K A) [] E0 (tCons (tVar 0) (tCons (tC (.int 8)) tNil))) (tC (.int 7)))) (tRet (tOp oAdd (tC (.int 1)) (tCall (sp_law_take K A) [] E0 (tCons (tVar 0) (tCons (tC (.int 70)) tNil))))) tNext)
  (tRet (tOp oAdd (tC (.int 1)) (tCall (sp_law_take K A) [] E0 (tCons (tVar 0) (tCons (tC (.int 4)) tNil))))))

variable {K : PySem.W.Frag} {A : CA} {vs : List V} {H : Hp} {Q : VK} {E : XK}
theorem rd_law_bag (h : sp_law_bag K A vs H Q E) : t_law_bag K A { nx := fun _ H' => Q .non H', rt := Q } (start ["script", "k", "cell"] vs) H := by
  obtain ⟨a, k, ns, rfl, hs, h0, h1, h63, q⟩ := h
  unfold t_law_bag
  walk_at "go"
  refine w_iteD (fun hc => ?_) (fun hc => ?_)
  · have hk : k.toNat < ns.length := by
      rw [List.length_map] at hc; omega
    have hx : atI (ns.map V.int) k = some (V.int ns[k.toNat]) := at_of (j := k.toNat) (by omega) (by simp [hk])
    walk_at "go"
    refine w_iteD (fun _ => ?_) (fun _ => ?_) <;> (walk_at "go"; intro l hl; exact q _ _ hl (same_new hl) ⟨_, _, _, _, upd_same⟩)
  · walk_at "go"
    cases ns with
    | nil =>
      refine w_iteF ?_
      walk_at "go"
      refine w_iteD (fun _ => ?_) (fun _ => ?_) <;> (walk_at "go"; intro l hl; exact q _ _ hl (same_new hl) ⟨_, _, _, _, upd_same⟩)
    | cons n r =>
      refine w_iteT ?_
      have hx : atI ((n :: r).map V.int) 0 = some (V.int n) := at0
      walk_at "go"
      refine w_iteD (fun _ => ?_) (fun _ => ?_) <;> (walk_at "go"; intro l hl; exact q _ _ hl (same_new hl) ⟨_, _, _, _, upd_same⟩)
theorem rd_law_take (h : sp_law_take K A vs H Q E) : t_law_take K A { nx := fun _ H' => Q .non H', rt := Q } (start ["bag", "size", "digit", "first", "second", "third"] vs) H := by
  obtain ⟨s, n, rfl, ⟨x, y, z, u, hs⟩, h0, h1, k⟩ := h
  unfold t_law_take
  walk_at "go"
  refine w_iteD (fun hc => ?_) (fun hc => ?_)
  · walk_at "go"
    exact k _ _ (Int.emod_nonneg _ (by omega)) (Int.emod_lt_of_pos _ h0) But.refl.self.self ⟨_, _, _, _, upd_same⟩
  · walk_at "go"
    exact k _ _ (Int.emod_nonneg _ (by omega)) (Int.emod_lt_of_pos _ h0) But.refl.self ⟨_, _, _, _, upd_same⟩
theorem rd_law_copies (h : sp_law_copies K A vs H Q E) : t_law_copies K A { nx := fun _ H' => Q .non H', rt := Q } (start ["bag"] vs) H := by
  obtain ⟨s, rfl, hs, k⟩ := h
  unfold t_law_copies
  walk_at "go"
  intro r H1 r0 r1 b1 s1
  walk_at "go"
  refine w_iteD (fun hc => ?_) (fun hc => ?_)
  · walk_at "go"
    intro r2 H2 r3 r4 b2 s2
    walk_at "go"
    exact k _ _ (by omega) (by omega) (b1.trans b2) s2
  · walk_at "go"
    intro r2 H2 r3 r4 b2 s2
    walk_at "go"
    exact k _ _ (by omega) (by omega) (b1.trans b2) s2
end G

namespace G
open PySem L2
variable {K : PySem.W.Frag} {A : CA} {vs : List V} {H : Hp} {Q : VK} {E : XK}
/-- chains: numbers from 0 to 60 -/
def Chn (c : List Int) : Prop := ∀ n ∈ c, 0 ≤ n ∧ n ≤ 60
theorem Chn.app {a b : List Int} (h : Chn a) (k : Chn b) : Chn (a ++ b) := fun n hn => by
  rcases List.mem_append.mp hn with q | q
  · exact h n q
  · exact k n q
theorem Chn.set {a : List Int} {i : Nat} {v : Int} (h : Chn a) (h0 : 0 ≤ v) (h1 : v ≤ 60) : Chn (a.set i v) := fun n hn => by
  rcases List.mem_or_eq_of_mem_set hn with q | q
  · exact h n q
  · rw [q]; exact ⟨h0, h1⟩
theorem Chn.sub {a b : List Int} (h : Chn a) (k : ∀ x ∈ b, x ∈ a) : Chn b := fun n hn => h n (k n hn)
theorem Chn.rep {a : List Int} {k : Nat} (h : Chn a) : Chn (List.replicate k a).flatten := h.sub fun x hx => by
  obtain ⟨l, hl, hm⟩ := List.mem_flatten.mp hx
  rw [(List.mem_replicate.mp hl).2] at hm; exact hm
theorem map_rep {a : List Int} {k : Nat} : (List.replicate k (a.map V.int)).flatten = ((List.replicate k a).flatten).map V.int := by
  rw [List.map_flatten, List.map_replicate]
theorem len_rep {α : Type} {a : List α} {k : Nat} : (List.replicate k a).flatten.length = k * a.length := by
  simp [List.length_flatten, List.map_replicate, List.sum_replicate_nat]
theorem snocI (xs : List Int) (z : Int) : xs.map V.int ++ [V.int z] = (xs ++ [z]).map V.int := by rw [List.map_append]; rfl
end G

namespace G
open PySem L2
/-! ### made lists -/
section
variable {K : PySem.W.Frag} {σ : L2.St} {H : Hp} {ta tb : TE} {xs ys : List Int} {k a : Int} {i : Nat}
/-- the expression makes a new list of these ints -/
def Mk (ta : TE) (σ : L2.St) (H : Hp) (xs : List Int) : Prop := ∀ Q : VK, (∀ p H', H p = none → Same H H' → H' p = some (.lst (xs.map V.int)) → Q (.ref p) H') → ta σ H Q
/-- the expression is this int and changes nothing -/
def Iv (tb : TE) (σ : L2.St) (k : Int) : Prop := ∀ (H : Hp) (Q : VK), Q (.int k) H → tb σ H Q
theorem Iv.var (h : σ[i]? = some (some (.int k))) : Iv (tVar i) σ k := fun _ _ q => w_var h q
theorem Iv.c : Iv (tC (.int k)) σ k := fun _ _ q => q
theorem Iv.sub {m : Int} (h : Iv ta σ k) (h2 : Iv tb σ m) : Iv (tOp oSub ta tb) σ (k - m) := fun _ _ q => w_op (h _ _ (h2 _ _ (w_oSub q)))
theorem Iv.add {m : Int} (h : Iv ta σ k) (h2 : Iv tb σ m) : Iv (tOp oAdd ta tb) σ (k + m) := fun _ _ q => w_op (h _ _ (h2 _ _ (w_oAdd q)))
theorem Mk.one (h : Iv ta σ a) : Mk (tLst (tCons ta tNil)) σ H [a] := fun Q q => w_lst (w_cons (h _ _ (w_nil ⟨Nat.le_trans (by simp : [V.int a].length ≤ 1) (by decide), fun p hp => q p _ hp (same_new hp) upd_same⟩)))
theorem Mk.rep (h : Mk ta σ H xs) (h2 : Iv tb σ k) (h0 : -4611686018427387904 ≤ k) (h1 : k < 4611686018427387904) (hl : xs.length * k.toNat ≤ 100000) : Mk (tOp rRep ta tb) σ H (List.replicate k.toNat xs).flatten := fun Q q =>
  w_op (h _ fun p H1 hp e hx => h2 _ _ (w_rep hx h0 h1 (by rw [List.length_map]; exact Nat.le_trans hl (by decide)) fun l hl => q l _ (e.free hl) (e.trans (same_new hl)) (by rw [map_rep]; exact upd_same)))
theorem Mk.cat (h : Mk ta σ H xs) (h2 : ∀ H', Same H H' → Mk tb σ H' ys) (hl : xs.length + ys.length ≤ 100000) : Mk (tOp rCat ta tb) σ H (xs ++ ys) := fun Q q =>
  w_op (h _ fun p H1 hp e hx => h2 H1 e _ fun p2 H2 hp2 e2 hy => w_cat (e2 _ _ hx) hy (by rw [List.length_map, List.length_map]; exact Nat.le_trans hl (by decide)) fun l hl => q l _ ((e.trans e2).free hl) ((e.trans e2).trans (same_new hl)) (by rw [← List.map_append]; exact upd_same))
theorem Mk.same {H' : Hp} (e : Same H H') (h : ∀ H1, Mk ta σ H1 xs) : Mk ta σ H' xs := h H'
end
theorem flat_one {α : Type} (k : Nat) (x : α) : (List.replicate k [x]).flatten = List.replicate k x := by
  induction k with
  | zero => rfl
  | succ k ih => rw [List.replicate_succ, List.flatten_cons, ih]; rfl
end G

namespace G
open PySem L2
def sp_law_is_integer (K : PySem.W.Frag) (A : CA) : Sp := fun vs H Q _ => ∃ (a : Int), vs = [.int a] ∧ Q (.bl true) H
variable {K : PySem.W.Frag} {A : CA} {vs : List V} {H : Hp} {Q : VK} {E : XK}
theorem i_isint {a : Int} (q : Q (.bl true) H) : sp_law_is_integer K A [.int a] H Q E := ⟨a, rfl, q⟩
theorem Same.but2 {H1 H2 : Hp} {s : Addr} (e : Same H H1) (b : But s H1 H2) (hs : H s = none) : Same H H2 := fun p u h => b p u (ne_of_none h hs) (e p u h)
theorem w_neB {a b : Bool} (q : Q (.bl (!decide (a = b))) H) : rNe (.bl a) (.bl b) H Q := ⟨rfl, by
  have e : (decide (V.bl a = V.bl b)) = decide (a = b) := by simp
  rw [e]; exact q⟩
end G
local macro_rules | `(tactic| walk_at "call") => `(tactic| first
  | refine' G.i_isint ?_ | refine' G.w_neB ?_)
namespace G
open PySem L2
def t_law_is_integer (K : PySem.W.Frag) (A : CA) : TS :=
  (tRet (tAndV (tCB (rIsi K) (tCons (tVar 0) (tCons (tC (.ty "int")) tNil))) (tNotV (tCB (rIsi K) (tCons (tVar 0) (tCons (tC (.ty "bool")) tNil))))))

variable {K : PySem.W.Frag} {A : CA} {vs : List V} {H : Hp} {Q : VK} {E : XK}
theorem rd_law_is_integer (h : sp_law_is_integer K A vs H Q E) : t_law_is_integer K A { nx := fun _ H' => Q .non H', rt := Q } (start ["actual"] vs) H := by
  obtain ⟨a, rfl, q⟩ := h
  unfold t_law_is_integer
  walk_at "go"
  exact q
end G

namespace G
open PySem L2
/-- the heights of the program -/
def sp_height_over (K : PySem.W.Frag) (A : CA) : Sp := fun vs H Q _ => ∃ (b n w : Int), vs = [.int b, .int n, .int w] ∧ Q (.int (M.ho b n w)) H
variable {K : PySem.W.Frag} {A : CA} {vs : List V} {H : Hp} {Q : VK} {E : XK}
theorem i_height_over {b n w : Int} (q : Q (.int (M.ho b n w)) H) : sp_height_over K A [.int b, .int n, .int w] H Q E := ⟨b, n, w, rfl, q⟩
end G
local macro_rules | `(tactic| walk_at "call") => `(tactic| refine' G.i_height_over ?_)
namespace G
open PySem L2
def t_height_over (K : PySem.W.Frag) (A : CA) : TS :=
  (tSeq (tIfS (tTest (tOp rEq (tVar 1) (tC (.int 0)))) (tRet (tOp oAdd (tVar 0) (tC (.int 1)))) tNext)
  (tRet (tIf (tAnd (tTest (tOp rEq (tVar 1) (tC (.int 1)))) (tTest (tOp oGe (tVar 0) (tVar 2)))) (tC (.int 1)) (tC (.int 0)))))

variable {K : PySem.W.Frag} {A : CA} {vs : List V} {H : Hp} {Q : VK} {E : XK}
theorem rd_height_over (h : sp_height_over K A vs H Q E) : t_height_over K A { nx := fun _ H' => Q .non H', rt := Q } (start ["below", "blank", "copies"] vs) H := by
  obtain ⟨b, n, w, rfl, q⟩ := h
  unfold t_height_over
  walk_at "go"
  refine w_iteD (fun hc => ?_) (fun hc => ?_)
  · walk_at "go"
    subst hc; rw [M.ho0] at q; exact q
  walk_at "go"
  unfold M.ho at q
  rw [if_neg hc] at q
  refine w_iteD (fun h1 => ?_) (fun h1 => ?_)
  · walk_at "go"
    refine w_iteD (fun h2 => ?_) (fun h2 => ?_)
    · walk_at "go"
      rw [if_pos ⟨h1, h2⟩] at q; exact q
    · walk_at "go"
      rw [if_neg (fun e => h2 e.2)] at q; exact q
  · walk_at "go"
    rw [if_neg (fun e => h1 e.1)] at q; exact q
theorem rev_map (c : List Int) : (c.map V.int).reverse = (c.reverse).map V.int := List.map_reverse.symm
end G

namespace G
open PySem L2
structure CT (K : PySem.W.Frag) (A : CA) : Prop where
  c_Stretch : Cls K A.Stretch
  n_Stretch__lift : NoAttr K A.Stretch "_lift"
  n_Stretch_copies : NoAttr K A.Stretch "copies"
  i_Stretch : GX.InsC K A.Stretch
  e_CopiesDiffer : OexC K A.CopiesDiffer
  x_CopiesDiffer : ExcC K A.CopiesDiffer
  xf_CopiesDiffer : XfC K A.CopiesDiffer
  f_CopiesDiffer_left : PySem.W.findIn K (.ref A.CopiesDiffer) "left" = some none
  f_CopiesDiffer_right : PySem.W.findIn K (.ref A.CopiesDiffer) "right" = some none
  m_CopiesDiffer : PySem.W.exmOne K (.ref A.CopiesDiffer) (.ref A.CopiesDiffer) = some true
  k_CopiesDiffer_LotError : PySem.W.kitOne K (.ref A.CopiesDiffer) (.ref A.LotError) = some false
  k_CopiesDiffer_OnecopyError : PySem.W.kitOne K (.ref A.CopiesDiffer) (.ref A.OnecopyError) = some true
  k_CopiesDiffer_ValueError : PySem.W.kitOne K (.ref A.CopiesDiffer) (.type "ValueError") = some true
/-! ### stretches in the heap -/
def ov : Option Int → V
  | none => .non
  | some i => .int i
def stF (w : Nat) (l : Addr) : List (Str × V) := [("copies", .int (w : Int)), ("_lift", .ref l)]
theorem st_copies {w : Nat} {l : Addr} : (stF w l).lookup ("copies" : Str) = some (.int (w : Int)) := rfl
theorem st_lift {w : Nat} {l : Addr} : (stF w l).lookup ("_lift" : Str) = some (.ref l) := by
  show (match ((("_lift" : Str) == ("copies" : Str)) : Bool) with | true => some (V.int (w : Int)) | false => List.lookup ("_lift" : Str) [(("_lift" : Str), V.ref l)]) = _
  rw [show (("_lift" : Str) == ("copies" : Str)) = false by decide]
  simp [List.lookup]
theorem st_meth {w : Nat} {l : Addr} {m : Str} (h1 : (m == ("copies" : Str)) = false) (h2 : (m == ("_lift" : Str)) = false) : (stF w l).lookup m = none := by
  unfold stF; simp [List.lookup, h1, h2]
structure StX (A : CA) (H : Hp) (x : Addr) (c : List Int) (w : Nat) : Prop where
  ex : ∃ dx l, H x = some (.ins A.Stretch dx (stF w l)) ∧ H l = some (.lst ((M.lf c w).map ov))
theorem StX.same {A : CA} {H H' : Hp} {x : Addr} {c : List Int} {w : Nat} (e : Same H H') (h : StX A H x c w) : StX A H' x c w := let ⟨dx, l, h1, h2⟩ := h.ex; ⟨dx, l, e _ _ h1, e _ _ h2⟩
def sp_lifted (K : PySem.W.Frag) (A : CA) : Sp := fun vs H Q _ => ∃ (a : Addr) (c : List Int) (b w : Int), vs = [.int b, .ref a, .int w] ∧ H a = some (.lst (c.map V.int)) ∧ c.length ≤ 1000 ∧ ∀ H', Same H H' → Q (ov (M.rise c w b)) H'
def sp_Stretch_init (K : PySem.W.Frag) (A : CA) : Sp := fun vs H Q _ => ∃ (H0 : Hp) (x dx a : Addr) (c : List Int) (w : Nat), vs = [.ref x, .ref a, .int (w : Int)] ∧ H = upd (upd H0 dx (.own x)) x (.ins A.Stretch dx []) ∧ H0 x = none ∧ H0 dx = none ∧ dx ≠ x ∧ H0 a = some (.lst (c.map V.int)) ∧ c.length ≤ 1000 ∧ w ≤ 1000 ∧
  ∀ dx' l H', H0 l = none → Same H0 H' → H' x = some (.ins A.Stretch dx' (stF w l)) → H' l = some (.lst ((M.lf c w).map ov)) → Q .non H'
def sp_Stretch_lift (K : PySem.W.Frag) (A : CA) : Sp := fun vs H Q _ => ∃ (x : Addr) (c : List Int) (w : Nat), vs = [.ref x] ∧ StX A H x c w ∧ w ≤ 1000 ∧ ∀ p H', H p = none → Same H H' → H' p = some (.lst ((M.lf c w).map ov)) → Q (.ref p) H'
def sp_Stretch_is_keepable (K : PySem.W.Frag) (A : CA) : Sp := fun vs H Q _ => ∃ (x : Addr) (c : List Int) (w : Nat), vs = [.ref x] ∧ StX A H x c w ∧ Q (.bl (M.rise c w 0).isSome) H
def sp_Stretch_eq (K : PySem.W.Frag) (A : CA) : Sp := fun vs H Q _ => ∃ (x y : Addr) (c d : List Int) (w v : Nat), vs = [.ref x, .ref y] ∧ StX A H x c w ∧ StX A H y d v ∧ Q (.bl (decide (w = v ∧ M.lf c w = M.lf d v))) H
def sp_Stretch_add (K : PySem.W.Frag) (A : CA) : Sp := fun vs H Q E => ∃ (x y : Addr) (c d : List Int) (w v : Nat), vs = [.ref x, .ref y] ∧ StX A H x c w ∧ StX A H y d v ∧ w ≤ 1000 ∧ v ≤ 1000 ∧
  (w ≠ v → GX.Raised2 A.CopiesDiffer "left" "right" (.int (w : Int)) (.int (v : Int)) H E) ∧ (w = v → ∀ z H', H z = none → Same H H' → StX A H' z (c ++ d) w → Q (.ref z) H')
variable {K : PySem.W.Frag} {A : CA} {vs : List V} {H : Hp} {Q : VK} {E : XK}
theorem i_lifted {a : Addr} {c : List Int} {b w : Int} (h : H a = some (.lst (c.map V.int))) (hl : c.length ≤ 1000) (q : ∀ H', Same H H' → Q (ov (M.rise c w b)) H') : sp_lifted K A [.int b, .ref a, .int w] H Q E := ⟨a, c, b, w, rfl, h, hl, q⟩
structure StS (A : CA) (S : Addr → Prop) (H : Hp) (x : Addr) (c : List Int) (w : Nat) : Prop where
  ex : ∃ dx l, H x = some (.ins A.Stretch dx (stF w l)) ∧ H l = some (.lst ((M.lf c w).map ov)) ∧ ¬ S l
section
variable {A : CA} {S S' : Addr → Prop} {H H' : Hp} {x p s : Addr} {c : List Int} {w : Nat}
theorem StS.toX (h : StS A S H x c w) : StX A H x c w := let ⟨dx, l, h1, h2, _⟩ := h.ex; ⟨dx, l, h1, h2⟩
theorem StS.same (e : Same H H') (h : StS A S H x c w) : StS A S H' x c w := let ⟨dx, l, h1, h2, n⟩ := h.ex; ⟨dx, l, e _ _ h1, e _ _ h2, n⟩
theorem StS.but (b : But s H H') (hs : Src H s) (m : S s) (h : StS A S H x c w) : StS A S H' x c w :=
  let ⟨dx, l, h1, h2, n⟩ := h.ex; let ⟨_, _, _, _, g⟩ := hs; ⟨dx, l, b _ _ (fun z => by rw [z, g] at h1; cases h1) h1, b _ _ (fun z => n (z ▸ m)) h2, n⟩
theorem StS.upd {xs : List V} {o : HO} (hp : H p = some (.lst xs)) (m : S p) (h : StS A S H x c w) : StS A S (upd H p o) x c w :=
  let ⟨dx, l, h1, h2, n⟩ := h.ex; ⟨dx, l, keepNe h1 (fun z => by rw [z, hp] at h1; cases h1), keepNe h2 (fun z => n (z ▸ m)), n⟩
theorem StS.weak (k : ∀ z, S z → S' z) (h : StS A S' H x c w) : StS A S H x c w := let ⟨dx, l, h1, h2, n⟩ := h.ex; ⟨dx, l, h1, h2, fun z => n (k _ z)⟩
theorem StS.add (hp : H p = none) (h : StS A S H x c w) : StS A (fun z => S z ∨ z = p) H x c w :=
  let ⟨dx, l, h1, h2, n⟩ := h.ex; ⟨dx, l, h1, h2, fun z => z.elim n fun e => by rw [e, hp] at h2; cases h2⟩
end
section
variable {K : PySem.W.Frag} {A : CA} {H : Hp} {Q : VK} {a x y : Addr} {c d : List Int} {w v : Nat}
theorem i_newS {P : Addr → Hp → Prop} (ha : H a = some (.lst (c.map V.int))) (hl : c.length ≤ 1000) (hw : w ≤ 1000) (q : ∀ x H', H x = none → Same H H' → StX A H' x c w → P x H') :
    ∀ x dx, H x = none → H dx = none → dx ≠ x → sp_Stretch_init K A (.ref x :: [.ref a, .int (w : Int)]) (upd (upd H dx (.own x)) x (.ins A.Stretch dx [])) (fun v H2 => v = .non ∧ P x H2) E0 :=
  fun x dx hx hdx nx => ⟨H, x, dx, a, c, w, rfl, rfl, hx, hdx, nx, ha, hl, hw, fun dx' l H' _ e h1 h2 => ⟨rfl, q x H' hx e ⟨dx', l, h1, h2⟩⟩⟩
theorem i_newB {P : Addr → Hp → Prop} {S : Addr → Prop} (hs : ∀ z, S z → ∃ o, H z = some o) (ha : H a = some (.lst (c.map V.int))) (hl : c.length ≤ 1000) (hw : w ≤ 1000) (q : ∀ x H', H x = none → Same H H' → StS A S H' x c w → P x H') :
    ∀ x dx, H x = none → H dx = none → dx ≠ x → sp_Stretch_init K A (.ref x :: [.ref a, .int (w : Int)]) (upd (upd H dx (.own x)) x (.ins A.Stretch dx [])) (fun v H2 => v = .non ∧ P x H2) E0 :=
  fun x dx hx hdx nx => ⟨H, x, dx, a, c, w, rfl, rfl, hx, hdx, nx, ha, hl, hw, fun dx' l H' fl e h1 h2 => ⟨rfl, q x H' hx e ⟨dx', l, h1, h2, fun z => by
    obtain ⟨o, g⟩ := hs _ z
    rw [g] at fl; cases fl⟩⟩⟩
theorem i_new0 {P : Addr → Hp → Prop} (ha : H a = some (.lst [])) (hw : w ≤ 1000) (q : ∀ x H', H x = none → Same H H' → StX A H' x [] w → P x H') :
    ∀ x dx, H x = none → H dx = none → dx ≠ x → sp_Stretch_init K A (.ref x :: [.ref a, .int (w : Int)]) (upd (upd H dx (.own x)) x (.ins A.Stretch dx [])) (fun v H2 => v = .non ∧ P x H2) E0 := i_newS (c := []) ha (by decide) hw q
theorem i_new1 {P : Addr → Hp → Prop} {n : Int} (ha : H a = some (.lst [V.int n])) (hw : w ≤ 1000) (q : ∀ x H', H x = none → Same H H' → StX A H' x [n] w → P x H') :
    ∀ x dx, H x = none → H dx = none → dx ≠ x → sp_Stretch_init K A (.ref x :: [.ref a, .int (w : Int)]) (upd (upd H dx (.own x)) x (.ins A.Stretch dx [])) (fun v H2 => v = .non ∧ P x H2) E0 := i_newS (c := [n]) ha (by simp) hw q
theorem m_S {m : Str} {P : Prop} (h : StX A H x c w) (h1 : (m == ("copies" : Str)) = false) (h2 : (m == ("_lift" : Str)) = false) (q : P) : ∃ a dx fs, V.ref x = .ref a ∧ H a = some (.ins A.Stretch dx fs) ∧ fs.lookup m = none ∧ P :=
  let ⟨dx, l, g1, _⟩ := h.ex; ⟨x, dx, _, rfl, g1, st_meth h1 h2, q⟩
theorem f_copies (T : CT K A) {P : V → Prop} (h : StX A H x c w) (q : P (.int (w : Int))) : ∃ a C dx fs v, V.ref x = .ref a ∧ H a = some (.ins C dx fs) ∧ Cls K C ∧ NoAttr K C "copies" ∧ fs.lookup ("copies" : Str) = some v ∧ P v :=
  let ⟨dx, l, g1, _⟩ := h.ex; w_fld2 g1 T.c_Stretch T.n_Stretch_copies st_copies q
theorem i_liftS (h : StX A H x c w) (hw : w ≤ 1000) (q : ∀ p H', H p = none → Same H H' → H' p = some (.lst ((M.lf c w).map ov)) → Q (.ref p) H') : sp_Stretch_lift K A (.ref x :: []) H Q E0 := ⟨x, c, w, rfl, h, hw, q⟩
theorem i_keepS (h : StX A H x c w) (q : Q (.bl (M.rise c w 0).isSome) H) : sp_Stretch_is_keepable K A (.ref x :: []) H Q E0 := ⟨x, c, w, rfl, h, q⟩
theorem i_eqS (hx : StX A H x c w) (hy : StX A H y d v) (q : Q (.bl (decide (w = v ∧ M.lf c w = M.lf d v))) H) : GX.rOwnEq2 A.Stretch (sp_Stretch_eq K A) E0 (.ref x) (.ref y) H Q :=
  let ⟨dx, l, g1, _⟩ := hx.ex; let ⟨dy, m, g2, _⟩ := hy.ex; ⟨x, y, dx, dy, _, _, rfl, rfl, g1, g2, x, y, c, d, w, v, rfl, hx, hy, _, rfl, q⟩
theorem i_addS {E : XK} (hx : StX A H x c w) (hy : StX A H y d w) (hw : w ≤ 1000) (q : ∀ z H', H z = none → Same H H' → StX A H' z (c ++ d) w → Q (.ref z) H') : GX.rOwnAdd A.Stretch (sp_Stretch_add K A) E (.ref x) (.ref y) H Q :=
  let ⟨dx, l, g1, _⟩ := hx.ex; let ⟨dy, m, g2, _⟩ := hy.ex; ⟨x, y, dx, dy, _, _, rfl, rfl, g1, g2, x, y, c, d, w, w, rfl, hx, hy, hw, hw, fun n => absurd rfl n, fun _ z H' hz e hS => ⟨z, rfl, q z H' hz e hS⟩⟩
theorem i_addN {E : XK} (hx : StX A H x c w) (hy : StX A H y d v) (hw : w ≤ 1000) (hv : v ≤ 1000) (n : w ≠ v) (q : GX.Raised2 A.CopiesDiffer "left" "right" (.int (w : Int)) (.int (v : Int)) H E) : GX.rOwnAdd A.Stretch (sp_Stretch_add K A) E (.ref x) (.ref y) H Q :=
  let ⟨dx, l, g1, _⟩ := hx.ex; let ⟨dy, m, g2, _⟩ := hy.ex; ⟨x, y, dx, dy, _, _, rfl, rfl, g1, g2, x, y, c, d, w, v, rfl, hx, hy, hw, hv, fun _ => q, fun e => absurd e n⟩
end
/-! ### lists of numbers and None: deep equality -/
def od : Option Int → PyData
  | none => .none
  | some i => .int i
theorem dp_os : ∀ xs : List (Option Int), DpAll K H (xs.map ov) (xs.map od)
  | [] => .nil
  | none :: xs => .cons .non (dp_os xs)
  | some x :: xs => .cons (.int x) (dp_os xs)
theorem dp_opts {p : Addr} {xs : List (Option Int)} (h : SqL K H p (xs.map ov)) : Dp K H (.ref p) (.list (xs.map od)) := .lst h (dp_os xs)
theorem do_lay : ∀ xs : List (Option Int), PyData.canLayAll0 (xs.map od) = true
  | [] => rfl
  | x :: xs => by
    rw [List.map_cons]
    show (PyData.canLay0 (od x) && PyData.canLayAll0 (xs.map od)) = true
    rw [do_lay xs]
    cases x <;> rfl
theorem do_depth : ∀ xs : List (Option Int), PyData.depthAll (xs.map od) = 0
  | [] => rfl
  | x :: xs => by
    rw [List.map_cons]
    show max (PyData.depth (od x)) (PyData.depthAll (xs.map od)) = 0
    rw [do_depth xs]
    cases x <;> rfl
theorem do_shaped (xs : List (Option Int)) : SeqAt.shaped (.list (xs.map od)) = true := by
  have h1 : PyData.canLay0 (.list (xs.map od)) = true := do_lay xs
  have h2 : PyData.depth (.list (xs.map od)) ≤ 64 := by
    show PyData.depthAll (xs.map od) + 1 ≤ 64
    rw [do_depth]; decide
  show (PyData.canLay0 (.list (xs.map od)) && decide (PyData.depth (.list (xs.map od)) ≤ 64)) = true
  rw [h1, decide_eq_true h2]; rfl
theorem od_eqv (x y : Option Int) : PyData.eqv (od x) (od y) = decide (x = y) := by
  cases x with
  | none => cases y with
    | none => rfl
    | some j => simp [od, PyData.eqv]
  | some i => cases y with
    | none => simp [od, PyData.eqv]
    | some j => by_cases h : i = j <;> simp [od, PyData.eqv, h]
theorem do_eqv : ∀ xs ys : List (Option Int), PyData.eqvAll (xs.map od) (ys.map od) = decide (xs = ys)
  | [], [] => rfl
  | [], y :: ys => by simp [PyData.eqvAll]
  | x :: xs, [] => by simp [PyData.eqvAll]
  | x :: xs, y :: ys => by
    rw [List.map_cons, List.map_cons]
    show (PyData.eqv (od x) (od y) && PyData.eqvAll (xs.map od) (ys.map od)) = _
    rw [od_eqv, do_eqv xs ys]
    by_cases h : x = y
    · by_cases h2 : xs = ys <;> simp [h, h2]
    · simp [h]
theorem w_neO {p q : Addr} {xs ys : List (Option Int)} (hp : H p = some (.lst (xs.map ov))) (hq : H q = some (.lst (ys.map ov))) (k : Q (.bl (!decide (xs = ys))) H) : rNeD K (.ref p) (.ref q) H Q := by
  refine ⟨_, _, dp_opts (.inl (.inl hp)), dp_opts (.inl (.inl hq)), do_shaped xs, do_shaped ys, ?_⟩
  show Q (.bl (!PyData.eqvAll (xs.map od) (ys.map od))) H
  rw [do_eqv]; exact k
theorem w_eqO {p q : Addr} {xs ys : List (Option Int)} (hp : H p = some (.lst (xs.map ov))) (hq : H q = some (.lst (ys.map ov))) (k : Q (.bl (decide (xs = ys))) H) : rEqD K (.ref p) (.ref q) H Q := by
  refine ⟨_, _, dp_opts (.inl (.inl hp)), dp_opts (.inl (.inl hq)), do_shaped xs, do_shaped ys, ?_⟩
  show Q (.bl (PyData.eqvAll (xs.map od) (ys.map od))) H
  rw [do_eqv]; exact k
theorem at_o {xs : List (Option Int)} {j : Nat} {v : Option Int} (h : xs[j]? = some v) : atI (xs.map ov) (j : Int) = some (ov v) := at_of (j := j) rfl (by rw [List.getElem?_map, h]; rfl)
theorem getI {c : List Int} {i : Nat} {x : V} (h : (c.map V.int)[i]? = some x) : ∃ hi : i < c.length, x = V.int c[i] := by
  rw [List.getElem?_map] at h
  have hi : i < c.length := by
    by_cases hc : i < c.length
    · exact hc
    · rw [List.getElem?_eq_none (by omega)] at h; cases h
  rw [List.getElem?_eq_getElem hi] at h
  exact ⟨hi, (Option.some.inj h).symm⟩
theorem getO {c : List (Option Int)} {i : Nat} {x : V} (h : (c.map ov)[i]? = some x) : ∃ hi : i < c.length, x = ov c[i] := by
  rw [List.getElem?_map] at h
  have hi : i < c.length := by
    by_cases hc : i < c.length
    · exact hc
    · rw [List.getElem?_eq_none (by omega)] at h; cases h
  rw [List.getElem?_eq_getElem hi] at h
  exact ⟨hi, (Option.some.inj h).symm⟩
end G
local macro_rules | `(tactic| walk_at "call") => `(tactic| first
  | (refine' G.i_lifted ?g1 ?g2 ?_; (case g1 => walk_at "hp"); (case g2 => walk_at "ar"))
  | (refine' G.i_new0 ?g1 ?g2 ?_; (case g1 => first | assumption | exact L2.upd_same); (case g2 => walk_at "ar"))
  | (refine' G.i_newS ?g1 ?g2 ?g3 ?_; (case g1 => walk_at "hp"); (case g2 => walk_at "ar"); (case g3 => walk_at "ar"))
  | (refine' G.m_S ?g1 ?g2 ?g3 ?_; (case g1 => walk_at "stx"); (case g2 => decide); (case g3 => decide))
  | (refine' G.i_liftS ?g1 ?g2 ?_; (case g1 => walk_at "stx"); (case g2 => walk_at "ar"))
  | (refine' G.i_keepS ?g1 ?_; (case g1 => walk_at "stx"))
  | (refine' G.i_eqS ?g1 ?g2 ?_; (case g1 => walk_at "stx"); (case g2 => walk_at "stx"))
  | (refine' G.i_addS ?g1 ?g2 ?g3 ?_; (case g1 => walk_at "stx"); (case g2 => walk_at "stx"); (case g3 => walk_at "ar")))
local macro_rules | `(tactic| walk_at "stx") => `(tactic| first | assumption | (refine' G.StX.same ?e ?h; (case h => assumption); (case e => walk_at "same")))
namespace G
open PySem L2
def t_lifted (K : PySem.W.Frag) (A : CA) : TS :=
  (tSeq (tAsg (tVar 0) (gName 3))
  (tSeq (tFor (iList K (tRevL K (tVar 1))) (gName 4)
  (tSeq (tAsg (tCall (sp_height_over K A) [] E0 (tCons (tVar 3) (tCons (tVar 4) (tCons (tVar 2) tNil)))) (gName 3))
  (tIfS (tTest (tOp oGt (tVar 3) (tVar 2))) (tRet (tC .non)) tNext)))
  (tRet (tVar 3))))
def t_Stretch_init (K : PySem.W.Frag) (A : CA) : TS :=
  (tSeq (sFld K (tVar 0) (tVar 2) "copies")
  (sFld K (tVar 0) (tLc (iRng1 (tCons (tOp oAdd (tVar 2) (tC (.int 1))) tNil)) (gName 3) tYes (tCall (sp_lifted K A) [] E0 (tCons (tVar 3) (tCons (tVar 1) (tCons (tVar 2) tNil)))) [3]) "_lift"))
def t_Stretch_lift (K : PySem.W.Frag) (A : CA) : TS :=
  (tRet (tCB (oListOf K) (tCons (tFld K (tVar 0) "_lift") tNil)))
def t_Stretch_is_keepable (K : PySem.W.Frag) (A : CA) : TS :=
  (tRet (tNotN (tOp (rIxL K) (tFld K (tVar 0) "_lift") (tC (.int 0)))))
def t_Stretch_eq (K : PySem.W.Frag) (A : CA) : TS :=
  (tRet (tAndV (tCB (rIsi K) (tCons (tVar 1) (tCons (tC (.ref A.Stretch)) tNil))) (tAndV (tOp rEq (tFld K (tVar 0) "copies") (tFld K (tVar 1) "copies")) (tOp (rEqD K) (tFld K (tVar 0) "_lift") (tFld K (tVar 1) "_lift")))))

variable {K : PySem.W.Frag} {A : CA} {vs : List V} {H : Hp} {Q : VK} {E : XK}
theorem rd_lifted (h : sp_lifted K A vs H Q E) : t_lifted K A { nx := fun _ H' => Q .non H', rt := Q } (start ["below", "blank", "copies", "height", "number"] vs) H := by
  obtain ⟨a, c, b, w, rfl, ha, hl, q⟩ := h
  unfold t_lifted
  walk_at "go"
  intro r hr
  rw [rev_map]
  walk_at "go"
  refine forL (xs := c.reverse.map V.int) (fun i σ H' => ∃ (g : Int) (k4 : Option V), σ = [some (.int b), some (.ref a), some (.int w), some (.int g), k4] ∧ Same H H' ∧ H' r = some (.lst (c.reverse.map V.int)) ∧ M.rr w b (c.reverse.take i) = some g) ?_ ?_ ?_ ?_
  · exact ⟨b, none, rfl, same_new hr, upd_same, rfl⟩
  · rintro i σ H1 hi ⟨g, k4, rfl, e, h1, h2⟩
    exact .inl (.inl h1)
  · rintro i x σ H1 hx ⟨g, k4, rfl, e, h1, h2⟩
    obtain ⟨hi, rfl⟩ := getI hx
    have ht := M.rr_take (w := w) (b := b) hi
    rw [h2, Option.bind_some] at ht
    walk_at "go"
    refine w_iteD (fun c1 => ?_) (fun c1 => ?_)
    · walk_at "go"
      rw [if_pos c1] at ht
      have := M.rr_none ht
      have e2 : M.rise c w b = none := this
      rw [e2] at q
      exact q _ e
    · walk_at "go"
      rw [if_neg c1] at ht
      exact ⟨_, _, rfl, e, h1, ht⟩
  · rintro σ H1 ⟨g, k4, rfl, e, h1, h2⟩
    rw [List.length_map, List.take_length] at h2
    have e2 : M.rise c w b = some g := h2
    rw [e2] at q
    walk_at "go"
    exact q _ e
theorem rd_Stretch_init (T : CT K A) (h : sp_Stretch_init K A vs H Q E) : t_Stretch_init K A { nx := fun _ H' => Q .non H', rt := Q } (start ["self", "blank", "copies", "below"] vs) H := by
  obtain ⟨H0, x, dx, a, c, w, rfl, rfl, fx, fdx, ndx, ha, hl, hw, q⟩ := h
  have e0 : Same H0 (upd (upd H0 dx (.own x)) x (.ins A.Stretch dx [])) := same_mut (same_new fdx) fx
  have hx : (upd (upd H0 dx (.own x)) x (.ins A.Stretch dx [])) x = some (.ins A.Stretch dx []) := upd_same
  generalize upd (upd H0 dx (.own x)) x (.ins A.Stretch dx []) = H1 at e0 hx
  have ha1 := e0 _ _ ha
  have nax : a ≠ x := ne_of_none ha fx
  unfold t_Stretch_init
  walk_at "go"
  refine w_sfld2 hx T.c_Stretch T.n_Stretch_copies (by decide) ?_
  have ha2 := keepNe (o' := .ins A.Stretch dx (putF "copies" (.int (w : Int)) [])) ha1 nax
  have hx2 : (upd H1 x (.ins A.Stretch dx (putF "copies" (.int (w : Int)) []))) x = some (.ins A.Stretch dx (putF "copies" (.int (w : Int)) [])) := upd_same
  have e2 := same_mut (o := .ins A.Stretch dx (putF "copies" (.int (w : Int)) [])) e0 fx
  generalize upd H1 x (.ins A.Stretch dx (putF "copies" (.int (w : Int)) [])) = H2 at ha2 hx2 e2
  walk_at "go"
  refine lcR (fun Dl i H' => Same H2 H' ∧ H' Dl = some (.lst (((M.lf c w).take i).map ov))) ?_ ?_ ?_
  · intro Dl hD
    exact ⟨same_new hD, upd_same⟩
  · rintro Dl i H3 hD hi ⟨e3, h3⟩
    have hi : i ≤ w := by omega
    have ha3 := e3 _ _ ha2
    have hll := M.lf_len c w
    have hsz : (((M.lf c w).take i).map ov).length < sizeLine := by rw [List.length_map, List.length_take]; exact Nat.lt_of_le_of_lt (show _ ≤ 1001 by omega) (by decide)
    rw [show (0 : Int) + (i : Int) = ((i : Nat) : Int) by omega]
    walk_at "go"
    intro H4 e4
    have h4 := e4 _ _ h3
    walk_at "go"
    refine ⟨same_mut (e3.trans e4) hD, ?_⟩
    have ht := M.take_snoc (M.lf c w) i (by omega)
    have hg := M.lf_get (c := c) hi
    rw [List.getElem?_eq_getElem (by omega)] at hg
    rw [Option.some.inj hg] at ht
    rw [← ht, List.map_append]; exact upd_same
  · rintro Dl H3 hD ⟨e3, h3⟩
    rw [List.take_of_length_le (by rw [M.lf_len]; omega)] at h3
    walk_at "go"
    have nDx : Dl ≠ x := (ne_of_none hx2 hD).symm
    refine w_sfld2 (e3 _ _ hx2) T.c_Stretch T.n_Stretch__lift (by show 1 < 1000; decide) ?_
    exact q dx Dl _ (e2.free hD) (same_mut (e2.trans e3) fx) upd_same (keepNe h3 nDx)
theorem rd_Stretch_lift (T : CT K A) (h : sp_Stretch_lift K A vs H Q E) : t_Stretch_lift K A { nx := fun _ H' => Q .non H', rt := Q } (start ["self"] vs) H := by
  obtain ⟨x, c, w, rfl, hS, hw, q⟩ := h
  obtain ⟨dx, l, h1, h2⟩ := hS.ex
  unfold t_Stretch_lift
  walk_at "go"
  refine w_fld2 h1 T.c_Stretch T.n_Stretch__lift st_lift ?_
  walk_at "go"
  intro p hp
  exact q p _ hp (same_new hp) upd_same
theorem rd_Stretch_is_keepable (T : CT K A) (h : sp_Stretch_is_keepable K A vs H Q E) : t_Stretch_is_keepable K A { nx := fun _ H' => Q .non H', rt := Q } (start ["self"] vs) H := by
  obtain ⟨x, c, w, rfl, hS, q⟩ := h
  obtain ⟨dx, l, h1, h2⟩ := hS.ex
  unfold t_Stretch_is_keepable
  walk_at "go"
  refine w_fld2 h1 T.c_Stretch T.n_Stretch__lift st_lift ?_
  have g0 : atI ((M.lf c w).map ov) 0 = some (ov (M.rise c w 0)) := at_o (j := 0) (M.lf_get (Nat.zero_le w))
  walk_at "go"
  cases e : M.rise c w 0 with
  | none => rw [e] at q; exact q
  | some g => rw [e] at q; exact q
theorem rd_Stretch_eq (T : CT K A) (h : sp_Stretch_eq K A vs H Q E) : t_Stretch_eq K A { nx := fun _ H' => Q .non H', rt := Q } (start ["self", "other"] vs) H := by
  obtain ⟨x, y, c, d, w, v, rfl, hS, hR, q⟩ := h
  obtain ⟨dx, l, h1, h2⟩ := hS.ex
  obtain ⟨dy, m, g1, g2⟩ := hR.ex
  unfold t_Stretch_eq
  walk_at "go"
  refine ⟨.ref y, .ref A.Stretch, .ref A.Stretch, .ref A.Stretch, true, rfl, ClsV.own _, TyX.base (TyOf.ins g1 T.c_Stretch T.i_Stretch.ha T.i_Stretch.hn T.i_Stretch.ht T.i_Stretch.hm), by unfold PySem.W.kitOne; simp, ?_⟩
  walk_at "go"
  refine w_fld2 h1 T.c_Stretch T.n_Stretch_copies st_copies ?_
  walk_at "go"
  refine w_fld2 g1 T.c_Stretch T.n_Stretch_copies st_copies ?_
  walk_at "go"
  refine w_iteD (fun hc => ?_) (fun hc => ?_)
  · walk_at "go"
    refine w_fld2 h1 T.c_Stretch T.n_Stretch__lift st_lift ?_
    walk_at "go"
    refine w_fld2 g1 T.c_Stretch T.n_Stretch__lift st_lift ?_
    refine w_eqO h2 g2 ?_
    have e : decide (w = v ∧ M.lf c w = M.lf d v) = decide (M.lf c w = M.lf d v) := by
      have : w = v := by omega
      simp [this]
    rw [e] at q
    exact q
  · have e : decide (w = v ∧ M.lf c w = M.lf d v) = false := decide_eq_false fun z => hc (by rw [z.1])
    rw [e] at q
    exact q
end G

namespace G
open PySem L2
def t_Stretch_add (K : PySem.W.Frag) (A : CA) (E : XK) : TS :=
  (tSeq (tIfS (tTest (tOp rNe (tFld K (tVar 0) "copies") (tFld K (tVar 1) "copies"))) (GX.tRaiseO A.CopiesDiffer (GX.sp_err2 K A.CopiesDiffer "left" "right") E (tCons (tFld K (tVar 0) "copies") (tCons (tFld K (tVar 1) "copies") tNil))) tNext)
  (tSeq (tAsg (tMake A.Stretch (sp_Stretch_init K A) [] E0 (tCons (tLst tNil) (tCons (tFld K (tVar 0) "copies") tNil))) (gName 2))
  (tSeq (sFld K (tVar 2) (tLc (iList K (tFld K (tVar 1) "_lift")) (gName 3) tYes (tIf (tB (tIsN (tVar 3))) (tC .non) (tOp (rIxL K) (tFld K (tVar 0) "_lift") (tVar 3))) [3]) "_lift")
  (tRet (tVar 2)))))

variable {K : PySem.W.Frag} {A : CA} {vs : List V} {H : Hp} {Q : VK} {E : XK}
theorem rd_Stretch_add (T : CT K A) (h : sp_Stretch_add K A vs H Q E) : t_Stretch_add K A E { nx := fun _ H' => Q .non H', rt := Q } (start ["self", "other", "joined", "height"] vs) H := by
  obtain ⟨x, y, c, d, w, v, rfl, hS, hR, hw, hv, q1, q2⟩ := h
  unfold t_Stretch_add
  walk_at "go"
  refine f_copies T hS ?_
  walk_at "go"
  refine f_copies T hR ?_
  walk_at "go"
  refine w_iteN (fun hc => ?_) (fun hc => ?_)
  · have hc : w ≠ v := fun z => hc (by rw [z])
    refine GX.w_raiseO2 T.e_CopiesDiffer T.f_CopiesDiffer_left T.f_CopiesDiffer_right (fun Q q => ?_) (q1 hc)
    walk_at "go"
    refine f_copies T hS ?_
    walk_at "go"
    refine f_copies T hR ?_
    walk_at "go"
    exact q
  have hc : w = v := by omega
  subst hc
  walk_at "go"
  intro l0 hl0
  walk_at "go"
  have hS1 := hS.same (same_new (o := .lst []) hl0)
  refine f_copies T hS1 ?_
  walk_at "go"
  intro z H1 hz e1 hJ
  have e1 := (same_new (o := .lst []) hl0).trans e1
  have hz0 : H z = none := by rw [upd_ne (fun zz => by rw [zz, upd_same] at hz; cases hz)] at hz; exact hz
  have hS := hS.same e1
  have hR := hR.same e1
  walk_at "go"
  obtain ⟨dx, l, h1, h2⟩ := hS.ex
  obtain ⟨dy, m, g1, g2⟩ := hR.ex
  refine w_fld2 g1 T.c_Stretch T.n_Stretch__lift st_lift ?_
  walk_at "go"
  refine lcL (xs := (M.lf d w).map ov) (fun Dl i H' => Same H1 H' ∧ H' Dl = some (.lst (((M.lf (c ++ d) w).take i).map ov))) ?_ ?_ ?_ ?_
  · intro Dl hD
    exact ⟨same_new hD, upd_same⟩
  · rintro Dl i H2 hD hi ⟨e2, k2⟩
    exact .inl (.inl (e2 _ _ g2))
  · rintro Dl i o H2 hD ho ⟨e2, k2⟩
    obtain ⟨hi, rfl⟩ := getO ho
    have hl1 := M.lf_len (c ++ d) w
    have hi2 : i ≤ w := by rw [M.lf_len] at hi; omega
    have hg := M.lf_get (c := c ++ d) hi2
    have hgd := M.lf_get (c := d) hi2
    rw [List.getElem?_eq_getElem hi] at hgd
    have hgd := Option.some.inj hgd
    have ht := M.take_snoc (M.lf (c ++ d) w) i (by omega)
    rw [List.getElem?_eq_getElem (by omega)] at hg
    rw [Option.some.inj hg, M.rise_app, ← hgd] at ht
    have hm : (M.lf d w)[i] ∈ M.lf d w := List.getElem_mem hi
    generalize (M.lf d w)[i] = o at ht hm
    have hsz : (((M.lf (c ++ d) w).take i).map ov).length < sizeLine := by rw [List.length_map, List.length_take]; exact Nat.lt_of_le_of_lt (show _ ≤ 1001 by omega) (by decide)
    have fin : ∀ r : Option Int, (M.lf (c ++ d) w).take i ++ [r] = (M.lf (c ++ d) w).take (i + 1) → Same H1 (upd H2 Dl (.lst (((M.lf (c ++ d) w).take i).map ov ++ [ov r]))) ∧ (upd H2 Dl (.lst (((M.lf (c ++ d) w).take i).map ov ++ [ov r]))) Dl = some (.lst (((M.lf (c ++ d) w).take (i + 1)).map ov)) := by
      intro r hr
      refine ⟨same_mut e2 hD, ?_⟩
      rw [← hr, List.map_append]; exact upd_same
    cases o with
    | none =>
      walk_at "go"
      refine w_iteD (fun _ => ?_) (fun c => absurd rfl c)
      walk_at "go"
      exact fin none ht
    | some g =>
      have hb := M.lf_mem hm
      walk_at "go"
      refine w_iteD (fun c => by cases c) (fun _ => ?_)
      walk_at "go"
      refine w_fld2 (e2 _ _ h1) T.c_Stretch T.n_Stretch__lift st_lift ?_
      have hat : atI ((M.lf c w).map ov) g = some (ov (M.rise c w g)) := by
        have k := at_o (M.lf_get (c := c) (w := w) (i := g.toNat) (by omega))
        rw [Int.toNat_of_nonneg hb.1] at k; exact k
      have k3 := e2 _ _ h2
      refine w_var (v := V.int g) rfl ?_
      walk_at "go"
      exact fin _ ht
  · rintro Dl H2 hD ⟨e2, k2⟩
    rw [List.length_map, M.lf_len, List.take_of_length_le (by rw [M.lf_len]; omega)] at k2
    obtain ⟨dz, n, j1, j2⟩ := hJ.ex
    have nD : Dl ≠ z := (ne_of_none j1 hD).symm
    walk_at "go"
    refine w_sfld2 (e2 _ _ j1) T.c_Stretch T.n_Stretch__lift (by show 2 < 1000; decide) ?_
    walk_at "go"
    exact q2 rfl z _ hz0 (same_mut (e1.trans e2) hz0) ⟨⟨dz, Dl, upd_same, keepNe k2 nD⟩⟩
end G

namespace G
open PySem L2
/-- chains of the law: numbers from 0 on -/
def Nn (c : List Int) : Prop := ∀ n ∈ c, 0 ≤ n
theorem Nn.app {a b : List Int} (h : Nn a) (k : Nn b) : Nn (a ++ b) := fun n hn => by
  rcases List.mem_append.mp hn with q | q
  · exact h n q
  · exact k n q
theorem Nn.rep {a : List Int} {k : Nat} (h : Nn a) : Nn (List.replicate k a).flatten := fun n hn => by
  obtain ⟨l, hl, hm⟩ := List.mem_flatten.mp hn
  rw [(List.mem_replicate.mp hl).2] at hm; exact h n hm
def sp_law_page (K : PySem.W.Frag) (A : CA) : Sp := fun vs H Q _ => ∃ (s : Addr), vs = [.ref s] ∧ Src H s ∧
  ∀ (r : Int) (H' : Hp), 0 ≤ r → But s H H' → Src H' s → Q (.int r) H'
def sp_law_pages (K : PySem.W.Frag) (A : CA) : Sp := fun vs H Q _ => ∃ (s : Addr), vs = [.ref s] ∧ Src H s ∧
  ∀ (ps : List Int) (p : Addr) (H' : Hp), ps.length ≤ 40 → Nn ps → H p = none → But s H H' → Src H' s → H' p = some (.lst (ps.map V.int)) → Q (.ref p) H'
def sp_law_height (K : PySem.W.Frag) (A : CA) : Sp := fun vs H Q _ => ∃ (n b w : Int), vs = [.int n, .int b, .int w] ∧ Q (.int (M.lo b n w)) H
def sp_law_rise (K : PySem.W.Frag) (A : CA) : Sp := fun vs H Q _ => ∃ (a : Addr) (c : List Int) (b w : Int), vs = [.ref a, .int b, .int w] ∧ H a = some (.lst (c.map V.int)) ∧ Nn c ∧ ∀ H', Same H H' → Q (ov (M.rise c w b)) H'
def sp_law_lift (K : PySem.W.Frag) (A : CA) : Sp := fun vs H Q _ => ∃ (a : Addr) (c : List Int) (w : Nat), vs = [.ref a, .int (w : Int)] ∧ H a = some (.lst (c.map V.int)) ∧ Nn c ∧ w ≤ 1000 ∧
  ∀ p H', H p = none → Same H H' → H' p = some (.lst ((M.lf c w).map ov)) → Q (.ref p) H'
variable {K : PySem.W.Frag} {A : CA} {vs : List V} {H : Hp} {Q : VK} {E : XK}
theorem w_oIntB {b : Bool} (q : Q (.int (if b then 1 else 0)) H) : oInt [.bl b] H Q := .inr ⟨b, rfl, q⟩
theorem w_iteNT {A B : Prop} (h : B) : if (!true) = true then A else B := h
theorem w_iteNF {A B : Prop} (h : A) : if (!false) = true then A else B := h
theorem i_page {s : Addr} (hs : Src H s) (k : ∀ (r : Int) (H' : Hp), 0 ≤ r → But s H H' → Src H' s → Q (.int r) H') : sp_law_page K A [.ref s] H Q E := ⟨s, rfl, hs, k⟩
theorem i_pages {s : Addr} (hs : Src H s)
    (k : ∀ (ps : List Int) (p : Addr) (H' : Hp), ps.length ≤ 40 → Nn ps → H p = none → But s H H' → Src H' s → H' p = some (.lst (ps.map V.int)) → Q (.ref p) H') : sp_law_pages K A [.ref s] H Q E := ⟨s, rfl, hs, k⟩
theorem i_lheight {n b w : Int} (q : Q (.int (M.lo b n w)) H) : sp_law_height K A [.int n, .int b, .int w] H Q E := ⟨n, b, w, rfl, q⟩
theorem i_lrise {a : Addr} {c : List Int} {b w : Int} (h : H a = some (.lst (c.map V.int))) (hc : Nn c) (q : ∀ H', Same H H' → Q (ov (M.rise c w b)) H') : sp_law_rise K A [.ref a, .int b, .int w] H Q E := ⟨a, c, b, w, rfl, h, hc, q⟩
theorem i_llift {a : Addr} {c : List Int} {w : Nat} (h : H a = some (.lst (c.map V.int))) (hc : Nn c) (hw : w ≤ 1000) (q : ∀ p H', H p = none → Same H H' → H' p = some (.lst ((M.lf c w).map ov)) → Q (.ref p) H') : sp_law_lift K A [.ref a, .int (w : Int)] H Q E := ⟨a, c, w, rfl, h, hc, hw, q⟩
end G
local macro_rules | `(tactic| walk_at "call") => `(tactic| first
  | (refine' G.i_page ?g1 ?_; (case g1 => walk_at "src"))
  | (refine' G.i_pages ?g1 ?_; (case g1 => walk_at "src"))
  | refine' G.w_iteNT ?_ | refine' G.w_iteNF ?_ | refine' G.i_lheight ?_
  | (refine' G.i_lrise ?g1 ?g2 ?_; (case g1 => walk_at "hp"); (case g2 => assumption))
  | (refine' G.i_llift ?g1 ?g2 ?g3 ?_; (case g1 => walk_at "hp"); (case g2 => assumption); (case g3 => walk_at "ar")))
namespace G
open PySem L2
def t_law_page (K : PySem.W.Frag) (A : CA) : TS :=
  (tSeq (tAsg (tCall (sp_law_take K A) [] E0 (tCons (tVar 0) (tCons (tC (.int 8)) tNil))) (gName 1))
  (tSeq (tIfS (tTest (tOp oLt (tVar 1) (tC (.int 4)))) (tRet (tC (.int 0))) tNext)
  (tSeq (tIfS (tTest (tOp oLt (tVar 1) (tC (.int 6)))) (tRet (tC (.int 1))) tNext)
  (tSeq (tIfS (tTest (tOp rEq (tVar 1) (tC (.int 6)))) (tRet (tOp oAdd (tC (.int 2)) (tCall (sp_law_take K A) [] E0 (tCons (tVar 0) (tCons (tC (.int 59)) tNil))))) tNext)
  (tRet (tCall (sp_law_take K A) [] E0 (tCons (tVar 0) (tCons (tC (.int 1000000)) tNil))))))))
def t_law_pages (K : PySem.W.Frag) (A : CA) : TS :=
  (tSeq (tIfS (tTest (tOp rEq (tCall (sp_law_take K A) [] E0 (tCons (tVar 0) (tCons (tC (.int 8)) tNil))) (tC (.int 7)))) (tSeq (tAsg (tLc (iRng1 (tCons (tOp oAdd (tC (.int 1)) (tCall (sp_law_take K A) [] E0 (tCons (tVar 0) (tCons (tC (.int 4)) tNil)))) tNil)) (gName 2) tYes (tCall (sp_law_page K A) [] E0 (tCons (tVar 0) tNil)) [2]) (gName 1))
  (tRet (tOp rRep (tVar 1) (tOp oAdd (tC (.int 1)) (tCall (sp_law_take K A) [] E0 (tCons (tVar 0) (tCons (tC (.int 10)) tNil))))))) tNext)
  (tRet (tLc (iRng1 (tCons (tCall (sp_law_take K A) [] E0 (tCons (tVar 0) (tCons (tC (.int 7)) tNil))) tNil)) (gName 2) tYes (tCall (sp_law_page K A) [] E0 (tCons (tVar 0) tNil)) [2])))
def t_law_height (K : PySem.W.Frag) (A : CA) : TS :=
  (tSeq (tIfS (tTest (tOp oGe (tVar 0) (tC (.int 2)))) (tRet (tC (.int 0))) tNext)
  (tSeq (tIfS (tTest (tOp rEq (tVar 0) (tC (.int 1)))) (tRet (tCB oInt (tCons (tOp oGe (tVar 1) (tVar 2)) tNil))) tNext)
  (tRet (tOp oAdd (tVar 1) (tC (.int 1))))))
def t_law_rise (K : PySem.W.Frag) (A : CA) : TS :=
  (tSeq (tAsg (tVar 1) (gName 3))
  (tSeq (tFor (iList K (tRevL K (tVar 0))) (gName 4)
  (tSeq (tAsg (tCall (sp_law_height K A) [] E0 (tCons (tVar 4) (tCons (tVar 3) (tCons (tVar 2) tNil)))) (gName 3))
  (tIfS (tTest (tOp oGt (tVar 3) (tVar 2))) (tRet (tC .non)) tNext)))
  (tRet (tVar 3))))
def t_law_lift (K : PySem.W.Frag) (A : CA) : TS :=
  (tRet (tLc (iRng1 (tCons (tOp oAdd (tVar 1) (tC (.int 1))) tNil)) (gName 2) tYes (tCall (sp_law_rise K A) [] E0 (tCons (tVar 0) (tCons (tVar 2) (tCons (tVar 1) tNil)))) [2]))

variable {K : PySem.W.Frag} {A : CA} {vs : List V} {H : Hp} {Q : VK} {E : XK}
theorem rd_law_page (h : sp_law_page K A vs H Q E) : t_law_page K A { nx := fun _ H' => Q .non H', rt := Q } (start ["bag", "way"] vs) H := by
  obtain ⟨s, rfl, hs, k⟩ := h
  unfold t_law_page
  walk_at "go"
  intro r H1 r0 r1 b1 s1
  walk_at "go"
  refine w_iteD (fun hc => ?_) (fun hc => ?_)
  · walk_at "go"
    exact k _ _ (by omega) b1 s1
  walk_at "go"
  refine w_iteD (fun hc => ?_) (fun hc => ?_)
  · walk_at "go"
    exact k _ _ (by omega) b1 s1
  walk_at "go"
  refine w_iteD (fun hc => ?_) (fun hc => ?_)
  · walk_at "go"
    intro r2 H2 r3 r4 b2 s2
    walk_at "go"
    exact k _ _ (by omega) (b1.trans b2) s2
  walk_at "go"
  intro r2 H2 r3 r4 b2 s2
  exact k _ _ (by omega) (b1.trans b2) s2
theorem rd_law_pages (h : sp_law_pages K A vs H Q E) : t_law_pages K A { nx := fun _ H' => Q .non H', rt := Q } (start ["bag", "pattern", "place"] vs) H := by
  obtain ⟨s, rfl, hs, k⟩ := h
  unfold t_law_pages
  walk_at "go"
  intro r0 H0 a0 a1 b0 s0
  walk_at "go"
  refine w_iteD (fun hc => ?_) (fun hc => ?_)
  · walk_at "go"
    intro n H1 n0 n1 b1 s1
    walk_at "go"
    refine lcR (fun Dl i H' => ∃ ps : List Int, ps.length = i ∧ Nn ps ∧ But s H1 H' ∧ Src H' s ∧ H' Dl = some (.lst (ps.map V.int))) ?_ ?_ ?_
    · intro Dl hD
      exact ⟨[], rfl, (fun _ h => by cases h), But.refl.new hD, s1.new hD, upd_same⟩
    · rintro Dl i H2 hD hi ⟨ps, hl, hc, b, s2, hp⟩
      have hl2 : (ps.map V.int).length < sizeLine := by rw [List.length_map]; exact L2.small1000 (by omega)
      have nd : Dl ≠ s := s1.neFree hD
      walk_at "go"
      intro r H3 r0 b3 s3
      have hp3 := b3.at nd hp
      walk_at "go"
      refine ⟨ps ++ [r], by simp [hl], hc.app (fun z hz => by rw [List.mem_singleton.mp hz]; exact r0), (b.trans b3).mut hD, s3.mut nd, ?_⟩
      rw [← snocI]; exact upd_same
    · rintro Dl H2 hD ⟨ps, hl, hc, b, s2, hp⟩
      walk_at "go"
      intro t H3 t0 t1 b3 s3
      have nd : Dl ≠ s := s1.neFree hD
      have hp3 := b3.at nd hp
      walk_at "go"
      have hz : (ps.map V.int).length * (1 + t).toNat ≤ 40 := by
        rw [List.length_map, hl]
        exact Nat.le_trans (Nat.mul_le_mul (show _ ≤ 4 by omega) (show _ ≤ 10 by omega)) (by decide)
      refine w_rep hp3 (by omega) (by omega) (Nat.le_trans hz (by decide)) fun l hl' => ?_
      rw [List.length_map] at hz
      refine k (List.replicate (1 + t).toNat ps).flatten l _ (by rw [len_rep, Nat.mul_comm]; exact hz) hc.rep ?_ ((((b0.trans b1).trans b).trans b3).new hl') (s3.new hl') (by rw [map_rep]; exact upd_same)
      exact ((((b0.trans b1).trans b).trans b3)).back s3 hl'
  · walk_at "go"
    intro n H1 n0 n1 b1 s1
    walk_at "go"
    refine lcR (fun Dl i H' => ∃ ps : List Int, ps.length = i ∧ Nn ps ∧ But s H1 H' ∧ Src H' s ∧ H' Dl = some (.lst (ps.map V.int))) ?_ ?_ ?_
    · intro Dl hD
      exact ⟨[], rfl, (fun _ h => by cases h), But.refl.new hD, s1.new hD, upd_same⟩
    · rintro Dl i H2 hD hi ⟨ps, hl, hc, b, s2, hp⟩
      have hl2 : (ps.map V.int).length < sizeLine := by rw [List.length_map]; exact L2.small1000 (by omega)
      have nd : Dl ≠ s := s1.neFree hD
      walk_at "go"
      intro r H3 r0 b3 s3
      have hp3 := b3.at nd hp
      walk_at "go"
      refine ⟨ps ++ [r], by simp [hl], hc.app (fun z hz => by rw [List.mem_singleton.mp hz]; exact r0), (b.trans b3).mut hD, s3.mut nd, ?_⟩
      rw [← snocI]; exact upd_same
    · rintro Dl H2 hD ⟨ps, hl, hc, b, s2, hp⟩
      exact k ps Dl H2 (by omega) hc ((b0.trans b1).back s1 hD) ((b0.trans b1).trans b) s2 hp
theorem rd_law_height (h : sp_law_height K A vs H Q E) : t_law_height K A { nx := fun _ H' => Q .non H', rt := Q } (start ["count", "below", "copies"] vs) H := by
  obtain ⟨n, b, w, rfl, q⟩ := h
  unfold t_law_height
  unfold M.lo at q
  walk_at "go"
  refine w_iteD (fun hc => ?_) (fun hc => ?_)
  · walk_at "go"
    rw [if_pos hc] at q; exact q
  rw [if_neg hc] at q
  walk_at "go"
  refine w_iteD (fun h1 => ?_) (fun h1 => ?_)
  · walk_at "go"
    rw [if_pos h1] at q
    refine w_oIntB ?_
    rw [show (if decide (w ≤ b) = true then (1 : Int) else 0) = (if b ≥ w then 1 else 0) by by_cases z : w ≤ b <;> simp [z]]
    exact q
  · walk_at "go"
    rw [if_neg h1] at q
    exact q
theorem rd_law_rise (h : sp_law_rise K A vs H Q E) : t_law_rise K A { nx := fun _ H' => Q .non H', rt := Q } (start ["blank", "below", "copies", "height", "count"] vs) H := by
  obtain ⟨a, c, b, w, rfl, ha, hn, q⟩ := h
  unfold t_law_rise
  walk_at "go"
  intro r hr
  rw [rev_map]
  walk_at "go"
  refine forL (xs := c.reverse.map V.int) (fun i σ H' => ∃ (g : Int) (k4 : Option V), σ = [some (.ref a), some (.int b), some (.int w), some (.int g), k4] ∧ Same H H' ∧ H' r = some (.lst (c.reverse.map V.int)) ∧ M.rr w b (c.reverse.take i) = some g) ?_ ?_ ?_ ?_
  · exact ⟨b, none, rfl, same_new hr, upd_same, rfl⟩
  · rintro i σ H1 hi ⟨g, k4, rfl, e, h1, h2⟩
    exact .inl (.inl h1)
  · rintro i x σ H1 hx ⟨g, k4, rfl, e, h1, h2⟩
    obtain ⟨hi, rfl⟩ := getI hx
    have ht := M.rr_take (w := w) (b := b) hi
    have hx0 : 0 ≤ c.reverse[i] := hn _ (List.mem_reverse.mp (List.getElem_mem hi))
    rw [h2, Option.bind_some, ← M.lo_eq hx0] at ht
    walk_at "go"
    refine w_iteD (fun c1 => ?_) (fun c1 => ?_)
    · walk_at "go"
      rw [if_pos c1] at ht
      have := M.rr_none ht
      have e2 : M.rise c w b = none := this
      rw [e2] at q
      exact q _ e
    · walk_at "go"
      rw [if_neg c1] at ht
      exact ⟨_, _, rfl, e, h1, ht⟩
  · rintro σ H1 ⟨g, k4, rfl, e, h1, h2⟩
    rw [List.length_map, List.take_length] at h2
    have e2 : M.rise c w b = some g := h2
    rw [e2] at q
    walk_at "go"
    exact q _ e
theorem rd_law_lift (h : sp_law_lift K A vs H Q E) : t_law_lift K A { nx := fun _ H' => Q .non H', rt := Q } (start ["blank", "copies", "below"] vs) H := by
  obtain ⟨a, c, w, rfl, ha, hn, hw, q⟩ := h
  unfold t_law_lift
  walk_at "go"
  refine lcR (fun Dl i H' => Same H H' ∧ H' Dl = some (.lst (((M.lf c w).take i).map ov))) ?_ ?_ ?_
  · intro Dl hD
    exact ⟨same_new hD, upd_same⟩
  · rintro Dl i H3 hD hi ⟨e3, h3⟩
    have hi : i ≤ w := by omega
    have ha3 := e3 _ _ ha
    have hll := M.lf_len c w
    have hsz : (((M.lf c w).take i).map ov).length < sizeLine := by rw [List.length_map, List.length_take]; exact Nat.lt_of_le_of_lt (show _ ≤ 1001 by omega) (by decide)
    rw [show (0 : Int) + (i : Int) = ((i : Nat) : Int) by omega]
    walk_at "go"
    intro H4 e4
    have h4 := e4 _ _ h3
    walk_at "go"
    refine ⟨same_mut (e3.trans e4) hD, ?_⟩
    have ht := M.take_snoc (M.lf c w) i (by omega)
    have hg := M.lf_get (c := c) hi
    rw [List.getElem?_eq_getElem (by omega)] at hg
    rw [Option.some.inj hg] at ht
    rw [← ht, List.map_append]; exact upd_same
  · rintro Dl H3 hD ⟨e3, h3⟩
    rw [List.take_of_length_le (by rw [M.lf_len]; omega)] at h3
    exact q Dl _ hD e3 h3
end G

/-! ### enumerate over a zip of two lists: the zip's tuple is kept by the loop, so zip takes either road -/
namespace EZ
open PySem PySem.Spec PyProof.Rows L2
abbrev ZG (h : Heap) (z TI TO : Addr) (f0 : Value) (f1 : Bool) : Prop := h.get? z = some { cls := .type "zip", dict := none, data := .fields #[f0, .bool f1, .bool false, .ref TI, .ref TO], slots := #[] }
def Fst (f0 : Value) : Prop := f0 = .none ∨ ∃ n : Nat, f0 = rawInt n
section
variable {prog : Program} {w : World} {A : Around} {E : Value → Shared → Prop} {s : Shared}
theorem alive_q {a : Addr} {Q : Option Obj → Shared → Prop} (h : Q (s.heap.get? a) s) : wpAny (model prog w) A (loadIfAlive a) Q E s := fun Γ p hΓ => by
  unfold loadIfAlive
  rw [Sem.wp_loadIfAlive]
  exact wpAny_pure h Γ p hΓ
theorem free_q {z TI TO : Addr} {f0 : Value} {f1 : Bool} {Q : Bool → Shared → Prop} (hz : ZG s.heap z TI TO f0 f1) (hf : Fst f0) (yes : Q true s)
    (no : ∀ h', ZG h' z TI TO f0 true → Heap.SameBut z s.heap h' → Q false { s with heap := h' }) : wpAny (model prog w) A (Builtin.SmallTypes.ownedTupleIsFree (.ref z)) Q E s := by
  unfold Builtin.SmallTypes.ownedTupleIsFree
  refine wpAny_bind (wpAny_field hz rfl (x := f0) rfl ?_)
  rcases hf with rfl | ⟨n, rfl⟩
  · exact wpAny_pure yes
  show wpAny _ _ (loadIfAlive _ >>= _) _ _ _
  refine wpAny_bind (alive_q ?_)
  split
  · exact wpAny_pure yes
  refine wpAny_bind (wpAny_field hz rfl (x := .bool f1) rfl ?_)
  cases f1 with
  | true => exact wpAny_pure (no s.heap hz ⟨rfl, fun _ _ => rfl⟩)
  | false =>
    show wpAny _ _ (setField (.ref z) 1 (.bool true) >>= _) _ _ _
    exact wpAny_bind (wpAny_setField_rec hz (by simp) fun h1 g1 b1 => wpAny_pure (no h1 g1 b1))
/-- what stands between two turns -/
structure ZS (h : Heap) (z TI TO i1 i2 l1 l2 : Addr) (k : Nat) : Prop where
  zip : ∃ f0 f1, ZG h z TI TO f0 f1 ∧ Fst f0
  inn : IsPair h TI (.ref i1) (.ref i2)
  out : ∃ a b, IsPair h TO a b
  it1 : h.IsListIter i1 l1 k
  it2 : h.IsListIter i2 l2 k
abbrev Frz (h h' : Heap) (z TO i1 i2 : Addr) : Prop := ∀ c o, c ≠ z → c ≠ TO → c ≠ i1 → c ≠ i2 → h.get? c = some o → h'.get? c = some o
theorem item_q {z TI TO i1 i2 l1 l2 : Addr} {k : Nat} {xs ys : Array Value} {x y : Value} {Q : Value → Shared → Prop} (D : ZipApart z TI TO i1 i2 l1 l2) (Z : ZS s.heap z TI TO i1 i2 l1 l2 k)
    (hl1 : s.heap.IsList l1 xs) (hl2 : s.heap.IsList l2 ys) (hx : xs[k]? = some x) (hy : ys[k]? = some y)
    (hQ : ∀ h', ZS h' z TI TO i1 i2 l1 l2 (k + 1) → IsPair h' s.heap.objs.size x y → h'.objs.size = s.heap.objs.size + 1 → Frz s.heap h' z TO i1 i2 → Q (.ref s.heap.objs.size) { s with heap := h' }) :
    wpAny (model prog w) A (Builtin.«zip.__next__» ⟨[.ref z], []⟩) (fun fin s' => ∃ v, fin = .done (.ret v) ∧ Q v s') E s := by
  obtain ⟨⟨f0, f1, hz, hf⟩, hTI, ⟨a, b, hTO⟩, h1, h2⟩ := Z
  show wpAny _ _ (field (.ref z) 2 >>= _) _ _ _
  refine wpAny_bind (wpAny_field hz rfl (x := .bool false) rfl ?_)
  show wpAny _ _ (field (.ref z) 3 >>= _) _ _ _
  refine wpAny_bind (wpAny_field hz rfl (x := .ref TI) rfl (wpAny_bind (wpAny_seqItems hTI rfl ?_)))
  show wpAny _ _ (Builtin.SmallTypes.ownedTupleIsFree (.ref z) >>= _) _ _ _
  refine wpAny_bind (free_q hz hf ?_ fun g0 hz0 b0 => ?_)
  · simp only [if_true]
    refine wpAny_bind (wpAny_rule (wpAny_bind (wpAny_field hz rfl (x := .ref TO) rfl ?_)))
    refine wpAny_bind (wpAny_setField_rec hz (by simp) fun g1 hz1 b1 => ?_)
    replace hz1 : ZG g1 z TI TO .ellipsis f1 := hz1
    refine wpAny_bind ?_
    simp only [List.zipIdx_cons, List.zipIdx_nil, List.forIn_cons, List.forIn_nil]
    refine wpAny_bind (wpAny_bind (wpAny_onRaise ?_))
    show wpAny _ _ (Builtin.SmallTypes.nextOf (.ref i1) >>= _) _ _ _
    refine wpAny_bind (wpAny_nextOf_list_item (h1.extBut b1.extBut D.i1z) (hl1.extBut b1.extBut D.l1z) hx fun g2 j1 b2 => wpAny_pure ?_)
    have p2 : IsPair g2 TO a b := b2.extBut _ _ D.TOi1 (b1.extBut _ _ D.TOz hTO)
    refine wpAny_bind (wpAny_seqItems p2 rfl (wpAny_bind (wpAny_updateSeq_pair p2 fun g3 p3 b3 => ?_)))
    replace p3 : IsPair g3 TO x b := p3
    refine wpAny_bind (wpAny_letGo (wpAny_pure (wpAny_bind (wpAny_bind (wpAny_onRaise ?_)))))
    show wpAny _ _ (Builtin.SmallTypes.nextOf (.ref i2) >>= _) _ _ _
    refine wpAny_bind (wpAny_nextOf_list_item (((h2.extBut b1.extBut D.i2z).extBut b2.extBut D.i12.symm).extBut b3.extBut D.TOi2.symm)
      (((hl2.extBut b1.extBut D.l2z).extBut b2.extBut D.l2i1).extBut b3.extBut D.l2TO) hy fun g4 j2 b4 => wpAny_pure ?_)
    have p4 : IsPair g4 TO x b := b4.extBut _ _ D.TOi2 p3
    refine wpAny_bind (wpAny_seqItems p4 rfl (wpAny_bind (wpAny_updateSeq_pair p4 fun g5 p5 b5 => ?_)))
    replace p5 : IsPair g5 TO x y := p5
    refine wpAny_bind (wpAny_letGo (wpAny_pure (wpAny_pure (wpAny_bind (wpAny_seqItems p5 rfl (wpAny_bind (wpAny_newTuple ?_)))))))
    have size5 : g5.objs.size = s.heap.objs.size := by rw [b5.1, b4.1, b3.1, b2.1, b1.1]
    have z5 : ZG g5 z TI TO .ellipsis f1 := b5.extBut _ _ D.TOz.symm (b4.extBut _ _ D.i2z.symm (b3.extBut _ _ D.TOz.symm (b2.extBut _ _ D.i1z.symm hz1)))
    have keep5 : Frz s.heap g5 z TO i1 i2 := fun c o c1 c2 c3 c4 e => b5.extBut _ _ c2 (b4.extBut _ _ c4 (b3.extBut _ _ c2 (b2.extBut _ _ c3 (b1.extBut _ _ c1 e))))
    have m1 : g5.IsListIter i1 l1 (k + 1) := ((j1.extBut b3.extBut D.TOi1.symm).extBut b4.extBut D.i12).extBut b5.extBut D.TOi1.symm
    have m2 : g5.IsListIter i2 l2 (k + 1) := j2.extBut b5.extBut D.TOi2.symm
    have ltz : z < g5.objs.size := Heap.lt_size z5
    show wpAny _ _ (Builtin.SmallTypes.ownedTupleHandOut (.ref z) (.ref g5.objs.size) >>= _) _ _ _
    refine wpAny_bind ?_
    unfold Builtin.SmallTypes.ownedTupleHandOut
    have z6 : ZG (g5.push { cls := .type "tuple", data := .seq #[x, y] }) z TI TO .ellipsis f1 := Heap.get?_push_of_some _ z5
    refine wpAny_bind (wpAny_setField_rec z6 (by simp) fun g7 z7 b7 => ?_)
    replace z7 : ZG g7 z TI TO (rawInt g5.objs.size) f1 := z7
    refine wpAny_setField_rec z7 (by simp) fun g8 z8 b8 => ?_
    replace z8 : ZG g8 z TI TO (rawInt g5.objs.size) false := z8
    have up : ∀ c o, c ≠ z → g5.get? c = some o → g8.get? c = some o := fun c o c1 e => b8.extBut _ _ c1 (b7.extBut _ _ c1 (Heap.get?_push_of_some _ e))
    have t8 : IsPair g8 g5.objs.size x y := b8.extBut _ _ (Nat.ne_of_gt ltz) (b7.extBut _ _ (Nat.ne_of_gt ltz) (Heap.get?_push_size _ rfl))
    have size8 : g8.objs.size = g5.objs.size + 1 := by rw [b8.1, b7.1, Heap.size_push]
    have all8 := up _ _ D.TIz (keep5 _ _ D.TIz D.TITO D.TIi1 D.TIi2 hTI)
    have keep8 : Frz s.heap g8 z TO i1 i2 := fun c o c1 c2 c3 c4 e => up c o c1 (keep5 c o c1 c2 c3 c4 e)
    refine wpAny_pure ⟨_, rfl, ?_⟩
    show Q (.ref g5.objs.size) _
    rw [size5] at t8 size8
    have q := hQ g8 ⟨⟨_, _, z8, .inr ⟨_, rfl⟩⟩, all8, ⟨_, _, up _ _ D.TOz p5⟩, m1.at fun o e => up _ o D.i1z e, m2.at fun o e => up _ o D.i2z e⟩ t8 size8 keep8
    rw [size5]; exact q
  · simp only [Bool.false_eq_true, if_false]
    refine wpAny_bind ?_
    simp only [List.forIn_toArray, List.forIn_cons, List.forIn_nil]
    refine wpAny_bind (wpAny_bind (wpAny_holding ?_))
    show wpAny _ _ (Builtin.SmallTypes.nextOf (.ref i1) >>= _) _ _ _
    refine wpAny_bind (wpAny_nextOf_list_item (h1.extBut b0.extBut D.i1z) (hl1.extBut b0.extBut D.l1z) hx fun g2 j1 b2 => wpAny_pure ?_)
    refine wpAny_pure (wpAny_bind (wpAny_bind (wpAny_holding ?_)))
    show wpAny _ _ (Builtin.SmallTypes.nextOf (.ref i2) >>= _) _ _ _
    refine wpAny_bind (wpAny_nextOf_list_item ((h2.extBut b0.extBut D.i2z).extBut b2.extBut D.i12.symm) ((hl2.extBut b0.extBut D.l2z).extBut b2.extBut D.l2i1) hy fun g4 j2 b4 => wpAny_pure ?_)
    refine wpAny_pure (wpAny_pure (wpAny_bind (wpAny_newTuple ?_ (by show 2 ≤ sizeLine; decide))))
    have size4 : g4.objs.size = s.heap.objs.size := by rw [b4.1, b2.1, b0.1]
    have keep4 : ∀ c o, c ≠ z → c ≠ i1 → c ≠ i2 → s.heap.get? c = some o → g4.get? c = some o := fun c o c1 c3 c4 e => b4.extBut _ _ c4 (b2.extBut _ _ c3 (b0.extBut _ _ c1 e))
    have z4 : ZG g4 z TI TO f0 true := b4.extBut _ _ D.i2z.symm (b2.extBut _ _ D.i1z.symm hz0)
    have up : ∀ c o, g4.get? c = some o → (g4.push { cls := .type "tuple", data := .seq #[x, y] }).get? c = some o := fun c o e => Heap.get?_push_of_some _ e
    have t5 : IsPair (g4.push { cls := .type "tuple", data := .seq #[x, y] }) g4.objs.size x y := Heap.get?_push_size _ rfl
    have q := hQ (g4.push { cls := .type "tuple", data := .seq #[x, y] }) ⟨⟨f0, true, up _ _ z4, hf⟩, up _ _ (keep4 _ _ D.TIz D.TIi1 D.TIi2 hTI), ⟨a, b, up _ _ (keep4 _ _ D.TOz D.TOi1 D.TOi2 hTO)⟩,
      (j1.extBut b4.extBut D.i12).at fun o e => up _ o e, j2.at fun o e => up _ o e⟩ (by rw [size4] at t5; exact t5) (by rw [Heap.size_push, size4]) fun c o c1 _ c3 c4 e => up _ _ (keep4 c o c1 c3 c4 e)
    refine wpAny_pure ⟨_, rfl, ?_⟩
    show Q (.ref g4.objs.size) _
    rw [size4]; exact q
/-- one of the lists is at its end -/
theorem end_q {z TI TO i1 i2 l1 l2 : Addr} {k : Nat} {xs ys : Array Value} {Q : Fin → Shared → Prop} (hh : A.handled = none) (D : ZipApart z TI TO i1 i2 l1 l2) (Z : ZS s.heap z TI TO i1 i2 l1 l2 k)
    (hl1 : s.heap.IsList l1 xs) (hl2 : s.heap.IsList l2 ys) (he : xs[k]? = none ∨ ys[k]? = none)
    (hE : ∀ h' e, Frz s.heap h' z TO i1 i2 → (∃ o, h'.get? e = some o ∧ o.cls = .type "StopIteration") → E (.ref e) { s with heap := h' }) :
    wpAny (model prog w) A (Builtin.«zip.__next__» ⟨[.ref z], []⟩) Q E s := by
  obtain ⟨⟨f0, f1, hz, hf⟩, hTI, ⟨a, b, hTO⟩, h1, h2⟩ := Z
  show wpAny _ _ (field (.ref z) 2 >>= _) _ _ _
  refine wpAny_bind (wpAny_field hz rfl (x := .bool false) rfl ?_)
  show wpAny _ _ (field (.ref z) 3 >>= _) _ _ _
  refine wpAny_bind (wpAny_field hz rfl (x := .ref TI) rfl (wpAny_bind (wpAny_seqItems hTI rfl ?_)))
  show wpAny _ _ (Builtin.SmallTypes.ownedTupleIsFree (.ref z) >>= _) _ _ _
  refine wpAny_bind (free_q hz hf ?_ fun g0 hz0 b0 => ?_)
  · simp only [if_true]
    refine wpAny_bind (wpAny_rule (wpAny_bind (wpAny_field hz rfl (x := .ref TO) rfl ?_)))
    refine wpAny_bind (wpAny_setField_rec hz (by simp) fun g1 hz1 b1 => ?_)
    replace hz1 : ZG g1 z TI TO .ellipsis f1 := hz1
    refine wpAny_bind ?_
    simp only [List.zipIdx_cons, List.zipIdx_nil, List.forIn_cons, List.forIn_nil]
    refine wpAny_bind (wpAny_bind (wpAny_onRaise ?_))
    show wpAny _ _ (Builtin.SmallTypes.nextOf (.ref i1) >>= _) _ _ _
    cases hx : xs[k]? with
    | none =>
      refine wpAny_bind (wpAny_nextOf_list_end hh (h1.extBut b1.extBut D.i1z) (hl1.extBut b1.extBut D.l1z) hx fun g2 e b2 ⟨oe, hoe, hc⟩ => ?_)
      have hz2 : ZG g2 z TI TO .ellipsis f1 := b2 _ _ D.i1z.symm hz1
      have ne : e ≠ z := fun q => by subst q; rw [hz2] at hoe; cases hoe; simp at hc
      refine wpAny_setField_rec hz2 (by simp) fun g3 _ b3 => hE g3 e (fun c o c1 _ c3 _ q => b3.extBut _ _ c1 (b2 _ _ c3 (b1.extBut _ _ c1 q))) ⟨oe, b3.extBut _ _ ne hoe, hc⟩
    | some x =>
      have hy : ys[k]? = none := by rcases he with q | q; rw [hx] at q; cases q; exact q
      refine wpAny_bind (wpAny_nextOf_list_item (h1.extBut b1.extBut D.i1z) (hl1.extBut b1.extBut D.l1z) hx fun g2 j1 b2 => wpAny_pure ?_)
      have p2 : IsPair g2 TO a b := b2.extBut _ _ D.TOi1 (b1.extBut _ _ D.TOz hTO)
      refine wpAny_bind (wpAny_seqItems p2 rfl (wpAny_bind (wpAny_updateSeq_pair p2 fun g3 p3 b3 => ?_)))
      refine wpAny_bind (wpAny_letGo (wpAny_pure (wpAny_bind (wpAny_bind (wpAny_onRaise ?_)))))
      show wpAny _ _ (Builtin.SmallTypes.nextOf (.ref i2) >>= _) _ _ _
      refine wpAny_bind (wpAny_nextOf_list_end hh (((h2.extBut b1.extBut D.i2z).extBut b2.extBut D.i12.symm).extBut b3.extBut D.TOi2.symm)
        (((hl2.extBut b1.extBut D.l2z).extBut b2.extBut D.l2i1).extBut b3.extBut D.l2TO) hy fun g4 e b4 ⟨oe, hoe, hc⟩ => ?_)
      have hz4 : ZG g4 z TI TO .ellipsis f1 := b4 _ _ D.i2z.symm (b3.extBut _ _ D.TOz.symm (b2.extBut _ _ D.i1z.symm hz1))
      have ne : e ≠ z := fun q => by subst q; rw [hz4] at hoe; cases hoe; simp at hc
      refine wpAny_setField_rec hz4 (by simp) fun g5 _ b5 => hE g5 e (fun c o c1 c2 c3 c4 q => b5.extBut _ _ c1 (b4 _ _ c4 (b3.extBut _ _ c2 (b2.extBut _ _ c3 (b1.extBut _ _ c1 q))))) ⟨oe, b5.extBut _ _ ne hoe, hc⟩
  · simp only [Bool.false_eq_true, if_false]
    refine wpAny_bind ?_
    simp only [List.forIn_toArray, List.forIn_cons, List.forIn_nil]
    refine wpAny_bind (wpAny_bind (wpAny_holding ?_))
    show wpAny _ _ (Builtin.SmallTypes.nextOf (.ref i1) >>= _) _ _ _
    cases hx : xs[k]? with
    | none => exact wpAny_bind (wpAny_nextOf_list_end hh (h1.extBut b0.extBut D.i1z) (hl1.extBut b0.extBut D.l1z) hx fun g2 e b2 ho => hE g2 e (fun c o c1 _ c3 _ q => b2 _ _ c3 (b0.extBut _ _ c1 q)) ho)
    | some x =>
      have hy : ys[k]? = none := by rcases he with q | q; rw [hx] at q; cases q; exact q
      refine wpAny_bind (wpAny_nextOf_list_item (h1.extBut b0.extBut D.i1z) (hl1.extBut b0.extBut D.l1z) hx fun g2 j1 b2 => wpAny_pure ?_)
      refine wpAny_pure (wpAny_bind (wpAny_bind (wpAny_holding ?_)))
      show wpAny _ _ (Builtin.SmallTypes.nextOf (.ref i2) >>= _) _ _ _
      exact wpAny_bind (wpAny_nextOf_list_end hh ((h2.extBut b0.extBut D.i2z).extBut b2.extBut D.i12.symm) ((hl2.extBut b0.extBut D.l2z).extBut b2.extBut D.l2i1) hy
        fun g4 e b4 ho => hE g4 e (fun c o c1 _ c3 c4 q => b4 _ _ c4 (b2.extBut _ _ c3 (b0.extBut _ _ c1 q))) ho)
theorem next_q {z TI TO i1 i2 l1 l2 : Addr} {k : Nat} {xs ys : Array Value} {x y : Value} {Q : Value → Shared → Prop} (D : ZipApart z TI TO i1 i2 l1 l2) (Z : ZS s.heap z TI TO i1 i2 l1 l2 k)
    (hl1 : s.heap.IsList l1 xs) (hl2 : s.heap.IsList l2 ys) (hx : xs[k]? = some x) (hy : ys[k]? = some y)
    (hQ : ∀ h', ZS h' z TI TO i1 i2 l1 l2 (k + 1) → IsPair h' s.heap.objs.size x y → h'.objs.size = s.heap.objs.size + 1 → Frz s.heap h' z TO i1 i2 → Q (.ref s.heap.objs.size) { s with heap := h' }) :
    wpAny (model prog w) A (Builtin.SmallTypes.nextOf (.ref z)) Q E s := by
  have hT : s.TypeIs (.ref z) "zip" := let ⟨⟨_, _, hz, _⟩, _, _, _, _⟩ := Z; ⟨_, hz, rfl⟩
  unfold Builtin.SmallTypes.nextOf
  exact wpAny_bind (wpAny_callSpecial?_slot (name := Str.ofString "__next__") hT F.slot_zip_next
    (wpAny_call_entry F.slot_zip_next hT F.entry_zip_next (item_q D Z hl1 hl2 hx hy fun h' a1 a2 a3 a4 => wpAny_pure (hQ h' a1 a2 a3 a4)) (F.args_zip_next_1 _)))
theorem nextE_q {z TI TO i1 i2 l1 l2 : Addr} {k : Nat} {xs ys : Array Value} {Q : Value → Shared → Prop} (hh : A.handled = none) (D : ZipApart z TI TO i1 i2 l1 l2) (Z : ZS s.heap z TI TO i1 i2 l1 l2 k)
    (hl1 : s.heap.IsList l1 xs) (hl2 : s.heap.IsList l2 ys) (he : xs[k]? = none ∨ ys[k]? = none)
    (hE : ∀ h' e, Frz s.heap h' z TO i1 i2 → (∃ o, h'.get? e = some o ∧ o.cls = .type "StopIteration") → E (.ref e) { s with heap := h' }) :
    wpAny (model prog w) A (Builtin.SmallTypes.nextOf (.ref z)) Q E s := by
  have hT : s.TypeIs (.ref z) "zip" := let ⟨⟨_, _, hz, _⟩, _, _, _, _⟩ := Z; ⟨_, hz, rfl⟩
  unfold Builtin.SmallTypes.nextOf
  exact wpAny_bind (wpAny_callSpecial?_slot (name := Str.ofString "__next__") hT F.slot_zip_next
    (wpAny_call_entry F.slot_zip_next hT F.entry_zip_next (end_q hh D Z hl1 hl2 he hE) (F.args_zip_next_1 _)))
end
end EZ

namespace EZ
open PySem PySem.Spec PyProof.Rows L2
open AutoSeq1 (wpAny_loadPart')
theorem meets_new (z TI TO : Addr) :
    Meets (Builtin.«enumerate.__new__» ⟨[.type "enumerate", .ref z], []⟩) (fun _ R s => IsZip s.heap z TI TO .none ∧
      R (.ok (.ret (.ref s.heap.objs.size))) { s with heap := s.heap.push { cls := .type "enumerate", data := .fields #[.none, .bool false, .ref z, rawInt 0, .none, .none] } }) :=
  .of_wp fun prog w A R s h => by
    obtain ⟨hp, g, d, tk, os⟩ := s
    obtain ⟨hz, h⟩ := h
    have hsub := sub_enumerate
    have q1 : ∀ {A' : Around} {E : Value → Shared → Prop} {Q : Value → Shared → Prop}, Q (.ref z) ⟨hp, g, d, tk, os⟩ → wpAny (model prog w) A' (pyIter (.ref z)) Q E ⟨hp, g, d, tk, os⟩ :=
      fun q => wpAny_pyIter_zip (s := ⟨hp, g, d, tk, os⟩) hz q
    wp_walk using wpAny_loadPart' hz, q1
    refine wpAny_stack_any fun st => wpAny_pure ?_
    split
    · rename_i c _ _ _ _ _
      cases (c == Value.type "enumerate")
      · wp_walk using wpAny_loadPart' hz, q1
        exact ⟨_, rfl, h⟩
      · wp_walk using wpAny_loadPart' hz, q1
        exact ⟨_, rfl, h⟩
    · wp_walk using wpAny_loadPart' hz, q1
      exact ⟨_, rfl, h⟩
section
variable {prog : Program} {w : World} {A : Around} {E : Value → Shared → Prop} {s : Shared}
theorem call_new {z TI TO : Addr} {Q : Value → Shared → Prop} (hz : IsZip s.heap z TI TO .none)
    (h : ∀ h', IsEnum h' s.heap.objs.size z 0 .none → h'.objs.size = s.heap.objs.size + 1 → (∀ b o, s.heap.get? b = some o → h'.get? b = some o) → Q (.ref s.heap.objs.size) { s with heap := h' }) :
    wpAny (model prog w) A (call (.type "enumerate") [.ref z]) Q E s := by
  refine callType_new F.called_enumerate (by decide) (F.typeCall_enumerate_1 _) (F.newCall_enumerate_1 _) (fun obj => F.args_object_init_2 obj _) F.entry_enumerate_new (meets_new z TI TO) ⟨hz, ?_⟩
  have e : IsEnum (s.heap.push { cls := .type "enumerate", data := .fields #[.none, .bool false, .ref z, rawInt 0, .none, .none] }) s.heap.objs.size z 0 .none := Heap.get?_push_size _ rfl
  exact ⟨⟨_, e, rfl⟩, h _ e (Heap.size_push ..) fun b o x => Heap.get?_push_of_some _ x⟩
/-- the enumerate's turn: what it walks gives x and leaves a heap h1 -/
theorem turn_q {e it : Addr} {i : Nat} {old : Value} {R : Value → Heap → Prop} {Q : Value → Shared → Prop} (he : IsEnum s.heap e it i old)
    (nx : wpAny (model prog w) A (Builtin.SmallTypes.nextOf (.ref it)) (fun x s1 => ∃ h1, s1 = { s with heap := h1 } ∧ IsEnum h1 e it i old ∧ R x h1) E s)
    (hQ : ∀ x h1 h', R x h1 → IsEnumOut h' e it ((i : Int) + 1) x h1.objs.size → h'.get? h1.objs.size = some { cls := .type "tuple", data := .seq #[.int i s.toks, x] } →
      (∀ b o, b ≠ e → h1.get? b = some o → h'.get? b = some o) → Q (.ref h1.objs.size) { s with heap := h', toks := s.toks + 1 }) :
    wpAny (model prog w) A (Builtin.«enumerate.__next__» ⟨[.ref e], []⟩) (fun fin s' => ∃ v, fin = .done (.ret v) ∧ Q v s') E s := by
  obtain ⟨hp, g, d, tk, os⟩ := s
  show wpAny _ _ (field (.ref e) 2 >>= _) _ _ _
  refine wpAny_bind (wpAny_field he rfl (x := .ref it) rfl (wpAny_bind (wpAny_mono nx ?_ fun _ _ q => q)))
  rintro x s1 ⟨h1, rfl, e1, r⟩
  show wpAny _ _ (field (.ref e) 3 >>= _) _ _ ⟨h1, g, d, tk, os⟩
  refine wpAny_bind (wpAny_field e1 rfl (x := rawInt i) rfl ?_)
  show wpAny _ _ (field (.ref e) 4 >>= _) _ _ ⟨h1, g, d, tk, os⟩
  refine wpAny_bind (wpAny_field e1 rfl (x := .none) rfl ?_)
  show wpAny _ _ (mkInt i >>= _) _ _ ⟨h1, g, d, tk, os⟩
  refine wpAny_bind (wpAny_mkInt ?_)
  show wpAny _ _ (setField (.ref e) 3 (rawInt ((i : Int) + 1)) >>= _) _ _ ⟨h1, g, d, tk + 1, os⟩
  refine wpAny_bind (wpAny_setField_rec e1 (by simp) fun h2 e2 b2 => ?_)
  replace e2 : IsEnum h2 e it ((i : Int) + 1) old := e2
  replace b2 : Heap.SameBut e h1 h2 := b2
  show wpAny _ _ (setField (.ref e) 4 .none >>= _) _ _ ⟨h2, g, d, tk + 1, os⟩
  refine wpAny_bind (wpAny_setField_rec e2 (by simp) fun h3 e3 b3 => ?_)
  replace e3 : IsEnum h3 e it ((i : Int) + 1) old := e3
  replace b3 : Heap.SameBut e h2 h3 := b3
  show wpAny _ _ (newTuple [.int i tk, x] >>= _) _ _ ⟨h3, g, d, tk + 1, os⟩
  refine wpAny_bind (wpAny_newTuple ?_ (by show 2 ≤ sizeLine; decide))
  have size3 : h3.objs.size = h1.objs.size := by rw [b3.1, b2.1]
  have lt : e < h1.objs.size := Heap.lt_size e1
  have e4 : IsEnum (h3.push { cls := .type "tuple", data := .seq #[.int i tk, x] }) e it ((i : Int) + 1) old := Heap.get?_push_of_some _ e3
  have t4 : (h3.push { cls := .type "tuple", data := .seq #[.int i tk, x] }).get? h1.objs.size = some { cls := .type "tuple", data := .seq #[.int i tk, x] } := by rw [← size3]; exact Heap.get?_push_size _ rfl
  have k4 : ∀ b o, b ≠ e → h1.get? b = some o → (h3.push { cls := .type "tuple", data := .seq #[.int i tk, x] }).get? b = some o := fun b o n q => Heap.get?_push_of_some _ (b3.extBut b o n (b2.extBut b o n q))
  show wpAny _ _ (Builtin.SmallTypes.ownedTupleIsFree (.ref e) >>= _) _ _ ⟨h3.push { cls := .type "tuple", data := .seq #[.int i tk, x] }, g, d, tk + 1, os⟩
  rw [size3]
  generalize h3.push { cls := .type "tuple", data := .seq #[.int i tk, x] } = h4 at e4 t4 k4
  refine wpAny_bind ?_
  unfold Builtin.SmallTypes.ownedTupleIsFree
  refine wpAny_bind (wpAny_field e4 rfl (x := .none) rfl (wpAny_pure ?_))
  simp only [if_true]
  refine wpAny_bind (wpAny_rule (wpAny_bind (wpAny_field e4 rfl (x := old) rfl ?_)))
  refine wpAny_bind (wpAny_setField_rec e4 (by simp) fun h5 e5 b5 => ?_)
  replace b5 : Heap.SameBut e h4 h5 := b5
  replace e5 : IsEnum h5 e it ((i : Int) + 1) x := e5
  show wpAny _ _ (Builtin.SmallTypes.ownedTupleHandOut (.ref e) (.ref h1.objs.size) >>= _) _ _ ⟨h5, g, d, tk + 1, os⟩
  refine wpAny_bind ?_
  unfold Builtin.SmallTypes.ownedTupleHandOut
  refine wpAny_bind (wpAny_setField_rec e5 (by simp) fun h6 e6 b6 => ?_)
  replace b6 : Heap.SameBut e h5 h6 := b6
  replace e6 : IsEnumOut h6 e it ((i : Int) + 1) x h1.objs.size := e6
  refine wpAny_setField_rec e6 (by simp) fun h7 e7 b7 => ?_
  replace b7 : Heap.SameBut e h6 h7 := b7
  replace e7 : IsEnumOut h7 e it ((i : Int) + 1) x h1.objs.size := e7
  have up : ∀ b o, b ≠ e → h4.get? b = some o → h7.get? b = some o := fun b o n q => b7.extBut b o n (b6.extBut b o n (b5.extBut b o n q))
  exact wpAny_bind (wpAny_letGo (wpAny_pure ⟨_, rfl, hQ x h1 h7 r e7 (up _ _ (Nat.ne_of_gt lt) t4) fun b o n q => up b o n (k4 b o n q)⟩))
theorem py_q {e it : Addr} {i : Nat} {old : Value} {R : Value → Heap → Prop} {Q : Option Value → Shared → Prop} (he : IsEnum s.heap e it i old)
    (nx : ∀ A' E', wpAny (model prog w) A' (Builtin.SmallTypes.nextOf (.ref it)) (fun x s1 => ∃ h1, s1 = { s with heap := h1 } ∧ IsEnum h1 e it i old ∧ R x h1) E' s)
    (hQ : ∀ x h1 h', R x h1 → IsEnumOut h' e it ((i : Int) + 1) x h1.objs.size → h'.get? h1.objs.size = some { cls := .type "tuple", data := .seq #[.int i s.toks, x] } →
      (∀ b o, b ≠ e → h1.get? b = some o → h'.get? b = some o) → Q (some (.ref h1.objs.size)) { s with heap := h', toks := s.toks + 1 }) :
    wpAny (model prog w) A (pyNext (.ref e)) Q E s := by
  have hT : s.TypeIs (.ref e) "enumerate" := ⟨_, he, rfl⟩
  unfold pyNext
  exact wpAny_bind (wpAny_attempt (wpAny_callSpecial?_slot (name := Str.ofString "__next__") hT F.slot_enumerate_next
    (wpAny_call_entry F.slot_enumerate_next hT F.entry_enumerate_next (turn_q he (nx _ _) fun x h1 h' a b c d => wpAny_pure (hQ x h1 h' a b c d)) (F.args_enumerate_next_1 _))))
theorem pyE_q {e it : Addr} {i : Nat} {old : Value} {R : Heap → Prop} {Q : Option Value → Shared → Prop} (hh : A.handled = none) (he : IsEnum s.heap e it i old)
    (nx : ∀ A' E' Q', A'.handled = none → (∀ h' x, R h' → (∃ o, h'.get? x = some o ∧ o.cls = .type "StopIteration") → E' (.ref x) { s with heap := h' }) → wpAny (model prog w) A' (Builtin.SmallTypes.nextOf (.ref it)) Q' E' s)
    (hQ : ∀ h', R h' → Q none { s with heap := h' }) : wpAny (model prog w) A (pyNext (.ref e)) Q E s := by
  have hT : s.TypeIs (.ref e) "enumerate" := ⟨_, he, rfl⟩
  unfold pyNext
  refine wpAny_bind (wpAny_attempt (wpAny_callSpecial?_slot (name := Str.ofString "__next__") hT F.slot_enumerate_next
    (wpAny_call_entry F.slot_enumerate_next hT F.entry_enumerate_next ?_ (F.args_enumerate_next_1 _))))
  show wpAny _ _ (field (.ref e) 2 >>= _) _ _ _
  refine wpAny_bind (wpAny_field he rfl (x := .ref it) rfl (wpAny_bind (nx _ _ _ hh fun h' x r ⟨o, ho, hc⟩ => ?_)))
  refine wpAny_bind (wpAny_isInstance (T := "StopIteration") (b := true) ⟨o, ho, hc⟩ isSubtype_stop ?_)
  exact wpAny_pure (hQ _ r)
end
end EZ

namespace EZ
open PySem PySem.Spec PyProof.Rows L2
/-- the two lists as they stand at each turn: the number of the turn and a new pair of items, in a new pair -/
def Itez (K : PySem.W.Frag) (a b : Addr) : It where
  go := fun i H => ∃ (xs ys : List V) (x y : V), SqL K H a xs ∧ SqL K H b ys ∧ xs[i]? = some x ∧ ys[i]? = some y
  yld := fun i H v H' => ∃ (T1 T2 : Addr) (x y : V), v = .ref T2 ∧ H T1 = none ∧ (upd H T1 (.tup [x, y])) T2 = none ∧ H' = upd (upd H T1 (.tup [x, y])) T2 (.tup [.int (i : Nat), .ref T1]) ∧ (∀ xs, SqL K H a xs → xs[i]? = some x) ∧ ∀ ys, SqL K H b ys → ys[i]? = some y
  stop := fun i H => ∃ xs ys : List V, SqL K H a xs ∧ SqL K H b ys ∧ (xs.length ≤ i ∨ ys.length ≤ i)
theorem turn {P : Program} {w : World} {K : PySem.W.Frag} {elts : List Expr} {kk : Nat} {tpos : Pos} {a b e z TI TO i1 i2 : Addr} (D : ZipApart z TI TO i1 i2 a b) (ne : e ≠ z ∧ e ≠ TI ∧ e ≠ TO ∧ e ≠ i1 ∧ e ≠ i2) :
    Turn P w K (.Tuple elts kk tpos) (Itez K a b) [e, z, TI, TO, i1, i2] e (fun i h => (∃ old, IsEnum h e z ((i : Nat) : Int) old) ∧ ZS h z TI TO i1 i2 a b i) where
  mem := by simp
  obj := fun i h st c hc => by
    obtain ⟨⟨old, he⟩, ⟨⟨f0, f1, hz, _⟩, hTI, ⟨x, y, hTO⟩, ⟨o1, e1, _, d1⟩, ⟨o2, e2, _, d2⟩⟩⟩ := st
    have e' : c = e ∨ c = z ∨ c = TI ∨ c = TO ∨ c = i1 ∨ c = i2 := by simpa using hc
    rcases e' with q | q | q | q | q | q
    · rw [q]; exact ⟨_, he, fun v q => nomatch q⟩
    · rw [q]; exact ⟨_, hz, fun v q => nomatch q⟩
    · rw [q]; exact ⟨_, hTI, fun v q => nomatch q⟩
    · rw [q]; exact ⟨_, hTO, fun v q => nomatch q⟩
    · rw [q]; exact ⟨o1, e1, fun v q => by rw [d1] at q; cases q⟩
    · rw [q]; exact ⟨o2, e2, fun v q => by rw [d2] at q; cases q⟩
  keep := fun i h h' st k => by
    obtain ⟨⟨old, he⟩, ⟨⟨f0, f1, hz, hf⟩, hTI, ⟨x, y, hTO⟩, h1, h2⟩⟩ := st
    exact ⟨⟨old, k e (by simp) _ he⟩, ⟨⟨f0, f1, k z (by simp) _ hz, hf⟩, k TI (by simp) _ hTI, ⟨x, y, k TO (by simp) _ hTO⟩, h1.at fun o q => k i1 (by simp) o q, h2.at fun o q => k i2 (by simp) o q⟩⟩
  item := by
    intro X hP hw hK hc i pins s σ H E I hf st hg
    subst hP hw hK
    obtain ⟨⟨old, he⟩, Z⟩ := st
    obtain ⟨xs, ys, x, y, hqx, hqy, hx, hy⟩ := hg
    obtain ⟨its, rv, p, _⟩ := I.list hqx
    obtain ⟨its2, rv2, p2, _⟩ := I.list hqy
    obtain ⟨u, hu, ru⟩ := rv.get hx
    obtain ⟨u2, hu2, ru2⟩ := rv2.get hy
    have lte : e < s.heap.objs.size := Heap.lt_size he
    have small : ∀ c ∈ [e, z, TI, TO, i1, i2], c < s.heap.objs.size := fun c hcm => by
      obtain ⟨⟨f0, f1, hz, _⟩, hTI, ⟨x, y, hTO⟩, ⟨_, e1, _⟩, ⟨_, e2, _⟩⟩ := Z
      have e' : c = e ∨ c = z ∨ c = TI ∨ c = TO ∨ c = i1 ∨ c = i2 := by simpa using hcm
      rcases e' with q | q | q | q | q | q
      · rw [q]; exact lte
      · rw [q]; exact Heap.lt_size hz
      · rw [q]; exact Heap.lt_size hTI
      · rw [q]; exact Heap.lt_size hTO
      · rw [q]; exact Heap.lt_size e1
      · rw [q]; exact Heap.lt_size e2
    refine py_q (s := s) (R := fun v h1 => v = .ref s.heap.objs.size ∧ ZS h1 z TI TO i1 i2 a b (i + 1) ∧ IsPair h1 s.heap.objs.size u u2 ∧ h1.objs.size = s.heap.objs.size + 1 ∧ Frz s.heap h1 z TO i1 i2) he
      (fun A' E' => next_q D Z p.isList p2.isList (x := u) (y := u2) (by simpa using hu) (by simpa using hu2) fun h1 Z1 t1 n1 k1 => ⟨h1, rfl, k1 _ _ ne.1 ne.2.2.1 ne.2.2.2.1 ne.2.2.2.2 he, rfl, Z1, t1, n1, k1⟩) ?_
    rintro v h1 h' ⟨rfl, Z1, t1, n1, k1⟩ eo t2 k2
    refine ⟨_, rfl, wpAny_letOwnedTupleGo_enum (s := { s with heap := h', toks := s.toks + 1 }) eo fun h'' e2 sb => ?_⟩
    have new1 : ObjOk X.prog X.w (upd H s.heap.objs.size (.tup [x, y])) h1 s.heap.objs.size (.tup [x, y]) := ⟨by show 2 ≤ sizeLine; decide, [u, u2], .cons ru (.cons ru2 .nil), ⟨_, t1, rfl, _, rfl⟩⟩
    have I1 : Inv X pins σ (upd H s.heap.objs.size (.tup [x, y])) { s with heap := h1 } :=
      I.turnedNew (t' := s.toks) (ch := [e, z, TI, TO, i1, i2]) (fun c o hb q => k1 c o (fun q' => hb (by simp [q'])) (fun q' => hb (by simp [q'])) (fun q' => hb (by simp [q'])) (fun q' => hb (by simp [q'])) q) hf (Nat.le_refl _) new1
    have hf1 : ∀ c ∈ [e, z, TI, TO, i1, i2], FpOk X pins (upd H s.heap.objs.size (.tup [x, y])) c := fun c hcm => by
      have q := hf c hcm
      exact ⟨by rw [upd_ne (Nat.ne_of_lt (small c hcm))]; exact q.1, q.2⟩
    have nT : h1.objs.size ≠ e := Nat.ne_of_gt (by rw [n1]; exact Nat.lt_succ_of_lt lte)
    have t3 : h''.get? h1.objs.size = some { cls := .type "tuple", data := .seq #[.int i s.toks, .ref s.heap.objs.size] } := (sb.2 _ nT).trans t2
    have new2 : ObjOk X.prog X.w (upd (upd H s.heap.objs.size (.tup [x, y])) h1.objs.size (.tup [.int (i : Nat), .ref s.heap.objs.size])) h'' h1.objs.size (.tup [.int (i : Nat), .ref s.heap.objs.size]) :=
      ⟨by show 2 ≤ sizeLine; decide, [.int i s.toks, .ref s.heap.objs.size], .cons ⟨_, rfl⟩ (.cons rfl .nil), ⟨_, t3, rfl, _, rfl⟩⟩
    have I2 : Inv X pins σ (upd (upd H s.heap.objs.size (.tup [x, y])) h1.objs.size (.tup [.int (i : Nat), .ref s.heap.objs.size])) { s with heap := h'', toks := s.toks + 1 } :=
      I1.turnedNew (t' := s.toks + 1) (ch := [e, z, TI, TO, i1, i2]) (fun c o hb q => (sb.2 c (fun q' => hb (by simp [q']))).trans (k2 c o (fun q' => hb (by simp [q'])) q)) hf1 (Nat.le_refl _) new2
    refine ⟨.ref h1.objs.size, _, I2, rfl, ⟨_, _, x, y, rfl, I.hok.fresh (Nat.le_refl _), I1.hok.fresh (Nat.le_refl _), rfl, fun l hl => by rw [I.list_inj hl hqx]; exact hx, fun l hl => by rw [I.list_inj hl hqy]; exact hy⟩, ⟨⟨.ref s.heap.objs.size, ?_⟩, ?_⟩, fun c hcm => ?_⟩
    · have e1 : ((i + 1 : Nat) : Int) = (i : Int) + 1 := by omega
      rw [e1]; exact e2
    · have up : ∀ c o, c ≠ e → h1.get? c = some o → h''.get? c = some o := fun c o n q => (sb.2 c n).trans (k2 c o n q)
      obtain ⟨⟨f0, f1, hz, hf⟩, hTI, ⟨x, y, hTO⟩, j1, j2⟩ := Z1
      exact ⟨⟨f0, f1, up _ _ ne.1.symm hz, hf⟩, up _ _ ne.2.1.symm hTI, ⟨x, y, up _ _ ne.2.2.1.symm hTO⟩, j1.at fun o q => up _ o ne.2.2.2.1.symm q, j2.at fun o q => up _ o ne.2.2.2.2.symm q⟩
    · have lt := small c hcm
      rw [upd_ne (Nat.ne_of_lt (by rw [n1]; exact Nat.lt_succ_of_lt lt)), upd_ne (Nat.ne_of_lt lt)]
      exact (hf c hcm).1
  done := by
    intro X hP hw hK hc i pins s σ H E I hf st hg
    subst hP hw hK
    obtain ⟨⟨old, he⟩, Z⟩ := st
    obtain ⟨xs, ys, hqx, hqy, hend⟩ := hg
    obtain ⟨its, rv, p, _⟩ := I.list hqx
    obtain ⟨its2, rv2, p2, _⟩ := I.list hqy
    have l1 := rv.length
    have l2 := rv2.length
    have hn : its.toArray[i]? = none ∨ its2.toArray[i]? = none := by
      rcases hend with q | q
      · exact .inl (by simp; omega)
      · exact .inr (by simp; omega)
    exact pyE_q (R := fun h' => Frz s.heap h' z TO i1 i2) (I.ok.hd hc) he (fun A' E' Q' hh' hE' => nextE_q hh' D Z p.isList p2.isList hn fun h' x k ho => hE' h' x k ho)
      fun h' k => ⟨rfl, I.turnedL (t' := s.toks) (ch := [e, z, TI, TO, i1, i2]) (fun c o hb q => k c o (fun q' => hb (by simp [q'])) (fun q' => hb (by simp [q'])) (fun q' => hb (by simp [q'])) (fun q' => hb (by simp [q'])) q) hf⟩
  self := fun A i s Q E st h => let ⟨⟨_, he⟩, _⟩ := st; wpAny_pyIter_enum he h
/-- enumerate(zip(a, b)) -/
def iEZ (K : PySem.W.Frag) (ta : TA) : TI := fun σ H R => ta σ H fun vs H1 => ∃ a b xs ys, vs = [.ref a, .ref b] ∧ SqL K H1 a xs ∧ SqL K H1 b ys ∧ R (Itez K a b) H1
theorem pi_ez {X : Cx} {e e2 : Expr} {ta : TA} {p p2 pos zpos tpos : Pos} {elts : List Expr} {kk : Nat} (hgE : Gl X "enumerate") (hmE : X.mg "enumerate" = none) (hg : Gl X "zip") (hm : X.mg "zip" = none) (ha : PA X [e, e2] ta)
    (hs : starEach [e, e2] X.env = (false, eval e X.env) :: starEach [e2] X.env := by rfl) (hpl : (backTo zpos (starEach [e2] X.env)).any (·.1) = false := by rfl)
    (hs2 : starEach [.Call (.Name "zip" p2) [e, e2] [] zpos] X.env = [(false, eval (.Call (.Name "zip" p2) [e, e2] [] zpos) X.env)] := by rfl) :
    PI X (.Tuple elts kk tpos) (.Call (.Name "enumerate" p) [.Call (.Name "zip" p2) [e, e2] [] zpos] [] pos) (iEZ X.K ta) := by
  refine ⟨fun pins s σ H R I h => ?_⟩
  refine Call_ (ld_blt I hgE hmE boot_enumerate (PyProof.Rows.callWith_type1 ?_ hs2 rfl))
  rw [hs2]
  show wpAny _ _ (spliced ((false, eval (.Call (.Name "zip" p2) [e, e2] [] zpos) X.env) :: backTo pos [])) _ _ s
  refine Calls.spliced_cons ?_
  refine Call_ (ld_blt I hg hm PyProof.Rows.boot_zip (PyProof.Rows.callWith_type1 (thn (ha.run zpos pins s σ H _ I h) fun us s1 ⟨vs, H1, I1, r1, q1⟩ => ?_) hs hpl))
  obtain ⟨a, b, xs, ys, ex, hqx, hqy, q⟩ := q1
  subst ex
  cases r1 with
  | cons r rr =>
    cases rr with
    | cons r' rr =>
      cases rr
      cases r
      cases r'
      obtain ⟨its, rv, p1, _⟩ := I1.list hqx
      obtain ⟨its2, rv2, p2, _⟩ := I1.list hqy
      have la : a < s1.heap.objs.size := p1.lt
      have lb : b < s1.heap.objs.size := p2.lt
      refine call_zip_2 p1.isList p2.isList fun h' hz hTI hTO h1 h2 hsz hk => Calls.spliced_nil ?_
      refine call_new (s := { s1 with heap := h' }) hz fun h'' he hsz2 hk2 => wpAny_pyIter_enum he ?_
      have hsz' : (Shared.heap { s1 with heap := h' }).objs.size = s1.heap.objs.size + 5 := hsz
      rw [hsz'] at he ⊢
      have I2 : Inv X pins σ H1 { s1 with heap := h'' } := I1.kept (t' := s1.toks) fun c o q => hk2 c o (hk c o q)
      have D := PySem.W.ktu_apart s1.heap.objs.size a b la lb
      have ne : ∀ j : Nat, j < 5 → s1.heap.objs.size + 5 ≠ s1.heap.objs.size + j := fun j hj z => by
        have := Nat.add_left_cancel z
        omega
      have Z : ZS h'' (s1.heap.objs.size + 4) (s1.heap.objs.size + 2) (s1.heap.objs.size + 3) s1.heap.objs.size (s1.heap.objs.size + 1) a b 0 :=
        ⟨⟨.none, false, hk2 _ _ hz, .inl rfl⟩, hk2 _ _ hTI, ⟨_, _, hk2 _ _ hTO⟩, h1.at fun o q => hk2 _ o q, h2.at fun o q => hk2 _ o q⟩
      refine ⟨s1.heap.objs.size + 5, [s1.heap.objs.size + 5, s1.heap.objs.size + 4, s1.heap.objs.size + 2, s1.heap.objs.size + 3, s1.heap.objs.size, s1.heap.objs.size + 1], _, _, H1, rfl, I2,
        turn D ⟨ne 4 (by decide), ne 2 (by decide), ne 3 (by decide), ne 0 (by decide), ne 1 (by decide)⟩, ⟨⟨.none, he⟩, Z⟩, fun c hcm => ?_, q⟩
      have e' : c = s1.heap.objs.size + 5 ∨ c = s1.heap.objs.size + 4 ∨ c = s1.heap.objs.size + 2 ∨ c = s1.heap.objs.size + 3 ∨ c = s1.heap.objs.size ∨ c = s1.heap.objs.size + 1 := by simpa using hcm
      have hle : s1.heap.objs.size ≤ c := by
        rcases e' with z | z | z | z | z | z
        · rw [z]; exact Nat.le_add_right _ _
        · rw [z]; exact Nat.le_add_right _ _
        · rw [z]; exact Nat.le_add_right _ _
        · rw [z]; exact Nat.le_add_right _ _
        · rw [z]; exact Nat.le_refl _
        · rw [z]; exact Nat.le_add_right _ _
      exact I1.fpOk hle (I1.hok.fresh hle)
end EZ

namespace GX
open PySem L2 G
/-- try: body; except C as n: suite (n in slot i) -/
def tTryAs (K : PySem.W.Frag) (C : Addr) (i : Nat) (tb : WX → TS) (ts : Addr → Value → Option Addr → TS) : TS := fun D σ H => tb (wAs K (.ref C) i ts (fun _ _ _ _ => False) D) D σ H
theorem w_isX {K : PySem.W.Frag} {a D dd : Addr} {c : V} {u : Value} {b : Bool} {fs : List (Str × V)} {H : Hp} {Q : VK} (hc : ClsV c u) (C : ExcC K D) (hd : H dd = some (.xd fs)) (e : PySem.W.kitOne K (.ref D) u = some b) (q : Q (.bl b) H) :
    rIsX K a (.ref D) (some dd) [.ref a, c] H Q := ⟨c, u, b, D, dd, fs, rfl, hc, rfl, rfl, C, hd, e, q⟩
theorem w_xf {a C dd : Addr} {f : Str} {fs : List (Str × V)} {v : V} {te : TE} {σ : L2.St} {H : Hp} {Q : VK} (h : ∀ Q : VK, Q (.ref a) H → te σ H Q) (hd : H dd = some (.xd fs)) (l : fs.lookup f = some v) (q : Q v H) : tXf a (.ref C) (some dd) C f te σ H Q :=
  h _ ⟨rfl, rfl, dd, fs, v, rfl, hd, l, q⟩
theorem w_callG {sp : Sp} {tl : TA} {σ : L2.St} {H : Hp} {Q : VK} (h : tl σ H fun vs H1 => sp vs H1 Q E0) : tCallG sp tl σ H Q := h
theorem w_addS {C : Addr} {sp : Sp} {E : L2.St → XK} {ta tb : TE} {σ : L2.St} {H : Hp} {Q : VK} (h : ta σ H fun x H1 => tb σ H1 fun y H2 => rOwnAdd C sp (E σ) x y H2 Q) : tAddS C sp E ta tb σ H Q := h
end GX
namespace GX
open PySem PySem.Spec PyProof.Rows L2
/-- f(..) of a def that may raise, within a try -/
def tCallS (sp : Sp) (E : L2.St → XK) (t : TA) : TE := fun σ H Q => t σ H fun vs H1 => sp vs H1 Q (E σ)
theorem w_callS {sp : Sp} {E : L2.St → XK} {tl : TA} {σ : L2.St} {H : Hp} {Q : VK} (h : tl σ H fun vs H1 => sp vs H1 Q (E σ)) : tCallS sp E tl σ H Q := h
theorem pe_cXT {X : Cx} {k j : Nat} {x : Str} {sp : Sp} {W : WX} {p pos : Pos} {e : Expr} {es : List Expr} {t : TA} (c : CalX X.prog X.w X.K X.mg X.base k x sp) (hr : Room j X.A) (hk : k ≤ j) (hg : Gl X x) (tk : Takes X W) (ha : PA X (e :: es) t) (hdb : (x == ("__debug__" : Str)) = false := by decide)
    (he : starEach (e :: es) X.env = (false, eval e X.env) :: starEach es X.env := by rfl) (hpl : (backTo pos (starEach es X.env)).any (·.1) = false := by rfl) : PE X (.Call (.Name x p) (e :: es) [] pos) (tCallS sp (WE W) t) := by
  obtain ⟨f, fd, ps, F, hm, kp, hbd⟩ := c.ex
  refine ⟨fun pins s σ H Q J0 h => ?_⟩
  exact wpAny_Call_Name_kw (ld_glob J0 hg hm (PySem.W.callWith_K (h₀ := X.base) J0.ok.mod.kin kp (thn (ha.run pos pins s σ H _ J0 h) fun us s1 ⟨vs, H1, J1, rel, q⟩ => ⟨J1.kIn, run_fnS F (hr.mono hk) hbd (passAt tk σ) J1 rel q⟩) he hpl) hdb)
end GX
namespace GX
open PySem L2 G
def oInsert : V → List V → Hp → VK → Prop := fun x vs H Q => ∃ (l : Addr) (xs : List V) (i : Int) (y : V), x = .ref l ∧ vs = [.int i, y] ∧ H l = some (.lst xs) ∧ xs.length < sizeLine ∧ 0 ≤ i ∧ i < 2 ^ 63 ∧ Q .non (upd H l (.lst (xs.take i.toNat ++ [y] ++ xs.drop i.toNat)))
theorem mt_ins {X : Cx} : MtR X "list.insert" oInsert := mt_insert
theorem w_insert {H : Hp} {Q : VK} {p : Addr} {xs : List V} {i : Int} {y : V} (h : H p = some (.lst xs)) (hz : xs.length ≤ 900) (h0 : 0 ≤ i) (h1 : i < 1000000) (q : ∀ zs, Q .non (upd H p (.lst zs))) : oInsert (.ref p) [.int i, y] H Q :=
  ⟨p, xs, i, y, rfl, rfl, h, small1000 (by omega), h0, by omega, q _⟩
end GX

namespace G
open PySem L2
def sp_room_over (K : PySem.W.Frag) (A : CA) : Sp := fun vs H Q _ => ∃ (a b : Option Int) (w : Nat), vs = [ov a, ov b, .int (w : Int)] ∧ (∀ x, a = some x → 0 ≤ x ∧ x ≤ w) ∧ (∀ x, b = some x → 0 ≤ x ∧ x ≤ w) ∧ w ≤ 1000 ∧
  ∀ p H', H p = none → Same H H' → H' p = some (.lst ((List.replicate (M.room a b w) (0 : Int)).map V.int)) → Q (.ref p) H'
def sp_parting (K : PySem.W.Frag) (A : CA) : Sp := fun vs H Q E => ∃ (x y : Addr) (c d : List Int) (w v : Nat), vs = [.ref x, .ref y] ∧ StX A H x c w ∧ StX A H y d v ∧ w ≤ 1000 ∧ v ≤ 1000 ∧
  (w ≠ v → GX.Raised2 A.CopiesDiffer "left" "right" (.int (w : Int)) (.int (v : Int)) H E) ∧ (w = v → (M.lf c w = M.lf d w → ∀ H', Same H H' → Q .non H') ∧
    ∀ i, i ≤ w → M.rise c w (i : Int) ≠ M.rise d w (i : Int) → ∀ T p1 p2 H', H T = none → H p1 = none → H p2 = none → p1 ≠ p2 → Same H H' → H' T = some (.tup [.ref p1, .ref p2]) →
      H' p1 = some (.lst ((List.replicate (M.room (M.rise c w (i : Int)) (M.rise d w (i : Int)) w) (0 : Int)).map V.int)) → H' p2 = some (.lst ((List.replicate i (0 : Int)).map V.int)) → Q (.ref T) H')
def sp_law_doubled (K : PySem.W.Frag) (A : CA) : Sp := fun vs H Q _ => ∃ (s a : Addr) (c : List Int), vs = [.ref s, .ref a] ∧ Src H s ∧ a ≠ s ∧ H a = some (.lst (c.map V.int)) ∧ Nn c ∧ c.length ≤ 40 ∧
  ∀ (ps : List Int) (p : Addr) (H' : Hp), ps.length ≤ 80 → Nn ps → H p = none → But s H H' → Src H' s → H' p = some (.lst (ps.map V.int)) → Q (.ref p) H'
def sp_law_second (K : PySem.W.Frag) (A : CA) : Sp := fun vs H Q _ => ∃ (s a : Addr) (c : List Int), vs = [.ref s, .ref a] ∧ Src H s ∧ a ≠ s ∧ H a = some (.lst (c.map V.int)) ∧ Nn c ∧ c.length ≤ 40 ∧
  ∀ (ps : List Int) (p : Addr) (H' : Hp), ps.length ≤ 80 → Nn ps → H p = none → But s H H' → Src H' s → H' p = some (.lst (ps.map V.int)) → Q (.ref p) H'
def sp_law_holds (K : PySem.W.Frag) (A : CA) : Sp := fun vs H Q _ => ∃ (a : Addr) (c : List Int) (w : Nat), vs = [.ref a, .int (w : Int)] ∧ H a = some (.lst (c.map V.int)) ∧ Nn c ∧ ∀ H', Same H H' → Q (.bl (M.rise c w 0).isSome) H'
def sp_law_stands (K : PySem.W.Frag) (A : CA) : Sp := fun vs H Q _ => ∃ (x a p1 p2 : Addr) (c z1 z2 : List Int) (w : Nat), vs = [.ref x, .ref a, .ref p1, .ref p2, .int (w : Int)] ∧ StX A H x c w ∧ H a = some (.lst (c.map V.int)) ∧ H p1 = some (.lst (z1.map V.int)) ∧ H p2 = some (.lst (z2.map V.int)) ∧
  Nn c ∧ Nn z1 ∧ Nn z2 ∧ c.length ≤ 200 ∧ z1.length ≤ 200 ∧ z2.length ≤ 200 ∧ w ≤ 1000 ∧ ∀ H', Same H H' → Q (.bl true) H'
variable {K : PySem.W.Frag} {A : CA} {vs : List V} {H : Hp} {Q : VK} {E : XK}
theorem i_room {a b : Option Int} {w : Nat} (ha : ∀ x, a = some x → 0 ≤ x ∧ x ≤ w) (hb : ∀ x, b = some x → 0 ≤ x ∧ x ≤ w) (hw : w ≤ 1000) (q : ∀ p H', H p = none → Same H H' → H' p = some (.lst ((List.replicate (M.room a b w) (0 : Int)).map V.int)) → Q (.ref p) H') :
    sp_room_over K A [ov a, ov b, .int (w : Int)] H Q E := ⟨a, b, w, rfl, ha, hb, hw, q⟩
theorem i_doubled {s a : Addr} {c : List Int} (hs : Src H s) (n : a ≠ s) (ha : H a = some (.lst (c.map V.int))) (hc : Nn c) (hl : c.length ≤ 40)
    (q : ∀ (ps : List Int) (p : Addr) (H' : Hp), ps.length ≤ 80 → Nn ps → H p = none → But s H H' → Src H' s → H' p = some (.lst (ps.map V.int)) → Q (.ref p) H') : sp_law_doubled K A [.ref s, .ref a] H Q E := ⟨s, a, c, rfl, hs, n, ha, hc, hl, q⟩
theorem i_second {s a : Addr} {c : List Int} (hs : Src H s) (n : a ≠ s) (ha : H a = some (.lst (c.map V.int))) (hc : Nn c) (hl : c.length ≤ 40)
    (q : ∀ (ps : List Int) (p : Addr) (H' : Hp), ps.length ≤ 80 → Nn ps → H p = none → But s H H' → Src H' s → H' p = some (.lst (ps.map V.int)) → Q (.ref p) H') : sp_law_second K A [.ref s, .ref a] H Q E := ⟨s, a, c, rfl, hs, n, ha, hc, hl, q⟩
theorem i_holds {a : Addr} {c : List Int} {w : Nat} (h : H a = some (.lst (c.map V.int))) (hc : Nn c) (q : ∀ H', Same H H' → Q (.bl (M.rise c w 0).isSome) H') : sp_law_holds K A [.ref a, .int (w : Int)] H Q E := ⟨a, c, w, rfl, h, hc, q⟩
theorem i_stands {x a p1 p2 : Addr} {c z1 z2 : List Int} {w : Nat} (hS : StX A H x c w) (ha : H a = some (.lst (c.map V.int))) (h1 : H p1 = some (.lst (z1.map V.int))) (h2 : H p2 = some (.lst (z2.map V.int)))
    (hc : Nn c) (n1 : Nn z1) (n2 : Nn z2) (lc : c.length ≤ 200) (l1 : z1.length ≤ 200) (l2 : z2.length ≤ 200) (hw : w ≤ 1000) (q : ∀ H', Same H H' → Q (.bl true) H') : sp_law_stands K A [.ref x, .ref a, .ref p1, .ref p2, .int (w : Int)] H Q E :=
  ⟨x, a, p1, p2, c, z1, z2, w, rfl, hS, ha, h1, h2, hc, n1, n2, lc, l1, l2, hw, q⟩
theorem ov_inj {a b : Option Int} : (ov a = ov b) = (a = b) := by
  cases a <;> cases b <;> simp [ov]
theorem ov_non (o : Option Int) : decide (ov o = V.non) = !o.isSome := by cases o <;> simp [ov]
theorem w_neOv {a b : Option Int} (q : Q (.bl (!decide (a = b))) H) : rNe (ov a) (ov b) H Q := by
  refine ⟨by cases a <;> cases b <;> rfl, ?_⟩
  rw [show decide (ov a = ov b) = decide (a = b) from decide_eq_decide.mpr (by rw [ov_inj])]
  exact q
theorem w_eqB2 {a b : Bool} (q : Q (.bl (decide (a = b))) H) : rEq (.bl a) (.bl b) H Q := ⟨rfl, by
  have e : (decide (V.bl a = V.bl b)) = decide (a = b) := by simp
  rw [e]; exact q⟩
theorem w_forEZ {σ : L2.St} {D : Ends} {tl : TA} {g : TG} {tb : TS} (h : tl σ H fun vs H1 => ∃ a b xs ys, vs = [.ref a, .ref b] ∧ SqL K H1 a xs ∧ SqL K H1 b ys ∧ ForW (EZ.Itez K a b) g tb D σ H1) : tFor (EZ.iEZ K tl) g tb D σ H := h
theorem w_two {a b : Addr} {xs ys : List V} {P : Addr → Addr → Prop} (ha : SqL K H a xs) (hb : SqL K H b ys) (q : P a b) : ∃ a' b' xs ys, [V.ref a, V.ref b] = [.ref a', .ref b'] ∧ SqL K H a' xs ∧ SqL K H b' ys ∧ P a' b' := ⟨a, b, xs, ys, rfl, ha, hb, q⟩
theorem forEZ {σ : L2.St} {D : Ends} {a b : Addr} {xs ys : List V} {g : TG} {tb : TS} (hl : xs.length = ys.length) (Pv : Nat → L2.St → Hp → Prop) (h0 : Pv 0 σ H) (hq : ∀ i σ1 H1, Pv i σ1 H1 → SqL K H1 a xs ∧ SqL K H1 b ys)
    (hs : ∀ i x y T1 T2 σ1 H1, xs[i]? = some x → ys[i]? = some y → H1 T1 = none → (upd H1 T1 (.tup [x, y])) T2 = none → Pv i σ1 H1 → g (.ref T2) σ1 (upd (upd H1 T1 (.tup [x, y])) T2 (.tup [.int (i : Nat), .ref T1])) fun σ2 H2 => tb { D with nx := Pv (i + 1), ct := Pv (i + 1), bk := D.nx } σ2 H2)
    (hd : ∀ σ1 H1, Pv xs.length σ1 H1 → D.nx σ1 H1) : ForW (EZ.Itez K a b) g tb D σ H := by
  refine ⟨fun i m σ H => m = xs.length - i ∧ i ≤ xs.length ∧ Pv i σ H, ⟨xs.length, by simp, Nat.zero_le _, h0⟩, ?_⟩
  rintro i m σ H ⟨rfl, hi, p⟩
  obtain ⟨q1, q2⟩ := hq i σ H p
  by_cases hlt : i < xs.length
  · refine .inr ⟨⟨xs, ys, xs[i], ys[i], q1, q2, by simp [hlt], List.getElem?_eq_getElem (by omega)⟩, Pv (i + 1), fun σ' H' p' => ⟨xs.length - (i + 1), by omega, rfl, hlt, p'⟩, ?_⟩
    rintro v H' ⟨T1, T2, x, y, rfl, h1, h2, rfl, f1, f2⟩
    exact hs i x y T1 T2 σ H (f1 xs q1) (f2 ys q2) h1 h2 p
  · have e : i = xs.length := by omega
    subst e
    exact .inl ⟨⟨xs, ys, q1, q2, .inl (Nat.le_refl _)⟩, hd σ H p⟩
theorem catsz {a b : List Int} (h : a.length + b.length ≤ 1000) : (a.map V.int).length + (b.map V.int).length ≤ sizeLine := by rw [List.length_map, List.length_map]; exact Nat.le_trans h (by decide)
theorem Nn.zeros {n : Nat} : Nn (List.replicate n 0) := fun x hx => by rw [(List.mem_replicate.mp hx).2]; omega
end G
local macro_rules | `(tactic| walk_at "nn") => `(tactic| first | assumption | exact G.Nn.app (by walk_at "nn") (by walk_at "nn") | exact G.Nn.zeros)
local macro_rules | `(tactic| walk_at "call") => `(tactic| first
  | (refine' G.i_doubled ?g0 ?g1 ?g2 ?g3 ?g4 ?_; (case g0 => walk_at "src"); (case g1 => assumption); (case g2 => walk_at "hp"); (case g3 => assumption); (case g4 => walk_at "ar"))
  | (refine' G.i_second ?g0 ?g1 ?g2 ?g3 ?g4 ?_; (case g0 => walk_at "src"); (case g1 => assumption); (case g2 => walk_at "hp"); (case g3 => assumption); (case g4 => walk_at "ar"))
  | (refine' G.i_holds ?g1 ?g2 ?_; (case g1 => walk_at "hp"); (case g2 => walk_at "nn"))
  | refine' G.w_eqB2 ?_ | refine' G.w_forEZ ?_ | (refine' G.w_two ?g1 ?g2 ?_; (case g1 => walk_at "sq"); (case g2 => walk_at "sq"))
  | refine' GX.w_callG ?_ | refine' GX.w_callS ?_)
namespace G
open PySem L2
def t_room_over (K : PySem.W.Frag) (A : CA) : TS :=
  (tSeq (tIfS (tOr (tB (tIsN (tVar 0))) (tB (tIsN (tVar 1)))) (tRet (tLst tNil)) tNext)
  (tRet (tOp rRep (tLst (tCons (tC (.int 0)) tNil)) (tOp oSub (tVar 2) (tCB oMin2 (tCons (tVar 0) (tCons (tVar 1) tNil)))))))
def t_parting (K : PySem.W.Frag) (A : CA) (E : XK) : TS :=
  (tSeq (tIfS (tTest (tOp rNe (tFld K (tVar 0) "copies") (tFld K (tVar 1) "copies"))) (GX.tRaiseO A.CopiesDiffer (GX.sp_err2 K A.CopiesDiffer "left" "right") E (tCons (tFld K (tVar 0) "copies") (tCons (tFld K (tVar 1) "copies") tNil))) tNext)
  (tSeq (tFor (EZ.iEZ K (tCons (tMeth A.Stretch "lift" (sp_Stretch_lift K A) [] E0 (tVar 0) tNil) (tCons (tMeth A.Stretch "lift" (sp_Stretch_lift K A) [] E0 (tVar 1) tNil) tNil))) (gTup K 2 (gCons (gName 2) (gCons (gTup K 2 (gCons (gName 3) (gCons (gName 4) gNil))) gNil)))
  (tIfS (tTest (tOp rNe (tVar 3) (tVar 4))) (tRet (tTup (tCons (tCall (sp_room_over K A) [] E0 (tCons (tVar 3) (tCons (tVar 4) (tCons (tFld K (tVar 0) "copies") tNil)))) (tCons (tOp rRep (tLst (tCons (tC (.int 0)) tNil)) (tVar 2)) tNil)))) tNext))
  (tRet (tC .non))))
def t_law_holds (K : PySem.W.Frag) (A : CA) : TS :=
  (tRet (tNotN (tCall (sp_law_rise K A) [] E0 (tCons (tVar 0) (tCons (tC (.int 0)) (tCons (tVar 1) tNil))))))

variable {K : PySem.W.Frag} {A : CA} {vs : List V} {H : Hp} {Q : VK} {E : XK}
theorem rd_room_over (h : sp_room_over K A vs H Q E) : t_room_over K A { nx := fun _ H' => Q .non H', rt := Q } (start ["one", "other", "copies"] vs) H := by
  obtain ⟨a, b, w, rfl, ha, hb, hw, q⟩ := h
  unfold t_room_over
  have empty : M.room a b w = 0 → ∀ p, H p = none → Q (.ref p) (upd H p (.lst [])) := fun e p hp => q p _ hp (same_new hp) (by rw [e]; exact upd_same)
  cases a with
  | none =>
    walk_at "go"
    refine w_iteD (fun _ => ?_) (fun c => absurd rfl c)
    walk_at "go"
    exact empty rfl
  | some x =>
    walk_at "go"
    refine w_iteD (fun c => by cases c) (fun _ => ?_)
    cases b with
    | none =>
      walk_at "go"
      refine w_iteD (fun _ => ?_) (fun c => absurd rfl c)
      walk_at "go"
      exact empty rfl
    | some y =>
      have hx := ha x rfl
      have hy := hb y rfl
      walk_at "go"
      refine w_iteD (fun c => by cases c) (fun _ => ?_)
      walk_at "go"
      intro p1 hp1
      have h1 : (upd H p1 (.lst [.int 0])) p1 = some (.lst [.int 0]) := upd_same
      have e1 := same_new (o := .lst [.int 0]) hp1
      generalize upd H p1 (.lst [.int 0]) = H1 at h1 e1
      walk_at "go"
      refine w_oMin2 (a := x) (b := y) ?_
      walk_at "go"
      have em : ((w : Int) - (if y < x then y else x)).toNat = M.room (some x) (some y) w := by
        show _ = ((w : Int) - (if x ≤ y then x else y)).toNat
        by_cases c : x ≤ y
        · rw [if_pos c, if_neg (by omega)]
        · rw [if_neg c, if_pos (by omega)]
      have b0 : 0 ≤ (w : Int) - (if y < x then y else x) ∧ (w : Int) - (if y < x then y else x) ≤ w := by split <;> omega
      generalize (w : Int) - (if y < x then y else x) = k at em b0
      intro l hl
      rw [em]
      refine q l _ (e1.free hl) (e1.trans (same_new hl)) ?_
      rw [flat_one, List.map_replicate]; exact upd_same
theorem rd_parting (T : CT K A) (h : sp_parting K A vs H Q E) : t_parting K A E { nx := fun _ H' => Q .non H', rt := Q } (start ["first", "second", "below", "one", "other"] vs) H := by
  obtain ⟨x, y, c, d, w, v, rfl, hS, hR, hw, hv, q1, q2⟩ := h
  unfold t_parting
  walk_at "go"
  refine f_copies T hS ?_
  walk_at "go"
  refine f_copies T hR ?_
  walk_at "go"
  refine w_iteN (fun hc => ?_) (fun hc => ?_)
  · have hc : w ≠ v := fun z => hc (by rw [z])
    refine GX.w_raiseO2 T.e_CopiesDiffer T.f_CopiesDiffer_left T.f_CopiesDiffer_right (fun Q q => ?_) (q1 hc)
    walk_at "go"
    refine f_copies T hS ?_
    walk_at "go"
    refine f_copies T hR ?_
    walk_at "go"
    exact q
  have hc : w = v := by omega
  subst hc
  obtain ⟨qe, qn⟩ := q2 rfl
  walk_at "go"
  intro a1 H1 ha1 e1 g1
  have hS := hS.same e1
  have hR := hR.same e1
  walk_at "go"
  intro a2 H2 ha2 e2 g2
  have g1 := e2 _ _ g1
  have hS := hS.same e2
  have e12 := e1.trans e2
  clear e1 e2 ha1 ha2 hR
  walk_at "go"
  refine forEZ (xs := (M.lf c w).map ov) (ys := (M.lf d w).map ov) (by simp [M.lf_len]) (fun i σ H' => ∃ (k2 k3 k4 : Option V), σ = [some (.ref x), some (.ref y), k2, k3, k4] ∧ Same H2 H' ∧ ∀ j, j < i → M.rise c w (j : Int) = M.rise d w (j : Int)) ?_ ?_ ?_ ?_
  · exact ⟨none, none, none, rfl, Same.refl _, fun j h => by omega⟩
  · rintro i σ H3 ⟨k2, k3, k4, rfl, e3, _⟩
    exact ⟨.inl (.inl (e3 _ _ g1)), .inl (.inl (e3 _ _ g2))⟩
  · rintro i o1 o2 T1 T2 σ H3 ho1 ho2 hT1 hT2 ⟨k2, k3, k4, rfl, e3, he⟩
    obtain ⟨hi, rfl⟩ := getO ho1
    obtain ⟨hi2, rfl⟩ := getO ho2
    have hiw : i ≤ w := by rw [M.lf_len] at hi; omega
    have r1 := M.lf_get (c := c) hiw
    have r2 := M.lf_get (c := d) hiw
    rw [List.getElem?_eq_getElem hi] at r1
    rw [List.getElem?_eq_getElem hi2] at r2
    rw [Option.some.inj r1, Option.some.inj r2] at hT2 ⊢
    have hn : T1 ≠ T2 := fun z => by rw [z, upd_same] at hT2; cases hT2
    have e4 : Same H3 (upd (upd H3 T1 (.tup [ov (M.rise c w (i : Int)), ov (M.rise d w (i : Int))])) T2 (.tup [.int (i : Nat), .ref T1])) := (same_new hT1).trans (same_new hT2)
    have k1 : (upd (upd H3 T1 (.tup [ov (M.rise c w (i : Int)), ov (M.rise d w (i : Int))])) T2 (.tup [.int (i : Nat), .ref T1])) T2 = some (.tup [.int (i : Nat), .ref T1]) := upd_same
    have k0 : (upd (upd H3 T1 (.tup [ov (M.rise c w (i : Int)), ov (M.rise d w (i : Int))])) T2 (.tup [.int (i : Nat), .ref T1])) T1 = some (.tup [ov (M.rise c w (i : Int)), ov (M.rise d w (i : Int))]) := by rw [upd_ne hn]; exact upd_same
    generalize upd (upd H3 T1 (.tup [ov (M.rise c w (i : Int)), ov (M.rise d w (i : Int))])) T2 (.tup [.int (i : Nat), .ref T1]) = H4 at e4 k1 k0
    have hS4 := hS.same (e3.trans e4)
    walk_at "go"
    refine w_neOv ?_
    walk_at "go"
    refine w_iteN (fun hne => ?_) (fun heq => ?_)
    · walk_at "go"
      refine f_copies T hS4 ?_
      have bd1 : ∀ z, M.rise c w (i : Int) = some z → 0 ≤ z ∧ z ≤ w := fun z hz => M.rise_bd (by omega) (by omega) hz
      have bd2 : ∀ z, M.rise d w (i : Int) = some z → 0 ≤ z ∧ z ≤ w := fun z hz => M.rise_bd (by omega) (by omega) hz
      walk_at "go"
      refine i_room bd1 bd2 hw fun p1 H5 hp1 e5 j1 => ?_
      walk_at "go"
      intro p0 hp0
      have j0 : (upd H5 p0 (.lst [.int 0])) p0 = some (.lst [.int 0]) := upd_same
      have e6 := same_new (o := .lst [.int 0]) hp0
      generalize upd H5 p0 (.lst [.int 0]) = H6 at j0 e6
      have j1 := e6 _ _ j1
      walk_at "go"
      intro p2 hp2
      have j2 : (upd H6 p2 (.lst (List.replicate ((i : Nat) : Int).toNat [V.int 0]).flatten)) p2 = some (.lst ((List.replicate i (0 : Int)).map V.int)) := by
        rw [flat_one, List.map_replicate]; exact upd_same
      have e7 := same_new (o := .lst (List.replicate ((i : Nat) : Int).toNat [V.int 0]).flatten) hp2
      have n12 : p1 ≠ p2 := ne_of_none j1 hp2
      generalize upd H6 p2 (.lst (List.replicate ((i : Nat) : Int).toNat [V.int 0]).flatten) = H7 at j2 e7
      have j1 := e7 _ _ j1
      walk_at "go"
      intro T hT
      have E7 := ((((e12.trans e3).trans e4).trans e5).trans e6).trans e7
      exact qn i hiw hne T p1 p2 _ (E7.free hT) ((((e12.trans e3).trans e4)).free hp1) (((((e12.trans e3).trans e4).trans e5).trans e6).free hp2) n12 (E7.trans (same_new hT)) upd_same (keep j1 hT) (keep j2 hT)
    · walk_at "go"
      refine ⟨_, _, _, rfl, e3.trans e4, fun j hj => ?_⟩
      by_cases hji : j = i
      · rw [hji]; exact heq
      · exact he j (by omega)
  · rintro σ H3 ⟨k2, k3, k4, rfl, e3, he⟩
    walk_at "go"
    refine qe (M.lf_ext fun j hj => he j ?_) _ (e12.trans e3)
    rw [List.length_map, M.lf_len]; omega
theorem rd_law_holds (h : sp_law_holds K A vs H Q E) : t_law_holds K A { nx := fun _ H' => Q .non H', rt := Q } (start ["blank", "copies"] vs) H := by
  obtain ⟨a, c, w, rfl, ha, hn, q⟩ := h
  unfold t_law_holds
  walk_at "go"
  intro H1 e1
  walk_at "go"
  rw [ov_non, Bool.not_not]
  exact q _ e1
end G

namespace G
open PySem L2
theorem sIx_nat (n k : Nat) (d : Nat) : HT.sIx n d (some (k : Int)) = min k n := by
  unfold HT.sIx
  simp
  omega
theorem cut_map (c : List Int) (i j : Nat) : cutV (c.map V.int) (some (i : Int)) (some (j : Int)) = ((c.drop i).take (j - i)).map V.int := by
  unfold cutV
  rw [sIx_nat, sIx_nat, List.length_map, ← List.map_drop, ← List.map_take]
  congr 1
  by_cases h : i ≤ c.length
  · rw [show min i c.length = i by omega]
    by_cases h2 : j ≤ c.length
    · rw [show min j c.length = j by omega]
    · rw [show min j c.length = c.length by omega, List.take_of_length_le (by simp), List.take_of_length_le (by simp; omega)]
  · rw [show min i c.length = c.length by omega, List.drop_eq_nil_of_le (Nat.le_refl _), List.drop_eq_nil_of_le (by omega)]
    simp
theorem cut_mapFrom (c : List Int) (i : Nat) : cutV (c.map V.int) (some (i : Int)) none = (c.drop i).map V.int := by
  unfold cutV
  rw [sIx_nat, List.length_map, ← List.map_drop, ← List.map_take]
  congr 1
  show List.take (c.length - _) _ = _
  by_cases h : i ≤ c.length
  · rw [show min i c.length = i by omega, List.take_of_length_le (by simp)]
  · rw [List.drop_eq_nil_of_le (show c.length ≤ i by omega), List.drop_eq_nil_of_le (by omega)]; simp
theorem cut_mapTo (c : List Int) (j : Nat) : cutV (c.map V.int) none (some (j : Int)) = (c.take j).map V.int := by
  unfold cutV
  rw [sIx_nat, List.length_map, ← List.map_drop, ← List.map_take]
  congr 1
  show List.take (_ - 0) (List.drop 0 c) = _
  rw [List.drop_zero, Nat.sub_zero]
  by_cases h : j ≤ c.length
  · rw [show min j c.length = j by omega]
  · rw [List.take_of_length_le (by omega), List.take_of_length_le (by omega)]
end G
namespace G
open PySem L2
def t_law_doubled (K : PySem.W.Frag) (A : CA) : TS :=
  (tSeq (tAsg (tLst tNil) (gName 2))
  (tSeq (tFor (iList K (tVar 1)) (gName 3)
  (tIfS (tTest (tOp oLt (tVar 3) (tC (.int 2)))) (tDrop (tBM K "list" rAppend (tVar 2) (tCons (tVar 3) tNil))) (tAsg (tOp rCat (tVar 2) (tLc (iRng1 (tCons (tOp oAdd (tC (.int 1)) (tCall (sp_law_take K A) [] E0 (tCons (tVar 0) (tCons (tC (.int 2)) tNil)))) tNil)) (gName 4) tYes (tOp oAdd (tC (.int 2)) (tCall (sp_law_take K A) [] E0 (tCons (tVar 0) (tCons (tC (.int 60)) tNil)))) [4])) (gName 2))))
  (tRet (tVar 2))))
def t_law_second (K : PySem.W.Frag) (A : CA) : TS :=
  (tSeq (tAsg (tCall (sp_law_take K A) [] E0 (tCons (tVar 0) (tCons (tC (.int 8)) tNil))) (gName 2))
  (tSeq (tAsg (tCall (sp_law_take K A) [] E0 (tCons (tVar 0) (tCons (tOp oAdd (tCB (rLenQ K) (tCons (tVar 1) tNil)) (tC (.int 1))) tNil))) (gName 3))
  (tSeq (tIfS (tTest (tOp rEq (tVar 2) (tC (.int 0)))) (tRet (tCall (sp_law_pages K A) [] E0 (tCons (tVar 0) tNil))) tNext)
  (tSeq (tIfS (tAnd (tTest (tOp rEq (tVar 2) (tC (.int 1)))) (tTest (tOp oLt (tVar 3) (tCB (rLenQ K) (tCons (tVar 1) tNil))))) (tRet (tOp rCat (tOp rCat (tSl (rSlL K) (tVar 1) tNoPart (tPart (tVar 3))) (tLst (tCons (tCall (sp_law_page K A) [] E0 (tCons (tVar 0) tNil)) tNil))) (tSl (rSlL K) (tVar 1) (tPart (tOp oAdd (tVar 3) (tC (.int 1)))) tNoPart))) tNext)
  (tSeq (tIfS (tTest (tOp rEq (tVar 2) (tC (.int 2)))) (tRet (tOp rCat (tOp rCat (tSl (rSlL K) (tVar 1) tNoPart (tPart (tVar 3))) (tLst (tCons (tCall (sp_law_page K A) [] E0 (tCons (tVar 0) tNil)) tNil))) (tSl (rSlL K) (tVar 1) (tPart (tVar 3)) tNoPart))) tNext)
  (tSeq (tIfS (tTest (tOp rEq (tVar 2) (tC (.int 3)))) (tRet (tOp rCat (tSl (rSlL K) (tVar 1) tNoPart (tPart (tVar 3))) (tSl (rSlL K) (tVar 1) (tPart (tOp oAdd (tVar 3) (tC (.int 1)))) tNoPart))) tNext)
  (tSeq (tIfS (tTest (tOp rEq (tVar 2) (tC (.int 4)))) (tRet (tCall (sp_law_doubled K A) [] E0 (tCons (tVar 0) (tCons (tVar 1) tNil)))) tNext)
  (tSeq (tIfS (tTest (tOp rEq (tVar 2) (tC (.int 5)))) (tRet (tOp rCat (tOp rCat (tSl (rSlL K) (tVar 1) tNoPart (tPart (tVar 3))) (tLst (tCons (tC (.int 2)) tNil))) (tSl (rSlL K) (tVar 1) (tPart (tVar 3)) tNoPart))) tNext)
  (tSeq (tIfS (tTest (tOp rEq (tVar 2) (tC (.int 6)))) (tRet (tOp rCat (tLst (tCons (tOp oAdd (tC (.int 2)) (tCall (sp_law_take K A) [] E0 (tCons (tVar 0) (tCons (tC (.int 60)) tNil)))) tNil)) (tVar 1))) tNext)
  (tRet (tCB (oListOf K) (tCons (tVar 1) tNil))))))))))))
def t_law_stands (K : PySem.W.Frag) (A : CA) : TS :=
  (tSeq (tAsg (tOp (GX.rOwnAdd A.Stretch (sp_Stretch_add K A) E0) (tOp (GX.rOwnAdd A.Stretch (sp_Stretch_add K A) E0) (tMake A.Stretch (sp_Stretch_init K A) [] E0 (tCons (tCB (oListOf K) (tCons (tVar 2) tNil)) (tCons (tVar 4) tNil))) (tVar 0)) (tMake A.Stretch (sp_Stretch_init K A) [] E0 (tCons (tCB (oListOf K) (tCons (tVar 3) tNil)) (tCons (tVar 4) tNil)))) (gName 5))
  (tSeq (tAsg (tMeth A.Stretch "is_keepable" (sp_Stretch_is_keepable K A) [] E0 (tVar 5) tNil) (gName 6))
  (tRet (tAndV (tCB (rIsi K) (tCons (tVar 6) (tCons (tC (.ty "bool")) tNil))) (tOp rEq (tVar 6) (tCall (sp_law_holds K A) [] E0 (tCons (tOp rCat (tOp rCat (tVar 2) (tVar 1)) (tVar 3)) (tCons (tVar 4) tNil))))))))

variable {K : PySem.W.Frag} {A : CA} {vs : List V} {H : Hp} {Q : VK} {E : XK}
theorem rd_law_doubled (h : sp_law_doubled K A vs H Q E) : t_law_doubled K A { nx := fun _ H' => Q .non H', rt := Q } (start ["bag", "blank", "following", "count", "place"] vs) H := by
  obtain ⟨s, a, c, rfl, hs, na, ha, hn, hl, q⟩ := h
  unfold t_law_doubled
  walk_at "go"
  intro f hf
  have ha1 := keep (o' := .lst []) ha hf
  have hf1 : (upd H f (.lst [])) f = some (.lst (([] : List Int).map V.int)) := upd_same
  have e1 := same_new (o := .lst []) hf
  have c1 := hs.new (o := .lst []) hf
  have nfs : f ≠ s := hs.neFree hf
  have naf : a ≠ f := ne_of_none ha hf
  generalize upd H f (.lst []) = H1 at ha1 hf1 e1 c1
  walk_at "go"
  refine forL (xs := c.map V.int) (fun i σ H' => ∃ (g : Addr) (ps : List Int) (k3 : Option V), σ = [some (.ref s), some (.ref a), some (.ref g), k3, none] ∧ But s H H' ∧ Src H' s ∧ H g = none ∧ H' g = some (.lst (ps.map V.int)) ∧ Nn ps ∧ ps.length ≤ 2 * i) ?_ ?_ ?_ ?_
  · exact ⟨f, [], none, rfl, Same.but e1, c1, hf, hf1, (fun _ h => by cases h), Nat.le_refl _⟩
  · rintro i σ H2 hi ⟨g, ps, k3, rfl, b2, c2, _⟩
    exact .inl (.inl (b2.at na ha))
  · rintro i x σ H2 hx ⟨g, ps, k3, rfl, b2, c2, hg, h2, pn, pl⟩
    obtain ⟨hi, rfl⟩ := getI hx
    have hci : 0 ≤ c[i] := hn _ (List.getElem_mem hi)
    have ngs : g ≠ s := hs.neFree hg
    have ha2 := b2.at na ha
    have nga : a ≠ g := ne_of_none ha hg
    have hsz : (ps.map V.int).length < sizeLine := by rw [List.length_map]; exact L2.small1000 (by omega)
    walk_at "go"
    refine w_iteD (fun hc => ?_) (fun hc => ?_)
    · walk_at "go"
      refine ⟨g, ps ++ [c[i]], _, rfl, b2.mut hg, c2.mut ngs, hg, by rw [← snocI]; exact upd_same, pn.app (fun z hz => by rw [List.mem_singleton.mp hz]; exact hci), by rw [List.length_append, List.length_singleton]; omega⟩
    · walk_at "go"
      intro n H3 n0 n1 b3 c3
      have h3 := b3.at ngs h2
      walk_at "go"
      refine lcR (fun Dl j H' => ∃ gs : List Int, gs.length = j ∧ Nn gs ∧ But s H3 H' ∧ Src H' s ∧ H' Dl = some (.lst (gs.map V.int))) ?_ ?_ ?_
      · intro Dl hD
        exact ⟨[], rfl, (fun _ h => by cases h), But.refl.new hD, c3.new hD, upd_same⟩
      · rintro Dl j H4 hD hj ⟨gs, gl, gg, b4, c4, h4⟩
        have hl2 : (gs.map V.int).length < sizeLine := by rw [List.length_map]; exact L2.small1000 (by omega)
        have nd : Dl ≠ s := c3.neFree hD
        walk_at "go"
        intro r H5 r0 r1 b5 c5
        have h5 := b5.at nd h4
        walk_at "go"
        refine ⟨gs ++ [2 + r], by simp [gl], gg.app (fun z hz => by rw [List.mem_singleton.mp hz]; omega), (b4.trans b5).mut hD, c5.mut nd, by rw [← snocI]; exact upd_same⟩
      · rintro Dl H4 hD ⟨gs, gl, gg, b4, c4, h4⟩
        have h4' := b4.at ngs h3
        have zz := catsz (a := ps) (b := gs) (by omega)
        walk_at "go"
        intro l hl'
        rw [← List.map_append]
        walk_at "go"
        exact ⟨l, ps ++ gs, _, rfl, ((b2.trans b3).trans b4).new hl', c4.new hl', ((b2.trans b3).trans b4).back c4 hl', upd_same, pn.app gg, by rw [List.length_append]; omega⟩
  · rintro σ H2 ⟨g, ps, k3, rfl, b2, c2, hg, h2, pn, pl⟩
    rw [List.length_map] at pl
    walk_at "go"
    exact q ps g _ (by omega) pn hg b2 c2 h2
theorem rd_law_second (h : sp_law_second K A vs H Q E) : t_law_second K A { nx := fun _ H' => Q .non H', rt := Q } (start ["bag", "blank", "way", "at"] vs) H := by
  obtain ⟨s, a, c, rfl, hs, na, ha, hn, hl, q⟩ := h
  have ha0 := ha
  have hnT : ∀ k, Nn (c.take k) := fun k z hz => hn z (List.mem_of_mem_take hz)
  have hnD : ∀ k, Nn (c.drop k) := fun k z hz => hn z (List.mem_of_mem_drop hz)
  have hlm : (c.map V.int).length = c.length := List.length_map ..
  unfold t_law_second
  walk_at "go"
  intro way H1 r0 r1 b1 c1
  have ha := b1.at na ha
  walk_at "go"
  intro p H2 p0 p1 b2 c2
  have ha := b2.at na ha
  have b := b1.trans b2
  clear b1 b2 c1
  rw [List.length_map] at p1
  obtain ⟨p, rfl⟩ := Int.eq_ofNat_of_zero_le p0
  walk_at "go"
  refine w_iteD (fun hc => ?_) (fun hc => ?_)
  · walk_at "go"
    intro ps p H3 pl pn hp b3 c3 h3
    exact q ps p H3 (by omega) pn (b.back c2 hp) (b.trans b3) c3 h3
  have three : ∀ (k m : Nat) (x : Int) (H3 : Hp), k ≤ m → 0 ≤ x → Src H3 s → But s H H3 → ∀ l, H3 l = none → Q (.ref l) (upd H3 l (.lst ((c.take k ++ [x] ++ c.drop m).map V.int))) := fun k m x H3 hkm hx c3 b3 l hl' =>
    q _ l _ (by simp; omega) (((hnT k).app fun z hz => by rw [List.mem_singleton.mp hz]; exact hx).app (hnD m)) (b3.back c3 hl') (b3.new hl') (c3.new hl') upd_same
  have way2 : True := trivial
  walk_at "go"
  refine w_iteD (fun h1 => ?_) (fun h1 => ?_)
  · walk_at "go"
    refine w_iteD (fun h2 => ?_) (fun h2 => ?_)
    · rw [List.length_map] at h2
      walk_at "go"
      intro t1 ht1
      rw [cut_mapTo]
      have g1 : (upd H2 t1 (.lst ((c.take p).map V.int))) t1 = some (.lst ((c.take p).map V.int)) := upd_same
      have b3 := b.new (o := .lst ((c.take p).map V.int)) ht1
      have c3 := c2.new (o := .lst ((c.take p).map V.int)) ht1
      have ns1 : t1 ≠ s := c2.neFree ht1
      generalize upd H2 t1 (.lst ((c.take p).map V.int)) = H3 at g1 b3 c3
      walk_at "go"
      intro r H4 r0 b4 c4
      have g1 := b4.at ns1 g1
      have b4 := b3.trans b4
      have ha4 := b4.at na ha0
      walk_at "go"
      intro t2 ht2
      have g2 : (upd H4 t2 (.lst [.int r])) t2 = some (.lst (([r] : List Int).map V.int)) := upd_same
      have g1 := keep (o' := .lst [.int r]) g1 ht2
      have ha4 := keep (o' := .lst [.int r]) ha4 ht2
      have b5 := b4.new (o := .lst [.int r]) ht2
      have c5 := c4.new (o := .lst [.int r]) ht2
      generalize upd H4 t2 (.lst [.int r]) = H5 at g1 g2 b5 c5 ha4
      have zz := catsz (a := c.take p) (b := [r]) (by simp; omega)
      refine w_cat g1 g2 zz fun t3 ht3 => ?_
      rw [← List.map_append]
      have g3 : (upd H5 t3 (.lst ((c.take p ++ [r]).map V.int))) t3 = some (.lst ((c.take p ++ [r]).map V.int)) := upd_same
      have ha4 := keep (o' := .lst ((c.take p ++ [r]).map V.int)) ha4 ht3
      have b6 := b5.new (o := .lst ((c.take p ++ [r]).map V.int)) ht3
      have c6 := c5.new (o := .lst ((c.take p ++ [r]).map V.int)) ht3
      generalize upd H5 t3 (.lst ((c.take p ++ [r]).map V.int)) = H6 at g3 b6 c6 ha4
      walk_at "go"
      intro t4 ht4
      rw [show ((p : Int) + 1) = ((p + 1 : Nat) : Int) by omega]
      rw [cut_mapFrom]
      have g4 : (upd H6 t4 (.lst ((c.drop (p + 1)).map V.int))) t4 = some (.lst ((c.drop (p + 1)).map V.int)) := upd_same
      have g3 := keep (o' := .lst ((c.drop (p + 1)).map V.int)) g3 ht4
      have b7 := b6.new (o := .lst ((c.drop (p + 1)).map V.int)) ht4
      have c7 := c6.new (o := .lst ((c.drop (p + 1)).map V.int)) ht4
      generalize upd H6 t4 (.lst ((c.drop (p + 1)).map V.int)) = H7 at g3 g4 b7 c7
      refine w_cat g3 g4 (catsz (by simp; omega)) fun t5 ht5 => ?_
      rw [← List.map_append]
      exact three p (p + 1) r H7 (by omega) r0 c7 b7 t5 ht5
    · walk_at "go"
      refine w_iteD (fun z => by omega) (fun _ => ?_)
      walk_at "go"
      refine w_iteD (fun z => by omega) (fun _ => ?_)
      walk_at "go"
      refine w_iteD (fun z => by omega) (fun _ => ?_)
      walk_at "go"
      refine w_iteD (fun z => by omega) (fun _ => ?_)
      walk_at "go"
      refine w_iteD (fun z => by omega) (fun _ => ?_)
      walk_at "go"
      intro t5 ht5
      exact q c t5 _ (by omega) hn (b.back c2 ht5) (b.new ht5) (c2.new ht5) upd_same
  walk_at "go"
  refine w_iteD (fun h1 => ?_) (fun h1 => ?_)
  · walk_at "go"
    intro t1 ht1
    rw [cut_mapTo]
    have g1 : (upd H2 t1 (.lst ((c.take p).map V.int))) t1 = some (.lst ((c.take p).map V.int)) := upd_same
    have b3 := b.new (o := .lst ((c.take p).map V.int)) ht1
    have c3 := c2.new (o := .lst ((c.take p).map V.int)) ht1
    have ns1 : t1 ≠ s := c2.neFree ht1
    generalize upd H2 t1 (.lst ((c.take p).map V.int)) = H3 at g1 b3 c3
    walk_at "go"
    intro r H4 r0 b4 c4
    have g1 := b4.at ns1 g1
    have b4 := b3.trans b4
    have ha4 := b4.at na ha0
    walk_at "go"
    intro t2 ht2
    have g2 : (upd H4 t2 (.lst [.int r])) t2 = some (.lst (([r] : List Int).map V.int)) := upd_same
    have g1 := keep (o' := .lst [.int r]) g1 ht2
    have ha4 := keep (o' := .lst [.int r]) ha4 ht2
    have b5 := b4.new (o := .lst [.int r]) ht2
    have c5 := c4.new (o := .lst [.int r]) ht2
    generalize upd H4 t2 (.lst [.int r]) = H5 at g1 g2 b5 c5 ha4
    have zz := catsz (a := c.take p) (b := [r]) (by simp; omega)
    refine w_cat g1 g2 zz fun t3 ht3 => ?_
    rw [← List.map_append]
    have g3 : (upd H5 t3 (.lst ((c.take p ++ [r]).map V.int))) t3 = some (.lst ((c.take p ++ [r]).map V.int)) := upd_same
    have ha4 := keep (o' := .lst ((c.take p ++ [r]).map V.int)) ha4 ht3
    have b6 := b5.new (o := .lst ((c.take p ++ [r]).map V.int)) ht3
    have c6 := c5.new (o := .lst ((c.take p ++ [r]).map V.int)) ht3
    generalize upd H5 t3 (.lst ((c.take p ++ [r]).map V.int)) = H6 at g3 b6 c6 ha4
    walk_at "go"
    intro t4 ht4
    rw [cut_mapFrom]
    have g4 : (upd H6 t4 (.lst ((c.drop (p)).map V.int))) t4 = some (.lst ((c.drop (p)).map V.int)) := upd_same
    have g3 := keep (o' := .lst ((c.drop (p)).map V.int)) g3 ht4
    have b7 := b6.new (o := .lst ((c.drop (p)).map V.int)) ht4
    have c7 := c6.new (o := .lst ((c.drop (p)).map V.int)) ht4
    generalize upd H6 t4 (.lst ((c.drop (p)).map V.int)) = H7 at g3 g4 b7 c7
    refine w_cat g3 g4 (catsz (by simp; omega)) fun t5 ht5 => ?_
    rw [← List.map_append]
    exact three p (p) r H7 (by omega) r0 c7 b7 t5 ht5
  walk_at "go"
  refine w_iteD (fun h2 => ?_) (fun h2 => ?_)
  · walk_at "go"
    intro t1 ht1
    rw [cut_mapTo]
    have g1 : (upd H2 t1 (.lst ((c.take p).map V.int))) t1 = some (.lst ((c.take p).map V.int)) := upd_same
    have b3 := b.new (o := .lst ((c.take p).map V.int)) ht1
    have c3 := c2.new (o := .lst ((c.take p).map V.int)) ht1
    have ha3 := keep (o' := .lst ((c.take p).map V.int)) ha ht1
    generalize upd H2 t1 (.lst ((c.take p).map V.int)) = H3 at g1 b3 c3 ha3
    walk_at "go"
    intro t4 ht4
    rw [show ((p : Int) + 1) = ((p + 1 : Nat) : Int) by omega]
    rw [cut_mapFrom]
    have g4 : (upd H3 t4 (.lst ((c.drop (p + 1)).map V.int))) t4 = some (.lst ((c.drop (p + 1)).map V.int)) := upd_same
    have g1 := keep (o' := .lst ((c.drop (p + 1)).map V.int)) g1 ht4
    have b7 := b3.new (o := .lst ((c.drop (p + 1)).map V.int)) ht4
    have c7 := c3.new (o := .lst ((c.drop (p + 1)).map V.int)) ht4
    generalize upd H3 t4 (.lst ((c.drop (p + 1)).map V.int)) = H7 at g1 g4 b7 c7
    refine w_cat g1 g4 (catsz (by simp; omega)) fun t5 ht5 => ?_
    rw [← List.map_append]
    exact q _ t5 _ (by simp; omega) ((hnT p).app (hnD (p + 1))) (b7.back c7 ht5) (b7.new ht5) (c7.new ht5) upd_same
  walk_at "go"
  refine w_iteD (fun h3 => ?_) (fun h3 => ?_)
  · walk_at "go"
    intro ps t H3 pl pn hp b3 c3 h3
    exact q ps t H3 pl pn (b.back c2 hp) (b.trans b3) c3 h3
  walk_at "go"
  refine w_iteD (fun h4 => ?_) (fun h4 => ?_)
  · walk_at "go"
    intro t1 ht1
    rw [cut_mapTo]
    have g1 : (upd H2 t1 (.lst ((c.take p).map V.int))) t1 = some (.lst ((c.take p).map V.int)) := upd_same
    have b3 := b.new (o := .lst ((c.take p).map V.int)) ht1
    have c3 := c2.new (o := .lst ((c.take p).map V.int)) ht1
    have ns1 : t1 ≠ s := c2.neFree ht1
    generalize upd H2 t1 (.lst ((c.take p).map V.int)) = H3 at g1 b3 c3
    have b4 := b3
    have c4 := c3
    have ha4 := b4.at na ha0
    walk_at "go"
    intro t2 ht2
    have g2 : (upd H3 t2 (.lst [.int 2])) t2 = some (.lst (([2] : List Int).map V.int)) := upd_same
    have g1 := keep (o' := .lst [.int 2]) g1 ht2
    have ha4 := keep (o' := .lst [.int 2]) ha4 ht2
    have b5 := b4.new (o := .lst [.int 2]) ht2
    have c5 := c4.new (o := .lst [.int 2]) ht2
    generalize upd H3 t2 (.lst [.int 2]) = H5 at g1 g2 b5 c5 ha4
    have zz := catsz (a := c.take p) (b := [2]) (by simp; omega)
    refine w_cat g1 g2 zz fun t3 ht3 => ?_
    rw [← List.map_append]
    have g3 : (upd H5 t3 (.lst ((c.take p ++ [2]).map V.int))) t3 = some (.lst ((c.take p ++ [2]).map V.int)) := upd_same
    have ha4 := keep (o' := .lst ((c.take p ++ [2]).map V.int)) ha4 ht3
    have b6 := b5.new (o := .lst ((c.take p ++ [2]).map V.int)) ht3
    have c6 := c5.new (o := .lst ((c.take p ++ [2]).map V.int)) ht3
    generalize upd H5 t3 (.lst ((c.take p ++ [2]).map V.int)) = H6 at g3 b6 c6 ha4
    walk_at "go"
    intro t4 ht4
    rw [cut_mapFrom]
    have g4 : (upd H6 t4 (.lst ((c.drop (p)).map V.int))) t4 = some (.lst ((c.drop (p)).map V.int)) := upd_same
    have g3 := keep (o' := .lst ((c.drop (p)).map V.int)) g3 ht4
    have b7 := b6.new (o := .lst ((c.drop (p)).map V.int)) ht4
    have c7 := c6.new (o := .lst ((c.drop (p)).map V.int)) ht4
    generalize upd H6 t4 (.lst ((c.drop (p)).map V.int)) = H7 at g3 g4 b7 c7
    refine w_cat g3 g4 (catsz (by simp; omega)) fun t5 ht5 => ?_
    rw [← List.map_append]
    exact three p (p) 2 H7 (by omega) (by omega) c7 b7 t5 ht5
  walk_at "go"
  refine w_iteD (fun h5 => ?_) (fun h5 => ?_)
  · walk_at "go"
    intro r H4 r0 r1 b4 c4
    have ha4 := b4.at na ha
    have b4 := b.trans b4
    walk_at "go"
    intro t2 ht2
    have g2 : (upd H4 t2 (.lst [.int (2 + r)])) t2 = some (.lst (([2 + r] : List Int).map V.int)) := upd_same
    have ha4 := keep (o' := .lst [.int (2 + r)]) ha4 ht2
    have b5 := b4.new (o := .lst [.int (2 + r)]) ht2
    have c5 := c4.new (o := .lst [.int (2 + r)]) ht2
    generalize upd H4 t2 (.lst [.int (2 + r)]) = H5 at g2 b5 c5 ha4
    walk_at "go"
    intro t5 ht5
    rw [← List.map_append]
    exact q _ t5 _ (by simp; omega) (Nn.app (fun z hz => by rw [List.mem_singleton.mp hz]; omega) hn) (b5.back c5 ht5) (b5.new ht5) (c5.new ht5) upd_same
  walk_at "go"
  intro t5 ht5
  exact q c t5 _ (by omega) hn (b.back c2 ht5) (b.new ht5) (c2.new ht5) upd_same
theorem rd_law_stands (T : CT K A) (h : sp_law_stands K A vs H Q E) : t_law_stands K A { nx := fun _ H' => Q .non H', rt := Q } (start ["made", "blank", "above", "below", "copies", "whole", "answer"] vs) H := by
  obtain ⟨x, a, p1, p2, c, z1, z2, w, rfl, hS, ha, h1, h2, hc, n1, n2, lc, l1, l2, hw, q⟩ := h
  have y1 := catsz (a := z1) (b := c) (by omega)
  have y2 := catsz (a := z1 ++ c) (b := z2) (by rw [List.length_append]; omega)
  have k1 : z1.length ≤ 1000 := by omega
  have k2 : z2.length ≤ 1000 := by omega
  unfold t_law_stands
  walk_at "go"
  intro l1 hl1
  have e1 := same_new (o := .lst (z1.map V.int)) hl1
  have g1 : (upd H l1 (.lst (z1.map V.int))) l1 = some (.lst (z1.map V.int)) := upd_same
  generalize upd H l1 (.lst (z1.map V.int)) = H1 at e1 g1
  walk_at "go"
  intro m1 H2 hm1 e2 u1
  have hS2 := hS.same (e1.trans e2)
  walk_at "go"
  intro m2 H3 hm2 e3 u2
  have h23 := (e1.trans (e2.trans e3)) _ _ h2
  walk_at "go"
  intro l2 hl2
  have e4 := same_new (o := .lst (z2.map V.int)) hl2
  have g4 : (upd H3 l2 (.lst (z2.map V.int))) l2 = some (.lst (z2.map V.int)) := upd_same
  generalize upd H3 l2 (.lst (z2.map V.int)) = H4 at e4 g4
  walk_at "go"
  intro m3 H5 hm3 e5 u3
  have u2 := u2.same (e4.trans e5)
  walk_at "go"
  intro m4 H6 hm4 e6 u4
  have E6 := e1.trans (e2.trans (e3.trans (e4.trans (e5.trans e6))))
  have ha := E6 _ _ ha
  have h1 := E6 _ _ h1
  have h2 := E6 _ _ h2
  clear e1 e2 e3 e4 e5 e6
  walk_at "go"
  intro l3 hl3
  rw [← List.map_append]
  have e7 := same_new (o := .lst ((z1 ++ c).map V.int)) hl3
  have g7 : (upd H6 l3 (.lst ((z1 ++ c).map V.int))) l3 = some (.lst ((z1 ++ c).map V.int)) := upd_same
  generalize upd H6 l3 (.lst ((z1 ++ c).map V.int)) = H7 at e7 g7
  have h2 := e7 _ _ h2
  walk_at "go"
  intro l4 hl4
  rw [← List.map_append]
  walk_at "go"
  intro H8 e8
  walk_at "go"
  rw [decide_eq_true rfl]
  exact q _ ((E6.trans e7).trans ((same_new hl4).trans e8))
end G

namespace G
open PySem L2
def sp_law_parts (K : PySem.W.Frag) (A : CA) : Sp := fun vs H Q _ => ∃ (T a1 a2 p1 p2 : Addr) (c d z1 z2 : List Int) (w : Nat), vs = [.ref T, .ref a1, .ref a2, .int (w : Int)] ∧ H T = some (.tup [.ref p1, .ref p2]) ∧ H a1 = some (.lst (c.map V.int)) ∧ H a2 = some (.lst (d.map V.int)) ∧ H p1 = some (.lst (z1.map V.int)) ∧ H p2 = some (.lst (z2.map V.int)) ∧
  Nn c ∧ Nn d ∧ Nn z1 ∧ Nn z2 ∧ c.length ≤ 200 ∧ d.length ≤ 200 ∧ z1.length ≤ 200 ∧ z2.length ≤ 200 ∧ (M.rise (z1 ++ c ++ z2) w 0).isSome ≠ (M.rise (z1 ++ d ++ z2) w 0).isSome ∧ ∀ H', Same H H' → Q (.bl true) H'
def sp_law_parted (K : PySem.W.Frag) (A : CA) : Sp := fun vs H Q _ => ∃ (x y a1 a2 : Addr) (c d : List Int) (w : Nat), vs = [.ref x, .ref y, .ref a1, .ref a2, .int (w : Int)] ∧ StX A H x c w ∧ StX A H y d w ∧ H a1 = some (.lst (c.map V.int)) ∧ H a2 = some (.lst (d.map V.int)) ∧ Nn c ∧ Nn d ∧ c.length ≤ 200 ∧ d.length ≤ 200 ∧ w ≤ 200 ∧
  ∀ H', Same H H' → Q (.bl true) H'
def sp_law_differs (K : PySem.W.Frag) (A : CA) : Sp := fun vs H Q _ => ∃ (x y : Addr) (c d : List Int) (w v : Nat), vs = [.ref x, .ref y, .int (w : Int), .int (v : Int)] ∧ StX A H x c w ∧ StX A H y d v ∧ w ≤ 1000 ∧ v ≤ 1000 ∧ w ≠ v ∧
  ∀ H', Same H H' → Q (.bl true) H'
variable {K : PySem.W.Frag} {A : CA} {vs : List V} {H : Hp} {Q : VK} {E : XK}
theorem i_differs {x y : Addr} {c d : List Int} {w v : Nat} (hS : StX A H x c w) (hR : StX A H y d v) (hw : w ≤ 1000) (hv : v ≤ 1000) (n : w ≠ v) (q : ∀ H', Same H H' → Q (.bl true) H') : sp_law_differs K A [.ref x, .ref y, .int (w : Int), .int (v : Int)] H Q E := ⟨x, y, c, d, w, v, rfl, hS, hR, hw, hv, n, q⟩
theorem i_parted {x y a1 a2 : Addr} {c d : List Int} {w : Nat} (hS : StX A H x c w) (hR : StX A H y d w) (h1 : H a1 = some (.lst (c.map V.int))) (h2 : H a2 = some (.lst (d.map V.int))) (n1 : Nn c) (n2 : Nn d) (l1 : c.length ≤ 200) (l2 : d.length ≤ 200) (hw : w ≤ 200)
    (q : ∀ H', Same H H' → Q (.bl true) H') : sp_law_parted K A [.ref x, .ref y, .ref a1, .ref a2, .int (w : Int)] H Q E := ⟨x, y, a1, a2, c, d, w, rfl, hS, hR, h1, h2, n1, n2, l1, l2, hw, q⟩
theorem lf_ne {a b : List Int} {w v : Nat} (h : w ≠ v) : decide (w = v ∧ M.lf a w = M.lf b v) = false := decide_eq_false fun z => h z.1
theorem w_isTT {p : Addr} {xs : List V} (h : H p = some (.tup xs)) (q : Q (.bl true) H) : rIsi K [.ref p, .ty "tuple"] H Q := w_isT (t := "tuple") (b := true) (TyX.base (TyOf.tup h)) (kit_ty (by decide +kernel)) q
theorem w_lenT {p : Addr} {xs : List V} (h : H p = some (.tup xs)) (q : Q (.int xs.length) H) : rLenQ K [.ref p] H Q := ⟨p, xs, rfl, .inr (SqT.of h), q⟩
theorem all_true (n : Nat) : (List.replicate n true).all id = true := by
  induction n with
  | zero => rfl
  | succ n ih => rw [List.replicate_succ, List.all_cons, ih]; rfl
theorem any_false (n : Nat) : (List.replicate n false).any id = false := by
  induction n with
  | zero => rfl
  | succ n ih => rw [List.replicate_succ, List.any_cons, ih]; rfl
end G
local macro_rules | `(tactic| walk_at "call") => `(tactic| first
  | (refine' G.i_differs ?g1 ?g2 ?g3 ?g4 ?g5 ?_; (case g1 => walk_at "stx"); (case g2 => walk_at "stx"); (case g3 => walk_at "ar"); (case g4 => walk_at "ar"); (case g5 => walk_at "ar")))
namespace G
open PySem L2
def t_law_parts (K : PySem.W.Frag) (A : CA) : TS :=
  (tSeq (tIfS (tOr (tNot (tB (tCB (rIsi K) (tCons (tVar 0) (tCons (tC (.ty "tuple")) tNil))))) (tTest (tOp rNe (tCB (rLenQ K) (tCons (tVar 0) tNil)) (tC (.int 2))))) (tRet (tC (.bl false))) tNext)
  (tSeq (tFor (iList K (tLst (tCons (tOp (rIxT K) (tVar 0) (tC (.int 0))) (tCons (tOp (rIxT K) (tVar 0) (tC (.int 1))) tNil)))) (gName 4)
  (tSeq (tIfS (tOr (tNot (tB (tCB (rIsi K) (tCons (tVar 4) (tCons (tC (.ty "list")) tNil))))) (tNot (tB (tCB (rAll K) (tCons (tLc (iList K (tVar 4)) (gName 5) tYes (tCall (sp_law_is_integer K A) [] E0 (tCons (tVar 5) tNil)) [5]) tNil))))) (tRet (tC (.bl false))) tNext)
  (tIfS (tB (tCB (rAny K) (tCons (tLc (iList K (tVar 4)) (gName 5) tYes (tOp oLt (tVar 5) (tC (.int 0))) [5]) tNil))) (tRet (tC (.bl false))) tNext)))
  (tSeq (tAsg (tCall (sp_law_holds K A) [] E0 (tCons (tOp rCat (tOp rCat (tOp (rIxT K) (tVar 0) (tC (.int 0))) (tVar 1)) (tOp (rIxT K) (tVar 0) (tC (.int 1)))) (tCons (tVar 3) tNil))) (gName 6))
  (tRet (tOp rNe (tVar 6) (tCall (sp_law_holds K A) [] E0 (tCons (tOp rCat (tOp rCat (tOp (rIxT K) (tVar 0) (tC (.int 0))) (tVar 2)) (tOp (rIxT K) (tVar 0) (tC (.int 1)))) (tCons (tVar 3) tNil))))))))
def t_law_differs (K : PySem.W.Frag) (A : CA) : TS :=
  (tSeq (tIfS (tTest (tOp (GX.rOwnEq2 A.Stretch (sp_Stretch_eq K A) E0) (tVar 0) (tVar 1))) (tRet (tC (.bl false))) tNext)
  (tSeq (GX.tTryAs K A.CopiesDiffer 4 (fun W => (tDrop (GX.tCallS (sp_parting K A) (WE W) (tCons (tVar 0) (tCons (tVar 1) tNil))))) (fun a cls d => (tSeq (tIfS (tB (tCB (GX.rIsX K a cls d) (tCons (tVar 4) (tCons (tC (.ref A.LotError)) tNil)))) (tRet (tC (.bl false))) tNext)
  (tSeq (tIfS (tOr (tNot (tB (tCB (GX.rIsX K a cls d) (tCons (tVar 4) (tCons (tC (.ref A.OnecopyError)) tNil))))) (tNot (tB (tCB (GX.rIsX K a cls d) (tCons (tVar 4) (tCons (tC (.ty "ValueError")) tNil)))))) (tRet (tC (.bl false))) tNext)
  (tSeq (tIfS (tOr (tNot (tB (GX.tCallG (sp_law_is_integer K A) (tCons (tXf a cls d A.CopiesDiffer "left" (tVar 4)) tNil)))) (tNot (tB (GX.tCallG (sp_law_is_integer K A) (tCons (tXf a cls d A.CopiesDiffer "right" (tVar 4)) tNil))))) (tRet (tC (.bl false))) tNext)
  (tRet (tAndV (tOp rEq (tXf a cls d A.CopiesDiffer "left" (tVar 4)) (tVar 2)) (tOp rEq (tXf a cls d A.CopiesDiffer "right" (tVar 4)) (tVar 3)))))))))
  (tRet (tC (.bl false)))))

variable {K : PySem.W.Frag} {A : CA} {vs : List V} {H : Hp} {Q : VK} {E : XK}
theorem rd_law_parts (h : sp_law_parts K A vs H Q E) : t_law_parts K A { nx := fun _ H' => Q .non H', rt := Q } (start ["told", "first", "second", "copies", "blank", "count", "left"] vs) H := by
  obtain ⟨T, a1, a2, p1, p2, c, d, z1, z2, w, rfl, hT, h1, h2, k1, k2, nc, nd, n1, n2, lc, ld, l1, l2, hne, q⟩ := h
  have y1 := catsz (a := z1) (b := c) (by omega)
  have y2 := catsz (a := z1 ++ c) (b := z2) (by rw [List.length_append]; omega)
  have y3 := catsz (a := z1) (b := d) (by omega)
  have y4 := catsz (a := z1 ++ d) (b := z2) (by rw [List.length_append]; omega)
  unfold t_law_parts
  walk_at "go"
  refine w_isTT hT ?_
  walk_at "go"
  refine w_lenT hT ?_
  walk_at "go"
  refine w_iteN (fun z => absurd rfl z) (fun _ => ?_)
  walk_at "go"
  intro l hl
  have hTl := keep (o' := .lst [.ref p1, .ref p2]) hT hl
  have hL : (upd H l (.lst [.ref p1, .ref p2])) l = some (.lst [.ref p1, .ref p2]) := upd_same
  have e1 := same_new (o := .lst [.ref p1, .ref p2]) hl
  generalize upd H l (.lst [.ref p1, .ref p2]) = H1 at hTl hL e1
  walk_at "go"
  refine forL (xs := [.ref p1, .ref p2]) (fun i σ H' => ∃ (k4 k5 : Option V), σ = [some (.ref T), some (.ref a1), some (.ref a2), some (.int (w : Int)), k4, k5, none] ∧ Same H1 H') ?_ ?_ ?_ ?_
  · exact ⟨none, none, rfl, Same.refl _⟩
  · rintro i σ H2 hi ⟨k4, k5, rfl, e2⟩
    exact .inl (.inl (e2 _ _ hL))
  · rintro i x σ H2 hx ⟨k4, k5, rfl, e2⟩
    obtain ⟨b, z, rfl, hb, nz, lz⟩ : ∃ b z, x = V.ref b ∧ H2 b = some (.lst (z.map V.int)) ∧ Nn z ∧ z.length ≤ 200 := by
      rcases List.mem_of_getElem? hx with _ | ⟨_, _ | ⟨_, h⟩⟩
      · exact ⟨p1, z1, rfl, e2 _ _ (e1 _ _ k1), n1, l1⟩
      · exact ⟨p2, z2, rfl, e2 _ _ (e1 _ _ k2), n2, l2⟩
      · cases h
    walk_at "go"
    refine lcL (xs := z.map V.int) (fun Dl i H' => Same H2 H' ∧ H' Dl = some (.lst ((List.replicate i true).map V.bl))) ?_ ?_ ?_ ?_
    · intro Dl hD
      exact ⟨same_new hD, upd_same⟩
    · rintro Dl i H4 hD hi ⟨e4, k4⟩
      exact .inl (.inl (e4 _ _ hb))
    · rintro Dl i o H4 hD ho ⟨e4, k4⟩
      obtain ⟨hi, rfl⟩ := getI ho
      have hsz : ((List.replicate i true).map V.bl).length < sizeLine := by rw [List.length_map, List.length_replicate]; exact Nat.lt_of_lt_of_le (show _ < 1001 by omega) (by decide)
      walk_at "go"
      refine ⟨same_mut e4 hD, ?_⟩
      rw [List.replicate_succ', List.map_append]; exact upd_same
    · rintro Dl H4 hD ⟨e4, k4⟩
      walk_at "go"
      refine w_all (SqL.of k4) ?_
      rw [all_true]
      have hb4 := e4 _ _ hb
      walk_at "go"
      refine lcL (xs := z.map V.int) (fun Dl i H' => Same H4 H' ∧ H' Dl = some (.lst ((List.replicate i false).map V.bl))) ?_ ?_ ?_ ?_
      · intro Dl hD
        exact ⟨same_new hD, upd_same⟩
      · rintro Dl i H5 hD hi ⟨e5, k5⟩
        exact .inl (.inl (e5 _ _ hb4))
      · rintro Dl i o H5 hD ho ⟨e5, k5⟩
        obtain ⟨hi, rfl⟩ := getI ho
        have hz0 : 0 ≤ z[i] := nz _ (List.getElem_mem hi)
        have hsz : ((List.replicate i false).map V.bl).length < sizeLine := by rw [List.length_map, List.length_replicate]; exact Nat.lt_of_lt_of_le (show _ < 1001 by omega) (by decide)
        walk_at "go"
        rw [decide_eq_false (by omega)]
        refine ⟨same_mut e5 hD, ?_⟩
        rw [List.replicate_succ', List.map_append]; exact upd_same
      · rintro Dl2 H5 hD2 ⟨e5, k5⟩
        walk_at "go"
        refine w_any (SqL.of k5) ?_
        rw [any_false]
        walk_at "go"
        exact ⟨_, _, rfl, (e2.trans e4).trans e5⟩
  · rintro σ H2 ⟨k4, k5, rfl, e2⟩
    have E2 := e1.trans e2
    have hT := E2 _ _ hT
    have h1 := E2 _ _ h1
    have h2 := E2 _ _ h2
    have k1 := E2 _ _ k1
    have k2 := E2 _ _ k2
    walk_at "go"
    intro m1 hm1
    rw [← List.map_append]
    have e3 := same_new (o := .lst ((z1 ++ c).map V.int)) hm1
    have g3 : (upd H2 m1 (.lst ((z1 ++ c).map V.int))) m1 = some (.lst ((z1 ++ c).map V.int)) := upd_same
    generalize upd H2 m1 (.lst ((z1 ++ c).map V.int)) = H3 at e3 g3
    have hT := e3 _ _ hT
    have k2 := e3 _ _ k2
    walk_at "go"
    intro m2 hm2
    rw [← List.map_append]
    walk_at "go"
    intro H4 e4
    have e4 := (same_new hm2).trans e4
    have E4 := e3.trans e4
    have hT := e4 _ _ hT
    have h2 := E4 _ _ h2
    have k1 := E4 _ _ k1
    have k2 := e4 _ _ k2
    walk_at "go"
    intro m3 hm3
    rw [← List.map_append]
    have e5 := same_new (o := .lst ((z1 ++ d).map V.int)) hm3
    have g5 : (upd H4 m3 (.lst ((z1 ++ d).map V.int))) m3 = some (.lst ((z1 ++ d).map V.int)) := upd_same
    generalize upd H4 m3 (.lst ((z1 ++ d).map V.int)) = H5 at e5 g5
    have hT := e5 _ _ hT
    have k2 := e5 _ _ k2
    walk_at "go"
    intro m4 hm4
    rw [← List.map_append]
    walk_at "go"
    intro H6 e6
    walk_at "go"
    rw [decide_eq_false hne]
    exact q _ ((((E2.trans E4).trans e5).trans (same_new hm4)).trans e6)
theorem rd_law_differs (T : CT K A) (h : sp_law_differs K A vs H Q E) : t_law_differs K A { nx := fun _ H' => Q .non H', rt := Q } (start ["one", "two", "copies", "other", "raised"] vs) H := by
  obtain ⟨x, y, c, d, w, v, rfl, hS, hR, hw, hv, n, q⟩ := h
  unfold t_law_differs
  walk_at "go"
  rw [lf_ne n]
  walk_at "go"
  unfold GX.tTryAs
  walk_at "go"
  refine ⟨x, y, c, d, w, v, rfl, hS, hR, hw, hv, fun _ => ?_, fun z => absurd z n⟩
  intro dd H1 hd e hx
  refine ⟨true, T.m_CopiesDiffer, fun _ a _ => ?_, fun z => nomatch z⟩
  have lL : ([(("right" : Str), V.int (v : Int)), (("left" : Str), V.int (w : Int))] : List (Str × V)).lookup ("left" : Str) = some (V.int (w : Int)) := by rfl
  have lR : ([(("right" : Str), V.int (v : Int)), (("left" : Str), V.int (w : Int))] : List (Str × V)).lookup ("right" : Str) = some (V.int (v : Int)) := by rfl
  walk_at "go"
  refine GX.w_isX (ClsV.own _) T.x_CopiesDiffer hx T.k_CopiesDiffer_LotError ?_
  walk_at "go"
  refine GX.w_isX (ClsV.own _) T.x_CopiesDiffer hx T.k_CopiesDiffer_OnecopyError ?_
  walk_at "go"
  refine GX.w_isX (ClsV.ty _) T.x_CopiesDiffer hx T.k_CopiesDiffer_ValueError ?_
  walk_at "go"
  refine GX.w_xf (fun Q q => by walk_at "go"; exact q) hx lL ?_
  walk_at "go"
  refine GX.w_xf (fun Q q => by walk_at "go"; exact q) hx lR ?_
  walk_at "go"
  refine GX.w_xf (fun Q q => by walk_at "go"; exact q) hx lL ?_
  walk_at "go"
  rw [decide_eq_true rfl]
  walk_at "go"
  refine GX.w_xf (fun Q q => by walk_at "go"; exact q) hx lR ?_
  walk_at "go"
  rw [decide_eq_true rfl]
  exact q _ e
end G

namespace G
open PySem L2
def t_law_parted (K : PySem.W.Frag) (A : CA) : TS :=
  (tSeq (tAsg (tOp (rEqD K) (tCall (sp_law_lift K A) [] E0 (tCons (tVar 2) (tCons (tVar 4) tNil))) (tCall (sp_law_lift K A) [] E0 (tCons (tVar 3) (tCons (tVar 4) tNil)))) (gName 5))
  (tSeq (tFor (iRng1 (tCons (tC (.int 2)) tNil)) (gName 6)
  (tSeq (tAsg (tCall (sp_parting K A) [] E0 (tCons (tVar 0) (tCons (tVar 1) tNil))) (gName 7))
  (tSeq (tIfS (tAnd (tB (tVar 5)) (tB (tNotN (tVar 7)))) (tRet (tC (.bl false))) tNext)
  (tIfS (tNot (tB (tVar 5))) (tSeq (tIfS (tNot (tB (tCall (sp_law_parts K A) [] E0 (tCons (tVar 7) (tCons (tVar 2) (tCons (tVar 3) (tCons (tVar 4) tNil))))))) (tRet (tC (.bl false))) tNext)
  (tSeq (tAsg (tOp (rIxT K) (tVar 7) (tC (.int 0))) (gName 8))
  (tSeq (tAsg (tOp (rIxT K) (tVar 7) (tC (.int 1))) (gName 9))
  (tSeq (tIfS (tNot (tB (tCall (sp_law_stands K A) [] E0 (tCons (tVar 0) (tCons (tVar 2) (tCons (tVar 8) (tCons (tVar 9) (tCons (tVar 4) tNil)))))))) (tRet (tC (.bl false))) tNext)
  (tSeq (tIfS (tNot (tB (tCall (sp_law_stands K A) [] E0 (tCons (tVar 1) (tCons (tVar 3) (tCons (tVar 8) (tCons (tVar 9) (tCons (tVar 4) tNil)))))))) (tRet (tC (.bl false))) tNext)
  (tSeq (tDrop (tBM K "list" rAppend (tVar 8) (tCons (tC (.int 2)) tNil)))
  (tDrop (tBM K "list" GX.oInsert (tVar 9) (tCons (tC (.int 0)) (tCons (tC (.int 2)) tNil)))))))))) tNext))))
  (tSeq (tAsg (tOp (GX.rOwnEq2 A.Stretch (sp_Stretch_eq K A) E0) (tVar 0) (tVar 1)) (gName 10))
  (tRet (tAndV (tCB (rIsi K) (tCons (tVar 10) (tCons (tC (.ty "bool")) tNil))) (tOp rEq (tVar 10) (tVar 5)))))))

variable {K : PySem.W.Frag} {A : CA} {vs : List V} {H : Hp} {Q : VK} {E : XK}
theorem i_partEq {x y : Addr} {c d : List Int} {w : Nat} (hS : StX A H x c w) (hR : StX A H y d w) (hw : w ≤ 1000) (e : M.lf c w = M.lf d w) (q : ∀ H', Same H H' → Q .non H') : sp_parting K A [.ref x, .ref y] H Q E :=
  ⟨x, y, c, d, w, w, rfl, hS, hR, hw, hw, fun n => absurd rfl n, fun _ => ⟨fun _ => q, fun i hi hne => absurd (M.lf_rise hi e) hne⟩⟩
theorem i_partNe {x y : Addr} {c d : List Int} {w : Nat} (hS : StX A H x c w) (hR : StX A H y d w) (hw : w ≤ 1000) (e : M.lf c w ≠ M.lf d w)
    (q : ∀ z1 z2 T p1 p2 H', Nn z1 → Nn z2 → z1.length ≤ w → z2.length ≤ w → (M.rise (z1 ++ c ++ z2) w 0).isSome ≠ (M.rise (z1 ++ d ++ z2) w 0).isSome → H T = none → H p1 = none → H p2 = none → p1 ≠ p2 → Same H H' → H' T = some (.tup [.ref p1, .ref p2]) → H' p1 = some (.lst (z1.map V.int)) → H' p2 = some (.lst (z2.map V.int)) → Q (.ref T) H') : sp_parting K A [.ref x, .ref y] H Q E :=
  ⟨x, y, c, d, w, w, rfl, hS, hR, hw, hw, fun n => absurd rfl n, fun _ => ⟨fun z => absurd z e, fun i hi hne T p1 p2 H' hT h1 h2 n e' gT g1 g2 =>
    q _ _ T p1 p2 H' Nn.zeros Nn.zeros (by rw [List.length_replicate]; exact M.room_le (fun z hz => (M.rise_bd (by omega) (by omega) hz).1) (fun z hz => (M.rise_bd (by omega) (by omega) hz).1)) (by rw [List.length_replicate]; exact hi) (M.part_ne hi hne) hT h1 h2 n e' gT g1 g2⟩⟩
theorem lf_same {c d : List Int} {w : Nat} {b : Bool} (e : decide (M.lf c w = M.lf d w) = b) : decide (w = w ∧ M.lf c w = M.lf d w) = b := by rw [← e]; simp
theorem rd_law_parted (h : sp_law_parted K A vs H Q E) : t_law_parted K A { nx := fun _ H' => Q .non H', rt := Q } (start ["one", "two", "first", "second", "copies", "alike", "turn", "told", "above", "below", "answer"] vs) H := by
  obtain ⟨x, y, a1, a2, c, d, w, rfl, hS, hR, h1, h2, n1, n2, l1, l2, hw, q⟩ := h
  unfold t_law_parted
  walk_at "go"
  intro m1 H1 hm1 e1 g1
  have h2a := e1 _ _ h2
  walk_at "go"
  intro m2 H2 hm2 e2 g2
  have g1 := e2 _ _ g1
  refine w_eqO g1 g2 ?_
  have E2 := e1.trans e2
  have hS := hS.same E2
  have hR := hR.same E2
  have h1 := E2 _ _ h1
  have h2 := E2 _ _ h2
  generalize hb : decide (M.lf c w = M.lf d w) = b
  walk_at "go"
  refine forR (fun i σ H' => ∃ (k6 k7 k8 k9 : Option V), σ = [some (.ref x), some (.ref y), some (.ref a1), some (.ref a2), some (.int (w : Int)), some (.bl b), k6, k7, k8, k9, none] ∧ Same H2 H') ?_ ?_ ?_
  · exact ⟨none, none, none, none, rfl, Same.refl _⟩
  · rintro i σ H3 hi ⟨k6, k7, k8, k9, rfl, e3⟩
    have hS3 := hS.same e3
    have hR3 := hR.same e3
    cases b with
    | true =>
      have heq : M.lf c w = M.lf d w := of_decide_eq_true hb
      walk_at "go"
      refine i_partEq hS3 hR3 (by omega) heq fun H4 e4 => ?_
      walk_at "go"
      rw [decide_eq_true rfl]
      walk_at "go"
      exact ⟨_, _, _, _, rfl, e3.trans e4⟩
    | false =>
      have hne : M.lf c w ≠ M.lf d w := of_decide_eq_false hb
      walk_at "go"
      refine i_partNe hS3 hR3 (by omega) hne fun z1 z2 T p1 p2 H4 m1 m2 y1 y2 hp hT hp1 hp2 n12 e4 gT j1 j2 => ?_
      have E4 := e3.trans e4
      have h1 := E4 _ _ h1
      have h2 := E4 _ _ h2
      walk_at "go"
      refine ⟨T, a1, a2, p1, p2, c, d, z1, z2, w, rfl, gT, h1, h2, j1, j2, n1, n2, m1, m2, l1, l2, by omega, by omega, hp, fun H5 e5 => ?_⟩
      have E5 := E4.trans e5
      have h1 := e5 _ _ h1
      have h2 := e5 _ _ h2
      have j1 := e5 _ _ j1
      have j2 := e5 _ _ j2
      have gT := e5 _ _ gT
      walk_at "go"
      refine i_stands (hS.same E5) h1 j1 j2 n1 m1 m2 l1 (by omega) (by omega) (by omega) fun H6 e6 => ?_
      have E6 := E5.trans e6
      have h2 := e6 _ _ h2
      have j1 := e6 _ _ j1
      have j2 := e6 _ _ j2
      walk_at "go"
      refine i_stands (hR.same E6) h2 j1 j2 n2 m1 m2 l2 (by omega) (by omega) (by omega) fun H7 e7 => ?_
      have E7 := E6.trans e7
      have j1 := e7 _ _ j1
      have j2 := e7 _ _ j2
      have sz1 : (z1.map V.int).length < sizeLine := by rw [List.length_map]; exact L2.small1000 (by omega)
      walk_at "go"
      refine GX.w_insert (keepNe j2 n12.symm) (by rw [List.length_map]; omega) (by decide) (by decide) fun zs => ?_
      walk_at "go"
      exact ⟨_, _, _, _, rfl, same_mut (same_mut E7 (e3.free hp1)) (e3.free hp2)⟩
  · rintro σ H3 ⟨k6, k7, k8, k9, rfl, e3⟩
    have hS3 := hS.same e3
    have hR3 := hR.same e3
    walk_at "go"
    rw [lf_same hb]
    walk_at "go"
    rw [decide_eq_true rfl]
    exact q _ (E2.trans e3)
end G

namespace G
open PySem L2
def sp_law (K : PySem.W.Frag) (A : CA) : Sp := fun vs H Q _ => ∃ (a : Addr) (ns : List Int), vs = [.ref a] ∧ SqL K H a (ns.map V.int) ∧ ns.length ≤ 63 ∧ ∀ H', Q (.bl true) H'
theorem w_fork {c : Prop} [Decidable c] {t : TS} {D : Ends} {σ : L2.St} {H : Hp} (R : Hp → Prop) (h2 : R H) (tail : ∀ H', R H' → D.nx σ H') (h1 : (∀ H', R H' → D.nx σ H') → c → t D σ H) : if decide c = true then t D σ H else tNext D σ H := by
  by_cases hc : c
  · rw [decide_eq_true hc]; exact h1 tail hc
  · rw [decide_eq_false hc]; exact tail H h2
theorem lf_three {a c d z : List Int} {w : Nat} (h : M.lf c w = M.lf d w) : M.rise (a ++ c ++ z) w 0 = M.rise (a ++ d ++ z) w 0 := by
  rw [M.rise_three, M.rise_three]
  cases e : M.rise z w 0 with
  | none => rfl
  | some g =>
    have hb := M.rise_bd (by omega) (by omega) e
    have k := M.lf_rise (i := g.toNat) (by omega) h
    rw [Int.toNat_of_nonneg hb.1] at k
    rw [Option.bind_some, Option.bind_some, k]
end G
local macro_rules | `(tactic| walk_at "stx") => `(tactic| first | assumption | exact G.StS.toX (by assumption) | (refine' G.StX.same ?e ?h; (case h => assumption); (case e => walk_at "same")))
local macro_rules | `(tactic| walk_at "call") => `(tactic| first
  | (refine' G.i_newB ?g0 ?g1 ?g2 ?g3 ?_; (case g0 => assumption); (case g1 => walk_at "hp"); (case g2 => walk_at "ar"); (case g3 => walk_at "ar"))
  | (refine' G.i_parted ?g1 ?g2 ?g3 ?g4 ?g5 ?g6 ?g7 ?g8 ?g9 ?_; (case g1 => walk_at "stx"); (case g2 => walk_at "stx"); (case g3 => walk_at "hp"); (case g4 => walk_at "hp"); (case g5 => assumption); (case g6 => assumption); (case g7 => walk_at "ar"); (case g8 => walk_at "ar"); (case g9 => walk_at "ar"))
  | (refine' G.i_stands ?g1 ?g2 ?g3 ?g4 ?g5 ?g6 ?g7 ?g8 ?g9 ?g10 ?g11 ?_; (case g1 => walk_at "stx"); (case g2 => walk_at "hp"); (case g3 => walk_at "hp"); (case g4 => walk_at "hp"); (case g5 => assumption); (case g6 => assumption); (case g7 => assumption); (case g8 => walk_at "ar"); (case g9 => walk_at "ar"); (case g10 => walk_at "ar"); (case g11 => walk_at "ar")))
namespace G
open PySem L2
def t_law (K : PySem.W.Frag) (A : CA) : TS :=
  (tSeq (tAsg (tCall (sp_law_bag K A) [] E0 (tCons (tVar 0) (tCons (tC (.int 0)) tNil))) (gName 1))
  (tSeq (tAsg (tCall (sp_law_copies K A) [] E0 (tCons (tVar 1) tNil)) (gName 2))
  (tSeq (tAsg (tCall (sp_law_pages K A) [] E0 (tCons (tCall (sp_law_bag K A) [] E0 (tCons (tVar 0) (tCons (tC (.int 1)) tNil))) tNil)) (gName 3))
  (tSeq (tAsg (tCall (sp_law_second K A) [] E0 (tCons (tCall (sp_law_bag K A) [] E0 (tCons (tVar 0) (tCons (tC (.int 2)) tNil))) (tCons (tVar 3) tNil))) (gName 4))
  (tSeq (tAsg (tMake A.Stretch (sp_Stretch_init K A) [] E0 (tCons (tCB (oListOf K) (tCons (tVar 3) tNil)) (tCons (tVar 2) tNil))) (gName 5))
  (tSeq (tAsg (tMake A.Stretch (sp_Stretch_init K A) [] E0 (tCons (tCB (oListOf K) (tCons (tVar 4) tNil)) (tCons (tVar 2) tNil))) (gName 6))
  (tSeq (tIfS (tOr (tNot (tB (tCall (sp_law_parted K A) [] E0 (tCons (tVar 5) (tCons (tVar 6) (tCons (tVar 3) (tCons (tVar 4) (tCons (tVar 2) tNil)))))))) (tNot (tB (tCall (sp_law_parted K A) [] E0 (tCons (tVar 6) (tCons (tVar 5) (tCons (tVar 4) (tCons (tVar 3) (tCons (tVar 2) tNil))))))))) (tRet (tC (.bl false))) tNext)
  (tSeq (tIfS (tNot (tB (tCall (sp_law_parted K A) [] E0 (tCons (tVar 5) (tCons (tMake A.Stretch (sp_Stretch_init K A) [] E0 (tCons (tCB (oListOf K) (tCons (tVar 3) tNil)) (tCons (tVar 2) tNil))) (tCons (tVar 3) (tCons (tVar 3) (tCons (tVar 2) tNil)))))))) (tRet (tC (.bl false))) tNext)
  (tSeq (tAsg (tCall (sp_law_pages K A) [] E0 (tCons (tCall (sp_law_bag K A) [] E0 (tCons (tVar 0) (tCons (tC (.int 3)) tNil))) tNil)) (gName 7))
  (tSeq (tAsg (tCall (sp_law_pages K A) [] E0 (tCons (tCall (sp_law_bag K A) [] E0 (tCons (tVar 0) (tCons (tC (.int 4)) tNil))) tNil)) (gName 8))
  (tSeq (tIfS (tNot (tB (tCall (sp_law_stands K A) [] E0 (tCons (tVar 5) (tCons (tVar 3) (tCons (tVar 7) (tCons (tVar 8) (tCons (tVar 2) tNil)))))))) (tRet (tC (.bl false))) tNext)
  (tSeq (tIfS (tNot (tB (tCall (sp_law_stands K A) [] E0 (tCons (tVar 6) (tCons (tVar 4) (tCons (tVar 7) (tCons (tVar 8) (tCons (tVar 2) tNil)))))))) (tRet (tC (.bl false))) tNext)
  (tSeq (tIfS (tTest (tOp (rEqD K) (tCall (sp_law_lift K A) [] E0 (tCons (tVar 3) (tCons (tVar 2) tNil))) (tCall (sp_law_lift K A) [] E0 (tCons (tVar 4) (tCons (tVar 2) tNil))))) (tIfS (tTest (tOp rNe (tCall (sp_law_holds K A) [] E0 (tCons (tOp rCat (tOp rCat (tVar 7) (tVar 3)) (tVar 8)) (tCons (tVar 2) tNil))) (tCall (sp_law_holds K A) [] E0 (tCons (tOp rCat (tOp rCat (tVar 7) (tVar 4)) (tVar 8)) (tCons (tVar 2) tNil))))) (tRet (tC (.bl false))) tNext) tNext)
  (tSeq (tAsg (tOp oAdd (tOp oAdd (tVar 2) (tC (.int 1))) (tCall (sp_law_take K A) [] E0 (tCons (tVar 1) (tCons (tC (.int 4)) tNil)))) (gName 9))
  (tSeq (tAsg (tMake A.Stretch (sp_Stretch_init K A) [] E0 (tCons (tCB (oListOf K) (tCons (tVar 3) tNil)) (tCons (tVar 9) tNil))) (gName 10))
  (tSeq (tIfS (tOr (tNot (tB (tCall (sp_law_differs K A) [] E0 (tCons (tVar 5) (tCons (tVar 10) (tCons (tVar 2) (tCons (tVar 9) tNil))))))) (tNot (tB (tCall (sp_law_differs K A) [] E0 (tCons (tVar 10) (tCons (tVar 5) (tCons (tVar 9) (tCons (tVar 2) tNil)))))))) (tRet (tC (.bl false))) tNext)
  (tRet (tAndV (tOp (rEqD K) (tMeth A.Stretch "lift" (sp_Stretch_lift K A) [] E0 (tVar 5) tNil) (tCall (sp_law_lift K A) [] E0 (tCons (tVar 3) (tCons (tVar 2) tNil)))) (tOp (rEqD K) (tMeth A.Stretch "lift" (sp_Stretch_lift K A) [] E0 (tVar 6) tNil) (tCall (sp_law_lift K A) [] E0 (tCons (tVar 4) (tCons (tVar 2) tNil))))))))))))))))))))))

variable {K : PySem.W.Frag} {A : CA} {vs : List V} {H : Hp} {Q : VK} {E : XK}
theorem rd_law (h : sp_law K A vs H Q E) : t_law K A { nx := fun _ H' => Q .non H', rt := Q } (start ["script", "bag", "copies", "first", "second", "one", "two", "above", "below", "other", "far"] vs) H := by
  obtain ⟨a, ns, rfl, hs, hl, q⟩ := h
  unfold t_law
  walk_at "go"
  intro s H1 n1 e1 c1
  walk_at "go"
  intro w H2 w0 w1 b2 cs
  have hs := (Same.but2 e1 b2 n1).seq hs
  clear b2 c1 e1 n1
  obtain ⟨w, rfl⟩ := Int.eq_ofNat_of_zero_le (show 0 ≤ w by omega)
  walk_at "go"
  intro s3 H3 nn e3 cc
  walk_at "go"
  intro c pf H4 lf nf hpf b4 cc2 gf
  have e4 := Same.but2 e3 b4 nn
  have npf : pf ≠ s := (cs.same e3).neFree hpf
  have hs := e4.seq hs
  have cs := cs.same e4
  clear b4 cc2 cc nn e3 hpf e4
  walk_at "go"
  intro s5 H5 nn e5 cc
  have npx : pf ≠ s5 := ne_of_none gf nn
  have gf5 := e5 _ _ gf
  walk_at "go"
  intro d ps H6 ls nns hps b6 cc2 gs
  have e6 := Same.but2 e5 b6 nn
  have nps : ps ≠ s := (cs.same e5).neFree hps
  have hs := e6.seq hs
  have cs := cs.same e6
  have gf := e6 _ _ gf
  clear b6 cc2 cc nn e5 hps e6 npx gf5
  walk_at "go"
  intro k7 hk7
  have a7 := same_new (o := .lst (c.map V.int)) hk7
  have gk : (upd H6 k7 (.lst (c.map V.int))) k7 = some (.lst (c.map V.int)) := upd_same
  generalize upd H6 k7 (.lst (c.map V.int)) = H7 at a7 gk
  have hs := a7.seq hs
  have cs := cs.same a7
  have gf := a7 _ _ gf
  have gs := a7 _ _ gs
  have hSx : ∀ z, z = s → ∃ o, H7 z = some o := fun z hz => by rw [hz]; obtain ⟨_, _, _, _, g⟩ := cs; exact ⟨_, g⟩
  walk_at "go"
  intro one H8 ho a8 u1
  have hs := a8.seq hs
  have cs := cs.same a8
  have gf := a8 _ _ gf
  have gs := a8 _ _ gs
  clear a7 a8 ho hSx gk hk7
  walk_at "go"
  intro k9 hk9
  have a9 := same_new (o := .lst (d.map V.int)) hk9
  have gk : (upd H8 k9 (.lst (d.map V.int))) k9 = some (.lst (d.map V.int)) := upd_same
  generalize upd H8 k9 (.lst (d.map V.int)) = H9 at a9 gk
  have hs := a9.seq hs
  have cs := cs.same a9
  have gf := a9 _ _ gf
  have gs := a9 _ _ gs
  have u1 := u1.same a9
  have hSx : ∀ z, z = s → ∃ o, H9 z = some o := fun z hz => by rw [hz]; obtain ⟨_, _, _, _, g⟩ := cs; exact ⟨_, g⟩
  walk_at "go"
  intro two H10 ho a10 u2
  have hs := a10.seq hs
  have cs := cs.same a10
  have gf := a10 _ _ gf
  have gs := a10 _ _ gs
  have u1 := u1.same a10
  clear a9 a10 ho hSx gk hk9
  have x1 := u1.toX
  have x2 := u2.toX
  walk_at "go"
  intro H11 a11
  have hs := a11.seq hs
  have cs := cs.same a11
  have gf := a11 _ _ gf
  have gs := a11 _ _ gs
  have u1 := u1.same a11
  have u2 := u2.same a11
  have x1 := u1.toX
  have x2 := u2.toX
  walk_at "go"
  intro H12 a12
  have hs := a12.seq hs
  have cs := cs.same a12
  have gf := a12 _ _ gf
  have gs := a12 _ _ gs
  have u1 := u1.same a12
  have u2 := u2.same a12
  have x1 := u1.toX
  have x2 := u2.toX
  walk_at "go"
  intro k13 hk13
  have a13 := same_new (o := .lst (c.map V.int)) hk13
  have gk : (upd H12 k13 (.lst (c.map V.int))) k13 = some (.lst (c.map V.int)) := upd_same
  generalize upd H12 k13 (.lst (c.map V.int)) = H13 at a13 gk
  have hs := a13.seq hs
  have cs := cs.same a13
  have gf := a13 _ _ gf
  have gs := a13 _ _ gs
  have u1 := u1.same a13
  have u2 := u2.same a13
  have hSx : ∀ z, z = s → ∃ o, H13 z = some o := fun z hz => by rw [hz]; obtain ⟨_, _, _, _, g⟩ := cs; exact ⟨_, g⟩
  walk_at "go"
  intro thr H14 ho a14 u3
  have hs := a14.seq hs
  have cs := cs.same a14
  have gf := a14 _ _ gf
  have gs := a14 _ _ gs
  have u1 := u1.same a14
  have u2 := u2.same a14
  have x1 := u1.toX
  have x3 := u3.toX
  walk_at "go"
  intro H15 a15
  have hs := a15.seq hs
  have cs := cs.same a15
  have gf := a15 _ _ gf
  have gs := a15 _ _ gs
  have u1 := u1.same a15
  have u2 := u2.same a15
  clear a11 a12 a13 a14 a15 ho hSx gk hk13 u3 x1 x2 x3
  walk_at "go"
  intro s16 H16 nn e16 cc
  walk_at "go"
  intro za pa H17 la na hpa b17 cc2 ga
  have e17 := Same.but2 e16 b17 nn
  have hs := e17.seq hs
  have cs := cs.same e17
  have gf := e17 _ _ gf
  have gs := e17 _ _ gs
  have u1 := u1.same e17
  have u2 := u2.same e17
  clear b17 cc2 cc nn e16 hpa e17
  walk_at "go"
  intro s18 H18 nn e18 cc
  walk_at "go"
  intro zb pb H19 lb nb hpb b19 cc2 gb
  have e19 := Same.but2 e18 b19 nn
  have hs := e19.seq hs
  have cs := cs.same e19
  have gf := e19 _ _ gf
  have gs := e19 _ _ gs
  have u1 := u1.same e19
  have u2 := u2.same e19
  have ga := e19 _ _ ga
  clear b19 cc2 cc nn e18 hpb e19
  have x1 := u1.toX
  have x2 := u2.toX
  walk_at "go"
  intro H20 a20
  have hs := a20.seq hs
  have cs := cs.same a20
  have gf := a20 _ _ gf
  have gs := a20 _ _ gs
  have u1 := u1.same a20
  have u2 := u2.same a20
  have ga := a20 _ _ ga
  have gb := a20 _ _ gb
  have x2 := u2.toX
  walk_at "go"
  intro H21 a21
  have hs := a21.seq hs
  have cs := cs.same a21
  have gf := a21 _ _ gf
  have gs := a21 _ _ gs
  have u1 := u1.same a21
  have u2 := u2.same a21
  have ga := a21 _ _ ga
  have gb := a21 _ _ gb
  clear a20 a21 x1 x2
  walk_at "go"
  intro m1 H22 hm1 a22 g1
  have hs := a22.seq hs
  have cs := cs.same a22
  have gf := a22 _ _ gf
  have gs := a22 _ _ gs
  have u1 := u1.same a22
  have u2 := u2.same a22
  have ga := a22 _ _ ga
  have gb := a22 _ _ gb
  walk_at "go"
  intro m2 H23 hm2 a23 g2
  have hs := a23.seq hs
  have cs := cs.same a23
  have gf := a23 _ _ gf
  have gs := a23 _ _ gs
  have u1 := u1.same a23
  have u2 := u2.same a23
  have ga := a23 _ _ ga
  have gb := a23 _ _ gb
  have g1 := a23 _ _ g1
  have y1 := catsz (a := za) (b := c) (by omega)
  have y2 := catsz (a := za ++ c) (b := zb) (by rw [List.length_append]; omega)
  have y3 := catsz (a := za) (b := d) (by omega)
  have y4 := catsz (a := za ++ d) (b := zb) (by rw [List.length_append]; omega)
  refine w_eqO g1 g2 ?_
  walk_at "go"
  refine w_fork (fun H' => Same H23 H') (Same.refl _) ?_ ?_
  · intro H24 a24
    have cs := cs.same a24
    have gf := a24 _ _ gf
    have gs := a24 _ _ gs
    have u1 := u1.same a24
    have u2 := u2.same a24
    clear ga gb g1 g2 a24 y1 y2 y3 y4 a22 a23
    walk_at "go"
    intro ot H25 o0 o1 b25 c25
    have gf := b25.at npf gf
    have gs := b25.at nps gs
    have u1 := StS.but (S := fun z => z = s) b25 cs rfl u1
    have u2 := StS.but (S := fun z => z = s) b25 cs rfl u2
    obtain ⟨v, hv⟩ : ∃ v : Nat, (w : Int) + 1 + ot = (v : Int) := ⟨((w : Int) + 1 + ot).toNat, by omega⟩
    have vne : w ≠ v := by omega
    have vle : v ≤ 1000 := by omega
    clear b25 cs c25
    walk_at "go"
    rw [hv]
    intro k26 hk26
    have a26 := same_new (o := .lst (c.map V.int)) hk26
    have gk : (upd H25 k26 (.lst (c.map V.int))) k26 = some (.lst (c.map V.int)) := upd_same
    generalize upd H25 k26 (.lst (c.map V.int)) = H26 at a26 gk
    have gf := a26 _ _ gf
    have gs := a26 _ _ gs
    have u1 := u1.same a26
    have u2 := u2.same a26
    walk_at "go"
    intro far H27 hfar a27 x3
    have gf := a27 _ _ gf
    have gs := a27 _ _ gs
    have u1 := u1.same a27
    have u2 := u2.same a27
    have x1 := u1.toX
    have x2 := u2.toX
    walk_at "go"
    intro H28 a28
    have gf := a28 _ _ gf
    have gs := a28 _ _ gs
    have x1 := x1.same a28
    have x2 := x2.same a28
    have x3 := x3.same a28
    walk_at "go"
    intro H29 a29
    have gf := a29 _ _ gf
    have gs := a29 _ _ gs
    have x1 := x1.same a29
    have x2 := x2.same a29
    walk_at "go"
    intro m3 H30 hm3 a30 g3
    have gf := a30 _ _ gf
    have gs := a30 _ _ gs
    have x2 := x2.same a30
    walk_at "go"
    intro m4 H31 hm4 a31 g4
    have g3 := a31 _ _ g3
    have gs := a31 _ _ gs
    have x2 := x2.same a31
    refine w_eqO g3 g4 ?_
    rw [decide_eq_true rfl]
    walk_at "go"
    intro m5 H32 hm5 a32 g5
    have gs := a32 _ _ gs
    walk_at "go"
    intro m6 H33 hm6 a33 g6
    have g5 := a33 _ _ g5
    refine w_eqO g5 g6 ?_
    rw [decide_eq_true rfl]
    exact q _
  · intro tl hcd
    walk_at "go"
    intro t1 ht1
    rw [← List.map_append]
    have e1 := same_new (o := .lst ((za ++ c).map V.int)) ht1
    have j1 : (upd H23 t1 (.lst ((za ++ c).map V.int))) t1 = some (.lst ((za ++ c).map V.int)) := upd_same
    generalize upd H23 t1 (.lst ((za ++ c).map V.int)) = H24 at e1 j1
    have gb := e1 _ _ gb
    walk_at "go"
    intro t2 ht2
    rw [← List.map_append]
    walk_at "go"
    intro H25 e2
    have e2 := (same_new ht2).trans e2
    have E2 := e1.trans e2
    have ga := E2 _ _ ga
    have gs := E2 _ _ gs
    have gb := e2 _ _ gb
    walk_at "go"
    intro t3 ht3
    rw [← List.map_append]
    have e3 := same_new (o := .lst ((za ++ d).map V.int)) ht3
    have j3 : (upd H25 t3 (.lst ((za ++ d).map V.int))) t3 = some (.lst ((za ++ d).map V.int)) := upd_same
    generalize upd H25 t3 (.lst ((za ++ d).map V.int)) = H26 at e3 j3
    have gb := e3 _ _ gb
    walk_at "go"
    intro t4 ht4
    rw [← List.map_append]
    walk_at "go"
    intro H27 e4
    walk_at "go"
    rw [lf_three hcd, decide_eq_true rfl]
    refine w_iteNT (w_next ?_)
    exact tl _ ((E2.trans e3).trans ((same_new ht4).trans e4))
end G

namespace G
open PySem L2
def topS (i : Nat) : Stmt := PySem.Challenge.pw_onecopy_k29_whole_parting.main.body.getD i (.Pass ⟨0, 0, 0, 0⟩)
structure Txt (mg : Str → Option Value) (A : CA) : Prop where
  b_ValueError : mg "ValueError" = none
  b_abs : mg "abs" = none
  b_all : mg "all" = none
  b_any : mg "any" = none
  b_bool : mg "bool" = none
  b_enumerate : mg "enumerate" = none
  b_int : mg "int" = none
  b_isinstance : mg "isinstance" = none
  b_len : mg "len" = none
  b_list : mg "list" = none
  b_min : mg "min" = none
  b_range : mg "range" = none
  b_tuple : mg "tuple" = none
  b_zip : mg "zip" = none
  g_CopiesDiffer : mg "CopiesDiffer" = some (.ref A.CopiesDiffer)
  g_LotError : mg "LotError" = some (.ref A.LotError)
  g_OnecopyError : mg "OnecopyError" = some (.ref A.OnecopyError)
  g_Stretch : mg "Stretch" = some (.ref A.Stretch)
variable {P : Program} {w : World} {K : PySem.W.Frag} {mg : Str → Option Value} {base : Heap} {A : CA}
abbrev s_CopiesDiffer_init : Stmt := inClass (topS 3) 0
theorem sc_CopiesDiffer_init : FnScope ["self", "left", "right"] ["self", "left", "right"] (defScope s_CopiesDiffer_init) := ⟨rfl, rfl, rfl, by decide +kernel, rfl, by decide +kernel, by decide +kernel⟩
theorem fn_CopiesDiffer_init {f : Addr} {fd : FuncData} (F : Fun K "__init__" "CopiesDiffer.__init__" s_CopiesDiffer_init f fd) : FnOk P w K mg base CX0 1 f fd ["self", "left", "right"] (GX.sp_err2 K A.CopiesDiffer "left" "right") :=
  F.ok sc_CopiesDiffer_init (fun vs H Q E h => by obtain ⟨_, _, _, rfl, _⟩ := h; rfl) (fun cdv Ar outer s H vs Q E hr h => ⟨GX.t_err2 K "left" "right", (pss_cons (ps_ost (pv 0) (pv 1)) (pss_one (ps_ost (pv 0) (pv 2)))), GX.rd_err2 h⟩)
theorem bi_CopiesDiffer_init {f : Addr} {fd : FuncData} (F : Fun K "__init__" "CopiesDiffer.__init__" s_CopiesDiffer_init f fd) : Binds K fd ["self", "left", "right"] [] := F.binds fun _ _ _ _ _ _ us hl => match us, hl with | [_, _, _], _ => rfl
abbrev s_height_over : Stmt := topS 5
theorem sc_height_over : FnScope ["below", "blank", "copies"] ["below", "blank", "copies"] (defScope s_height_over) := ⟨rfl, rfl, rfl, by decide +kernel, rfl, by decide +kernel, by decide +kernel⟩
theorem ln_height_over {vs : List V} {H : Hp} {Q : VK} {E : XK} (h : sp_height_over K A vs H Q E) : vs.length = 3 := by
  first | (obtain ⟨_, rfl, _⟩ := h; rfl) | (obtain ⟨_, _, rfl, _⟩ := h; rfl) | (obtain ⟨_, _, _, rfl, _⟩ := h; rfl) | (obtain ⟨_, _, _, _, rfl, _⟩ := h; rfl) | (obtain ⟨_, _, _, _, _, rfl, _⟩ := h; rfl) | (obtain ⟨_, _, _, _, _, _, rfl, _⟩ := h; rfl) | (obtain ⟨_, _, _, _, _, _, _, rfl, _⟩ := h; rfl) | (obtain ⟨_, _, _, _, _, _, _, _, rfl, _⟩ := h; rfl) | (obtain ⟨_, _, _, _, _, _, _, _, _, rfl, _⟩ := h; rfl) | (obtain ⟨_, _, _, _, _, _, _, _, _, _, rfl, _⟩ := h; rfl) | (obtain ⟨_, _, _, _, _, _, _, _, _, _, _, rfl, _⟩ := h; rfl) | (obtain ⟨_, _, _, _, _, _, _, _, _, _, _, _, rfl, _⟩ := h; rfl) | (obtain ⟨_, _, _, _, _, _, _, _, _, _, _, _, _, rfl, _⟩ := h; rfl) | (obtain ⟨_, _, _, _, _, _, _, _, _, _, _, _, _, _, rfl, _⟩ := h; rfl) | (obtain ⟨_, _, _, _, _, _, _, _, _, _, _, _, _, _, _, rfl, _⟩ := h; rfl) | (obtain ⟨_, _, _, _, _, _, _, _, _, _, _, _, _, _, _, _, rfl, _⟩ := h; rfl) | (obtain ⟨_, _, _, _, _, _, _, _, _, _, _, _, _, _, _, _, _, rfl, _⟩ := h; rfl) | (obtain ⟨_, _, _, _, _, _, _, _, _, _, _, _, _, _, _, _, _, _, rfl, _⟩ := h; rfl) | (obtain ⟨_, _, _, _, _, _, _, _, _, _, _, _, _, _, _, _, _, _, _, rfl, _⟩ := h; rfl)
theorem fn_height_over {f : Addr} {fd : FuncData} (F : Fun K "height_over" "height_over" s_height_over f fd) (T : Txt mg A) (C : CT K A)  : FnOk P w K mg base CX0 1 f fd ["below", "blank", "copies"] (sp_height_over K A) :=
  F.ok sc_height_over (fun vs H Q E h => ln_height_over h) (fun cdv Ar outer s H vs Q E hr h => ⟨t_height_over K A, (pss_cons (ps_if (pt_cmpR op_eq (pv 1) pe_int (nomark _)) (pss_one (ps_ret (pe_op op_add (pv 0) pe_int))) pss_nil)
  (pss_one (ps_ret (pe_ifExp (PW.pt (pw_and (pt_cmpR op_eq (pv 1) pe_int (nomark _)) (pw_and1 (pt_cmpR op_ge (pv 0) (pv 2) (nomark _))))) pe_int pe_int)))), rd_height_over h⟩)
theorem bi_height_over {f : Addr} {fd : FuncData} (F : Fun K "height_over" "height_over" s_height_over f fd) : Binds K fd ["below", "blank", "copies"] [] := F.binds fun _ _ _ _ _ _ us hl => match us, hl with | [_, _, _], _ => rfl
abbrev s_lifted : Stmt := topS 6
theorem sc_lifted : FnScope ["below", "blank", "copies", "height", "number"] ["below", "blank", "copies"] (defScope s_lifted) := ⟨rfl, rfl, rfl, by decide +kernel, rfl, by decide +kernel, by decide +kernel⟩
theorem ln_lifted {vs : List V} {H : Hp} {Q : VK} {E : XK} (h : sp_lifted K A vs H Q E) : vs.length = 3 := by
  first | (obtain ⟨_, rfl, _⟩ := h; rfl) | (obtain ⟨_, _, rfl, _⟩ := h; rfl) | (obtain ⟨_, _, _, rfl, _⟩ := h; rfl) | (obtain ⟨_, _, _, _, rfl, _⟩ := h; rfl) | (obtain ⟨_, _, _, _, _, rfl, _⟩ := h; rfl) | (obtain ⟨_, _, _, _, _, _, rfl, _⟩ := h; rfl) | (obtain ⟨_, _, _, _, _, _, _, rfl, _⟩ := h; rfl) | (obtain ⟨_, _, _, _, _, _, _, _, rfl, _⟩ := h; rfl) | (obtain ⟨_, _, _, _, _, _, _, _, _, rfl, _⟩ := h; rfl) | (obtain ⟨_, _, _, _, _, _, _, _, _, _, rfl, _⟩ := h; rfl) | (obtain ⟨_, _, _, _, _, _, _, _, _, _, _, rfl, _⟩ := h; rfl) | (obtain ⟨_, _, _, _, _, _, _, _, _, _, _, _, rfl, _⟩ := h; rfl) | (obtain ⟨_, _, _, _, _, _, _, _, _, _, _, _, _, rfl, _⟩ := h; rfl) | (obtain ⟨_, _, _, _, _, _, _, _, _, _, _, _, _, _, rfl, _⟩ := h; rfl) | (obtain ⟨_, _, _, _, _, _, _, _, _, _, _, _, _, _, _, rfl, _⟩ := h; rfl) | (obtain ⟨_, _, _, _, _, _, _, _, _, _, _, _, _, _, _, _, rfl, _⟩ := h; rfl) | (obtain ⟨_, _, _, _, _, _, _, _, _, _, _, _, _, _, _, _, _, rfl, _⟩ := h; rfl) | (obtain ⟨_, _, _, _, _, _, _, _, _, _, _, _, _, _, _, _, _, _, rfl, _⟩ := h; rfl) | (obtain ⟨_, _, _, _, _, _, _, _, _, _, _, _, _, _, _, _, _, _, _, rfl, _⟩ := h; rfl)
theorem fn_lifted {f : Addr} {fd : FuncData} (F : Fun K "_lifted" "_lifted" s_lifted f fd) (T : Txt mg A) (C : CT K A) (C_height_over : C8.Cal P w K mg base 1 "height_over" (sp_height_over K A) []) : FnOk P w K mg base CX0 2 f fd ["below", "blank", "copies"] (sp_lifted K A) :=
  F.ok sc_lifted (fun vs H Q E h => ln_lifted h) (fun cdv Ar outer s H vs Q E hr h => ⟨t_lifted K A, (pss_cons (ps_set (i := 3) sc_lifted.nd rfl (by first | exact Or.inl rfl | exact Or.inr rfl) (pv 0))
  (pss_cons (ps_for PassesOwn.never rfl (pi_list (pe_revL (pv 1))) (pg_name (i := 4) sc_lifted.nd rfl (by first | exact Or.inl rfl | exact Or.inr rfl))
  (pss_cons (ps_set (i := 3) sc_lifted.nd rfl (by first | exact Or.inl rfl | exact Or.inr rfl) (C8.pe_c C_height_over hr (by decide) (by rfl) (pa_cons (pv 3) (pa_cons (pv 4) (pa_cons (pv 2) pa_nil)))))
  (pss_one (ps_if (pt_cmpR op_gt (pv 3) (pv 2) (nomark _)) (pss_one (ps_ret pe_non)) pss_nil))))
  (pss_one (ps_ret (pv 3))))), rd_lifted h⟩)
theorem bi_lifted {f : Addr} {fd : FuncData} (F : Fun K "_lifted" "_lifted" s_lifted f fd) : Binds K fd ["below", "blank", "copies"] [] := F.binds fun _ _ _ _ _ _ us hl => match us, hl with | [_, _, _], _ => rfl
abbrev s_Stretch_init : Stmt := inClass (topS 7) 0
theorem sc_Stretch_init : FnScope ["self", "blank", "copies", "below"] ["self", "blank", "copies"] (defScope s_Stretch_init) := ⟨rfl, rfl, rfl, by decide +kernel, rfl, by decide +kernel, by decide +kernel⟩
theorem ln_Stretch_init {vs : List V} {H : Hp} {Q : VK} {E : XK} (h : sp_Stretch_init K A vs H Q E) : vs.length = 3 := by
  first | (obtain ⟨_, rfl, _⟩ := h; rfl) | (obtain ⟨_, _, rfl, _⟩ := h; rfl) | (obtain ⟨_, _, _, rfl, _⟩ := h; rfl) | (obtain ⟨_, _, _, _, rfl, _⟩ := h; rfl) | (obtain ⟨_, _, _, _, _, rfl, _⟩ := h; rfl) | (obtain ⟨_, _, _, _, _, _, rfl, _⟩ := h; rfl) | (obtain ⟨_, _, _, _, _, _, _, rfl, _⟩ := h; rfl) | (obtain ⟨_, _, _, _, _, _, _, _, rfl, _⟩ := h; rfl) | (obtain ⟨_, _, _, _, _, _, _, _, _, rfl, _⟩ := h; rfl) | (obtain ⟨_, _, _, _, _, _, _, _, _, _, rfl, _⟩ := h; rfl) | (obtain ⟨_, _, _, _, _, _, _, _, _, _, _, rfl, _⟩ := h; rfl) | (obtain ⟨_, _, _, _, _, _, _, _, _, _, _, _, rfl, _⟩ := h; rfl) | (obtain ⟨_, _, _, _, _, _, _, _, _, _, _, _, _, rfl, _⟩ := h; rfl) | (obtain ⟨_, _, _, _, _, _, _, _, _, _, _, _, _, _, rfl, _⟩ := h; rfl) | (obtain ⟨_, _, _, _, _, _, _, _, _, _, _, _, _, _, _, rfl, _⟩ := h; rfl) | (obtain ⟨_, _, _, _, _, _, _, _, _, _, _, _, _, _, _, _, rfl, _⟩ := h; rfl) | (obtain ⟨_, _, _, _, _, _, _, _, _, _, _, _, _, _, _, _, _, rfl, _⟩ := h; rfl) | (obtain ⟨_, _, _, _, _, _, _, _, _, _, _, _, _, _, _, _, _, _, rfl, _⟩ := h; rfl) | (obtain ⟨_, _, _, _, _, _, _, _, _, _, _, _, _, _, _, _, _, _, _, rfl, _⟩ := h; rfl)
theorem fn_Stretch_init {f : Addr} {fd : FuncData} (F : Fun K "__init__" "Stretch.__init__" s_Stretch_init f fd) (T : Txt mg A) (C : CT K A) (C_lifted : C8.Cal P w K mg base 2 "_lifted" (sp_lifted K A) []) : FnOk P w K mg base CX0 3 f fd ["self", "blank", "copies"] (sp_Stretch_init K A) :=
  F.ok sc_Stretch_init (fun vs H Q E h => ln_Stretch_init h) (fun cdv Ar outer s H vs Q E hr h => ⟨t_Stretch_init K A, (pss_cons (ps_fld (pv 0) (pv 2) rfl)
  (pss_one (ps_fld (pv 0) (pe_lc (own := [("below", 3)]) (g := (gName 3)) (tt := tYes) rfl sc_Stretch_init.nd (pi_range1 (by rfl) T.b_range (pa_cons (pe_op op_add (pv 2) pe_int) pa_nil)) (blkOk_by (own := [("below", 3)]) (N := ["self", "blank", "copies", "below"]) (sc := defScope s_Stretch_init) (by decide +kernel)) (fun _ _ _ _ _ => (pg_name (i := 3) sc_Stretch_init.nd rfl (by first | exact Or.inl rfl | exact Or.inr rfl))) (fun _ _ _ _ _ => pts_nil) (fun _ _ _ _ _ => (C8.pe_c C_lifted hr (by decide) (by rfl) (pa_cons (pv 3) (pa_cons (pv 1) (pa_cons (pv 2) pa_nil)))))) rfl))), rd_Stretch_init C h⟩)
theorem bi_Stretch_init {f : Addr} {fd : FuncData} (F : Fun K "__init__" "Stretch.__init__" s_Stretch_init f fd) : Binds K fd ["self", "blank", "copies"] [] := F.binds fun _ _ _ _ _ _ us hl => match us, hl with | [_, _, _], _ => rfl
abbrev s_Stretch_lift : Stmt := inClass (topS 7) 1
theorem sc_Stretch_lift : FnScope ["self"] ["self"] (defScope s_Stretch_lift) := ⟨rfl, rfl, rfl, by decide +kernel, rfl, by decide +kernel, by decide +kernel⟩
theorem ln_Stretch_lift {vs : List V} {H : Hp} {Q : VK} {E : XK} (h : sp_Stretch_lift K A vs H Q E) : vs.length = 1 := by
  first | (obtain ⟨_, rfl, _⟩ := h; rfl) | (obtain ⟨_, _, rfl, _⟩ := h; rfl) | (obtain ⟨_, _, _, rfl, _⟩ := h; rfl) | (obtain ⟨_, _, _, _, rfl, _⟩ := h; rfl) | (obtain ⟨_, _, _, _, _, rfl, _⟩ := h; rfl) | (obtain ⟨_, _, _, _, _, _, rfl, _⟩ := h; rfl) | (obtain ⟨_, _, _, _, _, _, _, rfl, _⟩ := h; rfl) | (obtain ⟨_, _, _, _, _, _, _, _, rfl, _⟩ := h; rfl) | (obtain ⟨_, _, _, _, _, _, _, _, _, rfl, _⟩ := h; rfl) | (obtain ⟨_, _, _, _, _, _, _, _, _, _, rfl, _⟩ := h; rfl) | (obtain ⟨_, _, _, _, _, _, _, _, _, _, _, rfl, _⟩ := h; rfl) | (obtain ⟨_, _, _, _, _, _, _, _, _, _, _, _, rfl, _⟩ := h; rfl) | (obtain ⟨_, _, _, _, _, _, _, _, _, _, _, _, _, rfl, _⟩ := h; rfl) | (obtain ⟨_, _, _, _, _, _, _, _, _, _, _, _, _, _, rfl, _⟩ := h; rfl) | (obtain ⟨_, _, _, _, _, _, _, _, _, _, _, _, _, _, _, rfl, _⟩ := h; rfl) | (obtain ⟨_, _, _, _, _, _, _, _, _, _, _, _, _, _, _, _, rfl, _⟩ := h; rfl) | (obtain ⟨_, _, _, _, _, _, _, _, _, _, _, _, _, _, _, _, _, rfl, _⟩ := h; rfl) | (obtain ⟨_, _, _, _, _, _, _, _, _, _, _, _, _, _, _, _, _, _, rfl, _⟩ := h; rfl) | (obtain ⟨_, _, _, _, _, _, _, _, _, _, _, _, _, _, _, _, _, _, _, rfl, _⟩ := h; rfl)
theorem fn_Stretch_lift {f : Addr} {fd : FuncData} (F : Fun K "lift" "Stretch.lift" s_Stretch_lift f fd) (T : Txt mg A) (C : CT K A)  : FnOk P w K mg base CX0 1 f fd ["self"] (sp_Stretch_lift K A) :=
  F.ok sc_Stretch_lift (fun vs H Q E h => ln_Stretch_lift h) (fun cdv Ar outer s H vs Q E hr h => ⟨t_Stretch_lift K A, (pss_one (ps_ret (pe_callTy call_list_of (by rfl) T.b_list (by decide +kernel) (pa_cons (pe_fld (pv 0) rfl) pa_nil)))), rd_Stretch_lift C h⟩)
theorem bi_Stretch_lift {f : Addr} {fd : FuncData} (F : Fun K "lift" "Stretch.lift" s_Stretch_lift f fd) : Binds K fd ["self"] [] := F.binds fun _ _ _ _ _ _ us hl => match us, hl with | [_], _ => rfl
abbrev s_Stretch_add : Stmt := inClass (topS 7) 2
theorem sc_Stretch_add : FnScope ["self", "other", "joined", "height"] ["self", "other"] (defScope s_Stretch_add) := ⟨rfl, rfl, rfl, by decide +kernel, rfl, by decide +kernel, by decide +kernel⟩
theorem ln_Stretch_add {vs : List V} {H : Hp} {Q : VK} {E : XK} (h : sp_Stretch_add K A vs H Q E) : vs.length = 2 := by
  first | (obtain ⟨_, rfl, _⟩ := h; rfl) | (obtain ⟨_, _, rfl, _⟩ := h; rfl) | (obtain ⟨_, _, _, rfl, _⟩ := h; rfl) | (obtain ⟨_, _, _, _, rfl, _⟩ := h; rfl) | (obtain ⟨_, _, _, _, _, rfl, _⟩ := h; rfl) | (obtain ⟨_, _, _, _, _, _, rfl, _⟩ := h; rfl) | (obtain ⟨_, _, _, _, _, _, _, rfl, _⟩ := h; rfl) | (obtain ⟨_, _, _, _, _, _, _, _, rfl, _⟩ := h; rfl) | (obtain ⟨_, _, _, _, _, _, _, _, _, rfl, _⟩ := h; rfl) | (obtain ⟨_, _, _, _, _, _, _, _, _, _, rfl, _⟩ := h; rfl) | (obtain ⟨_, _, _, _, _, _, _, _, _, _, _, rfl, _⟩ := h; rfl) | (obtain ⟨_, _, _, _, _, _, _, _, _, _, _, _, rfl, _⟩ := h; rfl) | (obtain ⟨_, _, _, _, _, _, _, _, _, _, _, _, _, rfl, _⟩ := h; rfl) | (obtain ⟨_, _, _, _, _, _, _, _, _, _, _, _, _, _, rfl, _⟩ := h; rfl) | (obtain ⟨_, _, _, _, _, _, _, _, _, _, _, _, _, _, _, rfl, _⟩ := h; rfl) | (obtain ⟨_, _, _, _, _, _, _, _, _, _, _, _, _, _, _, _, rfl, _⟩ := h; rfl) | (obtain ⟨_, _, _, _, _, _, _, _, _, _, _, _, _, _, _, _, _, rfl, _⟩ := h; rfl) | (obtain ⟨_, _, _, _, _, _, _, _, _, _, _, _, _, _, _, _, _, _, rfl, _⟩ := h; rfl) | (obtain ⟨_, _, _, _, _, _, _, _, _, _, _, _, _, _, _, _, _, _, _, rfl, _⟩ := h; rfl)
theorem fn_Stretch_add {f : Addr} {fd : FuncData} (F : Fun K "__add__" "Stretch.__add__" s_Stretch_add f fd) (T : Txt mg A) (C : CT K A) (C_CopiesDiffer : GX.ErrX P w K mg base 1 "CopiesDiffer" A.CopiesDiffer (GX.sp_err2 K A.CopiesDiffer "left" "right")) (C_Stretch_init : C8.Mak P w K mg base 3 "Stretch" A.Stretch (sp_Stretch_init K A) []) : FnOk P w K mg base (L2.CX P w) 5 f fd ["self", "other"] (sp_Stretch_add K A) :=
  F.okX sc_Stretch_add (fun vs H Q E h => ln_Stretch_add h) (fun cdv Ar outer s H vs Q E hr h => ⟨t_Stretch_add K A E, (pss_cons (ps_if (pt_cmpR op_ne (pe_fld (pv 0) rfl) (pe_fld (pv 1) rfl) (nomark _)) (pss_one (GX.ps_raiseO C_CopiesDiffer hr (by decide) rfl (by rfl) (takes_of rfl rfl rfl rfl) (pa_cons (pe_fld (pv 0) rfl) (pa_cons (pe_fld (pv 1) rfl) pa_nil)))) pss_nil)
  (pss_cons (ps_set (i := 2) sc_Stretch_add.nd rfl (by first | exact Or.inl rfl | exact Or.inr rfl) (C8.pe_mk C_Stretch_init hr (by decide) (by rfl) (pa_cons (pe_lst pa_nil) (pa_cons (pe_fld (pv 0) rfl) pa_nil))))
  (pss_cons (ps_fld (pv 2) (pe_lc (own := [("height", 3)]) (g := (gName 3)) (tt := tYes) rfl sc_Stretch_add.nd (pi_list (pe_fld (pv 1) rfl)) (blkOk_by (own := [("height", 3)]) (N := ["self", "other", "joined", "height"]) (sc := defScope s_Stretch_add) (by decide +kernel)) (fun _ _ _ _ _ => (pg_name (i := 3) sc_Stretch_add.nd rfl (by first | exact Or.inl rfl | exact Or.inr rfl))) (fun _ _ _ _ _ => pts_nil) (fun _ _ _ _ _ => (pe_ifExp (pt_cmp (pc_isN (pv 3))) pe_non (pe_ix ix_list (pe_fld (pv 0) rfl) (pv 3) (fun _ _ => rfl))))) rfl)
  (pss_one (ps_ret (pv 2)))))), rd_Stretch_add C h⟩)
theorem bi_Stretch_add {f : Addr} {fd : FuncData} (F : Fun K "__add__" "Stretch.__add__" s_Stretch_add f fd) : Binds K fd ["self", "other"] [] := F.binds fun _ _ _ _ _ _ us hl => match us, hl with | [_, _], _ => rfl
abbrev s_Stretch_eq : Stmt := inClass (topS 7) 3
theorem sc_Stretch_eq : FnScope ["self", "other"] ["self", "other"] (defScope s_Stretch_eq) := ⟨rfl, rfl, rfl, by decide +kernel, rfl, by decide +kernel, by decide +kernel⟩
theorem ln_Stretch_eq {vs : List V} {H : Hp} {Q : VK} {E : XK} (h : sp_Stretch_eq K A vs H Q E) : vs.length = 2 := by
  first | (obtain ⟨_, rfl, _⟩ := h; rfl) | (obtain ⟨_, _, rfl, _⟩ := h; rfl) | (obtain ⟨_, _, _, rfl, _⟩ := h; rfl) | (obtain ⟨_, _, _, _, rfl, _⟩ := h; rfl) | (obtain ⟨_, _, _, _, _, rfl, _⟩ := h; rfl) | (obtain ⟨_, _, _, _, _, _, rfl, _⟩ := h; rfl) | (obtain ⟨_, _, _, _, _, _, _, rfl, _⟩ := h; rfl) | (obtain ⟨_, _, _, _, _, _, _, _, rfl, _⟩ := h; rfl) | (obtain ⟨_, _, _, _, _, _, _, _, _, rfl, _⟩ := h; rfl) | (obtain ⟨_, _, _, _, _, _, _, _, _, _, rfl, _⟩ := h; rfl) | (obtain ⟨_, _, _, _, _, _, _, _, _, _, _, rfl, _⟩ := h; rfl) | (obtain ⟨_, _, _, _, _, _, _, _, _, _, _, _, rfl, _⟩ := h; rfl) | (obtain ⟨_, _, _, _, _, _, _, _, _, _, _, _, _, rfl, _⟩ := h; rfl) | (obtain ⟨_, _, _, _, _, _, _, _, _, _, _, _, _, _, rfl, _⟩ := h; rfl) | (obtain ⟨_, _, _, _, _, _, _, _, _, _, _, _, _, _, _, rfl, _⟩ := h; rfl) | (obtain ⟨_, _, _, _, _, _, _, _, _, _, _, _, _, _, _, _, rfl, _⟩ := h; rfl) | (obtain ⟨_, _, _, _, _, _, _, _, _, _, _, _, _, _, _, _, _, rfl, _⟩ := h; rfl) | (obtain ⟨_, _, _, _, _, _, _, _, _, _, _, _, _, _, _, _, _, _, rfl, _⟩ := h; rfl) | (obtain ⟨_, _, _, _, _, _, _, _, _, _, _, _, _, _, _, _, _, _, _, rfl, _⟩ := h; rfl)
theorem fn_Stretch_eq {f : Addr} {fd : FuncData} (F : Fun K "__eq__" "Stretch.__eq__" s_Stretch_eq f fd) (T : Txt mg A) (C : CT K A)  : FnOk P w K mg base CX0 1 f fd ["self", "other"] (sp_Stretch_eq K A) :=
  F.ok sc_Stretch_eq (fun vs H Q E h => ln_Stretch_eq h) (fun cdv Ar outer s H vs Q E hr h => ⟨t_Stretch_eq K A, (pss_one (ps_ret (pe_and (pe_callB call_isi (by rfl) T.b_isinstance (by decide +kernel) (pa_cons (pv 1) (pa_cons (pe_glob (v := .ref A.Stretch) (by rfl) T.g_Stretch rfl) pa_nil))) (pe_and (pe_cmpR op_eq (pe_fld (pv 0) rfl) (pe_fld (pv 1) rfl) (nomark _)) (pe_one (pe_cmpR (op_eqD hr.units) (pe_fld (pv 0) rfl) (pe_fld (pv 1) rfl) (nomark _))))))), rd_Stretch_eq C h⟩)
theorem bi_Stretch_eq {f : Addr} {fd : FuncData} (F : Fun K "__eq__" "Stretch.__eq__" s_Stretch_eq f fd) : Binds K fd ["self", "other"] [] := F.binds fun _ _ _ _ _ _ us hl => match us, hl with | [_, _], _ => rfl
abbrev s_Stretch_is_keepable : Stmt := inClass (topS 7) 4
theorem sc_Stretch_is_keepable : FnScope ["self"] ["self"] (defScope s_Stretch_is_keepable) := ⟨rfl, rfl, rfl, by decide +kernel, rfl, by decide +kernel, by decide +kernel⟩
theorem ln_Stretch_is_keepable {vs : List V} {H : Hp} {Q : VK} {E : XK} (h : sp_Stretch_is_keepable K A vs H Q E) : vs.length = 1 := by
  first | (obtain ⟨_, rfl, _⟩ := h; rfl) | (obtain ⟨_, _, rfl, _⟩ := h; rfl) | (obtain ⟨_, _, _, rfl, _⟩ := h; rfl) | (obtain ⟨_, _, _, _, rfl, _⟩ := h; rfl) | (obtain ⟨_, _, _, _, _, rfl, _⟩ := h; rfl) | (obtain ⟨_, _, _, _, _, _, rfl, _⟩ := h; rfl) | (obtain ⟨_, _, _, _, _, _, _, rfl, _⟩ := h; rfl) | (obtain ⟨_, _, _, _, _, _, _, _, rfl, _⟩ := h; rfl) | (obtain ⟨_, _, _, _, _, _, _, _, _, rfl, _⟩ := h; rfl) | (obtain ⟨_, _, _, _, _, _, _, _, _, _, rfl, _⟩ := h; rfl) | (obtain ⟨_, _, _, _, _, _, _, _, _, _, _, rfl, _⟩ := h; rfl) | (obtain ⟨_, _, _, _, _, _, _, _, _, _, _, _, rfl, _⟩ := h; rfl) | (obtain ⟨_, _, _, _, _, _, _, _, _, _, _, _, _, rfl, _⟩ := h; rfl) | (obtain ⟨_, _, _, _, _, _, _, _, _, _, _, _, _, _, rfl, _⟩ := h; rfl) | (obtain ⟨_, _, _, _, _, _, _, _, _, _, _, _, _, _, _, rfl, _⟩ := h; rfl) | (obtain ⟨_, _, _, _, _, _, _, _, _, _, _, _, _, _, _, _, rfl, _⟩ := h; rfl) | (obtain ⟨_, _, _, _, _, _, _, _, _, _, _, _, _, _, _, _, _, rfl, _⟩ := h; rfl) | (obtain ⟨_, _, _, _, _, _, _, _, _, _, _, _, _, _, _, _, _, _, rfl, _⟩ := h; rfl) | (obtain ⟨_, _, _, _, _, _, _, _, _, _, _, _, _, _, _, _, _, _, _, rfl, _⟩ := h; rfl)
theorem fn_Stretch_is_keepable {f : Addr} {fd : FuncData} (F : Fun K "is_keepable" "Stretch.is_keepable" s_Stretch_is_keepable f fd) (T : Txt mg A) (C : CT K A)  : FnOk P w K mg base CX0 1 f fd ["self"] (sp_Stretch_is_keepable K A) :=
  F.ok sc_Stretch_is_keepable (fun vs H Q E h => ln_Stretch_is_keepable h) (fun cdv Ar outer s H vs Q E hr h => ⟨t_Stretch_is_keepable K A, (pss_one (ps_ret (pe_cmp (pc_notN (pe_ix ix_list (pe_fld (pv 0) rfl) pe_int (fun _ _ => rfl)))))), rd_Stretch_is_keepable C h⟩)
theorem bi_Stretch_is_keepable {f : Addr} {fd : FuncData} (F : Fun K "is_keepable" "Stretch.is_keepable" s_Stretch_is_keepable f fd) : Binds K fd ["self"] [] := F.binds fun _ _ _ _ _ _ us hl => match us, hl with | [_], _ => rfl
abbrev s_room_over : Stmt := topS 9
theorem sc_room_over : FnScope ["one", "other", "copies"] ["one", "other", "copies"] (defScope s_room_over) := ⟨rfl, rfl, rfl, by decide +kernel, rfl, by decide +kernel, by decide +kernel⟩
theorem ln_room_over {vs : List V} {H : Hp} {Q : VK} {E : XK} (h : sp_room_over K A vs H Q E) : vs.length = 3 := by
  first | (obtain ⟨_, rfl, _⟩ := h; rfl) | (obtain ⟨_, _, rfl, _⟩ := h; rfl) | (obtain ⟨_, _, _, rfl, _⟩ := h; rfl) | (obtain ⟨_, _, _, _, rfl, _⟩ := h; rfl) | (obtain ⟨_, _, _, _, _, rfl, _⟩ := h; rfl) | (obtain ⟨_, _, _, _, _, _, rfl, _⟩ := h; rfl) | (obtain ⟨_, _, _, _, _, _, _, rfl, _⟩ := h; rfl) | (obtain ⟨_, _, _, _, _, _, _, _, rfl, _⟩ := h; rfl) | (obtain ⟨_, _, _, _, _, _, _, _, _, rfl, _⟩ := h; rfl) | (obtain ⟨_, _, _, _, _, _, _, _, _, _, rfl, _⟩ := h; rfl) | (obtain ⟨_, _, _, _, _, _, _, _, _, _, _, rfl, _⟩ := h; rfl) | (obtain ⟨_, _, _, _, _, _, _, _, _, _, _, _, rfl, _⟩ := h; rfl) | (obtain ⟨_, _, _, _, _, _, _, _, _, _, _, _, _, rfl, _⟩ := h; rfl) | (obtain ⟨_, _, _, _, _, _, _, _, _, _, _, _, _, _, rfl, _⟩ := h; rfl) | (obtain ⟨_, _, _, _, _, _, _, _, _, _, _, _, _, _, _, rfl, _⟩ := h; rfl) | (obtain ⟨_, _, _, _, _, _, _, _, _, _, _, _, _, _, _, _, rfl, _⟩ := h; rfl) | (obtain ⟨_, _, _, _, _, _, _, _, _, _, _, _, _, _, _, _, _, rfl, _⟩ := h; rfl) | (obtain ⟨_, _, _, _, _, _, _, _, _, _, _, _, _, _, _, _, _, _, rfl, _⟩ := h; rfl) | (obtain ⟨_, _, _, _, _, _, _, _, _, _, _, _, _, _, _, _, _, _, _, rfl, _⟩ := h; rfl)
theorem fn_room_over {f : Addr} {fd : FuncData} (F : Fun K "_room_over" "_room_over" s_room_over f fd) (T : Txt mg A) (C : CT K A)  : FnOk P w K mg base CX0 1 f fd ["one", "other", "copies"] (sp_room_over K A) :=
  F.ok sc_room_over (fun vs H Q E h => ln_room_over h) (fun cdv Ar outer s H vs Q E hr h => ⟨t_room_over K A, (pss_cons (ps_if (PW.pt (pw_or (pt_cmp (pc_isN (pv 0))) (pw_or1 (pt_cmp (pc_isN (pv 1)))))) (pss_one (ps_ret (pe_lst pa_nil))) pss_nil)
  (pss_one (ps_ret (pe_op op_rep (pe_lst (pa_cons pe_int pa_nil)) (pe_op op_sub (pv 2) (pe_callB (call_min2 rfl) (by rfl) T.b_min (by decide +kernel) (pa_cons (pv 0) (pa_cons (pv 1) pa_nil)))))))), rd_room_over h⟩)
theorem bi_room_over {f : Addr} {fd : FuncData} (F : Fun K "_room_over" "_room_over" s_room_over f fd) : Binds K fd ["one", "other", "copies"] [] := F.binds fun _ _ _ _ _ _ us hl => match us, hl with | [_, _, _], _ => rfl
abbrev s_parting : Stmt := topS 8
theorem sc_parting : FnScope ["first", "second", "below", "one", "other"] ["first", "second"] (defScope s_parting) := ⟨rfl, rfl, rfl, by decide +kernel, rfl, by decide +kernel, by decide +kernel⟩
theorem ln_parting {vs : List V} {H : Hp} {Q : VK} {E : XK} (h : sp_parting K A vs H Q E) : vs.length = 2 := by
  first | (obtain ⟨_, rfl, _⟩ := h; rfl) | (obtain ⟨_, _, rfl, _⟩ := h; rfl) | (obtain ⟨_, _, _, rfl, _⟩ := h; rfl) | (obtain ⟨_, _, _, _, rfl, _⟩ := h; rfl) | (obtain ⟨_, _, _, _, _, rfl, _⟩ := h; rfl) | (obtain ⟨_, _, _, _, _, _, rfl, _⟩ := h; rfl) | (obtain ⟨_, _, _, _, _, _, _, rfl, _⟩ := h; rfl) | (obtain ⟨_, _, _, _, _, _, _, _, rfl, _⟩ := h; rfl) | (obtain ⟨_, _, _, _, _, _, _, _, _, rfl, _⟩ := h; rfl) | (obtain ⟨_, _, _, _, _, _, _, _, _, _, rfl, _⟩ := h; rfl) | (obtain ⟨_, _, _, _, _, _, _, _, _, _, _, rfl, _⟩ := h; rfl) | (obtain ⟨_, _, _, _, _, _, _, _, _, _, _, _, rfl, _⟩ := h; rfl) | (obtain ⟨_, _, _, _, _, _, _, _, _, _, _, _, _, rfl, _⟩ := h; rfl) | (obtain ⟨_, _, _, _, _, _, _, _, _, _, _, _, _, _, rfl, _⟩ := h; rfl) | (obtain ⟨_, _, _, _, _, _, _, _, _, _, _, _, _, _, _, rfl, _⟩ := h; rfl) | (obtain ⟨_, _, _, _, _, _, _, _, _, _, _, _, _, _, _, _, rfl, _⟩ := h; rfl) | (obtain ⟨_, _, _, _, _, _, _, _, _, _, _, _, _, _, _, _, _, rfl, _⟩ := h; rfl) | (obtain ⟨_, _, _, _, _, _, _, _, _, _, _, _, _, _, _, _, _, _, rfl, _⟩ := h; rfl) | (obtain ⟨_, _, _, _, _, _, _, _, _, _, _, _, _, _, _, _, _, _, _, rfl, _⟩ := h; rfl)
theorem fn_parting {f : Addr} {fd : FuncData} (F : Fun K "parting" "parting" s_parting f fd) (T : Txt mg A) (C : CT K A) (C_CopiesDiffer : GX.ErrX P w K mg base 1 "CopiesDiffer" A.CopiesDiffer (GX.sp_err2 K A.CopiesDiffer "left" "right")) (C_Stretch_lift : C8.Met P w K mg base 1 A.Stretch "lift" (sp_Stretch_lift K A) []) (C_room_over : C8.Cal P w K mg base 1 "_room_over" (sp_room_over K A) []) : FnOk P w K mg base (L2.CX P w) 3 f fd ["first", "second"] (sp_parting K A) :=
  F.okX sc_parting (fun vs H Q E h => ln_parting h) (fun cdv Ar outer s H vs Q E hr h => ⟨t_parting K A E, (pss_cons (ps_if (pt_cmpR op_ne (pe_fld (pv 0) rfl) (pe_fld (pv 1) rfl) (nomark _)) (pss_one (GX.ps_raiseO C_CopiesDiffer hr (by decide) rfl (by rfl) (takes_of rfl rfl rfl rfl) (pa_cons (pe_fld (pv 0) rfl) (pa_cons (pe_fld (pv 1) rfl) pa_nil)))) pss_nil)
  (pss_cons (ps_for (passes_of rfl) rfl (EZ.pi_ez (by rfl) T.b_enumerate (by rfl) T.b_zip (pa_cons (C8.pe_mt0 C_Stretch_lift hr (by decide) (pv 0)) (pa_cons (C8.pe_mt0 C_Stretch_lift hr (by decide) (pv 1)) pa_nil))) (pg_tup rfl (pgs_cons (pg_name (i := 2) sc_parting.nd rfl (by first | exact Or.inl rfl | exact Or.inr rfl)) (pgs_cons (pg_tup rfl (pgs_cons (pg_name (i := 3) sc_parting.nd rfl (by first | exact Or.inl rfl | exact Or.inr rfl)) (pgs_cons (pg_name (i := 4) sc_parting.nd rfl (by first | exact Or.inl rfl | exact Or.inr rfl)) pgs_nil))) pgs_nil)))
  (pss_one (ps_if (pt_cmpR op_ne (pv 3) (pv 4) (nomark _)) (pss_one (ps_ret (pe_tup (pa_cons (C8.pe_c C_room_over hr (by decide) (by rfl) (pa_cons (pv 3) (pa_cons (pv 4) (pa_cons (pe_fld (pv 0) rfl) pa_nil)))) (pa_cons (pe_op op_rep (pe_lst (pa_cons pe_int pa_nil)) (pv 2)) pa_nil))))) pss_nil)))
  (pss_one (ps_ret pe_non)))), rd_parting C h⟩)
theorem bi_parting {f : Addr} {fd : FuncData} (F : Fun K "parting" "parting" s_parting f fd) : Binds K fd ["first", "second"] [] := F.binds fun _ _ _ _ _ _ us hl => match us, hl with | [_, _], _ => rfl
abbrev s_law_is_integer : Stmt := topS 11
theorem sc_law_is_integer : FnScope ["actual"] ["actual"] (defScope s_law_is_integer) := ⟨rfl, rfl, rfl, by decide +kernel, rfl, by decide +kernel, by decide +kernel⟩
theorem ln_law_is_integer {vs : List V} {H : Hp} {Q : VK} {E : XK} (h : sp_law_is_integer K A vs H Q E) : vs.length = 1 := by
  first | (obtain ⟨_, rfl, _⟩ := h; rfl) | (obtain ⟨_, _, rfl, _⟩ := h; rfl) | (obtain ⟨_, _, _, rfl, _⟩ := h; rfl) | (obtain ⟨_, _, _, _, rfl, _⟩ := h; rfl) | (obtain ⟨_, _, _, _, _, rfl, _⟩ := h; rfl) | (obtain ⟨_, _, _, _, _, _, rfl, _⟩ := h; rfl) | (obtain ⟨_, _, _, _, _, _, _, rfl, _⟩ := h; rfl) | (obtain ⟨_, _, _, _, _, _, _, _, rfl, _⟩ := h; rfl) | (obtain ⟨_, _, _, _, _, _, _, _, _, rfl, _⟩ := h; rfl) | (obtain ⟨_, _, _, _, _, _, _, _, _, _, rfl, _⟩ := h; rfl) | (obtain ⟨_, _, _, _, _, _, _, _, _, _, _, rfl, _⟩ := h; rfl) | (obtain ⟨_, _, _, _, _, _, _, _, _, _, _, _, rfl, _⟩ := h; rfl) | (obtain ⟨_, _, _, _, _, _, _, _, _, _, _, _, _, rfl, _⟩ := h; rfl) | (obtain ⟨_, _, _, _, _, _, _, _, _, _, _, _, _, _, rfl, _⟩ := h; rfl) | (obtain ⟨_, _, _, _, _, _, _, _, _, _, _, _, _, _, _, rfl, _⟩ := h; rfl) | (obtain ⟨_, _, _, _, _, _, _, _, _, _, _, _, _, _, _, _, rfl, _⟩ := h; rfl) | (obtain ⟨_, _, _, _, _, _, _, _, _, _, _, _, _, _, _, _, _, rfl, _⟩ := h; rfl) | (obtain ⟨_, _, _, _, _, _, _, _, _, _, _, _, _, _, _, _, _, _, rfl, _⟩ := h; rfl) | (obtain ⟨_, _, _, _, _, _, _, _, _, _, _, _, _, _, _, _, _, _, _, rfl, _⟩ := h; rfl)
theorem fn_law_is_integer {f : Addr} {fd : FuncData} (F : Fun K "_law_is_integer" "_law_is_integer" s_law_is_integer f fd) (T : Txt mg A) (C : CT K A)  : FnOk P w K mg base CX0 1 f fd ["actual"] (sp_law_is_integer K A) :=
  F.ok sc_law_is_integer (fun vs H Q E h => ln_law_is_integer h) (fun cdv Ar outer s H vs Q E hr h => ⟨t_law_is_integer K A, (pss_one (ps_ret (pe_and (pe_callB call_isi (by rfl) T.b_isinstance (by decide +kernel) (pa_cons (pv 0) (pa_cons (pe_bltn (v := .ty "int") (by rfl) T.b_int (by decide +kernel) rfl) pa_nil))) (pe_one (pe_not (pe_callB call_isi (by rfl) T.b_isinstance (by decide +kernel) (pa_cons (pv 0) (pa_cons (pe_bltn (v := .ty "bool") (by rfl) T.b_bool (by decide +kernel) rfl) pa_nil)))))))), rd_law_is_integer h⟩)
theorem bi_law_is_integer {f : Addr} {fd : FuncData} (F : Fun K "_law_is_integer" "_law_is_integer" s_law_is_integer f fd) : Binds K fd ["actual"] [] := F.binds fun _ _ _ _ _ _ us hl => match us, hl with | [_], _ => rfl
theorem fnh_law_is_integer {f : Addr} {fd : FuncData} (F : Fun K "_law_is_integer" "_law_is_integer" s_law_is_integer f fd) (T : Txt mg A) : GX.FnG P w K mg base 1 f fd ["actual"] (fun _ _ _ => sp_law_is_integer K A) :=
  F.okG sc_law_is_integer (fun a c d vs H Q h => ln_law_is_integer h) (fun cdv Ar outer s H vs Q p hp h => ⟨t_law_is_integer K A, (pss_one (ps_ret (pe_and (pe_callB call_isi (by rfl) T.b_isinstance (by decide +kernel) (pa_cons (pv 0) (pa_cons (pe_bltn (v := .ty "int") (by rfl) T.b_int (by decide +kernel) rfl) pa_nil))) (pe_one (pe_not (pe_callB call_isi (by rfl) T.b_isinstance (by decide +kernel) (pa_cons (pv 0) (pa_cons (pe_bltn (v := .ty "bool") (by rfl) T.b_bool (by decide +kernel) rfl) pa_nil)))))))), rd_law_is_integer h⟩)
abbrev s_law_bag : Stmt := topS 12
theorem sc_law_bag : FnScope ["script", "k", "cell"] ["script", "k"] (defScope s_law_bag) := ⟨rfl, rfl, rfl, by decide +kernel, rfl, by decide +kernel, by decide +kernel⟩
theorem ln_law_bag {vs : List V} {H : Hp} {Q : VK} {E : XK} (h : sp_law_bag K A vs H Q E) : vs.length = 2 := by
  first | (obtain ⟨_, rfl, _⟩ := h; rfl) | (obtain ⟨_, _, rfl, _⟩ := h; rfl) | (obtain ⟨_, _, _, rfl, _⟩ := h; rfl) | (obtain ⟨_, _, _, _, rfl, _⟩ := h; rfl) | (obtain ⟨_, _, _, _, _, rfl, _⟩ := h; rfl) | (obtain ⟨_, _, _, _, _, _, rfl, _⟩ := h; rfl) | (obtain ⟨_, _, _, _, _, _, _, rfl, _⟩ := h; rfl) | (obtain ⟨_, _, _, _, _, _, _, _, rfl, _⟩ := h; rfl) | (obtain ⟨_, _, _, _, _, _, _, _, _, rfl, _⟩ := h; rfl) | (obtain ⟨_, _, _, _, _, _, _, _, _, _, rfl, _⟩ := h; rfl) | (obtain ⟨_, _, _, _, _, _, _, _, _, _, _, rfl, _⟩ := h; rfl) | (obtain ⟨_, _, _, _, _, _, _, _, _, _, _, _, rfl, _⟩ := h; rfl) | (obtain ⟨_, _, _, _, _, _, _, _, _, _, _, _, _, rfl, _⟩ := h; rfl) | (obtain ⟨_, _, _, _, _, _, _, _, _, _, _, _, _, _, rfl, _⟩ := h; rfl) | (obtain ⟨_, _, _, _, _, _, _, _, _, _, _, _, _, _, _, rfl, _⟩ := h; rfl) | (obtain ⟨_, _, _, _, _, _, _, _, _, _, _, _, _, _, _, _, rfl, _⟩ := h; rfl) | (obtain ⟨_, _, _, _, _, _, _, _, _, _, _, _, _, _, _, _, _, rfl, _⟩ := h; rfl) | (obtain ⟨_, _, _, _, _, _, _, _, _, _, _, _, _, _, _, _, _, _, rfl, _⟩ := h; rfl) | (obtain ⟨_, _, _, _, _, _, _, _, _, _, _, _, _, _, _, _, _, _, _, rfl, _⟩ := h; rfl)
theorem fn_law_bag {f : Addr} {fd : FuncData} (F : Fun K "_law_bag" "_law_bag" s_law_bag f fd) (T : Txt mg A) (C : CT K A)  : FnOk P w K mg base CX0 1 f fd ["script", "k"] (sp_law_bag K A) :=
  F.ok sc_law_bag (fun vs H Q E h => ln_law_bag h) (fun cdv Ar outer s H vs Q E hr h => ⟨t_law_bag K A, (pss_cons (ps_set (i := 2) sc_law_bag.nd rfl (by first | exact Or.inl rfl | exact Or.inr rfl) (pe_op op_add pe_int (pe_op op_mul pe_int (pv 1))))
  (pss_cons (ps_if (pt_cmpR op_lt (pv 1) (pe_callB call_len_seq (by rfl) T.b_len (by decide +kernel) (pa_cons (pv 0) pa_nil)) (nomark _)) (pss_one (ps_set (i := 2) sc_law_bag.nd rfl (by first | exact Or.inl rfl | exact Or.inr rfl) (pe_ix ix_list (pv 0) (pv 1) (fun _ _ => rfl)))) (pss_one (ps_if (pt_truth (pv 0) (by intro _; rfl)) (pss_one (ps_set (i := 2) sc_law_bag.nd rfl (by first | exact Or.inl rfl | exact Or.inr rfl) (pe_op op_add (pv 2) (pe_op op_mod (pe_callTy call_int1 (by rfl) T.b_int (by decide +kernel) (pa_cons (pe_op op_mul (pe_ix ix_list (pv 0) pe_int (fun _ _ => rfl)) pe_int) pa_nil)) pe_int)))) pss_nil)))
  (pss_cons (ps_if (pt_cmpR op_ge (pe_callB call_abs (by rfl) T.b_abs (by decide +kernel) (pa_cons (pv 2) pa_nil)) (pe_op op_pow pe_int pe_int) (nomark _)) (pss_one (ps_ret (pe_lst (pa_cons (pe_callB call_abs (by rfl) T.b_abs (by decide +kernel) (pa_cons (pv 2) pa_nil)) (pa_cons (pv 2) (pa_cons pe_int (pa_cons (pv 1) pa_nil))))))) pss_nil)
  (pss_one (ps_ret (pe_lst (pa_cons pe_int (pa_cons (pv 2) (pa_cons pe_int (pa_cons (pv 1) pa_nil)))))))))), rd_law_bag h⟩)
theorem bi_law_bag {f : Addr} {fd : FuncData} (F : Fun K "_law_bag" "_law_bag" s_law_bag f fd) : Binds K fd ["script", "k"] [] := F.binds fun _ _ _ _ _ _ us hl => match us, hl with | [_, _], _ => rfl
abbrev s_law_take : Stmt := topS 13
theorem sc_law_take : FnScope ["bag", "size", "digit", "first", "second", "third"] ["bag", "size"] (defScope s_law_take) := ⟨rfl, rfl, rfl, by decide +kernel, rfl, by decide +kernel, by decide +kernel⟩
theorem ln_law_take {vs : List V} {H : Hp} {Q : VK} {E : XK} (h : sp_law_take K A vs H Q E) : vs.length = 2 := by
  first | (obtain ⟨_, rfl, _⟩ := h; rfl) | (obtain ⟨_, _, rfl, _⟩ := h; rfl) | (obtain ⟨_, _, _, rfl, _⟩ := h; rfl) | (obtain ⟨_, _, _, _, rfl, _⟩ := h; rfl) | (obtain ⟨_, _, _, _, _, rfl, _⟩ := h; rfl) | (obtain ⟨_, _, _, _, _, _, rfl, _⟩ := h; rfl) | (obtain ⟨_, _, _, _, _, _, _, rfl, _⟩ := h; rfl) | (obtain ⟨_, _, _, _, _, _, _, _, rfl, _⟩ := h; rfl) | (obtain ⟨_, _, _, _, _, _, _, _, _, rfl, _⟩ := h; rfl) | (obtain ⟨_, _, _, _, _, _, _, _, _, _, rfl, _⟩ := h; rfl) | (obtain ⟨_, _, _, _, _, _, _, _, _, _, _, rfl, _⟩ := h; rfl) | (obtain ⟨_, _, _, _, _, _, _, _, _, _, _, _, rfl, _⟩ := h; rfl) | (obtain ⟨_, _, _, _, _, _, _, _, _, _, _, _, _, rfl, _⟩ := h; rfl) | (obtain ⟨_, _, _, _, _, _, _, _, _, _, _, _, _, _, rfl, _⟩ := h; rfl) | (obtain ⟨_, _, _, _, _, _, _, _, _, _, _, _, _, _, _, rfl, _⟩ := h; rfl) | (obtain ⟨_, _, _, _, _, _, _, _, _, _, _, _, _, _, _, _, rfl, _⟩ := h; rfl) | (obtain ⟨_, _, _, _, _, _, _, _, _, _, _, _, _, _, _, _, _, rfl, _⟩ := h; rfl) | (obtain ⟨_, _, _, _, _, _, _, _, _, _, _, _, _, _, _, _, _, _, rfl, _⟩ := h; rfl) | (obtain ⟨_, _, _, _, _, _, _, _, _, _, _, _, _, _, _, _, _, _, _, rfl, _⟩ := h; rfl)
theorem fn_law_take {f : Addr} {fd : FuncData} (F : Fun K "_law_take" "_law_take" s_law_take f fd) (T : Txt mg A) (C : CT K A)  : FnOk P w K mg base CX0 1 f fd ["bag", "size"] (sp_law_take K A) :=
  F.ok sc_law_take (fun vs H Q E h => ln_law_take h) (fun cdv Ar outer s H vs Q E hr h => ⟨t_law_take K A, (pss_cons (ps_asg (pe_op op_add (pe_ix ix_list (pv 0) pe_int (fun _ _ => rfl)) pe_int) (pg_sub (pv 0) pe_int set_list))
  (pss_cons (ps_if (pt_cmpR op_gt (pe_ix ix_list (pv 0) pe_int (fun _ _ => rfl)) pe_int (nomark _)) (pss_cons (ps_set (i := 2) sc_law_take.nd rfl (by first | exact Or.inl rfl | exact Or.inr rfl) (pe_op op_mod (pe_callTy call_int1 (by rfl) T.b_int (by decide +kernel) (pa_cons (pe_ix ix_list (pv 0) pe_int (fun _ _ => rfl)) pa_nil)) (pv 1)))
  (pss_cons (ps_asg (pe_op op_fdiv (pe_ix ix_list (pv 0) pe_int (fun _ _ => rfl)) (pv 1)) (pg_sub (pv 0) pe_int set_list))
  (pss_one (ps_ret (pv 2))))) pss_nil)
  (pss_cons (ps_set (i := 3) sc_law_take.nd rfl (by first | exact Or.inl rfl | exact Or.inr rfl) (pe_op op_mod (pe_callTy call_int1 (by rfl) T.b_int (by decide +kernel) (pa_cons (pe_op op_add (pe_op op_add (pe_op op_add (pe_op op_mul (pe_ix ix_list (pv 0) pe_int (fun _ _ => rfl)) pe_int) (pe_op op_mul (pe_ix ix_list (pv 0) pe_int (fun _ _ => rfl)) pe_int)) (pe_op op_mul (pe_ix ix_list (pv 0) pe_int (fun _ _ => rfl)) pe_int)) pe_int) pa_nil)) pe_int))
  (pss_cons (ps_set (i := 4) sc_law_take.nd rfl (by first | exact Or.inl rfl | exact Or.inr rfl) (pe_op op_mod (pe_callTy call_int1 (by rfl) T.b_int (by decide +kernel) (pa_cons (pe_op op_add (pe_op op_add (pe_op op_mul (pv 3) (pv 3)) (pe_op op_mul (pe_ix ix_list (pv 0) pe_int (fun _ _ => rfl)) pe_int)) (pe_ix ix_list (pv 0) pe_int (fun _ _ => rfl))) pa_nil)) pe_int))
  (pss_cons (ps_set (i := 5) sc_law_take.nd rfl (by first | exact Or.inl rfl | exact Or.inr rfl) (pe_op op_mod (pe_callTy call_int1 (by rfl) T.b_int (by decide +kernel) (pa_cons (pe_op op_add (pe_op op_mul (pv 4) (pv 4)) (pv 3)) pa_nil)) pe_int))
  (pss_one (ps_ret (pe_op op_mod (pe_op op_fdiv (pv 5) pe_int) (pv 1))))))))), rd_law_take h⟩)
theorem bi_law_take {f : Addr} {fd : FuncData} (F : Fun K "_law_take" "_law_take" s_law_take f fd) : Binds K fd ["bag", "size"] [] := F.binds fun _ _ _ _ _ _ us hl => match us, hl with | [_, _], _ => rfl
abbrev s_law_copies : Stmt := topS 14
theorem sc_law_copies : FnScope ["bag"] ["bag"] (defScope s_law_copies) := ⟨rfl, rfl, rfl, by decide +kernel, rfl, by decide +kernel, by decide +kernel⟩
theorem ln_law_copies {vs : List V} {H : Hp} {Q : VK} {E : XK} (h : sp_law_copies K A vs H Q E) : vs.length = 1 := by
  first | (obtain ⟨_, rfl, _⟩ := h; rfl) | (obtain ⟨_, _, rfl, _⟩ := h; rfl) | (obtain ⟨_, _, _, rfl, _⟩ := h; rfl) | (obtain ⟨_, _, _, _, rfl, _⟩ := h; rfl) | (obtain ⟨_, _, _, _, _, rfl, _⟩ := h; rfl) | (obtain ⟨_, _, _, _, _, _, rfl, _⟩ := h; rfl) | (obtain ⟨_, _, _, _, _, _, _, rfl, _⟩ := h; rfl) | (obtain ⟨_, _, _, _, _, _, _, _, rfl, _⟩ := h; rfl) | (obtain ⟨_, _, _, _, _, _, _, _, _, rfl, _⟩ := h; rfl) | (obtain ⟨_, _, _, _, _, _, _, _, _, _, rfl, _⟩ := h; rfl) | (obtain ⟨_, _, _, _, _, _, _, _, _, _, _, rfl, _⟩ := h; rfl) | (obtain ⟨_, _, _, _, _, _, _, _, _, _, _, _, rfl, _⟩ := h; rfl) | (obtain ⟨_, _, _, _, _, _, _, _, _, _, _, _, _, rfl, _⟩ := h; rfl) | (obtain ⟨_, _, _, _, _, _, _, _, _, _, _, _, _, _, rfl, _⟩ := h; rfl) | (obtain ⟨_, _, _, _, _, _, _, _, _, _, _, _, _, _, _, rfl, _⟩ := h; rfl) | (obtain ⟨_, _, _, _, _, _, _, _, _, _, _, _, _, _, _, _, rfl, _⟩ := h; rfl) | (obtain ⟨_, _, _, _, _, _, _, _, _, _, _, _, _, _, _, _, _, rfl, _⟩ := h; rfl) | (obtain ⟨_, _, _, _, _, _, _, _, _, _, _, _, _, _, _, _, _, _, rfl, _⟩ := h; rfl) | (obtain ⟨_, _, _, _, _, _, _, _, _, _, _, _, _, _, _, _, _, _, _, rfl, _⟩ := h; rfl)
theorem fn_law_copies {f : Addr} {fd : FuncData} (F : Fun K "_law_copies" "_law_copies" s_law_copies f fd) (T : Txt mg A) (C : CT K A) (C_law_take : C8.Cal P w K mg base 1 "_law_take" (sp_law_take K A) []) : FnOk P w K mg base CX0 2 f fd ["bag"] (sp_law_copies K A) :=
  F.ok sc_law_copies (fun vs H Q E h => ln_law_copies h) (fun cdv Ar outer s H vs Q E hr h => ⟨t_law_copies K A, (pss_cons (ps_if (pt_cmpR op_eq (C8.pe_c C_law_take hr (by decide) (by rfl) (pa_cons (pv 0) (pa_cons pe_int pa_nil))) pe_int (nomark _)) (pss_one (ps_ret (pe_op op_add pe_int (C8.pe_c C_law_take hr (by decide) (by rfl) (pa_cons (pv 0) (pa_cons pe_int pa_nil)))))) pss_nil)
  (pss_one (ps_ret (pe_op op_add pe_int (C8.pe_c C_law_take hr (by decide) (by rfl) (pa_cons (pv 0) (pa_cons pe_int pa_nil))))))), rd_law_copies h⟩)
theorem bi_law_copies {f : Addr} {fd : FuncData} (F : Fun K "_law_copies" "_law_copies" s_law_copies f fd) : Binds K fd ["bag"] [] := F.binds fun _ _ _ _ _ _ us hl => match us, hl with | [_], _ => rfl
abbrev s_law_page : Stmt := topS 15
theorem sc_law_page : FnScope ["bag", "way"] ["bag"] (defScope s_law_page) := ⟨rfl, rfl, rfl, by decide +kernel, rfl, by decide +kernel, by decide +kernel⟩
theorem ln_law_page {vs : List V} {H : Hp} {Q : VK} {E : XK} (h : sp_law_page K A vs H Q E) : vs.length = 1 := by
  first | (obtain ⟨_, rfl, _⟩ := h; rfl) | (obtain ⟨_, _, rfl, _⟩ := h; rfl) | (obtain ⟨_, _, _, rfl, _⟩ := h; rfl) | (obtain ⟨_, _, _, _, rfl, _⟩ := h; rfl) | (obtain ⟨_, _, _, _, _, rfl, _⟩ := h; rfl) | (obtain ⟨_, _, _, _, _, _, rfl, _⟩ := h; rfl) | (obtain ⟨_, _, _, _, _, _, _, rfl, _⟩ := h; rfl) | (obtain ⟨_, _, _, _, _, _, _, _, rfl, _⟩ := h; rfl) | (obtain ⟨_, _, _, _, _, _, _, _, _, rfl, _⟩ := h; rfl) | (obtain ⟨_, _, _, _, _, _, _, _, _, _, rfl, _⟩ := h; rfl) | (obtain ⟨_, _, _, _, _, _, _, _, _, _, _, rfl, _⟩ := h; rfl) | (obtain ⟨_, _, _, _, _, _, _, _, _, _, _, _, rfl, _⟩ := h; rfl) | (obtain ⟨_, _, _, _, _, _, _, _, _, _, _, _, _, rfl, _⟩ := h; rfl) | (obtain ⟨_, _, _, _, _, _, _, _, _, _, _, _, _, _, rfl, _⟩ := h; rfl) | (obtain ⟨_, _, _, _, _, _, _, _, _, _, _, _, _, _, _, rfl, _⟩ := h; rfl) | (obtain ⟨_, _, _, _, _, _, _, _, _, _, _, _, _, _, _, _, rfl, _⟩ := h; rfl) | (obtain ⟨_, _, _, _, _, _, _, _, _, _, _, _, _, _, _, _, _, rfl, _⟩ := h; rfl) | (obtain ⟨_, _, _, _, _, _, _, _, _, _, _, _, _, _, _, _, _, _, rfl, _⟩ := h; rfl) | (obtain ⟨_, _, _, _, _, _, _, _, _, _, _, _, _, _, _, _, _, _, _, rfl, _⟩ := h; rfl)
theorem fn_law_page {f : Addr} {fd : FuncData} (F : Fun K "_law_page" "_law_page" s_law_page f fd) (T : Txt mg A) (C : CT K A) (C_law_take : C8.Cal P w K mg base 1 "_law_take" (sp_law_take K A) []) : FnOk P w K mg base CX0 2 f fd ["bag"] (sp_law_page K A) :=
  F.ok sc_law_page (fun vs H Q E h => ln_law_page h) (fun cdv Ar outer s H vs Q E hr h => ⟨t_law_page K A, (pss_cons (ps_set (i := 1) sc_law_page.nd rfl (by first | exact Or.inl rfl | exact Or.inr rfl) (C8.pe_c C_law_take hr (by decide) (by rfl) (pa_cons (pv 0) (pa_cons pe_int pa_nil))))
  (pss_cons (ps_if (pt_cmpR op_lt (pv 1) pe_int (nomark _)) (pss_one (ps_ret pe_int)) pss_nil)
  (pss_cons (ps_if (pt_cmpR op_lt (pv 1) pe_int (nomark _)) (pss_one (ps_ret pe_int)) pss_nil)
  (pss_cons (ps_if (pt_cmpR op_eq (pv 1) pe_int (nomark _)) (pss_one (ps_ret (pe_op op_add pe_int (C8.pe_c C_law_take hr (by decide) (by rfl) (pa_cons (pv 0) (pa_cons pe_int pa_nil)))))) pss_nil)
  (pss_one (ps_ret (C8.pe_c C_law_take hr (by decide) (by rfl) (pa_cons (pv 0) (pa_cons pe_int pa_nil))))))))), rd_law_page h⟩)
theorem bi_law_page {f : Addr} {fd : FuncData} (F : Fun K "_law_page" "_law_page" s_law_page f fd) : Binds K fd ["bag"] [] := F.binds fun _ _ _ _ _ _ us hl => match us, hl with | [_], _ => rfl
abbrev s_law_pages : Stmt := topS 16
theorem sc_law_pages : FnScope ["bag", "pattern", "place"] ["bag"] (defScope s_law_pages) := ⟨rfl, rfl, rfl, by decide +kernel, rfl, by decide +kernel, by decide +kernel⟩
theorem ln_law_pages {vs : List V} {H : Hp} {Q : VK} {E : XK} (h : sp_law_pages K A vs H Q E) : vs.length = 1 := by
  first | (obtain ⟨_, rfl, _⟩ := h; rfl) | (obtain ⟨_, _, rfl, _⟩ := h; rfl) | (obtain ⟨_, _, _, rfl, _⟩ := h; rfl) | (obtain ⟨_, _, _, _, rfl, _⟩ := h; rfl) | (obtain ⟨_, _, _, _, _, rfl, _⟩ := h; rfl) | (obtain ⟨_, _, _, _, _, _, rfl, _⟩ := h; rfl) | (obtain ⟨_, _, _, _, _, _, _, rfl, _⟩ := h; rfl) | (obtain ⟨_, _, _, _, _, _, _, _, rfl, _⟩ := h; rfl) | (obtain ⟨_, _, _, _, _, _, _, _, _, rfl, _⟩ := h; rfl) | (obtain ⟨_, _, _, _, _, _, _, _, _, _, rfl, _⟩ := h; rfl) | (obtain ⟨_, _, _, _, _, _, _, _, _, _, _, rfl, _⟩ := h; rfl) | (obtain ⟨_, _, _, _, _, _, _, _, _, _, _, _, rfl, _⟩ := h; rfl) | (obtain ⟨_, _, _, _, _, _, _, _, _, _, _, _, _, rfl, _⟩ := h; rfl) | (obtain ⟨_, _, _, _, _, _, _, _, _, _, _, _, _, _, rfl, _⟩ := h; rfl) | (obtain ⟨_, _, _, _, _, _, _, _, _, _, _, _, _, _, _, rfl, _⟩ := h; rfl) | (obtain ⟨_, _, _, _, _, _, _, _, _, _, _, _, _, _, _, _, rfl, _⟩ := h; rfl) | (obtain ⟨_, _, _, _, _, _, _, _, _, _, _, _, _, _, _, _, _, rfl, _⟩ := h; rfl) | (obtain ⟨_, _, _, _, _, _, _, _, _, _, _, _, _, _, _, _, _, _, rfl, _⟩ := h; rfl) | (obtain ⟨_, _, _, _, _, _, _, _, _, _, _, _, _, _, _, _, _, _, _, rfl, _⟩ := h; rfl)
theorem fn_law_pages {f : Addr} {fd : FuncData} (F : Fun K "_law_pages" "_law_pages" s_law_pages f fd) (T : Txt mg A) (C : CT K A) (C_law_page : C8.Cal P w K mg base 2 "_law_page" (sp_law_page K A) []) (C_law_take : C8.Cal P w K mg base 1 "_law_take" (sp_law_take K A) []) : FnOk P w K mg base CX0 3 f fd ["bag"] (sp_law_pages K A) :=
  F.ok sc_law_pages (fun vs H Q E h => ln_law_pages h) (fun cdv Ar outer s H vs Q E hr h => ⟨t_law_pages K A, (pss_cons (ps_if (pt_cmpR op_eq (C8.pe_c C_law_take hr (by decide) (by rfl) (pa_cons (pv 0) (pa_cons pe_int pa_nil))) pe_int (nomark _)) (pss_cons (ps_setLc (i := 1) (own := [("place", 2)]) (g := (gName 2)) (tt := tYes) rfl sc_law_pages.nd rfl rfl (sw_true rfl rfl rfl (by decide +kernel)) (pi_range1 (by rfl) T.b_range (pa_cons (pe_op op_add pe_int (C8.pe_c C_law_take hr (by decide) (by rfl) (pa_cons (pv 0) (pa_cons pe_int pa_nil)))) pa_nil)) (blkOk_by (own := [("place", 2)]) (N := ["bag", "pattern", "place"]) (sc := defScope s_law_pages) (by decide +kernel)) (fun _ _ _ _ _ => (pg_name (i := 2) sc_law_pages.nd rfl (by first | exact Or.inl rfl | exact Or.inr rfl))) (fun _ _ _ _ _ => pts_nil) (fun _ _ _ _ _ => (C8.pe_c C_law_page hr (by decide) (by rfl) (pa_cons (pv 0) pa_nil))))
  (pss_one (ps_ret (pe_op op_rep (pv 1) (pe_op op_add pe_int (C8.pe_c C_law_take hr (by decide) (by rfl) (pa_cons (pv 0) (pa_cons pe_int pa_nil)))))))) pss_nil)
  (pss_one (ps_ret (pe_lc (own := [("place", 2)]) (g := (gName 2)) (tt := tYes) rfl sc_law_pages.nd (pi_range1 (by rfl) T.b_range (pa_cons (C8.pe_c C_law_take hr (by decide) (by rfl) (pa_cons (pv 0) (pa_cons pe_int pa_nil))) pa_nil)) (blkOk_by (own := [("place", 2)]) (N := ["bag", "pattern", "place"]) (sc := defScope s_law_pages) (by decide +kernel)) (fun _ _ _ _ _ => (pg_name (i := 2) sc_law_pages.nd rfl (by first | exact Or.inl rfl | exact Or.inr rfl))) (fun _ _ _ _ _ => pts_nil) (fun _ _ _ _ _ => (C8.pe_c C_law_page hr (by decide) (by rfl) (pa_cons (pv 0) pa_nil))))))), rd_law_pages h⟩)
theorem bi_law_pages {f : Addr} {fd : FuncData} (F : Fun K "_law_pages" "_law_pages" s_law_pages f fd) : Binds K fd ["bag"] [] := F.binds fun _ _ _ _ _ _ us hl => match us, hl with | [_], _ => rfl
abbrev s_law_height : Stmt := topS 17
theorem sc_law_height : FnScope ["count", "below", "copies"] ["count", "below", "copies"] (defScope s_law_height) := ⟨rfl, rfl, rfl, by decide +kernel, rfl, by decide +kernel, by decide +kernel⟩
theorem ln_law_height {vs : List V} {H : Hp} {Q : VK} {E : XK} (h : sp_law_height K A vs H Q E) : vs.length = 3 := by
  first | (obtain ⟨_, rfl, _⟩ := h; rfl) | (obtain ⟨_, _, rfl, _⟩ := h; rfl) | (obtain ⟨_, _, _, rfl, _⟩ := h; rfl) | (obtain ⟨_, _, _, _, rfl, _⟩ := h; rfl) | (obtain ⟨_, _, _, _, _, rfl, _⟩ := h; rfl) | (obtain ⟨_, _, _, _, _, _, rfl, _⟩ := h; rfl) | (obtain ⟨_, _, _, _, _, _, _, rfl, _⟩ := h; rfl) | (obtain ⟨_, _, _, _, _, _, _, _, rfl, _⟩ := h; rfl) | (obtain ⟨_, _, _, _, _, _, _, _, _, rfl, _⟩ := h; rfl) | (obtain ⟨_, _, _, _, _, _, _, _, _, _, rfl, _⟩ := h; rfl) | (obtain ⟨_, _, _, _, _, _, _, _, _, _, _, rfl, _⟩ := h; rfl) | (obtain ⟨_, _, _, _, _, _, _, _, _, _, _, _, rfl, _⟩ := h; rfl) | (obtain ⟨_, _, _, _, _, _, _, _, _, _, _, _, _, rfl, _⟩ := h; rfl) | (obtain ⟨_, _, _, _, _, _, _, _, _, _, _, _, _, _, rfl, _⟩ := h; rfl) | (obtain ⟨_, _, _, _, _, _, _, _, _, _, _, _, _, _, _, rfl, _⟩ := h; rfl) | (obtain ⟨_, _, _, _, _, _, _, _, _, _, _, _, _, _, _, _, rfl, _⟩ := h; rfl) | (obtain ⟨_, _, _, _, _, _, _, _, _, _, _, _, _, _, _, _, _, rfl, _⟩ := h; rfl) | (obtain ⟨_, _, _, _, _, _, _, _, _, _, _, _, _, _, _, _, _, _, rfl, _⟩ := h; rfl) | (obtain ⟨_, _, _, _, _, _, _, _, _, _, _, _, _, _, _, _, _, _, _, rfl, _⟩ := h; rfl)
theorem fn_law_height {f : Addr} {fd : FuncData} (F : Fun K "_law_height" "_law_height" s_law_height f fd) (T : Txt mg A) (C : CT K A)  : FnOk P w K mg base CX0 1 f fd ["count", "below", "copies"] (sp_law_height K A) :=
  F.ok sc_law_height (fun vs H Q E h => ln_law_height h) (fun cdv Ar outer s H vs Q E hr h => ⟨t_law_height K A, (pss_cons (ps_if (pt_cmpR op_ge (pv 0) pe_int (nomark _)) (pss_one (ps_ret pe_int)) pss_nil)
  (pss_cons (ps_if (pt_cmpR op_eq (pv 0) pe_int (nomark _)) (pss_one (ps_ret (pe_callTy call_int1 (by rfl) T.b_int (by decide +kernel) (pa_cons (pe_cmpR op_ge (pv 1) (pv 2) (nomark _)) pa_nil)))) pss_nil)
  (pss_one (ps_ret (pe_op op_add (pv 1) pe_int))))), rd_law_height h⟩)
theorem bi_law_height {f : Addr} {fd : FuncData} (F : Fun K "_law_height" "_law_height" s_law_height f fd) : Binds K fd ["count", "below", "copies"] [] := F.binds fun _ _ _ _ _ _ us hl => match us, hl with | [_, _, _], _ => rfl
abbrev s_law_rise : Stmt := topS 18
theorem sc_law_rise : FnScope ["blank", "below", "copies", "height", "count"] ["blank", "below", "copies"] (defScope s_law_rise) := ⟨rfl, rfl, rfl, by decide +kernel, rfl, by decide +kernel, by decide +kernel⟩
theorem ln_law_rise {vs : List V} {H : Hp} {Q : VK} {E : XK} (h : sp_law_rise K A vs H Q E) : vs.length = 3 := by
  first | (obtain ⟨_, rfl, _⟩ := h; rfl) | (obtain ⟨_, _, rfl, _⟩ := h; rfl) | (obtain ⟨_, _, _, rfl, _⟩ := h; rfl) | (obtain ⟨_, _, _, _, rfl, _⟩ := h; rfl) | (obtain ⟨_, _, _, _, _, rfl, _⟩ := h; rfl) | (obtain ⟨_, _, _, _, _, _, rfl, _⟩ := h; rfl) | (obtain ⟨_, _, _, _, _, _, _, rfl, _⟩ := h; rfl) | (obtain ⟨_, _, _, _, _, _, _, _, rfl, _⟩ := h; rfl) | (obtain ⟨_, _, _, _, _, _, _, _, _, rfl, _⟩ := h; rfl) | (obtain ⟨_, _, _, _, _, _, _, _, _, _, rfl, _⟩ := h; rfl) | (obtain ⟨_, _, _, _, _, _, _, _, _, _, _, rfl, _⟩ := h; rfl) | (obtain ⟨_, _, _, _, _, _, _, _, _, _, _, _, rfl, _⟩ := h; rfl) | (obtain ⟨_, _, _, _, _, _, _, _, _, _, _, _, _, rfl, _⟩ := h; rfl) | (obtain ⟨_, _, _, _, _, _, _, _, _, _, _, _, _, _, rfl, _⟩ := h; rfl) | (obtain ⟨_, _, _, _, _, _, _, _, _, _, _, _, _, _, _, rfl, _⟩ := h; rfl) | (obtain ⟨_, _, _, _, _, _, _, _, _, _, _, _, _, _, _, _, rfl, _⟩ := h; rfl) | (obtain ⟨_, _, _, _, _, _, _, _, _, _, _, _, _, _, _, _, _, rfl, _⟩ := h; rfl) | (obtain ⟨_, _, _, _, _, _, _, _, _, _, _, _, _, _, _, _, _, _, rfl, _⟩ := h; rfl) | (obtain ⟨_, _, _, _, _, _, _, _, _, _, _, _, _, _, _, _, _, _, _, rfl, _⟩ := h; rfl)
theorem fn_law_rise {f : Addr} {fd : FuncData} (F : Fun K "_law_rise" "_law_rise" s_law_rise f fd) (T : Txt mg A) (C : CT K A) (C_law_height : C8.Cal P w K mg base 1 "_law_height" (sp_law_height K A) []) : FnOk P w K mg base CX0 2 f fd ["blank", "below", "copies"] (sp_law_rise K A) :=
  F.ok sc_law_rise (fun vs H Q E h => ln_law_rise h) (fun cdv Ar outer s H vs Q E hr h => ⟨t_law_rise K A, (pss_cons (ps_set (i := 3) sc_law_rise.nd rfl (by first | exact Or.inl rfl | exact Or.inr rfl) (pv 1))
  (pss_cons (ps_for PassesOwn.never rfl (pi_list (pe_revL (pv 0))) (pg_name (i := 4) sc_law_rise.nd rfl (by first | exact Or.inl rfl | exact Or.inr rfl))
  (pss_cons (ps_set (i := 3) sc_law_rise.nd rfl (by first | exact Or.inl rfl | exact Or.inr rfl) (C8.pe_c C_law_height hr (by decide) (by rfl) (pa_cons (pv 4) (pa_cons (pv 3) (pa_cons (pv 2) pa_nil)))))
  (pss_one (ps_if (pt_cmpR op_gt (pv 3) (pv 2) (nomark _)) (pss_one (ps_ret pe_non)) pss_nil))))
  (pss_one (ps_ret (pv 3))))), rd_law_rise h⟩)
theorem bi_law_rise {f : Addr} {fd : FuncData} (F : Fun K "_law_rise" "_law_rise" s_law_rise f fd) : Binds K fd ["blank", "below", "copies"] [] := F.binds fun _ _ _ _ _ _ us hl => match us, hl with | [_, _, _], _ => rfl
abbrev s_law_lift : Stmt := topS 19
theorem sc_law_lift : FnScope ["blank", "copies", "below"] ["blank", "copies"] (defScope s_law_lift) := ⟨rfl, rfl, rfl, by decide +kernel, rfl, by decide +kernel, by decide +kernel⟩
theorem ln_law_lift {vs : List V} {H : Hp} {Q : VK} {E : XK} (h : sp_law_lift K A vs H Q E) : vs.length = 2 := by
  first | (obtain ⟨_, rfl, _⟩ := h; rfl) | (obtain ⟨_, _, rfl, _⟩ := h; rfl) | (obtain ⟨_, _, _, rfl, _⟩ := h; rfl) | (obtain ⟨_, _, _, _, rfl, _⟩ := h; rfl) | (obtain ⟨_, _, _, _, _, rfl, _⟩ := h; rfl) | (obtain ⟨_, _, _, _, _, _, rfl, _⟩ := h; rfl) | (obtain ⟨_, _, _, _, _, _, _, rfl, _⟩ := h; rfl) | (obtain ⟨_, _, _, _, _, _, _, _, rfl, _⟩ := h; rfl) | (obtain ⟨_, _, _, _, _, _, _, _, _, rfl, _⟩ := h; rfl) | (obtain ⟨_, _, _, _, _, _, _, _, _, _, rfl, _⟩ := h; rfl) | (obtain ⟨_, _, _, _, _, _, _, _, _, _, _, rfl, _⟩ := h; rfl) | (obtain ⟨_, _, _, _, _, _, _, _, _, _, _, _, rfl, _⟩ := h; rfl) | (obtain ⟨_, _, _, _, _, _, _, _, _, _, _, _, _, rfl, _⟩ := h; rfl) | (obtain ⟨_, _, _, _, _, _, _, _, _, _, _, _, _, _, rfl, _⟩ := h; rfl) | (obtain ⟨_, _, _, _, _, _, _, _, _, _, _, _, _, _, _, rfl, _⟩ := h; rfl) | (obtain ⟨_, _, _, _, _, _, _, _, _, _, _, _, _, _, _, _, rfl, _⟩ := h; rfl) | (obtain ⟨_, _, _, _, _, _, _, _, _, _, _, _, _, _, _, _, _, rfl, _⟩ := h; rfl) | (obtain ⟨_, _, _, _, _, _, _, _, _, _, _, _, _, _, _, _, _, _, rfl, _⟩ := h; rfl) | (obtain ⟨_, _, _, _, _, _, _, _, _, _, _, _, _, _, _, _, _, _, _, rfl, _⟩ := h; rfl)
theorem fn_law_lift {f : Addr} {fd : FuncData} (F : Fun K "_law_lift" "_law_lift" s_law_lift f fd) (T : Txt mg A) (C : CT K A) (C_law_rise : C8.Cal P w K mg base 2 "_law_rise" (sp_law_rise K A) []) : FnOk P w K mg base CX0 3 f fd ["blank", "copies"] (sp_law_lift K A) :=
  F.ok sc_law_lift (fun vs H Q E h => ln_law_lift h) (fun cdv Ar outer s H vs Q E hr h => ⟨t_law_lift K A, (pss_one (ps_ret (pe_lc (own := [("below", 2)]) (g := (gName 2)) (tt := tYes) rfl sc_law_lift.nd (pi_range1 (by rfl) T.b_range (pa_cons (pe_op op_add (pv 1) pe_int) pa_nil)) (blkOk_by (own := [("below", 2)]) (N := ["blank", "copies", "below"]) (sc := defScope s_law_lift) (by decide +kernel)) (fun _ _ _ _ _ => (pg_name (i := 2) sc_law_lift.nd rfl (by first | exact Or.inl rfl | exact Or.inr rfl))) (fun _ _ _ _ _ => pts_nil) (fun _ _ _ _ _ => (C8.pe_c C_law_rise hr (by decide) (by rfl) (pa_cons (pv 0) (pa_cons (pv 2) (pa_cons (pv 1) pa_nil)))))))), rd_law_lift h⟩)
theorem bi_law_lift {f : Addr} {fd : FuncData} (F : Fun K "_law_lift" "_law_lift" s_law_lift f fd) : Binds K fd ["blank", "copies"] [] := F.binds fun _ _ _ _ _ _ us hl => match us, hl with | [_, _], _ => rfl
abbrev s_law_doubled : Stmt := topS 20
theorem sc_law_doubled : FnScope ["bag", "blank", "following", "count", "place"] ["bag", "blank"] (defScope s_law_doubled) := ⟨rfl, rfl, rfl, by decide +kernel, rfl, by decide +kernel, by decide +kernel⟩
theorem ln_law_doubled {vs : List V} {H : Hp} {Q : VK} {E : XK} (h : sp_law_doubled K A vs H Q E) : vs.length = 2 := by
  first | (obtain ⟨_, rfl, _⟩ := h; rfl) | (obtain ⟨_, _, rfl, _⟩ := h; rfl) | (obtain ⟨_, _, _, rfl, _⟩ := h; rfl) | (obtain ⟨_, _, _, _, rfl, _⟩ := h; rfl) | (obtain ⟨_, _, _, _, _, rfl, _⟩ := h; rfl) | (obtain ⟨_, _, _, _, _, _, rfl, _⟩ := h; rfl) | (obtain ⟨_, _, _, _, _, _, _, rfl, _⟩ := h; rfl) | (obtain ⟨_, _, _, _, _, _, _, _, rfl, _⟩ := h; rfl) | (obtain ⟨_, _, _, _, _, _, _, _, _, rfl, _⟩ := h; rfl) | (obtain ⟨_, _, _, _, _, _, _, _, _, _, rfl, _⟩ := h; rfl) | (obtain ⟨_, _, _, _, _, _, _, _, _, _, _, rfl, _⟩ := h; rfl) | (obtain ⟨_, _, _, _, _, _, _, _, _, _, _, _, rfl, _⟩ := h; rfl) | (obtain ⟨_, _, _, _, _, _, _, _, _, _, _, _, _, rfl, _⟩ := h; rfl) | (obtain ⟨_, _, _, _, _, _, _, _, _, _, _, _, _, _, rfl, _⟩ := h; rfl) | (obtain ⟨_, _, _, _, _, _, _, _, _, _, _, _, _, _, _, rfl, _⟩ := h; rfl) | (obtain ⟨_, _, _, _, _, _, _, _, _, _, _, _, _, _, _, _, rfl, _⟩ := h; rfl) | (obtain ⟨_, _, _, _, _, _, _, _, _, _, _, _, _, _, _, _, _, rfl, _⟩ := h; rfl) | (obtain ⟨_, _, _, _, _, _, _, _, _, _, _, _, _, _, _, _, _, _, rfl, _⟩ := h; rfl) | (obtain ⟨_, _, _, _, _, _, _, _, _, _, _, _, _, _, _, _, _, _, _, rfl, _⟩ := h; rfl)
theorem fn_law_doubled {f : Addr} {fd : FuncData} (F : Fun K "_law_doubled" "_law_doubled" s_law_doubled f fd) (T : Txt mg A) (C : CT K A) (C_law_take : C8.Cal P w K mg base 1 "_law_take" (sp_law_take K A) []) : FnOk P w K mg base CX0 2 f fd ["bag", "blank"] (sp_law_doubled K A) :=
  F.ok sc_law_doubled (fun vs H Q E h => ln_law_doubled h) (fun cdv Ar outer s H vs Q E hr h => ⟨t_law_doubled K A, (pss_cons (ps_set (i := 2) sc_law_doubled.nd rfl (by first | exact Or.inl rfl | exact Or.inr rfl) (pe_lst pa_nil))
  (pss_cons (ps_for PassesOwn.never rfl (pi_list (pv 1)) (pg_name (i := 3) sc_law_doubled.nd rfl (by first | exact Or.inl rfl | exact Or.inr rfl))
  (pss_one (ps_if (pt_cmpR op_lt (pv 3) pe_int (nomark _)) (pss_one (ps_expr (pe_bm PySem.F.plainAttrs_list PySem.F.slot_list_append PySem.F.type_list_append mt_append (pv 2) (pa_cons (pv 3) pa_nil)))) (pss_one (ps_set (i := 2) sc_law_doubled.nd rfl (by first | exact Or.inl rfl | exact Or.inr rfl) (pe_op op_cat (pv 2) (pe_lc (own := [("place", 4)]) (g := (gName 4)) (tt := tYes) rfl sc_law_doubled.nd (pi_range1 (by rfl) T.b_range (pa_cons (pe_op op_add pe_int (C8.pe_c C_law_take hr (by decide) (by rfl) (pa_cons (pv 0) (pa_cons pe_int pa_nil)))) pa_nil)) (blkOk_by (own := [("place", 4)]) (N := ["bag", "blank", "following", "count", "place"]) (sc := defScope s_law_doubled) (by decide +kernel)) (fun _ _ _ _ _ => (pg_name (i := 4) sc_law_doubled.nd rfl (by first | exact Or.inl rfl | exact Or.inr rfl))) (fun _ _ _ _ _ => pts_nil) (fun _ _ _ _ _ => (pe_op op_add pe_int (C8.pe_c C_law_take hr (by decide) (by rfl) (pa_cons (pv 0) (pa_cons pe_int pa_nil))))))))))))
  (pss_one (ps_ret (pv 2))))), rd_law_doubled h⟩)
theorem bi_law_doubled {f : Addr} {fd : FuncData} (F : Fun K "_law_doubled" "_law_doubled" s_law_doubled f fd) : Binds K fd ["bag", "blank"] [] := F.binds fun _ _ _ _ _ _ us hl => match us, hl with | [_, _], _ => rfl
abbrev s_law_second : Stmt := topS 21
theorem sc_law_second : FnScope ["bag", "blank", "way", "at"] ["bag", "blank"] (defScope s_law_second) := ⟨rfl, rfl, rfl, by decide +kernel, rfl, by decide +kernel, by decide +kernel⟩
theorem ln_law_second {vs : List V} {H : Hp} {Q : VK} {E : XK} (h : sp_law_second K A vs H Q E) : vs.length = 2 := by
  first | (obtain ⟨_, rfl, _⟩ := h; rfl) | (obtain ⟨_, _, rfl, _⟩ := h; rfl) | (obtain ⟨_, _, _, rfl, _⟩ := h; rfl) | (obtain ⟨_, _, _, _, rfl, _⟩ := h; rfl) | (obtain ⟨_, _, _, _, _, rfl, _⟩ := h; rfl) | (obtain ⟨_, _, _, _, _, _, rfl, _⟩ := h; rfl) | (obtain ⟨_, _, _, _, _, _, _, rfl, _⟩ := h; rfl) | (obtain ⟨_, _, _, _, _, _, _, _, rfl, _⟩ := h; rfl) | (obtain ⟨_, _, _, _, _, _, _, _, _, rfl, _⟩ := h; rfl) | (obtain ⟨_, _, _, _, _, _, _, _, _, _, rfl, _⟩ := h; rfl) | (obtain ⟨_, _, _, _, _, _, _, _, _, _, _, rfl, _⟩ := h; rfl) | (obtain ⟨_, _, _, _, _, _, _, _, _, _, _, _, rfl, _⟩ := h; rfl) | (obtain ⟨_, _, _, _, _, _, _, _, _, _, _, _, _, rfl, _⟩ := h; rfl) | (obtain ⟨_, _, _, _, _, _, _, _, _, _, _, _, _, _, rfl, _⟩ := h; rfl) | (obtain ⟨_, _, _, _, _, _, _, _, _, _, _, _, _, _, _, rfl, _⟩ := h; rfl) | (obtain ⟨_, _, _, _, _, _, _, _, _, _, _, _, _, _, _, _, rfl, _⟩ := h; rfl) | (obtain ⟨_, _, _, _, _, _, _, _, _, _, _, _, _, _, _, _, _, rfl, _⟩ := h; rfl) | (obtain ⟨_, _, _, _, _, _, _, _, _, _, _, _, _, _, _, _, _, _, rfl, _⟩ := h; rfl) | (obtain ⟨_, _, _, _, _, _, _, _, _, _, _, _, _, _, _, _, _, _, _, rfl, _⟩ := h; rfl)
theorem fn_law_second {f : Addr} {fd : FuncData} (F : Fun K "_law_second" "_law_second" s_law_second f fd) (T : Txt mg A) (C : CT K A) (C_law_doubled : C8.Cal P w K mg base 2 "_law_doubled" (sp_law_doubled K A) []) (C_law_page : C8.Cal P w K mg base 2 "_law_page" (sp_law_page K A) []) (C_law_pages : C8.Cal P w K mg base 3 "_law_pages" (sp_law_pages K A) []) (C_law_take : C8.Cal P w K mg base 1 "_law_take" (sp_law_take K A) []) : FnOk P w K mg base CX0 4 f fd ["bag", "blank"] (sp_law_second K A) :=
  F.ok sc_law_second (fun vs H Q E h => ln_law_second h) (fun cdv Ar outer s H vs Q E hr h => ⟨t_law_second K A, (pss_cons (ps_set (i := 2) sc_law_second.nd rfl (by first | exact Or.inl rfl | exact Or.inr rfl) (C8.pe_c C_law_take hr (by decide) (by rfl) (pa_cons (pv 0) (pa_cons pe_int pa_nil))))
  (pss_cons (ps_set (i := 3) sc_law_second.nd rfl (by first | exact Or.inl rfl | exact Or.inr rfl) (C8.pe_c C_law_take hr (by decide) (by rfl) (pa_cons (pv 0) (pa_cons (pe_op op_add (pe_callB call_len_seq (by rfl) T.b_len (by decide +kernel) (pa_cons (pv 1) pa_nil)) pe_int) pa_nil))))
  (pss_cons (ps_if (pt_cmpR op_eq (pv 2) pe_int (nomark _)) (pss_one (ps_ret (C8.pe_c C_law_pages hr (by decide) (by rfl) (pa_cons (pv 0) pa_nil)))) pss_nil)
  (pss_cons (ps_if (PW.pt (pw_and (pt_cmpR op_eq (pv 2) pe_int (nomark _)) (pw_and1 (pt_cmpR op_lt (pv 3) (pe_callB call_len_seq (by rfl) T.b_len (by decide +kernel) (pa_cons (pv 1) pa_nil)) (nomark _))))) (pss_one (ps_ret (pe_op op_cat (pe_op op_cat (pe_slice sl_list (pv 1) po_none (po_some (pv 3))) (pe_lst (pa_cons (C8.pe_c C_law_page hr (by decide) (by rfl) (pa_cons (pv 0) pa_nil)) pa_nil))) (pe_slice sl_list (pv 1) (po_some (pe_op op_add (pv 3) pe_int)) po_none)))) pss_nil)
  (pss_cons (ps_if (pt_cmpR op_eq (pv 2) pe_int (nomark _)) (pss_one (ps_ret (pe_op op_cat (pe_op op_cat (pe_slice sl_list (pv 1) po_none (po_some (pv 3))) (pe_lst (pa_cons (C8.pe_c C_law_page hr (by decide) (by rfl) (pa_cons (pv 0) pa_nil)) pa_nil))) (pe_slice sl_list (pv 1) (po_some (pv 3)) po_none)))) pss_nil)
  (pss_cons (ps_if (pt_cmpR op_eq (pv 2) pe_int (nomark _)) (pss_one (ps_ret (pe_op op_cat (pe_slice sl_list (pv 1) po_none (po_some (pv 3))) (pe_slice sl_list (pv 1) (po_some (pe_op op_add (pv 3) pe_int)) po_none)))) pss_nil)
  (pss_cons (ps_if (pt_cmpR op_eq (pv 2) pe_int (nomark _)) (pss_one (ps_ret (C8.pe_c C_law_doubled hr (by decide) (by rfl) (pa_cons (pv 0) (pa_cons (pv 1) pa_nil))))) pss_nil)
  (pss_cons (ps_if (pt_cmpR op_eq (pv 2) pe_int (nomark _)) (pss_one (ps_ret (pe_op op_cat (pe_op op_cat (pe_slice sl_list (pv 1) po_none (po_some (pv 3))) (pe_lst (pa_cons pe_int pa_nil))) (pe_slice sl_list (pv 1) (po_some (pv 3)) po_none)))) pss_nil)
  (pss_cons (ps_if (pt_cmpR op_eq (pv 2) pe_int (nomark _)) (pss_one (ps_ret (pe_op op_cat (pe_lst (pa_cons (pe_op op_add pe_int (C8.pe_c C_law_take hr (by decide) (by rfl) (pa_cons (pv 0) (pa_cons pe_int pa_nil)))) pa_nil)) (pv 1)))) pss_nil)
  (pss_one (ps_ret (pe_callTy call_list_of (by rfl) T.b_list (by decide +kernel) (pa_cons (pv 1) pa_nil))))))))))))), rd_law_second h⟩)
theorem bi_law_second {f : Addr} {fd : FuncData} (F : Fun K "_law_second" "_law_second" s_law_second f fd) : Binds K fd ["bag", "blank"] [] := F.binds fun _ _ _ _ _ _ us hl => match us, hl with | [_, _], _ => rfl
abbrev s_law_holds : Stmt := topS 22
theorem sc_law_holds : FnScope ["blank", "copies"] ["blank", "copies"] (defScope s_law_holds) := ⟨rfl, rfl, rfl, by decide +kernel, rfl, by decide +kernel, by decide +kernel⟩
theorem ln_law_holds {vs : List V} {H : Hp} {Q : VK} {E : XK} (h : sp_law_holds K A vs H Q E) : vs.length = 2 := by
  first | (obtain ⟨_, rfl, _⟩ := h; rfl) | (obtain ⟨_, _, rfl, _⟩ := h; rfl) | (obtain ⟨_, _, _, rfl, _⟩ := h; rfl) | (obtain ⟨_, _, _, _, rfl, _⟩ := h; rfl) | (obtain ⟨_, _, _, _, _, rfl, _⟩ := h; rfl) | (obtain ⟨_, _, _, _, _, _, rfl, _⟩ := h; rfl) | (obtain ⟨_, _, _, _, _, _, _, rfl, _⟩ := h; rfl) | (obtain ⟨_, _, _, _, _, _, _, _, rfl, _⟩ := h; rfl) | (obtain ⟨_, _, _, _, _, _, _, _, _, rfl, _⟩ := h; rfl) | (obtain ⟨_, _, _, _, _, _, _, _, _, _, rfl, _⟩ := h; rfl) | (obtain ⟨_, _, _, _, _, _, _, _, _, _, _, rfl, _⟩ := h; rfl) | (obtain ⟨_, _, _, _, _, _, _, _, _, _, _, _, rfl, _⟩ := h; rfl) | (obtain ⟨_, _, _, _, _, _, _, _, _, _, _, _, _, rfl, _⟩ := h; rfl) | (obtain ⟨_, _, _, _, _, _, _, _, _, _, _, _, _, _, rfl, _⟩ := h; rfl) | (obtain ⟨_, _, _, _, _, _, _, _, _, _, _, _, _, _, _, rfl, _⟩ := h; rfl) | (obtain ⟨_, _, _, _, _, _, _, _, _, _, _, _, _, _, _, _, rfl, _⟩ := h; rfl) | (obtain ⟨_, _, _, _, _, _, _, _, _, _, _, _, _, _, _, _, _, rfl, _⟩ := h; rfl) | (obtain ⟨_, _, _, _, _, _, _, _, _, _, _, _, _, _, _, _, _, _, rfl, _⟩ := h; rfl) | (obtain ⟨_, _, _, _, _, _, _, _, _, _, _, _, _, _, _, _, _, _, _, rfl, _⟩ := h; rfl)
theorem fn_law_holds {f : Addr} {fd : FuncData} (F : Fun K "_law_holds" "_law_holds" s_law_holds f fd) (T : Txt mg A) (C : CT K A) (C_law_rise : C8.Cal P w K mg base 2 "_law_rise" (sp_law_rise K A) []) : FnOk P w K mg base CX0 3 f fd ["blank", "copies"] (sp_law_holds K A) :=
  F.ok sc_law_holds (fun vs H Q E h => ln_law_holds h) (fun cdv Ar outer s H vs Q E hr h => ⟨t_law_holds K A, (pss_one (ps_ret (pe_cmp (pc_notN (C8.pe_c C_law_rise hr (by decide) (by rfl) (pa_cons (pv 0) (pa_cons pe_int (pa_cons (pv 1) pa_nil)))))))), rd_law_holds h⟩)
theorem bi_law_holds {f : Addr} {fd : FuncData} (F : Fun K "_law_holds" "_law_holds" s_law_holds f fd) : Binds K fd ["blank", "copies"] [] := F.binds fun _ _ _ _ _ _ us hl => match us, hl with | [_, _], _ => rfl
abbrev s_law_stands : Stmt := topS 23
theorem sc_law_stands : FnScope ["made", "blank", "above", "below", "copies", "whole", "answer"] ["made", "blank", "above", "below", "copies"] (defScope s_law_stands) := ⟨rfl, rfl, rfl, by decide +kernel, rfl, by decide +kernel, by decide +kernel⟩
theorem ln_law_stands {vs : List V} {H : Hp} {Q : VK} {E : XK} (h : sp_law_stands K A vs H Q E) : vs.length = 5 := by
  first | (obtain ⟨_, rfl, _⟩ := h; rfl) | (obtain ⟨_, _, rfl, _⟩ := h; rfl) | (obtain ⟨_, _, _, rfl, _⟩ := h; rfl) | (obtain ⟨_, _, _, _, rfl, _⟩ := h; rfl) | (obtain ⟨_, _, _, _, _, rfl, _⟩ := h; rfl) | (obtain ⟨_, _, _, _, _, _, rfl, _⟩ := h; rfl) | (obtain ⟨_, _, _, _, _, _, _, rfl, _⟩ := h; rfl) | (obtain ⟨_, _, _, _, _, _, _, _, rfl, _⟩ := h; rfl) | (obtain ⟨_, _, _, _, _, _, _, _, _, rfl, _⟩ := h; rfl) | (obtain ⟨_, _, _, _, _, _, _, _, _, _, rfl, _⟩ := h; rfl) | (obtain ⟨_, _, _, _, _, _, _, _, _, _, _, rfl, _⟩ := h; rfl) | (obtain ⟨_, _, _, _, _, _, _, _, _, _, _, _, rfl, _⟩ := h; rfl) | (obtain ⟨_, _, _, _, _, _, _, _, _, _, _, _, _, rfl, _⟩ := h; rfl) | (obtain ⟨_, _, _, _, _, _, _, _, _, _, _, _, _, _, rfl, _⟩ := h; rfl) | (obtain ⟨_, _, _, _, _, _, _, _, _, _, _, _, _, _, _, rfl, _⟩ := h; rfl) | (obtain ⟨_, _, _, _, _, _, _, _, _, _, _, _, _, _, _, _, rfl, _⟩ := h; rfl) | (obtain ⟨_, _, _, _, _, _, _, _, _, _, _, _, _, _, _, _, _, rfl, _⟩ := h; rfl) | (obtain ⟨_, _, _, _, _, _, _, _, _, _, _, _, _, _, _, _, _, _, rfl, _⟩ := h; rfl) | (obtain ⟨_, _, _, _, _, _, _, _, _, _, _, _, _, _, _, _, _, _, _, rfl, _⟩ := h; rfl)
theorem fn_law_stands {f : Addr} {fd : FuncData} (F : Fun K "_law_stands" "_law_stands" s_law_stands f fd) (T : Txt mg A) (C : CT K A) (C_Stretch_add : GX.AddX P w K mg base 5 A.Stretch (sp_Stretch_add K A)) (C_Stretch_init : C8.Mak P w K mg base 3 "Stretch" A.Stretch (sp_Stretch_init K A) []) (C_Stretch_is_keepable : C8.Met P w K mg base 1 A.Stretch "is_keepable" (sp_Stretch_is_keepable K A) []) (C_law_holds : C8.Cal P w K mg base 3 "_law_holds" (sp_law_holds K A) []) : FnOk P w K mg base CX0 6 f fd ["made", "blank", "above", "below", "copies"] (sp_law_stands K A) :=
  F.ok sc_law_stands (fun vs H Q E h => ln_law_stands h) (fun cdv Ar outer s H vs Q E hr h => ⟨t_law_stands K A, (pss_cons (ps_set (i := 5) sc_law_stands.nd rfl (by first | exact Or.inl rfl | exact Or.inr rfl) (pe_op (GX.op_addX C_Stretch_add hr (by decide) passL) (pe_op (GX.op_addX C_Stretch_add hr (by decide) passL) (C8.pe_mk C_Stretch_init hr (by decide) (by rfl) (pa_cons (pe_callTy call_list_of (by rfl) T.b_list (by decide +kernel) (pa_cons (pv 2) pa_nil)) (pa_cons (pv 4) pa_nil))) (pv 0)) (C8.pe_mk C_Stretch_init hr (by decide) (by rfl) (pa_cons (pe_callTy call_list_of (by rfl) T.b_list (by decide +kernel) (pa_cons (pv 3) pa_nil)) (pa_cons (pv 4) pa_nil)))))
  (pss_cons (ps_set (i := 6) sc_law_stands.nd rfl (by first | exact Or.inl rfl | exact Or.inr rfl) (C8.pe_mt0 C_Stretch_is_keepable hr (by decide) (pv 5)))
  (pss_one (ps_ret (pe_and (pe_callB call_isi (by rfl) T.b_isinstance (by decide +kernel) (pa_cons (pv 6) (pa_cons (pe_bltn (v := .ty "bool") (by rfl) T.b_bool (by decide +kernel) rfl) pa_nil))) (pe_one (pe_cmpR op_eq (pv 6) (C8.pe_c C_law_holds hr (by decide) (by rfl) (pa_cons (pe_op op_cat (pe_op op_cat (pv 2) (pv 1)) (pv 3)) (pa_cons (pv 4) pa_nil))) (nomark _)))))))), rd_law_stands C h⟩)
theorem bi_law_stands {f : Addr} {fd : FuncData} (F : Fun K "_law_stands" "_law_stands" s_law_stands f fd) : Binds K fd ["made", "blank", "above", "below", "copies"] [] := F.binds fun _ _ _ _ _ _ us hl => match us, hl with | [_, _, _, _, _], _ => rfl
abbrev s_law_parts : Stmt := topS 24
theorem sc_law_parts : FnScope ["told", "first", "second", "copies", "blank", "count", "left"] ["told", "first", "second", "copies"] (defScope s_law_parts) := ⟨rfl, rfl, rfl, by decide +kernel, rfl, by decide +kernel, by decide +kernel⟩
theorem ln_law_parts {vs : List V} {H : Hp} {Q : VK} {E : XK} (h : sp_law_parts K A vs H Q E) : vs.length = 4 := by
  first | (obtain ⟨_, rfl, _⟩ := h; rfl) | (obtain ⟨_, _, rfl, _⟩ := h; rfl) | (obtain ⟨_, _, _, rfl, _⟩ := h; rfl) | (obtain ⟨_, _, _, _, rfl, _⟩ := h; rfl) | (obtain ⟨_, _, _, _, _, rfl, _⟩ := h; rfl) | (obtain ⟨_, _, _, _, _, _, rfl, _⟩ := h; rfl) | (obtain ⟨_, _, _, _, _, _, _, rfl, _⟩ := h; rfl) | (obtain ⟨_, _, _, _, _, _, _, _, rfl, _⟩ := h; rfl) | (obtain ⟨_, _, _, _, _, _, _, _, _, rfl, _⟩ := h; rfl) | (obtain ⟨_, _, _, _, _, _, _, _, _, _, rfl, _⟩ := h; rfl) | (obtain ⟨_, _, _, _, _, _, _, _, _, _, _, rfl, _⟩ := h; rfl) | (obtain ⟨_, _, _, _, _, _, _, _, _, _, _, _, rfl, _⟩ := h; rfl) | (obtain ⟨_, _, _, _, _, _, _, _, _, _, _, _, _, rfl, _⟩ := h; rfl) | (obtain ⟨_, _, _, _, _, _, _, _, _, _, _, _, _, _, rfl, _⟩ := h; rfl) | (obtain ⟨_, _, _, _, _, _, _, _, _, _, _, _, _, _, _, rfl, _⟩ := h; rfl) | (obtain ⟨_, _, _, _, _, _, _, _, _, _, _, _, _, _, _, _, rfl, _⟩ := h; rfl) | (obtain ⟨_, _, _, _, _, _, _, _, _, _, _, _, _, _, _, _, _, rfl, _⟩ := h; rfl) | (obtain ⟨_, _, _, _, _, _, _, _, _, _, _, _, _, _, _, _, _, _, rfl, _⟩ := h; rfl) | (obtain ⟨_, _, _, _, _, _, _, _, _, _, _, _, _, _, _, _, _, _, _, rfl, _⟩ := h; rfl)
theorem fn_law_parts {f : Addr} {fd : FuncData} (F : Fun K "_law_parts" "_law_parts" s_law_parts f fd) (T : Txt mg A) (C : CT K A) (C_law_holds : C8.Cal P w K mg base 3 "_law_holds" (sp_law_holds K A) []) (C_law_is_integer : C8.Cal P w K mg base 1 "_law_is_integer" (sp_law_is_integer K A) []) : FnOk P w K mg base CX0 4 f fd ["told", "first", "second", "copies"] (sp_law_parts K A) :=
  F.ok sc_law_parts (fun vs H Q E h => ln_law_parts h) (fun cdv Ar outer s H vs Q E hr h => ⟨t_law_parts K A, (pss_cons (ps_if (PW.pt (pw_or (pt_not (pt_val (pe_callB call_isi (by rfl) T.b_isinstance (by decide +kernel) (pa_cons (pv 0) (pa_cons (pe_bltn (v := .ty "tuple") (by rfl) T.b_tuple (by decide +kernel) rfl) pa_nil))) (by intro _; rfl))) (pw_or1 (pt_cmpR op_ne (pe_callB call_len_seq (by rfl) T.b_len (by decide +kernel) (pa_cons (pv 0) pa_nil)) pe_int (nomark _))))) (pss_one (ps_ret pe_bl)) pss_nil)
  (pss_cons (ps_for PassesOwn.never rfl (pi_list (pe_lst (pa_cons (pe_ix ix_tup (pv 0) pe_int (fun _ _ => rfl)) (pa_cons (pe_ix ix_tup (pv 0) pe_int (fun _ _ => rfl)) pa_nil)))) (pg_name (i := 4) sc_law_parts.nd rfl (by first | exact Or.inl rfl | exact Or.inr rfl))
  (pss_cons (ps_if (PW.pt (pw_or (pt_not (pt_val (pe_callB call_isi (by rfl) T.b_isinstance (by decide +kernel) (pa_cons (pv 4) (pa_cons (pe_bltn (v := .ty "list") (by rfl) T.b_list (by decide +kernel) rfl) pa_nil))) (by intro _; rfl))) (pw_or1 (pt_not (pt_val (pe_callB (cr_all rfl) (by rfl) T.b_all (by decide +kernel) (pa_cons (pe_lc (own := [("count", 5)]) (g := (gName 5)) (tt := tYes) rfl sc_law_parts.nd (pi_list (pv 4)) (blkOk_by (own := [("count", 5)]) (N := ["told", "first", "second", "copies", "blank", "count", "left"]) (sc := defScope s_law_parts) (by decide +kernel)) (fun _ _ _ _ _ => (pg_name (i := 5) sc_law_parts.nd rfl (by first | exact Or.inl rfl | exact Or.inr rfl))) (fun _ _ _ _ _ => pts_nil) (fun _ _ _ _ _ => (C8.pe_c C_law_is_integer hr (by decide) (by rfl) (pa_cons (pv 5) pa_nil)))) pa_nil)) (by intro _; rfl)))))) (pss_one (ps_ret pe_bl)) pss_nil)
  (pss_one (ps_if (pt_val (pe_callB (cr_any rfl) (by rfl) T.b_any (by decide +kernel) (pa_cons (pe_lc (own := [("count", 5)]) (g := (gName 5)) (tt := tYes) rfl sc_law_parts.nd (pi_list (pv 4)) (blkOk_by (own := [("count", 5)]) (N := ["told", "first", "second", "copies", "blank", "count", "left"]) (sc := defScope s_law_parts) (by decide +kernel)) (fun _ _ _ _ _ => (pg_name (i := 5) sc_law_parts.nd rfl (by first | exact Or.inl rfl | exact Or.inr rfl))) (fun _ _ _ _ _ => pts_nil) (fun _ _ _ _ _ => (pe_cmpR op_lt (pv 5) pe_int (nomark _)))) pa_nil)) (by intro _; rfl)) (pss_one (ps_ret pe_bl)) pss_nil))))
  (pss_cons (ps_set (i := 6) sc_law_parts.nd rfl (by first | exact Or.inl rfl | exact Or.inr rfl) (C8.pe_c C_law_holds hr (by decide) (by rfl) (pa_cons (pe_op op_cat (pe_op op_cat (pe_ix ix_tup (pv 0) pe_int (fun _ _ => rfl)) (pv 1)) (pe_ix ix_tup (pv 0) pe_int (fun _ _ => rfl))) (pa_cons (pv 3) pa_nil))))
  (pss_one (ps_ret (pe_cmpR op_ne (pv 6) (C8.pe_c C_law_holds hr (by decide) (by rfl) (pa_cons (pe_op op_cat (pe_op op_cat (pe_ix ix_tup (pv 0) pe_int (fun _ _ => rfl)) (pv 2)) (pe_ix ix_tup (pv 0) pe_int (fun _ _ => rfl))) (pa_cons (pv 3) pa_nil))) (nomark _))))))), rd_law_parts h⟩)
theorem bi_law_parts {f : Addr} {fd : FuncData} (F : Fun K "_law_parts" "_law_parts" s_law_parts f fd) : Binds K fd ["told", "first", "second", "copies"] [] := F.binds fun _ _ _ _ _ _ us hl => match us, hl with | [_, _, _, _], _ => rfl
abbrev s_law_parted : Stmt := topS 25
theorem sc_law_parted : FnScope ["one", "two", "first", "second", "copies", "alike", "turn", "told", "above", "below", "answer"] ["one", "two", "first", "second", "copies"] (defScope s_law_parted) := ⟨rfl, rfl, rfl, by decide +kernel, rfl, by decide +kernel, by decide +kernel⟩
theorem ln_law_parted {vs : List V} {H : Hp} {Q : VK} {E : XK} (h : sp_law_parted K A vs H Q E) : vs.length = 5 := by
  first | (obtain ⟨_, rfl, _⟩ := h; rfl) | (obtain ⟨_, _, rfl, _⟩ := h; rfl) | (obtain ⟨_, _, _, rfl, _⟩ := h; rfl) | (obtain ⟨_, _, _, _, rfl, _⟩ := h; rfl) | (obtain ⟨_, _, _, _, _, rfl, _⟩ := h; rfl) | (obtain ⟨_, _, _, _, _, _, rfl, _⟩ := h; rfl) | (obtain ⟨_, _, _, _, _, _, _, rfl, _⟩ := h; rfl) | (obtain ⟨_, _, _, _, _, _, _, _, rfl, _⟩ := h; rfl) | (obtain ⟨_, _, _, _, _, _, _, _, _, rfl, _⟩ := h; rfl) | (obtain ⟨_, _, _, _, _, _, _, _, _, _, rfl, _⟩ := h; rfl) | (obtain ⟨_, _, _, _, _, _, _, _, _, _, _, rfl, _⟩ := h; rfl) | (obtain ⟨_, _, _, _, _, _, _, _, _, _, _, _, rfl, _⟩ := h; rfl) | (obtain ⟨_, _, _, _, _, _, _, _, _, _, _, _, _, rfl, _⟩ := h; rfl) | (obtain ⟨_, _, _, _, _, _, _, _, _, _, _, _, _, _, rfl, _⟩ := h; rfl) | (obtain ⟨_, _, _, _, _, _, _, _, _, _, _, _, _, _, _, rfl, _⟩ := h; rfl) | (obtain ⟨_, _, _, _, _, _, _, _, _, _, _, _, _, _, _, _, rfl, _⟩ := h; rfl) | (obtain ⟨_, _, _, _, _, _, _, _, _, _, _, _, _, _, _, _, _, rfl, _⟩ := h; rfl) | (obtain ⟨_, _, _, _, _, _, _, _, _, _, _, _, _, _, _, _, _, _, rfl, _⟩ := h; rfl) | (obtain ⟨_, _, _, _, _, _, _, _, _, _, _, _, _, _, _, _, _, _, _, rfl, _⟩ := h; rfl)
theorem fn_law_parted {f : Addr} {fd : FuncData} (F : Fun K "_law_parted" "_law_parted" s_law_parted f fd) (T : Txt mg A) (C : CT K A) (C_Stretch_eq : GX.EqX P w K mg base 1 A.Stretch (sp_Stretch_eq K A)) (C_law_lift : C8.Cal P w K mg base 3 "_law_lift" (sp_law_lift K A) []) (C_law_parts : C8.Cal P w K mg base 4 "_law_parts" (sp_law_parts K A) []) (C_law_stands : C8.Cal P w K mg base 6 "_law_stands" (sp_law_stands K A) []) (C_parting : GX.CalX P w K mg base 3 "parting" (sp_parting K A)) : FnOk P w K mg base CX0 7 f fd ["one", "two", "first", "second", "copies"] (sp_law_parted K A) :=
  F.ok sc_law_parted (fun vs H Q E h => ln_law_parted h) (fun cdv Ar outer s H vs Q E hr h => ⟨t_law_parted K A, (pss_cons (ps_set (i := 5) sc_law_parted.nd rfl (by first | exact Or.inl rfl | exact Or.inr rfl) (pe_cmpR (op_eqD hr.units) (C8.pe_c C_law_lift hr (by decide) (by rfl) (pa_cons (pv 2) (pa_cons (pv 4) pa_nil))) (C8.pe_c C_law_lift hr (by decide) (by rfl) (pa_cons (pv 3) (pa_cons (pv 4) pa_nil))) (nomark _)))
  (pss_cons (ps_for PassesOwn.never rfl (pi_range1 (by rfl) T.b_range (pa_cons pe_int pa_nil)) (pg_name (i := 6) sc_law_parted.nd rfl (by first | exact Or.inl rfl | exact Or.inr rfl))
  (pss_cons (ps_set (i := 7) sc_law_parted.nd rfl (by first | exact Or.inl rfl | exact Or.inr rfl) (GX.pe_cX C_parting hr (by decide) (by rfl) passL (pa_cons (pv 0) (pa_cons (pv 1) pa_nil))))
  (pss_cons (ps_if (PW.pt (pw_and (pt_val (pv 5) (by intro _; rfl)) (pw_and1 (pt_cmp (pc_notN (pv 7)))))) (pss_one (ps_ret pe_bl)) pss_nil)
  (pss_one (ps_if (pt_not (pt_val (pv 5) (by intro _; rfl))) (pss_cons (ps_if (pt_not (pt_val (C8.pe_c C_law_parts hr (by decide) (by rfl) (pa_cons (pv 7) (pa_cons (pv 2) (pa_cons (pv 3) (pa_cons (pv 4) pa_nil))))) (by intro _; rfl))) (pss_one (ps_ret pe_bl)) pss_nil)
  (pss_cons (ps_set (i := 8) sc_law_parted.nd rfl (by first | exact Or.inl rfl | exact Or.inr rfl) (pe_ix ix_tup (pv 7) pe_int (fun _ _ => rfl)))
  (pss_cons (ps_set (i := 9) sc_law_parted.nd rfl (by first | exact Or.inl rfl | exact Or.inr rfl) (pe_ix ix_tup (pv 7) pe_int (fun _ _ => rfl)))
  (pss_cons (ps_if (pt_not (pt_val (C8.pe_c C_law_stands hr (by decide) (by rfl) (pa_cons (pv 0) (pa_cons (pv 2) (pa_cons (pv 8) (pa_cons (pv 9) (pa_cons (pv 4) pa_nil)))))) (by intro _; rfl))) (pss_one (ps_ret pe_bl)) pss_nil)
  (pss_cons (ps_if (pt_not (pt_val (C8.pe_c C_law_stands hr (by decide) (by rfl) (pa_cons (pv 1) (pa_cons (pv 3) (pa_cons (pv 8) (pa_cons (pv 9) (pa_cons (pv 4) pa_nil)))))) (by intro _; rfl))) (pss_one (ps_ret pe_bl)) pss_nil)
  (pss_cons (ps_expr (pe_bm PySem.F.plainAttrs_list PySem.F.slot_list_append PySem.F.type_list_append mt_append (pv 8) (pa_cons pe_int pa_nil)))
  (pss_one (ps_expr (pe_bm PySem.F.plainAttrs_list PySem.F.slot_list_insert PySem.F.type_list_insert GX.mt_ins (pv 9) (pa_cons pe_int (pa_cons pe_int pa_nil))))))))))) pss_nil)))))
  (pss_cons (ps_set (i := 10) sc_law_parted.nd rfl (by first | exact Or.inl rfl | exact Or.inr rfl) (pe_cmpR (GX.op_eqX C_Stretch_eq hr (by decide)) (pv 0) (pv 1) (nomark _)))
  (pss_one (ps_ret (pe_and (pe_callB call_isi (by rfl) T.b_isinstance (by decide +kernel) (pa_cons (pv 10) (pa_cons (pe_bltn (v := .ty "bool") (by rfl) T.b_bool (by decide +kernel) rfl) pa_nil))) (pe_one (pe_cmpR op_eq (pv 10) (pv 5) (nomark _))))))))), rd_law_parted h⟩)
theorem bi_law_parted {f : Addr} {fd : FuncData} (F : Fun K "_law_parted" "_law_parted" s_law_parted f fd) : Binds K fd ["one", "two", "first", "second", "copies"] [] := F.binds fun _ _ _ _ _ _ us hl => match us, hl with | [_, _, _, _, _], _ => rfl
abbrev s_law_differs : Stmt := topS 26
theorem sc_law_differs : FnScope ["one", "two", "copies", "other", "raised"] ["one", "two", "copies", "other"] (defScope s_law_differs) := ⟨rfl, rfl, rfl, by decide +kernel, rfl, by decide +kernel, by decide +kernel⟩
theorem ln_law_differs {vs : List V} {H : Hp} {Q : VK} {E : XK} (h : sp_law_differs K A vs H Q E) : vs.length = 4 := by
  first | (obtain ⟨_, rfl, _⟩ := h; rfl) | (obtain ⟨_, _, rfl, _⟩ := h; rfl) | (obtain ⟨_, _, _, rfl, _⟩ := h; rfl) | (obtain ⟨_, _, _, _, rfl, _⟩ := h; rfl) | (obtain ⟨_, _, _, _, _, rfl, _⟩ := h; rfl) | (obtain ⟨_, _, _, _, _, _, rfl, _⟩ := h; rfl) | (obtain ⟨_, _, _, _, _, _, _, rfl, _⟩ := h; rfl) | (obtain ⟨_, _, _, _, _, _, _, _, rfl, _⟩ := h; rfl) | (obtain ⟨_, _, _, _, _, _, _, _, _, rfl, _⟩ := h; rfl) | (obtain ⟨_, _, _, _, _, _, _, _, _, _, rfl, _⟩ := h; rfl) | (obtain ⟨_, _, _, _, _, _, _, _, _, _, _, rfl, _⟩ := h; rfl) | (obtain ⟨_, _, _, _, _, _, _, _, _, _, _, _, rfl, _⟩ := h; rfl) | (obtain ⟨_, _, _, _, _, _, _, _, _, _, _, _, _, rfl, _⟩ := h; rfl) | (obtain ⟨_, _, _, _, _, _, _, _, _, _, _, _, _, _, rfl, _⟩ := h; rfl) | (obtain ⟨_, _, _, _, _, _, _, _, _, _, _, _, _, _, _, rfl, _⟩ := h; rfl) | (obtain ⟨_, _, _, _, _, _, _, _, _, _, _, _, _, _, _, _, rfl, _⟩ := h; rfl) | (obtain ⟨_, _, _, _, _, _, _, _, _, _, _, _, _, _, _, _, _, rfl, _⟩ := h; rfl) | (obtain ⟨_, _, _, _, _, _, _, _, _, _, _, _, _, _, _, _, _, _, rfl, _⟩ := h; rfl) | (obtain ⟨_, _, _, _, _, _, _, _, _, _, _, _, _, _, _, _, _, _, _, rfl, _⟩ := h; rfl)
theorem fn_law_differs {f : Addr} {fd : FuncData} (F : Fun K "_law_differs" "_law_differs" s_law_differs f fd) (T : Txt mg A) (C : CT K A) (Ch_law_is_integer : GX.HotX P w K mg base 1 "_law_is_integer" (fun _ _ _ => sp_law_is_integer K A)) (C_Stretch_eq : GX.EqX P w K mg base 1 A.Stretch (sp_Stretch_eq K A)) (C_parting : GX.CalX P w K mg base 3 "parting" (sp_parting K A)) : FnOk P w K mg base CX0 4 f fd ["one", "two", "copies", "other"] (sp_law_differs K A) :=
  F.ok sc_law_differs (fun vs H Q E h => ln_law_differs h) (fun cdv Ar outer s H vs Q E hr h => ⟨t_law_differs K A, (pss_cons (ps_if (pt_cmpR (GX.op_eqX C_Stretch_eq hr (by decide)) (pv 0) (pv 1) (nomark _)) (pss_one (ps_ret pe_bl)) pss_nil)
  (pss_cons (ps_try_as (i := 4) (tb := fun W => (tDrop (GX.tCallS (sp_parting K A) (WE W) (tCons (tVar 0) (tCons (tVar 1) tNil))))) (ts := fun a cls d => (tSeq (tIfS (tB (tCB (GX.rIsX K a cls d) (tCons (tVar 4) (tCons (tC (.ref A.LotError)) tNil)))) (tRet (tC (.bl false))) tNext)
  (tSeq (tIfS (tOr (tNot (tB (tCB (GX.rIsX K a cls d) (tCons (tVar 4) (tCons (tC (.ref A.OnecopyError)) tNil))))) (tNot (tB (tCB (GX.rIsX K a cls d) (tCons (tVar 4) (tCons (tC (.ty "ValueError")) tNil)))))) (tRet (tC (.bl false))) tNext)
  (tSeq (tIfS (tOr (tNot (tB (GX.tCallG (sp_law_is_integer K A) (tCons (tXf a cls d A.CopiesDiffer "left" (tVar 4)) tNil)))) (tNot (tB (GX.tCallG (sp_law_is_integer K A) (tCons (tXf a cls d A.CopiesDiffer "right" (tVar 4)) tNil))))) (tRet (tC (.bl false))) tNext)
  (tRet (tAndV (tOp rEq (tXf a cls d A.CopiesDiffer "left" (tVar 4)) (tVar 2)) (tOp rEq (tXf a cls d A.CopiesDiffer "right" (tVar 4)) (tVar 3)))))))) (Wout := fun _ _ _ _ => False) rfl rfl sc_law_differs.nd rfl rfl ⟨rfl, by decide, Or.inl T.g_CopiesDiffer⟩ takes0
  (fun W pn xe tk _ => (pss_one (ps_expr (GX.pe_cXT C_parting hr (by decide) (by rfl) tk (pa_cons (pv 0) (pa_cons (pv 1) pa_nil))))))
  (fun a oe cls d pn hz hf => (pss_cons (ps_if (pt_val (pe_callB (GX.call_isX hz hf) (by rfl) T.b_isinstance (by decide +kernel) (pa_cons (pv 4) (pa_cons (pe_glob (v := .ref A.LotError) (by rfl) T.g_LotError rfl) pa_nil))) (by intro _; rfl)) (pss_one (ps_ret pe_bl)) pss_nil)
  (pss_cons (ps_if (PW.pt (pw_or (pt_not (pt_val (pe_callB (GX.call_isX hz hf) (by rfl) T.b_isinstance (by decide +kernel) (pa_cons (pv 4) (pa_cons (pe_glob (v := .ref A.OnecopyError) (by rfl) T.g_OnecopyError rfl) pa_nil))) (by intro _; rfl))) (pw_or1 (pt_not (pt_val (pe_callB (GX.call_isX hz hf) (by rfl) T.b_isinstance (by decide +kernel) (pa_cons (pv 4) (pa_cons (pe_bltn (v := .ty "ValueError") (by rfl) T.b_ValueError (by decide +kernel) rfl) pa_nil))) (by intro _; rfl)))))) (pss_one (ps_ret pe_bl)) pss_nil)
  (pss_cons (ps_if (PW.pt (pw_or (pt_not (pt_val (GX.pe_callG (sp := fun _ _ _ => sp_law_is_integer K A) Ch_law_is_integer hr (by decide) hz hf (by rfl) (pa_cons (pe_xf C.xf_CopiesDiffer C.f_CopiesDiffer_left hz hf (pv 4)) pa_nil)) (by intro _; rfl))) (pw_or1 (pt_not (pt_val (GX.pe_callG (sp := fun _ _ _ => sp_law_is_integer K A) Ch_law_is_integer hr (by decide) hz hf (by rfl) (pa_cons (pe_xf C.xf_CopiesDiffer C.f_CopiesDiffer_right hz hf (pv 4)) pa_nil)) (by intro _; rfl)))))) (pss_one (ps_ret pe_bl)) pss_nil)
  (pss_one (ps_ret (pe_and (pe_cmpR op_eq (pe_xf C.xf_CopiesDiffer C.f_CopiesDiffer_left hz hf (pv 4)) (pv 2) (nomark _)) (pe_one (pe_cmpR op_eq (pe_xf C.xf_CopiesDiffer C.f_CopiesDiffer_right hz hf (pv 4)) (pv 3) (nomark _)))))))))))
  (pss_one (ps_ret pe_bl)))), rd_law_differs C h⟩)
theorem bi_law_differs {f : Addr} {fd : FuncData} (F : Fun K "_law_differs" "_law_differs" s_law_differs f fd) : Binds K fd ["one", "two", "copies", "other"] [] := F.binds fun _ _ _ _ _ _ us hl => match us, hl with | [_, _, _, _], _ => rfl
abbrev s_law : Stmt := topS 27
theorem sc_law : FnScope ["script", "bag", "copies", "first", "second", "one", "two", "above", "below", "other", "far"] ["script"] (defScope s_law) := ⟨rfl, rfl, rfl, by decide +kernel, rfl, by decide +kernel, by decide +kernel⟩
theorem ln_law {vs : List V} {H : Hp} {Q : VK} {E : XK} (h : sp_law K A vs H Q E) : vs.length = 1 := by
  first | (obtain ⟨_, rfl, _⟩ := h; rfl) | (obtain ⟨_, _, rfl, _⟩ := h; rfl) | (obtain ⟨_, _, _, rfl, _⟩ := h; rfl) | (obtain ⟨_, _, _, _, rfl, _⟩ := h; rfl) | (obtain ⟨_, _, _, _, _, rfl, _⟩ := h; rfl) | (obtain ⟨_, _, _, _, _, _, rfl, _⟩ := h; rfl) | (obtain ⟨_, _, _, _, _, _, _, rfl, _⟩ := h; rfl) | (obtain ⟨_, _, _, _, _, _, _, _, rfl, _⟩ := h; rfl) | (obtain ⟨_, _, _, _, _, _, _, _, _, rfl, _⟩ := h; rfl) | (obtain ⟨_, _, _, _, _, _, _, _, _, _, rfl, _⟩ := h; rfl) | (obtain ⟨_, _, _, _, _, _, _, _, _, _, _, rfl, _⟩ := h; rfl) | (obtain ⟨_, _, _, _, _, _, _, _, _, _, _, _, rfl, _⟩ := h; rfl) | (obtain ⟨_, _, _, _, _, _, _, _, _, _, _, _, _, rfl, _⟩ := h; rfl) | (obtain ⟨_, _, _, _, _, _, _, _, _, _, _, _, _, _, rfl, _⟩ := h; rfl) | (obtain ⟨_, _, _, _, _, _, _, _, _, _, _, _, _, _, _, rfl, _⟩ := h; rfl) | (obtain ⟨_, _, _, _, _, _, _, _, _, _, _, _, _, _, _, _, rfl, _⟩ := h; rfl) | (obtain ⟨_, _, _, _, _, _, _, _, _, _, _, _, _, _, _, _, _, rfl, _⟩ := h; rfl) | (obtain ⟨_, _, _, _, _, _, _, _, _, _, _, _, _, _, _, _, _, _, rfl, _⟩ := h; rfl) | (obtain ⟨_, _, _, _, _, _, _, _, _, _, _, _, _, _, _, _, _, _, _, rfl, _⟩ := h; rfl)
theorem fn_law {f : Addr} {fd : FuncData} (F : Fun K "law" "law" s_law f fd) (T : Txt mg A) (C : CT K A) (C_Stretch_init : C8.Mak P w K mg base 3 "Stretch" A.Stretch (sp_Stretch_init K A) []) (C_Stretch_lift : C8.Met P w K mg base 1 A.Stretch "lift" (sp_Stretch_lift K A) []) (C_law_bag : C8.Cal P w K mg base 1 "_law_bag" (sp_law_bag K A) []) (C_law_copies : C8.Cal P w K mg base 2 "_law_copies" (sp_law_copies K A) []) (C_law_differs : C8.Cal P w K mg base 4 "_law_differs" (sp_law_differs K A) []) (C_law_holds : C8.Cal P w K mg base 3 "_law_holds" (sp_law_holds K A) []) (C_law_lift : C8.Cal P w K mg base 3 "_law_lift" (sp_law_lift K A) []) (C_law_pages : C8.Cal P w K mg base 3 "_law_pages" (sp_law_pages K A) []) (C_law_parted : C8.Cal P w K mg base 7 "_law_parted" (sp_law_parted K A) []) (C_law_second : C8.Cal P w K mg base 4 "_law_second" (sp_law_second K A) []) (C_law_stands : C8.Cal P w K mg base 6 "_law_stands" (sp_law_stands K A) []) (C_law_take : C8.Cal P w K mg base 1 "_law_take" (sp_law_take K A) []) : FnOk P w K mg base CX0 8 f fd ["script"] (sp_law K A) :=
  F.ok sc_law (fun vs H Q E h => ln_law h) (fun cdv Ar outer s H vs Q E hr h => ⟨t_law K A, (pss_cons (ps_set (i := 1) sc_law.nd rfl (by first | exact Or.inl rfl | exact Or.inr rfl) (C8.pe_c C_law_bag hr (by decide) (by rfl) (pa_cons (pv 0) (pa_cons pe_int pa_nil))))
  (pss_cons (ps_set (i := 2) sc_law.nd rfl (by first | exact Or.inl rfl | exact Or.inr rfl) (C8.pe_c C_law_copies hr (by decide) (by rfl) (pa_cons (pv 1) pa_nil)))
  (pss_cons (ps_set (i := 3) sc_law.nd rfl (by first | exact Or.inl rfl | exact Or.inr rfl) (C8.pe_c C_law_pages hr (by decide) (by rfl) (pa_cons (C8.pe_c C_law_bag hr (by decide) (by rfl) (pa_cons (pv 0) (pa_cons pe_int pa_nil))) pa_nil)))
  (pss_cons (ps_set (i := 4) sc_law.nd rfl (by first | exact Or.inl rfl | exact Or.inr rfl) (C8.pe_c C_law_second hr (by decide) (by rfl) (pa_cons (C8.pe_c C_law_bag hr (by decide) (by rfl) (pa_cons (pv 0) (pa_cons pe_int pa_nil))) (pa_cons (pv 3) pa_nil))))
  (pss_cons (ps_set (i := 5) sc_law.nd rfl (by first | exact Or.inl rfl | exact Or.inr rfl) (C8.pe_mk C_Stretch_init hr (by decide) (by rfl) (pa_cons (pe_callTy call_list_of (by rfl) T.b_list (by decide +kernel) (pa_cons (pv 3) pa_nil)) (pa_cons (pv 2) pa_nil))))
  (pss_cons (ps_set (i := 6) sc_law.nd rfl (by first | exact Or.inl rfl | exact Or.inr rfl) (C8.pe_mk C_Stretch_init hr (by decide) (by rfl) (pa_cons (pe_callTy call_list_of (by rfl) T.b_list (by decide +kernel) (pa_cons (pv 4) pa_nil)) (pa_cons (pv 2) pa_nil))))
  (pss_cons (ps_if (PW.pt (pw_or (pt_not (pt_val (C8.pe_c C_law_parted hr (by decide) (by rfl) (pa_cons (pv 5) (pa_cons (pv 6) (pa_cons (pv 3) (pa_cons (pv 4) (pa_cons (pv 2) pa_nil)))))) (by intro _; rfl))) (pw_or1 (pt_not (pt_val (C8.pe_c C_law_parted hr (by decide) (by rfl) (pa_cons (pv 6) (pa_cons (pv 5) (pa_cons (pv 4) (pa_cons (pv 3) (pa_cons (pv 2) pa_nil)))))) (by intro _; rfl)))))) (pss_one (ps_ret pe_bl)) pss_nil)
  (pss_cons (ps_if (pt_not (pt_val (C8.pe_c C_law_parted hr (by decide) (by rfl) (pa_cons (pv 5) (pa_cons (C8.pe_mk C_Stretch_init hr (by decide) (by rfl) (pa_cons (pe_callTy call_list_of (by rfl) T.b_list (by decide +kernel) (pa_cons (pv 3) pa_nil)) (pa_cons (pv 2) pa_nil))) (pa_cons (pv 3) (pa_cons (pv 3) (pa_cons (pv 2) pa_nil)))))) (by intro _; rfl))) (pss_one (ps_ret pe_bl)) pss_nil)
  (pss_cons (ps_set (i := 7) sc_law.nd rfl (by first | exact Or.inl rfl | exact Or.inr rfl) (C8.pe_c C_law_pages hr (by decide) (by rfl) (pa_cons (C8.pe_c C_law_bag hr (by decide) (by rfl) (pa_cons (pv 0) (pa_cons pe_int pa_nil))) pa_nil)))
  (pss_cons (ps_set (i := 8) sc_law.nd rfl (by first | exact Or.inl rfl | exact Or.inr rfl) (C8.pe_c C_law_pages hr (by decide) (by rfl) (pa_cons (C8.pe_c C_law_bag hr (by decide) (by rfl) (pa_cons (pv 0) (pa_cons pe_int pa_nil))) pa_nil)))
  (pss_cons (ps_if (pt_not (pt_val (C8.pe_c C_law_stands hr (by decide) (by rfl) (pa_cons (pv 5) (pa_cons (pv 3) (pa_cons (pv 7) (pa_cons (pv 8) (pa_cons (pv 2) pa_nil)))))) (by intro _; rfl))) (pss_one (ps_ret pe_bl)) pss_nil)
  (pss_cons (ps_if (pt_not (pt_val (C8.pe_c C_law_stands hr (by decide) (by rfl) (pa_cons (pv 6) (pa_cons (pv 4) (pa_cons (pv 7) (pa_cons (pv 8) (pa_cons (pv 2) pa_nil)))))) (by intro _; rfl))) (pss_one (ps_ret pe_bl)) pss_nil)
  (pss_cons (ps_if (pt_cmpR (op_eqD hr.units) (C8.pe_c C_law_lift hr (by decide) (by rfl) (pa_cons (pv 3) (pa_cons (pv 2) pa_nil))) (C8.pe_c C_law_lift hr (by decide) (by rfl) (pa_cons (pv 4) (pa_cons (pv 2) pa_nil))) (nomark _)) (pss_one (ps_if (pt_cmpR op_ne (C8.pe_c C_law_holds hr (by decide) (by rfl) (pa_cons (pe_op op_cat (pe_op op_cat (pv 7) (pv 3)) (pv 8)) (pa_cons (pv 2) pa_nil))) (C8.pe_c C_law_holds hr (by decide) (by rfl) (pa_cons (pe_op op_cat (pe_op op_cat (pv 7) (pv 4)) (pv 8)) (pa_cons (pv 2) pa_nil))) (nomark _)) (pss_one (ps_ret pe_bl)) pss_nil)) pss_nil)
  (pss_cons (ps_set (i := 9) sc_law.nd rfl (by first | exact Or.inl rfl | exact Or.inr rfl) (pe_op op_add (pe_op op_add (pv 2) pe_int) (C8.pe_c C_law_take hr (by decide) (by rfl) (pa_cons (pv 1) (pa_cons pe_int pa_nil)))))
  (pss_cons (ps_set (i := 10) sc_law.nd rfl (by first | exact Or.inl rfl | exact Or.inr rfl) (C8.pe_mk C_Stretch_init hr (by decide) (by rfl) (pa_cons (pe_callTy call_list_of (by rfl) T.b_list (by decide +kernel) (pa_cons (pv 3) pa_nil)) (pa_cons (pv 9) pa_nil))))
  (pss_cons (ps_if (PW.pt (pw_or (pt_not (pt_val (C8.pe_c C_law_differs hr (by decide) (by rfl) (pa_cons (pv 5) (pa_cons (pv 10) (pa_cons (pv 2) (pa_cons (pv 9) pa_nil))))) (by intro _; rfl))) (pw_or1 (pt_not (pt_val (C8.pe_c C_law_differs hr (by decide) (by rfl) (pa_cons (pv 10) (pa_cons (pv 5) (pa_cons (pv 9) (pa_cons (pv 2) pa_nil))))) (by intro _; rfl)))))) (pss_one (ps_ret pe_bl)) pss_nil)
  (pss_one (ps_ret (pe_and (pe_cmpR (op_eqD hr.units) (C8.pe_mt0 C_Stretch_lift hr (by decide) (pv 5)) (C8.pe_c C_law_lift hr (by decide) (by rfl) (pa_cons (pv 3) (pa_cons (pv 2) pa_nil))) (nomark _)) (pe_one (pe_cmpR (op_eqD hr.units) (C8.pe_mt0 C_Stretch_lift hr (by decide) (pv 6)) (C8.pe_c C_law_lift hr (by decide) (by rfl) (pa_cons (pv 4) (pa_cons (pv 2) pa_nil))) (nomark _)))))))))))))))))))))), rd_law h⟩)
theorem bi_law {f : Addr} {fd : FuncData} (F : Fun K "law" "law" s_law f fd) : Binds K fd ["script"] [] := F.binds fun _ _ _ _ _ _ us hl => match us, hl with | [_], _ => rfl

/-! ### the head: facts by names, the run -/
def d_CopiesDiffer_init : He.DefD := ⟨("CopiesDiffer", some "__init__"), "__init__", "CopiesDiffer.__init__", defArgs s_CopiesDiffer_init, defBody s_CopiesDiffer_init, defScope s_CopiesDiffer_init, [], []⟩
def d_height_over : He.DefD := ⟨("height_over", none), "height_over", "height_over", defArgs s_height_over, defBody s_height_over, defScope s_height_over, [], []⟩
def d_lifted : He.DefD := ⟨("_lifted", none), "_lifted", "_lifted", defArgs s_lifted, defBody s_lifted, defScope s_lifted, [], []⟩
def d_Stretch_init : He.DefD := ⟨("Stretch", some "__init__"), "__init__", "Stretch.__init__", defArgs s_Stretch_init, defBody s_Stretch_init, defScope s_Stretch_init, [], []⟩
def d_Stretch_lift : He.DefD := ⟨("Stretch", some "lift"), "lift", "Stretch.lift", defArgs s_Stretch_lift, defBody s_Stretch_lift, defScope s_Stretch_lift, [], []⟩
def d_Stretch_add : He.DefD := ⟨("Stretch", some "__add__"), "__add__", "Stretch.__add__", defArgs s_Stretch_add, defBody s_Stretch_add, defScope s_Stretch_add, [], []⟩
def d_Stretch_eq : He.DefD := ⟨("Stretch", some "__eq__"), "__eq__", "Stretch.__eq__", defArgs s_Stretch_eq, defBody s_Stretch_eq, defScope s_Stretch_eq, [], []⟩
def d_Stretch_is_keepable : He.DefD := ⟨("Stretch", some "is_keepable"), "is_keepable", "Stretch.is_keepable", defArgs s_Stretch_is_keepable, defBody s_Stretch_is_keepable, defScope s_Stretch_is_keepable, [], []⟩
def d_room_over : He.DefD := ⟨("_room_over", none), "_room_over", "_room_over", defArgs s_room_over, defBody s_room_over, defScope s_room_over, [], []⟩
def d_parting : He.DefD := ⟨("parting", none), "parting", "parting", defArgs s_parting, defBody s_parting, defScope s_parting, [], []⟩
def d_law_is_integer : He.DefD := ⟨("_law_is_integer", none), "_law_is_integer", "_law_is_integer", defArgs s_law_is_integer, defBody s_law_is_integer, defScope s_law_is_integer, [], []⟩
def d_law_bag : He.DefD := ⟨("_law_bag", none), "_law_bag", "_law_bag", defArgs s_law_bag, defBody s_law_bag, defScope s_law_bag, [], []⟩
def d_law_take : He.DefD := ⟨("_law_take", none), "_law_take", "_law_take", defArgs s_law_take, defBody s_law_take, defScope s_law_take, [], []⟩
def d_law_copies : He.DefD := ⟨("_law_copies", none), "_law_copies", "_law_copies", defArgs s_law_copies, defBody s_law_copies, defScope s_law_copies, [], []⟩
def d_law_page : He.DefD := ⟨("_law_page", none), "_law_page", "_law_page", defArgs s_law_page, defBody s_law_page, defScope s_law_page, [], []⟩
def d_law_pages : He.DefD := ⟨("_law_pages", none), "_law_pages", "_law_pages", defArgs s_law_pages, defBody s_law_pages, defScope s_law_pages, [], []⟩
def d_law_height : He.DefD := ⟨("_law_height", none), "_law_height", "_law_height", defArgs s_law_height, defBody s_law_height, defScope s_law_height, [], []⟩
def d_law_rise : He.DefD := ⟨("_law_rise", none), "_law_rise", "_law_rise", defArgs s_law_rise, defBody s_law_rise, defScope s_law_rise, [], []⟩
def d_law_lift : He.DefD := ⟨("_law_lift", none), "_law_lift", "_law_lift", defArgs s_law_lift, defBody s_law_lift, defScope s_law_lift, [], []⟩
def d_law_doubled : He.DefD := ⟨("_law_doubled", none), "_law_doubled", "_law_doubled", defArgs s_law_doubled, defBody s_law_doubled, defScope s_law_doubled, [], []⟩
def d_law_second : He.DefD := ⟨("_law_second", none), "_law_second", "_law_second", defArgs s_law_second, defBody s_law_second, defScope s_law_second, [], []⟩
def d_law_holds : He.DefD := ⟨("_law_holds", none), "_law_holds", "_law_holds", defArgs s_law_holds, defBody s_law_holds, defScope s_law_holds, [], []⟩
def d_law_stands : He.DefD := ⟨("_law_stands", none), "_law_stands", "_law_stands", defArgs s_law_stands, defBody s_law_stands, defScope s_law_stands, [], []⟩
def d_law_parts : He.DefD := ⟨("_law_parts", none), "_law_parts", "_law_parts", defArgs s_law_parts, defBody s_law_parts, defScope s_law_parts, [], []⟩
def d_law_parted : He.DefD := ⟨("_law_parted", none), "_law_parted", "_law_parted", defArgs s_law_parted, defBody s_law_parted, defScope s_law_parted, [], []⟩
def d_law_differs : He.DefD := ⟨("_law_differs", none), "_law_differs", "_law_differs", defArgs s_law_differs, defBody s_law_differs, defScope s_law_differs, [], []⟩
def d_law : He.DefD := ⟨("law", none), "law", "law", defArgs s_law, defBody s_law, defScope s_law, [], []⟩
def fnS : List He.DefD := [d_CopiesDiffer_init, d_height_over, d_lifted, d_Stretch_init, d_Stretch_lift, d_Stretch_add, d_Stretch_eq, d_Stretch_is_keepable, d_room_over, d_parting, d_law_is_integer, d_law_bag, d_law_take, d_law_copies, d_law_page, d_law_pages, d_law_height, d_law_rise, d_law_lift, d_law_doubled, d_law_second, d_law_holds, d_law_stands, d_law_parts, d_law_parted, d_law_differs, d_law]
def fa0 : List He.Fa := [.glo "height_over", .glo "_lifted", .mkr "Stretch", .meth "Stretch" "lift", .meth "Stretch" "__add__", .meth "Stretch" "__eq__", .meth "Stretch" "is_keepable", .glo "_room_over", .glo "parting", .glo "_law_is_integer", .glo "_law_bag", .glo "_law_take", .glo "_law_copies", .glo "_law_page", .glo "_law_pages", .glo "_law_height", .glo "_law_rise", .glo "_law_lift", .glo "_law_doubled", .glo "_law_second", .glo "_law_holds", .glo "_law_stands", .glo "_law_parts", .glo "_law_parted", .glo "_law_differs", .glo "law", .glo "CopiesDiffer", .glo "LotError", .glo "OnecopyError", .glo "Stretch"]
def fa1 : List He.Fa := [.cls "Stretch", .noat "Stretch" "_lift", .noat "Stretch" "copies", .free "ValueError", .free "abs", .free "all", .free "any", .free "bool", .free "enumerate", .free "int", .free "isinstance", .free "len", .free "list", .free "min", .free "range", .free "tuple", .free "zip"]
def faS : List He.Fa := fa0 ++ fa1
def exS : List GX.Ex := [.ins "Stretch", .oex "CopiesDiffer", .exc "CopiesDiffer", .xf "CopiesDiffer", .noat "CopiesDiffer" "left", .noat "CopiesDiffer" "right", .exm "CopiesDiffer" "CopiesDiffer" true, .kit "CopiesDiffer" "LotError" false, .kit "CopiesDiffer" "OnecopyError" true, .kitT "CopiesDiffer" "ValueError" true, .ini "CopiesDiffer", .first "Stretch"]
def looseS : List PySem.Str := (["OnecopyError", "LotError", "CopiesDiffer", "height_over", "_lifted", "Stretch", "parting", "_room_over", "_law_is_integer", "_law_bag", "_law_take", "_law_copies", "_law_page", "_law_pages", "_law_height", "_law_rise", "_law_lift", "_law_doubled", "_law_second", "_law_holds", "_law_stands", "_law_parts", "_law_parted", "_law_differs"] : List PySem.Str)
abbrev RowS : PySem.W.OpenRow := PySem.W.OpenLaw.row PySem.Challenge.rw_onecopy_k29_whole_parting
abbrev hkS : PySem.W.Hook := GX.hookE 4 faS fnS exS
def obS (s : PySem.W.SharedT) : GX.AlE := GX.obsEG 4 faS fnS exS (HandSHeadRun.getT s)
theorem obS_eq (s : PySem.W.SharedT) : obS s = hkS.obs s.abs := GX.obsEG_eq (HandSHeadRun.getT_eq s)
theorem runS (w : World) : HandSHeadRun.RunEq RowS (PySem.W.view RowS.prog [27]) hkS obS 8000 looseS w := by
  intro os
  kernel_rfl
theorem factsS {P : Program} {w : World} {K : PySem.W.Frag} {h : Heap} {mg : Str → Option Value} {fa : Addr} (X : K.In h) (GN : h.Ns mainGlobals mg) (hfa : mg ("law" : Str) = some (.ref fa)) (c : GX.SaysE faS fnS exS K) :
    ∃ fd : FuncData, (∀ (s : Shared) (v : Value), BindsTo s fd ⟨[v], []⟩ [("script", v)]) ∧ ∀ base : Heap, K.In base → base.Ns mainGlobals mg → FnOk P w K mg base CX0 8 fa fd ["script"] (sp_law K ⟨He.ga K "CopiesDiffer", He.ga K "LotError", He.ga K "OnecopyError", He.ga K "Stretch"⟩) := by
  have T : Txt mg ⟨He.ga K "CopiesDiffer", He.ga K "LotError", He.ga K "OnecopyError", He.ga K "Stretch"⟩ := ⟨He.free_ok X GN (c.1.fact 33 (f := .free "ValueError") rfl), He.free_ok X GN (c.1.fact 34 (f := .free "abs") rfl), He.free_ok X GN (c.1.fact 35 (f := .free "all") rfl), He.free_ok X GN (c.1.fact 36 (f := .free "any") rfl), He.free_ok X GN (c.1.fact 37 (f := .free "bool") rfl), He.free_ok X GN (c.1.fact 38 (f := .free "enumerate") rfl), He.free_ok X GN (c.1.fact 39 (f := .free "int") rfl), He.free_ok X GN (c.1.fact 40 (f := .free "isinstance") rfl), He.free_ok X GN (c.1.fact 41 (f := .free "len") rfl), He.free_ok X GN (c.1.fact 42 (f := .free "list") rfl), He.free_ok X GN (c.1.fact 43 (f := .free "min") rfl), He.free_ok X GN (c.1.fact 44 (f := .free "range") rfl), He.free_ok X GN (c.1.fact 45 (f := .free "tuple") rfl), He.free_ok X GN (c.1.fact 46 (f := .free "zip") rfl), He.glo_ok X GN (c.1.fact 26 (f := .glo "CopiesDiffer") rfl), He.glo_ok X GN (c.1.fact 27 (f := .glo "LotError") rfl), He.glo_ok X GN (c.1.fact 28 (f := .glo "OnecopyError") rfl), He.glo_ok X GN (c.1.fact 29 (f := .glo "Stretch") rfl)⟩
  have C : CT K ⟨He.ga K "CopiesDiffer", He.ga K "LotError", He.ga K "OnecopyError", He.ga K "Stretch"⟩ := ⟨He.cls_ok (c.1.fact 30 (f := .cls "Stretch") rfl), He.noat_ok (c.1.fact 31 (f := .noat "Stretch" "_lift") rfl), He.noat_ok (c.1.fact 32 (f := .noat "Stretch" "copies") rfl), GX.ins_ok (c.more 0 (e := .ins "Stretch") rfl), GX.oex_ok (c.more 1 (e := .oex "CopiesDiffer") rfl), GX.exc_ok (c.more 2 (e := .exc "CopiesDiffer") rfl), GX.xf_ok (c.more 3 (e := .xf "CopiesDiffer") rfl), GX.noat_ok (c.more 4 (e := .noat "CopiesDiffer" "left") rfl), GX.noat_ok (c.more 5 (e := .noat "CopiesDiffer" "right") rfl), GX.exm_ok (c.more 6 (e := .exm "CopiesDiffer" "CopiesDiffer" true) rfl), GX.kit_ok (c.more 7 (e := .kit "CopiesDiffer" "LotError" false) rfl), GX.kit_ok (c.more 8 (e := .kit "CopiesDiffer" "OnecopyError" true) rfl), GX.kitT_ok (c.more 9 (e := .kitT "CopiesDiffer" "ValueError" true) rfl)⟩
  have e := hfa.symm.trans (He.glo_ok X GN (c.1.fact 25 (f := .glo "law") rfl))
  cases e
  obtain ⟨fdE0, DE0⟩ := c.1.def_ 0 (d := d_CopiesDiffer_init) rfl
  have FE0 := He5.fun_of (st := s_CopiesDiffer_init) DE0
  obtain ⟨fd0, D0⟩ := c.1.def_ 1 (d := d_height_over) rfl
  have F0 := He5.fun_of (st := s_height_over) D0
  obtain ⟨fd1, D1⟩ := c.1.def_ 2 (d := d_lifted) rfl
  have F1 := He5.fun_of (st := s_lifted) D1
  obtain ⟨fd2, D2⟩ := c.1.def_ 3 (d := d_Stretch_init) rfl
  have F2 := He5.fun_of (st := s_Stretch_init) D2
  obtain ⟨fd3, D3⟩ := c.1.def_ 4 (d := d_Stretch_lift) rfl
  have F3 := He5.fun_of (st := s_Stretch_lift) D3
  obtain ⟨fd4, D4⟩ := c.1.def_ 5 (d := d_Stretch_add) rfl
  have F4 := He5.fun_of (st := s_Stretch_add) D4
  obtain ⟨fd5, D5⟩ := c.1.def_ 6 (d := d_Stretch_eq) rfl
  have F5 := He5.fun_of (st := s_Stretch_eq) D5
  obtain ⟨fd6, D6⟩ := c.1.def_ 7 (d := d_Stretch_is_keepable) rfl
  have F6 := He5.fun_of (st := s_Stretch_is_keepable) D6
  obtain ⟨fd7, D7⟩ := c.1.def_ 8 (d := d_room_over) rfl
  have F7 := He5.fun_of (st := s_room_over) D7
  obtain ⟨fd8, D8⟩ := c.1.def_ 9 (d := d_parting) rfl
  have F8 := He5.fun_of (st := s_parting) D8
  obtain ⟨fd9, D9⟩ := c.1.def_ 10 (d := d_law_is_integer) rfl
  have F9 := He5.fun_of (st := s_law_is_integer) D9
  obtain ⟨fd10, D10⟩ := c.1.def_ 11 (d := d_law_bag) rfl
  have F10 := He5.fun_of (st := s_law_bag) D10
  obtain ⟨fd11, D11⟩ := c.1.def_ 12 (d := d_law_take) rfl
  have F11 := He5.fun_of (st := s_law_take) D11
  obtain ⟨fd12, D12⟩ := c.1.def_ 13 (d := d_law_copies) rfl
  have F12 := He5.fun_of (st := s_law_copies) D12
  obtain ⟨fd13, D13⟩ := c.1.def_ 14 (d := d_law_page) rfl
  have F13 := He5.fun_of (st := s_law_page) D13
  obtain ⟨fd14, D14⟩ := c.1.def_ 15 (d := d_law_pages) rfl
  have F14 := He5.fun_of (st := s_law_pages) D14
  obtain ⟨fd15, D15⟩ := c.1.def_ 16 (d := d_law_height) rfl
  have F15 := He5.fun_of (st := s_law_height) D15
  obtain ⟨fd16, D16⟩ := c.1.def_ 17 (d := d_law_rise) rfl
  have F16 := He5.fun_of (st := s_law_rise) D16
  obtain ⟨fd17, D17⟩ := c.1.def_ 18 (d := d_law_lift) rfl
  have F17 := He5.fun_of (st := s_law_lift) D17
  obtain ⟨fd18, D18⟩ := c.1.def_ 19 (d := d_law_doubled) rfl
  have F18 := He5.fun_of (st := s_law_doubled) D18
  obtain ⟨fd19, D19⟩ := c.1.def_ 20 (d := d_law_second) rfl
  have F19 := He5.fun_of (st := s_law_second) D19
  obtain ⟨fd20, D20⟩ := c.1.def_ 21 (d := d_law_holds) rfl
  have F20 := He5.fun_of (st := s_law_holds) D20
  obtain ⟨fd21, D21⟩ := c.1.def_ 22 (d := d_law_stands) rfl
  have F21 := He5.fun_of (st := s_law_stands) D21
  obtain ⟨fd22, D22⟩ := c.1.def_ 23 (d := d_law_parts) rfl
  have F22 := He5.fun_of (st := s_law_parts) D22
  obtain ⟨fd23, D23⟩ := c.1.def_ 24 (d := d_law_parted) rfl
  have F23 := He5.fun_of (st := s_law_parted) D23
  obtain ⟨fd24, D24⟩ := c.1.def_ 25 (d := d_law_differs) rfl
  have F24 := He5.fun_of (st := s_law_differs) D24
  obtain ⟨fd25, D25⟩ := c.1.def_ 26 (d := d_law) rfl
  have F25 := He5.fun_of (st := s_law) D25
  have b := FunD.bindsA (ps := ["script"]) D25 fun _ _ _ _ _ _ us hl => match us, hl with | [_], _ => rfl
  refine ⟨fd25, fun s v => b s [v] rfl, fun base _ _ => ?_⟩
  have C_CopiesDiffer : GX.ErrX P w K mg base 1 "CopiesDiffer" (He.ga K "CopiesDiffer") (GX.sp_err2 K (He.ga K "CopiesDiffer") "left" "right") := ⟨GX.oex_ok (c.more 1 (e := .oex "CopiesDiffer") rfl), _, _, _, (GX.ini_ok (c.more 10 (e := .ini "CopiesDiffer") rfl)).1, (GX.ini_ok (c.more 10 (e := .ini "CopiesDiffer") rfl)).2, fn_CopiesDiffer_init (A := ⟨He.ga K "CopiesDiffer", He.ga K "LotError", He.ga K "OnecopyError", He.ga K "Stretch"⟩) FE0, He.glo_ok X GN (c.1.fact 26 (f := .glo "CopiesDiffer") rfl), bi_CopiesDiffer_init FE0⟩
  have C_height_over : C8.Cal P w K mg base 1 "height_over" (sp_height_over K ⟨He.ga K "CopiesDiffer", He.ga K "LotError", He.ga K "OnecopyError", He.ga K "Stretch"⟩) [] := ⟨_, _, _, [], fn_height_over F0 T C , He.glo_ok X GN (c.1.fact 0 (f := .glo "height_over") rfl), F0.kp, bi_height_over F0, .nil⟩
  have C_lifted : C8.Cal P w K mg base 2 "_lifted" (sp_lifted K ⟨He.ga K "CopiesDiffer", He.ga K "LotError", He.ga K "OnecopyError", He.ga K "Stretch"⟩) [] := ⟨_, _, _, [], fn_lifted F1 T C C_height_over, He.glo_ok X GN (c.1.fact 1 (f := .glo "_lifted") rfl), F1.kp, bi_lifted F1, .nil⟩
  have C_Stretch_init : C8.Mak P w K mg base 3 "Stretch" (He.ga K "Stretch") (sp_Stretch_init K ⟨He.ga K "CopiesDiffer", He.ga K "LotError", He.ga K "OnecopyError", He.ga K "Stretch"⟩) [] := ⟨_, _, _, [], He.mkr_ok (c.1.fact 2 (f := .mkr "Stretch") rfl), fn_Stretch_init F2 T C C_lifted, He.glo_ok X GN (c.1.fact 29 (f := .glo "Stretch") rfl), bi_Stretch_init F2, .nil⟩
  have C_Stretch_lift : C8.Met P w K mg base 1 (He.ga K "Stretch") "lift" (sp_Stretch_lift K ⟨He.ga K "CopiesDiffer", He.ga K "LotError", He.ga K "OnecopyError", He.ga K "Stretch"⟩) [] := ⟨_, _, _, [], C.c_Stretch, He.meth_ok (c.1.fact 3 (f := .meth "Stretch" "lift") rfl), fn_Stretch_lift F3 T C , bi_Stretch_lift F3, .nil⟩
  have C_Stretch_add : GX.AddX P w K mg base 5 (He.ga K "Stretch") (sp_Stretch_add K ⟨He.ga K "CopiesDiffer", He.ga K "LotError", He.ga K "OnecopyError", He.ga K "Stretch"⟩) := ⟨_, _, _, fn_Stretch_add F4 T C C_CopiesDiffer C_Stretch_init, (He.meth_ok (c.1.fact 4 (f := .meth "Stretch" "__add__") rfl)).at_, (He.meth_ok (c.1.fact 4 (f := .meth "Stretch" "__add__") rfl)).fn, bi_Stretch_add F4, GX.first_ok (c.more 11 (e := .first "Stretch") rfl)⟩
  have C_Stretch_eq : GX.EqX P w K mg base 1 (He.ga K "Stretch") (sp_Stretch_eq K ⟨He.ga K "CopiesDiffer", He.ga K "LotError", He.ga K "OnecopyError", He.ga K "Stretch"⟩) := ⟨_, _, _, fn_Stretch_eq F5 T C , (He.meth_ok (c.1.fact 5 (f := .meth "Stretch" "__eq__") rfl)).at_, (He.meth_ok (c.1.fact 5 (f := .meth "Stretch" "__eq__") rfl)).fn, bi_Stretch_eq F5⟩
  have C_Stretch_is_keepable : C8.Met P w K mg base 1 (He.ga K "Stretch") "is_keepable" (sp_Stretch_is_keepable K ⟨He.ga K "CopiesDiffer", He.ga K "LotError", He.ga K "OnecopyError", He.ga K "Stretch"⟩) [] := ⟨_, _, _, [], C.c_Stretch, He.meth_ok (c.1.fact 6 (f := .meth "Stretch" "is_keepable") rfl), fn_Stretch_is_keepable F6 T C , bi_Stretch_is_keepable F6, .nil⟩
  have C_room_over : C8.Cal P w K mg base 1 "_room_over" (sp_room_over K ⟨He.ga K "CopiesDiffer", He.ga K "LotError", He.ga K "OnecopyError", He.ga K "Stretch"⟩) [] := ⟨_, _, _, [], fn_room_over F7 T C , He.glo_ok X GN (c.1.fact 7 (f := .glo "_room_over") rfl), F7.kp, bi_room_over F7, .nil⟩
  have C_parting : GX.CalX P w K mg base 3 "parting" (sp_parting K ⟨He.ga K "CopiesDiffer", He.ga K "LotError", He.ga K "OnecopyError", He.ga K "Stretch"⟩) := ⟨_, _, _, fn_parting F8 T C C_CopiesDiffer C_Stretch_lift C_room_over, He.glo_ok X GN (c.1.fact 8 (f := .glo "parting") rfl), F8.kp, bi_parting F8⟩
  have C_law_is_integer : C8.Cal P w K mg base 1 "_law_is_integer" (sp_law_is_integer K ⟨He.ga K "CopiesDiffer", He.ga K "LotError", He.ga K "OnecopyError", He.ga K "Stretch"⟩) [] := ⟨_, _, _, [], fn_law_is_integer F9 T C , He.glo_ok X GN (c.1.fact 9 (f := .glo "_law_is_integer") rfl), F9.kp, bi_law_is_integer F9, .nil⟩
  have Ch_law_is_integer : GX.HotX P w K mg base 1 "_law_is_integer" (fun _ _ _ => sp_law_is_integer K ⟨He.ga K "CopiesDiffer", He.ga K "LotError", He.ga K "OnecopyError", He.ga K "Stretch"⟩) := ⟨_, _, _, fnh_law_is_integer F9 T, He.glo_ok X GN (c.1.fact 9 (f := .glo "_law_is_integer") rfl), F9.kp, bi_law_is_integer F9⟩
  have C_law_bag : C8.Cal P w K mg base 1 "_law_bag" (sp_law_bag K ⟨He.ga K "CopiesDiffer", He.ga K "LotError", He.ga K "OnecopyError", He.ga K "Stretch"⟩) [] := ⟨_, _, _, [], fn_law_bag F10 T C , He.glo_ok X GN (c.1.fact 10 (f := .glo "_law_bag") rfl), F10.kp, bi_law_bag F10, .nil⟩
  have C_law_take : C8.Cal P w K mg base 1 "_law_take" (sp_law_take K ⟨He.ga K "CopiesDiffer", He.ga K "LotError", He.ga K "OnecopyError", He.ga K "Stretch"⟩) [] := ⟨_, _, _, [], fn_law_take F11 T C , He.glo_ok X GN (c.1.fact 11 (f := .glo "_law_take") rfl), F11.kp, bi_law_take F11, .nil⟩
  have C_law_copies : C8.Cal P w K mg base 2 "_law_copies" (sp_law_copies K ⟨He.ga K "CopiesDiffer", He.ga K "LotError", He.ga K "OnecopyError", He.ga K "Stretch"⟩) [] := ⟨_, _, _, [], fn_law_copies F12 T C C_law_take, He.glo_ok X GN (c.1.fact 12 (f := .glo "_law_copies") rfl), F12.kp, bi_law_copies F12, .nil⟩
  have C_law_page : C8.Cal P w K mg base 2 "_law_page" (sp_law_page K ⟨He.ga K "CopiesDiffer", He.ga K "LotError", He.ga K "OnecopyError", He.ga K "Stretch"⟩) [] := ⟨_, _, _, [], fn_law_page F13 T C C_law_take, He.glo_ok X GN (c.1.fact 13 (f := .glo "_law_page") rfl), F13.kp, bi_law_page F13, .nil⟩
  have C_law_pages : C8.Cal P w K mg base 3 "_law_pages" (sp_law_pages K ⟨He.ga K "CopiesDiffer", He.ga K "LotError", He.ga K "OnecopyError", He.ga K "Stretch"⟩) [] := ⟨_, _, _, [], fn_law_pages F14 T C C_law_page C_law_take, He.glo_ok X GN (c.1.fact 14 (f := .glo "_law_pages") rfl), F14.kp, bi_law_pages F14, .nil⟩
  have C_law_height : C8.Cal P w K mg base 1 "_law_height" (sp_law_height K ⟨He.ga K "CopiesDiffer", He.ga K "LotError", He.ga K "OnecopyError", He.ga K "Stretch"⟩) [] := ⟨_, _, _, [], fn_law_height F15 T C , He.glo_ok X GN (c.1.fact 15 (f := .glo "_law_height") rfl), F15.kp, bi_law_height F15, .nil⟩
  have C_law_rise : C8.Cal P w K mg base 2 "_law_rise" (sp_law_rise K ⟨He.ga K "CopiesDiffer", He.ga K "LotError", He.ga K "OnecopyError", He.ga K "Stretch"⟩) [] := ⟨_, _, _, [], fn_law_rise F16 T C C_law_height, He.glo_ok X GN (c.1.fact 16 (f := .glo "_law_rise") rfl), F16.kp, bi_law_rise F16, .nil⟩
  have C_law_lift : C8.Cal P w K mg base 3 "_law_lift" (sp_law_lift K ⟨He.ga K "CopiesDiffer", He.ga K "LotError", He.ga K "OnecopyError", He.ga K "Stretch"⟩) [] := ⟨_, _, _, [], fn_law_lift F17 T C C_law_rise, He.glo_ok X GN (c.1.fact 17 (f := .glo "_law_lift") rfl), F17.kp, bi_law_lift F17, .nil⟩
  have C_law_doubled : C8.Cal P w K mg base 2 "_law_doubled" (sp_law_doubled K ⟨He.ga K "CopiesDiffer", He.ga K "LotError", He.ga K "OnecopyError", He.ga K "Stretch"⟩) [] := ⟨_, _, _, [], fn_law_doubled F18 T C C_law_take, He.glo_ok X GN (c.1.fact 18 (f := .glo "_law_doubled") rfl), F18.kp, bi_law_doubled F18, .nil⟩
  have C_law_second : C8.Cal P w K mg base 4 "_law_second" (sp_law_second K ⟨He.ga K "CopiesDiffer", He.ga K "LotError", He.ga K "OnecopyError", He.ga K "Stretch"⟩) [] := ⟨_, _, _, [], fn_law_second F19 T C C_law_doubled C_law_page C_law_pages C_law_take, He.glo_ok X GN (c.1.fact 19 (f := .glo "_law_second") rfl), F19.kp, bi_law_second F19, .nil⟩
  have C_law_holds : C8.Cal P w K mg base 3 "_law_holds" (sp_law_holds K ⟨He.ga K "CopiesDiffer", He.ga K "LotError", He.ga K "OnecopyError", He.ga K "Stretch"⟩) [] := ⟨_, _, _, [], fn_law_holds F20 T C C_law_rise, He.glo_ok X GN (c.1.fact 20 (f := .glo "_law_holds") rfl), F20.kp, bi_law_holds F20, .nil⟩
  have C_law_stands : C8.Cal P w K mg base 6 "_law_stands" (sp_law_stands K ⟨He.ga K "CopiesDiffer", He.ga K "LotError", He.ga K "OnecopyError", He.ga K "Stretch"⟩) [] := ⟨_, _, _, [], fn_law_stands F21 T C C_Stretch_add C_Stretch_init C_Stretch_is_keepable C_law_holds, He.glo_ok X GN (c.1.fact 21 (f := .glo "_law_stands") rfl), F21.kp, bi_law_stands F21, .nil⟩
  have C_law_parts : C8.Cal P w K mg base 4 "_law_parts" (sp_law_parts K ⟨He.ga K "CopiesDiffer", He.ga K "LotError", He.ga K "OnecopyError", He.ga K "Stretch"⟩) [] := ⟨_, _, _, [], fn_law_parts F22 T C C_law_holds C_law_is_integer, He.glo_ok X GN (c.1.fact 22 (f := .glo "_law_parts") rfl), F22.kp, bi_law_parts F22, .nil⟩
  have C_law_parted : C8.Cal P w K mg base 7 "_law_parted" (sp_law_parted K ⟨He.ga K "CopiesDiffer", He.ga K "LotError", He.ga K "OnecopyError", He.ga K "Stretch"⟩) [] := ⟨_, _, _, [], fn_law_parted F23 T C C_Stretch_eq C_law_lift C_law_parts C_law_stands C_parting, He.glo_ok X GN (c.1.fact 23 (f := .glo "_law_parted") rfl), F23.kp, bi_law_parted F23, .nil⟩
  have C_law_differs : C8.Cal P w K mg base 4 "_law_differs" (sp_law_differs K ⟨He.ga K "CopiesDiffer", He.ga K "LotError", He.ga K "OnecopyError", He.ga K "Stretch"⟩) [] := ⟨_, _, _, [], fn_law_differs F24 T C Ch_law_is_integer C_Stretch_eq C_parting, He.glo_ok X GN (c.1.fact 24 (f := .glo "_law_differs") rfl), F24.kp, bi_law_differs F24, .nil⟩
  exact fn_law F25 T C C_Stretch_init C_Stretch_lift C_law_bag C_law_copies C_law_differs C_law_holds C_law_lift C_law_pages C_law_parted C_law_second C_law_stands C_law_take
end G

open PySem PySem.W PySem.Calls PyProof.Rows in
set_option maxRecDepth 100000 in
set_option maxHeartbeats 0 in
theorem PySem.Challenge.cw_onecopy_k29_whole_parting_holds : PySem.Challenge.rw_onecopy_k29_whole_parting.Holds := by
  w_on; o_law
  refine HandSHeadRun.head_any (r := OpenLaw.row PySem.Challenge.rw_onecopy_k29_whole_parting) (q := view (OpenLaw.row PySem.Challenge.rw_onecopy_k29_whole_parting).prog [27]) (H := G.hkS) (ob := G.obS) (M := 8000) (loose := G.looseS) (d := HandSHeadRun.topDef (OpenLaw.row PySem.Challenge.rw_onecopy_k29_whole_parting).prog 27) (kwd := []) G.obS_eq
    (by kernel_rfl) (fun s => by kernel_rfl) G.runS (by kernel_rfl) (by kernel_rfl) (by kernel_rfl) (by rfl) (by first | assumption | decide +kernel) (by decide +kernel) ⟨rfl, rfl, rfl, rfl, rfl, by decide +kernel⟩ ?hw ?hc
  case hw => w_witness2
  case hc =>
    refine L2.walk_ofE (l := PySem.Challenge.rw_onecopy_k29_whole_parting) (n := 63) (k := 8) (x := "script") (CX := L2.CX0) rfl (by decide) (by kernel_rfl) ⟨rfl, by decide, by decide⟩ ?F (fun _ _ _ _ z => z)
    intro w mg fa h Y GN hmg0
    obtain ⟨K, KX, c⟩ := Y
    have hmg : mg ("law" : PySem.Str) = some (.ref fa) := by
      have e : (HandSHeadRun.topDef (OpenLaw.row PySem.Challenge.rw_onecopy_k29_whole_parting).prog 27).name = ("law" : PySem.Str) := by kernel_rfl
      rw [← e]
      exact hmg0
    obtain ⟨fd, hb, hF⟩ := G.factsS (P := (PySem.Challenge.rw_onecopy_k29_whole_parting).prog) (w := w) KX GN hmg c
    exact ⟨K, fd, G.sp_law K _, KX, hb, fun H a ns hl _ hS => ⟨a, ns, rfl, hS, hl, fun _ => rfl⟩, hF⟩