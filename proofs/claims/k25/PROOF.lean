import PyProof.Rows.All
import Wide.All
import OpenK.AllK
import Wide.FinOn
import HandS.ForMost
import HandS.Deep
import HandS.Flow
import HandS.IsInst
import HandS.Conv
import HandS.SortRule
import HandS.SortInts
import HandS.SetFor
import HandS.More
import HandS.Codes
import HandS.Style
import HandS.Walk
import KE.KStateDown
import HandS.Defaults
import HandS.Head0
import HandS.Head1
import HandS.Head2
import HandS.HeadEnd
import HandS.HeadHook1
import HandS.HeadHook2
import HandS.HeadNt
import PySem.Challenge.RW_onecopy_k25_whole_heights
set_option Elab.async false
set_option linter.all false
set_option maxRecDepth 100000
set_option maxHeartbeats 4000000

/-! The ground: relations under names of their own, steps of a reading, facts of heaps. -/
namespace G
open PySem PySem.Spec PyProof.Rows L2

/-! ### relations by name -/
def oAdd : R2 := rI0 fun i j => .int (i + j)
def oSub : R2 := rI0 fun i j => .int (i - j)
def oMul : R2 := rI CMul fun i j => .int (i * j)
def oDiv : R2 := rI CDiv fun i j => .int (i / j)
def oMod : R2 := rI (fun _ j => 0 < j) fun i j => .int (i % j)
def oPow : R2 := rI CPow fun i j => .int (i ^ j.toNat)
def oLt : R2 := rI0 fun i j => .bl (decide (i < j))
def oLe : R2 := rI0 fun i j => .bl (decide (i ≤ j))
def oGt : R2 := rI0 fun i j => .bl (decide (j < i))
def oGe : R2 := rI0 fun i j => .bl (decide (j ≤ i))
def oNeg : V → Hp → VK → Prop := rU fun i => .int (-i)
abbrev RL := List V → Hp → VK → Prop
def oAbs : RL := fun xs H Q => ∃ i, xs = [.int i] ∧ Q (.int (if i < 0 then -i else i)) H
def oMax2 : RL := fun xs H Q => ∃ i j, xs = [.int i, .int j] ∧ Q (.int (if j > i then j else i)) H
def oMin2 : RL := fun xs H Q => ∃ i j, xs = [.int i, .int j] ∧ Q (.int (if j < i then j else i)) H
def oInt : RL := fun xs H Q => (∃ i, xs = [.int i] ∧ Q (.int i) H) ∨ ∃ k, xs = [.bl k] ∧ Q (.int (if k then 1 else 0)) H
def rLenQ (K : PySem.W.Frag) : RL := fun xs H Q => ∃ p ys, xs = [.ref p] ∧ (SqL K H p ys ∨ SqT K H p ys) ∧ Q (.int ys.length) H
def oListOf (K : PySem.W.Frag) : RL := fun xs H Q => ∃ p ys, xs = [.ref p] ∧ (SqL K H p ys ∨ SqT K H p ys) ∧ ∀ l, H l = none → Q (.ref l) (upd H l (.lst ys))
def oListD : RL := fun xs H Q => ∃ d kvs, xs = [V.ref d] ∧ Rd H d (.dT kvs) ∧ ∀ p bs, H p = none → IsKeys H kvs bs → Q (.ref p) (upd H p (.lst (bs.map V.ref)))
def oInsert : V → List V → Hp → VK → Prop := fun x vs H Q => ∃ (l : Addr) (xs : List V) (i : Int) (y : V), x = .ref l ∧ vs = [.int i, y] ∧ H l = some (.lst xs) ∧ xs.length < sizeLine ∧ 0 ≤ i ∧ i < 2 ^ 63 ∧
    Q .non (upd H l (.lst (xs.take i.toNat ++ [y] ++ xs.drop i.toNat)))
def tTruK (K : PySem.W.Frag) (ta : TE) : TT := fun σ H Q => ta σ H fun x H' => ∃ k, TruV K x H' k ∧ Q k H'

theorem hu65 {A : Around} {k : Nat} (hr : Room k A) : A.units + 65 < cLine := by have := hr.un; omega
/-- xs[i] op= e -/
theorem pget_list {X : Cx} : PGet X (rIxL X.K) := by
  intro pn st sg Hh xo yo vo uo Qo Io r1 r2 hyp
  obtain ⟨pp, items, ii, zz, rfl, rfl, hsq, hat, hQ⟩ := hyp
  cases r1
  obtain ⟨tk, rfl⟩ := r2
  obtain ⟨raw, rel, isl, _⟩ := Io.list hsq
  obtain ⟨jj, e1, e2, e3, e4, e5⟩ := atI_get hat
  obtain ⟨ww, e6, rw'⟩ := rel.get e2
  have hlen := rel.length
  have h63 := line63
  have done : EP X pn sg Qo ww st := ⟨zz, Hh, Io, rw', hQ⟩
  by_cases hn : 0 ≤ ii
  · have ej : ii.toNat = jj := by
      rw [seqIndex_of hn e5] at e1; exact Option.some.inj e1
    exact wpAny_getItem_list isl.isList hn (by omega) (by rw [ej]; simpa using e6) done
  · have ej : (ii + (raw.toArray.size : Int)).toNat = jj := by
      rw [seqIndex_neg (by omega) e4] at e1; rw [List.size_toArray, ← hlen]; exact Option.some.inj e1
    exact wpAny_getItem_list_neg isl.isList (by omega) (by rw [List.size_toArray] <;> omega) (by omega) (by rw [ej]; simpa using e6) done

/-! ### heaps -/
section
variable {H H' H1 H2 H3 : Hp} {p q s : Addr} {o o' : HO}
theorem keep (h : H q = some o) (hp : H p = none) : upd H p o' q = some o := by rw [upd_ne (ne_of_none h hp)]; exact h
theorem keepNe (h : H q = some o) (hp : q ≠ p) : upd H p o' q = some o := by rw [upd_ne hp]; exact h
theorem same_new (h : H p = none) : Same H (upd H p o) := fun _ _ e => keep e h
theorem same_mut (e : Same H H') (h : H p = none) : Same H (upd H' p o) := fun b u hb => by rw [upd_ne (ne_of_none hb h)]; exact e b u hb
/-- all that was tracked is as it was, s aside -/
def But (s : Addr) (H H' : Hp) : Prop := ∀ b o, b ≠ s → H b = some o → H' b = some o
theorem But.refl : But s H H := fun _ _ _ h => h
theorem Same.but (e : Same H H') : But s H H' := fun b o _ h => e b o h
theorem But.trans (a : But s H H1) (b : But s H1 H2) : But s H H2 := fun c o n h => b c o n (a c o n h)
theorem But.new (e : But s H H') (h : H' p = none) : But s H (upd H' p o) := fun b u n hb => keep (e b u n hb) h
theorem But.mut (e : But s H H') (h : H p = none) : But s H (upd H' p o) := fun b u n hb => by rw [upd_ne (ne_of_none hb h)]; exact e b u n hb
theorem But.self (e : But s H H') : But s H (upd H' s o) := fun b u n hb => by rw [upd_ne n]; exact e b u n hb
theorem But.free (e : But s H H') (h : H s = some o) (hs : H' s = some o') (hp : H' p = none) : H p = none := by
  cases q : H p with
  | none => rfl
  | some u =>
    by_cases hn : p = s
    · rw [hn, hs] at hp; cases hp
    · rw [e p u hn q] at hp; cases hp
theorem SqL.same {K : PySem.W.Frag} {xs : List V} (h : SqL K H p xs) (e : Same H H') : SqL K H' p xs := e.seq h
theorem SqL.but {K : PySem.W.Frag} {xs ys : List V} (e : But s H H') (hs : H s = some (.lst ys)) (hn : p ≠ s) (h : SqL K H p xs) : SqL K H' p xs := by
  rcases h with (h | ⟨o, h⟩) | h
  · exact .inl (.inl (e _ _ hn h))
  · exact .inl (.inr ⟨o, e _ _ hn h⟩)
  · exact .inr h
end

/-! ### steps -/
section
variable {K : PySem.W.Frag} {σ : L2.St} {H : Hp} {Q : VK} {D : Ends} {v x y : V} {i : Nat} {ta tb tc te tv to ti : TE} {t u : TS} {tt tu : TT} {tl tr : TA} {p C dx : Addr}
theorem w_seq (h : t { D with nx := u D } σ H) : tSeq t u D σ H := h
theorem w_next (h : D.nx σ H) : tNext D σ H := h
theorem w_ret (h : te σ H D.rt) : tRet te D σ H := h
theorem w_retN (h : D.rt .non H) : tRetN D σ H := h
theorem w_drop (h : te σ H fun _ H1 => D.nx σ H1) : tDrop te D σ H := h
theorem w_brk (h : D.bk σ H) : tBreak D σ H := h
theorem w_cont (h : D.ct σ H) : tCont D σ H := h
theorem w_asg {g : TG} (h : te σ H fun x H1 => g x σ H1 D.nx) : tAsg te g D σ H := h
theorem w_name {R : L2.St → Hp → Prop} (h : R (σ.set i (some v)) H) : gName i v σ H R := h
theorem w_sub {R : L2.St → Hp → Prop} {ts : TSet} (h : to σ H fun o H1 => ti σ H1 fun j H2 => ts o j v H2 fun H3 => R σ H3) : gSub to ti ts v σ H R := h
theorem w_setL {R : Hp → Prop} {xs : List V} {k : Int} {j : Nat} (h : H p = some (.lst xs)) (hj : ixN xs.length k = some j) (q : R (upd H p (.lst (xs.set j v)))) : rSetL (.ref p) (.int k) v H R := ⟨p, xs, k, j, rfl, rfl, h, hj, q⟩
theorem w_var (h : σ[i]? = some (some v)) (q : Q v H) : tVar i σ H Q := ⟨v, h, q⟩
theorem w_c (q : Q v H) : tC v σ H Q := q
theorem w_op {r : R2} (h : ta σ H fun x H1 => tb σ H1 fun y H2 => r x y H2 Q) : tOp r ta tb σ H Q := h
theorem w_un {r : V → Hp → VK → Prop} (h : ta σ H fun x H1 => r x H1 Q) : tUn r ta σ H Q := h
theorem w_oAdd {a b : Int} (q : Q (.int (a + b)) H) : oAdd (.int a) (.int b) H Q := ⟨a, b, rfl, rfl, q⟩
theorem w_oSub {a b : Int} (q : Q (.int (a - b)) H) : oSub (.int a) (.int b) H Q := ⟨a, b, rfl, rfl, q⟩
theorem w_oMulL {a b : Int} (h0 : -18446744073709551616 < a) (h1 : a < 18446744073709551616) (q : Q (.int (a * b)) H) : oMul (.int a) (.int b) H Q := ⟨a, b, rfl, rfl, .inl ⟨h0, h1⟩, q⟩
theorem w_oMulR {a b : Int} (h0 : -18446744073709551616 < b) (h1 : b < 18446744073709551616) (q : Q (.int (a * b)) H) : oMul (.int a) (.int b) H Q := ⟨a, b, rfl, rfl, .inr ⟨h0, h1⟩, q⟩
theorem w_oDiv {a b : Int} (h0 : 0 < b) (h1 : b < 1073741824) (q : Q (.int (a / b)) H) : oDiv (.int a) (.int b) H Q := ⟨a, b, rfl, rfl, ⟨h0, h1⟩, q⟩
theorem w_oMod {a b : Int} (hc : 0 < b) (q : Q (.int (a % b)) H) : oMod (.int a) (.int b) H Q := ⟨a, b, rfl, rfl, hc, q⟩
theorem w_oPow {a b : Int} (h0 : 0 ≤ b) (h1 : b ≤ 1000000) (h2 : a.natAbs < 18446744073709551616) (q : Q (.int (a ^ b.toNat)) H) : oPow (.int a) (.int b) H Q := ⟨a, b, rfl, rfl, ⟨h0, h1, h2⟩, q⟩
theorem w_oLt {a b : Int} (q : Q (.bl (decide (a < b))) H) : oLt (.int a) (.int b) H Q := ⟨a, b, rfl, rfl, q⟩
theorem w_oLe {a b : Int} (q : Q (.bl (decide (a ≤ b))) H) : oLe (.int a) (.int b) H Q := ⟨a, b, rfl, rfl, q⟩
theorem w_oGt {a b : Int} (q : Q (.bl (decide (b < a))) H) : oGt (.int a) (.int b) H Q := ⟨a, b, rfl, rfl, q⟩
theorem w_oGe {a b : Int} (q : Q (.bl (decide (b ≤ a))) H) : oGe (.int a) (.int b) H Q := ⟨a, b, rfl, rfl, q⟩
theorem w_oNeg {a : Int} (q : Q (.int (-a)) H) : oNeg (.int a) H Q := ⟨a, rfl, q⟩
theorem w_eqI {a b : Int} (q : Q (.bl (decide (a = b))) H) : rEq (.int a) (.int b) H Q := ⟨rfl, by
  have e : (decide (V.int a = V.int b)) = decide (a = b) := by simp
  rw [e]; exact q⟩
theorem w_neI {a b : Int} (q : Q (.bl (!decide (a = b))) H) : rNe (.int a) (.int b) H Q := ⟨rfl, by
  have e : (decide (V.int a = V.int b)) = decide (a = b) := by simp
  rw [e]; exact q⟩
theorem w_eqB {a b : Bool} (q : Q (.bl (decide (a = b))) H) : rEq (.bl a) (.bl b) H Q := ⟨rfl, by
  have e : (decide (V.bl a = V.bl b)) = decide (a = b) := by simp
  rw [e]; exact q⟩
theorem w_chain {r r' : R2} (h : ta σ H fun x H1 => tb σ H1 fun y H2 => r x y H2 fun z H3 => ∃ k, z = .bl k ∧ (if k = true then tc σ H3 fun w' H4 => r' y w' H4 Q else Q (.bl false) H3)) : tChain r r' ta tb tc σ H Q := h
/-- a known answer -/
theorem w_ex {P : Bool → Prop} {b : Bool} (q : P b) : ∃ k, V.bl b = .bl k ∧ P k := ⟨b, rfl, q⟩
theorem w_test {Qb : Bool → Hp → Prop} (h : te σ H fun x H' => ∃ k, x = .bl k ∧ Qb k H') : tTest te σ H Qb := h
theorem w_tB {Qb : Bool → Hp → Prop} (h : te σ H fun x H' => ∃ k, x = .bl k ∧ Qb k H') : tB te σ H Qb := h
theorem w_and {Qb : Bool → Hp → Prop} (h : tt σ H fun c H1 => if c = true then tu σ H1 Qb else Qb false H1) : tAnd tt tu σ H Qb := h
theorem w_or {Qb : Bool → Hp → Prop} (h : tt σ H fun c H1 => if c = true then Qb true H1 else tu σ H1 Qb) : tOr tt tu σ H Qb := h
theorem w_not {Qb : Bool → Hp → Prop} (h : tt σ H fun c H1 => Qb (!c) H1) : tNot tt σ H Qb := h
theorem w_andV (h : ta σ H fun x H1 => ∃ c, x = .bl c ∧ (if c = true then tb σ H1 Q else Q (.bl false) H1)) : tAndV ta tb σ H Q := h
theorem w_orV (h : ta σ H fun x H1 => ∃ c, x = .bl c ∧ (if c = true then Q (.bl true) H1 else tb σ H1 Q)) : tOrV ta tb σ H Q := h
theorem w_notV (h : ta σ H fun x H1 => ∃ c, x = .bl c ∧ Q (.bl (!c)) H1) : tNotV ta σ H Q := h
theorem w_if (h : tt σ H fun b H1 => if b = true then t D σ H1 else u D σ H1) : tIfS tt t u D σ H := h
theorem w_ifE (h : tt σ H fun c H1 => if c = true then ta σ H1 Q else tb σ H1 Q) : tIf tt ta tb σ H Q := h
theorem w_nil {Ql : List V → Hp → Prop} (h : Ql [] H) : tNil σ H Ql := h
theorem w_cons {Ql : List V → Hp → Prop} (h : ta σ H fun x H1 => tr σ H1 fun xs H2 => Ql (x :: xs) H2) : tCons ta tr σ H Ql := h
theorem w_tup (h : tl σ H fun xs H1 => xs.length ≤ sizeLine ∧ ∀ p, H1 p = none → Q (.ref p) (upd H1 p (.tup xs))) : tTup tl σ H Q := h
theorem w_lst (h : tl σ H fun xs H1 => xs.length ≤ sizeLine ∧ ∀ p, H1 p = none → Q (.ref p) (upd H1 p (.lst xs))) : tLst tl σ H Q := h
theorem w_small {n : Nat} {P : Prop} (hn : n ≤ 100) (h : P) : n ≤ sizeLine ∧ P := ⟨Nat.le_trans hn (by decide), h⟩
theorem w_call {sp : Sp} {E : XK} (h : tl σ H fun vs H1 => sp vs H1 Q E) : tCall sp [] E tl σ H Q := by
  show tl σ H fun vs H1 => sp (vs ++ []) H1 Q E
  simp only [List.append_nil]; exact h
theorem w_meth {sp : Sp} {m : Str} {E : XK} (h : ta σ H fun x H1 => ∃ a dx fs, x = .ref a ∧ H1 a = some (.ins C dx fs) ∧ fs.lookup m = none ∧ tl σ H1 fun vs H2 => sp (x :: vs) H2 Q E) : tMeth C m sp [] E ta tl σ H Q := by
  show ta σ H fun x H1 => ∃ a dx fs, x = .ref a ∧ H1 a = some (.ins C dx fs) ∧ fs.lookup m = none ∧ tl σ H1 fun vs H2 => sp (x :: (vs ++ [])) H2 Q E
  simp only [List.append_nil]; exact h
theorem w_make {sp : Sp} {E : XK} (h : tl σ H fun vs H1 => ∀ x dx, H1 x = none → H1 dx = none → dx ≠ x → sp (.ref x :: vs) (upd (upd H1 dx (.own x)) x (.ins C dx [])) (fun v H2 => v = .non ∧ Q (.ref x) H2) E) : tMake C sp [] E tl σ H Q := by
  show tl σ H fun vs H1 => ∀ x dx, H1 x = none → H1 dx = none → dx ≠ x → sp (.ref x :: (vs ++ [])) (upd (upd H1 dx (.own x)) x (.ins C dx [])) (fun v H2 => v = .non ∧ Q (.ref x) H2) E
  simp only [List.append_nil]; exact h
theorem w_cb {r : RL} (h : tl σ H fun vs H1 => r vs H1 Q) : tCB r tl σ H Q := h
theorem w_oInt {a : Int} (q : Q (.int a) H) : oInt [.int a] H Q := .inl ⟨a, rfl, q⟩
theorem w_oAbs {a : Int} (q : Q (.int (if a < 0 then -a else a)) H) : oAbs [.int a] H Q := ⟨a, rfl, q⟩
theorem w_oMax2 {a b : Int} (q : Q (.int (if b > a then b else a)) H) : oMax2 [.int a, .int b] H Q := ⟨a, b, rfl, q⟩
theorem w_oMin2 {a b : Int} (q : Q (.int (if b < a then b else a)) H) : oMin2 [.int a, .int b] H Q := ⟨a, b, rfl, q⟩
theorem w_lenL {xs : List V} (h : SqL K H p xs) (q : Q (.int xs.length) H) : rLenQ K [.ref p] H Q := ⟨p, xs, rfl, .inl h, q⟩
theorem w_listL {xs : List V} (h : SqL K H p xs) (q : ∀ l, H l = none → Q (.ref l) (upd H l (.lst xs))) : oListOf K [.ref p] H Q := ⟨p, xs, rfl, .inl h, q⟩
theorem w_ixL {xs : List V} {k : Int} (h : SqL K H p xs) (ha : atI xs k = some v) (q : Q v H) : rIxL K (.ref p) (.int k) H Q := ⟨p, xs, k, v, rfl, rfl, h, ha, q⟩
theorem w_ixT {xs : List V} {k : Int} (h : H p = some (.tup xs)) (ha : atI xs k = some v) (q : Q v H) : rIxT K (.ref p) (.int k) H Q := ⟨p, xs, k, v, rfl, rfl, .inl (.inl h), ha, q⟩
theorem w_fld {f : Str} (h : ta σ H fun x H1 => ∃ a C dx fs v, x = .ref a ∧ H1 a = some (.ins C dx fs) ∧ Cls K C ∧ NoAttr K C f ∧ fs.lookup f = some v ∧ Q v H1) : tFld K ta f σ H Q := h
theorem w_bm {Tn : String} {r : V → List V → Hp → VK → Prop} (h : to σ H fun x H1 => tyV K Tn x H1 ∧ tl σ H1 fun xs H2 => r x xs H2 Q) : tBM K Tn r to tl σ H Q := h
theorem w_bm0 {Tn : String} {r : V → List V → Hp → VK → Prop} (h : to σ H fun x H1 => tyV K Tn x H1 ∧ r x [] H1 Q) : tBM0 K Tn r to σ H Q := h
theorem w_tyL {P : Prop} {xs : List V} (h : SqL K H p xs) (q : P) : tyV K "list" (.ref p) H ∧ P := ⟨.inl ⟨rfl, xs, h⟩, q⟩
theorem w_append {xs : List V} (h : H p = some (.lst xs)) (hl : xs.length < sizeLine) (q : Q .non (upd H p (.lst (xs ++ [v])))) : rAppend (.ref p) [v] H Q := ⟨p, xs, v, rfl, rfl, h, hl, q⟩
theorem w_cat {b : Addr} {xs ys : List V} (h : H p = some (.lst xs)) (hb : H b = some (.lst ys)) (hl : xs.length + ys.length ≤ sizeLine) (q : ∀ l, H l = none → Q (.ref l) (upd H l (.lst (xs ++ ys)))) : rCat (.ref p) (.ref b) H Q := ⟨p, b, xs, ys, rfl, rfl, h, hb, hl, q⟩
theorem w_sl {r : V → Option Int → Option Int → Hp → VK → Prop} {lo hi : TO} (h : te σ H fun x H1 => lo σ H1 fun l H2 => hi σ H2 fun u H3 => r x l u H3 Q) : tSl r te lo hi σ H Q := h
theorem w_noPart {R : Option Int → Hp → Prop} (h : R none H) : tNoPart σ H R := h
theorem w_part {R : Option Int → Hp → Prop} (h : te σ H fun x H1 => ∃ i, x = .int i ∧ R (some i) H1) : tPart te σ H R := h
theorem w_exI {P : Int → Prop} {a : Int} (q : P a) : ∃ k, V.int a = .int k ∧ P k := ⟨a, rfl, q⟩
theorem w_slL {xs : List V} {lo hi : Option Int} (h : SqL K H p xs) (q : ∀ l, H l = none → Q (.ref l) (upd H l (.lst (cutV xs lo hi)))) : rSlL K (.ref p) lo hi H Q := ⟨p, xs, rfl, h, q⟩
theorem w_gNil {R : L2.St → Hp → Prop} (h : R σ H) : gNil [] σ H R := ⟨rfl, h⟩
theorem w_gCons {R : L2.St → Hp → Prop} {g : TG} {gs : TGs} {vs : List V} (h : g v σ H fun σ' H' => gs vs σ' H' R) : gCons g gs (v :: vs) σ H R := ⟨v, vs, rfl, h⟩
theorem w_gTup {R : L2.St → Hp → Prop} {n : Nat} {gs : TGs} {vs : List V} (h : H p = some (.tup vs)) (hn : vs.length = n) (q : gs vs σ H R) : gTup K n gs (.ref p) σ H R := ⟨p, vs, rfl, .inl (.inl h), hn, q⟩
theorem w_listRg {te : L2.St → Hp → (Int → Int → Hp → Prop) → Prop} (h : te σ H fun a b H1 => RgOk a b ∧ ∀ q, H1 q = none → Q (.ref q) (upd H1 q (.lst (rgV a b)))) : tLstRg te σ H Q := h
theorem w_rg1 {R : Int → Int → Hp → Prop} (h : ta σ H fun x H1 => ∃ n, x = .int n ∧ R 0 n H1) : tRg1 ta σ H R := h
theorem w_augS {tget : V → V → Hp → VK → Prop} {tip : TIp} {ts : TSet} (h : to σ H fun o H1 => ti σ H1 fun i H2 => tget o i H2 fun x H3 => te σ H3 fun y H4 => tip x y H4 fun z H5 => ts o i z H5 fun H6 => D.nx σ H6) : tAugS to ti te tget tip ts D σ H := h
theorem w_ipI {f : Int → Int → Int} {a b : Int} (q : Q (.int (f a b)) H) : ipI f (.int a) (.int b) H Q := ⟨a, b, rfl, rfl, q⟩
theorem w_sum {xs : List Int} (h : SqL K H p (xs.map V.int)) (q : Q (.int xs.sum) H) : rSum K [.ref p] H Q := ⟨p, xs, rfl, h, q⟩
theorem w_iteD {A B : Prop} {c : Prop} [Decidable c] (h1 : c → A) (h2 : ¬ c → B) : if decide c = true then A else B := by
  by_cases h : c
  · rw [decide_eq_true h]; exact h1 h
  · rw [decide_eq_false h, if_neg Bool.false_ne_true]; exact h2 h
theorem w_iteN {A B : Prop} {c : Prop} [Decidable c] (h1 : ¬ c → A) (h2 : c → B) : if (!decide c) = true then A else B := by
  by_cases h : c
  · rw [decide_eq_true h]; exact h2 h
  · rw [decide_eq_false h]; exact h1 h
theorem w_iteT {A B : Prop} (h : A) : if true = true then A else B := h
theorem w_iteF {A B : Prop} (h : B) : if false = true then A else B := by rw [if_neg Bool.false_ne_true]; exact h

theorem w_cut (M : L2.St → Hp → Prop) (h1 : t { D with nx := M } σ H) (h2 : ∀ σ1 H1, M σ1 H1 → u D σ1 H1) : C8.tCut t u D σ H := ⟨M, h1, h2⟩
theorem w_yes {R : Bool → Hp → Prop} (q : R true H) : tYes σ H R := q
theorem w_exA {P : Int → Prop} {n : Int} (q : P n) : ∃ m, [V.int n] = [V.int m] ∧ P m := ⟨n, rfl, q⟩
theorem w_exA2 {P : Int → Int → Prop} {n m : Int} (q : P n m) : ∃ a b, [V.int n, V.int m] = [V.int a, V.int b] ∧ P a b := ⟨n, m, rfl, q⟩
theorem w_exR {P : Addr → Prop} (q : P p) : ∃ m, V.ref p = .ref m ∧ P m := ⟨p, rfl, q⟩
theorem w_exRA {P : Addr → Prop} (q : P p) : ∃ m, [V.ref p] = [.ref m] ∧ P m := ⟨p, rfl, q⟩
theorem w_exRA2 {P : Addr → Addr → Prop} {p2 : Addr} (q : P p p2) : ∃ m m2, [V.ref p, .ref p2] = [.ref m, .ref m2] ∧ P m m2 := ⟨p, p2, rfl, q⟩
theorem w_acc {xs : List V} {P : List V → Prop} (h : H p = some (.lst xs)) (hl : xs.length < sizeLine) (q : P xs) : ∃ acc, H p = some (.lst acc) ∧ acc.length < sizeLine ∧ P acc := ⟨xs, h, hl, q⟩
theorem w_fld2 {P : V → Prop} {f : Str} {fs : List (Str × V)} (h : H p = some (.ins C dx fs)) (hc : Cls K C) (hn : NoAttr K C f) (hl : fs.lookup f = some v) (q : P v) :
    ∃ a C dx fs w, V.ref p = .ref a ∧ H a = some (.ins C dx fs) ∧ Cls K C ∧ NoAttr K C f ∧ fs.lookup f = some w ∧ P w := ⟨p, C, dx, fs, v, rfl, h, hc, hn, hl, q⟩
theorem w_mth {P : Addr → Prop} {m : Str} {fs : List (Str × V)} (h : H p = some (.ins C dx fs)) (hl : fs.lookup m = none) (q : P p) :
    ∃ a dx fs, V.ref p = .ref a ∧ H a = some (.ins C dx fs) ∧ fs.lookup m = none ∧ P p := ⟨p, dx, fs, rfl, h, hl, q⟩
theorem w_sfld {f : Str} (h : tv σ H fun y H1 => to σ H1 fun x H2 => ∃ a C dx fs, x = .ref a ∧ H2 a = some (.ins C dx fs) ∧ Cls K C ∧ NoAttr K C f ∧ fs.length < 1000 ∧ D.nx σ (upd H2 a (.ins C dx (putF f y fs)))) : sFld K to tv f D σ H := h
theorem w_sfld2 {P : Hp → Prop} {f : Str} {fs : List (Str × V)} (h : H p = some (.ins C dx fs)) (hc : Cls K C) (hn : NoAttr K C f) (hl : fs.length < 1000) (q : P (upd H p (.ins C dx (putF f v fs)))) :
    ∃ a C dx fs, V.ref p = .ref a ∧ H a = some (.ins C dx fs) ∧ Cls K C ∧ NoAttr K C f ∧ fs.length < 1000 ∧ P (upd H a (.ins C dx (putF f v fs))) := ⟨p, C, dx, fs, rfl, h, hc, hn, hl, q⟩
theorem w_never (h : False) : tNever D σ H := h
theorem w_augName {ti : TIp} (h : σ[i]? = some (some v)) (q : te σ H fun y H1 => ti v y H1 fun z H2 => D.nx (σ.set i (some z)) H2) : tAug i te ti D σ H := ⟨v, h, q⟩

theorem at0 {a : V} {r : List V} : atI (a :: r) 0 = some a := atI_nat (xs := a :: r) (j := 0) rfl
theorem at1 {a b : V} {r : List V} : atI (a :: b :: r) 1 = some b := atI_nat (xs := a :: b :: r) (j := 1) rfl
theorem at2 {a b c : V} {r : List V} : atI (a :: b :: c :: r) 2 = some c := atI_nat (xs := a :: b :: c :: r) (j := 2) rfl
theorem at3 {a b c d : V} {r : List V} : atI (a :: b :: c :: d :: r) 3 = some d := atI_nat (xs := a :: b :: c :: d :: r) (j := 3) rfl
theorem at4 {a b c d e : V} {r : List V} : atI (a :: b :: c :: d :: e :: r) 4 = some e := atI_nat (xs := a :: b :: c :: d :: e :: r) (j := 4) rfl
theorem ixn {n : Nat} {k : Int} {j : Nat} (e : k = (j : Int)) (h : j < n) : ixN n k = some j := by
  unfold ixN; rw [e, if_pos (by omega), if_pos (by omega)]; simp
theorem ix0 {a : V} {r : List V} : ixN (a :: r).length 0 = some 0 := ixn rfl (by simp)
theorem ix1 {a b : V} {r : List V} : ixN (a :: b :: r).length 1 = some 1 := ixn rfl (by simp)
theorem ix2 {a b c : V} {r : List V} : ixN (a :: b :: c :: r).length 2 = some 2 := ixn rfl (by simp)
theorem atn {xs : List V} {k : Int} {j : Nat} {v : V} (e : k = (j : Int)) (h : xs[j]? = some v) : atI xs k = some v := by rw [e]; exact atI_nat h
theorem ati {xs : List Int} {k : Int} (h0 : 0 ≤ k) (h1 : k < xs.length) : atI (xs.map V.int) k = some (V.int (xs.getD k.toNat 0)) := by
  refine atn (j := k.toNat) (by omega) ?_
  rw [List.getElem?_map, List.getElem?_eq_getElem (by omega), List.getD_eq_getElem?_getD, List.getElem?_eq_getElem (by omega)]; rfl

/-! ### loops -/
/-- a loop whose iterator has come -/
def ForW (J : It) (g : TG) (tb : TS) (D : Ends) (σ : L2.St) (H : Hp) : Prop := tFor (fun _ H R => R J H) g tb D σ H
theorem w_forR1 {g : TG} {tb : TS} (h : tl σ H fun vs H1 => ∃ n : Int, vs = [.int n] ∧ -(2 ^ 62) ≤ n ∧ n < 2 ^ 62 ∧ ForW (Itr 0 n.toNat) g tb D σ H1) : tFor (iRng1 tl) g tb D σ H := h
theorem w_forR2 {g : TG} {tb : TS} (h : tl σ H fun vs H1 => ∃ m n : Int, vs = [.int m, .int n] ∧ (-(2 ^ 62) ≤ m ∧ m < 2 ^ 62 ∧ -(2 ^ 62) ≤ n ∧ n < 2 ^ 62) ∧ ForW (Itr m (n - m).toNat) g tb D σ H1) : tFor (iRng2 tl) g tb D σ H := h
theorem w_forL {g : TG} {tb : TS} (h : te σ H fun x H1 => ∃ a, x = .ref a ∧ (∃ xs, SqL K H1 a xs) ∧ ForW (Itl K a) g tb D σ H1) : tFor (iList K te) g tb D σ H := h
theorem w_forZ {g : TG} {tb : TS} (h : tl σ H fun vs H1 => ∃ a b xs ys, vs = [.ref a, .ref b] ∧ SqL K H1 a xs ∧ SqL K H1 b ys ∧ ForW (Itz K a b) g tb D σ H1) : tFor (iZip K tl) g tb D σ H := h
theorem w_forE {g : TG} {tb : TS} (h : tl σ H fun vs H1 => ∃ a xs, vs = [.ref a] ∧ SqL K H1 a xs ∧ ForW (Ite K a) g tb D σ H1) : tFor (iEnum K tl) g tb D σ H := h
theorem w_bd1 {n : Int} {P : Prop} (h0 : -4611686018427387904 ≤ n) (h1 : n < 4611686018427387904) (q : P) : -(2 ^ 62) ≤ n ∧ n < 2 ^ 62 ∧ P := ⟨by omega, by omega, q⟩
theorem w_bd2 {m n : Int} {P : Prop} (h0 : -4611686018427387904 ≤ m) (h1 : m < 4611686018427387904) (h2 : -4611686018427387904 ≤ n) (h3 : n < 4611686018427387904) (q : P) : (-(2 ^ 62) ≤ m ∧ m < 2 ^ 62 ∧ -(2 ^ 62) ≤ n ∧ n < 2 ^ 62) ∧ P := ⟨⟨by omega, by omega, by omega, by omega⟩, q⟩
theorem w_sqE {xs : List V} {P : Prop} (h : SqL K H p xs) (q : P) : (∃ ys, SqL K H p ys) ∧ P := ⟨⟨xs, h⟩, q⟩
theorem forR {lo : Int} {n : Nat} {g : TG} {tb : TS} (Pv : Nat → L2.St → Hp → Prop) (h0 : Pv 0 σ H)
    (hs : ∀ i σ1 H1, i < n → Pv i σ1 H1 → g (.int (lo + i)) σ1 H1 fun σ2 H2 => tb { D with nx := Pv (i + 1), ct := Pv (i + 1), bk := D.nx } σ2 H2) (hd : ∀ σ1 H1, Pv n σ1 H1 → D.nx σ1 H1) : ForW (Itr lo n) g tb D σ H := for_range Pv h0 hs hd
theorem forL {a : Addr} {xs : List V} {g : TG} {tb : TS} (Pv : Nat → L2.St → Hp → Prop) (h0 : Pv 0 σ H) (hl : ∀ i σ1 H1, i ≤ xs.length → Pv i σ1 H1 → SqL K H1 a xs)
    (hs : ∀ i x σ1 H1, xs[i]? = some x → Pv i σ1 H1 → g x σ1 H1 fun σ2 H2 => tb { D with nx := Pv (i + 1), ct := Pv (i + 1), bk := D.nx } σ2 H2) (hd : ∀ σ1 H1, Pv xs.length σ1 H1 → D.nx σ1 H1) : ForW (Itl K a) g tb D σ H := for_list (xs := xs) Pv h0 hl hs hd
/-- a comprehension whose iterator has come -/
def LcW (J : It) (g : TG) (tt : TT) (te : TE) (vs : List Nat) (σ : L2.St) (H : Hp) (Q : VK) : Prop := tLc (fun _ H R => R J H) g tt te vs σ H Q
theorem w_lcR1 {g : TG} {vs : List Nat} (h : tl σ H fun us H1 => ∃ n : Int, us = [.int n] ∧ -(2 ^ 62) ≤ n ∧ n < 2 ^ 62 ∧ LcW (Itr 0 n.toNat) g tt te vs σ H1 Q) : tLc (iRng1 tl) g tt te vs σ H Q := h
theorem w_lcL {g : TG} {vs : List Nat} {tz : TE} (h : tz σ H fun x H1 => ∃ a, x = .ref a ∧ (∃ xs, SqL K H1 a xs) ∧ LcW (Itl K a) g tt te vs σ H1 Q) : tLc (iList K tz) g tt te vs σ H Q := h
/-- one turn of a comprehension -/
def LcT (tt : TT) (te : TE) (Dl : Addr) (N : Hp → Prop) (σ : L2.St) (H : Hp) : Prop := tt σ H fun b H3 =>
  if b = true then te σ H3 fun y H4 => ∃ acc, H4 Dl = some (.lst acc) ∧ acc.length < sizeLine ∧ N (upd H4 Dl (.lst (acc ++ [y]))) else N H3
theorem lcR {lo : Int} {n : Nat} {g : TG} {vs : List Nat} (Pv : Addr → Nat → Hp → Prop) (h0 : ∀ Dl, H Dl = none → Pv Dl 0 (upd H Dl (.lst [])))
    (hs : ∀ Dl i H1, H Dl = none → i < n → Pv Dl i H1 → g (.int (lo + i)) (wipe σ vs) H1 fun σ2 H2 => wipe σ2 vs = wipe σ vs ∧ LcT tt te Dl (Pv Dl (i + 1)) σ2 H2) (hd : ∀ Dl H1, H Dl = none → Pv Dl n H1 → Q (.ref Dl) H1) : LcW (Itr lo n) g tt te vs σ H Q :=
  fun Dl hD => lc_range (Pv Dl) (h0 Dl hD) (fun i H1 hi p => hs Dl i H1 hD hi p) (fun H1 p => hd Dl H1 hD p)
theorem lcL {a : Addr} {xs : List V} {g : TG} {vs : List Nat} (Pv : Addr → Nat → Hp → Prop) (h0 : ∀ Dl, H Dl = none → Pv Dl 0 (upd H Dl (.lst []))) (hl : ∀ Dl i H1, H Dl = none → i ≤ xs.length → Pv Dl i H1 → SqL K H1 a xs)
    (hs : ∀ Dl i x H1, H Dl = none → xs[i]? = some x → Pv Dl i H1 → g x (wipe σ vs) H1 fun σ2 H2 => wipe σ2 vs = wipe σ vs ∧ LcT tt te Dl (Pv Dl (i + 1)) σ2 H2) (hd : ∀ Dl H1, H Dl = none → Pv Dl xs.length H1 → Q (.ref Dl) H1) : LcW (Itl K a) g tt te vs σ H Q :=
  fun Dl hD => lc_list (K := K) (a := a) (xs := xs) (Pv Dl) (h0 Dl hD) (fun i H1 hi p => hl Dl i H1 hD hi p) (fun i x H1 hx p => hs Dl i x H1 hD hx p) (fun H1 p => hd Dl H1 hD p)
theorem w_lcT {Dl : Addr} {N : Hp → Prop} (h : te σ H fun y H4 => ∃ acc, H4 Dl = some (.lst acc) ∧ acc.length < sizeLine ∧ N (upd H4 Dl (.lst (acc ++ [y])))) : LcT tYes te Dl N σ H := h
theorem w_lcTif {Dl : Addr} {N : Hp → Prop} (h : tt σ H fun b H3 => if b = true then (te σ H3 fun y H4 => ∃ acc, H4 Dl = some (.lst acc) ∧ acc.length < sizeLine ∧ N (upd H4 Dl (.lst (acc ++ [y])))) else N H3) : LcT tt te Dl N σ H := h
theorem w_wipe {σ1 : L2.St} {P : Prop} (h : σ = σ1) (q : P) : σ = σ1 ∧ P := ⟨h, q⟩
end
/-! ### sources of draws: lists of three ints -/
section
variable {H H' H1 H2 H3 : Hp} {p q s : Addr} {o o' : HO} {xs : List V}
def Src (H : Hp) (s : Addr) : Prop := ∃ x y z u : Int, H s = some (.lst [.int x, .int y, .int z, .int u])
theorem Src.ex (h : Src H s) : ∃ xs, H s = some (.lst xs) := let ⟨_, _, _, _, e⟩ := h; ⟨_, e⟩
theorem Src.neFree (h : Src H s) (hq : H q = none) : q ≠ s := fun e => by obtain ⟨_, _, _, _, hs⟩ := h; rw [e, hs] at hq; cases hq
theorem Src.neTup {xs : List V} (h : Src H s) (hq : H q = some (.tup xs)) : q ≠ s := fun e => by obtain ⟨_, _, _, _, hs⟩ := h; rw [e, hs] at hq; cases hq
theorem Src.neIns {C dx : Addr} {fs : List (Str × V)} (h : Src H s) (hq : H q = some (.ins C dx fs)) : q ≠ s := fun e => by obtain ⟨_, _, _, _, hs⟩ := h; rw [e, hs] at hq; cases hq
theorem Src.new (h : Src H s) (hp : H p = none) : Src (upd H p o) s := let ⟨x, y, z, u, e⟩ := h; ⟨x, y, z, u, keep e hp⟩
theorem Src.mut (h : Src H s) (hp : p ≠ s) : Src (upd H p o) s := let ⟨x, y, z, u, e⟩ := h; ⟨x, y, z, u, keepNe e hp.symm⟩
theorem Src.same (e : Same H H') (h : Src H s) : Src H' s := let ⟨x, y, z, u, q⟩ := h; ⟨x, y, z, u, e _ _ q⟩
theorem But.at (b : But s H H') (hn : q ≠ s) (h : H q = some o) : H' q = some o := b _ _ hn h
theorem But.back (b : But s H H') (h2 : Src H' s) (hp : H' p = none) : H p = none := by
  cases hq : H p with
  | none => rfl
  | some u => rw [b p u (h2.neFree hp) hq] at hp; cases hp
theorem But.trans' (b : But s H1 H2) (a : But s H H1) : But s H H2 := a.trans b
theorem Same.trans' (b : Same H1 H2) (a : Same H H1) : Same H H2 := a.trans b
theorem Same.at (e : Same H H') (h : H q = some o) : H' q = some o := e _ _ h
theorem ne1 (hl : H p = none) (hq : H q = some o) : q ≠ p := ne_of_none hq hl
theorem free_upd (h : upd H p o q = none) : H q = none := by
  cases e : H q with
  | none => rfl
  | some u =>
    by_cases hn : q = p
    · rw [hn, upd_same] at h; cases h
    · rw [upd_ne hn, e] at h; cases h
/-- a pair of ints at a value; a list of such pairs -/
def PR (H : Hp) (v : V) (r : Int × Int) : Prop := ∃ t, v = .ref t ∧ H t = some (.tup [.int r.1, .int r.2])
def RowsAt (H : Hp) (p : Addr) (rows : List (Int × Int)) : Prop := ∃ vs, H p = some (.lst vs) ∧ Paired (PR H) vs rows
theorem PR.but {v : V} {r : Int × Int} (b : But s H H') (hs : Src H s) (h : PR H v r) : PR H' v r := let ⟨t, e, ht⟩ := h; ⟨t, e, b.at (hs.neTup ht) ht⟩
theorem PR.same {v : V} {r : Int × Int} (b : Same H H') (h : PR H v r) : PR H' v r := let ⟨t, e, ht⟩ := h; ⟨t, e, b _ _ ht⟩
theorem PR.mutL {v : V} {r : Int × Int} {xs : List V} (hp : H p = some (.lst xs)) (h : PR H v r) : PR (upd H p o) v r := let ⟨t, e, ht⟩ := h; ⟨t, e, keepNe ht (ne_of ht hp (by intro z; cases z))⟩
theorem PRs.but {vs : List V} {rows : List (Int × Int)} (b : But s H H') (hs : Src H s) (h : Paired (PR H) vs rows) : Paired (PR H') vs rows := h.mono fun _ _ q => PR.but b hs q
theorem PRs.same {vs : List V} {rows : List (Int × Int)} (b : Same H H') (h : Paired (PR H) vs rows) : Paired (PR H') vs rows := h.mono fun _ _ q => PR.same b q
theorem PRs.mutL {vs xs : List V} {rows : List (Int × Int)} (hp : H p = some (.lst xs)) (h : Paired (PR H) vs rows) : Paired (PR (upd H p o)) vs rows := h.mono fun _ _ q => PR.mutL hp q
theorem PRs.new {vs : List V} {rows : List (Int × Int)} (hp : H p = none) (h : Paired (PR H) vs rows) : Paired (PR (upd H p o)) vs rows := h.mono fun _ _ q => PR.same (same_new hp) q
theorem RowsAt.but {rows : List (Int × Int)} (b : But s H H') (hs : Src H s) (hn : p ≠ s) (h : RowsAt H p rows) : RowsAt H' p rows := let ⟨vs, e, k⟩ := h; ⟨vs, b.at hn e, PRs.but b hs k⟩
theorem RowsAt.same {rows : List (Int × Int)} (b : Same H H') (h : RowsAt H p rows) : RowsAt H' p rows := let ⟨vs, e, k⟩ := h; ⟨vs, b _ _ e, PRs.same b k⟩
theorem RowsAt.neFree {rows : List (Int × Int)} (h : RowsAt H q rows) (hp : H p = none) : q ≠ p := let ⟨_, e, _⟩ := h; ne_of_none e hp
theorem Paired.at {α β : Type} {F : α → β → Prop} : ∀ {l₁ : List α} {l₂ : List β}, Paired F l₁ l₂ → ∀ {i : Nat} {b : β}, l₂[i]? = some b → ∃ a, l₁[i]? = some a ∧ F a b
  | _, _, .nil, i, b, h => by simp at h
  | _, _, .cons f r, 0, b, h => by
    have e := Option.some.inj h
    subst e; exact ⟨_, rfl, f⟩
  | _, _, .cons f r, i + 1, b, h => by
    obtain ⟨a, h1, h2⟩ := Paired.at r (i := i) (b := b) (by simpa using h)
    exact ⟨a, by simpa using h1, h2⟩
theorem Paired.at' {α β : Type} {F : α → β → Prop} : ∀ {l₁ : List α} {l₂ : List β}, Paired F l₁ l₂ → ∀ {i : Nat} {a : α}, l₁[i]? = some a → ∃ b, l₂[i]? = some b ∧ F a b
  | _, _, .nil, i, b, h => by simp at h
  | _, _, .cons f r, 0, b, h => by
    have e := Option.some.inj h
    subst e; exact ⟨_, rfl, f⟩
  | _, _, .cons f r, i + 1, b, h => by
    obtain ⟨a, h1, h2⟩ := Paired.at' r (i := i) (a := b) (by simpa using h)
    exact ⟨a, by simpa using h1, h2⟩
end
end G

namespace G
open PySem L2
structure CA where
structure CT (K : PySem.W.Frag) (A : CA) : Prop where
end G

/-! ### the tactic: walk_at "go" -/
local macro_rules | `(tactic| walk_at "hp") => `(tactic| first
  | assumption | exact L2.upd_same
  | exact G.keep (by walk_at "hp") (by assumption)
  | exact G.keepNe (by walk_at "hp") (by walk_at "ne")
  | exact G.But.at (by assumption) (by walk_at "ne") (by walk_at "hp")
  | exact G.Same.at (by assumption) (by walk_at "hp"))
local macro_rules | `(tactic| walk_at "ne") => `(tactic| first
  | assumption | exact Ne.symm (by assumption)
  | exact G.Src.neFree (by assumption) (by assumption) | exact (G.Src.neFree (by assumption) (by assumption)).symm
  | exact G.ne1 (by assumption) (by walk_at "hp") | exact (G.ne1 (by assumption) (by walk_at "hp")).symm)
local macro_rules | `(tactic| walk_at "src") => `(tactic| first
  | assumption | exact G.Src.new (by walk_at "src") (by assumption) | exact G.Src.mut (by walk_at "src") (by walk_at "ne") | exact G.Src.same (by assumption) (by walk_at "src"))
local macro_rules | `(tactic| walk_at "but") => `(tactic| first
  | assumption | exact G.But.refl
  | exact G.But.mut (by walk_at "but") (by assumption) | exact G.But.new (by walk_at "but") (by assumption) | exact G.But.self (by walk_at "but")
  | exact G.But.trans' (by assumption) (by walk_at "but") | exact G.But.trans' (G.Same.but (by assumption)) (by walk_at "but"))
local macro_rules | `(tactic| walk_at "same") => `(tactic| first
  | assumption | exact L2.Same.refl _
  | exact G.same_mut (by walk_at "same") (by assumption) | exact G.Same.trans' (G.same_new (by assumption)) (by walk_at "same") | exact G.Same.trans' (by assumption) (by walk_at "same"))
local macro_rules | `(tactic| walk_at "sq") => `(tactic| first
  | assumption | exact G.SqL.same (by assumption) (by walk_at "same") | exact L2.SqL.of (by walk_at "hp"))
local macro_rules | `(tactic| walk_at "at") => `(tactic| first
  | assumption | exact L2.atI_nat (by assumption) | exact G.at0 | exact G.at1 | exact G.at2 | exact G.at3 | exact G.at4)
local macro_rules | `(tactic| walk_at "ix") => `(tactic| first
  | assumption | exact G.ix0 | exact G.ix1 | exact G.ix2)
local macro_rules | `(tactic| walk_at "ar") => `(tactic| first | assumption | omega | decide)
local macro_rules | `(tactic| walk_at "one") => `(tactic| (with_reducible first
  | refine' G.w_seq ?_ | refine' G.w_asg ?_ | (refine' G.w_var ?g1 ?_; (case g1 => with_unfolding_all rfl)) | refine' G.w_c ?_ | refine' G.w_name ?_ | refine' G.w_op ?_
  | refine' G.w_oAdd ?_ | refine' G.w_oSub ?_ | (refine' G.w_oMulR ?g1 ?g2 ?_; (case g1 => walk_at "ar"); (case g2 => walk_at "ar")) | (refine' G.w_oMulL ?g1 ?g2 ?_; (case g1 => walk_at "ar"); (case g2 => walk_at "ar")) | (refine' G.w_oDiv ?g1 ?g2 ?_; (case g1 => walk_at "ar"); (case g2 => walk_at "ar")) | (refine' G.w_oMod ?g1 ?_; (case g1 => walk_at "ar")) | (refine' G.w_oPow ?g1 ?g2 ?g3 ?_; (case g1 => walk_at "ar"); (case g2 => walk_at "ar"); (case g3 => with_unfolding_all decide))
  | refine' G.w_oLt ?_ | refine' G.w_oLe ?_ | refine' G.w_oGt ?_ | refine' G.w_oGe ?_ | refine' G.w_un ?_ | refine' G.w_oNeg ?_ | refine' G.w_brk ?_ | refine' G.w_cont ?_ | refine' G.w_eqI ?_ | refine' G.w_neI ?_ | refine' G.w_eqB ?_
  | refine' G.w_cons ?_ | refine' G.w_nil ?_ | refine' G.w_ex ?_ | refine' G.w_exI ?_
  | refine' G.w_ret ?_ | refine' G.w_drop ?_ | refine' G.w_next ?_ | refine' G.w_retN ?_ | refine' G.w_if ?_ | refine' G.w_test ?_ | refine' G.w_tB ?_ | refine' G.w_ifE ?_
  | refine' G.w_iteT ?_ | refine' G.w_iteF ?_
  | refine' G.w_cb ?_ | refine' G.w_oInt ?_ | refine' G.w_oAbs ?_ | refine' G.w_oMax2 ?_ | refine' G.w_oMin2 ?_ | refine' G.w_call ?_ | refine' G.w_meth ?_ | refine' G.w_make ?_
  | refine' G.w_tup ?_ | refine' G.w_lst ?_ | (refine' G.w_small ?g1 ?_; (case g1 => with_unfolding_all exact Nat.le_of_ble_eq_true rfl))
  | (refine' G.w_ixL ?g1 ?g2 ?_; (case g1 => walk_at "sq"); (case g2 => with_unfolding_all walk_at "at"))
  | (refine' G.w_ixT ?g1 ?g2 ?_; (case g1 => walk_at "hp"); (case g2 => with_unfolding_all walk_at "at"))
  | (refine' G.w_lenL ?g1 ?_; (case g1 => walk_at "sq")) | (refine' G.w_listL ?g1 ?_; (case g1 => walk_at "sq")) | (refine' G.w_sum ?g1 ?_; (case g1 => walk_at "sq"))
  | refine' G.w_bm ?_ | refine' G.w_bm0 ?_ | (refine' G.w_tyL ?g1 ?_; (case g1 => walk_at "sq"))
  | (refine' G.w_append ?g1 ?g2 ?_; (case g1 => walk_at "hp"); (case g2 => walk_at "sz"))
  | refine' G.w_sub ?_ | (refine' G.w_setL ?g1 ?g2 ?_; (case g1 => walk_at "hp"); (case g2 => with_unfolding_all walk_at "ix"))
  | (refine' G.w_cat ?g1 ?g2 ?g3 ?_; (case g1 => walk_at "hp"); (case g2 => walk_at "hp"); (case g3 => walk_at "sz"))
  | refine' G.w_sl ?_ | refine' G.w_noPart ?_ | refine' G.w_part ?_ | (refine' G.w_slL ?g1 ?_; (case g1 => walk_at "sq"))
  | refine' G.w_gCons ?_ | refine' G.w_gNil ?_ | (refine' G.w_gTup ?g1 ?g2 ?_; (case g1 => walk_at "hp"); (case g2 => with_unfolding_all rfl))
  | refine' G.w_chain ?_ | refine' G.w_and ?_ | refine' G.w_or ?_ | refine' G.w_not ?_ | refine' G.w_andV ?_ | refine' G.w_orV ?_ | refine' G.w_notV ?_
  | refine' G.w_listRg ?_ | refine' G.w_rg1 ?_ | refine' G.w_augS ?_ | refine' G.w_ipI ?_
  | refine' G.w_fld ?_ | refine' G.w_sfld ?_ | refine' G.w_yes ?_ | refine' G.w_exA ?_ | refine' G.w_exA2 ?_ | refine' G.w_exR ?_ | refine' G.w_exRA ?_
  | (refine' G.w_acc ?g1 ?g2 ?_; (case g1 => walk_at "hp"); (case g2 => walk_at "sz"))
  | refine' G.w_forR1 ?_ | refine' G.w_forR2 ?_ | refine' G.w_forL ?_ | refine' G.w_forZ ?_ | refine' G.w_forE ?_ | refine' G.w_lcR1 ?_ | refine' G.w_lcL ?_
  | (refine' G.w_bd1 ?g1 ?g2 ?_; (case g1 => walk_at "ar"); (case g2 => walk_at "ar"))
  | (refine' G.w_bd2 ?g1 ?g2 ?g3 ?g4 ?_; (case g1 => walk_at "ar"); (case g2 => walk_at "ar"); (case g3 => walk_at "ar"); (case g4 => walk_at "ar"))
  | (refine' G.w_sqE ?g1 ?_; (case g1 => walk_at "sq"))
  | (refine' G.w_wipe ?g1 ?_; (case g1 => with_unfolding_all rfl)) | refine' G.w_lcT ?_ | refine' G.w_lcTif ?_
  | (refine' G.w_augName ?g1 ?_; (case g1 => with_unfolding_all rfl))
  | walk_at "call"))
local macro_rules | `(tactic| walk_at "sz") => `(tactic| first | assumption | exact L2.small1000 (by omega) | omega | exact L2.small1000 (by simp only [List.length_map, List.length_append, List.length_cons, List.length_nil, List.length_range, List.length_take, List.length_drop, List.length_set]; omega) | exact Nat.le_of_lt (L2.small1000 (by simp only [List.length_map, List.length_append, List.length_cons, List.length_nil, List.length_range, List.length_take, List.length_drop, List.length_set]; omega)))
local macro_rules | `(tactic| walk_at "go") => `(tactic| repeat walk_at "one")

/-! the mathematics of heights -/
namespace M
def ho (b n w : Int) : Int := if n = 0 then b + 1 else if n = 1 ∧ b ≥ w then 1 else 0
def lo (b n w : Int) : Int := if n ≥ 2 then 0 else if n = 1 then (if b ≥ w then 1 else 0) else b + 1
theorem lo_eq {b n w : Int} (h : 0 ≤ n) : lo b n w = ho b n w := by
  unfold lo ho
  by_cases h0 : n = 0
  · subst h0; simp
  · by_cases h1 : n = 1
    · subst h1; simp
    · rw [if_pos (by omega), if_neg h0, if_neg (by omega)]
/-- heights of the pages of a chain given from its end: hscan b of the reversed chain -/
def hscan (w : Int) : Int → List Int → List Int
  | _, [] => []
  | b, n :: r => ho b n w :: hscan w (ho b n w) r
/-- the height that stands after a reversed chain -/
def hlast (w : Int) : Int → List Int → Int
  | b, [] => b
  | b, n :: r => hlast w (ho b n w) r
theorem hscan_snoc (w b : Int) (xs : List Int) (n : Int) : hscan w b (xs ++ [n]) = hscan w b xs ++ [ho (hlast w b xs) n w] := by
  induction xs generalizing b with
  | nil => rfl
  | cons x r ih => simp [hscan, hlast, ih]
theorem hlast_snoc (w b : Int) (xs : List Int) (n : Int) : hlast w b (xs ++ [n]) = ho (hlast w b xs) n w := by
  induction xs generalizing b with
  | nil => rfl
  | cons x r ih => simp [hlast, ih]
theorem hscan_length (w b : Int) (xs : List Int) : (hscan w b xs).length = xs.length := by
  induction xs generalizing b with
  | nil => rfl
  | cons x r ih => simp [hscan, ih]
/-- the heights from the top, and the height of the first page -/
def hts (w : Int) (c : List Int) : List Int := (hscan w 0 c.reverse).reverse
def ht (w : Int) : List Int → Int
  | [] => 0
  | n :: r => ho (ht w r) n w
theorem ht_c (w n : Int) (r : List Int) : ht w (n :: r) = ho (ht w r) n w := rfl
theorem ho0 (b w : Int) : ho b 0 w = b + 1 := rfl
theorem hlast_rev (w : Int) (c : List Int) : hlast w 0 c.reverse = ht w c := by
  induction c with
  | nil => rfl
  | cons n r ih => rw [List.reverse_cons, hlast_snoc, ih]; rfl
theorem hts_cons (w n : Int) (r : List Int) : hts w (n :: r) = ht w (n :: r) :: hts w r := by
  unfold hts; rw [List.reverse_cons, hscan_snoc, List.reverse_append, hlast_rev]; rfl
theorem hts_nil (w : Int) : hts w [] = [] := rfl
theorem hts_length (w : Int) (c : List Int) : (hts w c).length = c.length := by unfold hts; simp [hscan_length]
theorem hts_get (w : Int) (c : List Int) (i : Nat) (h : i < c.length) : (hts w c)[i]? = some (ht w (c.drop i)) := by
  induction c generalizing i with
  | nil => simp at h
  | cons n r ih =>
    rw [hts_cons]
    cases i with
    | zero => rfl
    | succ i => simp at h; simpa using ih i h
/-- keepable: no height above w -/
def keep (w : Int) (c : List Int) : Bool := !(hts w c).any fun h => decide (h > w)
/-- the search of a stretch from a place on: fuel, the rest from the place -/
def seek (w : Nat) : Nat → List Int → Bool
  | 0, _ => false
  | _ + 1, [] => false
  | f + 1, n :: r => if n > 1 then false else if n = 0 then true else if (r.take (w - 1)).any (fun z => decide (z ≠ 0)) then false else seek w f (r.drop (w - 1))
/-- the law's search -/
def stretch (w : Nat) (c : List Int) : Bool :=
  (List.range (c.length - w)).any fun s => !((c.drop s).take w).any (fun z => decide (z ≠ 0)) && seek w c.length (c.drop (s + w))

theorem ht_nonneg (w : Int) (c : List Int) : 0 ≤ ht w c := by
  induction c with
  | nil => exact Int.le_refl 0
  | cons n r ih => unfold ht ho; split <;> (try split) <;> omega

theorem ht_zeros (w : Int) : ∀ (k : Nat) (r : List Int), (r.take k).any (fun z => decide (z ≠ 0)) = false → k ≤ r.length → ht w r = (k : Int) + ht w (r.drop k)
  | 0, r, _, _ => by simp
  | k + 1, [], _, h => by simp at h
  | k + 1, n :: r, ha, h => by
    simp only [List.take_succ_cons, List.any_cons, Bool.or_eq_false_iff, decide_eq_false_iff_not, Decidable.not_not] at ha
    obtain ⟨rfl, h2⟩ := ha
    have := ht_zeros w k r h2 (by simpa using h)
    simp only [List.drop_succ_cons]
    rw [ht_c, ho0, this]; omega
/-- a found stretch makes a height of at least 1 at its place (all entries at least 0) -/
theorem seek_ht (w : Nat) (hw : 1 ≤ w) : ∀ (f : Nat) (c : List Int), (∀ n ∈ c, 0 ≤ n) → seek w f c = true → 1 ≤ ht w c
  | 0, c, _, h => by simp [seek] at h
  | f + 1, [], _, h => by simp [seek] at h
  | f + 1, n :: r, h0, h => by
    have hn : 0 ≤ n := h0 n (by simp)
    unfold seek at h
    by_cases h1 : n > 1
    · rw [if_pos h1] at h; simp at h
    rw [if_neg h1] at h
    by_cases h2 : n = 0
    · subst h2
      have := ht_nonneg w r
      unfold ht ho; rw [if_pos rfl]; omega
    rw [if_neg h2] at h
    have h3 : n = 1 := by omega
    subst h3
    by_cases h4 : (r.take (w - 1)).any (fun z => decide (z ≠ 0)) = true
    · rw [if_pos h4] at h; simp at h
    rw [if_neg h4] at h
    have h4 : (r.take (w - 1)).any (fun z => decide (z ≠ 0)) = false := by simpa using h4
    have h5 := seek_ht w hw f (r.drop (w - 1)) (fun z hz => h0 z (List.mem_cons_of_mem _ (List.mem_of_mem_drop hz))) h
    have hl : w - 1 ≤ r.length := by
      by_cases hc : w - 1 ≤ r.length
      · exact hc
      · rw [List.drop_eq_nil_of_le (by omega)] at h
        cases f <;> simp [seek] at h
    have := ht_zeros w (w - 1) r h4 hl
    unfold ht ho
    rw [if_neg (by decide), if_pos ⟨rfl, by omega⟩]; omega
theorem keep_false {w : Nat} {c : List Int} (h : keep w c = false) : ∃ i, i < c.length ∧ ht w (c.drop i) > w := by
  unfold keep at h
  simp only [Bool.not_eq_false', List.any_eq_true, decide_eq_true_eq] at h
  obtain ⟨x, hx, hg⟩ := h
  obtain ⟨i, hi, e⟩ := List.getElem_of_mem hx
  have hl : i < c.length := by rw [hts_length] at hi; exact hi
  have := hts_get w c i hl
  rw [List.getElem?_eq_getElem hi, e] at this
  exact ⟨i, hl, by rw [← Option.some.inj this]; exact hg⟩
theorem keep_true {w : Nat} {c : List Int} (h : keep w c = true) : ∀ i, i < c.length → ht w (c.drop i) ≤ w := by
  intro i hi
  unfold keep at h
  simp only [Bool.not_eq_true', List.any_eq_false, decide_eq_true_eq] at h
  have := hts_get w c i hi
  have hm : ht w (c.drop i) ∈ hts w c := List.mem_of_getElem? this
  have := h _ hm
  omega
theorem keep_of {w : Nat} {c : List Int} (h : ∀ i, i < c.length → ht w (c.drop i) ≤ w) : keep w c = true := by
  cases hk : keep w c with
  | true => rfl
  | false => obtain ⟨i, hi, hg⟩ := keep_false hk; have := h i hi; omega
/-- the run of zeros that a height wants -/
theorem zeros_of (w : Int) : ∀ (k : Nat) (c : List Int), (k : Int) + 1 ≤ ht w c → (c.take k).any (fun z => decide (z ≠ 0)) = false ∧ k < c.length ∧ ht w (c.drop k) = ht w c - k
  | 0, [], h => by simp [ht] at h
  | 0, n :: r, h => by simp
  | k + 1, [], h => by simp [ht] at h; omega
  | k + 1, n :: r, h => by
    have e : n = 0 ∧ ht w (n :: r) = ht w r + 1 := by
      rw [ht_c] at h ⊢
      by_cases h0 : n = 0
      · exact ⟨h0, by rw [h0, ho0]⟩
      · unfold ho at h
        rw [if_neg h0] at h
        split at h <;> omega
    obtain ⟨rfl, e⟩ := e
    obtain ⟨h1, h2, h3⟩ := zeros_of w k r (by omega)
    refine ⟨by simpa using h1, by simp; omega, ?_⟩
    rw [List.drop_succ_cons, h3, e]; omega
/-- from a height 1 below which no height exceeds w the search finds -/
theorem seek_of (w : Nat) (hw : 1 ≤ w) : ∀ (f : Nat) (c : List Int), (∀ n ∈ c, 0 ≤ n) → c.length ≤ f → ht w c = 1 → (∀ i, 0 < i → i < c.length → ht w (c.drop i) ≤ w) → seek w f c = true
  | f, [], _, _, h, _ => by simp [ht] at h
  | 0, n :: r, _, hl, _, _ => by simp at hl
  | f + 1, n :: r, h0, hl, h, hk => by
    have hn : 0 ≤ n := h0 n (by simp)
    unfold seek
    by_cases h2 : n = 0
    · subst h2; simp
    by_cases h3 : n = 1
    · subst h3
      rw [if_neg (by decide), if_neg (by decide)]
      have hr : ht w r ≥ w := by
        unfold ht ho at h
        rw [if_neg (by decide)] at h
        by_cases hc : (1 : Int) = 1 ∧ ht w r ≥ w
        · exact hc.2
        · rw [if_neg hc] at h; omega
      have hr2 : ht w r ≤ w := by
        cases r with
        | nil => unfold ht; omega
        | cons x xs => simpa using hk 1 (by omega) (by simp)
      obtain ⟨z1, z2, z3⟩ := zeros_of w (w - 1) r (by omega)
      rw [z1]
      simp only [Bool.false_eq_true, if_false]
      refine seek_of w hw f (r.drop (w - 1)) (fun z hz => h0 z (List.mem_cons_of_mem _ (List.mem_of_mem_drop hz))) ?_ (by omega) ?_
      · simp at hl ⊢; omega
      · intro i hi hi2
        have := hk (1 + (w - 1) + i) (by omega) (by simp at hi2 ⊢; omega)
        have e : (1 :: r).drop (1 + (w - 1) + i) = (r.drop (w - 1)).drop i := by
          rw [List.drop_drop, show 1 + (w - 1) + i = (w - 1 + i) + 1 by omega, List.drop_succ_cons]
        rw [e] at this; exact this
    · exfalso
      unfold ht ho at h
      rw [if_neg h2, if_neg (by omega)] at h; omega
/-- the last place of a height above w -/
theorem last_high {w : Nat} {c : List Int} (h : keep w c = false) : ∃ i, i < c.length ∧ ht w (c.drop i) > w ∧ ∀ j, i < j → j < c.length → ht w (c.drop j) ≤ w := by
  obtain ⟨i, hi, hg⟩ := keep_false h
  obtain ⟨m, hm⟩ : ∃ m, m = c.length - i := ⟨_, rfl⟩
  induction m using Nat.strongRecOn generalizing i with
  | _ m ih =>
    by_cases hc : ∃ j, i < j ∧ j < c.length ∧ ht w (c.drop j) > w
    · obtain ⟨j, h1, h2, h3⟩ := hc
      exact ih (c.length - j) (by omega) j h2 h3 rfl
    · exact ⟨i, hi, hg, fun j h1 h2 => by
        by_cases hj : ht w (c.drop j) ≤ w
        · exact hj
        · exact absurd ⟨j, h1, h2, by omega⟩ hc⟩
theorem ht_drop_succ {w : Int} {c : List Int} {i : Nat} (h : i < c.length) : ht w (c.drop i) = ho (ht w (c.drop (i + 1))) c[i] w := by
  rw [List.drop_eq_getElem_cons h]; rfl
theorem stretch_keep (w : Nat) (hw : 1 ≤ w) (c : List Int) (h0 : ∀ n ∈ c, 0 ≤ n) : stretch w c = !keep w c := by
  cases hk : keep w c with
  | true =>
    simp only [Bool.not_true]
    unfold stretch
    rw [List.any_eq_false]
    intro s hs
    have hs : s < c.length - w := by simpa using hs
    simp only [Bool.and_eq_true, Bool.not_eq_true', not_and, Bool.not_eq_true]
    intro hz
    cases hf : seek w c.length (c.drop (s + w)) with
    | false => rfl
    | true =>
      exfalso
      have h1 := seek_ht w hw _ _ (fun z hz => h0 z (List.mem_of_mem_drop hz)) hf
      have h2 := ht_zeros w w (c.drop s) hz (by simp; omega)
      rw [List.drop_drop] at h2
      have h3 := keep_true hk s (by omega)
      omega
  | false =>
    simp only [Bool.not_false]
    obtain ⟨i, hi, hg, hl⟩ := last_high hk
    have hle : ht w (c.drop i) = w + 1 := by
      have h4 : ht w (c.drop (i + 1)) ≤ w := by
        by_cases hc : i + 1 < c.length
        · exact hl _ (by omega) hc
        · rw [List.drop_eq_nil_of_le (by omega)]; unfold ht; omega
      have := ht_drop_succ (w := w) hi
      rw [this] at hg ⊢
      unfold ho at hg ⊢
      split at hg
      · rename_i e; rw [if_pos e]; omega
      · split at hg <;> omega
    obtain ⟨z1, z2, z3⟩ := zeros_of w w (c.drop i) (by omega)
    rw [List.drop_drop] at z3
    have hlen : i + w < c.length := by simp at z2; omega
    unfold stretch
    rw [List.any_eq_true]
    refine ⟨i, by simp; omega, ?_⟩
    rw [z1]
    simp only [Bool.not_false, Bool.true_and]
    refine seek_of w hw _ _ (fun z hz => h0 z (List.mem_of_mem_drop hz)) (by simp) (by omega) ?_
    intro j hj hj2
    rw [List.drop_drop]
    exact hl _ (by omega) (by simp at hj2; omega)
end M
namespace M
theorem take_snoc {α : Type} (l : List α) (i : Nat) (h : i < l.length) : l.take i ++ [l[i]] = l.take (i + 1) := by
  induction l generalizing i with
  | nil => simp at h
  | cons x r ih =>
    cases i with
    | zero => simp
    | succ i => simp at h; simp [h]
end M

namespace G
open PySem PySem.Spec PyProof.Rows L2
/-! ### any(xs) of a list of ints -/
theorem truth_ints {prog : Program} {w : World} {A : Around} {ns : List Int} {its : List Value} (rv : Vals (ns.map V.int) its) :
    TruthOf prog w A (fun i v => its.toArray[i]? = some v) (fun i => (ns.map fun z => z != 0).getD i false) := fun i v s Q E hv hq => by
  have hv' : its[i]? = some v := by simpa using hv
  obtain ⟨x, hx, r⟩ := Paired.at rv hv'
  rw [List.getElem?_map] at hx
  obtain ⟨n, hn, rfl⟩ := Option.map_eq_some_iff.mp hx
  obtain ⟨t, rfl⟩ := r
  have hg : (ns.map fun z => z != 0).getD i false = (n != 0) := by rw [List.getD_eq_getElem?_getD, List.getElem?_map, hn] <;> rfl
  have hq' : Q ((ns.map fun z => z != 0).getD i false) s := hq
  rw [hg] at hq'
  exact PySem.P.truthy_int hq'
def rAnyI (K : PySem.W.Frag) : List V → Hp → VK → Prop := fun vs H Q => ∃ (a : Addr) (ns : List Int), vs = [V.ref a] ∧ SqL K H a (ns.map V.int) ∧ Q (.bl (ns.any fun z => decide (z ≠ 0))) H
theorem cr_anyI {X : Cx} (hc : X.calm = true) : CallR X (.builtin "any") (rAnyI X.K) := by
  intro pins s σ H vs us Q I r h
  obtain ⟨a, ns, rfl, hs, q⟩ := h
  obtain ⟨its, rv, hl, _⟩ := I.list hs
  rw [Vals.ref1 r]
  have hlen := rv.length
  refine call_any_walk (iter_any hl.isList fun s₂ e2 st hne => ?_)
  subst e2
  refine ⟨_, _, _, _, _, _, _, rfl, Walks.list (A := X.A.in1) (I.ok.hd hc) _ a hne its.toArray, st, truth_ints rv, fun h' tk hk => ?_⟩
  refine ⟨.bl _, H, I.kept fun b o eo => hk b o (fun hmem => ?_) (Heap.get?_push_of_some _ eo), ?_, q⟩
  · rcases List.mem_cons.mp hmem with e1 | hmem
    · exact absurd (e1 ▸ Heap.lt_size eo) (Nat.lt_irrefl _)
    · cases hmem
  · show Value.bool _ = Value.bool _
    rw [show its.toArray.size = (ns.map fun z => z != 0).length by rw [List.size_toArray, ← hlen, List.length_map, List.length_map], L2.any_range, List.any_map]
    congr 1
    apply congrArg (ns.any)
    funext z
    by_cases hz : z = 0 <;> simp [hz]
theorem w_anyI {K : PySem.W.Frag} {H : Hp} {Q : VK} {p : Addr} {ns : List Int} (h : SqL K H p (ns.map V.int)) (q : Q (.bl (ns.any fun z => decide (z ≠ 0))) H) : rAnyI K [.ref p] H Q := ⟨p, ns, rfl, h, q⟩
/-! ### comprehensions over enumerate(list) -/
section
variable {K : PySem.W.Frag} {σ : L2.St} {H : Hp} {Q : VK} {tt : TT} {te : TE} {tl : TA}
theorem w_lcE {g : TG} {vs : List Nat} (h : tl σ H fun us H1 => ∃ a xs, us = [.ref a] ∧ SqL K H1 a xs ∧ LcW (Ite K a) g tt te vs σ H1 Q) : tLc (iEnum K tl) g tt te vs σ H Q := h
theorem lcE {a : Addr} {xs : List V} {g : TG} {vs : List Nat} (Pv : Addr → Nat → Hp → Prop) (h0 : ∀ Dl, H Dl = none → Pv Dl 0 (upd H Dl (.lst []))) (hl : ∀ Dl i H1, H Dl = none → i ≤ xs.length → Pv Dl i H1 → SqL K H1 a xs)
    (hs : ∀ Dl i x T H1, H Dl = none → xs[i]? = some x → Pv Dl i H1 → H1 T = none → g (.ref T) (wipe σ vs) (upd H1 T (.tup [.int (i : Nat), x])) fun σ2 H2 => wipe σ2 vs = wipe σ vs ∧ LcT tt te Dl (Pv Dl (i + 1)) σ2 H2)
    (hd : ∀ Dl H1, H Dl = none → Pv Dl xs.length H1 → Q (.ref Dl) H1) : LcW (Ite K a) g tt te vs σ H Q :=
  fun Dl hD => lc_it (walk_enum (K := K) (a := a) (xs := xs)) (Pv Dl) (h0 Dl hD) (fun i H1 hi p => hl Dl i H1 hD hi p) (fun i x H1 H' hi p y => by
    obtain ⟨T, u, v, rfl, hT, rfl, e1, e2⟩ := y
    have e1 := Option.some.inj e1
    subst e1
    exact hs Dl i v T H1 hD e2 p hT) (fun H1 p => hd Dl H1 hD p)
theorem w_enumSq {a : Addr} {xs : List V} {P : Addr → Prop} (h : SqL K H a xs) (q : P a) : ∃ b ys, [V.ref a] = [.ref b] ∧ SqL K H b ys ∧ P b := ⟨a, xs, rfl, h, q⟩
end
/-! ### ints in lists: deep equality -/
theorem dp_is {K : PySem.W.Frag} {H : Hp} : ∀ xs : List Int, DpAll K H (xs.map V.int) (xs.map PyData.int)
  | [] => .nil
  | x :: xs => .cons (.int x) (dp_is xs)
theorem dp_ints {K : PySem.W.Frag} {H : Hp} {p : Addr} {xs : List Int} (h : SqL K H p (xs.map V.int)) : Dp K H (.ref p) (.list (xs.map PyData.int)) := .lst h (dp_is xs)
theorem di_lay : ∀ xs : List Int, PyData.canLayAll0 (xs.map PyData.int) = true
  | [] => rfl
  | x :: xs => by
    rw [List.map_cons]
    show (PyData.canLay0 (.int x) && PyData.canLayAll0 (xs.map PyData.int)) = true
    rw [di_lay xs]; rfl
theorem di_depth : ∀ xs : List Int, PyData.depthAll (xs.map PyData.int) = 0
  | [] => rfl
  | x :: xs => by
    rw [List.map_cons]
    show max (PyData.depth (.int x)) (PyData.depthAll (xs.map PyData.int)) = 0
    rw [di_depth xs]; rfl
theorem di_shaped (xs : List Int) : SeqAt.shaped (.list (xs.map PyData.int)) = true := by
  have h1 : PyData.canLay0 (.list (xs.map PyData.int)) = true := di_lay xs
  have h2 : PyData.depth (.list (xs.map PyData.int)) ≤ 64 := by
    show PyData.depthAll (xs.map PyData.int) + 1 ≤ 64
    rw [di_depth]; decide
  show (PyData.canLay0 (.list (xs.map PyData.int)) && decide (PyData.depth (.list (xs.map PyData.int)) ≤ 64)) = true
  rw [h1, decide_eq_true h2]; rfl
theorem di_eqv : ∀ xs ys : List Int, PyData.eqvAll (xs.map PyData.int) (ys.map PyData.int) = decide (xs = ys)
  | [], [] => rfl
  | [], y :: ys => by simp [PyData.eqvAll]
  | x :: xs, [] => by simp [PyData.eqvAll]
  | x :: xs, y :: ys => by
    rw [List.map_cons, List.map_cons]
    simp only [PyData.eqvAll, PyData.eqv, di_eqv xs ys]
    by_cases h : x = y
    · by_cases h2 : xs = ys <;> simp [h, h2]
    · simp [h]
theorem w_neI2 {K : PySem.W.Frag} {H : Hp} {Q : VK} {p q : Addr} {xs ys : List Int} (hp : SqL K H p (xs.map V.int)) (hq : SqL K H q (ys.map V.int)) (k : Q (.bl (!decide (xs = ys))) H) : rNeD K (.ref p) (.ref q) H Q := by
  refine ⟨_, _, dp_ints hp, dp_ints hq, di_shaped xs, di_shaped ys, ?_⟩
  show Q (.bl (!PyData.eqvAll (xs.map PyData.int) (ys.map PyData.int))) H
  rw [di_eqv]; exact k
theorem w_eqI2 {K : PySem.W.Frag} {H : Hp} {Q : VK} {p q : Addr} {xs ys : List Int} (hp : SqL K H p (xs.map V.int)) (hq : SqL K H q (ys.map V.int)) (k : Q (.bl (decide (xs = ys))) H) : rEqD K (.ref p) (.ref q) H Q := by
  refine ⟨_, _, dp_ints hp, dp_ints hq, di_shaped xs, di_shaped ys, ?_⟩
  show Q (.bl (PyData.eqvAll (xs.map PyData.int) (ys.map PyData.int))) H
  rw [di_eqv]; exact k
end G
local macro_rules | `(tactic| walk_at "call") => `(tactic| first
  | (refine' G.w_anyI ?g1 ?_; (case g1 => walk_at "sq")) | refine' G.w_lcE ?_ | (refine' G.w_enumSq ?g1 ?_; (case g1 => walk_at "sq"))
  | (refine' G.w_neI2 ?g1 ?g2 ?_; (case g1 => walk_at "sq"); (case g2 => walk_at "sq")) | (refine' G.w_eqI2 ?g1 ?g2 ?_; (case g1 => walk_at "sq"); (case g2 => walk_at "sq")))

namespace G
open PySem L2
/-! ### more words -/
section
variable {K : PySem.W.Frag} {σ : L2.St} {H : Hp} {Q : VK} {D : Ends} {v x y : V} {ta te : TE} {p : Addr}
theorem w_tru {Qb : Bool → Hp → Prop} (h : ta σ H fun x H' => ∃ k, TruV K x H' k ∧ Qb k H') : tTruK K ta σ H Qb := h
theorem w_truL {xs : List V} {Qb : Bool → Prop} (h : SqL K H p xs) (q : Qb (!xs.isEmpty)) : ∃ k, TruV K (.ref p) H k ∧ Qb k := ⟨_, .inl ⟨xs, h, rfl⟩, q⟩
theorem w_revL (h : te σ H fun x H1 => ∃ a xs, x = .ref a ∧ SqL K H1 a xs ∧ ∀ p, H1 p = none → Q (.ref p) (upd H1 p (.lst xs.reverse))) : tRevL K te σ H Q := h
theorem w_revL2 {xs : List V} {P : Addr → List V → Prop} (h : SqL K H p xs) (q : P p xs) : ∃ a ys, V.ref p = .ref a ∧ SqL K H a ys ∧ P a ys := ⟨p, xs, rfl, h, q⟩
theorem w_rep {xs : List V} {k : Int} (h : H p = some (.lst xs)) (h0 : -4611686018427387904 ≤ k) (h1 : k < 4611686018427387904) (hl : xs.length * k.toNat ≤ sizeLine)
    (q : ∀ l, H l = none → Q (.ref l) (upd H l (.lst (List.replicate k.toNat xs).flatten))) : rRep (.ref p) (.int k) H Q := ⟨p, k, xs, rfl, rfl, h, by omega, by omega, hl, q⟩
theorem w_isNr (h : ta σ H fun x H1 => Q (.bl (decide (x = .non))) H1) : tIsN ta σ H Q := h
theorem w_notN (h : ta σ H fun x H1 => Q (.bl (!decide (x = .non))) H1) : tNotN ta σ H Q := h
theorem w_any {bs : List Bool} (h : SqL K H p (bs.map V.bl)) (q : Q (.bl (bs.any id)) H) : rAny K [.ref p] H Q := ⟨p, bs, rfl, h, q⟩
theorem w_all {bs : List Bool} (h : SqL K H p (bs.map V.bl)) (q : Q (.bl (bs.all id)) H) : rAll K [.ref p] H Q := ⟨p, bs, rfl, h, q⟩
theorem w_isT {t u : String} {b : Bool} (ty : TyX K H x (.type t)) (e : PySem.W.kitOne K (.type t) (.type u) = some b) (q : Q (.bl b) H) : rIsi K [x, .ty u] H Q :=
  ⟨x, .ty u, .type t, .type u, b, rfl, ClsV.ty u, ty, e, q⟩
theorem w_isII {a : Int} (q : Q (.bl true) H) : rIsi K [.int a, .ty "int"] H Q := w_isT (t := "int") (b := true) (TyX.base (TyOf.int a)) (kit_ty (by decide +kernel)) q
theorem w_isIB {a : Int} (q : Q (.bl false) H) : rIsi K [.int a, .ty "bool"] H Q := w_isT (t := "int") (b := false) (TyX.base (TyOf.int a)) (kit_ty (by decide +kernel)) q
theorem w_isBB {a : Bool} (q : Q (.bl true) H) : rIsi K [.bl a, .ty "bool"] H Q := w_isT (t := "bool") (b := true) (TyX.base (TyOf.bl a)) (kit_ty (by decide +kernel)) q
theorem w_isLL {xs : List V} (h : H p = some (.lst xs)) (q : Q (.bl true) H) : rIsi K [.ref p, .ty "list"] H Q := w_isT (t := "list") (b := true) (TyX.base (TyOf.lst h)) (kit_ty (by decide +kernel)) q
end
theorem at_of {xs : List V} {k : Int} {j : Nat} {v : V} (e : k = (j : Int)) (h : xs[j]? = some v) : atI xs k = some v := atn e h
/-! ### the draws -/
def sp_law_bag (K : PySem.W.Frag) (A : CA) : Sp := fun vs H Q _ => ∃ (a : Addr) (k : Int) (ns : List Int), vs = [.ref a, .int k] ∧ SqL K H a (ns.map V.int) ∧ 0 ≤ k ∧ k ≤ 1000 ∧ ns.length ≤ 63 ∧
  ∀ (s : Addr) (H' : Hp), H s = none → Same H H' → Src H' s → Q (.ref s) H'
def sp_law_take (K : PySem.W.Frag) (A : CA) : Sp := fun vs H Q _ => ∃ (s : Addr) (n : Int), vs = [.ref s, .int n] ∧ Src H s ∧ 0 < n ∧ n < 1073741824 ∧
  ∀ (r : Int) (H' : Hp), 0 ≤ r → r < n → But s H H' → Src H' s → Q (.int r) H'
def sp_law_copies (K : PySem.W.Frag) (A : CA) : Sp := fun vs H Q _ => ∃ (s : Addr), vs = [.ref s] ∧ Src H s ∧
  ∀ (r : Int) (H' : Hp), 1 ≤ r → r ≤ 70 → But s H H' → Src H' s → Q (.int r) H'
theorem i_take {K : PySem.W.Frag} {A : CA} {H : Hp} {Q : VK} {E : XK} {s : Addr} {n : Int} (hs : Src H s) (h0 : 0 < n) (h1 : n < 1073741824)
    (k : ∀ (r : Int) (H' : Hp), 0 ≤ r → r < n → But s H H' → Src H' s → Q (.int r) H') : sp_law_take K A [.ref s, .int n] H Q E := ⟨s, n, rfl, hs, h0, h1, k⟩
theorem i_copies {K : PySem.W.Frag} {A : CA} {H : Hp} {Q : VK} {E : XK} {s : Addr} (hs : Src H s)
    (k : ∀ (r : Int) (H' : Hp), 1 ≤ r → r ≤ 70 → But s H H' → Src H' s → Q (.int r) H') : sp_law_copies K A [.ref s] H Q E := ⟨s, rfl, hs, k⟩
theorem i_bag {K : PySem.W.Frag} {A : CA} {H : Hp} {Q : VK} {E : XK} {a : Addr} {k : Int} {ns : List Int} (h : SqL K H a (ns.map V.int)) (hl : ns.length ≤ 63) (h0 : 0 ≤ k) (h1 : k ≤ 1000)
    (q : ∀ (s : Addr) (H' : Hp), H s = none → Same H H' → Src H' s → Q (.ref s) H') : sp_law_bag K A [.ref a, .int k] H Q E := ⟨a, k, ns, rfl, h, h0, h1, hl, q⟩
end G
local macro_rules | `(tactic| walk_at "call") => `(tactic| first
  | refine' G.w_tru ?_ | (refine' G.w_truL ?g1 ?_; (case g1 => walk_at "sq")) | refine' G.w_revL ?_ | (refine' G.w_revL2 ?g1 ?_; (case g1 => walk_at "sq"))
  | (refine' G.w_rep ?g1 ?g2 ?g3 ?g4 ?_; (case g1 => walk_at "hp"); (case g2 => walk_at "ar"); (case g3 => walk_at "ar"); (case g4 => walk_at "sz"))
  | refine' G.w_isNr ?_ | refine' G.w_notN ?_ | refine' G.w_isII ?_ | refine' G.w_isIB ?_ | refine' G.w_isBB ?_ | (refine' G.w_isLL ?g1 ?_; (case g1 => walk_at "hp"))
  | (refine' G.i_take ?g1 ?g2 ?g3 ?_; (case g1 => walk_at "src"); (case g2 => walk_at "ar"); (case g3 => walk_at "ar"))
  | (refine' G.i_copies ?g1 ?_; (case g1 => walk_at "src"))
  | (refine' G.i_bag ?g1 ?g2 ?g3 ?g4 ?_; (case g1 => walk_at "sq"); (case g2 => walk_at "ar"); (case g3 => walk_at "ar"); (case g4 => walk_at "ar")))
namespace G
open PySem L2
def t_law_bag (K : PySem.W.Frag) (A : CA) : TS :=
  (tSeq (tAsg (tOp oAdd (tC (.int 104729)) (tOp oMul (tC (.int 7919)) (tVar 1))) (gName 2))
  (tSeq (tIfS (tTest (tOp oLt (tVar 1) (tCB (rLenQ K) (tCons (tVar 0) tNil)))) (tAsg (tOp (rIxL K) (tVar 0) (tVar 1)) (gName 2)) (tIfS (tTruK K (tVar 0)) (tAsg (tOp oAdd (tVar 2) (tOp oMod (tCB oInt (tCons (tOp oMul (tOp (rIxL K) (tVar 0) (tC (.int 0))) (tC (.int 31))) tNil)) (tC (.int 1000003)))) (gName 2)) tNext))
  (tSeq (tIfS (tTest (tOp oGe (tCB oAbs (tCons (tVar 2) tNil)) (tOp oPow (tC (.int 10)) (tC (.int 18))))) (tRet (tLst (tCons (tCB oAbs (tCons (tVar 2) tNil)) (tCons (tVar 2) (tCons (tC (.int 0)) (tCons (tVar 1) tNil)))))) tNext)
  (tRet (tLst (tCons (tC (.int 0)) (tCons (tVar 2) (tCons (tC (.int 0)) (tCons (tVar 1) tNil)))))))))
def t_law_take (K : PySem.W.Frag) (A : CA) : TS :=
  (tSeq (tAsg (tOp oAdd (tOp (rIxL K) (tVar 0) (tC (.int 2))) (tC (.int 1))) (gSub (tVar 0) (tC (.int 2)) rSetL))
  (tSeq (tIfS (tTest (tOp oGt (tOp (rIxL K) (tVar 0) (tC (.int 0))) (tC (.int 0)))) (tSeq (tAsg (tOp oMod (tCB oInt (tCons (tOp (rIxL K) (tVar 0) (tC (.int 0))) tNil)) (tVar 1)) (gName 2))
  (tSeq (tAsg (tOp oDiv (tOp (rIxL K) (tVar 0) (tC (.int 0))) (tVar 1)) (gSub (tVar 0) (tC (.int 0)) rSetL))
  (tRet (tVar 2)))) tNext)
  (tSeq (tAsg (tOp oMod (tCB oInt (tCons (tOp oAdd (tOp oAdd (tOp oAdd (tOp oMul (tOp (rIxL K) (tVar 0) (tC (.int 1))) (tC (.int 48271))) (tOp oMul (tOp (rIxL K) (tVar 0) (tC (.int 2))) (tC (.int 69621)))) (tOp oMul (tOp (rIxL K) (tVar 0) (tC (.int 3))) (tC (.int 7919)))) (tC (.int 11))) tNil)) (tC (.int 2147483647))) (gName 3))
  (tSeq (tAsg (tOp oMod (tCB oInt (tCons (tOp oAdd (tOp oAdd (tOp oMul (tVar 3) (tVar 3)) (tOp oMul (tOp (rIxL K) (tVar 0) (tC (.int 2))) (tC (.int 40692)))) (tOp (rIxL K) (tVar 0) (tC (.int 1)))) tNil)) (tC (.int 2147483399))) (gName 4))
  (tSeq (tAsg (tOp oMod (tCB oInt (tCons (tOp oAdd (tOp oMul (tVar 4) (tVar 4)) (tVar 3)) tNil)) (tC (.int 2147483629))) (gName 5))
  (tRet (tOp oMod (tOp oDiv (tVar 5) (tC (.int 16))) (tVar 1))))))))
def t_law_copies (K : PySem.W.Frag) (A : CA) : TS :=
  (tSeq (tIfS (tTest (tOp rEq (tCall (sp_law_take K A) [] E0 (tCons (tVar 0) (tCons (tC (.int 8)) tNil))) (tC (.int 7)))) (tRet (tOp oAdd (tC (.int 1)) (tCall (sp_law_take K A) [] E0 (tCons (tVar 0) (tCons (tC (.int 70)) tNil))))) tNext)
  (tRet (tOp oAdd (tC (.int 1)) (tCall (sp_law_take K A) [] E0 (tCons (tVar 0) (tCons (tC (.int 4)) tNil))))))

variable {K : PySem.W.Frag} {A : CA} {vs : List V} {H : Hp} {Q : VK} {E : XK}
theorem rd_law_bag (h : sp_law_bag K A vs H Q E) : t_law_bag K A { nx := fun _ H' => Q .non H', rt := Q } (start ["script", "k", "cell"] vs) H := by
  obtain ⟨a, k, ns, rfl, hs, h0, h1, h63, q⟩ := h
  unfold t_law_bag
  walk_at "go"
  refine w_iteD (fun hc => ?_) (fun hc => ?_)
  · have hk : k.toNat < ns.length := by
      rw [List.length_map] at hc; omega
    have hx : atI (ns.map V.int) k = some (V.int ns[k.toNat]) := at_of (j := k.toNat) (by omega) (by simp [hk])
    walk_at "go"
    refine w_iteD (fun _ => ?_) (fun _ => ?_) <;> (walk_at "go"; intro l hl; exact q _ _ hl (same_new hl) ⟨_, _, _, _, upd_same⟩)
  · walk_at "go"
    cases ns with
    | nil =>
      refine w_iteF ?_
      walk_at "go"
      refine w_iteD (fun _ => ?_) (fun _ => ?_) <;> (walk_at "go"; intro l hl; exact q _ _ hl (same_new hl) ⟨_, _, _, _, upd_same⟩)
    | cons n r =>
      refine w_iteT ?_
      have hx : atI ((n :: r).map V.int) 0 = some (V.int n) := at0
      walk_at "go"
      refine w_iteD (fun _ => ?_) (fun _ => ?_) <;> (walk_at "go"; intro l hl; exact q _ _ hl (same_new hl) ⟨_, _, _, _, upd_same⟩)
theorem rd_law_take (h : sp_law_take K A vs H Q E) : t_law_take K A { nx := fun _ H' => Q .non H', rt := Q } (start ["bag", "size", "digit", "first", "second", "third"] vs) H := by
  obtain ⟨s, n, rfl, ⟨x, y, z, u, hs⟩, h0, h1, k⟩ := h
  unfold t_law_take
  walk_at "go"
  refine w_iteD (fun hc => ?_) (fun hc => ?_)
  · walk_at "go"
    exact k _ _ (Int.emod_nonneg _ (by omega)) (Int.emod_lt_of_pos _ h0) But.refl.self.self ⟨_, _, _, _, upd_same⟩
  · walk_at "go"
    exact k _ _ (Int.emod_nonneg _ (by omega)) (Int.emod_lt_of_pos _ h0) But.refl.self ⟨_, _, _, _, upd_same⟩
theorem rd_law_copies (h : sp_law_copies K A vs H Q E) : t_law_copies K A { nx := fun _ H' => Q .non H', rt := Q } (start ["bag"] vs) H := by
  obtain ⟨s, rfl, hs, k⟩ := h
  unfold t_law_copies
  walk_at "go"
  intro r H1 r0 r1 b1 s1
  walk_at "go"
  refine w_iteD (fun hc => ?_) (fun hc => ?_)
  · walk_at "go"
    intro r2 H2 r3 r4 b2 s2
    walk_at "go"
    exact k _ _ (by omega) (by omega) (b1.trans b2) s2
  · walk_at "go"
    intro r2 H2 r3 r4 b2 s2
    walk_at "go"
    exact k _ _ (by omega) (by omega) (b1.trans b2) s2
end G

namespace G
open PySem L2
variable {K : PySem.W.Frag} {A : CA} {vs : List V} {H : Hp} {Q : VK} {E : XK}
/-- chains: numbers from 0 to 60 -/
def Chn (c : List Int) : Prop := ∀ n ∈ c, 0 ≤ n ∧ n ≤ 60
theorem Chn.app {a b : List Int} (h : Chn a) (k : Chn b) : Chn (a ++ b) := fun n hn => by
  rcases List.mem_append.mp hn with q | q
  · exact h n q
  · exact k n q
theorem Chn.set {a : List Int} {i : Nat} {v : Int} (h : Chn a) (h0 : 0 ≤ v) (h1 : v ≤ 60) : Chn (a.set i v) := fun n hn => by
  rcases List.mem_or_eq_of_mem_set hn with q | q
  · exact h n q
  · rw [q]; exact ⟨h0, h1⟩
theorem Chn.sub {a b : List Int} (h : Chn a) (k : ∀ x ∈ b, x ∈ a) : Chn b := fun n hn => h n (k n hn)
theorem Chn.rep {a : List Int} {k : Nat} (h : Chn a) : Chn (List.replicate k a).flatten := h.sub fun x hx => by
  obtain ⟨l, hl, hm⟩ := List.mem_flatten.mp hx
  rw [(List.mem_replicate.mp hl).2] at hm; exact hm
theorem map_rep {a : List Int} {k : Nat} : (List.replicate k (a.map V.int)).flatten = ((List.replicate k a).flatten).map V.int := by
  rw [List.map_flatten, List.map_replicate]
theorem len_rep {α : Type} {a : List α} {k : Nat} : (List.replicate k a).flatten.length = k * a.length := by
  simp [List.length_flatten, List.map_replicate, List.sum_replicate_nat]
theorem snocI (xs : List Int) (z : Int) : xs.map V.int ++ [V.int z] = (xs ++ [z]).map V.int := by rw [List.map_append]; rfl
def sp_law_page (K : PySem.W.Frag) (A : CA) : Sp := fun vs H Q _ => ∃ (s : Addr), vs = [.ref s] ∧ Src H s ∧
  ∀ (r : Int) (H' : Hp), 0 ≤ r → r ≤ 60 → But s H H' → Src H' s → Q (.int r) H'
def sp_law_pages (K : PySem.W.Frag) (A : CA) : Sp := fun vs H Q _ => ∃ (s : Addr) (n : Int), vs = [.ref s, .int n] ∧ Src H s ∧ 0 ≤ n ∧ n ≤ 1000 ∧
  ∀ (ps : List Int) (p : Addr) (H' : Hp), (ps.length : Int) = n → Chn ps → H p = none → But s H H' → Src H' s → H' p = some (.lst (ps.map V.int)) → Q (.ref p) H'
theorem i_page {s : Addr} (hs : Src H s) (k : ∀ (r : Int) (H' : Hp), 0 ≤ r → r ≤ 60 → But s H H' → Src H' s → Q (.int r) H') : sp_law_page K A [.ref s] H Q E := ⟨s, rfl, hs, k⟩
theorem i_pages {s : Addr} {n : Int} (hs : Src H s) (h0 : 0 ≤ n) (h1 : n ≤ 1000)
    (k : ∀ (ps : List Int) (p : Addr) (H' : Hp), (ps.length : Int) = n → Chn ps → H p = none → But s H H' → Src H' s → H' p = some (.lst (ps.map V.int)) → Q (.ref p) H') : sp_law_pages K A [.ref s, .int n] H Q E := ⟨s, n, rfl, hs, h0, h1, k⟩
end G
local macro_rules | `(tactic| walk_at "call") => `(tactic| first
  | (refine' G.i_page ?g1 ?_; (case g1 => walk_at "src"))
  | (refine' G.i_pages ?g1 ?g2 ?g3 ?_; (case g1 => walk_at "src"); (case g2 => walk_at "ar"); (case g3 => walk_at "ar")))
namespace G
open PySem L2
def t_law_page (K : PySem.W.Frag) (A : CA) : TS :=
  (tSeq (tAsg (tCall (sp_law_take K A) [] E0 (tCons (tVar 0) (tCons (tC (.int 8)) tNil))) (gName 1))
  (tSeq (tIfS (tTest (tOp oLt (tVar 1) (tC (.int 4)))) (tRet (tC (.int 0))) tNext)
  (tSeq (tIfS (tTest (tOp oLt (tVar 1) (tC (.int 6)))) (tRet (tC (.int 1))) tNext)
  (tRet (tCall (sp_law_take K A) [] E0 (tCons (tVar 0) (tCons (tC (.int 61)) tNil)))))))
def t_law_pages (K : PySem.W.Frag) (A : CA) : TS :=
  (tRet (tLc (iRng1 (tCons (tVar 1) tNil)) (gName 2) tYes (tCall (sp_law_page K A) [] E0 (tCons (tVar 0) tNil)) [2]))

variable {K : PySem.W.Frag} {A : CA} {vs : List V} {H : Hp} {Q : VK} {E : XK}
theorem rd_law_page (h : sp_law_page K A vs H Q E) : t_law_page K A { nx := fun _ H' => Q .non H', rt := Q } (start ["bag", "way"] vs) H := by
  obtain ⟨s, rfl, hs, k⟩ := h
  unfold t_law_page
  walk_at "go"
  intro r H1 r0 r1 b1 s1
  walk_at "go"
  refine w_iteD (fun hc => ?_) (fun hc => ?_)
  · walk_at "go"
    exact k _ _ (by omega) (by omega) b1 s1
  walk_at "go"
  refine w_iteD (fun hc => ?_) (fun hc => ?_)
  · walk_at "go"
    exact k _ _ (by omega) (by omega) b1 s1
  walk_at "go"
  intro r2 H2 r3 r4 b2 s2
  exact k _ _ (by omega) (by omega) (b1.trans b2) s2
theorem rd_law_pages (h : sp_law_pages K A vs H Q E) : t_law_pages K A { nx := fun _ H' => Q .non H', rt := Q } (start ["bag", "size", "place"] vs) H := by
  obtain ⟨s, n, rfl, hs, h0, h1, k⟩ := h
  unfold t_law_pages
  walk_at "go"
  refine lcR (fun Dl i H' => ∃ ps : List Int, ps.length = i ∧ Chn ps ∧ But s H H' ∧ Src H' s ∧ H' Dl = some (.lst (ps.map V.int))) ?_ ?_ ?_
  · intro Dl hD
    exact ⟨[], rfl, (fun _ h => by cases h), But.refl.new hD, hs.new hD, upd_same⟩
  · rintro Dl i H1 hD hi ⟨ps, hl, hc, b, s1, hp⟩
    have hl2 : (ps.map V.int).length < sizeLine := by rw [List.length_map]; exact L2.small1000 (by omega)
    have nd : Dl ≠ s := hs.neFree hD
    walk_at "go"
    intro r H2 r0 r1 b2 s2
    have hp2 := b2.at nd hp
    walk_at "go"
    refine ⟨ps ++ [r], by simp [hl], hc.app (fun z hz => by rw [List.mem_singleton.mp hz]; exact ⟨r0, r1⟩), (b.trans b2).mut hD, s2.mut nd, ?_⟩
    rw [← snocI]; exact upd_same
  · rintro Dl H1 hD ⟨ps, hl, hc, b, s1, hp⟩
    exact k ps Dl H1 (by omega) hc hD b s1 hp
end G

namespace G
open PySem L2
/-- the heights of the program -/
def sp_height_over (K : PySem.W.Frag) (A : CA) : Sp := fun vs H Q _ => ∃ (b n w : Int), vs = [.int b, .int n, .int w] ∧ Q (.int (M.ho b n w)) H
def sp_heights (K : PySem.W.Frag) (A : CA) : Sp := fun vs H Q _ => ∃ (a : Addr) (c : List Int) (w : Int), vs = [.ref a, .int w] ∧ H a = some (.lst (c.map V.int)) ∧ c.length ≤ 1000 ∧
  ∀ (p : Addr) (H' : Hp), H p = none → Same H H' → H' p = some (.lst ((M.hts w c).map V.int)) → Q (.ref p) H'
def hiL (w : Int) (c : List Int) (i : Nat) : List Nat := (List.range i).filter fun j => decide (M.ht w (c.drop j) > w)
def lowV (w : Int) (c : List Int) : V := match (hiL w c c.length).getLast? with
  | none => .non
  | some i => .int (i : Nat)
def sp_lowest_too_high (K : PySem.W.Frag) (A : CA) : Sp := fun vs H Q _ => ∃ (a : Addr) (c : List Int) (w : Int), vs = [.ref a, .int w] ∧ H a = some (.lst (c.map V.int)) ∧ c.length ≤ 1000 ∧
  ∀ (H' : Hp), Same H H' → Q (lowV w c) H'
def sp_is_keepable_chain (K : PySem.W.Frag) (A : CA) : Sp := fun vs H Q _ => ∃ (a : Addr) (c : List Int) (w : Nat), vs = [.ref a, .int (w : Int)] ∧ H a = some (.lst (c.map V.int)) ∧ c.length ≤ 1000 ∧
  ∀ (H' : Hp), Same H H' → Q (.bl (M.keep w c)) H'
variable {K : PySem.W.Frag} {A : CA} {vs : List V} {H : Hp} {Q : VK} {E : XK}
theorem i_height_over {b n w : Int} (q : Q (.int (M.ho b n w)) H) : sp_height_over K A [.int b, .int n, .int w] H Q E := ⟨b, n, w, rfl, q⟩
theorem i_heights {a : Addr} {c : List Int} {w : Int} (h : H a = some (.lst (c.map V.int))) (hl : c.length ≤ 1000)
    (q : ∀ (p : Addr) (H' : Hp), H p = none → Same H H' → H' p = some (.lst ((M.hts w c).map V.int)) → Q (.ref p) H') : sp_heights K A [.ref a, .int w] H Q E := ⟨a, c, w, rfl, h, hl, q⟩
theorem i_low {a : Addr} {c : List Int} {w : Int} (h : H a = some (.lst (c.map V.int))) (hl : c.length ≤ 1000) (q : ∀ (H' : Hp), Same H H' → Q (lowV w c) H') : sp_lowest_too_high K A [.ref a, .int w] H Q E := ⟨a, c, w, rfl, h, hl, q⟩
theorem i_keepable {a : Addr} {c : List Int} {w : Nat} (h : H a = some (.lst (c.map V.int))) (hl : c.length ≤ 1000) (q : ∀ (H' : Hp), Same H H' → Q (.bl (M.keep w c)) H') : sp_is_keepable_chain K A [.ref a, .int (w : Int)] H Q E := ⟨a, c, w, rfl, h, hl, q⟩
end G
local macro_rules | `(tactic| walk_at "call") => `(tactic| first
  | refine' G.i_height_over ?_
  | (refine' G.i_heights ?g1 ?g2 ?_; (case g1 => walk_at "hp"); (case g2 => walk_at "ar"))
  | (refine' G.i_low ?g1 ?g2 ?_; (case g1 => walk_at "hp"); (case g2 => walk_at "ar"))
  | (refine' G.i_keepable ?g1 ?g2 ?_; (case g1 => walk_at "hp"); (case g2 => walk_at "ar")))
namespace G
open PySem L2
def t_height_over (K : PySem.W.Frag) (A : CA) : TS :=
  (tSeq (tIfS (tTest (tOp rEq (tVar 1) (tC (.int 0)))) (tRet (tOp oAdd (tVar 0) (tC (.int 1)))) tNext)
  (tRet (tIf (tAnd (tTest (tOp rEq (tVar 1) (tC (.int 1)))) (tTest (tOp oGe (tVar 0) (tVar 2)))) (tC (.int 1)) (tC (.int 0)))))
def t_heights (K : PySem.W.Frag) (A : CA) : TS :=
  (tSeq (tAsg (tLst tNil) (gName 2))
  (tSeq (tAsg (tC (.int 0)) (gName 3))
  (tSeq (tFor (iList K (tRevL K (tVar 0))) (gName 4)
  (tSeq (tAsg (tCall (sp_height_over K A) [] E0 (tCons (tVar 3) (tCons (tVar 4) (tCons (tVar 1) tNil)))) (gName 3))
  (tDrop (tBM K "list" rAppend (tVar 2) (tCons (tVar 3) tNil)))))
  (tRet (tRevL K (tVar 2))))))
def t_lowest_too_high (K : PySem.W.Frag) (A : CA) : TS :=
  (tSeq (tAsg (tLc (iEnum K (tCons (tCall (sp_heights K A) [] E0 (tCons (tVar 0) (tCons (tVar 1) tNil))) tNil)) (gTup K 2 (gCons (gName 3) (gCons (gName 4) gNil))) (tTest (tOp oGt (tVar 4) (tVar 1))) (tVar 3) [3, 4]) (gName 2))
  (tRet (tIf (tTruK K (tVar 2)) (tOp (rIxL K) (tVar 2) (tUn oNeg (tC (.int 1)))) (tC .non))))
def t_is_keepable_chain (K : PySem.W.Frag) (A : CA) : TS :=
  (tRet (tIsN (tCall (sp_lowest_too_high K A) [] E0 (tCons (tVar 0) (tCons (tVar 1) tNil)))))

variable {K : PySem.W.Frag} {A : CA} {vs : List V} {H : Hp} {Q : VK} {E : XK}
theorem rd_height_over (h : sp_height_over K A vs H Q E) : t_height_over K A { nx := fun _ H' => Q .non H', rt := Q } (start ["below", "blank", "copies"] vs) H := by
  obtain ⟨b, n, w, rfl, q⟩ := h
  unfold t_height_over
  walk_at "go"
  refine w_iteD (fun hc => ?_) (fun hc => ?_)
  · walk_at "go"
    subst hc; rw [M.ho0] at q; exact q
  walk_at "go"
  unfold M.ho at q
  rw [if_neg hc] at q
  refine w_iteD (fun h1 => ?_) (fun h1 => ?_)
  · walk_at "go"
    refine w_iteD (fun h2 => ?_) (fun h2 => ?_)
    · walk_at "go"
      rw [if_pos ⟨h1, h2⟩] at q; exact q
    · walk_at "go"
      rw [if_neg (fun e => h2 e.2)] at q; exact q
  · walk_at "go"
    rw [if_neg (fun e => h1 e.1)] at q; exact q
theorem rev_map (c : List Int) : (c.map V.int).reverse = (c.reverse).map V.int := List.map_reverse.symm
theorem rd_heights (h : sp_heights K A vs H Q E) : t_heights K A { nx := fun _ H' => Q .non H', rt := Q } (start ["blank", "copies", "found", "height", "number"] vs) H := by
  obtain ⟨a, c, w, rfl, ha, hl, q⟩ := h
  unfold t_heights
  walk_at "go"
  intro f hf
  walk_at "go"
  intro r hr
  rw [rev_map]
  have hf1 : (upd H f (.lst [])) f = some (.lst []) := upd_same
  have nf : f ≠ r := ne_of_none hf1 hr
  have hfr := free_upd hr
  walk_at "go"
  refine forL (xs := c.reverse.map V.int) (fun i σ H' => ∃ k4 : Option V, σ = [some (.ref a), some (.int w), some (.ref f), some (.int (M.hlast w 0 (c.reverse.take i))), k4] ∧ Same H H' ∧ H' r = some (.lst (c.reverse.map V.int)) ∧
    H' f = some (.lst ((M.hscan w 0 (c.reverse.take i)).map V.int))) ?_ ?_ ?_ ?_
  · exact ⟨none, rfl, (same_new hf).trans (same_new hr), upd_same, keepNe hf1 nf⟩
  · rintro i σ H1 hi ⟨k4, rfl, e, h1, h2⟩
    exact .inl (.inl h1)
  · rintro i x σ H1 hx ⟨k4, rfl, e, h1, h2⟩
    rw [List.getElem?_map] at hx
    have hi : i < c.reverse.length := by
      by_cases hc : i < c.reverse.length
      · exact hc
      · rw [List.getElem?_eq_none (by omega)] at hx; cases hx
    rw [List.getElem?_eq_getElem hi] at hx
    have hx : V.int c.reverse[i] = x := Option.some.inj hx
    subst hx
    have hsz : ((M.hscan w 0 (c.reverse.take i)).map V.int).length < sizeLine := by
      rw [List.length_map, M.hscan_length]; exact L2.small1000 (by simp; omega)
    walk_at "go"
    have e2 := M.take_snoc c.reverse i hi
    rw [← M.hlast_snoc, e2]
    refine ⟨_, rfl, same_mut e hf, keepNe h1 nf.symm, ?_⟩
    rw [snocI, ← e2, M.hlast_snoc, M.hscan_snoc]; exact upd_same
  · rintro σ H1 ⟨k4, rfl, e, h1, h2⟩
    rw [List.length_map, List.take_length] at h2
    walk_at "go"
    intro p hp
    rw [rev_map]
    exact q p _ (e.free hp) (e.trans (same_new hp)) upd_same
theorem hiL_succ (w : Int) (c : List Int) (i : Nat) : hiL w c (i + 1) = hiL w c i ++ (if M.ht w (c.drop i) > w then [i] else []) := by
  unfold hiL
  rw [List.range_succ, List.filter_append]
  by_cases h : M.ht w (c.drop i) > w <;> simp [h]
theorem hiL_len (w : Int) (c : List Int) (i : Nat) : (hiL w c i).length ≤ i := by
  unfold hiL; exact Nat.le_trans (List.length_filter_le _ _) (by simp)
theorem rd_lowest_too_high (h : sp_lowest_too_high K A vs H Q E) : t_lowest_too_high K A { nx := fun _ H' => Q .non H', rt := Q } (start ["blank", "copies", "too_high", "page", "height"] vs) H := by
  obtain ⟨a, c, w, rfl, ha, hl, q⟩ := h
  unfold t_lowest_too_high
  walk_at "go"
  intro p H1 hp e1 h1
  walk_at "go"
  refine lcE (xs := (M.hts w c).map V.int) (fun Dl i H' => Same H1 H' ∧ H' Dl = some (.lst ((hiL w c i).map fun (j : Nat) => V.int (j : Int)))) ?_ ?_ ?_ ?_
  · intro Dl hD
    exact ⟨same_new hD, upd_same⟩
  · rintro Dl i H2 hD hi ⟨e2, h2⟩
    exact .inl (.inl (e2 _ _ h1))
  · rintro Dl i x T H2 hD hx ⟨e2, h2⟩ hT
    rw [List.getElem?_map] at hx
    have hi : i < c.length := by
      by_cases hc : i < c.length
      · exact hc
      · rw [List.getElem?_eq_none (by rw [M.hts_length]; omega)] at hx; cases hx
    rw [M.hts_get w c i hi] at hx
    have hx : V.int (M.ht w (c.drop i)) = x := Option.some.inj hx
    subst hx
    have hT2 : (upd H2 T (.tup [.int (i : Nat), V.int (M.ht w (c.drop i))])) T = some (.tup [.int (i : Nat), V.int (M.ht w (c.drop i))]) := upd_same
    have e3 : Same H1 (upd H2 T (.tup [.int (i : Nat), V.int (M.ht w (c.drop i))])) := e2.trans (same_new hT)
    have h3 := keep (o' := .tup [.int (i : Nat), V.int (M.ht w (c.drop i))]) h2 hT
    have hsz : ((hiL w c i).map fun (j : Nat) => V.int (j : Int)).length < sizeLine := by
      have := hiL_len w c i
      rw [List.length_map]; exact L2.small1000 (by omega)
    generalize upd H2 T (.tup [.int (i : Nat), V.int (M.ht w (c.drop i))]) = H3 at hT2 e3 h3
    walk_at "go"
    refine w_iteD (fun hc => ?_) (fun hc => ?_)
    · walk_at "go"
      refine ⟨same_mut e3 hD, ?_⟩
      rw [hiL_succ, if_pos hc, List.map_append]; exact upd_same
    · refine ⟨e3, ?_⟩
      rw [hiL_succ, if_neg hc, List.append_nil]; exact h3
  · rintro Dl H2 hD ⟨e2, h2⟩
    rw [List.length_map, M.hts_length] at h2
    unfold lowV at q
    walk_at "go"
    cases hg : (hiL w c c.length).getLast? with
    | none =>
      rw [hg] at q
      rw [List.getLast?_eq_none_iff.mp hg]
      refine w_iteF ?_
      walk_at "go"
      exact q _ (e1.trans e2)
    | some i =>
      rw [hg] at q
      obtain ⟨ys, hy⟩ := List.getLast?_eq_some_iff.mp hg
      rw [hy] at h2 ⊢
      rw [List.map_append] at h2 ⊢
      rw [show (List.map (fun (j : Nat) => V.int (j : Int)) ys ++ List.map (fun (j : Nat) => V.int (j : Int)) [i]).isEmpty = false by simp]
      refine w_iteT ?_
      have hx : atI (List.map (fun (j : Nat) => V.int (j : Int)) ys ++ List.map (fun (j : Nat) => V.int (j : Int)) [i]) (-1) = some (V.int (i : Int)) := atI_last _ _
      walk_at "go"
      exact q _ (e1.trans e2)
theorem lowV_keep (w : Nat) (c : List Int) : decide (lowV w c = .non) = M.keep w c := by
  unfold lowV
  cases hk : M.keep w c with
  | true =>
    have h := M.keep_true hk
    have e : hiL w c c.length = [] := by
      unfold hiL
      rw [List.filter_eq_nil_iff]
      intro i hi
      have := h i (by simpa using hi)
      simp; omega
    rw [e]; simp
  | false =>
    obtain ⟨i, hi, hg⟩ := M.keep_false hk
    have hm : i ∈ hiL w c c.length := by
      unfold hiL; rw [List.mem_filter]; exact ⟨by simpa using hi, by simpa using hg⟩
    cases he : (hiL w c c.length).getLast? with
    | none => rw [List.getLast?_eq_none_iff.mp he] at hm; cases hm
    | some j => simp
theorem rd_is_keepable_chain (h : sp_is_keepable_chain K A vs H Q E) : t_is_keepable_chain K A { nx := fun _ H' => Q .non H', rt := Q } (start ["blank", "copies"] vs) H := by
  obtain ⟨a, c, w, rfl, ha, hl, q⟩ := h
  unfold t_is_keepable_chain
  walk_at "go"
  intro H1 e1
  rw [lowV_keep]
  exact q H1 e1
end G

namespace G
open PySem L2
theorem sIx_nat (n k : Nat) (d : Nat) : HT.sIx n d (some (k : Int)) = min k n := by
  unfold HT.sIx
  simp
  omega
theorem cut_map (c : List Int) (i j : Nat) : cutV (c.map V.int) (some (i : Int)) (some (j : Int)) = ((c.drop i).take (j - i)).map V.int := by
  unfold cutV
  rw [sIx_nat, sIx_nat, List.length_map, ← List.map_drop, ← List.map_take]
  congr 1
  by_cases h : i ≤ c.length
  · rw [show min i c.length = i by omega]
    by_cases h2 : j ≤ c.length
    · rw [show min j c.length = j by omega]
    · rw [show min j c.length = c.length by omega, List.take_of_length_le (by simp), List.take_of_length_le (by simp; omega)]
  · rw [show min i c.length = c.length by omega, List.drop_eq_nil_of_le (Nat.le_refl _), List.drop_eq_nil_of_le (by omega)]
    simp
theorem cut_mapFrom (c : List Int) (i : Nat) : cutV (c.map V.int) (some (i : Int)) none = (c.drop i).map V.int := by
  unfold cutV
  rw [sIx_nat, List.length_map, ← List.map_drop, ← List.map_take]
  congr 1
  show List.take (c.length - _) _ = _
  by_cases h : i ≤ c.length
  · rw [show min i c.length = i by omega, List.take_of_length_le (by simp)]
  · rw [List.drop_eq_nil_of_le (show c.length ≤ i by omega), List.drop_eq_nil_of_le (by omega)]; simp
theorem cut_mapTo (c : List Int) (j : Nat) : cutV (c.map V.int) none (some (j : Int)) = (c.take j).map V.int := by
  unfold cutV
  rw [sIx_nat, List.length_map, ← List.map_drop, ← List.map_take]
  congr 1
  show List.take (_ - 0) (List.drop 0 c) = _
  rw [List.drop_zero, Nat.sub_zero]
  by_cases h : j ≤ c.length
  · rw [show min j c.length = j by omega]
  · rw [List.take_of_length_le (by omega), List.take_of_length_le (by omega)]
def sp_law_heights (K : PySem.W.Frag) (A : CA) : Sp := fun vs H Q _ => ∃ (a : Addr) (c : List Int) (w : Int), vs = [.ref a, .int w] ∧ H a = some (.lst (c.map V.int)) ∧ c.length ≤ 1000 ∧ (∀ n ∈ c, 0 ≤ n) ∧
  ∀ (p : Addr) (H' : Hp), H p = none → Same H H' → H' p = some (.lst ((M.hts w c).map V.int)) → Q (.ref p) H'
def sp_law_has_stretch (K : PySem.W.Frag) (A : CA) : Sp := fun vs H Q _ => ∃ (a : Addr) (c : List Int) (w : Nat), vs = [.ref a, .int (w : Int)] ∧ H a = some (.lst (c.map V.int)) ∧ c.length ≤ 1000 ∧ 1 ≤ w ∧ w ≤ 1000 ∧
  ∀ (H' : Hp), Same H H' → Q (.bl (M.stretch w c)) H'
variable {K : PySem.W.Frag} {A : CA} {vs : List V} {H : Hp} {Q : VK} {E : XK}
theorem w_oIntB {b : Bool} (q : Q (.int (if b then 1 else 0)) H) : oInt [.bl b] H Q := .inr ⟨b, rfl, q⟩
theorem i_lheights {a : Addr} {c : List Int} {w : Int} (h : H a = some (.lst (c.map V.int))) (hl : c.length ≤ 1000) (h0 : ∀ n ∈ c, 0 ≤ n)
    (q : ∀ (p : Addr) (H' : Hp), H p = none → Same H H' → H' p = some (.lst ((M.hts w c).map V.int)) → Q (.ref p) H') : sp_law_heights K A [.ref a, .int w] H Q E := ⟨a, c, w, rfl, h, hl, h0, q⟩
theorem i_stretch {a : Addr} {c : List Int} {w : Nat} (h : H a = some (.lst (c.map V.int))) (hl : c.length ≤ 1000) (h0 : 1 ≤ w) (h1 : w ≤ 1000) (q : ∀ (H' : Hp), Same H H' → Q (.bl (M.stretch w c)) H') : sp_law_has_stretch K A [.ref a, .int (w : Int)] H Q E := ⟨a, c, w, rfl, h, hl, h0, h1, q⟩
theorem getI {c : List Int} {i : Nat} {x : V} (h : (c.map V.int)[i]? = some x) : ∃ hi : i < c.length, x = V.int c[i] := by
  rw [List.getElem?_map] at h
  have hi : i < c.length := by
    by_cases hc : i < c.length
    · exact hc
    · rw [List.getElem?_eq_none (by omega)] at h; cases h
  rw [List.getElem?_eq_getElem hi] at h
  exact ⟨hi, (Option.some.inj h).symm⟩
end G
local macro_rules | `(tactic| walk_at "call") => `(tactic| first
  | refine' G.w_oIntB ?_
  | (refine' G.i_lheights ?g1 ?g2 ?g3 ?_; (case g1 => walk_at "hp"); (case g2 => walk_at "ar"); (case g3 => assumption))
  | (refine' G.i_stretch ?g1 ?g2 ?g3 ?g4 ?_; (case g1 => walk_at "hp"); (case g2 => walk_at "ar"); (case g3 => walk_at "ar"); (case g4 => walk_at "ar")))
namespace G
open PySem L2
def t_law_heights (K : PySem.W.Frag) (A : CA) : TS :=
  (tSeq (tAsg (tLst tNil) (gName 2))
  (tSeq (tAsg (tC (.int 0)) (gName 3))
  (tSeq (tFor (iList K (tRevL K (tVar 0))) (gName 4)
  (tSeq (tIfS (tTest (tOp oGe (tVar 4) (tC (.int 2)))) (tAsg (tC (.int 0)) (gName 3)) (tIfS (tTest (tOp rEq (tVar 4) (tC (.int 1)))) (tAsg (tCB oInt (tCons (tOp oGe (tVar 3) (tVar 1)) tNil)) (gName 3)) (tAsg (tOp oAdd (tVar 3) (tC (.int 1))) (gName 3))))
  (tDrop (tBM K "list" rAppend (tVar 2) (tCons (tVar 3) tNil)))))
  (tRet (tRevL K (tVar 2))))))
def t_law_has_stretch (K : PySem.W.Frag) (A : CA) : TS :=
  (tSeq (tFor (iRng1 (tCons (tOp oSub (tCB (rLenQ K) (tCons (tVar 0) tNil)) (tVar 1)) tNil)) (gName 2)
  (tSeq (tIfS (tB (tCB (G.rAnyI K) (tCons (tSl (rSlL K) (tVar 0) (tPart (tVar 2)) (tPart (tOp oAdd (tVar 2) (tVar 1)))) tNil))) tCont tNext)
  (tSeq (tAsg (tOp oAdd (tVar 2) (tVar 1)) (gName 3))
  (tFor (iRng1 (tCons (tCB (rLenQ K) (tCons (tVar 0) tNil)) tNil)) (gName 4)
  (tSeq (tIfS (tOr (tTest (tOp oGe (tVar 3) (tCB (rLenQ K) (tCons (tVar 0) tNil)))) (tTest (tOp oGt (tOp (rIxL K) (tVar 0) (tVar 3)) (tC (.int 1))))) tBreak tNext)
  (tSeq (tIfS (tTest (tOp rEq (tOp (rIxL K) (tVar 0) (tVar 3)) (tC (.int 0)))) (tRet (tC (.bl true))) tNext)
  (tSeq (tIfS (tB (tCB (G.rAnyI K) (tCons (tSl (rSlL K) (tVar 0) (tPart (tOp oAdd (tVar 3) (tC (.int 1)))) (tPart (tOp oAdd (tVar 3) (tVar 1)))) tNil))) tBreak tNext)
  (tAsg (tOp oAdd (tVar 3) (tVar 1)) (gName 3)))))))))
  (tRet (tC (.bl false))))

variable {K : PySem.W.Frag} {A : CA} {vs : List V} {H : Hp} {Q : VK} {E : XK}
theorem rd_law_heights (h : sp_law_heights K A vs H Q E) : t_law_heights K A { nx := fun _ H' => Q .non H', rt := Q } (start ["chain", "copies", "found", "below", "count"] vs) H := by
  obtain ⟨a, c, w, rfl, ha, hl, h0, q⟩ := h
  unfold t_law_heights
  walk_at "go"
  intro f hf
  walk_at "go"
  intro r hr
  rw [rev_map]
  have hf1 : (upd H f (.lst [])) f = some (.lst []) := upd_same
  have nf : f ≠ r := ne_of_none hf1 hr
  have hfr := free_upd hr
  walk_at "go"
  refine forL (xs := c.reverse.map V.int) (fun i σ H' => ∃ k4 : Option V, σ = [some (.ref a), some (.int w), some (.ref f), some (.int (M.hlast w 0 (c.reverse.take i))), k4] ∧ Same H H' ∧ H' r = some (.lst (c.reverse.map V.int)) ∧
    H' f = some (.lst ((M.hscan w 0 (c.reverse.take i)).map V.int))) ?_ ?_ ?_ ?_
  · exact ⟨none, rfl, (same_new hf).trans (same_new hr), upd_same, keepNe hf1 nf⟩
  · rintro i σ H1 hi ⟨k4, rfl, e, h1, h2⟩
    exact .inl (.inl h1)
  · rintro i x σ H1 hx ⟨k4, rfl, e, h1, h2⟩
    obtain ⟨hi, rfl⟩ := getI hx
    have hn : 0 ≤ c.reverse[i] := h0 _ (List.mem_reverse.mp (List.getElem_mem hi))
    have hsz : ((M.hscan w 0 (c.reverse.take i)).map V.int).length < sizeLine := by
      rw [List.length_map, M.hscan_length]; exact L2.small1000 (by simp; omega)
    have e2 := M.take_snoc c.reverse i hi
    have e3 : M.hlast w 0 (c.reverse.take (i + 1)) = M.lo (M.hlast w 0 (c.reverse.take i)) c.reverse[i] w := by rw [M.lo_eq hn, ← M.hlast_snoc, e2]
    have e4 : M.hscan w 0 (c.reverse.take (i + 1)) = M.hscan w 0 (c.reverse.take i) ++ [M.lo (M.hlast w 0 (c.reverse.take i)) c.reverse[i] w] := by rw [M.lo_eq hn, ← e2, M.hscan_snoc]
    rw [e3, e4]
    unfold M.lo
    walk_at "go"
    refine w_iteD (fun h1 => ?_) (fun h1 => ?_)
    · walk_at "go"
      rw [if_pos h1]
      refine ⟨_, rfl, same_mut e hf, keepNe ‹_› nf.symm, ?_⟩
      rw [snocI]; exact upd_same
    · walk_at "go"
      refine w_iteD (fun h2 => ?_) (fun h2 => ?_)
      · walk_at "go"
        rw [if_neg h1, if_pos h2]
        by_cases h3 : M.hlast w 0 (c.reverse.take i) ≥ w
        · rw [if_pos h3, decide_eq_true h3]
          refine ⟨_, rfl, same_mut e hf, keepNe ‹_› nf.symm, ?_⟩
          rw [if_pos rfl, snocI]; exact upd_same
        · rw [if_neg h3, decide_eq_false h3]
          refine ⟨_, rfl, same_mut e hf, keepNe ‹_› nf.symm, ?_⟩
          rw [if_neg (by decide), snocI]; exact upd_same
      · walk_at "go"
        rw [if_neg h1, if_neg h2]
        refine ⟨_, rfl, same_mut e hf, keepNe ‹_› nf.symm, ?_⟩
        rw [snocI]; exact upd_same
  · rintro σ H1 ⟨k4, rfl, e, h1, h2⟩
    rw [List.length_map, List.take_length] at h2
    walk_at "go"
    intro p hp
    rw [rev_map]
    exact q p _ (e.free hp) (e.trans (same_new hp)) upd_same
/-- what the law finds from a place on -/
def fnd (w : Nat) (c : List Int) (s : Nat) : Bool := !((c.drop s).take w).any (fun z => decide (z ≠ 0)) && M.seek w c.length (c.drop (s + w))
theorem rd_law_has_stretch (h : sp_law_has_stretch K A vs H Q E) : t_law_has_stretch K A { nx := fun _ H' => Q .non H', rt := Q } (start ["chain", "copies", "start", "at", "turn"] vs) H := by
  obtain ⟨a, c, w, rfl, ha, hl, h0, h1, q⟩ := h
  have hlen : (c.map V.int).length = c.length := List.length_map ..
  unfold t_law_has_stretch
  walk_at "go"
  refine forR (fun i σ H' => ∃ k2 k3 k4 : Option V, σ = [some (.ref a), some (.int (w : Int)), k2, k3, k4] ∧ Same H H' ∧ ∀ s, s < i → fnd w c s = false) ?_ ?_ ?_
  · exact ⟨none, none, none, rfl, Same.refl _, fun s hs => by omega⟩
  · rintro i σ H1 hi ⟨k2, k3, k4, rfl, e, hf⟩
    have ha1 := e _ _ ha
    rw [hlen] at hi
    have nxt : fnd w c i = false → ∀ s, s < i + 1 → fnd w c s = false := fun hn s hs => by
      by_cases hc : s < i
      · exact hf s hc
      · rw [show s = i by omega]; exact hn
    walk_at "go"
    intro l hl1
    rw [show (0 : Int) + (i : Int) = ((i : Nat) : Int) by omega, show ((i : Nat) : Int) + (w : Int) = ((i + w : Nat) : Int) by omega, cut_map, show i + w - i = w by omega]
    walk_at "go"
    cases hz : ((c.drop i).take w).any (fun z => decide (z ≠ 0)) with
    | true =>
      refine w_iteT ?_
      walk_at "go"
      refine ⟨_, _, _, rfl, e.trans (same_new hl1), nxt ?_⟩
      unfold fnd; rw [hz]; rfl
    | false =>
      refine w_iteF ?_
      have e1 := e.trans (same_new (o := .lst (((c.drop i).take w).map V.int)) hl1)
      generalize upd H1 l (.lst (((c.drop i).take w).map V.int)) = H2 at e1
      have ha2 := e1 _ _ ha
      walk_at "go"
      refine forR (fun t σ H' => ∃ (at_ : Nat) (k4 : Option V), σ = [some (.ref a), some (.int (w : Int)), some (.int (i : Int)), some (.int (at_ : Int)), k4] ∧ Same H H' ∧ at_ ≤ 3000000 ∧
        fnd w c i = M.seek w (c.length - t) (c.drop at_) ∧ at_ = i + w + t * w) ?_ ?_ ?_
      · refine ⟨i + w, k4, by simp [Int.natCast_add], e1, by omega, ?_, by simp⟩
        unfold fnd; rw [hz]; rfl
      · rintro t σ H3 ht ⟨at_, k5, rfl, e3, hb, hk, hat⟩
        have ha3 := e3 _ _ ha
        obtain ⟨f, hff⟩ : ∃ f, c.length - t = f + 1 := ⟨c.length - t - 1, by omega⟩
        rw [hff] at hk
        walk_at "go"
        refine w_iteD (fun hc => ?_) (fun hc => ?_)
        · refine w_iteT ?_
          walk_at "go"
          refine ⟨_, _, _, rfl, e3, nxt ?_⟩
          rw [hk, List.drop_eq_nil_of_le (by omega)]; rfl
        · have hlt : at_ < c.length := by omega
          have hx : atI (c.map V.int) (at_ : Int) = some (V.int c[at_]) := at_of (j := at_) rfl (by simp [hlt])
          rw [List.drop_eq_getElem_cons hlt] at hk
          unfold M.seek at hk
          walk_at "go"
          refine w_iteD (fun hc2 => ?_) (fun hc2 => ?_)
          · walk_at "go"
            rw [if_pos hc2] at hk
            exact ⟨_, _, _, rfl, e3, nxt hk⟩
          · rw [if_neg hc2] at hk
            walk_at "go"
            refine w_iteD (fun hc3 => ?_) (fun hc3 => ?_)
            · walk_at "go"
              rw [if_pos hc3] at hk
              have : M.stretch w c = true := by
                unfold M.stretch
                rw [List.any_eq_true]
                exact ⟨i, by simp; omega, hk⟩
              rw [this] at q
              exact q _ e3
            · rw [if_neg hc3] at hk
              walk_at "go"
              intro l2 hl2
              rw [show (at_ : Int) + 1 = ((at_ + 1 : Nat) : Int) by omega, show (at_ : Int) + (w : Int) = ((at_ + w : Nat) : Int) by omega, cut_map, show at_ + w - (at_ + 1) = w - 1 by omega]
              walk_at "go"
              cases hz2 : ((c.drop (at_ + 1)).take (w - 1)).any (fun z => decide (z ≠ 0)) with
              | true =>
                refine w_iteT ?_
                walk_at "go"
                rw [if_pos hz2] at hk
                exact ⟨_, _, _, rfl, e3.trans (same_new hl2), nxt hk⟩
              | false =>
                refine w_iteF ?_
                rw [if_neg (by rw [hz2]; decide)] at hk
                walk_at "go"
                rw [← Int.natCast_add]
                refine ⟨at_ + w, _, rfl, e3.trans (same_new hl2), ?_, ?_, ?_⟩
                · have : (t + 1) * w ≤ 1000 * 1000 := Nat.mul_le_mul (by omega) h1
                  rw [Nat.add_mul] at this; omega
                · rw [hk, List.drop_drop, show c.length - (t + 1) = f by omega, show at_ + 1 + (w - 1) = at_ + w by omega]
                · rw [hat, Nat.add_mul]; omega
      · rintro σ H3 ⟨at_, k5, rfl, e3, hb, hk, hat⟩
        refine ⟨_, _, _, rfl, e3, nxt ?_⟩
        rw [hk, hlen, show c.length - ((c.length : Int)).toNat = 0 by omega]; rfl
  · rintro σ H1 ⟨k2, k3, k4, rfl, e, hf⟩
    walk_at "go"
    have : M.stretch w c = false := by
      unfold M.stretch
      rw [List.any_eq_false]
      intro s hs
      have := hf s (by simp at hs; rw [hlen]; omega)
      unfold fnd at this
      rw [this]; decide
    rw [this] at q
    exact q _ e
end G

namespace G
open PySem L2
/-! ### made lists -/
section
variable {K : PySem.W.Frag} {σ : L2.St} {H : Hp} {ta tb : TE} {xs ys : List Int} {k a : Int} {i : Nat}
/-- the expression makes a new list of these ints -/
def Mk (ta : TE) (σ : L2.St) (H : Hp) (xs : List Int) : Prop := ∀ Q : VK, (∀ p H', H p = none → Same H H' → H' p = some (.lst (xs.map V.int)) → Q (.ref p) H') → ta σ H Q
/-- the expression is this int and changes nothing -/
def Iv (tb : TE) (σ : L2.St) (k : Int) : Prop := ∀ (H : Hp) (Q : VK), Q (.int k) H → tb σ H Q
theorem Iv.var (h : σ[i]? = some (some (.int k))) : Iv (tVar i) σ k := fun _ _ q => w_var h q
theorem Iv.c : Iv (tC (.int k)) σ k := fun _ _ q => q
theorem Iv.sub {m : Int} (h : Iv ta σ k) (h2 : Iv tb σ m) : Iv (tOp oSub ta tb) σ (k - m) := fun _ _ q => w_op (h _ _ (h2 _ _ (w_oSub q)))
theorem Iv.add {m : Int} (h : Iv ta σ k) (h2 : Iv tb σ m) : Iv (tOp oAdd ta tb) σ (k + m) := fun _ _ q => w_op (h _ _ (h2 _ _ (w_oAdd q)))
theorem Mk.one (h : Iv ta σ a) : Mk (tLst (tCons ta tNil)) σ H [a] := fun Q q => w_lst (w_cons (h _ _ (w_nil ⟨Nat.le_trans (by simp : [V.int a].length ≤ 1) (by decide), fun p hp => q p _ hp (same_new hp) upd_same⟩)))
theorem Mk.rep (h : Mk ta σ H xs) (h2 : Iv tb σ k) (h0 : -4611686018427387904 ≤ k) (h1 : k < 4611686018427387904) (hl : xs.length * k.toNat ≤ 100000) : Mk (tOp rRep ta tb) σ H (List.replicate k.toNat xs).flatten := fun Q q =>
  w_op (h _ fun p H1 hp e hx => h2 _ _ (w_rep hx h0 h1 (by rw [List.length_map]; exact Nat.le_trans hl (by decide)) fun l hl => q l _ (e.free hl) (e.trans (same_new hl)) (by rw [map_rep]; exact upd_same)))
theorem Mk.cat (h : Mk ta σ H xs) (h2 : ∀ H', Same H H' → Mk tb σ H' ys) (hl : xs.length + ys.length ≤ 100000) : Mk (tOp rCat ta tb) σ H (xs ++ ys) := fun Q q =>
  w_op (h _ fun p H1 hp e hx => h2 H1 e _ fun p2 H2 hp2 e2 hy => w_cat (e2 _ _ hx) hy (by rw [List.length_map, List.length_map]; exact Nat.le_trans hl (by decide)) fun l hl => q l _ ((e.trans e2).free hl) ((e.trans e2).trans (same_new hl)) (by rw [← List.map_append]; exact upd_same))
theorem Mk.same {H' : Hp} (e : Same H H') (h : ∀ H1, Mk ta σ H1 xs) : Mk ta σ H' xs := h H'
end
theorem flat_one {α : Type} (k : Nat) (x : α) : (List.replicate k [x]).flatten = List.replicate k x := by
  induction k with
  | zero => rfl
  | succ k ih => rw [List.replicate_succ, List.flatten_cons, ih]; rfl
theorem Chn.rep1 (k : Nat) {x : Int} (h0 : 0 ≤ x) (h1 : x ≤ 60) : Chn (List.replicate k x) := fun n hn => by rw [(List.mem_replicate.mp hn).2]; exact ⟨h0, h1⟩
/-- a stretch, as the law builds it -/
def mid (w g : Nat) : List Int := List.replicate w 0 ++ (List.replicate g ([1] ++ List.replicate (w - 1) 0)).flatten ++ [0]
theorem mid_chn (w g : Nat) : Chn (mid w g) := by
  unfold mid
  refine ((Chn.rep1 w (by decide) (by decide)).app (Chn.rep (Chn.app ?_ (Chn.rep1 _ (by decide) (by decide))))).app ?_
  · intro n hn; rw [List.mem_singleton.mp hn]; decide
  · intro n hn; rw [List.mem_singleton.mp hn]; decide
theorem mid_len (w g : Nat) (h : 1 ≤ w) : (mid w g).length = w + g * w + 1 := by
  unfold mid
  rw [List.length_append, List.length_append, len_rep, List.length_append, List.length_replicate, List.length_replicate]
  simp only [List.length_cons, List.length_nil]
  rw [show 0 + 1 + (w - 1) = w by omega]
def sp_law_chain (K : PySem.W.Frag) (A : CA) : Sp := fun vs H Q _ => ∃ (s : Addr) (w : Int), vs = [.ref s, .int w] ∧ Src H s ∧ 1 ≤ w ∧ w ≤ 70 ∧
  ∀ (c : List Int) (p : Addr) (H' : Hp), c.length ≤ 300 → 1 ≤ c.length → Chn c → H p = none → But s H H' → Src H' s → H' p = some (.lst (c.map V.int)) → Q (.ref p) H'
variable {K : PySem.W.Frag} {A : CA} {vs : List V} {H : Hp} {Q : VK} {E : XK}
theorem i_chain {s : Addr} {w : Int} (hs : Src H s) (h0 : 1 ≤ w) (h1 : w ≤ 70)
    (k : ∀ (c : List Int) (p : Addr) (H' : Hp), c.length ≤ 300 → 1 ≤ c.length → Chn c → H p = none → But s H H' → Src H' s → H' p = some (.lst (c.map V.int)) → Q (.ref p) H') : sp_law_chain K A [.ref s, .int w] H Q E := ⟨s, w, rfl, hs, h0, h1, k⟩
end G
local macro_rules | `(tactic| walk_at "call") => `(tactic| first
  | (refine' G.i_chain ?g1 ?g2 ?g3 ?_; (case g1 => walk_at "src"); (case g2 => walk_at "ar"); (case g3 => walk_at "ar")))
namespace G
open PySem L2
def t_law_chain (K : PySem.W.Frag) (A : CA) : TS :=
  (tSeq (tAsg (tCall (sp_law_take K A) [] E0 (tCons (tVar 0) (tCons (tC (.int 4)) tNil))) (gName 2))
  (tSeq (tIfS (tTest (tOp rEq (tVar 2) (tC (.int 0)))) (tRet (tCall (sp_law_pages K A) [] E0 (tCons (tVar 0) (tCons (tOp oAdd (tC (.int 1)) (tCall (sp_law_take K A) [] E0 (tCons (tVar 0) (tCons (tC (.int 9)) tNil)))) tNil)))) tNext)
  (tSeq (tIfS (tTest (tOp rEq (tVar 2) (tC (.int 3)))) (tSeq (tAsg (tOp rRep (tCall (sp_law_pages K A) [] E0 (tCons (tVar 0) (tCons (tOp oAdd (tC (.int 1)) (tCall (sp_law_take K A) [] E0 (tCons (tVar 0) (tCons (tC (.int 6)) tNil)))) tNil))) (tOp oAdd (tC (.int 1)) (tCall (sp_law_take K A) [] E0 (tCons (tVar 0) (tCons (tC (.int 32)) tNil))))) (gName 3))
  (tSeq (tAsg (tCall (sp_law_take K A) [] E0 (tCons (tVar 0) (tCons (tCB (rLenQ K) (tCons (tVar 3) tNil)) tNil))) (gName 4))
  (tSeq (tAsg (tCall (sp_law_page K A) [] E0 (tCons (tVar 0) tNil)) (gSub (tVar 3) (tVar 4) rSetL))
  (tRet (tVar 3))))) tNext)
  (tSeq (tAsg (tCall (sp_law_take K A) [] E0 (tCons (tVar 0) (tCons (tOp oAdd (tC (.int 1)) (tCB oMin2 (tCons (tC (.int 4)) (tCons (tOp oDiv (tOp oSub (tC (.int 149)) (tVar 1)) (tVar 1)) tNil)))) tNil))) (gName 5))
  (tSeq (tAsg (tOp rCat (tOp rCat (tOp rRep (tLst (tCons (tC (.int 0)) tNil)) (tVar 1)) (tOp rRep (tOp rCat (tLst (tCons (tC (.int 1)) tNil)) (tOp rRep (tLst (tCons (tC (.int 0)) tNil)) (tOp oSub (tVar 1) (tC (.int 1))))) (tVar 5))) (tLst (tCons (tC (.int 0)) tNil))) (gName 6))
  (C8.tCut (tIfS (tTest (tOp rEq (tVar 2) (tC (.int 2)))) (tSeq (tAsg (tCall (sp_law_take K A) [] E0 (tCons (tVar 0) (tCons (tCB (rLenQ K) (tCons (tVar 6) tNil)) tNil))) (gName 4))
  (tSeq (tAsg (tCall (sp_law_take K A) [] E0 (tCons (tVar 0) (tCons (tC (.int 4)) tNil))) (gName 7))
  (tIfS (tTest (tOp oLt (tVar 7) (tC (.int 3)))) (tAsg (tVar 7) (gSub (tVar 6) (tVar 4) rSetL)) (tAsg (tOp rCat (tSl (rSlL K) (tVar 6) tNoPart (tPart (tVar 4))) (tSl (rSlL K) (tVar 6) (tPart (tOp oAdd (tVar 4) (tC (.int 1)))) tNoPart)) (gName 6))))) tNext)
  (tSeq (tAsg (tCall (sp_law_pages K A) [] E0 (tCons (tVar 0) (tCons (tCall (sp_law_take K A) [] E0 (tCons (tVar 0) (tCons (tC (.int 6)) tNil))) tNil))) (gName 8))
  (tSeq (tAsg (tCall (sp_law_pages K A) [] E0 (tCons (tVar 0) (tCons (tCall (sp_law_take K A) [] E0 (tCons (tVar 0) (tCons (tC (.int 6)) tNil))) tNil))) (gName 9))
  (tRet (tOp rCat (tOp rCat (tVar 8) (tVar 6)) (tVar 9)))))))))))

variable {K : PySem.W.Frag} {A : CA} {vs : List V} {H : Hp} {Q : VK} {E : XK}
theorem rd_law_chain (h : sp_law_chain K A vs H Q E) : t_law_chain K A { nx := fun _ H' => Q .non H', rt := Q } (start ["bag", "copies", "way", "chain", "at", "groups", "middle", "count", "above", "below"] vs) H := by
  obtain ⟨s, w, rfl, hs, h0, h1, q⟩ := h
  unfold t_law_chain
  walk_at "go"
  intro way H1 r0 r1 b1 s1
  walk_at "go"
  refine w_iteD (fun hc => ?_) (fun hc => ?_)
  · walk_at "go"
    intro r H2 r2 r3 b2 s2
    walk_at "go"
    intro ps p H3 hl hc3 hp b3 s3 hx
    exact q ps p H3 (by omega) (by omega) hc3 ((b1.trans b2).back s2 hp) ((b1.trans b2).trans b3) s3 hx
  walk_at "go"
  refine w_iteD (fun hc2 => ?_) (fun hc2 => ?_)
  · walk_at "go"
    intro r H2 r2 r3 b2 s2
    walk_at "go"
    intro ps p H3 hl hc3 hp b3 s3 hx
    walk_at "go"
    intro k H4 r4 r5 b4 s4
    have hps : p ≠ s := s2.neFree hp
    have hx4 := b4.at hps hx
    have hlen : (ps.map V.int).length * (1 + k).toNat ≤ sizeLine := by
      rw [List.length_map]
      refine Nat.le_trans (Nat.mul_le_mul (show ps.length ≤ 6 by omega) (show (1 + k).toNat ≤ 32 by omega)) (by decide)
    walk_at "go"
    intro l hl4
    rw [map_rep]
    have hL : (upd H4 l (.lst ((List.replicate (1 + k).toNat ps).flatten.map V.int))) l = some (.lst ((List.replicate (1 + k).toNat ps).flatten.map V.int)) := upd_same
    have b5 := ((b1.trans b2).trans b3).trans b4
    have b6 : But s H (upd H4 l (.lst ((List.replicate (1 + k).toNat ps).flatten.map V.int))) := b5.new hl4
    have s6 : Src (upd H4 l (.lst ((List.replicate (1 + k).toNat ps).flatten.map V.int))) s := s4.new hl4
    have nls : l ≠ s := s4.neFree hl4
    have hlN := b5.back s4 hl4
    have hcc : Chn (List.replicate (1 + k).toNat ps).flatten := hc3.rep
    have hle : (List.replicate (1 + k).toNat ps).flatten.length = (1 + k).toNat * ps.length := len_rep
    have hm1 : (1 + k).toNat * ps.length ≤ 32 * 6 := Nat.mul_le_mul (by omega) (by omega)
    have hm2 : 1 * 1 ≤ (1 + k).toNat * ps.length := Nat.mul_le_mul (by omega) (by omega)
    generalize (List.replicate (1 + k).toNat ps).flatten = c at hL b6 s6 hcc hle ⊢
    generalize upd H4 l (.lst (c.map V.int)) = H5 at hL b6 s6
    have hcl : ((c.map V.int).length : Int) = c.length := by rw [List.length_map]
    walk_at "go"
    intro at_ H6 r6 r7 b7 s7
    have hL6 := b7.at nls hL
    walk_at "go"
    intro v H7 r8 r9 b8 s8
    have hL7 := b8.at nls hL6
    have hix : ixN (c.map V.int).length at_ = some at_.toNat := ixn (by omega) (by rw [List.length_map]; omega)
    walk_at "go"
    refine q (c.set at_.toNat v) l _ (by rw [List.length_set]; omega) (by rw [List.length_set]; omega) (hcc.set r8 r9) hlN (((b6.trans b7).trans b8).mut hlN) (s8.mut nls) ?_
    rw [List.map_set]; exact upd_same
  have hd0 : 1 ≤ (149 - w) / w := by
    rw [Int.le_ediv_iff_mul_le (by omega)]; omega
  have hd1 : (149 - w) / w * w ≤ 149 - w := Int.ediv_mul_le _ (by omega)
  walk_at "go"
  generalize (149 - w) / w = d at hd0 hd1
  have hmn : 0 < 1 + (if d < 4 then d else 4) ∧ 1 + (if d < 4 then d else 4) ≤ 5 ∧ 1 + (if d < 4 then d else 4) ≤ 1 + d := by split <;> omega
  generalize (1 : Int) + (if d < 4 then d else 4) = m at hmn
  walk_at "go"
  intro g H2 r2 r3 b2 s2
  have hgw : g * w ≤ d * w := Int.mul_le_mul_of_nonneg_right (by omega) (by omega)
  obtain ⟨W, rfl⟩ := Int.eq_ofNat_of_zero_le (show 0 ≤ w by omega)
  obtain ⟨g, rfl⟩ := Int.eq_ofNat_of_zero_le r2
  have hgw2 : g * W ≤ 149 := by
    have : (g : Int) * (W : Int) ≤ 149 := by omega
    exact_mod_cast this
  have hW : 1 ≤ W := by omega
  have mk : Mk (tOp rCat (tOp rCat (tOp rRep (tLst (tCons (tC (.int 0)) tNil)) (tVar 1)) (tOp rRep (tOp rCat (tLst (tCons (tC (.int 1)) tNil)) (tOp rRep (tLst (tCons (tC (.int 0)) tNil)) (tOp oSub (tVar 1) (tC (.int 1))))) (tVar 5))) (tLst (tCons (tC (.int 0)) tNil)))
      [some (.ref s), some (.int (W : Int)), some (.int way), none, none, some (.int (g : Int)), none, none, none, none] H2 (mid W g) := by
    unfold mid
    rw [← flat_one W (0 : Int), ← flat_one (W - 1) (0 : Int)]
    refine Mk.cat (Mk.cat ?_ (fun H' e => ?_) ?_) (fun H' e => Mk.one Iv.c) ?_
    · exact Mk.rep (k := (W : Int)) (Mk.one Iv.c) (Iv.var rfl) (by omega) (by omega) (by simp; omega)
    · refine Mk.rep (k := (g : Int)) (Mk.cat (Mk.one Iv.c) (fun H'' e' => ?_) ?_) (Iv.var rfl) (by omega) (by omega) ?_
      · have := Mk.rep (k := ((W : Int) - 1)) (xs := [0]) (H := H'') (Mk.one Iv.c) (Iv.sub (Iv.var (σ := [some (.ref s), some (.int (W : Int)), some (.int way), none, none, some (.int (g : Int)), none, none, none, none]) (i := 1) rfl) Iv.c) (by omega) (by omega) (by simp; omega)
        rw [show ((W : Int) - 1).toNat = W - 1 by omega] at this
        exact this
      · rw [flat_one]; simp; omega
      · rw [flat_one]
        simp only [List.length_append, List.length_cons, List.length_nil, List.length_replicate]
        rw [show 0 + 1 + (W - 1) = W by omega, Nat.mul_comm]; simp; omega
    · rw [flat_one, flat_one, List.length_replicate, len_rep]
      simp only [List.length_append, List.length_cons, List.length_nil, List.length_replicate]
      rw [show 0 + 1 + (W - 1) = W by omega]; omega
    · rw [flat_one, flat_one, List.length_append, List.length_replicate, len_rep]
      simp only [List.length_append, List.length_cons, List.length_nil, List.length_replicate]
      rw [show 0 + 1 + (W - 1) = W by omega]; simp; omega
  have mc := mid_chn W g
  have ml := mid_len W g hW
  generalize mid W g = m0 at mk mc ml
  refine w_name (w_seq (w_asg (mk _ fun p H3 hp e3 h3 => ?_)))
  have b3 := (b1.trans b2).trans (Same.but e3)
  have s3 := Src.same e3 s2
  have hpN := (b1.trans b2).back s2 hp
  have nps : p ≠ s := s2.neFree hp
  refine w_name (w_seq ?_)
  refine w_cut (fun σ H' => ∃ (c : List Int) (l : Addr) (k4 k7 : Option V), σ = [some (.ref s), some (.int (W : Int)), some (.int way), none, k4, some (.int (g : Int)), some (.ref l), k7, none, none] ∧ c.length ≤ 200 ∧ 1 ≤ c.length ∧ Chn c ∧ But s H H' ∧ Src H' s ∧ H l = none ∧ H' l = some (.lst (c.map V.int))) ?_ ?_
  · walk_at "go"
    refine w_iteD (fun hc3 => ?_) (fun hc3 => ?_)
    · have hcl : ((m0.map V.int).length : Int) = m0.length := by rw [List.length_map]
      walk_at "go"
      intro at_ H4 r4 r5 b4 s4
      have h4 := b4.at nps h3
      walk_at "go"
      intro v H5 r6 r7 b5 s5
      have h5 := b5.at nps h4
      have b6 := (b3.trans b4).trans b5
      walk_at "go"
      refine w_iteD (fun hc4 => ?_) (fun hc4 => ?_)
      · have hix : ixN (m0.map V.int).length at_ = some at_.toNat := ixn (by omega) (by rw [List.length_map]; omega)
        walk_at "go"
        refine ⟨m0.set at_.toNat v, p, _, _, rfl, by rw [List.length_set]; omega, by rw [List.length_set]; omega, mc.set r6 (by omega), b6.mut hpN, s5.mut nps, hpN, ?_⟩
        rw [List.map_set]; exact upd_same
      · walk_at "go"
        intro l1 hl1
        obtain ⟨j, rfl⟩ := Int.eq_ofNat_of_zero_le r4
        rw [cut_mapTo]
        have h6 := keep (o' := .lst ((m0.take j).map V.int)) h5 hl1
        walk_at "go"
        intro l2 hl2
        rw [show (j : Int) + 1 = ((j + 1 : Nat) : Int) by omega, cut_mapFrom]
        have hL1 : (upd H5 l1 (.lst ((m0.take j).map V.int))) l1 = some (.lst ((m0.take j).map V.int)) := upd_same
        have hL2 := keep (o' := .lst ((m0.drop (j + 1)).map V.int)) hL1 hl2
        have hsz : ((m0.take j).map V.int).length + ((m0.drop (j + 1)).map V.int).length ≤ sizeLine := by
          simp only [List.length_map, List.length_take, List.length_drop]
          exact Nat.le_trans (show _ ≤ 1000 by omega) (by decide)
        have b7 := (b6.new (o := .lst ((m0.take j).map V.int)) hl1).new (o := .lst ((m0.drop (j + 1)).map V.int)) hl2
        have s7 := (s5.new (o := .lst ((m0.take j).map V.int)) hl1).new (o := .lst ((m0.drop (j + 1)).map V.int)) hl2
        walk_at "go"
        intro l3 hl3
        refine ⟨m0.take j ++ m0.drop (j + 1), l3, _, _, rfl, ?_, ?_, ?_, b7.new hl3, s7.new hl3, b7.back s7 hl3, ?_⟩
        · simp only [List.length_append, List.length_take, List.length_drop]; omega
        · simp only [List.length_append, List.length_take, List.length_drop]; omega
        · exact Chn.app (mc.sub fun x hx => List.mem_of_mem_take hx) (mc.sub fun x hx => List.mem_of_mem_drop hx)
        · rw [← List.map_append]; exact upd_same
    · walk_at "go"
      exact ⟨m0, p, _, _, rfl, by omega, by omega, mc, b3, s3, hpN, h3⟩
  · rintro σ H4 ⟨c, l, k4, k7, rfl, hcl, hcl1, hcc, b4, s4, hlN, h4⟩
    have nls : l ≠ s := hs.neFree hlN
    walk_at "go"
    intro r H5 r4 r5 b5 s5
    have h5 := b5.at nls h4
    walk_at "go"
    intro ps p1 H6 hl6 hc6 hp6 b6 s6 hx6
    have h6 := b6.at nls h5
    have n1 : p1 ≠ s := s5.neFree hp6
    walk_at "go"
    intro r' H7 r6 r7 b7 s7
    have h7 := b7.at nls h6
    have hx7 := b7.at n1 hx6
    walk_at "go"
    intro ps2 p2 H8 hl8 hc8 hp8 b8 s8 hx8
    have h8 := b8.at nls h7
    have hx9 := b8.at n1 hx7
    have hsz : (ps.map V.int).length + (c.map V.int).length ≤ sizeLine := by
      simp only [List.length_map]
      exact Nat.le_trans (show _ ≤ 1000 by omega) (by decide)
    have b9 := (((b4.trans b5).trans b6).trans b7).trans b8
    walk_at "go"
    intro l3 hl3
    have hsz : (ps.map V.int ++ c.map V.int).length + (ps2.map V.int).length ≤ sizeLine := by
      simp only [List.length_map, List.length_append]
      exact Nat.le_trans (show _ ≤ 1000 by omega) (by decide)
    have hx10 := keep (o' := .lst (ps.map V.int ++ c.map V.int)) hx8 hl3
    have b10 := b9.new (o := .lst (ps.map V.int ++ c.map V.int)) hl3
    have s10 := s8.new (o := .lst (ps.map V.int ++ c.map V.int)) hl3
    walk_at "go"
    intro l4 hl4
    refine q (ps ++ c ++ ps2) l4 _ ?_ ?_ ?_ (b10.back s10 hl4) (b10.new hl4) (s10.new hl4) ?_
    · simp only [List.length_append]; omega
    · simp only [List.length_append]; omega
    · exact (hc6.app hcc).app hc8
    · rw [List.map_append, List.map_append]; exact upd_same
end G

namespace G
open PySem L2
def sp_law_is_integer (K : PySem.W.Frag) (A : CA) : Sp := fun vs H Q _ => ∃ (a : Int), vs = [.int a] ∧ Q (.bl true) H
def sp_law_fits (K : PySem.W.Frag) (A : CA) : Sp := fun vs H Q _ => ∃ (a : Addr) (c : List Int) (w : Nat), vs = [.ref a, .int (w : Int)] ∧ H a = some (.lst (c.map V.int)) ∧ c.length ≤ 300 ∧ Chn c ∧ 1 ≤ w ∧ w ≤ 100 ∧
  ∀ (H' : Hp), Same H H' → Q (.bl true) H'
def sp_law (K : PySem.W.Frag) (A : CA) : Sp := fun vs H Q _ => ∃ (a : Addr) (ns : List Int), vs = [.ref a] ∧ SqL K H a (ns.map V.int) ∧ ns.length ≤ 63 ∧ ∀ H', Q (.bl true) H'
variable {K : PySem.W.Frag} {A : CA} {vs : List V} {H : Hp} {Q : VK} {E : XK}
theorem i_isint {a : Int} (q : Q (.bl true) H) : sp_law_is_integer K A [.int a] H Q E := ⟨a, rfl, q⟩
theorem i_fits {a : Addr} {c : List Int} {w : Nat} (h : H a = some (.lst (c.map V.int))) (hl : c.length ≤ 300) (hc : Chn c) (h0 : 1 ≤ w) (h1 : w ≤ 100) (q : ∀ (H' : Hp), Same H H' → Q (.bl true) H') : sp_law_fits K A [.ref a, .int (w : Int)] H Q E := ⟨a, c, w, rfl, h, hl, hc, h0, h1, q⟩
theorem Same.but2 {H1 H2 : Hp} {s : Addr} (e : Same H H1) (b : But s H1 H2) (hs : H s = none) : Same H H2 := fun p u h => b p u (ne_of_none h hs) (e p u h)
theorem w_neB {a b : Bool} (q : Q (.bl (!decide (a = b))) H) : rNe (.bl a) (.bl b) H Q := ⟨rfl, by
  have e : (decide (V.bl a = V.bl b)) = decide (a = b) := by simp
  rw [e]; exact q⟩
end G
local macro_rules | `(tactic| walk_at "call") => `(tactic| first
  | refine' G.i_isint ?_ | refine' G.w_neB ?_
  | (refine' G.i_fits ?g1 ?g2 ?g3 ?g4 ?g5 ?_; (case g1 => walk_at "hp"); (case g2 => walk_at "ar"); (case g3 => assumption); (case g4 => walk_at "ar"); (case g5 => walk_at "ar")))
namespace G
open PySem L2
def t_law_is_integer (K : PySem.W.Frag) (A : CA) : TS :=
  (tRet (tAndV (tCB (rIsi K) (tCons (tVar 0) (tCons (tC (.ty "int")) tNil))) (tNotV (tCB (rIsi K) (tCons (tVar 0) (tCons (tC (.ty "bool")) tNil))))))
def t_law_fits (K : PySem.W.Frag) (A : CA) : TS :=
  (tSeq (tAsg (tCB (oListOf K) (tCons (tVar 0) tNil)) (gName 2))
  (tSeq (tAsg (tCall (sp_heights K A) [] E0 (tCons (tVar 2) (tCons (tVar 1) tNil))) (gName 3))
  (tSeq (tIfS (tOr (tNot (tB (tCB (rIsi K) (tCons (tVar 3) (tCons (tC (.ty "list")) tNil))))) (tNot (tB (tCB (rAll K) (tCons (tLc (iList K (tVar 3)) (gName 4) tYes (tCall (sp_law_is_integer K A) [] E0 (tCons (tVar 4) tNil)) [4]) tNil))))) (tRet (tC (.bl false))) tNext)
  (tSeq (tIfS (tOr (tTest (tOp (rNeD K) (tVar 2) (tVar 0))) (tTest (tOp (rNeD K) (tVar 3) (tCall (sp_law_heights K A) [] E0 (tCons (tVar 0) (tCons (tVar 1) tNil)))))) (tRet (tC (.bl false))) tNext)
  (tSeq (tDrop (tBM K "list" rAppend (tVar 3) (tCons (tC (.int 1)) tNil)))
  (tSeq (tIfS (tTest (tOp (rNeD K) (tVar 2) (tVar 0))) (tRet (tC (.bl false))) tNext)
  (tSeq (tAsg (tCall (sp_is_keepable_chain K A) [] E0 (tCons (tVar 2) (tCons (tVar 1) tNil))) (gName 5))
  (tSeq (tIfS (tOr (tNot (tB (tCB (rIsi K) (tCons (tVar 5) (tCons (tC (.ty "bool")) tNil))))) (tTest (tOp (rNeD K) (tVar 2) (tVar 0)))) (tRet (tC (.bl false))) tNext)
  (tRet (tOp rNe (tVar 5) (tCall (sp_law_has_stretch K A) [] E0 (tCons (tVar 0) (tCons (tVar 1) tNil)))))))))))))
def t_law (K : PySem.W.Frag) (A : CA) : TS :=
  (tSeq (tAsg (tCall (sp_law_copies K A) [] E0 (tCons (tCall (sp_law_bag K A) [] E0 (tCons (tVar 0) (tCons (tC (.int 0)) tNil))) tNil)) (gName 1))
  (tSeq (tAsg (tCall (sp_law_chain K A) [] E0 (tCons (tCall (sp_law_bag K A) [] E0 (tCons (tVar 0) (tCons (tC (.int 1)) tNil))) (tCons (tVar 1) tNil))) (gName 2))
  (tSeq (tAsg (tCall (sp_law_copies K A) [] E0 (tCons (tCall (sp_law_bag K A) [] E0 (tCons (tVar 0) (tCons (tC (.int 2)) tNil))) tNil)) (gName 3))
  (tSeq (tFor (iList K (tLst (tCons (tVar 1) (tCons (tVar 3) (tCons (tOp oAdd (tVar 1) (tC (.int 1))) tNil))))) (gName 4)
  (tIfS (tOr (tNot (tB (tCall (sp_law_fits K A) [] E0 (tCons (tVar 2) (tCons (tVar 4) tNil))))) (tNot (tB (tCall (sp_law_fits K A) [] E0 (tCons (tLst tNil) (tCons (tVar 4) tNil)))))) (tRet (tC (.bl false))) tNext))
  (tRet (tC (.bl true)))))))

variable {K : PySem.W.Frag} {A : CA} {vs : List V} {H : Hp} {Q : VK} {E : XK}
theorem rd_law_is_integer (h : sp_law_is_integer K A vs H Q E) : t_law_is_integer K A { nx := fun _ H' => Q .non H', rt := Q } (start ["actual"] vs) H := by
  obtain ⟨a, rfl, q⟩ := h
  unfold t_law_is_integer
  walk_at "go"
  exact q
theorem rd_law_fits (h : sp_law_fits K A vs H Q E) : t_law_fits K A { nx := fun _ H' => Q .non H', rt := Q } (start ["chain", "copies", "handed", "told", "height", "answer"] vs) H := by
  obtain ⟨a, c, w, rfl, ha, hl, hc, h0, h1, q⟩ := h
  have hnn : ∀ n ∈ c, 0 ≤ n := fun n hn => (hc n hn).1
  have hstr := M.stretch_keep w h0 c hnn
  unfold t_law_fits
  walk_at "go"
  intro hd hhd
  have ha1 := keep (o' := .lst (c.map V.int)) ha hhd
  have e1 := same_new (o := .lst (c.map V.int)) hhd
  have hH : (upd H hd (.lst (c.map V.int))) hd = some (.lst (c.map V.int)) := upd_same
  generalize upd H hd (.lst (c.map V.int)) = H1 at ha1 e1 hH
  walk_at "go"
  intro t H2 ht e2 h2
  have ha2 := e2 _ _ ha1
  have hH2 := e2 _ _ hH
  have htl : (M.hts w c).length ≤ 1000 := by rw [M.hts_length]; omega
  walk_at "go"
  refine w_iteF ?_
  walk_at "go"
  refine lcL (xs := (M.hts w c).map V.int) (fun Dl j H' => Same H2 H' ∧ H' Dl = some (.lst ((List.replicate j true).map V.bl))) ?_ ?_ ?_ ?_
  · intro Dl hD
    exact ⟨same_new hD, upd_same⟩
  · rintro Dl j H3 hD hj ⟨e3, h3⟩
    exact .inl (.inl (e3 _ _ h2))
  · rintro Dl j x H3 hD hx ⟨e3, h3⟩
    obtain ⟨hj, rfl⟩ := getI hx
    have hsz : ((List.replicate j true).map V.bl).length < sizeLine := by rw [List.length_map, List.length_replicate]; exact L2.small1000 (by omega)
    walk_at "go"
    refine ⟨same_mut e3 hD, ?_⟩
    rw [List.replicate_succ', List.map_append]; exact upd_same
  · rintro Dl H3 hD ⟨e3, h3⟩
    have ha3 := e3 _ _ ha2
    have hH3 := e3 _ _ hH2
    have h4 := e3 _ _ h2
    walk_at "go"
    refine w_all (.inl (.inl h3)) ?_
    rw [show (List.replicate ((M.hts w c).map V.int).length true).all id = true by simp]
    walk_at "go"
    refine w_iteF ?_
    walk_at "go"
    rw [decide_eq_true rfl]
    refine w_iteF ?_
    walk_at "go"
    intro p H4 hp e4 h5
    have ha4 := e4 _ _ ha3
    have hH4 := e4 _ _ hH3
    have h6 := e4 _ _ h4
    walk_at "go"
    rw [decide_eq_true rfl]
    refine w_iteF ?_
    have hsz : ((M.hts w c).map V.int).length < sizeLine := by rw [List.length_map]; exact L2.small1000 htl
    have nh : hd ≠ t := ne_of_none hH ht
    have na : a ≠ t := ne_of_none ha1 ht
    walk_at "go"
    have ha5 := keepNe (o' := .lst ((M.hts w c).map V.int ++ [V.int 1])) ha4 na
    have hH5 := keepNe (o' := .lst ((M.hts w c).map V.int ++ [V.int 1])) hH4 nh
    have e5 : Same H (upd H4 t (.lst ((M.hts w c).map V.int ++ [V.int 1]))) := same_mut (((e1.trans e2).trans e3).trans e4) (e1.free ht)
    generalize upd H4 t (.lst ((M.hts w c).map V.int ++ [V.int 1])) = H5 at ha5 hH5 e5
    walk_at "go"
    rw [decide_eq_true rfl]
    refine w_iteF ?_
    walk_at "go"
    intro H6 e6
    have ha6 := e6 _ _ ha5
    have hH6 := e6 _ _ hH5
    walk_at "go"
    refine w_iteF ?_
    walk_at "go"
    rw [decide_eq_true rfl]
    refine w_iteF ?_
    walk_at "go"
    intro H7 e7
    walk_at "go"
    rw [hstr]
    have := q H7 ((e5.trans e6).trans e7)
    cases M.keep w c <;> exact this
theorem rd_law (h : sp_law K A vs H Q E) : t_law K A { nx := fun _ H' => Q .non H', rt := Q } (start ["script", "copies", "chain", "other", "limit"] vs) H := by
  obtain ⟨a, ns, rfl, hs, hl, q⟩ := h
  unfold t_law
  walk_at "go"
  intro s1 H1 n1 e1 c1
  walk_at "go"
  intro w H2 r0 r1 b2 c2
  have b12 := Same.but2 e1 b2 n1
  have hs2 := b12.seq hs
  walk_at "go"
  intro s2 H3 n3 e3 c3
  walk_at "go"
  intro c p H4 hc1 hc2 hc n4 b4 c4 hp
  have e4 := Same.but2 e3 b4 n3
  have hs4 := (b12.trans e4).seq hs
  walk_at "go"
  intro s3 H5 n5 e5 c5
  have hp5 := e5 _ _ hp
  have np : p ≠ s3 := ne_of_none hp n5
  walk_at "go"
  intro o H6 r2 r3 b6 c6
  have hp6 := b6.at np hp5
  walk_at "go"
  intro L hL
  obtain ⟨w, rfl⟩ := Int.eq_ofNat_of_zero_le (show 0 ≤ w by omega)
  obtain ⟨o, rfl⟩ := Int.eq_ofNat_of_zero_le (show 0 ≤ o by omega)
  have hp7 := keep (o' := .lst [.int (w : Int), .int (o : Int), .int ((w : Int) + 1)]) hp6 hL
  have hL7 : (upd H6 L (.lst [.int (w : Int), .int (o : Int), .int ((w : Int) + 1)])) L = some (.lst [.int (w : Int), .int (o : Int), .int ((w : Int) + 1)]) := upd_same
  generalize upd H6 L (.lst [.int (w : Int), .int (o : Int), .int ((w : Int) + 1)]) = H7 at hp7 hL7
  walk_at "go"
  refine forL (xs := [.int (w : Int), .int (o : Int), .int ((w : Int) + 1)]) (fun i σ H' => ∃ k4 : Option V, σ = [some (.ref a), some (.int (w : Int)), some (.ref p), some (.int (o : Int)), k4] ∧ Same H7 H') ?_ ?_ ?_ ?_
  · exact ⟨none, rfl, Same.refl _⟩
  · rintro i σ H' hi ⟨k4, rfl, e⟩
    exact .inl (.inl (e _ _ hL7))
  · rintro i x σ H' hx ⟨k4, rfl, e⟩
    obtain ⟨m, rfl, m0, m1⟩ : ∃ m : Nat, x = V.int (m : Int) ∧ 1 ≤ m ∧ m ≤ 100 := by
      rcases List.mem_of_getElem? hx with _ | ⟨_, _ | ⟨_, _ | ⟨_, h⟩⟩⟩
      · exact ⟨w, rfl, by omega, by omega⟩
      · exact ⟨o, rfl, by omega, by omega⟩
      · exact ⟨w + 1, by simp, by omega, by omega⟩
      · cases h
    have hp8 := e _ _ hp7
    walk_at "go"
    intro H8 e8
    walk_at "go"
    refine w_iteF ?_
    walk_at "go"
    intro E2 hE
    have hE2 : (upd H8 E2 (.lst [])) E2 = some (.lst (([] : List Int).map V.int)) := upd_same
    have hcn : Chn [] := fun _ h => by cases h
    have e9 := (e.trans e8).trans (same_new (o := .lst []) hE)
    generalize upd H8 E2 (.lst []) = H9 at hE2 e9
    walk_at "go"
    intro H10 e10
    walk_at "go"
    refine w_iteF ?_
    walk_at "go"
    exact ⟨_, rfl, e9.trans e10⟩
  · rintro σ H' ⟨k4, rfl, e⟩
    walk_at "go"
    exact q _
end G

namespace G
open PySem L2
def topS (i : Nat) : Stmt := PySem.Challenge.pw_onecopy_k25_whole_heights.main.body.getD i (.Pass ⟨0, 0, 0, 0⟩)
structure Txt (mg : Str → Option Value) : Prop where
  b_abs : mg "abs" = none
  b_all : mg "all" = none
  b_any : mg "any" = none
  b_bool : mg "bool" = none
  b_enumerate : mg "enumerate" = none
  b_int : mg "int" = none
  b_isinstance : mg "isinstance" = none
  b_len : mg "len" = none
  b_list : mg "list" = none
  b_min : mg "min" = none
  b_range : mg "range" = none
variable {P : Program} {w : World} {K : PySem.W.Frag} {mg : Str → Option Value} {base : Heap} {A : CA}
abbrev s_height_over : Stmt := topS 1
theorem sc_height_over : FnScope ["below", "blank", "copies"] ["below", "blank", "copies"] (defScope s_height_over) := ⟨rfl, rfl, rfl, by decide +kernel, rfl, by decide +kernel, by decide +kernel⟩
theorem ln_height_over {vs : List V} {H : Hp} {Q : VK} {E : XK} (h : sp_height_over K A vs H Q E) : vs.length = 3 := by
  first | (obtain ⟨_, rfl, _⟩ := h; rfl) | (obtain ⟨_, _, rfl, _⟩ := h; rfl) | (obtain ⟨_, _, _, rfl, _⟩ := h; rfl) | (obtain ⟨_, _, _, _, rfl, _⟩ := h; rfl) | (obtain ⟨_, _, _, _, _, rfl, _⟩ := h; rfl) | (obtain ⟨_, _, _, _, _, _, rfl, _⟩ := h; rfl) | (obtain ⟨_, _, _, _, _, _, _, rfl, _⟩ := h; rfl) | (obtain ⟨_, _, _, _, _, _, _, _, rfl, _⟩ := h; rfl) | (obtain ⟨_, _, _, _, _, _, _, _, _, rfl, _⟩ := h; rfl) | (obtain ⟨_, _, _, _, _, _, _, _, _, _, rfl, _⟩ := h; rfl) | (obtain ⟨_, _, _, _, _, _, _, _, _, _, _, rfl, _⟩ := h; rfl) | (obtain ⟨_, _, _, _, _, _, _, _, _, _, _, _, rfl, _⟩ := h; rfl) | (obtain ⟨_, _, _, _, _, _, _, _, _, _, _, _, _, rfl, _⟩ := h; rfl) | (obtain ⟨_, _, _, _, _, _, _, _, _, _, _, _, _, _, rfl, _⟩ := h; rfl) | (obtain ⟨_, _, _, _, _, _, _, _, _, _, _, _, _, _, _, rfl, _⟩ := h; rfl)
theorem fn_height_over {f : Addr} {fd : FuncData} (F : Fun K "height_over" "height_over" s_height_over f fd) (T : Txt mg) (C : CT K A)  : FnOk P w K mg base CX0 1 f fd ["below", "blank", "copies"] (sp_height_over K A) :=
  F.ok sc_height_over (fun vs H Q E h => ln_height_over h) (fun cdv Ar outer s H vs Q E hr h => ⟨t_height_over K A, (pss_cons (ps_if (pt_cmpR op_eq (pv 1) pe_int (nomark _)) (pss_one (ps_ret (pe_op op_add (pv 0) pe_int))) pss_nil)
  (pss_one (ps_ret (pe_ifExp (PW.pt (pw_and (pt_cmpR op_eq (pv 1) pe_int (nomark _)) (pw_and1 (pt_cmpR op_ge (pv 0) (pv 2) (nomark _))))) pe_int pe_int)))), rd_height_over h⟩)
theorem bi_height_over {f : Addr} {fd : FuncData} (F : Fun K "height_over" "height_over" s_height_over f fd) : Binds K fd ["below", "blank", "copies"] [] := F.binds fun _ _ _ _ _ _ us hl => match us, hl with | [_, _, _], _ => rfl
abbrev s_heights : Stmt := topS 3
theorem sc_heights : FnScope ["blank", "copies", "found", "height", "number"] ["blank", "copies"] (defScope s_heights) := ⟨rfl, rfl, rfl, by decide +kernel, rfl, by decide +kernel, by decide +kernel⟩
theorem ln_heights {vs : List V} {H : Hp} {Q : VK} {E : XK} (h : sp_heights K A vs H Q E) : vs.length = 2 := by
  first | (obtain ⟨_, rfl, _⟩ := h; rfl) | (obtain ⟨_, _, rfl, _⟩ := h; rfl) | (obtain ⟨_, _, _, rfl, _⟩ := h; rfl) | (obtain ⟨_, _, _, _, rfl, _⟩ := h; rfl) | (obtain ⟨_, _, _, _, _, rfl, _⟩ := h; rfl) | (obtain ⟨_, _, _, _, _, _, rfl, _⟩ := h; rfl) | (obtain ⟨_, _, _, _, _, _, _, rfl, _⟩ := h; rfl) | (obtain ⟨_, _, _, _, _, _, _, _, rfl, _⟩ := h; rfl) | (obtain ⟨_, _, _, _, _, _, _, _, _, rfl, _⟩ := h; rfl) | (obtain ⟨_, _, _, _, _, _, _, _, _, _, rfl, _⟩ := h; rfl) | (obtain ⟨_, _, _, _, _, _, _, _, _, _, _, rfl, _⟩ := h; rfl) | (obtain ⟨_, _, _, _, _, _, _, _, _, _, _, _, rfl, _⟩ := h; rfl) | (obtain ⟨_, _, _, _, _, _, _, _, _, _, _, _, _, rfl, _⟩ := h; rfl) | (obtain ⟨_, _, _, _, _, _, _, _, _, _, _, _, _, _, rfl, _⟩ := h; rfl) | (obtain ⟨_, _, _, _, _, _, _, _, _, _, _, _, _, _, _, rfl, _⟩ := h; rfl)
theorem fn_heights {f : Addr} {fd : FuncData} (F : Fun K "heights" "heights" s_heights f fd) (T : Txt mg) (C : CT K A) (C_height_over : C8.Cal P w K mg base 1 "height_over" (sp_height_over K A) []) : FnOk P w K mg base CX0 2 f fd ["blank", "copies"] (sp_heights K A) :=
  F.ok sc_heights (fun vs H Q E h => ln_heights h) (fun cdv Ar outer s H vs Q E hr h => ⟨t_heights K A, (pss_cons (ps_set (i := 2) sc_heights.nd rfl (by first | exact Or.inl rfl | exact Or.inr rfl) (pe_lst pa_nil))
  (pss_cons (ps_set (i := 3) sc_heights.nd rfl (by first | exact Or.inl rfl | exact Or.inr rfl) pe_int)
  (pss_cons (ps_for PassesOwn.never rfl (pi_list (pe_revL (pv 0))) (pg_name (i := 4) sc_heights.nd rfl (by first | exact Or.inl rfl | exact Or.inr rfl))
  (pss_cons (ps_set (i := 3) sc_heights.nd rfl (by first | exact Or.inl rfl | exact Or.inr rfl) (C8.pe_c C_height_over hr (by decide) (by rfl) (pa_cons (pv 3) (pa_cons (pv 4) (pa_cons (pv 1) pa_nil)))))
  (pss_one (ps_expr (pe_bm PySem.F.plainAttrs_list PySem.F.slot_list_append PySem.F.type_list_append mt_append (pv 2) (pa_cons (pv 3) pa_nil))))))
  (pss_one (ps_ret (pe_revL (pv 2))))))), rd_heights h⟩)
theorem bi_heights {f : Addr} {fd : FuncData} (F : Fun K "heights" "heights" s_heights f fd) : Binds K fd ["blank", "copies"] [] := F.binds fun _ _ _ _ _ _ us hl => match us, hl with | [_, _], _ => rfl
abbrev s_lowest_too_high : Stmt := topS 4
theorem sc_lowest_too_high : FnScope ["blank", "copies", "too_high", "page", "height"] ["blank", "copies"] (defScope s_lowest_too_high) := ⟨rfl, rfl, rfl, by decide +kernel, rfl, by decide +kernel, by decide +kernel⟩
theorem ln_lowest_too_high {vs : List V} {H : Hp} {Q : VK} {E : XK} (h : sp_lowest_too_high K A vs H Q E) : vs.length = 2 := by
  first | (obtain ⟨_, rfl, _⟩ := h; rfl) | (obtain ⟨_, _, rfl, _⟩ := h; rfl) | (obtain ⟨_, _, _, rfl, _⟩ := h; rfl) | (obtain ⟨_, _, _, _, rfl, _⟩ := h; rfl) | (obtain ⟨_, _, _, _, _, rfl, _⟩ := h; rfl) | (obtain ⟨_, _, _, _, _, _, rfl, _⟩ := h; rfl) | (obtain ⟨_, _, _, _, _, _, _, rfl, _⟩ := h; rfl) | (obtain ⟨_, _, _, _, _, _, _, _, rfl, _⟩ := h; rfl) | (obtain ⟨_, _, _, _, _, _, _, _, _, rfl, _⟩ := h; rfl) | (obtain ⟨_, _, _, _, _, _, _, _, _, _, rfl, _⟩ := h; rfl) | (obtain ⟨_, _, _, _, _, _, _, _, _, _, _, rfl, _⟩ := h; rfl) | (obtain ⟨_, _, _, _, _, _, _, _, _, _, _, _, rfl, _⟩ := h; rfl) | (obtain ⟨_, _, _, _, _, _, _, _, _, _, _, _, _, rfl, _⟩ := h; rfl) | (obtain ⟨_, _, _, _, _, _, _, _, _, _, _, _, _, _, rfl, _⟩ := h; rfl) | (obtain ⟨_, _, _, _, _, _, _, _, _, _, _, _, _, _, _, rfl, _⟩ := h; rfl)
theorem fn_lowest_too_high {f : Addr} {fd : FuncData} (F : Fun K "_lowest_too_high" "_lowest_too_high" s_lowest_too_high f fd) (T : Txt mg) (C : CT K A) (C_heights : C8.Cal P w K mg base 2 "heights" (sp_heights K A) []) : FnOk P w K mg base CX0 3 f fd ["blank", "copies"] (sp_lowest_too_high K A) :=
  F.ok sc_lowest_too_high (fun vs H Q E h => ln_lowest_too_high h) (fun cdv Ar outer s H vs Q E hr h => ⟨t_lowest_too_high K A, (pss_cons (ps_setLc (i := 2) (own := [("page", 3), ("height", 4)]) (g := (gTup K 2 (gCons (gName 3) (gCons (gName 4) gNil)))) (tt := (tTest (tOp oGt (tVar 4) (tVar 1)))) rfl sc_lowest_too_high.nd rfl rfl (sw_true rfl rfl rfl (by decide +kernel)) (pi_enum (by rfl) T.b_enumerate (pa_cons (C8.pe_c C_heights hr (by decide) (by rfl) (pa_cons (pv 0) (pa_cons (pv 1) pa_nil))) pa_nil)) (blkOk_by (own := [("page", 3), ("height", 4)]) (N := ["blank", "copies", "too_high", "page", "height"]) (sc := defScope s_lowest_too_high) (by decide +kernel)) (fun _ _ _ _ _ => (pg_tup rfl (pgs_cons (pg_name (i := 3) sc_lowest_too_high.nd rfl (by first | exact Or.inl rfl | exact Or.inr rfl)) (pgs_cons (pg_name (i := 4) sc_lowest_too_high.nd rfl (by first | exact Or.inl rfl | exact Or.inr rfl)) pgs_nil)))) (fun _ _ _ _ _ => (pts_one (pt_cmpR op_gt (pv 4) (pv 1) (nomark _)))) (fun _ _ _ _ _ => (pv 3)))
  (pss_one (ps_ret (pe_ifExp (pt_truth (pv 2) (by intro _; rfl)) (pe_ix ix_list (pv 2) (pe_un un_neg pe_int) (fun _ _ => rfl)) pe_non)))), rd_lowest_too_high h⟩)
theorem bi_lowest_too_high {f : Addr} {fd : FuncData} (F : Fun K "_lowest_too_high" "_lowest_too_high" s_lowest_too_high f fd) : Binds K fd ["blank", "copies"] [] := F.binds fun _ _ _ _ _ _ us hl => match us, hl with | [_, _], _ => rfl
abbrev s_is_keepable_chain : Stmt := topS 5
theorem sc_is_keepable_chain : FnScope ["blank", "copies"] ["blank", "copies"] (defScope s_is_keepable_chain) := ⟨rfl, rfl, rfl, by decide +kernel, rfl, by decide +kernel, by decide +kernel⟩
theorem ln_is_keepable_chain {vs : List V} {H : Hp} {Q : VK} {E : XK} (h : sp_is_keepable_chain K A vs H Q E) : vs.length = 2 := by
  first | (obtain ⟨_, rfl, _⟩ := h; rfl) | (obtain ⟨_, _, rfl, _⟩ := h; rfl) | (obtain ⟨_, _, _, rfl, _⟩ := h; rfl) | (obtain ⟨_, _, _, _, rfl, _⟩ := h; rfl) | (obtain ⟨_, _, _, _, _, rfl, _⟩ := h; rfl) | (obtain ⟨_, _, _, _, _, _, rfl, _⟩ := h; rfl) | (obtain ⟨_, _, _, _, _, _, _, rfl, _⟩ := h; rfl) | (obtain ⟨_, _, _, _, _, _, _, _, rfl, _⟩ := h; rfl) | (obtain ⟨_, _, _, _, _, _, _, _, _, rfl, _⟩ := h; rfl) | (obtain ⟨_, _, _, _, _, _, _, _, _, _, rfl, _⟩ := h; rfl) | (obtain ⟨_, _, _, _, _, _, _, _, _, _, _, rfl, _⟩ := h; rfl) | (obtain ⟨_, _, _, _, _, _, _, _, _, _, _, _, rfl, _⟩ := h; rfl) | (obtain ⟨_, _, _, _, _, _, _, _, _, _, _, _, _, rfl, _⟩ := h; rfl) | (obtain ⟨_, _, _, _, _, _, _, _, _, _, _, _, _, _, rfl, _⟩ := h; rfl) | (obtain ⟨_, _, _, _, _, _, _, _, _, _, _, _, _, _, _, rfl, _⟩ := h; rfl)
theorem fn_is_keepable_chain {f : Addr} {fd : FuncData} (F : Fun K "is_keepable_chain" "is_keepable_chain" s_is_keepable_chain f fd) (T : Txt mg) (C : CT K A) (C_lowest_too_high : C8.Cal P w K mg base 3 "_lowest_too_high" (sp_lowest_too_high K A) []) : FnOk P w K mg base CX0 4 f fd ["blank", "copies"] (sp_is_keepable_chain K A) :=
  F.ok sc_is_keepable_chain (fun vs H Q E h => ln_is_keepable_chain h) (fun cdv Ar outer s H vs Q E hr h => ⟨t_is_keepable_chain K A, (pss_one (ps_ret (pe_cmp (pc_isN (C8.pe_c C_lowest_too_high hr (by decide) (by rfl) (pa_cons (pv 0) (pa_cons (pv 1) pa_nil))))))), rd_is_keepable_chain h⟩)
theorem bi_is_keepable_chain {f : Addr} {fd : FuncData} (F : Fun K "is_keepable_chain" "is_keepable_chain" s_is_keepable_chain f fd) : Binds K fd ["blank", "copies"] [] := F.binds fun _ _ _ _ _ _ us hl => match us, hl with | [_, _], _ => rfl
abbrev s_law_is_integer : Stmt := topS 7
theorem sc_law_is_integer : FnScope ["actual"] ["actual"] (defScope s_law_is_integer) := ⟨rfl, rfl, rfl, by decide +kernel, rfl, by decide +kernel, by decide +kernel⟩
theorem ln_law_is_integer {vs : List V} {H : Hp} {Q : VK} {E : XK} (h : sp_law_is_integer K A vs H Q E) : vs.length = 1 := by
  first | (obtain ⟨_, rfl, _⟩ := h; rfl) | (obtain ⟨_, _, rfl, _⟩ := h; rfl) | (obtain ⟨_, _, _, rfl, _⟩ := h; rfl) | (obtain ⟨_, _, _, _, rfl, _⟩ := h; rfl) | (obtain ⟨_, _, _, _, _, rfl, _⟩ := h; rfl) | (obtain ⟨_, _, _, _, _, _, rfl, _⟩ := h; rfl) | (obtain ⟨_, _, _, _, _, _, _, rfl, _⟩ := h; rfl) | (obtain ⟨_, _, _, _, _, _, _, _, rfl, _⟩ := h; rfl) | (obtain ⟨_, _, _, _, _, _, _, _, _, rfl, _⟩ := h; rfl) | (obtain ⟨_, _, _, _, _, _, _, _, _, _, rfl, _⟩ := h; rfl) | (obtain ⟨_, _, _, _, _, _, _, _, _, _, _, rfl, _⟩ := h; rfl) | (obtain ⟨_, _, _, _, _, _, _, _, _, _, _, _, rfl, _⟩ := h; rfl) | (obtain ⟨_, _, _, _, _, _, _, _, _, _, _, _, _, rfl, _⟩ := h; rfl) | (obtain ⟨_, _, _, _, _, _, _, _, _, _, _, _, _, _, rfl, _⟩ := h; rfl) | (obtain ⟨_, _, _, _, _, _, _, _, _, _, _, _, _, _, _, rfl, _⟩ := h; rfl)
theorem fn_law_is_integer {f : Addr} {fd : FuncData} (F : Fun K "_law_is_integer" "_law_is_integer" s_law_is_integer f fd) (T : Txt mg) (C : CT K A)  : FnOk P w K mg base CX0 1 f fd ["actual"] (sp_law_is_integer K A) :=
  F.ok sc_law_is_integer (fun vs H Q E h => ln_law_is_integer h) (fun cdv Ar outer s H vs Q E hr h => ⟨t_law_is_integer K A, (pss_one (ps_ret (pe_and (pe_callB call_isi (by rfl) T.b_isinstance (by decide +kernel) (pa_cons (pv 0) (pa_cons (pe_bltn (v := .ty "int") (by rfl) T.b_int (by decide +kernel) rfl) pa_nil))) (pe_one (pe_not (pe_callB call_isi (by rfl) T.b_isinstance (by decide +kernel) (pa_cons (pv 0) (pa_cons (pe_bltn (v := .ty "bool") (by rfl) T.b_bool (by decide +kernel) rfl) pa_nil)))))))), rd_law_is_integer h⟩)
theorem bi_law_is_integer {f : Addr} {fd : FuncData} (F : Fun K "_law_is_integer" "_law_is_integer" s_law_is_integer f fd) : Binds K fd ["actual"] [] := F.binds fun _ _ _ _ _ _ us hl => match us, hl with | [_], _ => rfl
abbrev s_law_bag : Stmt := topS 8
theorem sc_law_bag : FnScope ["script", "k", "cell"] ["script", "k"] (defScope s_law_bag) := ⟨rfl, rfl, rfl, by decide +kernel, rfl, by decide +kernel, by decide +kernel⟩
theorem ln_law_bag {vs : List V} {H : Hp} {Q : VK} {E : XK} (h : sp_law_bag K A vs H Q E) : vs.length = 2 := by
  first | (obtain ⟨_, rfl, _⟩ := h; rfl) | (obtain ⟨_, _, rfl, _⟩ := h; rfl) | (obtain ⟨_, _, _, rfl, _⟩ := h; rfl) | (obtain ⟨_, _, _, _, rfl, _⟩ := h; rfl) | (obtain ⟨_, _, _, _, _, rfl, _⟩ := h; rfl) | (obtain ⟨_, _, _, _, _, _, rfl, _⟩ := h; rfl) | (obtain ⟨_, _, _, _, _, _, _, rfl, _⟩ := h; rfl) | (obtain ⟨_, _, _, _, _, _, _, _, rfl, _⟩ := h; rfl) | (obtain ⟨_, _, _, _, _, _, _, _, _, rfl, _⟩ := h; rfl) | (obtain ⟨_, _, _, _, _, _, _, _, _, _, rfl, _⟩ := h; rfl) | (obtain ⟨_, _, _, _, _, _, _, _, _, _, _, rfl, _⟩ := h; rfl) | (obtain ⟨_, _, _, _, _, _, _, _, _, _, _, _, rfl, _⟩ := h; rfl) | (obtain ⟨_, _, _, _, _, _, _, _, _, _, _, _, _, rfl, _⟩ := h; rfl) | (obtain ⟨_, _, _, _, _, _, _, _, _, _, _, _, _, _, rfl, _⟩ := h; rfl) | (obtain ⟨_, _, _, _, _, _, _, _, _, _, _, _, _, _, _, rfl, _⟩ := h; rfl)
theorem fn_law_bag {f : Addr} {fd : FuncData} (F : Fun K "_law_bag" "_law_bag" s_law_bag f fd) (T : Txt mg) (C : CT K A)  : FnOk P w K mg base CX0 1 f fd ["script", "k"] (sp_law_bag K A) :=
  F.ok sc_law_bag (fun vs H Q E h => ln_law_bag h) (fun cdv Ar outer s H vs Q E hr h => ⟨t_law_bag K A, (pss_cons (ps_set (i := 2) sc_law_bag.nd rfl (by first | exact Or.inl rfl | exact Or.inr rfl) (pe_op op_add pe_int (pe_op op_mul pe_int (pv 1))))
  (pss_cons (ps_if (pt_cmpR op_lt (pv 1) (pe_callB call_len_seq (by rfl) T.b_len (by decide +kernel) (pa_cons (pv 0) pa_nil)) (nomark _)) (pss_one (ps_set (i := 2) sc_law_bag.nd rfl (by first | exact Or.inl rfl | exact Or.inr rfl) (pe_ix ix_list (pv 0) (pv 1) (fun _ _ => rfl)))) (pss_one (ps_if (pt_truth (pv 0) (by intro _; rfl)) (pss_one (ps_set (i := 2) sc_law_bag.nd rfl (by first | exact Or.inl rfl | exact Or.inr rfl) (pe_op op_add (pv 2) (pe_op op_mod (pe_callTy call_int1 (by rfl) T.b_int (by decide +kernel) (pa_cons (pe_op op_mul (pe_ix ix_list (pv 0) pe_int (fun _ _ => rfl)) pe_int) pa_nil)) pe_int)))) pss_nil)))
  (pss_cons (ps_if (pt_cmpR op_ge (pe_callB call_abs (by rfl) T.b_abs (by decide +kernel) (pa_cons (pv 2) pa_nil)) (pe_op op_pow pe_int pe_int) (nomark _)) (pss_one (ps_ret (pe_lst (pa_cons (pe_callB call_abs (by rfl) T.b_abs (by decide +kernel) (pa_cons (pv 2) pa_nil)) (pa_cons (pv 2) (pa_cons pe_int (pa_cons (pv 1) pa_nil))))))) pss_nil)
  (pss_one (ps_ret (pe_lst (pa_cons pe_int (pa_cons (pv 2) (pa_cons pe_int (pa_cons (pv 1) pa_nil)))))))))), rd_law_bag h⟩)
theorem bi_law_bag {f : Addr} {fd : FuncData} (F : Fun K "_law_bag" "_law_bag" s_law_bag f fd) : Binds K fd ["script", "k"] [] := F.binds fun _ _ _ _ _ _ us hl => match us, hl with | [_, _], _ => rfl
abbrev s_law_take : Stmt := topS 9
theorem sc_law_take : FnScope ["bag", "size", "digit", "first", "second", "third"] ["bag", "size"] (defScope s_law_take) := ⟨rfl, rfl, rfl, by decide +kernel, rfl, by decide +kernel, by decide +kernel⟩
theorem ln_law_take {vs : List V} {H : Hp} {Q : VK} {E : XK} (h : sp_law_take K A vs H Q E) : vs.length = 2 := by
  first | (obtain ⟨_, rfl, _⟩ := h; rfl) | (obtain ⟨_, _, rfl, _⟩ := h; rfl) | (obtain ⟨_, _, _, rfl, _⟩ := h; rfl) | (obtain ⟨_, _, _, _, rfl, _⟩ := h; rfl) | (obtain ⟨_, _, _, _, _, rfl, _⟩ := h; rfl) | (obtain ⟨_, _, _, _, _, _, rfl, _⟩ := h; rfl) | (obtain ⟨_, _, _, _, _, _, _, rfl, _⟩ := h; rfl) | (obtain ⟨_, _, _, _, _, _, _, _, rfl, _⟩ := h; rfl) | (obtain ⟨_, _, _, _, _, _, _, _, _, rfl, _⟩ := h; rfl) | (obtain ⟨_, _, _, _, _, _, _, _, _, _, rfl, _⟩ := h; rfl) | (obtain ⟨_, _, _, _, _, _, _, _, _, _, _, rfl, _⟩ := h; rfl) | (obtain ⟨_, _, _, _, _, _, _, _, _, _, _, _, rfl, _⟩ := h; rfl) | (obtain ⟨_, _, _, _, _, _, _, _, _, _, _, _, _, rfl, _⟩ := h; rfl) | (obtain ⟨_, _, _, _, _, _, _, _, _, _, _, _, _, _, rfl, _⟩ := h; rfl) | (obtain ⟨_, _, _, _, _, _, _, _, _, _, _, _, _, _, _, rfl, _⟩ := h; rfl)
theorem fn_law_take {f : Addr} {fd : FuncData} (F : Fun K "_law_take" "_law_take" s_law_take f fd) (T : Txt mg) (C : CT K A)  : FnOk P w K mg base CX0 1 f fd ["bag", "size"] (sp_law_take K A) :=
  F.ok sc_law_take (fun vs H Q E h => ln_law_take h) (fun cdv Ar outer s H vs Q E hr h => ⟨t_law_take K A, (pss_cons (ps_asg (pe_op op_add (pe_ix ix_list (pv 0) pe_int (fun _ _ => rfl)) pe_int) (pg_sub (pv 0) pe_int set_list))
  (pss_cons (ps_if (pt_cmpR op_gt (pe_ix ix_list (pv 0) pe_int (fun _ _ => rfl)) pe_int (nomark _)) (pss_cons (ps_set (i := 2) sc_law_take.nd rfl (by first | exact Or.inl rfl | exact Or.inr rfl) (pe_op op_mod (pe_callTy call_int1 (by rfl) T.b_int (by decide +kernel) (pa_cons (pe_ix ix_list (pv 0) pe_int (fun _ _ => rfl)) pa_nil)) (pv 1)))
  (pss_cons (ps_asg (pe_op op_fdiv (pe_ix ix_list (pv 0) pe_int (fun _ _ => rfl)) (pv 1)) (pg_sub (pv 0) pe_int set_list))
  (pss_one (ps_ret (pv 2))))) pss_nil)
  (pss_cons (ps_set (i := 3) sc_law_take.nd rfl (by first | exact Or.inl rfl | exact Or.inr rfl) (pe_op op_mod (pe_callTy call_int1 (by rfl) T.b_int (by decide +kernel) (pa_cons (pe_op op_add (pe_op op_add (pe_op op_add (pe_op op_mul (pe_ix ix_list (pv 0) pe_int (fun _ _ => rfl)) pe_int) (pe_op op_mul (pe_ix ix_list (pv 0) pe_int (fun _ _ => rfl)) pe_int)) (pe_op op_mul (pe_ix ix_list (pv 0) pe_int (fun _ _ => rfl)) pe_int)) pe_int) pa_nil)) pe_int))
  (pss_cons (ps_set (i := 4) sc_law_take.nd rfl (by first | exact Or.inl rfl | exact Or.inr rfl) (pe_op op_mod (pe_callTy call_int1 (by rfl) T.b_int (by decide +kernel) (pa_cons (pe_op op_add (pe_op op_add (pe_op op_mul (pv 3) (pv 3)) (pe_op op_mul (pe_ix ix_list (pv 0) pe_int (fun _ _ => rfl)) pe_int)) (pe_ix ix_list (pv 0) pe_int (fun _ _ => rfl))) pa_nil)) pe_int))
  (pss_cons (ps_set (i := 5) sc_law_take.nd rfl (by first | exact Or.inl rfl | exact Or.inr rfl) (pe_op op_mod (pe_callTy call_int1 (by rfl) T.b_int (by decide +kernel) (pa_cons (pe_op op_add (pe_op op_mul (pv 4) (pv 4)) (pv 3)) pa_nil)) pe_int))
  (pss_one (ps_ret (pe_op op_mod (pe_op op_fdiv (pv 5) pe_int) (pv 1))))))))), rd_law_take h⟩)
theorem bi_law_take {f : Addr} {fd : FuncData} (F : Fun K "_law_take" "_law_take" s_law_take f fd) : Binds K fd ["bag", "size"] [] := F.binds fun _ _ _ _ _ _ us hl => match us, hl with | [_, _], _ => rfl
abbrev s_law_copies : Stmt := topS 10
theorem sc_law_copies : FnScope ["bag"] ["bag"] (defScope s_law_copies) := ⟨rfl, rfl, rfl, by decide +kernel, rfl, by decide +kernel, by decide +kernel⟩
theorem ln_law_copies {vs : List V} {H : Hp} {Q : VK} {E : XK} (h : sp_law_copies K A vs H Q E) : vs.length = 1 := by
  first | (obtain ⟨_, rfl, _⟩ := h; rfl) | (obtain ⟨_, _, rfl, _⟩ := h; rfl) | (obtain ⟨_, _, _, rfl, _⟩ := h; rfl) | (obtain ⟨_, _, _, _, rfl, _⟩ := h; rfl) | (obtain ⟨_, _, _, _, _, rfl, _⟩ := h; rfl) | (obtain ⟨_, _, _, _, _, _, rfl, _⟩ := h; rfl) | (obtain ⟨_, _, _, _, _, _, _, rfl, _⟩ := h; rfl) | (obtain ⟨_, _, _, _, _, _, _, _, rfl, _⟩ := h; rfl) | (obtain ⟨_, _, _, _, _, _, _, _, _, rfl, _⟩ := h; rfl) | (obtain ⟨_, _, _, _, _, _, _, _, _, _, rfl, _⟩ := h; rfl) | (obtain ⟨_, _, _, _, _, _, _, _, _, _, _, rfl, _⟩ := h; rfl) | (obtain ⟨_, _, _, _, _, _, _, _, _, _, _, _, rfl, _⟩ := h; rfl) | (obtain ⟨_, _, _, _, _, _, _, _, _, _, _, _, _, rfl, _⟩ := h; rfl) | (obtain ⟨_, _, _, _, _, _, _, _, _, _, _, _, _, _, rfl, _⟩ := h; rfl) | (obtain ⟨_, _, _, _, _, _, _, _, _, _, _, _, _, _, _, rfl, _⟩ := h; rfl)
theorem fn_law_copies {f : Addr} {fd : FuncData} (F : Fun K "_law_copies" "_law_copies" s_law_copies f fd) (T : Txt mg) (C : CT K A) (C_law_take : C8.Cal P w K mg base 1 "_law_take" (sp_law_take K A) []) : FnOk P w K mg base CX0 2 f fd ["bag"] (sp_law_copies K A) :=
  F.ok sc_law_copies (fun vs H Q E h => ln_law_copies h) (fun cdv Ar outer s H vs Q E hr h => ⟨t_law_copies K A, (pss_cons (ps_if (pt_cmpR op_eq (C8.pe_c C_law_take hr (by decide) (by rfl) (pa_cons (pv 0) (pa_cons pe_int pa_nil))) pe_int (nomark _)) (pss_one (ps_ret (pe_op op_add pe_int (C8.pe_c C_law_take hr (by decide) (by rfl) (pa_cons (pv 0) (pa_cons pe_int pa_nil)))))) pss_nil)
  (pss_one (ps_ret (pe_op op_add pe_int (C8.pe_c C_law_take hr (by decide) (by rfl) (pa_cons (pv 0) (pa_cons pe_int pa_nil))))))), rd_law_copies h⟩)
theorem bi_law_copies {f : Addr} {fd : FuncData} (F : Fun K "_law_copies" "_law_copies" s_law_copies f fd) : Binds K fd ["bag"] [] := F.binds fun _ _ _ _ _ _ us hl => match us, hl with | [_], _ => rfl
abbrev s_law_page : Stmt := topS 11
theorem sc_law_page : FnScope ["bag", "way"] ["bag"] (defScope s_law_page) := ⟨rfl, rfl, rfl, by decide +kernel, rfl, by decide +kernel, by decide +kernel⟩
theorem ln_law_page {vs : List V} {H : Hp} {Q : VK} {E : XK} (h : sp_law_page K A vs H Q E) : vs.length = 1 := by
  first | (obtain ⟨_, rfl, _⟩ := h; rfl) | (obtain ⟨_, _, rfl, _⟩ := h; rfl) | (obtain ⟨_, _, _, rfl, _⟩ := h; rfl) | (obtain ⟨_, _, _, _, rfl, _⟩ := h; rfl) | (obtain ⟨_, _, _, _, _, rfl, _⟩ := h; rfl) | (obtain ⟨_, _, _, _, _, _, rfl, _⟩ := h; rfl) | (obtain ⟨_, _, _, _, _, _, _, rfl, _⟩ := h; rfl) | (obtain ⟨_, _, _, _, _, _, _, _, rfl, _⟩ := h; rfl) | (obtain ⟨_, _, _, _, _, _, _, _, _, rfl, _⟩ := h; rfl) | (obtain ⟨_, _, _, _, _, _, _, _, _, _, rfl, _⟩ := h; rfl) | (obtain ⟨_, _, _, _, _, _, _, _, _, _, _, rfl, _⟩ := h; rfl) | (obtain ⟨_, _, _, _, _, _, _, _, _, _, _, _, rfl, _⟩ := h; rfl) | (obtain ⟨_, _, _, _, _, _, _, _, _, _, _, _, _, rfl, _⟩ := h; rfl) | (obtain ⟨_, _, _, _, _, _, _, _, _, _, _, _, _, _, rfl, _⟩ := h; rfl) | (obtain ⟨_, _, _, _, _, _, _, _, _, _, _, _, _, _, _, rfl, _⟩ := h; rfl)
theorem fn_law_page {f : Addr} {fd : FuncData} (F : Fun K "_law_page" "_law_page" s_law_page f fd) (T : Txt mg) (C : CT K A) (C_law_take : C8.Cal P w K mg base 1 "_law_take" (sp_law_take K A) []) : FnOk P w K mg base CX0 2 f fd ["bag"] (sp_law_page K A) :=
  F.ok sc_law_page (fun vs H Q E h => ln_law_page h) (fun cdv Ar outer s H vs Q E hr h => ⟨t_law_page K A, (pss_cons (ps_set (i := 1) sc_law_page.nd rfl (by first | exact Or.inl rfl | exact Or.inr rfl) (C8.pe_c C_law_take hr (by decide) (by rfl) (pa_cons (pv 0) (pa_cons pe_int pa_nil))))
  (pss_cons (ps_if (pt_cmpR op_lt (pv 1) pe_int (nomark _)) (pss_one (ps_ret pe_int)) pss_nil)
  (pss_cons (ps_if (pt_cmpR op_lt (pv 1) pe_int (nomark _)) (pss_one (ps_ret pe_int)) pss_nil)
  (pss_one (ps_ret (C8.pe_c C_law_take hr (by decide) (by rfl) (pa_cons (pv 0) (pa_cons pe_int pa_nil)))))))), rd_law_page h⟩)
theorem bi_law_page {f : Addr} {fd : FuncData} (F : Fun K "_law_page" "_law_page" s_law_page f fd) : Binds K fd ["bag"] [] := F.binds fun _ _ _ _ _ _ us hl => match us, hl with | [_], _ => rfl
abbrev s_law_pages : Stmt := topS 12
theorem sc_law_pages : FnScope ["bag", "size", "place"] ["bag", "size"] (defScope s_law_pages) := ⟨rfl, rfl, rfl, by decide +kernel, rfl, by decide +kernel, by decide +kernel⟩
theorem ln_law_pages {vs : List V} {H : Hp} {Q : VK} {E : XK} (h : sp_law_pages K A vs H Q E) : vs.length = 2 := by
  first | (obtain ⟨_, rfl, _⟩ := h; rfl) | (obtain ⟨_, _, rfl, _⟩ := h; rfl) | (obtain ⟨_, _, _, rfl, _⟩ := h; rfl) | (obtain ⟨_, _, _, _, rfl, _⟩ := h; rfl) | (obtain ⟨_, _, _, _, _, rfl, _⟩ := h; rfl) | (obtain ⟨_, _, _, _, _, _, rfl, _⟩ := h; rfl) | (obtain ⟨_, _, _, _, _, _, _, rfl, _⟩ := h; rfl) | (obtain ⟨_, _, _, _, _, _, _, _, rfl, _⟩ := h; rfl) | (obtain ⟨_, _, _, _, _, _, _, _, _, rfl, _⟩ := h; rfl) | (obtain ⟨_, _, _, _, _, _, _, _, _, _, rfl, _⟩ := h; rfl) | (obtain ⟨_, _, _, _, _, _, _, _, _, _, _, rfl, _⟩ := h; rfl) | (obtain ⟨_, _, _, _, _, _, _, _, _, _, _, _, rfl, _⟩ := h; rfl) | (obtain ⟨_, _, _, _, _, _, _, _, _, _, _, _, _, rfl, _⟩ := h; rfl) | (obtain ⟨_, _, _, _, _, _, _, _, _, _, _, _, _, _, rfl, _⟩ := h; rfl) | (obtain ⟨_, _, _, _, _, _, _, _, _, _, _, _, _, _, _, rfl, _⟩ := h; rfl)
theorem fn_law_pages {f : Addr} {fd : FuncData} (F : Fun K "_law_pages" "_law_pages" s_law_pages f fd) (T : Txt mg) (C : CT K A) (C_law_page : C8.Cal P w K mg base 2 "_law_page" (sp_law_page K A) []) : FnOk P w K mg base CX0 3 f fd ["bag", "size"] (sp_law_pages K A) :=
  F.ok sc_law_pages (fun vs H Q E h => ln_law_pages h) (fun cdv Ar outer s H vs Q E hr h => ⟨t_law_pages K A, (pss_one (ps_ret (pe_lc (own := [("place", 2)]) (g := (gName 2)) (tt := tYes) rfl sc_law_pages.nd (pi_range1 (by rfl) T.b_range (pa_cons (pv 1) pa_nil)) (blkOk_by (own := [("place", 2)]) (N := ["bag", "size", "place"]) (sc := defScope s_law_pages) (by decide +kernel)) (fun _ _ _ _ _ => (pg_name (i := 2) sc_law_pages.nd rfl (by first | exact Or.inl rfl | exact Or.inr rfl))) (fun _ _ _ _ _ => pts_nil) (fun _ _ _ _ _ => (C8.pe_c C_law_page hr (by decide) (by rfl) (pa_cons (pv 0) pa_nil)))))), rd_law_pages h⟩)
theorem bi_law_pages {f : Addr} {fd : FuncData} (F : Fun K "_law_pages" "_law_pages" s_law_pages f fd) : Binds K fd ["bag", "size"] [] := F.binds fun _ _ _ _ _ _ us hl => match us, hl with | [_, _], _ => rfl
abbrev s_law_chain : Stmt := topS 13
theorem sc_law_chain : FnScope ["bag", "copies", "way", "chain", "at", "groups", "middle", "count", "above", "below"] ["bag", "copies"] (defScope s_law_chain) := ⟨rfl, rfl, rfl, by decide +kernel, rfl, by decide +kernel, by decide +kernel⟩
theorem ln_law_chain {vs : List V} {H : Hp} {Q : VK} {E : XK} (h : sp_law_chain K A vs H Q E) : vs.length = 2 := by
  first | (obtain ⟨_, rfl, _⟩ := h; rfl) | (obtain ⟨_, _, rfl, _⟩ := h; rfl) | (obtain ⟨_, _, _, rfl, _⟩ := h; rfl) | (obtain ⟨_, _, _, _, rfl, _⟩ := h; rfl) | (obtain ⟨_, _, _, _, _, rfl, _⟩ := h; rfl) | (obtain ⟨_, _, _, _, _, _, rfl, _⟩ := h; rfl) | (obtain ⟨_, _, _, _, _, _, _, rfl, _⟩ := h; rfl) | (obtain ⟨_, _, _, _, _, _, _, _, rfl, _⟩ := h; rfl) | (obtain ⟨_, _, _, _, _, _, _, _, _, rfl, _⟩ := h; rfl) | (obtain ⟨_, _, _, _, _, _, _, _, _, _, rfl, _⟩ := h; rfl) | (obtain ⟨_, _, _, _, _, _, _, _, _, _, _, rfl, _⟩ := h; rfl) | (obtain ⟨_, _, _, _, _, _, _, _, _, _, _, _, rfl, _⟩ := h; rfl) | (obtain ⟨_, _, _, _, _, _, _, _, _, _, _, _, _, rfl, _⟩ := h; rfl) | (obtain ⟨_, _, _, _, _, _, _, _, _, _, _, _, _, _, rfl, _⟩ := h; rfl) | (obtain ⟨_, _, _, _, _, _, _, _, _, _, _, _, _, _, _, rfl, _⟩ := h; rfl)
theorem fn_law_chain {f : Addr} {fd : FuncData} (F : Fun K "_law_chain" "_law_chain" s_law_chain f fd) (T : Txt mg) (C : CT K A) (C_law_page : C8.Cal P w K mg base 2 "_law_page" (sp_law_page K A) []) (C_law_pages : C8.Cal P w K mg base 3 "_law_pages" (sp_law_pages K A) []) (C_law_take : C8.Cal P w K mg base 1 "_law_take" (sp_law_take K A) []) : FnOk P w K mg base CX0 4 f fd ["bag", "copies"] (sp_law_chain K A) :=
  F.ok sc_law_chain (fun vs H Q E h => ln_law_chain h) (fun cdv Ar outer s H vs Q E hr h => ⟨t_law_chain K A, (pss_cons (ps_set (i := 2) sc_law_chain.nd rfl (by first | exact Or.inl rfl | exact Or.inr rfl) (C8.pe_c C_law_take hr (by decide) (by rfl) (pa_cons (pv 0) (pa_cons pe_int pa_nil))))
  (pss_cons (ps_if (pt_cmpR op_eq (pv 2) pe_int (nomark _)) (pss_one (ps_ret (C8.pe_c C_law_pages hr (by decide) (by rfl) (pa_cons (pv 0) (pa_cons (pe_op op_add pe_int (C8.pe_c C_law_take hr (by decide) (by rfl) (pa_cons (pv 0) (pa_cons pe_int pa_nil)))) pa_nil))))) pss_nil)
  (pss_cons (ps_if (pt_cmpR op_eq (pv 2) pe_int (nomark _)) (pss_cons (ps_set (i := 3) sc_law_chain.nd rfl (by first | exact Or.inl rfl | exact Or.inr rfl) (pe_op op_rep (C8.pe_c C_law_pages hr (by decide) (by rfl) (pa_cons (pv 0) (pa_cons (pe_op op_add pe_int (C8.pe_c C_law_take hr (by decide) (by rfl) (pa_cons (pv 0) (pa_cons pe_int pa_nil)))) pa_nil))) (pe_op op_add pe_int (C8.pe_c C_law_take hr (by decide) (by rfl) (pa_cons (pv 0) (pa_cons pe_int pa_nil))))))
  (pss_cons (ps_set (i := 4) sc_law_chain.nd rfl (by first | exact Or.inl rfl | exact Or.inr rfl) (C8.pe_c C_law_take hr (by decide) (by rfl) (pa_cons (pv 0) (pa_cons (pe_callB call_len_seq (by rfl) T.b_len (by decide +kernel) (pa_cons (pv 3) pa_nil)) pa_nil))))
  (pss_cons (ps_asg (C8.pe_c C_law_page hr (by decide) (by rfl) (pa_cons (pv 0) pa_nil)) (pg_sub (pv 3) (pv 4) set_list))
  (pss_one (ps_ret (pv 3)))))) pss_nil)
  (pss_cons (ps_set (i := 5) sc_law_chain.nd rfl (by first | exact Or.inl rfl | exact Or.inr rfl) (C8.pe_c C_law_take hr (by decide) (by rfl) (pa_cons (pv 0) (pa_cons (pe_op op_add pe_int (pe_callB (call_min2 rfl) (by rfl) T.b_min (by decide +kernel) (pa_cons pe_int (pa_cons (pe_op op_fdiv (pe_op op_sub pe_int (pv 1)) (pv 1)) pa_nil)))) pa_nil))))
  (pss_cons (ps_set (i := 6) sc_law_chain.nd rfl (by first | exact Or.inl rfl | exact Or.inr rfl) (pe_op op_cat (pe_op op_cat (pe_op op_rep (pe_lst (pa_cons pe_int pa_nil)) (pv 1)) (pe_op op_rep (pe_op op_cat (pe_lst (pa_cons pe_int pa_nil)) (pe_op op_rep (pe_lst (pa_cons pe_int pa_nil)) (pe_op op_sub (pv 1) pe_int))) (pv 5))) (pe_lst (pa_cons pe_int pa_nil))))
  (C8.pss_cut (ps_if (pt_cmpR op_eq (pv 2) pe_int (nomark _)) (pss_cons (ps_set (i := 4) sc_law_chain.nd rfl (by first | exact Or.inl rfl | exact Or.inr rfl) (C8.pe_c C_law_take hr (by decide) (by rfl) (pa_cons (pv 0) (pa_cons (pe_callB call_len_seq (by rfl) T.b_len (by decide +kernel) (pa_cons (pv 6) pa_nil)) pa_nil))))
  (pss_cons (ps_set (i := 7) sc_law_chain.nd rfl (by first | exact Or.inl rfl | exact Or.inr rfl) (C8.pe_c C_law_take hr (by decide) (by rfl) (pa_cons (pv 0) (pa_cons pe_int pa_nil))))
  (pss_one (ps_if (pt_cmpR op_lt (pv 7) pe_int (nomark _)) (pss_one (ps_asg (pv 7) (pg_sub (pv 6) (pv 4) set_list))) (pss_one (ps_set (i := 6) sc_law_chain.nd rfl (by first | exact Or.inl rfl | exact Or.inr rfl) (pe_op op_cat (pe_slice sl_list (pv 6) po_none (po_some (pv 4))) (pe_slice sl_list (pv 6) (po_some (pe_op op_add (pv 4) pe_int)) po_none)))))))) pss_nil)
  (pss_cons (ps_set (i := 8) sc_law_chain.nd rfl (by first | exact Or.inl rfl | exact Or.inr rfl) (C8.pe_c C_law_pages hr (by decide) (by rfl) (pa_cons (pv 0) (pa_cons (C8.pe_c C_law_take hr (by decide) (by rfl) (pa_cons (pv 0) (pa_cons pe_int pa_nil))) pa_nil))))
  (pss_cons (ps_set (i := 9) sc_law_chain.nd rfl (by first | exact Or.inl rfl | exact Or.inr rfl) (C8.pe_c C_law_pages hr (by decide) (by rfl) (pa_cons (pv 0) (pa_cons (C8.pe_c C_law_take hr (by decide) (by rfl) (pa_cons (pv 0) (pa_cons pe_int pa_nil))) pa_nil))))
  (pss_one (ps_ret (pe_op op_cat (pe_op op_cat (pv 8) (pv 6)) (pv 9)))))))))))), rd_law_chain h⟩)
theorem bi_law_chain {f : Addr} {fd : FuncData} (F : Fun K "_law_chain" "_law_chain" s_law_chain f fd) : Binds K fd ["bag", "copies"] [] := F.binds fun _ _ _ _ _ _ us hl => match us, hl with | [_, _], _ => rfl
abbrev s_law_heights : Stmt := topS 14
theorem sc_law_heights : FnScope ["chain", "copies", "found", "below", "count"] ["chain", "copies"] (defScope s_law_heights) := ⟨rfl, rfl, rfl, by decide +kernel, rfl, by decide +kernel, by decide +kernel⟩
theorem ln_law_heights {vs : List V} {H : Hp} {Q : VK} {E : XK} (h : sp_law_heights K A vs H Q E) : vs.length = 2 := by
  first | (obtain ⟨_, rfl, _⟩ := h; rfl) | (obtain ⟨_, _, rfl, _⟩ := h; rfl) | (obtain ⟨_, _, _, rfl, _⟩ := h; rfl) | (obtain ⟨_, _, _, _, rfl, _⟩ := h; rfl) | (obtain ⟨_, _, _, _, _, rfl, _⟩ := h; rfl) | (obtain ⟨_, _, _, _, _, _, rfl, _⟩ := h; rfl) | (obtain ⟨_, _, _, _, _, _, _, rfl, _⟩ := h; rfl) | (obtain ⟨_, _, _, _, _, _, _, _, rfl, _⟩ := h; rfl) | (obtain ⟨_, _, _, _, _, _, _, _, _, rfl, _⟩ := h; rfl) | (obtain ⟨_, _, _, _, _, _, _, _, _, _, rfl, _⟩ := h; rfl) | (obtain ⟨_, _, _, _, _, _, _, _, _, _, _, rfl, _⟩ := h; rfl) | (obtain ⟨_, _, _, _, _, _, _, _, _, _, _, _, rfl, _⟩ := h; rfl) | (obtain ⟨_, _, _, _, _, _, _, _, _, _, _, _, _, rfl, _⟩ := h; rfl) | (obtain ⟨_, _, _, _, _, _, _, _, _, _, _, _, _, _, rfl, _⟩ := h; rfl) | (obtain ⟨_, _, _, _, _, _, _, _, _, _, _, _, _, _, _, rfl, _⟩ := h; rfl)
theorem fn_law_heights {f : Addr} {fd : FuncData} (F : Fun K "_law_heights" "_law_heights" s_law_heights f fd) (T : Txt mg) (C : CT K A)  : FnOk P w K mg base CX0 1 f fd ["chain", "copies"] (sp_law_heights K A) :=
  F.ok sc_law_heights (fun vs H Q E h => ln_law_heights h) (fun cdv Ar outer s H vs Q E hr h => ⟨t_law_heights K A, (pss_cons (ps_set (i := 2) sc_law_heights.nd rfl (by first | exact Or.inl rfl | exact Or.inr rfl) (pe_lst pa_nil))
  (pss_cons (ps_set (i := 3) sc_law_heights.nd rfl (by first | exact Or.inl rfl | exact Or.inr rfl) pe_int)
  (pss_cons (ps_for PassesOwn.never rfl (pi_list (pe_revL (pv 0))) (pg_name (i := 4) sc_law_heights.nd rfl (by first | exact Or.inl rfl | exact Or.inr rfl))
  (pss_cons (ps_if (pt_cmpR op_ge (pv 4) pe_int (nomark _)) (pss_one (ps_set (i := 3) sc_law_heights.nd rfl (by first | exact Or.inl rfl | exact Or.inr rfl) pe_int)) (pss_one (ps_if (pt_cmpR op_eq (pv 4) pe_int (nomark _)) (pss_one (ps_set (i := 3) sc_law_heights.nd rfl (by first | exact Or.inl rfl | exact Or.inr rfl) (pe_callTy call_int1 (by rfl) T.b_int (by decide +kernel) (pa_cons (pe_cmpR op_ge (pv 3) (pv 1) (nomark _)) pa_nil)))) (pss_one (ps_set (i := 3) sc_law_heights.nd rfl (by first | exact Or.inl rfl | exact Or.inr rfl) (pe_op op_add (pv 3) pe_int))))))
  (pss_one (ps_expr (pe_bm PySem.F.plainAttrs_list PySem.F.slot_list_append PySem.F.type_list_append mt_append (pv 2) (pa_cons (pv 3) pa_nil))))))
  (pss_one (ps_ret (pe_revL (pv 2))))))), rd_law_heights h⟩)
theorem bi_law_heights {f : Addr} {fd : FuncData} (F : Fun K "_law_heights" "_law_heights" s_law_heights f fd) : Binds K fd ["chain", "copies"] [] := F.binds fun _ _ _ _ _ _ us hl => match us, hl with | [_, _], _ => rfl
abbrev s_law_has_stretch : Stmt := topS 15
theorem sc_law_has_stretch : FnScope ["chain", "copies", "start", "at", "turn"] ["chain", "copies"] (defScope s_law_has_stretch) := ⟨rfl, rfl, rfl, by decide +kernel, rfl, by decide +kernel, by decide +kernel⟩
theorem ln_law_has_stretch {vs : List V} {H : Hp} {Q : VK} {E : XK} (h : sp_law_has_stretch K A vs H Q E) : vs.length = 2 := by
  first | (obtain ⟨_, rfl, _⟩ := h; rfl) | (obtain ⟨_, _, rfl, _⟩ := h; rfl) | (obtain ⟨_, _, _, rfl, _⟩ := h; rfl) | (obtain ⟨_, _, _, _, rfl, _⟩ := h; rfl) | (obtain ⟨_, _, _, _, _, rfl, _⟩ := h; rfl) | (obtain ⟨_, _, _, _, _, _, rfl, _⟩ := h; rfl) | (obtain ⟨_, _, _, _, _, _, _, rfl, _⟩ := h; rfl) | (obtain ⟨_, _, _, _, _, _, _, _, rfl, _⟩ := h; rfl) | (obtain ⟨_, _, _, _, _, _, _, _, _, rfl, _⟩ := h; rfl) | (obtain ⟨_, _, _, _, _, _, _, _, _, _, rfl, _⟩ := h; rfl) | (obtain ⟨_, _, _, _, _, _, _, _, _, _, _, rfl, _⟩ := h; rfl) | (obtain ⟨_, _, _, _, _, _, _, _, _, _, _, _, rfl, _⟩ := h; rfl) | (obtain ⟨_, _, _, _, _, _, _, _, _, _, _, _, _, rfl, _⟩ := h; rfl) | (obtain ⟨_, _, _, _, _, _, _, _, _, _, _, _, _, _, rfl, _⟩ := h; rfl) | (obtain ⟨_, _, _, _, _, _, _, _, _, _, _, _, _, _, _, rfl, _⟩ := h; rfl)
theorem fn_law_has_stretch {f : Addr} {fd : FuncData} (F : Fun K "_law_has_stretch" "_law_has_stretch" s_law_has_stretch f fd) (T : Txt mg) (C : CT K A)  : FnOk P w K mg base CX0 1 f fd ["chain", "copies"] (sp_law_has_stretch K A) :=
  F.ok sc_law_has_stretch (fun vs H Q E h => ln_law_has_stretch h) (fun cdv Ar outer s H vs Q E hr h => ⟨t_law_has_stretch K A, (pss_cons (ps_for PassesOwn.never rfl (pi_range1 (by rfl) T.b_range (pa_cons (pe_op op_sub (pe_callB call_len_seq (by rfl) T.b_len (by decide +kernel) (pa_cons (pv 0) pa_nil)) (pv 1)) pa_nil)) (pg_name (i := 2) sc_law_has_stretch.nd rfl (by first | exact Or.inl rfl | exact Or.inr rfl))
  (pss_cons (ps_if (pt_val (pe_callB (G.cr_anyI rfl) (by rfl) T.b_any (by decide +kernel) (pa_cons (pe_slice sl_list (pv 0) (po_some (pv 2)) (po_some (pe_op op_add (pv 2) (pv 1)))) pa_nil)) (by intro _; rfl)) (pss_one ps_continue) pss_nil)
  (pss_cons (ps_set (i := 3) sc_law_has_stretch.nd rfl (by first | exact Or.inl rfl | exact Or.inr rfl) (pe_op op_add (pv 2) (pv 1)))
  (pss_one (ps_for PassesOwn.never rfl (pi_range1 (by rfl) T.b_range (pa_cons (pe_callB call_len_seq (by rfl) T.b_len (by decide +kernel) (pa_cons (pv 0) pa_nil)) pa_nil)) (pg_name (i := 4) sc_law_has_stretch.nd rfl (by first | exact Or.inl rfl | exact Or.inr rfl))
  (pss_cons (ps_if (PW.pt (pw_or (pt_cmpR op_ge (pv 3) (pe_callB call_len_seq (by rfl) T.b_len (by decide +kernel) (pa_cons (pv 0) pa_nil)) (nomark _)) (pw_or1 (pt_cmpR op_gt (pe_ix ix_list (pv 0) (pv 3) (fun _ _ => rfl)) pe_int (nomark _))))) (pss_one ps_break) pss_nil)
  (pss_cons (ps_if (pt_cmpR op_eq (pe_ix ix_list (pv 0) (pv 3) (fun _ _ => rfl)) pe_int (nomark _)) (pss_one (ps_ret pe_bl)) pss_nil)
  (pss_cons (ps_if (pt_val (pe_callB (G.cr_anyI rfl) (by rfl) T.b_any (by decide +kernel) (pa_cons (pe_slice sl_list (pv 0) (po_some (pe_op op_add (pv 3) pe_int)) (po_some (pe_op op_add (pv 3) (pv 1)))) pa_nil)) (by intro _; rfl)) (pss_one ps_break) pss_nil)
  (pss_one (ps_set (i := 3) sc_law_has_stretch.nd rfl (by first | exact Or.inl rfl | exact Or.inr rfl) (pe_op op_add (pv 3) (pv 1))))))))))))
  (pss_one (ps_ret pe_bl))), rd_law_has_stretch h⟩)
theorem bi_law_has_stretch {f : Addr} {fd : FuncData} (F : Fun K "_law_has_stretch" "_law_has_stretch" s_law_has_stretch f fd) : Binds K fd ["chain", "copies"] [] := F.binds fun _ _ _ _ _ _ us hl => match us, hl with | [_, _], _ => rfl
abbrev s_law_fits : Stmt := topS 16
theorem sc_law_fits : FnScope ["chain", "copies", "handed", "told", "height", "answer"] ["chain", "copies"] (defScope s_law_fits) := ⟨rfl, rfl, rfl, by decide +kernel, rfl, by decide +kernel, by decide +kernel⟩
theorem ln_law_fits {vs : List V} {H : Hp} {Q : VK} {E : XK} (h : sp_law_fits K A vs H Q E) : vs.length = 2 := by
  first | (obtain ⟨_, rfl, _⟩ := h; rfl) | (obtain ⟨_, _, rfl, _⟩ := h; rfl) | (obtain ⟨_, _, _, rfl, _⟩ := h; rfl) | (obtain ⟨_, _, _, _, rfl, _⟩ := h; rfl) | (obtain ⟨_, _, _, _, _, rfl, _⟩ := h; rfl) | (obtain ⟨_, _, _, _, _, _, rfl, _⟩ := h; rfl) | (obtain ⟨_, _, _, _, _, _, _, rfl, _⟩ := h; rfl) | (obtain ⟨_, _, _, _, _, _, _, _, rfl, _⟩ := h; rfl) | (obtain ⟨_, _, _, _, _, _, _, _, _, rfl, _⟩ := h; rfl) | (obtain ⟨_, _, _, _, _, _, _, _, _, _, rfl, _⟩ := h; rfl) | (obtain ⟨_, _, _, _, _, _, _, _, _, _, _, rfl, _⟩ := h; rfl) | (obtain ⟨_, _, _, _, _, _, _, _, _, _, _, _, rfl, _⟩ := h; rfl) | (obtain ⟨_, _, _, _, _, _, _, _, _, _, _, _, _, rfl, _⟩ := h; rfl) | (obtain ⟨_, _, _, _, _, _, _, _, _, _, _, _, _, _, rfl, _⟩ := h; rfl) | (obtain ⟨_, _, _, _, _, _, _, _, _, _, _, _, _, _, _, rfl, _⟩ := h; rfl)
theorem fn_law_fits {f : Addr} {fd : FuncData} (F : Fun K "_law_fits" "_law_fits" s_law_fits f fd) (T : Txt mg) (C : CT K A) (C_law_has_stretch : C8.Cal P w K mg base 1 "_law_has_stretch" (sp_law_has_stretch K A) []) (C_law_heights : C8.Cal P w K mg base 1 "_law_heights" (sp_law_heights K A) []) (C_law_is_integer : C8.Cal P w K mg base 1 "_law_is_integer" (sp_law_is_integer K A) []) (C_heights : C8.Cal P w K mg base 2 "heights" (sp_heights K A) []) (C_is_keepable_chain : C8.Cal P w K mg base 4 "is_keepable_chain" (sp_is_keepable_chain K A) []) : FnOk P w K mg base CX0 5 f fd ["chain", "copies"] (sp_law_fits K A) :=
  F.ok sc_law_fits (fun vs H Q E h => ln_law_fits h) (fun cdv Ar outer s H vs Q E hr h => ⟨t_law_fits K A, (pss_cons (ps_set (i := 2) sc_law_fits.nd rfl (by first | exact Or.inl rfl | exact Or.inr rfl) (pe_callTy call_list_of (by rfl) T.b_list (by decide +kernel) (pa_cons (pv 0) pa_nil)))
  (pss_cons (ps_set (i := 3) sc_law_fits.nd rfl (by first | exact Or.inl rfl | exact Or.inr rfl) (C8.pe_c C_heights hr (by decide) (by rfl) (pa_cons (pv 2) (pa_cons (pv 1) pa_nil))))
  (pss_cons (ps_if (PW.pt (pw_or (pt_not (pt_val (pe_callB call_isi (by rfl) T.b_isinstance (by decide +kernel) (pa_cons (pv 3) (pa_cons (pe_bltn (v := .ty "list") (by rfl) T.b_list (by decide +kernel) rfl) pa_nil))) (by intro _; rfl))) (pw_or1 (pt_not (pt_val (pe_callB (cr_all rfl) (by rfl) T.b_all (by decide +kernel) (pa_cons (pe_lc (own := [("height", 4)]) (g := (gName 4)) (tt := tYes) rfl sc_law_fits.nd (pi_list (pv 3)) (blkOk_by (own := [("height", 4)]) (N := ["chain", "copies", "handed", "told", "height", "answer"]) (sc := defScope s_law_fits) (by decide +kernel)) (fun _ _ _ _ _ => (pg_name (i := 4) sc_law_fits.nd rfl (by first | exact Or.inl rfl | exact Or.inr rfl))) (fun _ _ _ _ _ => pts_nil) (fun _ _ _ _ _ => (C8.pe_c C_law_is_integer hr (by decide) (by rfl) (pa_cons (pv 4) pa_nil)))) pa_nil)) (by intro _; rfl)))))) (pss_one (ps_ret pe_bl)) pss_nil)
  (pss_cons (ps_if (PW.pt (pw_or (pt_cmpR (op_neD hr.units) (pv 2) (pv 0) (nomark _)) (pw_or1 (pt_cmpR (op_neD hr.units) (pv 3) (C8.pe_c C_law_heights hr (by decide) (by rfl) (pa_cons (pv 0) (pa_cons (pv 1) pa_nil))) (nomark _))))) (pss_one (ps_ret pe_bl)) pss_nil)
  (pss_cons (ps_expr (pe_bm PySem.F.plainAttrs_list PySem.F.slot_list_append PySem.F.type_list_append mt_append (pv 3) (pa_cons pe_int pa_nil)))
  (pss_cons (ps_if (pt_cmpR (op_neD hr.units) (pv 2) (pv 0) (nomark _)) (pss_one (ps_ret pe_bl)) pss_nil)
  (pss_cons (ps_set (i := 5) sc_law_fits.nd rfl (by first | exact Or.inl rfl | exact Or.inr rfl) (C8.pe_c C_is_keepable_chain hr (by decide) (by rfl) (pa_cons (pv 2) (pa_cons (pv 1) pa_nil))))
  (pss_cons (ps_if (PW.pt (pw_or (pt_not (pt_val (pe_callB call_isi (by rfl) T.b_isinstance (by decide +kernel) (pa_cons (pv 5) (pa_cons (pe_bltn (v := .ty "bool") (by rfl) T.b_bool (by decide +kernel) rfl) pa_nil))) (by intro _; rfl))) (pw_or1 (pt_cmpR (op_neD hr.units) (pv 2) (pv 0) (nomark _))))) (pss_one (ps_ret pe_bl)) pss_nil)
  (pss_one (ps_ret (pe_cmpR op_ne (pv 5) (C8.pe_c C_law_has_stretch hr (by decide) (by rfl) (pa_cons (pv 0) (pa_cons (pv 1) pa_nil))) (nomark _)))))))))))), rd_law_fits h⟩)
theorem bi_law_fits {f : Addr} {fd : FuncData} (F : Fun K "_law_fits" "_law_fits" s_law_fits f fd) : Binds K fd ["chain", "copies"] [] := F.binds fun _ _ _ _ _ _ us hl => match us, hl with | [_, _], _ => rfl
abbrev s_law : Stmt := topS 17
theorem sc_law : FnScope ["script", "copies", "chain", "other", "limit"] ["script"] (defScope s_law) := ⟨rfl, rfl, rfl, by decide +kernel, rfl, by decide +kernel, by decide +kernel⟩
theorem ln_law {vs : List V} {H : Hp} {Q : VK} {E : XK} (h : sp_law K A vs H Q E) : vs.length = 1 := by
  first | (obtain ⟨_, rfl, _⟩ := h; rfl) | (obtain ⟨_, _, rfl, _⟩ := h; rfl) | (obtain ⟨_, _, _, rfl, _⟩ := h; rfl) | (obtain ⟨_, _, _, _, rfl, _⟩ := h; rfl) | (obtain ⟨_, _, _, _, _, rfl, _⟩ := h; rfl) | (obtain ⟨_, _, _, _, _, _, rfl, _⟩ := h; rfl) | (obtain ⟨_, _, _, _, _, _, _, rfl, _⟩ := h; rfl) | (obtain ⟨_, _, _, _, _, _, _, _, rfl, _⟩ := h; rfl) | (obtain ⟨_, _, _, _, _, _, _, _, _, rfl, _⟩ := h; rfl) | (obtain ⟨_, _, _, _, _, _, _, _, _, _, rfl, _⟩ := h; rfl) | (obtain ⟨_, _, _, _, _, _, _, _, _, _, _, rfl, _⟩ := h; rfl) | (obtain ⟨_, _, _, _, _, _, _, _, _, _, _, _, rfl, _⟩ := h; rfl) | (obtain ⟨_, _, _, _, _, _, _, _, _, _, _, _, _, rfl, _⟩ := h; rfl) | (obtain ⟨_, _, _, _, _, _, _, _, _, _, _, _, _, _, rfl, _⟩ := h; rfl) | (obtain ⟨_, _, _, _, _, _, _, _, _, _, _, _, _, _, _, rfl, _⟩ := h; rfl)
theorem fn_law {f : Addr} {fd : FuncData} (F : Fun K "law" "law" s_law f fd) (T : Txt mg) (C : CT K A) (C_law_bag : C8.Cal P w K mg base 1 "_law_bag" (sp_law_bag K A) []) (C_law_chain : C8.Cal P w K mg base 4 "_law_chain" (sp_law_chain K A) []) (C_law_copies : C8.Cal P w K mg base 2 "_law_copies" (sp_law_copies K A) []) (C_law_fits : C8.Cal P w K mg base 5 "_law_fits" (sp_law_fits K A) []) : FnOk P w K mg base CX0 6 f fd ["script"] (sp_law K A) :=
  F.ok sc_law (fun vs H Q E h => ln_law h) (fun cdv Ar outer s H vs Q E hr h => ⟨t_law K A, (pss_cons (ps_set (i := 1) sc_law.nd rfl (by first | exact Or.inl rfl | exact Or.inr rfl) (C8.pe_c C_law_copies hr (by decide) (by rfl) (pa_cons (C8.pe_c C_law_bag hr (by decide) (by rfl) (pa_cons (pv 0) (pa_cons pe_int pa_nil))) pa_nil)))
  (pss_cons (ps_set (i := 2) sc_law.nd rfl (by first | exact Or.inl rfl | exact Or.inr rfl) (C8.pe_c C_law_chain hr (by decide) (by rfl) (pa_cons (C8.pe_c C_law_bag hr (by decide) (by rfl) (pa_cons (pv 0) (pa_cons pe_int pa_nil))) (pa_cons (pv 1) pa_nil))))
  (pss_cons (ps_set (i := 3) sc_law.nd rfl (by first | exact Or.inl rfl | exact Or.inr rfl) (C8.pe_c C_law_copies hr (by decide) (by rfl) (pa_cons (C8.pe_c C_law_bag hr (by decide) (by rfl) (pa_cons (pv 0) (pa_cons pe_int pa_nil))) pa_nil)))
  (pss_cons (ps_for PassesOwn.never rfl (pi_list (pe_lst (pa_cons (pv 1) (pa_cons (pv 3) (pa_cons (pe_op op_add (pv 1) pe_int) pa_nil))))) (pg_name (i := 4) sc_law.nd rfl (by first | exact Or.inl rfl | exact Or.inr rfl))
  (pss_one (ps_if (PW.pt (pw_or (pt_not (pt_val (C8.pe_c C_law_fits hr (by decide) (by rfl) (pa_cons (pv 2) (pa_cons (pv 4) pa_nil))) (by intro _; rfl))) (pw_or1 (pt_not (pt_val (C8.pe_c C_law_fits hr (by decide) (by rfl) (pa_cons (pe_lst pa_nil) (pa_cons (pv 4) pa_nil))) (by intro _; rfl)))))) (pss_one (ps_ret pe_bl)) pss_nil)))
  (pss_one (ps_ret pe_bl)))))), rd_law h⟩)
theorem bi_law {f : Addr} {fd : FuncData} (F : Fun K "law" "law" s_law f fd) : Binds K fd ["script"] [] := F.binds fun _ _ _ _ _ _ us hl => match us, hl with | [_], _ => rfl

/-! ### the head: facts by names, the run -/
def d_height_over : He.DefD := ⟨("height_over", none), "height_over", "height_over", defArgs s_height_over, defBody s_height_over, defScope s_height_over, [], []⟩
def d_heights : He.DefD := ⟨("heights", none), "heights", "heights", defArgs s_heights, defBody s_heights, defScope s_heights, [], []⟩
def d_lowest_too_high : He.DefD := ⟨("_lowest_too_high", none), "_lowest_too_high", "_lowest_too_high", defArgs s_lowest_too_high, defBody s_lowest_too_high, defScope s_lowest_too_high, [], []⟩
def d_is_keepable_chain : He.DefD := ⟨("is_keepable_chain", none), "is_keepable_chain", "is_keepable_chain", defArgs s_is_keepable_chain, defBody s_is_keepable_chain, defScope s_is_keepable_chain, [], []⟩
def d_law_is_integer : He.DefD := ⟨("_law_is_integer", none), "_law_is_integer", "_law_is_integer", defArgs s_law_is_integer, defBody s_law_is_integer, defScope s_law_is_integer, [], []⟩
def d_law_bag : He.DefD := ⟨("_law_bag", none), "_law_bag", "_law_bag", defArgs s_law_bag, defBody s_law_bag, defScope s_law_bag, [], []⟩
def d_law_take : He.DefD := ⟨("_law_take", none), "_law_take", "_law_take", defArgs s_law_take, defBody s_law_take, defScope s_law_take, [], []⟩
def d_law_copies : He.DefD := ⟨("_law_copies", none), "_law_copies", "_law_copies", defArgs s_law_copies, defBody s_law_copies, defScope s_law_copies, [], []⟩
def d_law_page : He.DefD := ⟨("_law_page", none), "_law_page", "_law_page", defArgs s_law_page, defBody s_law_page, defScope s_law_page, [], []⟩
def d_law_pages : He.DefD := ⟨("_law_pages", none), "_law_pages", "_law_pages", defArgs s_law_pages, defBody s_law_pages, defScope s_law_pages, [], []⟩
def d_law_chain : He.DefD := ⟨("_law_chain", none), "_law_chain", "_law_chain", defArgs s_law_chain, defBody s_law_chain, defScope s_law_chain, [], []⟩
def d_law_heights : He.DefD := ⟨("_law_heights", none), "_law_heights", "_law_heights", defArgs s_law_heights, defBody s_law_heights, defScope s_law_heights, [], []⟩
def d_law_has_stretch : He.DefD := ⟨("_law_has_stretch", none), "_law_has_stretch", "_law_has_stretch", defArgs s_law_has_stretch, defBody s_law_has_stretch, defScope s_law_has_stretch, [], []⟩
def d_law_fits : He.DefD := ⟨("_law_fits", none), "_law_fits", "_law_fits", defArgs s_law_fits, defBody s_law_fits, defScope s_law_fits, [], []⟩
def d_law : He.DefD := ⟨("law", none), "law", "law", defArgs s_law, defBody s_law, defScope s_law, [], []⟩
def fnS : List He.DefD := [d_height_over, d_heights, d_lowest_too_high, d_is_keepable_chain, d_law_is_integer, d_law_bag, d_law_take, d_law_copies, d_law_page, d_law_pages, d_law_chain, d_law_heights, d_law_has_stretch, d_law_fits, d_law]
def fa0 : List He.Fa := [.glo "height_over", .glo "heights", .glo "_lowest_too_high", .glo "is_keepable_chain", .glo "_law_is_integer", .glo "_law_bag", .glo "_law_take", .glo "_law_copies", .glo "_law_page", .glo "_law_pages", .glo "_law_chain", .glo "_law_heights", .glo "_law_has_stretch", .glo "_law_fits", .glo "law", .free "abs", .free "all", .free "any", .free "bool", .free "enumerate", .free "int", .free "isinstance", .free "len", .free "list", .free "min", .free "range"]
def faS : List He.Fa := fa0
def looseS : List PySem.Str := (["height_over", "heights", "_lowest_too_high", "is_keepable_chain", "_law_is_integer", "_law_bag", "_law_take", "_law_copies", "_law_page", "_law_pages", "_law_chain", "_law_heights", "_law_has_stretch", "_law_fits"] : List PySem.Str)
abbrev RowS : PySem.W.OpenRow := PySem.W.OpenLaw.row PySem.Challenge.rw_onecopy_k25_whole_heights
abbrev hkS : PySem.W.Hook := He.hookD 4 faS fnS
def obS (s : PySem.W.SharedT) : He.AlD := He.obsDG 4 faS fnS (HandSHeadRun.getT s)
theorem obS_eq (s : PySem.W.SharedT) : obS s = hkS.obs s.abs := He.obsDG_eq (HandSHeadRun.getT_eq s)
theorem runS (w : World) : HandSHeadRun.RunEq RowS (PySem.W.view RowS.prog [17]) hkS obS 6000 looseS w := by
  intro os
  kernel_rfl
theorem factsS {P : Program} {w : World} {K : PySem.W.Frag} {h : Heap} {mg : Str → Option Value} {fa : Addr} (X : K.In h) (GN : h.Ns mainGlobals mg) (hfa : mg ("law" : Str) = some (.ref fa)) (c : He.SaysD faS fnS K) :
    ∃ fd : FuncData, (∀ (s : Shared) (v : Value), BindsTo s fd ⟨[v], []⟩ [("script", v)]) ∧ ∀ base : Heap, K.In base → base.Ns mainGlobals mg → FnOk P w K mg base CX0 6 fa fd ["script"] (sp_law K ⟨⟩) := by
  have T : Txt mg := ⟨He.free_ok X GN (c.fact 15 (f := .free "abs") rfl), He.free_ok X GN (c.fact 16 (f := .free "all") rfl), He.free_ok X GN (c.fact 17 (f := .free "any") rfl), He.free_ok X GN (c.fact 18 (f := .free "bool") rfl), He.free_ok X GN (c.fact 19 (f := .free "enumerate") rfl), He.free_ok X GN (c.fact 20 (f := .free "int") rfl), He.free_ok X GN (c.fact 21 (f := .free "isinstance") rfl), He.free_ok X GN (c.fact 22 (f := .free "len") rfl), He.free_ok X GN (c.fact 23 (f := .free "list") rfl), He.free_ok X GN (c.fact 24 (f := .free "min") rfl), He.free_ok X GN (c.fact 25 (f := .free "range") rfl)⟩
  have C : CT K ⟨⟩ := ⟨⟩
  have e := hfa.symm.trans (He.glo_ok X GN (c.fact 14 (f := .glo "law") rfl))
  cases e
  obtain ⟨fd0, D0⟩ := c.def_ 0 (d := d_height_over) rfl
  have F0 := He5.fun_of (st := s_height_over) D0
  obtain ⟨fd1, D1⟩ := c.def_ 1 (d := d_heights) rfl
  have F1 := He5.fun_of (st := s_heights) D1
  obtain ⟨fd2, D2⟩ := c.def_ 2 (d := d_lowest_too_high) rfl
  have F2 := He5.fun_of (st := s_lowest_too_high) D2
  obtain ⟨fd3, D3⟩ := c.def_ 3 (d := d_is_keepable_chain) rfl
  have F3 := He5.fun_of (st := s_is_keepable_chain) D3
  obtain ⟨fd4, D4⟩ := c.def_ 4 (d := d_law_is_integer) rfl
  have F4 := He5.fun_of (st := s_law_is_integer) D4
  obtain ⟨fd5, D5⟩ := c.def_ 5 (d := d_law_bag) rfl
  have F5 := He5.fun_of (st := s_law_bag) D5
  obtain ⟨fd6, D6⟩ := c.def_ 6 (d := d_law_take) rfl
  have F6 := He5.fun_of (st := s_law_take) D6
  obtain ⟨fd7, D7⟩ := c.def_ 7 (d := d_law_copies) rfl
  have F7 := He5.fun_of (st := s_law_copies) D7
  obtain ⟨fd8, D8⟩ := c.def_ 8 (d := d_law_page) rfl
  have F8 := He5.fun_of (st := s_law_page) D8
  obtain ⟨fd9, D9⟩ := c.def_ 9 (d := d_law_pages) rfl
  have F9 := He5.fun_of (st := s_law_pages) D9
  obtain ⟨fd10, D10⟩ := c.def_ 10 (d := d_law_chain) rfl
  have F10 := He5.fun_of (st := s_law_chain) D10
  obtain ⟨fd11, D11⟩ := c.def_ 11 (d := d_law_heights) rfl
  have F11 := He5.fun_of (st := s_law_heights) D11
  obtain ⟨fd12, D12⟩ := c.def_ 12 (d := d_law_has_stretch) rfl
  have F12 := He5.fun_of (st := s_law_has_stretch) D12
  obtain ⟨fd13, D13⟩ := c.def_ 13 (d := d_law_fits) rfl
  have F13 := He5.fun_of (st := s_law_fits) D13
  obtain ⟨fd14, D14⟩ := c.def_ 14 (d := d_law) rfl
  have F14 := He5.fun_of (st := s_law) D14
  have b := FunD.bindsA (ps := ["script"]) D14 fun _ _ _ _ _ _ us hl => match us, hl with | [_], _ => rfl
  refine ⟨fd14, fun s v => b s [v] rfl, fun base _ _ => ?_⟩
  have C_height_over : C8.Cal P w K mg base 1 "height_over" (sp_height_over K ⟨⟩) [] := ⟨_, _, _, [], fn_height_over F0 T C , He.glo_ok X GN (c.fact 0 (f := .glo "height_over") rfl), F0.kp, bi_height_over F0, .nil⟩
  have C_heights : C8.Cal P w K mg base 2 "heights" (sp_heights K ⟨⟩) [] := ⟨_, _, _, [], fn_heights F1 T C C_height_over, He.glo_ok X GN (c.fact 1 (f := .glo "heights") rfl), F1.kp, bi_heights F1, .nil⟩
  have C_lowest_too_high : C8.Cal P w K mg base 3 "_lowest_too_high" (sp_lowest_too_high K ⟨⟩) [] := ⟨_, _, _, [], fn_lowest_too_high F2 T C C_heights, He.glo_ok X GN (c.fact 2 (f := .glo "_lowest_too_high") rfl), F2.kp, bi_lowest_too_high F2, .nil⟩
  have C_is_keepable_chain : C8.Cal P w K mg base 4 "is_keepable_chain" (sp_is_keepable_chain K ⟨⟩) [] := ⟨_, _, _, [], fn_is_keepable_chain F3 T C C_lowest_too_high, He.glo_ok X GN (c.fact 3 (f := .glo "is_keepable_chain") rfl), F3.kp, bi_is_keepable_chain F3, .nil⟩
  have C_law_is_integer : C8.Cal P w K mg base 1 "_law_is_integer" (sp_law_is_integer K ⟨⟩) [] := ⟨_, _, _, [], fn_law_is_integer F4 T C , He.glo_ok X GN (c.fact 4 (f := .glo "_law_is_integer") rfl), F4.kp, bi_law_is_integer F4, .nil⟩
  have C_law_bag : C8.Cal P w K mg base 1 "_law_bag" (sp_law_bag K ⟨⟩) [] := ⟨_, _, _, [], fn_law_bag F5 T C , He.glo_ok X GN (c.fact 5 (f := .glo "_law_bag") rfl), F5.kp, bi_law_bag F5, .nil⟩
  have C_law_take : C8.Cal P w K mg base 1 "_law_take" (sp_law_take K ⟨⟩) [] := ⟨_, _, _, [], fn_law_take F6 T C , He.glo_ok X GN (c.fact 6 (f := .glo "_law_take") rfl), F6.kp, bi_law_take F6, .nil⟩
  have C_law_copies : C8.Cal P w K mg base 2 "_law_copies" (sp_law_copies K ⟨⟩) [] := ⟨_, _, _, [], fn_law_copies F7 T C C_law_take, He.glo_ok X GN (c.fact 7 (f := .glo "_law_copies") rfl), F7.kp, bi_law_copies F7, .nil⟩
  have C_law_page : C8.Cal P w K mg base 2 "_law_page" (sp_law_page K ⟨⟩) [] := ⟨_, _, _, [], fn_law_page F8 T C C_law_take, He.glo_ok X GN (c.fact 8 (f := .glo "_law_page") rfl), F8.kp, bi_law_page F8, .nil⟩
  have C_law_pages : C8.Cal P w K mg base 3 "_law_pages" (sp_law_pages K ⟨⟩) [] := ⟨_, _, _, [], fn_law_pages F9 T C C_law_page, He.glo_ok X GN (c.fact 9 (f := .glo "_law_pages") rfl), F9.kp, bi_law_pages F9, .nil⟩
  have C_law_chain : C8.Cal P w K mg base 4 "_law_chain" (sp_law_chain K ⟨⟩) [] := ⟨_, _, _, [], fn_law_chain F10 T C C_law_page C_law_pages C_law_take, He.glo_ok X GN (c.fact 10 (f := .glo "_law_chain") rfl), F10.kp, bi_law_chain F10, .nil⟩
  have C_law_heights : C8.Cal P w K mg base 1 "_law_heights" (sp_law_heights K ⟨⟩) [] := ⟨_, _, _, [], fn_law_heights F11 T C , He.glo_ok X GN (c.fact 11 (f := .glo "_law_heights") rfl), F11.kp, bi_law_heights F11, .nil⟩
  have C_law_has_stretch : C8.Cal P w K mg base 1 "_law_has_stretch" (sp_law_has_stretch K ⟨⟩) [] := ⟨_, _, _, [], fn_law_has_stretch F12 T C , He.glo_ok X GN (c.fact 12 (f := .glo "_law_has_stretch") rfl), F12.kp, bi_law_has_stretch F12, .nil⟩
  have C_law_fits : C8.Cal P w K mg base 5 "_law_fits" (sp_law_fits K ⟨⟩) [] := ⟨_, _, _, [], fn_law_fits F13 T C C_law_has_stretch C_law_heights C_law_is_integer C_heights C_is_keepable_chain, He.glo_ok X GN (c.fact 13 (f := .glo "_law_fits") rfl), F13.kp, bi_law_fits F13, .nil⟩
  exact fn_law F14 T C C_law_bag C_law_chain C_law_copies C_law_fits
end G

open PySem PySem.W PySem.Calls PyProof.Rows in
set_option maxRecDepth 100000 in
set_option maxHeartbeats 0 in
theorem PySem.Challenge.cw_onecopy_k25_whole_heights_holds : PySem.Challenge.rw_onecopy_k25_whole_heights.Holds := by
  w_on; o_law
  refine HandSHeadRun.head_any (r := OpenLaw.row PySem.Challenge.rw_onecopy_k25_whole_heights) (q := view (OpenLaw.row PySem.Challenge.rw_onecopy_k25_whole_heights).prog [17]) (H := G.hkS) (ob := G.obS) (M := 6000) (loose := G.looseS) (d := HandSHeadRun.topDef (OpenLaw.row PySem.Challenge.rw_onecopy_k25_whole_heights).prog 17) (kwd := []) G.obS_eq
    (by kernel_rfl) (fun s => by kernel_rfl) G.runS (by kernel_rfl) (by kernel_rfl) (by kernel_rfl) (by rfl) (by first | assumption | decide +kernel) (by decide +kernel) ⟨rfl, rfl, rfl, rfl, rfl, by decide +kernel⟩ ?hw ?hc
  case hw => w_witness2
  case hc =>
    refine L2.walk_ofE (l := PySem.Challenge.rw_onecopy_k25_whole_heights) (n := 63) (k := 6) (x := "script") (CX := L2.CX0) rfl (by decide) (by kernel_rfl) ⟨rfl, by decide, by decide⟩ ?F (fun _ _ _ _ z => z)
    intro w mg fa h Y GN hmg0
    obtain ⟨K, KX, c⟩ := Y
    have hmg : mg ("law" : PySem.Str) = some (.ref fa) := by
      have e : (HandSHeadRun.topDef (OpenLaw.row PySem.Challenge.rw_onecopy_k25_whole_heights).prog 17).name = ("law" : PySem.Str) := by kernel_rfl
      rw [← e]
      exact hmg0
    obtain ⟨fd, hb, hF⟩ := G.factsS (P := (PySem.Challenge.rw_onecopy_k25_whole_heights).prog) (w := w) KX GN hmg c
    exact ⟨K, fd, G.sp_law K _, KX, hb, fun H a ns hl _ hS => ⟨a, ns, rfl, hS, hl, fun _ => rfl⟩, hF⟩