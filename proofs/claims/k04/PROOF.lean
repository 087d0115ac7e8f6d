import PyProof.Rows.All
import Wide.All
import OpenK.AllK
import Wide.FinOn
import HandS.ForMost
import HandS.Deep
import HandS.Flow
import HandS.IsInst
import HandS.Conv
import HandS.SortRule
import HandS.SortInts
import HandS.SetFor
import HandS.More
import HandS.Codes
import KE.KStateDown
import HandS.Defaults
import HandS.Head0
import HandS.Head1
import HandS.Head2
import HandS.HeadEnd
import HandS.HeadHook1
import HandS.HeadHook2
import HandS.HeadNt
import PySem.Challenge.RW_onecopy_k04_dealing_judge
set_option Elab.async false
set_option linter.all false
set_option maxRecDepth 100000
set_option maxHeartbeats 4000000

/-! The ground: relations under names of their own, steps of a reading, facts of heaps. -/
namespace G
open PySem PySem.Spec PyProof.Rows L2

/-! ### relations by name -/
def oAdd : R2 := rI0 fun i j => .int (i + j)
def oSub : R2 := rI0 fun i j => .int (i - j)
def oMul : R2 := rI CMul fun i j => .int (i * j)
def oDiv : R2 := rI CDiv fun i j => .int (i / j)
def oMod : R2 := rI (fun _ j => 0 < j) fun i j => .int (i % j)
def oPow : R2 := rI CPow fun i j => .int (i ^ j.toNat)
def oLt : R2 := rI0 fun i j => .bl (decide (i < j))
def oLe : R2 := rI0 fun i j => .bl (decide (i ≤ j))
def oGt : R2 := rI0 fun i j => .bl (decide (j < i))
def oGe : R2 := rI0 fun i j => .bl (decide (j ≤ i))
def oNeg : V → Hp → VK → Prop := rU fun i => .int (-i)
abbrev RL := List V → Hp → VK → Prop
def oAbs : RL := fun xs H Q => ∃ i, xs = [.int i] ∧ Q (.int (if i < 0 then -i else i)) H
def oMax2 : RL := fun xs H Q => ∃ i j, xs = [.int i, .int j] ∧ Q (.int (if j > i then j else i)) H
def oMin2 : RL := fun xs H Q => ∃ i j, xs = [.int i, .int j] ∧ Q (.int (if j < i then j else i)) H
def oInt : RL := fun xs H Q => (∃ i, xs = [.int i] ∧ Q (.int i) H) ∨ ∃ k, xs = [.bl k] ∧ Q (.int (if k then 1 else 0)) H
def rLenQ (K : PySem.W.Frag) : RL := fun xs H Q => ∃ p ys, xs = [.ref p] ∧ (SqL K H p ys ∨ SqT K H p ys) ∧ Q (.int ys.length) H
def oListOf (K : PySem.W.Frag) : RL := fun xs H Q => ∃ p ys, xs = [.ref p] ∧ (SqL K H p ys ∨ SqT K H p ys) ∧ ∀ l, H l = none → Q (.ref l) (upd H l (.lst ys))
def oListD : RL := fun xs H Q => ∃ d kvs, xs = [V.ref d] ∧ Rd H d (.dT kvs) ∧ ∀ p bs, H p = none → IsKeys H kvs bs → Q (.ref p) (upd H p (.lst (bs.map V.ref)))
def oInsert : V → List V → Hp → VK → Prop := fun x vs H Q => ∃ (l : Addr) (xs : List V) (i : Int) (y : V), x = .ref l ∧ vs = [.int i, y] ∧ H l = some (.lst xs) ∧ xs.length < sizeLine ∧ 0 ≤ i ∧ i < 2 ^ 63 ∧
    Q .non (upd H l (.lst (xs.take i.toNat ++ [y] ++ xs.drop i.toNat)))
def tTruK (K : PySem.W.Frag) (ta : TE) : TT := fun σ H Q => ta σ H fun x H' => ∃ k, TruV K x H' k ∧ Q k H'

theorem hu65 {A : Around} {k : Nat} (hr : Room k A) : A.units + 65 < cLine := by have := hr.un; omega
/-- xs[i] op= e -/
theorem pget_list {X : Cx} : PGet X (rIxL X.K) := by
  intro pn st sg Hh xo yo vo uo Qo Io r1 r2 hyp
  obtain ⟨pp, items, ii, zz, rfl, rfl, hsq, hat, hQ⟩ := hyp
  cases r1
  obtain ⟨tk, rfl⟩ := r2
  obtain ⟨raw, rel, isl, _⟩ := Io.list hsq
  obtain ⟨jj, e1, e2, e3, e4, e5⟩ := atI_get hat
  obtain ⟨ww, e6, rw'⟩ := rel.get e2
  have hlen := rel.length
  have h63 := line63
  have done : EP X pn sg Qo ww st := ⟨zz, Hh, Io, rw', hQ⟩
  by_cases hn : 0 ≤ ii
  · have ej : ii.toNat = jj := by
      rw [seqIndex_of hn e5] at e1; exact Option.some.inj e1
    exact wpAny_getItem_list isl.isList hn (by omega) (by rw [ej]; simpa using e6) done
  · have ej : (ii + (raw.toArray.size : Int)).toNat = jj := by
      rw [seqIndex_neg (by omega) e4] at e1; rw [List.size_toArray, ← hlen]; exact Option.some.inj e1
    exact wpAny_getItem_list_neg isl.isList (by omega) (by rw [List.size_toArray] <;> omega) (by omega) (by rw [ej]; simpa using e6) done

/-! ### heaps -/
section
variable {H H' H1 H2 H3 : Hp} {p q s : Addr} {o o' : HO}
theorem keep (h : H q = some o) (hp : H p = none) : upd H p o' q = some o := by rw [upd_ne (ne_of_none h hp)]; exact h
theorem keepNe (h : H q = some o) (hp : q ≠ p) : upd H p o' q = some o := by rw [upd_ne hp]; exact h
theorem same_new (h : H p = none) : Same H (upd H p o) := fun _ _ e => keep e h
theorem same_mut (e : Same H H') (h : H p = none) : Same H (upd H' p o) := fun b u hb => by rw [upd_ne (ne_of_none hb h)]; exact e b u hb
/-- all that was tracked is as it was, s aside -/
def But (s : Addr) (H H' : Hp) : Prop := ∀ b o, b ≠ s → H b = some o → H' b = some o
theorem But.refl : But s H H := fun _ _ _ h => h
theorem Same.but (e : Same H H') : But s H H' := fun b o _ h => e b o h
theorem But.trans (a : But s H H1) (b : But s H1 H2) : But s H H2 := fun c o n h => b c o n (a c o n h)
theorem But.new (e : But s H H') (h : H' p = none) : But s H (upd H' p o) := fun b u n hb => keep (e b u n hb) h
theorem But.mut (e : But s H H') (h : H p = none) : But s H (upd H' p o) := fun b u n hb => by rw [upd_ne (ne_of_none hb h)]; exact e b u n hb
theorem But.self (e : But s H H') : But s H (upd H' s o) := fun b u n hb => by rw [upd_ne n]; exact e b u n hb
theorem But.free (e : But s H H') (h : H s = some o) (hs : H' s = some o') (hp : H' p = none) : H p = none := by
  cases q : H p with
  | none => rfl
  | some u =>
    by_cases hn : p = s
    · rw [hn, hs] at hp; cases hp
    · rw [e p u hn q] at hp; cases hp
theorem SqL.same {K : PySem.W.Frag} {xs : List V} (h : SqL K H p xs) (e : Same H H') : SqL K H' p xs := e.seq h
theorem SqL.but {K : PySem.W.Frag} {xs ys : List V} (e : But s H H') (hs : H s = some (.lst ys)) (hn : p ≠ s) (h : SqL K H p xs) : SqL K H' p xs := by
  rcases h with (h | ⟨o, h⟩) | h
  · exact .inl (.inl (e _ _ hn h))
  · exact .inl (.inr ⟨o, e _ _ hn h⟩)
  · exact .inr h
end

/-! ### steps -/
section
variable {K : PySem.W.Frag} {σ : L2.St} {H : Hp} {Q : VK} {D : Ends} {v x y : V} {i : Nat} {ta tb tc te tv to ti : TE} {t u : TS} {tt tu : TT} {tl tr : TA} {p C dx : Addr}
theorem w_seq (h : t { D with nx := u D } σ H) : tSeq t u D σ H := h
theorem w_next (h : D.nx σ H) : tNext D σ H := h
theorem w_ret (h : te σ H D.rt) : tRet te D σ H := h
theorem w_retN (h : D.rt .non H) : tRetN D σ H := h
theorem w_drop (h : te σ H fun _ H1 => D.nx σ H1) : tDrop te D σ H := h
theorem w_brk (h : D.bk σ H) : tBreak D σ H := h
theorem w_cont (h : D.ct σ H) : tCont D σ H := h
theorem w_asg {g : TG} (h : te σ H fun x H1 => g x σ H1 D.nx) : tAsg te g D σ H := h
theorem w_name {R : L2.St → Hp → Prop} (h : R (σ.set i (some v)) H) : gName i v σ H R := h
theorem w_sub {R : L2.St → Hp → Prop} {ts : TSet} (h : to σ H fun o H1 => ti σ H1 fun j H2 => ts o j v H2 fun H3 => R σ H3) : gSub to ti ts v σ H R := h
theorem w_setL {R : Hp → Prop} {xs : List V} {k : Int} {j : Nat} (h : H p = some (.lst xs)) (hj : ixN xs.length k = some j) (q : R (upd H p (.lst (xs.set j v)))) : rSetL (.ref p) (.int k) v H R := ⟨p, xs, k, j, rfl, rfl, h, hj, q⟩
theorem w_var (h : σ[i]? = some (some v)) (q : Q v H) : tVar i σ H Q := ⟨v, h, q⟩
theorem w_c (q : Q v H) : tC v σ H Q := q
theorem w_op {r : R2} (h : ta σ H fun x H1 => tb σ H1 fun y H2 => r x y H2 Q) : tOp r ta tb σ H Q := h
theorem w_un {r : V → Hp → VK → Prop} (h : ta σ H fun x H1 => r x H1 Q) : tUn r ta σ H Q := h
theorem w_oAdd {a b : Int} (q : Q (.int (a + b)) H) : oAdd (.int a) (.int b) H Q := ⟨a, b, rfl, rfl, q⟩
theorem w_oSub {a b : Int} (q : Q (.int (a - b)) H) : oSub (.int a) (.int b) H Q := ⟨a, b, rfl, rfl, q⟩
theorem w_oMulL {a b : Int} (h0 : -18446744073709551616 < a) (h1 : a < 18446744073709551616) (q : Q (.int (a * b)) H) : oMul (.int a) (.int b) H Q := ⟨a, b, rfl, rfl, .inl ⟨h0, h1⟩, q⟩
theorem w_oMulR {a b : Int} (h0 : -18446744073709551616 < b) (h1 : b < 18446744073709551616) (q : Q (.int (a * b)) H) : oMul (.int a) (.int b) H Q := ⟨a, b, rfl, rfl, .inr ⟨h0, h1⟩, q⟩
theorem w_oDiv {a b : Int} (h0 : 0 < b) (h1 : b < 1073741824) (q : Q (.int (a / b)) H) : oDiv (.int a) (.int b) H Q := ⟨a, b, rfl, rfl, ⟨h0, h1⟩, q⟩
theorem w_oMod {a b : Int} (hc : 0 < b) (q : Q (.int (a % b)) H) : oMod (.int a) (.int b) H Q := ⟨a, b, rfl, rfl, hc, q⟩
theorem w_oPow {a b : Int} (h0 : 0 ≤ b) (h1 : b ≤ 1000000) (h2 : a.natAbs < 18446744073709551616) (q : Q (.int (a ^ b.toNat)) H) : oPow (.int a) (.int b) H Q := ⟨a, b, rfl, rfl, ⟨h0, h1, h2⟩, q⟩
theorem w_oLt {a b : Int} (q : Q (.bl (decide (a < b))) H) : oLt (.int a) (.int b) H Q := ⟨a, b, rfl, rfl, q⟩
theorem w_oLe {a b : Int} (q : Q (.bl (decide (a ≤ b))) H) : oLe (.int a) (.int b) H Q := ⟨a, b, rfl, rfl, q⟩
theorem w_oGt {a b : Int} (q : Q (.bl (decide (b < a))) H) : oGt (.int a) (.int b) H Q := ⟨a, b, rfl, rfl, q⟩
theorem w_oGe {a b : Int} (q : Q (.bl (decide (b ≤ a))) H) : oGe (.int a) (.int b) H Q := ⟨a, b, rfl, rfl, q⟩
theorem w_oNeg {a : Int} (q : Q (.int (-a)) H) : oNeg (.int a) H Q := ⟨a, rfl, q⟩
theorem w_eqI {a b : Int} (q : Q (.bl (decide (a = b))) H) : rEq (.int a) (.int b) H Q := ⟨rfl, by
  have e : (decide (V.int a = V.int b)) = decide (a = b) := by simp
  rw [e]; exact q⟩
theorem w_neI {a b : Int} (q : Q (.bl (!decide (a = b))) H) : rNe (.int a) (.int b) H Q := ⟨rfl, by
  have e : (decide (V.int a = V.int b)) = decide (a = b) := by simp
  rw [e]; exact q⟩
theorem w_eqB {a b : Bool} (q : Q (.bl (decide (a = b))) H) : rEq (.bl a) (.bl b) H Q := ⟨rfl, by
  have e : (decide (V.bl a = V.bl b)) = decide (a = b) := by simp
  rw [e]; exact q⟩
theorem w_chain {r r' : R2} (h : ta σ H fun x H1 => tb σ H1 fun y H2 => r x y H2 fun z H3 => ∃ k, z = .bl k ∧ (if k = true then tc σ H3 fun w' H4 => r' y w' H4 Q else Q (.bl false) H3)) : tChain r r' ta tb tc σ H Q := h
/-- a known answer -/
theorem w_ex {P : Bool → Prop} {b : Bool} (q : P b) : ∃ k, V.bl b = .bl k ∧ P k := ⟨b, rfl, q⟩
theorem w_test {Qb : Bool → Hp → Prop} (h : te σ H fun x H' => ∃ k, x = .bl k ∧ Qb k H') : tTest te σ H Qb := h
theorem w_tB {Qb : Bool → Hp → Prop} (h : te σ H fun x H' => ∃ k, x = .bl k ∧ Qb k H') : tB te σ H Qb := h
theorem w_and {Qb : Bool → Hp → Prop} (h : tt σ H fun c H1 => if c = true then tu σ H1 Qb else Qb false H1) : tAnd tt tu σ H Qb := h
theorem w_or {Qb : Bool → Hp → Prop} (h : tt σ H fun c H1 => if c = true then Qb true H1 else tu σ H1 Qb) : tOr tt tu σ H Qb := h
theorem w_not {Qb : Bool → Hp → Prop} (h : tt σ H fun c H1 => Qb (!c) H1) : tNot tt σ H Qb := h
theorem w_andV (h : ta σ H fun x H1 => ∃ c, x = .bl c ∧ (if c = true then tb σ H1 Q else Q (.bl false) H1)) : tAndV ta tb σ H Q := h
theorem w_orV (h : ta σ H fun x H1 => ∃ c, x = .bl c ∧ (if c = true then Q (.bl true) H1 else tb σ H1 Q)) : tOrV ta tb σ H Q := h
theorem w_notV (h : ta σ H fun x H1 => ∃ c, x = .bl c ∧ Q (.bl (!c)) H1) : tNotV ta σ H Q := h
theorem w_if (h : tt σ H fun b H1 => if b = true then t D σ H1 else u D σ H1) : tIfS tt t u D σ H := h
theorem w_ifE (h : tt σ H fun c H1 => if c = true then ta σ H1 Q else tb σ H1 Q) : tIf tt ta tb σ H Q := h
theorem w_nil {Ql : List V → Hp → Prop} (h : Ql [] H) : tNil σ H Ql := h
theorem w_cons {Ql : List V → Hp → Prop} (h : ta σ H fun x H1 => tr σ H1 fun xs H2 => Ql (x :: xs) H2) : tCons ta tr σ H Ql := h
theorem w_tup (h : tl σ H fun xs H1 => xs.length ≤ sizeLine ∧ ∀ p, H1 p = none → Q (.ref p) (upd H1 p (.tup xs))) : tTup tl σ H Q := h
theorem w_lst (h : tl σ H fun xs H1 => xs.length ≤ sizeLine ∧ ∀ p, H1 p = none → Q (.ref p) (upd H1 p (.lst xs))) : tLst tl σ H Q := h
theorem w_small {n : Nat} {P : Prop} (hn : n ≤ 100) (h : P) : n ≤ sizeLine ∧ P := ⟨Nat.le_trans hn (by decide), h⟩
theorem w_call {sp : Sp} {E : XK} (h : tl σ H fun vs H1 => sp vs H1 Q E) : tCall sp [] E tl σ H Q := by
  show tl σ H fun vs H1 => sp (vs ++ []) H1 Q E
  simp only [List.append_nil]; exact h
theorem w_meth {sp : Sp} {m : Str} {E : XK} (h : ta σ H fun x H1 => ∃ a dx fs, x = .ref a ∧ H1 a = some (.ins C dx fs) ∧ fs.lookup m = none ∧ tl σ H1 fun vs H2 => sp (x :: vs) H2 Q E) : tMeth C m sp [] E ta tl σ H Q := by
  show ta σ H fun x H1 => ∃ a dx fs, x = .ref a ∧ H1 a = some (.ins C dx fs) ∧ fs.lookup m = none ∧ tl σ H1 fun vs H2 => sp (x :: (vs ++ [])) H2 Q E
  simp only [List.append_nil]; exact h
theorem w_make {sp : Sp} {E : XK} (h : tl σ H fun vs H1 => ∀ x dx, H1 x = none → H1 dx = none → dx ≠ x → sp (.ref x :: vs) (upd (upd H1 dx (.own x)) x (.ins C dx [])) (fun v H2 => v = .non ∧ Q (.ref x) H2) E) : tMake C sp [] E tl σ H Q := by
  show tl σ H fun vs H1 => ∀ x dx, H1 x = none → H1 dx = none → dx ≠ x → sp (.ref x :: (vs ++ [])) (upd (upd H1 dx (.own x)) x (.ins C dx [])) (fun v H2 => v = .non ∧ Q (.ref x) H2) E
  simp only [List.append_nil]; exact h
theorem w_cb {r : RL} (h : tl σ H fun vs H1 => r vs H1 Q) : tCB r tl σ H Q := h
theorem w_oInt {a : Int} (q : Q (.int a) H) : oInt [.int a] H Q := .inl ⟨a, rfl, q⟩
theorem w_oAbs {a : Int} (q : Q (.int (if a < 0 then -a else a)) H) : oAbs [.int a] H Q := ⟨a, rfl, q⟩
theorem w_oMax2 {a b : Int} (q : Q (.int (if b > a then b else a)) H) : oMax2 [.int a, .int b] H Q := ⟨a, b, rfl, q⟩
theorem w_oMin2 {a b : Int} (q : Q (.int (if b < a then b else a)) H) : oMin2 [.int a, .int b] H Q := ⟨a, b, rfl, q⟩
theorem w_lenL {xs : List V} (h : SqL K H p xs) (q : Q (.int xs.length) H) : rLenQ K [.ref p] H Q := ⟨p, xs, rfl, .inl h, q⟩
theorem w_listL {xs : List V} (h : SqL K H p xs) (q : ∀ l, H l = none → Q (.ref l) (upd H l (.lst xs))) : oListOf K [.ref p] H Q := ⟨p, xs, rfl, .inl h, q⟩
theorem w_ixL {xs : List V} {k : Int} (h : SqL K H p xs) (ha : atI xs k = some v) (q : Q v H) : rIxL K (.ref p) (.int k) H Q := ⟨p, xs, k, v, rfl, rfl, h, ha, q⟩
theorem w_ixT {xs : List V} {k : Int} (h : H p = some (.tup xs)) (ha : atI xs k = some v) (q : Q v H) : rIxT K (.ref p) (.int k) H Q := ⟨p, xs, k, v, rfl, rfl, .inl (.inl h), ha, q⟩
theorem w_fld {f : Str} (h : ta σ H fun x H1 => ∃ a C dx fs v, x = .ref a ∧ H1 a = some (.ins C dx fs) ∧ Cls K C ∧ NoAttr K C f ∧ fs.lookup f = some v ∧ Q v H1) : tFld K ta f σ H Q := h
theorem w_bm {Tn : String} {r : V → List V → Hp → VK → Prop} (h : to σ H fun x H1 => tyV K Tn x H1 ∧ tl σ H1 fun xs H2 => r x xs H2 Q) : tBM K Tn r to tl σ H Q := h
theorem w_bm0 {Tn : String} {r : V → List V → Hp → VK → Prop} (h : to σ H fun x H1 => tyV K Tn x H1 ∧ r x [] H1 Q) : tBM0 K Tn r to σ H Q := h
theorem w_tyL {P : Prop} {xs : List V} (h : SqL K H p xs) (q : P) : tyV K "list" (.ref p) H ∧ P := ⟨.inl ⟨rfl, xs, h⟩, q⟩
theorem w_append {xs : List V} (h : H p = some (.lst xs)) (hl : xs.length < sizeLine) (q : Q .non (upd H p (.lst (xs ++ [v])))) : rAppend (.ref p) [v] H Q := ⟨p, xs, v, rfl, rfl, h, hl, q⟩
theorem w_cat {b : Addr} {xs ys : List V} (h : H p = some (.lst xs)) (hb : H b = some (.lst ys)) (hl : xs.length + ys.length ≤ sizeLine) (q : ∀ l, H l = none → Q (.ref l) (upd H l (.lst (xs ++ ys)))) : rCat (.ref p) (.ref b) H Q := ⟨p, b, xs, ys, rfl, rfl, h, hb, hl, q⟩
theorem w_sl {r : V → Option Int → Option Int → Hp → VK → Prop} {lo hi : TO} (h : te σ H fun x H1 => lo σ H1 fun l H2 => hi σ H2 fun u H3 => r x l u H3 Q) : tSl r te lo hi σ H Q := h
theorem w_noPart {R : Option Int → Hp → Prop} (h : R none H) : tNoPart σ H R := h
theorem w_part {R : Option Int → Hp → Prop} (h : te σ H fun x H1 => ∃ i, x = .int i ∧ R (some i) H1) : tPart te σ H R := h
theorem w_exI {P : Int → Prop} {a : Int} (q : P a) : ∃ k, V.int a = .int k ∧ P k := ⟨a, rfl, q⟩
theorem w_slL {xs : List V} {lo hi : Option Int} (h : SqL K H p xs) (q : ∀ l, H l = none → Q (.ref l) (upd H l (.lst (cutV xs lo hi)))) : rSlL K (.ref p) lo hi H Q := ⟨p, xs, rfl, h, q⟩
theorem w_gNil {R : L2.St → Hp → Prop} (h : R σ H) : gNil [] σ H R := ⟨rfl, h⟩
theorem w_gCons {R : L2.St → Hp → Prop} {g : TG} {gs : TGs} {vs : List V} (h : g v σ H fun σ' H' => gs vs σ' H' R) : gCons g gs (v :: vs) σ H R := ⟨v, vs, rfl, h⟩
theorem w_gTup {R : L2.St → Hp → Prop} {n : Nat} {gs : TGs} {vs : List V} (h : H p = some (.tup vs)) (hn : vs.length = n) (q : gs vs σ H R) : gTup K n gs (.ref p) σ H R := ⟨p, vs, rfl, .inl (.inl h), hn, q⟩
theorem w_listRg {te : L2.St → Hp → (Int → Int → Hp → Prop) → Prop} (h : te σ H fun a b H1 => RgOk a b ∧ ∀ q, H1 q = none → Q (.ref q) (upd H1 q (.lst (rgV a b)))) : tLstRg te σ H Q := h
theorem w_rg1 {R : Int → Int → Hp → Prop} (h : ta σ H fun x H1 => ∃ n, x = .int n ∧ R 0 n H1) : tRg1 ta σ H R := h
theorem w_augS {tget : V → V → Hp → VK → Prop} {tip : TIp} {ts : TSet} (h : to σ H fun o H1 => ti σ H1 fun i H2 => tget o i H2 fun x H3 => te σ H3 fun y H4 => tip x y H4 fun z H5 => ts o i z H5 fun H6 => D.nx σ H6) : tAugS to ti te tget tip ts D σ H := h
theorem w_ipI {f : Int → Int → Int} {a b : Int} (q : Q (.int (f a b)) H) : ipI f (.int a) (.int b) H Q := ⟨a, b, rfl, rfl, q⟩
theorem w_sum {xs : List Int} (h : SqL K H p (xs.map V.int)) (q : Q (.int xs.sum) H) : rSum K [.ref p] H Q := ⟨p, xs, rfl, h, q⟩
theorem w_iteD {A B : Prop} {c : Prop} [Decidable c] (h1 : c → A) (h2 : ¬ c → B) : if decide c = true then A else B := by
  by_cases h : c
  · rw [decide_eq_true h]; exact h1 h
  · rw [decide_eq_false h, if_neg Bool.false_ne_true]; exact h2 h
theorem w_iteN {A B : Prop} {c : Prop} [Decidable c] (h1 : ¬ c → A) (h2 : c → B) : if (!decide c) = true then A else B := by
  by_cases h : c
  · rw [decide_eq_true h]; exact h2 h
  · rw [decide_eq_false h]; exact h1 h
theorem w_iteT {A B : Prop} (h : A) : if true = true then A else B := h
theorem w_iteF {A B : Prop} (h : B) : if false = true then A else B := by rw [if_neg Bool.false_ne_true]; exact h

theorem w_cut (M : L2.St → Hp → Prop) (h1 : t { D with nx := M } σ H) (h2 : ∀ σ1 H1, M σ1 H1 → u D σ1 H1) : C8.tCut t u D σ H := ⟨M, h1, h2⟩
theorem w_yes {R : Bool → Hp → Prop} (q : R true H) : tYes σ H R := q
theorem w_exA {P : Int → Prop} {n : Int} (q : P n) : ∃ m, [V.int n] = [V.int m] ∧ P m := ⟨n, rfl, q⟩
theorem w_exA2 {P : Int → Int → Prop} {n m : Int} (q : P n m) : ∃ a b, [V.int n, V.int m] = [V.int a, V.int b] ∧ P a b := ⟨n, m, rfl, q⟩
theorem w_exR {P : Addr → Prop} (q : P p) : ∃ m, V.ref p = .ref m ∧ P m := ⟨p, rfl, q⟩
theorem w_exRA {P : Addr → Prop} (q : P p) : ∃ m, [V.ref p] = [.ref m] ∧ P m := ⟨p, rfl, q⟩
theorem w_exRA2 {P : Addr → Addr → Prop} {p2 : Addr} (q : P p p2) : ∃ m m2, [V.ref p, .ref p2] = [.ref m, .ref m2] ∧ P m m2 := ⟨p, p2, rfl, q⟩
theorem w_acc {xs : List V} {P : List V → Prop} (h : H p = some (.lst xs)) (hl : xs.length < sizeLine) (q : P xs) : ∃ acc, H p = some (.lst acc) ∧ acc.length < sizeLine ∧ P acc := ⟨xs, h, hl, q⟩
theorem w_fld2 {P : V → Prop} {f : Str} {fs : List (Str × V)} (h : H p = some (.ins C dx fs)) (hc : Cls K C) (hn : NoAttr K C f) (hl : fs.lookup f = some v) (q : P v) :
    ∃ a C dx fs w, V.ref p = .ref a ∧ H a = some (.ins C dx fs) ∧ Cls K C ∧ NoAttr K C f ∧ fs.lookup f = some w ∧ P w := ⟨p, C, dx, fs, v, rfl, h, hc, hn, hl, q⟩
theorem w_mth {P : Addr → Prop} {m : Str} {fs : List (Str × V)} (h : H p = some (.ins C dx fs)) (hl : fs.lookup m = none) (q : P p) :
    ∃ a dx fs, V.ref p = .ref a ∧ H a = some (.ins C dx fs) ∧ fs.lookup m = none ∧ P p := ⟨p, dx, fs, rfl, h, hl, q⟩
theorem w_sfld {f : Str} (h : tv σ H fun y H1 => to σ H1 fun x H2 => ∃ a C dx fs, x = .ref a ∧ H2 a = some (.ins C dx fs) ∧ Cls K C ∧ NoAttr K C f ∧ fs.length < 1000 ∧ D.nx σ (upd H2 a (.ins C dx (putF f y fs)))) : sFld K to tv f D σ H := h
theorem w_sfld2 {P : Hp → Prop} {f : Str} {fs : List (Str × V)} (h : H p = some (.ins C dx fs)) (hc : Cls K C) (hn : NoAttr K C f) (hl : fs.length < 1000) (q : P (upd H p (.ins C dx (putF f v fs)))) :
    ∃ a C dx fs, V.ref p = .ref a ∧ H a = some (.ins C dx fs) ∧ Cls K C ∧ NoAttr K C f ∧ fs.length < 1000 ∧ P (upd H a (.ins C dx (putF f v fs))) := ⟨p, C, dx, fs, rfl, h, hc, hn, hl, q⟩
theorem w_never (h : False) : tNever D σ H := h
theorem w_augName {ti : TIp} (h : σ[i]? = some (some v)) (q : te σ H fun y H1 => ti v y H1 fun z H2 => D.nx (σ.set i (some z)) H2) : tAug i te ti D σ H := ⟨v, h, q⟩

theorem at0 {a : V} {r : List V} : atI (a :: r) 0 = some a := atI_nat (xs := a :: r) (j := 0) rfl
theorem at1 {a b : V} {r : List V} : atI (a :: b :: r) 1 = some b := atI_nat (xs := a :: b :: r) (j := 1) rfl
theorem at2 {a b c : V} {r : List V} : atI (a :: b :: c :: r) 2 = some c := atI_nat (xs := a :: b :: c :: r) (j := 2) rfl
theorem at3 {a b c d : V} {r : List V} : atI (a :: b :: c :: d :: r) 3 = some d := atI_nat (xs := a :: b :: c :: d :: r) (j := 3) rfl
theorem at4 {a b c d e : V} {r : List V} : atI (a :: b :: c :: d :: e :: r) 4 = some e := atI_nat (xs := a :: b :: c :: d :: e :: r) (j := 4) rfl
theorem ixn {n : Nat} {k : Int} {j : Nat} (e : k = (j : Int)) (h : j < n) : ixN n k = some j := by
  unfold ixN; rw [e, if_pos (by omega), if_pos (by omega)]; simp
theorem ix0 {a : V} {r : List V} : ixN (a :: r).length 0 = some 0 := ixn rfl (by simp)
theorem ix1 {a b : V} {r : List V} : ixN (a :: b :: r).length 1 = some 1 := ixn rfl (by simp)
theorem ix2 {a b c : V} {r : List V} : ixN (a :: b :: c :: r).length 2 = some 2 := ixn rfl (by simp)
theorem atn {xs : List V} {k : Int} {j : Nat} {v : V} (e : k = (j : Int)) (h : xs[j]? = some v) : atI xs k = some v := by rw [e]; exact atI_nat h
theorem ati {xs : List Int} {k : Int} (h0 : 0 ≤ k) (h1 : k < xs.length) : atI (xs.map V.int) k = some (V.int (xs.getD k.toNat 0)) := by
  refine atn (j := k.toNat) (by omega) ?_
  rw [List.getElem?_map, List.getElem?_eq_getElem (by omega), List.getD_eq_getElem?_getD, List.getElem?_eq_getElem (by omega)]; rfl

/-! ### loops -/
/-- a loop whose iterator has come -/
def ForW (J : It) (g : TG) (tb : TS) (D : Ends) (σ : L2.St) (H : Hp) : Prop := tFor (fun _ H R => R J H) g tb D σ H
theorem w_forR1 {g : TG} {tb : TS} (h : tl σ H fun vs H1 => ∃ n : Int, vs = [.int n] ∧ -(2 ^ 62) ≤ n ∧ n < 2 ^ 62 ∧ ForW (Itr 0 n.toNat) g tb D σ H1) : tFor (iRng1 tl) g tb D σ H := h
theorem w_forR2 {g : TG} {tb : TS} (h : tl σ H fun vs H1 => ∃ m n : Int, vs = [.int m, .int n] ∧ (-(2 ^ 62) ≤ m ∧ m < 2 ^ 62 ∧ -(2 ^ 62) ≤ n ∧ n < 2 ^ 62) ∧ ForW (Itr m (n - m).toNat) g tb D σ H1) : tFor (iRng2 tl) g tb D σ H := h
theorem w_forL {g : TG} {tb : TS} (h : te σ H fun x H1 => ∃ a, x = .ref a ∧ (∃ xs, SqL K H1 a xs) ∧ ForW (Itl K a) g tb D σ H1) : tFor (iList K te) g tb D σ H := h
theorem w_forZ {g : TG} {tb : TS} (h : tl σ H fun vs H1 => ∃ a b xs ys, vs = [.ref a, .ref b] ∧ SqL K H1 a xs ∧ SqL K H1 b ys ∧ ForW (Itz K a b) g tb D σ H1) : tFor (iZip K tl) g tb D σ H := h
theorem w_forE {g : TG} {tb : TS} (h : tl σ H fun vs H1 => ∃ a xs, vs = [.ref a] ∧ SqL K H1 a xs ∧ ForW (Ite K a) g tb D σ H1) : tFor (iEnum K tl) g tb D σ H := h
theorem w_bd1 {n : Int} {P : Prop} (h0 : -4611686018427387904 ≤ n) (h1 : n < 4611686018427387904) (q : P) : -(2 ^ 62) ≤ n ∧ n < 2 ^ 62 ∧ P := ⟨by omega, by omega, q⟩
theorem w_bd2 {m n : Int} {P : Prop} (h0 : -4611686018427387904 ≤ m) (h1 : m < 4611686018427387904) (h2 : -4611686018427387904 ≤ n) (h3 : n < 4611686018427387904) (q : P) : (-(2 ^ 62) ≤ m ∧ m < 2 ^ 62 ∧ -(2 ^ 62) ≤ n ∧ n < 2 ^ 62) ∧ P := ⟨⟨by omega, by omega, by omega, by omega⟩, q⟩
theorem w_sqE {xs : List V} {P : Prop} (h : SqL K H p xs) (q : P) : (∃ ys, SqL K H p ys) ∧ P := ⟨⟨xs, h⟩, q⟩
theorem forR {lo : Int} {n : Nat} {g : TG} {tb : TS} (Pv : Nat → L2.St → Hp → Prop) (h0 : Pv 0 σ H)
    (hs : ∀ i σ1 H1, i < n → Pv i σ1 H1 → g (.int (lo + i)) σ1 H1 fun σ2 H2 => tb { D with nx := Pv (i + 1), ct := Pv (i + 1), bk := D.nx } σ2 H2) (hd : ∀ σ1 H1, Pv n σ1 H1 → D.nx σ1 H1) : ForW (Itr lo n) g tb D σ H := for_range Pv h0 hs hd
theorem forL {a : Addr} {xs : List V} {g : TG} {tb : TS} (Pv : Nat → L2.St → Hp → Prop) (h0 : Pv 0 σ H) (hl : ∀ i σ1 H1, i ≤ xs.length → Pv i σ1 H1 → SqL K H1 a xs)
    (hs : ∀ i x σ1 H1, xs[i]? = some x → Pv i σ1 H1 → g x σ1 H1 fun σ2 H2 => tb { D with nx := Pv (i + 1), ct := Pv (i + 1), bk := D.nx } σ2 H2) (hd : ∀ σ1 H1, Pv xs.length σ1 H1 → D.nx σ1 H1) : ForW (Itl K a) g tb D σ H := for_list (xs := xs) Pv h0 hl hs hd
/-- a comprehension whose iterator has come -/
def LcW (J : It) (g : TG) (tt : TT) (te : TE) (vs : List Nat) (σ : L2.St) (H : Hp) (Q : VK) : Prop := tLc (fun _ H R => R J H) g tt te vs σ H Q
theorem w_lcR1 {g : TG} {vs : List Nat} (h : tl σ H fun us H1 => ∃ n : Int, us = [.int n] ∧ -(2 ^ 62) ≤ n ∧ n < 2 ^ 62 ∧ LcW (Itr 0 n.toNat) g tt te vs σ H1 Q) : tLc (iRng1 tl) g tt te vs σ H Q := h
theorem w_lcL {g : TG} {vs : List Nat} {tz : TE} (h : tz σ H fun x H1 => ∃ a, x = .ref a ∧ (∃ xs, SqL K H1 a xs) ∧ LcW (Itl K a) g tt te vs σ H1 Q) : tLc (iList K tz) g tt te vs σ H Q := h
/-- one turn of a comprehension -/
def LcT (tt : TT) (te : TE) (Dl : Addr) (N : Hp → Prop) (σ : L2.St) (H : Hp) : Prop := tt σ H fun b H3 =>
  if b = true then te σ H3 fun y H4 => ∃ acc, H4 Dl = some (.lst acc) ∧ acc.length < sizeLine ∧ N (upd H4 Dl (.lst (acc ++ [y]))) else N H3
theorem lcR {lo : Int} {n : Nat} {g : TG} {vs : List Nat} (Pv : Addr → Nat → Hp → Prop) (h0 : ∀ Dl, H Dl = none → Pv Dl 0 (upd H Dl (.lst [])))
    (hs : ∀ Dl i H1, H Dl = none → i < n → Pv Dl i H1 → g (.int (lo + i)) (wipe σ vs) H1 fun σ2 H2 => wipe σ2 vs = wipe σ vs ∧ LcT tt te Dl (Pv Dl (i + 1)) σ2 H2) (hd : ∀ Dl H1, H Dl = none → Pv Dl n H1 → Q (.ref Dl) H1) : LcW (Itr lo n) g tt te vs σ H Q :=
  fun Dl hD => lc_range (Pv Dl) (h0 Dl hD) (fun i H1 hi p => hs Dl i H1 hD hi p) (fun H1 p => hd Dl H1 hD p)
theorem lcL {a : Addr} {xs : List V} {g : TG} {vs : List Nat} (Pv : Addr → Nat → Hp → Prop) (h0 : ∀ Dl, H Dl = none → Pv Dl 0 (upd H Dl (.lst []))) (hl : ∀ Dl i H1, H Dl = none → i ≤ xs.length → Pv Dl i H1 → SqL K H1 a xs)
    (hs : ∀ Dl i x H1, H Dl = none → xs[i]? = some x → Pv Dl i H1 → g x (wipe σ vs) H1 fun σ2 H2 => wipe σ2 vs = wipe σ vs ∧ LcT tt te Dl (Pv Dl (i + 1)) σ2 H2) (hd : ∀ Dl H1, H Dl = none → Pv Dl xs.length H1 → Q (.ref Dl) H1) : LcW (Itl K a) g tt te vs σ H Q :=
  fun Dl hD => lc_list (K := K) (a := a) (xs := xs) (Pv Dl) (h0 Dl hD) (fun i H1 hi p => hl Dl i H1 hD hi p) (fun i x H1 hx p => hs Dl i x H1 hD hx p) (fun H1 p => hd Dl H1 hD p)
theorem w_lcT {Dl : Addr} {N : Hp → Prop} (h : te σ H fun y H4 => ∃ acc, H4 Dl = some (.lst acc) ∧ acc.length < sizeLine ∧ N (upd H4 Dl (.lst (acc ++ [y])))) : LcT tYes te Dl N σ H := h
theorem w_lcTif {Dl : Addr} {N : Hp → Prop} (h : tt σ H fun b H3 => if b = true then (te σ H3 fun y H4 => ∃ acc, H4 Dl = some (.lst acc) ∧ acc.length < sizeLine ∧ N (upd H4 Dl (.lst (acc ++ [y])))) else N H3) : LcT tt te Dl N σ H := h
theorem w_wipe {σ1 : L2.St} {P : Prop} (h : σ = σ1) (q : P) : σ = σ1 ∧ P := ⟨h, q⟩
end
/-! ### sources of draws: lists of three ints -/
section
variable {H H' H1 H2 H3 : Hp} {p q s : Addr} {o o' : HO} {xs : List V}
def Src (H : Hp) (s : Addr) : Prop := ∃ x y z : Int, H s = some (.lst [.int x, .int y, .int z])
theorem Src.ex (h : Src H s) : ∃ xs, H s = some (.lst xs) := let ⟨_, _, _, e⟩ := h; ⟨_, e⟩
theorem Src.neFree (h : Src H s) (hq : H q = none) : q ≠ s := fun e => by obtain ⟨_, _, _, hs⟩ := h; rw [e, hs] at hq; cases hq
theorem Src.neTup {xs : List V} (h : Src H s) (hq : H q = some (.tup xs)) : q ≠ s := fun e => by obtain ⟨_, _, _, hs⟩ := h; rw [e, hs] at hq; cases hq
theorem Src.neIns {C dx : Addr} {fs : List (Str × V)} (h : Src H s) (hq : H q = some (.ins C dx fs)) : q ≠ s := fun e => by obtain ⟨_, _, _, hs⟩ := h; rw [e, hs] at hq; cases hq
theorem Src.new (h : Src H s) (hp : H p = none) : Src (upd H p o) s := let ⟨x, y, z, e⟩ := h; ⟨x, y, z, keep e hp⟩
theorem Src.mut (h : Src H s) (hp : p ≠ s) : Src (upd H p o) s := let ⟨x, y, z, e⟩ := h; ⟨x, y, z, keepNe e hp.symm⟩
theorem Src.same (e : Same H H') (h : Src H s) : Src H' s := let ⟨x, y, z, q⟩ := h; ⟨x, y, z, e _ _ q⟩
theorem But.at (b : But s H H') (hn : q ≠ s) (h : H q = some o) : H' q = some o := b _ _ hn h
theorem But.back (b : But s H H') (h2 : Src H' s) (hp : H' p = none) : H p = none := by
  cases hq : H p with
  | none => rfl
  | some u => rw [b p u (h2.neFree hp) hq] at hp; cases hp
theorem But.trans' (b : But s H1 H2) (a : But s H H1) : But s H H2 := a.trans b
theorem Same.trans' (b : Same H1 H2) (a : Same H H1) : Same H H2 := a.trans b
theorem Same.at (e : Same H H') (h : H q = some o) : H' q = some o := e _ _ h
theorem ne1 (hl : H p = none) (hq : H q = some o) : q ≠ p := ne_of_none hq hl
theorem free_upd (h : upd H p o q = none) : H q = none := by
  cases e : H q with
  | none => rfl
  | some u =>
    by_cases hn : q = p
    · rw [hn, upd_same] at h; cases h
    · rw [upd_ne hn, e] at h; cases h
/-- a pair of ints at a value; a list of such pairs -/
def PR (H : Hp) (v : V) (r : Int × Int) : Prop := ∃ t, v = .ref t ∧ H t = some (.tup [.int r.1, .int r.2])
def RowsAt (H : Hp) (p : Addr) (rows : List (Int × Int)) : Prop := ∃ vs, H p = some (.lst vs) ∧ Paired (PR H) vs rows
theorem PR.but {v : V} {r : Int × Int} (b : But s H H') (hs : Src H s) (h : PR H v r) : PR H' v r := let ⟨t, e, ht⟩ := h; ⟨t, e, b.at (hs.neTup ht) ht⟩
theorem PR.same {v : V} {r : Int × Int} (b : Same H H') (h : PR H v r) : PR H' v r := let ⟨t, e, ht⟩ := h; ⟨t, e, b _ _ ht⟩
theorem PR.mutL {v : V} {r : Int × Int} {xs : List V} (hp : H p = some (.lst xs)) (h : PR H v r) : PR (upd H p o) v r := let ⟨t, e, ht⟩ := h; ⟨t, e, keepNe ht (ne_of ht hp (by intro z; cases z))⟩
theorem PRs.but {vs : List V} {rows : List (Int × Int)} (b : But s H H') (hs : Src H s) (h : Paired (PR H) vs rows) : Paired (PR H') vs rows := h.mono fun _ _ q => PR.but b hs q
theorem PRs.same {vs : List V} {rows : List (Int × Int)} (b : Same H H') (h : Paired (PR H) vs rows) : Paired (PR H') vs rows := h.mono fun _ _ q => PR.same b q
theorem PRs.mutL {vs xs : List V} {rows : List (Int × Int)} (hp : H p = some (.lst xs)) (h : Paired (PR H) vs rows) : Paired (PR (upd H p o)) vs rows := h.mono fun _ _ q => PR.mutL hp q
theorem PRs.new {vs : List V} {rows : List (Int × Int)} (hp : H p = none) (h : Paired (PR H) vs rows) : Paired (PR (upd H p o)) vs rows := h.mono fun _ _ q => PR.same (same_new hp) q
theorem RowsAt.but {rows : List (Int × Int)} (b : But s H H') (hs : Src H s) (hn : p ≠ s) (h : RowsAt H p rows) : RowsAt H' p rows := let ⟨vs, e, k⟩ := h; ⟨vs, b.at hn e, PRs.but b hs k⟩
theorem RowsAt.same {rows : List (Int × Int)} (b : Same H H') (h : RowsAt H p rows) : RowsAt H' p rows := let ⟨vs, e, k⟩ := h; ⟨vs, b _ _ e, PRs.same b k⟩
theorem RowsAt.neFree {rows : List (Int × Int)} (h : RowsAt H q rows) (hp : H p = none) : q ≠ p := let ⟨_, e, _⟩ := h; ne_of_none e hp
theorem Paired.at {α β : Type} {F : α → β → Prop} : ∀ {l₁ : List α} {l₂ : List β}, Paired F l₁ l₂ → ∀ {i : Nat} {b : β}, l₂[i]? = some b → ∃ a, l₁[i]? = some a ∧ F a b
  | _, _, .nil, i, b, h => by simp at h
  | _, _, .cons f r, 0, b, h => by
    have e := Option.some.inj h
    subst e; exact ⟨_, rfl, f⟩
  | _, _, .cons f r, i + 1, b, h => by
    obtain ⟨a, h1, h2⟩ := Paired.at r (i := i) (b := b) (by simpa using h)
    exact ⟨a, by simpa using h1, h2⟩
theorem Paired.at' {α β : Type} {F : α → β → Prop} : ∀ {l₁ : List α} {l₂ : List β}, Paired F l₁ l₂ → ∀ {i : Nat} {a : α}, l₁[i]? = some a → ∃ b, l₂[i]? = some b ∧ F a b
  | _, _, .nil, i, b, h => by simp at h
  | _, _, .cons f r, 0, b, h => by
    have e := Option.some.inj h
    subst e; exact ⟨_, rfl, f⟩
  | _, _, .cons f r, i + 1, b, h => by
    obtain ⟨a, h1, h2⟩ := Paired.at' r (i := i) (a := b) (by simpa using h)
    exact ⟨a, by simpa using h1, h2⟩
end
end G

namespace G
open PySem L2
structure CA where
  Standing : Addr
  Web : Addr
structure CT (K : PySem.W.Frag) (A : CA) : Prop where
  c_Standing : Cls K A.Standing
  n_Standing__blank : NoAttr K A.Standing "_blank"
  n_Standing_lines : NoAttr K A.Standing "lines"
  n_Standing_web : NoAttr K A.Standing "web"
  c_Web : Cls K A.Web
  n_Web__arrows : NoAttr K A.Web "_arrows"
  n_Web__holders : NoAttr K A.Web "_holders"
  n_Web__known : NoAttr K A.Web "_known"
  n_Web__targets : NoAttr K A.Web "_targets"
  n_Web_pages : NoAttr K A.Web "pages"
end G

/-! ### the tactic: walk_at "go" -/
local macro_rules | `(tactic| walk_at "hp") => `(tactic| first
  | assumption | exact L2.upd_same
  | exact G.keep (by walk_at "hp") (by assumption)
  | exact G.keepNe (by walk_at "hp") (by walk_at "ne")
  | exact G.But.at (by assumption) (by walk_at "ne") (by walk_at "hp")
  | exact G.Same.at (by assumption) (by walk_at "hp"))
local macro_rules | `(tactic| walk_at "ne") => `(tactic| first
  | assumption | exact Ne.symm (by assumption)
  | exact G.Src.neFree (by assumption) (by assumption) | exact (G.Src.neFree (by assumption) (by assumption)).symm
  | exact G.ne1 (by assumption) (by walk_at "hp") | exact (G.ne1 (by assumption) (by walk_at "hp")).symm)
local macro_rules | `(tactic| walk_at "src") => `(tactic| first
  | assumption | exact G.Src.new (by walk_at "src") (by assumption) | exact G.Src.mut (by walk_at "src") (by walk_at "ne") | exact G.Src.same (by assumption) (by walk_at "src"))
local macro_rules | `(tactic| walk_at "but") => `(tactic| first
  | assumption | exact G.But.refl
  | exact G.But.mut (by walk_at "but") (by assumption) | exact G.But.new (by walk_at "but") (by assumption) | exact G.But.self (by walk_at "but")
  | exact G.But.trans' (by assumption) (by walk_at "but") | exact G.But.trans' (G.Same.but (by assumption)) (by walk_at "but"))
local macro_rules | `(tactic| walk_at "same") => `(tactic| first
  | assumption | exact L2.Same.refl _
  | exact G.same_mut (by walk_at "same") (by assumption) | exact G.Same.trans' (G.same_new (by assumption)) (by walk_at "same") | exact G.Same.trans' (by assumption) (by walk_at "same"))
local macro_rules | `(tactic| walk_at "sq") => `(tactic| first
  | assumption | exact G.SqL.same (by assumption) (by walk_at "same") | exact L2.SqL.of (by walk_at "hp"))
local macro_rules | `(tactic| walk_at "at") => `(tactic| first
  | assumption | exact L2.atI_nat (by assumption) | exact G.at0 | exact G.at1 | exact G.at2 | exact G.at3 | exact G.at4)
local macro_rules | `(tactic| walk_at "ix") => `(tactic| first
  | assumption | exact G.ix0 | exact G.ix1 | exact G.ix2)
local macro_rules | `(tactic| walk_at "ar") => `(tactic| first | assumption | omega | decide)
local macro_rules | `(tactic| walk_at "one") => `(tactic| (with_reducible first
  | refine' G.w_seq ?_ | refine' G.w_asg ?_ | (refine' G.w_var ?g1 ?_; (case g1 => with_unfolding_all rfl)) | refine' G.w_c ?_ | refine' G.w_name ?_ | refine' G.w_op ?_
  | refine' G.w_oAdd ?_ | refine' G.w_oSub ?_ | (refine' G.w_oMulR ?g1 ?g2 ?_; (case g1 => walk_at "ar"); (case g2 => walk_at "ar")) | (refine' G.w_oMulL ?g1 ?g2 ?_; (case g1 => walk_at "ar"); (case g2 => walk_at "ar")) | (refine' G.w_oDiv ?g1 ?g2 ?_; (case g1 => walk_at "ar"); (case g2 => walk_at "ar")) | (refine' G.w_oMod ?g1 ?_; (case g1 => walk_at "ar")) | (refine' G.w_oPow ?g1 ?g2 ?g3 ?_; (case g1 => walk_at "ar"); (case g2 => walk_at "ar"); (case g3 => with_unfolding_all decide))
  | refine' G.w_oLt ?_ | refine' G.w_oLe ?_ | refine' G.w_oGt ?_ | refine' G.w_oGe ?_ | refine' G.w_un ?_ | refine' G.w_oNeg ?_ | refine' G.w_brk ?_ | refine' G.w_cont ?_ | refine' G.w_eqI ?_ | refine' G.w_neI ?_ | refine' G.w_eqB ?_
  | refine' G.w_cons ?_ | refine' G.w_nil ?_ | refine' G.w_ex ?_ | refine' G.w_exI ?_
  | refine' G.w_ret ?_ | refine' G.w_drop ?_ | refine' G.w_next ?_ | refine' G.w_retN ?_ | refine' G.w_if ?_ | refine' G.w_test ?_ | refine' G.w_tB ?_ | refine' G.w_ifE ?_
  | refine' G.w_iteT ?_ | refine' G.w_iteF ?_
  | refine' G.w_cb ?_ | refine' G.w_oInt ?_ | refine' G.w_oAbs ?_ | refine' G.w_oMax2 ?_ | refine' G.w_oMin2 ?_ | refine' G.w_call ?_ | refine' G.w_meth ?_ | refine' G.w_make ?_
  | refine' G.w_tup ?_ | refine' G.w_lst ?_ | (refine' G.w_small ?g1 ?_; (case g1 => with_unfolding_all exact Nat.le_of_ble_eq_true rfl))
  | (refine' G.w_ixL ?g1 ?g2 ?_; (case g1 => walk_at "sq"); (case g2 => with_unfolding_all walk_at "at"))
  | (refine' G.w_ixT ?g1 ?g2 ?_; (case g1 => walk_at "hp"); (case g2 => with_unfolding_all walk_at "at"))
  | (refine' G.w_lenL ?g1 ?_; (case g1 => walk_at "sq")) | (refine' G.w_listL ?g1 ?_; (case g1 => walk_at "sq")) | (refine' G.w_sum ?g1 ?_; (case g1 => walk_at "sq"))
  | refine' G.w_bm ?_ | refine' G.w_bm0 ?_ | (refine' G.w_tyL ?g1 ?_; (case g1 => walk_at "sq"))
  | (refine' G.w_append ?g1 ?g2 ?_; (case g1 => walk_at "hp"); (case g2 => walk_at "sz"))
  | refine' G.w_sub ?_ | (refine' G.w_setL ?g1 ?g2 ?_; (case g1 => walk_at "hp"); (case g2 => with_unfolding_all walk_at "ix"))
  | (refine' G.w_cat ?g1 ?g2 ?g3 ?_; (case g1 => walk_at "hp"); (case g2 => walk_at "hp"); (case g3 => walk_at "sz"))
  | refine' G.w_sl ?_ | refine' G.w_noPart ?_ | refine' G.w_part ?_ | (refine' G.w_slL ?g1 ?_; (case g1 => walk_at "sq"))
  | refine' G.w_gCons ?_ | refine' G.w_gNil ?_ | (refine' G.w_gTup ?g1 ?g2 ?_; (case g1 => walk_at "hp"); (case g2 => with_unfolding_all rfl))
  | refine' G.w_chain ?_ | refine' G.w_and ?_ | refine' G.w_or ?_ | refine' G.w_not ?_ | refine' G.w_andV ?_ | refine' G.w_orV ?_ | refine' G.w_notV ?_
  | refine' G.w_listRg ?_ | refine' G.w_rg1 ?_ | refine' G.w_augS ?_ | refine' G.w_ipI ?_
  | refine' G.w_fld ?_ | refine' G.w_sfld ?_ | refine' G.w_yes ?_ | refine' G.w_exA ?_ | refine' G.w_exA2 ?_ | refine' G.w_exR ?_ | refine' G.w_exRA ?_
  | (refine' G.w_acc ?g1 ?g2 ?_; (case g1 => walk_at "hp"); (case g2 => walk_at "sz"))
  | refine' G.w_forR1 ?_ | refine' G.w_forR2 ?_ | refine' G.w_forL ?_ | refine' G.w_forZ ?_ | refine' G.w_forE ?_ | refine' G.w_lcR1 ?_ | refine' G.w_lcL ?_
  | (refine' G.w_bd1 ?g1 ?g2 ?_; (case g1 => walk_at "ar"); (case g2 => walk_at "ar"))
  | (refine' G.w_bd2 ?g1 ?g2 ?g3 ?g4 ?_; (case g1 => walk_at "ar"); (case g2 => walk_at "ar"); (case g3 => walk_at "ar"); (case g4 => walk_at "ar"))
  | (refine' G.w_sqE ?g1 ?_; (case g1 => walk_at "sq"))
  | (refine' G.w_wipe ?g1 ?_; (case g1 => with_unfolding_all rfl)) | refine' G.w_lcT ?_ | refine' G.w_lcTif ?_
  | (refine' G.w_augName ?g1 ?_; (case g1 => with_unfolding_all rfl))
  | walk_at "call"))
local macro_rules | `(tactic| walk_at "sz") => `(tactic| first | assumption | exact L2.small1000 (by omega) | omega | exact L2.small1000 (by simp only [List.length_map, List.length_append, List.length_cons, List.length_nil, List.length_range, List.length_take, List.length_drop, List.length_set]; omega) | exact Nat.le_of_lt (L2.small1000 (by simp only [List.length_map, List.length_append, List.length_cons, List.length_nil, List.length_range, List.length_take, List.length_drop, List.length_set]; omega)))
local macro_rules | `(tactic| walk_at "go") => `(tactic| repeat walk_at "one")

namespace G
open PySem L2
/-! ### the draws -/
def sp_law_cell (K : PySem.W.Frag) (A : CA) : Sp := fun vs H Q _ => ∃ (a : Addr) (k : Int) (ns : List Int), vs = [.ref a, .int k] ∧ SqL K H a (ns.map V.int) ∧ 0 ≤ k ∧ ns.length ≤ 63 ∧
  ∀ (c : Int) (H' : Hp), Same H H' → Q (.int c) H'
def sp_law_source (K : PySem.W.Frag) (A : CA) : Sp := fun vs H Q _ => ∃ (c : Int), vs = [.int c] ∧ ∀ (s : Addr) (H' : Hp), H s = none → Same H H' → Src H' s → Q (.ref s) H'
def sp_law_take (K : PySem.W.Frag) (A : CA) : Sp := fun vs H Q _ => ∃ (s : Addr) (n : Int), vs = [.ref s, .int n] ∧ Src H s ∧ 0 < n ∧ n < 1000000 ∧
  ∀ (r : Int) (H' : Hp), 0 ≤ r → r < n → But s H H' → Src H' s → Q (.int r) H'
theorem i_take {K : PySem.W.Frag} {A : CA} {H : Hp} {Q : VK} {E : XK} {s : Addr} {n : Int} (hs : Src H s) (h0 : 0 < n) (h1 : n < 1000000)
    (k : ∀ (r : Int) (H' : Hp), 0 ≤ r → r < n → But s H H' → Src H' s → Q (.int r) H') : sp_law_take K A [.ref s, .int n] H Q E := ⟨s, n, rfl, hs, h0, h1, k⟩
theorem i_source {K : PySem.W.Frag} {A : CA} {H : Hp} {Q : VK} {E : XK} {c : Int} (k : ∀ (s : Addr) (H' : Hp), H s = none → Same H H' → Src H' s → Q (.ref s) H') : sp_law_source K A [.int c] H Q E := ⟨c, rfl, k⟩
theorem i_cell {K : PySem.W.Frag} {A : CA} {H : Hp} {Q : VK} {E : XK} {a : Addr} {k : Int} {ns : List Int} (h : SqL K H a (ns.map V.int)) (h0 : 0 ≤ k) (hl : ns.length ≤ 63)
    (q : ∀ (c : Int) (H' : Hp), Same H H' → Q (.int c) H') : sp_law_cell K A [.ref a, .int k] H Q E := ⟨a, k, ns, rfl, h, h0, hl, q⟩
end G
local macro_rules | `(tactic| walk_at "call") => `(tactic| (refine' G.i_take ?g1 ?g2 ?g3 ?_; (case g1 => walk_at "src"); (case g2 => walk_at "ar"); (case g3 => walk_at "ar")))
local macro_rules | `(tactic| walk_at "call") => `(tactic| (refine' G.i_source ?_))
local macro_rules | `(tactic| walk_at "call") => `(tactic| (refine' G.i_cell ?g1 ?g2 ?g3 ?_; (case g1 => walk_at "sq"); (case g2 => walk_at "ar"); (case g3 => walk_at "ar")))
namespace G
open PySem L2
def t_law_cell (K : PySem.W.Frag) (A : CA) : TS :=
  (tSeq (tIfS (tTest (tOp oLt (tVar 1) (tCB oMin2 (tCons (tC (.int 63)) (tCons (tCB (rLenQ K) (tCons (tVar 0) tNil)) tNil))))) (tRet (tCB oAbs (tCons (tOp (rIxL K) (tVar 0) (tVar 1)) tNil))) tNext)
  (tRet (tOp oAdd (tOp oAdd (tOp oMul (tC (.int 40014)) (tVar 1)) (tC (.int 12211))) (tOp oMod (tCB oInt (tCons (tCB (rSum K) (tCons (tSl (rSlL K) (tVar 0) tNoPart (tPart (tC (.int 1)))) tNil)) tNil)) (tC (.int 1000003))))))
def t_law_source (K : PySem.W.Frag) (A : CA) : TS :=
  (tSeq (tIfS (tTest (tOp oLt (tVar 0) (tOp oPow (tC (.int 10)) (tC (.int 18))))) (tRet (tLst (tCons (tC (.int 0)) (tCons (tVar 0) (tCons (tC (.int 0)) tNil))))) tNext)
  (tRet (tLst (tCons (tVar 0) (tCons (tOp oMod (tCB oInt (tCons (tVar 0) tNil)) (tC (.int 2147483647))) (tCons (tC (.int 0)) tNil))))))
def t_law_take (K : PySem.W.Frag) (A : CA) : TS :=
  (tSeq (tIfS (tTest (tOp oGt (tOp (rIxL K) (tVar 0) (tC (.int 0))) (tC (.int 0)))) (tSeq (tAsg (tOp oMod (tCB oInt (tCons (tOp (rIxL K) (tVar 0) (tC (.int 0))) tNil)) (tVar 1)) (gName 2))
  (tSeq (tAsg (tOp oDiv (tOp (rIxL K) (tVar 0) (tC (.int 0))) (tVar 1)) (gSub (tVar 0) (tC (.int 0)) rSetL))
  (tRet (tVar 2)))) tNext)
  (tSeq (tAsg (tOp oAdd (tOp (rIxL K) (tVar 0) (tC (.int 2))) (tC (.int 1))) (gSub (tVar 0) (tC (.int 2)) rSetL))
  (tSeq (tAsg (tOp oMod (tCB oInt (tCons (tOp oAdd (tOp oAdd (tOp oMul (tOp (rIxL K) (tVar 0) (tC (.int 1))) (tC (.int 48271))) (tOp oMul (tOp (rIxL K) (tVar 0) (tC (.int 2))) (tC (.int 69621)))) (tC (.int 12345))) tNil)) (tC (.int 2147483647))) (gName 3))
  (tSeq (tAsg (tOp oMod (tCB oInt (tCons (tOp oAdd (tOp oMul (tVar 3) (tOp oAdd (tOp oDiv (tVar 3) (tC (.int 127))) (tOp (rIxL K) (tVar 0) (tC (.int 2))))) (tOp (rIxL K) (tVar 0) (tC (.int 1)))) tNil)) (tC (.int 2147483629))) (gName 4))
  (tRet (tOp oMod (tOp oDiv (tVar 4) (tC (.int 19))) (tVar 1)))))))

variable {K : PySem.W.Frag} {A : CA} {vs : List V} {H : Hp} {Q : VK} {E : XK}
theorem map_drop_take (xs : List Int) (a b : Nat) : ((xs.map V.int).drop a).take b = ((xs.drop a).take b).map V.int := by rw [← List.map_drop, ← List.map_take]
theorem cut_ints (xs : List Int) (lo hi : Option Int) : ∃ ys : List Int, cutV (xs.map V.int) lo hi = ys.map V.int := ⟨_, map_drop_take xs _ _⟩
theorem rd_law_cell (h : sp_law_cell K A vs H Q E) : t_law_cell K A { nx := fun _ H' => Q .non H', rt := Q } (start ["script", "k"] vs) H := by
  obtain ⟨a, k, ns, rfl, hs, h0, h63, q⟩ := h
  unfold t_law_cell
  walk_at "go"
  refine w_iteD (fun hc => ?_) (fun hc => ?_)
  · have hk : k.toNat < ns.length := by
      rw [List.length_map] at hc; split at hc <;> omega
    have hx : atI (ns.map V.int) k = some (V.int ns[k.toNat]) := at_of (j := k.toNat) (by omega) (by simp [hk])
    walk_at "go"
    exact q _ _ (Same.refl _)
  · walk_at "go"
    intro l hl
    obtain ⟨ys, hy⟩ := cut_ints ns none (some 1)
    rw [hy]
    walk_at "go"
    exact q _ _ (same_new hl)
theorem rd_law_source (h : sp_law_source K A vs H Q E) : t_law_source K A { nx := fun _ H' => Q .non H', rt := Q } (start ["cell"] vs) H := by
  obtain ⟨c, rfl, q⟩ := h
  unfold t_law_source
  walk_at "go"
  refine w_iteD (fun hc => ?_) (fun hc => ?_)
  · walk_at "go"
    intro l hl
    exact q _ _ hl (same_new hl) ⟨_, _, _, upd_same⟩
  · walk_at "go"
    intro l hl
    exact q _ _ hl (same_new hl) ⟨_, _, _, upd_same⟩
theorem rd_law_take (h : sp_law_take K A vs H Q E) : t_law_take K A { nx := fun _ H' => Q .non H', rt := Q } (start ["source", "size", "digit", "first", "second"] vs) H := by
  obtain ⟨s, n, rfl, ⟨x, y, z, hs⟩, h0, h1, k⟩ := h
  unfold t_law_take
  walk_at "go"
  refine w_iteD (fun hc => ?_) (fun hc => ?_)
  · walk_at "go"
    exact k _ _ (Int.emod_nonneg _ (by omega)) (Int.emod_lt_of_pos _ h0) But.refl.self ⟨_, _, _, upd_same⟩
  · walk_at "go"
    exact k _ _ (Int.emod_nonneg _ (by omega)) (Int.emod_lt_of_pos _ h0) But.refl.self ⟨_, _, _, upd_same⟩
end G

namespace G
open PySem L2
/-! ### the law's webs -/
def Par (ps : List Int) : Prop := ∀ (k : Nat) (z : Int), ps[k]? = some z → -1 ≤ z ∧ z < (k : Int)
theorem snocI (xs : List Int) (z : Int) : xs.map V.int ++ [V.int z] = (xs ++ [z]).map V.int := by rw [List.map_append]; rfl
theorem Par.snoc {ps : List Int} {z : Int} (h : Par ps) (h0 : -1 ≤ z) (h1 : z < ps.length) : Par (ps ++ [z]) := by
  intro k w hk
  by_cases hc : k < ps.length
  · rw [List.getElem?_append_left hc] at hk; exact h k w hk
  · rw [List.getElem?_append_right (by omega)] at hk
    have e : k - ps.length = 0 := by
      cases hd : k - ps.length with
      | zero => rfl
      | succ n => rw [hd] at hk; simp at hk
    rw [e] at hk
    have := Option.some.inj hk
    subst this; omega
theorem par1 : Par [-1] := by
  intro k z hk
  cases k with
  | zero =>
    have e : (-1 : Int) = z := Option.some.inj hk
    subst e; decide
  | succ n => simp at hk
def sp_law_parents (K : PySem.W.Frag) (A : CA) : Sp := fun vs H Q _ => ∃ (s : Addr) (many shape : Int), vs = [.ref s, .int many, .int shape] ∧ Src H s ∧ 1 ≤ many ∧ many ≤ 500 ∧
  ∀ (ps : List Int) (p : Addr) (H' : Hp), (ps.length : Int) = many → Par ps → H p = none → But s H H' → Src H' s → H' p = some (.lst (ps.map V.int)) → Q (.ref p) H'
def t_law_parents (K : PySem.W.Frag) (A : CA) : TS :=
  (tSeq (tAsg (tLst (tCons (tUn oNeg (tC (.int 1))) tNil)) (gName 3))
  (tSeq (tFor (iRng2 (tCons (tC (.int 1)) (tCons (tVar 1) tNil))) (gName 4)
  (tIfS (tOr (tTest (tOp rEq (tVar 2) (tC (.int 1)))) (tTest (tOp rEq (tVar 2) (tC (.int 3))))) (tDrop (tBM K "list" rAppend (tVar 3) (tCons (tOp oSub (tVar 4) (tC (.int 1))) tNil))) (tIfS (tTest (tOp rEq (tVar 2) (tC (.int 2)))) (tDrop (tBM K "list" rAppend (tVar 3) (tCons (tC (.int 0)) tNil))) (tDrop (tBM K "list" rAppend (tVar 3) (tCons (tOp oSub (tCall (sp_law_take K A) [] E0 (tCons (tVar 0) (tCons (tOp oAdd (tVar 4) (tC (.int 1))) tNil))) (tC (.int 1))) tNil))))))
  (tRet (tVar 3))))

theorem rd_law_parents {K : PySem.W.Frag} {A : CA} {vs : List V} {H : Hp} {Q : VK} {E : XK} (h : sp_law_parents K A vs H Q E) :
    t_law_parents K A { nx := fun _ H' => Q .non H', rt := Q } (start ["source", "many", "shape", "parents", "k"] vs) H := by
  obtain ⟨s, many, shape, rfl, hs, h1, h2, q⟩ := h
  unfold t_law_parents
  walk_at "go"
  intro p hp
  have nps : p ≠ s := hs.neFree hp
  walk_at "go"
  refine forR (fun i σ H' => ∃ (ps : List Int) (kv : Option V), σ = [some (.ref s), some (.int many), some (.int shape), some (.ref p), kv] ∧ ps.length = i + 1 ∧ Par ps ∧ But s H H' ∧ Src H' s ∧ H' p = some (.lst (ps.map V.int))) ?_ ?_ ?_
  · exact ⟨[-1], none, rfl, rfl, par1, But.refl.new hp, hs.new hp, upd_same⟩
  · rintro i σ H1 hi ⟨ps, kv, rfl, hl, hP, b, s1, h3⟩
    walk_at "go"
    refine w_iteD (fun c1 => ?_) (fun c1 => ?_)
    · walk_at "go"
      refine ⟨ps ++ [1 + (i : Int) - 1], _, rfl, by simp [hl], hP.snoc (by omega) (by omega), b.mut hp, s1.mut nps, ?_⟩
      rw [← snocI]; exact upd_same
    · walk_at "go"
      refine w_iteD (fun c2 => ?_) (fun c2 => ?_)
      · walk_at "go"
        refine ⟨ps ++ [1 + (i : Int) - 1], _, rfl, by simp [hl], hP.snoc (by omega) (by omega), b.mut hp, s1.mut nps, ?_⟩
        rw [← snocI]; exact upd_same
      · walk_at "go"
        refine w_iteD (fun c3 => ?_) (fun c3 => ?_)
        · walk_at "go"
          refine ⟨ps ++ [0], _, rfl, by simp [hl], hP.snoc (by omega) (by omega), b.mut hp, s1.mut nps, ?_⟩
          rw [← snocI]; exact upd_same
        · walk_at "go"
          intro r H2 r0 r1 b2 s2
          walk_at "go"
          refine ⟨ps ++ [r - 1], _, rfl, by simp [hl], hP.snoc (by omega) (by omega), (b.trans b2).mut hp, s2.mut nps, ?_⟩
          rw [← snocI]; exact upd_same
  · rintro σ H1 ⟨ps, kv, rfl, hl, hP, b, s1, h3⟩
    walk_at "go"
    exact q ps p H1 (by omega) hP hp b s1 h3
end G

namespace G
open PySem L2
/-- rows of pairs of pages below m, two different ones each, none twice -/
structure RG (m : Int) (rows : List (Int × Int)) : Prop where
  bd : ∀ r ∈ rows, 0 ≤ r.1 ∧ r.1 < m ∧ 0 ≤ r.2 ∧ r.2 < m ∧ r.1 ≠ r.2
  nd : rows.Nodup
theorem RG.nil {m : Int} : RG m [] := ⟨fun _ h => (by cases h), List.nodup_nil⟩
theorem RG.snoc {m n : Int} {rows : List (Int × Int)} {r : Int × Int} (h : RG m rows) (hm : m ≤ n) (h0 : 0 ≤ r.1) (h1 : r.1 < n) (h2 : 0 ≤ r.2) (h3 : r.2 < n) (h4 : r.1 ≠ r.2) (hn : r ∉ rows) : RG n (rows ++ [r]) := by
  refine ⟨fun x hx => ?_, ?_⟩
  · rcases List.mem_append.mp hx with k | k
    · have := h.bd x k; omega
    · have e := List.mem_singleton.mp k
      subst e; exact ⟨h0, h1, h2, h3, h4⟩
  · rw [List.nodup_append]
    exact ⟨h.nd, by simp, fun a ha b hb e => by
      have e2 := List.mem_singleton.mp hb
      subst e2; subst e; exact hn ha⟩
theorem RG.mono {m n : Int} {rows : List (Int × Int)} (h : RG m rows) (hm : m ≤ n) : RG n rows := ⟨fun x hx => by have := h.bd x hx; omega, h.nd⟩
theorem RG.no {m : Int} {rows : List (Int × Int)} {r : Int × Int} (h : RG m rows) (hr : m ≤ r.1 ∨ m ≤ r.2) : r ∉ rows := fun hm => by have := h.bd r hm; omega
section
variable {H : Hp} {q t : Addr} {vs : List V} {rows : List (Int × Int)} {a b : Int} {o o2 : HO}
theorem push_row (hq : H q = some (.lst vs)) (hp : Paired (PR H) vs rows) (ht : H t = none) : Paired (PR (upd (upd H t (.tup [.int a, .int b])) q o)) (vs ++ [.ref t]) (rows ++ [(a, b)]) := by
  have hqt : q ≠ t := ne_of_none hq ht
  exact (PRs.mutL (keep hq ht) (PRs.new ht hp)).snoc ⟨t, rfl, keepNe upd_same hqt.symm⟩
end
def sp_law_pointers (K : PySem.W.Frag) (A : CA) : Sp := fun vs H Q _ => ∃ (s pp : Addr) (way : Int) (ps : List Int), vs = [.ref s, .ref pp, .int way] ∧ Src H s ∧ H pp = some (.lst (ps.map V.int)) ∧ pp ≠ s ∧ Par ps ∧ 1 ≤ ps.length ∧ ps.length ≤ 200 ∧
  ∀ (rows : List (Int × Int)) (us : List V) (p : Addr) (H' : Hp), RG ps.length rows → us.length ≤ 2 * ps.length → H p = none → But s H H' → Src H' s → H' p = some (.lst us) → Paired (PR H') us rows → Q (.ref p) H'
def t_law_pointers (K : PySem.W.Frag) (A : CA) : TS :=
  (tSeq (tAsg (tLst tNil) (gName 3))
  (tSeq (tFor (iRng2 (tCons (tC (.int 1)) (tCons (tCB (rLenQ K) (tCons (tVar 1) tNil)) tNil))) (gName 4)
  (tIfS (tTest (tOp oGe (tOp (rIxL K) (tVar 1) (tVar 4)) (tC (.int 0)))) (tSeq (tAsg (tVar 2) (gName 5))
  (tSeq (tIfS (tTest (tOp oGt (tVar 2) (tC (.int 2)))) (tAsg (tCall (sp_law_take K A) [] E0 (tCons (tVar 0) (tCons (tC (.int 3)) tNil))) (gName 5)) tNext)
  (tSeq (tIfS (tTest (tOp rNe (tVar 5) (tC (.int 1)))) (tDrop (tBM K "list" rAppend (tVar 3) (tCons (tTup (tCons (tOp (rIxL K) (tVar 1) (tVar 4)) (tCons (tVar 4) tNil))) tNil))) tNext)
  (tIfS (tTest (tOp rNe (tVar 5) (tC (.int 0)))) (tDrop (tBM K "list" rAppend (tVar 3) (tCons (tTup (tCons (tVar 4) (tCons (tOp (rIxL K) (tVar 1) (tVar 4)) tNil))) tNil))) tNext)))) tNext))
  (tRet (tVar 3))))

theorem rd_law_pointers {K : PySem.W.Frag} {A : CA} {vs : List V} {H : Hp} {Q : VK} {E : XK} (h : sp_law_pointers K A vs H Q E) :
    t_law_pointers K A { nx := fun _ H' => Q .non H', rt := Q } (start ["source", "parents", "way", "pointers", "k", "turn"] vs) H := by
  obtain ⟨s, pp, way, ps, rfl, hs, hpp, hne, hP, h1, h2, q⟩ := h
  unfold t_law_pointers
  walk_at "go"
  intro p hp
  have nps : p ≠ s := hs.neFree hp
  have npp : pp ≠ p := ne_of_none hpp hp
  walk_at "go"
  rw [List.length_map]
  refine w_bd2 (by omega) (by omega) (by omega) (by omega) ?_
  refine forR (fun i σ H' => ∃ (rows : List (Int × Int)) (us : List V) (kv tv : Option V), σ = [some (.ref s), some (.ref pp), some (.int way), some (.ref p), kv, tv] ∧ us.length ≤ 2 * i ∧ RG (i + 1 : Nat) rows ∧ But s H H' ∧ Src H' s ∧ H' p = some (.lst us) ∧ Paired (PR H') us rows) ?_ ?_ ?_
  · exact ⟨[], [], none, none, rfl, Nat.le_refl _, .nil, But.refl.new hp, hs.new hp, upd_same, .nil⟩
  · rintro i σ H1 hi ⟨rows, us, kv, tv, rfl, hl, hR, b, s1, h3, h4⟩
    have hpp1 : H1 pp = some (.lst (ps.map V.int)) := b.at hne hpp
    have hk : i + 1 < ps.length := by omega
    have hz := hP (i + 1) ps[i + 1] (List.getElem?_eq_getElem hk)
    have hx : atI (ps.map V.int) (1 + (i : Int)) = some (V.int ps[i + 1]) := at_of (j := i + 1) (by omega) (by simp [hk])
    generalize ps[i + 1] = z at hz hx
    walk_at "go"
    refine w_iteD (fun c1 => ?_) (fun c1 => ?_)
    · walk_at "go"
      -- the two appends, whatever the turn
      have fin : ∀ (turn : Int) (H1 : Hp), But s H H1 → Src H1 s → H1 p = some (.lst us) → Paired (PR H1) us rows → H1 pp = some (.lst (ps.map V.int)) →
          tSeq (tIfS (tTest (tOp rNe (tVar 5) (tC (.int 1)))) (tDrop (tBM K "list" rAppend (tVar 3) (tCons (tTup (tCons (tOp (rIxL K) (tVar 1) (tVar 4)) (tCons (tVar 4) tNil))) tNil))) tNext)
            (tIfS (tTest (tOp rNe (tVar 5) (tC (.int 0)))) (tDrop (tBM K "list" rAppend (tVar 3) (tCons (tTup (tCons (tVar 4) (tCons (tOp (rIxL K) (tVar 1) (tVar 4)) tNil))) tNil))) tNext)
            { nx := fun σ H' => ∃ (rows : List (Int × Int)) (us : List V) (kv tv : Option V), σ = [some (.ref s), some (.ref pp), some (.int way), some (.ref p), kv, tv] ∧ us.length ≤ 2 * (i + 1) ∧ RG (i + 1 + 1 : Nat) rows ∧ But s H H' ∧ Src H' s ∧ H' p = some (.lst us) ∧ Paired (PR H') us rows, rt := Q }
            [some (.ref s), some (.ref pp), some (.int way), some (.ref p), some (.int (1 + (i : Int))), some (.int turn)] H1 := by
        intro turn H1 b s1 h3 h4 hpp1
        walk_at "go"
        refine w_iteN (fun c2 => ?_) (fun c2 => ?_)
        · walk_at "go"
          intro t ht
          have npt : p ≠ t := ne_of_none h3 ht
          have nt : pp ≠ t := ne_of_none hpp1 ht
          have h5 := push_row (a := z) (b := 1 + (i : Int)) (o := .lst (us ++ [.ref t])) h3 h4 ht
          have hR2 : RG (i + 1 + 1 : Nat) (rows ++ [(z, 1 + (i : Int))]) := hR.snoc (by omega) (by omega) (by show z < _; omega) (by omega) (by show (1 + (i : Int)) < _; omega) (by show z ≠ 1 + (i : Int); omega) (hR.no (.inr (by show _ ≤ 1 + (i : Int); omega)))
          walk_at "go"
          refine w_iteN (fun c3 => ?_) (fun c3 => ?_)
          · walk_at "go"
            intro t2 ht2
            have h6 := push_row (a := 1 + (i : Int)) (b := z) (o := .lst (us ++ [.ref t] ++ [.ref t2])) upd_same h5 ht2
            walk_at "go"
            refine ⟨_, _, _, _, rfl, ?_, ?_, (((b.new ht).mut hp).new ht2).mut hp, (((s1.new ht).mut nps).new ht2).mut nps, upd_same, h6⟩
            · simp only [List.length_append, List.length_cons, List.length_nil]; omega
            · refine hR2.snoc (Int.le_refl _) (by show 0 ≤ 1 + (i : Int); omega) (by show 1 + (i : Int) < _; omega) (by omega) (by show z < _; omega) (by show 1 + (i : Int) ≠ z; omega) fun hm => ?_
              rcases List.mem_append.mp hm with k | k
              · exact hR.no (r := (1 + (i : Int), z)) (.inl (by show _ ≤ 1 + (i : Int); omega)) k
              · have e := (Prod.mk.inj (List.mem_singleton.mp k)).1; omega
          · walk_at "go"
            refine ⟨_, _, _, _, rfl, ?_, hR2, (b.new ht).mut hp, (s1.new ht).mut nps, upd_same, h5⟩
            simp only [List.length_append, List.length_cons, List.length_nil]; omega
        · walk_at "go"
          refine w_iteN (fun c3 => ?_) (fun c3 => ?_)
          · walk_at "go"
            intro t2 ht2
            have h6 := push_row (a := 1 + (i : Int)) (b := z) (o := .lst (us ++ [.ref t2])) h3 h4 ht2
            walk_at "go"
            refine ⟨_, _, _, _, rfl, ?_, ?_, (b.new ht2).mut hp, (s1.new ht2).mut nps, upd_same, h6⟩
            · simp only [List.length_append, List.length_cons, List.length_nil]; omega
            · exact hR.snoc (by omega) (by show 0 ≤ 1 + (i : Int); omega) (by show 1 + (i : Int) < _; omega) (by omega) (by show z < _; omega) (by show 1 + (i : Int) ≠ z; omega) (hR.no (.inl (by show _ ≤ 1 + (i : Int); omega)))
          · walk_at "go"
            exact ⟨_, _, _, _, rfl, by omega, hR.mono (by omega), b, s1, h3, h4⟩
      refine w_iteD (fun c2 => ?_) (fun c2 => ?_)
      · walk_at "go"
        intro r H2 r0 r1 b2 s2
        exact fin r H2 (b.trans b2) s2 (b2.at nps h3) (PRs.but b2 s1 h4) (b2.at hne hpp1)
      · exact fin way H1 b s1 h3 h4 hpp1
    · walk_at "go"
      exact ⟨rows, us, _, _, rfl, by omega, hR.mono (by omega), b, s1, h3, h4⟩
  · rintro σ H1 ⟨rows, us, kv, tv, rfl, hl, hR, b, s1, h3, h4⟩
    walk_at "go"
    refine q rows us p H1 (hR.mono (by omega)) (by omega) hp b s1 h3 h4
end G

namespace G
open PySem L2
/-- each page once -/
structure NM (m : Int) (ns : List Int) : Prop where
  len : (ns.length : Int) = m
  bd : ∀ z ∈ ns, 0 ≤ z ∧ z < m
  inj : ∀ (i j : Nat) (a : Int), ns[i]? = some a → ns[j]? = some a → i = j
theorem rng_ints (n : Nat) : rgV 0 (n : Int) = ((List.range n).map fun i => ((i : Nat) : Int)).map V.int := by
  unfold rgV
  rw [List.map_map]
  have e : ((n : Int) - 0).toNat = n := by omega
  rw [e]
  refine List.map_congr_left fun i _ => ?_
  show V.int (0 + (i : Int)) = V.int (i : Int)
  rw [Int.zero_add]
theorem nm_map {n : Nat} {f : Nat → Int} (hb : ∀ i, i < n → 0 ≤ f i ∧ f i < (n : Int)) (hi : ∀ i j, i < n → j < n → f i = f j → i = j) : NM (n : Int) ((List.range n).map f) := by
  refine ⟨by simp, fun z hz => ?_, fun i j a h1 h2 => ?_⟩
  · obtain ⟨i, h, rfl⟩ := List.mem_map.mp hz
    exact hb i (List.mem_range.mp h)
  · rw [List.getElem?_map] at h1 h2
    cases e1 : (List.range n)[i]? with
    | none => rw [e1] at h1; cases h1
    | some x =>
      cases e2 : (List.range n)[j]? with
      | none => rw [e2] at h2; cases h2
      | some y =>
        rw [e1] at h1; rw [e2] at h2
        have g1 := List.getElem?_eq_some_iff.mp e1
        have g2 := List.getElem?_eq_some_iff.mp e2
        obtain ⟨l1, k1⟩ := g1
        obtain ⟨l2, k2⟩ := g2
        rw [List.getElem_range] at k1 k2
        rw [List.length_range] at l1 l2
        have f1 : f x = a := Option.some.inj h1
        have f2 : f y = a := Option.some.inj h2
        subst k1; subst k2
        exact hi _ _ l1 l2 (f1.trans f2.symm)
theorem NM.swap {m : Int} {ns : List Int} {i j : Nat} {a b : Int} (h : NM m ns) (hi : ns[i]? = some a) (hj : ns[j]? = some b) : NM m ((ns.set i b).set j a) := by
  have li := (List.getElem?_eq_some_iff.mp hi).1
  have lj := (List.getElem?_eq_some_iff.mp hj).1
  have key : ∀ (k : Nat) (z : Int), ((ns.set i b).set j a)[k]? = some z → (k = j ∧ z = a) ∨ (k ≠ j ∧ k = i ∧ z = b) ∨ (k ≠ j ∧ k ≠ i ∧ ns[k]? = some z) := by
    intro k z hk
    rw [List.getElem?_set] at hk
    by_cases c1 : j = k
    · rw [if_pos c1, if_pos (by rw [List.length_set]; exact lj)] at hk
      exact .inl ⟨c1.symm, (Option.some.inj hk).symm⟩
    · rw [if_neg c1, List.getElem?_set] at hk
      by_cases c2 : i = k
      · rw [if_pos c2, if_pos li] at hk
        exact .inr (.inl ⟨fun e => c1 e.symm, c2.symm, (Option.some.inj hk).symm⟩)
      · rw [if_neg c2] at hk
        exact .inr (.inr ⟨fun e => c1 e.symm, fun e => c2 e.symm, hk⟩)
  refine ⟨by rw [List.length_set, List.length_set]; exact h.len, fun z hz => ?_, fun k l z h1 h2 => ?_⟩
  · obtain ⟨k, hk⟩ := List.getElem?_of_mem hz
    rcases key k z hk with ⟨_, rfl⟩ | ⟨_, _, rfl⟩ | ⟨_, _, e⟩
    · exact h.bd _ (List.mem_of_getElem? hi)
    · exact h.bd _ (List.mem_of_getElem? hj)
    · exact h.bd _ (List.mem_of_getElem? e)
  · rcases key k z h1 with ⟨rfl, rfl⟩ | ⟨n1, rfl, rfl⟩ | ⟨n1, n2, e⟩ <;> rcases key l _ h2 with ⟨q1, q2⟩ | ⟨m1, q1, q2⟩ | ⟨m1, m2, e'⟩
    · omega
    · subst q2; have := h.inj _ _ _ hi hj; omega
    · have := h.inj _ _ _ hi e'; omega
    · subst q2; have := h.inj _ _ _ hi hj; omega
    · omega
    · have := h.inj _ _ _ hj e'; omega
    · subst q2; have := h.inj _ _ _ hi e; omega
    · subst q2; have := h.inj _ _ _ hj e; omega
    · exact h.inj _ _ _ e e'
theorem NM.get {m : Int} {ns : List Int} (h : NM m ns) {k : Int} (h0 : 0 ≤ k) (h1 : k < m) : ∃ z, ns[k.toNat]? = some z ∧ atI (ns.map V.int) k = some (V.int z) ∧ 0 ≤ z ∧ z < m := by
  have hl := h.len
  have hk : k.toNat < ns.length := by omega
  have hb := h.bd _ (List.getElem_mem hk)
  exact ⟨ns[k.toNat], List.getElem?_eq_getElem hk, at_of (j := k.toNat) (by omega) (by simp [hk]), hb.1, hb.2⟩
def sp_law_names (K : PySem.W.Frag) (A : CA) : Sp := fun vs H Q _ => ∃ (s : Addr) (many : Int), vs = [.ref s, .int many] ∧ Src H s ∧ 1 ≤ many ∧ many ≤ 200 ∧
  ∀ (ns : List Int) (p : Addr) (H' : Hp), NM many ns → H p = none → But s H H' → Src H' s → H' p = some (.lst (ns.map V.int)) → Q (.ref p) H'
def t_law_names (K : PySem.W.Frag) (A : CA) : TS :=
  (tSeq (tAsg (tLstRg (tRg1 (tVar 1))) (gName 2))
  (tSeq (tAsg (tCall (sp_law_take K A) [] E0 (tCons (tVar 0) (tCons (tC (.int 4)) tNil))) (gName 3))
  (tSeq (tIfS (tTest (tOp rEq (tVar 3) (tC (.int 0)))) (tRet (tVar 2)) tNext)
  (tSeq (tIfS (tTest (tOp rEq (tVar 3) (tC (.int 1)))) (tRet (tLc (iRng1 (tCons (tVar 1) tNil)) (gName 4) tYes (tOp oSub (tOp oSub (tVar 1) (tC (.int 1))) (tVar 4)) [4])) tNext)
  (tSeq (tFor (iRng1 (tCons (tOp oSub (tVar 1) (tC (.int 1))) tNil)) (gName 4)
  (tSeq (tAsg (tOp oAdd (tVar 4) (tCall (sp_law_take K A) [] E0 (tCons (tVar 0) (tCons (tOp oSub (tVar 1) (tVar 4)) tNil)))) (gName 5))
  (tSeq (tAsg (tOp (rIxL K) (tVar 2) (tVar 4)) (gName 6))
  (tSeq (tAsg (tOp (rIxL K) (tVar 2) (tVar 5)) (gSub (tVar 2) (tVar 4) rSetL))
  (tAsg (tVar 6) (gSub (tVar 2) (tVar 5) rSetL))))))
  (tRet (tVar 2)))))))

theorem rd_law_names {K : PySem.W.Frag} {A : CA} {vs : List V} {H : Hp} {Q : VK} {E : XK} (h : sp_law_names K A vs H Q E) :
    t_law_names K A { nx := fun _ H' => Q .non H', rt := Q } (start ["source", "many", "names", "way", "k", "other", "held"] vs) H := by
  obtain ⟨s, many, rfl, hs, h1, h2, q⟩ := h
  obtain ⟨n, rfl⟩ : ∃ n : Nat, many = (n : Int) := ⟨many.toNat, by omega⟩
  unfold t_law_names
  walk_at "go"
  refine ⟨RgOk.of_le (by omega) (by omega) (by omega) (by omega), fun p hp => ?_⟩
  have nps : p ≠ s := hs.neFree hp
  rw [rng_ints]
  walk_at "go"
  intro r H1 r0 r1 b1 s1
  have hp1 := b1.at nps upd_same
  have b2 : But s H H1 := (But.refl.new hp).trans b1
  walk_at "go"
  refine w_iteD (fun c1 => ?_) (fun c1 => ?_)
  · walk_at "go"
    exact q _ p H1 (nm_map (fun i hi => ⟨by omega, by omega⟩) fun i j _ _ e => by omega) hp b2 s1 hp1
  · walk_at "go"
    refine w_iteD (fun c2 => ?_) (fun c2 => ?_)
    · walk_at "go"
      refine lcR (fun Dl i H' => But s H H' ∧ Src H' s ∧ H' Dl = some (.lst (((List.range i).map fun (k : Nat) => (n : Int) - 1 - (k : Int)).map V.int))) (fun Dl hD => ⟨b2.new hD, s1.new hD, upd_same⟩) ?_ ?_
      · rintro Dl i H' hD hi ⟨b, s', hL⟩
        have nD : Dl ≠ s := s1.neFree hD
        have hD0 : H Dl = none := b2.back s1 hD
        walk_at "go"
        refine ⟨b.mut hD0, s'.mut nD, ?_⟩
        rw [Int.zero_add, show (List.range (i + 1)).map (fun (k : Nat) => (n : Int) - 1 - (k : Int)) = (List.range i).map (fun (k : Nat) => (n : Int) - 1 - (k : Int)) ++ [(n : Int) - 1 - (i : Int)] by rw [List.range_succ, List.map_append]; rfl, ← snocI]
        exact upd_same
      · rintro Dl H' hD ⟨b, s', hL⟩
        rw [Int.toNat_natCast] at hL
        refine q _ Dl H' (nm_map (f := fun (k : Nat) => (n : Int) - 1 - (k : Int)) (fun i hi => ⟨by omega, by omega⟩) fun i j _ _ e => by omega) (b2.back s1 hD) b s' hL
    · walk_at "go"
      refine forR (fun i σ H' => ∃ (ns : List Int) (k5 k6 k7 : Option V), σ = [some (.ref s), some (.int (n : Int)), some (.ref p), some (.int r), k5, k6, k7] ∧ NM (n : Int) ns ∧ But s H H' ∧ Src H' s ∧ H' p = some (.lst (ns.map V.int))) ?_ ?_ ?_
      · exact ⟨_, none, none, none, rfl, nm_map (fun i hi => ⟨by omega, by omega⟩) (fun i j _ _ e => by omega), b2, s1, hp1⟩
      · rintro i σ H' hi ⟨ns, k5, k6, k7, rfl, hN, b, s2, hL⟩
        walk_at "go"
        intro o H3 o0 o1 b3 s3
        have hL3 := b3.at nps hL
        obtain ⟨u, u1, u2, u3⟩ := hN.get (k := 0 + (i : Int)) (by omega) (by omega)
        obtain ⟨w, w1, w2, w3⟩ := hN.get (k := 0 + (i : Int) + o) (by omega) (by omega)
        have hx1 : ixN (ns.map V.int).length (0 + (i : Int)) = some (0 + (i : Int)).toNat := ixn (by omega) (by rw [List.length_map]; have := hN.len; omega)
        have hx2 : ixN ((ns.map V.int).set (0 + (i : Int)).toNat (.int w)).length (0 + (i : Int) + o) = some (0 + (i : Int) + o).toNat := ixn (by omega) (by rw [List.length_set, List.length_map]; have := hN.len; omega)
        walk_at "go"
        refine ⟨_, _, _, _, rfl, hN.swap u1 w1, ((b.trans b3).mut hp).mut hp, (s3.mut nps).mut nps, ?_⟩
        rw [List.map_set, List.map_set]
        exact upd_same
      · rintro σ H' ⟨ns, k5, k6, k7, rfl, hN, b, s2, hL⟩
        walk_at "go"
        exact q ns p H' hN hp b s2 hL
/-! ### the same pointers under other names, turned round -/
def ren (ns : List Int) (r : Int × Int) : Int × Int := (ns.getD r.1.toNat 0, ns.getD r.2.toNat 0)
theorem NM.at {m : Int} {ns : List Int} (h : NM m ns) {k : Int} (h0 : 0 ≤ k) (h1 : k < m) : atI (ns.map V.int) k = some (V.int (ns.getD k.toNat 0)) ∧ 0 ≤ ns.getD k.toNat 0 ∧ ns.getD k.toNat 0 < m := by
  obtain ⟨z, e1, e2, e3, e4⟩ := h.get h0 h1
  have e : ns.getD k.toNat 0 = z := by rw [List.getD_eq_getElem?_getD, e1]; rfl
  rw [e]; exact ⟨e2, e3, e4⟩
theorem NM.inj' {m : Int} {ns : List Int} (h : NM m ns) {k l : Int} (h0 : 0 ≤ k) (h1 : k < m) (l0 : 0 ≤ l) (l1 : l < m) (e : ns.getD k.toNat 0 = ns.getD l.toNat 0) : k = l := by
  obtain ⟨z, e1, _⟩ := h.get h0 h1
  obtain ⟨w, e2, _⟩ := h.get l0 l1
  rw [List.getD_eq_getElem?_getD, e1, List.getD_eq_getElem?_getD, e2] at e
  have e : z = w := e
  subst e
  have := h.inj _ _ _ e1 e2
  omega
theorem RG.ren {m : Int} {ns : List Int} {rows : List (Int × Int)} (h : RG m rows) (hN : NM m ns) : RG m (rows.map (ren ns)) := by
  refine ⟨fun r hr => ?_, ?_⟩
  · obtain ⟨x, hx, rfl⟩ := List.mem_map.mp hr
    obtain ⟨a, b, c, d, e⟩ := h.bd x hx
    have f1 := hN.at a b
    have f2 := hN.at c d
    exact ⟨f1.2.1, f1.2.2, f2.2.1, f2.2.2, fun z => e (hN.inj' a b c d z)⟩
  · have hb := h.bd
    have hd := h.nd
    clear h
    induction rows with
    | nil => exact List.nodup_nil
    | cons x r ih =>
      rw [List.map_cons, List.nodup_cons]
      rw [List.nodup_cons] at hd
      refine ⟨fun hm => ?_, ih (fun y hy => hb y (List.mem_cons_of_mem _ hy)) hd.2⟩
      obtain ⟨y, hy, e⟩ := List.mem_map.mp hm
      have h1 := hb x List.mem_cons_self
      have h2 := hb y (List.mem_cons_of_mem _ hy)
      have e1 := hN.inj' h2.1 h2.2.1 h1.1 h1.2.1 (congrArg Prod.fst e)
      have e2 := hN.inj' h2.2.2.1 h2.2.2.2.1 h1.2.2.1 h1.2.2.2.1 (congrArg Prod.snd e)
      have : y = x := Prod.ext e1 e2
      subst this; exact hd.1 hy
theorem RG.rot {m : Int} {rows : List (Int × Int)} (k : Nat) (h : RG m rows) : RG m (rows.drop k ++ rows.take k) := by
  have hp : (rows.drop k ++ rows.take k).Perm rows := (List.perm_append_comm).trans (by rw [List.take_append_drop])
  exact ⟨fun r hr => h.bd r (hp.mem_iff.mp hr), hp.nodup_iff.mpr h.nd⟩
theorem cut_from (xs : List V) (t : Nat) (h : t ≤ xs.length) : cutV xs (some (t : Int)) none = xs.drop t := by
  unfold cutV
  rw [show HT.sIx xs.length 0 (some (t : Int)) = t by rw [HT.sIx_nat]; omega, HT.sIx_none]
  exact List.take_of_length_le (by rw [List.length_drop]; omega)
theorem cut_to (xs : List V) (t : Nat) (h : t ≤ xs.length) : cutV xs none (some (t : Int)) = xs.take t := by
  unfold cutV
  rw [show HT.sIx xs.length xs.length (some (t : Int)) = t by rw [HT.sIx_nat]; omega, HT.sIx_none]
  rfl
theorem Paired.drop {α β : Type} {F : α → β → Prop} : ∀ (k : Nat) {l₁ : List α} {l₂ : List β}, Paired F l₁ l₂ → Paired F (l₁.drop k) (l₂.drop k)
  | 0, _, _, h => h
  | _ + 1, _, _, .nil => .nil
  | k + 1, _, _, .cons _ r => Paired.drop k r
theorem Paired.take {α β : Type} {F : α → β → Prop} : ∀ (k : Nat) {l₁ : List α} {l₂ : List β}, Paired F l₁ l₂ → Paired F (l₁.take k) (l₂.take k)
  | 0, _, _, _ => .nil
  | _ + 1, _, _, .nil => .nil
  | k + 1, _, _, .cons f r => .cons f (Paired.take k r)
theorem Paired.app {α β : Type} {F : α → β → Prop} {l₃ : List α} {l₄ : List β} (h2 : Paired F l₃ l₄) : ∀ {l₁ : List α} {l₂ : List β}, Paired F l₁ l₂ → Paired F (l₁ ++ l₃) (l₂ ++ l₄)
  | _, _, .nil => h2
  | _, _, .cons f r => .cons f (Paired.app h2 r)
def sp_law_named (K : PySem.W.Frag) (A : CA) : Sp := fun vs H Q _ => ∃ (q p : Addr) (turn : Nat) (rows : List (Int × Int)) (us : List V) (ns : List Int) (m : Int), vs = [.ref q, .ref p, .int (turn : Int)] ∧ H q = some (.lst us) ∧ Paired (PR H) us rows ∧ RG m rows ∧ NM m ns ∧ H p = some (.lst (ns.map V.int)) ∧
  turn ≤ us.length ∧ us.length ≤ 900 ∧ ∀ (rows' : List (Int × Int)) (us' : List V) (l : Addr) (H' : Hp), RG m rows' → us'.length = us.length → H l = none → Same H H' → H' l = some (.lst us') → Paired (PR H') us' rows' → Q (.ref l) H'
def t_law_named (K : PySem.W.Frag) (A : CA) : TS :=
  (tSeq (tAsg (tLc (iList K (tVar 0)) (gName 4) tYes (tTup (tCons (tOp (rIxL K) (tVar 1) (tOp (rIxT K) (tVar 4) (tC (.int 0)))) (tCons (tOp (rIxL K) (tVar 1) (tOp (rIxT K) (tVar 4) (tC (.int 1)))) tNil))) [4]) (gName 3))
  (tRet (tOp rCat (tSl (rSlL K) (tVar 3) (tPart (tVar 2)) tNoPart) (tSl (rSlL K) (tVar 3) tNoPart (tPart (tVar 2))))))

theorem rd_law_named {K : PySem.W.Frag} {A : CA} {vs : List V} {H : Hp} {Q : VK} {E : XK} (h : sp_law_named K A vs H Q E) :
    t_law_named K A { nx := fun _ H' => Q .non H', rt := Q } (start ["pointers", "names", "turn", "named", "pair"] vs) H := by
  obtain ⟨q, p, turn, rows, us, ns, m, rfl, hq, hP, hR, hN, hp, ht, hl, k⟩ := h
  have hlen := hP.length
  unfold t_law_named
  walk_at "go"
  refine lcL (xs := us) (fun Dl i H' => Same H H' ∧ ∃ ws, H' Dl = some (.lst ws) ∧ ws.length = i ∧ Paired (PR H') ws ((rows.map (ren ns)).take i)) (fun Dl hD => ⟨same_new hD, [], upd_same, rfl, .nil⟩) (fun Dl i H' hD hi ⟨e, _⟩ => SqL.of (e _ _ hq)) ?_ ?_
  · rintro Dl i x H' hD hx ⟨e, ws, hD', hw, hW⟩
    obtain ⟨r, hr, t, rfl, htup⟩ := Paired.at' hP hx
    have hb := hR.bd r (List.mem_of_getElem? hr)
    have f1 := (hN.at hb.1 hb.2.1).1
    have f2 := (hN.at hb.2.2.1 hb.2.2.2.1).1
    have htup' := e _ _ htup
    have hp' := e _ _ hp
    have hi : i < us.length := (List.getElem?_eq_some_iff.mp hx).1
    walk_at "go"
    intro t2 ht2
    walk_at "go"
    refine ⟨same_mut (e.trans (same_new ht2)) hD, _, upd_same, by simp [hw], ?_⟩
    have hi2 : i < (rows.map (ren ns)).length := by rw [List.length_map]; omega
    rw [List.take_succ, List.getElem?_map, hr]
    exact push_row hD' hW ht2
  · rintro Dl H' hD ⟨e, ws, hD', hw, hW⟩
    rw [hlen, List.take_of_length_le (by rw [List.length_map]; exact Nat.le_refl _)] at hW
    walk_at "go"
    intro l1 hl1
    rw [cut_from ws turn (by omega)]
    walk_at "go"
    intro l2 hl2
    rw [cut_to ws turn (by omega)]
    have n12 : l1 ≠ l2 := ne_of_none upd_same hl2
    walk_at "go"
    intro l hl3
    have e3 := ((e.trans (same_new hl1)).trans (same_new hl2)).trans (same_new (o := .lst (ws.drop turn ++ ws.take turn)) hl3)
    refine k ((rows.map (ren ns)).drop turn ++ (rows.map (ren ns)).take turn) _ l _ ((hR.ren hN).rot turn) ?_ (((e.trans (same_new hl1)).trans (same_new hl2)).free hl3) e3 upd_same ?_
    · rw [List.length_append, List.length_drop, List.length_take]; omega
    · have hW3 := PRs.new (o := .lst (ws.drop turn ++ ws.take turn)) hl3 (PRs.new (o := .lst (ws.take turn)) hl2 (PRs.new (o := .lst (ws.drop turn)) hl1 hW))
      exact Paired.app (Paired.take turn hW3) (Paired.drop turn hW3)
end G

namespace G
open PySem L2
/-! ### further pointers -/
def RB (m : Int) (rows : List (Int × Int)) : Prop := ∀ r ∈ rows, 0 ≤ r.1 ∧ r.1 < m ∧ 0 ≤ r.2 ∧ r.2 < m
theorem RB.snoc {m a b : Int} {rows : List (Int × Int)} (h : RB m rows) (h0 : 0 ≤ a) (h1 : a < m) (h2 : 0 ≤ b) (h3 : b < m) : RB m (rows ++ [(a, b)]) := fun x hx => by
  rcases List.mem_append.mp hx with k | k
  · exact h x k
  · have e := List.mem_singleton.mp k
    subst e; exact ⟨h0, h1, h2, h3⟩
/-- a growing list of rows at q beside the source s, behind H0 -/
structure Grow (H0 : Hp) (s q : Addr) (us : List V) (rows : List (Int × Int)) (H : Hp) : Prop where
  b : But s H0 H
  src : Src H s
  at_ : H q = some (.lst us)
  pr : Paired (PR H) us rows
theorem Grow.step {H0 H H' : Hp} {s q : Addr} {us : List V} {rows : List (Int × Int)} (g : Grow H0 s q us rows H) (hn : q ≠ s) (b : But s H H') (hs : Src H' s) : Grow H0 s q us rows H' :=
  ⟨g.b.trans b, hs, b.at hn g.at_, PRs.but b g.src g.pr⟩
theorem Grow.push {H0 H : Hp} {s q t : Addr} {us : List V} {rows : List (Int × Int)} {a b : Int} (g : Grow H0 s q us rows H) (hn : q ≠ s) (h0 : H0 q = none) (ht : H t = none) :
    Grow H0 s q (us ++ [.ref t]) (rows ++ [(a, b)]) (upd (upd H t (.tup [.int a, .int b])) q (.lst (us ++ [.ref t]))) :=
  ⟨(g.b.new ht).mut h0, (g.src.new ht).mut hn, upd_same, push_row g.at_ g.pr ht⟩
theorem Grow.start {H : Hp} {s q : Addr} (hs : Src H s) (hq : H q = none) : Grow H s q [] [] (upd H q (.lst [])) := ⟨But.refl.new hq, hs.new hq, upd_same, .nil⟩
def sp_law_extras (K : PySem.W.Frag) (A : CA) : Sp := fun vs H Q _ => ∃ (s : Addr) (many shape : Int), vs = [.ref s, .int many, .int shape] ∧ Src H s ∧ 1 ≤ many ∧ many ≤ 200 ∧
  ∀ (rows : List (Int × Int)) (us : List V) (p : Addr) (H' : Hp), RB many rows → us.length ≤ 60 → H p = none → But s H H' → Src H' s → H' p = some (.lst us) → Paired (PR H') us rows → Q (.ref p) H'
def t_law_extras (K : PySem.W.Frag) (A : CA) : TS :=
  (tSeq (tAsg (tLst tNil) (gName 3))
  (C8.tCut (tIfS (tTest (tOp rEq (tVar 2) (tC (.int 3)))) (tDrop (tBM K "list" rAppend (tVar 3) (tCons (tTup (tCons (tOp oSub (tVar 1) (tC (.int 1))) (tCons (tC (.int 0)) tNil))) tNil))) tNext)
  (C8.tCut (tIfS (tOr (tTest (tOp rEq (tVar 2) (tC (.int 4)))) (tAnd (tTest (tOp rEq (tVar 2) (tC (.int 5)))) (tTest (tOp oGt (tVar 1) (tC (.int 7)))))) (tFor (iRng1 (tCons (tOp oAdd (tC (.int 1)) (tCall (sp_law_take K A) [] E0 (tCons (tVar 0) (tCons (tC (.int 8)) tNil)))) tNil)) (gName 4)
  (tSeq (tAsg (tCall (sp_law_take K A) [] E0 (tCons (tVar 0) (tCons (tVar 1) tNil))) (gName 5))
  (tDrop (tBM K "list" rAppend (tVar 3) (tCons (tTup (tCons (tVar 5) (tCons (tCall (sp_law_take K A) [] E0 (tCons (tVar 0) (tCons (tVar 1) tNil))) tNil))) tNil))))) tNext)
  (C8.tCut (tIfS (tAnd (tTest (tOp rEq (tVar 2) (tC (.int 5)))) (tTest (tOp oLe (tVar 1) (tC (.int 7))))) (tSeq (tAsg (tOp oAdd (tC (.int 2)) (tCall (sp_law_take K A) [] E0 (tCons (tVar 0) (tCons (tC (.int 3)) tNil)))) (gName 6))
  (tFor (iRng1 (tCons (tVar 1) tNil)) (gName 5)
  (tFor (iRng1 (tCons (tVar 1) tNil)) (gName 7)
  (tIfS (tAnd (tTest (tOp rNe (tVar 5) (tVar 7))) (tTest (tOp rEq (tCall (sp_law_take K A) [] E0 (tCons (tVar 0) (tCons (tVar 6) tNil))) (tC (.int 0))))) (tDrop (tBM K "list" rAppend (tVar 3) (tCons (tTup (tCons (tVar 5) (tCons (tVar 7) tNil))) tNil))) tNext)))) tNext)
  (tRet (tVar 3))))))

theorem rd_law_extras {K : PySem.W.Frag} {A : CA} {vs : List V} {H : Hp} {Q : VK} {E : XK} (h : sp_law_extras K A vs H Q E) :
    t_law_extras K A { nx := fun _ H' => Q .non H', rt := Q } (start ["source", "many", "shape", "more", "k", "start", "share", "end"] vs) H := by
  obtain ⟨s, many, shape, rfl, hs, h1, h2, q⟩ := h
  unfold t_law_extras
  walk_at "go"
  intro p hp
  have nps : p ≠ s := hs.neFree hp
  have g0 := Grow.start hs hp
  refine w_cut (fun σ H1 => ∃ (rows : List (Int × Int)) (us : List V) (k4 k5 k6 k7 : Option V), σ = [some (.ref s), some (.int many), some (.int shape), some (.ref p), k4, k5, k6, k7] ∧ RB many rows ∧ us.length ≤ 1 ∧ Grow H s p us rows H1) ?_ ?_
  · have h3 := g0.at_
    walk_at "go"
    refine w_iteD (fun c1 => ?_) (fun c1 => ?_)
    · walk_at "go"
      intro t ht
      walk_at "go"
      exact ⟨[(many - 1, 0)], [.ref t], none, none, none, none, rfl, RB.snoc (rows := []) (fun x hx => by cases hx) (by omega) (by omega) (by omega) (by omega), Nat.le_refl _, g0.push nps hp ht⟩
    · walk_at "go"
      exact ⟨[], [], none, none, none, none, rfl, (fun x hx => by cases hx), Nat.zero_le _, g0⟩
  rintro σ H1 ⟨rows, us, k4, k5, k6, k7, rfl, hB, hl, g⟩
  refine w_cut (fun σ H1 => ∃ (rows : List (Int × Int)) (us : List V) (k4 k5 k6 k7 : Option V), σ = [some (.ref s), some (.int many), some (.int shape), some (.ref p), k4, k5, k6, k7] ∧ RB many rows ∧ us.length ≤ 10 ∧ Grow H s p us rows H1) ?_ ?_
  · have s1 := g.src
    have loop : tFor (iRng1 (tCons (tOp oAdd (tC (.int 1)) (tCall (sp_law_take K A) [] E0 (tCons (tVar 0) (tCons (tC (.int 8)) tNil)))) tNil)) (gName 4)
        (tSeq (tAsg (tCall (sp_law_take K A) [] E0 (tCons (tVar 0) (tCons (tVar 1) tNil))) (gName 5))
          (tDrop (tBM K "list" rAppend (tVar 3) (tCons (tTup (tCons (tVar 5) (tCons (tCall (sp_law_take K A) [] E0 (tCons (tVar 0) (tCons (tVar 1) tNil))) tNil))) tNil))))
        { nx := fun σ H1 => ∃ (rows : List (Int × Int)) (us : List V) (k4 k5 k6 k7 : Option V), σ = [some (.ref s), some (.int many), some (.int shape), some (.ref p), k4, k5, k6, k7] ∧ RB many rows ∧ us.length ≤ 10 ∧ Grow H s p us rows H1, rt := Q }
        [some (.ref s), some (.int many), some (.int shape), some (.ref p), k4, k5, k6, k7] H1 := by
      walk_at "go"
      intro z H2 z0 z1 b2 s2
      have g2 := g.step nps b2 s2
      walk_at "go"
      refine forR (fun i σ H1 => ∃ (rows : List (Int × Int)) (us : List V) (k4 k5 k6 k7 : Option V), σ = [some (.ref s), some (.int many), some (.int shape), some (.ref p), k4, k5, k6, k7] ∧ RB many rows ∧ us.length ≤ 1 + i ∧ Grow H s p us rows H1) ?_ ?_ ?_
      · exact ⟨rows, us, k4, k5, k6, k7, rfl, hB, hl, g2⟩
      · rintro i σ H3 hi ⟨rows, us, k4, k5, k6, k7, rfl, hB, hl, g⟩
        have s3 := g.src
        walk_at "go"
        intro a H4 a0 a1 b4 s4
        have g4 := g.step nps b4 s4
        have h4 := g4.at_
        walk_at "go"
        intro c H5 c0 c1 b5 s5
        have g5 := g4.step nps b5 s5
        have h5 := g5.at_
        walk_at "go"
        intro t ht
        walk_at "go"
        refine ⟨_, _, _, _, _, _, rfl, hB.snoc a0 a1 c0 c1, ?_, g5.push nps hp ht⟩
        rw [List.length_append, List.length_singleton]; omega
      · rintro σ H3 ⟨rows, us, k4, k5, k6, k7, rfl, hB, hl, g⟩
        exact ⟨rows, us, k4, k5, k6, k7, rfl, hB, by omega, g⟩
    have no : ∀ Q : Prop, ((∃ (rows : List (Int × Int)) (us : List V) (k4' k5' k6' k7' : Option V), [some (V.ref s), some (.int many), some (.int shape), some (.ref p), k4, k5, k6, k7] = [some (.ref s), some (.int many), some (.int shape), some (.ref p), k4', k5', k6', k7'] ∧ RB many rows ∧ us.length ≤ 10 ∧ Grow H s p us rows H1) → Q) → Q := fun _ f => f ⟨rows, us, k4, k5, k6, k7, rfl, hB, by omega, g⟩
    walk_at "go"
    refine w_iteD (fun c1 => ?_) (fun c1 => ?_)
    · with_reducible refine w_iteT ?_
      exact loop
    · walk_at "go"
      refine w_iteD (fun c2 => ?_) (fun c2 => ?_)
      · walk_at "go"
        refine w_iteD (fun c3 => ?_) (fun c3 => ?_)
        · exact loop
        · walk_at "go"
          exact no _ id
      · walk_at "go"
        exact no _ id
  rintro σ H1 ⟨rows, us, k4, k5, k6, k7, rfl, hB, hl, g⟩
  have s1 := g.src
  refine w_cut (fun σ H1 => ∃ (rows : List (Int × Int)) (us : List V) (k4 k5 k6 k7 : Option V), σ = [some (.ref s), some (.int many), some (.int shape), some (.ref p), k4, k5, k6, k7] ∧ RB many rows ∧ us.length ≤ 60 ∧ Grow H s p us rows H1) ?_ ?_
  · walk_at "go"
    refine w_iteD (fun c1 => ?_) (fun c1 => ?_)
    · walk_at "go"
      refine w_iteD (fun c2 => ?_) (fun c2 => ?_)
      · walk_at "go"
        intro sh H2 r0 r1 b2 s2
        have g2 := g.step nps b2 s2
        walk_at "go"
        refine forR (fun i σ H' => ∃ (rows : List (Int × Int)) (us : List V) (k4 k5 k7 : Option V), σ = [some (.ref s), some (.int many), some (.int shape), some (.ref p), k4, k5, some (.int (2 + sh)), k7] ∧ RB many rows ∧ us.length ≤ 10 + 7 * i ∧ Grow H s p us rows H') ?_ ?_ ?_
        · exact ⟨rows, us, k4, k5, k7, rfl, hB, hl, g2⟩
        · rintro i σ H3 hi ⟨rows, us, k4, k5, k7, rfl, hB, hl, g⟩
          walk_at "go"
          refine forR (fun j σ H' => ∃ (rows : List (Int × Int)) (us : List V) (k4 k7 : Option V), σ = [some (.ref s), some (.int many), some (.int shape), some (.ref p), k4, some (.int (0 + (i : Int))), some (.int (2 + sh)), k7] ∧ RB many rows ∧ us.length ≤ 10 + 7 * i + j ∧ Grow H s p us rows H') ?_ ?_ ?_
          · exact ⟨rows, us, k4, k7, rfl, hB, hl, g⟩
          · rintro j σ H4 hj ⟨rows, us, k4, k7, rfl, hB, hl, g⟩
            have s4 := g.src
            have h3 := g.at_
            walk_at "go"
            refine w_iteN (fun c3 => ?_) (fun c3 => ?_)
            · walk_at "go"
              intro r H5 r0 r1 b5 s5
              have g5 := g.step nps b5 s5
              have h5 := g5.at_
              walk_at "go"
              refine w_iteD (fun c4 => ?_) (fun c4 => ?_)
              · walk_at "go"
                intro t ht
                walk_at "go"
                refine ⟨_, _, _, _, rfl, hB.snoc (by omega) (by omega) (by omega) (by omega), ?_, g5.push nps hp ht⟩
                rw [List.length_append, List.length_singleton]; omega
              · walk_at "go"
                exact ⟨rows, us, _, _, rfl, hB, by omega, g5⟩
            · walk_at "go"
              exact ⟨rows, us, _, _, rfl, hB, by omega, g⟩
          · rintro σ H4 ⟨rows, us, k4, k7, rfl, hB, hl, g⟩
            exact ⟨rows, us, _, _, _, rfl, hB, by omega, g⟩
        · rintro σ H3 ⟨rows, us, k4, k5, k7, rfl, hB, hl, g⟩
          exact ⟨rows, us, _, _, _, _, rfl, hB, by omega, g⟩
      · walk_at "go"
        exact ⟨rows, us, _, _, _, _, rfl, hB, by omega, g⟩
    · walk_at "go"
      exact ⟨rows, us, _, _, _, _, rfl, hB, by omega, g⟩
  rintro σ H3 ⟨rows, us, k4, k5, k6, k7, rfl, hB, hl, g⟩
  walk_at "go"
  exact q rows us p H3 hB hl hp g.b g.src g.at_ g.pr
end G

namespace G
open PySem L2
/-! ### a pair in a list of pairs -/
def pd (r : Int × Int) : PyData := .tuple [.int r.1, .int r.2]
theorem pd_eqv (r s : Int × Int) : PyData.eqv (pd r) (pd s) = decide (r = s) := by
  show (PyData.eqv (.int r.1) (.int s.1) && (PyData.eqv (.int r.2) (.int s.2) && PyData.eqvAll [] [])) = _
  simp only [PyData.eqv, PyData.eqvAll, Bool.and_true]
  by_cases h1 : r.1 = s.1
  · by_cases h2 : r.2 = s.2
    · have : r = s := Prod.ext h1 h2
      subst this; simp
    · have : ¬ r = s := fun e => h2 (congrArg Prod.snd e)
      simp [h1, h2, this]
  · have : ¬ r = s := fun e => h1 (congrArg Prod.fst e)
    simp [h1, this]
theorem pd_any (rows : List (Int × Int)) (r : Int × Int) : ((rows.map pd).any fun z => PyData.eqv z (pd r)) = decide (r ∈ rows) := by
  induction rows with
  | nil => simp
  | cons x xs ih =>
    rw [List.map_cons, List.any_cons, ih, pd_eqv]
    by_cases h : x = r
    · subst h; simp
    · have h' : ¬ r = x := fun e => h e.symm
      simp [h, h']
theorem pd_shaped (r : Int × Int) : SeqAt.shaped (pd r) = true := rfl
theorem pd_lay (rows : List (Int × Int)) : PyData.canLayAll0 (rows.map pd) = true := by
  induction rows with
  | nil => rfl
  | cons x xs ih => rw [List.map_cons]; simp only [PyData.canLayAll0, ih, Bool.and_true]; rfl
theorem pd_depth (rows : List (Int × Int)) : PyData.depthAll (rows.map pd) ≤ 1 := by
  induction rows with
  | nil => exact Nat.zero_le _
  | cons x xs ih =>
    rw [List.map_cons]
    show max (PyData.depth (pd x)) (PyData.depthAll (xs.map pd)) ≤ 1
    exact Nat.max_le.mpr ⟨Nat.le_refl 1, ih⟩
theorem pds_shaped (rows : List (Int × Int)) : SeqAt.shaped (.list (rows.map pd)) = true := by
  have h1 : PyData.canLay0 (.list (rows.map pd)) = true := pd_lay rows
  have h2 : PyData.depth (.list (rows.map pd)) ≤ 64 := by
    show PyData.depthAll (rows.map pd) + 1 ≤ 64
    have := pd_depth rows; omega
  show (PyData.canLay0 (.list (rows.map pd)) && decide (PyData.depth (.list (rows.map pd)) ≤ 64)) = true
  rw [h1, decide_eq_true h2]; rfl
theorem dp_row {K : PySem.W.Frag} {H : Hp} {v : V} {r : Int × Int} (h : PR H v r) : Dp K H v (pd r) := by
  obtain ⟨t, rfl, ht⟩ := h
  exact .tup (.inl (.inl ht)) (.cons (.int _) (.cons (.int _) .nil))
theorem dp_all {K : PySem.W.Frag} {H : Hp} : ∀ {vs : List V} {rows : List (Int × Int)}, Paired (PR H) vs rows → DpAll K H vs (rows.map pd)
  | _, _, .nil => .nil
  | _, _, .cons f r => .cons (dp_row f) (dp_all r)
theorem dp_rows {K : PySem.W.Frag} {H : Hp} {p : Addr} {vs : List V} {rows : List (Int × Int)} (hp : H p = some (.lst vs)) (h : Paired (PR H) vs rows) : Dp K H (.ref p) (.list (rows.map pd)) := .lst (SqL.of hp) (dp_all h)
def sp_law_joined (K : PySem.W.Frag) (A : CA) : Sp := fun vs H Q _ => ∃ (q p : Addr) (rows more : List (Int × Int)) (us ws : List V) (m : Int), vs = [.ref q, .ref p] ∧ H q = some (.lst us) ∧ Paired (PR H) us rows ∧ RG m rows ∧ H p = some (.lst ws) ∧ Paired (PR H) ws more ∧ RB m more ∧
  us.length ≤ 400 ∧ ws.length ≤ 60 ∧ ∀ (rows' : List (Int × Int)) (us' : List V) (l : Addr) (H' : Hp), RG m rows' → us'.length ≤ us.length + ws.length → H l = none → Same H H' → H' l = some (.lst us') → Paired (PR H') us' rows' → Q (.ref l) H'
def t_law_joined (K : PySem.W.Frag) (A : CA) : TS :=
  (tSeq (tAsg (tCB (oListOf K) (tCons (tVar 0) tNil)) (gName 2))
  (tSeq (tFor (iList K (tVar 1)) (gName 3)
  (tIfS (tAnd (tTest (tOp rNe (tOp (rIxT K) (tVar 3) (tC (.int 0))) (tOp (rIxT K) (tVar 3) (tC (.int 1))))) (tTest (tOp (rNotInD K) (tVar 3) (tVar 2)))) (tDrop (tBM K "list" rAppend (tVar 2) (tCons (tVar 3) tNil))) tNext))
  (tRet (tVar 2))))

theorem rd_law_joined {K : PySem.W.Frag} {A : CA} {vs : List V} {H : Hp} {Q : VK} {E : XK} (h : sp_law_joined K A vs H Q E) :
    t_law_joined K A { nx := fun _ H' => Q .non H', rt := Q } (start ["pointers", "more", "joined", "pair"] vs) H := by
  obtain ⟨q, p, rows, more, us, ws, m, rfl, hq, hP, hR, hp, hM, hB, hl, hw, k⟩ := h
  unfold t_law_joined
  walk_at "go"
  intro l hl0
  have npl : p ≠ l := ne_of_none hp hl0
  walk_at "go"
  refine forL (xs := ws) (fun i σ H' => ∃ (rows' : List (Int × Int)) (us' : List V) (k3 : Option V), σ = [some (.ref q), some (.ref p), some (.ref l), k3] ∧ RG m rows' ∧ us'.length ≤ us.length + i ∧ Same H H' ∧ H' l = some (.lst us') ∧ Paired (PR H') us' rows') ?_ ?_ ?_ ?_
  · exact ⟨rows, us, none, rfl, hR, Nat.le_refl _, same_new hl0, upd_same, PRs.new hl0 hP⟩
  · rintro i σ H1 hi ⟨rows', us', k3, rfl, hR', hl', e, hL, hP'⟩
    exact SqL.of (e _ _ hp)
  · rintro i x σ H1 hx ⟨rows', us', k3, rfl, hR', hl', e, hL, hP'⟩
    obtain ⟨r, hr, t, rfl, ht⟩ := Paired.at' hM hx
    have hb := hB r (List.mem_of_getElem? hr)
    have ht' := e _ _ ht
    have hi : i < ws.length := (List.getElem?_eq_some_iff.mp hx).1
    walk_at "go"
    refine w_iteN (fun c1 => ?_) (fun c1 => ?_)
    · walk_at "go"
      refine ⟨pd r, rows'.map pd, dp_row ⟨t, rfl, ht'⟩, dp_rows hL hP', pd_shaped r, pds_shaped _, ?_⟩
      rw [pd_any]
      walk_at "go"
      refine w_iteN (fun c2 => ?_) (fun c2 => ?_)
      · walk_at "go"
        refine ⟨rows' ++ [r], _, _, rfl, hR'.snoc (Int.le_refl _) hb.1 hb.2.1 hb.2.2.1 hb.2.2.2 c1 c2, ?_, same_mut e hl0, upd_same, ?_⟩
        · rw [List.length_append, List.length_singleton]; omega
        · exact (PRs.mutL hL hP').snoc ⟨t, rfl, keepNe ht' (ne_of ht' hL (by intro z; cases z))⟩
      · walk_at "go"
        exact ⟨rows', us', _, rfl, hR', by omega, e, hL, hP'⟩
    · walk_at "go"
      exact ⟨rows', us', _, rfl, hR', by omega, e, hL, hP'⟩
  · rintro σ H1 ⟨rows', us', k3, rfl, hR', hl', e, hL, hP'⟩
    walk_at "go"
    exact k rows' us' l H1 hR' hl' hl0 e hL hP'
/-! ### the law's world -/
theorem Src.but {s s0 : Addr} {H H' : Hp} (b : But s H H') (hn : s0 ≠ s) (h : Src H s0) : Src H' s0 := let ⟨x, y, z, e⟩ := h; ⟨x, y, z, b.at hn e⟩
theorem same_but {s : Addr} {H H1 H2 : Hp} (e : Same H H1) (hs : H s = none) (b : But s H1 H2) : Same H H2 := fun c o h => b c o (ne_of_none h hs) (e c o h)
def sp_law_world (K : PySem.W.Frag) (A : CA) : Sp := fun vs H Q _ => ∃ (a : Addr) (room : Int) (ns : List Int), vs = [.ref a, .int room] ∧ SqL K H a (ns.map V.int) ∧ ns.length ≤ 63 ∧ 1 ≤ room ∧ room ≤ 100 ∧
  ∀ (many shape : Int) (rows : List (Int × Int)) (us : List V) (names parents : List Int) (t pq np pp : Addr) (H' : Hp), Same H H' → H t = none → H pq = none → H np = none → H pp = none → H' t = some (.tup [.int many, .ref pq, .ref np, .ref pp, .int shape]) → 1 ≤ many → many ≤ 110 →
    RG many rows → us.length ≤ 500 → H' pq = some (.lst us) → Paired (PR H') us rows → H' np = some (.lst (names.map V.int)) → NM many names → H' pp = some (.lst (parents.map V.int)) → Q (.ref t) H'
def t_law_world (K : PySem.W.Frag) (A : CA) : TS :=
  (tSeq (tAsg (tCall (sp_law_source K A) [] E0 (tCons (tCall (sp_law_cell K A) [] E0 (tCons (tVar 0) (tCons (tC (.int 0)) tNil))) tNil)) (gName 2))
  (tSeq (tAsg (tOp oAdd (tC (.int 1)) (tCall (sp_law_take K A) [] E0 (tCons (tVar 2) (tCons (tC (.int 7)) tNil)))) (gName 3))
  (C8.tCut (tIfS (tTest (tOp rEq (tCall (sp_law_take K A) [] E0 (tCons (tVar 2) (tCons (tC (.int 8)) tNil))) (tC (.int 5)))) (tAsg (tOp oAdd (tC (.int 10)) (tCall (sp_law_take K A) [] E0 (tCons (tVar 2) (tCons (tVar 1) tNil)))) (gName 3)) tNext)
  (tSeq (tAsg (tOp (rIxL K) (tLst (tCons (tC (.int 0)) (tCons (tC (.int 0)) (tCons (tC (.int 1)) (tCons (tC (.int 2)) (tCons (tC (.int 3)) (tCons (tC (.int 4)) (tCons (tC (.int 5)) (tCons (tC (.int 5)) tNil))))))))) (tCall (sp_law_take K A) [] E0 (tCons (tVar 2) (tCons (tC (.int 8)) tNil)))) (gName 4))
  (tSeq (tAsg (tCall (sp_law_take K A) [] E0 (tCons (tVar 2) (tCons (tC (.int 6)) tNil))) (gName 5))
  (tSeq (tAsg (tCall (sp_law_parents K A) [] E0 (tCons (tCall (sp_law_source K A) [] E0 (tCons (tCall (sp_law_cell K A) [] E0 (tCons (tVar 0) (tCons (tC (.int 1)) tNil))) tNil)) (tCons (tVar 3) (tCons (tVar 4) tNil)))) (gName 6))
  (tSeq (tAsg (tCall (sp_law_pointers K A) [] E0 (tCons (tCall (sp_law_source K A) [] E0 (tCons (tCall (sp_law_cell K A) [] E0 (tCons (tVar 0) (tCons (tC (.int 2)) tNil))) tNil)) (tCons (tVar 6) (tCons (tVar 5) tNil)))) (gName 7))
  (tSeq (tAsg (tCall (sp_law_joined K A) [] E0 (tCons (tVar 7) (tCons (tCall (sp_law_extras K A) [] E0 (tCons (tCall (sp_law_source K A) [] E0 (tCons (tCall (sp_law_cell K A) [] E0 (tCons (tVar 0) (tCons (tC (.int 3)) tNil))) tNil)) (tCons (tVar 3) (tCons (tVar 4) tNil)))) tNil))) (gName 7))
  (tSeq (tAsg (tCall (sp_law_names K A) [] E0 (tCons (tCall (sp_law_source K A) [] E0 (tCons (tCall (sp_law_cell K A) [] E0 (tCons (tVar 0) (tCons (tC (.int 4)) tNil))) tNil)) (tCons (tVar 3) tNil))) (gName 8))
  (tSeq (tAsg (tCall (sp_law_take K A) [] E0 (tCons (tVar 2) (tCons (tOp oAdd (tC (.int 1)) (tCB (rLenQ K) (tCons (tVar 7) tNil))) tNil))) (gName 9))
  (tRet (tTup (tCons (tVar 3) (tCons (tCall (sp_law_named K A) [] E0 (tCons (tVar 7) (tCons (tVar 8) (tCons (tVar 9) tNil)))) (tCons (tVar 8) (tCons (tVar 6) (tCons (tVar 4) tNil)))))))))))))))))

theorem rd_law_world {K : PySem.W.Frag} {A : CA} {vs : List V} {H : Hp} {Q : VK} {E : XK} (h : sp_law_world K A vs H Q E) :
    t_law_world K A { nx := fun _ H' => Q .non H', rt := Q } (start ["script", "room", "source", "many", "shape", "way", "parents", "pointers", "names", "turn"] vs) H := by
  obtain ⟨a, room, ns, rfl, hs, h63, r1, r2, q⟩ := h
  unfold t_law_world
  walk_at "go"
  intro c0 H1 e1
  walk_at "go"
  intro s H2 f2 e2 s2
  have fs : H s = none := e1.free f2
  have E2 := e1.trans e2
  walk_at "go"
  intro m H3 m0 m1 b3 s3
  have E3 := same_but E2 fs b3
  walk_at "go"
  refine w_cut (fun σ H' => ∃ many : Int, σ = [some (.ref a), some (.int room), some (.ref s), some (.int many), none, none, none, none, none, none] ∧ 1 ≤ many ∧ many ≤ 110 ∧ Same H H' ∧ Src H' s) ?_ ?_
  · walk_at "go"
    intro r H4 x0 x1 b4 s4
    have E4 := same_but E3 fs b4
    walk_at "go"
    refine w_iteD (fun c => ?_) (fun c => ?_)
    · walk_at "go"
      intro r' H5 y0 y1 b5 s5
      have E5 := same_but E4 fs b5
      walk_at "go"
      exact ⟨_, rfl, by omega, by omega, E5, s5⟩
    · walk_at "go"
      exact ⟨_, rfl, by omega, by omega, E4, s4⟩
  rintro σ H4 ⟨many, rfl, M1, M2, E4, s4⟩
  walk_at "go"
  intro p hp
  walk_at "go"
  intro sh H5 x0 x1 b5 s5
  have E5 := same_but (E4.trans (same_new hp)) fs b5
  have hp5 := b5.at (s4.neFree hp) upd_same
  have hx : atI [V.int 0, V.int 0, V.int 1, V.int 2, V.int 3, V.int 4, V.int 5, V.int 5] sh = some (V.int (([0, 0, 1, 2, 3, 4, 5, 5] : List Int).getD sh.toNat 0)) := ati (xs := [0, 0, 1, 2, 3, 4, 5, 5]) x0 x1
  generalize ([0, 0, 1, 2, 3, 4, 5, 5] : List Int).getD sh.toNat 0 = shape at hx
  walk_at "go"
  intro way H6 w0 w1 b6 s6
  have E6 := same_but E5 fs b6
  walk_at "go"
  intro c1 H7 e7
  have E7 := E6.trans e7
  have s7 := s6.same e7
  walk_at "go"
  intro sp H8 fp e8 sp8
  have E8 := E7.trans e8
  have s8 := s7.same e8
  have fsp := E7.free fp
  have nsp := s7.neFree fp
  walk_at "go"
  refine ⟨sp, many, shape, rfl, sp8, by omega, by omega, fun ps pp H9 hpl hpP fpp b9 s9' h9 => ?_⟩
  have E9 := same_but E8 fsp b9
  have s9 := s8.but b9 nsp.symm
  have fpp' := E8.free fpp
  walk_at "go"
  intro c2 H10 e10
  have E10 := E9.trans e10
  have s10 := s9.same e10
  walk_at "go"
  intro sq H11 fq e11 sq11
  have E11 := E10.trans e11
  have s11 := s10.same e11
  have fsq := E10.free fq
  have nsq := s10.neFree fq
  have h10 := e10 _ _ h9
  have h11 := e11 _ _ h10
  have nqp : pp ≠ sq := ne_of_none h10 fq
  walk_at "go"
  refine ⟨sq, pp, way, ps, rfl, sq11, h11, nqp, hpP, by omega, by omega, fun rows us pq H12 hR hul fpq b12 s12' h12 hW12 => ?_⟩
  rw [hpl] at hR
  have E12 := same_but E11 fsq b12
  have s12 := s11.but b12 nsq.symm
  have fpq' := E11.free fpq
  have pp12 := b12.at nqp h11
  walk_at "go"
  intro c3 H13 e13
  have E13 := E12.trans e13
  have s13 := s12.same e13
  walk_at "go"
  intro sx H14 fx e14 sx14
  have E14 := E13.trans e14
  have s14 := s13.same e14
  have fsx := E13.free fx
  have nsx := s13.neFree fx
  have h13 := e13 _ _ h12
  have h14 := e14 _ _ h13
  have nqx : pq ≠ sx := ne_of_none h13 fx
  have hW14 := PRs.same e14 (PRs.same e13 hW12)
  have pp13 := e13 _ _ pp12
  have pp14 := e14 _ _ pp13
  have npx : pp ≠ sx := ne_of_none pp13 fx
  walk_at "go"
  refine ⟨sx, many, shape, rfl, sx14, by omega, by omega, fun more ws px H15 hB hwl fpx b15 s15' h15 hW15 => ?_⟩
  have E15 := same_but E14 fsx b15
  have s15 := s14.but b15 nsx.symm
  have hq15 := b15.at nqx h14
  have hWq15 := PRs.but b15 sx14 hW14
  have pp15 := b15.at npx pp14
  walk_at "go"
  refine ⟨pq, px, rows, more, us, ws, many, rfl, hq15, hWq15, hR, h15, hW15, hB, by omega, by omega, fun rows' us' pj H16 hRj hlj fpj e16 h16 hW16 => ?_⟩
  have E16 := E15.trans e16
  have s16 := s15.same e16
  have fpj' := E15.free fpj
  have pp16 := e16 _ _ pp15
  walk_at "go"
  intro c4 H17 e17
  have E17 := E16.trans e17
  have s17 := s16.same e17
  walk_at "go"
  intro sn H18 fn e18 sn18
  have E18 := E17.trans e18
  have s18 := s17.same e18
  have fsn := E17.free fn
  have nsn := s17.neFree fn
  have h17 := e17 _ _ h16
  have h18 := e18 _ _ h17
  have njn : pj ≠ sn := ne_of_none h17 fn
  have hW18 := PRs.same e18 (PRs.same e17 hW16)
  have pp17 := e17 _ _ pp16
  have pp18 := e18 _ _ pp17
  have npn : pp ≠ sn := ne_of_none pp17 fn
  walk_at "go"
  refine ⟨sn, many, rfl, sn18, by omega, by omega, fun names np H19 hN fnp b19 s19' h19 => ?_⟩
  have E19 := same_but E18 fsn b19
  have s19 := s18.but b19 nsn.symm
  have fnp' := E18.free fnp
  have hj19 := b19.at njn h18
  have hWj19 := PRs.but b19 sn18 hW18
  have pp19 := b19.at npn pp18
  have njs : pj ≠ s := s15.neFree fpj
  have npps : pp ≠ s := (s8.neFree fpp)
  have nnps : np ≠ s := (s18.neFree fnp)
  walk_at "go"
  intro turn H20 t0 t1 b20 s20
  have E20 := same_but E19 fs b20
  have hj20 := b20.at njs hj19
  have hWj20 := PRs.but b20 s19 hWj19
  have hn20 := b20.at nnps h19
  have pp20 := b20.at npps pp19
  walk_at "go"
  refine ⟨pj, np, turn.toNat, rows', us', names, many, by rw [Int.toNat_of_nonneg t0], hj20, hWj20, hRj, hN, hn20, by omega, by omega, fun rows2 us2 pl H21 hR2 hl2 fpl e21 h21 hW21 => ?_⟩
  have E21 := E20.trans e21
  walk_at "go"
  intro t ht
  exact q many shape rows2 us2 names ps t pl np pp _ (E21.trans (same_new ht)) (E21.free ht) (E20.free fpl) fnp' fpp' upd_same M1 M2 hR2 (by omega) (keep h21 ht) (PRs.new ht hW21) (keep (e21 _ _ hn20) ht) hN (keep (e21 _ _ pp20) ht)
end G

namespace G
open PySem L2
theorem dp_is {K : PySem.W.Frag} {H : Hp} : ∀ xs : List Int, DpAll K H (xs.map V.int) (xs.map PyData.int)
  | [] => .nil
  | x :: xs => .cons (.int x) (dp_is xs)
theorem dp_ints {K : PySem.W.Frag} {H : Hp} {p : Addr} {xs : List Int} (h : SqL K H p (xs.map V.int)) : Dp K H (.ref p) (.list (xs.map PyData.int)) := .lst h (dp_is xs)
theorem di_lay : ∀ xs : List Int, PyData.canLayAll0 (xs.map PyData.int) = true
  | [] => rfl
  | x :: xs => by
    rw [List.map_cons]
    show (PyData.canLay0 (.int x) && PyData.canLayAll0 (xs.map PyData.int)) = true
    rw [di_lay xs]; rfl
theorem di_depth : ∀ xs : List Int, PyData.depthAll (xs.map PyData.int) = 0
  | [] => rfl
  | x :: xs => by
    rw [List.map_cons]
    show max (PyData.depth (.int x)) (PyData.depthAll (xs.map PyData.int)) = 0
    rw [di_depth xs]; rfl
theorem di_shaped (xs : List Int) : SeqAt.shaped (.list (xs.map PyData.int)) = true := by
  have h1 : PyData.canLay0 (.list (xs.map PyData.int)) = true := di_lay xs
  have h2 : PyData.depth (.list (xs.map PyData.int)) ≤ 64 := by
    show PyData.depthAll (xs.map PyData.int) + 1 ≤ 64
    rw [di_depth]; decide
  show (PyData.canLay0 (.list (xs.map PyData.int)) && decide (PyData.depth (.list (xs.map PyData.int)) ≤ 64)) = true
  rw [h1, decide_eq_true h2]; rfl
theorem di_eqv : ∀ xs ys : List Int, PyData.eqvAll (xs.map PyData.int) (ys.map PyData.int) = decide (xs = ys)
  | [], [] => rfl
  | [], y :: ys => by simp [PyData.eqvAll]
  | x :: xs, [] => by simp [PyData.eqvAll]
  | x :: xs, y :: ys => by
    rw [List.map_cons, List.map_cons]
    simp only [PyData.eqvAll, PyData.eqv, di_eqv xs ys]
    by_cases h : x = y
    · by_cases h2 : xs = ys <;> simp [h, h2]
    · simp [h]
theorem w_neI2 {K : PySem.W.Frag} {H : Hp} {Q : VK} {p q : Addr} {xs ys : List Int} (hp : SqL K H p (xs.map V.int)) (hq : SqL K H q (ys.map V.int)) (k : Q (.bl (!decide (xs = ys))) H) : rNeD K (.ref p) (.ref q) H Q := by
  refine ⟨_, _, dp_ints hp, dp_ints hq, di_shaped xs, di_shaped ys, ?_⟩
  show Q (.bl (!PyData.eqvAll (xs.map PyData.int) (ys.map PyData.int))) H
  rw [di_eqv]; exact k
/-- blank numbers within the lines -/
structure BK (lines : Int) (n : Nat) (bs : List Int) : Prop where
  len : bs.length = n
  bd : ∀ b ∈ bs, 0 ≤ b ∧ b ≤ lines
theorem BK.set {lines v : Int} {n i : Nat} {bs : List Int} (h : BK lines n bs) (h0 : 0 ≤ v) (h1 : v ≤ lines) : BK lines n (bs.set i v) := by
  refine ⟨by rw [List.length_set]; exact h.len, fun b hb => ?_⟩
  rcases List.mem_or_eq_of_mem_set hb with k | k
  · exact h.bd b k
  · subst k; exact ⟨h0, h1⟩
theorem BK.get {lines : Int} {n : Nat} {bs : List Int} (h : BK lines n bs) {k : Int} (h0 : 0 ≤ k) (h1 : k < n) : ∃ z, bs[k.toNat]? = some z ∧ atI (bs.map V.int) k = some (V.int z) ∧ ixN (bs.map V.int).length k = some k.toNat ∧ 0 ≤ z ∧ z ≤ lines := by
  have hl := h.len
  have hk : k.toNat < bs.length := by omega
  have hb := h.bd _ (List.getElem_mem hk)
  exact ⟨bs[k.toNat], List.getElem?_eq_getElem hk, at_of (j := k.toNat) (by omega) (by simp [hk]), ixn (by omega) (by rw [List.length_map]; omega), hb.1, hb.2⟩
def sp_law_lines (K : PySem.W.Frag) (A : CA) : Sp := fun vs H Q _ => ∃ (s : Addr), vs = [.ref s] ∧ Src H s ∧ ∀ (l : Int) (H' : Hp), 0 ≤ l → l ≤ 60 → But s H H' → Src H' s → Q (.int l) H'
def t_law_lines (K : PySem.W.Frag) (A : CA) : TS :=
  (tSeq (tAsg (tCall (sp_law_take K A) [] E0 (tCons (tVar 0) (tCons (tC (.int 12)) tNil))) (gName 1))
  (tSeq (tIfS (tTest (tOp rEq (tVar 1) (tC (.int 11)))) (tRet (tCall (sp_law_take K A) [] E0 (tCons (tVar 0) (tCons (tC (.int 61)) tNil)))) tNext)
  (tRet (tOp (rIxL K) (tLst (tCons (tC (.int 0)) (tCons (tC (.int 1)) (tCons (tC (.int 1)) (tCons (tC (.int 2)) (tCons (tC (.int 2)) (tCons (tC (.int 3)) (tCons (tC (.int 3)) (tCons (tC (.int 4)) (tCons (tC (.int 5)) (tCons (tC (.int 5)) (tCons (tC (.int 60)) tNil)))))))))))) (tVar 1)))))

theorem rd_law_lines {K : PySem.W.Frag} {A : CA} {vs : List V} {H : Hp} {Q : VK} {E : XK} (h : sp_law_lines K A vs H Q E) :
    t_law_lines K A { nx := fun _ H' => Q .non H', rt := Q } (start ["source", "pick"] vs) H := by
  obtain ⟨s, rfl, hs, q⟩ := h
  unfold t_law_lines
  walk_at "go"
  intro r H1 r0 r1 b1 s1
  walk_at "go"
  refine w_iteD (fun c => ?_) (fun c => ?_)
  · walk_at "go"
    intro l H2 l0 l1 b2 s2
    exact q l H2 l0 (by omega) (b1.trans b2) s2
  · walk_at "go"
    intro p hp
    have hx : atI [V.int 0, V.int 1, V.int 1, V.int 2, V.int 2, V.int 3, V.int 3, V.int 4, V.int 5, V.int 5, V.int 60] r = some (V.int (([0, 1, 1, 2, 2, 3, 3, 4, 5, 5, 60] : List Int).getD r.toNat 0)) := ati (xs := [0, 1, 1, 2, 2, 3, 3, 4, 5, 5, 60]) r0 (by show r < 11; omega)
    have hb : ∀ k : Nat, k < 11 → 0 ≤ ([0, 1, 1, 2, 2, 3, 3, 4, 5, 5, 60] : List Int).getD k 0 ∧ ([0, 1, 1, 2, 2, 3, 3, 4, 5, 5, 60] : List Int).getD k 0 ≤ 60 := by decide
    have hb := hb r.toNat (by omega)
    generalize ([0, 1, 1, 2, 2, 3, 3, 4, 5, 5, 60] : List Int).getD r.toNat 0 = z at hx hb
    walk_at "go"
    exact q z _ hb.1 hb.2 (b1.new hp) (s1.new hp)
def sp_law_owners (K : PySem.W.Frag) (A : CA) : Sp := fun vs H Q _ => ∃ (s q : Addr) (rows : List (Int × Int)) (us : List V) (m : Int), vs = [.ref s, .ref q] ∧ Src H s ∧ H q = some (.lst us) ∧ q ≠ s ∧ Paired (PR H) us rows ∧ RG m rows ∧ us.length ≤ 600 ∧
  ∀ (os : List Int) (p : Addr) (H' : Hp), os.length = us.length → (∀ o ∈ os, 0 ≤ o ∧ o < m) → H p = none → But s H H' → Src H' s → H' p = some (.lst (os.map V.int)) → Q (.ref p) H'
def t_law_owners (K : PySem.W.Frag) (A : CA) : TS :=
  (tSeq (tAsg (tLc (iRng1 (tCons (tCB oMin2 (tCons (tC (.int 60)) (tCons (tCB (rLenQ K) (tCons (tVar 1) tNil)) tNil))) tNil)) (gName 3) tYes (tCall (sp_law_take K A) [] E0 (tCons (tVar 0) (tCons (tC (.int 2)) tNil))) [3]) (gName 2))
  (tRet (tLc (iRng1 (tCons (tCB (rLenQ K) (tCons (tVar 1) tNil)) tNil)) (gName 3) tYes (tOp (rIxT K) (tOp (rIxL K) (tVar 1) (tVar 3)) (tOp (rIxL K) (tVar 2) (tOp oMod (tVar 3) (tC (.int 60))))) [3])))

theorem rd_law_owners {K : PySem.W.Frag} {A : CA} {vs : List V} {H : Hp} {Q : VK} {E : XK} (h : sp_law_owners K A vs H Q E) :
    t_law_owners K A { nx := fun _ H' => Q .non H', rt := Q } (start ["source", "pairs", "sides", "k"] vs) H := by
  obtain ⟨s, p, rows, us, m, rfl, hs, hp, hn, hP, hR, hl, q⟩ := h
  have hlen := hP.length
  unfold t_law_owners
  walk_at "go"
  split
  all_goals
    rename_i hc
    walk_at "go"
    refine lcR (fun Dl i H' => But s H H' ∧ Src H' s ∧ ∃ zs : List Int, H' Dl = some (.lst (zs.map V.int)) ∧ zs.length = i ∧ ∀ z ∈ zs, z = 0 ∨ z = 1) (fun Dl hD => ⟨But.refl.new hD, hs.new hD, [], upd_same, rfl, fun _ h => by cases h⟩) ?_ ?_
    · rintro Dl i H1 hD hi ⟨b, s1, zs, hz, hzl, hzb⟩
      have nD : Dl ≠ s := hs.neFree hD
      walk_at "go"
      intro r H2 r0 r1 b2 s2
      have hz2 := b2.at nD hz
      walk_at "go"
      refine ⟨(b.trans b2).mut hD, s2.mut nD, zs ++ [r], ?_, by simp [hzl], fun z hm => ?_⟩
      · rw [← snocI]; exact upd_same
      · rcases List.mem_append.mp hm with k | k
        · exact hzb z k
        · have := List.mem_singleton.mp k; omega
    · rintro Dl H1 hD ⟨b, s1, zs, hz, hzl, hzb⟩
      have nD : Dl ≠ s := hs.neFree hD
      have hp1 := b.at hn hp
      have hP1 := PRs.but b hs hP
      walk_at "go"
      refine lcR (fun D2 i H' => But s H H' ∧ Same H1 H' ∧ Src H' s ∧ ∃ os : List Int, H' D2 = some (.lst (os.map V.int)) ∧ os.length = i ∧ ∀ o ∈ os, 0 ≤ o ∧ o < m) (fun D2 hD2 => ⟨b.new hD2, same_new hD2, s1.new hD2, [], upd_same, rfl, fun _ h => by cases h⟩) ?_ ?_
      · rintro D2 i H2 hD2 hi ⟨b2, e2, s2, os, ho, hol, hob⟩
        have hi : i < us.length := by omega
        have hir : i < rows.length := by omega
        have nD2 : D2 ≠ s := s1.neFree hD2
        have hD20 : H D2 = none := b.back s1 hD2
        obtain ⟨v, hv, t, rfl, ht⟩ := Paired.at hP1 (List.getElem?_eq_getElem hir)
        have hb := hR.bd _ (List.getElem_mem hir)
        generalize rows[i] = r at ht hb
        have hp2 := e2 _ _ hp1
        have ht2 := e2 _ _ ht
        have hz2 := e2 _ _ hz
        have hx1 : atI us (0 + (i : Int)) = some (V.ref t) := atn (j := i) (by omega) hv
        have hk : ((0 + (i : Int)) % 60).toNat < zs.length := by omega
        have hx2 : atI (zs.map V.int) ((0 + (i : Int)) % 60) = some (V.int zs[((0 + (i : Int)) % 60).toNat]) := at_of (j := ((0 + (i : Int)) % 60).toNat) (by omega) (by simp [hk])
        have hzz := hzb _ (List.getElem_mem hk)
        generalize zs[((0 + (i : Int)) % 60).toNat] = z at hx2 hzz
        have hx3 : ∃ w, atI [V.int r.1, V.int r.2] z = some (V.int w) ∧ 0 ≤ w ∧ w < m := by
          rcases hzz with rfl | rfl
          · exact ⟨r.1, at0, hb.1, hb.2.1⟩
          · exact ⟨r.2, at1, hb.2.2.1, hb.2.2.2.1⟩
        obtain ⟨w, hx3, w0, w1⟩ := hx3
        walk_at "go"
        refine ⟨b2.mut hD20, same_mut e2 hD2, s2.mut nD2, os ++ [w], ?_, by simp [hol], fun o hm => ?_⟩
        · rw [← snocI]; exact upd_same
        · rcases List.mem_append.mp hm with k | k
          · exact hob o k
          · have := List.mem_singleton.mp k; omega
      · rintro D2 H2 hD2 ⟨b2, e2, s2, os, ho, hol, hob⟩
        exact q os D2 H2 (by omega) hob (b.back s1 hD2) b2 s2 ho
end G

namespace G
open PySem L2
theorem w_cnt {K : PySem.W.Frag} {H : Hp} {Q : VK} {p : Addr} {ns : List Int} {k : Int} (h : SqL K H p (ns.map V.int)) (q : Q (.int (ns.count k : Nat)) H) : rCntI K (.ref p) [.int k] H Q := ⟨p, ns, k, rfl, rfl, h, q⟩
theorem w_max {K : PySem.W.Frag} {H : Hp} {Q : VK} {p : Addr} {ns : List Int} (h : SqL K H p (ns.map V.int)) (h0 : 0 < ns.length) (q : ∀ m, m ∈ ns → (∀ y, y ∈ ns → y ≤ m) → Q (.int m) H) : rMax K [.ref p] H Q := ⟨p, ns, rfl, h, h0, q⟩
theorem w_min {K : PySem.W.Frag} {H : Hp} {Q : VK} {p : Addr} {ns : List Int} (h : SqL K H p (ns.map V.int)) (h0 : 0 < ns.length) (q : ∀ m, m ∈ ns → (∀ y, y ∈ ns → m ≤ y) → Q (.int m) H) : rMin K [.ref p] H Q := ⟨p, ns, rfl, h, h0, q⟩
end G
local macro_rules | `(tactic| walk_at "call") => `(tactic| (refine' G.w_cnt ?g1 ?_; (case g1 => walk_at "sq")))
namespace G
open PySem L2
def sp_law_table (K : PySem.W.Frag) (A : CA) : Sp := fun vs H Q _ => ∃ (s po : Addr) (many : Int) (os : List Int), vs = [.ref s, .int many, .ref po] ∧ Src H s ∧ H po = some (.lst (os.map V.int)) ∧ po ≠ s ∧ 1 ≤ many ∧ many ≤ 200 ∧ (∀ o ∈ os, 0 ≤ o ∧ o < many) ∧
  ∀ (lines : Int) (bs : List Int) (t pb : Addr) (H' : Hp), 0 ≤ lines → BK lines many.toNat bs → H t = none → H pb = none → But s H H' → Src H' s → H' t = some (.tup [.int lines, .ref pb]) → H' pb = some (.lst (bs.map V.int)) → Q (.ref t) H'
def t_law_table (K : PySem.W.Frag) (A : CA) : TS :=
  (tSeq (tAsg (tCall (sp_law_lines K A) [] E0 (tCons (tVar 0) tNil)) (gName 3))
  (tSeq (tAsg (tCall (sp_law_take K A) [] E0 (tCons (tVar 0) (tCons (tC (.int 5)) tNil))) (gName 4))
  (tSeq (tAsg (tCall (sp_law_take K A) [] E0 (tCons (tVar 0) (tCons (tC (.int 4)) tNil))) (gName 5))
  (tSeq (tAsg (tCall (sp_law_take K A) [] E0 (tCons (tVar 0) (tCons (tVar 1) tNil))) (gName 6))
  (tSeq (tAsg (tLst tNil) (gName 7))
  (tSeq (tFor (iRng1 (tCons (tVar 1) tNil)) (gName 8)
  (tIfS (tTest (tOp oLt (tVar 4) (tC (.int 2)))) (tDrop (tBM K "list" rAppend (tVar 7) (tCons (tCB oMin2 (tCons (tC (.int 60)) (tCons (tBM K "list" (rCntI K) (tVar 2) (tCons (tVar 8) tNil)) tNil))) tNil))) (tIfS (tTest (tOp rEq (tVar 4) (tC (.int 2)))) (tDrop (tBM K "list" rAppend (tVar 7) (tCons (tCB oMin2 (tCons (tC (.int 60)) (tCons (tOp oAdd (tBM K "list" (rCntI K) (tVar 2) (tCons (tVar 8) tNil)) (tOp (rIxL K) (tLst (tCons (tC (.int 0)) (tCons (tC (.int 0)) (tCons (tC (.int 1)) tNil)))) (tCall (sp_law_take K A) [] E0 (tCons (tVar 0) (tCons (tC (.int 3)) tNil))))) tNil))) tNil))) (tIfS (tTest (tOp rEq (tVar 4) (tC (.int 3)))) (tDrop (tBM K "list" rAppend (tVar 7) (tCons (tCall (sp_law_take K A) [] E0 (tCons (tVar 0) (tCons (tOp oAdd (tVar 3) (tC (.int 1))) tNil))) tNil))) (tDrop (tBM K "list" rAppend (tVar 7) (tCons (tCB oMin2 (tCons (tVar 3) (tCons (tCall (sp_law_take K A) [] E0 (tCons (tVar 0) (tCons (tC (.int 3)) tNil))) tNil))) tNil)))))))
  (tSeq (tAsg (tCB oMax2 (tCons (tVar 3) (tCons (tCB (rMax K) (tCons (tVar 7) tNil)) tNil))) (gName 3))
  (C8.tCut (tIfS (tTest (tOp rEq (tVar 5) (tC (.int 1)))) (tAsg (tCB oMin2 (tCons (tVar 3) (tCons (tOp oAdd (tOp (rIxL K) (tVar 7) (tVar 6)) (tC (.int 1))) tNil))) (gSub (tVar 7) (tVar 6) rSetL)) tNext)
  (C8.tCut (tIfS (tTest (tOp oGt (tVar 5) (tC (.int 1)))) (C8.tCut (tIfS (tAnd (tTest (tOp rEq (tOp (rIxL K) (tVar 7) (tVar 6)) (tC (.int 0)))) (tTest (tOp (rNeD K) (tVar 2) (tLst tNil)))) (tAsg (tOp (rIxL K) (tVar 2) (tC (.int 0))) (gName 6)) tNext)
  (tAsg (tCB oMax2 (tCons (tC (.int 0)) (tCons (tOp oSub (tOp (rIxL K) (tVar 7) (tVar 6)) (tC (.int 1))) tNil))) (gSub (tVar 7) (tVar 6) rSetL))) tNext)
  (tRet (tTup (tCons (tVar 3) (tCons (tVar 7) tNil)))))))))))))

theorem rd_law_table {K : PySem.W.Frag} {A : CA} {vs : List V} {H : Hp} {Q : VK} {E : XK} (h : sp_law_table K A vs H Q E) :
    t_law_table K A { nx := fun _ H' => Q .non H', rt := Q } (start ["source", "many", "owners", "lines", "mode", "change", "page", "blank", "k"] vs) H := by
  obtain ⟨s, po, many, os, rfl, hs, ho, hn, h1, h2, hob, q⟩ := h
  unfold t_law_table
  walk_at "go"
  refine ⟨s, rfl, hs, fun l H1 l0 l60 b1 s1 => ?_⟩
  walk_at "go"
  intro mode H2 _ _ b2 s2
  walk_at "go"
  intro change H3 _ _ b3 s3
  walk_at "go"
  intro page H4 p0 p1 b4 s4
  walk_at "go"
  intro pb hpb
  have B4 := ((b1.trans b2).trans b3).trans b4
  have fpb := B4.back s4 hpb
  have npb : pb ≠ s := s4.neFree hpb
  walk_at "go"
  refine forR (fun i σ H' => ∃ (bs : List Int) (k8 : Option V), σ = [some (.ref s), some (.int many), some (.ref po), some (.int l), some (.int mode), some (.int change), some (.int page), some (.ref pb), k8] ∧ bs.length = i ∧ (∀ b ∈ bs, 0 ≤ b) ∧ But s H H' ∧ Src H' s ∧ H' pb = some (.lst (bs.map V.int))) ?_ ?_ ?_
  · exact ⟨[], none, rfl, rfl, (fun _ h => by cases h), B4.new hpb, s4.new hpb, upd_same⟩
  · rintro i σ H5 hi ⟨bs, k8, rfl, hl, hb, b5, s5, h5⟩
    have ho5 := b5.at hn ho
    have fin : ∀ (v : Int) (H6 : Hp), 0 ≤ v → But s H H6 → Src H6 s → ∃ (bs' : List Int) (k8' : Option V), [some (V.ref s), some (.int many), some (.ref po), some (.int l), some (.int mode), some (.int change), some (.int page), some (.ref pb), some (.int (0 + (i : Int)))] = [some (.ref s), some (.int many), some (.ref po), some (.int l), some (.int mode), some (.int change), some (.int page), some (.ref pb), k8'] ∧ bs'.length = i + 1 ∧ (∀ b ∈ bs', 0 ≤ b) ∧
        But s H (upd H6 pb (.lst (bs.map V.int ++ [.int v]))) ∧ Src (upd H6 pb (.lst (bs.map V.int ++ [.int v]))) s ∧ (upd H6 pb (.lst (bs.map V.int ++ [.int v]))) pb = some (.lst (bs'.map V.int)) := fun v H6 hv b6 s6 => by
      refine ⟨bs ++ [v], _, rfl, by simp [hl], fun b hm => ?_, b6.mut fpb, s6.mut npb, by rw [← snocI]; exact upd_same⟩
      rcases List.mem_append.mp hm with k | k
      · exact hb b k
      · have := List.mem_singleton.mp k; omega
    walk_at "go"
    refine w_iteD (fun c1 => ?_) (fun c1 => ?_)
    · walk_at "go"
      exact fin _ H5 (by split <;> omega) b5 s5
    · walk_at "go"
      refine w_iteD (fun c2 => ?_) (fun c2 => ?_)
      · walk_at "go"
        intro p hp
        have h6 : (upd H5 p (.lst [.int 0, .int 0, .int 1])) pb = some (.lst (bs.map V.int)) := keep h5 hp
        walk_at "go"
        intro r H6 r0 r1 b6 s6
        have hx : atI [V.int 0, V.int 0, V.int 1] r = some (V.int (([0, 0, 1] : List Int).getD r.toNat 0)) := ati (xs := [0, 0, 1]) r0 (by show r < 3; omega)
        have hz : ∀ k : Nat, k < 3 → 0 ≤ ([0, 0, 1] : List Int).getD k 0 := by decide
        have hz := hz r.toNat (by omega)
        generalize ([0, 0, 1] : List Int).getD r.toNat 0 = z at hx hz
        have hp6 := b6.at (s5.neFree hp) upd_same
        have h7 := b6.at npb h6
        walk_at "go"
        exact fin _ H6 (by split <;> omega) ((b5.new hp).trans b6) s6
      · walk_at "go"
        refine w_iteD (fun c3 => ?_) (fun c3 => ?_)
        · walk_at "go"
          intro r H6 r0 r1 b6 s6
          have h7 := b6.at npb h5
          walk_at "go"
          exact fin _ H6 r0 (b5.trans b6) s6
        · walk_at "go"
          intro r H6 r0 r1 b6 s6
          have h7 := b6.at npb h5
          walk_at "go"
          exact fin _ H6 (by split <;> omega) (b5.trans b6) s6
  · rintro σ H5 ⟨bs, k8, rfl, hl, hb, b5, s5, h5⟩
    have ho5 := b5.at hn ho
    walk_at "go"
    refine w_max (SqL.of h5) (by omega) fun m hm hmx => ?_
    walk_at "go"
    have hL : ∃ L : Int, (if m > l then m else l) = L ∧ 0 ≤ L ∧ BK L many.toNat bs := by
      refine ⟨_, rfl, ?_, ⟨by omega, fun b hb' => ⟨hb b hb', ?_⟩⟩⟩
      · split <;> omega
      · have := hmx b hb'
        split <;> omega
    obtain ⟨L, eL, L0, hBK⟩ := hL
    rw [eL]
    have hmn : (many.toNat : Int) = many := Int.toNat_of_nonneg (by omega)
    refine w_cut (fun σ H' => ∃ (bs : List Int), σ = [some (.ref s), some (.int many), some (.ref po), some (.int L), some (.int mode), some (.int change), some (.int page), some (.ref pb), k8] ∧ BK L many.toNat bs ∧ But s H H' ∧ Src H' s ∧ H' pb = some (.lst (bs.map V.int))) ?_ ?_
    · walk_at "go"
      refine w_iteD (fun c1 => ?_) (fun c1 => ?_)
      · obtain ⟨z, _, hx, hix, z0, z1⟩ := hBK.get p0 (by omega)
        walk_at "go"
        refine ⟨bs.set page.toNat _, rfl, hBK.set (v := if z + 1 < L then z + 1 else L) (by split <;> omega) (by split <;> omega), b5.mut fpb, s5.mut npb, ?_⟩
        rw [List.map_set]; exact upd_same
      · walk_at "go"
        exact ⟨bs, rfl, hBK, b5, s5, h5⟩
    rintro σ H6 ⟨bs, rfl, hBK, b6, s6, h6⟩
    have ho6 := b6.at hn ho
    refine w_cut (fun σ H' => ∃ (bs : List Int) (pg : Option V), σ = [some (.ref s), some (.int many), some (.ref po), some (.int L), some (.int mode), some (.int change), pg, some (.ref pb), k8] ∧ BK L many.toNat bs ∧ But s H H' ∧ Src H' s ∧ H' pb = some (.lst (bs.map V.int))) ?_ ?_
    · walk_at "go"
      refine w_iteD (fun c1 => ?_) (fun c1 => ?_)
      · refine w_cut (fun σ H' => ∃ (page : Int), σ = [some (.ref s), some (.int many), some (.ref po), some (.int L), some (.int mode), some (.int change), some (.int page), some (.ref pb), k8] ∧ 0 ≤ page ∧ page < many ∧ But s H H' ∧ Src H' s ∧ H' pb = some (.lst (bs.map V.int))) ?_ ?_
        · obtain ⟨z, _, hx, hix, z0, z1⟩ := hBK.get p0 (by omega)
          walk_at "go"
          refine w_iteD (fun c2 => ?_) (fun c2 => ?_)
          · walk_at "go"
            intro p hp
            walk_at "go"
            refine w_neI2 (xs := os) (ys := []) (SqL.of (keep ho6 hp)) (SqL.of upd_same) ?_
            walk_at "go"
            refine w_iteN (fun c3 => ?_) (fun c3 => ?_)
            · have hx0 : ∃ o r, os = o :: r := by
                cases os with
                | nil => exact absurd rfl c3
                | cons o r => exact ⟨o, r, rfl⟩
              obtain ⟨o, r, rfl⟩ := hx0
              have hx0 : atI ((o :: r).map V.int) 0 = some (V.int o) := at0
              have hoo := hob o List.mem_cons_self
              walk_at "go"
              exact ⟨o, rfl, hoo.1, hoo.2, b6.new hp, s6.new hp, keep h6 hp⟩
            · walk_at "go"
              exact ⟨page, rfl, p0, p1, b6.new hp, s6.new hp, keep h6 hp⟩
          · walk_at "go"
            exact ⟨page, rfl, p0, p1, b6, s6, h6⟩
        · rintro σ H7 ⟨page, rfl, p0, p1, b7, s7, h7⟩
          obtain ⟨z, _, hx, hix, z0, z1⟩ := hBK.get p0 (by omega)
          walk_at "go"
          refine ⟨bs.set page.toNat _, _, rfl, hBK.set (v := if z - 1 > 0 then z - 1 else 0) (by split <;> omega) (by split <;> omega), b7.mut fpb, s7.mut npb, ?_⟩
          rw [List.map_set]; exact upd_same
      · walk_at "go"
        exact ⟨bs, _, rfl, hBK, b6, s6, h6⟩
    rintro σ H7 ⟨bs, pg, rfl, hBK, b7, s7, h7⟩
    walk_at "go"
    intro t ht
    exact q L bs t pb _ L0 hBK (b7.back s7 ht) fpb (b7.new ht) (s7.new ht) upd_same (keep h7 ht)
def sp_law_near (K : PySem.W.Frag) (A : CA) : Sp := fun vs H Q _ => ∃ (s pb : Addr) (lines : Int) (n : Nat) (bs : List Int), vs = [.ref s, .int lines, .ref pb] ∧ Src H s ∧ H pb = some (.lst (bs.map V.int)) ∧ BK lines n bs ∧ 1 ≤ n ∧ n ≤ 200 ∧
  ∀ (bs' : List Int) (p : Addr) (H' : Hp), BK lines n bs' → H p = none → But s H H' → Src H' s → H' p = some (.lst (bs'.map V.int)) → Q (.ref p) H'
def t_law_near (K : PySem.W.Frag) (A : CA) : TS :=
  (tSeq (tAsg (tCB (oListOf K) (tCons (tVar 2) tNil)) (gName 3))
  (tSeq (tAsg (tCall (sp_law_take K A) [] E0 (tCons (tVar 0) (tCons (tCB (rLenQ K) (tCons (tVar 2) tNil)) tNil))) (gName 4))
  (tSeq (tAsg (tOp rEq (tCall (sp_law_take K A) [] E0 (tCons (tVar 0) (tCons (tC (.int 2)) tNil))) (tC (.int 0))) (gName 5))
  (C8.tCut (tIfS (tAnd (tTest (tOp oGt (tOp (rIxL K) (tVar 3) (tVar 4)) (tC (.int 0)))) (tOr (tB (tVar 5)) (tTest (tOp rEq (tOp (rIxL K) (tVar 3) (tVar 4)) (tVar 1))))) (tAsg (tOp oSub (tOp (rIxL K) (tVar 3) (tVar 4)) (tC (.int 1))) (gSub (tVar 3) (tVar 4) rSetL)) (tIfS (tTest (tOp oLt (tOp (rIxL K) (tVar 3) (tVar 4)) (tVar 1))) (tAsg (tOp oAdd (tOp (rIxL K) (tVar 3) (tVar 4)) (tC (.int 1))) (gSub (tVar 3) (tVar 4) rSetL)) tNext))
  (tRet (tVar 3))))))

theorem rd_law_near {K : PySem.W.Frag} {A : CA} {vs : List V} {H : Hp} {Q : VK} {E : XK} (h : sp_law_near K A vs H Q E) :
    t_law_near K A { nx := fun _ H' => Q .non H', rt := Q } (start ["source", "lines", "blank", "near", "page", "fewer"] vs) H := by
  obtain ⟨s, pb, lines, n, bs, rfl, hs, hpb, hB, n1, n2, q⟩ := h
  have hlen := hB.len
  unfold t_law_near
  walk_at "go"
  intro p hp
  have nps : p ≠ s := hs.neFree hp
  walk_at "go"
  rw [List.length_map, hlen]
  refine i_take (hs.new hp) (by omega) (by omega) ?_
  intro page H1 p0 p1 b1 s1
  have B1 := (But.refl.new hp).trans b1
  walk_at "go"
  intro r H2 r0 r1 b2 s2
  have B2 := B1.trans b2
  have h2 := b2.at nps (b1.at nps upd_same)
  walk_at "go"
  obtain ⟨z, _, hx, hix, z0, z1⟩ := hB.get p0 p1
  refine w_cut (fun σ H' => ∃ (bs' : List Int), σ = [some (.ref s), some (.int lines), some (.ref pb), some (.ref p), some (.int page), some (.bl (decide (r = 0)))] ∧ BK lines n bs' ∧ But s H H' ∧ Src H' s ∧ H' p = some (.lst (bs'.map V.int))) ?_ ?_
  · have none_ : ∃ (bs' : List Int), [some (V.ref s), some (V.int lines), some (.ref pb), some (.ref p), some (.int page), some (.bl (decide (r = 0)))] = [some (.ref s), some (.int lines), some (.ref pb), some (.ref p), some (.int page), some (.bl (decide (r = 0)))] ∧ BK lines n bs' ∧ But s H H2 ∧ Src H2 s ∧ H2 p = some (.lst (bs'.map V.int)) := ⟨bs, rfl, hB, B2, s2, h2⟩
    have less : 0 < z → ∃ (bs' : List Int), [some (V.ref s), some (V.int lines), some (.ref pb), some (.ref p), some (.int page), some (.bl (decide (r = 0)))] = [some (.ref s), some (.int lines), some (.ref pb), some (.ref p), some (.int page), some (.bl (decide (r = 0)))] ∧ BK lines n bs' ∧ But s H (upd H2 p (.lst ((bs.map V.int).set page.toNat (.int (z - 1))))) ∧ Src (upd H2 p (.lst ((bs.map V.int).set page.toNat (.int (z - 1))))) s ∧ (upd H2 p (.lst ((bs.map V.int).set page.toNat (.int (z - 1))))) p = some (.lst (bs'.map V.int)) := fun c => by
      refine ⟨bs.set page.toNat (z - 1), rfl, hB.set (by omega) (by omega), B2.mut hp, s2.mut nps, ?_⟩
      rw [List.map_set]; exact upd_same
    have more : z < lines → ∃ (bs' : List Int), [some (V.ref s), some (V.int lines), some (.ref pb), some (.ref p), some (.int page), some (.bl (decide (r = 0)))] = [some (.ref s), some (.int lines), some (.ref pb), some (.ref p), some (.int page), some (.bl (decide (r = 0)))] ∧ BK lines n bs' ∧ But s H (upd H2 p (.lst ((bs.map V.int).set page.toNat (.int (z + 1))))) ∧ Src (upd H2 p (.lst ((bs.map V.int).set page.toNat (.int (z + 1))))) s ∧ (upd H2 p (.lst ((bs.map V.int).set page.toNat (.int (z + 1))))) p = some (.lst (bs'.map V.int)) := fun c => by
      refine ⟨bs.set page.toNat (z + 1), rfl, hB.set (by omega) (by omega), B2.mut hp, s2.mut nps, ?_⟩
      rw [List.map_set]; exact upd_same
    walk_at "go"
    refine w_iteD (fun c1 => ?_) (fun c1 => ?_)
    · walk_at "go"
      refine w_iteD (fun c2 => ?_) (fun c2 => ?_)
      · walk_at "go"
        exact less c1
      · walk_at "go"
        refine w_iteD (fun c3 => ?_) (fun c3 => ?_)
        · walk_at "go"
          exact less c1
        · walk_at "go"
          refine w_iteD (fun c4 => ?_) (fun c4 => ?_)
          · walk_at "go"
            exact more c4
          · walk_at "go"
            exact none_
    · walk_at "go"
      refine w_iteD (fun c4 => ?_) (fun c4 => ?_)
      · walk_at "go"
        exact more c4
      · walk_at "go"
        exact none_
  rintro σ H3 ⟨bs', rfl, hB', b3, s3, h3⟩
  walk_at "go"
  exact q bs' p H3 hB' hp b3 s3 h3
end G

namespace G
open PySem L2
theorem w_iteB {A B : Prop} {b : Bool} (h1 : b = true → A) (h2 : b = false → B) : if b = true then A else B := by
  cases b with
  | true => exact h1 rfl
  | false => rw [if_neg Bool.false_ne_true]; exact h2 rfl
/-- owners that are a dealing -/
structure DealP (rows : List (Int × Int)) (bs os : List Int) : Prop where
  len : os.length = rows.length
  ends : ∀ (i : Nat) (o : Int) (r : Int × Int), os[i]? = some o → rows[i]? = some r → o = r.1 ∨ o = r.2
  fit : ∀ (p : Nat) (b : Int), bs[p]? = some b → ((os.count (p : Int) : Nat) : Int) ≤ b
theorem count_take {os : List Int} {i : Nat} {o : Int} (h : os[i]? = some o) (z : Int) : (os.take (i + 1)).count z = (os.take i).count z + (if o = z then 1 else 0) := by
  rw [List.take_succ, h, List.count_append]
  show _ + List.count z [o] = _
  by_cases e : o = z
  · subst e; simp
  · simp [e]
/-- what is left behind the first i owners -/
def LeftAt (bs os : List Int) (i : Nat) (left : List Int) : Prop := left.length = bs.length ∧ ∀ (p : Nat) (b : Int), bs[p]? = some b → left[p]? = some (b - (((os.take i).count (p : Int) : Nat) : Int))
theorem LeftAt.start (bs os : List Int) : LeftAt bs os 0 bs := ⟨rfl, fun p b h => by rw [h]; simp⟩
theorem LeftAt.step {bs os left : List Int} {i : Nat} {o z : Int} (h : LeftAt bs os i left) (ho : os[i]? = some o) (h0 : 0 ≤ o) (hz : left[o.toNat]? = some z) : LeftAt bs os (i + 1) (left.set o.toNat (z - 1)) := by
  refine ⟨by rw [List.length_set]; exact h.1, fun p b hb => ?_⟩
  have hl := h.2 p b hb
  rw [List.getElem?_set, count_take ho]
  by_cases e : o.toNat = p
  · have e2 : o = (p : Int) := by omega
    have hlt : o.toNat < left.length := (List.getElem?_eq_some_iff.mp hz).1
    rw [if_pos e, if_pos hlt, if_pos e2]
    rw [e] at hz
    rw [hz] at hl
    have := Option.some.inj hl
    congr 1; omega
  · have e2 : ¬ o = (p : Int) := fun q => e (by omega)
    rw [if_neg e, if_neg e2, hl]; rfl
def sp_law_due (K : PySem.W.Frag) (A : CA) : Sp := fun vs H Q _ => ∃ (pq pb po : Addr) (rows : List (Int × Int)) (us : List V) (bs os : List Int) (m : Int), vs = [.ref pq, .ref pb, .ref po] ∧ H pq = some (.lst us) ∧ Paired (PR H) us rows ∧ RG m rows ∧ us.length ≤ 600 ∧
  H pb = some (.lst (bs.map V.int)) ∧ (bs.length : Int) = m ∧ 1 ≤ m ∧ H po = some (.lst (os.map V.int)) ∧ ∀ (b : Bool) (H' : Hp), (b = true ↔ DealP rows bs os) → Same H H' → Q (.bl b) H'
def t_law_due (K : PySem.W.Frag) (A : CA) : TS :=
  (tSeq (tIfS (tTest (tOp rNe (tCB (rLenQ K) (tCons (tVar 2) tNil)) (tCB (rLenQ K) (tCons (tVar 0) tNil)))) (tRet (tC (.bl false))) tNext)
  (tSeq (tAsg (tCB (oListOf K) (tCons (tVar 1) tNil)) (gName 3))
  (tSeq (tFor (iRng1 (tCons (tCB (rLenQ K) (tCons (tVar 0) tNil)) tNil)) (gName 4)
  (tSeq (tIfS (tAnd (tTest (tOp rNe (tOp (rIxL K) (tVar 2) (tVar 4)) (tOp (rIxT K) (tOp (rIxL K) (tVar 0) (tVar 4)) (tC (.int 0))))) (tTest (tOp rNe (tOp (rIxL K) (tVar 2) (tVar 4)) (tOp (rIxT K) (tOp (rIxL K) (tVar 0) (tVar 4)) (tC (.int 1)))))) (tRet (tC (.bl false))) tNext)
  (tAsg (tOp oSub (tOp (rIxL K) (tVar 3) (tOp (rIxL K) (tVar 2) (tVar 4))) (tC (.int 1))) (gSub (tVar 3) (tOp (rIxL K) (tVar 2) (tVar 4)) rSetL))))
  (tRet (tOp oGe (tCB (rMin K) (tCons (tVar 3) tNil)) (tC (.int 0)))))))

theorem rd_law_due {K : PySem.W.Frag} {A : CA} {vs : List V} {H : Hp} {Q : VK} {E : XK} (h : sp_law_due K A vs H Q E) :
    t_law_due K A { nx := fun _ H' => Q .non H', rt := Q } (start ["pairs", "blank", "owners", "left", "k"] vs) H := by
  obtain ⟨pq, pb, po, rows, us, bs, os, m, rfl, hq, hP, hR, hl, hb, hm, m1, ho, k⟩ := h
  have hlen := hP.length
  unfold t_law_due
  walk_at "go"
  rw [List.length_map]
  refine w_iteN (fun c => ?_) (fun c => ?_)
  · walk_at "go"
    exact k false H ⟨fun e => (by cases e), fun D => absurd (by have := D.len; omega) c⟩ (Same.refl H)
  · walk_at "go"
    intro l hl0
    have npl : pq ≠ l := ne_of_none hq hl0
    have nol : po ≠ l := ne_of_none ho hl0
    have hq1 := keep (o' := .lst (bs.map V.int)) hq hl0
    walk_at "go"
    refine forR (fun i σ H' => ∃ (left : List Int) (k4 : Option V), σ = [some (.ref pq), some (.ref pb), some (.ref po), some (.ref l), k4] ∧ LeftAt bs os i left ∧ (∀ j o r, j < i → os[j]? = some o → rows[j]? = some r → o = r.1 ∨ o = r.2) ∧ Same H H' ∧ H' l = some (.lst (left.map V.int))) ?_ ?_ ?_
    · exact ⟨bs, none, rfl, .start bs os, (fun j o r h => absurd h (Nat.not_lt_zero j)), same_new hl0, upd_same⟩
    · rintro i σ H1 hi ⟨left, k4, rfl, hL, hE, e, hl1⟩
      have hir : i < rows.length := by omega
      have hio : i < os.length := by omega
      have hgo := List.getElem?_eq_getElem hio
      have hgr := List.getElem?_eq_getElem hir
      obtain ⟨v, hv, t, rfl, ht⟩ := Paired.at hP hgr
      have hbd := hR.bd _ (List.getElem_mem hir)
      generalize rows[i] = r at hgr ht hbd
      generalize os[i] = o at hgo
      have ht1 := e _ _ ht
      have hq1 := e _ _ hq
      have ho1 := e _ _ ho
      have hx1 : atI us (0 + (i : Int)) = some (V.ref t) := atn (j := i) (by omega) hv
      have hx2 : atI (os.map V.int) (0 + (i : Int)) = some (V.int o) := atn (j := i) (by omega) (by rw [List.getElem?_map, hgo]; rfl)
      have done : (o = r.1 ∨ o = r.2) → (tAsg (tOp oSub (tOp (rIxL K) (tVar 3) (tOp (rIxL K) (tVar 2) (tVar 4))) (tC (.int 1))) (gSub (tVar 3) (tOp (rIxL K) (tVar 2) (tVar 4)) rSetL))
          { nx := fun σ H' => ∃ (left : List Int) (k4 : Option V), σ = [some (.ref pq), some (.ref pb), some (.ref po), some (.ref l), k4] ∧ LeftAt bs os (i + 1) left ∧ (∀ j o r, j < i + 1 → os[j]? = some o → rows[j]? = some r → o = r.1 ∨ o = r.2) ∧ Same H H' ∧ H' l = some (.lst (left.map V.int)), rt := Q }
          [some (.ref pq), some (.ref pb), some (.ref po), some (.ref l), some (.int (0 + (i : Int)))] H1 := fun ho2 => by
        have o0 : 0 ≤ o ∧ o < m := by omega
        have hk : o.toNat < left.length := by rw [hL.1]; omega
        have hgz := List.getElem?_eq_getElem hk
        generalize left[o.toNat] = z at hgz
        have hx3 : atI (left.map V.int) o = some (V.int z) := atn (j := o.toNat) (by omega) (by rw [List.getElem?_map, hgz]; rfl)
        have hix : ixN (left.map V.int).length o = some o.toNat := ixn (by omega) (by rw [List.length_map]; exact hk)
        walk_at "go"
        refine ⟨_, _, rfl, hL.step hgo o0.1 hgz, fun j o' r' hj h1 h2 => ?_, same_mut e hl0, ?_⟩
        · by_cases q : j = i
          · subst q
            rw [hgo] at h1; rw [hgr] at h2
            cases h1; cases h2; exact ho2
          · exact hE j o' r' (by omega) h1 h2
        · rw [List.map_set]; exact upd_same
      walk_at "go"
      refine w_iteN (fun c1 => ?_) (fun c1 => ?_)
      · walk_at "go"
        refine w_iteN (fun c2 => ?_) (fun c2 => ?_)
        · walk_at "go"
          refine k false H1 ⟨fun q => (by cases q), fun D => ?_⟩ e
          rcases D.ends i o r hgo hgr with q | q
          · exact absurd q c1
          · exact absurd q c2
        · with_reducible refine w_next ?_
          exact done (.inr c2)
      · with_reducible refine w_iteF ?_
        with_reducible refine w_next ?_
        exact done (.inl c1)
    · rintro σ H1 ⟨left, k4, rfl, hL, hE, e, hl1⟩
      rw [Int.toNat_natCast] at hE hL
      walk_at "go"
      refine w_min (SqL.of hl1) (by rw [hL.1]; omega) fun mn hm1 hm2 => ?_
      walk_at "go"
      refine k _ H1 ⟨fun q => ?_, fun D => ?_⟩ e
      · have hmn : 0 ≤ mn := of_decide_eq_true q
        refine ⟨by omega, fun i o r h1 h2 => hE i o r (by have := (List.getElem?_eq_some_iff.mp h2).1; omega) h1 h2, fun p b hb2 => ?_⟩
        have g := hL.2 p b hb2
        have := hm2 _ (List.mem_of_getElem? g)
        rw [List.take_of_length_le (by omega)] at this
        omega
      · refine decide_eq_true ?_
        obtain ⟨p, hp⟩ := List.getElem?_of_mem hm1
        have hpl : p < bs.length := by rw [← hL.1]; exact (List.getElem?_eq_some_iff.mp hp).1
        have g := hL.2 p _ (List.getElem?_eq_getElem hpl)
        have f := D.fit p _ (List.getElem?_eq_getElem hpl)
        rw [hp] at g
        have g := Option.some.inj g
        rw [List.take_of_length_le (by omega)] at g
        omega
theorem cut_le (xs : List Int) (lo hi : Option Int) : ∃ ys : List Int, cutV (xs.map V.int) lo hi = ys.map V.int ∧ ys.length ≤ xs.length := by
  refine ⟨_, map_drop_take xs _ _, ?_⟩
  rw [List.length_take, List.length_drop]; omega
theorem cut_one (xs : List Int) {p : Int} (h : 0 ≤ p) : ∃ ys : List Int, cutV (xs.map V.int) (some p) (some (p + 1)) = ys.map V.int ∧ ys.length ≤ 1 := by
  refine ⟨_, map_drop_take xs _ _, ?_⟩
  rw [List.length_take, List.length_drop]
  obtain ⟨n, rfl⟩ : ∃ n : Nat, p = (n : Int) := ⟨p.toNat, by omega⟩
  rw [show ((n : Int) + 1) = ((n + 1 : Nat) : Int) by omega, HT.sIx_nat, HT.sIx_nat]
  omega
theorem cut_fst (xs : List Int) {p : Int} (h : 0 ≤ p) : ∃ ys : List Int, cutV (xs.map V.int) none (some p) = ys.map V.int ∧ ys.length ≤ p.toNat := by
  refine ⟨_, map_drop_take xs _ _, ?_⟩
  rw [List.length_take, List.length_drop]
  obtain ⟨n, rfl⟩ : ∃ n : Nat, p = (n : Int) := ⟨p.toNat, by omega⟩
  rw [HT.sIx_nat, HT.sIx_none]
  omega
theorem cut_snd (xs : List Int) {p : Int} (h : 0 ≤ p) : ∃ ys : List Int, cutV (xs.map V.int) (some p) none = ys.map V.int ∧ ys.length ≤ xs.length - p.toNat := by
  refine ⟨_, map_drop_take xs _ _, ?_⟩
  rw [List.length_take, List.length_drop]
  obtain ⟨n, rfl⟩ : ∃ n : Nat, p = (n : Int) := ⟨p.toNat, by omega⟩
  rw [HT.sIx_nat, HT.sIx_none, List.length_map]
  omega
def sp_law_bent (K : PySem.W.Frag) (A : CA) : Sp := fun vs H Q _ => ∃ (s po pq : Addr) (many : Int) (rows : List (Int × Int)) (us : List V) (os : List Int), vs = [.ref s, .ref po, .ref pq, .int many] ∧ Src H s ∧ H po = some (.lst (os.map V.int)) ∧ po ≠ s ∧ H pq = some (.lst us) ∧ pq ≠ s ∧ Paired (PR H) us rows ∧ 1 ≤ many ∧ many ≤ 200 ∧ us.length ≤ 600 ∧ os.length ≤ 700 ∧
  ∀ (os' : List Int) (p : Addr) (H' : Hp), os'.length ≤ os.length + 1 → H p = none → But s H H' → Src H' s → H' p = some (.lst (os'.map V.int)) → Q (.ref p) H'
def t_law_bent (K : PySem.W.Frag) (A : CA) : TS :=
  (tSeq (tAsg (tCB (oListOf K) (tCons (tVar 1) tNil)) (gName 4))
  (tSeq (tAsg (tCall (sp_law_take K A) [] E0 (tCons (tVar 0) (tCons (tC (.int 8)) tNil))) (gName 5))
  (tSeq (tAsg (tCall (sp_law_take K A) [] E0 (tCons (tVar 0) (tCons (tVar 3) tNil))) (gName 6))
  (tSeq (tAsg (tC (.int 0)) (gName 7))
  (C8.tCut (tIfS (tTest (tOp (rNeD K) (tVar 4) (tLst tNil))) (tAsg (tCall (sp_law_take K A) [] E0 (tCons (tVar 0) (tCons (tCB (rLenQ K) (tCons (tVar 4) tNil)) tNil))) (gName 7)) tNext)
  (tSeq (tIfS (tTest (tOp rEq (tVar 5) (tC (.int 4)))) (tRet (tSl (rSlL K) (tVar 4) tNoPart (tPart (tUn oNeg (tC (.int 1)))))) tNext)
  (tSeq (tIfS (tTest (tOp rEq (tVar 5) (tC (.int 5)))) (tRet (tOp rCat (tVar 4) (tOrT K (tSl (rSlL K) (tVar 4) (tPart (tVar 7)) (tPart (tOp oAdd (tVar 7) (tC (.int 1))))) (tLst (tCons (tVar 6) tNil))))) tNext)
  (tSeq (tIfS (tTest (tOp rEq (tVar 5) (tC (.int 6)))) (tRet (tOp rCat (tSl (rSlL K) (tVar 4) tNoPart (tPart (tVar 7))) (tSl (rSlL K) (tVar 4) (tPart (tOp oAdd (tVar 7) (tC (.int 1)))) tNoPart))) tNext)
  (tSeq (tIfS (tTest (tOp rEq (tVar 5) (tC (.int 7)))) (tSeq (tAsg (tCB oMin2 (tCons (tCB (rLenQ K) (tCons (tVar 2) tNil)) (tCons (tCB (rLenQ K) (tCons (tVar 4) tNil)) tNil))) (gName 8))
  (tRet (tLc (iRng1 (tCons (tVar 8) tNil)) (gName 9) tYes (tIf (tTest (tOp (rIn K false) (tVar 6) (tOp (rIxL K) (tVar 2) (tVar 9)))) (tVar 6) (tOp (rIxL K) (tVar 4) (tVar 9))) [9]))) tNext)
  (C8.tCut (tIfS (tTest (tOp oLt (tVar 7) (tCB oMin2 (tCons (tCB (rLenQ K) (tCons (tVar 2) tNil)) (tCons (tCB (rLenQ K) (tCons (tVar 4) tNil)) tNil))))) (tIfS (tTest (tOp rEq (tVar 5) (tC (.int 0)))) (tAsg (tOp oSub (tOp oAdd (tOp (rIxT K) (tOp (rIxL K) (tVar 2) (tVar 7)) (tC (.int 0))) (tOp (rIxT K) (tOp (rIxL K) (tVar 2) (tVar 7)) (tC (.int 1)))) (tOp (rIxL K) (tVar 4) (tVar 7))) (gSub (tVar 4) (tVar 7) rSetL)) (tIfS (tTest (tOp rEq (tVar 5) (tC (.int 1)))) (tAsg (tVar 6) (gSub (tVar 4) (tVar 7) rSetL)) (tIfS (tTest (tOp rEq (tVar 5) (tC (.int 2)))) (tAsg (tOp oAdd (tVar 3) (tVar 6)) (gSub (tVar 4) (tVar 7) rSetL)) (tAsg (tOp oSub (tOp (rIxL K) (tVar 4) (tVar 7)) (tVar 3)) (gSub (tVar 4) (tVar 7) rSetL))))) tNext)
  (tRet (tVar 4))))))))))))

theorem rd_law_bent {K : PySem.W.Frag} {A : CA} {vs : List V} {H : Hp} {Q : VK} {E : XK} (h : sp_law_bent K A vs H Q E) :
    t_law_bent K A { nx := fun _ H' => Q .non H', rt := Q } (start ["source", "owners", "pairs", "many", "bent", "way", "page", "place", "size", "k"] vs) H := by
  obtain ⟨s, po, pq, many, rows, us, os, rfl, hs, ho, no, hq, nq, hP, m1, m2, hul, hol, q⟩ := h
  have hlen := hP.length
  unfold t_law_bent
  walk_at "go"
  intro pb hpb
  have npb : pb ≠ s := hs.neFree hpb
  walk_at "go"
  intro way H1 _ _ b1 s1
  have B1 := (But.refl.new hpb).trans b1
  walk_at "go"
  intro page H2 g0 g1 b2 s2
  have B2 := B1.trans b2
  have h2 := b2.at npb (b1.at npb upd_same)
  walk_at "go"
  refine w_cut (fun σ H' => ∃ (place : Int), σ = [some (.ref s), some (.ref po), some (.ref pq), some (.int many), some (.ref pb), some (.int way), some (.int page), some (.int place), none, none] ∧ 0 ≤ place ∧ place ≤ os.length ∧ But s H H' ∧ Src H' s ∧ H' pb = some (.lst (os.map V.int))) ?_ ?_
  · walk_at "go"
    intro p hp
    walk_at "go"
    refine w_neI2 (xs := os) (ys := []) (SqL.of (keep h2 hp)) (SqL.of upd_same) ?_
    walk_at "go"
    refine w_iteN (fun c3 => ?_) (fun c3 => ?_)
    · have hpos : 0 < os.length := by
        cases os with
        | nil => exact absurd rfl c3
        | cons o r => exact Nat.succ_pos _
      have h3 := keep (o' := .lst []) h2 hp
      walk_at "go"
      rw [List.length_map]
      refine i_take (s2.new hp) (by omega) (by omega) ?_
      intro pl H3 p0 p1 b3 s3
      walk_at "go"
      exact ⟨pl, rfl, p0, by omega, (B2.new hp).trans b3, s3, b3.at npb h3⟩
    · walk_at "go"
      exact ⟨0, rfl, by omega, by omega, B2.new hp, s2.new hp, keep h2 hp⟩
  rintro σ H3 ⟨place, rfl, p0, p1, B3, s3, h3⟩
  have hq3 := B3.at nq hq
  have hP3 := PRs.but B3 hs hP
  walk_at "go"
  refine w_iteD (fun c => ?_) (fun c => ?_)
  · walk_at "go"
    intro l hl
    obtain ⟨ys, hy, hyl⟩ := cut_le os none (some (-1))
    rw [hy]
    exact q ys l _ (by omega) (B3.back s3 hl) (B3.new hl) (s3.new hl) upd_same
  walk_at "go"
  refine w_iteD (fun c => ?_) (fun c => ?_)
  · walk_at "go"
    unfold tOrT
    walk_at "go"
    intro l hl
    obtain ⟨ys, hy, hyl⟩ := cut_one os p0
    rw [hy]
    refine ⟨!(ys.map V.int).isEmpty, .inl ⟨_, SqL.of upd_same, rfl⟩, w_iteB (fun e => ?_) (fun e => ?_)⟩
    · refine w_cat (keep h3 hl) upd_same (Nat.le_of_lt (small1000 (by rw [List.length_map, List.length_map]; omega))) fun l2 hl2 => ?_
      refine q (os ++ ys) l2 _ (by rw [List.length_append]; omega) (B3.back s3 (free_upd hl2)) ((B3.new hl).new hl2) ((s3.new hl).new hl2) ?_
      rw [List.map_append]; exact upd_same
    · walk_at "go"
      intro l1 hl1
      refine w_cat (keep (keep h3 hl) hl1) upd_same (Nat.le_of_lt (small1000 (by simp only [List.length_map, List.length_cons, List.length_nil]; omega))) fun l2 hl2 => ?_
      refine q (os ++ [page]) l2 _ (by rw [List.length_append]; exact Nat.le_refl _) (B3.back s3 (free_upd (free_upd hl2))) (((B3.new hl).new hl1).new hl2) (((s3.new hl).new hl1).new hl2) ?_
      rw [List.map_append]; exact upd_same
  walk_at "go"
  refine w_iteD (fun c => ?_) (fun c => ?_)
  · walk_at "go"
    intro l hl
    obtain ⟨ys, hy, hyl⟩ := cut_fst os p0
    rw [hy]
    have h4 := keep (o' := .lst (ys.map V.int)) h3 hl
    walk_at "go"
    intro l1 hl1
    obtain ⟨zs, hz, hzl⟩ := cut_snd os (p := place + 1) (by omega)
    rw [hz]
    refine w_cat (keep upd_same hl1) upd_same (Nat.le_of_lt (small1000 (by rw [List.length_map, List.length_map]; omega))) fun l2 hl2 => ?_
    refine q (ys ++ zs) l2 _ (by rw [List.length_append]; omega) (B3.back s3 (free_upd (free_upd hl2))) (((B3.new hl).new hl1).new hl2) (((s3.new hl).new hl1).new hl2) ?_
    rw [List.map_append]; exact upd_same
  walk_at "go"
  refine w_iteD (fun c => ?_) (fun c => ?_)
  · walk_at "go"
    rw [List.length_map]
    obtain ⟨sz, esz, z0, z1, z2⟩ : ∃ sz : Nat, (if (os.length : Int) < us.length then (os.length : Int) else us.length) = (sz : Int) ∧ sz ≤ os.length ∧ sz ≤ us.length ∧ 0 ≤ sz := by
      by_cases c : (os.length : Int) < us.length
      · exact ⟨os.length, by rw [if_pos c], Nat.le_refl _, by omega, Nat.zero_le _⟩
      · exact ⟨us.length, by rw [if_neg c], by omega, Nat.le_refl _, Nat.zero_le _⟩
    rw [esz]
    walk_at "go"
    refine lcR (fun Dl i H' => Same H3 H' ∧ But s H H' ∧ Src H' s ∧ ∃ zs : List Int, H' Dl = some (.lst (zs.map V.int)) ∧ zs.length = i) (fun Dl hD => ⟨same_new hD, B3.new hD, s3.new hD, [], upd_same, rfl⟩) ?_ ?_
    · rintro Dl i H4 hD hi ⟨e, b, s4, zs, hz, hzl⟩
      have nD : Dl ≠ s := s3.neFree hD
      have hD0 := B3.back s3 hD
      have hir : i < rows.length := by omega
      have hio : i < os.length := by omega
      obtain ⟨v, hv, t, rfl, ht⟩ := Paired.at hP3 (List.getElem?_eq_getElem hir)
      generalize rows[i] = r at ht
      have hx1 : atI us (0 + (i : Int)) = some (V.ref t) := atn (j := i) (by omega) hv
      have hx2 : atI (os.map V.int) (0 + (i : Int)) = some (V.int os[i]) := atn (j := i) (by omega) (by simp [hio])
      generalize os[i] = o at hx2
      have h4 := e _ _ h3
      have hq4 := e _ _ hq3
      have fin : ∀ v : Int, Same H3 (upd H4 Dl (.lst (zs.map V.int ++ [.int v]))) ∧ But s H (upd H4 Dl (.lst (zs.map V.int ++ [.int v]))) ∧ Src (upd H4 Dl (.lst (zs.map V.int ++ [.int v]))) s ∧ ∃ zs' : List Int, (upd H4 Dl (.lst (zs.map V.int ++ [.int v]))) Dl = some (.lst (zs'.map V.int)) ∧ zs'.length = i + 1 := fun v =>
        ⟨same_mut e hD, b.mut hD0, s4.mut nD, zs ++ [v], by rw [← snocI]; exact upd_same, by simp [hzl]⟩
      walk_at "go"
      refine ⟨t, _, rfl, .inr (.inl (.inl (e _ _ ht))), rfl, rfl, ?_⟩
      walk_at "go"
      refine w_iteB (fun _ => ?_) (fun _ => ?_)
      · walk_at "go"
        exact fin page
      · walk_at "go"
        exact fin o
    · rintro Dl H4 hD ⟨e, b, s4, zs, hz, hzl⟩
      exact q zs Dl H4 (by omega) (B3.back s3 hD) b s4 hz
  walk_at "go"
  refine w_cut (fun σ H' => ∃ (os' : List Int), σ = [some (.ref s), some (.ref po), some (.ref pq), some (.int many), some (.ref pb), some (.int way), some (.int page), some (.int place), none, none] ∧ os'.length = os.length ∧ But s H H' ∧ Src H' s ∧ H' pb = some (.lst (os'.map V.int))) ?_ ?_
  · walk_at "go"
    rw [List.length_map]
    refine w_iteD (fun c => ?_) (fun c => ?_)
    · have c : place < os.length ∧ place < us.length := by split at c <;> omega
      have hir : place.toNat < rows.length := by omega
      have hio : place.toNat < os.length := by omega
      obtain ⟨v, hv, t, rfl, ht⟩ := Paired.at hP3 (List.getElem?_eq_getElem hir)
      generalize rows[place.toNat] = r at ht
      have hx1 : atI us place = some (V.ref t) := atn (j := place.toNat) (by omega) hv
      have hx2 : atI (os.map V.int) place = some (V.int os[place.toNat]) := atn (j := place.toNat) (by omega) (by simp [hio])
      have hix : ixN (os.map V.int).length place = some place.toNat := ixn (by omega) (by rw [List.length_map]; exact hio)
      generalize os[place.toNat] = o at hx2
      have fin : ∀ v : Int, ∃ (os' : List Int), [some (V.ref s), some (.ref po), some (.ref pq), some (.int many), some (.ref pb), some (.int way), some (.int page), some (.int place), none, none] = [some (V.ref s), some (.ref po), some (.ref pq), some (.int many), some (.ref pb), some (.int way), some (.int page), some (.int place), none, none] ∧ os'.length = os.length ∧
          But s H (upd H3 pb (.lst ((os.map V.int).set place.toNat (.int v)))) ∧ Src (upd H3 pb (.lst ((os.map V.int).set place.toNat (.int v)))) s ∧ (upd H3 pb (.lst ((os.map V.int).set place.toNat (.int v)))) pb = some (.lst (os'.map V.int)) := fun v =>
        ⟨os.set place.toNat v, rfl, List.length_set, B3.mut hpb, s3.mut npb, by rw [List.map_set]; exact upd_same⟩
      walk_at "go"
      refine w_iteD (fun _ => ?_) (fun _ => ?_)
      · walk_at "go"
        exact fin _
      · walk_at "go"
        refine w_iteD (fun _ => ?_) (fun _ => ?_)
        · walk_at "go"
          exact fin _
        · walk_at "go"
          refine w_iteD (fun _ => ?_) (fun _ => ?_)
          · walk_at "go"
            exact fin _
          · walk_at "go"
            exact fin _
    · walk_at "go"
      exact ⟨os, rfl, rfl, B3, s3, h3⟩
  rintro σ H4 ⟨os', rfl, hl', B4, s4, h4⟩
  walk_at "go"
  exact q os' pb H4 (by omega) hpb B4 s4 h4
end G

namespace G
open PySem L2
/-! ### enumerate, zip -/
section
variable {K : PySem.W.Frag} {a b : Addr} {xs ys : List V} {g : TG} {tb : TS} {D : Ends} {σ : L2.St} {H : Hp}
theorem forE (Pv : Nat → L2.St → Hp → Prop) (h0 : Pv 0 σ H) (hl : ∀ i σ1 H1, i ≤ xs.length → Pv i σ1 H1 → SqL K H1 a xs)
    (hs : ∀ i x T σ1 H1, xs[i]? = some x → Pv i σ1 H1 → H1 T = none → g (.ref T) σ1 (upd H1 T (.tup [.int (i : Nat), x])) fun σ2 H2 => tb { D with nx := Pv (i + 1), ct := Pv (i + 1), bk := D.nx } σ2 H2)
    (hd : ∀ σ1 H1, Pv xs.length σ1 H1 → D.nx σ1 H1) : ForW (Ite K a) g tb D σ H := by
  refine ⟨fun i m s1 G1 => m = xs.length - i ∧ i ≤ xs.length ∧ Pv i s1 G1, ⟨xs.length, rfl, Nat.zero_le _, h0⟩, ?_⟩
  rintro i m s1 G1 ⟨rfl, hi, p⟩
  have hq := hl i s1 G1 hi p
  by_cases lt : i < xs.length
  · refine Or.inr ⟨⟨xs, xs[i], hq, List.getElem?_eq_getElem lt⟩, Pv (i + 1), fun s2 G2 p2 => ⟨xs.length - (i + 1), by omega, rfl, lt, p2⟩, ?_⟩
    rintro v G2 ⟨T, x, rfl, hT, rfl, hx⟩
    exact hs i x T s1 G1 (hx xs hq) p hT
  · have e : i = xs.length := by omega
    subst e
    exact Or.inl ⟨⟨xs, hq, Nat.le_refl _⟩, hd s1 G1 p⟩
theorem forZ (hl : xs.length = ys.length) (Pv : Nat → L2.St → Hp → Prop) (h0 : Pv 0 σ H) (hq : ∀ i σ1 H1, Pv i σ1 H1 → SqL K H1 a xs ∧ SqL K H1 b ys)
    (hs : ∀ i x y T σ1 H1, xs[i]? = some x → ys[i]? = some y → Pv i σ1 H1 → H1 T = none → i < xs.length → g (.ref T) σ1 (upd H1 T (.tup [x, y])) fun σ2 H2 => tb { D with nx := Pv (i + 1), ct := Pv (i + 1), bk := D.nx } σ2 H2)
    (hd : ∀ σ1 H1, Pv xs.length σ1 H1 → D.nx σ1 H1) : ForW (Itz K a b) g tb D σ H := by
  refine ⟨fun i m s1 G1 => m = xs.length - i ∧ i ≤ xs.length ∧ Pv i s1 G1, ⟨xs.length, rfl, Nat.zero_le _, h0⟩, ?_⟩
  rintro i m s1 G1 ⟨rfl, hi, p⟩
  have hh := hq i s1 G1 p
  by_cases lt : i < xs.length
  · refine Or.inr ⟨⟨xs, ys, xs[i], ys[i], hh.1, hh.2, List.getElem?_eq_getElem lt, List.getElem?_eq_getElem (by omega)⟩, Pv (i + 1), fun s2 G2 p2 => ⟨xs.length - (i + 1), by omega, rfl, lt, p2⟩, ?_⟩
    rintro v G2 ⟨T, x, y, rfl, hT, rfl, hx, hy⟩
    exact hs i x y T s1 G1 (hx xs hh.1) (hy ys hh.2) p hT lt
  · have e : i = xs.length := by omega
    subst e
    exact Or.inl ⟨⟨xs, ys, hh.1, hh.2, Or.inl (Nat.le_refl _)⟩, hd s1 G1 p⟩
end
/-! ### sorted rows -/
def SO (l : List (Int × Int)) : Prop := l.Pairwise fun a b => SrtO.lexB b a = false
theorem lex_anti {a b : Int × Int} (h1 : SrtO.lexB a b = false) (h2 : SrtO.lexB b a = false) : a = b := by
  have g1 := SrtO.lexB_no.mp h1
  have g2 := SrtO.lexB_no.mp h2
  have e1 : a.1 = b.1 := by omega
  exact Prod.ext e1 (by omega)
theorem SO.uniq : ∀ {l m : List (Int × Int)}, SO l → SO m → l.Perm m → l = m
  | [], m, _, _, h => h.nil_eq
  | x :: l, [], _, _, h => absurd h.length_eq (by simp)
  | x :: l, y :: m, hl, hm, h => by
    have hx := List.pairwise_cons.mp hl
    have hy := List.pairwise_cons.mp hm
    have e : x = y := by
      have h1 : y ∈ x :: l := h.mem_iff.mpr List.mem_cons_self
      have h2 : x ∈ y :: m := h.mem_iff.mp List.mem_cons_self
      rcases List.mem_cons.mp h1 with k | k
      · exact k.symm
      · rcases List.mem_cons.mp h2 with k2 | k2
        · exact k2
        · exact lex_anti (hy.1 x k2) (hx.1 y k)
    subst e
    rw [SO.uniq hx.2 hy.2 h.cons_inv]
structure SortedOf (rows rs : List (Int × Int)) : Prop where
  perm : rs.Perm rows
  so : SO rs
theorem SortedOf.uniq {rows l m : List (Int × Int)} (h1 : SortedOf rows l) (h2 : SortedOf rows m) : l = m := SO.uniq h1.so h2.so (h1.perm.trans h2.perm.symm)
theorem SortedOf.rg {n : Int} {rows rs : List (Int × Int)} (h : SortedOf rows rs) (hR : RG n rows) : RG n rs := ⟨fun r hr => hR.bd r (h.perm.mem_iff.mp hr), h.perm.nodup_iff.mpr hR.nd⟩
/-- sorted(..) of a list of pairs -/
theorem w_sortP {K : PySem.W.Frag} {H : Hp} {Q : VK} {p : Addr} {us : List V} {rows : List (Int × Int)} (hp : H p = some (.lst us)) (hP : Paired (PR H) us rows)
    (q : ∀ (rs : List (Int × Int)) (ys : List V) (l : Addr), SortedOf rows rs → H l = none → ys.length = us.length → Paired (PR H) ys rs → Q (.ref l) (upd H l (.lst ys))) : rSortedPO K [.ref p] H Q := by
  have pick : ∀ v ∈ us, ∃ r, PR H v r := fun v hv => by
    obtain ⟨i, hi⟩ := List.getElem?_of_mem hv
    obtain ⟨r, _, h⟩ := Paired.at' hP hi
    exact ⟨r, h⟩
  let k : V → Int × Int := fun v => match v with
    | .ref t => match H t with
      | some (.tup [.int i, .int j]) => (i, j)
      | _ => (0, 0)
    | _ => (0, 0)
  have hk : ∀ {v : V} {r : Int × Int}, PR H v r → k v = r := fun {v r} h => by
    obtain ⟨t, rfl, ht⟩ := h
    show (match H t with
      | some (.tup [.int i, .int j]) => (i, j)
      | _ => (0, 0)) = r
    rw [ht]
  have hmap : ∀ {l : List V} {s : List (Int × Int)}, Paired (PR H) l s → l.map k = s := fun {l s} h => by
    induction h with
    | nil => rfl
    | cons f _ ih => rw [List.map_cons, hk f, ih]
  refine ⟨p, us, k, rfl, SqL.of hp, fun v hv => ?_, fun ys l h1 h2 hl => ?_⟩
  · obtain ⟨r, hr⟩ := pick v hv
    obtain ⟨t, rfl, ht⟩ := id hr
    exact ⟨t, rfl, by rw [hk hr]; exact ht⟩
  · have hy : ∀ v ∈ ys, PR H v (k v) := fun v hv => by
      obtain ⟨r, hr⟩ := pick v (h2.perm.mem_iff.mp hv)
      rw [hk hr]; exact hr
    have hpy : Paired (PR H) ys (ys.map k) := by
      clear h1 h2
      induction ys with
      | nil => exact .nil
      | cons v r ih => exact .cons (hy v List.mem_cons_self) (ih fun w hw => hy w (List.mem_cons_of_mem _ hw))
    refine q (ys.map k) ys l ⟨?_, ?_⟩ hl h2.perm.length_eq hpy
    · rw [← hmap hP]; exact h2.perm.map k
    · exact List.pairwise_map.mpr h1
/-! ### the program's webs -/
def sp_is_pointer (K : PySem.W.Frag) (A : CA) : Sp := fun vs H Q _ => ∃ (n a b : Int), vs = [.int n, .int a, .int b] ∧ 0 ≤ a ∧ a < n ∧ 0 ≤ b ∧ b < n ∧ a ≠ b ∧ Q (.bl true) H
def t_is_pointer (K : PySem.W.Frag) (A : CA) : TS :=
  (tRet (tAndV (tChain oLe oLt (tC (.int 0)) (tVar 1) (tVar 0)) (tAndV (tChain oLe oLt (tC (.int 0)) (tVar 2) (tVar 0)) (tOp rNe (tVar 1) (tVar 2)))))

theorem rd_is_pointer {K : PySem.W.Frag} {A : CA} {vs : List V} {H : Hp} {Q : VK} {E : XK} (h : sp_is_pointer K A vs H Q E) :
    t_is_pointer K A { nx := fun _ H' => Q .non H', rt := Q } (start ["pages", "holder", "target"] vs) H := by
  obtain ⟨n, a, b, rfl, h1, h2, h3, h4, h5, q⟩ := h
  unfold t_is_pointer
  walk_at "go"
  refine w_iteD (fun _ => ?_) (fun c => absurd h1 c)
  walk_at "go"
  rw [decide_eq_true h2]
  walk_at "go"
  refine w_iteD (fun _ => ?_) (fun c => absurd h3 c)
  walk_at "go"
  rw [decide_eq_true h4]
  walk_at "go"
  rw [decide_eq_false h5]
  exact q
def key (r : Int × Int) : List L2.Key := [.inl r.1, .inl r.2]
def ent (r : Int × Int) : List L2.Key × V := (key r, .bl true)
theorem key_inj {r s : Int × Int} (h : key r = key s) : r = s := by
  unfold key at h
  have h1 := List.cons.inj h
  have h2 := List.cons.inj h1.2
  exact Prod.ext (Sum.inl.inj h1.1) (Sum.inl.inj h2.1)
theorem no_key {r : Int × Int} : ∀ {l : List (Int × Int)}, r ∉ l → valV (l.map ent) (key r) = none
  | [], _ => rfl
  | x :: l, h => by
    rw [List.map_cons, valV_neg (p := ent x) (fun e => h (by rw [key_inj e]; exact List.mem_cons_self))]
    exact no_key fun m => h (List.mem_cons_of_mem _ m)
def sp_as_known (K : PySem.W.Frag) (A : CA) : Sp := fun vs H Q _ => ∃ (n : Int) (pq : Addr) (us : List V) (rows : List (Int × Int)), vs = [.int n, .ref pq] ∧ H pq = some (.lst us) ∧ Paired (PR H) us rows ∧ RG n rows ∧ us.length ≤ 600 ∧
  ∀ (d : Addr) (H' : Hp), H d = none → Same H H' → H' d = some (.dT (rows.map ent)) → Q (.ref d) H'
def t_as_known (K : PySem.W.Frag) (A : CA) : TS :=
  (tSeq (tAsg tDNewT (gName 2))
  (tSeq (tFor (iEnum K (tCons (tVar 1) tNil)) (gTup K 2 (gCons (gName 3) (gCons (gTup K 2 (gCons (gName 4) (gCons (gName 5) gNil))) gNil)))
  (tSeq (tIfS (tOr (tNot (tB (tCall (sp_is_pointer K A) [] E0 (tCons (tVar 0) (tCons (tVar 4) (tCons (tVar 5) tNil)))))) (tB (tDIn (tTup (tCons (tVar 4) (tCons (tVar 5) tNil))) (tVar 2)))) tNever tNext)
  (sDPut (tVar 2) (tTup (tCons (tVar 4) (tCons (tVar 5) tNil))) (tC (.bl true)))))
  (tRet (tVar 2))))

theorem rd_as_known {K : PySem.W.Frag} {A : CA} {vs : List V} {H : Hp} {Q : VK} {E : XK} (h : sp_as_known K A vs H Q E) :
    t_as_known K A { nx := fun _ H' => Q .non H', rt := Q } (start ["pages", "pointers", "known", "index", "holder", "target"] vs) H := by
  obtain ⟨n, pq, us, rows, rfl, hq, hP, hR, hl, q⟩ := h
  have hlen := hP.length
  unfold t_as_known
  walk_at "go"
  intro d hd
  walk_at "go"
  refine ⟨pq, us, rfl, SqL.of (keep hq hd), ?_⟩
  refine forE (xs := us) (fun i σ H' => ∃ k3 k4 k5 : Option V, σ = [some (.int n), some (.ref pq), some (.ref d), k3, k4, k5] ∧ Same H H' ∧ H' d = some (.dT ((rows.take i).map ent))) ?_ ?_ ?_ ?_
  · exact ⟨none, none, none, rfl, same_new hd, upd_same⟩
  · rintro i σ H1 _ ⟨k3, k4, k5, rfl, e, _⟩
    exact SqL.of (e _ _ hq)
  · rintro i x T σ H1 hx ⟨k3, k4, k5, rfl, e, hdd⟩ hT
    obtain ⟨r, hr, t, rfl, ht⟩ := Paired.at' hP hx
    have hb := hR.bd r (List.mem_of_getElem? hr)
    have hi : i < us.length := (List.getElem?_eq_some_iff.mp hx).1
    have htT : (upd H1 T (.tup [.int (i : Nat), .ref t])) t = some (.tup [.int r.1, .int r.2]) := keep (e _ _ ht) hT
    have hnr : r ∉ rows.take i := fun hm => by
      obtain ⟨j, hj⟩ := List.getElem?_of_mem hm
      have hji : j < i := by
        have := (List.getElem?_eq_some_iff.mp hj).1
        rw [List.length_take] at this; omega
      rw [List.getElem?_take_of_lt hji] at hj
      have := nd_ix hR.nd hj hr
      omega
    have hTd : d ≠ T := ne_of_none hdd hT
    walk_at "go"
    refine ⟨n, r.1, r.2, rfl, hb.1, hb.2.1, hb.2.2.1, hb.2.2.2.1, hb.2.2.2.2, ?_⟩
    walk_at "go"
    show (tB (tDIn (tTup (tCons (tVar 4) (tCons (tVar 5) tNil))) (tVar 2))) _ _ _
    unfold tDIn
    walk_at "go"
    intro t2 ht2
    walk_at "go"
    refine ⟨d, _, rfl, DGet.t (k := key r) (keep (keep hdd hT) ht2) upd_same, ?_⟩
    rw [no_key hnr]
    walk_at "go"
    refine w_iteF ?_
    unfold sDPut
    walk_at "go"
    intro t3 ht3
    have hd3 : (upd (upd (upd H1 T (.tup [.int (i : Nat), .ref t])) t2 (.tup [.int r.1, .int r.2])) t3 (.tup [.int r.1, .int r.2])) d = some (.dT ((rows.take i).map ent)) := keep (keep (keep hdd hT) ht2) ht3
    refine ⟨d, _, rfl, DPut.t (k := key r) hd3 upd_same (small1000 (by rw [List.length_map, List.length_take]; omega)), ?_⟩
    rw [putK_new _ (no_key hnr)]
    refine ⟨_, _, _, rfl, same_mut (((e.trans (same_new hT)).trans (same_new ht2)).trans (same_new ht3)) hd, ?_⟩
    rw [List.take_succ, hr, List.map_append]
    exact upd_same
  · rintro σ H1 ⟨k3, k4, k5, rfl, e, hdd⟩
    rw [hlen, List.take_length] at hdd
    walk_at "go"
    exact q d H1 hd e hdd
def sp_grouped (K : PySem.W.Frag) (A : CA) : Sp := fun vs H Q _ => ∃ (n : Int) (pq : Addr) (us : List V) (rows : List (Int × Int)), vs = [.int n, .ref pq] ∧ H pq = some (.lst us) ∧ Paired (PR H) us rows ∧ (∀ r ∈ rows, 0 ≤ r.1 ∧ r.1 < n) ∧ us.length ≤ 600 ∧ 0 ≤ n ∧ n ≤ 500 ∧
  ∀ (f : Addr) (H' : Hp), H f = none → Same H H' → Q (.ref f) H'
def t_grouped (K : PySem.W.Frag) (A : CA) : TS :=
  (tSeq (tAsg (tLc (iRng1 (tCons (tVar 0) tNil)) (gName 3) tYes (tLst tNil) [3]) (gName 2))
  (tSeq (tFor (iList K (tVar 1)) (gTup K 2 (gCons (gName 4) (gCons (gName 5) gNil)))
  (tDrop (tBM K "list" rAppend (tOp (rIxL K) (tVar 2) (tVar 4)) (tCons (tVar 5) tNil))))
  (tRet (tVar 2))))

theorem rd_grouped {K : PySem.W.Frag} {A : CA} {vs : List V} {H : Hp} {Q : VK} {E : XK} (h : sp_grouped K A vs H Q E) :
    t_grouped K A { nx := fun _ H' => Q .non H', rt := Q } (start ["pages", "pairs", "found", "_", "page", "other"] vs) H := by
  obtain ⟨n, pq, us, rows, rfl, hq, hP, hR, hl, n0, n1, q⟩ := h
  have hlen := hP.length
  unfold t_grouped
  walk_at "go"
  refine lcR (fun Dl i H' => Same H H' ∧ ∃ ls : List Addr, H' Dl = some (.lst (ls.map V.ref)) ∧ ls.length = i ∧ ∀ l ∈ ls, H l = none ∧ l ≠ Dl ∧ ∃ xs, H' l = some (.lst xs) ∧ xs.length = 0) (fun Dl hD => ⟨same_new hD, [], upd_same, rfl, fun _ h => by cases h⟩) ?_ ?_
  · rintro Dl i H1 hD hi ⟨e, ls, hL, hll, hls⟩
    walk_at "go"
    intro l hl0
    have hL1 := keep (o' := .lst []) hL hl0
    walk_at "go"
    refine ⟨same_mut (e.trans (same_new hl0)) hD, ls ++ [l], by rw [List.map_append]; exact upd_same, by simp [hll], fun x hx => ?_⟩
    rcases List.mem_append.mp hx with k | k
    · obtain ⟨a1, a2, xs, a3, a4⟩ := hls x k
      exact ⟨a1, a2, xs, keepNe (keep a3 hl0) a2, a4⟩
    · rw [List.mem_singleton.mp k]
      have hne : l ≠ Dl := (ne_of_none hL hl0).symm
      exact ⟨e.free hl0, hne, [], keepNe upd_same hne, rfl⟩
  · rintro Dl H1 hD ⟨e, ls, hL, hll, hls⟩
    have hq1 := e _ _ hq
    walk_at "go"
    refine forL (xs := us) (fun i σ H' => ∃ k3 k4 k5 : Option V, σ = [some (.int n), some (.ref pq), some (.ref Dl), k3, k4, k5] ∧ Same H H' ∧ H' Dl = some (.lst (ls.map V.ref)) ∧ ∀ l ∈ ls, ∃ xs, H' l = some (.lst xs) ∧ xs.length ≤ i) ?_ ?_ ?_ ?_
    · exact ⟨_, _, _, rfl, e, hL, fun l hl => by obtain ⟨_, _, xs, a3, a4⟩ := hls l hl; exact ⟨xs, a3, by omega⟩⟩
    · rintro i σ H2 _ ⟨k3, k4, k5, rfl, e2, _⟩
      exact SqL.of (e2 _ _ hq)
    · rintro i x σ H2 hx ⟨k3, k4, k5, rfl, e2, hL2, hls2⟩
      obtain ⟨r, hr, t, rfl, ht⟩ := Paired.at' hP hx
      have hb := hR r (List.mem_of_getElem? hr)
      have hi : i < us.length := (List.getElem?_eq_some_iff.mp hx).1
      have ht2 := e2 _ _ ht
      have hk : r.1.toNat < ls.length := by omega
      have hm := List.getElem_mem hk
      have hxx : atI (ls.map V.ref) r.1 = some (V.ref ls[r.1.toNat]) := atn (j := r.1.toNat) (by omega) (by simp [hk])
      obtain ⟨a1, a2, _⟩ := hls _ hm
      obtain ⟨xs, a3, a4⟩ := hls2 _ hm
      generalize ls[r.1.toNat] = l at hxx a1 a2 a3
      walk_at "go"
      refine ⟨_, _, _, rfl, same_mut e2 a1, keepNe hL2 a2.symm, fun y hy => ?_⟩
      by_cases c : y = l
      · subst c; exact ⟨_, upd_same, by rw [List.length_append, List.length_singleton]; omega⟩
      · obtain ⟨zs, z1, z2⟩ := hls2 y hy
        exact ⟨zs, keepNe z1 c, by omega⟩
    · rintro σ H2 ⟨k3, k4, k5, rfl, e2, _, _⟩
      walk_at "go"
      exact q Dl H2 hD e2
end G

namespace G
open PySem L2
/-! ### objects -/
theorem sne {f g : Str} (h : decide (f = g) = false) : ¬ f = g := of_decide_eq_false h
def webFs (n : Int) (d ar tg hd : Addr) : List (Str × V) := putF "_holders" (.ref hd) (putF "_targets" (.ref tg) (putF "_arrows" (.ref ar) (putF "_known" (.ref d) (putF "pages" (.int n) []))))
theorem web_pages {n : Int} {d ar tg hd : Addr} : (webFs n d ar tg hd).lookup ("pages" : Str) = some (.int n) := by
  unfold webFs
  rw [lookup_putF, if_neg (by decide +kernel), lookup_putF, if_neg (by decide +kernel), lookup_putF, if_neg (by decide +kernel), lookup_putF, if_neg (by decide +kernel), lookup_putF, if_pos rfl]
theorem web_arrows {n : Int} {d ar tg hd : Addr} : (webFs n d ar tg hd).lookup ("_arrows" : Str) = some (.ref ar) := by
  unfold webFs
  rw [lookup_putF, if_neg (by decide +kernel), lookup_putF, if_neg (by decide +kernel), lookup_putF, if_pos rfl]
theorem web_noarrows {n : Int} {d ar tg hd : Addr} : (webFs n d ar tg hd).lookup ("arrows" : Str) = none := by
  unfold webFs
  rw [lookup_putF, if_neg (by decide +kernel), lookup_putF, if_neg (by decide +kernel), lookup_putF, if_neg (by decide +kernel), lookup_putF, if_neg (by decide +kernel), lookup_putF, if_neg (by decide +kernel)]
  rfl
theorem len_put1 {f : Str} {v : V} {fs : List (Str × V)} {k : Nat} (h : fs.length ≤ k) : (putF f v fs).length ≤ k + 1 := Nat.le_trans (length_putF f v fs) (Nat.succ_le_succ h)
structure WebAt (A : CA) (H : Hp) (w : Addr) (n : Int) (rs : List (Int × Int)) : Prop where
  ex : ∃ (dx d ar tg hd : Addr) (us : List V), H w = some (.ins A.Web dx (webFs n d ar tg hd)) ∧ H ar = some (.lst us) ∧ Paired (PR H) us rs ∧ us.length ≤ 600
theorem WebAt.same {A : CA} {H H' : Hp} {w : Addr} {n : Int} {rs : List (Int × Int)} (e : Same H H') (h : WebAt A H w n rs) : WebAt A H' w n rs :=
  let ⟨dx, d, ar, tg, hd, us, h1, h2, h3, h4⟩ := h.ex; ⟨dx, d, ar, tg, hd, us, e _ _ h1, e _ _ h2, PRs.same e h3, h4⟩
def sp_Web_init (K : PySem.W.Frag) (A : CA) : Sp := fun vs H Q _ => ∃ (H0 : Hp) (w dx pq : Addr) (n : Int) (us : List V) (rows : List (Int × Int)), vs = [.ref w, .int n, .ref pq] ∧ H = upd (upd H0 dx (.own w)) w (.ins A.Web dx []) ∧ H0 w = none ∧ H0 dx = none ∧ dx ≠ w ∧ H0 pq = some (.lst us) ∧ Paired (PR H0) us rows ∧ RG n rows ∧ us.length ≤ 600 ∧ 1 ≤ n ∧ n ≤ 500 ∧
  ∀ (rs : List (Int × Int)) (H' : Hp), SortedOf rows rs → Same H0 H' → WebAt A H' w n rs → Q .non H'
def t_Web_init (K : PySem.W.Frag) (A : CA) : TS :=
  (tSeq (sFld K (tVar 0) (tVar 1) "pages")
  (tSeq (sFld K (tVar 0) (tCall (sp_as_known K A) [] E0 (tCons (tVar 1) (tCons (tVar 2) tNil))) "_known")
  (tSeq (sFld K (tVar 0) (tCB (rSortedPO K) (tCons (tCB oListD (tCons (tFld K (tVar 0) "_known") tNil)) tNil)) "_arrows")
  (tSeq (sFld K (tVar 0) (tCall (sp_grouped K A) [] E0 (tCons (tVar 1) (tCons (tFld K (tVar 0) "_arrows") tNil))) "_targets")
  (sFld K (tVar 0) (tCall (sp_grouped K A) [] E0 (tCons (tVar 1) (tCons (tLc (iList K (tFld K (tVar 0) "_arrows")) (gTup K 2 (gCons (gName 3) (gCons (gName 4) gNil))) tYes (tTup (tCons (tVar 4) (tCons (tVar 3) tNil))) [3, 4]) tNil))) "_holders")))))

theorem rd_Web_init {K : PySem.W.Frag} {A : CA} (T : CT K A) {vs : List V} {H : Hp} {Q : VK} {E : XK} (h : sp_Web_init K A vs H Q E) :
    t_Web_init K A { nx := fun _ H' => Q .non H', rt := Q } (start ["self", "pages", "pointers", "holder", "target"] vs) H := by
  obtain ⟨H0, w, dx, pq, n, us, rows, rfl, rfl, fw, fdx, ndx, hq, hP, hR, hl, n1, n2, q⟩ := h
  have hlen := hP.length
  have e0 : Same H0 (upd (upd H0 dx (.own w)) w (.ins A.Web dx [])) := same_mut (same_new fdx) fw
  unfold t_Web_init
  walk_at "go"
  refine w_sfld2 upd_same T.c_Web T.n_Web_pages (by decide) ?_
  -- the instance stands at w, all else as it was
  have st : ∀ (fs : List (Str × V)) (H1 H2 : Hp), Same H0 H1 → Same H0 (upd H1 w (.ins A.Web dx fs)) := fun fs H1 _ e => same_mut e fw
  have e1 := same_mut (o := .ins A.Web dx (putF "pages" (.int n) [])) e0 fw
  have hw1 : (upd (upd (upd H0 dx (.own w)) w (.ins A.Web dx [])) w (.ins A.Web dx (putF "pages" (.int n) []))) w = some (.ins A.Web dx (putF "pages" (.int n) [])) := upd_same
  generalize upd (upd (upd H0 dx (.own w)) w (.ins A.Web dx [])) w (.ins A.Web dx (putF "pages" (.int n) [])) = H1 at e1 hw1
  walk_at "go"
  refine ⟨n, pq, us, rows, rfl, e1 _ _ hq, PRs.same e1 hP, hR, hl, fun d H2 fd e2 hd => ?_⟩
  walk_at "go"
  refine w_sfld2 (e2 _ _ hw1) T.c_Web T.n_Web__known (Nat.lt_of_le_of_lt (len_put1 (Nat.zero_le 0)) (by decide)) ?_
  have nd : d ≠ w := (ne_of_none hw1 fd).symm
  have E2 := same_mut (o := .ins A.Web dx (putF "_known" (.ref d) (putF "pages" (.int n) []))) (e1.trans e2) fw
  have hw2 : (upd H2 w (.ins A.Web dx (putF "_known" (.ref d) (putF "pages" (.int n) [])))) w = some (.ins A.Web dx (putF "_known" (.ref d) (putF "pages" (.int n) []))) := upd_same
  have hd2 : (upd H2 w (.ins A.Web dx (putF "_known" (.ref d) (putF "pages" (.int n) [])))) d = some (.dT (rows.map ent)) := keepNe hd nd
  generalize upd H2 w (.ins A.Web dx (putF "_known" (.ref d) (putF "pages" (.int n) []))) = H3 at E2 hw2 hd2
  walk_at "go"
  refine w_fld2 hw2 T.c_Web T.n_Web__known (by rw [lookup_putF, if_pos rfl]) ?_
  walk_at "go"
  refine ⟨d, _, rfl, Or.inl hd2, fun kl bs fkl hk => ?_⟩
  have hkP : Paired (PR (upd H3 kl (.lst (bs.map V.ref)))) (bs.map V.ref) rows := by
    have hk2 : ∀ {l : List (Int × Int)} {cs : List Addr}, IsKeys H3 (l.map ent) cs → Paired (PR H3) (cs.map V.ref) l := fun {l} => by
      induction l with
      | nil => intro cs h; cases h; exact .nil
      | cons x r ih => intro cs h; cases h with
        | cons f g => exact .cons ⟨_, rfl, f⟩ (ih g)
    exact PRs.new fkl (hk2 hk)
  have hkl : (upd H3 kl (.lst (bs.map V.ref))) kl = some (.lst (bs.map V.ref)) := upd_same
  have E4 := E2.trans (same_new (o := .lst (bs.map V.ref)) fkl)
  have hw4 : (upd H3 kl (.lst (bs.map V.ref))) w = _ := keep hw2 fkl
  generalize upd H3 kl (.lst (bs.map V.ref)) = H4 at hkP hkl E4 hw4
  walk_at "go"
  refine w_sortP hkl hkP fun rs ys ar hS far hyl hyP => ?_
  have hyl2 : ys.length ≤ 600 := by have := hkP.length; omega
  have harw : ar ≠ w := (ne_of_none hw4 far).symm
  walk_at "go"
  refine w_sfld2 (keep hw4 far) T.c_Web T.n_Web__arrows (Nat.lt_of_le_of_lt (len_put1 (len_put1 (Nat.zero_le 0))) (by decide)) ?_
  have E5 := same_mut (o := .ins A.Web dx (putF "_arrows" (.ref ar) (putF "_known" (.ref d) (putF "pages" (.int n) [])))) (E4.trans (same_new (o := .lst ys) far)) fw
  have har5 : (upd (upd H4 ar (.lst ys)) w (.ins A.Web dx (putF "_arrows" (.ref ar) (putF "_known" (.ref d) (putF "pages" (.int n) []))))) ar = some (.lst ys) := keepNe upd_same harw
  have hw5 : (upd (upd H4 ar (.lst ys)) w (.ins A.Web dx (putF "_arrows" (.ref ar) (putF "_known" (.ref d) (putF "pages" (.int n) []))))) w = some (.ins A.Web dx (putF "_arrows" (.ref ar) (putF "_known" (.ref d) (putF "pages" (.int n) [])))) := upd_same
  have hP5 : Paired (PR (upd (upd H4 ar (.lst ys)) w (.ins A.Web dx (putF "_arrows" (.ref ar) (putF "_known" (.ref d) (putF "pages" (.int n) [])))))) ys rs := (PRs.new far hyP).mono fun v r ⟨t, e, ht⟩ => ⟨t, e, keepNe ht (ne_of ht (keep hw4 far) (by intro z; cases z))⟩
  generalize upd (upd H4 ar (.lst ys)) w (.ins A.Web dx (putF "_arrows" (.ref ar) (putF "_known" (.ref d) (putF "pages" (.int n) [])))) = H5 at E5 har5 hw5 hP5
  have hRs := hS.rg hR
  have lk5 : (putF "_arrows" (V.ref ar) (putF "_known" (.ref d) (putF "pages" (.int n) []))).lookup ("_arrows" : Str) = some (.ref ar) := by rw [lookup_putF, if_pos rfl]
  walk_at "go"
  refine w_fld2 hw5 T.c_Web T.n_Web__arrows lk5 ?_
  walk_at "go"
  refine ⟨n, ar, ys, rs, rfl, har5, hP5, fun r hr => ⟨(hRs.bd r hr).1, (hRs.bd r hr).2.1⟩, hyl2, by omega, n2, fun tg H6 ftg e6 => ?_⟩
  walk_at "go"
  refine w_sfld2 (e6 _ _ hw5) T.c_Web T.n_Web__targets (Nat.lt_of_le_of_lt (len_put1 (len_put1 (len_put1 (Nat.zero_le 0)))) (by decide)) ?_
  have ntg : tg ≠ w := (ne_of_none hw5 ftg).symm
  have E7 := same_mut (o := .ins A.Web dx (putF "_targets" (.ref tg) (putF "_arrows" (.ref ar) (putF "_known" (.ref d) (putF "pages" (.int n) []))))) (E5.trans e6) fw
  have har7 : (upd H6 w (.ins A.Web dx (putF "_targets" (.ref tg) (putF "_arrows" (.ref ar) (putF "_known" (.ref d) (putF "pages" (.int n) [])))))) ar = some (.lst ys) := keepNe (e6 _ _ har5) harw
  have hw7 : (upd H6 w (.ins A.Web dx (putF "_targets" (.ref tg) (putF "_arrows" (.ref ar) (putF "_known" (.ref d) (putF "pages" (.int n) [])))))) w = some (.ins A.Web dx (putF "_targets" (.ref tg) (putF "_arrows" (.ref ar) (putF "_known" (.ref d) (putF "pages" (.int n) []))))) := upd_same
  have hP7 : Paired (PR (upd H6 w (.ins A.Web dx (putF "_targets" (.ref tg) (putF "_arrows" (.ref ar) (putF "_known" (.ref d) (putF "pages" (.int n) []))))))) ys rs := (PRs.same e6 hP5).mono fun v r ⟨t, e, ht⟩ => ⟨t, e, keepNe ht (ne_of ht (e6 _ _ hw5) (by intro z; cases z))⟩
  generalize upd H6 w (.ins A.Web dx (putF "_targets" (.ref tg) (putF "_arrows" (.ref ar) (putF "_known" (.ref d) (putF "pages" (.int n) []))))) = H7 at E7 har7 hw7 hP7
  have lk7 : (putF "_targets" (V.ref tg) (putF "_arrows" (V.ref ar) (putF "_known" (.ref d) (putF "pages" (.int n) [])))).lookup ("_arrows" : Str) = some (.ref ar) := by rw [lookup_putF, if_neg (by decide +kernel), lookup_putF, if_pos rfl]
  walk_at "go"
  refine w_fld2 hw7 T.c_Web T.n_Web__arrows lk7 ?_
  walk_at "go"
  refine lcL (xs := ys) (fun Dl i H' => Same H7 H' ∧ ∃ ws, H' Dl = some (.lst ws) ∧ ws.length = i ∧ Paired (PR H') ws ((rs.map fun r => (r.2, r.1)).take i)) (fun Dl hD => ⟨same_new hD, [], upd_same, rfl, .nil⟩) (fun Dl i H' hD hi ⟨e, _⟩ => SqL.of (e _ _ har7)) ?_ ?_
  · rintro Dl i x H8 hD hx ⟨e, ws, hDl, hwl, hW⟩
    obtain ⟨r, hr, t, rfl, ht⟩ := Paired.at' hP7 hx
    have hi : i < ys.length := (List.getElem?_eq_some_iff.mp hx).1
    have ht8 := e _ _ ht
    walk_at "go"
    intro t2 ht2
    walk_at "go"
    refine ⟨same_mut (e.trans (same_new ht2)) hD, _, upd_same, by simp [hwl], ?_⟩
    rw [List.take_succ, List.getElem?_map, hr]
    exact push_row hDl hW ht2
  · rintro Dl H8 hD ⟨e, ws, hDl, hwl, hW⟩
    have hyrs := hP7.length
    rw [hyrs, List.take_of_length_le (by rw [List.length_map]; exact Nat.le_refl _)] at hW
    walk_at "go"
    refine ⟨n, Dl, ws, _, rfl, hDl, hW, fun r hr => ?_, by omega, by omega, n2, fun hd H9 fhd e9 => ?_⟩
    · obtain ⟨y, hy, rfl⟩ := List.mem_map.mp hr
      exact ⟨(hRs.bd y hy).2.2.1, (hRs.bd y hy).2.2.2.1⟩
    · walk_at "go"
      have hw9 := e9 _ _ (e _ _ hw7)
      refine w_sfld2 hw9 T.c_Web T.n_Web__holders (Nat.lt_of_le_of_lt (len_put1 (len_put1 (len_put1 (len_put1 (Nat.zero_le 0))))) (by decide)) ?_
      refine q rs _ hS (same_mut ((E7.trans e).trans e9) fw) ⟨dx, d, ar, tg, hd, ys, upd_same, keepNe (e9 _ _ (e _ _ har7)) harw, ?_, hyl2⟩
      exact (PRs.same e9 (PRs.same e hP7)).mono fun v r ⟨t, z, ht⟩ => ⟨t, z, keepNe ht (ne_of ht hw9 (by intro z; cases z))⟩
def sp_Web_arrows (K : PySem.W.Frag) (A : CA) : Sp := fun vs H Q _ => ∃ (w : Addr) (n : Int) (rs : List (Int × Int)), vs = [.ref w] ∧ WebAt A H w n rs ∧
  ∀ (us : List V) (p : Addr) (H' : Hp), H p = none → Same H H' → H' p = some (.lst us) → Paired (PR H') us rs → us.length ≤ 600 → Q (.ref p) H'
def t_Web_arrows (K : PySem.W.Frag) (A : CA) : TS :=
  (tRet (tCB (oListOf K) (tCons (tFld K (tVar 0) "_arrows") tNil)))

theorem rd_Web_arrows {K : PySem.W.Frag} {A : CA} (T : CT K A) {vs : List V} {H : Hp} {Q : VK} {E : XK} (h : sp_Web_arrows K A vs H Q E) :
    t_Web_arrows K A { nx := fun _ H' => Q .non H', rt := Q } (start ["self"] vs) H := by
  obtain ⟨w, n, rs, rfl, hW, q⟩ := h
  obtain ⟨dx, d, ar, tg, hd, us, h1, h2, h3, h4⟩ := hW.ex
  unfold t_Web_arrows
  walk_at "go"
  refine w_fld2 h1 T.c_Web T.n_Web__arrows web_arrows ?_
  walk_at "go"
  intro p hp
  exact q us p _ hp (same_new hp) upd_same (PRs.new hp h3) h4
/-! ### standings -/
def stFs (w : Addr) (lines : Int) (lb : Addr) : List (Str × V) := putF "_blank" (.ref lb) (putF "lines" (.int lines) (putF "web" (.ref w) []))
theorem st_web {w lb : Addr} {l : Int} : (stFs w l lb).lookup ("web" : Str) = some (.ref w) := by
  unfold stFs
  rw [lookup_putF, if_neg (by decide +kernel), lookup_putF, if_neg (by decide +kernel), lookup_putF, if_pos rfl]
theorem st_blank {w lb : Addr} {l : Int} : (stFs w l lb).lookup ("_blank" : Str) = some (.ref lb) := by
  unfold stFs
  rw [lookup_putF, if_pos rfl]
theorem st_noblanks {w lb : Addr} {l : Int} : (stFs w l lb).lookup ("blanks" : Str) = none := by
  unfold stFs
  rw [lookup_putF, if_neg (by decide +kernel), lookup_putF, if_neg (by decide +kernel), lookup_putF, if_neg (by decide +kernel)]
  rfl
structure StAt (A : CA) (H : Hp) (st w : Addr) (n : Int) (rs : List (Int × Int)) (lines : Int) (bs : List Int) : Prop where
  ex : ∃ (dx lb : Addr), H st = some (.ins A.Standing dx (stFs w lines lb)) ∧ H lb = some (.lst (bs.map V.int))
  web : WebAt A H w n rs
theorem StAt.same {A : CA} {H H' : Hp} {st w : Addr} {n lines : Int} {rs : List (Int × Int)} {bs : List Int} (e : Same H H') (h : StAt A H st w n rs lines bs) : StAt A H' st w n rs lines bs :=
  ⟨let ⟨dx, lb, h1, h2⟩ := h.ex; ⟨dx, lb, e _ _ h1, e _ _ h2⟩, h.web.same e⟩
def sp_Standing_init (K : PySem.W.Frag) (A : CA) : Sp := fun vs H Q _ => ∃ (H0 : Hp) (st dx w pb : Addr) (n lines : Int) (rs : List (Int × Int)) (bs : List Int), vs = [.ref st, .ref w, .int lines, .ref pb] ∧ H = upd (upd H0 dx (.own st)) st (.ins A.Standing dx []) ∧ H0 st = none ∧ H0 dx = none ∧ dx ≠ st ∧ WebAt A H0 w n rs ∧ 1 ≤ n ∧ n ≤ 500 ∧ H0 pb = some (.lst (bs.map V.int)) ∧ BK lines n.toNat bs ∧
  ∀ (H' : Hp), Same H0 H' → StAt A H' st w n rs lines bs → Q .non H'
def t_Standing_init (K : PySem.W.Frag) (A : CA) : TS :=
  (tSeq (tIfS (tTest (tOp rNe (tCB (rLenQ K) (tCons (tVar 3) tNil)) (tFld K (tVar 1) "pages"))) tNever tNext)
  (tSeq (tFor (iEnum K (tCons (tVar 3) tNil)) (gTup K 2 (gCons (gName 4) (gCons (gName 5) gNil)))
  (tIfS (tNot (tTest (tChain oLe oLe (tC (.int 0)) (tVar 5) (tVar 2)))) tNever tNext))
  (tSeq (sFld K (tVar 0) (tVar 1) "web")
  (tSeq (sFld K (tVar 0) (tVar 2) "lines")
  (sFld K (tVar 0) (tCB (oListOf K) (tCons (tVar 3) tNil)) "_blank")))))

theorem rd_Standing_init {K : PySem.W.Frag} {A : CA} (T : CT K A) {vs : List V} {H : Hp} {Q : VK} {E : XK} (h : sp_Standing_init K A vs H Q E) :
    t_Standing_init K A { nx := fun _ H' => Q .non H', rt := Q } (start ["self", "web", "lines", "blank", "page", "number"] vs) H := by
  obtain ⟨H0, st, dx, w, pb, n, lines, rs, bs, rfl, rfl, fst_, fdx, ndx, hW, n1, n2, hb, hB, q⟩ := h
  have hlen := hB.len
  have e0 : Same H0 (upd (upd H0 dx (.own st)) st (.ins A.Standing dx [])) := same_mut (same_new fdx) fst_
  have hst : (upd (upd H0 dx (.own st)) st (.ins A.Standing dx [])) st = some (.ins A.Standing dx []) := upd_same
  generalize upd (upd H0 dx (.own st)) st (.ins A.Standing dx []) = H1 at e0 hst
  have hb1 := e0 _ _ hb
  obtain ⟨dw, d, ar, tg, hd, us, h1, h2, h3, h4⟩ := (hW.same e0).ex
  unfold t_Standing_init
  walk_at "go"
  refine w_fld2 h1 T.c_Web T.n_Web_pages web_pages ?_
  walk_at "go"
  rw [List.length_map]
  refine w_iteN (fun c => absurd (show (bs.length : Int) = n by omega) c) (fun _ => ?_)
  walk_at "go"
  refine ⟨pb, _, rfl, SqL.of hb1, ?_⟩
  refine forE (xs := bs.map V.int) (fun i σ H' => ∃ k4 k5 : Option V, σ = [some (.ref st), some (.ref w), some (.int lines), some (.ref pb), k4, k5] ∧ Same H1 H') ?_ ?_ ?_ ?_
  · exact ⟨none, none, rfl, Same.refl _⟩
  · rintro i σ H2 _ ⟨k4, k5, rfl, e⟩
    exact SqL.of (e _ _ hb1)
  · rintro i x Tt σ H2 hx ⟨k4, k5, rfl, e⟩ hT
    obtain ⟨z, hz, rfl⟩ : ∃ z, bs[i]? = some z ∧ V.int z = x := by
      rw [List.getElem?_map] at hx
      cases hbi : bs[i]? with
      | none => rw [hbi] at hx; cases hx
      | some z => rw [hbi] at hx; exact ⟨z, rfl, Option.some.inj hx⟩
    have hzb := hB.bd z (List.mem_of_getElem? hz)
    walk_at "go"
    refine w_iteD (fun _ => ?_) (fun c => absurd hzb.1 c)
    walk_at "go"
    rw [decide_eq_true hzb.2]
    refine w_iteF ?_
    walk_at "go"
    exact ⟨_, _, rfl, e.trans (same_new hT)⟩
  · rintro σ H2 ⟨k4, k5, rfl, e⟩
    have hst2 := e _ _ hst
    walk_at "go"
    refine w_sfld2 hst2 T.c_Standing T.n_Standing_web (by decide) ?_
    walk_at "go"
    refine w_sfld2 upd_same T.c_Standing T.n_Standing_lines (Nat.lt_of_le_of_lt (len_put1 (Nat.zero_le 0)) (by decide)) ?_
    have nbs : pb ≠ st := ne_of_none hb fst_
    have hb3 : (upd (upd H2 st (.ins A.Standing dx (putF "web" (.ref w) []))) st (.ins A.Standing dx (putF "lines" (.int lines) (putF "web" (.ref w) [])))) pb = some (.lst (bs.map V.int)) := keepNe (keepNe (e _ _ hb1) nbs) nbs
    have E3 := same_mut (o := .ins A.Standing dx (putF "lines" (.int lines) (putF "web" (.ref w) []))) (same_mut (o := .ins A.Standing dx (putF "web" (.ref w) [])) (e0.trans e) fst_) fst_
    have hst3 : (upd (upd H2 st (.ins A.Standing dx (putF "web" (.ref w) []))) st (.ins A.Standing dx (putF "lines" (.int lines) (putF "web" (.ref w) [])))) st = some (.ins A.Standing dx (putF "lines" (.int lines) (putF "web" (.ref w) []))) := upd_same
    generalize upd (upd H2 st (.ins A.Standing dx (putF "web" (.ref w) []))) st (.ins A.Standing dx (putF "lines" (.int lines) (putF "web" (.ref w) []))) = H3 at hb3 E3 hst3
    walk_at "go"
    intro lb hlb
    walk_at "go"
    have nlb : lb ≠ st := (ne_of_none hst3 hlb).symm
    refine w_sfld2 (keep hst3 hlb) T.c_Standing T.n_Standing__blank (Nat.lt_of_le_of_lt (len_put1 (len_put1 (Nat.zero_le 0))) (by decide)) ?_
    have EE := same_mut (o := .ins A.Standing dx (stFs w lines lb)) (E3.trans (same_new (o := .lst (bs.map V.int)) hlb)) fst_
    exact q _ EE ⟨⟨dx, lb, upd_same, keepNe upd_same nlb⟩, hW.same EE⟩
def sp_Standing_blanks (K : PySem.W.Frag) (A : CA) : Sp := fun vs H Q _ => ∃ (st w : Addr) (n lines : Int) (rs : List (Int × Int)) (bs : List Int), vs = [.ref st] ∧ StAt A H st w n rs lines bs ∧
  ∀ (p : Addr) (H' : Hp), H p = none → Same H H' → H' p = some (.lst (bs.map V.int)) → Q (.ref p) H'
def t_Standing_blanks (K : PySem.W.Frag) (A : CA) : TS :=
  (tRet (tCB (oListOf K) (tCons (tFld K (tVar 0) "_blank") tNil)))

theorem rd_Standing_blanks {K : PySem.W.Frag} {A : CA} (T : CT K A) {vs : List V} {H : Hp} {Q : VK} {E : XK} (h : sp_Standing_blanks K A vs H Q E) :
    t_Standing_blanks K A { nx := fun _ H' => Q .non H', rt := Q } (start ["self"] vs) H := by
  obtain ⟨st, w, n, lines, rs, bs, rfl, hS, q⟩ := h
  obtain ⟨dx, lb, h1, h2⟩ := hS.ex
  unfold t_Standing_blanks
  walk_at "go"
  refine w_fld2 h1 T.c_Standing T.n_Standing__blank st_blank ?_
  walk_at "go"
  intro p hp
  exact q p _ hp (same_new hp) upd_same
end G

namespace G
open PySem L2
theorem w_mth2 {H : Hp} {p C dx : Addr} {P : Prop} {m : Str} {fs : List (Str × V)} (h : H p = some (.ins C dx fs)) (hl : fs.lookup m = none) (q : P) :
    ∃ a dx fs, V.ref p = .ref a ∧ H a = some (.ins C dx fs) ∧ fs.lookup m = none ∧ P := ⟨p, dx, fs, rfl, h, hl, q⟩
theorem inV2 (o a b : Int) : inV (.int o) [.int a, .int b] = decide (o = a ∨ o = b) := by
  show (eqV (.int a) (.int o) || (eqV (.int b) (.int o) || false)) = _
  show ((a == o) || ((b == o) || false)) = _
  rw [Bool.or_false]
  by_cases h1 : o = a
  · subst h1; simp
  · by_cases h2 : o = b
    · subst h2; simp
    · have e1 : (a == o) = false := by simpa using fun e => h1 e.symm
      have e2 : (b == o) = false := by simpa using fun e => h2 e.symm
      rw [e1, e2]; simp [h1, h2]
def sp_is_dealing (K : PySem.W.Frag) (A : CA) : Sp := fun vs H Q _ => ∃ (st po w : Addr) (n lines : Int) (rs : List (Int × Int)) (bs os : List Int), vs = [.ref st, .ref po] ∧ StAt A H st w n rs lines bs ∧ RG n rs ∧ BK lines n.toNat bs ∧ 1 ≤ n ∧ H po = some (.lst (os.map V.int)) ∧
  ∀ (b : Bool) (H' : Hp), (b = true ↔ DealP rs bs os) → Same H H' → Q (.bl b) H'
def t_is_dealing (K : PySem.W.Frag) (A : CA) : TS :=
  (tSeq (tAsg (tMeth A.Web "arrows" (sp_Web_arrows K A) [] E0 (tFld K (tVar 0) "web") tNil) (gName 2))
  (tSeq (tIfS (tTest (tOp rNe (tCB (rLenQ K) (tCons (tVar 1) tNil)) (tCB (rLenQ K) (tCons (tVar 2) tNil)))) (tRet (tC (.bl false))) tNext)
  (tSeq (tAsg (tMeth A.Standing "blanks" (sp_Standing_blanks K A) [] E0 (tVar 0) tNil) (gName 3))
  (tSeq (tFor (iZip K (tCons (tVar 2) (tCons (tVar 1) tNil))) (gTup K 2 (gCons (gName 4) (gCons (gName 5) gNil)))
  (tSeq (tIfS (tOr (tTest (tOp (rIn K true) (tVar 5) (tVar 4))) (tTest (tOp rEq (tOp (rIxL K) (tVar 3) (tVar 5)) (tC (.int 0))))) (tRet (tC (.bl false))) tNext)
  (tAugS (tVar 3) (tVar 5) (tC (.int 1)) (rIxL K) (ipI fun i j => i - j) rSetL)))
  (tRet (tC (.bl true)))))))

theorem rd_is_dealing {K : PySem.W.Frag} {A : CA} (T : CT K A) {vs : List V} {H : Hp} {Q : VK} {E : XK} (h : sp_is_dealing K A vs H Q E) :
    t_is_dealing K A { nx := fun _ H' => Q .non H', rt := Q } (start ["standing", "owners", "arrows", "left", "pointer", "owner"] vs) H := by
  obtain ⟨st, po, w, n, lines, rs, bs, os, rfl, hS, hR, hB, n1, ho, k⟩ := h
  obtain ⟨dx, lb, h1, h2⟩ := hS.ex
  obtain ⟨dw, d, ar, tg, hd, us0, w1, w2, w3, w4⟩ := hS.web.ex
  have hbl := hB.len
  unfold t_is_dealing
  walk_at "go"
  refine w_fld2 h1 T.c_Standing T.n_Standing_web st_web ?_
  refine w_mth2 w1 web_noarrows ?_
  walk_at "go"
  refine ⟨w, n, rs, rfl, hS.web, fun us p H1 fp e1 hp hP hul => ?_⟩
  have hlen := hP.length
  have ho1 := e1 _ _ ho
  walk_at "go"
  rw [List.length_map]
  refine w_iteN (fun c => ?_) (fun c => ?_)
  · walk_at "go"
    exact k false H1 ⟨fun e => (by cases e), fun D => absurd (by have := D.len; omega) c⟩ e1
  · walk_at "go"
    refine w_mth2 (e1 _ _ h1) st_noblanks ?_
    walk_at "go"
    refine ⟨st, w, n, lines, rs, bs, rfl, hS.same e1, fun l H2 fl e2 hl => ?_⟩
    have E2 := e1.trans e2
    have fl0 := e1.free fl
    have npl : p ≠ l := ne_of_none hp fl
    have hp2 := e2 _ _ hp
    have ho2 := e2 _ _ ho1
    have hP2 := PRs.same e2 hP
    walk_at "go"
    refine ⟨p, po, us, os.map V.int, rfl, SqL.of hp2, SqL.of ho2, ?_⟩
    refine forZ (xs := us) (ys := os.map V.int) (by rw [List.length_map]; omega) (fun i σ H' => ∃ (left : List Int) (k4 k5 : Option V), σ = [some (.ref st), some (.ref po), some (.ref p), some (.ref l), k4, k5] ∧ LeftAt bs os i left ∧ (∀ (q : Nat) (b : Int), bs[q]? = some b → (((os.take i).count (q : Int) : Nat) : Int) ≤ b) ∧
      (∀ j o r, j < i → os[j]? = some o → rs[j]? = some r → o = r.1 ∨ o = r.2) ∧ Same H H' ∧ H' p = some (.lst us) ∧ Paired (PR H') us rs ∧ H' l = some (.lst (left.map V.int))) ?_ ?_ ?_ ?_
    · refine ⟨bs, none, none, rfl, .start bs os, fun q b hq => ?_, (fun j o r hj => absurd hj (Nat.not_lt_zero j)), E2, hp2, hP2, hl⟩
      have := hB.bd b (List.mem_of_getElem? hq)
      simp; omega
    · rintro i σ H3 ⟨left, k4, k5, rfl, hL, hF, hE, e, hp3, hP3, hl3⟩
      exact ⟨SqL.of hp3, SqL.of (e _ _ ho)⟩
    · rintro i x y Tt σ H3 hx hy ⟨left, k4, k5, rfl, hL, hF, hE, e, hp3, hP3, hl3⟩ hT hi
      obtain ⟨r, hr, t, rfl, ht⟩ := Paired.at' hP3 hx
      obtain ⟨o, hgo, rfl⟩ : ∃ o, os[i]? = some o ∧ V.int o = y := by
        rw [List.getElem?_map] at hy
        cases hoi : os[i]? with
        | none => rw [hoi] at hy; cases hy
        | some z => rw [hoi] at hy; exact ⟨z, rfl, Option.some.inj hy⟩
      have hbd := hR.bd r (List.mem_of_getElem? hr)
      have htT := keep (o' := .tup [.ref t, .int o]) ht hT
      have hlT := keep (o' := .tup [.ref t, .int o]) hl3 hT
      have hpT := keep (o' := .tup [.ref t, .int o]) hp3 hT
      have eT := e.trans (same_new (o := .tup [.ref t, .int o]) hT)
      have hPT := PRs.new (o := .tup [.ref t, .int o]) hT hP3
      walk_at "go"
      refine ⟨t, _, rfl, .inr (.inl (.inl htT)), rfl, rfl, ?_⟩
      rw [inV2]
      show ∃ kk, V.bl (!decide (o = r.1 ∨ o = r.2)) = .bl kk ∧ _
      walk_at "go"
      refine w_iteN (fun c1 => ?_) (fun c1 => ?_)
      · walk_at "go"
        exact k false _ ⟨fun q => (by cases q), fun D => absurd (D.ends i o r hgo hr) c1⟩ eT
      · have o0 : 0 ≤ o ∧ o < n := by omega
        have hk : o.toNat < left.length := by rw [hL.1]; omega
        have hgz := List.getElem?_eq_getElem hk
        generalize left[o.toNat] = z at hgz
        have hkb : o.toNat < bs.length := by omega
        have hgb := List.getElem?_eq_getElem hkb
        have hbb := hB.bd _ (List.getElem_mem hkb)
        generalize bs[o.toNat] = bb at hgb hbb
        have hzz := hL.2 _ _ hgb
        rw [hgz, Int.toNat_of_nonneg o0.1] at hzz
        have hzz := Option.some.inj hzz
        have hf := hF _ _ hgb
        rw [Int.toNat_of_nonneg o0.1] at hf
        have hx3 : atI (left.map V.int) o = some (V.int z) := atn (j := o.toNat) (by omega) (by rw [List.getElem?_map, hgz]; rfl)
        have hix : ixN (left.map V.int).length o = some o.toNat := ixn (by omega) (by rw [List.length_map]; exact hk)
        walk_at "go"
        refine w_iteD (fun c2 => ?_) (fun c2 => ?_)
        · walk_at "go"
          refine k false _ ⟨fun q => (by cases q), fun D => ?_⟩ eT
          have f := D.fit _ _ hgb
          rw [Int.toNat_of_nonneg o0.1] at f
          have g1 : (os.take (i + 1)).count o ≤ os.count o := (List.take_sublist _ _).count_le o
          rw [count_take hgo, if_pos rfl] at g1
          omega
        · walk_at "go"
          refine ⟨_, _, _, rfl, hL.step hgo o0.1 hgz, fun q b hq => ?_, fun j o' r' hj g1 g2 => ?_, same_mut eT fl0, keepNe hpT npl, PRs.mutL hlT hPT, ?_⟩
          · rw [count_take hgo]
            by_cases c : o = (q : Int)
            · rw [if_pos c]
              have hqo : o.toNat = q := by omega
              rw [hqo, hq] at hgb
              have := Option.some.inj hgb
              rw [← c]; omega
            · rw [if_neg c]; exact hF q b hq
          · by_cases c : j = i
            · subst c
              rw [hgo] at g1; rw [hr] at g2
              cases g1; cases g2
              exact c1
            · exact hE j o' r' (by omega) g1 g2
          · rw [List.map_set]; exact upd_same
    · rintro σ H3 ⟨left, k4, k5, rfl, hL, hF, hE, e, hp3, hP3, hl3⟩
      walk_at "go"
      refine k true H3 ⟨fun _ => ⟨by omega, fun i o r g1 g2 => hE i o r (by have := (List.getElem?_eq_some_iff.mp g2).1; omega) g1 g2, fun q b hq => ?_⟩, fun _ => rfl⟩ e
      have := hF q b hq
      rw [List.take_of_length_le (by omega)] at this
      exact this
theorem w_eqI2 {K : PySem.W.Frag} {H : Hp} {Q : VK} {p q : Addr} {xs ys : List Int} (hp : SqL K H p (xs.map V.int)) (hq : SqL K H q (ys.map V.int)) (k : Q (.bl (decide (xs = ys))) H) : rEqD K (.ref p) (.ref q) H Q := by
  refine ⟨_, _, dp_ints hp, dp_ints hq, di_shaped xs, di_shaped ys, ?_⟩
  show Q (.bl (PyData.eqvAll (xs.map PyData.int) (ys.map PyData.int))) H
  rw [di_eqv]; exact k
theorem pds_eqv : ∀ rows : List (Int × Int), PyData.eqvAll (rows.map pd) (rows.map pd) = true
  | [] => rfl
  | r :: rows => by
    rw [List.map_cons]
    show (PyData.eqv (pd r) (pd r) && PyData.eqvAll (rows.map pd) (rows.map pd)) = true
    rw [pd_eqv, pds_eqv rows]; simp
theorem w_eqR {K : PySem.W.Frag} {H : Hp} {Q : VK} {p q : Addr} {us ws : List V} {rs : List (Int × Int)} (hp : H p = some (.lst us)) (h1 : Paired (PR H) us rs) (hq : H q = some (.lst ws)) (h2 : Paired (PR H) ws rs) (k : Q (.bl true) H) : rEqD K (.ref p) (.ref q) H Q := by
  refine ⟨_, _, dp_rows hp h1, dp_rows hq h2, pds_shaped rs, pds_shaped rs, ?_⟩
  show Q (.bl (PyData.eqvAll (rs.map pd) (rs.map pd))) H
  rw [pds_eqv]; exact k
def sp_law_asked (K : PySem.W.Frag) (A : CA) : Sp := fun vs H Q _ => ∃ (st pq pb po w : Addr) (n lines : Int) (rs : List (Int × Int)) (us : List V) (bs os : List Int), vs = [.ref st, .ref pq, .ref pb, .ref po] ∧ StAt A H st w n rs lines bs ∧ H pq = some (.lst us) ∧ Paired (PR H) us rs ∧ us.length ≤ 600 ∧ RG n rs ∧ BK lines n.toNat bs ∧ 1 ≤ n ∧
  H pb = some (.lst (bs.map V.int)) ∧ H po = some (.lst (os.map V.int)) ∧ ∀ (H' : Hp), Same H H' → Q (.bl true) H'
def t_law_asked (K : PySem.W.Frag) (A : CA) : TS :=
  (tSeq (tAsg (tCB (oListOf K) (tCons (tVar 3) tNil)) (gName 4))
  (tSeq (tAsg (tCall (sp_is_dealing K A) [] E0 (tCons (tVar 0) (tCons (tVar 4) tNil))) (gName 5))
  (tSeq (tIfS (tOr (tTest (tOp (rNeD K) (tVar 4) (tVar 3))) (tNot (tB (tCB (rIsi K) (tCons (tVar 5) (tCons (tC (.ty "bool")) tNil)))))) (tRet (tC (.bl false))) tNext)
  (tRet (tOp rEq (tVar 5) (tCall (sp_law_due K A) [] E0 (tCons (tVar 1) (tCons (tVar 2) (tCons (tVar 3) tNil)))))))))

theorem rd_law_asked {K : PySem.W.Frag} {A : CA} (T : CT K A) {vs : List V} {H : Hp} {Q : VK} {E : XK} (h : sp_law_asked K A vs H Q E) :
    t_law_asked K A { nx := fun _ H' => Q .non H', rt := Q } (start ["standing", "pairs", "blank", "owners", "kept", "told"] vs) H := by
  obtain ⟨st, pq, pb, po, w, n, lines, rs, us, bs, os, rfl, hS, hq, hP, hul, hR, hB, n1, hb, ho, k⟩ := h
  have hbl := hB.len
  unfold t_law_asked
  walk_at "go"
  intro kp hkp
  walk_at "go"
  refine ⟨st, kp, w, n, lines, rs, bs, os, rfl, hS.same (same_new hkp), hR, hB, n1, upd_same, fun b H1 hb1 e1 => ?_⟩
  have E1 := (same_new (o := .lst (os.map V.int)) hkp).trans e1
  walk_at "go"
  refine w_neI2 (xs := os) (ys := os) (SqL.of (e1 _ _ upd_same)) (SqL.of (E1 _ _ ho)) ?_
  walk_at "go"
  refine w_iteN (fun c => absurd rfl c) (fun _ => ?_)
  walk_at "go"
  refine ⟨.bl b, .ty "bool", .type "bool", .type "bool", true, rfl, ClsV.ty "bool", TyX.base (TyOf.bl b), kit_ty (by decide +kernel), ?_⟩
  walk_at "go"
  refine w_iteF ?_
  walk_at "go"
  refine ⟨pq, pb, po, rs, us, bs, os, n, rfl, E1 _ _ hq, PRs.same E1 hP, hR, hul, E1 _ _ hb, by omega, n1, E1 _ _ ho, fun b2 H2 hb2 e2 => ?_⟩
  walk_at "go"
  have eb : b = b2 := by
    cases b with
    | true => exact (hb2.mpr (hb1.mp rfl)).symm
    | false =>
      cases b2 with
      | false => rfl
      | true => exact hb1.mpr (hb2.mp rfl)
  rw [decide_eq_true eb]
  exact k H2 (E1.trans e2)
def sp_law (K : PySem.W.Frag) (A : CA) : Sp := fun vs H Q _ => ∃ (a : Addr) (ns : List Int), vs = [.ref a] ∧ SqL K H a (ns.map V.int) ∧ ns.length ≤ 63 ∧ ∀ (H' : Hp), Q (.bl true) H'
def t_law (K : PySem.W.Frag) (A : CA) : TS :=
  (tSeq (tAsg (tCall (sp_law_world K A) [] E0 (tCons (tVar 0) (tCons (tC (.int 31)) tNil))) (gName 1))
  (tSeq (tAsg (tOp (rIxT K) (tVar 1) (tC (.int 0))) (gName 2))
  (tSeq (tAsg (tCB (rSortedPO K) (tCons (tOp (rIxT K) (tVar 1) (tC (.int 1))) tNil)) (gName 3))
  (tSeq (tAsg (tCall (sp_law_owners K A) [] E0 (tCons (tCall (sp_law_source K A) [] E0 (tCons (tCall (sp_law_cell K A) [] E0 (tCons (tVar 0) (tCons (tC (.int 5)) tNil))) tNil)) (tCons (tVar 3) tNil))) (gName 4))
  (tSeq (tAsg (tCall (sp_law_source K A) [] E0 (tCons (tCall (sp_law_cell K A) [] E0 (tCons (tVar 0) (tCons (tC (.int 6)) tNil))) tNil)) (gName 5))
  (tSeq (tAsg (tCall (sp_law_table K A) [] E0 (tCons (tVar 5) (tCons (tVar 2) (tCons (tVar 4) tNil)))) (gName 6))
  (tSeq (tAsg (tOp (rIxT K) (tVar 6) (tC (.int 0))) (gName 7))
  (tSeq (tAsg (tOp (rIxT K) (tVar 6) (tC (.int 1))) (gName 8))
  (tSeq (tAsg (tCall (sp_law_near K A) [] E0 (tCons (tVar 5) (tCons (tVar 7) (tCons (tVar 8) tNil)))) (gName 9))
  (tSeq (tAsg (tCall (sp_law_source K A) [] E0 (tCons (tCall (sp_law_cell K A) [] E0 (tCons (tVar 0) (tCons (tC (.int 7)) tNil))) tNil)) (gName 5))
  (tSeq (tAsg (tCB (oListOf K) (tCons (tVar 4) tNil)) (gName 10))
  (tSeq (tFor (iRng1 (tCons (tOp oAdd (tC (.int 1)) (tCall (sp_law_take K A) [] E0 (tCons (tVar 5) (tCons (tC (.int 2)) tNil)))) tNil)) (gName 11)
  (tAsg (tCall (sp_law_bent K A) [] E0 (tCons (tVar 5) (tCons (tVar 10) (tCons (tVar 3) (tCons (tVar 2) tNil))))) (gName 10)))
  (tSeq (tAsg (tMake A.Web (sp_Web_init K A) [] E0 (tCons (tVar 2) (tCons (tCB (oListOf K) (tCons (tOp (rIxT K) (tVar 1) (tC (.int 1))) tNil)) tNil))) (gName 12))
  (tSeq (tAsg (tMake A.Standing (sp_Standing_init K A) [] E0 (tCons (tVar 12) (tCons (tVar 7) (tCons (tCB (oListOf K) (tCons (tVar 8) tNil)) tNil)))) (gName 13))
  (tSeq (tAsg (tMake A.Standing (sp_Standing_init K A) [] E0 (tCons (tVar 12) (tCons (tVar 7) (tCons (tCB (oListOf K) (tCons (tVar 9) tNil)) tNil)))) (gName 14))
  (tSeq (tFor (iList K (tLst (tCons (tVar 4) (tCons (tVar 10) (tCons (tVar 4) tNil))))) (gName 15)
  (tIfS (tOr (tNot (tB (tCall (sp_law_asked K A) [] E0 (tCons (tVar 13) (tCons (tVar 3) (tCons (tVar 8) (tCons (tVar 15) tNil))))))) (tNot (tB (tCall (sp_law_asked K A) [] E0 (tCons (tVar 14) (tCons (tVar 3) (tCons (tVar 9) (tCons (tVar 15) tNil)))))))) (tRet (tC (.bl false))) tNext))
  (tRet (tAndV (tOp (rEqD K) (tMeth A.Standing "blanks" (sp_Standing_blanks K A) [] E0 (tVar 13) tNil) (tVar 8)) (tAndV (tOp (rEqD K) (tMeth A.Standing "blanks" (sp_Standing_blanks K A) [] E0 (tVar 14) tNil) (tVar 9)) (tOp (rEqD K) (tMeth A.Web "arrows" (sp_Web_arrows K A) [] E0 (tVar 12) tNil) (tVar 3)))))))))))))))))))))

theorem rd_law {K : PySem.W.Frag} {A : CA} (T : CT K A) {vs : List V} {H : Hp} {Q : VK} {E : XK} (h : sp_law K A vs H Q E) :
    t_law K A { nx := fun _ H' => Q .non H', rt := Q } (start ["script", "world", "many", "pairs", "owners", "source", "table", "lines", "blank", "near", "bent", "k", "web", "first", "second", "asked"] vs) H := by
  obtain ⟨a, ns, rfl, hs, h63, q⟩ := h
  unfold t_law
  walk_at "go"
  refine ⟨a, 31, ns, rfl, hs, h63, by decide, by decide, fun many shape rows us names parents t pl np pp H1 e1 ft fpl fnp fpp ht m1 m2 hR hul hpl hP _ _ _ => ?_⟩
  have hlen := hP.length
  walk_at "go"
  refine w_sortP hpl hP fun rs ys ps hS fps hyl hyP => ?_
  have hys := hyP.length
  have E2 := e1.trans (same_new (o := .lst ys) fps)
  have ht2 := keep (o' := .lst ys) ht fps
  have hpl2 := keep (o' := .lst ys) hpl fps
  have hP2 := PRs.new (o := .lst ys) fps hP
  have hyP2 := PRs.new (o := .lst ys) fps hyP
  have hps2 : (upd H1 ps (.lst ys)) ps = some (.lst ys) := upd_same
  have hRs := hS.rg hR
  generalize upd H1 ps (.lst ys) = H2 at E2 ht2 hpl2 hP2 hyP2 hps2
  walk_at "go"
  intro c5 H3 e3
  have E3 := E2.trans e3
  walk_at "go"
  intro s5 H4 f5 e4 src5
  have E4 := E3.trans e4
  have hps4 := e4 _ _ (e3 _ _ hps2)
  have hP4 := PRs.same e4 (PRs.same e3 hyP2)
  have n5 : ps ≠ s5 := ne_of_none (e3 _ _ hps2) f5
  walk_at "go"
  refine ⟨s5, ps, rs, ys, many, rfl, src5, hps4, n5, hP4, hRs, by omega, fun os po H5 hol hob fpo b5 src5' ho5 => ?_⟩
  have f5' := E3.free f5
  have E5 := same_but E4 f5' b5
  -- from here on all that stood keeps standing
  have K5 : Same H2 H5 := fun c o h => b5 c o (ne_of_none (e3 _ _ h) f5) (e4 _ _ (e3 _ _ h))
  walk_at "go"
  intro c6 H6 e6
  have E6 := E5.trans e6
  walk_at "go"
  intro s6 H7 f6 e7 src6
  have E7 := E6.trans e7
  have ho7 := e7 _ _ (e6 _ _ ho5)
  have no6 : po ≠ s6 := ne_of_none (e6 _ _ ho5) f6
  walk_at "go"
  refine ⟨s6, po, many, os, rfl, src6, ho7, no6, m1, by omega, hob, fun lines bs tt pb H8 l0 hB ftt fpb b8 src8 htt hpb => ?_⟩
  have K8 : Same H2 H8 := fun c o h => b8 c o (ne_of_none (e6 _ _ (K5 _ _ h)) f6) (e7 _ _ (e6 _ _ (K5 _ _ h)))
  have ho8 := b8.at no6 ho7
  have s68 : ∀ {c : Addr}, H7 c = none → c ≠ s6 := fun h => src6.neFree h
  have E8 := same_but E7 (E6.free f6) b8
  walk_at "go"
  refine ⟨s6, pb, lines, many.toNat, bs, rfl, src8, hpb, hB, by omega, by omega, fun nb pn H9 hN fpn b9 src9 hpn => ?_⟩
  have E9 := same_but E8 (E6.free f6) b9
  have K9 : Same H2 H9 := fun c o h => b9 c o (ne_of_none (e6 _ _ (K5 _ _ h)) f6) (K8 _ _ h)
  have ho9 := b9.at no6 ho8
  have hpb9 := b9.at (s68 fpb) hpb
  walk_at "go"
  intro c7 H10 e10
  have E10 := E9.trans e10
  walk_at "go"
  intro s7 H11 f7 e11 src7
  have E11 := E10.trans e11
  have K11 := (K9.trans e10).trans e11
  have f7' := E10.free f7
  have ho11 := e11 _ _ (e10 _ _ ho9)
  have hpb11 := e11 _ _ (e10 _ _ hpb9)
  have hpn11 := e11 _ _ (e10 _ _ hpn)
  have no7 : po ≠ s7 := ne_of_none (e10 _ _ ho9) f7
  have nb7 : pb ≠ s7 := ne_of_none (e10 _ _ hpb9) f7
  have nn7 : pn ≠ s7 := ne_of_none (e10 _ _ hpn) f7
  have k7 : ∀ {c : Addr} {o : HO}, H2 c = some o → c ≠ s7 := fun h => ne_of_none (e10 _ _ (K9 _ _ h)) f7
  walk_at "go"
  intro be hbe
  have nbe : be ≠ s7 := src7.neFree hbe
  walk_at "go"
  intro z H12 z0 z1 b12 src12
  have B12 : But s7 H11 H12 := (But.refl.new hbe).trans b12
  have hbe12 := b12.at nbe upd_same
  walk_at "go"
  refine forR (fun i σ H' => ∃ (be : Addr) (os' : List Int) (k11 : Option V), σ = [some (.ref a), some (.ref t), some (.int many), some (.ref ps), some (.ref po), some (.ref s7), some (.ref tt), some (.int lines), some (.ref pb), some (.ref pn), some (.ref be), k11, none, none, none, none] ∧ os'.length ≤ os.length + i ∧ But s7 H11 H' ∧ Src H' s7 ∧ H' be = some (.lst (os'.map V.int)) ∧ be ≠ s7) ?_ ?_ ?_
  · exact ⟨be, os, none, rfl, Nat.le_refl _, B12, src12, hbe12, nbe⟩
  · rintro i σ H13 hi ⟨be, os', k11, rfl, hbl, b13, src13, hbe13, nbe⟩
    walk_at "go"
    refine ⟨s7, be, ps, many, rs, ys, os', rfl, src13, hbe13, nbe, b13.at (k7 hps2) (K11 _ _ hps2), k7 hps2, PRs.but b13 src7 (PRs.same K11 hyP2), m1, by omega, by omega, by omega, fun os2 p2 H14 hl2 fp2 b14 src14 hp2 => ?_⟩
    walk_at "go"
    exact ⟨p2, os2, _, rfl, by omega, b13.trans b14, src14, hp2, src13.neFree fp2⟩
  rintro σ H13 ⟨be, os', k11, rfl, hbl, b13, src13, hbe13, nbe⟩
  have K13 : Same H2 H13 := fun c o h => b13 c o (k7 h) (K11 _ _ h)
  have ht13 := K13 _ _ ht2
  have hpl13 := K13 _ _ hpl2
  have hP13 := PRs.same K13 hP2
  have ho13 := b13.at no7 ho11
  have hpb13 := b13.at nb7 hpb11
  have hpn13 := b13.at nn7 hpn11
  have hps13 := K13 _ _ hps2
  have hyP13 := PRs.same K13 hyP2
  clear b5 b8 b9 b12 b13 src5 src6 src7 src8 src9 src12 src13 src5'
  walk_at "go"
  intro pc hpc
  walk_at "go"
  intro w dx fw fdx ndx
  refine ⟨_, w, dx, pc, many, us, rows, rfl, rfl, fw, fdx, ndx, upd_same, PRs.new hpc hP13, hR, by omega, m1, by omega, fun rs' H14 hS' e14 hW => ⟨rfl, ?_⟩⟩
  have ers : rs' = rs := hS'.uniq hS
  subst ers
  have K14 : Same H13 H14 := (same_new hpc).trans e14
  have hpb14 := K14 _ _ hpb13
  walk_at "go"
  intro lc1 hlc1
  walk_at "go"
  intro st1 dx1 fst1 fdx1 ndx1
  refine ⟨_, st1, dx1, w, lc1, many, lines, rs', bs, rfl, rfl, fst1, fdx1, ndx1, hW.same (same_new hlc1), m1, by omega, upd_same, hB, fun H15 e15 hS1 => ⟨rfl, ?_⟩⟩
  have K15 : Same H14 H15 := (same_new hlc1).trans e15
  have hpn15 := K15 _ _ (K14 _ _ hpn13)
  walk_at "go"
  intro lc2 hlc2
  walk_at "go"
  intro st2 dx2 fst2 fdx2 ndx2
  refine ⟨_, st2, dx2, w, lc2, many, lines, rs', nb, rfl, rfl, fst2, fdx2, ndx2, (hW.same K15).same (same_new hlc2), m1, by omega, upd_same, hN, fun H16 e16 hS2 => ⟨rfl, ?_⟩⟩
  have K16 : Same H15 H16 := (same_new hlc2).trans e16
  have M16 : Same H13 H16 := (K14.trans K15).trans K16
  walk_at "go"
  intro lp hlp
  have M17 := M16.trans (same_new (o := .lst [.ref po, .ref be, .ref po]) hlp)
  have hS1' := (hS1.same K16).same (same_new (o := .lst [.ref po, .ref be, .ref po]) hlp)
  have hS2' := hS2.same (same_new (o := .lst [.ref po, .ref be, .ref po]) hlp)
  have hlp17 : (upd H16 lp (.lst [.ref po, .ref be, .ref po])) lp = some (.lst [.ref po, .ref be, .ref po]) := upd_same
  generalize upd H16 lp (.lst [.ref po, .ref be, .ref po]) = H17 at M17 hS1' hS2' hlp17
  walk_at "go"
  refine forL (xs := [.ref po, .ref be, .ref po]) (fun i σ H' => ∃ (k15 : Option V), σ = [some (.ref a), some (.ref t), some (.int many), some (.ref ps), some (.ref po), some (.ref s7), some (.ref tt), some (.int lines), some (.ref pb), some (.ref pn), some (.ref be), k11, some (.ref w), some (.ref st1), some (.ref st2), k15] ∧ Same H17 H') ?_ ?_ ?_ ?_
  · exact ⟨none, rfl, Same.refl _⟩
  · rintro i σ H18 _ ⟨k15, rfl, e⟩
    exact SqL.of (e _ _ hlp17)
  · rintro i x σ H18 hx ⟨k15, rfl, e⟩
    have M18 := M17.trans e
    obtain ⟨p, os2, rfl, hp⟩ : ∃ p os2, x = V.ref p ∧ H18 p = some (.lst (List.map V.int os2)) := by
      match i, hx with
      | 0, hx => exact ⟨po, os, (Option.some.inj hx).symm, M18 _ _ ho13⟩
      | 1, hx => exact ⟨be, os', (Option.some.inj hx).symm, M18 _ _ hbe13⟩
      | 2, hx => exact ⟨po, os, (Option.some.inj hx).symm, M18 _ _ ho13⟩
      | n + 3, hx => simp at hx
    walk_at "go"
    refine ⟨st1, ps, pb, p, w, many, lines, rs', ys, bs, os2, rfl, hS1'.same e, M18 _ _ hps13, PRs.same M18 hyP13, by omega, hRs, hB, m1, M18 _ _ hpb13, hp, fun H19 e19 => ?_⟩
    walk_at "go"
    refine w_iteF ?_
    have M19 := M18.trans e19
    walk_at "go"
    refine ⟨st2, ps, pn, p, w, many, lines, rs', ys, nb, os2, rfl, (hS2'.same e).same e19, M19 _ _ hps13, PRs.same M19 hyP13, by omega, hRs, hN, m1, M19 _ _ hpn13, e19 _ _ hp, fun H20 e20 => ?_⟩
    walk_at "go"
    refine w_iteF ?_
    walk_at "go"
    exact ⟨_, rfl, (e.trans e19).trans e20⟩
  · rintro σ H18 ⟨k15, rfl, e⟩
    have M18 := M17.trans e
    have hS1e := hS1'.same e
    have hS2e := hS2'.same e
    obtain ⟨d1, l1, g1, g2⟩ := hS1e.ex
    obtain ⟨d2, l2, g3, g4⟩ := hS2e.ex
    obtain ⟨d3, l3, l4, l5, l6, us3, g5, g6, g7, g8⟩ := hS1e.web.ex
    walk_at "go"
    refine w_mth2 g1 st_noblanks ?_
    walk_at "go"
    refine ⟨st1, w, many, lines, rs', bs, rfl, hS1e, fun q1 H19 fq1 e19 hq1 => ?_⟩
    walk_at "go"
    refine w_eqI2 (SqL.of hq1) (SqL.of (e19 _ _ (M18 _ _ hpb13))) ?_
    rw [decide_eq_true (rfl : bs = bs)]
    walk_at "go"
    refine w_mth2 (e19 _ _ g3) st_noblanks ?_
    walk_at "go"
    refine ⟨st2, w, many, lines, rs', nb, rfl, hS2e.same e19, fun q2 H20 fq2 e20 hq2 => ?_⟩
    walk_at "go"
    refine w_eqI2 (SqL.of hq2) (SqL.of (e20 _ _ (e19 _ _ (M18 _ _ hpn13)))) ?_
    rw [decide_eq_true (rfl : nb = nb)]
    walk_at "go"
    refine w_mth2 (e20 _ _ (e19 _ _ g5)) web_noarrows ?_
    walk_at "go"
    refine ⟨w, many, rs', rfl, (hS1e.web.same e19).same e20, fun us4 q3 H21 fq3 e21 hq3 hP3 _ => ?_⟩
    walk_at "go"
    have M21 := ((M18.trans e19).trans e20).trans e21
    refine w_eqR hq3 hP3 (M21 _ _ hps13) (PRs.same M21 hyP13) ?_
    exact q _
end G

namespace G
open PySem L2
def topS (i : Nat) : Stmt := PySem.Challenge.pw_onecopy_k04_dealing_judge.main.body.getD i (.Pass ⟨0, 0, 0, 0⟩)
structure Txt (mg : Str → Option Value) : Prop where
  b_abs : mg "abs" = none
  b_bool : mg "bool" = none
  b_enumerate : mg "enumerate" = none
  b_int : mg "int" = none
  b_isinstance : mg "isinstance" = none
  b_len : mg "len" = none
  b_list : mg "list" = none
  b_max : mg "max" = none
  b_min : mg "min" = none
  b_range : mg "range" = none
  b_sorted : mg "sorted" = none
  b_sum : mg "sum" = none
  b_zip : mg "zip" = none
variable {P : Program} {w : World} {K : PySem.W.Frag} {mg : Str → Option Value} {base : Heap} {A : CA}
abbrev s_law_cell : Stmt := topS 15
theorem sc_law_cell : FnScope ["script", "k"] ["script", "k"] (defScope s_law_cell) := ⟨rfl, rfl, rfl, by decide +kernel, rfl, by decide +kernel, by decide +kernel⟩
theorem ln_law_cell {vs : List V} {H : Hp} {Q : VK} {E : XK} (h : sp_law_cell K A vs H Q E) : vs.length = 2 := by
  first | (obtain ⟨_, rfl, _⟩ := h; rfl) | (obtain ⟨_, _, rfl, _⟩ := h; rfl) | (obtain ⟨_, _, _, rfl, _⟩ := h; rfl) | (obtain ⟨_, _, _, _, rfl, _⟩ := h; rfl) | (obtain ⟨_, _, _, _, _, rfl, _⟩ := h; rfl) | (obtain ⟨_, _, _, _, _, _, rfl, _⟩ := h; rfl) | (obtain ⟨_, _, _, _, _, _, _, rfl, _⟩ := h; rfl) | (obtain ⟨_, _, _, _, _, _, _, _, rfl, _⟩ := h; rfl) | (obtain ⟨_, _, _, _, _, _, _, _, _, rfl, _⟩ := h; rfl) | (obtain ⟨_, _, _, _, _, _, _, _, _, _, rfl, _⟩ := h; rfl) | (obtain ⟨_, _, _, _, _, _, _, _, _, _, _, rfl, _⟩ := h; rfl) | (obtain ⟨_, _, _, _, _, _, _, _, _, _, _, _, rfl, _⟩ := h; rfl) | (obtain ⟨_, _, _, _, _, _, _, _, _, _, _, _, _, rfl, _⟩ := h; rfl) | (obtain ⟨_, _, _, _, _, _, _, _, _, _, _, _, _, _, rfl, _⟩ := h; rfl) | (obtain ⟨_, _, _, _, _, _, _, _, _, _, _, _, _, _, _, rfl, _⟩ := h; rfl)
theorem fn_law_cell {f : Addr} {fd : FuncData} (F : Fun K "_law_cell" "_law_cell" s_law_cell f fd) (T : Txt mg) (C : CT K A)  : FnOk P w K mg base CX0 1 f fd ["script", "k"] (sp_law_cell K A) :=
  F.ok sc_law_cell (fun vs H Q E h => ln_law_cell h) (fun cdv Ar outer s H vs Q E hr h => ⟨t_law_cell K A, (pss_cons (ps_if (pt_cmpR op_lt (pv 1) (pe_callB (call_min2 rfl) (by rfl) T.b_min (by decide +kernel) (pa_cons pe_int (pa_cons (pe_callB call_len_seq (by rfl) T.b_len (by decide +kernel) (pa_cons (pv 0) pa_nil)) pa_nil))) (nomark _)) (pss_one (ps_ret (pe_callB call_abs (by rfl) T.b_abs (by decide +kernel) (pa_cons (pe_ix ix_list (pv 0) (pv 1) (fun _ _ => rfl)) pa_nil)))) pss_nil)
  (pss_one (ps_ret (pe_op op_add (pe_op op_add (pe_op op_mul pe_int (pv 1)) pe_int) (pe_op op_mod (pe_callTy call_int1 (by rfl) T.b_int (by decide +kernel) (pa_cons (pe_callB (cr_sum rfl) (by rfl) T.b_sum (by decide +kernel) (pa_cons (pe_slice sl_list (pv 0) po_none (po_some pe_int)) pa_nil)) pa_nil)) pe_int))))), rd_law_cell h⟩)
theorem bi_law_cell {f : Addr} {fd : FuncData} (F : Fun K "_law_cell" "_law_cell" s_law_cell f fd) : Binds K fd ["script", "k"] [] := F.binds fun _ _ _ _ _ _ us hl => match us, hl with | [_, _], _ => rfl
abbrev s_law_source : Stmt := topS 16
theorem sc_law_source : FnScope ["cell"] ["cell"] (defScope s_law_source) := ⟨rfl, rfl, rfl, by decide +kernel, rfl, by decide +kernel, by decide +kernel⟩
theorem ln_law_source {vs : List V} {H : Hp} {Q : VK} {E : XK} (h : sp_law_source K A vs H Q E) : vs.length = 1 := by
  first | (obtain ⟨_, rfl, _⟩ := h; rfl) | (obtain ⟨_, _, rfl, _⟩ := h; rfl) | (obtain ⟨_, _, _, rfl, _⟩ := h; rfl) | (obtain ⟨_, _, _, _, rfl, _⟩ := h; rfl) | (obtain ⟨_, _, _, _, _, rfl, _⟩ := h; rfl) | (obtain ⟨_, _, _, _, _, _, rfl, _⟩ := h; rfl) | (obtain ⟨_, _, _, _, _, _, _, rfl, _⟩ := h; rfl) | (obtain ⟨_, _, _, _, _, _, _, _, rfl, _⟩ := h; rfl) | (obtain ⟨_, _, _, _, _, _, _, _, _, rfl, _⟩ := h; rfl) | (obtain ⟨_, _, _, _, _, _, _, _, _, _, rfl, _⟩ := h; rfl) | (obtain ⟨_, _, _, _, _, _, _, _, _, _, _, rfl, _⟩ := h; rfl) | (obtain ⟨_, _, _, _, _, _, _, _, _, _, _, _, rfl, _⟩ := h; rfl) | (obtain ⟨_, _, _, _, _, _, _, _, _, _, _, _, _, rfl, _⟩ := h; rfl) | (obtain ⟨_, _, _, _, _, _, _, _, _, _, _, _, _, _, rfl, _⟩ := h; rfl) | (obtain ⟨_, _, _, _, _, _, _, _, _, _, _, _, _, _, _, rfl, _⟩ := h; rfl)
theorem fn_law_source {f : Addr} {fd : FuncData} (F : Fun K "_law_source" "_law_source" s_law_source f fd) (T : Txt mg) (C : CT K A)  : FnOk P w K mg base CX0 1 f fd ["cell"] (sp_law_source K A) :=
  F.ok sc_law_source (fun vs H Q E h => ln_law_source h) (fun cdv Ar outer s H vs Q E hr h => ⟨t_law_source K A, (pss_cons (ps_if (pt_cmpR op_lt (pv 0) (pe_op op_pow pe_int pe_int) (nomark _)) (pss_one (ps_ret (pe_lst (pa_cons pe_int (pa_cons (pv 0) (pa_cons pe_int pa_nil)))))) pss_nil)
  (pss_one (ps_ret (pe_lst (pa_cons (pv 0) (pa_cons (pe_op op_mod (pe_callTy call_int1 (by rfl) T.b_int (by decide +kernel) (pa_cons (pv 0) pa_nil)) pe_int) (pa_cons pe_int pa_nil))))))), rd_law_source h⟩)
theorem bi_law_source {f : Addr} {fd : FuncData} (F : Fun K "_law_source" "_law_source" s_law_source f fd) : Binds K fd ["cell"] [] := F.binds fun _ _ _ _ _ _ us hl => match us, hl with | [_], _ => rfl
abbrev s_law_take : Stmt := topS 17
theorem sc_law_take : FnScope ["source", "size", "digit", "first", "second"] ["source", "size"] (defScope s_law_take) := ⟨rfl, rfl, rfl, by decide +kernel, rfl, by decide +kernel, by decide +kernel⟩
theorem ln_law_take {vs : List V} {H : Hp} {Q : VK} {E : XK} (h : sp_law_take K A vs H Q E) : vs.length = 2 := by
  first | (obtain ⟨_, rfl, _⟩ := h; rfl) | (obtain ⟨_, _, rfl, _⟩ := h; rfl) | (obtain ⟨_, _, _, rfl, _⟩ := h; rfl) | (obtain ⟨_, _, _, _, rfl, _⟩ := h; rfl) | (obtain ⟨_, _, _, _, _, rfl, _⟩ := h; rfl) | (obtain ⟨_, _, _, _, _, _, rfl, _⟩ := h; rfl) | (obtain ⟨_, _, _, _, _, _, _, rfl, _⟩ := h; rfl) | (obtain ⟨_, _, _, _, _, _, _, _, rfl, _⟩ := h; rfl) | (obtain ⟨_, _, _, _, _, _, _, _, _, rfl, _⟩ := h; rfl) | (obtain ⟨_, _, _, _, _, _, _, _, _, _, rfl, _⟩ := h; rfl) | (obtain ⟨_, _, _, _, _, _, _, _, _, _, _, rfl, _⟩ := h; rfl) | (obtain ⟨_, _, _, _, _, _, _, _, _, _, _, _, rfl, _⟩ := h; rfl) | (obtain ⟨_, _, _, _, _, _, _, _, _, _, _, _, _, rfl, _⟩ := h; rfl) | (obtain ⟨_, _, _, _, _, _, _, _, _, _, _, _, _, _, rfl, _⟩ := h; rfl) | (obtain ⟨_, _, _, _, _, _, _, _, _, _, _, _, _, _, _, rfl, _⟩ := h; rfl)
theorem fn_law_take {f : Addr} {fd : FuncData} (F : Fun K "_law_take" "_law_take" s_law_take f fd) (T : Txt mg) (C : CT K A)  : FnOk P w K mg base CX0 1 f fd ["source", "size"] (sp_law_take K A) :=
  F.ok sc_law_take (fun vs H Q E h => ln_law_take h) (fun cdv Ar outer s H vs Q E hr h => ⟨t_law_take K A, (pss_cons (ps_if (pt_cmpR op_gt (pe_ix ix_list (pv 0) pe_int (fun _ _ => rfl)) pe_int (nomark _)) (pss_cons (ps_set (i := 2) sc_law_take.nd rfl (by first | exact Or.inl rfl | exact Or.inr rfl) (pe_op op_mod (pe_callTy call_int1 (by rfl) T.b_int (by decide +kernel) (pa_cons (pe_ix ix_list (pv 0) pe_int (fun _ _ => rfl)) pa_nil)) (pv 1)))
  (pss_cons (ps_asg (pe_op op_fdiv (pe_ix ix_list (pv 0) pe_int (fun _ _ => rfl)) (pv 1)) (pg_sub (pv 0) pe_int set_list))
  (pss_one (ps_ret (pv 2))))) pss_nil)
  (pss_cons (ps_asg (pe_op op_add (pe_ix ix_list (pv 0) pe_int (fun _ _ => rfl)) pe_int) (pg_sub (pv 0) pe_int set_list))
  (pss_cons (ps_set (i := 3) sc_law_take.nd rfl (by first | exact Or.inl rfl | exact Or.inr rfl) (pe_op op_mod (pe_callTy call_int1 (by rfl) T.b_int (by decide +kernel) (pa_cons (pe_op op_add (pe_op op_add (pe_op op_mul (pe_ix ix_list (pv 0) pe_int (fun _ _ => rfl)) pe_int) (pe_op op_mul (pe_ix ix_list (pv 0) pe_int (fun _ _ => rfl)) pe_int)) pe_int) pa_nil)) pe_int))
  (pss_cons (ps_set (i := 4) sc_law_take.nd rfl (by first | exact Or.inl rfl | exact Or.inr rfl) (pe_op op_mod (pe_callTy call_int1 (by rfl) T.b_int (by decide +kernel) (pa_cons (pe_op op_add (pe_op op_mul (pv 3) (pe_op op_add (pe_op op_fdiv (pv 3) pe_int) (pe_ix ix_list (pv 0) pe_int (fun _ _ => rfl)))) (pe_ix ix_list (pv 0) pe_int (fun _ _ => rfl))) pa_nil)) pe_int))
  (pss_one (ps_ret (pe_op op_mod (pe_op op_fdiv (pv 4) pe_int) (pv 1)))))))), rd_law_take h⟩)
theorem bi_law_take {f : Addr} {fd : FuncData} (F : Fun K "_law_take" "_law_take" s_law_take f fd) : Binds K fd ["source", "size"] [] := F.binds fun _ _ _ _ _ _ us hl => match us, hl with | [_, _], _ => rfl
abbrev s_law_parents : Stmt := topS 18
theorem sc_law_parents : FnScope ["source", "many", "shape", "parents", "k"] ["source", "many", "shape"] (defScope s_law_parents) := ⟨rfl, rfl, rfl, by decide +kernel, rfl, by decide +kernel, by decide +kernel⟩
theorem ln_law_parents {vs : List V} {H : Hp} {Q : VK} {E : XK} (h : sp_law_parents K A vs H Q E) : vs.length = 3 := by
  first | (obtain ⟨_, rfl, _⟩ := h; rfl) | (obtain ⟨_, _, rfl, _⟩ := h; rfl) | (obtain ⟨_, _, _, rfl, _⟩ := h; rfl) | (obtain ⟨_, _, _, _, rfl, _⟩ := h; rfl) | (obtain ⟨_, _, _, _, _, rfl, _⟩ := h; rfl) | (obtain ⟨_, _, _, _, _, _, rfl, _⟩ := h; rfl) | (obtain ⟨_, _, _, _, _, _, _, rfl, _⟩ := h; rfl) | (obtain ⟨_, _, _, _, _, _, _, _, rfl, _⟩ := h; rfl) | (obtain ⟨_, _, _, _, _, _, _, _, _, rfl, _⟩ := h; rfl) | (obtain ⟨_, _, _, _, _, _, _, _, _, _, rfl, _⟩ := h; rfl) | (obtain ⟨_, _, _, _, _, _, _, _, _, _, _, rfl, _⟩ := h; rfl) | (obtain ⟨_, _, _, _, _, _, _, _, _, _, _, _, rfl, _⟩ := h; rfl) | (obtain ⟨_, _, _, _, _, _, _, _, _, _, _, _, _, rfl, _⟩ := h; rfl) | (obtain ⟨_, _, _, _, _, _, _, _, _, _, _, _, _, _, rfl, _⟩ := h; rfl) | (obtain ⟨_, _, _, _, _, _, _, _, _, _, _, _, _, _, _, rfl, _⟩ := h; rfl)
theorem fn_law_parents {f : Addr} {fd : FuncData} (F : Fun K "_law_parents" "_law_parents" s_law_parents f fd) (T : Txt mg) (C : CT K A) (C_law_take : C8.Cal P w K mg base 1 "_law_take" (sp_law_take K A) []) : FnOk P w K mg base CX0 2 f fd ["source", "many", "shape"] (sp_law_parents K A) :=
  F.ok sc_law_parents (fun vs H Q E h => ln_law_parents h) (fun cdv Ar outer s H vs Q E hr h => ⟨t_law_parents K A, (pss_cons (ps_set (i := 3) sc_law_parents.nd rfl (by first | exact Or.inl rfl | exact Or.inr rfl) (pe_lst (pa_cons (pe_un un_neg pe_int) pa_nil)))
  (pss_cons (ps_for PassesOwn.never rfl (pi_range2 (by rfl) T.b_range (pa_cons pe_int (pa_cons (pv 1) pa_nil))) (pg_name (i := 4) sc_law_parents.nd rfl (by first | exact Or.inl rfl | exact Or.inr rfl))
  (pss_one (ps_if (PW.pt (pw_or (pt_cmpR op_eq (pv 2) pe_int (nomark _)) (pw_or1 (pt_cmpR op_eq (pv 2) pe_int (nomark _))))) (pss_one (ps_expr (pe_bm PySem.F.plainAttrs_list PySem.F.slot_list_append PySem.F.type_list_append mt_append (pv 3) (pa_cons (pe_op op_sub (pv 4) pe_int) pa_nil)))) (pss_one (ps_if (pt_cmpR op_eq (pv 2) pe_int (nomark _)) (pss_one (ps_expr (pe_bm PySem.F.plainAttrs_list PySem.F.slot_list_append PySem.F.type_list_append mt_append (pv 3) (pa_cons pe_int pa_nil)))) (pss_one (ps_expr (pe_bm PySem.F.plainAttrs_list PySem.F.slot_list_append PySem.F.type_list_append mt_append (pv 3) (pa_cons (pe_op op_sub (C8.pe_c C_law_take hr (by decide) (by rfl) (pa_cons (pv 0) (pa_cons (pe_op op_add (pv 4) pe_int) pa_nil))) pe_int) pa_nil)))))))))
  (pss_one (ps_ret (pv 3))))), rd_law_parents h⟩)
theorem bi_law_parents {f : Addr} {fd : FuncData} (F : Fun K "_law_parents" "_law_parents" s_law_parents f fd) : Binds K fd ["source", "many", "shape"] [] := F.binds fun _ _ _ _ _ _ us hl => match us, hl with | [_, _, _], _ => rfl
abbrev s_law_pointers : Stmt := topS 19
theorem sc_law_pointers : FnScope ["source", "parents", "way", "pointers", "k", "turn"] ["source", "parents", "way"] (defScope s_law_pointers) := ⟨rfl, rfl, rfl, by decide +kernel, rfl, by decide +kernel, by decide +kernel⟩
theorem ln_law_pointers {vs : List V} {H : Hp} {Q : VK} {E : XK} (h : sp_law_pointers K A vs H Q E) : vs.length = 3 := by
  first | (obtain ⟨_, rfl, _⟩ := h; rfl) | (obtain ⟨_, _, rfl, _⟩ := h; rfl) | (obtain ⟨_, _, _, rfl, _⟩ := h; rfl) | (obtain ⟨_, _, _, _, rfl, _⟩ := h; rfl) | (obtain ⟨_, _, _, _, _, rfl, _⟩ := h; rfl) | (obtain ⟨_, _, _, _, _, _, rfl, _⟩ := h; rfl) | (obtain ⟨_, _, _, _, _, _, _, rfl, _⟩ := h; rfl) | (obtain ⟨_, _, _, _, _, _, _, _, rfl, _⟩ := h; rfl) | (obtain ⟨_, _, _, _, _, _, _, _, _, rfl, _⟩ := h; rfl) | (obtain ⟨_, _, _, _, _, _, _, _, _, _, rfl, _⟩ := h; rfl) | (obtain ⟨_, _, _, _, _, _, _, _, _, _, _, rfl, _⟩ := h; rfl) | (obtain ⟨_, _, _, _, _, _, _, _, _, _, _, _, rfl, _⟩ := h; rfl) | (obtain ⟨_, _, _, _, _, _, _, _, _, _, _, _, _, rfl, _⟩ := h; rfl) | (obtain ⟨_, _, _, _, _, _, _, _, _, _, _, _, _, _, rfl, _⟩ := h; rfl) | (obtain ⟨_, _, _, _, _, _, _, _, _, _, _, _, _, _, _, rfl, _⟩ := h; rfl)
theorem fn_law_pointers {f : Addr} {fd : FuncData} (F : Fun K "_law_pointers" "_law_pointers" s_law_pointers f fd) (T : Txt mg) (C : CT K A) (C_law_take : C8.Cal P w K mg base 1 "_law_take" (sp_law_take K A) []) : FnOk P w K mg base CX0 2 f fd ["source", "parents", "way"] (sp_law_pointers K A) :=
  F.ok sc_law_pointers (fun vs H Q E h => ln_law_pointers h) (fun cdv Ar outer s H vs Q E hr h => ⟨t_law_pointers K A, (pss_cons (ps_set (i := 3) sc_law_pointers.nd rfl (by first | exact Or.inl rfl | exact Or.inr rfl) (pe_lst pa_nil))
  (pss_cons (ps_for PassesOwn.never rfl (pi_range2 (by rfl) T.b_range (pa_cons pe_int (pa_cons (pe_callB call_len_seq (by rfl) T.b_len (by decide +kernel) (pa_cons (pv 1) pa_nil)) pa_nil))) (pg_name (i := 4) sc_law_pointers.nd rfl (by first | exact Or.inl rfl | exact Or.inr rfl))
  (pss_one (ps_if (pt_cmpR op_ge (pe_ix ix_list (pv 1) (pv 4) (fun _ _ => rfl)) pe_int (nomark _)) (pss_cons (ps_set (i := 5) sc_law_pointers.nd rfl (by first | exact Or.inl rfl | exact Or.inr rfl) (pv 2))
  (pss_cons (ps_if (pt_cmpR op_gt (pv 2) pe_int (nomark _)) (pss_one (ps_set (i := 5) sc_law_pointers.nd rfl (by first | exact Or.inl rfl | exact Or.inr rfl) (C8.pe_c C_law_take hr (by decide) (by rfl) (pa_cons (pv 0) (pa_cons pe_int pa_nil))))) pss_nil)
  (pss_cons (ps_if (pt_cmpR op_ne (pv 5) pe_int (nomark _)) (pss_one (ps_expr (pe_bm PySem.F.plainAttrs_list PySem.F.slot_list_append PySem.F.type_list_append mt_append (pv 3) (pa_cons (pe_tup (pa_cons (pe_ix ix_list (pv 1) (pv 4) (fun _ _ => rfl)) (pa_cons (pv 4) pa_nil))) pa_nil)))) pss_nil)
  (pss_one (ps_if (pt_cmpR op_ne (pv 5) pe_int (nomark _)) (pss_one (ps_expr (pe_bm PySem.F.plainAttrs_list PySem.F.slot_list_append PySem.F.type_list_append mt_append (pv 3) (pa_cons (pe_tup (pa_cons (pv 4) (pa_cons (pe_ix ix_list (pv 1) (pv 4) (fun _ _ => rfl)) pa_nil))) pa_nil)))) pss_nil))))) pss_nil)))
  (pss_one (ps_ret (pv 3))))), rd_law_pointers h⟩)
theorem bi_law_pointers {f : Addr} {fd : FuncData} (F : Fun K "_law_pointers" "_law_pointers" s_law_pointers f fd) : Binds K fd ["source", "parents", "way"] [] := F.binds fun _ _ _ _ _ _ us hl => match us, hl with | [_, _, _], _ => rfl
abbrev s_law_names : Stmt := topS 20
theorem sc_law_names : FnScope ["source", "many", "names", "way", "k", "other", "held"] ["source", "many"] (defScope s_law_names) := ⟨rfl, rfl, rfl, by decide +kernel, rfl, by decide +kernel, by decide +kernel⟩
theorem ln_law_names {vs : List V} {H : Hp} {Q : VK} {E : XK} (h : sp_law_names K A vs H Q E) : vs.length = 2 := by
  first | (obtain ⟨_, rfl, _⟩ := h; rfl) | (obtain ⟨_, _, rfl, _⟩ := h; rfl) | (obtain ⟨_, _, _, rfl, _⟩ := h; rfl) | (obtain ⟨_, _, _, _, rfl, _⟩ := h; rfl) | (obtain ⟨_, _, _, _, _, rfl, _⟩ := h; rfl) | (obtain ⟨_, _, _, _, _, _, rfl, _⟩ := h; rfl) | (obtain ⟨_, _, _, _, _, _, _, rfl, _⟩ := h; rfl) | (obtain ⟨_, _, _, _, _, _, _, _, rfl, _⟩ := h; rfl) | (obtain ⟨_, _, _, _, _, _, _, _, _, rfl, _⟩ := h; rfl) | (obtain ⟨_, _, _, _, _, _, _, _, _, _, rfl, _⟩ := h; rfl) | (obtain ⟨_, _, _, _, _, _, _, _, _, _, _, rfl, _⟩ := h; rfl) | (obtain ⟨_, _, _, _, _, _, _, _, _, _, _, _, rfl, _⟩ := h; rfl) | (obtain ⟨_, _, _, _, _, _, _, _, _, _, _, _, _, rfl, _⟩ := h; rfl) | (obtain ⟨_, _, _, _, _, _, _, _, _, _, _, _, _, _, rfl, _⟩ := h; rfl) | (obtain ⟨_, _, _, _, _, _, _, _, _, _, _, _, _, _, _, rfl, _⟩ := h; rfl)
theorem fn_law_names {f : Addr} {fd : FuncData} (F : Fun K "_law_names" "_law_names" s_law_names f fd) (T : Txt mg) (C : CT K A) (C_law_take : C8.Cal P w K mg base 1 "_law_take" (sp_law_take K A) []) : FnOk P w K mg base CX0 2 f fd ["source", "many"] (sp_law_names K A) :=
  F.ok sc_law_names (fun vs H Q E h => ln_law_names h) (fun cdv Ar outer s H vs Q E hr h => ⟨t_law_names K A, (pss_cons (ps_set (i := 2) sc_law_names.nd rfl (by first | exact Or.inl rfl | exact Or.inr rfl) (pe_listRg rfl (by rfl) T.b_list (prg_1 (by rfl) T.b_range (pv 1))))
  (pss_cons (ps_set (i := 3) sc_law_names.nd rfl (by first | exact Or.inl rfl | exact Or.inr rfl) (C8.pe_c C_law_take hr (by decide) (by rfl) (pa_cons (pv 0) (pa_cons pe_int pa_nil))))
  (pss_cons (ps_if (pt_cmpR op_eq (pv 3) pe_int (nomark _)) (pss_one (ps_ret (pv 2))) pss_nil)
  (pss_cons (ps_if (pt_cmpR op_eq (pv 3) pe_int (nomark _)) (pss_one (ps_ret (pe_lc (own := [("k", 4)]) (g := (gName 4)) (tt := tYes) rfl sc_law_names.nd (pi_range1 (by rfl) T.b_range (pa_cons (pv 1) pa_nil)) (blkOk_by (own := [("k", 4)]) (N := ["source", "many", "names", "way", "k", "other", "held"]) (sc := defScope s_law_names) (by decide +kernel)) (fun _ _ _ _ _ => (pg_name (i := 4) sc_law_names.nd rfl (by first | exact Or.inl rfl | exact Or.inr rfl))) (fun _ _ _ _ _ => pts_nil) (fun _ _ _ _ _ => (pe_op op_sub (pe_op op_sub (pv 1) pe_int) (pv 4)))))) pss_nil)
  (pss_cons (ps_for PassesOwn.never rfl (pi_range1 (by rfl) T.b_range (pa_cons (pe_op op_sub (pv 1) pe_int) pa_nil)) (pg_name (i := 4) sc_law_names.nd rfl (by first | exact Or.inl rfl | exact Or.inr rfl))
  (pss_cons (ps_set (i := 5) sc_law_names.nd rfl (by first | exact Or.inl rfl | exact Or.inr rfl) (pe_op op_add (pv 4) (C8.pe_c C_law_take hr (by decide) (by rfl) (pa_cons (pv 0) (pa_cons (pe_op op_sub (pv 1) (pv 4)) pa_nil)))))
  (pss_cons (ps_set (i := 6) sc_law_names.nd rfl (by first | exact Or.inl rfl | exact Or.inr rfl) (pe_ix ix_list (pv 2) (pv 4) (fun _ _ => rfl)))
  (pss_cons (ps_asg (pe_ix ix_list (pv 2) (pv 5) (fun _ _ => rfl)) (pg_sub (pv 2) (pv 4) set_list))
  (pss_one (ps_asg (pv 6) (pg_sub (pv 2) (pv 5) set_list)))))))
  (pss_one (ps_ret (pv 2)))))))), rd_law_names h⟩)
theorem bi_law_names {f : Addr} {fd : FuncData} (F : Fun K "_law_names" "_law_names" s_law_names f fd) : Binds K fd ["source", "many"] [] := F.binds fun _ _ _ _ _ _ us hl => match us, hl with | [_, _], _ => rfl
abbrev s_law_named : Stmt := topS 21
theorem sc_law_named : FnScope ["pointers", "names", "turn", "named", "pair"] ["pointers", "names", "turn"] (defScope s_law_named) := ⟨rfl, rfl, rfl, by decide +kernel, rfl, by decide +kernel, by decide +kernel⟩
theorem ln_law_named {vs : List V} {H : Hp} {Q : VK} {E : XK} (h : sp_law_named K A vs H Q E) : vs.length = 3 := by
  first | (obtain ⟨_, rfl, _⟩ := h; rfl) | (obtain ⟨_, _, rfl, _⟩ := h; rfl) | (obtain ⟨_, _, _, rfl, _⟩ := h; rfl) | (obtain ⟨_, _, _, _, rfl, _⟩ := h; rfl) | (obtain ⟨_, _, _, _, _, rfl, _⟩ := h; rfl) | (obtain ⟨_, _, _, _, _, _, rfl, _⟩ := h; rfl) | (obtain ⟨_, _, _, _, _, _, _, rfl, _⟩ := h; rfl) | (obtain ⟨_, _, _, _, _, _, _, _, rfl, _⟩ := h; rfl) | (obtain ⟨_, _, _, _, _, _, _, _, _, rfl, _⟩ := h; rfl) | (obtain ⟨_, _, _, _, _, _, _, _, _, _, rfl, _⟩ := h; rfl) | (obtain ⟨_, _, _, _, _, _, _, _, _, _, _, rfl, _⟩ := h; rfl) | (obtain ⟨_, _, _, _, _, _, _, _, _, _, _, _, rfl, _⟩ := h; rfl) | (obtain ⟨_, _, _, _, _, _, _, _, _, _, _, _, _, rfl, _⟩ := h; rfl) | (obtain ⟨_, _, _, _, _, _, _, _, _, _, _, _, _, _, rfl, _⟩ := h; rfl) | (obtain ⟨_, _, _, _, _, _, _, _, _, _, _, _, _, _, _, rfl, _⟩ := h; rfl)
theorem fn_law_named {f : Addr} {fd : FuncData} (F : Fun K "_law_named" "_law_named" s_law_named f fd) (T : Txt mg) (C : CT K A)  : FnOk P w K mg base CX0 1 f fd ["pointers", "names", "turn"] (sp_law_named K A) :=
  F.ok sc_law_named (fun vs H Q E h => ln_law_named h) (fun cdv Ar outer s H vs Q E hr h => ⟨t_law_named K A, (pss_cons (ps_setLc (i := 3) (own := [("pair", 4)]) (g := (gName 4)) (tt := tYes) rfl sc_law_named.nd rfl rfl (sw_true rfl rfl rfl (by decide +kernel)) (pi_list (pv 0)) (blkOk_by (own := [("pair", 4)]) (N := ["pointers", "names", "turn", "named", "pair"]) (sc := defScope s_law_named) (by decide +kernel)) (fun _ _ _ _ _ => (pg_name (i := 4) sc_law_named.nd rfl (by first | exact Or.inl rfl | exact Or.inr rfl))) (fun _ _ _ _ _ => pts_nil) (fun _ _ _ _ _ => (pe_tup (pa_cons (pe_ix ix_list (pv 1) (pe_ix ix_tup (pv 4) pe_int (fun _ _ => rfl)) (fun _ _ => rfl)) (pa_cons (pe_ix ix_list (pv 1) (pe_ix ix_tup (pv 4) pe_int (fun _ _ => rfl)) (fun _ _ => rfl)) pa_nil)))))
  (pss_one (ps_ret (pe_op op_cat (pe_slice sl_list (pv 3) (po_some (pv 2)) po_none) (pe_slice sl_list (pv 3) po_none (po_some (pv 2))))))), rd_law_named h⟩)
theorem bi_law_named {f : Addr} {fd : FuncData} (F : Fun K "_law_named" "_law_named" s_law_named f fd) : Binds K fd ["pointers", "names", "turn"] [] := F.binds fun _ _ _ _ _ _ us hl => match us, hl with | [_, _, _], _ => rfl
abbrev s_law_extras : Stmt := topS 22
theorem sc_law_extras : FnScope ["source", "many", "shape", "more", "k", "start", "share", "end"] ["source", "many", "shape"] (defScope s_law_extras) := ⟨rfl, rfl, rfl, by decide +kernel, rfl, by decide +kernel, by decide +kernel⟩
theorem ln_law_extras {vs : List V} {H : Hp} {Q : VK} {E : XK} (h : sp_law_extras K A vs H Q E) : vs.length = 3 := by
  first | (obtain ⟨_, rfl, _⟩ := h; rfl) | (obtain ⟨_, _, rfl, _⟩ := h; rfl) | (obtain ⟨_, _, _, rfl, _⟩ := h; rfl) | (obtain ⟨_, _, _, _, rfl, _⟩ := h; rfl) | (obtain ⟨_, _, _, _, _, rfl, _⟩ := h; rfl) | (obtain ⟨_, _, _, _, _, _, rfl, _⟩ := h; rfl) | (obtain ⟨_, _, _, _, _, _, _, rfl, _⟩ := h; rfl) | (obtain ⟨_, _, _, _, _, _, _, _, rfl, _⟩ := h; rfl) | (obtain ⟨_, _, _, _, _, _, _, _, _, rfl, _⟩ := h; rfl) | (obtain ⟨_, _, _, _, _, _, _, _, _, _, rfl, _⟩ := h; rfl) | (obtain ⟨_, _, _, _, _, _, _, _, _, _, _, rfl, _⟩ := h; rfl) | (obtain ⟨_, _, _, _, _, _, _, _, _, _, _, _, rfl, _⟩ := h; rfl) | (obtain ⟨_, _, _, _, _, _, _, _, _, _, _, _, _, rfl, _⟩ := h; rfl) | (obtain ⟨_, _, _, _, _, _, _, _, _, _, _, _, _, _, rfl, _⟩ := h; rfl) | (obtain ⟨_, _, _, _, _, _, _, _, _, _, _, _, _, _, _, rfl, _⟩ := h; rfl)
theorem fn_law_extras {f : Addr} {fd : FuncData} (F : Fun K "_law_extras" "_law_extras" s_law_extras f fd) (T : Txt mg) (C : CT K A) (C_law_take : C8.Cal P w K mg base 1 "_law_take" (sp_law_take K A) []) : FnOk P w K mg base CX0 2 f fd ["source", "many", "shape"] (sp_law_extras K A) :=
  F.ok sc_law_extras (fun vs H Q E h => ln_law_extras h) (fun cdv Ar outer s H vs Q E hr h => ⟨t_law_extras K A, (pss_cons (ps_set (i := 3) sc_law_extras.nd rfl (by first | exact Or.inl rfl | exact Or.inr rfl) (pe_lst pa_nil))
  (C8.pss_cut (ps_if (pt_cmpR op_eq (pv 2) pe_int (nomark _)) (pss_one (ps_expr (pe_bm PySem.F.plainAttrs_list PySem.F.slot_list_append PySem.F.type_list_append mt_append (pv 3) (pa_cons (pe_tup (pa_cons (pe_op op_sub (pv 1) pe_int) (pa_cons pe_int pa_nil))) pa_nil)))) pss_nil)
  (C8.pss_cut (ps_if (PW.pt (pw_or (pt_cmpR op_eq (pv 2) pe_int (nomark _)) (pw_or1 (PW.pt (pw_and (pt_cmpR op_eq (pv 2) pe_int (nomark _)) (pw_and1 (pt_cmpR op_gt (pv 1) pe_int (nomark _)))))))) (pss_one (ps_for PassesOwn.never rfl (pi_range1 (by rfl) T.b_range (pa_cons (pe_op op_add pe_int (C8.pe_c C_law_take hr (by decide) (by rfl) (pa_cons (pv 0) (pa_cons pe_int pa_nil)))) pa_nil)) (pg_name (i := 4) sc_law_extras.nd rfl (by first | exact Or.inl rfl | exact Or.inr rfl))
  (pss_cons (ps_set (i := 5) sc_law_extras.nd rfl (by first | exact Or.inl rfl | exact Or.inr rfl) (C8.pe_c C_law_take hr (by decide) (by rfl) (pa_cons (pv 0) (pa_cons (pv 1) pa_nil))))
  (pss_one (ps_expr (pe_bm PySem.F.plainAttrs_list PySem.F.slot_list_append PySem.F.type_list_append mt_append (pv 3) (pa_cons (pe_tup (pa_cons (pv 5) (pa_cons (C8.pe_c C_law_take hr (by decide) (by rfl) (pa_cons (pv 0) (pa_cons (pv 1) pa_nil))) pa_nil))) pa_nil))))))) pss_nil)
  (C8.pss_cut (ps_if (PW.pt (pw_and (pt_cmpR op_eq (pv 2) pe_int (nomark _)) (pw_and1 (pt_cmpR op_le (pv 1) pe_int (nomark _))))) (pss_cons (ps_set (i := 6) sc_law_extras.nd rfl (by first | exact Or.inl rfl | exact Or.inr rfl) (pe_op op_add pe_int (C8.pe_c C_law_take hr (by decide) (by rfl) (pa_cons (pv 0) (pa_cons pe_int pa_nil)))))
  (pss_one (ps_for PassesOwn.never rfl (pi_range1 (by rfl) T.b_range (pa_cons (pv 1) pa_nil)) (pg_name (i := 5) sc_law_extras.nd rfl (by first | exact Or.inl rfl | exact Or.inr rfl))
  (pss_one (ps_for PassesOwn.never rfl (pi_range1 (by rfl) T.b_range (pa_cons (pv 1) pa_nil)) (pg_name (i := 7) sc_law_extras.nd rfl (by first | exact Or.inl rfl | exact Or.inr rfl))
  (pss_one (ps_if (PW.pt (pw_and (pt_cmpR op_ne (pv 5) (pv 7) (nomark _)) (pw_and1 (pt_cmpR op_eq (C8.pe_c C_law_take hr (by decide) (by rfl) (pa_cons (pv 0) (pa_cons (pv 6) pa_nil))) pe_int (nomark _))))) (pss_one (ps_expr (pe_bm PySem.F.plainAttrs_list PySem.F.slot_list_append PySem.F.type_list_append mt_append (pv 3) (pa_cons (pe_tup (pa_cons (pv 5) (pa_cons (pv 7) pa_nil))) pa_nil)))) pss_nil))))))) pss_nil)
  (pss_one (ps_ret (pv 3))))))), rd_law_extras h⟩)
theorem bi_law_extras {f : Addr} {fd : FuncData} (F : Fun K "_law_extras" "_law_extras" s_law_extras f fd) : Binds K fd ["source", "many", "shape"] [] := F.binds fun _ _ _ _ _ _ us hl => match us, hl with | [_, _, _], _ => rfl
abbrev s_law_joined : Stmt := topS 23
theorem sc_law_joined : FnScope ["pointers", "more", "joined", "pair"] ["pointers", "more"] (defScope s_law_joined) := ⟨rfl, rfl, rfl, by decide +kernel, rfl, by decide +kernel, by decide +kernel⟩
theorem ln_law_joined {vs : List V} {H : Hp} {Q : VK} {E : XK} (h : sp_law_joined K A vs H Q E) : vs.length = 2 := by
  first | (obtain ⟨_, rfl, _⟩ := h; rfl) | (obtain ⟨_, _, rfl, _⟩ := h; rfl) | (obtain ⟨_, _, _, rfl, _⟩ := h; rfl) | (obtain ⟨_, _, _, _, rfl, _⟩ := h; rfl) | (obtain ⟨_, _, _, _, _, rfl, _⟩ := h; rfl) | (obtain ⟨_, _, _, _, _, _, rfl, _⟩ := h; rfl) | (obtain ⟨_, _, _, _, _, _, _, rfl, _⟩ := h; rfl) | (obtain ⟨_, _, _, _, _, _, _, _, rfl, _⟩ := h; rfl) | (obtain ⟨_, _, _, _, _, _, _, _, _, rfl, _⟩ := h; rfl) | (obtain ⟨_, _, _, _, _, _, _, _, _, _, rfl, _⟩ := h; rfl) | (obtain ⟨_, _, _, _, _, _, _, _, _, _, _, rfl, _⟩ := h; rfl) | (obtain ⟨_, _, _, _, _, _, _, _, _, _, _, _, rfl, _⟩ := h; rfl) | (obtain ⟨_, _, _, _, _, _, _, _, _, _, _, _, _, rfl, _⟩ := h; rfl) | (obtain ⟨_, _, _, _, _, _, _, _, _, _, _, _, _, _, rfl, _⟩ := h; rfl) | (obtain ⟨_, _, _, _, _, _, _, _, _, _, _, _, _, _, _, rfl, _⟩ := h; rfl)
theorem fn_law_joined {f : Addr} {fd : FuncData} (F : Fun K "_law_joined" "_law_joined" s_law_joined f fd) (T : Txt mg) (C : CT K A)  : FnOk P w K mg base CX0 1 f fd ["pointers", "more"] (sp_law_joined K A) :=
  F.ok sc_law_joined (fun vs H Q E h => ln_law_joined h) (fun cdv Ar outer s H vs Q E hr h => ⟨t_law_joined K A, (pss_cons (ps_set (i := 2) sc_law_joined.nd rfl (by first | exact Or.inl rfl | exact Or.inr rfl) (pe_callTy call_list_of (by rfl) T.b_list (by decide +kernel) (pa_cons (pv 0) pa_nil)))
  (pss_cons (ps_for PassesOwn.never rfl (pi_list (pv 1)) (pg_name (i := 3) sc_law_joined.nd rfl (by first | exact Or.inl rfl | exact Or.inr rfl))
  (pss_one (ps_if (PW.pt (pw_and (pt_cmpR op_ne (pe_ix ix_tup (pv 3) pe_int (fun _ _ => rfl)) (pe_ix ix_tup (pv 3) pe_int (fun _ _ => rfl)) (nomark _)) (pw_and1 (pt_cmpR (op_notInD (hu65 hr)) (pv 3) (pv 2) (by rfl))))) (pss_one (ps_expr (pe_bm PySem.F.plainAttrs_list PySem.F.slot_list_append PySem.F.type_list_append mt_append (pv 2) (pa_cons (pv 3) pa_nil)))) pss_nil)))
  (pss_one (ps_ret (pv 2))))), rd_law_joined h⟩)
theorem bi_law_joined {f : Addr} {fd : FuncData} (F : Fun K "_law_joined" "_law_joined" s_law_joined f fd) : Binds K fd ["pointers", "more"] [] := F.binds fun _ _ _ _ _ _ us hl => match us, hl with | [_, _], _ => rfl
abbrev s_law_world : Stmt := topS 24
theorem sc_law_world : FnScope ["script", "room", "source", "many", "shape", "way", "parents", "pointers", "names", "turn"] ["script", "room"] (defScope s_law_world) := ⟨rfl, rfl, rfl, by decide +kernel, rfl, by decide +kernel, by decide +kernel⟩
theorem ln_law_world {vs : List V} {H : Hp} {Q : VK} {E : XK} (h : sp_law_world K A vs H Q E) : vs.length = 2 := by
  first | (obtain ⟨_, rfl, _⟩ := h; rfl) | (obtain ⟨_, _, rfl, _⟩ := h; rfl) | (obtain ⟨_, _, _, rfl, _⟩ := h; rfl) | (obtain ⟨_, _, _, _, rfl, _⟩ := h; rfl) | (obtain ⟨_, _, _, _, _, rfl, _⟩ := h; rfl) | (obtain ⟨_, _, _, _, _, _, rfl, _⟩ := h; rfl) | (obtain ⟨_, _, _, _, _, _, _, rfl, _⟩ := h; rfl) | (obtain ⟨_, _, _, _, _, _, _, _, rfl, _⟩ := h; rfl) | (obtain ⟨_, _, _, _, _, _, _, _, _, rfl, _⟩ := h; rfl) | (obtain ⟨_, _, _, _, _, _, _, _, _, _, rfl, _⟩ := h; rfl) | (obtain ⟨_, _, _, _, _, _, _, _, _, _, _, rfl, _⟩ := h; rfl) | (obtain ⟨_, _, _, _, _, _, _, _, _, _, _, _, rfl, _⟩ := h; rfl) | (obtain ⟨_, _, _, _, _, _, _, _, _, _, _, _, _, rfl, _⟩ := h; rfl) | (obtain ⟨_, _, _, _, _, _, _, _, _, _, _, _, _, _, rfl, _⟩ := h; rfl) | (obtain ⟨_, _, _, _, _, _, _, _, _, _, _, _, _, _, _, rfl, _⟩ := h; rfl)
theorem fn_law_world {f : Addr} {fd : FuncData} (F : Fun K "_law_world" "_law_world" s_law_world f fd) (T : Txt mg) (C : CT K A) (C_law_cell : C8.Cal P w K mg base 1 "_law_cell" (sp_law_cell K A) []) (C_law_extras : C8.Cal P w K mg base 2 "_law_extras" (sp_law_extras K A) []) (C_law_joined : C8.Cal P w K mg base 1 "_law_joined" (sp_law_joined K A) []) (C_law_named : C8.Cal P w K mg base 1 "_law_named" (sp_law_named K A) []) (C_law_names : C8.Cal P w K mg base 2 "_law_names" (sp_law_names K A) []) (C_law_parents : C8.Cal P w K mg base 2 "_law_parents" (sp_law_parents K A) []) (C_law_pointers : C8.Cal P w K mg base 2 "_law_pointers" (sp_law_pointers K A) []) (C_law_source : C8.Cal P w K mg base 1 "_law_source" (sp_law_source K A) []) (C_law_take : C8.Cal P w K mg base 1 "_law_take" (sp_law_take K A) []) : FnOk P w K mg base CX0 3 f fd ["script", "room"] (sp_law_world K A) :=
  F.ok sc_law_world (fun vs H Q E h => ln_law_world h) (fun cdv Ar outer s H vs Q E hr h => ⟨t_law_world K A, (pss_cons (ps_set (i := 2) sc_law_world.nd rfl (by first | exact Or.inl rfl | exact Or.inr rfl) (C8.pe_c C_law_source hr (by decide) (by rfl) (pa_cons (C8.pe_c C_law_cell hr (by decide) (by rfl) (pa_cons (pv 0) (pa_cons pe_int pa_nil))) pa_nil)))
  (pss_cons (ps_set (i := 3) sc_law_world.nd rfl (by first | exact Or.inl rfl | exact Or.inr rfl) (pe_op op_add pe_int (C8.pe_c C_law_take hr (by decide) (by rfl) (pa_cons (pv 2) (pa_cons pe_int pa_nil)))))
  (C8.pss_cut (ps_if (pt_cmpR op_eq (C8.pe_c C_law_take hr (by decide) (by rfl) (pa_cons (pv 2) (pa_cons pe_int pa_nil))) pe_int (nomark _)) (pss_one (ps_set (i := 3) sc_law_world.nd rfl (by first | exact Or.inl rfl | exact Or.inr rfl) (pe_op op_add pe_int (C8.pe_c C_law_take hr (by decide) (by rfl) (pa_cons (pv 2) (pa_cons (pv 1) pa_nil)))))) pss_nil)
  (pss_cons (ps_set (i := 4) sc_law_world.nd rfl (by first | exact Or.inl rfl | exact Or.inr rfl) (pe_ix ix_list (pe_lst (pa_cons pe_int (pa_cons pe_int (pa_cons pe_int (pa_cons pe_int (pa_cons pe_int (pa_cons pe_int (pa_cons pe_int (pa_cons pe_int pa_nil))))))))) (C8.pe_c C_law_take hr (by decide) (by rfl) (pa_cons (pv 2) (pa_cons pe_int pa_nil))) (fun _ _ => rfl)))
  (pss_cons (ps_set (i := 5) sc_law_world.nd rfl (by first | exact Or.inl rfl | exact Or.inr rfl) (C8.pe_c C_law_take hr (by decide) (by rfl) (pa_cons (pv 2) (pa_cons pe_int pa_nil))))
  (pss_cons (ps_set (i := 6) sc_law_world.nd rfl (by first | exact Or.inl rfl | exact Or.inr rfl) (C8.pe_c C_law_parents hr (by decide) (by rfl) (pa_cons (C8.pe_c C_law_source hr (by decide) (by rfl) (pa_cons (C8.pe_c C_law_cell hr (by decide) (by rfl) (pa_cons (pv 0) (pa_cons pe_int pa_nil))) pa_nil)) (pa_cons (pv 3) (pa_cons (pv 4) pa_nil)))))
  (pss_cons (ps_set (i := 7) sc_law_world.nd rfl (by first | exact Or.inl rfl | exact Or.inr rfl) (C8.pe_c C_law_pointers hr (by decide) (by rfl) (pa_cons (C8.pe_c C_law_source hr (by decide) (by rfl) (pa_cons (C8.pe_c C_law_cell hr (by decide) (by rfl) (pa_cons (pv 0) (pa_cons pe_int pa_nil))) pa_nil)) (pa_cons (pv 6) (pa_cons (pv 5) pa_nil)))))
  (pss_cons (ps_set (i := 7) sc_law_world.nd rfl (by first | exact Or.inl rfl | exact Or.inr rfl) (C8.pe_c C_law_joined hr (by decide) (by rfl) (pa_cons (pv 7) (pa_cons (C8.pe_c C_law_extras hr (by decide) (by rfl) (pa_cons (C8.pe_c C_law_source hr (by decide) (by rfl) (pa_cons (C8.pe_c C_law_cell hr (by decide) (by rfl) (pa_cons (pv 0) (pa_cons pe_int pa_nil))) pa_nil)) (pa_cons (pv 3) (pa_cons (pv 4) pa_nil)))) pa_nil))))
  (pss_cons (ps_set (i := 8) sc_law_world.nd rfl (by first | exact Or.inl rfl | exact Or.inr rfl) (C8.pe_c C_law_names hr (by decide) (by rfl) (pa_cons (C8.pe_c C_law_source hr (by decide) (by rfl) (pa_cons (C8.pe_c C_law_cell hr (by decide) (by rfl) (pa_cons (pv 0) (pa_cons pe_int pa_nil))) pa_nil)) (pa_cons (pv 3) pa_nil))))
  (pss_cons (ps_set (i := 9) sc_law_world.nd rfl (by first | exact Or.inl rfl | exact Or.inr rfl) (C8.pe_c C_law_take hr (by decide) (by rfl) (pa_cons (pv 2) (pa_cons (pe_op op_add pe_int (pe_callB call_len_seq (by rfl) T.b_len (by decide +kernel) (pa_cons (pv 7) pa_nil))) pa_nil))))
  (pss_one (ps_ret (pe_tup (pa_cons (pv 3) (pa_cons (C8.pe_c C_law_named hr (by decide) (by rfl) (pa_cons (pv 7) (pa_cons (pv 8) (pa_cons (pv 9) pa_nil)))) (pa_cons (pv 8) (pa_cons (pv 6) (pa_cons (pv 4) pa_nil)))))))))))))))))), rd_law_world h⟩)
theorem bi_law_world {f : Addr} {fd : FuncData} (F : Fun K "_law_world" "_law_world" s_law_world f fd) : Binds K fd ["script", "room"] [] := F.binds fun _ _ _ _ _ _ us hl => match us, hl with | [_, _], _ => rfl
abbrev s_law_lines : Stmt := topS 25
theorem sc_law_lines : FnScope ["source", "pick"] ["source"] (defScope s_law_lines) := ⟨rfl, rfl, rfl, by decide +kernel, rfl, by decide +kernel, by decide +kernel⟩
theorem ln_law_lines {vs : List V} {H : Hp} {Q : VK} {E : XK} (h : sp_law_lines K A vs H Q E) : vs.length = 1 := by
  first | (obtain ⟨_, rfl, _⟩ := h; rfl) | (obtain ⟨_, _, rfl, _⟩ := h; rfl) | (obtain ⟨_, _, _, rfl, _⟩ := h; rfl) | (obtain ⟨_, _, _, _, rfl, _⟩ := h; rfl) | (obtain ⟨_, _, _, _, _, rfl, _⟩ := h; rfl) | (obtain ⟨_, _, _, _, _, _, rfl, _⟩ := h; rfl) | (obtain ⟨_, _, _, _, _, _, _, rfl, _⟩ := h; rfl) | (obtain ⟨_, _, _, _, _, _, _, _, rfl, _⟩ := h; rfl) | (obtain ⟨_, _, _, _, _, _, _, _, _, rfl, _⟩ := h; rfl) | (obtain ⟨_, _, _, _, _, _, _, _, _, _, rfl, _⟩ := h; rfl) | (obtain ⟨_, _, _, _, _, _, _, _, _, _, _, rfl, _⟩ := h; rfl) | (obtain ⟨_, _, _, _, _, _, _, _, _, _, _, _, rfl, _⟩ := h; rfl) | (obtain ⟨_, _, _, _, _, _, _, _, _, _, _, _, _, rfl, _⟩ := h; rfl) | (obtain ⟨_, _, _, _, _, _, _, _, _, _, _, _, _, _, rfl, _⟩ := h; rfl) | (obtain ⟨_, _, _, _, _, _, _, _, _, _, _, _, _, _, _, rfl, _⟩ := h; rfl)
theorem fn_law_lines {f : Addr} {fd : FuncData} (F : Fun K "_law_lines" "_law_lines" s_law_lines f fd) (T : Txt mg) (C : CT K A) (C_law_take : C8.Cal P w K mg base 1 "_law_take" (sp_law_take K A) []) : FnOk P w K mg base CX0 2 f fd ["source"] (sp_law_lines K A) :=
  F.ok sc_law_lines (fun vs H Q E h => ln_law_lines h) (fun cdv Ar outer s H vs Q E hr h => ⟨t_law_lines K A, (pss_cons (ps_set (i := 1) sc_law_lines.nd rfl (by first | exact Or.inl rfl | exact Or.inr rfl) (C8.pe_c C_law_take hr (by decide) (by rfl) (pa_cons (pv 0) (pa_cons pe_int pa_nil))))
  (pss_cons (ps_if (pt_cmpR op_eq (pv 1) pe_int (nomark _)) (pss_one (ps_ret (C8.pe_c C_law_take hr (by decide) (by rfl) (pa_cons (pv 0) (pa_cons pe_int pa_nil))))) pss_nil)
  (pss_one (ps_ret (pe_ix ix_list (pe_lst (pa_cons pe_int (pa_cons pe_int (pa_cons pe_int (pa_cons pe_int (pa_cons pe_int (pa_cons pe_int (pa_cons pe_int (pa_cons pe_int (pa_cons pe_int (pa_cons pe_int (pa_cons pe_int pa_nil)))))))))))) (pv 1) (fun _ _ => rfl)))))), rd_law_lines h⟩)
theorem bi_law_lines {f : Addr} {fd : FuncData} (F : Fun K "_law_lines" "_law_lines" s_law_lines f fd) : Binds K fd ["source"] [] := F.binds fun _ _ _ _ _ _ us hl => match us, hl with | [_], _ => rfl
abbrev s_law_owners : Stmt := topS 26
theorem sc_law_owners : FnScope ["source", "pairs", "sides", "k"] ["source", "pairs"] (defScope s_law_owners) := ⟨rfl, rfl, rfl, by decide +kernel, rfl, by decide +kernel, by decide +kernel⟩
theorem ln_law_owners {vs : List V} {H : Hp} {Q : VK} {E : XK} (h : sp_law_owners K A vs H Q E) : vs.length = 2 := by
  first | (obtain ⟨_, rfl, _⟩ := h; rfl) | (obtain ⟨_, _, rfl, _⟩ := h; rfl) | (obtain ⟨_, _, _, rfl, _⟩ := h; rfl) | (obtain ⟨_, _, _, _, rfl, _⟩ := h; rfl) | (obtain ⟨_, _, _, _, _, rfl, _⟩ := h; rfl) | (obtain ⟨_, _, _, _, _, _, rfl, _⟩ := h; rfl) | (obtain ⟨_, _, _, _, _, _, _, rfl, _⟩ := h; rfl) | (obtain ⟨_, _, _, _, _, _, _, _, rfl, _⟩ := h; rfl) | (obtain ⟨_, _, _, _, _, _, _, _, _, rfl, _⟩ := h; rfl) | (obtain ⟨_, _, _, _, _, _, _, _, _, _, rfl, _⟩ := h; rfl) | (obtain ⟨_, _, _, _, _, _, _, _, _, _, _, rfl, _⟩ := h; rfl) | (obtain ⟨_, _, _, _, _, _, _, _, _, _, _, _, rfl, _⟩ := h; rfl) | (obtain ⟨_, _, _, _, _, _, _, _, _, _, _, _, _, rfl, _⟩ := h; rfl) | (obtain ⟨_, _, _, _, _, _, _, _, _, _, _, _, _, _, rfl, _⟩ := h; rfl) | (obtain ⟨_, _, _, _, _, _, _, _, _, _, _, _, _, _, _, rfl, _⟩ := h; rfl)
theorem fn_law_owners {f : Addr} {fd : FuncData} (F : Fun K "_law_owners" "_law_owners" s_law_owners f fd) (T : Txt mg) (C : CT K A) (C_law_take : C8.Cal P w K mg base 1 "_law_take" (sp_law_take K A) []) : FnOk P w K mg base CX0 2 f fd ["source", "pairs"] (sp_law_owners K A) :=
  F.ok sc_law_owners (fun vs H Q E h => ln_law_owners h) (fun cdv Ar outer s H vs Q E hr h => ⟨t_law_owners K A, (pss_cons (ps_set (i := 2) sc_law_owners.nd rfl (by first | exact Or.inl rfl | exact Or.inr rfl) (pe_lc (own := [("k", 3)]) (g := (gName 3)) (tt := tYes) rfl sc_law_owners.nd (pi_range1 (by rfl) T.b_range (pa_cons (pe_callB (call_min2 rfl) (by rfl) T.b_min (by decide +kernel) (pa_cons pe_int (pa_cons (pe_callB call_len_seq (by rfl) T.b_len (by decide +kernel) (pa_cons (pv 1) pa_nil)) pa_nil))) pa_nil)) (blkOk_by (own := [("k", 3)]) (N := ["source", "pairs", "sides", "k"]) (sc := defScope s_law_owners) (by decide +kernel)) (fun _ _ _ _ _ => (pg_name (i := 3) sc_law_owners.nd rfl (by first | exact Or.inl rfl | exact Or.inr rfl))) (fun _ _ _ _ _ => pts_nil) (fun _ _ _ _ _ => (C8.pe_c C_law_take hr (by decide) (by rfl) (pa_cons (pv 0) (pa_cons pe_int pa_nil))))))
  (pss_one (ps_ret (pe_lc (own := [("k", 3)]) (g := (gName 3)) (tt := tYes) rfl sc_law_owners.nd (pi_range1 (by rfl) T.b_range (pa_cons (pe_callB call_len_seq (by rfl) T.b_len (by decide +kernel) (pa_cons (pv 1) pa_nil)) pa_nil)) (blkOk_by (own := [("k", 3)]) (N := ["source", "pairs", "sides", "k"]) (sc := defScope s_law_owners) (by decide +kernel)) (fun _ _ _ _ _ => (pg_name (i := 3) sc_law_owners.nd rfl (by first | exact Or.inl rfl | exact Or.inr rfl))) (fun _ _ _ _ _ => pts_nil) (fun _ _ _ _ _ => (pe_ix ix_tup (pe_ix ix_list (pv 1) (pv 3) (fun _ _ => rfl)) (pe_ix ix_list (pv 2) (pe_op op_mod (pv 3) pe_int) (fun _ _ => rfl)) (fun _ _ => rfl))))))), rd_law_owners h⟩)
theorem bi_law_owners {f : Addr} {fd : FuncData} (F : Fun K "_law_owners" "_law_owners" s_law_owners f fd) : Binds K fd ["source", "pairs"] [] := F.binds fun _ _ _ _ _ _ us hl => match us, hl with | [_, _], _ => rfl
abbrev s_law_table : Stmt := topS 27
theorem sc_law_table : FnScope ["source", "many", "owners", "lines", "mode", "change", "page", "blank", "k"] ["source", "many", "owners"] (defScope s_law_table) := ⟨rfl, rfl, rfl, by decide +kernel, rfl, by decide +kernel, by decide +kernel⟩
theorem ln_law_table {vs : List V} {H : Hp} {Q : VK} {E : XK} (h : sp_law_table K A vs H Q E) : vs.length = 3 := by
  first | (obtain ⟨_, rfl, _⟩ := h; rfl) | (obtain ⟨_, _, rfl, _⟩ := h; rfl) | (obtain ⟨_, _, _, rfl, _⟩ := h; rfl) | (obtain ⟨_, _, _, _, rfl, _⟩ := h; rfl) | (obtain ⟨_, _, _, _, _, rfl, _⟩ := h; rfl) | (obtain ⟨_, _, _, _, _, _, rfl, _⟩ := h; rfl) | (obtain ⟨_, _, _, _, _, _, _, rfl, _⟩ := h; rfl) | (obtain ⟨_, _, _, _, _, _, _, _, rfl, _⟩ := h; rfl) | (obtain ⟨_, _, _, _, _, _, _, _, _, rfl, _⟩ := h; rfl) | (obtain ⟨_, _, _, _, _, _, _, _, _, _, rfl, _⟩ := h; rfl) | (obtain ⟨_, _, _, _, _, _, _, _, _, _, _, rfl, _⟩ := h; rfl) | (obtain ⟨_, _, _, _, _, _, _, _, _, _, _, _, rfl, _⟩ := h; rfl) | (obtain ⟨_, _, _, _, _, _, _, _, _, _, _, _, _, rfl, _⟩ := h; rfl) | (obtain ⟨_, _, _, _, _, _, _, _, _, _, _, _, _, _, rfl, _⟩ := h; rfl) | (obtain ⟨_, _, _, _, _, _, _, _, _, _, _, _, _, _, _, rfl, _⟩ := h; rfl)
theorem fn_law_table {f : Addr} {fd : FuncData} (F : Fun K "_law_table" "_law_table" s_law_table f fd) (T : Txt mg) (C : CT K A) (C_law_lines : C8.Cal P w K mg base 2 "_law_lines" (sp_law_lines K A) []) (C_law_take : C8.Cal P w K mg base 1 "_law_take" (sp_law_take K A) []) : FnOk P w K mg base CX0 3 f fd ["source", "many", "owners"] (sp_law_table K A) :=
  F.ok sc_law_table (fun vs H Q E h => ln_law_table h) (fun cdv Ar outer s H vs Q E hr h => ⟨t_law_table K A, (pss_cons (ps_set (i := 3) sc_law_table.nd rfl (by first | exact Or.inl rfl | exact Or.inr rfl) (C8.pe_c C_law_lines hr (by decide) (by rfl) (pa_cons (pv 0) pa_nil)))
  (pss_cons (ps_set (i := 4) sc_law_table.nd rfl (by first | exact Or.inl rfl | exact Or.inr rfl) (C8.pe_c C_law_take hr (by decide) (by rfl) (pa_cons (pv 0) (pa_cons pe_int pa_nil))))
  (pss_cons (ps_set (i := 5) sc_law_table.nd rfl (by first | exact Or.inl rfl | exact Or.inr rfl) (C8.pe_c C_law_take hr (by decide) (by rfl) (pa_cons (pv 0) (pa_cons pe_int pa_nil))))
  (pss_cons (ps_set (i := 6) sc_law_table.nd rfl (by first | exact Or.inl rfl | exact Or.inr rfl) (C8.pe_c C_law_take hr (by decide) (by rfl) (pa_cons (pv 0) (pa_cons (pv 1) pa_nil))))
  (pss_cons (ps_set (i := 7) sc_law_table.nd rfl (by first | exact Or.inl rfl | exact Or.inr rfl) (pe_lst pa_nil))
  (pss_cons (ps_for PassesOwn.never rfl (pi_range1 (by rfl) T.b_range (pa_cons (pv 1) pa_nil)) (pg_name (i := 8) sc_law_table.nd rfl (by first | exact Or.inl rfl | exact Or.inr rfl))
  (pss_one (ps_if (pt_cmpR op_lt (pv 4) pe_int (nomark _)) (pss_one (ps_expr (pe_bm PySem.F.plainAttrs_list PySem.F.slot_list_append PySem.F.type_list_append mt_append (pv 7) (pa_cons (pe_callB (call_min2 rfl) (by rfl) T.b_min (by decide +kernel) (pa_cons pe_int (pa_cons (pe_bm PySem.F.plainAttrs_list PySem.F.slot_list_count PySem.F.type_list_count mt_lcount (pv 2) (pa_cons (pv 8) pa_nil)) pa_nil))) pa_nil)))) (pss_one (ps_if (pt_cmpR op_eq (pv 4) pe_int (nomark _)) (pss_one (ps_expr (pe_bm PySem.F.plainAttrs_list PySem.F.slot_list_append PySem.F.type_list_append mt_append (pv 7) (pa_cons (pe_callB (call_min2 rfl) (by rfl) T.b_min (by decide +kernel) (pa_cons pe_int (pa_cons (pe_op op_add (pe_bm PySem.F.plainAttrs_list PySem.F.slot_list_count PySem.F.type_list_count mt_lcount (pv 2) (pa_cons (pv 8) pa_nil)) (pe_ix ix_list (pe_lst (pa_cons pe_int (pa_cons pe_int (pa_cons pe_int pa_nil)))) (C8.pe_c C_law_take hr (by decide) (by rfl) (pa_cons (pv 0) (pa_cons pe_int pa_nil))) (fun _ _ => rfl))) pa_nil))) pa_nil)))) (pss_one (ps_if (pt_cmpR op_eq (pv 4) pe_int (nomark _)) (pss_one (ps_expr (pe_bm PySem.F.plainAttrs_list PySem.F.slot_list_append PySem.F.type_list_append mt_append (pv 7) (pa_cons (C8.pe_c C_law_take hr (by decide) (by rfl) (pa_cons (pv 0) (pa_cons (pe_op op_add (pv 3) pe_int) pa_nil))) pa_nil)))) (pss_one (ps_expr (pe_bm PySem.F.plainAttrs_list PySem.F.slot_list_append PySem.F.type_list_append mt_append (pv 7) (pa_cons (pe_callB (call_min2 rfl) (by rfl) T.b_min (by decide +kernel) (pa_cons (pv 3) (pa_cons (C8.pe_c C_law_take hr (by decide) (by rfl) (pa_cons (pv 0) (pa_cons pe_int pa_nil))) pa_nil))) pa_nil)))))))))))
  (pss_cons (ps_set (i := 3) sc_law_table.nd rfl (by first | exact Or.inl rfl | exact Or.inr rfl) (pe_callB (call_max2 rfl) (by rfl) T.b_max (by decide +kernel) (pa_cons (pv 3) (pa_cons (pe_callB (cr_max rfl) (by rfl) T.b_max (by decide +kernel) (pa_cons (pv 7) pa_nil)) pa_nil))))
  (C8.pss_cut (ps_if (pt_cmpR op_eq (pv 5) pe_int (nomark _)) (pss_one (ps_asg (pe_callB (call_min2 rfl) (by rfl) T.b_min (by decide +kernel) (pa_cons (pv 3) (pa_cons (pe_op op_add (pe_ix ix_list (pv 7) (pv 6) (fun _ _ => rfl)) pe_int) pa_nil))) (pg_sub (pv 7) (pv 6) set_list))) pss_nil)
  (C8.pss_cut (ps_if (pt_cmpR op_gt (pv 5) pe_int (nomark _)) (C8.pss_cut (ps_if (PW.pt (pw_and (pt_cmpR op_eq (pe_ix ix_list (pv 7) (pv 6) (fun _ _ => rfl)) pe_int (nomark _)) (pw_and1 (pt_cmpR (op_neD hr.units) (pv 2) (pe_lst pa_nil) (nomark _))))) (pss_one (ps_set (i := 6) sc_law_table.nd rfl (by first | exact Or.inl rfl | exact Or.inr rfl) (pe_ix ix_list (pv 2) pe_int (fun _ _ => rfl)))) pss_nil)
  (pss_one (ps_asg (pe_callB (call_max2 rfl) (by rfl) T.b_max (by decide +kernel) (pa_cons pe_int (pa_cons (pe_op op_sub (pe_ix ix_list (pv 7) (pv 6) (fun _ _ => rfl)) pe_int) pa_nil))) (pg_sub (pv 7) (pv 6) set_list)))) pss_nil)
  (pss_one (ps_ret (pe_tup (pa_cons (pv 3) (pa_cons (pv 7) pa_nil)))))))))))))), rd_law_table h⟩)
theorem bi_law_table {f : Addr} {fd : FuncData} (F : Fun K "_law_table" "_law_table" s_law_table f fd) : Binds K fd ["source", "many", "owners"] [] := F.binds fun _ _ _ _ _ _ us hl => match us, hl with | [_, _, _], _ => rfl
abbrev s_law_near : Stmt := topS 28
theorem sc_law_near : FnScope ["source", "lines", "blank", "near", "page", "fewer"] ["source", "lines", "blank"] (defScope s_law_near) := ⟨rfl, rfl, rfl, by decide +kernel, rfl, by decide +kernel, by decide +kernel⟩
theorem ln_law_near {vs : List V} {H : Hp} {Q : VK} {E : XK} (h : sp_law_near K A vs H Q E) : vs.length = 3 := by
  first | (obtain ⟨_, rfl, _⟩ := h; rfl) | (obtain ⟨_, _, rfl, _⟩ := h; rfl) | (obtain ⟨_, _, _, rfl, _⟩ := h; rfl) | (obtain ⟨_, _, _, _, rfl, _⟩ := h; rfl) | (obtain ⟨_, _, _, _, _, rfl, _⟩ := h; rfl) | (obtain ⟨_, _, _, _, _, _, rfl, _⟩ := h; rfl) | (obtain ⟨_, _, _, _, _, _, _, rfl, _⟩ := h; rfl) | (obtain ⟨_, _, _, _, _, _, _, _, rfl, _⟩ := h; rfl) | (obtain ⟨_, _, _, _, _, _, _, _, _, rfl, _⟩ := h; rfl) | (obtain ⟨_, _, _, _, _, _, _, _, _, _, rfl, _⟩ := h; rfl) | (obtain ⟨_, _, _, _, _, _, _, _, _, _, _, rfl, _⟩ := h; rfl) | (obtain ⟨_, _, _, _, _, _, _, _, _, _, _, _, rfl, _⟩ := h; rfl) | (obtain ⟨_, _, _, _, _, _, _, _, _, _, _, _, _, rfl, _⟩ := h; rfl) | (obtain ⟨_, _, _, _, _, _, _, _, _, _, _, _, _, _, rfl, _⟩ := h; rfl) | (obtain ⟨_, _, _, _, _, _, _, _, _, _, _, _, _, _, _, rfl, _⟩ := h; rfl)
theorem fn_law_near {f : Addr} {fd : FuncData} (F : Fun K "_law_near" "_law_near" s_law_near f fd) (T : Txt mg) (C : CT K A) (C_law_take : C8.Cal P w K mg base 1 "_law_take" (sp_law_take K A) []) : FnOk P w K mg base CX0 2 f fd ["source", "lines", "blank"] (sp_law_near K A) :=
  F.ok sc_law_near (fun vs H Q E h => ln_law_near h) (fun cdv Ar outer s H vs Q E hr h => ⟨t_law_near K A, (pss_cons (ps_set (i := 3) sc_law_near.nd rfl (by first | exact Or.inl rfl | exact Or.inr rfl) (pe_callTy call_list_of (by rfl) T.b_list (by decide +kernel) (pa_cons (pv 2) pa_nil)))
  (pss_cons (ps_set (i := 4) sc_law_near.nd rfl (by first | exact Or.inl rfl | exact Or.inr rfl) (C8.pe_c C_law_take hr (by decide) (by rfl) (pa_cons (pv 0) (pa_cons (pe_callB call_len_seq (by rfl) T.b_len (by decide +kernel) (pa_cons (pv 2) pa_nil)) pa_nil))))
  (pss_cons (ps_set (i := 5) sc_law_near.nd rfl (by first | exact Or.inl rfl | exact Or.inr rfl) (pe_cmpR op_eq (C8.pe_c C_law_take hr (by decide) (by rfl) (pa_cons (pv 0) (pa_cons pe_int pa_nil))) pe_int (nomark _)))
  (C8.pss_cut (ps_if (PW.pt (pw_and (pt_cmpR op_gt (pe_ix ix_list (pv 3) (pv 4) (fun _ _ => rfl)) pe_int (nomark _)) (pw_and1 (PW.pt (pw_or (pt_val (pv 5) (by intro _; rfl)) (pw_or1 (pt_cmpR op_eq (pe_ix ix_list (pv 3) (pv 4) (fun _ _ => rfl)) (pv 1) (nomark _)))))))) (pss_one (ps_asg (pe_op op_sub (pe_ix ix_list (pv 3) (pv 4) (fun _ _ => rfl)) pe_int) (pg_sub (pv 3) (pv 4) set_list))) (pss_one (ps_if (pt_cmpR op_lt (pe_ix ix_list (pv 3) (pv 4) (fun _ _ => rfl)) (pv 1) (nomark _)) (pss_one (ps_asg (pe_op op_add (pe_ix ix_list (pv 3) (pv 4) (fun _ _ => rfl)) pe_int) (pg_sub (pv 3) (pv 4) set_list))) pss_nil)))
  (pss_one (ps_ret (pv 3))))))), rd_law_near h⟩)
theorem bi_law_near {f : Addr} {fd : FuncData} (F : Fun K "_law_near" "_law_near" s_law_near f fd) : Binds K fd ["source", "lines", "blank"] [] := F.binds fun _ _ _ _ _ _ us hl => match us, hl with | [_, _, _], _ => rfl
abbrev s_law_due : Stmt := topS 29
theorem sc_law_due : FnScope ["pairs", "blank", "owners", "left", "k"] ["pairs", "blank", "owners"] (defScope s_law_due) := ⟨rfl, rfl, rfl, by decide +kernel, rfl, by decide +kernel, by decide +kernel⟩
theorem ln_law_due {vs : List V} {H : Hp} {Q : VK} {E : XK} (h : sp_law_due K A vs H Q E) : vs.length = 3 := by
  first | (obtain ⟨_, rfl, _⟩ := h; rfl) | (obtain ⟨_, _, rfl, _⟩ := h; rfl) | (obtain ⟨_, _, _, rfl, _⟩ := h; rfl) | (obtain ⟨_, _, _, _, rfl, _⟩ := h; rfl) | (obtain ⟨_, _, _, _, _, rfl, _⟩ := h; rfl) | (obtain ⟨_, _, _, _, _, _, rfl, _⟩ := h; rfl) | (obtain ⟨_, _, _, _, _, _, _, rfl, _⟩ := h; rfl) | (obtain ⟨_, _, _, _, _, _, _, _, rfl, _⟩ := h; rfl) | (obtain ⟨_, _, _, _, _, _, _, _, _, rfl, _⟩ := h; rfl) | (obtain ⟨_, _, _, _, _, _, _, _, _, _, rfl, _⟩ := h; rfl) | (obtain ⟨_, _, _, _, _, _, _, _, _, _, _, rfl, _⟩ := h; rfl) | (obtain ⟨_, _, _, _, _, _, _, _, _, _, _, _, rfl, _⟩ := h; rfl) | (obtain ⟨_, _, _, _, _, _, _, _, _, _, _, _, _, rfl, _⟩ := h; rfl) | (obtain ⟨_, _, _, _, _, _, _, _, _, _, _, _, _, _, rfl, _⟩ := h; rfl) | (obtain ⟨_, _, _, _, _, _, _, _, _, _, _, _, _, _, _, rfl, _⟩ := h; rfl)
theorem fn_law_due {f : Addr} {fd : FuncData} (F : Fun K "_law_due" "_law_due" s_law_due f fd) (T : Txt mg) (C : CT K A)  : FnOk P w K mg base CX0 1 f fd ["pairs", "blank", "owners"] (sp_law_due K A) :=
  F.ok sc_law_due (fun vs H Q E h => ln_law_due h) (fun cdv Ar outer s H vs Q E hr h => ⟨t_law_due K A, (pss_cons (ps_if (pt_cmpR op_ne (pe_callB call_len_seq (by rfl) T.b_len (by decide +kernel) (pa_cons (pv 2) pa_nil)) (pe_callB call_len_seq (by rfl) T.b_len (by decide +kernel) (pa_cons (pv 0) pa_nil)) (nomark _)) (pss_one (ps_ret pe_bl)) pss_nil)
  (pss_cons (ps_set (i := 3) sc_law_due.nd rfl (by first | exact Or.inl rfl | exact Or.inr rfl) (pe_callTy call_list_of (by rfl) T.b_list (by decide +kernel) (pa_cons (pv 1) pa_nil)))
  (pss_cons (ps_for PassesOwn.never rfl (pi_range1 (by rfl) T.b_range (pa_cons (pe_callB call_len_seq (by rfl) T.b_len (by decide +kernel) (pa_cons (pv 0) pa_nil)) pa_nil)) (pg_name (i := 4) sc_law_due.nd rfl (by first | exact Or.inl rfl | exact Or.inr rfl))
  (pss_cons (ps_if (PW.pt (pw_and (pt_cmpR op_ne (pe_ix ix_list (pv 2) (pv 4) (fun _ _ => rfl)) (pe_ix ix_tup (pe_ix ix_list (pv 0) (pv 4) (fun _ _ => rfl)) pe_int (fun _ _ => rfl)) (nomark _)) (pw_and1 (pt_cmpR op_ne (pe_ix ix_list (pv 2) (pv 4) (fun _ _ => rfl)) (pe_ix ix_tup (pe_ix ix_list (pv 0) (pv 4) (fun _ _ => rfl)) pe_int (fun _ _ => rfl)) (nomark _))))) (pss_one (ps_ret pe_bl)) pss_nil)
  (pss_one (ps_asg (pe_op op_sub (pe_ix ix_list (pv 3) (pe_ix ix_list (pv 2) (pv 4) (fun _ _ => rfl)) (fun _ _ => rfl)) pe_int) (pg_sub (pv 3) (pe_ix ix_list (pv 2) (pv 4) (fun _ _ => rfl)) set_list)))))
  (pss_one (ps_ret (pe_cmpR op_ge (pe_callB (cr_min rfl) (by rfl) T.b_min (by decide +kernel) (pa_cons (pv 3) pa_nil)) pe_int (nomark _))))))), rd_law_due h⟩)
theorem bi_law_due {f : Addr} {fd : FuncData} (F : Fun K "_law_due" "_law_due" s_law_due f fd) : Binds K fd ["pairs", "blank", "owners"] [] := F.binds fun _ _ _ _ _ _ us hl => match us, hl with | [_, _, _], _ => rfl
abbrev s_law_bent : Stmt := topS 30
theorem sc_law_bent : FnScope ["source", "owners", "pairs", "many", "bent", "way", "page", "place", "size", "k"] ["source", "owners", "pairs", "many"] (defScope s_law_bent) := ⟨rfl, rfl, rfl, by decide +kernel, rfl, by decide +kernel, by decide +kernel⟩
theorem ln_law_bent {vs : List V} {H : Hp} {Q : VK} {E : XK} (h : sp_law_bent K A vs H Q E) : vs.length = 4 := by
  first | (obtain ⟨_, rfl, _⟩ := h; rfl) | (obtain ⟨_, _, rfl, _⟩ := h; rfl) | (obtain ⟨_, _, _, rfl, _⟩ := h; rfl) | (obtain ⟨_, _, _, _, rfl, _⟩ := h; rfl) | (obtain ⟨_, _, _, _, _, rfl, _⟩ := h; rfl) | (obtain ⟨_, _, _, _, _, _, rfl, _⟩ := h; rfl) | (obtain ⟨_, _, _, _, _, _, _, rfl, _⟩ := h; rfl) | (obtain ⟨_, _, _, _, _, _, _, _, rfl, _⟩ := h; rfl) | (obtain ⟨_, _, _, _, _, _, _, _, _, rfl, _⟩ := h; rfl) | (obtain ⟨_, _, _, _, _, _, _, _, _, _, rfl, _⟩ := h; rfl) | (obtain ⟨_, _, _, _, _, _, _, _, _, _, _, rfl, _⟩ := h; rfl) | (obtain ⟨_, _, _, _, _, _, _, _, _, _, _, _, rfl, _⟩ := h; rfl) | (obtain ⟨_, _, _, _, _, _, _, _, _, _, _, _, _, rfl, _⟩ := h; rfl) | (obtain ⟨_, _, _, _, _, _, _, _, _, _, _, _, _, _, rfl, _⟩ := h; rfl) | (obtain ⟨_, _, _, _, _, _, _, _, _, _, _, _, _, _, _, rfl, _⟩ := h; rfl)
theorem fn_law_bent {f : Addr} {fd : FuncData} (F : Fun K "_law_bent" "_law_bent" s_law_bent f fd) (T : Txt mg) (C : CT K A) (C_law_take : C8.Cal P w K mg base 1 "_law_take" (sp_law_take K A) []) : FnOk P w K mg base CX0 2 f fd ["source", "owners", "pairs", "many"] (sp_law_bent K A) :=
  F.ok sc_law_bent (fun vs H Q E h => ln_law_bent h) (fun cdv Ar outer s H vs Q E hr h => ⟨t_law_bent K A, (pss_cons (ps_set (i := 4) sc_law_bent.nd rfl (by first | exact Or.inl rfl | exact Or.inr rfl) (pe_callTy call_list_of (by rfl) T.b_list (by decide +kernel) (pa_cons (pv 1) pa_nil)))
  (pss_cons (ps_set (i := 5) sc_law_bent.nd rfl (by first | exact Or.inl rfl | exact Or.inr rfl) (C8.pe_c C_law_take hr (by decide) (by rfl) (pa_cons (pv 0) (pa_cons pe_int pa_nil))))
  (pss_cons (ps_set (i := 6) sc_law_bent.nd rfl (by first | exact Or.inl rfl | exact Or.inr rfl) (C8.pe_c C_law_take hr (by decide) (by rfl) (pa_cons (pv 0) (pa_cons (pv 3) pa_nil))))
  (pss_cons (ps_set (i := 7) sc_law_bent.nd rfl (by first | exact Or.inl rfl | exact Or.inr rfl) pe_int)
  (C8.pss_cut (ps_if (pt_cmpR (op_neD hr.units) (pv 4) (pe_lst pa_nil) (nomark _)) (pss_one (ps_set (i := 7) sc_law_bent.nd rfl (by first | exact Or.inl rfl | exact Or.inr rfl) (C8.pe_c C_law_take hr (by decide) (by rfl) (pa_cons (pv 0) (pa_cons (pe_callB call_len_seq (by rfl) T.b_len (by decide +kernel) (pa_cons (pv 4) pa_nil)) pa_nil))))) pss_nil)
  (pss_cons (ps_if (pt_cmpR op_eq (pv 5) pe_int (nomark _)) (pss_one (ps_ret (pe_slice sl_list (pv 4) po_none (po_some (pe_un un_neg pe_int))))) pss_nil)
  (pss_cons (ps_if (pt_cmpR op_eq (pv 5) pe_int (nomark _)) (pss_one (ps_ret (pe_op op_cat (pv 4) (pe_orT (pe_slice sl_list (pv 4) (po_some (pv 7)) (po_some (pe_op op_add (pv 7) pe_int))) (pe_one (pe_lst (pa_cons (pv 6) pa_nil))))))) pss_nil)
  (pss_cons (ps_if (pt_cmpR op_eq (pv 5) pe_int (nomark _)) (pss_one (ps_ret (pe_op op_cat (pe_slice sl_list (pv 4) po_none (po_some (pv 7))) (pe_slice sl_list (pv 4) (po_some (pe_op op_add (pv 7) pe_int)) po_none)))) pss_nil)
  (pss_cons (ps_if (pt_cmpR op_eq (pv 5) pe_int (nomark _)) (pss_cons (ps_set (i := 8) sc_law_bent.nd rfl (by first | exact Or.inl rfl | exact Or.inr rfl) (pe_callB (call_min2 rfl) (by rfl) T.b_min (by decide +kernel) (pa_cons (pe_callB call_len_seq (by rfl) T.b_len (by decide +kernel) (pa_cons (pv 2) pa_nil)) (pa_cons (pe_callB call_len_seq (by rfl) T.b_len (by decide +kernel) (pa_cons (pv 4) pa_nil)) pa_nil))))
  (pss_one (ps_ret (pe_lc (own := [("k", 9)]) (g := (gName 9)) (tt := tYes) rfl sc_law_bent.nd (pi_range1 (by rfl) T.b_range (pa_cons (pv 8) pa_nil)) (blkOk_by (own := [("k", 9)]) (N := ["source", "owners", "pairs", "many", "bent", "way", "page", "place", "size", "k"]) (sc := defScope s_law_bent) (by decide +kernel)) (fun _ _ _ _ _ => (pg_name (i := 9) sc_law_bent.nd rfl (by first | exact Or.inl rfl | exact Or.inr rfl))) (fun _ _ _ _ _ => pts_nil) (fun _ _ _ _ _ => (pe_ifExp (pt_cmpR op_in_seq (pv 6) (pe_ix ix_list (pv 2) (pv 9) (fun _ _ => rfl)) (by rfl)) (pv 6) (pe_ix ix_list (pv 4) (pv 9) (fun _ _ => rfl)))))))) pss_nil)
  (C8.pss_cut (ps_if (pt_cmpR op_lt (pv 7) (pe_callB (call_min2 rfl) (by rfl) T.b_min (by decide +kernel) (pa_cons (pe_callB call_len_seq (by rfl) T.b_len (by decide +kernel) (pa_cons (pv 2) pa_nil)) (pa_cons (pe_callB call_len_seq (by rfl) T.b_len (by decide +kernel) (pa_cons (pv 4) pa_nil)) pa_nil))) (nomark _)) (pss_one (ps_if (pt_cmpR op_eq (pv 5) pe_int (nomark _)) (pss_one (ps_asg (pe_op op_sub (pe_op op_add (pe_ix ix_tup (pe_ix ix_list (pv 2) (pv 7) (fun _ _ => rfl)) pe_int (fun _ _ => rfl)) (pe_ix ix_tup (pe_ix ix_list (pv 2) (pv 7) (fun _ _ => rfl)) pe_int (fun _ _ => rfl))) (pe_ix ix_list (pv 4) (pv 7) (fun _ _ => rfl))) (pg_sub (pv 4) (pv 7) set_list))) (pss_one (ps_if (pt_cmpR op_eq (pv 5) pe_int (nomark _)) (pss_one (ps_asg (pv 6) (pg_sub (pv 4) (pv 7) set_list))) (pss_one (ps_if (pt_cmpR op_eq (pv 5) pe_int (nomark _)) (pss_one (ps_asg (pe_op op_add (pv 3) (pv 6)) (pg_sub (pv 4) (pv 7) set_list))) (pss_one (ps_asg (pe_op op_sub (pe_ix ix_list (pv 4) (pv 7) (fun _ _ => rfl)) (pv 3)) (pg_sub (pv 4) (pv 7) set_list))))))))) pss_nil)
  (pss_one (ps_ret (pv 4))))))))))))), rd_law_bent h⟩)
theorem bi_law_bent {f : Addr} {fd : FuncData} (F : Fun K "_law_bent" "_law_bent" s_law_bent f fd) : Binds K fd ["source", "owners", "pairs", "many"] [] := F.binds fun _ _ _ _ _ _ us hl => match us, hl with | [_, _, _, _], _ => rfl
abbrev s_is_pointer : Stmt := topS 6
theorem sc_is_pointer : FnScope ["pages", "holder", "target"] ["pages", "holder", "target"] (defScope s_is_pointer) := ⟨rfl, rfl, rfl, by decide +kernel, rfl, by decide +kernel, by decide +kernel⟩
theorem ln_is_pointer {vs : List V} {H : Hp} {Q : VK} {E : XK} (h : sp_is_pointer K A vs H Q E) : vs.length = 3 := by
  first | (obtain ⟨_, rfl, _⟩ := h; rfl) | (obtain ⟨_, _, rfl, _⟩ := h; rfl) | (obtain ⟨_, _, _, rfl, _⟩ := h; rfl) | (obtain ⟨_, _, _, _, rfl, _⟩ := h; rfl) | (obtain ⟨_, _, _, _, _, rfl, _⟩ := h; rfl) | (obtain ⟨_, _, _, _, _, _, rfl, _⟩ := h; rfl) | (obtain ⟨_, _, _, _, _, _, _, rfl, _⟩ := h; rfl) | (obtain ⟨_, _, _, _, _, _, _, _, rfl, _⟩ := h; rfl) | (obtain ⟨_, _, _, _, _, _, _, _, _, rfl, _⟩ := h; rfl) | (obtain ⟨_, _, _, _, _, _, _, _, _, _, rfl, _⟩ := h; rfl) | (obtain ⟨_, _, _, _, _, _, _, _, _, _, _, rfl, _⟩ := h; rfl) | (obtain ⟨_, _, _, _, _, _, _, _, _, _, _, _, rfl, _⟩ := h; rfl) | (obtain ⟨_, _, _, _, _, _, _, _, _, _, _, _, _, rfl, _⟩ := h; rfl) | (obtain ⟨_, _, _, _, _, _, _, _, _, _, _, _, _, _, rfl, _⟩ := h; rfl) | (obtain ⟨_, _, _, _, _, _, _, _, _, _, _, _, _, _, _, rfl, _⟩ := h; rfl)
theorem fn_is_pointer {f : Addr} {fd : FuncData} (F : Fun K "_is_pointer" "_is_pointer" s_is_pointer f fd) (T : Txt mg) (C : CT K A)  : FnOk P w K mg base CX0 1 f fd ["pages", "holder", "target"] (sp_is_pointer K A) :=
  F.ok sc_is_pointer (fun vs H Q E h => ln_is_pointer h) (fun cdv Ar outer s H vs Q E hr h => ⟨t_is_pointer K A, (pss_one (ps_ret (pe_and (pe_chain op_le op_lt pe_int (pv 1) (pv 0)) (pe_and (pe_chain op_le op_lt pe_int (pv 2) (pv 0)) (pe_one (pe_cmpR op_ne (pv 1) (pv 2) (nomark _))))))), rd_is_pointer h⟩)
theorem bi_is_pointer {f : Addr} {fd : FuncData} (F : Fun K "_is_pointer" "_is_pointer" s_is_pointer f fd) : Binds K fd ["pages", "holder", "target"] [] := F.binds fun _ _ _ _ _ _ us hl => match us, hl with | [_, _, _], _ => rfl
abbrev s_as_known : Stmt := topS 7
theorem sc_as_known : FnScope ["pages", "pointers", "known", "index", "holder", "target"] ["pages", "pointers"] (defScope s_as_known) := ⟨rfl, rfl, rfl, by decide +kernel, rfl, by decide +kernel, by decide +kernel⟩
theorem ln_as_known {vs : List V} {H : Hp} {Q : VK} {E : XK} (h : sp_as_known K A vs H Q E) : vs.length = 2 := by
  first | (obtain ⟨_, rfl, _⟩ := h; rfl) | (obtain ⟨_, _, rfl, _⟩ := h; rfl) | (obtain ⟨_, _, _, rfl, _⟩ := h; rfl) | (obtain ⟨_, _, _, _, rfl, _⟩ := h; rfl) | (obtain ⟨_, _, _, _, _, rfl, _⟩ := h; rfl) | (obtain ⟨_, _, _, _, _, _, rfl, _⟩ := h; rfl) | (obtain ⟨_, _, _, _, _, _, _, rfl, _⟩ := h; rfl) | (obtain ⟨_, _, _, _, _, _, _, _, rfl, _⟩ := h; rfl) | (obtain ⟨_, _, _, _, _, _, _, _, _, rfl, _⟩ := h; rfl) | (obtain ⟨_, _, _, _, _, _, _, _, _, _, rfl, _⟩ := h; rfl) | (obtain ⟨_, _, _, _, _, _, _, _, _, _, _, rfl, _⟩ := h; rfl) | (obtain ⟨_, _, _, _, _, _, _, _, _, _, _, _, rfl, _⟩ := h; rfl) | (obtain ⟨_, _, _, _, _, _, _, _, _, _, _, _, _, rfl, _⟩ := h; rfl) | (obtain ⟨_, _, _, _, _, _, _, _, _, _, _, _, _, _, rfl, _⟩ := h; rfl) | (obtain ⟨_, _, _, _, _, _, _, _, _, _, _, _, _, _, _, rfl, _⟩ := h; rfl)
theorem fn_as_known {f : Addr} {fd : FuncData} (F : Fun K "_as_known" "_as_known" s_as_known f fd) (T : Txt mg) (C : CT K A) (C_is_pointer : C8.Cal P w K mg base 1 "_is_pointer" (sp_is_pointer K A) []) : FnOk P w K mg base CX0 2 f fd ["pages", "pointers"] (sp_as_known K A) :=
  F.ok sc_as_known (fun vs H Q E h => ln_as_known h) (fun cdv Ar outer s H vs Q E hr h => ⟨t_as_known K A, (pss_cons (ps_set (i := 2) sc_as_known.nd rfl (by first | exact Or.inl rfl | exact Or.inr rfl) pe_dnewT)
  (pss_cons (ps_for PassesOwn.never rfl (pi_enum (by rfl) T.b_enumerate (pa_cons (pv 1) pa_nil)) (pg_tup rfl (pgs_cons (pg_name (i := 3) sc_as_known.nd rfl (by first | exact Or.inl rfl | exact Or.inr rfl)) (pgs_cons (pg_tup rfl (pgs_cons (pg_name (i := 4) sc_as_known.nd rfl (by first | exact Or.inl rfl | exact Or.inr rfl)) (pgs_cons (pg_name (i := 5) sc_as_known.nd rfl (by first | exact Or.inl rfl | exact Or.inr rfl)) pgs_nil))) pgs_nil)))
  (pss_cons (ps_if (PW.pt (pw_or (pt_not (pt_val (C8.pe_c C_is_pointer hr (by decide) (by rfl) (pa_cons (pv 0) (pa_cons (pv 4) (pa_cons (pv 5) pa_nil)))) (by intro _; rfl))) (pw_or1 (pt_cmp (pc_din (hu_of hr) (pe_tup (pa_cons (pv 4) (pa_cons (pv 5) pa_nil))) (pv 2)))))) (pss_one ps_never) pss_nil)
  (pss_one (ps_dput (hu_of hr) (pv 2) (pe_tup (pa_cons (pv 4) (pa_cons (pv 5) pa_nil))) pe_bl rfl))))
  (pss_one (ps_ret (pv 2))))), rd_as_known h⟩)
theorem bi_as_known {f : Addr} {fd : FuncData} (F : Fun K "_as_known" "_as_known" s_as_known f fd) : Binds K fd ["pages", "pointers"] [] := F.binds fun _ _ _ _ _ _ us hl => match us, hl with | [_, _], _ => rfl
abbrev s_grouped : Stmt := topS 8
theorem sc_grouped : FnScope ["pages", "pairs", "found", "_", "page", "other"] ["pages", "pairs"] (defScope s_grouped) := ⟨rfl, rfl, rfl, by decide +kernel, rfl, by decide +kernel, by decide +kernel⟩
theorem ln_grouped {vs : List V} {H : Hp} {Q : VK} {E : XK} (h : sp_grouped K A vs H Q E) : vs.length = 2 := by
  first | (obtain ⟨_, rfl, _⟩ := h; rfl) | (obtain ⟨_, _, rfl, _⟩ := h; rfl) | (obtain ⟨_, _, _, rfl, _⟩ := h; rfl) | (obtain ⟨_, _, _, _, rfl, _⟩ := h; rfl) | (obtain ⟨_, _, _, _, _, rfl, _⟩ := h; rfl) | (obtain ⟨_, _, _, _, _, _, rfl, _⟩ := h; rfl) | (obtain ⟨_, _, _, _, _, _, _, rfl, _⟩ := h; rfl) | (obtain ⟨_, _, _, _, _, _, _, _, rfl, _⟩ := h; rfl) | (obtain ⟨_, _, _, _, _, _, _, _, _, rfl, _⟩ := h; rfl) | (obtain ⟨_, _, _, _, _, _, _, _, _, _, rfl, _⟩ := h; rfl) | (obtain ⟨_, _, _, _, _, _, _, _, _, _, _, rfl, _⟩ := h; rfl) | (obtain ⟨_, _, _, _, _, _, _, _, _, _, _, _, rfl, _⟩ := h; rfl) | (obtain ⟨_, _, _, _, _, _, _, _, _, _, _, _, _, rfl, _⟩ := h; rfl) | (obtain ⟨_, _, _, _, _, _, _, _, _, _, _, _, _, _, rfl, _⟩ := h; rfl) | (obtain ⟨_, _, _, _, _, _, _, _, _, _, _, _, _, _, _, rfl, _⟩ := h; rfl)
theorem fn_grouped {f : Addr} {fd : FuncData} (F : Fun K "_grouped" "_grouped" s_grouped f fd) (T : Txt mg) (C : CT K A)  : FnOk P w K mg base CX0 1 f fd ["pages", "pairs"] (sp_grouped K A) :=
  F.ok sc_grouped (fun vs H Q E h => ln_grouped h) (fun cdv Ar outer s H vs Q E hr h => ⟨t_grouped K A, (pss_cons (ps_setLc (i := 2) (own := [("_", 3)]) (g := (gName 3)) (tt := tYes) rfl sc_grouped.nd rfl rfl (sw_true rfl rfl rfl (by decide +kernel)) (pi_range1 (by rfl) T.b_range (pa_cons (pv 0) pa_nil)) (blkOk_by (own := [("_", 3)]) (N := ["pages", "pairs", "found", "_", "page", "other"]) (sc := defScope s_grouped) (by decide +kernel)) (fun _ _ _ _ _ => (pg_name (i := 3) sc_grouped.nd rfl (by first | exact Or.inl rfl | exact Or.inr rfl))) (fun _ _ _ _ _ => pts_nil) (fun _ _ _ _ _ => (pe_lst pa_nil)))
  (pss_cons (ps_for PassesOwn.never rfl (pi_list (pv 1)) (pg_tup rfl (pgs_cons (pg_name (i := 4) sc_grouped.nd rfl (by first | exact Or.inl rfl | exact Or.inr rfl)) (pgs_cons (pg_name (i := 5) sc_grouped.nd rfl (by first | exact Or.inl rfl | exact Or.inr rfl)) pgs_nil)))
  (pss_one (ps_expr (pe_bm PySem.F.plainAttrs_list PySem.F.slot_list_append PySem.F.type_list_append mt_append (pe_ix ix_list (pv 2) (pv 4) (fun _ _ => rfl)) (pa_cons (pv 5) pa_nil)))))
  (pss_one (ps_ret (pv 2))))), rd_grouped h⟩)
theorem bi_grouped {f : Addr} {fd : FuncData} (F : Fun K "_grouped" "_grouped" s_grouped f fd) : Binds K fd ["pages", "pairs"] [] := F.binds fun _ _ _ _ _ _ us hl => match us, hl with | [_, _], _ => rfl
abbrev s_Web_init : Stmt := inClass (topS 9) 0
theorem sc_Web_init : FnScope ["self", "pages", "pointers", "holder", "target"] ["self", "pages", "pointers"] (defScope s_Web_init) := ⟨rfl, rfl, rfl, by decide +kernel, rfl, by decide +kernel, by decide +kernel⟩
theorem ln_Web_init {vs : List V} {H : Hp} {Q : VK} {E : XK} (h : sp_Web_init K A vs H Q E) : vs.length = 3 := by
  first | (obtain ⟨_, rfl, _⟩ := h; rfl) | (obtain ⟨_, _, rfl, _⟩ := h; rfl) | (obtain ⟨_, _, _, rfl, _⟩ := h; rfl) | (obtain ⟨_, _, _, _, rfl, _⟩ := h; rfl) | (obtain ⟨_, _, _, _, _, rfl, _⟩ := h; rfl) | (obtain ⟨_, _, _, _, _, _, rfl, _⟩ := h; rfl) | (obtain ⟨_, _, _, _, _, _, _, rfl, _⟩ := h; rfl) | (obtain ⟨_, _, _, _, _, _, _, _, rfl, _⟩ := h; rfl) | (obtain ⟨_, _, _, _, _, _, _, _, _, rfl, _⟩ := h; rfl) | (obtain ⟨_, _, _, _, _, _, _, _, _, _, rfl, _⟩ := h; rfl) | (obtain ⟨_, _, _, _, _, _, _, _, _, _, _, rfl, _⟩ := h; rfl) | (obtain ⟨_, _, _, _, _, _, _, _, _, _, _, _, rfl, _⟩ := h; rfl) | (obtain ⟨_, _, _, _, _, _, _, _, _, _, _, _, _, rfl, _⟩ := h; rfl) | (obtain ⟨_, _, _, _, _, _, _, _, _, _, _, _, _, _, rfl, _⟩ := h; rfl) | (obtain ⟨_, _, _, _, _, _, _, _, _, _, _, _, _, _, _, rfl, _⟩ := h; rfl)
theorem fn_Web_init {f : Addr} {fd : FuncData} (F : Fun K "__init__" "Web.__init__" s_Web_init f fd) (T : Txt mg) (C : CT K A) (C_as_known : C8.Cal P w K mg base 2 "_as_known" (sp_as_known K A) []) (C_grouped : C8.Cal P w K mg base 1 "_grouped" (sp_grouped K A) []) : FnOk P w K mg base CX0 3 f fd ["self", "pages", "pointers"] (sp_Web_init K A) :=
  F.ok sc_Web_init (fun vs H Q E h => ln_Web_init h) (fun cdv Ar outer s H vs Q E hr h => ⟨t_Web_init K A, (pss_cons (ps_fld (pv 0) (pv 1) rfl)
  (pss_cons (ps_fld (pv 0) (C8.pe_c C_as_known hr (by decide) (by rfl) (pa_cons (pv 1) (pa_cons (pv 2) pa_nil))) rfl)
  (pss_cons (ps_fld (pv 0) (pe_callB cr_sortedPO (by rfl) T.b_sorted (by decide +kernel) (pa_cons (pe_callTy (call_list_dT rfl) (by rfl) T.b_list (by decide +kernel) (pa_cons (pe_fld (pv 0) rfl) pa_nil)) pa_nil)) rfl)
  (pss_cons (ps_fld (pv 0) (C8.pe_c C_grouped hr (by decide) (by rfl) (pa_cons (pv 1) (pa_cons (pe_fld (pv 0) rfl) pa_nil))) rfl)
  (pss_one (ps_fld (pv 0) (C8.pe_c C_grouped hr (by decide) (by rfl) (pa_cons (pv 1) (pa_cons (pe_lc (own := [("holder", 3), ("target", 4)]) (g := (gTup K 2 (gCons (gName 3) (gCons (gName 4) gNil)))) (tt := tYes) rfl sc_Web_init.nd (pi_list (pe_fld (pv 0) rfl)) (blkOk_by (own := [("holder", 3), ("target", 4)]) (N := ["self", "pages", "pointers", "holder", "target"]) (sc := defScope s_Web_init) (by decide +kernel)) (fun _ _ _ _ _ => (pg_tup rfl (pgs_cons (pg_name (i := 3) sc_Web_init.nd rfl (by first | exact Or.inl rfl | exact Or.inr rfl)) (pgs_cons (pg_name (i := 4) sc_Web_init.nd rfl (by first | exact Or.inl rfl | exact Or.inr rfl)) pgs_nil)))) (fun _ _ _ _ _ => pts_nil) (fun _ _ _ _ _ => (pe_tup (pa_cons (pv 4) (pa_cons (pv 3) pa_nil))))) pa_nil))) rfl)))))), rd_Web_init C h⟩)
theorem bi_Web_init {f : Addr} {fd : FuncData} (F : Fun K "__init__" "Web.__init__" s_Web_init f fd) : Binds K fd ["self", "pages", "pointers"] [] := F.binds fun _ _ _ _ _ _ us hl => match us, hl with | [_, _, _], _ => rfl
abbrev s_Web_arrows : Stmt := inClass (topS 9) 6
theorem sc_Web_arrows : FnScope ["self"] ["self"] (defScope s_Web_arrows) := ⟨rfl, rfl, rfl, by decide +kernel, rfl, by decide +kernel, by decide +kernel⟩
theorem ln_Web_arrows {vs : List V} {H : Hp} {Q : VK} {E : XK} (h : sp_Web_arrows K A vs H Q E) : vs.length = 1 := by
  first | (obtain ⟨_, rfl, _⟩ := h; rfl) | (obtain ⟨_, _, rfl, _⟩ := h; rfl) | (obtain ⟨_, _, _, rfl, _⟩ := h; rfl) | (obtain ⟨_, _, _, _, rfl, _⟩ := h; rfl) | (obtain ⟨_, _, _, _, _, rfl, _⟩ := h; rfl) | (obtain ⟨_, _, _, _, _, _, rfl, _⟩ := h; rfl) | (obtain ⟨_, _, _, _, _, _, _, rfl, _⟩ := h; rfl) | (obtain ⟨_, _, _, _, _, _, _, _, rfl, _⟩ := h; rfl) | (obtain ⟨_, _, _, _, _, _, _, _, _, rfl, _⟩ := h; rfl) | (obtain ⟨_, _, _, _, _, _, _, _, _, _, rfl, _⟩ := h; rfl) | (obtain ⟨_, _, _, _, _, _, _, _, _, _, _, rfl, _⟩ := h; rfl) | (obtain ⟨_, _, _, _, _, _, _, _, _, _, _, _, rfl, _⟩ := h; rfl) | (obtain ⟨_, _, _, _, _, _, _, _, _, _, _, _, _, rfl, _⟩ := h; rfl) | (obtain ⟨_, _, _, _, _, _, _, _, _, _, _, _, _, _, rfl, _⟩ := h; rfl) | (obtain ⟨_, _, _, _, _, _, _, _, _, _, _, _, _, _, _, rfl, _⟩ := h; rfl)
theorem fn_Web_arrows {f : Addr} {fd : FuncData} (F : Fun K "arrows" "Web.arrows" s_Web_arrows f fd) (T : Txt mg) (C : CT K A)  : FnOk P w K mg base CX0 1 f fd ["self"] (sp_Web_arrows K A) :=
  F.ok sc_Web_arrows (fun vs H Q E h => ln_Web_arrows h) (fun cdv Ar outer s H vs Q E hr h => ⟨t_Web_arrows K A, (pss_one (ps_ret (pe_callTy call_list_of (by rfl) T.b_list (by decide +kernel) (pa_cons (pe_fld (pv 0) rfl) pa_nil)))), rd_Web_arrows C h⟩)
theorem bi_Web_arrows {f : Addr} {fd : FuncData} (F : Fun K "arrows" "Web.arrows" s_Web_arrows f fd) : Binds K fd ["self"] [] := F.binds fun _ _ _ _ _ _ us hl => match us, hl with | [_], _ => rfl
abbrev s_Standing_init : Stmt := inClass (topS 13) 0
theorem sc_Standing_init : FnScope ["self", "web", "lines", "blank", "page", "number"] ["self", "web", "lines", "blank"] (defScope s_Standing_init) := ⟨rfl, rfl, rfl, by decide +kernel, rfl, by decide +kernel, by decide +kernel⟩
theorem ln_Standing_init {vs : List V} {H : Hp} {Q : VK} {E : XK} (h : sp_Standing_init K A vs H Q E) : vs.length = 4 := by
  first | (obtain ⟨_, rfl, _⟩ := h; rfl) | (obtain ⟨_, _, rfl, _⟩ := h; rfl) | (obtain ⟨_, _, _, rfl, _⟩ := h; rfl) | (obtain ⟨_, _, _, _, rfl, _⟩ := h; rfl) | (obtain ⟨_, _, _, _, _, rfl, _⟩ := h; rfl) | (obtain ⟨_, _, _, _, _, _, rfl, _⟩ := h; rfl) | (obtain ⟨_, _, _, _, _, _, _, rfl, _⟩ := h; rfl) | (obtain ⟨_, _, _, _, _, _, _, _, rfl, _⟩ := h; rfl) | (obtain ⟨_, _, _, _, _, _, _, _, _, rfl, _⟩ := h; rfl) | (obtain ⟨_, _, _, _, _, _, _, _, _, _, rfl, _⟩ := h; rfl) | (obtain ⟨_, _, _, _, _, _, _, _, _, _, _, rfl, _⟩ := h; rfl) | (obtain ⟨_, _, _, _, _, _, _, _, _, _, _, _, rfl, _⟩ := h; rfl) | (obtain ⟨_, _, _, _, _, _, _, _, _, _, _, _, _, rfl, _⟩ := h; rfl) | (obtain ⟨_, _, _, _, _, _, _, _, _, _, _, _, _, _, rfl, _⟩ := h; rfl) | (obtain ⟨_, _, _, _, _, _, _, _, _, _, _, _, _, _, _, rfl, _⟩ := h; rfl)
theorem fn_Standing_init {f : Addr} {fd : FuncData} (F : Fun K "__init__" "Standing.__init__" s_Standing_init f fd) (T : Txt mg) (C : CT K A)  : FnOk P w K mg base CX0 1 f fd ["self", "web", "lines", "blank"] (sp_Standing_init K A) :=
  F.ok sc_Standing_init (fun vs H Q E h => ln_Standing_init h) (fun cdv Ar outer s H vs Q E hr h => ⟨t_Standing_init K A, (pss_cons (ps_if (pt_cmpR op_ne (pe_callB call_len_seq (by rfl) T.b_len (by decide +kernel) (pa_cons (pv 3) pa_nil)) (pe_fld (pv 1) rfl) (nomark _)) (pss_one ps_never) pss_nil)
  (pss_cons (ps_for PassesOwn.never rfl (pi_enum (by rfl) T.b_enumerate (pa_cons (pv 3) pa_nil)) (pg_tup rfl (pgs_cons (pg_name (i := 4) sc_Standing_init.nd rfl (by first | exact Or.inl rfl | exact Or.inr rfl)) (pgs_cons (pg_name (i := 5) sc_Standing_init.nd rfl (by first | exact Or.inl rfl | exact Or.inr rfl)) pgs_nil)))
  (pss_one (ps_if (pt_not (pt_chain op_le op_le pe_int (pv 5) (pv 2))) (pss_one ps_never) pss_nil)))
  (pss_cons (ps_fld (pv 0) (pv 1) rfl)
  (pss_cons (ps_fld (pv 0) (pv 2) rfl)
  (pss_one (ps_fld (pv 0) (pe_callTy call_list_of (by rfl) T.b_list (by decide +kernel) (pa_cons (pv 3) pa_nil)) rfl)))))), rd_Standing_init C h⟩)
theorem bi_Standing_init {f : Addr} {fd : FuncData} (F : Fun K "__init__" "Standing.__init__" s_Standing_init f fd) : Binds K fd ["self", "web", "lines", "blank"] [] := F.binds fun _ _ _ _ _ _ us hl => match us, hl with | [_, _, _, _], _ => rfl
abbrev s_Standing_blanks : Stmt := inClass (topS 13) 3
theorem sc_Standing_blanks : FnScope ["self"] ["self"] (defScope s_Standing_blanks) := ⟨rfl, rfl, rfl, by decide +kernel, rfl, by decide +kernel, by decide +kernel⟩
theorem ln_Standing_blanks {vs : List V} {H : Hp} {Q : VK} {E : XK} (h : sp_Standing_blanks K A vs H Q E) : vs.length = 1 := by
  first | (obtain ⟨_, rfl, _⟩ := h; rfl) | (obtain ⟨_, _, rfl, _⟩ := h; rfl) | (obtain ⟨_, _, _, rfl, _⟩ := h; rfl) | (obtain ⟨_, _, _, _, rfl, _⟩ := h; rfl) | (obtain ⟨_, _, _, _, _, rfl, _⟩ := h; rfl) | (obtain ⟨_, _, _, _, _, _, rfl, _⟩ := h; rfl) | (obtain ⟨_, _, _, _, _, _, _, rfl, _⟩ := h; rfl) | (obtain ⟨_, _, _, _, _, _, _, _, rfl, _⟩ := h; rfl) | (obtain ⟨_, _, _, _, _, _, _, _, _, rfl, _⟩ := h; rfl) | (obtain ⟨_, _, _, _, _, _, _, _, _, _, rfl, _⟩ := h; rfl) | (obtain ⟨_, _, _, _, _, _, _, _, _, _, _, rfl, _⟩ := h; rfl) | (obtain ⟨_, _, _, _, _, _, _, _, _, _, _, _, rfl, _⟩ := h; rfl) | (obtain ⟨_, _, _, _, _, _, _, _, _, _, _, _, _, rfl, _⟩ := h; rfl) | (obtain ⟨_, _, _, _, _, _, _, _, _, _, _, _, _, _, rfl, _⟩ := h; rfl) | (obtain ⟨_, _, _, _, _, _, _, _, _, _, _, _, _, _, _, rfl, _⟩ := h; rfl)
theorem fn_Standing_blanks {f : Addr} {fd : FuncData} (F : Fun K "blanks" "Standing.blanks" s_Standing_blanks f fd) (T : Txt mg) (C : CT K A)  : FnOk P w K mg base CX0 1 f fd ["self"] (sp_Standing_blanks K A) :=
  F.ok sc_Standing_blanks (fun vs H Q E h => ln_Standing_blanks h) (fun cdv Ar outer s H vs Q E hr h => ⟨t_Standing_blanks K A, (pss_one (ps_ret (pe_callTy call_list_of (by rfl) T.b_list (by decide +kernel) (pa_cons (pe_fld (pv 0) rfl) pa_nil)))), rd_Standing_blanks C h⟩)
theorem bi_Standing_blanks {f : Addr} {fd : FuncData} (F : Fun K "blanks" "Standing.blanks" s_Standing_blanks f fd) : Binds K fd ["self"] [] := F.binds fun _ _ _ _ _ _ us hl => match us, hl with | [_], _ => rfl
abbrev s_is_dealing : Stmt := topS 11
theorem sc_is_dealing : FnScope ["standing", "owners", "arrows", "left", "pointer", "owner"] ["standing", "owners"] (defScope s_is_dealing) := ⟨rfl, rfl, rfl, by decide +kernel, rfl, by decide +kernel, by decide +kernel⟩
theorem ln_is_dealing {vs : List V} {H : Hp} {Q : VK} {E : XK} (h : sp_is_dealing K A vs H Q E) : vs.length = 2 := by
  first | (obtain ⟨_, rfl, _⟩ := h; rfl) | (obtain ⟨_, _, rfl, _⟩ := h; rfl) | (obtain ⟨_, _, _, rfl, _⟩ := h; rfl) | (obtain ⟨_, _, _, _, rfl, _⟩ := h; rfl) | (obtain ⟨_, _, _, _, _, rfl, _⟩ := h; rfl) | (obtain ⟨_, _, _, _, _, _, rfl, _⟩ := h; rfl) | (obtain ⟨_, _, _, _, _, _, _, rfl, _⟩ := h; rfl) | (obtain ⟨_, _, _, _, _, _, _, _, rfl, _⟩ := h; rfl) | (obtain ⟨_, _, _, _, _, _, _, _, _, rfl, _⟩ := h; rfl) | (obtain ⟨_, _, _, _, _, _, _, _, _, _, rfl, _⟩ := h; rfl) | (obtain ⟨_, _, _, _, _, _, _, _, _, _, _, rfl, _⟩ := h; rfl) | (obtain ⟨_, _, _, _, _, _, _, _, _, _, _, _, rfl, _⟩ := h; rfl) | (obtain ⟨_, _, _, _, _, _, _, _, _, _, _, _, _, rfl, _⟩ := h; rfl) | (obtain ⟨_, _, _, _, _, _, _, _, _, _, _, _, _, _, rfl, _⟩ := h; rfl) | (obtain ⟨_, _, _, _, _, _, _, _, _, _, _, _, _, _, _, rfl, _⟩ := h; rfl)
theorem fn_is_dealing {f : Addr} {fd : FuncData} (F : Fun K "is_dealing" "is_dealing" s_is_dealing f fd) (T : Txt mg) (C : CT K A) (C_Standing_blanks : C8.Met P w K mg base 1 A.Standing "blanks" (sp_Standing_blanks K A) []) (C_Web_arrows : C8.Met P w K mg base 1 A.Web "arrows" (sp_Web_arrows K A) []) : FnOk P w K mg base CX0 2 f fd ["standing", "owners"] (sp_is_dealing K A) :=
  F.ok sc_is_dealing (fun vs H Q E h => ln_is_dealing h) (fun cdv Ar outer s H vs Q E hr h => ⟨t_is_dealing K A, (pss_cons (ps_set (i := 2) sc_is_dealing.nd rfl (by first | exact Or.inl rfl | exact Or.inr rfl) (C8.pe_mt0 C_Web_arrows hr (by decide) (pe_fld (pv 0) rfl)))
  (pss_cons (ps_if (pt_cmpR op_ne (pe_callB call_len_seq (by rfl) T.b_len (by decide +kernel) (pa_cons (pv 1) pa_nil)) (pe_callB call_len_seq (by rfl) T.b_len (by decide +kernel) (pa_cons (pv 2) pa_nil)) (nomark _)) (pss_one (ps_ret pe_bl)) pss_nil)
  (pss_cons (ps_set (i := 3) sc_is_dealing.nd rfl (by first | exact Or.inl rfl | exact Or.inr rfl) (C8.pe_mt0 C_Standing_blanks hr (by decide) (pv 0)))
  (pss_cons (ps_for PassesOwn.never rfl (pi_zip (by rfl) T.b_zip (pa_cons (pv 2) (pa_cons (pv 1) pa_nil))) (pg_tup rfl (pgs_cons (pg_name (i := 4) sc_is_dealing.nd rfl (by first | exact Or.inl rfl | exact Or.inr rfl)) (pgs_cons (pg_name (i := 5) sc_is_dealing.nd rfl (by first | exact Or.inl rfl | exact Or.inr rfl)) pgs_nil)))
  (pss_cons (ps_if (PW.pt (pw_or (pt_cmpR op_notIn_seq (pv 5) (pv 4) (by rfl)) (pw_or1 (pt_cmpR op_eq (pe_ix ix_list (pv 3) (pv 5) (fun _ _ => rfl)) pe_int (nomark _))))) (pss_one (ps_ret pe_bl)) pss_nil)
  (pss_one (ps_augS (pv 3) (pv 5) pget_list pe_int ip_sub set_list))))
  (pss_one (ps_ret pe_bl)))))), rd_is_dealing C h⟩)
theorem bi_is_dealing {f : Addr} {fd : FuncData} (F : Fun K "is_dealing" "is_dealing" s_is_dealing f fd) : Binds K fd ["standing", "owners"] [] := F.binds fun _ _ _ _ _ _ us hl => match us, hl with | [_, _], _ => rfl
abbrev s_law_asked : Stmt := topS 31
theorem sc_law_asked : FnScope ["standing", "pairs", "blank", "owners", "kept", "told"] ["standing", "pairs", "blank", "owners"] (defScope s_law_asked) := ⟨rfl, rfl, rfl, by decide +kernel, rfl, by decide +kernel, by decide +kernel⟩
theorem ln_law_asked {vs : List V} {H : Hp} {Q : VK} {E : XK} (h : sp_law_asked K A vs H Q E) : vs.length = 4 := by
  first | (obtain ⟨_, rfl, _⟩ := h; rfl) | (obtain ⟨_, _, rfl, _⟩ := h; rfl) | (obtain ⟨_, _, _, rfl, _⟩ := h; rfl) | (obtain ⟨_, _, _, _, rfl, _⟩ := h; rfl) | (obtain ⟨_, _, _, _, _, rfl, _⟩ := h; rfl) | (obtain ⟨_, _, _, _, _, _, rfl, _⟩ := h; rfl) | (obtain ⟨_, _, _, _, _, _, _, rfl, _⟩ := h; rfl) | (obtain ⟨_, _, _, _, _, _, _, _, rfl, _⟩ := h; rfl) | (obtain ⟨_, _, _, _, _, _, _, _, _, rfl, _⟩ := h; rfl) | (obtain ⟨_, _, _, _, _, _, _, _, _, _, rfl, _⟩ := h; rfl) | (obtain ⟨_, _, _, _, _, _, _, _, _, _, _, rfl, _⟩ := h; rfl) | (obtain ⟨_, _, _, _, _, _, _, _, _, _, _, _, rfl, _⟩ := h; rfl) | (obtain ⟨_, _, _, _, _, _, _, _, _, _, _, _, _, rfl, _⟩ := h; rfl) | (obtain ⟨_, _, _, _, _, _, _, _, _, _, _, _, _, _, rfl, _⟩ := h; rfl) | (obtain ⟨_, _, _, _, _, _, _, _, _, _, _, _, _, _, _, rfl, _⟩ := h; rfl)
theorem fn_law_asked {f : Addr} {fd : FuncData} (F : Fun K "_law_asked" "_law_asked" s_law_asked f fd) (T : Txt mg) (C : CT K A) (C_law_due : C8.Cal P w K mg base 1 "_law_due" (sp_law_due K A) []) (C_is_dealing : C8.Cal P w K mg base 2 "is_dealing" (sp_is_dealing K A) []) : FnOk P w K mg base CX0 3 f fd ["standing", "pairs", "blank", "owners"] (sp_law_asked K A) :=
  F.ok sc_law_asked (fun vs H Q E h => ln_law_asked h) (fun cdv Ar outer s H vs Q E hr h => ⟨t_law_asked K A, (pss_cons (ps_set (i := 4) sc_law_asked.nd rfl (by first | exact Or.inl rfl | exact Or.inr rfl) (pe_callTy call_list_of (by rfl) T.b_list (by decide +kernel) (pa_cons (pv 3) pa_nil)))
  (pss_cons (ps_set (i := 5) sc_law_asked.nd rfl (by first | exact Or.inl rfl | exact Or.inr rfl) (C8.pe_c C_is_dealing hr (by decide) (by rfl) (pa_cons (pv 0) (pa_cons (pv 4) pa_nil))))
  (pss_cons (ps_if (PW.pt (pw_or (pt_cmpR (op_neD hr.units) (pv 4) (pv 3) (nomark _)) (pw_or1 (pt_not (pt_val (pe_callB call_isi (by rfl) T.b_isinstance (by decide +kernel) (pa_cons (pv 5) (pa_cons (pe_bltn (v := .ty "bool") (by rfl) T.b_bool (by decide +kernel) rfl) pa_nil))) (by intro _; rfl)))))) (pss_one (ps_ret pe_bl)) pss_nil)
  (pss_one (ps_ret (pe_cmpR op_eq (pv 5) (C8.pe_c C_law_due hr (by decide) (by rfl) (pa_cons (pv 1) (pa_cons (pv 2) (pa_cons (pv 3) pa_nil)))) (nomark _))))))), rd_law_asked C h⟩)
theorem bi_law_asked {f : Addr} {fd : FuncData} (F : Fun K "_law_asked" "_law_asked" s_law_asked f fd) : Binds K fd ["standing", "pairs", "blank", "owners"] [] := F.binds fun _ _ _ _ _ _ us hl => match us, hl with | [_, _, _, _], _ => rfl
abbrev s_law : Stmt := topS 32
theorem sc_law : FnScope ["script", "world", "many", "pairs", "owners", "source", "table", "lines", "blank", "near", "bent", "k", "web", "first", "second", "asked"] ["script"] (defScope s_law) := ⟨rfl, rfl, rfl, by decide +kernel, rfl, by decide +kernel, by decide +kernel⟩
theorem ln_law {vs : List V} {H : Hp} {Q : VK} {E : XK} (h : sp_law K A vs H Q E) : vs.length = 1 := by
  first | (obtain ⟨_, rfl, _⟩ := h; rfl) | (obtain ⟨_, _, rfl, _⟩ := h; rfl) | (obtain ⟨_, _, _, rfl, _⟩ := h; rfl) | (obtain ⟨_, _, _, _, rfl, _⟩ := h; rfl) | (obtain ⟨_, _, _, _, _, rfl, _⟩ := h; rfl) | (obtain ⟨_, _, _, _, _, _, rfl, _⟩ := h; rfl) | (obtain ⟨_, _, _, _, _, _, _, rfl, _⟩ := h; rfl) | (obtain ⟨_, _, _, _, _, _, _, _, rfl, _⟩ := h; rfl) | (obtain ⟨_, _, _, _, _, _, _, _, _, rfl, _⟩ := h; rfl) | (obtain ⟨_, _, _, _, _, _, _, _, _, _, rfl, _⟩ := h; rfl) | (obtain ⟨_, _, _, _, _, _, _, _, _, _, _, rfl, _⟩ := h; rfl) | (obtain ⟨_, _, _, _, _, _, _, _, _, _, _, _, rfl, _⟩ := h; rfl) | (obtain ⟨_, _, _, _, _, _, _, _, _, _, _, _, _, rfl, _⟩ := h; rfl) | (obtain ⟨_, _, _, _, _, _, _, _, _, _, _, _, _, _, rfl, _⟩ := h; rfl) | (obtain ⟨_, _, _, _, _, _, _, _, _, _, _, _, _, _, _, rfl, _⟩ := h; rfl)
theorem fn_law {f : Addr} {fd : FuncData} (F : Fun K "law" "law" s_law f fd) (T : Txt mg) (C : CT K A) (C_Standing_init : C8.Mak P w K mg base 1 "Standing" A.Standing (sp_Standing_init K A) []) (C_Standing_blanks : C8.Met P w K mg base 1 A.Standing "blanks" (sp_Standing_blanks K A) []) (C_Web_init : C8.Mak P w K mg base 3 "Web" A.Web (sp_Web_init K A) []) (C_Web_arrows : C8.Met P w K mg base 1 A.Web "arrows" (sp_Web_arrows K A) []) (C_law_asked : C8.Cal P w K mg base 3 "_law_asked" (sp_law_asked K A) []) (C_law_bent : C8.Cal P w K mg base 2 "_law_bent" (sp_law_bent K A) []) (C_law_cell : C8.Cal P w K mg base 1 "_law_cell" (sp_law_cell K A) []) (C_law_near : C8.Cal P w K mg base 2 "_law_near" (sp_law_near K A) []) (C_law_owners : C8.Cal P w K mg base 2 "_law_owners" (sp_law_owners K A) []) (C_law_source : C8.Cal P w K mg base 1 "_law_source" (sp_law_source K A) []) (C_law_table : C8.Cal P w K mg base 3 "_law_table" (sp_law_table K A) []) (C_law_take : C8.Cal P w K mg base 1 "_law_take" (sp_law_take K A) []) (C_law_world : C8.Cal P w K mg base 3 "_law_world" (sp_law_world K A) []) : FnOk P w K mg base CX0 5 f fd ["script"] (sp_law K A) :=
  F.ok sc_law (fun vs H Q E h => ln_law h) (fun cdv Ar outer s H vs Q E hr h => ⟨t_law K A, (pss_cons (ps_set (i := 1) sc_law.nd rfl (by first | exact Or.inl rfl | exact Or.inr rfl) (C8.pe_c C_law_world hr (by decide) (by rfl) (pa_cons (pv 0) (pa_cons pe_int pa_nil))))
  (pss_cons (ps_set (i := 2) sc_law.nd rfl (by first | exact Or.inl rfl | exact Or.inr rfl) (pe_ix ix_tup (pv 1) pe_int (fun _ _ => rfl)))
  (pss_cons (ps_set (i := 3) sc_law.nd rfl (by first | exact Or.inl rfl | exact Or.inr rfl) (pe_callB cr_sortedPO (by rfl) T.b_sorted (by decide +kernel) (pa_cons (pe_ix ix_tup (pv 1) pe_int (fun _ _ => rfl)) pa_nil)))
  (pss_cons (ps_set (i := 4) sc_law.nd rfl (by first | exact Or.inl rfl | exact Or.inr rfl) (C8.pe_c C_law_owners hr (by decide) (by rfl) (pa_cons (C8.pe_c C_law_source hr (by decide) (by rfl) (pa_cons (C8.pe_c C_law_cell hr (by decide) (by rfl) (pa_cons (pv 0) (pa_cons pe_int pa_nil))) pa_nil)) (pa_cons (pv 3) pa_nil))))
  (pss_cons (ps_set (i := 5) sc_law.nd rfl (by first | exact Or.inl rfl | exact Or.inr rfl) (C8.pe_c C_law_source hr (by decide) (by rfl) (pa_cons (C8.pe_c C_law_cell hr (by decide) (by rfl) (pa_cons (pv 0) (pa_cons pe_int pa_nil))) pa_nil)))
  (pss_cons (ps_set (i := 6) sc_law.nd rfl (by first | exact Or.inl rfl | exact Or.inr rfl) (C8.pe_c C_law_table hr (by decide) (by rfl) (pa_cons (pv 5) (pa_cons (pv 2) (pa_cons (pv 4) pa_nil)))))
  (pss_cons (ps_set (i := 7) sc_law.nd rfl (by first | exact Or.inl rfl | exact Or.inr rfl) (pe_ix ix_tup (pv 6) pe_int (fun _ _ => rfl)))
  (pss_cons (ps_set (i := 8) sc_law.nd rfl (by first | exact Or.inl rfl | exact Or.inr rfl) (pe_ix ix_tup (pv 6) pe_int (fun _ _ => rfl)))
  (pss_cons (ps_set (i := 9) sc_law.nd rfl (by first | exact Or.inl rfl | exact Or.inr rfl) (C8.pe_c C_law_near hr (by decide) (by rfl) (pa_cons (pv 5) (pa_cons (pv 7) (pa_cons (pv 8) pa_nil)))))
  (pss_cons (ps_set (i := 5) sc_law.nd rfl (by first | exact Or.inl rfl | exact Or.inr rfl) (C8.pe_c C_law_source hr (by decide) (by rfl) (pa_cons (C8.pe_c C_law_cell hr (by decide) (by rfl) (pa_cons (pv 0) (pa_cons pe_int pa_nil))) pa_nil)))
  (pss_cons (ps_set (i := 10) sc_law.nd rfl (by first | exact Or.inl rfl | exact Or.inr rfl) (pe_callTy call_list_of (by rfl) T.b_list (by decide +kernel) (pa_cons (pv 4) pa_nil)))
  (pss_cons (ps_for PassesOwn.never rfl (pi_range1 (by rfl) T.b_range (pa_cons (pe_op op_add pe_int (C8.pe_c C_law_take hr (by decide) (by rfl) (pa_cons (pv 5) (pa_cons pe_int pa_nil)))) pa_nil)) (pg_name (i := 11) sc_law.nd rfl (by first | exact Or.inl rfl | exact Or.inr rfl))
  (pss_one (ps_set (i := 10) sc_law.nd rfl (by first | exact Or.inl rfl | exact Or.inr rfl) (C8.pe_c C_law_bent hr (by decide) (by rfl) (pa_cons (pv 5) (pa_cons (pv 10) (pa_cons (pv 3) (pa_cons (pv 2) pa_nil))))))))
  (pss_cons (ps_set (i := 12) sc_law.nd rfl (by first | exact Or.inl rfl | exact Or.inr rfl) (C8.pe_mk C_Web_init hr (by decide) (by rfl) (pa_cons (pv 2) (pa_cons (pe_callTy call_list_of (by rfl) T.b_list (by decide +kernel) (pa_cons (pe_ix ix_tup (pv 1) pe_int (fun _ _ => rfl)) pa_nil)) pa_nil))))
  (pss_cons (ps_set (i := 13) sc_law.nd rfl (by first | exact Or.inl rfl | exact Or.inr rfl) (C8.pe_mk C_Standing_init hr (by decide) (by rfl) (pa_cons (pv 12) (pa_cons (pv 7) (pa_cons (pe_callTy call_list_of (by rfl) T.b_list (by decide +kernel) (pa_cons (pv 8) pa_nil)) pa_nil)))))
  (pss_cons (ps_set (i := 14) sc_law.nd rfl (by first | exact Or.inl rfl | exact Or.inr rfl) (C8.pe_mk C_Standing_init hr (by decide) (by rfl) (pa_cons (pv 12) (pa_cons (pv 7) (pa_cons (pe_callTy call_list_of (by rfl) T.b_list (by decide +kernel) (pa_cons (pv 9) pa_nil)) pa_nil)))))
  (pss_cons (ps_for PassesOwn.never rfl (pi_list (pe_lst (pa_cons (pv 4) (pa_cons (pv 10) (pa_cons (pv 4) pa_nil))))) (pg_name (i := 15) sc_law.nd rfl (by first | exact Or.inl rfl | exact Or.inr rfl))
  (pss_one (ps_if (PW.pt (pw_or (pt_not (pt_val (C8.pe_c C_law_asked hr (by decide) (by rfl) (pa_cons (pv 13) (pa_cons (pv 3) (pa_cons (pv 8) (pa_cons (pv 15) pa_nil))))) (by intro _; rfl))) (pw_or1 (pt_not (pt_val (C8.pe_c C_law_asked hr (by decide) (by rfl) (pa_cons (pv 14) (pa_cons (pv 3) (pa_cons (pv 9) (pa_cons (pv 15) pa_nil))))) (by intro _; rfl)))))) (pss_one (ps_ret pe_bl)) pss_nil)))
  (pss_one (ps_ret (pe_and (pe_cmpR (op_eqD hr.units) (C8.pe_mt0 C_Standing_blanks hr (by decide) (pv 13)) (pv 8) (nomark _)) (pe_and (pe_cmpR (op_eqD hr.units) (C8.pe_mt0 C_Standing_blanks hr (by decide) (pv 14)) (pv 9) (nomark _)) (pe_one (pe_cmpR (op_eqD hr.units) (C8.pe_mt0 C_Web_arrows hr (by decide) (pv 12)) (pv 3) (nomark _))))))))))))))))))))))), rd_law C h⟩)
theorem bi_law {f : Addr} {fd : FuncData} (F : Fun K "law" "law" s_law f fd) : Binds K fd ["script"] [] := F.binds fun _ _ _ _ _ _ us hl => match us, hl with | [_], _ => rfl

/-! ### the head: facts by names, the run -/
def d_law_cell : He.DefD := ⟨("_law_cell", none), "_law_cell", "_law_cell", defArgs s_law_cell, defBody s_law_cell, defScope s_law_cell, [], []⟩
def d_law_source : He.DefD := ⟨("_law_source", none), "_law_source", "_law_source", defArgs s_law_source, defBody s_law_source, defScope s_law_source, [], []⟩
def d_law_take : He.DefD := ⟨("_law_take", none), "_law_take", "_law_take", defArgs s_law_take, defBody s_law_take, defScope s_law_take, [], []⟩
def d_law_parents : He.DefD := ⟨("_law_parents", none), "_law_parents", "_law_parents", defArgs s_law_parents, defBody s_law_parents, defScope s_law_parents, [], []⟩
def d_law_pointers : He.DefD := ⟨("_law_pointers", none), "_law_pointers", "_law_pointers", defArgs s_law_pointers, defBody s_law_pointers, defScope s_law_pointers, [], []⟩
def d_law_names : He.DefD := ⟨("_law_names", none), "_law_names", "_law_names", defArgs s_law_names, defBody s_law_names, defScope s_law_names, [], []⟩
def d_law_named : He.DefD := ⟨("_law_named", none), "_law_named", "_law_named", defArgs s_law_named, defBody s_law_named, defScope s_law_named, [], []⟩
def d_law_extras : He.DefD := ⟨("_law_extras", none), "_law_extras", "_law_extras", defArgs s_law_extras, defBody s_law_extras, defScope s_law_extras, [], []⟩
def d_law_joined : He.DefD := ⟨("_law_joined", none), "_law_joined", "_law_joined", defArgs s_law_joined, defBody s_law_joined, defScope s_law_joined, [], []⟩
def d_law_world : He.DefD := ⟨("_law_world", none), "_law_world", "_law_world", defArgs s_law_world, defBody s_law_world, defScope s_law_world, [], []⟩
def d_law_lines : He.DefD := ⟨("_law_lines", none), "_law_lines", "_law_lines", defArgs s_law_lines, defBody s_law_lines, defScope s_law_lines, [], []⟩
def d_law_owners : He.DefD := ⟨("_law_owners", none), "_law_owners", "_law_owners", defArgs s_law_owners, defBody s_law_owners, defScope s_law_owners, [], []⟩
def d_law_table : He.DefD := ⟨("_law_table", none), "_law_table", "_law_table", defArgs s_law_table, defBody s_law_table, defScope s_law_table, [], []⟩
def d_law_near : He.DefD := ⟨("_law_near", none), "_law_near", "_law_near", defArgs s_law_near, defBody s_law_near, defScope s_law_near, [], []⟩
def d_law_due : He.DefD := ⟨("_law_due", none), "_law_due", "_law_due", defArgs s_law_due, defBody s_law_due, defScope s_law_due, [], []⟩
def d_law_bent : He.DefD := ⟨("_law_bent", none), "_law_bent", "_law_bent", defArgs s_law_bent, defBody s_law_bent, defScope s_law_bent, [], []⟩
def d_is_pointer : He.DefD := ⟨("_is_pointer", none), "_is_pointer", "_is_pointer", defArgs s_is_pointer, defBody s_is_pointer, defScope s_is_pointer, [], []⟩
def d_as_known : He.DefD := ⟨("_as_known", none), "_as_known", "_as_known", defArgs s_as_known, defBody s_as_known, defScope s_as_known, [], []⟩
def d_grouped : He.DefD := ⟨("_grouped", none), "_grouped", "_grouped", defArgs s_grouped, defBody s_grouped, defScope s_grouped, [], []⟩
def d_Web_init : He.DefD := ⟨("Web", some "__init__"), "__init__", "Web.__init__", defArgs s_Web_init, defBody s_Web_init, defScope s_Web_init, [], []⟩
def d_Web_arrows : He.DefD := ⟨("Web", some "arrows"), "arrows", "Web.arrows", defArgs s_Web_arrows, defBody s_Web_arrows, defScope s_Web_arrows, [], []⟩
def d_Standing_init : He.DefD := ⟨("Standing", some "__init__"), "__init__", "Standing.__init__", defArgs s_Standing_init, defBody s_Standing_init, defScope s_Standing_init, [], []⟩
def d_Standing_blanks : He.DefD := ⟨("Standing", some "blanks"), "blanks", "Standing.blanks", defArgs s_Standing_blanks, defBody s_Standing_blanks, defScope s_Standing_blanks, [], []⟩
def d_is_dealing : He.DefD := ⟨("is_dealing", none), "is_dealing", "is_dealing", defArgs s_is_dealing, defBody s_is_dealing, defScope s_is_dealing, [], []⟩
def d_law_asked : He.DefD := ⟨("_law_asked", none), "_law_asked", "_law_asked", defArgs s_law_asked, defBody s_law_asked, defScope s_law_asked, [], []⟩
def d_law : He.DefD := ⟨("law", none), "law", "law", defArgs s_law, defBody s_law, defScope s_law, [], []⟩
def fnS : List He.DefD := [d_law_cell, d_law_source, d_law_take, d_law_parents, d_law_pointers, d_law_names, d_law_named, d_law_extras, d_law_joined, d_law_world, d_law_lines, d_law_owners, d_law_table, d_law_near, d_law_due, d_law_bent, d_is_pointer, d_as_known, d_grouped, d_Web_init, d_Web_arrows, d_Standing_init, d_Standing_blanks, d_is_dealing, d_law_asked, d_law]
def fa0 : List He.Fa := [.glo "_law_cell", .glo "_law_source", .glo "_law_take", .glo "_law_parents", .glo "_law_pointers", .glo "_law_names", .glo "_law_named", .glo "_law_extras", .glo "_law_joined", .glo "_law_world", .glo "_law_lines", .glo "_law_owners", .glo "_law_table", .glo "_law_near", .glo "_law_due", .glo "_law_bent", .glo "_is_pointer", .glo "_as_known", .glo "_grouped", .mkr "Web", .meth "Web" "arrows", .mkr "Standing", .meth "Standing" "blanks", .glo "is_dealing", .glo "_law_asked", .glo "law", .glo "Standing", .cls "Standing", .noat "Standing" "_blank", .noat "Standing" "lines"]
def fa1 : List He.Fa := [.noat "Standing" "web", .glo "Web", .cls "Web", .noat "Web" "_arrows", .noat "Web" "_holders", .noat "Web" "_known", .noat "Web" "_targets", .noat "Web" "pages", .free "abs", .free "bool", .free "enumerate", .free "int", .free "isinstance", .free "len", .free "list", .free "max", .free "min", .free "range", .free "sorted", .free "sum", .free "zip"]
def faS : List He.Fa := fa0 ++ fa1
def looseS : List PySem.Str := (["_wall", "OnecopyError", "InvalidPointer", "InvalidStanding", "_is_pointer", "_as_known", "_grouped", "Web", "is_dealing", "Standing", "_law_cell", "_law_source", "_law_take", "_law_parents", "_law_pointers", "_law_names", "_law_named", "_law_extras", "_law_joined", "_law_world", "_law_lines", "_law_owners", "_law_table", "_law_near", "_law_due", "_law_bent", "_law_asked"] : List PySem.Str)
abbrev RowS : PySem.W.OpenRow := PySem.W.OpenLaw.row PySem.Challenge.rw_onecopy_k04_dealing_judge
abbrev hkS : PySem.W.Hook := He.hookD 4 faS fnS
def obS (s : PySem.W.SharedT) : He.AlD := He.obsDG 4 faS fnS (HandSHeadRun.getT s)
theorem obS_eq (s : PySem.W.SharedT) : obS s = hkS.obs s.abs := He.obsDG_eq (HandSHeadRun.getT_eq s)
theorem runS (w : World) : HandSHeadRun.RunEq RowS (PySem.W.view RowS.prog [32]) hkS obS 6000 looseS w := by
  intro os
  kernel_rfl
theorem factsS {P : Program} {w : World} {K : PySem.W.Frag} {h : Heap} {mg : Str → Option Value} {fa : Addr} (X : K.In h) (GN : h.Ns mainGlobals mg) (hfa : mg ("law" : Str) = some (.ref fa)) (c : He.SaysD faS fnS K) :
    ∃ fd : FuncData, (∀ (s : Shared) (v : Value), BindsTo s fd ⟨[v], []⟩ [("script", v)]) ∧ ∀ base : Heap, K.In base → base.Ns mainGlobals mg → FnOk P w K mg base CX0 5 fa fd ["script"] (sp_law K ⟨He.ga K "Standing", He.ga K "Web"⟩) := by
  have T : Txt mg := ⟨He.free_ok X GN (c.fact 38 (f := .free "abs") rfl), He.free_ok X GN (c.fact 39 (f := .free "bool") rfl), He.free_ok X GN (c.fact 40 (f := .free "enumerate") rfl), He.free_ok X GN (c.fact 41 (f := .free "int") rfl), He.free_ok X GN (c.fact 42 (f := .free "isinstance") rfl), He.free_ok X GN (c.fact 43 (f := .free "len") rfl), He.free_ok X GN (c.fact 44 (f := .free "list") rfl), He.free_ok X GN (c.fact 45 (f := .free "max") rfl), He.free_ok X GN (c.fact 46 (f := .free "min") rfl), He.free_ok X GN (c.fact 47 (f := .free "range") rfl), He.free_ok X GN (c.fact 48 (f := .free "sorted") rfl), He.free_ok X GN (c.fact 49 (f := .free "sum") rfl), He.free_ok X GN (c.fact 50 (f := .free "zip") rfl)⟩
  have C : CT K ⟨He.ga K "Standing", He.ga K "Web"⟩ := ⟨He.cls_ok (c.fact 27 (f := .cls "Standing") rfl), He.noat_ok (c.fact 28 (f := .noat "Standing" "_blank") rfl), He.noat_ok (c.fact 29 (f := .noat "Standing" "lines") rfl), He.noat_ok (c.fact 30 (f := .noat "Standing" "web") rfl), He.cls_ok (c.fact 32 (f := .cls "Web") rfl), He.noat_ok (c.fact 33 (f := .noat "Web" "_arrows") rfl), He.noat_ok (c.fact 34 (f := .noat "Web" "_holders") rfl), He.noat_ok (c.fact 35 (f := .noat "Web" "_known") rfl), He.noat_ok (c.fact 36 (f := .noat "Web" "_targets") rfl), He.noat_ok (c.fact 37 (f := .noat "Web" "pages") rfl)⟩
  have e := hfa.symm.trans (He.glo_ok X GN (c.fact 25 (f := .glo "law") rfl))
  cases e
  obtain ⟨fd0, D0⟩ := c.def_ 0 (d := d_law_cell) rfl
  have F0 := He5.fun_of (st := s_law_cell) D0
  obtain ⟨fd1, D1⟩ := c.def_ 1 (d := d_law_source) rfl
  have F1 := He5.fun_of (st := s_law_source) D1
  obtain ⟨fd2, D2⟩ := c.def_ 2 (d := d_law_take) rfl
  have F2 := He5.fun_of (st := s_law_take) D2
  obtain ⟨fd3, D3⟩ := c.def_ 3 (d := d_law_parents) rfl
  have F3 := He5.fun_of (st := s_law_parents) D3
  obtain ⟨fd4, D4⟩ := c.def_ 4 (d := d_law_pointers) rfl
  have F4 := He5.fun_of (st := s_law_pointers) D4
  obtain ⟨fd5, D5⟩ := c.def_ 5 (d := d_law_names) rfl
  have F5 := He5.fun_of (st := s_law_names) D5
  obtain ⟨fd6, D6⟩ := c.def_ 6 (d := d_law_named) rfl
  have F6 := He5.fun_of (st := s_law_named) D6
  obtain ⟨fd7, D7⟩ := c.def_ 7 (d := d_law_extras) rfl
  have F7 := He5.fun_of (st := s_law_extras) D7
  obtain ⟨fd8, D8⟩ := c.def_ 8 (d := d_law_joined) rfl
  have F8 := He5.fun_of (st := s_law_joined) D8
  obtain ⟨fd9, D9⟩ := c.def_ 9 (d := d_law_world) rfl
  have F9 := He5.fun_of (st := s_law_world) D9
  obtain ⟨fd10, D10⟩ := c.def_ 10 (d := d_law_lines) rfl
  have F10 := He5.fun_of (st := s_law_lines) D10
  obtain ⟨fd11, D11⟩ := c.def_ 11 (d := d_law_owners) rfl
  have F11 := He5.fun_of (st := s_law_owners) D11
  obtain ⟨fd12, D12⟩ := c.def_ 12 (d := d_law_table) rfl
  have F12 := He5.fun_of (st := s_law_table) D12
  obtain ⟨fd13, D13⟩ := c.def_ 13 (d := d_law_near) rfl
  have F13 := He5.fun_of (st := s_law_near) D13
  obtain ⟨fd14, D14⟩ := c.def_ 14 (d := d_law_due) rfl
  have F14 := He5.fun_of (st := s_law_due) D14
  obtain ⟨fd15, D15⟩ := c.def_ 15 (d := d_law_bent) rfl
  have F15 := He5.fun_of (st := s_law_bent) D15
  obtain ⟨fd16, D16⟩ := c.def_ 16 (d := d_is_pointer) rfl
  have F16 := He5.fun_of (st := s_is_pointer) D16
  obtain ⟨fd17, D17⟩ := c.def_ 17 (d := d_as_known) rfl
  have F17 := He5.fun_of (st := s_as_known) D17
  obtain ⟨fd18, D18⟩ := c.def_ 18 (d := d_grouped) rfl
  have F18 := He5.fun_of (st := s_grouped) D18
  obtain ⟨fd19, D19⟩ := c.def_ 19 (d := d_Web_init) rfl
  have F19 := He5.fun_of (st := s_Web_init) D19
  obtain ⟨fd20, D20⟩ := c.def_ 20 (d := d_Web_arrows) rfl
  have F20 := He5.fun_of (st := s_Web_arrows) D20
  obtain ⟨fd21, D21⟩ := c.def_ 21 (d := d_Standing_init) rfl
  have F21 := He5.fun_of (st := s_Standing_init) D21
  obtain ⟨fd22, D22⟩ := c.def_ 22 (d := d_Standing_blanks) rfl
  have F22 := He5.fun_of (st := s_Standing_blanks) D22
  obtain ⟨fd23, D23⟩ := c.def_ 23 (d := d_is_dealing) rfl
  have F23 := He5.fun_of (st := s_is_dealing) D23
  obtain ⟨fd24, D24⟩ := c.def_ 24 (d := d_law_asked) rfl
  have F24 := He5.fun_of (st := s_law_asked) D24
  obtain ⟨fd25, D25⟩ := c.def_ 25 (d := d_law) rfl
  have F25 := He5.fun_of (st := s_law) D25
  have b := FunD.bindsA (ps := ["script"]) D25 fun _ _ _ _ _ _ us hl => match us, hl with | [_], _ => rfl
  refine ⟨fd25, fun s v => b s [v] rfl, fun base _ _ => ?_⟩
  have C_law_cell : C8.Cal P w K mg base 1 "_law_cell" (sp_law_cell K ⟨He.ga K "Standing", He.ga K "Web"⟩) [] := ⟨_, _, _, [], fn_law_cell F0 T C , He.glo_ok X GN (c.fact 0 (f := .glo "_law_cell") rfl), F0.kp, bi_law_cell F0, .nil⟩
  have C_law_source : C8.Cal P w K mg base 1 "_law_source" (sp_law_source K ⟨He.ga K "Standing", He.ga K "Web"⟩) [] := ⟨_, _, _, [], fn_law_source F1 T C , He.glo_ok X GN (c.fact 1 (f := .glo "_law_source") rfl), F1.kp, bi_law_source F1, .nil⟩
  have C_law_take : C8.Cal P w K mg base 1 "_law_take" (sp_law_take K ⟨He.ga K "Standing", He.ga K "Web"⟩) [] := ⟨_, _, _, [], fn_law_take F2 T C , He.glo_ok X GN (c.fact 2 (f := .glo "_law_take") rfl), F2.kp, bi_law_take F2, .nil⟩
  have C_law_parents : C8.Cal P w K mg base 2 "_law_parents" (sp_law_parents K ⟨He.ga K "Standing", He.ga K "Web"⟩) [] := ⟨_, _, _, [], fn_law_parents F3 T C C_law_take, He.glo_ok X GN (c.fact 3 (f := .glo "_law_parents") rfl), F3.kp, bi_law_parents F3, .nil⟩
  have C_law_pointers : C8.Cal P w K mg base 2 "_law_pointers" (sp_law_pointers K ⟨He.ga K "Standing", He.ga K "Web"⟩) [] := ⟨_, _, _, [], fn_law_pointers F4 T C C_law_take, He.glo_ok X GN (c.fact 4 (f := .glo "_law_pointers") rfl), F4.kp, bi_law_pointers F4, .nil⟩
  have C_law_names : C8.Cal P w K mg base 2 "_law_names" (sp_law_names K ⟨He.ga K "Standing", He.ga K "Web"⟩) [] := ⟨_, _, _, [], fn_law_names F5 T C C_law_take, He.glo_ok X GN (c.fact 5 (f := .glo "_law_names") rfl), F5.kp, bi_law_names F5, .nil⟩
  have C_law_named : C8.Cal P w K mg base 1 "_law_named" (sp_law_named K ⟨He.ga K "Standing", He.ga K "Web"⟩) [] := ⟨_, _, _, [], fn_law_named F6 T C , He.glo_ok X GN (c.fact 6 (f := .glo "_law_named") rfl), F6.kp, bi_law_named F6, .nil⟩
  have C_law_extras : C8.Cal P w K mg base 2 "_law_extras" (sp_law_extras K ⟨He.ga K "Standing", He.ga K "Web"⟩) [] := ⟨_, _, _, [], fn_law_extras F7 T C C_law_take, He.glo_ok X GN (c.fact 7 (f := .glo "_law_extras") rfl), F7.kp, bi_law_extras F7, .nil⟩
  have C_law_joined : C8.Cal P w K mg base 1 "_law_joined" (sp_law_joined K ⟨He.ga K "Standing", He.ga K "Web"⟩) [] := ⟨_, _, _, [], fn_law_joined F8 T C , He.glo_ok X GN (c.fact 8 (f := .glo "_law_joined") rfl), F8.kp, bi_law_joined F8, .nil⟩
  have C_law_world : C8.Cal P w K mg base 3 "_law_world" (sp_law_world K ⟨He.ga K "Standing", He.ga K "Web"⟩) [] := ⟨_, _, _, [], fn_law_world F9 T C C_law_cell C_law_extras C_law_joined C_law_named C_law_names C_law_parents C_law_pointers C_law_source C_law_take, He.glo_ok X GN (c.fact 9 (f := .glo "_law_world") rfl), F9.kp, bi_law_world F9, .nil⟩
  have C_law_lines : C8.Cal P w K mg base 2 "_law_lines" (sp_law_lines K ⟨He.ga K "Standing", He.ga K "Web"⟩) [] := ⟨_, _, _, [], fn_law_lines F10 T C C_law_take, He.glo_ok X GN (c.fact 10 (f := .glo "_law_lines") rfl), F10.kp, bi_law_lines F10, .nil⟩
  have C_law_owners : C8.Cal P w K mg base 2 "_law_owners" (sp_law_owners K ⟨He.ga K "Standing", He.ga K "Web"⟩) [] := ⟨_, _, _, [], fn_law_owners F11 T C C_law_take, He.glo_ok X GN (c.fact 11 (f := .glo "_law_owners") rfl), F11.kp, bi_law_owners F11, .nil⟩
  have C_law_table : C8.Cal P w K mg base 3 "_law_table" (sp_law_table K ⟨He.ga K "Standing", He.ga K "Web"⟩) [] := ⟨_, _, _, [], fn_law_table F12 T C C_law_lines C_law_take, He.glo_ok X GN (c.fact 12 (f := .glo "_law_table") rfl), F12.kp, bi_law_table F12, .nil⟩
  have C_law_near : C8.Cal P w K mg base 2 "_law_near" (sp_law_near K ⟨He.ga K "Standing", He.ga K "Web"⟩) [] := ⟨_, _, _, [], fn_law_near F13 T C C_law_take, He.glo_ok X GN (c.fact 13 (f := .glo "_law_near") rfl), F13.kp, bi_law_near F13, .nil⟩
  have C_law_due : C8.Cal P w K mg base 1 "_law_due" (sp_law_due K ⟨He.ga K "Standing", He.ga K "Web"⟩) [] := ⟨_, _, _, [], fn_law_due F14 T C , He.glo_ok X GN (c.fact 14 (f := .glo "_law_due") rfl), F14.kp, bi_law_due F14, .nil⟩
  have C_law_bent : C8.Cal P w K mg base 2 "_law_bent" (sp_law_bent K ⟨He.ga K "Standing", He.ga K "Web"⟩) [] := ⟨_, _, _, [], fn_law_bent F15 T C C_law_take, He.glo_ok X GN (c.fact 15 (f := .glo "_law_bent") rfl), F15.kp, bi_law_bent F15, .nil⟩
  have C_is_pointer : C8.Cal P w K mg base 1 "_is_pointer" (sp_is_pointer K ⟨He.ga K "Standing", He.ga K "Web"⟩) [] := ⟨_, _, _, [], fn_is_pointer F16 T C , He.glo_ok X GN (c.fact 16 (f := .glo "_is_pointer") rfl), F16.kp, bi_is_pointer F16, .nil⟩
  have C_as_known : C8.Cal P w K mg base 2 "_as_known" (sp_as_known K ⟨He.ga K "Standing", He.ga K "Web"⟩) [] := ⟨_, _, _, [], fn_as_known F17 T C C_is_pointer, He.glo_ok X GN (c.fact 17 (f := .glo "_as_known") rfl), F17.kp, bi_as_known F17, .nil⟩
  have C_grouped : C8.Cal P w K mg base 1 "_grouped" (sp_grouped K ⟨He.ga K "Standing", He.ga K "Web"⟩) [] := ⟨_, _, _, [], fn_grouped F18 T C , He.glo_ok X GN (c.fact 18 (f := .glo "_grouped") rfl), F18.kp, bi_grouped F18, .nil⟩
  have C_Web_init : C8.Mak P w K mg base 3 "Web" (He.ga K "Web") (sp_Web_init K ⟨He.ga K "Standing", He.ga K "Web"⟩) [] := ⟨_, _, _, [], He.mkr_ok (c.fact 19 (f := .mkr "Web") rfl), fn_Web_init F19 T C C_as_known C_grouped, He.glo_ok X GN (c.fact 31 (f := .glo "Web") rfl), bi_Web_init F19, .nil⟩
  have C_Web_arrows : C8.Met P w K mg base 1 (He.ga K "Web") "arrows" (sp_Web_arrows K ⟨He.ga K "Standing", He.ga K "Web"⟩) [] := ⟨_, _, _, [], C.c_Web, He.meth_ok (c.fact 20 (f := .meth "Web" "arrows") rfl), fn_Web_arrows F20 T C , bi_Web_arrows F20, .nil⟩
  have C_Standing_init : C8.Mak P w K mg base 1 "Standing" (He.ga K "Standing") (sp_Standing_init K ⟨He.ga K "Standing", He.ga K "Web"⟩) [] := ⟨_, _, _, [], He.mkr_ok (c.fact 21 (f := .mkr "Standing") rfl), fn_Standing_init F21 T C , He.glo_ok X GN (c.fact 26 (f := .glo "Standing") rfl), bi_Standing_init F21, .nil⟩
  have C_Standing_blanks : C8.Met P w K mg base 1 (He.ga K "Standing") "blanks" (sp_Standing_blanks K ⟨He.ga K "Standing", He.ga K "Web"⟩) [] := ⟨_, _, _, [], C.c_Standing, He.meth_ok (c.fact 22 (f := .meth "Standing" "blanks") rfl), fn_Standing_blanks F22 T C , bi_Standing_blanks F22, .nil⟩
  have C_is_dealing : C8.Cal P w K mg base 2 "is_dealing" (sp_is_dealing K ⟨He.ga K "Standing", He.ga K "Web"⟩) [] := ⟨_, _, _, [], fn_is_dealing F23 T C C_Standing_blanks C_Web_arrows, He.glo_ok X GN (c.fact 23 (f := .glo "is_dealing") rfl), F23.kp, bi_is_dealing F23, .nil⟩
  have C_law_asked : C8.Cal P w K mg base 3 "_law_asked" (sp_law_asked K ⟨He.ga K "Standing", He.ga K "Web"⟩) [] := ⟨_, _, _, [], fn_law_asked F24 T C C_law_due C_is_dealing, He.glo_ok X GN (c.fact 24 (f := .glo "_law_asked") rfl), F24.kp, bi_law_asked F24, .nil⟩
  exact fn_law F25 T C C_Standing_init C_Standing_blanks C_Web_init C_Web_arrows C_law_asked C_law_bent C_law_cell C_law_near C_law_owners C_law_source C_law_table C_law_take C_law_world
end G

open PySem PySem.W PySem.Calls PyProof.Rows in
set_option maxRecDepth 100000 in
set_option maxHeartbeats 0 in
theorem PySem.Challenge.cw_onecopy_k04_dealing_judge_holds : PySem.Challenge.rw_onecopy_k04_dealing_judge.Holds := by
  w_on; o_law
  refine HandSHeadRun.head_any (r := OpenLaw.row PySem.Challenge.rw_onecopy_k04_dealing_judge) (q := view (OpenLaw.row PySem.Challenge.rw_onecopy_k04_dealing_judge).prog [32]) (H := G.hkS) (ob := G.obS) (M := 6000) (loose := G.looseS) (d := HandSHeadRun.topDef (OpenLaw.row PySem.Challenge.rw_onecopy_k04_dealing_judge).prog 32) (kwd := []) G.obS_eq
    (by kernel_rfl) (fun s => by kernel_rfl) G.runS (by kernel_rfl) (by kernel_rfl) (by kernel_rfl) (by rfl) (by first | assumption | decide +kernel) (by decide +kernel) ⟨rfl, rfl, rfl, rfl, rfl, by decide +kernel⟩ ?hw ?hc
  case hw => w_witness2
  case hc =>
    refine L2.walk_ofE (l := PySem.Challenge.rw_onecopy_k04_dealing_judge) (n := 63) (k := 5) (x := "script") (CX := L2.CX0) rfl (by decide) (by kernel_rfl) ⟨rfl, by decide, by decide⟩ ?F (fun _ _ _ _ z => z)
    intro w mg fa h Y GN hmg0
    obtain ⟨K, KX, c⟩ := Y
    have hmg : mg ("law" : PySem.Str) = some (.ref fa) := by
      have e : (HandSHeadRun.topDef (OpenLaw.row PySem.Challenge.rw_onecopy_k04_dealing_judge).prog 32).name = ("law" : PySem.Str) := by kernel_rfl
      rw [← e]
      exact hmg0
    obtain ⟨fd, hb, hF⟩ := G.factsS (P := (PySem.Challenge.rw_onecopy_k04_dealing_judge).prog) (w := w) KX GN hmg c
    exact ⟨K, fd, G.sp_law K _, KX, hb, fun H a ns hl _ hS => ⟨a, ns, rfl, hS, hl, fun _ => rfl⟩, hF⟩
