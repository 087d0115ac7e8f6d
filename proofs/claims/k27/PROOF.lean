import PyProof.Rows.All
import Wide.All
import OpenK.AllK
import Wide.FinOn
import HandS.ForMost
import HandS.Deep
import HandS.Flow
import HandS.IsInst
import HandS.Conv
import HandS.SortRule
import HandS.SortInts
import HandS.SetFor
import HandS.More
import HandS.Codes
import HandS.Style
import HandS.Walk
import KE.KStateDown
import HandS.Defaults
import HandS.Head0
import HandS.Head1
import HandS.Head2
import HandS.HeadEnd
import HandS.HeadHook1
import HandS.HeadHook2
import HandS.HeadNt
import HandS.RevRange
import HandS.WideBits
import PySem.Challenge.RW_onecopy_k27_whole_attack
set_option Elab.async false
set_option linter.all false
set_option maxRecDepth 100000
set_option maxHeartbeats 4000000

/-! The ground: relations under names of their own, steps of a reading, facts of heaps. -/
namespace G
open PySem PySem.Spec PyProof.Rows L2

/-! ### relations by name -/
def oAdd : R2 := rI0 fun i j => .int (i + j)
def oSub : R2 := rI0 fun i j => .int (i - j)
def oMul : R2 := rI CMul fun i j => .int (i * j)
def oDiv : R2 := rI CDiv fun i j => .int (i / j)
def oMod : R2 := rI (fun _ j => 0 < j) fun i j => .int (i % j)
def oPow : R2 := rI CPow fun i j => .int (i ^ j.toNat)
def oLt : R2 := rI0 fun i j => .bl (decide (i < j))
def oLe : R2 := rI0 fun i j => .bl (decide (i ≤ j))
def oGt : R2 := rI0 fun i j => .bl (decide (j < i))
def oGe : R2 := rI0 fun i j => .bl (decide (j ≤ i))
def oNeg : V → Hp → VK → Prop := rU fun i => .int (-i)
abbrev RL := List V → Hp → VK → Prop
def oAbs : RL := fun xs H Q => ∃ i, xs = [.int i] ∧ Q (.int (if i < 0 then -i else i)) H
def oMax2 : RL := fun xs H Q => ∃ i j, xs = [.int i, .int j] ∧ Q (.int (if j > i then j else i)) H
def oMin2 : RL := fun xs H Q => ∃ i j, xs = [.int i, .int j] ∧ Q (.int (if j < i then j else i)) H
def oInt : RL := fun xs H Q => (∃ i, xs = [.int i] ∧ Q (.int i) H) ∨ ∃ k, xs = [.bl k] ∧ Q (.int (if k then 1 else 0)) H
def rLenQ (K : PySem.W.Frag) : RL := fun xs H Q => ∃ p ys, xs = [.ref p] ∧ (SqL K H p ys ∨ SqT K H p ys) ∧ Q (.int ys.length) H
def oListOf (K : PySem.W.Frag) : RL := fun xs H Q => ∃ p ys, xs = [.ref p] ∧ (SqL K H p ys ∨ SqT K H p ys) ∧ ∀ l, H l = none → Q (.ref l) (upd H l (.lst ys))
def oListD : RL := fun xs H Q => ∃ d kvs, xs = [V.ref d] ∧ Rd H d (.dT kvs) ∧ ∀ p bs, H p = none → IsKeys H kvs bs → Q (.ref p) (upd H p (.lst (bs.map V.ref)))
def oInsert : V → List V → Hp → VK → Prop := fun x vs H Q => ∃ (l : Addr) (xs : List V) (i : Int) (y : V), x = .ref l ∧ vs = [.int i, y] ∧ H l = some (.lst xs) ∧ xs.length < sizeLine ∧ 0 ≤ i ∧ i < 2 ^ 63 ∧
    Q .non (upd H l (.lst (xs.take i.toNat ++ [y] ++ xs.drop i.toNat)))
def tTruK (K : PySem.W.Frag) (ta : TE) : TT := fun σ H Q => ta σ H fun x H' => ∃ k, TruV K x H' k ∧ Q k H'

theorem hu65 {A : Around} {k : Nat} (hr : Room k A) : A.units + 65 < cLine := by have := hr.un; omega
/-- xs[i] op= e -/
theorem pget_list {X : Cx} : PGet X (rIxL X.K) := by
  intro pn st sg Hh xo yo vo uo Qo Io r1 r2 hyp
  obtain ⟨pp, items, ii, zz, rfl, rfl, hsq, hat, hQ⟩ := hyp
  cases r1
  obtain ⟨tk, rfl⟩ := r2
  obtain ⟨raw, rel, isl, _⟩ := Io.list hsq
  obtain ⟨jj, e1, e2, e3, e4, e5⟩ := atI_get hat
  obtain ⟨ww, e6, rw'⟩ := rel.get e2
  have hlen := rel.length
  have h63 := line63
  have done : EP X pn sg Qo ww st := ⟨zz, Hh, Io, rw', hQ⟩
  by_cases hn : 0 ≤ ii
  · have ej : ii.toNat = jj := by
      rw [seqIndex_of hn e5] at e1; exact Option.some.inj e1
    exact wpAny_getItem_list isl.isList hn (by omega) (by rw [ej]; simpa using e6) done
  · have ej : (ii + (raw.toArray.size : Int)).toNat = jj := by
      rw [seqIndex_neg (by omega) e4] at e1; rw [List.size_toArray, ← hlen]; exact Option.some.inj e1
    exact wpAny_getItem_list_neg isl.isList (by omega) (by rw [List.size_toArray] <;> omega) (by omega) (by rw [ej]; simpa using e6) done

/-! ### heaps -/
section
variable {H H' H1 H2 H3 : Hp} {p q s : Addr} {o o' : HO}
theorem keep (h : H q = some o) (hp : H p = none) : upd H p o' q = some o := by rw [upd_ne (ne_of_none h hp)]; exact h
theorem keepNe (h : H q = some o) (hp : q ≠ p) : upd H p o' q = some o := by rw [upd_ne hp]; exact h
theorem same_new (h : H p = none) : Same H (upd H p o) := fun _ _ e => keep e h
theorem same_mut (e : Same H H') (h : H p = none) : Same H (upd H' p o) := fun b u hb => by rw [upd_ne (ne_of_none hb h)]; exact e b u hb
/-- all that was tracked is as it was, s aside -/
def But (s : Addr) (H H' : Hp) : Prop := ∀ b o, b ≠ s → H b = some o → H' b = some o
theorem But.refl : But s H H := fun _ _ _ h => h
theorem Same.but (e : Same H H') : But s H H' := fun b o _ h => e b o h
theorem But.trans (a : But s H H1) (b : But s H1 H2) : But s H H2 := fun c o n h => b c o n (a c o n h)
theorem But.new (e : But s H H') (h : H' p = none) : But s H (upd H' p o) := fun b u n hb => keep (e b u n hb) h
theorem But.mut (e : But s H H') (h : H p = none) : But s H (upd H' p o) := fun b u n hb => by rw [upd_ne (ne_of_none hb h)]; exact e b u n hb
theorem But.self (e : But s H H') : But s H (upd H' s o) := fun b u n hb => by rw [upd_ne n]; exact e b u n hb
theorem But.free (e : But s H H') (h : H s = some o) (hs : H' s = some o') (hp : H' p = none) : H p = none := by
  cases q : H p with
  | none => rfl
  | some u =>
    by_cases hn : p = s
    · rw [hn, hs] at hp; cases hp
    · rw [e p u hn q] at hp; cases hp
theorem SqL.same {K : PySem.W.Frag} {xs : List V} (h : SqL K H p xs) (e : Same H H') : SqL K H' p xs := e.seq h
theorem SqL.but {K : PySem.W.Frag} {xs ys : List V} (e : But s H H') (hs : H s = some (.lst ys)) (hn : p ≠ s) (h : SqL K H p xs) : SqL K H' p xs := by
  rcases h with (h | ⟨o, h⟩) | h
  · exact .inl (.inl (e _ _ hn h))
  · exact .inl (.inr ⟨o, e _ _ hn h⟩)
  · exact .inr h
end

/-! ### steps -/
section
variable {K : PySem.W.Frag} {σ : L2.St} {H : Hp} {Q : VK} {D : Ends} {v x y : V} {i : Nat} {ta tb tc te tv to ti : TE} {t u : TS} {tt tu : TT} {tl tr : TA} {p C dx : Addr}
theorem w_seq (h : t { D with nx := u D } σ H) : tSeq t u D σ H := h
theorem w_next (h : D.nx σ H) : tNext D σ H := h
theorem w_ret (h : te σ H D.rt) : tRet te D σ H := h
theorem w_retN (h : D.rt .non H) : tRetN D σ H := h
theorem w_drop (h : te σ H fun _ H1 => D.nx σ H1) : tDrop te D σ H := h
theorem w_brk (h : D.bk σ H) : tBreak D σ H := h
theorem w_cont (h : D.ct σ H) : tCont D σ H := h
theorem w_asg {g : TG} (h : te σ H fun x H1 => g x σ H1 D.nx) : tAsg te g D σ H := h
theorem w_name {R : L2.St → Hp → Prop} (h : R (σ.set i (some v)) H) : gName i v σ H R := h
theorem w_sub {R : L2.St → Hp → Prop} {ts : TSet} (h : to σ H fun o H1 => ti σ H1 fun j H2 => ts o j v H2 fun H3 => R σ H3) : gSub to ti ts v σ H R := h
theorem w_setL {R : Hp → Prop} {xs : List V} {k : Int} {j : Nat} (h : H p = some (.lst xs)) (hj : ixN xs.length k = some j) (q : R (upd H p (.lst (xs.set j v)))) : rSetL (.ref p) (.int k) v H R := ⟨p, xs, k, j, rfl, rfl, h, hj, q⟩
theorem w_var (h : σ[i]? = some (some v)) (q : Q v H) : tVar i σ H Q := ⟨v, h, q⟩
theorem w_c (q : Q v H) : tC v σ H Q := q
theorem w_op {r : R2} (h : ta σ H fun x H1 => tb σ H1 fun y H2 => r x y H2 Q) : tOp r ta tb σ H Q := h
theorem w_un {r : V → Hp → VK → Prop} (h : ta σ H fun x H1 => r x H1 Q) : tUn r ta σ H Q := h
theorem w_oAdd {a b : Int} (q : Q (.int (a + b)) H) : oAdd (.int a) (.int b) H Q := ⟨a, b, rfl, rfl, q⟩
theorem w_oSub {a b : Int} (q : Q (.int (a - b)) H) : oSub (.int a) (.int b) H Q := ⟨a, b, rfl, rfl, q⟩
theorem w_oMulL {a b : Int} (h0 : -18446744073709551616 < a) (h1 : a < 18446744073709551616) (q : Q (.int (a * b)) H) : oMul (.int a) (.int b) H Q := ⟨a, b, rfl, rfl, .inl ⟨h0, h1⟩, q⟩
theorem w_oMulR {a b : Int} (h0 : -18446744073709551616 < b) (h1 : b < 18446744073709551616) (q : Q (.int (a * b)) H) : oMul (.int a) (.int b) H Q := ⟨a, b, rfl, rfl, .inr ⟨h0, h1⟩, q⟩
theorem w_oDiv {a b : Int} (h0 : 0 < b) (h1 : b < 1073741824) (q : Q (.int (a / b)) H) : oDiv (.int a) (.int b) H Q := ⟨a, b, rfl, rfl, ⟨h0, h1⟩, q⟩
theorem w_oMod {a b : Int} (hc : 0 < b) (q : Q (.int (a % b)) H) : oMod (.int a) (.int b) H Q := ⟨a, b, rfl, rfl, hc, q⟩
theorem w_oPow {a b : Int} (h0 : 0 ≤ b) (h1 : b ≤ 1000000) (h2 : a.natAbs < 18446744073709551616) (q : Q (.int (a ^ b.toNat)) H) : oPow (.int a) (.int b) H Q := ⟨a, b, rfl, rfl, ⟨h0, h1, h2⟩, q⟩
theorem w_oLt {a b : Int} (q : Q (.bl (decide (a < b))) H) : oLt (.int a) (.int b) H Q := ⟨a, b, rfl, rfl, q⟩
theorem w_oLe {a b : Int} (q : Q (.bl (decide (a ≤ b))) H) : oLe (.int a) (.int b) H Q := ⟨a, b, rfl, rfl, q⟩
theorem w_oGt {a b : Int} (q : Q (.bl (decide (b < a))) H) : oGt (.int a) (.int b) H Q := ⟨a, b, rfl, rfl, q⟩
theorem w_oGe {a b : Int} (q : Q (.bl (decide (b ≤ a))) H) : oGe (.int a) (.int b) H Q := ⟨a, b, rfl, rfl, q⟩
theorem w_oNeg {a : Int} (q : Q (.int (-a)) H) : oNeg (.int a) H Q := ⟨a, rfl, q⟩
theorem w_eqI {a b : Int} (q : Q (.bl (decide (a = b))) H) : rEq (.int a) (.int b) H Q := ⟨rfl, by
  have e : (decide (V.int a = V.int b)) = decide (a = b) := by simp
  rw [e]; exact q⟩
theorem w_neI {a b : Int} (q : Q (.bl (!decide (a = b))) H) : rNe (.int a) (.int b) H Q := ⟨rfl, by
  have e : (decide (V.int a = V.int b)) = decide (a = b) := by simp
  rw [e]; exact q⟩
theorem w_eqB {a b : Bool} (q : Q (.bl (decide (a = b))) H) : rEq (.bl a) (.bl b) H Q := ⟨rfl, by
  have e : (decide (V.bl a = V.bl b)) = decide (a = b) := by simp
  rw [e]; exact q⟩
theorem w_chain {r r' : R2} (h : ta σ H fun x H1 => tb σ H1 fun y H2 => r x y H2 fun z H3 => ∃ k, z = .bl k ∧ (if k = true then tc σ H3 fun w' H4 => r' y w' H4 Q else Q (.bl false) H3)) : tChain r r' ta tb tc σ H Q := h
/-- a known answer -/
theorem w_ex {P : Bool → Prop} {b : Bool} (q : P b) : ∃ k, V.bl b = .bl k ∧ P k := ⟨b, rfl, q⟩
theorem w_test {Qb : Bool → Hp → Prop} (h : te σ H fun x H' => ∃ k, x = .bl k ∧ Qb k H') : tTest te σ H Qb := h
theorem w_tB {Qb : Bool → Hp → Prop} (h : te σ H fun x H' => ∃ k, x = .bl k ∧ Qb k H') : tB te σ H Qb := h
theorem w_and {Qb : Bool → Hp → Prop} (h : tt σ H fun c H1 => if c = true then tu σ H1 Qb else Qb false H1) : tAnd tt tu σ H Qb := h
theorem w_or {Qb : Bool → Hp → Prop} (h : tt σ H fun c H1 => if c = true then Qb true H1 else tu σ H1 Qb) : tOr tt tu σ H Qb := h
theorem w_not {Qb : Bool → Hp → Prop} (h : tt σ H fun c H1 => Qb (!c) H1) : tNot tt σ H Qb := h
theorem w_andV (h : ta σ H fun x H1 => ∃ c, x = .bl c ∧ (if c = true then tb σ H1 Q else Q (.bl false) H1)) : tAndV ta tb σ H Q := h
theorem w_orV (h : ta σ H fun x H1 => ∃ c, x = .bl c ∧ (if c = true then Q (.bl true) H1 else tb σ H1 Q)) : tOrV ta tb σ H Q := h
theorem w_notV (h : ta σ H fun x H1 => ∃ c, x = .bl c ∧ Q (.bl (!c)) H1) : tNotV ta σ H Q := h
theorem w_if (h : tt σ H fun b H1 => if b = true then t D σ H1 else u D σ H1) : tIfS tt t u D σ H := h
theorem w_ifE (h : tt σ H fun c H1 => if c = true then ta σ H1 Q else tb σ H1 Q) : tIf tt ta tb σ H Q := h
theorem w_nil {Ql : List V → Hp → Prop} (h : Ql [] H) : tNil σ H Ql := h
theorem w_cons {Ql : List V → Hp → Prop} (h : ta σ H fun x H1 => tr σ H1 fun xs H2 => Ql (x :: xs) H2) : tCons ta tr σ H Ql := h
theorem w_tup (h : tl σ H fun xs H1 => xs.length ≤ sizeLine ∧ ∀ p, H1 p = none → Q (.ref p) (upd H1 p (.tup xs))) : tTup tl σ H Q := h
theorem w_lst (h : tl σ H fun xs H1 => xs.length ≤ sizeLine ∧ ∀ p, H1 p = none → Q (.ref p) (upd H1 p (.lst xs))) : tLst tl σ H Q := h
theorem w_small {n : Nat} {P : Prop} (hn : n ≤ 100) (h : P) : n ≤ sizeLine ∧ P := ⟨Nat.le_trans hn (by decide), h⟩
theorem w_call {sp : Sp} {E : XK} (h : tl σ H fun vs H1 => sp vs H1 Q E) : tCall sp [] E tl σ H Q := by
  show tl σ H fun vs H1 => sp (vs ++ []) H1 Q E
  simp only [List.append_nil]; exact h
theorem w_meth {sp : Sp} {m : Str} {E : XK} (h : ta σ H fun x H1 => ∃ a dx fs, x = .ref a ∧ H1 a = some (.ins C dx fs) ∧ fs.lookup m = none ∧ tl σ H1 fun vs H2 => sp (x :: vs) H2 Q E) : tMeth C m sp [] E ta tl σ H Q := by
  show ta σ H fun x H1 => ∃ a dx fs, x = .ref a ∧ H1 a = some (.ins C dx fs) ∧ fs.lookup m = none ∧ tl σ H1 fun vs H2 => sp (x :: (vs ++ [])) H2 Q E
  simp only [List.append_nil]; exact h
theorem w_make {sp : Sp} {E : XK} (h : tl σ H fun vs H1 => ∀ x dx, H1 x = none → H1 dx = none → dx ≠ x → sp (.ref x :: vs) (upd (upd H1 dx (.own x)) x (.ins C dx [])) (fun v H2 => v = .non ∧ Q (.ref x) H2) E) : tMake C sp [] E tl σ H Q := by
  show tl σ H fun vs H1 => ∀ x dx, H1 x = none → H1 dx = none → dx ≠ x → sp (.ref x :: (vs ++ [])) (upd (upd H1 dx (.own x)) x (.ins C dx [])) (fun v H2 => v = .non ∧ Q (.ref x) H2) E
  simp only [List.append_nil]; exact h
theorem w_cb {r : RL} (h : tl σ H fun vs H1 => r vs H1 Q) : tCB r tl σ H Q := h
theorem w_oInt {a : Int} (q : Q (.int a) H) : oInt [.int a] H Q := .inl ⟨a, rfl, q⟩
theorem w_oAbs {a : Int} (q : Q (.int (if a < 0 then -a else a)) H) : oAbs [.int a] H Q := ⟨a, rfl, q⟩
theorem w_oMax2 {a b : Int} (q : Q (.int (if b > a then b else a)) H) : oMax2 [.int a, .int b] H Q := ⟨a, b, rfl, q⟩
theorem w_oMin2 {a b : Int} (q : Q (.int (if b < a then b else a)) H) : oMin2 [.int a, .int b] H Q := ⟨a, b, rfl, q⟩
theorem w_lenL {xs : List V} (h : SqL K H p xs) (q : Q (.int xs.length) H) : rLenQ K [.ref p] H Q := ⟨p, xs, rfl, .inl h, q⟩
theorem w_listL {xs : List V} (h : SqL K H p xs) (q : ∀ l, H l = none → Q (.ref l) (upd H l (.lst xs))) : oListOf K [.ref p] H Q := ⟨p, xs, rfl, .inl h, q⟩
theorem w_ixL {xs : List V} {k : Int} (h : SqL K H p xs) (ha : atI xs k = some v) (q : Q v H) : rIxL K (.ref p) (.int k) H Q := ⟨p, xs, k, v, rfl, rfl, h, ha, q⟩
theorem w_ixT {xs : List V} {k : Int} (h : H p = some (.tup xs)) (ha : atI xs k = some v) (q : Q v H) : rIxT K (.ref p) (.int k) H Q := ⟨p, xs, k, v, rfl, rfl, .inl (.inl h), ha, q⟩
theorem w_fld {f : Str} (h : ta σ H fun x H1 => ∃ a C dx fs v, x = .ref a ∧ H1 a = some (.ins C dx fs) ∧ Cls K C ∧ NoAttr K C f ∧ fs.lookup f = some v ∧ Q v H1) : tFld K ta f σ H Q := h
theorem w_bm {Tn : String} {r : V → List V → Hp → VK → Prop} (h : to σ H fun x H1 => tyV K Tn x H1 ∧ tl σ H1 fun xs H2 => r x xs H2 Q) : tBM K Tn r to tl σ H Q := h
theorem w_bm0 {Tn : String} {r : V → List V → Hp → VK → Prop} (h : to σ H fun x H1 => tyV K Tn x H1 ∧ r x [] H1 Q) : tBM0 K Tn r to σ H Q := h
theorem w_tyL {P : Prop} {xs : List V} (h : SqL K H p xs) (q : P) : tyV K "list" (.ref p) H ∧ P := ⟨.inl ⟨rfl, xs, h⟩, q⟩
theorem w_append {xs : List V} (h : H p = some (.lst xs)) (hl : xs.length < sizeLine) (q : Q .non (upd H p (.lst (xs ++ [v])))) : rAppend (.ref p) [v] H Q := ⟨p, xs, v, rfl, rfl, h, hl, q⟩
theorem w_cat {b : Addr} {xs ys : List V} (h : H p = some (.lst xs)) (hb : H b = some (.lst ys)) (hl : xs.length + ys.length ≤ sizeLine) (q : ∀ l, H l = none → Q (.ref l) (upd H l (.lst (xs ++ ys)))) : rCat (.ref p) (.ref b) H Q := ⟨p, b, xs, ys, rfl, rfl, h, hb, hl, q⟩
theorem w_sl {r : V → Option Int → Option Int → Hp → VK → Prop} {lo hi : TO} (h : te σ H fun x H1 => lo σ H1 fun l H2 => hi σ H2 fun u H3 => r x l u H3 Q) : tSl r te lo hi σ H Q := h
theorem w_noPart {R : Option Int → Hp → Prop} (h : R none H) : tNoPart σ H R := h
theorem w_part {R : Option Int → Hp → Prop} (h : te σ H fun x H1 => ∃ i, x = .int i ∧ R (some i) H1) : tPart te σ H R := h
theorem w_exI {P : Int → Prop} {a : Int} (q : P a) : ∃ k, V.int a = .int k ∧ P k := ⟨a, rfl, q⟩
theorem w_slL {xs : List V} {lo hi : Option Int} (h : SqL K H p xs) (q : ∀ l, H l = none → Q (.ref l) (upd H l (.lst (cutV xs lo hi)))) : rSlL K (.ref p) lo hi H Q := ⟨p, xs, rfl, h, q⟩
theorem w_gNil {R : L2.St → Hp → Prop} (h : R σ H) : gNil [] σ H R := ⟨rfl, h⟩
theorem w_gCons {R : L2.St → Hp → Prop} {g : TG} {gs : TGs} {vs : List V} (h : g v σ H fun σ' H' => gs vs σ' H' R) : gCons g gs (v :: vs) σ H R := ⟨v, vs, rfl, h⟩
theorem w_gTup {R : L2.St → Hp → Prop} {n : Nat} {gs : TGs} {vs : List V} (h : H p = some (.tup vs)) (hn : vs.length = n) (q : gs vs σ H R) : gTup K n gs (.ref p) σ H R := ⟨p, vs, rfl, .inl (.inl h), hn, q⟩
theorem w_listRg {te : L2.St → Hp → (Int → Int → Hp → Prop) → Prop} (h : te σ H fun a b H1 => RgOk a b ∧ ∀ q, H1 q = none → Q (.ref q) (upd H1 q (.lst (rgV a b)))) : tLstRg te σ H Q := h
theorem w_rg1 {R : Int → Int → Hp → Prop} (h : ta σ H fun x H1 => ∃ n, x = .int n ∧ R 0 n H1) : tRg1 ta σ H R := h
theorem w_augS {tget : V → V → Hp → VK → Prop} {tip : TIp} {ts : TSet} (h : to σ H fun o H1 => ti σ H1 fun i H2 => tget o i H2 fun x H3 => te σ H3 fun y H4 => tip x y H4 fun z H5 => ts o i z H5 fun H6 => D.nx σ H6) : tAugS to ti te tget tip ts D σ H := h
theorem w_ipI {f : Int → Int → Int} {a b : Int} (q : Q (.int (f a b)) H) : ipI f (.int a) (.int b) H Q := ⟨a, b, rfl, rfl, q⟩
theorem w_sum {xs : List Int} (h : SqL K H p (xs.map V.int)) (q : Q (.int xs.sum) H) : rSum K [.ref p] H Q := ⟨p, xs, rfl, h, q⟩
theorem w_iteD {A B : Prop} {c : Prop} [Decidable c] (h1 : c → A) (h2 : ¬ c → B) : if decide c = true then A else B := by
  by_cases h : c
  · rw [decide_eq_true h]; exact h1 h
  · rw [decide_eq_false h, if_neg Bool.false_ne_true]; exact h2 h
theorem w_iteN {A B : Prop} {c : Prop} [Decidable c] (h1 : ¬ c → A) (h2 : c → B) : if (!decide c) = true then A else B := by
  by_cases h : c
  · rw [decide_eq_true h]; exact h2 h
  · rw [decide_eq_false h]; exact h1 h
theorem w_iteT {A B : Prop} (h : A) : if true = true then A else B := h
theorem w_iteF {A B : Prop} (h : B) : if false = true then A else B := by rw [if_neg Bool.false_ne_true]; exact h

theorem w_cut (M : L2.St → Hp → Prop) (h1 : t { D with nx := M } σ H) (h2 : ∀ σ1 H1, M σ1 H1 → u D σ1 H1) : C8.tCut t u D σ H := ⟨M, h1, h2⟩
theorem w_yes {R : Bool → Hp → Prop} (q : R true H) : tYes σ H R := q
theorem w_exA {P : Int → Prop} {n : Int} (q : P n) : ∃ m, [V.int n] = [V.int m] ∧ P m := ⟨n, rfl, q⟩
theorem w_exA2 {P : Int → Int → Prop} {n m : Int} (q : P n m) : ∃ a b, [V.int n, V.int m] = [V.int a, V.int b] ∧ P a b := ⟨n, m, rfl, q⟩
theorem w_exR {P : Addr → Prop} (q : P p) : ∃ m, V.ref p = .ref m ∧ P m := ⟨p, rfl, q⟩
theorem w_exRA {P : Addr → Prop} (q : P p) : ∃ m, [V.ref p] = [.ref m] ∧ P m := ⟨p, rfl, q⟩
theorem w_exRA2 {P : Addr → Addr → Prop} {p2 : Addr} (q : P p p2) : ∃ m m2, [V.ref p, .ref p2] = [.ref m, .ref m2] ∧ P m m2 := ⟨p, p2, rfl, q⟩
theorem w_acc {xs : List V} {P : List V → Prop} (h : H p = some (.lst xs)) (hl : xs.length < sizeLine) (q : P xs) : ∃ acc, H p = some (.lst acc) ∧ acc.length < sizeLine ∧ P acc := ⟨xs, h, hl, q⟩
theorem w_fld2 {P : V → Prop} {f : Str} {fs : List (Str × V)} (h : H p = some (.ins C dx fs)) (hc : Cls K C) (hn : NoAttr K C f) (hl : fs.lookup f = some v) (q : P v) :
    ∃ a C dx fs w, V.ref p = .ref a ∧ H a = some (.ins C dx fs) ∧ Cls K C ∧ NoAttr K C f ∧ fs.lookup f = some w ∧ P w := ⟨p, C, dx, fs, v, rfl, h, hc, hn, hl, q⟩
theorem w_mth {P : Addr → Prop} {m : Str} {fs : List (Str × V)} (h : H p = some (.ins C dx fs)) (hl : fs.lookup m = none) (q : P p) :
    ∃ a dx fs, V.ref p = .ref a ∧ H a = some (.ins C dx fs) ∧ fs.lookup m = none ∧ P p := ⟨p, dx, fs, rfl, h, hl, q⟩
theorem w_sfld {f : Str} (h : tv σ H fun y H1 => to σ H1 fun x H2 => ∃ a C dx fs, x = .ref a ∧ H2 a = some (.ins C dx fs) ∧ Cls K C ∧ NoAttr K C f ∧ fs.length < 1000 ∧ D.nx σ (upd H2 a (.ins C dx (putF f y fs)))) : sFld K to tv f D σ H := h
theorem w_sfld2 {P : Hp → Prop} {f : Str} {fs : List (Str × V)} (h : H p = some (.ins C dx fs)) (hc : Cls K C) (hn : NoAttr K C f) (hl : fs.length < 1000) (q : P (upd H p (.ins C dx (putF f v fs)))) :
    ∃ a C dx fs, V.ref p = .ref a ∧ H a = some (.ins C dx fs) ∧ Cls K C ∧ NoAttr K C f ∧ fs.length < 1000 ∧ P (upd H a (.ins C dx (putF f v fs))) := ⟨p, C, dx, fs, rfl, h, hc, hn, hl, q⟩
theorem w_never (h : False) : tNever D σ H := h
theorem w_augName {ti : TIp} (h : σ[i]? = some (some v)) (q : te σ H fun y H1 => ti v y H1 fun z H2 => D.nx (σ.set i (some z)) H2) : tAug i te ti D σ H := ⟨v, h, q⟩

theorem at0 {a : V} {r : List V} : atI (a :: r) 0 = some a := atI_nat (xs := a :: r) (j := 0) rfl
theorem at1 {a b : V} {r : List V} : atI (a :: b :: r) 1 = some b := atI_nat (xs := a :: b :: r) (j := 1) rfl
theorem at2 {a b c : V} {r : List V} : atI (a :: b :: c :: r) 2 = some c := atI_nat (xs := a :: b :: c :: r) (j := 2) rfl
theorem at3 {a b c d : V} {r : List V} : atI (a :: b :: c :: d :: r) 3 = some d := atI_nat (xs := a :: b :: c :: d :: r) (j := 3) rfl
theorem at4 {a b c d e : V} {r : List V} : atI (a :: b :: c :: d :: e :: r) 4 = some e := atI_nat (xs := a :: b :: c :: d :: e :: r) (j := 4) rfl
theorem ixn {n : Nat} {k : Int} {j : Nat} (e : k = (j : Int)) (h : j < n) : ixN n k = some j := by
  unfold ixN; rw [e, if_pos (by omega), if_pos (by omega)]; simp
theorem ix0 {a : V} {r : List V} : ixN (a :: r).length 0 = some 0 := ixn rfl (by simp)
theorem ix1 {a b : V} {r : List V} : ixN (a :: b :: r).length 1 = some 1 := ixn rfl (by simp)
theorem ix2 {a b c : V} {r : List V} : ixN (a :: b :: c :: r).length 2 = some 2 := ixn rfl (by simp)
theorem atn {xs : List V} {k : Int} {j : Nat} {v : V} (e : k = (j : Int)) (h : xs[j]? = some v) : atI xs k = some v := by rw [e]; exact atI_nat h
theorem ati {xs : List Int} {k : Int} (h0 : 0 ≤ k) (h1 : k < xs.length) : atI (xs.map V.int) k = some (V.int (xs.getD k.toNat 0)) := by
  refine atn (j := k.toNat) (by omega) ?_
  rw [List.getElem?_map, List.getElem?_eq_getElem (by omega), List.getD_eq_getElem?_getD, List.getElem?_eq_getElem (by omega)]; rfl

/-! ### loops -/
/-- a loop whose iterator has come -/
def ForW (J : It) (g : TG) (tb : TS) (D : Ends) (σ : L2.St) (H : Hp) : Prop := tFor (fun _ H R => R J H) g tb D σ H
theorem w_forR1 {g : TG} {tb : TS} (h : tl σ H fun vs H1 => ∃ n : Int, vs = [.int n] ∧ -(2 ^ 62) ≤ n ∧ n < 2 ^ 62 ∧ ForW (Itr 0 n.toNat) g tb D σ H1) : tFor (iRng1 tl) g tb D σ H := h
theorem w_forR2 {g : TG} {tb : TS} (h : tl σ H fun vs H1 => ∃ m n : Int, vs = [.int m, .int n] ∧ (-(2 ^ 62) ≤ m ∧ m < 2 ^ 62 ∧ -(2 ^ 62) ≤ n ∧ n < 2 ^ 62) ∧ ForW (Itr m (n - m).toNat) g tb D σ H1) : tFor (iRng2 tl) g tb D σ H := h
theorem w_forL {g : TG} {tb : TS} (h : te σ H fun x H1 => ∃ a, x = .ref a ∧ (∃ xs, SqL K H1 a xs) ∧ ForW (Itl K a) g tb D σ H1) : tFor (iList K te) g tb D σ H := h
theorem w_forZ {g : TG} {tb : TS} (h : tl σ H fun vs H1 => ∃ a b xs ys, vs = [.ref a, .ref b] ∧ SqL K H1 a xs ∧ SqL K H1 b ys ∧ ForW (Itz K a b) g tb D σ H1) : tFor (iZip K tl) g tb D σ H := h
theorem w_forE {g : TG} {tb : TS} (h : tl σ H fun vs H1 => ∃ a xs, vs = [.ref a] ∧ SqL K H1 a xs ∧ ForW (Ite K a) g tb D σ H1) : tFor (iEnum K tl) g tb D σ H := h
theorem w_bd1 {n : Int} {P : Prop} (h0 : -4611686018427387904 ≤ n) (h1 : n < 4611686018427387904) (q : P) : -(2 ^ 62) ≤ n ∧ n < 2 ^ 62 ∧ P := ⟨by omega, by omega, q⟩
theorem w_bd2 {m n : Int} {P : Prop} (h0 : -4611686018427387904 ≤ m) (h1 : m < 4611686018427387904) (h2 : -4611686018427387904 ≤ n) (h3 : n < 4611686018427387904) (q : P) : (-(2 ^ 62) ≤ m ∧ m < 2 ^ 62 ∧ -(2 ^ 62) ≤ n ∧ n < 2 ^ 62) ∧ P := ⟨⟨by omega, by omega, by omega, by omega⟩, q⟩
theorem w_sqE {xs : List V} {P : Prop} (h : SqL K H p xs) (q : P) : (∃ ys, SqL K H p ys) ∧ P := ⟨⟨xs, h⟩, q⟩
theorem forR {lo : Int} {n : Nat} {g : TG} {tb : TS} (Pv : Nat → L2.St → Hp → Prop) (h0 : Pv 0 σ H)
    (hs : ∀ i σ1 H1, i < n → Pv i σ1 H1 → g (.int (lo + i)) σ1 H1 fun σ2 H2 => tb { D with nx := Pv (i + 1), ct := Pv (i + 1), bk := D.nx } σ2 H2) (hd : ∀ σ1 H1, Pv n σ1 H1 → D.nx σ1 H1) : ForW (Itr lo n) g tb D σ H := for_range Pv h0 hs hd
theorem forL {a : Addr} {xs : List V} {g : TG} {tb : TS} (Pv : Nat → L2.St → Hp → Prop) (h0 : Pv 0 σ H) (hl : ∀ i σ1 H1, i ≤ xs.length → Pv i σ1 H1 → SqL K H1 a xs)
    (hs : ∀ i x σ1 H1, xs[i]? = some x → Pv i σ1 H1 → g x σ1 H1 fun σ2 H2 => tb { D with nx := Pv (i + 1), ct := Pv (i + 1), bk := D.nx } σ2 H2) (hd : ∀ σ1 H1, Pv xs.length σ1 H1 → D.nx σ1 H1) : ForW (Itl K a) g tb D σ H := for_list (xs := xs) Pv h0 hl hs hd
/-- a comprehension whose iterator has come -/
def LcW (J : It) (g : TG) (tt : TT) (te : TE) (vs : List Nat) (σ : L2.St) (H : Hp) (Q : VK) : Prop := tLc (fun _ H R => R J H) g tt te vs σ H Q
theorem w_lcR1 {g : TG} {vs : List Nat} (h : tl σ H fun us H1 => ∃ n : Int, us = [.int n] ∧ -(2 ^ 62) ≤ n ∧ n < 2 ^ 62 ∧ LcW (Itr 0 n.toNat) g tt te vs σ H1 Q) : tLc (iRng1 tl) g tt te vs σ H Q := h
theorem w_lcL {g : TG} {vs : List Nat} {tz : TE} (h : tz σ H fun x H1 => ∃ a, x = .ref a ∧ (∃ xs, SqL K H1 a xs) ∧ LcW (Itl K a) g tt te vs σ H1 Q) : tLc (iList K tz) g tt te vs σ H Q := h
/-- one turn of a comprehension -/
def LcT (tt : TT) (te : TE) (Dl : Addr) (N : Hp → Prop) (σ : L2.St) (H : Hp) : Prop := tt σ H fun b H3 =>
  if b = true then te σ H3 fun y H4 => ∃ acc, H4 Dl = some (.lst acc) ∧ acc.length < sizeLine ∧ N (upd H4 Dl (.lst (acc ++ [y]))) else N H3
theorem lcR {lo : Int} {n : Nat} {g : TG} {vs : List Nat} (Pv : Addr → Nat → Hp → Prop) (h0 : ∀ Dl, H Dl = none → Pv Dl 0 (upd H Dl (.lst [])))
    (hs : ∀ Dl i H1, H Dl = none → i < n → Pv Dl i H1 → g (.int (lo + i)) (wipe σ vs) H1 fun σ2 H2 => wipe σ2 vs = wipe σ vs ∧ LcT tt te Dl (Pv Dl (i + 1)) σ2 H2) (hd : ∀ Dl H1, H Dl = none → Pv Dl n H1 → Q (.ref Dl) H1) : LcW (Itr lo n) g tt te vs σ H Q :=
  fun Dl hD => lc_range (Pv Dl) (h0 Dl hD) (fun i H1 hi p => hs Dl i H1 hD hi p) (fun H1 p => hd Dl H1 hD p)
theorem lcL {a : Addr} {xs : List V} {g : TG} {vs : List Nat} (Pv : Addr → Nat → Hp → Prop) (h0 : ∀ Dl, H Dl = none → Pv Dl 0 (upd H Dl (.lst []))) (hl : ∀ Dl i H1, H Dl = none → i ≤ xs.length → Pv Dl i H1 → SqL K H1 a xs)
    (hs : ∀ Dl i x H1, H Dl = none → xs[i]? = some x → Pv Dl i H1 → g x (wipe σ vs) H1 fun σ2 H2 => wipe σ2 vs = wipe σ vs ∧ LcT tt te Dl (Pv Dl (i + 1)) σ2 H2) (hd : ∀ Dl H1, H Dl = none → Pv Dl xs.length H1 → Q (.ref Dl) H1) : LcW (Itl K a) g tt te vs σ H Q :=
  fun Dl hD => lc_list (K := K) (a := a) (xs := xs) (Pv Dl) (h0 Dl hD) (fun i H1 hi p => hl Dl i H1 hD hi p) (fun i x H1 hx p => hs Dl i x H1 hD hx p) (fun H1 p => hd Dl H1 hD p)
theorem w_lcT {Dl : Addr} {N : Hp → Prop} (h : te σ H fun y H4 => ∃ acc, H4 Dl = some (.lst acc) ∧ acc.length < sizeLine ∧ N (upd H4 Dl (.lst (acc ++ [y])))) : LcT tYes te Dl N σ H := h
theorem w_lcTif {Dl : Addr} {N : Hp → Prop} (h : tt σ H fun b H3 => if b = true then (te σ H3 fun y H4 => ∃ acc, H4 Dl = some (.lst acc) ∧ acc.length < sizeLine ∧ N (upd H4 Dl (.lst (acc ++ [y])))) else N H3) : LcT tt te Dl N σ H := h
theorem w_wipe {σ1 : L2.St} {P : Prop} (h : σ = σ1) (q : P) : σ = σ1 ∧ P := ⟨h, q⟩
end
/-! ### sources of draws: lists of three ints -/
section
variable {H H' H1 H2 H3 : Hp} {p q s : Addr} {o o' : HO} {xs : List V}
def Src (H : Hp) (s : Addr) : Prop := ∃ x y z u : Int, H s = some (.lst [.int x, .int y, .int z, .int u])
theorem Src.ex (h : Src H s) : ∃ xs, H s = some (.lst xs) := let ⟨_, _, _, _, e⟩ := h; ⟨_, e⟩
theorem Src.neFree (h : Src H s) (hq : H q = none) : q ≠ s := fun e => by obtain ⟨_, _, _, _, hs⟩ := h; rw [e, hs] at hq; cases hq
theorem Src.neTup {xs : List V} (h : Src H s) (hq : H q = some (.tup xs)) : q ≠ s := fun e => by obtain ⟨_, _, _, _, hs⟩ := h; rw [e, hs] at hq; cases hq
theorem Src.neIns {C dx : Addr} {fs : List (Str × V)} (h : Src H s) (hq : H q = some (.ins C dx fs)) : q ≠ s := fun e => by obtain ⟨_, _, _, _, hs⟩ := h; rw [e, hs] at hq; cases hq
theorem Src.new (h : Src H s) (hp : H p = none) : Src (upd H p o) s := let ⟨x, y, z, u, e⟩ := h; ⟨x, y, z, u, keep e hp⟩
theorem Src.mut (h : Src H s) (hp : p ≠ s) : Src (upd H p o) s := let ⟨x, y, z, u, e⟩ := h; ⟨x, y, z, u, keepNe e hp.symm⟩
theorem Src.same (e : Same H H') (h : Src H s) : Src H' s := let ⟨x, y, z, u, q⟩ := h; ⟨x, y, z, u, e _ _ q⟩
theorem But.at (b : But s H H') (hn : q ≠ s) (h : H q = some o) : H' q = some o := b _ _ hn h
theorem But.back (b : But s H H') (h2 : Src H' s) (hp : H' p = none) : H p = none := by
  cases hq : H p with
  | none => rfl
  | some u => rw [b p u (h2.neFree hp) hq] at hp; cases hp
theorem But.trans' (b : But s H1 H2) (a : But s H H1) : But s H H2 := a.trans b
theorem Same.trans' (b : Same H1 H2) (a : Same H H1) : Same H H2 := a.trans b
theorem Same.at (e : Same H H') (h : H q = some o) : H' q = some o := e _ _ h
theorem ne1 (hl : H p = none) (hq : H q = some o) : q ≠ p := ne_of_none hq hl
theorem free_upd (h : upd H p o q = none) : H q = none := by
  cases e : H q with
  | none => rfl
  | some u =>
    by_cases hn : q = p
    · rw [hn, upd_same] at h; cases h
    · rw [upd_ne hn, e] at h; cases h
/-- a pair of ints at a value; a list of such pairs -/
def PR (H : Hp) (v : V) (r : Int × Int) : Prop := ∃ t, v = .ref t ∧ H t = some (.tup [.int r.1, .int r.2])
def RowsAt (H : Hp) (p : Addr) (rows : List (Int × Int)) : Prop := ∃ vs, H p = some (.lst vs) ∧ Paired (PR H) vs rows
theorem PR.but {v : V} {r : Int × Int} (b : But s H H') (hs : Src H s) (h : PR H v r) : PR H' v r := let ⟨t, e, ht⟩ := h; ⟨t, e, b.at (hs.neTup ht) ht⟩
theorem PR.same {v : V} {r : Int × Int} (b : Same H H') (h : PR H v r) : PR H' v r := let ⟨t, e, ht⟩ := h; ⟨t, e, b _ _ ht⟩
theorem PR.mutL {v : V} {r : Int × Int} {xs : List V} (hp : H p = some (.lst xs)) (h : PR H v r) : PR (upd H p o) v r := let ⟨t, e, ht⟩ := h; ⟨t, e, keepNe ht (ne_of ht hp (by intro z; cases z))⟩
theorem PRs.but {vs : List V} {rows : List (Int × Int)} (b : But s H H') (hs : Src H s) (h : Paired (PR H) vs rows) : Paired (PR H') vs rows := h.mono fun _ _ q => PR.but b hs q
theorem PRs.same {vs : List V} {rows : List (Int × Int)} (b : Same H H') (h : Paired (PR H) vs rows) : Paired (PR H') vs rows := h.mono fun _ _ q => PR.same b q
theorem PRs.mutL {vs xs : List V} {rows : List (Int × Int)} (hp : H p = some (.lst xs)) (h : Paired (PR H) vs rows) : Paired (PR (upd H p o)) vs rows := h.mono fun _ _ q => PR.mutL hp q
theorem PRs.new {vs : List V} {rows : List (Int × Int)} (hp : H p = none) (h : Paired (PR H) vs rows) : Paired (PR (upd H p o)) vs rows := h.mono fun _ _ q => PR.same (same_new hp) q
theorem RowsAt.but {rows : List (Int × Int)} (b : But s H H') (hs : Src H s) (hn : p ≠ s) (h : RowsAt H p rows) : RowsAt H' p rows := let ⟨vs, e, k⟩ := h; ⟨vs, b.at hn e, PRs.but b hs k⟩
theorem RowsAt.same {rows : List (Int × Int)} (b : Same H H') (h : RowsAt H p rows) : RowsAt H' p rows := let ⟨vs, e, k⟩ := h; ⟨vs, b _ _ e, PRs.same b k⟩
theorem RowsAt.neFree {rows : List (Int × Int)} (h : RowsAt H q rows) (hp : H p = none) : q ≠ p := let ⟨_, e, _⟩ := h; ne_of_none e hp
theorem Paired.at {α β : Type} {F : α → β → Prop} : ∀ {l₁ : List α} {l₂ : List β}, Paired F l₁ l₂ → ∀ {i : Nat} {b : β}, l₂[i]? = some b → ∃ a, l₁[i]? = some a ∧ F a b
  | _, _, .nil, i, b, h => by simp at h
  | _, _, .cons f r, 0, b, h => by
    have e := Option.some.inj h
    subst e; exact ⟨_, rfl, f⟩
  | _, _, .cons f r, i + 1, b, h => by
    obtain ⟨a, h1, h2⟩ := Paired.at r (i := i) (b := b) (by simpa using h)
    exact ⟨a, by simpa using h1, h2⟩
theorem Paired.at' {α β : Type} {F : α → β → Prop} : ∀ {l₁ : List α} {l₂ : List β}, Paired F l₁ l₂ → ∀ {i : Nat} {a : α}, l₁[i]? = some a → ∃ b, l₂[i]? = some b ∧ F a b
  | _, _, .nil, i, b, h => by simp at h
  | _, _, .cons f r, 0, b, h => by
    have e := Option.some.inj h
    subst e; exact ⟨_, rfl, f⟩
  | _, _, .cons f r, i + 1, b, h => by
    obtain ⟨a, h1, h2⟩ := Paired.at' r (i := i) (a := b) (by simpa using h)
    exact ⟨a, by simpa using h1, h2⟩
end
end G

namespace G
open PySem L2
structure CA where
structure CT (K : PySem.W.Frag) (A : CA) : Prop where
end G

/-! ### the tactic: walk_at "go" -/
local macro_rules | `(tactic| walk_at "hp") => `(tactic| first
  | assumption | exact L2.upd_same
  | exact G.keep (by walk_at "hp") (by assumption)
  | exact G.keepNe (by walk_at "hp") (by walk_at "ne")
  | exact G.But.at (by assumption) (by walk_at "ne") (by walk_at "hp")
  | exact G.Same.at (by assumption) (by walk_at "hp"))
local macro_rules | `(tactic| walk_at "ne") => `(tactic| first
  | assumption | exact Ne.symm (by assumption)
  | exact G.Src.neFree (by assumption) (by assumption) | exact (G.Src.neFree (by assumption) (by assumption)).symm
  | exact G.ne1 (by assumption) (by walk_at "hp") | exact (G.ne1 (by assumption) (by walk_at "hp")).symm)
local macro_rules | `(tactic| walk_at "src") => `(tactic| first
  | assumption | exact G.Src.new (by walk_at "src") (by assumption) | exact G.Src.mut (by walk_at "src") (by walk_at "ne") | exact G.Src.same (by assumption) (by walk_at "src"))
local macro_rules | `(tactic| walk_at "but") => `(tactic| first
  | assumption | exact G.But.refl
  | exact G.But.mut (by walk_at "but") (by assumption) | exact G.But.new (by walk_at "but") (by assumption) | exact G.But.self (by walk_at "but")
  | exact G.But.trans' (by assumption) (by walk_at "but") | exact G.But.trans' (G.Same.but (by assumption)) (by walk_at "but"))
local macro_rules | `(tactic| walk_at "same") => `(tactic| first
  | assumption | exact L2.Same.refl _
  | exact G.same_mut (by walk_at "same") (by assumption) | exact G.Same.trans' (G.same_new (by assumption)) (by walk_at "same") | exact G.Same.trans' (by assumption) (by walk_at "same"))
local macro_rules | `(tactic| walk_at "sq") => `(tactic| first
  | assumption | exact G.SqL.same (by assumption) (by walk_at "same") | exact L2.SqL.of (by walk_at "hp"))
local macro_rules | `(tactic| walk_at "at") => `(tactic| first
  | assumption | exact L2.atI_nat (by assumption) | exact G.at0 | exact G.at1 | exact G.at2 | exact G.at3 | exact G.at4)
local macro_rules | `(tactic| walk_at "ix") => `(tactic| first
  | assumption | exact G.ix0 | exact G.ix1 | exact G.ix2)
local macro_rules | `(tactic| walk_at "ar") => `(tactic| first | assumption | omega | decide)
local macro_rules | `(tactic| walk_at "one") => `(tactic| (with_reducible first
  | refine' G.w_seq ?_ | refine' G.w_asg ?_ | (refine' G.w_var ?g1 ?_; (case g1 => with_unfolding_all rfl)) | refine' G.w_c ?_ | refine' G.w_name ?_ | refine' G.w_op ?_
  | refine' G.w_oAdd ?_ | refine' G.w_oSub ?_ | (refine' G.w_oMulR ?g1 ?g2 ?_; (case g1 => walk_at "ar"); (case g2 => walk_at "ar")) | (refine' G.w_oMulL ?g1 ?g2 ?_; (case g1 => walk_at "ar"); (case g2 => walk_at "ar")) | (refine' G.w_oDiv ?g1 ?g2 ?_; (case g1 => walk_at "ar"); (case g2 => walk_at "ar")) | (refine' G.w_oMod ?g1 ?_; (case g1 => walk_at "ar")) | (refine' G.w_oPow ?g1 ?g2 ?g3 ?_; (case g1 => walk_at "ar"); (case g2 => walk_at "ar"); (case g3 => with_unfolding_all decide))
  | refine' G.w_oLt ?_ | refine' G.w_oLe ?_ | refine' G.w_oGt ?_ | refine' G.w_oGe ?_ | refine' G.w_un ?_ | refine' G.w_oNeg ?_ | refine' G.w_brk ?_ | refine' G.w_cont ?_ | refine' G.w_eqI ?_ | refine' G.w_neI ?_ | refine' G.w_eqB ?_
  | refine' G.w_cons ?_ | refine' G.w_nil ?_ | refine' G.w_ex ?_ | refine' G.w_exI ?_
  | refine' G.w_ret ?_ | refine' G.w_drop ?_ | refine' G.w_next ?_ | refine' G.w_retN ?_ | refine' G.w_if ?_ | refine' G.w_test ?_ | refine' G.w_tB ?_ | refine' G.w_ifE ?_
  | refine' G.w_iteT ?_ | refine' G.w_iteF ?_
  | refine' G.w_cb ?_ | refine' G.w_oInt ?_ | refine' G.w_oAbs ?_ | refine' G.w_oMax2 ?_ | refine' G.w_oMin2 ?_ | refine' G.w_call ?_ | refine' G.w_meth ?_ | refine' G.w_make ?_
  | refine' G.w_tup ?_ | refine' G.w_lst ?_ | (refine' G.w_small ?g1 ?_; (case g1 => with_unfolding_all exact Nat.le_of_ble_eq_true rfl))
  | (refine' G.w_ixL ?g1 ?g2 ?_; (case g1 => walk_at "sq"); (case g2 => with_unfolding_all walk_at "at"))
  | (refine' G.w_ixT ?g1 ?g2 ?_; (case g1 => walk_at "hp"); (case g2 => with_unfolding_all walk_at "at"))
  | (refine' G.w_lenL ?g1 ?_; (case g1 => walk_at "sq")) | (refine' G.w_listL ?g1 ?_; (case g1 => walk_at "sq")) | (refine' G.w_sum ?g1 ?_; (case g1 => walk_at "sq"))
  | refine' G.w_bm ?_ | refine' G.w_bm0 ?_ | (refine' G.w_tyL ?g1 ?_; (case g1 => walk_at "sq"))
  | (refine' G.w_append ?g1 ?g2 ?_; (case g1 => walk_at "hp"); (case g2 => walk_at "sz"))
  | refine' G.w_sub ?_ | (refine' G.w_setL ?g1 ?g2 ?_; (case g1 => walk_at "hp"); (case g2 => with_unfolding_all walk_at "ix"))
  | (refine' G.w_cat ?g1 ?g2 ?g3 ?_; (case g1 => walk_at "hp"); (case g2 => walk_at "hp"); (case g3 => walk_at "sz"))
  | refine' G.w_sl ?_ | refine' G.w_noPart ?_ | refine' G.w_part ?_ | (refine' G.w_slL ?g1 ?_; (case g1 => walk_at "sq"))
  | refine' G.w_gCons ?_ | refine' G.w_gNil ?_ | (refine' G.w_gTup ?g1 ?g2 ?_; (case g1 => walk_at "hp"); (case g2 => with_unfolding_all rfl))
  | refine' G.w_chain ?_ | refine' G.w_and ?_ | refine' G.w_or ?_ | refine' G.w_not ?_ | refine' G.w_andV ?_ | refine' G.w_orV ?_ | refine' G.w_notV ?_
  | refine' G.w_listRg ?_ | refine' G.w_rg1 ?_ | refine' G.w_augS ?_ | refine' G.w_ipI ?_
  | refine' G.w_fld ?_ | refine' G.w_sfld ?_ | refine' G.w_yes ?_ | refine' G.w_exA ?_ | refine' G.w_exA2 ?_ | refine' G.w_exR ?_ | refine' G.w_exRA ?_
  | (refine' G.w_acc ?g1 ?g2 ?_; (case g1 => walk_at "hp"); (case g2 => walk_at "sz"))
  | refine' G.w_forR1 ?_ | refine' G.w_forR2 ?_ | refine' G.w_forL ?_ | refine' G.w_forZ ?_ | refine' G.w_forE ?_ | refine' G.w_lcR1 ?_ | refine' G.w_lcL ?_
  | (refine' G.w_bd1 ?g1 ?g2 ?_; (case g1 => walk_at "ar"); (case g2 => walk_at "ar"))
  | (refine' G.w_bd2 ?g1 ?g2 ?g3 ?g4 ?_; (case g1 => walk_at "ar"); (case g2 => walk_at "ar"); (case g3 => walk_at "ar"); (case g4 => walk_at "ar"))
  | (refine' G.w_sqE ?g1 ?_; (case g1 => walk_at "sq"))
  | (refine' G.w_wipe ?g1 ?_; (case g1 => with_unfolding_all rfl)) | refine' G.w_lcT ?_ | refine' G.w_lcTif ?_
  | (refine' G.w_augName ?g1 ?_; (case g1 => with_unfolding_all rfl))
  | walk_at "call"))
local macro_rules | `(tactic| walk_at "sz") => `(tactic| first | assumption | exact L2.small1000 (by omega) | omega | exact L2.small1000 (by simp only [List.length_map, List.length_append, List.length_cons, List.length_nil, List.length_range, List.length_take, List.length_drop, List.length_set]; omega) | exact Nat.le_of_lt (L2.small1000 (by simp only [List.length_map, List.length_append, List.length_cons, List.length_nil, List.length_range, List.length_take, List.length_drop, List.length_set]; omega)))
local macro_rules | `(tactic| walk_at "go") => `(tactic| repeat walk_at "one")

/-! the mathematics of heights -/
namespace M
def ho (b n w : Int) : Int := if n = 0 then b + 1 else if n = 1 ∧ b ≥ w then 1 else 0
def lo (b n w : Int) : Int := if n ≥ 2 then 0 else if n = 1 then (if b ≥ w then 1 else 0) else b + 1
theorem lo_eq {b n w : Int} (h : 0 ≤ n) : lo b n w = ho b n w := by
  unfold lo ho
  by_cases h0 : n = 0
  · subst h0; simp
  · by_cases h1 : n = 1
    · subst h1; simp
    · rw [if_pos (by omega), if_neg h0, if_neg (by omega)]
/-- heights of the pages of a chain given from its end: hscan b of the reversed chain -/
def hscan (w : Int) : Int → List Int → List Int
  | _, [] => []
  | b, n :: r => ho b n w :: hscan w (ho b n w) r
/-- the height that stands after a reversed chain -/
def hlast (w : Int) : Int → List Int → Int
  | b, [] => b
  | b, n :: r => hlast w (ho b n w) r
theorem hscan_snoc (w b : Int) (xs : List Int) (n : Int) : hscan w b (xs ++ [n]) = hscan w b xs ++ [ho (hlast w b xs) n w] := by
  induction xs generalizing b with
  | nil => rfl
  | cons x r ih => simp [hscan, hlast, ih]
theorem hlast_snoc (w b : Int) (xs : List Int) (n : Int) : hlast w b (xs ++ [n]) = ho (hlast w b xs) n w := by
  induction xs generalizing b with
  | nil => rfl
  | cons x r ih => simp [hlast, ih]
theorem hscan_length (w b : Int) (xs : List Int) : (hscan w b xs).length = xs.length := by
  induction xs generalizing b with
  | nil => rfl
  | cons x r ih => simp [hscan, ih]
/-- the heights from the top, and the height of the first page -/
def hts (w : Int) (c : List Int) : List Int := (hscan w 0 c.reverse).reverse
def ht (w : Int) : List Int → Int
  | [] => 0
  | n :: r => ho (ht w r) n w
theorem ht_c (w n : Int) (r : List Int) : ht w (n :: r) = ho (ht w r) n w := rfl
theorem ho0 (b w : Int) : ho b 0 w = b + 1 := rfl
theorem hlast_rev (w : Int) (c : List Int) : hlast w 0 c.reverse = ht w c := by
  induction c with
  | nil => rfl
  | cons n r ih => rw [List.reverse_cons, hlast_snoc, ih]; rfl
theorem hts_cons (w n : Int) (r : List Int) : hts w (n :: r) = ht w (n :: r) :: hts w r := by
  unfold hts; rw [List.reverse_cons, hscan_snoc, List.reverse_append, hlast_rev]; rfl
theorem hts_nil (w : Int) : hts w [] = [] := rfl
theorem hts_length (w : Int) (c : List Int) : (hts w c).length = c.length := by unfold hts; simp [hscan_length]
theorem hts_get (w : Int) (c : List Int) (i : Nat) (h : i < c.length) : (hts w c)[i]? = some (ht w (c.drop i)) := by
  induction c generalizing i with
  | nil => simp at h
  | cons n r ih =>
    rw [hts_cons]
    cases i with
    | zero => rfl
    | succ i => simp at h; simpa using ih i h
/-- keepable: no height above w -/
def keep (w : Int) (c : List Int) : Bool := !(hts w c).any fun h => decide (h > w)
/-- the search of a stretch from a place on: fuel, the rest from the place -/
def seek (w : Nat) : Nat → List Int → Bool
  | 0, _ => false
  | _ + 1, [] => false
  | f + 1, n :: r => if n > 1 then false else if n = 0 then true else if (r.take (w - 1)).any (fun z => decide (z ≠ 0)) then false else seek w f (r.drop (w - 1))
/-- the law's search -/
def stretch (w : Nat) (c : List Int) : Bool :=
  (List.range (c.length - w)).any fun s => !((c.drop s).take w).any (fun z => decide (z ≠ 0)) && seek w c.length (c.drop (s + w))

theorem ht_nonneg (w : Int) (c : List Int) : 0 ≤ ht w c := by
  induction c with
  | nil => exact Int.le_refl 0
  | cons n r ih => unfold ht ho; split <;> (try split) <;> omega

theorem ht_zeros (w : Int) : ∀ (k : Nat) (r : List Int), (r.take k).any (fun z => decide (z ≠ 0)) = false → k ≤ r.length → ht w r = (k : Int) + ht w (r.drop k)
  | 0, r, _, _ => by simp
  | k + 1, [], _, h => by simp at h
  | k + 1, n :: r, ha, h => by
    simp only [List.take_succ_cons, List.any_cons, Bool.or_eq_false_iff, decide_eq_false_iff_not, Decidable.not_not] at ha
    obtain ⟨rfl, h2⟩ := ha
    have := ht_zeros w k r h2 (by simpa using h)
    simp only [List.drop_succ_cons]
    rw [ht_c, ho0, this]; omega
/-- a found stretch makes a height of at least 1 at its place (all entries at least 0) -/
theorem seek_ht (w : Nat) (hw : 1 ≤ w) : ∀ (f : Nat) (c : List Int), (∀ n ∈ c, 0 ≤ n) → seek w f c = true → 1 ≤ ht w c
  | 0, c, _, h => by simp [seek] at h
  | f + 1, [], _, h => by simp [seek] at h
  | f + 1, n :: r, h0, h => by
    have hn : 0 ≤ n := h0 n (by simp)
    unfold seek at h
    by_cases h1 : n > 1
    · rw [if_pos h1] at h; simp at h
    rw [if_neg h1] at h
    by_cases h2 : n = 0
    · subst h2
      have := ht_nonneg w r
      unfold ht ho; rw [if_pos rfl]; omega
    rw [if_neg h2] at h
    have h3 : n = 1 := by omega
    subst h3
    by_cases h4 : (r.take (w - 1)).any (fun z => decide (z ≠ 0)) = true
    · rw [if_pos h4] at h; simp at h
    rw [if_neg h4] at h
    have h4 : (r.take (w - 1)).any (fun z => decide (z ≠ 0)) = false := by simpa using h4
    have h5 := seek_ht w hw f (r.drop (w - 1)) (fun z hz => h0 z (List.mem_cons_of_mem _ (List.mem_of_mem_drop hz))) h
    have hl : w - 1 ≤ r.length := by
      by_cases hc : w - 1 ≤ r.length
      · exact hc
      · rw [List.drop_eq_nil_of_le (by omega)] at h
        cases f <;> simp [seek] at h
    have := ht_zeros w (w - 1) r h4 hl
    unfold ht ho
    rw [if_neg (by decide), if_pos ⟨rfl, by omega⟩]; omega
theorem keep_false {w : Nat} {c : List Int} (h : keep w c = false) : ∃ i, i < c.length ∧ ht w (c.drop i) > w := by
  unfold keep at h
  simp only [Bool.not_eq_false', List.any_eq_true, decide_eq_true_eq] at h
  obtain ⟨x, hx, hg⟩ := h
  obtain ⟨i, hi, e⟩ := List.getElem_of_mem hx
  have hl : i < c.length := by rw [hts_length] at hi; exact hi
  have := hts_get w c i hl
  rw [List.getElem?_eq_getElem hi, e] at this
  exact ⟨i, hl, by rw [← Option.some.inj this]; exact hg⟩
theorem keep_true {w : Nat} {c : List Int} (h : keep w c = true) : ∀ i, i < c.length → ht w (c.drop i) ≤ w := by
  intro i hi
  unfold keep at h
  simp only [Bool.not_eq_true', List.any_eq_false, decide_eq_true_eq] at h
  have := hts_get w c i hi
  have hm : ht w (c.drop i) ∈ hts w c := List.mem_of_getElem? this
  have := h _ hm
  omega
theorem keep_of {w : Nat} {c : List Int} (h : ∀ i, i < c.length → ht w (c.drop i) ≤ w) : keep w c = true := by
  cases hk : keep w c with
  | true => rfl
  | false => obtain ⟨i, hi, hg⟩ := keep_false hk; have := h i hi; omega
/-- the run of zeros that a height wants -/
theorem zeros_of (w : Int) : ∀ (k : Nat) (c : List Int), (k : Int) + 1 ≤ ht w c → (c.take k).any (fun z => decide (z ≠ 0)) = false ∧ k < c.length ∧ ht w (c.drop k) = ht w c - k
  | 0, [], h => by simp [ht] at h
  | 0, n :: r, h => by simp
  | k + 1, [], h => by simp [ht] at h; omega
  | k + 1, n :: r, h => by
    have e : n = 0 ∧ ht w (n :: r) = ht w r + 1 := by
      rw [ht_c] at h ⊢
      by_cases h0 : n = 0
      · exact ⟨h0, by rw [h0, ho0]⟩
      · unfold ho at h
        rw [if_neg h0] at h
        split at h <;> omega
    obtain ⟨rfl, e⟩ := e
    obtain ⟨h1, h2, h3⟩ := zeros_of w k r (by omega)
    refine ⟨by simpa using h1, by simp; omega, ?_⟩
    rw [List.drop_succ_cons, h3, e]; omega
/-- from a height 1 below which no height exceeds w the search finds -/
theorem seek_of (w : Nat) (hw : 1 ≤ w) : ∀ (f : Nat) (c : List Int), (∀ n ∈ c, 0 ≤ n) → c.length ≤ f → ht w c = 1 → (∀ i, 0 < i → i < c.length → ht w (c.drop i) ≤ w) → seek w f c = true
  | f, [], _, _, h, _ => by simp [ht] at h
  | 0, n :: r, _, hl, _, _ => by simp at hl
  | f + 1, n :: r, h0, hl, h, hk => by
    have hn : 0 ≤ n := h0 n (by simp)
    unfold seek
    by_cases h2 : n = 0
    · subst h2; simp
    by_cases h3 : n = 1
    · subst h3
      rw [if_neg (by decide), if_neg (by decide)]
      have hr : ht w r ≥ w := by
        unfold ht ho at h
        rw [if_neg (by decide)] at h
        by_cases hc : (1 : Int) = 1 ∧ ht w r ≥ w
        · exact hc.2
        · rw [if_neg hc] at h; omega
      have hr2 : ht w r ≤ w := by
        cases r with
        | nil => unfold ht; omega
        | cons x xs => simpa using hk 1 (by omega) (by simp)
      obtain ⟨z1, z2, z3⟩ := zeros_of w (w - 1) r (by omega)
      rw [z1]
      simp only [Bool.false_eq_true, if_false]
      refine seek_of w hw f (r.drop (w - 1)) (fun z hz => h0 z (List.mem_cons_of_mem _ (List.mem_of_mem_drop hz))) ?_ (by omega) ?_
      · simp at hl ⊢; omega
      · intro i hi hi2
        have := hk (1 + (w - 1) + i) (by omega) (by simp at hi2 ⊢; omega)
        have e : (1 :: r).drop (1 + (w - 1) + i) = (r.drop (w - 1)).drop i := by
          rw [List.drop_drop, show 1 + (w - 1) + i = (w - 1 + i) + 1 by omega, List.drop_succ_cons]
        rw [e] at this; exact this
    · exfalso
      unfold ht ho at h
      rw [if_neg h2, if_neg (by omega)] at h; omega
/-- the last place of a height above w -/
theorem last_high {w : Nat} {c : List Int} (h : keep w c = false) : ∃ i, i < c.length ∧ ht w (c.drop i) > w ∧ ∀ j, i < j → j < c.length → ht w (c.drop j) ≤ w := by
  obtain ⟨i, hi, hg⟩ := keep_false h
  obtain ⟨m, hm⟩ : ∃ m, m = c.length - i := ⟨_, rfl⟩
  induction m using Nat.strongRecOn generalizing i with
  | _ m ih =>
    by_cases hc : ∃ j, i < j ∧ j < c.length ∧ ht w (c.drop j) > w
    · obtain ⟨j, h1, h2, h3⟩ := hc
      exact ih (c.length - j) (by omega) j h2 h3 rfl
    · exact ⟨i, hi, hg, fun j h1 h2 => by
        by_cases hj : ht w (c.drop j) ≤ w
        · exact hj
        · exact absurd ⟨j, h1, h2, by omega⟩ hc⟩
theorem ht_drop_succ {w : Int} {c : List Int} {i : Nat} (h : i < c.length) : ht w (c.drop i) = ho (ht w (c.drop (i + 1))) c[i] w := by
  rw [List.drop_eq_getElem_cons h]; rfl
theorem stretch_keep (w : Nat) (hw : 1 ≤ w) (c : List Int) (h0 : ∀ n ∈ c, 0 ≤ n) : stretch w c = !keep w c := by
  cases hk : keep w c with
  | true =>
    simp only [Bool.not_true]
    unfold stretch
    rw [List.any_eq_false]
    intro s hs
    have hs : s < c.length - w := by simpa using hs
    simp only [Bool.and_eq_true, Bool.not_eq_true', not_and, Bool.not_eq_true]
    intro hz
    cases hf : seek w c.length (c.drop (s + w)) with
    | false => rfl
    | true =>
      exfalso
      have h1 := seek_ht w hw _ _ (fun z hz => h0 z (List.mem_of_mem_drop hz)) hf
      have h2 := ht_zeros w w (c.drop s) hz (by simp; omega)
      rw [List.drop_drop] at h2
      have h3 := keep_true hk s (by omega)
      omega
  | false =>
    simp only [Bool.not_false]
    obtain ⟨i, hi, hg, hl⟩ := last_high hk
    have hle : ht w (c.drop i) = w + 1 := by
      have h4 : ht w (c.drop (i + 1)) ≤ w := by
        by_cases hc : i + 1 < c.length
        · exact hl _ (by omega) hc
        · rw [List.drop_eq_nil_of_le (by omega)]; unfold ht; omega
      have := ht_drop_succ (w := w) hi
      rw [this] at hg ⊢
      unfold ho at hg ⊢
      split at hg
      · rename_i e; rw [if_pos e]; omega
      · split at hg <;> omega
    obtain ⟨z1, z2, z3⟩ := zeros_of w w (c.drop i) (by omega)
    rw [List.drop_drop] at z3
    have hlen : i + w < c.length := by simp at z2; omega
    unfold stretch
    rw [List.any_eq_true]
    refine ⟨i, by simp; omega, ?_⟩
    rw [z1]
    simp only [Bool.not_false, Bool.true_and]
    refine seek_of w hw _ _ (fun z hz => h0 z (List.mem_of_mem_drop hz)) (by simp) (by omega) ?_
    intro j hj hj2
    rw [List.drop_drop]
    exact hl _ (by omega) (by simp at hj2; omega)
end M
namespace M
theorem take_snoc {α : Type} (l : List α) (i : Nat) (h : i < l.length) : l.take i ++ [l[i]] = l.take (i + 1) := by
  induction l generalizing i with
  | nil => simp at h
  | cons x r ih =>
    cases i with
    | zero => simp
    | succ i => simp at h; simp [h]
end M

/-! the mathematics of the attack -/
namespace M
/-- from page a on: w pages without a line, then k times a page with one and w - 1 without, then one without -/
def Pat (w : Nat) (c : List Int) (a k : Nat) : Prop := a + (k + 1) * w < c.length ∧ ∀ i, i ≤ (k + 1) * w → c[a + i]? = some (if i % w = 0 ∧ i ≠ 0 ∧ i ≠ (k + 1) * w then 1 else 0)
theorem zeros_get : ∀ (k : Nat) (c : List Int), (c.take k).any (fun z => decide (z ≠ 0)) = false → k ≤ c.length → ∀ i, i < k → c[i]? = some 0
  | 0, _, _, _, i, h => by omega
  | k + 1, [], _, h, _, _ => by simp at h
  | k + 1, n :: r, ha, h, i, hi => by
    simp only [List.take_succ_cons, List.any_cons, Bool.or_eq_false_iff, decide_eq_false_iff_not, Decidable.not_not] at ha
    obtain ⟨rfl, h2⟩ := ha
    cases i with
    | zero => rfl
    | succ i => simpa using zeros_get k r h2 (by simpa using h) i (by omega)
theorem get_drop {c : List Int} {a i : Nat} {v : Int} (h : (c.drop a)[i]? = some v) : c[a + i]? = some v := by rwa [List.getElem?_drop] at h
/-- the place e of a row so far: all as in Pat, the page at e still open -/
def Run (w : Nat) (c : List Int) (a k : Nat) : Prop := ht w (c.drop (a + (k + 1) * w)) = 1 ∧ (∀ j, a < j → j < c.length → ht w (c.drop j) ≤ w) ∧
  ∀ i, i < (k + 1) * w → c[a + i]? = some (if i % w = 0 ∧ i ≠ 0 then 1 else 0)
theorem Run.lt {w : Nat} {c : List Int} {a k : Nat} (h : Run w c a k) : a + (k + 1) * w < c.length := by
  by_cases hc : a + (k + 1) * w < c.length
  · exact hc
  · have := h.1
    rw [List.drop_eq_nil_of_le (by omega)] at this
    unfold ht at this; omega
theorem Run.first {w : Nat} (hw : 1 ≤ w) {c : List Int} {a : Nat} (ha : a < c.length) (hg : ht w (c.drop a) > w) (hl : ∀ j, a < j → j < c.length → ht w (c.drop j) ≤ w) : Run w c a 0 := by
  have hle : ht w (c.drop a) = w + 1 := by
    have h4 : ht w (c.drop (a + 1)) ≤ w := by
      by_cases hc : a + 1 < c.length
      · exact hl _ (by omega) hc
      · rw [List.drop_eq_nil_of_le (by omega)]; unfold ht; omega
    have := ht_drop_succ (w := w) ha
    rw [this] at hg ⊢
    unfold ho at hg ⊢
    split at hg
    · rename_i e; rw [if_pos e]; omega
    · split at hg <;> omega
  obtain ⟨z1, z2, z3⟩ := zeros_of w w (c.drop a) (by omega)
  rw [List.drop_drop] at z3
  refine ⟨?_, hl, fun i hi => ?_⟩
  · rw [show a + (0 + 1) * w = a + w by omega, z3, hle]; omega
  · have hi : i < w := by omega
    have := get_drop (zeros_get w (c.drop a) z1 (by omega) i hi)
    rw [this, Nat.mod_eq_of_lt hi]
    by_cases c0 : i = 0
    · rw [if_neg (by omega)]
    · rw [if_neg (by omega)]
theorem Run.next {w : Nat} (hw : 1 ≤ w) {c : List Int} {a k : Nat} (h : Run w c a k) (h1 : c[a + (k + 1) * w]? = some 1) : Run w c a (k + 1) := by
  have hlt := h.lt
  have hk1 : (k + 1 + 1) * w = (k + 1) * w + w := by rw [Nat.add_mul (k + 1) 1 w]; omega
  obtain ⟨e1, hl, hz⟩ := h
  generalize hp : a + (k + 1) * w = p at *
  rw [List.getElem?_eq_getElem hlt] at h1
  have h1 : c[p] = 1 := Option.some.inj h1
  have hd := ht_drop_succ (w := w) hlt
  rw [e1, h1] at hd
  unfold ho at hd
  rw [if_neg (by decide)] at hd
  have hr : ht w (c.drop (p + 1)) ≥ w := by
    by_cases hc : (1 : Int) = 1 ∧ ht w (c.drop (p + 1)) ≥ w
    · exact hc.2
    · rw [if_neg hc] at hd; omega
  have hr2 : ht w (c.drop (p + 1)) ≤ w := by
    by_cases hc : p + 1 < c.length
    · exact hl _ (by omega) hc
    · rw [List.drop_eq_nil_of_le (by omega)]; unfold ht; omega
  obtain ⟨z1, z2, z3⟩ := zeros_of w (w - 1) (c.drop (p + 1)) (by omega)
  rw [List.drop_drop] at z3
  refine ⟨?_, hl, fun i hi => ?_⟩
  · rw [hk1, show a + ((k + 1) * w + w) = p + 1 + (w - 1) by omega, z3]; omega
  · by_cases c1 : i < (k + 1) * w
    · exact hz i c1
    · by_cases c2 : i = (k + 1) * w
      · subst c2
        rw [hp, List.getElem?_eq_getElem hlt, h1, if_pos]
        refine ⟨Nat.mul_mod_left _ _, ?_⟩
        have : 1 * 1 ≤ (k + 1) * w := Nat.mul_le_mul (by omega) hw
        omega
      · obtain ⟨j, rfl⟩ : ∃ j, i = (k + 1) * w + 1 + j := ⟨i - (k + 1) * w - 1, by omega⟩
        have := get_drop (zeros_get (w - 1) (c.drop (p + 1)) z1 (by omega) j (by omega))
        rw [show a + ((k + 1) * w + 1 + j) = p + 1 + j by omega, this, if_neg]
        intro hh
        have : ((k + 1) * w + 1 + j) % w = (1 + j) % w := by rw [Nat.add_assoc, Nat.mul_comm, Nat.mul_add_mod]
        rw [this, Nat.mod_eq_of_lt (by omega)] at hh
        omega
theorem Run.done {w : Nat} {c : List Int} {a k : Nat} (h : Run w c a k) (h0 : ∀ n ∈ c, 0 ≤ n) (h1 : c[a + (k + 1) * w]? ≠ some 1) : Pat w c a k := by
  have hlt := h.lt
  obtain ⟨e1, hl, hz⟩ := h
  refine ⟨hlt, fun i hi => ?_⟩
  by_cases c1 : i < (k + 1) * w
  · rw [hz i c1]
    by_cases c2 : i % w = 0 ∧ i ≠ 0
    · rw [if_pos c2, if_pos ⟨c2.1, c2.2, by omega⟩]
    · rw [if_neg c2, if_neg (fun e => c2 ⟨e.1, e.2.1⟩)]
  · have : i = (k + 1) * w := by omega
    subst this
    rw [if_neg (by omega)]
    rw [List.getElem?_eq_getElem hlt] at h1 ⊢
    have hd := ht_drop_succ (w := w) hlt
    rw [e1] at hd
    unfold ho at hd
    congr 1
    by_cases c3 : c[a + (k + 1) * w] = 0
    · exact c3
    · rw [if_neg c3] at hd
      split at hd
      · rename_i q; exact absurd (by rw [q.1]) h1
      · omega
/-- the row of the attack -/
def row (w a k : Nat) : List Int := (List.range (k + 1)).map fun j => ((a + (k + 1) * w : Nat) : Int) + ((j : Nat) : Int) * -((w : Nat) : Int)
theorem row_get {w a k j : Nat} (hj : j ≤ k) : (row w a k)[j]? = some ((a + (k - j + 1) * w : Nat) : Int) := by
  unfold row
  rw [List.getElem?_map, List.getElem?_range (by omega)]
  show some (((a + (k + 1) * w : Nat) : Int) + ((j : Nat) : Int) * -((w : Nat) : Int)) = _
  congr 1
  have e : (k + 1) * w = (k - j + 1) * w + j * w := by rw [← Nat.add_mul]; congr 1; omega
  rw [e, Int.mul_neg, ← Int.natCast_mul]
  omega
/-- what the law's closing takes along: the pages that must be copied -/
def bl (pg : Int) (W : List Int) : Nat → List Int → Bool
  | _, [] => false
  | i, n :: r => decide ((i : Int) ∈ W) || decide ((if (i : Int) = pg then 1 else 0) + (if bl pg W (i + 1) r then 1 else 0) > n)
def clo (c : List Int) (pg : Int) (W : List Int) : List Nat := (List.range c.length).filter fun i => bl pg W i (c.drop i)
theorem bl_drop {pg : Int} {W c : List Int} {i : Nat} {n : Int} (h : c[i]? = some n) :
    bl pg W i (c.drop i) = (decide ((i : Int) ∈ W) || decide ((if (i : Int) = pg then 1 else 0) + (if bl pg W (i + 1) (c.drop (i + 1)) then 1 else 0) > n)) := by
  obtain ⟨hi, e⟩ := List.getElem?_eq_some_iff.mp h
  rw [List.drop_eq_getElem_cons hi, e]; rfl
def aft (c : List Int) (K pg : Int) (S : List Int) : List Int := (List.range c.length).map fun (i : Nat) => if (i : Int) ∈ S then K else c.getD i 0 - (if (i : Int) = pg then 1 else 0) - (if ((i : Int) + 1) ∈ S then 1 else 0)
theorem aft_len (c : List Int) (K pg : Int) (S : List Int) : (aft c K pg S).length = c.length := by unfold aft; simp
/-- the zeros above the updated page must be copied -/
theorem bl_up {w : Nat} {c : List Int} {a k : Nat} (h : Pat w c a k) (W : List Int) : ∀ t, t ≤ (if k = 0 then w else w - 1) → bl ((a + (k + 1) * w : Nat) : Int) W (a + (k + 1) * w - t) (c.drop (a + (k + 1) * w - t)) = true
  | 0, _ => by
    have := h.2 ((k + 1) * w) (Nat.le_refl _)
    rw [if_neg (by omega)] at this
    rw [Nat.sub_zero, bl_drop this]
    simp only [if_true, Bool.or_eq_true, decide_eq_true_eq]
    right; split <;> omega
  | t + 1, ht => by
    have ih := bl_up h W t (by omega)
    have hk : w ≤ (k + 1) * w := Nat.le_mul_of_pos_left _ (by omega)
    have htw : t + 1 ≤ w := by split at ht <;> omega
    have e := h.2 ((k + 1) * w - (t + 1)) (by omega)
    rw [if_neg] at e
    · rw [show a + ((k + 1) * w - (t + 1)) = a + (k + 1) * w - (t + 1) by omega] at e
      rw [bl_drop e, show a + (k + 1) * w - (t + 1) + 1 = a + (k + 1) * w - t by omega, ih]
      simp only [if_true, Bool.or_eq_true, decide_eq_true_eq]
      right; split <;> omega
    · rintro ⟨h1, h2, h3⟩
      by_cases k0 : k = 0
      · subst k0
        rw [show (0 + 1) * w = w by omega] at h1 h2
        rw [Nat.mod_eq_of_lt (by omega)] at h1; omega
      · rw [if_neg k0] at ht
        have e2 : (k + 1) * w - (t + 1) = k * w + (w - (t + 1)) := by rw [Nat.add_mul]; omega
        rw [e2, Nat.mul_comm, Nat.mul_add_mod, Nat.mod_eq_of_lt (by omega)] at h1; omega
theorem nodup_clo (c : List Int) (pg : Int) (W : List Int) : (clo c pg W).Nodup := by unfold clo; exact List.Nodup.sublist List.filter_sublist List.nodup_range
/-- n different numbers from lo on in a duplicate-free list make it at least that long -/
theorem len_ge {l : List Nat} {lo n : Nat} (h : ∀ t, t < n → lo + t ∈ l) : n ≤ l.length := by
  have hs : (List.range n).map (fun t => lo + t) ⊆ l := fun x hx => by
    obtain ⟨t, ht, rfl⟩ := List.mem_map.mp hx
    exact h t (by simpa using ht)
  have hn : ((List.range n).map fun t => lo + t).Nodup := by
    rw [List.nodup_iff_pairwise_ne, List.pairwise_map]
    exact (List.nodup_iff_pairwise_ne.mp List.nodup_range).imp fun h => by omega
  have := hn.length_le_of_subset hs
  simpa using this
theorem clo_mem {c : List Int} {pg : Int} {W : List Int} {i : Nat} : i ∈ clo c pg W ↔ i < c.length ∧ bl pg W i (c.drop i) = true := by unfold clo; simp
theorem win_last {w : Nat} {c : List Int} {a : Nat} (h : Pat w c a 0) (W : List Int) : w + 1 ≤ (clo c ((a + (0 + 1) * w : Nat) : Int) W).length := by
  refine len_ge (lo := a) fun t ht => ?_
  have := bl_up h W (w - t) (by rw [if_pos rfl]; omega)
  have hl := h.1
  rw [clo_mem]
  refine ⟨by omega, ?_⟩
  rw [show a + (0 + 1) * w - (w - t) = a + t by omega] at this
  exact this
/-- an answer of at most w pages copies just the zeros above the updated page -/
theorem clo_is {w : Nat} (hw : 1 ≤ w) {c : List Int} {a k : Nat} (h : Pat w c a (k + 1)) {W : List Int} (hl : (clo c ((a + (k + 1 + 1) * w : Nat) : Int) W).length ≤ w) :
    ∀ i, i ∈ clo c ((a + (k + 1 + 1) * w : Nat) : Int) W ↔ a + (k + 1) * w < i ∧ i ≤ a + (k + 1 + 1) * w := by
  have e2 : (k + 1 + 1) * w = (k + 1) * w + w := by rw [Nat.add_mul (k + 1) 1 w]; omega
  have hin : ∀ t, t < w → a + (k + 1) * w + 1 + t ∈ clo c ((a + (k + 1 + 1) * w : Nat) : Int) W := fun t ht => by
    have := bl_up h W (w - 1 - t) (by rw [if_neg (by omega)]; omega)
    have hlt := h.1
    rw [clo_mem]
    refine ⟨by omega, ?_⟩
    rw [show a + (k + 1 + 1) * w - (w - 1 - t) = a + (k + 1) * w + 1 + t by omega] at this
    exact this
  intro i
  constructor
  · intro hi
    by_cases hc : a + (k + 1) * w < i ∧ i ≤ a + (k + 1 + 1) * w
    · exact hc
    · exfalso
      have hs : i :: (List.range w).map (fun t => a + (k + 1) * w + 1 + t) ⊆ clo c ((a + (k + 1 + 1) * w : Nat) : Int) W := fun x hx => by
        rcases List.mem_cons.mp hx with rfl | hx
        · exact hi
        · obtain ⟨t, ht, rfl⟩ := List.mem_map.mp hx
          exact hin t (by simpa using ht)
      have hn : (i :: (List.range w).map fun t => a + (k + 1) * w + 1 + t).Nodup := by
        rw [List.nodup_cons]
        refine ⟨fun hx => ?_, ?_⟩
        · obtain ⟨t, ht, rfl⟩ := List.mem_map.mp hx
          have : t < w := by simpa using ht
          omega
        · rw [List.nodup_iff_pairwise_ne, List.pairwise_map]
          exact (List.nodup_iff_pairwise_ne.mp List.nodup_range).imp fun h => by omega
      have := hn.length_le_of_subset hs
      rw [List.length_cons, List.length_map, List.length_range] at this; omega
  · intro hi
    have := hin (i - (a + (k + 1) * w + 1)) (by omega)
    rwa [show a + (k + 1) * w + 1 + (i - (a + (k + 1) * w + 1)) = i by omega] at this
def nums (l : List Nat) : List Int := l.map fun (i : Nat) => (i : Int)
theorem ints_mem {l : List Nat} {i : Nat} : (i : Int) ∈ nums l ↔ i ∈ l := by
  unfold nums
  rw [List.mem_map]
  constructor
  · rintro ⟨j, hj, e⟩
    have : j = i := by omega
    rwa [← this]
  · exact fun h => ⟨i, h, rfl⟩
theorem pat_next {w : Nat} (hw : 1 ≤ w) {c : List Int} {a k : Nat} (h : Pat w c a (k + 1)) {W : List Int} {K : Int} (hl : (clo c ((a + (k + 1 + 1) * w : Nat) : Int) W).length ≤ w) :
    Pat w (aft c K ((a + (k + 1 + 1) * w : Nat) : Int) (nums (clo c ((a + (k + 1 + 1) * w : Nat) : Int) W))) a k := by
  have hm := clo_is hw h hl
  have e2 : (k + 1 + 1) * w = (k + 1) * w + w := by rw [Nat.add_mul (k + 1) 1 w]; omega
  have hlt := h.1
  refine ⟨by rw [aft_len]; omega, fun i hi => ?_⟩
  unfold aft
  rw [List.getElem?_map, List.getElem?_range (by omega)]
  rw [Option.map_some]
  congr 1
  have m1 : ¬ (((a + i : Nat) : Int) ∈ nums (clo c ((a + (k + 1 + 1) * w : Nat) : Int) W)) := by rw [ints_mem, hm]; omega
  rw [if_neg m1]
  have hc := h.2 i (by omega)
  have hg : c.getD (a + i) 0 = if i % w = 0 ∧ i ≠ 0 ∧ i ≠ (k + 1 + 1) * w then 1 else 0 := by rw [List.getD_eq_getElem?_getD, hc]; rfl
  rw [hg]
  have m2 : ((((a + i : Nat) : Int) + 1) ∈ nums (clo c ((a + (k + 1 + 1) * w : Nat) : Int) W)) ↔ i = (k + 1) * w := by
    rw [show ((a + i : Nat) : Int) + 1 = ((a + i + 1 : Nat) : Int) by omega, ints_mem, hm]; omega
  rw [if_neg (by omega : ¬ ((a + i : Nat) : Int) = ((a + (k + 1 + 1) * w : Nat) : Int))]
  by_cases c1 : i = (k + 1) * w
  · have h1 : 1 * 1 ≤ (k + 1) * w := Nat.mul_le_mul (by omega) hw
    rw [if_pos (m2.mpr c1), if_pos ⟨by rw [c1]; exact Nat.mul_mod_left _ _, by omega, by omega⟩, if_neg (fun e => e.2.2 c1)]; rfl
  · rw [if_neg (fun e => c1 (m2.mp e))]
    by_cases c2 : i % w = 0 ∧ i ≠ 0 ∧ i ≠ (k + 1 + 1) * w
    · rw [if_pos c2, if_pos ⟨c2.1, c2.2.1, c1⟩]; rfl
    · rw [if_neg c2, if_neg (fun e => c2 ⟨e.1, e.2.1, by omega⟩)]; rfl
/-- the bits of a mask -/
def bits (n m : Nat) : List Nat := (List.range n).filter fun p => decide (m / 2 ^ p % 2 = 1)
theorem bits_inj {n m m' : Nat} (h : m < 2 ^ n) (h' : m' < 2 ^ n) (e : ∀ i, i ∈ bits n m ↔ i ∈ bits n m') : m = m' := by
  refine Nat.eq_of_testBit_eq fun i => ?_
  by_cases hi : i < n
  · have := e i
    unfold bits at this
    simp only [List.mem_filter, List.mem_range, hi, true_and, decide_eq_true_eq] at this
    rw [Nat.testBit_eq_decide_div_mod_eq, Nat.testBit_eq_decide_div_mod_eq]
    exact decide_eq_decide.mpr this
  · have h1 : m < 2 ^ i := Nat.lt_of_lt_of_le h (Nat.pow_le_pow_right (by omega) (by omega))
    have h2 : m' < 2 ^ i := Nat.lt_of_lt_of_le h' (Nat.pow_le_pow_right (by omega) (by omega))
    rw [Nat.testBit_lt_two_pow h1, Nat.testBit_lt_two_pow h2]
end M

namespace G
open PySem PySem.Spec PyProof.Rows L2
/-! ### any(xs) of a list of ints -/
theorem truth_ints {prog : Program} {w : World} {A : Around} {ns : List Int} {its : List Value} (rv : Vals (ns.map V.int) its) :
    TruthOf prog w A (fun i v => its.toArray[i]? = some v) (fun i => (ns.map fun z => z != 0).getD i false) := fun i v s Q E hv hq => by
  have hv' : its[i]? = some v := by simpa using hv
  obtain ⟨x, hx, r⟩ := Paired.at rv hv'
  rw [List.getElem?_map] at hx
  obtain ⟨n, hn, rfl⟩ := Option.map_eq_some_iff.mp hx
  obtain ⟨t, rfl⟩ := r
  have hg : (ns.map fun z => z != 0).getD i false = (n != 0) := by rw [List.getD_eq_getElem?_getD, List.getElem?_map, hn] <;> rfl
  have hq' : Q ((ns.map fun z => z != 0).getD i false) s := hq
  rw [hg] at hq'
  exact PySem.P.truthy_int hq'
def rAnyI (K : PySem.W.Frag) : List V → Hp → VK → Prop := fun vs H Q => ∃ (a : Addr) (ns : List Int), vs = [V.ref a] ∧ SqL K H a (ns.map V.int) ∧ Q (.bl (ns.any fun z => decide (z ≠ 0))) H
theorem cr_anyI {X : Cx} (hc : X.calm = true) : CallR X (.builtin "any") (rAnyI X.K) := by
  intro pins s σ H vs us Q I r h
  obtain ⟨a, ns, rfl, hs, q⟩ := h
  obtain ⟨its, rv, hl, _⟩ := I.list hs
  rw [Vals.ref1 r]
  have hlen := rv.length
  refine call_any_walk (iter_any hl.isList fun s₂ e2 st hne => ?_)
  subst e2
  refine ⟨_, _, _, _, _, _, _, rfl, Walks.list (A := X.A.in1) (I.ok.hd hc) _ a hne its.toArray, st, truth_ints rv, fun h' tk hk => ?_⟩
  refine ⟨.bl _, H, I.kept fun b o eo => hk b o (fun hmem => ?_) (Heap.get?_push_of_some _ eo), ?_, q⟩
  · rcases List.mem_cons.mp hmem with e1 | hmem
    · exact absurd (e1 ▸ Heap.lt_size eo) (Nat.lt_irrefl _)
    · cases hmem
  · show Value.bool _ = Value.bool _
    rw [show its.toArray.size = (ns.map fun z => z != 0).length by rw [List.size_toArray, ← hlen, List.length_map, List.length_map], L2.any_range, List.any_map]
    congr 1
    apply congrArg (ns.any)
    funext z
    by_cases hz : z = 0 <;> simp [hz]
theorem w_anyI {K : PySem.W.Frag} {H : Hp} {Q : VK} {p : Addr} {ns : List Int} (h : SqL K H p (ns.map V.int)) (q : Q (.bl (ns.any fun z => decide (z ≠ 0))) H) : rAnyI K [.ref p] H Q := ⟨p, ns, rfl, h, q⟩
/-! ### comprehensions over enumerate(list) -/
section
variable {K : PySem.W.Frag} {σ : L2.St} {H : Hp} {Q : VK} {tt : TT} {te : TE} {tl : TA}
theorem w_lcE {g : TG} {vs : List Nat} (h : tl σ H fun us H1 => ∃ a xs, us = [.ref a] ∧ SqL K H1 a xs ∧ LcW (Ite K a) g tt te vs σ H1 Q) : tLc (iEnum K tl) g tt te vs σ H Q := h
theorem lcE {a : Addr} {xs : List V} {g : TG} {vs : List Nat} (Pv : Addr → Nat → Hp → Prop) (h0 : ∀ Dl, H Dl = none → Pv Dl 0 (upd H Dl (.lst []))) (hl : ∀ Dl i H1, H Dl = none → i ≤ xs.length → Pv Dl i H1 → SqL K H1 a xs)
    (hs : ∀ Dl i x T H1, H Dl = none → xs[i]? = some x → Pv Dl i H1 → H1 T = none → g (.ref T) (wipe σ vs) (upd H1 T (.tup [.int (i : Nat), x])) fun σ2 H2 => wipe σ2 vs = wipe σ vs ∧ LcT tt te Dl (Pv Dl (i + 1)) σ2 H2)
    (hd : ∀ Dl H1, H Dl = none → Pv Dl xs.length H1 → Q (.ref Dl) H1) : LcW (Ite K a) g tt te vs σ H Q :=
  fun Dl hD => lc_it (walk_enum (K := K) (a := a) (xs := xs)) (Pv Dl) (h0 Dl hD) (fun i H1 hi p => hl Dl i H1 hD hi p) (fun i x H1 H' hi p y => by
    obtain ⟨T, u, v, rfl, hT, rfl, e1, e2⟩ := y
    have e1 := Option.some.inj e1
    subst e1
    exact hs Dl i v T H1 hD e2 p hT) (fun H1 p => hd Dl H1 hD p)
theorem w_enumSq {a : Addr} {xs : List V} {P : Addr → Prop} (h : SqL K H a xs) (q : P a) : ∃ b ys, [V.ref a] = [.ref b] ∧ SqL K H b ys ∧ P b := ⟨a, xs, rfl, h, q⟩
end
/-! ### ints in lists: deep equality -/
theorem dp_is {K : PySem.W.Frag} {H : Hp} : ∀ xs : List Int, DpAll K H (xs.map V.int) (xs.map PyData.int)
  | [] => .nil
  | x :: xs => .cons (.int x) (dp_is xs)
theorem dp_ints {K : PySem.W.Frag} {H : Hp} {p : Addr} {xs : List Int} (h : SqL K H p (xs.map V.int)) : Dp K H (.ref p) (.list (xs.map PyData.int)) := .lst h (dp_is xs)
theorem di_lay : ∀ xs : List Int, PyData.canLayAll0 (xs.map PyData.int) = true
  | [] => rfl
  | x :: xs => by
    rw [List.map_cons]
    show (PyData.canLay0 (.int x) && PyData.canLayAll0 (xs.map PyData.int)) = true
    rw [di_lay xs]; rfl
theorem di_depth : ∀ xs : List Int, PyData.depthAll (xs.map PyData.int) = 0
  | [] => rfl
  | x :: xs => by
    rw [List.map_cons]
    show max (PyData.depth (.int x)) (PyData.depthAll (xs.map PyData.int)) = 0
    rw [di_depth xs]; rfl
theorem di_shaped (xs : List Int) : SeqAt.shaped (.list (xs.map PyData.int)) = true := by
  have h1 : PyData.canLay0 (.list (xs.map PyData.int)) = true := di_lay xs
  have h2 : PyData.depth (.list (xs.map PyData.int)) ≤ 64 := by
    show PyData.depthAll (xs.map PyData.int) + 1 ≤ 64
    rw [di_depth]; decide
  show (PyData.canLay0 (.list (xs.map PyData.int)) && decide (PyData.depth (.list (xs.map PyData.int)) ≤ 64)) = true
  rw [h1, decide_eq_true h2]; rfl
theorem di_eqv : ∀ xs ys : List Int, PyData.eqvAll (xs.map PyData.int) (ys.map PyData.int) = decide (xs = ys)
  | [], [] => rfl
  | [], y :: ys => by simp [PyData.eqvAll]
  | x :: xs, [] => by simp [PyData.eqvAll]
  | x :: xs, y :: ys => by
    rw [List.map_cons, List.map_cons]
    simp only [PyData.eqvAll, PyData.eqv, di_eqv xs ys]
    by_cases h : x = y
    · by_cases h2 : xs = ys <;> simp [h, h2]
    · simp [h]
theorem w_neI2 {K : PySem.W.Frag} {H : Hp} {Q : VK} {p q : Addr} {xs ys : List Int} (hp : SqL K H p (xs.map V.int)) (hq : SqL K H q (ys.map V.int)) (k : Q (.bl (!decide (xs = ys))) H) : rNeD K (.ref p) (.ref q) H Q := by
  refine ⟨_, _, dp_ints hp, dp_ints hq, di_shaped xs, di_shaped ys, ?_⟩
  show Q (.bl (!PyData.eqvAll (xs.map PyData.int) (ys.map PyData.int))) H
  rw [di_eqv]; exact k
theorem w_eqI2 {K : PySem.W.Frag} {H : Hp} {Q : VK} {p q : Addr} {xs ys : List Int} (hp : SqL K H p (xs.map V.int)) (hq : SqL K H q (ys.map V.int)) (k : Q (.bl (decide (xs = ys))) H) : rEqD K (.ref p) (.ref q) H Q := by
  refine ⟨_, _, dp_ints hp, dp_ints hq, di_shaped xs, di_shaped ys, ?_⟩
  show Q (.bl (PyData.eqvAll (xs.map PyData.int) (ys.map PyData.int))) H
  rw [di_eqv]; exact k
end G
local macro_rules | `(tactic| walk_at "call") => `(tactic| first
  | (refine' G.w_anyI ?g1 ?_; (case g1 => walk_at "sq")) | refine' G.w_lcE ?_ | (refine' G.w_enumSq ?g1 ?_; (case g1 => walk_at "sq"))
  | (refine' G.w_neI2 ?g1 ?g2 ?_; (case g1 => walk_at "sq"); (case g2 => walk_at "sq")) | (refine' G.w_eqI2 ?g1 ?g2 ?_; (case g1 => walk_at "sq"); (case g2 => walk_at "sq")))

namespace G
open PySem L2
/-! ### more words -/
section
variable {K : PySem.W.Frag} {σ : L2.St} {H : Hp} {Q : VK} {D : Ends} {v x y : V} {ta te : TE} {p : Addr}
theorem w_tru {Qb : Bool → Hp → Prop} (h : ta σ H fun x H' => ∃ k, TruV K x H' k ∧ Qb k H') : tTruK K ta σ H Qb := h
theorem w_truL {xs : List V} {Qb : Bool → Prop} (h : SqL K H p xs) (q : Qb (!xs.isEmpty)) : ∃ k, TruV K (.ref p) H k ∧ Qb k := ⟨_, .inl ⟨xs, h, rfl⟩, q⟩
theorem w_revL (h : te σ H fun x H1 => ∃ a xs, x = .ref a ∧ SqL K H1 a xs ∧ ∀ p, H1 p = none → Q (.ref p) (upd H1 p (.lst xs.reverse))) : tRevL K te σ H Q := h
theorem w_revL2 {xs : List V} {P : Addr → List V → Prop} (h : SqL K H p xs) (q : P p xs) : ∃ a ys, V.ref p = .ref a ∧ SqL K H a ys ∧ P a ys := ⟨p, xs, rfl, h, q⟩
theorem w_rep {xs : List V} {k : Int} (h : H p = some (.lst xs)) (h0 : -4611686018427387904 ≤ k) (h1 : k < 4611686018427387904) (hl : xs.length * k.toNat ≤ sizeLine)
    (q : ∀ l, H l = none → Q (.ref l) (upd H l (.lst (List.replicate k.toNat xs).flatten))) : rRep (.ref p) (.int k) H Q := ⟨p, k, xs, rfl, rfl, h, by omega, by omega, hl, q⟩
theorem w_isNr (h : ta σ H fun x H1 => Q (.bl (decide (x = .non))) H1) : tIsN ta σ H Q := h
theorem w_notN (h : ta σ H fun x H1 => Q (.bl (!decide (x = .non))) H1) : tNotN ta σ H Q := h
theorem w_any {bs : List Bool} (h : SqL K H p (bs.map V.bl)) (q : Q (.bl (bs.any id)) H) : rAny K [.ref p] H Q := ⟨p, bs, rfl, h, q⟩
theorem w_all {bs : List Bool} (h : SqL K H p (bs.map V.bl)) (q : Q (.bl (bs.all id)) H) : rAll K [.ref p] H Q := ⟨p, bs, rfl, h, q⟩
theorem w_isT {t u : String} {b : Bool} (ty : TyX K H x (.type t)) (e : PySem.W.kitOne K (.type t) (.type u) = some b) (q : Q (.bl b) H) : rIsi K [x, .ty u] H Q :=
  ⟨x, .ty u, .type t, .type u, b, rfl, ClsV.ty u, ty, e, q⟩
theorem w_isII {a : Int} (q : Q (.bl true) H) : rIsi K [.int a, .ty "int"] H Q := w_isT (t := "int") (b := true) (TyX.base (TyOf.int a)) (kit_ty (by decide +kernel)) q
theorem w_isIB {a : Int} (q : Q (.bl false) H) : rIsi K [.int a, .ty "bool"] H Q := w_isT (t := "int") (b := false) (TyX.base (TyOf.int a)) (kit_ty (by decide +kernel)) q
theorem w_isBB {a : Bool} (q : Q (.bl true) H) : rIsi K [.bl a, .ty "bool"] H Q := w_isT (t := "bool") (b := true) (TyX.base (TyOf.bl a)) (kit_ty (by decide +kernel)) q
theorem w_isLL {xs : List V} (h : H p = some (.lst xs)) (q : Q (.bl true) H) : rIsi K [.ref p, .ty "list"] H Q := w_isT (t := "list") (b := true) (TyX.base (TyOf.lst h)) (kit_ty (by decide +kernel)) q
end
theorem at_of {xs : List V} {k : Int} {j : Nat} {v : V} (e : k = (j : Int)) (h : xs[j]? = some v) : atI xs k = some v := atn e h
/-! ### the draws -/
def sp_law_bag (K : PySem.W.Frag) (A : CA) : Sp := fun vs H Q _ => ∃ (a : Addr) (k : Int) (ns : List Int), vs = [.ref a, .int k] ∧ SqL K H a (ns.map V.int) ∧ 0 ≤ k ∧ k ≤ 1000 ∧ ns.length ≤ 63 ∧
  ∀ (s : Addr) (H' : Hp), H s = none → Same H H' → Src H' s → Q (.ref s) H'
def sp_law_take (K : PySem.W.Frag) (A : CA) : Sp := fun vs H Q _ => ∃ (s : Addr) (n : Int), vs = [.ref s, .int n] ∧ Src H s ∧ 0 < n ∧ n < 1073741824 ∧
  ∀ (r : Int) (H' : Hp), 0 ≤ r → r < n → But s H H' → Src H' s → Q (.int r) H'
def sp_law_copies (K : PySem.W.Frag) (A : CA) : Sp := fun vs H Q _ => ∃ (s : Addr), vs = [.ref s] ∧ Src H s ∧
  ∀ (r : Int) (H' : Hp), 1 ≤ r → r ≤ 70 → But s H H' → Src H' s → Q (.int r) H'
theorem i_take {K : PySem.W.Frag} {A : CA} {H : Hp} {Q : VK} {E : XK} {s : Addr} {n : Int} (hs : Src H s) (h0 : 0 < n) (h1 : n < 1073741824)
    (k : ∀ (r : Int) (H' : Hp), 0 ≤ r → r < n → But s H H' → Src H' s → Q (.int r) H') : sp_law_take K A [.ref s, .int n] H Q E := ⟨s, n, rfl, hs, h0, h1, k⟩
theorem i_copies {K : PySem.W.Frag} {A : CA} {H : Hp} {Q : VK} {E : XK} {s : Addr} (hs : Src H s)
    (k : ∀ (r : Int) (H' : Hp), 1 ≤ r → r ≤ 70 → But s H H' → Src H' s → Q (.int r) H') : sp_law_copies K A [.ref s] H Q E := ⟨s, rfl, hs, k⟩
theorem i_bag {K : PySem.W.Frag} {A : CA} {H : Hp} {Q : VK} {E : XK} {a : Addr} {k : Int} {ns : List Int} (h : SqL K H a (ns.map V.int)) (hl : ns.length ≤ 63) (h0 : 0 ≤ k) (h1 : k ≤ 1000)
    (q : ∀ (s : Addr) (H' : Hp), H s = none → Same H H' → Src H' s → Q (.ref s) H') : sp_law_bag K A [.ref a, .int k] H Q E := ⟨a, k, ns, rfl, h, h0, h1, hl, q⟩
end G
local macro_rules | `(tactic| walk_at "call") => `(tactic| first
  | refine' G.w_tru ?_ | (refine' G.w_truL ?g1 ?_; (case g1 => walk_at "sq")) | refine' G.w_revL ?_ | (refine' G.w_revL2 ?g1 ?_; (case g1 => walk_at "sq"))
  | (refine' G.w_rep ?g1 ?g2 ?g3 ?g4 ?_; (case g1 => walk_at "hp"); (case g2 => walk_at "ar"); (case g3 => walk_at "ar"); (case g4 => walk_at "sz"))
  | refine' G.w_isNr ?_ | refine' G.w_notN ?_ | refine' G.w_isII ?_ | refine' G.w_isIB ?_ | refine' G.w_isBB ?_ | (refine' G.w_isLL ?g1 ?_; (case g1 => walk_at "hp"))
  | (refine' G.i_take ?g1 ?g2 ?g3 ?_; (case g1 => walk_at "src"); (case g2 => walk_at "ar"); (case g3 => walk_at "ar"))
  | (refine' G.i_copies ?g1 ?_; (case g1 => walk_at "src"))
  | (refine' G.i_bag ?g1 ?g2 ?g3 ?g4 ?_; (case g1 => walk_at "sq"); (case g2 => walk_at "ar"); (case g3 => walk_at "ar"); (case g4 => walk_at "ar")))
namespace G
open PySem L2
def t_law_bag (K : PySem.W.Frag) (A : CA) : TS :=
  (tSeq (tAsg (tOp oAdd (tC (.int 104729)) (tOp oMul (tC (.int 7919)) (tVar 1))) (gName 2))
  (tSeq (tIfS (tTest (tOp oLt (tVar 1) (tCB (rLenQ K) (tCons (tVar 0) tNil)))) (tAsg (tOp (rIxL K) (tVar 0) (tVar 1)) (gName 2)) (tIfS (tTruK K (tVar 0)) (tAsg (tOp oAdd (tVar 2) (tOp oMod (tCB oInt (tCons (tOp oMul (tOp (rIxL K) (tVar 0) (tC (.int 0))) (tC (.int 31))) tNil)) (tC (.int 1000003)))) (gName 2)) tNext))
  (tSeq (tIfS (tTest (tOp oGe (tCB oAbs (tCons (tVar 2) tNil)) (tOp oPow (tC (.int 10)) (tC (.int 18))))) (tRet (tLst (tCons (tCB oAbs (tCons (tVar 2) tNil)) (tCons (tVar 2) (tCons (tC (.int 0)) (tCons (tVar 1) tNil)))))) tNext)
  (tRet (tLst (tCons (tC (.int 0)) (tCons (tVar 2) (tCons (tC (.int 0)) (tCons (tVar 1) tNil)))))))))
def t_law_take (K : PySem.W.Frag) (A : CA) : TS :=
  (tSeq (tAsg (tOp oAdd (tOp (rIxL K) (tVar 0) (tC (.int 2))) (tC (.int 1))) (gSub (tVar 0) (tC (.int 2)) rSetL))
  (tSeq (tIfS (tTest (tOp oGt (tOp (rIxL K) (tVar 0) (tC (.int 0))) (tC (.int 0)))) (tSeq (tAsg (tOp oMod (tCB oInt (tCons (tOp (rIxL K) (tVar 0) (tC (.int 0))) tNil)) (tVar 1)) (gName 2))
  (tSeq (tAsg (tOp oDiv (tOp (rIxL K) (tVar 0) (tC (.int 0))) (tVar 1)) (gSub (tVar 0) (tC (.int 0)) rSetL))
  (tRet (tVar 2)))) tNext)
  (tSeq (tAsg (tOp oMod (tCB oInt (tCons (tOp oAdd (tOp oAdd (tOp oAdd (tOp oMul (tOp (rIxL K) (tVar 0) (tC (.int 1))) (tC (.int 48271))) (tOp oMul (tOp (rIxL K) (tVar 0) (tC (.int 2))) (tC (.int 69621)))) (tOp oMul (tOp (rIxL K) (tVar 0) (tC (.int 3))) (tC (.int 7919)))) (tC (.int 11))) tNil)) (tC (.int 2147483647))) (gName 3))
  (tSeq (tAsg (tOp oMod (tCB oInt (tCons (tOp oAdd (tOp oAdd (tOp oMul (tVar 3) (tVar 3)) (tOp oMul (tOp (rIxL K) (tVar 0) (tC (.int 2))) (tC (.int 40692)))) (tOp (rIxL K) (tVar 0) (tC (.int 1)))) tNil)) (tC (.int 2147483399))) (gName 4))
  (tSeq (tAsg (tOp oMod (tCB oInt (tCons (tOp oAdd (tOp oMul (tVar 4) (tVar 4)) (tVar 3)) tNil)) (tC (.int 2147483629))) (gName 5))
  (tRet (tOp oMod (tOp oDiv (tVar 5) (tC (.int 16))) (tVar 1))))))))
def t_law_copies (K : PySem.W.Frag) (A : CA) : TS :=
  (tSeq (tIfS (tTest (tOp rEq (tCall (sp_law_take K A) [] E0 (tCons (tVar 0) (tCons (tC (.int 8)) tNil))) (tC (.int 7)))) (tRet (tOp oAdd (tC (.int 1)) (tCall (sp_law_take K A) [] E0 (tCons (tVar 0) (tCons (tC (.int 70)) tNil))))) tNext)
  (tRet (tOp oAdd (tC (.int 1)) (tCall (sp_law_take K A) [] E0 (tCons (tVar 0) (tCons (tC (.int 4)) tNil))))))

variable {K : PySem.W.Frag} {A : CA} {vs : List V} {H : Hp} {Q : VK} {E : XK}
theorem rd_law_bag (h : sp_law_bag K A vs H Q E) : t_law_bag K A { nx := fun _ H' => Q .non H', rt := Q } (start ["script", "k", "cell"] vs) H := by
  obtain ⟨a, k, ns, rfl, hs, h0, h1, h63, q⟩ := h
  unfold t_law_bag
  walk_at "go"
  refine w_iteD (fun hc => ?_) (fun hc => ?_)
  · have hk : k.toNat < ns.length := by
      rw [List.length_map] at hc; omega
    have hx : atI (ns.map V.int) k = some (V.int ns[k.toNat]) := at_of (j := k.toNat) (by omega) (by simp [hk])
    walk_at "go"
    refine w_iteD (fun _ => ?_) (fun _ => ?_) <;> (walk_at "go"; intro l hl; exact q _ _ hl (same_new hl) ⟨_, _, _, _, upd_same⟩)
  · walk_at "go"
    cases ns with
    | nil =>
      refine w_iteF ?_
      walk_at "go"
      refine w_iteD (fun _ => ?_) (fun _ => ?_) <;> (walk_at "go"; intro l hl; exact q _ _ hl (same_new hl) ⟨_, _, _, _, upd_same⟩)
    | cons n r =>
      refine w_iteT ?_
      have hx : atI ((n :: r).map V.int) 0 = some (V.int n) := at0
      walk_at "go"
      refine w_iteD (fun _ => ?_) (fun _ => ?_) <;> (walk_at "go"; intro l hl; exact q _ _ hl (same_new hl) ⟨_, _, _, _, upd_same⟩)
theorem rd_law_take (h : sp_law_take K A vs H Q E) : t_law_take K A { nx := fun _ H' => Q .non H', rt := Q } (start ["bag", "size", "digit", "first", "second", "third"] vs) H := by
  obtain ⟨s, n, rfl, ⟨x, y, z, u, hs⟩, h0, h1, k⟩ := h
  unfold t_law_take
  walk_at "go"
  refine w_iteD (fun hc => ?_) (fun hc => ?_)
  · walk_at "go"
    exact k _ _ (Int.emod_nonneg _ (by omega)) (Int.emod_lt_of_pos _ h0) But.refl.self.self ⟨_, _, _, _, upd_same⟩
  · walk_at "go"
    exact k _ _ (Int.emod_nonneg _ (by omega)) (Int.emod_lt_of_pos _ h0) But.refl.self ⟨_, _, _, _, upd_same⟩
theorem rd_law_copies (h : sp_law_copies K A vs H Q E) : t_law_copies K A { nx := fun _ H' => Q .non H', rt := Q } (start ["bag"] vs) H := by
  obtain ⟨s, rfl, hs, k⟩ := h
  unfold t_law_copies
  walk_at "go"
  intro r H1 r0 r1 b1 s1
  walk_at "go"
  refine w_iteD (fun hc => ?_) (fun hc => ?_)
  · walk_at "go"
    intro r2 H2 r3 r4 b2 s2
    walk_at "go"
    exact k _ _ (by omega) (by omega) (b1.trans b2) s2
  · walk_at "go"
    intro r2 H2 r3 r4 b2 s2
    walk_at "go"
    exact k _ _ (by omega) (by omega) (b1.trans b2) s2
end G

namespace G
open PySem L2
variable {K : PySem.W.Frag} {A : CA} {vs : List V} {H : Hp} {Q : VK} {E : XK}
/-- chains: numbers from 0 to 60 -/
def Chn (c : List Int) : Prop := ∀ n ∈ c, 0 ≤ n ∧ n ≤ 60
theorem Chn.app {a b : List Int} (h : Chn a) (k : Chn b) : Chn (a ++ b) := fun n hn => by
  rcases List.mem_append.mp hn with q | q
  · exact h n q
  · exact k n q
theorem Chn.set {a : List Int} {i : Nat} {v : Int} (h : Chn a) (h0 : 0 ≤ v) (h1 : v ≤ 60) : Chn (a.set i v) := fun n hn => by
  rcases List.mem_or_eq_of_mem_set hn with q | q
  · exact h n q
  · rw [q]; exact ⟨h0, h1⟩
theorem Chn.sub {a b : List Int} (h : Chn a) (k : ∀ x ∈ b, x ∈ a) : Chn b := fun n hn => h n (k n hn)
theorem Chn.rep {a : List Int} {k : Nat} (h : Chn a) : Chn (List.replicate k a).flatten := h.sub fun x hx => by
  obtain ⟨l, hl, hm⟩ := List.mem_flatten.mp hx
  rw [(List.mem_replicate.mp hl).2] at hm; exact hm
theorem map_rep {a : List Int} {k : Nat} : (List.replicate k (a.map V.int)).flatten = ((List.replicate k a).flatten).map V.int := by
  rw [List.map_flatten, List.map_replicate]
theorem len_rep {α : Type} {a : List α} {k : Nat} : (List.replicate k a).flatten.length = k * a.length := by
  simp [List.length_flatten, List.map_replicate, List.sum_replicate_nat]
theorem snocI (xs : List Int) (z : Int) : xs.map V.int ++ [V.int z] = (xs ++ [z]).map V.int := by rw [List.map_append]; rfl
end G

namespace G
open PySem L2
theorem sIx_nat (n k : Nat) (d : Nat) : HT.sIx n d (some (k : Int)) = min k n := by
  unfold HT.sIx
  simp
  omega
theorem cut_map (c : List Int) (i j : Nat) : cutV (c.map V.int) (some (i : Int)) (some (j : Int)) = ((c.drop i).take (j - i)).map V.int := by
  unfold cutV
  rw [sIx_nat, sIx_nat, List.length_map, ← List.map_drop, ← List.map_take]
  congr 1
  by_cases h : i ≤ c.length
  · rw [show min i c.length = i by omega]
    by_cases h2 : j ≤ c.length
    · rw [show min j c.length = j by omega]
    · rw [show min j c.length = c.length by omega, List.take_of_length_le (by simp), List.take_of_length_le (by simp; omega)]
  · rw [show min i c.length = c.length by omega, List.drop_eq_nil_of_le (Nat.le_refl _), List.drop_eq_nil_of_le (by omega)]
    simp
theorem cut_mapFrom (c : List Int) (i : Nat) : cutV (c.map V.int) (some (i : Int)) none = (c.drop i).map V.int := by
  unfold cutV
  rw [sIx_nat, List.length_map, ← List.map_drop, ← List.map_take]
  congr 1
  show List.take (c.length - _) _ = _
  by_cases h : i ≤ c.length
  · rw [show min i c.length = i by omega, List.take_of_length_le (by simp)]
  · rw [List.drop_eq_nil_of_le (show c.length ≤ i by omega), List.drop_eq_nil_of_le (by omega)]; simp
theorem cut_mapTo (c : List Int) (j : Nat) : cutV (c.map V.int) none (some (j : Int)) = (c.take j).map V.int := by
  unfold cutV
  rw [sIx_nat, List.length_map, ← List.map_drop, ← List.map_take]
  congr 1
  show List.take (_ - 0) (List.drop 0 c) = _
  rw [List.drop_zero, Nat.sub_zero]
  by_cases h : j ≤ c.length
  · rw [show min j c.length = j by omega]
  · rw [List.take_of_length_le (by omega), List.take_of_length_le (by omega)]
def sp_law_has_stretch (K : PySem.W.Frag) (A : CA) : Sp := fun vs H Q _ => ∃ (a : Addr) (c : List Int) (w : Nat), vs = [.ref a, .int (w : Int)] ∧ H a = some (.lst (c.map V.int)) ∧ c.length ≤ 1000 ∧ 1 ≤ w ∧ w ≤ 1000 ∧
  ∀ (H' : Hp), Same H H' → Q (.bl (M.stretch w c)) H'
variable {K : PySem.W.Frag} {A : CA} {vs : List V} {H : Hp} {Q : VK} {E : XK}
theorem w_oIntB {b : Bool} (q : Q (.int (if b then 1 else 0)) H) : oInt [.bl b] H Q := .inr ⟨b, rfl, q⟩
theorem i_stretch {a : Addr} {c : List Int} {w : Nat} (h : H a = some (.lst (c.map V.int))) (hl : c.length ≤ 1000) (h0 : 1 ≤ w) (h1 : w ≤ 1000) (q : ∀ (H' : Hp), Same H H' → Q (.bl (M.stretch w c)) H') : sp_law_has_stretch K A [.ref a, .int (w : Int)] H Q E := ⟨a, c, w, rfl, h, hl, h0, h1, q⟩
theorem getI {c : List Int} {i : Nat} {x : V} (h : (c.map V.int)[i]? = some x) : ∃ hi : i < c.length, x = V.int c[i] := by
  rw [List.getElem?_map] at h
  have hi : i < c.length := by
    by_cases hc : i < c.length
    · exact hc
    · rw [List.getElem?_eq_none (by omega)] at h; cases h
  rw [List.getElem?_eq_getElem hi] at h
  exact ⟨hi, (Option.some.inj h).symm⟩
end G
local macro_rules | `(tactic| walk_at "call") => `(tactic| first
  | refine' G.w_oIntB ?_
  | (refine' G.i_stretch ?g1 ?g2 ?g3 ?g4 ?_; (case g1 => walk_at "hp"); (case g2 => walk_at "ar"); (case g3 => walk_at "ar"); (case g4 => walk_at "ar")))
namespace G
open PySem L2
def t_law_has_stretch (K : PySem.W.Frag) (A : CA) : TS :=
  (tSeq (tFor (iRng1 (tCons (tOp oSub (tCB (rLenQ K) (tCons (tVar 0) tNil)) (tVar 1)) tNil)) (gName 2)
  (tSeq (tIfS (tB (tCB (G.rAnyI K) (tCons (tSl (rSlL K) (tVar 0) (tPart (tVar 2)) (tPart (tOp oAdd (tVar 2) (tVar 1)))) tNil))) tCont tNext)
  (tSeq (tAsg (tOp oAdd (tVar 2) (tVar 1)) (gName 3))
  (tFor (iRng1 (tCons (tCB (rLenQ K) (tCons (tVar 0) tNil)) tNil)) (gName 4)
  (tSeq (tIfS (tOr (tTest (tOp oGe (tVar 3) (tCB (rLenQ K) (tCons (tVar 0) tNil)))) (tTest (tOp oGt (tOp (rIxL K) (tVar 0) (tVar 3)) (tC (.int 1))))) tBreak tNext)
  (tSeq (tIfS (tTest (tOp rEq (tOp (rIxL K) (tVar 0) (tVar 3)) (tC (.int 0)))) (tRet (tC (.bl true))) tNext)
  (tSeq (tIfS (tB (tCB (G.rAnyI K) (tCons (tSl (rSlL K) (tVar 0) (tPart (tOp oAdd (tVar 3) (tC (.int 1)))) (tPart (tOp oAdd (tVar 3) (tVar 1)))) tNil))) tBreak tNext)
  (tAsg (tOp oAdd (tVar 3) (tVar 1)) (gName 3)))))))))
  (tRet (tC (.bl false))))

variable {K : PySem.W.Frag} {A : CA} {vs : List V} {H : Hp} {Q : VK} {E : XK}
/-- what the law finds from a place on -/
def fnd (w : Nat) (c : List Int) (s : Nat) : Bool := !((c.drop s).take w).any (fun z => decide (z ≠ 0)) && M.seek w c.length (c.drop (s + w))
theorem rd_law_has_stretch (h : sp_law_has_stretch K A vs H Q E) : t_law_has_stretch K A { nx := fun _ H' => Q .non H', rt := Q } (start ["chain", "copies", "start", "at", "turn"] vs) H := by
  obtain ⟨a, c, w, rfl, ha, hl, h0, h1, q⟩ := h
  have hlen : (c.map V.int).length = c.length := List.length_map ..
  unfold t_law_has_stretch
  walk_at "go"
  refine forR (fun i σ H' => ∃ k2 k3 k4 : Option V, σ = [some (.ref a), some (.int (w : Int)), k2, k3, k4] ∧ Same H H' ∧ ∀ s, s < i → fnd w c s = false) ?_ ?_ ?_
  · exact ⟨none, none, none, rfl, Same.refl _, fun s hs => by omega⟩
  · rintro i σ H1 hi ⟨k2, k3, k4, rfl, e, hf⟩
    have ha1 := e _ _ ha
    rw [hlen] at hi
    have nxt : fnd w c i = false → ∀ s, s < i + 1 → fnd w c s = false := fun hn s hs => by
      by_cases hc : s < i
      · exact hf s hc
      · rw [show s = i by omega]; exact hn
    walk_at "go"
    intro l hl1
    rw [show (0 : Int) + (i : Int) = ((i : Nat) : Int) by omega, show ((i : Nat) : Int) + (w : Int) = ((i + w : Nat) : Int) by omega, cut_map, show i + w - i = w by omega]
    walk_at "go"
    cases hz : ((c.drop i).take w).any (fun z => decide (z ≠ 0)) with
    | true =>
      refine w_iteT ?_
      walk_at "go"
      refine ⟨_, _, _, rfl, e.trans (same_new hl1), nxt ?_⟩
      unfold fnd; rw [hz]; rfl
    | false =>
      refine w_iteF ?_
      have e1 := e.trans (same_new (o := .lst (((c.drop i).take w).map V.int)) hl1)
      generalize upd H1 l (.lst (((c.drop i).take w).map V.int)) = H2 at e1
      have ha2 := e1 _ _ ha
      walk_at "go"
      refine forR (fun t σ H' => ∃ (at_ : Nat) (k4 : Option V), σ = [some (.ref a), some (.int (w : Int)), some (.int (i : Int)), some (.int (at_ : Int)), k4] ∧ Same H H' ∧ at_ ≤ 3000000 ∧
        fnd w c i = M.seek w (c.length - t) (c.drop at_) ∧ at_ = i + w + t * w) ?_ ?_ ?_
      · refine ⟨i + w, k4, by simp [Int.natCast_add], e1, by omega, ?_, by simp⟩
        unfold fnd; rw [hz]; rfl
      · rintro t σ H3 ht ⟨at_, k5, rfl, e3, hb, hk, hat⟩
        have ha3 := e3 _ _ ha
        obtain ⟨f, hff⟩ : ∃ f, c.length - t = f + 1 := ⟨c.length - t - 1, by omega⟩
        rw [hff] at hk
        walk_at "go"
        refine w_iteD (fun hc => ?_) (fun hc => ?_)
        · refine w_iteT ?_
          walk_at "go"
          refine ⟨_, _, _, rfl, e3, nxt ?_⟩
          rw [hk, List.drop_eq_nil_of_le (by omega)]; rfl
        · have hlt : at_ < c.length := by omega
          have hx : atI (c.map V.int) (at_ : Int) = some (V.int c[at_]) := at_of (j := at_) rfl (by simp [hlt])
          rw [List.drop_eq_getElem_cons hlt] at hk
          unfold M.seek at hk
          walk_at "go"
          refine w_iteD (fun hc2 => ?_) (fun hc2 => ?_)
          · walk_at "go"
            rw [if_pos hc2] at hk
            exact ⟨_, _, _, rfl, e3, nxt hk⟩
          · rw [if_neg hc2] at hk
            walk_at "go"
            refine w_iteD (fun hc3 => ?_) (fun hc3 => ?_)
            · walk_at "go"
              rw [if_pos hc3] at hk
              have : M.stretch w c = true := by
                unfold M.stretch
                rw [List.any_eq_true]
                exact ⟨i, by simp; omega, hk⟩
              rw [this] at q
              exact q _ e3
            · rw [if_neg hc3] at hk
              walk_at "go"
              intro l2 hl2
              rw [show (at_ : Int) + 1 = ((at_ + 1 : Nat) : Int) by omega, show (at_ : Int) + (w : Int) = ((at_ + w : Nat) : Int) by omega, cut_map, show at_ + w - (at_ + 1) = w - 1 by omega]
              walk_at "go"
              cases hz2 : ((c.drop (at_ + 1)).take (w - 1)).any (fun z => decide (z ≠ 0)) with
              | true =>
                refine w_iteT ?_
                walk_at "go"
                rw [if_pos hz2] at hk
                exact ⟨_, _, _, rfl, e3.trans (same_new hl2), nxt hk⟩
              | false =>
                refine w_iteF ?_
                rw [if_neg (by rw [hz2]; decide)] at hk
                walk_at "go"
                rw [← Int.natCast_add]
                refine ⟨at_ + w, _, rfl, e3.trans (same_new hl2), ?_, ?_, ?_⟩
                · have : (t + 1) * w ≤ 1000 * 1000 := Nat.mul_le_mul (by omega) h1
                  rw [Nat.add_mul] at this; omega
                · rw [hk, List.drop_drop, show c.length - (t + 1) = f by omega, show at_ + 1 + (w - 1) = at_ + w by omega]
                · rw [hat, Nat.add_mul]; omega
      · rintro σ H3 ⟨at_, k5, rfl, e3, hb, hk, hat⟩
        refine ⟨_, _, _, rfl, e3, nxt ?_⟩
        rw [hk, hlen, show c.length - ((c.length : Int)).toNat = 0 by omega]; rfl
  · rintro σ H1 ⟨k2, k3, k4, rfl, e, hf⟩
    walk_at "go"
    have : M.stretch w c = false := by
      unfold M.stretch
      rw [List.any_eq_false]
      intro s hs
      have := hf s (by simp at hs; rw [hlen]; omega)
      unfold fnd at this
      rw [this]; decide
    rw [this] at q
    exact q _ e
end G

namespace G
open PySem L2
/-! ### made lists -/
section
variable {K : PySem.W.Frag} {σ : L2.St} {H : Hp} {ta tb : TE} {xs ys : List Int} {k a : Int} {i : Nat}
/-- the expression makes a new list of these ints -/
def Mk (ta : TE) (σ : L2.St) (H : Hp) (xs : List Int) : Prop := ∀ Q : VK, (∀ p H', H p = none → Same H H' → H' p = some (.lst (xs.map V.int)) → Q (.ref p) H') → ta σ H Q
/-- the expression is this int and changes nothing -/
def Iv (tb : TE) (σ : L2.St) (k : Int) : Prop := ∀ (H : Hp) (Q : VK), Q (.int k) H → tb σ H Q
theorem Iv.var (h : σ[i]? = some (some (.int k))) : Iv (tVar i) σ k := fun _ _ q => w_var h q
theorem Iv.c : Iv (tC (.int k)) σ k := fun _ _ q => q
theorem Iv.sub {m : Int} (h : Iv ta σ k) (h2 : Iv tb σ m) : Iv (tOp oSub ta tb) σ (k - m) := fun _ _ q => w_op (h _ _ (h2 _ _ (w_oSub q)))
theorem Iv.add {m : Int} (h : Iv ta σ k) (h2 : Iv tb σ m) : Iv (tOp oAdd ta tb) σ (k + m) := fun _ _ q => w_op (h _ _ (h2 _ _ (w_oAdd q)))
theorem Mk.one (h : Iv ta σ a) : Mk (tLst (tCons ta tNil)) σ H [a] := fun Q q => w_lst (w_cons (h _ _ (w_nil ⟨Nat.le_trans (by simp : [V.int a].length ≤ 1) (by decide), fun p hp => q p _ hp (same_new hp) upd_same⟩)))
theorem Mk.rep (h : Mk ta σ H xs) (h2 : Iv tb σ k) (h0 : -4611686018427387904 ≤ k) (h1 : k < 4611686018427387904) (hl : xs.length * k.toNat ≤ 100000) : Mk (tOp rRep ta tb) σ H (List.replicate k.toNat xs).flatten := fun Q q =>
  w_op (h _ fun p H1 hp e hx => h2 _ _ (w_rep hx h0 h1 (by rw [List.length_map]; exact Nat.le_trans hl (by decide)) fun l hl => q l _ (e.free hl) (e.trans (same_new hl)) (by rw [map_rep]; exact upd_same)))
theorem Mk.cat (h : Mk ta σ H xs) (h2 : ∀ H', Same H H' → Mk tb σ H' ys) (hl : xs.length + ys.length ≤ 100000) : Mk (tOp rCat ta tb) σ H (xs ++ ys) := fun Q q =>
  w_op (h _ fun p H1 hp e hx => h2 H1 e _ fun p2 H2 hp2 e2 hy => w_cat (e2 _ _ hx) hy (by rw [List.length_map, List.length_map]; exact Nat.le_trans hl (by decide)) fun l hl => q l _ ((e.trans e2).free hl) ((e.trans e2).trans (same_new hl)) (by rw [← List.map_append]; exact upd_same))
theorem Mk.same {H' : Hp} (e : Same H H') (h : ∀ H1, Mk ta σ H1 xs) : Mk ta σ H' xs := h H'
end
theorem flat_one {α : Type} (k : Nat) (x : α) : (List.replicate k [x]).flatten = List.replicate k x := by
  induction k with
  | zero => rfl
  | succ k ih => rw [List.replicate_succ, List.flatten_cons, ih]; rfl
end G

namespace G
open PySem L2
def sp_law_is_integer (K : PySem.W.Frag) (A : CA) : Sp := fun vs H Q _ => ∃ (a : Int), vs = [.int a] ∧ Q (.bl true) H
variable {K : PySem.W.Frag} {A : CA} {vs : List V} {H : Hp} {Q : VK} {E : XK}
theorem i_isint {a : Int} (q : Q (.bl true) H) : sp_law_is_integer K A [.int a] H Q E := ⟨a, rfl, q⟩
theorem Same.but2 {H1 H2 : Hp} {s : Addr} (e : Same H H1) (b : But s H1 H2) (hs : H s = none) : Same H H2 := fun p u h => b p u (ne_of_none h hs) (e p u h)
theorem w_neB {a b : Bool} (q : Q (.bl (!decide (a = b))) H) : rNe (.bl a) (.bl b) H Q := ⟨rfl, by
  have e : (decide (V.bl a = V.bl b)) = decide (a = b) := by simp
  rw [e]; exact q⟩
end G
local macro_rules | `(tactic| walk_at "call") => `(tactic| first
  | refine' G.i_isint ?_ | refine' G.w_neB ?_)
namespace G
open PySem L2
def t_law_is_integer (K : PySem.W.Frag) (A : CA) : TS :=
  (tRet (tAndV (tCB (rIsi K) (tCons (tVar 0) (tCons (tC (.ty "int")) tNil))) (tNotV (tCB (rIsi K) (tCons (tVar 0) (tCons (tC (.ty "bool")) tNil))))))

variable {K : PySem.W.Frag} {A : CA} {vs : List V} {H : Hp} {Q : VK} {E : XK}
theorem rd_law_is_integer (h : sp_law_is_integer K A vs H Q E) : t_law_is_integer K A { nx := fun _ H' => Q .non H', rt := Q } (start ["actual"] vs) H := by
  obtain ⟨a, rfl, q⟩ := h
  unfold t_law_is_integer
  walk_at "go"
  exact q
end G

namespace G
open PySem L2
variable {K : PySem.W.Frag} {A : CA} {vs : List V} {H : Hp} {Q : VK} {E : XK}
def sp_law_page (K : PySem.W.Frag) (A : CA) : Sp := fun vs H Q _ => ∃ (s : Addr), vs = [.ref s] ∧ Src H s ∧
  ∀ (r : Int) (H' : Hp), 0 ≤ r → r ≤ 60 → But s H H' → Src H' s → Q (.int r) H'
def sp_law_pages (K : PySem.W.Frag) (A : CA) : Sp := fun vs H Q _ => ∃ (s : Addr) (n : Int), vs = [.ref s, .int n] ∧ Src H s ∧ 0 ≤ n ∧ n ≤ 1000 ∧
  ∀ (ps : List Int) (p : Addr) (H' : Hp), (ps.length : Int) = n → Chn ps → H p = none → But s H H' → Src H' s → H' p = some (.lst (ps.map V.int)) → Q (.ref p) H'
theorem i_page {s : Addr} (hs : Src H s) (k : ∀ (r : Int) (H' : Hp), 0 ≤ r → r ≤ 60 → But s H H' → Src H' s → Q (.int r) H') : sp_law_page K A [.ref s] H Q E := ⟨s, rfl, hs, k⟩
theorem i_pages {s : Addr} {n : Int} (hs : Src H s) (h0 : 0 ≤ n) (h1 : n ≤ 1000)
    (k : ∀ (ps : List Int) (p : Addr) (H' : Hp), (ps.length : Int) = n → Chn ps → H p = none → But s H H' → Src H' s → H' p = some (.lst (ps.map V.int)) → Q (.ref p) H') : sp_law_pages K A [.ref s, .int n] H Q E := ⟨s, n, rfl, hs, h0, h1, k⟩
end G
local macro_rules | `(tactic| walk_at "call") => `(tactic| first
  | (refine' G.i_page ?g1 ?_; (case g1 => walk_at "src"))
  | (refine' G.i_pages ?g1 ?g2 ?g3 ?_; (case g1 => walk_at "src"); (case g2 => walk_at "ar"); (case g3 => walk_at "ar")))
namespace G
open PySem L2
def t_law_page (K : PySem.W.Frag) (A : CA) : TS :=
  (tSeq (tAsg (tCall (sp_law_take K A) [] E0 (tCons (tVar 0) (tCons (tC (.int 8)) tNil))) (gName 1))
  (tSeq (tIfS (tTest (tOp oLt (tVar 1) (tC (.int 4)))) (tRet (tC (.int 0))) tNext)
  (tSeq (tIfS (tTest (tOp oLt (tVar 1) (tC (.int 6)))) (tRet (tC (.int 1))) tNext)
  (tRet (tCall (sp_law_take K A) [] E0 (tCons (tVar 0) (tCons (tC (.int 61)) tNil)))))))
def t_law_pages (K : PySem.W.Frag) (A : CA) : TS :=
  (tRet (tLc (iRng1 (tCons (tVar 1) tNil)) (gName 2) tYes (tCall (sp_law_page K A) [] E0 (tCons (tVar 0) tNil)) [2]))

variable {K : PySem.W.Frag} {A : CA} {vs : List V} {H : Hp} {Q : VK} {E : XK}
theorem rd_law_page (h : sp_law_page K A vs H Q E) : t_law_page K A { nx := fun _ H' => Q .non H', rt := Q } (start ["bag", "way"] vs) H := by
  obtain ⟨s, rfl, hs, k⟩ := h
  unfold t_law_page
  walk_at "go"
  intro r H1 r0 r1 b1 s1
  walk_at "go"
  refine w_iteD (fun hc => ?_) (fun hc => ?_)
  · walk_at "go"
    exact k _ _ (by omega) (by omega) b1 s1
  walk_at "go"
  refine w_iteD (fun hc => ?_) (fun hc => ?_)
  · walk_at "go"
    exact k _ _ (by omega) (by omega) b1 s1
  walk_at "go"
  intro r2 H2 r3 r4 b2 s2
  exact k _ _ (by omega) (by omega) (b1.trans b2) s2
theorem rd_law_pages (h : sp_law_pages K A vs H Q E) : t_law_pages K A { nx := fun _ H' => Q .non H', rt := Q } (start ["bag", "size", "place"] vs) H := by
  obtain ⟨s, n, rfl, hs, h0, h1, k⟩ := h
  unfold t_law_pages
  walk_at "go"
  refine lcR (fun Dl i H' => ∃ ps : List Int, ps.length = i ∧ Chn ps ∧ But s H H' ∧ Src H' s ∧ H' Dl = some (.lst (ps.map V.int))) ?_ ?_ ?_
  · intro Dl hD
    exact ⟨[], rfl, (fun _ h => by cases h), But.refl.new hD, hs.new hD, upd_same⟩
  · rintro Dl i H1 hD hi ⟨ps, hl, hc, b, s1, hp⟩
    have hl2 : (ps.map V.int).length < sizeLine := by rw [List.length_map]; exact L2.small1000 (by omega)
    have nd : Dl ≠ s := hs.neFree hD
    walk_at "go"
    intro r H2 r0 r1 b2 s2
    have hp2 := b2.at nd hp
    walk_at "go"
    refine ⟨ps ++ [r], by simp [hl], hc.app (fun z hz => by rw [List.mem_singleton.mp hz]; exact ⟨r0, r1⟩), (b.trans b2).mut hD, s2.mut nd, ?_⟩
    rw [← snocI]; exact upd_same
  · rintro Dl H1 hD ⟨ps, hl, hc, b, s1, hp⟩
    exact k ps Dl H1 (by omega) hc hD b s1 hp
end G

namespace G
open PySem L2
/-- the heights of the program -/
def sp_height_over (K : PySem.W.Frag) (A : CA) : Sp := fun vs H Q _ => ∃ (b n w : Int), vs = [.int b, .int n, .int w] ∧ Q (.int (M.ho b n w)) H
def sp_heights (K : PySem.W.Frag) (A : CA) : Sp := fun vs H Q _ => ∃ (a : Addr) (c : List Int) (w : Int), vs = [.ref a, .int w] ∧ H a = some (.lst (c.map V.int)) ∧ c.length ≤ 1000 ∧
  ∀ (p : Addr) (H' : Hp), H p = none → Same H H' → H' p = some (.lst ((M.hts w c).map V.int)) → Q (.ref p) H'
def hiL (w : Int) (c : List Int) (i : Nat) : List Nat := (List.range i).filter fun j => decide (M.ht w (c.drop j) > w)
def lowV (w : Int) (c : List Int) : V := match (hiL w c c.length).getLast? with
  | none => .non
  | some i => .int (i : Nat)
def sp_lowest_too_high (K : PySem.W.Frag) (A : CA) : Sp := fun vs H Q _ => ∃ (a : Addr) (c : List Int) (w : Int), vs = [.ref a, .int w] ∧ H a = some (.lst (c.map V.int)) ∧ c.length ≤ 1000 ∧
  ∀ (H' : Hp), Same H H' → Q (lowV w c) H'
variable {K : PySem.W.Frag} {A : CA} {vs : List V} {H : Hp} {Q : VK} {E : XK}
theorem i_height_over {b n w : Int} (q : Q (.int (M.ho b n w)) H) : sp_height_over K A [.int b, .int n, .int w] H Q E := ⟨b, n, w, rfl, q⟩
theorem i_heights {a : Addr} {c : List Int} {w : Int} (h : H a = some (.lst (c.map V.int))) (hl : c.length ≤ 1000)
    (q : ∀ (p : Addr) (H' : Hp), H p = none → Same H H' → H' p = some (.lst ((M.hts w c).map V.int)) → Q (.ref p) H') : sp_heights K A [.ref a, .int w] H Q E := ⟨a, c, w, rfl, h, hl, q⟩
theorem i_low {a : Addr} {c : List Int} {w : Int} (h : H a = some (.lst (c.map V.int))) (hl : c.length ≤ 1000) (q : ∀ (H' : Hp), Same H H' → Q (lowV w c) H') : sp_lowest_too_high K A [.ref a, .int w] H Q E := ⟨a, c, w, rfl, h, hl, q⟩
end G
local macro_rules | `(tactic| walk_at "call") => `(tactic| first
  | refine' G.i_height_over ?_
  | (refine' G.i_heights ?g1 ?g2 ?_; (case g1 => walk_at "hp"); (case g2 => walk_at "ar"))
  | (refine' G.i_low ?g1 ?g2 ?_; (case g1 => walk_at "hp"); (case g2 => walk_at "ar")))
namespace G
open PySem L2
def t_height_over (K : PySem.W.Frag) (A : CA) : TS :=
  (tSeq (tIfS (tTest (tOp rEq (tVar 1) (tC (.int 0)))) (tRet (tOp oAdd (tVar 0) (tC (.int 1)))) tNext)
  (tRet (tIf (tAnd (tTest (tOp rEq (tVar 1) (tC (.int 1)))) (tTest (tOp oGe (tVar 0) (tVar 2)))) (tC (.int 1)) (tC (.int 0)))))
def t_heights (K : PySem.W.Frag) (A : CA) : TS :=
  (tSeq (tAsg (tLst tNil) (gName 2))
  (tSeq (tAsg (tC (.int 0)) (gName 3))
  (tSeq (tFor (iList K (tRevL K (tVar 0))) (gName 4)
  (tSeq (tAsg (tCall (sp_height_over K A) [] E0 (tCons (tVar 3) (tCons (tVar 4) (tCons (tVar 1) tNil)))) (gName 3))
  (tDrop (tBM K "list" rAppend (tVar 2) (tCons (tVar 3) tNil)))))
  (tRet (tRevL K (tVar 2))))))
def t_lowest_too_high (K : PySem.W.Frag) (A : CA) : TS :=
  (tSeq (tAsg (tLc (iEnum K (tCons (tCall (sp_heights K A) [] E0 (tCons (tVar 0) (tCons (tVar 1) tNil))) tNil)) (gTup K 2 (gCons (gName 3) (gCons (gName 4) gNil))) (tTest (tOp oGt (tVar 4) (tVar 1))) (tVar 3) [3, 4]) (gName 2))
  (tRet (tIf (tTruK K (tVar 2)) (tOp (rIxL K) (tVar 2) (tUn oNeg (tC (.int 1)))) (tC .non))))

variable {K : PySem.W.Frag} {A : CA} {vs : List V} {H : Hp} {Q : VK} {E : XK}
theorem rd_height_over (h : sp_height_over K A vs H Q E) : t_height_over K A { nx := fun _ H' => Q .non H', rt := Q } (start ["below", "blank", "copies"] vs) H := by
  obtain ⟨b, n, w, rfl, q⟩ := h
  unfold t_height_over
  walk_at "go"
  refine w_iteD (fun hc => ?_) (fun hc => ?_)
  · walk_at "go"
    subst hc; rw [M.ho0] at q; exact q
  walk_at "go"
  unfold M.ho at q
  rw [if_neg hc] at q
  refine w_iteD (fun h1 => ?_) (fun h1 => ?_)
  · walk_at "go"
    refine w_iteD (fun h2 => ?_) (fun h2 => ?_)
    · walk_at "go"
      rw [if_pos ⟨h1, h2⟩] at q; exact q
    · walk_at "go"
      rw [if_neg (fun e => h2 e.2)] at q; exact q
  · walk_at "go"
    rw [if_neg (fun e => h1 e.1)] at q; exact q
theorem rev_map (c : List Int) : (c.map V.int).reverse = (c.reverse).map V.int := List.map_reverse.symm
theorem rd_heights (h : sp_heights K A vs H Q E) : t_heights K A { nx := fun _ H' => Q .non H', rt := Q } (start ["blank", "copies", "found", "height", "number"] vs) H := by
  obtain ⟨a, c, w, rfl, ha, hl, q⟩ := h
  unfold t_heights
  walk_at "go"
  intro f hf
  walk_at "go"
  intro r hr
  rw [rev_map]
  have hf1 : (upd H f (.lst [])) f = some (.lst []) := upd_same
  have nf : f ≠ r := ne_of_none hf1 hr
  have hfr := free_upd hr
  walk_at "go"
  refine forL (xs := c.reverse.map V.int) (fun i σ H' => ∃ k4 : Option V, σ = [some (.ref a), some (.int w), some (.ref f), some (.int (M.hlast w 0 (c.reverse.take i))), k4] ∧ Same H H' ∧ H' r = some (.lst (c.reverse.map V.int)) ∧
    H' f = some (.lst ((M.hscan w 0 (c.reverse.take i)).map V.int))) ?_ ?_ ?_ ?_
  · exact ⟨none, rfl, (same_new hf).trans (same_new hr), upd_same, keepNe hf1 nf⟩
  · rintro i σ H1 hi ⟨k4, rfl, e, h1, h2⟩
    exact .inl (.inl h1)
  · rintro i x σ H1 hx ⟨k4, rfl, e, h1, h2⟩
    rw [List.getElem?_map] at hx
    have hi : i < c.reverse.length := by
      by_cases hc : i < c.reverse.length
      · exact hc
      · rw [List.getElem?_eq_none (by omega)] at hx; cases hx
    rw [List.getElem?_eq_getElem hi] at hx
    have hx : V.int c.reverse[i] = x := Option.some.inj hx
    subst hx
    have hsz : ((M.hscan w 0 (c.reverse.take i)).map V.int).length < sizeLine := by
      rw [List.length_map, M.hscan_length]; exact L2.small1000 (by simp; omega)
    walk_at "go"
    have e2 := M.take_snoc c.reverse i hi
    rw [← M.hlast_snoc, e2]
    refine ⟨_, rfl, same_mut e hf, keepNe h1 nf.symm, ?_⟩
    rw [snocI, ← e2, M.hlast_snoc, M.hscan_snoc]; exact upd_same
  · rintro σ H1 ⟨k4, rfl, e, h1, h2⟩
    rw [List.length_map, List.take_length] at h2
    walk_at "go"
    intro p hp
    rw [rev_map]
    exact q p _ (e.free hp) (e.trans (same_new hp)) upd_same
theorem hiL_succ (w : Int) (c : List Int) (i : Nat) : hiL w c (i + 1) = hiL w c i ++ (if M.ht w (c.drop i) > w then [i] else []) := by
  unfold hiL
  rw [List.range_succ, List.filter_append]
  by_cases h : M.ht w (c.drop i) > w <;> simp [h]
theorem hiL_len (w : Int) (c : List Int) (i : Nat) : (hiL w c i).length ≤ i := by
  unfold hiL; exact Nat.le_trans (List.length_filter_le _ _) (by simp)
theorem rd_lowest_too_high (h : sp_lowest_too_high K A vs H Q E) : t_lowest_too_high K A { nx := fun _ H' => Q .non H', rt := Q } (start ["blank", "copies", "too_high", "page", "height"] vs) H := by
  obtain ⟨a, c, w, rfl, ha, hl, q⟩ := h
  unfold t_lowest_too_high
  walk_at "go"
  intro p H1 hp e1 h1
  walk_at "go"
  refine lcE (xs := (M.hts w c).map V.int) (fun Dl i H' => Same H1 H' ∧ H' Dl = some (.lst ((hiL w c i).map fun (j : Nat) => V.int (j : Int)))) ?_ ?_ ?_ ?_
  · intro Dl hD
    exact ⟨same_new hD, upd_same⟩
  · rintro Dl i H2 hD hi ⟨e2, h2⟩
    exact .inl (.inl (e2 _ _ h1))
  · rintro Dl i x T H2 hD hx ⟨e2, h2⟩ hT
    rw [List.getElem?_map] at hx
    have hi : i < c.length := by
      by_cases hc : i < c.length
      · exact hc
      · rw [List.getElem?_eq_none (by rw [M.hts_length]; omega)] at hx; cases hx
    rw [M.hts_get w c i hi] at hx
    have hx : V.int (M.ht w (c.drop i)) = x := Option.some.inj hx
    subst hx
    have hT2 : (upd H2 T (.tup [.int (i : Nat), V.int (M.ht w (c.drop i))])) T = some (.tup [.int (i : Nat), V.int (M.ht w (c.drop i))]) := upd_same
    have e3 : Same H1 (upd H2 T (.tup [.int (i : Nat), V.int (M.ht w (c.drop i))])) := e2.trans (same_new hT)
    have h3 := keep (o' := .tup [.int (i : Nat), V.int (M.ht w (c.drop i))]) h2 hT
    have hsz : ((hiL w c i).map fun (j : Nat) => V.int (j : Int)).length < sizeLine := by
      have := hiL_len w c i
      rw [List.length_map]; exact L2.small1000 (by omega)
    generalize upd H2 T (.tup [.int (i : Nat), V.int (M.ht w (c.drop i))]) = H3 at hT2 e3 h3
    walk_at "go"
    refine w_iteD (fun hc => ?_) (fun hc => ?_)
    · walk_at "go"
      refine ⟨same_mut e3 hD, ?_⟩
      rw [hiL_succ, if_pos hc, List.map_append]; exact upd_same
    · refine ⟨e3, ?_⟩
      rw [hiL_succ, if_neg hc, List.append_nil]; exact h3
  · rintro Dl H2 hD ⟨e2, h2⟩
    rw [List.length_map, M.hts_length] at h2
    unfold lowV at q
    walk_at "go"
    cases hg : (hiL w c c.length).getLast? with
    | none =>
      rw [hg] at q
      rw [List.getLast?_eq_none_iff.mp hg]
      refine w_iteF ?_
      walk_at "go"
      exact q _ (e1.trans e2)
    | some i =>
      rw [hg] at q
      obtain ⟨ys, hy⟩ := List.getLast?_eq_some_iff.mp hg
      rw [hy] at h2 ⊢
      rw [List.map_append] at h2 ⊢
      rw [show (List.map (fun (j : Nat) => V.int (j : Int)) ys ++ List.map (fun (j : Nat) => V.int (j : Int)) [i]).isEmpty = false by simp]
      refine w_iteT ?_
      have hx : atI (List.map (fun (j : Nat) => V.int (j : Int)) ys ++ List.map (fun (j : Nat) => V.int (j : Int)) [i]) (-1) = some (V.int (i : Int)) := atI_last _ _
      walk_at "go"
      exact q _ (e1.trans e2)
theorem lowV_keep (w : Nat) (c : List Int) : decide (lowV w c = .non) = M.keep w c := by
  unfold lowV
  cases hk : M.keep w c with
  | true =>
    have h := M.keep_true hk
    have e : hiL w c c.length = [] := by
      unfold hiL
      rw [List.filter_eq_nil_iff]
      intro i hi
      have := h i (by simpa using hi)
      simp; omega
    rw [e]; simp
  | false =>
    obtain ⟨i, hi, hg⟩ := M.keep_false hk
    have hm : i ∈ hiL w c c.length := by
      unfold hiL; rw [List.mem_filter]; exact ⟨by simpa using hi, by simpa using hg⟩
    cases he : (hiL w c c.length).getLast? with
    | none => rw [List.getLast?_eq_none_iff.mp he] at hm; cases hm
    | some j => simp
end G

namespace G
open PySem L2
theorem Chn.rep1 (k : Nat) {x : Int} (h0 : 0 ≤ x) (h1 : x ≤ 60) : Chn (List.replicate k x) := fun n hn => by rw [(List.mem_replicate.mp hn).2]; exact ⟨h0, h1⟩
/-- a stretch, as the law builds it -/
def mid (w g : Nat) : List Int := List.replicate w 0 ++ (List.replicate g ([1] ++ List.replicate (w - 1) 0)).flatten ++ [0]
theorem mid_chn (w g : Nat) : Chn (mid w g) := by
  unfold mid
  refine ((Chn.rep1 w (by decide) (by decide)).app (Chn.rep (Chn.app ?_ (Chn.rep1 _ (by decide) (by decide))))).app ?_
  · intro n hn; rw [List.mem_singleton.mp hn]; decide
  · intro n hn; rw [List.mem_singleton.mp hn]; decide
theorem mid_len (w g : Nat) (h : 1 ≤ w) : (mid w g).length = w + g * w + 1 := by
  unfold mid
  rw [List.length_append, List.length_append, len_rep, List.length_append, List.length_replicate, List.length_replicate]
  simp only [List.length_cons, List.length_nil]
  rw [show 0 + 1 + (w - 1) = w by omega]
def sp_law_chain (K : PySem.W.Frag) (A : CA) : Sp := fun vs H Q _ => ∃ (s : Addr) (w : Int), vs = [.ref s, .int w] ∧ Src H s ∧ 1 ≤ w ∧ w ≤ 70 ∧
  ∀ (c : List Int) (p : Addr) (H' : Hp), c.length ≤ 300 → 1 ≤ c.length → Chn c → H p = none → But s H H' → Src H' s → H' p = some (.lst (c.map V.int)) → Q (.ref p) H'
variable {K : PySem.W.Frag} {A : CA} {vs : List V} {H : Hp} {Q : VK} {E : XK}
theorem i_chain {s : Addr} {w : Int} (hs : Src H s) (h0 : 1 ≤ w) (h1 : w ≤ 70)
    (k : ∀ (c : List Int) (p : Addr) (H' : Hp), c.length ≤ 300 → 1 ≤ c.length → Chn c → H p = none → But s H H' → Src H' s → H' p = some (.lst (c.map V.int)) → Q (.ref p) H') : sp_law_chain K A [.ref s, .int w] H Q E := ⟨s, w, rfl, hs, h0, h1, k⟩
end G
local macro_rules | `(tactic| walk_at "call") => `(tactic| first
  | (refine' G.i_chain ?g1 ?g2 ?g3 ?_; (case g1 => walk_at "src"); (case g2 => walk_at "ar"); (case g3 => walk_at "ar")))
namespace G
open PySem L2
def t_law_chain (K : PySem.W.Frag) (A : CA) : TS :=
  (tSeq (tAsg (tCall (sp_law_take K A) [] E0 (tCons (tVar 0) (tCons (tC (.int 4)) tNil))) (gName 2))
  (tSeq (tIfS (tTest (tOp rEq (tVar 2) (tC (.int 0)))) (tRet (tCall (sp_law_pages K A) [] E0 (tCons (tVar 0) (tCons (tOp oAdd (tC (.int 1)) (tCall (sp_law_take K A) [] E0 (tCons (tVar 0) (tCons (tC (.int 9)) tNil)))) tNil)))) tNext)
  (tSeq (tIfS (tTest (tOp rEq (tVar 2) (tC (.int 3)))) (tSeq (tAsg (tOp rRep (tCall (sp_law_pages K A) [] E0 (tCons (tVar 0) (tCons (tOp oAdd (tC (.int 1)) (tCall (sp_law_take K A) [] E0 (tCons (tVar 0) (tCons (tC (.int 6)) tNil)))) tNil))) (tOp oAdd (tC (.int 1)) (tCall (sp_law_take K A) [] E0 (tCons (tVar 0) (tCons (tC (.int 32)) tNil))))) (gName 3))
  (tSeq (tAsg (tCall (sp_law_take K A) [] E0 (tCons (tVar 0) (tCons (tCB (rLenQ K) (tCons (tVar 3) tNil)) tNil))) (gName 4))
  (tSeq (tAsg (tCall (sp_law_page K A) [] E0 (tCons (tVar 0) tNil)) (gSub (tVar 3) (tVar 4) rSetL))
  (tRet (tVar 3))))) tNext)
  (tSeq (tAsg (tCall (sp_law_take K A) [] E0 (tCons (tVar 0) (tCons (tOp oAdd (tC (.int 1)) (tCB oMin2 (tCons (tC (.int 4)) (tCons (tOp oDiv (tOp oSub (tC (.int 149)) (tVar 1)) (tVar 1)) tNil)))) tNil))) (gName 5))
  (tSeq (tAsg (tOp rCat (tOp rCat (tOp rRep (tLst (tCons (tC (.int 0)) tNil)) (tVar 1)) (tOp rRep (tOp rCat (tLst (tCons (tC (.int 1)) tNil)) (tOp rRep (tLst (tCons (tC (.int 0)) tNil)) (tOp oSub (tVar 1) (tC (.int 1))))) (tVar 5))) (tLst (tCons (tC (.int 0)) tNil))) (gName 6))
  (C8.tCut (tIfS (tTest (tOp rEq (tVar 2) (tC (.int 2)))) (tSeq (tAsg (tCall (sp_law_take K A) [] E0 (tCons (tVar 0) (tCons (tCB (rLenQ K) (tCons (tVar 6) tNil)) tNil))) (gName 4))
  (tSeq (tAsg (tCall (sp_law_take K A) [] E0 (tCons (tVar 0) (tCons (tC (.int 4)) tNil))) (gName 7))
  (tIfS (tTest (tOp oLt (tVar 7) (tC (.int 3)))) (tAsg (tVar 7) (gSub (tVar 6) (tVar 4) rSetL)) (tAsg (tOp rCat (tSl (rSlL K) (tVar 6) tNoPart (tPart (tVar 4))) (tSl (rSlL K) (tVar 6) (tPart (tOp oAdd (tVar 4) (tC (.int 1)))) tNoPart)) (gName 6))))) tNext)
  (tSeq (tAsg (tCall (sp_law_pages K A) [] E0 (tCons (tVar 0) (tCons (tCall (sp_law_take K A) [] E0 (tCons (tVar 0) (tCons (tC (.int 6)) tNil))) tNil))) (gName 8))
  (tSeq (tAsg (tCall (sp_law_pages K A) [] E0 (tCons (tVar 0) (tCons (tCall (sp_law_take K A) [] E0 (tCons (tVar 0) (tCons (tC (.int 6)) tNil))) tNil))) (gName 9))
  (tRet (tOp rCat (tOp rCat (tVar 8) (tVar 6)) (tVar 9)))))))))))

variable {K : PySem.W.Frag} {A : CA} {vs : List V} {H : Hp} {Q : VK} {E : XK}
theorem rd_law_chain (h : sp_law_chain K A vs H Q E) : t_law_chain K A { nx := fun _ H' => Q .non H', rt := Q } (start ["bag", "copies", "way", "chain", "at", "groups", "middle", "count", "above", "below"] vs) H := by
  obtain ⟨s, w, rfl, hs, h0, h1, q⟩ := h
  unfold t_law_chain
  walk_at "go"
  intro way H1 r0 r1 b1 s1
  walk_at "go"
  refine w_iteD (fun hc => ?_) (fun hc => ?_)
  · walk_at "go"
    intro r H2 r2 r3 b2 s2
    walk_at "go"
    intro ps p H3 hl hc3 hp b3 s3 hx
    exact q ps p H3 (by omega) (by omega) hc3 ((b1.trans b2).back s2 hp) ((b1.trans b2).trans b3) s3 hx
  walk_at "go"
  refine w_iteD (fun hc2 => ?_) (fun hc2 => ?_)
  · walk_at "go"
    intro r H2 r2 r3 b2 s2
    walk_at "go"
    intro ps p H3 hl hc3 hp b3 s3 hx
    walk_at "go"
    intro k H4 r4 r5 b4 s4
    have hps : p ≠ s := s2.neFree hp
    have hx4 := b4.at hps hx
    have hlen : (ps.map V.int).length * (1 + k).toNat ≤ sizeLine := by
      rw [List.length_map]
      refine Nat.le_trans (Nat.mul_le_mul (show ps.length ≤ 6 by omega) (show (1 + k).toNat ≤ 32 by omega)) (by decide)
    walk_at "go"
    intro l hl4
    rw [map_rep]
    have hL : (upd H4 l (.lst ((List.replicate (1 + k).toNat ps).flatten.map V.int))) l = some (.lst ((List.replicate (1 + k).toNat ps).flatten.map V.int)) := upd_same
    have b5 := ((b1.trans b2).trans b3).trans b4
    have b6 : But s H (upd H4 l (.lst ((List.replicate (1 + k).toNat ps).flatten.map V.int))) := b5.new hl4
    have s6 : Src (upd H4 l (.lst ((List.replicate (1 + k).toNat ps).flatten.map V.int))) s := s4.new hl4
    have nls : l ≠ s := s4.neFree hl4
    have hlN := b5.back s4 hl4
    have hcc : Chn (List.replicate (1 + k).toNat ps).flatten := hc3.rep
    have hle : (List.replicate (1 + k).toNat ps).flatten.length = (1 + k).toNat * ps.length := len_rep
    have hm1 : (1 + k).toNat * ps.length ≤ 32 * 6 := Nat.mul_le_mul (by omega) (by omega)
    have hm2 : 1 * 1 ≤ (1 + k).toNat * ps.length := Nat.mul_le_mul (by omega) (by omega)
    generalize (List.replicate (1 + k).toNat ps).flatten = c at hL b6 s6 hcc hle ⊢
    generalize upd H4 l (.lst (c.map V.int)) = H5 at hL b6 s6
    have hcl : ((c.map V.int).length : Int) = c.length := by rw [List.length_map]
    walk_at "go"
    intro at_ H6 r6 r7 b7 s7
    have hL6 := b7.at nls hL
    walk_at "go"
    intro v H7 r8 r9 b8 s8
    have hL7 := b8.at nls hL6
    have hix : ixN (c.map V.int).length at_ = some at_.toNat := ixn (by omega) (by rw [List.length_map]; omega)
    walk_at "go"
    refine q (c.set at_.toNat v) l _ (by rw [List.length_set]; omega) (by rw [List.length_set]; omega) (hcc.set r8 r9) hlN (((b6.trans b7).trans b8).mut hlN) (s8.mut nls) ?_
    rw [List.map_set]; exact upd_same
  have hd0 : 1 ≤ (149 - w) / w := by
    rw [Int.le_ediv_iff_mul_le (by omega)]; omega
  have hd1 : (149 - w) / w * w ≤ 149 - w := Int.ediv_mul_le _ (by omega)
  walk_at "go"
  generalize (149 - w) / w = d at hd0 hd1
  have hmn : 0 < 1 + (if d < 4 then d else 4) ∧ 1 + (if d < 4 then d else 4) ≤ 5 ∧ 1 + (if d < 4 then d else 4) ≤ 1 + d := by split <;> omega
  generalize (1 : Int) + (if d < 4 then d else 4) = m at hmn
  walk_at "go"
  intro g H2 r2 r3 b2 s2
  have hgw : g * w ≤ d * w := Int.mul_le_mul_of_nonneg_right (by omega) (by omega)
  obtain ⟨W, rfl⟩ := Int.eq_ofNat_of_zero_le (show 0 ≤ w by omega)
  obtain ⟨g, rfl⟩ := Int.eq_ofNat_of_zero_le r2
  have hgw2 : g * W ≤ 149 := by
    have : (g : Int) * (W : Int) ≤ 149 := by omega
    exact_mod_cast this
  have hW : 1 ≤ W := by omega
  have mk : Mk (tOp rCat (tOp rCat (tOp rRep (tLst (tCons (tC (.int 0)) tNil)) (tVar 1)) (tOp rRep (tOp rCat (tLst (tCons (tC (.int 1)) tNil)) (tOp rRep (tLst (tCons (tC (.int 0)) tNil)) (tOp oSub (tVar 1) (tC (.int 1))))) (tVar 5))) (tLst (tCons (tC (.int 0)) tNil)))
      [some (.ref s), some (.int (W : Int)), some (.int way), none, none, some (.int (g : Int)), none, none, none, none] H2 (mid W g) := by
    unfold mid
    rw [← flat_one W (0 : Int), ← flat_one (W - 1) (0 : Int)]
    refine Mk.cat (Mk.cat ?_ (fun H' e => ?_) ?_) (fun H' e => Mk.one Iv.c) ?_
    · exact Mk.rep (k := (W : Int)) (Mk.one Iv.c) (Iv.var rfl) (by omega) (by omega) (by simp; omega)
    · refine Mk.rep (k := (g : Int)) (Mk.cat (Mk.one Iv.c) (fun H'' e' => ?_) ?_) (Iv.var rfl) (by omega) (by omega) ?_
      · have := Mk.rep (k := ((W : Int) - 1)) (xs := [0]) (H := H'') (Mk.one Iv.c) (Iv.sub (Iv.var (σ := [some (.ref s), some (.int (W : Int)), some (.int way), none, none, some (.int (g : Int)), none, none, none, none]) (i := 1) rfl) Iv.c) (by omega) (by omega) (by simp; omega)
        rw [show ((W : Int) - 1).toNat = W - 1 by omega] at this
        exact this
      · rw [flat_one]; simp; omega
      · rw [flat_one]
        simp only [List.length_append, List.length_cons, List.length_nil, List.length_replicate]
        rw [show 0 + 1 + (W - 1) = W by omega, Nat.mul_comm]; simp; omega
    · rw [flat_one, flat_one, List.length_replicate, len_rep]
      simp only [List.length_append, List.length_cons, List.length_nil, List.length_replicate]
      rw [show 0 + 1 + (W - 1) = W by omega]; omega
    · rw [flat_one, flat_one, List.length_append, List.length_replicate, len_rep]
      simp only [List.length_append, List.length_cons, List.length_nil, List.length_replicate]
      rw [show 0 + 1 + (W - 1) = W by omega]; simp; omega
  have mc := mid_chn W g
  have ml := mid_len W g hW
  generalize mid W g = m0 at mk mc ml
  refine w_name (w_seq (w_asg (mk _ fun p H3 hp e3 h3 => ?_)))
  have b3 := (b1.trans b2).trans (Same.but e3)
  have s3 := Src.same e3 s2
  have hpN := (b1.trans b2).back s2 hp
  have nps : p ≠ s := s2.neFree hp
  refine w_name (w_seq ?_)
  refine w_cut (fun σ H' => ∃ (c : List Int) (l : Addr) (k4 k7 : Option V), σ = [some (.ref s), some (.int (W : Int)), some (.int way), none, k4, some (.int (g : Int)), some (.ref l), k7, none, none] ∧ c.length ≤ 200 ∧ 1 ≤ c.length ∧ Chn c ∧ But s H H' ∧ Src H' s ∧ H l = none ∧ H' l = some (.lst (c.map V.int))) ?_ ?_
  · walk_at "go"
    refine w_iteD (fun hc3 => ?_) (fun hc3 => ?_)
    · have hcl : ((m0.map V.int).length : Int) = m0.length := by rw [List.length_map]
      walk_at "go"
      intro at_ H4 r4 r5 b4 s4
      have h4 := b4.at nps h3
      walk_at "go"
      intro v H5 r6 r7 b5 s5
      have h5 := b5.at nps h4
      have b6 := (b3.trans b4).trans b5
      walk_at "go"
      refine w_iteD (fun hc4 => ?_) (fun hc4 => ?_)
      · have hix : ixN (m0.map V.int).length at_ = some at_.toNat := ixn (by omega) (by rw [List.length_map]; omega)
        walk_at "go"
        refine ⟨m0.set at_.toNat v, p, _, _, rfl, by rw [List.length_set]; omega, by rw [List.length_set]; omega, mc.set r6 (by omega), b6.mut hpN, s5.mut nps, hpN, ?_⟩
        rw [List.map_set]; exact upd_same
      · walk_at "go"
        intro l1 hl1
        obtain ⟨j, rfl⟩ := Int.eq_ofNat_of_zero_le r4
        rw [cut_mapTo]
        have h6 := keep (o' := .lst ((m0.take j).map V.int)) h5 hl1
        walk_at "go"
        intro l2 hl2
        rw [show (j : Int) + 1 = ((j + 1 : Nat) : Int) by omega, cut_mapFrom]
        have hL1 : (upd H5 l1 (.lst ((m0.take j).map V.int))) l1 = some (.lst ((m0.take j).map V.int)) := upd_same
        have hL2 := keep (o' := .lst ((m0.drop (j + 1)).map V.int)) hL1 hl2
        have hsz : ((m0.take j).map V.int).length + ((m0.drop (j + 1)).map V.int).length ≤ sizeLine := by
          simp only [List.length_map, List.length_take, List.length_drop]
          exact Nat.le_trans (show _ ≤ 1000 by omega) (by decide)
        have b7 := (b6.new (o := .lst ((m0.take j).map V.int)) hl1).new (o := .lst ((m0.drop (j + 1)).map V.int)) hl2
        have s7 := (s5.new (o := .lst ((m0.take j).map V.int)) hl1).new (o := .lst ((m0.drop (j + 1)).map V.int)) hl2
        walk_at "go"
        intro l3 hl3
        refine ⟨m0.take j ++ m0.drop (j + 1), l3, _, _, rfl, ?_, ?_, ?_, b7.new hl3, s7.new hl3, b7.back s7 hl3, ?_⟩
        · simp only [List.length_append, List.length_take, List.length_drop]; omega
        · simp only [List.length_append, List.length_take, List.length_drop]; omega
        · exact Chn.app (mc.sub fun x hx => List.mem_of_mem_take hx) (mc.sub fun x hx => List.mem_of_mem_drop hx)
        · rw [← List.map_append]; exact upd_same
    · walk_at "go"
      exact ⟨m0, p, _, _, rfl, by omega, by omega, mc, b3, s3, hpN, h3⟩
  · rintro σ H4 ⟨c, l, k4, k7, rfl, hcl, hcl1, hcc, b4, s4, hlN, h4⟩
    have nls : l ≠ s := hs.neFree hlN
    walk_at "go"
    intro r H5 r4 r5 b5 s5
    have h5 := b5.at nls h4
    walk_at "go"
    intro ps p1 H6 hl6 hc6 hp6 b6 s6 hx6
    have h6 := b6.at nls h5
    have n1 : p1 ≠ s := s5.neFree hp6
    walk_at "go"
    intro r' H7 r6 r7 b7 s7
    have h7 := b7.at nls h6
    have hx7 := b7.at n1 hx6
    walk_at "go"
    intro ps2 p2 H8 hl8 hc8 hp8 b8 s8 hx8
    have h8 := b8.at nls h7
    have hx9 := b8.at n1 hx7
    have hsz : (ps.map V.int).length + (c.map V.int).length ≤ sizeLine := by
      simp only [List.length_map]
      exact Nat.le_trans (show _ ≤ 1000 by omega) (by decide)
    have b9 := (((b4.trans b5).trans b6).trans b7).trans b8
    walk_at "go"
    intro l3 hl3
    have hsz : (ps.map V.int ++ c.map V.int).length + (ps2.map V.int).length ≤ sizeLine := by
      simp only [List.length_map, List.length_append]
      exact Nat.le_trans (show _ ≤ 1000 by omega) (by decide)
    have hx10 := keep (o' := .lst (ps.map V.int ++ c.map V.int)) hx8 hl3
    have b10 := b9.new (o := .lst (ps.map V.int ++ c.map V.int)) hl3
    have s10 := s8.new (o := .lst (ps.map V.int ++ c.map V.int)) hl3
    walk_at "go"
    intro l4 hl4
    refine q (ps ++ c ++ ps2) l4 _ ?_ ?_ ?_ (b10.back s10 hl4) (b10.new hl4) (s10.new hl4) ?_
    · simp only [List.length_append]; omega
    · simp only [List.length_append]; omega
    · exact (hc6.app hcc).app hc8
    · rw [List.map_append, List.map_append]; exact upd_same
end G

namespace G
open PySem PySem.Spec PyProof.Rows L2
/-! ### list(range(i, j, c)), shifts, reversed ranges -/
def tLstRg3 (ta : TA) : TE := fun σ H Q => ta σ H fun vs H1 => ∃ (i j c : Int) (n : Nat), vs = [.int i, .int j, .int c] ∧ RgC i j c n ∧ n ≤ 2 ^ 20 ∧ ∀ q, H1 q = none → Q (.ref q) (upd H1 q (.lst ((List.range n).map fun (m : Nat) => V.int (i + (m : Int) * c))))
theorem pe_listRg3 {X : Cx} {a b c : Expr} {ta : TA} {p p2 pos pos2 : Pos} (hc : X.calm = true) (hgl : Gl X "list") (hml : X.mg "list" = none) (hg : Gl X "range") (hm : X.mg "range" = none) (ha : PA X [a, b, c] ta)
    (hs : starEach [a, b, c] X.env = (false, eval a X.env) :: starEach [b, c] X.env := by rfl) (hpl : (backTo pos (starEach [b, c] X.env)).any (·.1) = false := by rfl)
    (na : starEach [.Call (.Name "range" p) [a, b, c] [] pos] X.env = (false, eval (.Call (.Name "range" p) [a, b, c] [] pos) X.env) :: starEach [] X.env := by rfl) :
    PE X (.Call (.Name "list" p2) [.Call (.Name "range" p) [a, b, c] [] pos] [] pos2) (tLstRg3 ta) := by
  refine ⟨fun pins s σ H Q I h => ?_⟩
  refine Call_ (ld_blt I hgl hml boot_list (PyProof.Rows.callWith_type1 (args_cons ?_ na) na))
  refine Call_ (ld_blt I hg hm boot_range (PyProof.Rows.callWith_type1 (thn (ha.run pos pins s σ H _ I h) fun us s1 ⟨vs, H1, I1, r1, q1⟩ => ?_) hs hpl))
  obtain ⟨i, j, k, n, e, ⟨c0, c1, c2, c3⟩, hn, q⟩ := q1
  subst e
  cases r1 with
  | cons r rr =>
    cases rr with
    | cons r' rr =>
      cases rr with
      | cons r'' rr =>
        cases rr
        obtain ⟨t, rfl⟩ := r
        obtain ⟨t', rfl⟩ := r'
        obtain ⟨t'', rfl⟩ := r''
        refine call_range_3 c0 ?_ (.inl (PyProof.noPylong_small c1))
        refine args_nil ?_
        have I2 : Inv X pins σ H1 { s1 with heap := s1.heap.push { cls := .type "range", data := .fields #[.int i t, .int j t', .int k t''] } } := I1.kept (t' := s1.toks) fun b o e => Heap.get?_push_of_some _ e
        refine call_list_range (n := n) (I2.ok.hd hc) (IsRange.new ..) c2 c3 (Nat.le_trans hn (by decide)) fun h' tk acc c' hk e' hi => ?_
        have e : acc.toList.length = n := by rw [Array.length_toList]; exact hi.1
        refine ⟨.ref _, upd H1 _ (.lst ((List.range n).map fun (m : Nat) => V.int (i + (m : Int) * k))), I2.laid hk (Nat.le_refl _) (show ObjOk X.prog X.w _ _ _ (.lst ((List.range n).map fun (m : Nat) => V.int (i + (m : Int) * k))) from ⟨?_, acc.toList, c', ?_, ?_⟩), rfl, q _ (I2.hok.fresh (Nat.le_refl _))⟩
        · rw [List.length_map, List.length_range, sizeLine_eq]; omega
        · rw [← e]
          refine vals_of_get acc.toList _ fun j u hj => ?_
          obtain ⟨t, rfl⟩ := hi.2 j u (by rw [← hj, Array.getElem?_toList])
          exact ⟨t, rfl⟩
        · rw [Array.toArray_toList]; exact e'
theorem rg_down {a b : Int} {w n : Nat} (hw : 1 ≤ w) (hw1 : w ≤ 1000000) (ha : 0 ≤ a) (ha' : a ≤ 1000000) (hb : 0 ≤ b) (hn : 1 ≤ n) (e : a = b + ((n * w : Nat) : Int)) : RgC a b (-(w : Int)) n := by
  have hnw : 1 * 1 ≤ n * w := Nat.mul_le_mul hn hw
  have hs : Builtin.Range.rangeSize a b (-(w : Int)) = n := by
    unfold Builtin.Range.rangeSize
    rw [if_neg (by omega), if_pos (by omega), Int.neg_neg]
    have h1 : a - b - 1 = ((n * w - 1 : Nat) : Int) := by omega
    rw [h1, ← Int.natCast_ediv]
    have h2 : (n * w - 1) / w = n - 1 := by
      obtain ⟨m, rfl⟩ : ∃ m, n = m + 1 := ⟨n - 1, by omega⟩
      have e3 : (m + 1) * w - 1 = w * m + (w - 1) := by rw [Nat.add_mul, Nat.mul_comm]; omega
      rw [e3, Nat.mul_add_div (by omega), Nat.div_eq_of_lt (by omega)]; simp
    rw [h2]; omega
  have hnn : n ≤ n * w := Nat.le_mul_of_pos_right _ hw
  refine ⟨by omega, by omega, ?_, hs⟩
  unfold Builtin.Range.small
  rw [hs, if_neg (by omega)]
  unfold Builtin.Range.rangeFitsLong
  simp only [Bool.and_eq_true, Bool.or_eq_true, decide_eq_true_eq, beq_iff_eq]
  omega
def oShl1 : R2 := fun x y H Q => ∃ k : Nat, x = .int 1 ∧ y = .int (k : Int) ∧ k ≤ 134217727 ∧ Q (.int (2 ^ k)) H
def oShrN : R2 := fun x y H Q => ∃ (i : Int) (k : Nat), x = .int i ∧ y = .int (k : Int) ∧ Q (.int (i / 2 ^ k)) H
def oOdd : R2 := fun x y H Q => ∃ n : Nat, x = .int (n : Int) ∧ y = .int 1 ∧ Q (.int ((n % 2 : Nat) : Int)) H
section
variable {K : PySem.W.Frag} {σ : L2.St} {H : Hp} {Q : VK} {p : Addr} {ns : List Int} {i : Int}
theorem inV_int : ∀ (ns : List Int) (i : Int), inV (.int i) (ns.map V.int) = decide (i ∈ ns)
  | [], i => rfl
  | n :: ns, i => by
    have ih := inV_int ns i
    unfold inV at ih ⊢
    rw [List.map_cons, List.any_cons, ih]
    show (decide (n = i) || decide (i ∈ ns)) = _
    by_cases c : n = i
    · subst c; simp
    · by_cases c2 : i ∈ ns <;> simp [c, c2, Ne.symm c]
theorem all_flat : ∀ ns : List Int, (ns.map V.int).all flatV = true
  | [] => rfl
  | n :: ns => by rw [List.map_cons, List.all_cons, all_flat ns]; rfl
theorem w_inI (h : SqL K H p (ns.map V.int)) (q : Q (.bl (decide (i ∈ ns))) H) : rIn K false (.int i) (.ref p) H Q := ⟨p, _, rfl, .inl h, rfl, all_flat ns, by rw [inV_int]; exact q⟩
theorem w_max (h : SqL K H p (ns.map V.int)) (h0 : 0 < ns.length) (q : ∀ m, m ∈ ns → (∀ y, y ∈ ns → y ≤ m) → Q (.int m) H) : rMax K [.ref p] H Q := ⟨p, ns, rfl, h, h0, q⟩
theorem w_forRev {ta : TE} {g : TG} {tb : TS} {D : Ends} (h : ta σ H fun x H1 => ∃ n : Int, x = .int n ∧ -(2 ^ 62) ≤ (0 : Int) ∧ (0 : Int) < 2 ^ 62 ∧ -(2 ^ 62) ≤ n ∧ n < 2 ^ 62 ∧ ForW (Itc (0 + (((n - 0).toNat : Nat) : Int) - 1) (-1) (n - 0).toNat) g tb D σ H1) : tFor (iRevR (tRg1 ta)) g tb D σ H := h
theorem w_bdR {n : Int} {P : Prop} (h0 : -4611686018427387904 ≤ n) (h1 : n < 4611686018427387904) (q : P) : -(2 ^ 62) ≤ (0 : Int) ∧ (0 : Int) < 2 ^ 62 ∧ -(2 ^ 62) ≤ n ∧ n < 2 ^ 62 ∧ P := ⟨by omega, by omega, by omega, by omega, q⟩
/-- reversed(range(n)): the place of turn t is n - 1 - t -/
theorem forC {n : Nat} {g : TG} {tb : TS} {D : Ends} (Pv : Nat → L2.St → Hp → Prop) (h0 : Pv 0 σ H)
    (hs : ∀ i σ1 H1, i < n → Pv i σ1 H1 → g (.int ((n - 1 - i : Nat) : Int)) σ1 H1 fun σ2 H2 => tb { D with nx := Pv (i + 1), ct := Pv (i + 1), bk := D.nx } σ2 H2) (hd : ∀ σ1 H1, Pv n σ1 H1 → D.nx σ1 H1) :
    ForW (Itc (0 + ((((n : Nat) : Int) - 0).toNat : Int) - 1) (-1) (((n : Nat) : Int) - 0).toNat) g tb D σ H := by
  rw [show (((n : Nat) : Int) - 0).toNat = n by omega]
  refine for_rangeC Pv h0 (fun i σ1 H1 hi p => ?_) hd
  have e : (0 : Int) + ((n : Nat) : Int) - 1 + ((i : Nat) : Int) * -1 = ((n - 1 - i : Nat) : Int) := by omega
  rw [e]
  exact hs i σ1 H1 hi p
end
theorem at_int {xs : List Int} {j : Nat} {v : Int} (h : xs[j]? = some v) : atI (xs.map V.int) (j : Int) = some (V.int v) := at_of (j := j) rfl (by rw [List.getElem?_map, h]; rfl)
theorem w_lstRg3 {σ : L2.St} {H : Hp} {Q : VK} {ta : TA} (h : ta σ H fun vs H1 => ∃ (i j c : Int) (n : Nat), vs = [.int i, .int j, .int c] ∧ RgC i j c n ∧ n ≤ 2 ^ 20 ∧ ∀ q, H1 q = none → Q (.ref q) (upd H1 q (.lst ((List.range n).map fun (m : Nat) => V.int (i + (m : Int) * c))))) : tLstRg3 ta σ H Q := h
def sp_attack_row (K : PySem.W.Frag) (A : CA) : Sp := fun vs H Q _ => ∃ (a : Addr) (c : List Int) (w : Nat), vs = [.ref a, .int (w : Int)] ∧ H a = some (.lst (c.map V.int)) ∧ c.length ≤ 1000 ∧ (∀ n ∈ c, 0 ≤ n) ∧ 1 ≤ w ∧ w ≤ 1000 ∧
  ∀ (r : List Int) (p : Addr) (H' : Hp), (M.keep w c = true → r = []) → (M.keep w c = false → ∃ f k, M.Pat w c f k ∧ r = M.row w f k) → H p = none → Same H H' → H' p = some (.lst (r.map V.int)) → Q (.ref p) H'
variable {K : PySem.W.Frag} {A : CA} {vs : List V} {H : Hp} {Q : VK} {E : XK}
theorem i_attack {a : Addr} {c : List Int} {w : Nat} (h : H a = some (.lst (c.map V.int))) (hl : c.length ≤ 1000) (h0 : ∀ n ∈ c, 0 ≤ n) (w0 : 1 ≤ w) (w1 : w ≤ 1000)
    (q : ∀ (r : List Int) (p : Addr) (H' : Hp), (M.keep w c = true → r = []) → (M.keep w c = false → ∃ f k, M.Pat w c f k ∧ r = M.row w f k) → H p = none → Same H H' → H' p = some (.lst (r.map V.int)) → Q (.ref p) H') :
    sp_attack_row K A [.ref a, .int (w : Int)] H Q E := ⟨a, c, w, rfl, h, hl, h0, w0, w1, q⟩
end G
local macro_rules | `(tactic| walk_at "call") => `(tactic| first
  | (refine' G.w_inI ?g1 ?_; (case g1 => walk_at "sq")) | refine' G.w_forRev ?_ | refine' G.w_lstRg3 ?_ | (refine' G.w_bdR ?g1 ?g2 ?_; (case g1 => walk_at "ar"); (case g2 => walk_at "ar"))
  | (refine' G.w_max ?g1 ?g2 ?_; (case g1 => walk_at "sq"); (case g2 => walk_at "ar"))
  | (refine' G.i_attack ?g1 ?g2 ?g3 ?g4 ?g5 ?_; (case g1 => walk_at "hp"); (case g2 => walk_at "ar"); (case g3 => assumption); (case g4 => walk_at "ar"); (case g5 => walk_at "ar")))
namespace G
open PySem L2
def t_attack_row (K : PySem.W.Frag) (A : CA) : TS :=
  (tSeq (tAsg (tCall (sp_lowest_too_high K A) [] E0 (tCons (tVar 0) (tCons (tVar 1) tNil))) (gName 2))
  (tSeq (tIfS (tB (tIsN (tVar 2))) (tRet (tLst tNil)) tNext)
  (tSeq (tAsg (tOp oAdd (tVar 2) (tVar 1)) (gName 3))
  (tSeq (tWhile (tTest (tOp rEq (tOp (rIxL K) (tVar 0) (tVar 3)) (tC (.int 1)))) (tAug 3 (tVar 1) (ipI fun i j => i + j)))
  (tRet (G.tLstRg3 (tCons (tVar 3) (tCons (tVar 2) (tCons (tUn oNeg (tVar 1)) tNil)))))))))

variable {K : PySem.W.Frag} {A : CA} {vs : List V} {H : Hp} {Q : VK} {E : XK}
theorem hiL_last {w : Nat} {c : List Int} {i : Nat} (h : (hiL w c c.length).getLast? = some i) : i < c.length ∧ M.ht w (c.drop i) > w ∧ ∀ j, i < j → j < c.length → M.ht w (c.drop j) ≤ w := by
  have hm : i ∈ hiL w c c.length := List.mem_of_getLast? h
  have hm2 := List.mem_filter.mp hm
  refine ⟨by simpa using hm2.1, by simpa using hm2.2, fun j hj hjl => ?_⟩
  by_cases hc : M.ht w (c.drop j) > w
  · exfalso
    have hj2 : j ∈ hiL w c c.length := by unfold hiL; rw [List.mem_filter]; exact ⟨by simpa using hjl, by simpa using hc⟩
    have hp : (hiL w c c.length).Pairwise (· < ·) := List.Pairwise.sublist List.filter_sublist List.pairwise_lt_range
    obtain ⟨ys, hy⟩ := List.getLast?_eq_some_iff.mp h
    rw [hy] at hp hj2
    rcases List.mem_append.mp hj2 with q | q
    · have := (List.pairwise_append.mp hp).2.2 j q i (by simp)
      omega
    · have : j = i := by simpa using q
      omega
  · omega
theorem rd_attack_row (h : sp_attack_row K A vs H Q E) : t_attack_row K A { nx := fun _ H' => Q .non H', rt := Q } (start ["blank", "copies", "first", "last"] vs) H := by
  obtain ⟨a, c, w, rfl, ha, hl, h0, w0, w1, q⟩ := h
  have hk := lowV_keep w c
  unfold t_attack_row
  walk_at "go"
  intro H1 e1
  have ha1 := e1 _ _ ha
  walk_at "go"
  unfold lowV at hk ⊢
  cases hg : (hiL w c c.length).getLast? with
  | none =>
    rw [hg] at hk
    have hk : true = M.keep w c := hk
    refine w_iteT ?_
    walk_at "go"
    intro p hp
    exact q [] p _ (fun _ => rfl) (fun e => by rw [e] at hk; cases hk) (e1.free hp) (e1.trans (same_new hp)) upd_same
  | some f =>
    rw [hg] at hk
    have hk : false = M.keep w c := hk
    obtain ⟨f1, f2, f3⟩ := hiL_last hg
    have run0 := M.Run.first w0 f1 f2 f3
    refine w_iteF ?_
    walk_at "go"
    refine ⟨fun m σ H' => ∃ k : Nat, σ = [some (.ref a), some (.int (w : Int)), some (.int (f : Int)), some (.int ((f + (k + 1) * w : Nat) : Int))] ∧ H' = H1 ∧ M.Run w c f k ∧ m = c.length - (f + (k + 1) * w), ⟨_, 0, by rw [show ((f + (0 + 1) * w : Nat) : Int) = (f : Int) + (w : Int) by omega]; rfl, rfl, run0, rfl⟩, ?_⟩
    rintro m σ H' ⟨k, rfl, rfl, run, rfl⟩
    have hlt := run.lt
    have hx : atI (c.map V.int) ((f + (k + 1) * w : Nat) : Int) = some (V.int (c.getD (f + (k + 1) * w) 0)) := at_int (by rw [List.getD_eq_getElem?_getD, List.getElem?_eq_getElem hlt]; rfl)
    have hcg : c[f + (k + 1) * w]? = some (c.getD (f + (k + 1) * w) 0) := by rw [List.getD_eq_getElem?_getD, List.getElem?_eq_getElem hlt]; rfl
    have fin : c.getD (f + (k + 1) * w) 0 ≠ 1 → M.Pat w c f k := fun hne => run.done h0 (by rw [hcg]; exact fun e => hne (Option.some.inj e))
    have ek : ((f + (k + 1) * w : Nat) : Int) + (w : Int) = ((f + (k + 1 + 1) * w : Nat) : Int) := by rw [Nat.add_mul (k + 1) 1 w]; omega
    have nxt : c.getD (f + (k + 1) * w) 0 = 1 → M.Run w c f (k + 1) := fun e1 => run.next w0 (by rw [hcg, e1])
    have hmk : f + (k + 1) * w < f + (k + 1 + 1) * w := by rw [Nat.add_mul (k + 1) 1 w]; omega
    have hrg : f + (k + 1) * w < c.length → ∀ n, n = k + 1 → RgC ((f + (k + 1) * w : Nat) : Int) (f : Int) (-(w : Int)) n := fun _ n hn => rg_down w0 (by omega) (by omega) (by omega) (by omega) (by omega) (by subst hn; omega)
    have hkn : k + 1 ≤ (k + 1) * w := Nat.le_mul_of_pos_right _ w0
    have hrow : ((List.range (k + 1)).map fun (m : Nat) => V.int (((f + (k + 1) * w : Nat) : Int) + (m : Int) * -(w : Int))) = (M.row w f k).map V.int := by unfold M.row; rw [List.map_map]; rfl
    have hk20 : f + (k + 1) * w < c.length → k + 1 ≤ 2 ^ 20 := fun _ => by omega
    generalize f + (k + 1) * w = e at *
    walk_at "go"
    by_cases c1 : c.getD e 0 = 1
    · rw [decide_eq_true c1]
      have run2 := nxt c1
      have hlt2 := run2.lt
      refine ⟨fun σ' H'' => ∃ m', m' < c.length - e ∧ ∃ k' : Nat, σ' = [some (.ref a), some (.int (w : Int)), some (.int (f : Int)), some (.int ((f + (k' + 1) * w : Nat) : Int))] ∧ H'' = H' ∧ M.Run w c f k' ∧ m' = c.length - (f + (k' + 1) * w), fun _ _ h => h, ?_⟩
      walk_at "go"
      rw [ek]
      exact ⟨_, by omega, k + 1, rfl, rfl, run2, rfl⟩
    · rw [decide_eq_false c1]
      show (if false = true then _ else _)
      rw [if_neg Bool.false_ne_true]
      walk_at "go"
      refine ⟨_, _, _, k + 1, rfl, hrg hlt _ rfl, hk20 hlt, fun p hp => ?_⟩
      rw [hrow]
      exact q _ p _ (fun e => by rw [e] at hk; cases hk) (fun _ => ⟨f, k, fin c1, rfl⟩) (e1.free hp) (e1.trans (same_new hp)) upd_same
end G

namespace G
open PySem L2
def sp_law_reads (K : PySem.W.Frag) (A : CA) : Sp := fun vs H Q _ => ∃ (a r : Addr) (c : List Int) (w f k : Nat), vs = [.ref a, .int (w : Int), .ref r] ∧ H a = some (.lst (c.map V.int)) ∧ H r = some (.lst ((M.row w f k).map V.int)) ∧ c.length ≤ 1000 ∧ 1 ≤ w ∧ w ≤ 1000 ∧ M.Pat w c f k ∧
  ∀ (H' : Hp), Same H H' → Q (.bl true) H'
variable {K : PySem.W.Frag} {A : CA} {vs : List V} {H : Hp} {Q : VK} {E : XK}
theorem i_reads {a r : Addr} {c : List Int} {w f k : Nat} (h : H a = some (.lst (c.map V.int))) (hr : H r = some (.lst ((M.row w f k).map V.int))) (hl : c.length ≤ 1000) (w0 : 1 ≤ w) (w1 : w ≤ 1000) (hp : M.Pat w c f k)
    (q : ∀ (H' : Hp), Same H H' → Q (.bl true) H') : sp_law_reads K A [.ref a, .int (w : Int), .ref r] H Q E := ⟨a, r, c, w, f, k, rfl, h, hr, hl, w0, w1, hp, q⟩
theorem row_len (w f k : Nat) : (M.row w f k).length = k + 1 := by unfold M.row; simp
theorem w_eqNil {p q : Addr} {xs : List Int} (hp : H p = some (.lst (xs.map V.int))) (hq : H q = some (.lst [])) (k : Q (.bl (decide (xs = []))) H) : rEqD K (.ref p) (.ref q) H Q := w_eqI2 (xs := xs) (ys := []) (.inl (.inl hp)) (.inl (.inl hq)) k
theorem w_neNil {p q : Addr} {xs : List Int} (hp : H p = some (.lst (xs.map V.int))) (hq : H q = some (.lst [])) (k : Q (.bl (!decide (xs = []))) H) : rNeD K (.ref p) (.ref q) H Q := w_neI2 (xs := xs) (ys := []) (.inl (.inl hp)) (.inl (.inl hq)) k
theorem pat_k {w : Nat} {c : List Int} {f k : Nat} (w0 : 1 ≤ w) (hp : M.Pat w c f k) : k + 1 ≤ c.length ∧ f < c.length ∧ f + (k + 1) * w < c.length := by
  have h1 := hp.1
  have : k + 1 ≤ (k + 1) * w := Nat.le_mul_of_pos_right _ w0
  omega
end G
namespace G
open PySem L2
def t_law_reads (K : PySem.W.Frag) (A : CA) : TS :=
  (tSeq (tIfS (tOr (tNot (tB (tCB (rIsi K) (tCons (tVar 2) (tCons (tC (.ty "list")) tNil))))) (tOr (tTest (tOp (rEqD K) (tVar 2) (tLst tNil))) (tNot (tB (tCB (rAll K) (tCons (tLc (iList K (tVar 2)) (gName 3) tYes (tCall (sp_law_is_integer K A) [] E0 (tCons (tVar 3) tNil)) [3]) tNil)))))) (tRet (tC (.bl false))) tNext)
  (tSeq (tIfS (tB (tCB (rAny K) (tCons (tLc (iRng1 (tCons (tOp oSub (tCB (rLenQ K) (tCons (tVar 2) tNil)) (tC (.int 1))) tNil)) (gName 4) tYes (tOp rNe (tOp oSub (tOp (rIxL K) (tVar 2) (tVar 4)) (tOp (rIxL K) (tVar 2) (tOp oAdd (tVar 4) (tC (.int 1))))) (tVar 1)) [4]) tNil))) (tRet (tC (.bl false))) tNext)
  (tSeq (tAsg (tOp oSub (tOp (rIxL K) (tVar 2) (tUn oNeg (tC (.int 1)))) (tVar 1)) (gName 5))
  (tSeq (tAsg (tOp (rIxL K) (tVar 2) (tC (.int 0))) (gName 6))
  (tSeq (tIfS (tOr (tTest (tOp oLt (tVar 5) (tC (.int 0)))) (tTest (tOp oGe (tVar 6) (tCB (rLenQ K) (tCons (tVar 0) tNil))))) (tRet (tC (.bl false))) tNext)
  (tSeq (tFor (iRng2 (tCons (tVar 5) (tCons (tOp oAdd (tVar 6) (tC (.int 1))) tNil))) (gName 7)
  (tSeq (tAsg (tC (.int 0)) (gName 8))
  (C8.tCut (tIfS (tAnd (tTest (tOp rNe (tVar 7) (tVar 5))) (tAnd (tTest (tOp rNe (tVar 7) (tVar 6))) (tTest (tOp rEq (tOp oMod (tCB oInt (tCons (tOp oSub (tVar 7) (tVar 5)) tNil)) (tVar 1)) (tC (.int 0)))))) (tAsg (tC (.int 1)) (gName 8)) tNext)
  (tIfS (tTest (tOp rNe (tOp (rIxL K) (tVar 0) (tVar 7)) (tVar 8))) (tRet (tC (.bl false))) tNext))))
  (tRet (tC (.bl true)))))))))

variable {K : PySem.W.Frag} {A : CA} {vs : List V} {H : Hp} {Q : VK} {E : XK}
theorem rd_law_reads (h : sp_law_reads K A vs H Q E) : t_law_reads K A { nx := fun _ H' => Q .non H', rt := Q } (start ["chain", "copies", "row", "page", "k", "first", "last", "place", "due"] vs) H := by
  obtain ⟨a, r, c, w, f, k, rfl, ha, hr, hl, w0, w1, hp, q⟩ := h
  have hrl := row_len w f k
  obtain ⟨hk, hf, hfl⟩ := pat_k w0 hp
  have g0 : atI ((M.row w f k).map V.int) 0 = some (V.int ((f + (k + 1) * w : Nat) : Int)) := at_int (j := 0) (M.row_get (Nat.zero_le k))
  have g9 : atI ((M.row w f k).map V.int) (-1) = some (V.int ((f + w : Nat) : Int)) := by
    have e : M.row w f k = (M.row w f k).take k ++ [((f + w : Nat) : Int)] := by
      have h1 := M.take_snoc (M.row w f k) k (by omega)
      have h2 := M.row_get (w := w) (a := f) (Nat.le_refl k)
      rw [List.getElem?_eq_getElem (by omega)] at h2
      rw [Option.some.inj h2, show (M.row w f k).take (k + 1) = M.row w f k from List.take_of_length_le (by omega)] at h1
      rw [show f + (k - k + 1) * w = f + w by simp] at h1
      exact h1.symm
    rw [e, List.map_append]; exact atI_last _ _
  have gj : ∀ j : Nat, j ≤ k → atI ((M.row w f k).map V.int) (j : Int) = some (V.int ((f + (k - j + 1) * w : Nat) : Int)) := fun j hj => at_int (M.row_get hj)
  unfold t_law_reads
  walk_at "go"
  refine w_iteF ?_
  walk_at "go"
  intro l hl1
  have hr1 := keep (o' := .lst []) hr hl1
  have ha1 := keep (o' := .lst []) ha hl1
  have e1 := same_new (o := .lst []) hl1
  have hL : (upd H l (.lst [])) l = some (.lst []) := upd_same
  generalize upd H l (.lst []) = H1 at hr1 ha1 e1 hL
  refine w_eqNil hr1 hL ?_
  rw [show decide (M.row w f k = []) = false from decide_eq_false (fun e => by rw [e] at hrl; simp at hrl)]
  walk_at "go"
  refine lcL (xs := (M.row w f k).map V.int) (fun Dl j H' => Same H1 H' ∧ H' Dl = some (.lst ((List.replicate j true).map V.bl))) ?_ ?_ ?_ ?_
  · intro Dl hD
    exact ⟨same_new hD, upd_same⟩
  · rintro Dl j H3 hD hj ⟨e3, h3⟩
    exact .inl (.inl (e3 _ _ hr1))
  · rintro Dl j x H3 hD hx ⟨e3, h3⟩
    obtain ⟨hj, rfl⟩ := getI hx
    have hsz : ((List.replicate j true).map V.bl).length < sizeLine := by rw [List.length_map, List.length_replicate]; exact L2.small1000 (by omega)
    walk_at "go"
    refine ⟨same_mut e3 hD, ?_⟩
    rw [List.replicate_succ', List.map_append]; exact upd_same
  rintro Dl H3 hD ⟨e3, h3⟩
  have ha3 := e3 _ _ ha1
  have hr3 := e3 _ _ hr1
  walk_at "go"
  refine w_all (.inl (.inl h3)) ?_
  rw [show (List.replicate ((M.row w f k).map V.int).length true).all id = true by simp]
  walk_at "go"
  refine w_iteF ?_
  have hrlm : (((M.row w f k).map V.int).length : Int) = (k : Int) + 1 := by rw [List.length_map, hrl]; rfl
  walk_at "go"
  refine lcR (fun Dl j H' => Same H3 H' ∧ H' Dl = some (.lst ((List.replicate j false).map V.bl))) ?_ ?_ ?_
  · intro Dl hD
    exact ⟨same_new hD, upd_same⟩
  · rintro Dl j H4 hD hj ⟨e4, h4⟩
    have hr4 := e4 _ _ hr3
    rw [show (0 : Int) + (j : Int) = ((j : Nat) : Int) by omega]
    have hjk : j < k := by omega
    have g1 := gj j (by omega)
    have g2 : atI ((M.row w f k).map V.int) ((j : Int) + 1) = some (V.int ((f + (k - (j + 1) + 1) * w : Nat) : Int)) := gj (j + 1) (by omega)
    have hsz : ((List.replicate j false).map V.bl).length < sizeLine := by rw [List.length_map, List.length_replicate]; exact L2.small1000 (by omega)
    walk_at "go"
    refine ⟨same_mut e4 hD, ?_⟩
    rw [List.replicate_succ', List.map_append]
    have ed : ((f + (k - j + 1) * w : Nat) : Int) - ((f + (k - (j + 1) + 1) * w : Nat) : Int) = (w : Int) := by
      rw [show (k - j + 1) * w = (k - (j + 1) + 1) * w + w by rw [show k - j + 1 = (k - (j + 1) + 1) + 1 by omega, Nat.add_mul (k - (j + 1) + 1) 1 w]; omega]
      omega
    rw [ed, decide_eq_true rfl]; exact upd_same
  rintro Dl2 H4 hD2 ⟨e4, h4⟩
  have ha4 := e4 _ _ ha3
  have hr4 := e4 _ _ hr3
  walk_at "go"
  refine w_any (.inl (.inl h4)) ?_
  rw [show ∀ n : Nat, (List.replicate n false).any id = false by intro n; simp]
  walk_at "go"
  refine w_iteD (fun hc => absurd hc (by omega)) (fun _ => ?_)
  have hcl : ((c.map V.int).length : Int) = c.length := by rw [List.length_map]
  walk_at "go"
  refine w_iteD (fun hc => absurd hc (by omega)) (fun _ => ?_)
  walk_at "go"
  rw [show ((f + w : Nat) : Int) - (w : Int) = (f : Int) by omega]
  refine forR (fun i σ H' => ∃ (k7 k8 : Option V), σ = [some (.ref a), some (.int (w : Int)), some (.ref r), none, none, some (.int (f : Int)), some (.int ((f + (k + 1) * w : Nat) : Int)), k7, k8] ∧ Same H4 H') ?_ ?_ ?_
  · exact ⟨none, none, rfl, Same.refl _⟩
  · rintro i σ H5 hi ⟨k7, k8, rfl, e5⟩
    have hi : i ≤ (k + 1) * w := by omega
    have hpi := hp.2 i hi
    have ha5 := e5 _ _ ha4
    have hx : atI (c.map V.int) ((f : Int) + (i : Int)) = some (V.int (if i % w = 0 ∧ i ≠ 0 ∧ i ≠ (k + 1) * w then 1 else 0)) := at_int (j := f + i) hpi
    walk_at "go"
    refine w_cut (fun σ' H' => σ' = [some (.ref a), some (.int (w : Int)), some (.ref r), none, none, some (.int (f : Int)), some (.int ((f + (k + 1) * w : Nat) : Int)), some (.int ((f : Int) + (i : Int))), some (.int (if i % w = 0 ∧ i ≠ 0 ∧ i ≠ (k + 1) * w then 1 else 0))] ∧ H' = H5) ?_ ?_
    · walk_at "go"
      refine w_iteN (fun c1 => ?_) (fun c1 => ?_)
      · walk_at "go"
        refine w_iteN (fun c2 => ?_) (fun c2 => ?_)
        · walk_at "go"
          rw [show (f : Int) + (i : Int) - (f : Int) = ((i : Nat) : Int) by omega, ← Int.natCast_emod]
          refine w_iteD (fun c3 => ?_) (fun c3 => ?_)
          · walk_at "go"
            rw [if_pos ⟨by omega, by omega, by omega⟩]
            exact ⟨rfl, rfl⟩
          · walk_at "go"
            rw [if_neg (fun e => c3 (by rw [e.1]; rfl))]
            exact ⟨rfl, rfl⟩
        · refine w_iteF ?_
          walk_at "go"
          rw [if_neg (fun e => e.2.2 (by omega))]
          exact ⟨rfl, rfl⟩
      · refine w_iteF ?_
        walk_at "go"
        rw [if_neg (fun e => e.2.1 (by omega))]
        exact ⟨rfl, rfl⟩
    · rintro σ' H' ⟨rfl, rfl⟩
      walk_at "go"
      refine w_iteN (fun c1 => absurd rfl c1) (fun _ => ?_)
      walk_at "go"
      exact ⟨_, _, rfl, e5⟩
  · rintro σ H5 ⟨k7, k8, rfl, e5⟩
    walk_at "go"
    exact q _ (((e1.trans e3).trans e4).trans e5)
end G

namespace G
open PySem L2
def sp_law_closed (K : PySem.W.Frag) (A : CA) : Sp := fun vs H Q _ => ∃ (a s : Addr) (c ws : List Int) (pg : Int), vs = [.ref a, .int pg, .ref s] ∧ H a = some (.lst (c.map V.int)) ∧ H s = some (.lst (ws.map V.int)) ∧ c.length ≤ 1000 ∧
  ∀ (p : Addr) (H' : Hp), H p = none → Same H H' → H' p = some (.lst ((M.nums (M.clo c pg ws)).map V.int)) → Q (.ref p) H'
def sp_law_after (K : PySem.W.Frag) (A : CA) : Sp := fun vs H Q _ => ∃ (a s : Addr) (c ws : List Int) (k pg : Int), vs = [.ref a, .int k, .int pg, .ref s] ∧ H a = some (.lst (c.map V.int)) ∧ H s = some (.lst (ws.map V.int)) ∧ c.length ≤ 1000 ∧
  ∀ (p : Addr) (H' : Hp), H p = none → Same H H' → H' p = some (.lst ((M.aft c k pg ws).map V.int)) → Q (.ref p) H'
variable {K : PySem.W.Frag} {A : CA} {vs : List V} {H : Hp} {Q : VK} {E : XK}
theorem i_closed {a s : Addr} {c ws : List Int} {pg : Int} (h : H a = some (.lst (c.map V.int))) (hs : H s = some (.lst (ws.map V.int))) (hl : c.length ≤ 1000)
    (q : ∀ (p : Addr) (H' : Hp), H p = none → Same H H' → H' p = some (.lst ((M.nums (M.clo c pg ws)).map V.int)) → Q (.ref p) H') : sp_law_closed K A [.ref a, .int pg, .ref s] H Q E := ⟨a, s, c, ws, pg, rfl, h, hs, hl, q⟩
theorem i_after {a s : Addr} {c ws : List Int} {k pg : Int} (h : H a = some (.lst (c.map V.int))) (hs : H s = some (.lst (ws.map V.int))) (hl : c.length ≤ 1000)
    (q : ∀ (p : Addr) (H' : Hp), H p = none → Same H H' → H' p = some (.lst ((M.aft c k pg ws).map V.int)) → Q (.ref p) H') : sp_law_after K A [.ref a, .int k, .int pg, .ref s] H Q E := ⟨a, s, c, ws, k, pg, rfl, h, hs, hl, q⟩
/-- the pages of clo from a place on -/
def clf (c : List Int) (pg : Int) (ws : List Int) (j : Nat) : List Nat := (List.range' j (c.length - j)).filter fun i => M.bl pg ws i (c.drop i)
theorem clf_zero (c : List Int) (pg : Int) (ws : List Int) : clf c pg ws 0 = M.clo c pg ws := by unfold clf M.clo; rw [Nat.sub_zero, List.range_eq_range']
theorem clf_end (c : List Int) (pg : Int) (ws : List Int) : clf c pg ws c.length = [] := by unfold clf; rw [Nat.sub_self]; rfl
theorem clf_step {c : List Int} {pg : Int} {ws : List Int} {j : Nat} (hj : j < c.length) : clf c pg ws j = if M.bl pg ws j (c.drop j) then j :: clf c pg ws (j + 1) else clf c pg ws (j + 1) := by
  unfold clf
  rw [show c.length - j = (c.length - (j + 1)) + 1 by omega, List.range'_succ, List.filter_cons]
theorem clf_len {c : List Int} {pg : Int} {ws : List Int} {j : Nat} : (clf c pg ws j).length ≤ c.length := by
  unfold clf
  refine Nat.le_trans (List.length_filter_le _ _) ?_
  rw [List.length_range']; omega
theorem bl_end {pg : Int} {ws c : List Int} : M.bl pg ws c.length (c.drop c.length) = false := by rw [List.drop_length]; rfl
theorem gI {c : List Int} {j : Nat} (hj : j < c.length) : atI (c.map V.int) (j : Int) = some (V.int (c.getD j 0)) := at_int (by rw [List.getD_eq_getElem?_getD, List.getElem?_eq_getElem hj]; rfl)
theorem gD {c : List Int} {j : Nat} (hj : j < c.length) : c[j]? = some (c.getD j 0) := by rw [List.getD_eq_getElem?_getD, List.getElem?_eq_getElem hj]; rfl
end G
local macro_rules | `(tactic| walk_at "call") => `(tactic| first
  | (refine' G.i_closed ?g1 ?g2 ?g3 ?_; (case g1 => walk_at "hp"); (case g2 => walk_at "hp"); (case g3 => walk_at "ar"))
  | (refine' G.i_after ?g1 ?g2 ?g3 ?_; (case g1 => walk_at "hp"); (case g2 => walk_at "hp"); (case g3 => walk_at "ar")))
namespace G
open PySem L2
def t_law_closed (K : PySem.W.Frag) (A : CA) : TS :=
  (tSeq (tAsg (tLst tNil) (gName 3))
  (tSeq (tAsg (tC (.bl false)) (gName 4))
  (tSeq (tFor (iRevR (tRg1 (tCB (rLenQ K) (tCons (tVar 0) tNil)))) (gName 5)
  (tSeq (tAsg (tOrV (tOp (rIn K false) (tVar 5) (tVar 2)) (tOp oGt (tOp oAdd (tCB oInt (tCons (tOp rEq (tVar 5) (tVar 1)) tNil)) (tCB oInt (tCons (tVar 4) tNil))) (tOp (rIxL K) (tVar 0) (tVar 5)))) (gName 4))
  (tIfS (tB (tVar 4)) (tDrop (tBM K "list" rAppend (tVar 3) (tCons (tVar 5) tNil))) tNext)))
  (tRet (tRevL K (tVar 3))))))
def t_law_after (K : PySem.W.Frag) (A : CA) : TS :=
  (tSeq (tAsg (tLst tNil) (gName 4))
  (tSeq (tFor (iRng1 (tCons (tCB (rLenQ K) (tCons (tVar 0) tNil)) tNil)) (gName 5)
  (tIfS (tTest (tOp (rIn K false) (tVar 5) (tVar 3))) (tDrop (tBM K "list" rAppend (tVar 4) (tCons (tVar 1) tNil))) (tDrop (tBM K "list" rAppend (tVar 4) (tCons (tOp oSub (tOp oSub (tOp (rIxL K) (tVar 0) (tVar 5)) (tCB oInt (tCons (tOp rEq (tVar 5) (tVar 2)) tNil))) (tCB oInt (tCons (tOp (rIn K false) (tOp oAdd (tVar 5) (tC (.int 1))) (tVar 3)) tNil))) tNil)))))
  (tRet (tVar 4))))

variable {K : PySem.W.Frag} {A : CA} {vs : List V} {H : Hp} {Q : VK} {E : XK}
theorem rd_law_closed (h : sp_law_closed K A vs H Q E) : t_law_closed K A { nx := fun _ H' => Q .non H', rt := Q } (start ["chain", "page", "wanted", "copied", "below", "place"] vs) H := by
  obtain ⟨a, s, c, ws, pg, rfl, ha, hs, hl, q⟩ := h
  have hcl : ((c.map V.int).length : Int) = c.length := by rw [List.length_map]
  unfold t_law_closed
  walk_at "go"
  intro f hf
  walk_at "go"
  rw [hcl]
  refine forC (fun t σ H' => ∃ k5 : Option V, σ = [some (.ref a), some (.int pg), some (.ref s), some (.ref f), some (.bl (M.bl pg ws (c.length - t) (c.drop (c.length - t)))), k5] ∧ t ≤ c.length ∧ Same H H' ∧ H' f = some (.lst ((M.nums (clf c pg ws (c.length - t)).reverse).map V.int))) ?_ ?_ ?_
  · refine ⟨none, ?_, by omega, same_new hf, ?_⟩
    · rw [Nat.sub_zero, bl_end]; rfl
    · rw [Nat.sub_zero, clf_end]; exact upd_same
  · rintro t σ H1 ht ⟨k5, rfl, _, e, h1⟩
    have hj : c.length - 1 - t < c.length := by omega
    have ej : c.length - t = (c.length - 1 - t) + 1 := by omega
    have ej2 : c.length - (t + 1) = c.length - 1 - t := by omega
    have hlen := clf_len (c := c) (pg := pg) (ws := ws) (j := c.length - t)
    rw [ej] at h1 hlen ⊢
    rw [ej2]
    have ha1 := e _ _ ha
    have hs1 := e _ _ hs
    have hx := gI hj
    have hb := M.bl_drop (pg := pg) (W := ws) (gD hj)
    have hst := clf_step (pg := pg) (ws := ws) hj
    generalize c.length - 1 - t = j at *
    have fin : ∀ (b : Bool), b = M.bl pg ws j (c.drop j) → (if b = true then
        ({ nx := fun σ' H' => ∃ k5 : Option V, σ' = [some (.ref a), some (.int pg), some (.ref s), some (.ref f), some (.bl (M.bl pg ws j (c.drop j))), k5] ∧ t + 1 ≤ c.length ∧ Same H H' ∧ H' f = some (.lst ((M.nums (clf c pg ws j).reverse).map V.int)), rt := Q } : Ends).nx [some (.ref a), some (.int pg), some (.ref s), some (.ref f), some (.bl b), some (.int (j : Int))] (upd H1 f (.lst ((M.nums (clf c pg ws (j + 1)).reverse).map V.int ++ [V.int (j : Int)])))
        else ({ nx := fun σ' H' => ∃ k5 : Option V, σ' = [some (.ref a), some (.int pg), some (.ref s), some (.ref f), some (.bl (M.bl pg ws j (c.drop j))), k5] ∧ t + 1 ≤ c.length ∧ Same H H' ∧ H' f = some (.lst ((M.nums (clf c pg ws j).reverse).map V.int)), rt := Q } : Ends).nx [some (.ref a), some (.int pg), some (.ref s), some (.ref f), some (.bl b), some (.int (j : Int))] H1) := by
      intro b hbb
      cases b with
      | true =>
        rw [if_pos rfl]
        refine ⟨_, by rw [hbb], by omega, same_mut e hf, ?_⟩
        rw [hst, if_pos hbb.symm, List.reverse_cons]
        unfold M.nums
        rw [List.map_append, List.map_append]; exact upd_same
      | false =>
        rw [if_neg Bool.false_ne_true]
        refine ⟨_, by rw [hbb], by omega, e, ?_⟩
        rw [hst, if_neg (by rw [← hbb]; decide)]; exact h1
    have hsz : ((M.nums (clf c pg ws (j + 1)).reverse).map V.int).length < sizeLine := by
      unfold M.nums
      rw [List.length_map, List.length_map, List.length_reverse]; exact L2.small1000 (by omega)
    walk_at "go"
    refine w_iteD (fun c1 => ?_) (fun c1 => ?_)
    · walk_at "go"
      have := fin true (by rw [hb, decide_eq_true c1]; rfl)
      rw [if_pos rfl] at this
      exact this
    · walk_at "go"
      have hb2 : decide (c.getD j 0 < (if decide ((j : Int) = pg) = true then 1 else 0) + (if M.bl pg ws (j + 1) (c.drop (j + 1)) = true then 1 else 0)) = M.bl pg ws j (c.drop j) := by
        rw [hb, decide_eq_false c1, Bool.false_or]
        simp only [decide_eq_true_eq, gt_iff_lt]
      have := fin _ hb2
      rw [hb2] at this ⊢
      cases hbb : M.bl pg ws j (c.drop j) with
      | true =>
        rw [hbb, if_pos rfl] at this
        walk_at "go"
        exact this
      | false =>
        rw [hbb, if_neg Bool.false_ne_true] at this
        walk_at "go"
        exact this
  · rintro σ H1 ⟨k5, rfl, _, e, h1⟩
    rw [Nat.sub_self, clf_zero] at h1
    walk_at "go"
    intro p hp
    have er : (List.map V.int (M.nums (M.clo c pg ws).reverse)).reverse = (M.nums (M.clo c pg ws)).map V.int := by
      unfold M.nums; rw [← List.map_reverse, ← List.map_reverse, List.reverse_reverse]
    rw [er]
    exact q p _ (e.free hp) (e.trans (same_new hp)) upd_same
theorem rd_law_after (h : sp_law_after K A vs H Q E) : t_law_after K A { nx := fun _ H' => Q .non H', rt := Q } (start ["chain", "lines", "page", "copied", "following", "place"] vs) H := by
  obtain ⟨a, s, c, ws, k, pg, rfl, ha, hs, hl, q⟩ := h
  have hcl : ((c.map V.int).length : Int) = c.length := by rw [List.length_map]
  unfold t_law_after
  walk_at "go"
  intro f hf
  walk_at "go"
  refine forR (fun i σ H' => ∃ k5 : Option V, σ = [some (.ref a), some (.int k), some (.int pg), some (.ref s), some (.ref f), k5] ∧ Same H H' ∧ H' f = some (.lst (((M.aft c k pg ws).take i).map V.int))) ?_ ?_ ?_
  · exact ⟨none, rfl, same_new hf, upd_same⟩
  · rintro i σ H1 hi ⟨k5, rfl, e, h1⟩
    have hi : i < c.length := by omega
    rw [show (0 : Int) + (i : Int) = ((i : Nat) : Int) by omega]
    have ha1 := e _ _ ha
    have hs1 := e _ _ hs
    have hx := gI hi
    have hal := M.aft_len c k pg ws
    have hsz : (((M.aft c k pg ws).take i).map V.int).length < sizeLine := by rw [List.length_map, List.length_take]; exact L2.small1000 (by omega)
    have hts := M.take_snoc (M.aft c k pg ws) i (by omega)
    have hget : (M.aft c k pg ws)[i]'(by omega) = if (i : Int) ∈ ws then k else c.getD i 0 - (if (i : Int) = pg then 1 else 0) - (if ((i : Int) + 1) ∈ ws then 1 else 0) := by
      have : (M.aft c k pg ws)[i]? = some (if (i : Int) ∈ ws then k else c.getD i 0 - (if (i : Int) = pg then 1 else 0) - (if ((i : Int) + 1) ∈ ws then 1 else 0)) := by
        unfold M.aft; rw [List.getElem?_map, List.getElem?_range hi]; rfl
      rw [List.getElem?_eq_getElem (by omega)] at this
      exact Option.some.inj this
    rw [hget] at hts
    walk_at "go"
    refine w_iteD (fun c1 => ?_) (fun c1 => ?_)
    · rw [if_pos c1] at hts
      walk_at "go"
      refine ⟨_, rfl, same_mut e hf, ?_⟩
      rw [← hts, List.map_append]; exact upd_same
    · rw [if_neg c1] at hts
      walk_at "go"
      refine ⟨_, rfl, same_mut e hf, ?_⟩
      rw [← hts, List.map_append]
      simp only [decide_eq_true_eq]
      exact upd_same
  · rintro σ H1 ⟨k5, rfl, e, h1⟩
    rw [List.take_of_length_le (by rw [M.aft_len]; omega)] at h1
    walk_at "go"
    exact q f H1 hf e h1
end G

namespace G
open PySem L2
def sp_law_wins (K : PySem.W.Frag) (A : CA) : Sp := fun vs H Q _ => ∃ (s a r : Addr) (c : List Int) (kk : Int) (w f k : Nat), vs = [.ref s, .ref a, .int kk, .int (w : Int), .ref r] ∧ Src H s ∧ a ≠ s ∧ r ≠ s ∧ H a = some (.lst (c.map V.int)) ∧ H r = some (.lst ((M.row w f k).map V.int)) ∧
  c.length ≤ 1000 ∧ 1 ≤ w ∧ w ≤ 1000 ∧ M.Pat w c f k ∧ ∀ (H' : Hp), But s H H' → Src H' s → Q (.bl true) H'
variable {K : PySem.W.Frag} {A : CA} {vs : List V} {H : Hp} {Q : VK} {E : XK}
theorem i_wins {s a r : Addr} {c : List Int} {kk : Int} {w f k : Nat} (hs : Src H s) (na : a ≠ s) (nr : r ≠ s) (h : H a = some (.lst (c.map V.int))) (hr : H r = some (.lst ((M.row w f k).map V.int))) (hl : c.length ≤ 1000) (w0 : 1 ≤ w) (w1 : w ≤ 1000) (hp : M.Pat w c f k)
    (q : ∀ (H' : Hp), But s H H' → Src H' s → Q (.bl true) H') : sp_law_wins K A [.ref s, .ref a, .int kk, .int (w : Int), .ref r] H Q E := ⟨s, a, r, c, kk, w, f, k, rfl, hs, na, nr, h, hr, hl, w0, w1, hp, q⟩
theorem ints_len (l : List Nat) : (M.nums l).length = l.length := by unfold M.nums; simp
end G
namespace G
open PySem L2
def t_law_wins (K : PySem.W.Frag) (A : CA) : TS :=
  (tSeq (tAsg (tCB (oListOf K) (tCons (tVar 1) tNil)) (gName 5))
  (tSeq (tFor (iList K (tVar 4)) (gName 6)
  (tSeq (tAsg (tLc (iRng1 (tCons (tCall (sp_law_take K A) [] E0 (tCons (tVar 0) (tCons (tOp oAdd (tC (.int 1)) (tCB oMin2 (tCons (tVar 3) (tCons (tC (.int 5)) tNil)))) tNil))) tNil)) (gName 9) tYes (tCall (sp_law_take K A) [] E0 (tCons (tVar 0) (tCons (tCB (rLenQ K) (tCons (tVar 1) tNil)) tNil))) [9]) (gName 7))
  (tSeq (tAsg (tCall (sp_law_closed K A) [] E0 (tCons (tVar 5) (tCons (tVar 6) (tCons (tVar 7) tNil)))) (gName 8))
  (C8.tCut (tIfS (tTest (tOp oGt (tCB (rLenQ K) (tCons (tVar 8) tNil)) (tVar 3))) (tAsg (tCall (sp_law_closed K A) [] E0 (tCons (tVar 5) (tCons (tVar 6) (tCons (tLst tNil) tNil)))) (gName 8)) tNext)
  (tSeq (tIfS (tTest (tOp oGt (tCB (rLenQ K) (tCons (tVar 8) tNil)) (tVar 3))) (tRet (tC (.bl true))) tNext)
  (tAsg (tCall (sp_law_after K A) [] E0 (tCons (tVar 5) (tCons (tVar 2) (tCons (tVar 6) (tCons (tVar 8) tNil))))) (gName 5)))))))
  (tRet (tC (.bl false)))))

variable {K : PySem.W.Frag} {A : CA} {vs : List V} {H : Hp} {Q : VK} {E : XK}
theorem rd_law_wins (h : sp_law_wins K A vs H Q E) : t_law_wins K A { nx := fun _ H' => Q .non H', rt := Q } (start ["bag", "chain", "lines", "copies", "row", "state", "page", "wanted", "copied", "turn"] vs) H := by
  obtain ⟨s, a, r, c, kk, w, f, k, rfl, hs, na, nr, ha, hr, hl, w0, w1, hp, q⟩ := h
  have hrl := row_len w f k
  obtain ⟨hk, hf, hfl⟩ := pat_k w0 hp
  have hcl : ((c.map V.int).length : Int) = c.length := by rw [List.length_map]
  unfold t_law_wins
  walk_at "go"
  intro st hst
  have nst : st ≠ s := hs.neFree hst
  have hr1 := keep (o' := .lst (c.map V.int)) hr hst
  have ha1 := keep (o' := .lst (c.map V.int)) ha hst
  have b1 : But s H (upd H st (.lst (c.map V.int))) := But.refl.new hst
  have s1 := hs.new (o := .lst (c.map V.int)) hst
  have h1 : (upd H st (.lst (c.map V.int))) st = some (.lst (c.map V.int)) := upd_same
  generalize upd H st (.lst (c.map V.int)) = H1 at hr1 ha1 b1 s1 h1
  walk_at "go"
  refine forL (xs := (M.row w f k).map V.int) (fun i σ H' => i ≤ k ∧ ∃ (st : Addr) (sl : List Int) (k6 k7 k8 : Option V), σ = [some (.ref s), some (.ref a), some (.int kk), some (.int (w : Int)), some (.ref r), some (.ref st), k6, k7, k8, none] ∧
    But s H H' ∧ Src H' s ∧ st ≠ s ∧ H' st = some (.lst (sl.map V.int)) ∧ sl.length = c.length ∧ M.Pat w sl f (k - i)) ?_ ?_ ?_ ?_
  · exact ⟨Nat.zero_le _, st, c, none, none, none, rfl, b1, s1, nst, h1, rfl, hp⟩
  · rintro i σ H' hi ⟨_, st, sl, k6, k7, k8, rfl, b, s', _, _, _, _⟩
    exact .inl (.inl (b.at nr hr))
  · rintro i x σ H2 hx ⟨hik, st, sl, k6, k7, k8, rfl, b2, s2, nst, h2, hsl, hpt⟩
    have hg := M.row_get (w := w) (a := f) hik
    rw [List.getElem?_map, hg] at hx
    have hx := (Option.some.inj hx).symm
    subst hx
    have hwm : (0 : Int) < 1 + (if (5 : Int) < (w : Int) then 5 else (w : Int)) ∧ 1 + (if (5 : Int) < (w : Int) then 5 else (w : Int)) ≤ 6 := by split <;> omega
    walk_at "go"
    generalize (1 : Int) + (if (5 : Int) < (w : Int) then 5 else (w : Int)) = m at hwm
    walk_at "go"
    intro tn H3 t0 t1 b3 s3
    have h3 := b3.at nst h2
    have b23 := b2.trans b3
    walk_at "go"
    refine lcR (fun Dl j H' => ∃ ws : List Int, ws.length = j ∧ But s H3 H' ∧ Src H' s ∧ H' Dl = some (.lst (ws.map V.int))) ?_ ?_ ?_
    · intro Dl hD
      exact ⟨[], rfl, But.refl.new hD, s3.new hD, upd_same⟩
    · rintro Dl j H4 hD hj ⟨ws, hwl, b4, s4, h4⟩
      have nD : Dl ≠ s := s3.neFree hD
      have ha4 := b4.at na (b23.at na ha)
      have hsz : (ws.map V.int).length < sizeLine := by rw [List.length_map]; exact L2.small1000 (by omega)
      walk_at "go"
      intro r1 H5 r2 r3 b5 s5
      have h5 := b5.at nD h4
      walk_at "go"
      refine ⟨ws ++ [r1], by simp [hwl], (b4.trans b5).mut hD, s5.mut nD, ?_⟩
      rw [List.map_append]; exact upd_same
    rintro W H4 hW ⟨ws, hwl, b4, s4, h4⟩
    have nW : W ≠ s := s3.neFree hW
    have h24 := b4.at nst h3
    have b24 := b23.trans b4
    walk_at "go"
    intro cp H5 hcp e5 h5
    have b25 := b24.trans (Same.but e5)
    have s5 := Src.same e5 s4
    have h25 := e5 _ _ h24
    have ncp : cp ≠ s := s4.neFree hcp
    walk_at "go"
    refine w_cut (fun σ' H' => ∃ (ws : List Int) (cp : Addr), σ' = [some (.ref s), some (.ref a), some (.int kk), some (.int (w : Int)), some (.ref r), some (.ref st), some (.int ((f + (k - i + 1) * w : Nat) : Int)), some (.ref W), some (.ref cp), none] ∧
      But s H H' ∧ Src H' s ∧ H' st = some (.lst (sl.map V.int)) ∧ H' cp = some (.lst ((M.nums (M.clo sl ((f + (k - i + 1) * w : Nat) : Int) ws)).map V.int))) ?_ ?_
    · walk_at "go"
      refine w_iteD (fun c1 => ?_) (fun c1 => ?_)
      · walk_at "go"
        intro z hz
        have h26 := keep (o' := .lst []) h25 hz
        have hZ : (upd H5 z (.lst [])) z = some (.lst (([] : List Int).map V.int)) := upd_same
        have b26 := b25.new (o := .lst []) hz
        have s6 := s5.new (o := .lst []) hz
        generalize upd H5 z (.lst []) = H6 at h26 hZ b26 s6
        walk_at "go"
        intro cp2 H7 hcp2 e7 h7
        exact ⟨[], cp2, rfl, b26.trans (Same.but e7), Src.same e7 s6, e7 _ _ h26, h7⟩
      · walk_at "go"
        exact ⟨ws, cp, rfl, b25, s5, h25, h5⟩
    · rintro σ' H6 ⟨ws, cp, rfl, b6, s6, h26, h6⟩
      have hcl2 : (((M.nums (M.clo sl ((f + (k - i + 1) * w : Nat) : Int) ws)).map V.int).length : Int) = (M.clo sl ((f + (k - i + 1) * w : Nat) : Int) ws).length := by rw [List.length_map, ints_len]
      walk_at "go"
      refine w_iteD (fun c1 => ?_) (fun c1 => ?_)
      · walk_at "go"
        exact q _ b6 s6
      · rw [hcl2] at c1
        have hle : (M.clo sl ((f + (k - i + 1) * w : Nat) : Int) ws).length ≤ w := by omega
        walk_at "go"
        intro st2 H7 hst2 e7 h7
        have nst2 : st2 ≠ s := s6.neFree hst2
        cases hkm : k - i with
        | zero =>
          exfalso
          rw [hkm] at hpt hle
          have := M.win_last hpt ws
          omega
        | succ m =>
          rw [hkm] at hpt hle h7
          have hpt2 := M.pat_next w0 hpt (K := kk) hle
          refine ⟨by omega, st2, _, _, _, _, rfl, b6.trans (Same.but e7), Src.same e7 s6, nst2, h7, by rw [M.aft_len, hsl], ?_⟩
          rw [show k - (i + 1) = m by omega]; exact hpt2
  · rintro σ H' ⟨hik, _⟩
    rw [List.length_map, hrl] at hik
    omega
end G

namespace G
open PySem L2
def sp_law_wins_always (K : PySem.W.Frag) (A : CA) : Sp := fun vs H Q _ => ∃ (a r : Addr) (c : List Int) (kk : Int) (w f k : Nat), vs = [.ref a, .int kk, .int (w : Int), .ref r] ∧ H a = some (.lst (c.map V.int)) ∧ H r = some (.lst ((M.row w f k).map V.int)) ∧
  c.length ≤ 7 ∧ 1 ≤ w ∧ w ≤ 1000 ∧ M.Pat w c f k ∧ ∀ (H' : Hp), Same H H' → Q (.bl true) H'
variable {K : PySem.W.Frag} {A : CA} {vs : List V} {H : Hp} {Q : VK} {E : XK}
theorem i_always {a r : Addr} {c : List Int} {kk : Int} {w f k : Nat} (h : H a = some (.lst (c.map V.int))) (hr : H r = some (.lst ((M.row w f k).map V.int))) (hl : c.length ≤ 7) (w0 : 1 ≤ w) (w1 : w ≤ 1000) (hp : M.Pat w c f k)
    (q : ∀ (H' : Hp), Same H H' → Q (.bl true) H') : sp_law_wins_always K A [.ref a, .int kk, .int (w : Int), .ref r] H Q E := ⟨a, r, c, kk, w, f, k, rfl, h, hr, hl, w0, w1, hp, q⟩
theorem w_shl {k : Nat} (h : k ≤ 134217727) (q : Q (.int (2 ^ k)) H) : G.oShl1 (.int 1) (.int (k : Int)) H Q := ⟨k, rfl, rfl, h, q⟩
theorem w_shr {t p : Nat} (q : Q (.int ((t / 2 ^ p : Nat) : Int)) H) : G.oShrN (.int (t : Int)) (.int (p : Int)) H Q := ⟨(t : Int), p, rfl, rfl, by
  have e : (t : Int) / 2 ^ p = ((t / 2 ^ p : Nat) : Int) := by rw [Int.natCast_ediv, Int.natCast_pow]; rfl
  rw [e]; exact q⟩
theorem w_odd {n : Nat} (q : Q (.int ((n % 2 : Nat) : Int)) H) : G.oOdd (.int (n : Int)) (.int 1) H Q := ⟨n, rfl, rfl, q⟩
theorem bits_succ (i t : Nat) : M.bits (i + 1) t = M.bits i t ++ (if t / 2 ^ i % 2 = 1 then [i] else []) := by
  unfold M.bits
  rw [List.range_succ, List.filter_append]
  by_cases h : t / 2 ^ i % 2 = 1 <;> simp [h]
theorem bits_len (n t : Nat) : (M.bits n t).length ≤ n := by unfold M.bits; exact Nat.le_trans (List.length_filter_le _ _) (by simp)
theorem dp_nil {p q : Addr} {xs : List V} (hx : xs = []) (hp : H p = some (.lst xs)) (hq : H q = some (.lst [])) (k : Q (.bl true) H) : rEqD K (.ref p) (.ref q) H Q := by
  subst hx
  exact ⟨_, _, dp_ints (xs := []) (.inl (.inl hp)), dp_ints (xs := []) (.inl (.inl hq)), di_shaped [], di_shaped [], k⟩
theorem pow7 {n : Nat} (h : n ≤ 7) : (2 : Int) ^ n ≤ 128 ∧ ((2 : Int) ^ n).toNat = 2 ^ n ∧ 0 ≤ (2 : Int) ^ n := by
  have h1 : (2 : Int) ^ n = ((2 ^ n : Nat) : Int) := by rw [Int.natCast_pow]; rfl
  have h2 : 2 ^ n ≤ 2 ^ 7 := Nat.pow_le_pow_right (by decide) h
  rw [h1]
  exact ⟨Int.ofNat_le.mpr h2, Int.toNat_natCast _, Int.natCast_nonneg _⟩
end G
local macro_rules | `(tactic| walk_at "call") => `(tactic| first
  | (refine' G.w_shl ?g1 ?_; (case g1 => walk_at "ar")) | refine' G.w_shr ?_ | refine' G.w_odd ?_)
namespace G
open PySem L2
def t_law_wins_always (K : PySem.W.Frag) (A : CA) : TS :=
  (tSeq (tAsg (tLst (tCons (tCB (oListOf K) (tCons (tVar 0) tNil)) tNil)) (gName 4))
  (tSeq (tFor (iList K (tVar 3)) (gName 5)
  (tSeq (tAsg (tLst tNil) (gName 6))
  (tSeq (tFor (iList K (tVar 4)) (gName 7)
  (tFor (iRng1 (tCons (tOp G.oShl1 (tC (.int 1)) (tCB (rLenQ K) (tCons (tVar 0) tNil))) tNil)) (gName 8)
  (tSeq (tAsg (tLc (iRng1 (tCons (tCB (rLenQ K) (tCons (tVar 0) tNil)) tNil)) (gName 10) (tTest (tOp rEq (tOp G.oOdd (tOp G.oShrN (tVar 8) (tVar 10)) (tC (.int 1))) (tC (.int 1)))) (tVar 10) [10]) (gName 9))
  (tIfS (tAnd (tTest (tOp oLe (tCB (rLenQ K) (tCons (tVar 9) tNil)) (tVar 2))) (tTest (tOp (rEqD K) (tVar 9) (tCall (sp_law_closed K A) [] E0 (tCons (tVar 7) (tCons (tVar 5) (tCons (tVar 9) tNil))))))) (tDrop (tBM K "list" rAppend (tVar 6) (tCons (tCall (sp_law_after K A) [] E0 (tCons (tVar 7) (tCons (tVar 1) (tCons (tVar 5) (tCons (tVar 9) tNil))))) tNil))) tNext))))
  (tAsg (tVar 6) (gName 4)))))
  (tRet (tOp (rEqD K) (tVar 4) (tLst tNil)))))

variable {K : PySem.W.Frag} {A : CA} {vs : List V} {H : Hp} {Q : VK} {E : XK}
/-- a state of the game: a list at x with the pattern -/
def Stt (H : Hp) (w f k n : Nat) (x : Addr) : Prop := ∃ sl : List Int, H x = some (.lst (sl.map V.int)) ∧ sl.length = n ∧ M.Pat w sl f k
theorem Stt.same {H H' : Hp} {w f k n : Nat} {x : Addr} (e : Same H H') (h : Stt H w f k n x) : Stt H' w f k n x := let ⟨sl, a, b, c⟩ := h; ⟨sl, e _ _ a, b, c⟩
theorem rd_law_wins_always (h : sp_law_wins_always K A vs H Q E) : t_law_wins_always K A { nx := fun _ H' => Q .non H', rt := Q } (start ["chain", "lines", "copies", "row", "states", "page", "following", "state", "mask", "copied", "place"] vs) H := by
  obtain ⟨a, r, c, kk, w, f, k, rfl, ha, hr, hl, w0, w1, hp, q⟩ := h
  have hrl := row_len w f k
  obtain ⟨hk, hf, hfl⟩ := pat_k w0 hp
  have hcl : ((c.map V.int).length : Int) = c.length := by rw [List.length_map]
  obtain ⟨p1, p2, p3⟩ := pow7 hl
  unfold t_law_wins_always
  walk_at "go"
  intro st hst
  have hr1 := keep (o' := .lst (c.map V.int)) hr hst
  have ha1 := keep (o' := .lst (c.map V.int)) ha hst
  have e1 := same_new (o := .lst (c.map V.int)) hst
  have h1 : (upd H st (.lst (c.map V.int))) st = some (.lst (c.map V.int)) := upd_same
  generalize upd H st (.lst (c.map V.int)) = H1 at hr1 ha1 e1 h1
  walk_at "go"
  intro S hS
  have hS1 : (upd H1 S (.lst [.ref st])) S = some (.lst [.ref st]) := upd_same
  have h2 := keep (o' := .lst [.ref st]) h1 hS
  have hr2 := keep (o' := .lst [.ref st]) hr1 hS
  have e2 := e1.trans (same_new (o := .lst [.ref st]) hS)
  generalize upd H1 S (.lst [.ref st]) = H2 at hS1 h2 hr2 e2
  walk_at "go"
  refine forL (xs := (M.row w f k).map V.int) (fun i σ H' => ∃ (S : Addr) (as : List Addr) (k5 k6 k7 k8 k9 : Option V), σ = [some (.ref a), some (.int kk), some (.int (w : Int)), some (.ref r), some (.ref S), k5, k6, k7, k8, k9, none] ∧
    Same H H' ∧ H' S = some (.lst (as.map V.ref)) ∧ as.length ≤ 1 ∧ (∀ x ∈ as, i ≤ k ∧ Stt H' w f (k - i) c.length x)) ?_ ?_ ?_ ?_
  · refine ⟨S, [st], none, none, none, none, none, rfl, e2, hS1, by simp, fun x hx => ?_⟩
    rw [List.mem_singleton.mp hx]
    exact ⟨Nat.zero_le _, c, h2, rfl, hp⟩
  · rintro i σ H' hi ⟨S, as, k5, k6, k7, k8, k9, rfl, e, _⟩
    exact .inl (.inl (e _ _ hr))
  · rintro i x σ H3 hx ⟨S, as, k5, k6, k7, k8, k9, rfl, e3, hS3, hlen, hst3⟩
    obtain ⟨hi, rfl⟩ := getI hx
    rw [hrl] at hi
    have hg := M.row_get (w := w) (a := f) (show i ≤ k by omega)
    rw [List.getElem?_eq_getElem (by omega)] at hg
    rw [Option.some.inj hg]
    walk_at "go"
    intro F hF
    have hF1 : (upd H3 F (.lst [])) F = some (.lst (([] : List Addr).map V.ref)) := upd_same
    have hS4 := keep (o' := .lst []) hS3 hF
    have e4 := e3.trans (same_new (o := .lst []) hF)
    have hst4 : ∀ x ∈ as, i ≤ k ∧ Stt (upd H3 F (.lst [])) w f (k - i) c.length x := fun x hx => ⟨(hst3 x hx).1, (hst3 x hx).2.same (same_new hF)⟩
    have hFN := e3.free hF
    generalize upd H3 F (.lst []) = H4 at hF1 hS4 e4 hst4
    have nSF : S ≠ F := ne_of_none hS3 hF
    have asF : ∀ x ∈ as, x ≠ F := fun x hx => by
      obtain ⟨sl, hx1, _⟩ := (hst3 x hx).2
      exact ne_of_none hx1 hF
    walk_at "go"
    refine forL (xs := as.map V.ref) (fun j σ H' => ∃ (fs : List Addr) (k7 k8 k9 : Option V), σ = [some (.ref a), some (.int kk), some (.int (w : Int)), some (.ref r), some (.ref S), some (.int ((f + (k - i + 1) * w : Nat) : Int)), some (.ref F), k7, k8, k9, none] ∧
      Same H H' ∧ H' S = some (.lst (as.map V.ref)) ∧ (∀ x ∈ as, i ≤ k ∧ Stt H' w f (k - i) c.length x) ∧ H' F = some (.lst (fs.map V.ref)) ∧ fs.length ≤ j ∧ (∀ x ∈ fs, x ≠ F ∧ i + 1 ≤ k ∧ Stt H' w f (k - (i + 1)) c.length x)) ?_ ?_ ?_ ?_
    · exact ⟨[], k7, k8, k9, rfl, e4, hS4, hst4, hF1, by simp, fun x hx => by cases hx⟩
    · rintro j σ H' hj ⟨fs, k7, k8, k9, rfl, _, hS5, _⟩
      exact .inl (.inl hS5)
    · rintro j x σ H5 hx ⟨fs, k7, k8, k9, rfl, e5, hS5, hst5, hF5, hfl5, hfs5⟩
      rw [List.getElem?_map] at hx
      obtain ⟨x, hxm, rfl⟩ := Option.map_eq_some_iff.mp hx
      have hxa := List.mem_of_getElem? hxm
      have hj1 : j < as.length := (List.getElem?_eq_some_iff.mp hxm).1
      have ha5 := e5 _ _ ha
      walk_at "go"
      rw [show (c.map V.int).length = c.length from List.length_map ..]
      walk_at "go"
      rw [p2]
      refine forR (fun t σ H' => ∃ (fs : List Addr) (k8 k9 : Option V), σ = [some (.ref a), some (.int kk), some (.int (w : Int)), some (.ref r), some (.ref S), some (.int ((f + (k - i + 1) * w : Nat) : Int)), some (.ref F), some (.ref x), k8, k9, none] ∧
        Same H H' ∧ H' S = some (.lst (as.map V.ref)) ∧ (∀ x ∈ as, i ≤ k ∧ Stt H' w f (k - i) c.length x) ∧ H' F = some (.lst (fs.map V.ref)) ∧ (∀ x ∈ fs, x ≠ F ∧ i + 1 ≤ k ∧ Stt H' w f (k - (i + 1)) c.length x) ∧
        (fs.length ≤ j ∨ (fs.length ≤ j + 1 ∧ ∃ m, m < t ∧ ∀ p, p ∈ M.bits c.length m ↔ f + (k - (i + 1) + 1) * w < p ∧ p ≤ f + (k - (i + 1) + 1 + 1) * w))) ?_ ?_ ?_
      · exact ⟨fs, k8, k9, rfl, e5, hS5, hst5, hF5, hfs5, .inl hfl5⟩
      · rintro t σ H6 ht ⟨fs, k8, k9, rfl, e6, hS6, hst6, hF6, hfs6, hcnt⟩
        rw [show (0 : Int) + (t : Int) = ((t : Nat) : Int) by omega]
        obtain ⟨_, sl, hx6, hsl, hpt⟩ := hst6 x hxa
        have ha6 := e6 _ _ ha
        have nxF := asF x hxa
        walk_at "go"
        rw [hcl]
        walk_at "go"
        refine lcR (fun Dl p H' => Same H6 H' ∧ H' Dl = some (.lst ((M.nums (M.bits p t)).map V.int))) ?_ ?_ ?_
        · intro Dl hD
          exact ⟨same_new hD, upd_same⟩
        · rintro Dl p H7 hD hp7 ⟨e7, h7⟩
          rw [show (0 : Int) + (p : Int) = ((p : Nat) : Int) by omega]
          have hsz : ((M.nums (M.bits p t)).map V.int).length < sizeLine := by
            have := bits_len p t
            rw [List.length_map, ints_len]; exact L2.small1000 (by omega)
          walk_at "go"
          refine w_iteD (fun c1 => ?_) (fun c1 => ?_)
          · walk_at "go"
            refine ⟨same_mut e7 hD, ?_⟩
            rw [bits_succ, if_pos (by omega)]
            unfold M.nums
            rw [List.map_append, List.map_append]; exact upd_same
          · refine ⟨e7, ?_⟩
            rw [bits_succ, if_neg (by omega), List.append_nil]; exact h7
        rintro cp H7 hcp ⟨e7, h7⟩
        rw [show ((c.length : Int)).toNat = c.length by omega] at h7
        have ncF : cp ≠ F := (ne_of_none hF6 hcp).symm
        have e67 := e6.trans e7
        have hS7 := e7 _ _ hS6
        have hF7 := e7 _ _ hF6
        have hx7 := e7 _ _ hx6
        have hst7 : ∀ x ∈ as, i ≤ k ∧ Stt H7 w f (k - i) c.length x := fun x hx => ⟨(hst6 x hx).1, (hst6 x hx).2.same e7⟩
        have hfs7 : ∀ x ∈ fs, x ≠ F ∧ i + 1 ≤ k ∧ Stt H7 w f (k - (i + 1)) c.length x := fun x hx => ⟨(hfs6 x hx).1, (hfs6 x hx).2.1, (hfs6 x hx).2.2.same e7⟩
        have skip : ∀ H8, Same H7 H8 → ∃ (fs : List Addr) (k8' k9' : Option V), [some (.ref a), some (.int kk), some (.int (w : Int)), some (.ref r), some (.ref S), some (.int ((f + (k - i + 1) * w : Nat) : Int)), some (.ref F), some (.ref x), some (.int (t : Int)), some (.ref cp), (none : Option V)] = [some (.ref a), some (.int kk), some (.int (w : Int)), some (.ref r), some (.ref S), some (.int ((f + (k - i + 1) * w : Nat) : Int)), some (.ref F), some (.ref x), k8', k9', none] ∧
            Same H H8 ∧ H8 S = some (.lst (as.map V.ref)) ∧ (∀ x ∈ as, i ≤ k ∧ Stt H8 w f (k - i) c.length x) ∧ H8 F = some (.lst (fs.map V.ref)) ∧ (∀ x ∈ fs, x ≠ F ∧ i + 1 ≤ k ∧ Stt H8 w f (k - (i + 1)) c.length x) ∧
            (fs.length ≤ j ∨ (fs.length ≤ j + 1 ∧ ∃ m, m < t + 1 ∧ ∀ p, p ∈ M.bits c.length m ↔ f + (k - (i + 1) + 1) * w < p ∧ p ≤ f + (k - (i + 1) + 1 + 1) * w)) := fun H8 e8 => by
          refine ⟨fs, _, _, rfl, e67.trans e8, e8 _ _ hS7, fun x hx => ⟨(hst7 x hx).1, (hst7 x hx).2.same e8⟩, e8 _ _ hF7, fun x hx => ⟨(hfs7 x hx).1, (hfs7 x hx).2.1, (hfs7 x hx).2.2.same e8⟩, ?_⟩
          rcases hcnt with h | ⟨h, m, hm, hb⟩
          · exact .inl h
          · exact .inr ⟨h, m, by omega, hb⟩
        have hcpl : (((M.nums (M.bits c.length t)).map V.int).length : Int) = (M.bits c.length t).length := by rw [List.length_map, ints_len]
        walk_at "go"
        refine w_iteD (fun c1 => ?_) (fun c1 => ?_)
        · rw [hcpl] at c1
          walk_at "go"
          intro z H8 hz e8 h8
          have h78 := e8 _ _ h7
          walk_at "go"
          refine w_iteD (fun c2 => ?_) (fun c2 => ?_)
          · have hx8 := e8 _ _ hx7
            have hF8 := e8 _ _ hF7
            have hcl2 : (M.clo sl ((f + (k - i + 1) * w : Nat) : Int) (M.nums (M.bits c.length t))).length ≤ w := by
              have := congrArg List.length c2
              rw [ints_len, ints_len] at this; omega
            cases hkm : k - i with
            | zero =>
              exfalso
              rw [hkm] at hpt hcl2
              have := M.win_last hpt (M.nums (M.bits c.length t))
              omega
            | succ m =>
              rw [hkm] at hpt hcl2 c2
              have hm : m = k - (i + 1) := by omega
              subst hm
              have hset := M.clo_is w0 hpt hcl2
              have hset2 : ∀ p, p ∈ M.bits c.length t ↔ f + (k - (i + 1) + 1) * w < p ∧ p ≤ f + (k - (i + 1) + 1 + 1) * w := fun p => by
                rw [← hset p, ← M.ints_mem (l := M.bits c.length t), ← M.ints_mem (l := M.clo _ _ _), ← c2]
              have hcnt2 : fs.length ≤ j := by
                rcases hcnt with h | ⟨h, m', hm', hb⟩
                · exact h
                · exfalso
                  have := M.bits_inj (n := c.length) (m := m') (m' := t) (by omega) ht fun p => by rw [hb p, hset2 p]
                  omega
              have hpt2 := M.pat_next w0 hpt (K := kk) hcl2
              rw [← c2] at hpt2
              have hszF : (fs.map V.ref).length < sizeLine := by rw [List.length_map]; exact L2.small1000 (by omega)
              have hki : k - (i + 1) + 1 = k - i := by omega
              simp only [hki] at hpt2 hset2 ⊢
              walk_at "go"
              intro y H9 hy e9 h9
              have hF9 := e9 _ _ hF8
              have nyF : y ≠ F := (ne_of_none hF8 hy).symm
              walk_at "go"
              have e79 := e8.trans e9
              have frame : ∀ z (o : HO), z ≠ F → H9 z = some o → (upd H9 F (.lst (fs.map V.ref ++ [.ref y]))) z = some o := fun z o hz ho => keepNe ho hz
              have stt : ∀ z k', z ≠ F → Stt H7 w f k' c.length z → Stt (upd H9 F (.lst (fs.map V.ref ++ [.ref y]))) w f k' c.length z := fun z k' hz ⟨s', h1, h2, h3⟩ => ⟨s', frame _ _ hz (e79 _ _ h1), h2, h3⟩
              refine ⟨fs ++ [y], _, _, rfl, same_mut (e67.trans e79) hFN, frame _ _ nSF (e79 _ _ hS7), fun x hx => ⟨(hst7 x hx).1, stt x _ (asF x hx) (hst7 x hx).2⟩, ?_, fun x hx => ?_, .inr ⟨by rw [List.length_append]; simp; omega, t, by omega, hset2⟩⟩
              · rw [List.map_append]; exact upd_same
              · rcases List.mem_append.mp hx with hx | hx
                · exact ⟨(hfs7 x hx).1, (hfs7 x hx).2.1, stt x _ (hfs7 x hx).1 (hfs7 x hx).2.2⟩
                · rw [List.mem_singleton.mp hx]
                  exact ⟨nyF, by omega, _, frame _ _ nyF h9, by rw [M.aft_len, hsl], hpt2⟩
          · walk_at "go"
            exact skip H8 e8
        · refine w_iteF ?_
          walk_at "go"
          exact skip H7 (Same.refl _)
      · rintro σ H6 ⟨fs, k8, k9, rfl, e6, hS6, hst6, hF6, hfs6, hcnt⟩
        refine ⟨fs, _, _, _, rfl, e6, hS6, hst6, hF6, ?_, hfs6⟩
        rcases hcnt with h | ⟨h, _⟩ <;> omega
    · rintro σ H5 ⟨fs, k7, k8, k9, rfl, e5, hS5, hst5, hF5, hfl5, hfs5⟩
      rw [List.length_map] at hfl5
      walk_at "go"
      exact ⟨F, fs, _, _, _, _, _, rfl, e5, hF5, by omega, fun x hx => ⟨(hfs5 x hx).2.1, (hfs5 x hx).2.2⟩⟩
  · rintro σ H3 ⟨S, as, k5, k6, k7, k8, k9, rfl, e3, hS3, hlen, hst3⟩
    rw [List.length_map, hrl] at hst3
    have has : as = [] := by
      cases as with
      | nil => rfl
      | cons x r => have := (hst3 x (by simp)).1; omega
    subst has
    walk_at "go"
    intro z hz
    have hS4 := keep (o' := .lst []) hS3 hz
    have hz1 : (upd H3 z (.lst [])) z = some (.lst []) := upd_same
    refine dp_nil rfl hS4 hz1 ?_
    exact q _ (e3.trans (same_new hz))
end G

namespace G
open PySem L2
def sp_law_fits (K : PySem.W.Frag) (A : CA) : Sp := fun vs H Q _ => ∃ (s a : Addr) (c : List Int) (kk : Int) (w : Nat), vs = [.ref s, .ref a, .int kk, .int (w : Int)] ∧ Src H s ∧ a ≠ s ∧ H a = some (.lst (c.map V.int)) ∧ c.length ≤ 300 ∧ Chn c ∧ 1 ≤ w ∧ w ≤ 100 ∧
  ∀ (H' : Hp), But s H H' → Src H' s → Q (.bl true) H'
def sp_law (K : PySem.W.Frag) (A : CA) : Sp := fun vs H Q _ => ∃ (a : Addr) (ns : List Int), vs = [.ref a] ∧ SqL K H a (ns.map V.int) ∧ ns.length ≤ 63 ∧ ∀ H', Q (.bl true) H'
variable {K : PySem.W.Frag} {A : CA} {vs : List V} {H : Hp} {Q : VK} {E : XK}
theorem i_fits {s a : Addr} {c : List Int} {kk : Int} {w : Nat} (hs : Src H s) (na : a ≠ s) (h : H a = some (.lst (c.map V.int))) (hl : c.length ≤ 300) (hc : Chn c) (h0 : 1 ≤ w) (h1 : w ≤ 100) (q : ∀ (H' : Hp), But s H H' → Src H' s → Q (.bl true) H') :
    sp_law_fits K A [.ref s, .ref a, .int kk, .int (w : Int)] H Q E := ⟨s, a, c, kk, w, rfl, hs, na, h, hl, hc, h0, h1, q⟩
end G
local macro_rules | `(tactic| walk_at "call") => `(tactic| first
  | (refine' G.i_fits ?g1 ?g2 ?g3 ?g4 ?g5 ?g6 ?g7 ?_; (case g1 => walk_at "src"); (case g2 => walk_at "ne"); (case g3 => walk_at "hp"); (case g4 => walk_at "ar"); (case g5 => assumption); (case g6 => walk_at "ar"); (case g7 => walk_at "ar")))
namespace G
open PySem L2
def t_law_fits (K : PySem.W.Frag) (A : CA) : TS :=
  (tSeq (tAsg (tCB (oListOf K) (tCons (tVar 1) tNil)) (gName 4))
  (tSeq (tAsg (tCall (sp_law_has_stretch K A) [] E0 (tCons (tVar 1) (tCons (tVar 3) tNil))) (gName 5))
  (tSeq (tFor (iRng1 (tCons (tC (.int 2)) tNil)) (gName 6)
  (tSeq (tAsg (tCall (sp_attack_row K A) [] E0 (tCons (tVar 4) (tCons (tVar 3) tNil))) (gName 7))
  (tSeq (tIfS (tOr (tTest (tOp (rNeD K) (tVar 4) (tVar 1))) (tNot (tB (tCB (rIsi K) (tCons (tVar 7) (tCons (tC (.ty "list")) tNil)))))) (tRet (tC (.bl false))) tNext)
  (tSeq (tIfS (tAnd (tNot (tB (tVar 5))) (tTest (tOp (rNeD K) (tVar 7) (tLst tNil)))) (tRet (tC (.bl false))) tNext)
  (tSeq (tIfS (tAnd (tB (tVar 5)) (tNot (tB (tCall (sp_law_reads K A) [] E0 (tCons (tVar 1) (tCons (tVar 3) (tCons (tVar 7) tNil))))))) (tRet (tC (.bl false))) tNext)
  (tSeq (tIfS (tAnd (tB (tVar 5)) (tAnd (tTest (tOp oLe (tCB (rLenQ K) (tCons (tVar 1) tNil)) (tC (.int 7)))) (tNot (tB (tCall (sp_law_wins_always K A) [] E0 (tCons (tVar 1) (tCons (tVar 2) (tCons (tVar 3) (tCons (tVar 7) tNil))))))))) (tRet (tC (.bl false))) tNext)
  (tSeq (tIfS (tAnd (tB (tVar 5)) (tNot (tB (tCall (sp_law_wins K A) [] E0 (tCons (tVar 0) (tCons (tVar 1) (tCons (tVar 2) (tCons (tVar 3) (tCons (tVar 7) tNil))))))))) (tRet (tC (.bl false))) tNext)
  (tDrop (tBM K "list" rAppend (tVar 7) (tCons (tCB (rLenQ K) (tCons (tVar 1) tNil)) tNil))))))))))
  (tRet (tC (.bl true))))))
def t_law (K : PySem.W.Frag) (A : CA) : TS :=
  (tSeq (tAsg (tCall (sp_law_copies K A) [] E0 (tCons (tCall (sp_law_bag K A) [] E0 (tCons (tVar 0) (tCons (tC (.int 0)) tNil))) tNil)) (gName 1))
  (tSeq (tAsg (tCall (sp_law_chain K A) [] E0 (tCons (tCall (sp_law_bag K A) [] E0 (tCons (tVar 0) (tCons (tC (.int 1)) tNil))) (tCons (tVar 1) tNil))) (gName 2))
  (tSeq (tAsg (tCall (sp_law_bag K A) [] E0 (tCons (tVar 0) (tCons (tC (.int 2)) tNil))) (gName 3))
  (tSeq (tAsg (tCall (sp_law_copies K A) [] E0 (tCons (tVar 3) tNil)) (gName 4))
  (tSeq (tAsg (tCB oMin2 (tCons (tC (.int 60)) (tCons (tOp oAdd (tCB oMax2 (tCons (tC (.int 2)) (tCons (tCB (rMax K) (tCons (tVar 2) tNil)) tNil))) (tCall (sp_law_take K A) [] E0 (tCons (tVar 3) (tCons (tC (.int 4)) tNil)))) tNil))) (gName 5))
  (tSeq (tFor (iList K (tLst (tCons (tVar 1) (tCons (tVar 4) tNil)))) (gName 6)
  (tIfS (tOr (tNot (tB (tCall (sp_law_fits K A) [] E0 (tCons (tVar 3) (tCons (tVar 2) (tCons (tVar 5) (tCons (tVar 6) tNil))))))) (tNot (tB (tCall (sp_law_fits K A) [] E0 (tCons (tVar 3) (tCons (tLst tNil) (tCons (tVar 5) (tCons (tVar 6) tNil)))))))) (tRet (tC (.bl false))) tNext))
  (tRet (tC (.bl true)))))))))

variable {K : PySem.W.Frag} {A : CA} {vs : List V} {H : Hp} {Q : VK} {E : XK}
theorem rd_law_fits (h : sp_law_fits K A vs H Q E) : t_law_fits K A { nx := fun _ H' => Q .non H', rt := Q } (start ["bag", "chain", "lines", "copies", "handed", "lost", "turn", "row"] vs) H := by
  obtain ⟨s, a, c, kk, w, rfl, hs, na, ha, hl, hc, h0, h1, q⟩ := h
  have hnn : ∀ n ∈ c, 0 ≤ n := fun n hn => (hc n hn).1
  have hstr := M.stretch_keep w h0 c hnn
  unfold t_law_fits
  walk_at "go"
  intro hd hhd
  have nhd : hd ≠ s := hs.neFree hhd
  have ha1 := keep (o' := .lst (c.map V.int)) ha hhd
  have b1 : But s H (upd H hd (.lst (c.map V.int))) := But.refl.new hhd
  have s1 := hs.new (o := .lst (c.map V.int)) hhd
  have hH : (upd H hd (.lst (c.map V.int))) hd = some (.lst (c.map V.int)) := upd_same
  generalize upd H hd (.lst (c.map V.int)) = H1 at ha1 b1 s1 hH
  walk_at "go"
  intro H2 e2
  rw [hstr]
  have hcl : ((c.map V.int).length : Int) = c.length := by rw [List.length_map]
  walk_at "go"
  refine forR (fun i σ H' => ∃ (k6 k7 : Option V), σ = [some (.ref s), some (.ref a), some (.int kk), some (.int (w : Int)), some (.ref hd), some (.bl (!M.keep w c)), k6, k7] ∧ But s H H' ∧ Src H' s ∧ H' hd = some (.lst (c.map V.int))) ?_ ?_ ?_
  · exact ⟨none, none, rfl, b1.trans (Same.but e2), Src.same e2 s1, e2 _ _ hH⟩
  · rintro i σ H3 hi ⟨k6, k7, rfl, b3, s3, hH3⟩
    have ha3 := b3.at na ha
    walk_at "go"
    intro r p H4 hk1 hk2 hp e4 h4
    have b4 := b3.trans (Same.but e4)
    have s4 := Src.same e4 s3
    have ha4 := e4 _ _ ha3
    have hH4 := e4 _ _ hH3
    have np : p ≠ s := s3.neFree hp
    have npH := b3.back s3 hp
    have nph : hd ≠ p := ne_of_none hH3 hp
    have npa : a ≠ p := ne_of_none ha3 hp
    walk_at "go"
    rw [decide_eq_true rfl]
    refine w_iteF ?_
    walk_at "go"
    refine w_iteF ?_
    walk_at "go"
    cases hk : M.keep w c with
    | true =>
      rw [hk1 hk] at h4
      refine w_iteT ?_
      walk_at "go"
      intro z hz
      have h5 := keep (o' := .lst []) h4 hz
      have hz1 : (upd H4 z (.lst [])) z = some (.lst []) := upd_same
      have hH5 := keep (o' := .lst []) hH4 hz
      have ha5 := keep (o' := .lst []) ha4 hz
      have b5 := b4.new (o := .lst []) hz
      have s5 := s4.new (o := .lst []) hz
      generalize upd H4 z (.lst []) = H5 at h5 hz1 hH5 ha5 b5 s5
      refine w_neNil h5 hz1 ?_
      rw [decide_eq_true rfl]
      refine ⟨_, rfl, ?_⟩
      refine w_iteF ?_
      walk_at "go"
      refine w_iteF ?_
      walk_at "go"
      refine w_iteF ?_
      walk_at "go"
      refine w_iteF ?_
      have hsz : (([] : List Int).map V.int).length < sizeLine := by decide
      walk_at "go"
      refine ⟨_, _, rfl, b5.mut npH, s5.mut np, keepNe hH5 nph⟩
    | false =>
      obtain ⟨f, k, hpt, rfl⟩ := hk2 hk
      refine w_iteF ?_
      walk_at "go"
      refine w_iteT ?_
      walk_at "go"
      refine i_reads ha4 h4 (by omega) h0 (by omega) hpt fun H5 e5 => ?_
      have h5 := e5 _ _ h4
      have ha5 := e5 _ _ ha4
      have hH5 := e5 _ _ hH4
      have b5 := b4.trans (Same.but e5)
      have s5 := Src.same e5 s4
      have hlenr := row_len w f k
      have hkc := (pat_k h0 hpt).1
      have hsz : ((M.row w f k).map V.int).length < sizeLine := by rw [List.length_map]; exact L2.small1000 (by omega)
      walk_at "go"
      refine w_iteF ?_
      walk_at "go"
      refine w_iteT ?_
      walk_at "go"
      refine w_iteD (fun c1 => ?_) (fun c1 => ?_)
      · walk_at "go"
        refine i_always ha5 h5 (by omega) h0 (by omega) hpt fun H6 e6 => ?_
        walk_at "go"
        refine w_iteF ?_
        walk_at "go"
        refine w_iteT ?_
        have b6 : But s H5 H6 := Same.but e6
        have s6 := Src.same e6 s5
        have h6 := (b6).at np h5
        have ha6 := (b6).at na ha5
        have hH6 := (b6).at nhd hH5
        walk_at "go"
        refine i_wins (s6) na np ha6 h6 (by omega) h0 (by omega) hpt fun H7 b7 s7 => ?_
        have h7 := b7.at np h6
        have ha7 := b7.at na ha6
        have hH7 := b7.at nhd hH6
        walk_at "go"
        refine w_iteF ?_
        walk_at "go"
        refine ⟨_, _, rfl, ((b5.trans (b6)).trans b7).mut npH, s7.mut np, keepNe hH7 nph⟩
      · refine w_iteF ?_
        walk_at "go"
        refine w_iteT ?_
        have b6 : But s H5 H5 := But.refl
        have h6 := (b6).at np h5
        have ha6 := (b6).at na ha5
        have hH6 := (b6).at nhd hH5
        walk_at "go"
        refine i_wins (s5) na np ha6 h6 (by omega) h0 (by omega) hpt fun H7 b7 s7 => ?_
        have h7 := b7.at np h6
        have ha7 := b7.at na ha6
        have hH7 := b7.at nhd hH6
        walk_at "go"
        refine w_iteF ?_
        walk_at "go"
        refine ⟨_, _, rfl, ((b5.trans (b6)).trans b7).mut npH, s7.mut np, keepNe hH7 nph⟩
  · rintro σ H3 ⟨k6, k7, rfl, b3, s3, hH3⟩
    walk_at "go"
    exact q _ b3 s3
theorem rd_law (h : sp_law K A vs H Q E) : t_law K A { nx := fun _ H' => Q .non H', rt := Q } (start ["script", "copies", "chain", "bag", "other", "lines", "limit"] vs) H := by
  obtain ⟨a, ns, rfl, hs, hl, q⟩ := h
  unfold t_law
  walk_at "go"
  intro s1 H1 n1 e1 c1
  walk_at "go"
  intro w H2 r0 r1 b2 c2
  have b12 := Same.but2 e1 b2 n1
  have hs2 := b12.seq hs
  walk_at "go"
  intro s2 H3 n3 e3 c3
  walk_at "go"
  intro c p H4 hc1 hc2 hc n4 b4 c4 hp
  have e4 := Same.but2 e3 b4 n3
  have hs4 := (b12.trans e4).seq hs
  walk_at "go"
  intro s3 H5 n5 e5 c5
  have hp5 := e5 _ _ hp
  have np : p ≠ s3 := ne_of_none hp n5
  walk_at "go"
  intro o H6 r2 r3 b6 c6
  have hp6 := b6.at np hp5
  walk_at "go"
  intro mx hm1 hm2
  walk_at "go"
  intro tk H7 t0 t1 b7 c7
  have hp7 := b7.at np hp6
  walk_at "go"
  generalize (if (if mx > 2 then mx else 2) + tk < 60 then (if mx > 2 then mx else 2) + tk else 60) = kk
  intro L hL
  obtain ⟨w, rfl⟩ := Int.eq_ofNat_of_zero_le (show 0 ≤ w by omega)
  obtain ⟨o, rfl⟩ := Int.eq_ofNat_of_zero_le (show 0 ≤ o by omega)
  have hp8 := keep (o' := .lst [.int (w : Int), .int (o : Int)]) hp7 hL
  have c8 := c7.new (o := .lst [.int (w : Int), .int (o : Int)]) hL
  have nL : L ≠ s3 := c7.neFree hL
  have hL7 : (upd H7 L (.lst [.int (w : Int), .int (o : Int)])) L = some (.lst [.int (w : Int), .int (o : Int)]) := upd_same
  generalize upd H7 L (.lst [.int (w : Int), .int (o : Int)]) = H8 at hp8 hL7 c8
  walk_at "go"
  refine forL (xs := [.int (w : Int), .int (o : Int)]) (fun i σ H' => ∃ k4 : Option V, σ = [some (.ref a), some (.int (w : Int)), some (.ref p), some (.ref s3), some (.int (o : Int)), some (.int kk), k4] ∧ But s3 H8 H' ∧ Src H' s3) ?_ ?_ ?_ ?_
  · exact ⟨none, rfl, But.refl, c8⟩
  · rintro i σ H' hi ⟨k4, rfl, e, _⟩
    exact .inl (.inl (e.at nL hL7))
  · rintro i x σ H' hx ⟨k4, rfl, e, c9⟩
    obtain ⟨m, rfl, m0, m1⟩ : ∃ m : Nat, x = V.int (m : Int) ∧ 1 ≤ m ∧ m ≤ 100 := by
      rcases List.mem_of_getElem? hx with _ | ⟨_, _ | ⟨_, h⟩⟩
      · exact ⟨w, rfl, by omega, by omega⟩
      · exact ⟨o, rfl, by omega, by omega⟩
      · cases h
    have hp9 := e.at np hp8
    walk_at "go"
    intro H10 b10 c10
    walk_at "go"
    refine w_iteF ?_
    walk_at "go"
    intro E2 hE
    have hE2 : (upd H10 E2 (.lst [])) E2 = some (.lst (([] : List Int).map V.int)) := upd_same
    have hcn : Chn [] := fun _ h => by cases h
    have nE : E2 ≠ s3 := c10.neFree hE
    have b11 := (e.trans b10).new (o := .lst []) hE
    have c11 := c10.new (o := .lst []) hE
    generalize upd H10 E2 (.lst []) = H11 at hE2 b11 c11
    walk_at "go"
    intro H12 b12 c12
    walk_at "go"
    refine w_iteF ?_
    walk_at "go"
    exact ⟨_, rfl, b11.trans b12, c12⟩
  · rintro σ H' ⟨k4, rfl, e, _⟩
    walk_at "go"
    exact q _
end G

namespace G
open PySem L2
def topS (i : Nat) : Stmt := PySem.Challenge.pw_onecopy_k27_whole_attack.main.body.getD i (.Pass ⟨0, 0, 0, 0⟩)
structure Txt (mg : Str → Option Value) : Prop where
  b_abs : mg "abs" = none
  b_all : mg "all" = none
  b_any : mg "any" = none
  b_bool : mg "bool" = none
  b_enumerate : mg "enumerate" = none
  b_int : mg "int" = none
  b_isinstance : mg "isinstance" = none
  b_len : mg "len" = none
  b_list : mg "list" = none
  b_max : mg "max" = none
  b_min : mg "min" = none
  b_range : mg "range" = none
  b_reversed : mg "reversed" = none
variable {P : Program} {w : World} {K : PySem.W.Frag} {mg : Str → Option Value} {base : Heap} {A : CA}
abbrev s_height_over : Stmt := topS 1
theorem sc_height_over : FnScope ["below", "blank", "copies"] ["below", "blank", "copies"] (defScope s_height_over) := ⟨rfl, rfl, rfl, by decide +kernel, rfl, by decide +kernel, by decide +kernel⟩
theorem ln_height_over {vs : List V} {H : Hp} {Q : VK} {E : XK} (h : sp_height_over K A vs H Q E) : vs.length = 3 := by
  first | (obtain ⟨_, rfl, _⟩ := h; rfl) | (obtain ⟨_, _, rfl, _⟩ := h; rfl) | (obtain ⟨_, _, _, rfl, _⟩ := h; rfl) | (obtain ⟨_, _, _, _, rfl, _⟩ := h; rfl) | (obtain ⟨_, _, _, _, _, rfl, _⟩ := h; rfl) | (obtain ⟨_, _, _, _, _, _, rfl, _⟩ := h; rfl) | (obtain ⟨_, _, _, _, _, _, _, rfl, _⟩ := h; rfl) | (obtain ⟨_, _, _, _, _, _, _, _, rfl, _⟩ := h; rfl) | (obtain ⟨_, _, _, _, _, _, _, _, _, rfl, _⟩ := h; rfl) | (obtain ⟨_, _, _, _, _, _, _, _, _, _, rfl, _⟩ := h; rfl) | (obtain ⟨_, _, _, _, _, _, _, _, _, _, _, rfl, _⟩ := h; rfl) | (obtain ⟨_, _, _, _, _, _, _, _, _, _, _, _, rfl, _⟩ := h; rfl) | (obtain ⟨_, _, _, _, _, _, _, _, _, _, _, _, _, rfl, _⟩ := h; rfl) | (obtain ⟨_, _, _, _, _, _, _, _, _, _, _, _, _, _, rfl, _⟩ := h; rfl) | (obtain ⟨_, _, _, _, _, _, _, _, _, _, _, _, _, _, _, rfl, _⟩ := h; rfl)
theorem fn_height_over {f : Addr} {fd : FuncData} (F : Fun K "height_over" "height_over" s_height_over f fd) (T : Txt mg) (C : CT K A)  : FnOk P w K mg base CX0 1 f fd ["below", "blank", "copies"] (sp_height_over K A) :=
  F.ok sc_height_over (fun vs H Q E h => ln_height_over h) (fun cdv Ar outer s H vs Q E hr h => ⟨t_height_over K A, (pss_cons (ps_if (pt_cmpR op_eq (pv 1) pe_int (nomark _)) (pss_one (ps_ret (pe_op op_add (pv 0) pe_int))) pss_nil)
  (pss_one (ps_ret (pe_ifExp (PW.pt (pw_and (pt_cmpR op_eq (pv 1) pe_int (nomark _)) (pw_and1 (pt_cmpR op_ge (pv 0) (pv 2) (nomark _))))) pe_int pe_int)))), rd_height_over h⟩)
theorem bi_height_over {f : Addr} {fd : FuncData} (F : Fun K "height_over" "height_over" s_height_over f fd) : Binds K fd ["below", "blank", "copies"] [] := F.binds fun _ _ _ _ _ _ us hl => match us, hl with | [_, _, _], _ => rfl
abbrev s_heights : Stmt := topS 3
theorem sc_heights : FnScope ["blank", "copies", "found", "height", "number"] ["blank", "copies"] (defScope s_heights) := ⟨rfl, rfl, rfl, by decide +kernel, rfl, by decide +kernel, by decide +kernel⟩
theorem ln_heights {vs : List V} {H : Hp} {Q : VK} {E : XK} (h : sp_heights K A vs H Q E) : vs.length = 2 := by
  first | (obtain ⟨_, rfl, _⟩ := h; rfl) | (obtain ⟨_, _, rfl, _⟩ := h; rfl) | (obtain ⟨_, _, _, rfl, _⟩ := h; rfl) | (obtain ⟨_, _, _, _, rfl, _⟩ := h; rfl) | (obtain ⟨_, _, _, _, _, rfl, _⟩ := h; rfl) | (obtain ⟨_, _, _, _, _, _, rfl, _⟩ := h; rfl) | (obtain ⟨_, _, _, _, _, _, _, rfl, _⟩ := h; rfl) | (obtain ⟨_, _, _, _, _, _, _, _, rfl, _⟩ := h; rfl) | (obtain ⟨_, _, _, _, _, _, _, _, _, rfl, _⟩ := h; rfl) | (obtain ⟨_, _, _, _, _, _, _, _, _, _, rfl, _⟩ := h; rfl) | (obtain ⟨_, _, _, _, _, _, _, _, _, _, _, rfl, _⟩ := h; rfl) | (obtain ⟨_, _, _, _, _, _, _, _, _, _, _, _, rfl, _⟩ := h; rfl) | (obtain ⟨_, _, _, _, _, _, _, _, _, _, _, _, _, rfl, _⟩ := h; rfl) | (obtain ⟨_, _, _, _, _, _, _, _, _, _, _, _, _, _, rfl, _⟩ := h; rfl) | (obtain ⟨_, _, _, _, _, _, _, _, _, _, _, _, _, _, _, rfl, _⟩ := h; rfl)
theorem fn_heights {f : Addr} {fd : FuncData} (F : Fun K "heights" "heights" s_heights f fd) (T : Txt mg) (C : CT K A) (C_height_over : C8.Cal P w K mg base 1 "height_over" (sp_height_over K A) []) : FnOk P w K mg base CX0 2 f fd ["blank", "copies"] (sp_heights K A) :=
  F.ok sc_heights (fun vs H Q E h => ln_heights h) (fun cdv Ar outer s H vs Q E hr h => ⟨t_heights K A, (pss_cons (ps_set (i := 2) sc_heights.nd rfl (by first | exact Or.inl rfl | exact Or.inr rfl) (pe_lst pa_nil))
  (pss_cons (ps_set (i := 3) sc_heights.nd rfl (by first | exact Or.inl rfl | exact Or.inr rfl) pe_int)
  (pss_cons (ps_for PassesOwn.never rfl (pi_list (pe_revL (pv 0))) (pg_name (i := 4) sc_heights.nd rfl (by first | exact Or.inl rfl | exact Or.inr rfl))
  (pss_cons (ps_set (i := 3) sc_heights.nd rfl (by first | exact Or.inl rfl | exact Or.inr rfl) (C8.pe_c C_height_over hr (by decide) (by rfl) (pa_cons (pv 3) (pa_cons (pv 4) (pa_cons (pv 1) pa_nil)))))
  (pss_one (ps_expr (pe_bm PySem.F.plainAttrs_list PySem.F.slot_list_append PySem.F.type_list_append mt_append (pv 2) (pa_cons (pv 3) pa_nil))))))
  (pss_one (ps_ret (pe_revL (pv 2))))))), rd_heights h⟩)
theorem bi_heights {f : Addr} {fd : FuncData} (F : Fun K "heights" "heights" s_heights f fd) : Binds K fd ["blank", "copies"] [] := F.binds fun _ _ _ _ _ _ us hl => match us, hl with | [_, _], _ => rfl
abbrev s_lowest_too_high : Stmt := topS 4
theorem sc_lowest_too_high : FnScope ["blank", "copies", "too_high", "page", "height"] ["blank", "copies"] (defScope s_lowest_too_high) := ⟨rfl, rfl, rfl, by decide +kernel, rfl, by decide +kernel, by decide +kernel⟩
theorem ln_lowest_too_high {vs : List V} {H : Hp} {Q : VK} {E : XK} (h : sp_lowest_too_high K A vs H Q E) : vs.length = 2 := by
  first | (obtain ⟨_, rfl, _⟩ := h; rfl) | (obtain ⟨_, _, rfl, _⟩ := h; rfl) | (obtain ⟨_, _, _, rfl, _⟩ := h; rfl) | (obtain ⟨_, _, _, _, rfl, _⟩ := h; rfl) | (obtain ⟨_, _, _, _, _, rfl, _⟩ := h; rfl) | (obtain ⟨_, _, _, _, _, _, rfl, _⟩ := h; rfl) | (obtain ⟨_, _, _, _, _, _, _, rfl, _⟩ := h; rfl) | (obtain ⟨_, _, _, _, _, _, _, _, rfl, _⟩ := h; rfl) | (obtain ⟨_, _, _, _, _, _, _, _, _, rfl, _⟩ := h; rfl) | (obtain ⟨_, _, _, _, _, _, _, _, _, _, rfl, _⟩ := h; rfl) | (obtain ⟨_, _, _, _, _, _, _, _, _, _, _, rfl, _⟩ := h; rfl) | (obtain ⟨_, _, _, _, _, _, _, _, _, _, _, _, rfl, _⟩ := h; rfl) | (obtain ⟨_, _, _, _, _, _, _, _, _, _, _, _, _, rfl, _⟩ := h; rfl) | (obtain ⟨_, _, _, _, _, _, _, _, _, _, _, _, _, _, rfl, _⟩ := h; rfl) | (obtain ⟨_, _, _, _, _, _, _, _, _, _, _, _, _, _, _, rfl, _⟩ := h; rfl)
theorem fn_lowest_too_high {f : Addr} {fd : FuncData} (F : Fun K "_lowest_too_high" "_lowest_too_high" s_lowest_too_high f fd) (T : Txt mg) (C : CT K A) (C_heights : C8.Cal P w K mg base 2 "heights" (sp_heights K A) []) : FnOk P w K mg base CX0 3 f fd ["blank", "copies"] (sp_lowest_too_high K A) :=
  F.ok sc_lowest_too_high (fun vs H Q E h => ln_lowest_too_high h) (fun cdv Ar outer s H vs Q E hr h => ⟨t_lowest_too_high K A, (pss_cons (ps_setLc (i := 2) (own := [("page", 3), ("height", 4)]) (g := (gTup K 2 (gCons (gName 3) (gCons (gName 4) gNil)))) (tt := (tTest (tOp oGt (tVar 4) (tVar 1)))) rfl sc_lowest_too_high.nd rfl rfl (sw_true rfl rfl rfl (by decide +kernel)) (pi_enum (by rfl) T.b_enumerate (pa_cons (C8.pe_c C_heights hr (by decide) (by rfl) (pa_cons (pv 0) (pa_cons (pv 1) pa_nil))) pa_nil)) (blkOk_by (own := [("page", 3), ("height", 4)]) (N := ["blank", "copies", "too_high", "page", "height"]) (sc := defScope s_lowest_too_high) (by decide +kernel)) (fun _ _ _ _ _ => (pg_tup rfl (pgs_cons (pg_name (i := 3) sc_lowest_too_high.nd rfl (by first | exact Or.inl rfl | exact Or.inr rfl)) (pgs_cons (pg_name (i := 4) sc_lowest_too_high.nd rfl (by first | exact Or.inl rfl | exact Or.inr rfl)) pgs_nil)))) (fun _ _ _ _ _ => (pts_one (pt_cmpR op_gt (pv 4) (pv 1) (nomark _)))) (fun _ _ _ _ _ => (pv 3)))
  (pss_one (ps_ret (pe_ifExp (pt_truth (pv 2) (by intro _; rfl)) (pe_ix ix_list (pv 2) (pe_un un_neg pe_int) (fun _ _ => rfl)) pe_non)))), rd_lowest_too_high h⟩)
theorem bi_lowest_too_high {f : Addr} {fd : FuncData} (F : Fun K "_lowest_too_high" "_lowest_too_high" s_lowest_too_high f fd) : Binds K fd ["blank", "copies"] [] := F.binds fun _ _ _ _ _ _ us hl => match us, hl with | [_, _], _ => rfl
abbrev s_attack_row : Stmt := topS 5
theorem sc_attack_row : FnScope ["blank", "copies", "first", "last"] ["blank", "copies"] (defScope s_attack_row) := ⟨rfl, rfl, rfl, by decide +kernel, rfl, by decide +kernel, by decide +kernel⟩
theorem ln_attack_row {vs : List V} {H : Hp} {Q : VK} {E : XK} (h : sp_attack_row K A vs H Q E) : vs.length = 2 := by
  first | (obtain ⟨_, rfl, _⟩ := h; rfl) | (obtain ⟨_, _, rfl, _⟩ := h; rfl) | (obtain ⟨_, _, _, rfl, _⟩ := h; rfl) | (obtain ⟨_, _, _, _, rfl, _⟩ := h; rfl) | (obtain ⟨_, _, _, _, _, rfl, _⟩ := h; rfl) | (obtain ⟨_, _, _, _, _, _, rfl, _⟩ := h; rfl) | (obtain ⟨_, _, _, _, _, _, _, rfl, _⟩ := h; rfl) | (obtain ⟨_, _, _, _, _, _, _, _, rfl, _⟩ := h; rfl) | (obtain ⟨_, _, _, _, _, _, _, _, _, rfl, _⟩ := h; rfl) | (obtain ⟨_, _, _, _, _, _, _, _, _, _, rfl, _⟩ := h; rfl) | (obtain ⟨_, _, _, _, _, _, _, _, _, _, _, rfl, _⟩ := h; rfl) | (obtain ⟨_, _, _, _, _, _, _, _, _, _, _, _, rfl, _⟩ := h; rfl) | (obtain ⟨_, _, _, _, _, _, _, _, _, _, _, _, _, rfl, _⟩ := h; rfl) | (obtain ⟨_, _, _, _, _, _, _, _, _, _, _, _, _, _, rfl, _⟩ := h; rfl) | (obtain ⟨_, _, _, _, _, _, _, _, _, _, _, _, _, _, _, rfl, _⟩ := h; rfl)
theorem fn_attack_row {f : Addr} {fd : FuncData} (F : Fun K "attack_row" "attack_row" s_attack_row f fd) (T : Txt mg) (C : CT K A) (C_lowest_too_high : C8.Cal P w K mg base 3 "_lowest_too_high" (sp_lowest_too_high K A) []) : FnOk P w K mg base CX0 4 f fd ["blank", "copies"] (sp_attack_row K A) :=
  F.ok sc_attack_row (fun vs H Q E h => ln_attack_row h) (fun cdv Ar outer s H vs Q E hr h => ⟨t_attack_row K A, (pss_cons (ps_set (i := 2) sc_attack_row.nd rfl (by first | exact Or.inl rfl | exact Or.inr rfl) (C8.pe_c C_lowest_too_high hr (by decide) (by rfl) (pa_cons (pv 0) (pa_cons (pv 1) pa_nil))))
  (pss_cons (ps_if (pt_cmp (pc_isN (pv 2))) (pss_one (ps_ret (pe_lst pa_nil))) pss_nil)
  (pss_cons (ps_set (i := 3) sc_attack_row.nd rfl (by first | exact Or.inl rfl | exact Or.inr rfl) (pe_op op_add (pv 2) (pv 1)))
  (pss_cons (ps_while PassesOwn.never (pt_cmpR op_eq (pe_ix ix_list (pv 0) (pv 3) (fun _ _ => rfl)) pe_int (nomark _)) (pss_one (ps_aug (i := 3) sc_attack_row.nd rfl (by first | exact Or.inl rfl | exact Or.inr rfl) (pv 1) ip_add)))
  (pss_one (ps_ret (G.pe_listRg3 rfl (by rfl) T.b_list (by rfl) T.b_range (pa_cons (pv 3) (pa_cons (pv 2) (pa_cons (pe_un un_neg (pv 1)) pa_nil)))))))))), rd_attack_row h⟩)
theorem bi_attack_row {f : Addr} {fd : FuncData} (F : Fun K "attack_row" "attack_row" s_attack_row f fd) : Binds K fd ["blank", "copies"] [] := F.binds fun _ _ _ _ _ _ us hl => match us, hl with | [_, _], _ => rfl
abbrev s_law_is_integer : Stmt := topS 7
theorem sc_law_is_integer : FnScope ["actual"] ["actual"] (defScope s_law_is_integer) := ⟨rfl, rfl, rfl, by decide +kernel, rfl, by decide +kernel, by decide +kernel⟩
theorem ln_law_is_integer {vs : List V} {H : Hp} {Q : VK} {E : XK} (h : sp_law_is_integer K A vs H Q E) : vs.length = 1 := by
  first | (obtain ⟨_, rfl, _⟩ := h; rfl) | (obtain ⟨_, _, rfl, _⟩ := h; rfl) | (obtain ⟨_, _, _, rfl, _⟩ := h; rfl) | (obtain ⟨_, _, _, _, rfl, _⟩ := h; rfl) | (obtain ⟨_, _, _, _, _, rfl, _⟩ := h; rfl) | (obtain ⟨_, _, _, _, _, _, rfl, _⟩ := h; rfl) | (obtain ⟨_, _, _, _, _, _, _, rfl, _⟩ := h; rfl) | (obtain ⟨_, _, _, _, _, _, _, _, rfl, _⟩ := h; rfl) | (obtain ⟨_, _, _, _, _, _, _, _, _, rfl, _⟩ := h; rfl) | (obtain ⟨_, _, _, _, _, _, _, _, _, _, rfl, _⟩ := h; rfl) | (obtain ⟨_, _, _, _, _, _, _, _, _, _, _, rfl, _⟩ := h; rfl) | (obtain ⟨_, _, _, _, _, _, _, _, _, _, _, _, rfl, _⟩ := h; rfl) | (obtain ⟨_, _, _, _, _, _, _, _, _, _, _, _, _, rfl, _⟩ := h; rfl) | (obtain ⟨_, _, _, _, _, _, _, _, _, _, _, _, _, _, rfl, _⟩ := h; rfl) | (obtain ⟨_, _, _, _, _, _, _, _, _, _, _, _, _, _, _, rfl, _⟩ := h; rfl)
theorem fn_law_is_integer {f : Addr} {fd : FuncData} (F : Fun K "_law_is_integer" "_law_is_integer" s_law_is_integer f fd) (T : Txt mg) (C : CT K A)  : FnOk P w K mg base CX0 1 f fd ["actual"] (sp_law_is_integer K A) :=
  F.ok sc_law_is_integer (fun vs H Q E h => ln_law_is_integer h) (fun cdv Ar outer s H vs Q E hr h => ⟨t_law_is_integer K A, (pss_one (ps_ret (pe_and (pe_callB call_isi (by rfl) T.b_isinstance (by decide +kernel) (pa_cons (pv 0) (pa_cons (pe_bltn (v := .ty "int") (by rfl) T.b_int (by decide +kernel) rfl) pa_nil))) (pe_one (pe_not (pe_callB call_isi (by rfl) T.b_isinstance (by decide +kernel) (pa_cons (pv 0) (pa_cons (pe_bltn (v := .ty "bool") (by rfl) T.b_bool (by decide +kernel) rfl) pa_nil)))))))), rd_law_is_integer h⟩)
theorem bi_law_is_integer {f : Addr} {fd : FuncData} (F : Fun K "_law_is_integer" "_law_is_integer" s_law_is_integer f fd) : Binds K fd ["actual"] [] := F.binds fun _ _ _ _ _ _ us hl => match us, hl with | [_], _ => rfl
abbrev s_law_bag : Stmt := topS 8
theorem sc_law_bag : FnScope ["script", "k", "cell"] ["script", "k"] (defScope s_law_bag) := ⟨rfl, rfl, rfl, by decide +kernel, rfl, by decide +kernel, by decide +kernel⟩
theorem ln_law_bag {vs : List V} {H : Hp} {Q : VK} {E : XK} (h : sp_law_bag K A vs H Q E) : vs.length = 2 := by
  first | (obtain ⟨_, rfl, _⟩ := h; rfl) | (obtain ⟨_, _, rfl, _⟩ := h; rfl) | (obtain ⟨_, _, _, rfl, _⟩ := h; rfl) | (obtain ⟨_, _, _, _, rfl, _⟩ := h; rfl) | (obtain ⟨_, _, _, _, _, rfl, _⟩ := h; rfl) | (obtain ⟨_, _, _, _, _, _, rfl, _⟩ := h; rfl) | (obtain ⟨_, _, _, _, _, _, _, rfl, _⟩ := h; rfl) | (obtain ⟨_, _, _, _, _, _, _, _, rfl, _⟩ := h; rfl) | (obtain ⟨_, _, _, _, _, _, _, _, _, rfl, _⟩ := h; rfl) | (obtain ⟨_, _, _, _, _, _, _, _, _, _, rfl, _⟩ := h; rfl) | (obtain ⟨_, _, _, _, _, _, _, _, _, _, _, rfl, _⟩ := h; rfl) | (obtain ⟨_, _, _, _, _, _, _, _, _, _, _, _, rfl, _⟩ := h; rfl) | (obtain ⟨_, _, _, _, _, _, _, _, _, _, _, _, _, rfl, _⟩ := h; rfl) | (obtain ⟨_, _, _, _, _, _, _, _, _, _, _, _, _, _, rfl, _⟩ := h; rfl) | (obtain ⟨_, _, _, _, _, _, _, _, _, _, _, _, _, _, _, rfl, _⟩ := h; rfl)
theorem fn_law_bag {f : Addr} {fd : FuncData} (F : Fun K "_law_bag" "_law_bag" s_law_bag f fd) (T : Txt mg) (C : CT K A)  : FnOk P w K mg base CX0 1 f fd ["script", "k"] (sp_law_bag K A) :=
  F.ok sc_law_bag (fun vs H Q E h => ln_law_bag h) (fun cdv Ar outer s H vs Q E hr h => ⟨t_law_bag K A, (pss_cons (ps_set (i := 2) sc_law_bag.nd rfl (by first | exact Or.inl rfl | exact Or.inr rfl) (pe_op op_add pe_int (pe_op op_mul pe_int (pv 1))))
  (pss_cons (ps_if (pt_cmpR op_lt (pv 1) (pe_callB call_len_seq (by rfl) T.b_len (by decide +kernel) (pa_cons (pv 0) pa_nil)) (nomark _)) (pss_one (ps_set (i := 2) sc_law_bag.nd rfl (by first | exact Or.inl rfl | exact Or.inr rfl) (pe_ix ix_list (pv 0) (pv 1) (fun _ _ => rfl)))) (pss_one (ps_if (pt_truth (pv 0) (by intro _; rfl)) (pss_one (ps_set (i := 2) sc_law_bag.nd rfl (by first | exact Or.inl rfl | exact Or.inr rfl) (pe_op op_add (pv 2) (pe_op op_mod (pe_callTy call_int1 (by rfl) T.b_int (by decide +kernel) (pa_cons (pe_op op_mul (pe_ix ix_list (pv 0) pe_int (fun _ _ => rfl)) pe_int) pa_nil)) pe_int)))) pss_nil)))
  (pss_cons (ps_if (pt_cmpR op_ge (pe_callB call_abs (by rfl) T.b_abs (by decide +kernel) (pa_cons (pv 2) pa_nil)) (pe_op op_pow pe_int pe_int) (nomark _)) (pss_one (ps_ret (pe_lst (pa_cons (pe_callB call_abs (by rfl) T.b_abs (by decide +kernel) (pa_cons (pv 2) pa_nil)) (pa_cons (pv 2) (pa_cons pe_int (pa_cons (pv 1) pa_nil))))))) pss_nil)
  (pss_one (ps_ret (pe_lst (pa_cons pe_int (pa_cons (pv 2) (pa_cons pe_int (pa_cons (pv 1) pa_nil)))))))))), rd_law_bag h⟩)
theorem bi_law_bag {f : Addr} {fd : FuncData} (F : Fun K "_law_bag" "_law_bag" s_law_bag f fd) : Binds K fd ["script", "k"] [] := F.binds fun _ _ _ _ _ _ us hl => match us, hl with | [_, _], _ => rfl
abbrev s_law_take : Stmt := topS 9
theorem sc_law_take : FnScope ["bag", "size", "digit", "first", "second", "third"] ["bag", "size"] (defScope s_law_take) := ⟨rfl, rfl, rfl, by decide +kernel, rfl, by decide +kernel, by decide +kernel⟩
theorem ln_law_take {vs : List V} {H : Hp} {Q : VK} {E : XK} (h : sp_law_take K A vs H Q E) : vs.length = 2 := by
  first | (obtain ⟨_, rfl, _⟩ := h; rfl) | (obtain ⟨_, _, rfl, _⟩ := h; rfl) | (obtain ⟨_, _, _, rfl, _⟩ := h; rfl) | (obtain ⟨_, _, _, _, rfl, _⟩ := h; rfl) | (obtain ⟨_, _, _, _, _, rfl, _⟩ := h; rfl) | (obtain ⟨_, _, _, _, _, _, rfl, _⟩ := h; rfl) | (obtain ⟨_, _, _, _, _, _, _, rfl, _⟩ := h; rfl) | (obtain ⟨_, _, _, _, _, _, _, _, rfl, _⟩ := h; rfl) | (obtain ⟨_, _, _, _, _, _, _, _, _, rfl, _⟩ := h; rfl) | (obtain ⟨_, _, _, _, _, _, _, _, _, _, rfl, _⟩ := h; rfl) | (obtain ⟨_, _, _, _, _, _, _, _, _, _, _, rfl, _⟩ := h; rfl) | (obtain ⟨_, _, _, _, _, _, _, _, _, _, _, _, rfl, _⟩ := h; rfl) | (obtain ⟨_, _, _, _, _, _, _, _, _, _, _, _, _, rfl, _⟩ := h; rfl) | (obtain ⟨_, _, _, _, _, _, _, _, _, _, _, _, _, _, rfl, _⟩ := h; rfl) | (obtain ⟨_, _, _, _, _, _, _, _, _, _, _, _, _, _, _, rfl, _⟩ := h; rfl)
theorem fn_law_take {f : Addr} {fd : FuncData} (F : Fun K "_law_take" "_law_take" s_law_take f fd) (T : Txt mg) (C : CT K A)  : FnOk P w K mg base CX0 1 f fd ["bag", "size"] (sp_law_take K A) :=
  F.ok sc_law_take (fun vs H Q E h => ln_law_take h) (fun cdv Ar outer s H vs Q E hr h => ⟨t_law_take K A, (pss_cons (ps_asg (pe_op op_add (pe_ix ix_list (pv 0) pe_int (fun _ _ => rfl)) pe_int) (pg_sub (pv 0) pe_int set_list))
  (pss_cons (ps_if (pt_cmpR op_gt (pe_ix ix_list (pv 0) pe_int (fun _ _ => rfl)) pe_int (nomark _)) (pss_cons (ps_set (i := 2) sc_law_take.nd rfl (by first | exact Or.inl rfl | exact Or.inr rfl) (pe_op op_mod (pe_callTy call_int1 (by rfl) T.b_int (by decide +kernel) (pa_cons (pe_ix ix_list (pv 0) pe_int (fun _ _ => rfl)) pa_nil)) (pv 1)))
  (pss_cons (ps_asg (pe_op op_fdiv (pe_ix ix_list (pv 0) pe_int (fun _ _ => rfl)) (pv 1)) (pg_sub (pv 0) pe_int set_list))
  (pss_one (ps_ret (pv 2))))) pss_nil)
  (pss_cons (ps_set (i := 3) sc_law_take.nd rfl (by first | exact Or.inl rfl | exact Or.inr rfl) (pe_op op_mod (pe_callTy call_int1 (by rfl) T.b_int (by decide +kernel) (pa_cons (pe_op op_add (pe_op op_add (pe_op op_add (pe_op op_mul (pe_ix ix_list (pv 0) pe_int (fun _ _ => rfl)) pe_int) (pe_op op_mul (pe_ix ix_list (pv 0) pe_int (fun _ _ => rfl)) pe_int)) (pe_op op_mul (pe_ix ix_list (pv 0) pe_int (fun _ _ => rfl)) pe_int)) pe_int) pa_nil)) pe_int))
  (pss_cons (ps_set (i := 4) sc_law_take.nd rfl (by first | exact Or.inl rfl | exact Or.inr rfl) (pe_op op_mod (pe_callTy call_int1 (by rfl) T.b_int (by decide +kernel) (pa_cons (pe_op op_add (pe_op op_add (pe_op op_mul (pv 3) (pv 3)) (pe_op op_mul (pe_ix ix_list (pv 0) pe_int (fun _ _ => rfl)) pe_int)) (pe_ix ix_list (pv 0) pe_int (fun _ _ => rfl))) pa_nil)) pe_int))
  (pss_cons (ps_set (i := 5) sc_law_take.nd rfl (by first | exact Or.inl rfl | exact Or.inr rfl) (pe_op op_mod (pe_callTy call_int1 (by rfl) T.b_int (by decide +kernel) (pa_cons (pe_op op_add (pe_op op_mul (pv 4) (pv 4)) (pv 3)) pa_nil)) pe_int))
  (pss_one (ps_ret (pe_op op_mod (pe_op op_fdiv (pv 5) pe_int) (pv 1))))))))), rd_law_take h⟩)
theorem bi_law_take {f : Addr} {fd : FuncData} (F : Fun K "_law_take" "_law_take" s_law_take f fd) : Binds K fd ["bag", "size"] [] := F.binds fun _ _ _ _ _ _ us hl => match us, hl with | [_, _], _ => rfl
abbrev s_law_copies : Stmt := topS 10
theorem sc_law_copies : FnScope ["bag"] ["bag"] (defScope s_law_copies) := ⟨rfl, rfl, rfl, by decide +kernel, rfl, by decide +kernel, by decide +kernel⟩
theorem ln_law_copies {vs : List V} {H : Hp} {Q : VK} {E : XK} (h : sp_law_copies K A vs H Q E) : vs.length = 1 := by
  first | (obtain ⟨_, rfl, _⟩ := h; rfl) | (obtain ⟨_, _, rfl, _⟩ := h; rfl) | (obtain ⟨_, _, _, rfl, _⟩ := h; rfl) | (obtain ⟨_, _, _, _, rfl, _⟩ := h; rfl) | (obtain ⟨_, _, _, _, _, rfl, _⟩ := h; rfl) | (obtain ⟨_, _, _, _, _, _, rfl, _⟩ := h; rfl) | (obtain ⟨_, _, _, _, _, _, _, rfl, _⟩ := h; rfl) | (obtain ⟨_, _, _, _, _, _, _, _, rfl, _⟩ := h; rfl) | (obtain ⟨_, _, _, _, _, _, _, _, _, rfl, _⟩ := h; rfl) | (obtain ⟨_, _, _, _, _, _, _, _, _, _, rfl, _⟩ := h; rfl) | (obtain ⟨_, _, _, _, _, _, _, _, _, _, _, rfl, _⟩ := h; rfl) | (obtain ⟨_, _, _, _, _, _, _, _, _, _, _, _, rfl, _⟩ := h; rfl) | (obtain ⟨_, _, _, _, _, _, _, _, _, _, _, _, _, rfl, _⟩ := h; rfl) | (obtain ⟨_, _, _, _, _, _, _, _, _, _, _, _, _, _, rfl, _⟩ := h; rfl) | (obtain ⟨_, _, _, _, _, _, _, _, _, _, _, _, _, _, _, rfl, _⟩ := h; rfl)
theorem fn_law_copies {f : Addr} {fd : FuncData} (F : Fun K "_law_copies" "_law_copies" s_law_copies f fd) (T : Txt mg) (C : CT K A) (C_law_take : C8.Cal P w K mg base 1 "_law_take" (sp_law_take K A) []) : FnOk P w K mg base CX0 2 f fd ["bag"] (sp_law_copies K A) :=
  F.ok sc_law_copies (fun vs H Q E h => ln_law_copies h) (fun cdv Ar outer s H vs Q E hr h => ⟨t_law_copies K A, (pss_cons (ps_if (pt_cmpR op_eq (C8.pe_c C_law_take hr (by decide) (by rfl) (pa_cons (pv 0) (pa_cons pe_int pa_nil))) pe_int (nomark _)) (pss_one (ps_ret (pe_op op_add pe_int (C8.pe_c C_law_take hr (by decide) (by rfl) (pa_cons (pv 0) (pa_cons pe_int pa_nil)))))) pss_nil)
  (pss_one (ps_ret (pe_op op_add pe_int (C8.pe_c C_law_take hr (by decide) (by rfl) (pa_cons (pv 0) (pa_cons pe_int pa_nil))))))), rd_law_copies h⟩)
theorem bi_law_copies {f : Addr} {fd : FuncData} (F : Fun K "_law_copies" "_law_copies" s_law_copies f fd) : Binds K fd ["bag"] [] := F.binds fun _ _ _ _ _ _ us hl => match us, hl with | [_], _ => rfl
abbrev s_law_page : Stmt := topS 11
theorem sc_law_page : FnScope ["bag", "way"] ["bag"] (defScope s_law_page) := ⟨rfl, rfl, rfl, by decide +kernel, rfl, by decide +kernel, by decide +kernel⟩
theorem ln_law_page {vs : List V} {H : Hp} {Q : VK} {E : XK} (h : sp_law_page K A vs H Q E) : vs.length = 1 := by
  first | (obtain ⟨_, rfl, _⟩ := h; rfl) | (obtain ⟨_, _, rfl, _⟩ := h; rfl) | (obtain ⟨_, _, _, rfl, _⟩ := h; rfl) | (obtain ⟨_, _, _, _, rfl, _⟩ := h; rfl) | (obtain ⟨_, _, _, _, _, rfl, _⟩ := h; rfl) | (obtain ⟨_, _, _, _, _, _, rfl, _⟩ := h; rfl) | (obtain ⟨_, _, _, _, _, _, _, rfl, _⟩ := h; rfl) | (obtain ⟨_, _, _, _, _, _, _, _, rfl, _⟩ := h; rfl) | (obtain ⟨_, _, _, _, _, _, _, _, _, rfl, _⟩ := h; rfl) | (obtain ⟨_, _, _, _, _, _, _, _, _, _, rfl, _⟩ := h; rfl) | (obtain ⟨_, _, _, _, _, _, _, _, _, _, _, rfl, _⟩ := h; rfl) | (obtain ⟨_, _, _, _, _, _, _, _, _, _, _, _, rfl, _⟩ := h; rfl) | (obtain ⟨_, _, _, _, _, _, _, _, _, _, _, _, _, rfl, _⟩ := h; rfl) | (obtain ⟨_, _, _, _, _, _, _, _, _, _, _, _, _, _, rfl, _⟩ := h; rfl) | (obtain ⟨_, _, _, _, _, _, _, _, _, _, _, _, _, _, _, rfl, _⟩ := h; rfl)
theorem fn_law_page {f : Addr} {fd : FuncData} (F : Fun K "_law_page" "_law_page" s_law_page f fd) (T : Txt mg) (C : CT K A) (C_law_take : C8.Cal P w K mg base 1 "_law_take" (sp_law_take K A) []) : FnOk P w K mg base CX0 2 f fd ["bag"] (sp_law_page K A) :=
  F.ok sc_law_page (fun vs H Q E h => ln_law_page h) (fun cdv Ar outer s H vs Q E hr h => ⟨t_law_page K A, (pss_cons (ps_set (i := 1) sc_law_page.nd rfl (by first | exact Or.inl rfl | exact Or.inr rfl) (C8.pe_c C_law_take hr (by decide) (by rfl) (pa_cons (pv 0) (pa_cons pe_int pa_nil))))
  (pss_cons (ps_if (pt_cmpR op_lt (pv 1) pe_int (nomark _)) (pss_one (ps_ret pe_int)) pss_nil)
  (pss_cons (ps_if (pt_cmpR op_lt (pv 1) pe_int (nomark _)) (pss_one (ps_ret pe_int)) pss_nil)
  (pss_one (ps_ret (C8.pe_c C_law_take hr (by decide) (by rfl) (pa_cons (pv 0) (pa_cons pe_int pa_nil)))))))), rd_law_page h⟩)
theorem bi_law_page {f : Addr} {fd : FuncData} (F : Fun K "_law_page" "_law_page" s_law_page f fd) : Binds K fd ["bag"] [] := F.binds fun _ _ _ _ _ _ us hl => match us, hl with | [_], _ => rfl
abbrev s_law_pages : Stmt := topS 12
theorem sc_law_pages : FnScope ["bag", "size", "place"] ["bag", "size"] (defScope s_law_pages) := ⟨rfl, rfl, rfl, by decide +kernel, rfl, by decide +kernel, by decide +kernel⟩
theorem ln_law_pages {vs : List V} {H : Hp} {Q : VK} {E : XK} (h : sp_law_pages K A vs H Q E) : vs.length = 2 := by
  first | (obtain ⟨_, rfl, _⟩ := h; rfl) | (obtain ⟨_, _, rfl, _⟩ := h; rfl) | (obtain ⟨_, _, _, rfl, _⟩ := h; rfl) | (obtain ⟨_, _, _, _, rfl, _⟩ := h; rfl) | (obtain ⟨_, _, _, _, _, rfl, _⟩ := h; rfl) | (obtain ⟨_, _, _, _, _, _, rfl, _⟩ := h; rfl) | (obtain ⟨_, _, _, _, _, _, _, rfl, _⟩ := h; rfl) | (obtain ⟨_, _, _, _, _, _, _, _, rfl, _⟩ := h; rfl) | (obtain ⟨_, _, _, _, _, _, _, _, _, rfl, _⟩ := h; rfl) | (obtain ⟨_, _, _, _, _, _, _, _, _, _, rfl, _⟩ := h; rfl) | (obtain ⟨_, _, _, _, _, _, _, _, _, _, _, rfl, _⟩ := h; rfl) | (obtain ⟨_, _, _, _, _, _, _, _, _, _, _, _, rfl, _⟩ := h; rfl) | (obtain ⟨_, _, _, _, _, _, _, _, _, _, _, _, _, rfl, _⟩ := h; rfl) | (obtain ⟨_, _, _, _, _, _, _, _, _, _, _, _, _, _, rfl, _⟩ := h; rfl) | (obtain ⟨_, _, _, _, _, _, _, _, _, _, _, _, _, _, _, rfl, _⟩ := h; rfl)
theorem fn_law_pages {f : Addr} {fd : FuncData} (F : Fun K "_law_pages" "_law_pages" s_law_pages f fd) (T : Txt mg) (C : CT K A) (C_law_page : C8.Cal P w K mg base 2 "_law_page" (sp_law_page K A) []) : FnOk P w K mg base CX0 3 f fd ["bag", "size"] (sp_law_pages K A) :=
  F.ok sc_law_pages (fun vs H Q E h => ln_law_pages h) (fun cdv Ar outer s H vs Q E hr h => ⟨t_law_pages K A, (pss_one (ps_ret (pe_lc (own := [("place", 2)]) (g := (gName 2)) (tt := tYes) rfl sc_law_pages.nd (pi_range1 (by rfl) T.b_range (pa_cons (pv 1) pa_nil)) (blkOk_by (own := [("place", 2)]) (N := ["bag", "size", "place"]) (sc := defScope s_law_pages) (by decide +kernel)) (fun _ _ _ _ _ => (pg_name (i := 2) sc_law_pages.nd rfl (by first | exact Or.inl rfl | exact Or.inr rfl))) (fun _ _ _ _ _ => pts_nil) (fun _ _ _ _ _ => (C8.pe_c C_law_page hr (by decide) (by rfl) (pa_cons (pv 0) pa_nil)))))), rd_law_pages h⟩)
theorem bi_law_pages {f : Addr} {fd : FuncData} (F : Fun K "_law_pages" "_law_pages" s_law_pages f fd) : Binds K fd ["bag", "size"] [] := F.binds fun _ _ _ _ _ _ us hl => match us, hl with | [_, _], _ => rfl
abbrev s_law_chain : Stmt := topS 13
theorem sc_law_chain : FnScope ["bag", "copies", "way", "chain", "at", "groups", "middle", "count", "above", "below"] ["bag", "copies"] (defScope s_law_chain) := ⟨rfl, rfl, rfl, by decide +kernel, rfl, by decide +kernel, by decide +kernel⟩
theorem ln_law_chain {vs : List V} {H : Hp} {Q : VK} {E : XK} (h : sp_law_chain K A vs H Q E) : vs.length = 2 := by
  first | (obtain ⟨_, rfl, _⟩ := h; rfl) | (obtain ⟨_, _, rfl, _⟩ := h; rfl) | (obtain ⟨_, _, _, rfl, _⟩ := h; rfl) | (obtain ⟨_, _, _, _, rfl, _⟩ := h; rfl) | (obtain ⟨_, _, _, _, _, rfl, _⟩ := h; rfl) | (obtain ⟨_, _, _, _, _, _, rfl, _⟩ := h; rfl) | (obtain ⟨_, _, _, _, _, _, _, rfl, _⟩ := h; rfl) | (obtain ⟨_, _, _, _, _, _, _, _, rfl, _⟩ := h; rfl) | (obtain ⟨_, _, _, _, _, _, _, _, _, rfl, _⟩ := h; rfl) | (obtain ⟨_, _, _, _, _, _, _, _, _, _, rfl, _⟩ := h; rfl) | (obtain ⟨_, _, _, _, _, _, _, _, _, _, _, rfl, _⟩ := h; rfl) | (obtain ⟨_, _, _, _, _, _, _, _, _, _, _, _, rfl, _⟩ := h; rfl) | (obtain ⟨_, _, _, _, _, _, _, _, _, _, _, _, _, rfl, _⟩ := h; rfl) | (obtain ⟨_, _, _, _, _, _, _, _, _, _, _, _, _, _, rfl, _⟩ := h; rfl) | (obtain ⟨_, _, _, _, _, _, _, _, _, _, _, _, _, _, _, rfl, _⟩ := h; rfl)
theorem fn_law_chain {f : Addr} {fd : FuncData} (F : Fun K "_law_chain" "_law_chain" s_law_chain f fd) (T : Txt mg) (C : CT K A) (C_law_page : C8.Cal P w K mg base 2 "_law_page" (sp_law_page K A) []) (C_law_pages : C8.Cal P w K mg base 3 "_law_pages" (sp_law_pages K A) []) (C_law_take : C8.Cal P w K mg base 1 "_law_take" (sp_law_take K A) []) : FnOk P w K mg base CX0 4 f fd ["bag", "copies"] (sp_law_chain K A) :=
  F.ok sc_law_chain (fun vs H Q E h => ln_law_chain h) (fun cdv Ar outer s H vs Q E hr h => ⟨t_law_chain K A, (pss_cons (ps_set (i := 2) sc_law_chain.nd rfl (by first | exact Or.inl rfl | exact Or.inr rfl) (C8.pe_c C_law_take hr (by decide) (by rfl) (pa_cons (pv 0) (pa_cons pe_int pa_nil))))
  (pss_cons (ps_if (pt_cmpR op_eq (pv 2) pe_int (nomark _)) (pss_one (ps_ret (C8.pe_c C_law_pages hr (by decide) (by rfl) (pa_cons (pv 0) (pa_cons (pe_op op_add pe_int (C8.pe_c C_law_take hr (by decide) (by rfl) (pa_cons (pv 0) (pa_cons pe_int pa_nil)))) pa_nil))))) pss_nil)
  (pss_cons (ps_if (pt_cmpR op_eq (pv 2) pe_int (nomark _)) (pss_cons (ps_set (i := 3) sc_law_chain.nd rfl (by first | exact Or.inl rfl | exact Or.inr rfl) (pe_op op_rep (C8.pe_c C_law_pages hr (by decide) (by rfl) (pa_cons (pv 0) (pa_cons (pe_op op_add pe_int (C8.pe_c C_law_take hr (by decide) (by rfl) (pa_cons (pv 0) (pa_cons pe_int pa_nil)))) pa_nil))) (pe_op op_add pe_int (C8.pe_c C_law_take hr (by decide) (by rfl) (pa_cons (pv 0) (pa_cons pe_int pa_nil))))))
  (pss_cons (ps_set (i := 4) sc_law_chain.nd rfl (by first | exact Or.inl rfl | exact Or.inr rfl) (C8.pe_c C_law_take hr (by decide) (by rfl) (pa_cons (pv 0) (pa_cons (pe_callB call_len_seq (by rfl) T.b_len (by decide +kernel) (pa_cons (pv 3) pa_nil)) pa_nil))))
  (pss_cons (ps_asg (C8.pe_c C_law_page hr (by decide) (by rfl) (pa_cons (pv 0) pa_nil)) (pg_sub (pv 3) (pv 4) set_list))
  (pss_one (ps_ret (pv 3)))))) pss_nil)
  (pss_cons (ps_set (i := 5) sc_law_chain.nd rfl (by first | exact Or.inl rfl | exact Or.inr rfl) (C8.pe_c C_law_take hr (by decide) (by rfl) (pa_cons (pv 0) (pa_cons (pe_op op_add pe_int (pe_callB (call_min2 rfl) (by rfl) T.b_min (by decide +kernel) (pa_cons pe_int (pa_cons (pe_op op_fdiv (pe_op op_sub pe_int (pv 1)) (pv 1)) pa_nil)))) pa_nil))))
  (pss_cons (ps_set (i := 6) sc_law_chain.nd rfl (by first | exact Or.inl rfl | exact Or.inr rfl) (pe_op op_cat (pe_op op_cat (pe_op op_rep (pe_lst (pa_cons pe_int pa_nil)) (pv 1)) (pe_op op_rep (pe_op op_cat (pe_lst (pa_cons pe_int pa_nil)) (pe_op op_rep (pe_lst (pa_cons pe_int pa_nil)) (pe_op op_sub (pv 1) pe_int))) (pv 5))) (pe_lst (pa_cons pe_int pa_nil))))
  (C8.pss_cut (ps_if (pt_cmpR op_eq (pv 2) pe_int (nomark _)) (pss_cons (ps_set (i := 4) sc_law_chain.nd rfl (by first | exact Or.inl rfl | exact Or.inr rfl) (C8.pe_c C_law_take hr (by decide) (by rfl) (pa_cons (pv 0) (pa_cons (pe_callB call_len_seq (by rfl) T.b_len (by decide +kernel) (pa_cons (pv 6) pa_nil)) pa_nil))))
  (pss_cons (ps_set (i := 7) sc_law_chain.nd rfl (by first | exact Or.inl rfl | exact Or.inr rfl) (C8.pe_c C_law_take hr (by decide) (by rfl) (pa_cons (pv 0) (pa_cons pe_int pa_nil))))
  (pss_one (ps_if (pt_cmpR op_lt (pv 7) pe_int (nomark _)) (pss_one (ps_asg (pv 7) (pg_sub (pv 6) (pv 4) set_list))) (pss_one (ps_set (i := 6) sc_law_chain.nd rfl (by first | exact Or.inl rfl | exact Or.inr rfl) (pe_op op_cat (pe_slice sl_list (pv 6) po_none (po_some (pv 4))) (pe_slice sl_list (pv 6) (po_some (pe_op op_add (pv 4) pe_int)) po_none)))))))) pss_nil)
  (pss_cons (ps_set (i := 8) sc_law_chain.nd rfl (by first | exact Or.inl rfl | exact Or.inr rfl) (C8.pe_c C_law_pages hr (by decide) (by rfl) (pa_cons (pv 0) (pa_cons (C8.pe_c C_law_take hr (by decide) (by rfl) (pa_cons (pv 0) (pa_cons pe_int pa_nil))) pa_nil))))
  (pss_cons (ps_set (i := 9) sc_law_chain.nd rfl (by first | exact Or.inl rfl | exact Or.inr rfl) (C8.pe_c C_law_pages hr (by decide) (by rfl) (pa_cons (pv 0) (pa_cons (C8.pe_c C_law_take hr (by decide) (by rfl) (pa_cons (pv 0) (pa_cons pe_int pa_nil))) pa_nil))))
  (pss_one (ps_ret (pe_op op_cat (pe_op op_cat (pv 8) (pv 6)) (pv 9)))))))))))), rd_law_chain h⟩)
theorem bi_law_chain {f : Addr} {fd : FuncData} (F : Fun K "_law_chain" "_law_chain" s_law_chain f fd) : Binds K fd ["bag", "copies"] [] := F.binds fun _ _ _ _ _ _ us hl => match us, hl with | [_, _], _ => rfl
abbrev s_law_has_stretch : Stmt := topS 14
theorem sc_law_has_stretch : FnScope ["chain", "copies", "start", "at", "turn"] ["chain", "copies"] (defScope s_law_has_stretch) := ⟨rfl, rfl, rfl, by decide +kernel, rfl, by decide +kernel, by decide +kernel⟩
theorem ln_law_has_stretch {vs : List V} {H : Hp} {Q : VK} {E : XK} (h : sp_law_has_stretch K A vs H Q E) : vs.length = 2 := by
  first | (obtain ⟨_, rfl, _⟩ := h; rfl) | (obtain ⟨_, _, rfl, _⟩ := h; rfl) | (obtain ⟨_, _, _, rfl, _⟩ := h; rfl) | (obtain ⟨_, _, _, _, rfl, _⟩ := h; rfl) | (obtain ⟨_, _, _, _, _, rfl, _⟩ := h; rfl) | (obtain ⟨_, _, _, _, _, _, rfl, _⟩ := h; rfl) | (obtain ⟨_, _, _, _, _, _, _, rfl, _⟩ := h; rfl) | (obtain ⟨_, _, _, _, _, _, _, _, rfl, _⟩ := h; rfl) | (obtain ⟨_, _, _, _, _, _, _, _, _, rfl, _⟩ := h; rfl) | (obtain ⟨_, _, _, _, _, _, _, _, _, _, rfl, _⟩ := h; rfl) | (obtain ⟨_, _, _, _, _, _, _, _, _, _, _, rfl, _⟩ := h; rfl) | (obtain ⟨_, _, _, _, _, _, _, _, _, _, _, _, rfl, _⟩ := h; rfl) | (obtain ⟨_, _, _, _, _, _, _, _, _, _, _, _, _, rfl, _⟩ := h; rfl) | (obtain ⟨_, _, _, _, _, _, _, _, _, _, _, _, _, _, rfl, _⟩ := h; rfl) | (obtain ⟨_, _, _, _, _, _, _, _, _, _, _, _, _, _, _, rfl, _⟩ := h; rfl)
theorem fn_law_has_stretch {f : Addr} {fd : FuncData} (F : Fun K "_law_has_stretch" "_law_has_stretch" s_law_has_stretch f fd) (T : Txt mg) (C : CT K A)  : FnOk P w K mg base CX0 1 f fd ["chain", "copies"] (sp_law_has_stretch K A) :=
  F.ok sc_law_has_stretch (fun vs H Q E h => ln_law_has_stretch h) (fun cdv Ar outer s H vs Q E hr h => ⟨t_law_has_stretch K A, (pss_cons (ps_for PassesOwn.never rfl (pi_range1 (by rfl) T.b_range (pa_cons (pe_op op_sub (pe_callB call_len_seq (by rfl) T.b_len (by decide +kernel) (pa_cons (pv 0) pa_nil)) (pv 1)) pa_nil)) (pg_name (i := 2) sc_law_has_stretch.nd rfl (by first | exact Or.inl rfl | exact Or.inr rfl))
  (pss_cons (ps_if (pt_val (pe_callB (G.cr_anyI rfl) (by rfl) T.b_any (by decide +kernel) (pa_cons (pe_slice sl_list (pv 0) (po_some (pv 2)) (po_some (pe_op op_add (pv 2) (pv 1)))) pa_nil)) (by intro _; rfl)) (pss_one ps_continue) pss_nil)
  (pss_cons (ps_set (i := 3) sc_law_has_stretch.nd rfl (by first | exact Or.inl rfl | exact Or.inr rfl) (pe_op op_add (pv 2) (pv 1)))
  (pss_one (ps_for PassesOwn.never rfl (pi_range1 (by rfl) T.b_range (pa_cons (pe_callB call_len_seq (by rfl) T.b_len (by decide +kernel) (pa_cons (pv 0) pa_nil)) pa_nil)) (pg_name (i := 4) sc_law_has_stretch.nd rfl (by first | exact Or.inl rfl | exact Or.inr rfl))
  (pss_cons (ps_if (PW.pt (pw_or (pt_cmpR op_ge (pv 3) (pe_callB call_len_seq (by rfl) T.b_len (by decide +kernel) (pa_cons (pv 0) pa_nil)) (nomark _)) (pw_or1 (pt_cmpR op_gt (pe_ix ix_list (pv 0) (pv 3) (fun _ _ => rfl)) pe_int (nomark _))))) (pss_one ps_break) pss_nil)
  (pss_cons (ps_if (pt_cmpR op_eq (pe_ix ix_list (pv 0) (pv 3) (fun _ _ => rfl)) pe_int (nomark _)) (pss_one (ps_ret pe_bl)) pss_nil)
  (pss_cons (ps_if (pt_val (pe_callB (G.cr_anyI rfl) (by rfl) T.b_any (by decide +kernel) (pa_cons (pe_slice sl_list (pv 0) (po_some (pe_op op_add (pv 3) pe_int)) (po_some (pe_op op_add (pv 3) (pv 1)))) pa_nil)) (by intro _; rfl)) (pss_one ps_break) pss_nil)
  (pss_one (ps_set (i := 3) sc_law_has_stretch.nd rfl (by first | exact Or.inl rfl | exact Or.inr rfl) (pe_op op_add (pv 3) (pv 1))))))))))))
  (pss_one (ps_ret pe_bl))), rd_law_has_stretch h⟩)
theorem bi_law_has_stretch {f : Addr} {fd : FuncData} (F : Fun K "_law_has_stretch" "_law_has_stretch" s_law_has_stretch f fd) : Binds K fd ["chain", "copies"] [] := F.binds fun _ _ _ _ _ _ us hl => match us, hl with | [_, _], _ => rfl
abbrev s_law_reads : Stmt := topS 15
theorem sc_law_reads : FnScope ["chain", "copies", "row", "page", "k", "first", "last", "place", "due"] ["chain", "copies", "row"] (defScope s_law_reads) := ⟨rfl, rfl, rfl, by decide +kernel, rfl, by decide +kernel, by decide +kernel⟩
theorem ln_law_reads {vs : List V} {H : Hp} {Q : VK} {E : XK} (h : sp_law_reads K A vs H Q E) : vs.length = 3 := by
  first | (obtain ⟨_, rfl, _⟩ := h; rfl) | (obtain ⟨_, _, rfl, _⟩ := h; rfl) | (obtain ⟨_, _, _, rfl, _⟩ := h; rfl) | (obtain ⟨_, _, _, _, rfl, _⟩ := h; rfl) | (obtain ⟨_, _, _, _, _, rfl, _⟩ := h; rfl) | (obtain ⟨_, _, _, _, _, _, rfl, _⟩ := h; rfl) | (obtain ⟨_, _, _, _, _, _, _, rfl, _⟩ := h; rfl) | (obtain ⟨_, _, _, _, _, _, _, _, rfl, _⟩ := h; rfl) | (obtain ⟨_, _, _, _, _, _, _, _, _, rfl, _⟩ := h; rfl) | (obtain ⟨_, _, _, _, _, _, _, _, _, _, rfl, _⟩ := h; rfl) | (obtain ⟨_, _, _, _, _, _, _, _, _, _, _, rfl, _⟩ := h; rfl) | (obtain ⟨_, _, _, _, _, _, _, _, _, _, _, _, rfl, _⟩ := h; rfl) | (obtain ⟨_, _, _, _, _, _, _, _, _, _, _, _, _, rfl, _⟩ := h; rfl) | (obtain ⟨_, _, _, _, _, _, _, _, _, _, _, _, _, _, rfl, _⟩ := h; rfl) | (obtain ⟨_, _, _, _, _, _, _, _, _, _, _, _, _, _, _, rfl, _⟩ := h; rfl)
theorem fn_law_reads {f : Addr} {fd : FuncData} (F : Fun K "_law_reads" "_law_reads" s_law_reads f fd) (T : Txt mg) (C : CT K A) (C_law_is_integer : C8.Cal P w K mg base 1 "_law_is_integer" (sp_law_is_integer K A) []) : FnOk P w K mg base CX0 2 f fd ["chain", "copies", "row"] (sp_law_reads K A) :=
  F.ok sc_law_reads (fun vs H Q E h => ln_law_reads h) (fun cdv Ar outer s H vs Q E hr h => ⟨t_law_reads K A, (pss_cons (ps_if (PW.pt (pw_or (pt_not (pt_val (pe_callB call_isi (by rfl) T.b_isinstance (by decide +kernel) (pa_cons (pv 2) (pa_cons (pe_bltn (v := .ty "list") (by rfl) T.b_list (by decide +kernel) rfl) pa_nil))) (by intro _; rfl))) (pw_or (pt_cmpR (op_eqD hr.units) (pv 2) (pe_lst pa_nil) (nomark _)) (pw_or1 (pt_not (pt_val (pe_callB (cr_all rfl) (by rfl) T.b_all (by decide +kernel) (pa_cons (pe_lc (own := [("page", 3)]) (g := (gName 3)) (tt := tYes) rfl sc_law_reads.nd (pi_list (pv 2)) (blkOk_by (own := [("page", 3)]) (N := ["chain", "copies", "row", "page", "k", "first", "last", "place", "due"]) (sc := defScope s_law_reads) (by decide +kernel)) (fun _ _ _ _ _ => (pg_name (i := 3) sc_law_reads.nd rfl (by first | exact Or.inl rfl | exact Or.inr rfl))) (fun _ _ _ _ _ => pts_nil) (fun _ _ _ _ _ => (C8.pe_c C_law_is_integer hr (by decide) (by rfl) (pa_cons (pv 3) pa_nil)))) pa_nil)) (by intro _; rfl))))))) (pss_one (ps_ret pe_bl)) pss_nil)
  (pss_cons (ps_if (pt_val (pe_callB (cr_any rfl) (by rfl) T.b_any (by decide +kernel) (pa_cons (pe_lc (own := [("k", 4)]) (g := (gName 4)) (tt := tYes) rfl sc_law_reads.nd (pi_range1 (by rfl) T.b_range (pa_cons (pe_op op_sub (pe_callB call_len_seq (by rfl) T.b_len (by decide +kernel) (pa_cons (pv 2) pa_nil)) pe_int) pa_nil)) (blkOk_by (own := [("k", 4)]) (N := ["chain", "copies", "row", "page", "k", "first", "last", "place", "due"]) (sc := defScope s_law_reads) (by decide +kernel)) (fun _ _ _ _ _ => (pg_name (i := 4) sc_law_reads.nd rfl (by first | exact Or.inl rfl | exact Or.inr rfl))) (fun _ _ _ _ _ => pts_nil) (fun _ _ _ _ _ => (pe_cmpR op_ne (pe_op op_sub (pe_ix ix_list (pv 2) (pv 4) (fun _ _ => rfl)) (pe_ix ix_list (pv 2) (pe_op op_add (pv 4) pe_int) (fun _ _ => rfl))) (pv 1) (nomark _)))) pa_nil)) (by intro _; rfl)) (pss_one (ps_ret pe_bl)) pss_nil)
  (pss_cons (ps_set (i := 5) sc_law_reads.nd rfl (by first | exact Or.inl rfl | exact Or.inr rfl) (pe_op op_sub (pe_ix ix_list (pv 2) (pe_un un_neg pe_int) (fun _ _ => rfl)) (pv 1)))
  (pss_cons (ps_set (i := 6) sc_law_reads.nd rfl (by first | exact Or.inl rfl | exact Or.inr rfl) (pe_ix ix_list (pv 2) pe_int (fun _ _ => rfl)))
  (pss_cons (ps_if (PW.pt (pw_or (pt_cmpR op_lt (pv 5) pe_int (nomark _)) (pw_or1 (pt_cmpR op_ge (pv 6) (pe_callB call_len_seq (by rfl) T.b_len (by decide +kernel) (pa_cons (pv 0) pa_nil)) (nomark _))))) (pss_one (ps_ret pe_bl)) pss_nil)
  (pss_cons (ps_for PassesOwn.never rfl (pi_range2 (by rfl) T.b_range (pa_cons (pv 5) (pa_cons (pe_op op_add (pv 6) pe_int) pa_nil))) (pg_name (i := 7) sc_law_reads.nd rfl (by first | exact Or.inl rfl | exact Or.inr rfl))
  (pss_cons (ps_set (i := 8) sc_law_reads.nd rfl (by first | exact Or.inl rfl | exact Or.inr rfl) pe_int)
  (C8.pss_cut (ps_if (PW.pt (pw_and (pt_cmpR op_ne (pv 7) (pv 5) (nomark _)) (pw_and (pt_cmpR op_ne (pv 7) (pv 6) (nomark _)) (pw_and1 (pt_cmpR op_eq (pe_op op_mod (pe_callTy call_int1 (by rfl) T.b_int (by decide +kernel) (pa_cons (pe_op op_sub (pv 7) (pv 5)) pa_nil)) (pv 1)) pe_int (nomark _)))))) (pss_one (ps_set (i := 8) sc_law_reads.nd rfl (by first | exact Or.inl rfl | exact Or.inr rfl) pe_int)) pss_nil)
  (pss_one (ps_if (pt_cmpR op_ne (pe_ix ix_list (pv 0) (pv 7) (fun _ _ => rfl)) (pv 8) (nomark _)) (pss_one (ps_ret pe_bl)) pss_nil)))))
  (pss_one (ps_ret pe_bl)))))))), rd_law_reads h⟩)
theorem bi_law_reads {f : Addr} {fd : FuncData} (F : Fun K "_law_reads" "_law_reads" s_law_reads f fd) : Binds K fd ["chain", "copies", "row"] [] := F.binds fun _ _ _ _ _ _ us hl => match us, hl with | [_, _, _], _ => rfl
abbrev s_law_closed : Stmt := topS 16
theorem sc_law_closed : FnScope ["chain", "page", "wanted", "copied", "below", "place"] ["chain", "page", "wanted"] (defScope s_law_closed) := ⟨rfl, rfl, rfl, by decide +kernel, rfl, by decide +kernel, by decide +kernel⟩
theorem ln_law_closed {vs : List V} {H : Hp} {Q : VK} {E : XK} (h : sp_law_closed K A vs H Q E) : vs.length = 3 := by
  first | (obtain ⟨_, rfl, _⟩ := h; rfl) | (obtain ⟨_, _, rfl, _⟩ := h; rfl) | (obtain ⟨_, _, _, rfl, _⟩ := h; rfl) | (obtain ⟨_, _, _, _, rfl, _⟩ := h; rfl) | (obtain ⟨_, _, _, _, _, rfl, _⟩ := h; rfl) | (obtain ⟨_, _, _, _, _, _, rfl, _⟩ := h; rfl) | (obtain ⟨_, _, _, _, _, _, _, rfl, _⟩ := h; rfl) | (obtain ⟨_, _, _, _, _, _, _, _, rfl, _⟩ := h; rfl) | (obtain ⟨_, _, _, _, _, _, _, _, _, rfl, _⟩ := h; rfl) | (obtain ⟨_, _, _, _, _, _, _, _, _, _, rfl, _⟩ := h; rfl) | (obtain ⟨_, _, _, _, _, _, _, _, _, _, _, rfl, _⟩ := h; rfl) | (obtain ⟨_, _, _, _, _, _, _, _, _, _, _, _, rfl, _⟩ := h; rfl) | (obtain ⟨_, _, _, _, _, _, _, _, _, _, _, _, _, rfl, _⟩ := h; rfl) | (obtain ⟨_, _, _, _, _, _, _, _, _, _, _, _, _, _, rfl, _⟩ := h; rfl) | (obtain ⟨_, _, _, _, _, _, _, _, _, _, _, _, _, _, _, rfl, _⟩ := h; rfl)
theorem fn_law_closed {f : Addr} {fd : FuncData} (F : Fun K "_law_closed" "_law_closed" s_law_closed f fd) (T : Txt mg) (C : CT K A)  : FnOk P w K mg base CX0 1 f fd ["chain", "page", "wanted"] (sp_law_closed K A) :=
  F.ok sc_law_closed (fun vs H Q E h => ln_law_closed h) (fun cdv Ar outer s H vs Q E hr h => ⟨t_law_closed K A, (pss_cons (ps_set (i := 3) sc_law_closed.nd rfl (by first | exact Or.inl rfl | exact Or.inr rfl) (pe_lst pa_nil))
  (pss_cons (ps_set (i := 4) sc_law_closed.nd rfl (by first | exact Or.inl rfl | exact Or.inr rfl) pe_bl)
  (pss_cons (ps_for PassesOwn.never rfl (pi_revR (by rfl) T.b_reversed (prg_1 (by rfl) T.b_range (pe_callB call_len_seq (by rfl) T.b_len (by decide +kernel) (pa_cons (pv 0) pa_nil)))) (pg_name (i := 5) sc_law_closed.nd rfl (by first | exact Or.inl rfl | exact Or.inr rfl))
  (pss_cons (ps_set (i := 4) sc_law_closed.nd rfl (by first | exact Or.inl rfl | exact Or.inr rfl) (pe_or (pe_cmpR op_in_seq (pv 5) (pv 2) (by rfl)) (pe_one (pe_cmpR op_gt (pe_op op_add (pe_callTy call_int1 (by rfl) T.b_int (by decide +kernel) (pa_cons (pe_cmpR op_eq (pv 5) (pv 1) (nomark _)) pa_nil)) (pe_callTy call_int1 (by rfl) T.b_int (by decide +kernel) (pa_cons (pv 4) pa_nil))) (pe_ix ix_list (pv 0) (pv 5) (fun _ _ => rfl)) (nomark _)))))
  (pss_one (ps_if (pt_val (pv 4) (by intro _; rfl)) (pss_one (ps_expr (pe_bm PySem.F.plainAttrs_list PySem.F.slot_list_append PySem.F.type_list_append mt_append (pv 3) (pa_cons (pv 5) pa_nil)))) pss_nil))))
  (pss_one (ps_ret (pe_revL (pv 3))))))), rd_law_closed h⟩)
theorem bi_law_closed {f : Addr} {fd : FuncData} (F : Fun K "_law_closed" "_law_closed" s_law_closed f fd) : Binds K fd ["chain", "page", "wanted"] [] := F.binds fun _ _ _ _ _ _ us hl => match us, hl with | [_, _, _], _ => rfl
abbrev s_law_after : Stmt := topS 17
theorem sc_law_after : FnScope ["chain", "lines", "page", "copied", "following", "place"] ["chain", "lines", "page", "copied"] (defScope s_law_after) := ⟨rfl, rfl, rfl, by decide +kernel, rfl, by decide +kernel, by decide +kernel⟩
theorem ln_law_after {vs : List V} {H : Hp} {Q : VK} {E : XK} (h : sp_law_after K A vs H Q E) : vs.length = 4 := by
  first | (obtain ⟨_, rfl, _⟩ := h; rfl) | (obtain ⟨_, _, rfl, _⟩ := h; rfl) | (obtain ⟨_, _, _, rfl, _⟩ := h; rfl) | (obtain ⟨_, _, _, _, rfl, _⟩ := h; rfl) | (obtain ⟨_, _, _, _, _, rfl, _⟩ := h; rfl) | (obtain ⟨_, _, _, _, _, _, rfl, _⟩ := h; rfl) | (obtain ⟨_, _, _, _, _, _, _, rfl, _⟩ := h; rfl) | (obtain ⟨_, _, _, _, _, _, _, _, rfl, _⟩ := h; rfl) | (obtain ⟨_, _, _, _, _, _, _, _, _, rfl, _⟩ := h; rfl) | (obtain ⟨_, _, _, _, _, _, _, _, _, _, rfl, _⟩ := h; rfl) | (obtain ⟨_, _, _, _, _, _, _, _, _, _, _, rfl, _⟩ := h; rfl) | (obtain ⟨_, _, _, _, _, _, _, _, _, _, _, _, rfl, _⟩ := h; rfl) | (obtain ⟨_, _, _, _, _, _, _, _, _, _, _, _, _, rfl, _⟩ := h; rfl) | (obtain ⟨_, _, _, _, _, _, _, _, _, _, _, _, _, _, rfl, _⟩ := h; rfl) | (obtain ⟨_, _, _, _, _, _, _, _, _, _, _, _, _, _, _, rfl, _⟩ := h; rfl)
theorem fn_law_after {f : Addr} {fd : FuncData} (F : Fun K "_law_after" "_law_after" s_law_after f fd) (T : Txt mg) (C : CT K A)  : FnOk P w K mg base CX0 1 f fd ["chain", "lines", "page", "copied"] (sp_law_after K A) :=
  F.ok sc_law_after (fun vs H Q E h => ln_law_after h) (fun cdv Ar outer s H vs Q E hr h => ⟨t_law_after K A, (pss_cons (ps_set (i := 4) sc_law_after.nd rfl (by first | exact Or.inl rfl | exact Or.inr rfl) (pe_lst pa_nil))
  (pss_cons (ps_for PassesOwn.never rfl (pi_range1 (by rfl) T.b_range (pa_cons (pe_callB call_len_seq (by rfl) T.b_len (by decide +kernel) (pa_cons (pv 0) pa_nil)) pa_nil)) (pg_name (i := 5) sc_law_after.nd rfl (by first | exact Or.inl rfl | exact Or.inr rfl))
  (pss_one (ps_if (pt_cmpR op_in_seq (pv 5) (pv 3) (by rfl)) (pss_one (ps_expr (pe_bm PySem.F.plainAttrs_list PySem.F.slot_list_append PySem.F.type_list_append mt_append (pv 4) (pa_cons (pv 1) pa_nil)))) (pss_one (ps_expr (pe_bm PySem.F.plainAttrs_list PySem.F.slot_list_append PySem.F.type_list_append mt_append (pv 4) (pa_cons (pe_op op_sub (pe_op op_sub (pe_ix ix_list (pv 0) (pv 5) (fun _ _ => rfl)) (pe_callTy call_int1 (by rfl) T.b_int (by decide +kernel) (pa_cons (pe_cmpR op_eq (pv 5) (pv 2) (nomark _)) pa_nil))) (pe_callTy call_int1 (by rfl) T.b_int (by decide +kernel) (pa_cons (pe_cmpR op_in_seq (pe_op op_add (pv 5) pe_int) (pv 3) (by rfl)) pa_nil))) pa_nil)))))))
  (pss_one (ps_ret (pv 4))))), rd_law_after h⟩)
theorem bi_law_after {f : Addr} {fd : FuncData} (F : Fun K "_law_after" "_law_after" s_law_after f fd) : Binds K fd ["chain", "lines", "page", "copied"] [] := F.binds fun _ _ _ _ _ _ us hl => match us, hl with | [_, _, _, _], _ => rfl
abbrev s_law_wins : Stmt := topS 18
theorem sc_law_wins : FnScope ["bag", "chain", "lines", "copies", "row", "state", "page", "wanted", "copied", "turn"] ["bag", "chain", "lines", "copies", "row"] (defScope s_law_wins) := ⟨rfl, rfl, rfl, by decide +kernel, rfl, by decide +kernel, by decide +kernel⟩
theorem ln_law_wins {vs : List V} {H : Hp} {Q : VK} {E : XK} (h : sp_law_wins K A vs H Q E) : vs.length = 5 := by
  first | (obtain ⟨_, rfl, _⟩ := h; rfl) | (obtain ⟨_, _, rfl, _⟩ := h; rfl) | (obtain ⟨_, _, _, rfl, _⟩ := h; rfl) | (obtain ⟨_, _, _, _, rfl, _⟩ := h; rfl) | (obtain ⟨_, _, _, _, _, rfl, _⟩ := h; rfl) | (obtain ⟨_, _, _, _, _, _, rfl, _⟩ := h; rfl) | (obtain ⟨_, _, _, _, _, _, _, rfl, _⟩ := h; rfl) | (obtain ⟨_, _, _, _, _, _, _, _, rfl, _⟩ := h; rfl) | (obtain ⟨_, _, _, _, _, _, _, _, _, rfl, _⟩ := h; rfl) | (obtain ⟨_, _, _, _, _, _, _, _, _, _, rfl, _⟩ := h; rfl) | (obtain ⟨_, _, _, _, _, _, _, _, _, _, _, rfl, _⟩ := h; rfl) | (obtain ⟨_, _, _, _, _, _, _, _, _, _, _, _, rfl, _⟩ := h; rfl) | (obtain ⟨_, _, _, _, _, _, _, _, _, _, _, _, _, rfl, _⟩ := h; rfl) | (obtain ⟨_, _, _, _, _, _, _, _, _, _, _, _, _, _, rfl, _⟩ := h; rfl) | (obtain ⟨_, _, _, _, _, _, _, _, _, _, _, _, _, _, _, rfl, _⟩ := h; rfl)
theorem fn_law_wins {f : Addr} {fd : FuncData} (F : Fun K "_law_wins" "_law_wins" s_law_wins f fd) (T : Txt mg) (C : CT K A) (C_law_after : C8.Cal P w K mg base 1 "_law_after" (sp_law_after K A) []) (C_law_closed : C8.Cal P w K mg base 1 "_law_closed" (sp_law_closed K A) []) (C_law_take : C8.Cal P w K mg base 1 "_law_take" (sp_law_take K A) []) : FnOk P w K mg base CX0 2 f fd ["bag", "chain", "lines", "copies", "row"] (sp_law_wins K A) :=
  F.ok sc_law_wins (fun vs H Q E h => ln_law_wins h) (fun cdv Ar outer s H vs Q E hr h => ⟨t_law_wins K A, (pss_cons (ps_set (i := 5) sc_law_wins.nd rfl (by first | exact Or.inl rfl | exact Or.inr rfl) (pe_callTy call_list_of (by rfl) T.b_list (by decide +kernel) (pa_cons (pv 1) pa_nil)))
  (pss_cons (ps_for PassesOwn.never rfl (pi_list (pv 4)) (pg_name (i := 6) sc_law_wins.nd rfl (by first | exact Or.inl rfl | exact Or.inr rfl))
  (pss_cons (ps_setLc (i := 7) (own := [("turn", 9)]) (g := (gName 9)) (tt := tYes) rfl sc_law_wins.nd rfl rfl (sw_true rfl rfl rfl (by decide +kernel)) (pi_range1 (by rfl) T.b_range (pa_cons (C8.pe_c C_law_take hr (by decide) (by rfl) (pa_cons (pv 0) (pa_cons (pe_op op_add pe_int (pe_callB (call_min2 rfl) (by rfl) T.b_min (by decide +kernel) (pa_cons (pv 3) (pa_cons pe_int pa_nil)))) pa_nil))) pa_nil)) (blkOk_by (own := [("turn", 9)]) (N := ["bag", "chain", "lines", "copies", "row", "state", "page", "wanted", "copied", "turn"]) (sc := defScope s_law_wins) (by decide +kernel)) (fun _ _ _ _ _ => (pg_name (i := 9) sc_law_wins.nd rfl (by first | exact Or.inl rfl | exact Or.inr rfl))) (fun _ _ _ _ _ => pts_nil) (fun _ _ _ _ _ => (C8.pe_c C_law_take hr (by decide) (by rfl) (pa_cons (pv 0) (pa_cons (pe_callB call_len_seq (by rfl) T.b_len (by decide +kernel) (pa_cons (pv 1) pa_nil)) pa_nil)))))
  (pss_cons (ps_set (i := 8) sc_law_wins.nd rfl (by first | exact Or.inl rfl | exact Or.inr rfl) (C8.pe_c C_law_closed hr (by decide) (by rfl) (pa_cons (pv 5) (pa_cons (pv 6) (pa_cons (pv 7) pa_nil)))))
  (C8.pss_cut (ps_if (pt_cmpR op_gt (pe_callB call_len_seq (by rfl) T.b_len (by decide +kernel) (pa_cons (pv 8) pa_nil)) (pv 3) (nomark _)) (pss_one (ps_set (i := 8) sc_law_wins.nd rfl (by first | exact Or.inl rfl | exact Or.inr rfl) (C8.pe_c C_law_closed hr (by decide) (by rfl) (pa_cons (pv 5) (pa_cons (pv 6) (pa_cons (pe_lst pa_nil) pa_nil)))))) pss_nil)
  (pss_cons (ps_if (pt_cmpR op_gt (pe_callB call_len_seq (by rfl) T.b_len (by decide +kernel) (pa_cons (pv 8) pa_nil)) (pv 3) (nomark _)) (pss_one (ps_ret pe_bl)) pss_nil)
  (pss_one (ps_set (i := 5) sc_law_wins.nd rfl (by first | exact Or.inl rfl | exact Or.inr rfl) (C8.pe_c C_law_after hr (by decide) (by rfl) (pa_cons (pv 5) (pa_cons (pv 2) (pa_cons (pv 6) (pa_cons (pv 8) pa_nil))))))))))))
  (pss_one (ps_ret pe_bl)))), rd_law_wins h⟩)
theorem bi_law_wins {f : Addr} {fd : FuncData} (F : Fun K "_law_wins" "_law_wins" s_law_wins f fd) : Binds K fd ["bag", "chain", "lines", "copies", "row"] [] := F.binds fun _ _ _ _ _ _ us hl => match us, hl with | [_, _, _, _, _], _ => rfl
abbrev s_law_wins_always : Stmt := topS 19
theorem sc_law_wins_always : FnScope ["chain", "lines", "copies", "row", "states", "page", "following", "state", "mask", "copied", "place"] ["chain", "lines", "copies", "row"] (defScope s_law_wins_always) := ⟨rfl, rfl, rfl, by decide +kernel, rfl, by decide +kernel, by decide +kernel⟩
theorem ln_law_wins_always {vs : List V} {H : Hp} {Q : VK} {E : XK} (h : sp_law_wins_always K A vs H Q E) : vs.length = 4 := by
  first | (obtain ⟨_, rfl, _⟩ := h; rfl) | (obtain ⟨_, _, rfl, _⟩ := h; rfl) | (obtain ⟨_, _, _, rfl, _⟩ := h; rfl) | (obtain ⟨_, _, _, _, rfl, _⟩ := h; rfl) | (obtain ⟨_, _, _, _, _, rfl, _⟩ := h; rfl) | (obtain ⟨_, _, _, _, _, _, rfl, _⟩ := h; rfl) | (obtain ⟨_, _, _, _, _, _, _, rfl, _⟩ := h; rfl) | (obtain ⟨_, _, _, _, _, _, _, _, rfl, _⟩ := h; rfl) | (obtain ⟨_, _, _, _, _, _, _, _, _, rfl, _⟩ := h; rfl) | (obtain ⟨_, _, _, _, _, _, _, _, _, _, rfl, _⟩ := h; rfl) | (obtain ⟨_, _, _, _, _, _, _, _, _, _, _, rfl, _⟩ := h; rfl) | (obtain ⟨_, _, _, _, _, _, _, _, _, _, _, _, rfl, _⟩ := h; rfl) | (obtain ⟨_, _, _, _, _, _, _, _, _, _, _, _, _, rfl, _⟩ := h; rfl) | (obtain ⟨_, _, _, _, _, _, _, _, _, _, _, _, _, _, rfl, _⟩ := h; rfl) | (obtain ⟨_, _, _, _, _, _, _, _, _, _, _, _, _, _, _, rfl, _⟩ := h; rfl)
theorem fn_law_wins_always {f : Addr} {fd : FuncData} (F : Fun K "_law_wins_always" "_law_wins_always" s_law_wins_always f fd) (T : Txt mg) (C : CT K A) (C_law_after : C8.Cal P w K mg base 1 "_law_after" (sp_law_after K A) []) (C_law_closed : C8.Cal P w K mg base 1 "_law_closed" (sp_law_closed K A) []) : FnOk P w K mg base CX0 2 f fd ["chain", "lines", "copies", "row"] (sp_law_wins_always K A) :=
  F.ok sc_law_wins_always (fun vs H Q E h => ln_law_wins_always h) (fun cdv Ar outer s H vs Q E hr h => ⟨t_law_wins_always K A, (pss_cons (ps_set (i := 4) sc_law_wins_always.nd rfl (by first | exact Or.inl rfl | exact Or.inr rfl) (pe_lst (pa_cons (pe_callTy call_list_of (by rfl) T.b_list (by decide +kernel) (pa_cons (pv 0) pa_nil)) pa_nil)))
  (pss_cons (ps_for PassesOwn.never rfl (pi_list (pv 3)) (pg_name (i := 5) sc_law_wins_always.nd rfl (by first | exact Or.inl rfl | exact Or.inr rfl))
  (pss_cons (ps_set (i := 6) sc_law_wins_always.nd rfl (by first | exact Or.inl rfl | exact Or.inr rfl) (pe_lst pa_nil))
  (pss_cons (ps_for PassesOwn.never rfl (pi_list (pv 4)) (pg_name (i := 7) sc_law_wins_always.nd rfl (by first | exact Or.inl rfl | exact Or.inr rfl))
  (pss_one (ps_for PassesOwn.never rfl (pi_range1 (by rfl) T.b_range (pa_cons (pe_op op_oneShl pe_int (pe_callB call_len_seq (by rfl) T.b_len (by decide +kernel) (pa_cons (pv 0) pa_nil))) pa_nil)) (pg_name (i := 8) sc_law_wins_always.nd rfl (by first | exact Or.inl rfl | exact Or.inr rfl))
  (pss_cons (ps_setLc (i := 9) (own := [("place", 10)]) (g := (gName 10)) (tt := (tTest (tOp rEq (tOp G.oOdd (tOp G.oShrN (tVar 8) (tVar 10)) (tC (.int 1))) (tC (.int 1))))) rfl sc_law_wins_always.nd rfl rfl (sw_true rfl rfl rfl (by decide +kernel)) (pi_range1 (by rfl) T.b_range (pa_cons (pe_callB call_len_seq (by rfl) T.b_len (by decide +kernel) (pa_cons (pv 0) pa_nil)) pa_nil)) (blkOk_by (own := [("place", 10)]) (N := ["chain", "lines", "copies", "row", "states", "page", "following", "state", "mask", "copied", "place"]) (sc := defScope s_law_wins_always) (by decide +kernel)) (fun _ _ _ _ _ => (pg_name (i := 10) sc_law_wins_always.nd rfl (by first | exact Or.inl rfl | exact Or.inr rfl))) (fun _ _ _ _ _ => (pts_one (pt_cmpR op_eq (pe_op op_odd (pe_op op_shrN (pv 8) (pv 10)) pe_int) pe_int (nomark _)))) (fun _ _ _ _ _ => (pv 10)))
  (pss_one (ps_if (PW.pt (pw_and (pt_cmpR op_le (pe_callB call_len_seq (by rfl) T.b_len (by decide +kernel) (pa_cons (pv 9) pa_nil)) (pv 2) (nomark _)) (pw_and1 (pt_cmpR (op_eqD hr.units) (pv 9) (C8.pe_c C_law_closed hr (by decide) (by rfl) (pa_cons (pv 7) (pa_cons (pv 5) (pa_cons (pv 9) pa_nil)))) (nomark _))))) (pss_one (ps_expr (pe_bm PySem.F.plainAttrs_list PySem.F.slot_list_append PySem.F.type_list_append mt_append (pv 6) (pa_cons (C8.pe_c C_law_after hr (by decide) (by rfl) (pa_cons (pv 7) (pa_cons (pv 1) (pa_cons (pv 5) (pa_cons (pv 9) pa_nil))))) pa_nil)))) pss_nil))))))
  (pss_one (ps_set (i := 4) sc_law_wins_always.nd rfl (by first | exact Or.inl rfl | exact Or.inr rfl) (pv 6))))))
  (pss_one (ps_ret (pe_cmpR (op_eqD hr.units) (pv 4) (pe_lst pa_nil) (nomark _)))))), rd_law_wins_always h⟩)
theorem bi_law_wins_always {f : Addr} {fd : FuncData} (F : Fun K "_law_wins_always" "_law_wins_always" s_law_wins_always f fd) : Binds K fd ["chain", "lines", "copies", "row"] [] := F.binds fun _ _ _ _ _ _ us hl => match us, hl with | [_, _, _, _], _ => rfl
abbrev s_law_fits : Stmt := topS 20
theorem sc_law_fits : FnScope ["bag", "chain", "lines", "copies", "handed", "lost", "turn", "row"] ["bag", "chain", "lines", "copies"] (defScope s_law_fits) := ⟨rfl, rfl, rfl, by decide +kernel, rfl, by decide +kernel, by decide +kernel⟩
theorem ln_law_fits {vs : List V} {H : Hp} {Q : VK} {E : XK} (h : sp_law_fits K A vs H Q E) : vs.length = 4 := by
  first | (obtain ⟨_, rfl, _⟩ := h; rfl) | (obtain ⟨_, _, rfl, _⟩ := h; rfl) | (obtain ⟨_, _, _, rfl, _⟩ := h; rfl) | (obtain ⟨_, _, _, _, rfl, _⟩ := h; rfl) | (obtain ⟨_, _, _, _, _, rfl, _⟩ := h; rfl) | (obtain ⟨_, _, _, _, _, _, rfl, _⟩ := h; rfl) | (obtain ⟨_, _, _, _, _, _, _, rfl, _⟩ := h; rfl) | (obtain ⟨_, _, _, _, _, _, _, _, rfl, _⟩ := h; rfl) | (obtain ⟨_, _, _, _, _, _, _, _, _, rfl, _⟩ := h; rfl) | (obtain ⟨_, _, _, _, _, _, _, _, _, _, rfl, _⟩ := h; rfl) | (obtain ⟨_, _, _, _, _, _, _, _, _, _, _, rfl, _⟩ := h; rfl) | (obtain ⟨_, _, _, _, _, _, _, _, _, _, _, _, rfl, _⟩ := h; rfl) | (obtain ⟨_, _, _, _, _, _, _, _, _, _, _, _, _, rfl, _⟩ := h; rfl) | (obtain ⟨_, _, _, _, _, _, _, _, _, _, _, _, _, _, rfl, _⟩ := h; rfl) | (obtain ⟨_, _, _, _, _, _, _, _, _, _, _, _, _, _, _, rfl, _⟩ := h; rfl)
theorem fn_law_fits {f : Addr} {fd : FuncData} (F : Fun K "_law_fits" "_law_fits" s_law_fits f fd) (T : Txt mg) (C : CT K A) (C_law_has_stretch : C8.Cal P w K mg base 1 "_law_has_stretch" (sp_law_has_stretch K A) []) (C_law_reads : C8.Cal P w K mg base 2 "_law_reads" (sp_law_reads K A) []) (C_law_wins : C8.Cal P w K mg base 2 "_law_wins" (sp_law_wins K A) []) (C_law_wins_always : C8.Cal P w K mg base 2 "_law_wins_always" (sp_law_wins_always K A) []) (C_attack_row : C8.Cal P w K mg base 4 "attack_row" (sp_attack_row K A) []) : FnOk P w K mg base CX0 5 f fd ["bag", "chain", "lines", "copies"] (sp_law_fits K A) :=
  F.ok sc_law_fits (fun vs H Q E h => ln_law_fits h) (fun cdv Ar outer s H vs Q E hr h => ⟨t_law_fits K A, (pss_cons (ps_set (i := 4) sc_law_fits.nd rfl (by first | exact Or.inl rfl | exact Or.inr rfl) (pe_callTy call_list_of (by rfl) T.b_list (by decide +kernel) (pa_cons (pv 1) pa_nil)))
  (pss_cons (ps_set (i := 5) sc_law_fits.nd rfl (by first | exact Or.inl rfl | exact Or.inr rfl) (C8.pe_c C_law_has_stretch hr (by decide) (by rfl) (pa_cons (pv 1) (pa_cons (pv 3) pa_nil))))
  (pss_cons (ps_for PassesOwn.never rfl (pi_range1 (by rfl) T.b_range (pa_cons pe_int pa_nil)) (pg_name (i := 6) sc_law_fits.nd rfl (by first | exact Or.inl rfl | exact Or.inr rfl))
  (pss_cons (ps_set (i := 7) sc_law_fits.nd rfl (by first | exact Or.inl rfl | exact Or.inr rfl) (C8.pe_c C_attack_row hr (by decide) (by rfl) (pa_cons (pv 4) (pa_cons (pv 3) pa_nil))))
  (pss_cons (ps_if (PW.pt (pw_or (pt_cmpR (op_neD hr.units) (pv 4) (pv 1) (nomark _)) (pw_or1 (pt_not (pt_val (pe_callB call_isi (by rfl) T.b_isinstance (by decide +kernel) (pa_cons (pv 7) (pa_cons (pe_bltn (v := .ty "list") (by rfl) T.b_list (by decide +kernel) rfl) pa_nil))) (by intro _; rfl)))))) (pss_one (ps_ret pe_bl)) pss_nil)
  (pss_cons (ps_if (PW.pt (pw_and (pt_not (pt_val (pv 5) (by intro _; rfl))) (pw_and1 (pt_cmpR (op_neD hr.units) (pv 7) (pe_lst pa_nil) (nomark _))))) (pss_one (ps_ret pe_bl)) pss_nil)
  (pss_cons (ps_if (PW.pt (pw_and (pt_val (pv 5) (by intro _; rfl)) (pw_and1 (pt_not (pt_val (C8.pe_c C_law_reads hr (by decide) (by rfl) (pa_cons (pv 1) (pa_cons (pv 3) (pa_cons (pv 7) pa_nil)))) (by intro _; rfl)))))) (pss_one (ps_ret pe_bl)) pss_nil)
  (pss_cons (ps_if (PW.pt (pw_and (pt_val (pv 5) (by intro _; rfl)) (pw_and (pt_cmpR op_le (pe_callB call_len_seq (by rfl) T.b_len (by decide +kernel) (pa_cons (pv 1) pa_nil)) pe_int (nomark _)) (pw_and1 (pt_not (pt_val (C8.pe_c C_law_wins_always hr (by decide) (by rfl) (pa_cons (pv 1) (pa_cons (pv 2) (pa_cons (pv 3) (pa_cons (pv 7) pa_nil))))) (by intro _; rfl))))))) (pss_one (ps_ret pe_bl)) pss_nil)
  (pss_cons (ps_if (PW.pt (pw_and (pt_val (pv 5) (by intro _; rfl)) (pw_and1 (pt_not (pt_val (C8.pe_c C_law_wins hr (by decide) (by rfl) (pa_cons (pv 0) (pa_cons (pv 1) (pa_cons (pv 2) (pa_cons (pv 3) (pa_cons (pv 7) pa_nil)))))) (by intro _; rfl)))))) (pss_one (ps_ret pe_bl)) pss_nil)
  (pss_one (ps_expr (pe_bm PySem.F.plainAttrs_list PySem.F.slot_list_append PySem.F.type_list_append mt_append (pv 7) (pa_cons (pe_callB call_len_seq (by rfl) T.b_len (by decide +kernel) (pa_cons (pv 1) pa_nil)) pa_nil)))))))))))
  (pss_one (ps_ret pe_bl))))), rd_law_fits h⟩)
theorem bi_law_fits {f : Addr} {fd : FuncData} (F : Fun K "_law_fits" "_law_fits" s_law_fits f fd) : Binds K fd ["bag", "chain", "lines", "copies"] [] := F.binds fun _ _ _ _ _ _ us hl => match us, hl with | [_, _, _, _], _ => rfl
abbrev s_law : Stmt := topS 21
theorem sc_law : FnScope ["script", "copies", "chain", "bag", "other", "lines", "limit"] ["script"] (defScope s_law) := ⟨rfl, rfl, rfl, by decide +kernel, rfl, by decide +kernel, by decide +kernel⟩
theorem ln_law {vs : List V} {H : Hp} {Q : VK} {E : XK} (h : sp_law K A vs H Q E) : vs.length = 1 := by
  first | (obtain ⟨_, rfl, _⟩ := h; rfl) | (obtain ⟨_, _, rfl, _⟩ := h; rfl) | (obtain ⟨_, _, _, rfl, _⟩ := h; rfl) | (obtain ⟨_, _, _, _, rfl, _⟩ := h; rfl) | (obtain ⟨_, _, _, _, _, rfl, _⟩ := h; rfl) | (obtain ⟨_, _, _, _, _, _, rfl, _⟩ := h; rfl) | (obtain ⟨_, _, _, _, _, _, _, rfl, _⟩ := h; rfl) | (obtain ⟨_, _, _, _, _, _, _, _, rfl, _⟩ := h; rfl) | (obtain ⟨_, _, _, _, _, _, _, _, _, rfl, _⟩ := h; rfl) | (obtain ⟨_, _, _, _, _, _, _, _, _, _, rfl, _⟩ := h; rfl) | (obtain ⟨_, _, _, _, _, _, _, _, _, _, _, rfl, _⟩ := h; rfl) | (obtain ⟨_, _, _, _, _, _, _, _, _, _, _, _, rfl, _⟩ := h; rfl) | (obtain ⟨_, _, _, _, _, _, _, _, _, _, _, _, _, rfl, _⟩ := h; rfl) | (obtain ⟨_, _, _, _, _, _, _, _, _, _, _, _, _, _, rfl, _⟩ := h; rfl) | (obtain ⟨_, _, _, _, _, _, _, _, _, _, _, _, _, _, _, rfl, _⟩ := h; rfl)
theorem fn_law {f : Addr} {fd : FuncData} (F : Fun K "law" "law" s_law f fd) (T : Txt mg) (C : CT K A) (C_law_bag : C8.Cal P w K mg base 1 "_law_bag" (sp_law_bag K A) []) (C_law_chain : C8.Cal P w K mg base 4 "_law_chain" (sp_law_chain K A) []) (C_law_copies : C8.Cal P w K mg base 2 "_law_copies" (sp_law_copies K A) []) (C_law_fits : C8.Cal P w K mg base 5 "_law_fits" (sp_law_fits K A) []) (C_law_take : C8.Cal P w K mg base 1 "_law_take" (sp_law_take K A) []) : FnOk P w K mg base CX0 6 f fd ["script"] (sp_law K A) :=
  F.ok sc_law (fun vs H Q E h => ln_law h) (fun cdv Ar outer s H vs Q E hr h => ⟨t_law K A, (pss_cons (ps_set (i := 1) sc_law.nd rfl (by first | exact Or.inl rfl | exact Or.inr rfl) (C8.pe_c C_law_copies hr (by decide) (by rfl) (pa_cons (C8.pe_c C_law_bag hr (by decide) (by rfl) (pa_cons (pv 0) (pa_cons pe_int pa_nil))) pa_nil)))
  (pss_cons (ps_set (i := 2) sc_law.nd rfl (by first | exact Or.inl rfl | exact Or.inr rfl) (C8.pe_c C_law_chain hr (by decide) (by rfl) (pa_cons (C8.pe_c C_law_bag hr (by decide) (by rfl) (pa_cons (pv 0) (pa_cons pe_int pa_nil))) (pa_cons (pv 1) pa_nil))))
  (pss_cons (ps_set (i := 3) sc_law.nd rfl (by first | exact Or.inl rfl | exact Or.inr rfl) (C8.pe_c C_law_bag hr (by decide) (by rfl) (pa_cons (pv 0) (pa_cons pe_int pa_nil))))
  (pss_cons (ps_set (i := 4) sc_law.nd rfl (by first | exact Or.inl rfl | exact Or.inr rfl) (C8.pe_c C_law_copies hr (by decide) (by rfl) (pa_cons (pv 3) pa_nil)))
  (pss_cons (ps_set (i := 5) sc_law.nd rfl (by first | exact Or.inl rfl | exact Or.inr rfl) (pe_callB (call_min2 rfl) (by rfl) T.b_min (by decide +kernel) (pa_cons pe_int (pa_cons (pe_op op_add (pe_callB (call_max2 rfl) (by rfl) T.b_max (by decide +kernel) (pa_cons pe_int (pa_cons (pe_callB (cr_max rfl) (by rfl) T.b_max (by decide +kernel) (pa_cons (pv 2) pa_nil)) pa_nil))) (C8.pe_c C_law_take hr (by decide) (by rfl) (pa_cons (pv 3) (pa_cons pe_int pa_nil)))) pa_nil))))
  (pss_cons (ps_for PassesOwn.never rfl (pi_list (pe_lst (pa_cons (pv 1) (pa_cons (pv 4) pa_nil)))) (pg_name (i := 6) sc_law.nd rfl (by first | exact Or.inl rfl | exact Or.inr rfl))
  (pss_one (ps_if (PW.pt (pw_or (pt_not (pt_val (C8.pe_c C_law_fits hr (by decide) (by rfl) (pa_cons (pv 3) (pa_cons (pv 2) (pa_cons (pv 5) (pa_cons (pv 6) pa_nil))))) (by intro _; rfl))) (pw_or1 (pt_not (pt_val (C8.pe_c C_law_fits hr (by decide) (by rfl) (pa_cons (pv 3) (pa_cons (pe_lst pa_nil) (pa_cons (pv 5) (pa_cons (pv 6) pa_nil))))) (by intro _; rfl)))))) (pss_one (ps_ret pe_bl)) pss_nil)))
  (pss_one (ps_ret pe_bl)))))))), rd_law h⟩)
theorem bi_law {f : Addr} {fd : FuncData} (F : Fun K "law" "law" s_law f fd) : Binds K fd ["script"] [] := F.binds fun _ _ _ _ _ _ us hl => match us, hl with | [_], _ => rfl

/-! ### the head: facts by names, the run -/
def d_height_over : He.DefD := ⟨("height_over", none), "height_over", "height_over", defArgs s_height_over, defBody s_height_over, defScope s_height_over, [], []⟩
def d_heights : He.DefD := ⟨("heights", none), "heights", "heights", defArgs s_heights, defBody s_heights, defScope s_heights, [], []⟩
def d_lowest_too_high : He.DefD := ⟨("_lowest_too_high", none), "_lowest_too_high", "_lowest_too_high", defArgs s_lowest_too_high, defBody s_lowest_too_high, defScope s_lowest_too_high, [], []⟩
def d_attack_row : He.DefD := ⟨("attack_row", none), "attack_row", "attack_row", defArgs s_attack_row, defBody s_attack_row, defScope s_attack_row, [], []⟩
def d_law_is_integer : He.DefD := ⟨("_law_is_integer", none), "_law_is_integer", "_law_is_integer", defArgs s_law_is_integer, defBody s_law_is_integer, defScope s_law_is_integer, [], []⟩
def d_law_bag : He.DefD := ⟨("_law_bag", none), "_law_bag", "_law_bag", defArgs s_law_bag, defBody s_law_bag, defScope s_law_bag, [], []⟩
def d_law_take : He.DefD := ⟨("_law_take", none), "_law_take", "_law_take", defArgs s_law_take, defBody s_law_take, defScope s_law_take, [], []⟩
def d_law_copies : He.DefD := ⟨("_law_copies", none), "_law_copies", "_law_copies", defArgs s_law_copies, defBody s_law_copies, defScope s_law_copies, [], []⟩
def d_law_page : He.DefD := ⟨("_law_page", none), "_law_page", "_law_page", defArgs s_law_page, defBody s_law_page, defScope s_law_page, [], []⟩
def d_law_pages : He.DefD := ⟨("_law_pages", none), "_law_pages", "_law_pages", defArgs s_law_pages, defBody s_law_pages, defScope s_law_pages, [], []⟩
def d_law_chain : He.DefD := ⟨("_law_chain", none), "_law_chain", "_law_chain", defArgs s_law_chain, defBody s_law_chain, defScope s_law_chain, [], []⟩
def d_law_has_stretch : He.DefD := ⟨("_law_has_stretch", none), "_law_has_stretch", "_law_has_stretch", defArgs s_law_has_stretch, defBody s_law_has_stretch, defScope s_law_has_stretch, [], []⟩
def d_law_reads : He.DefD := ⟨("_law_reads", none), "_law_reads", "_law_reads", defArgs s_law_reads, defBody s_law_reads, defScope s_law_reads, [], []⟩
def d_law_closed : He.DefD := ⟨("_law_closed", none), "_law_closed", "_law_closed", defArgs s_law_closed, defBody s_law_closed, defScope s_law_closed, [], []⟩
def d_law_after : He.DefD := ⟨("_law_after", none), "_law_after", "_law_after", defArgs s_law_after, defBody s_law_after, defScope s_law_after, [], []⟩
def d_law_wins : He.DefD := ⟨("_law_wins", none), "_law_wins", "_law_wins", defArgs s_law_wins, defBody s_law_wins, defScope s_law_wins, [], []⟩
def d_law_wins_always : He.DefD := ⟨("_law_wins_always", none), "_law_wins_always", "_law_wins_always", defArgs s_law_wins_always, defBody s_law_wins_always, defScope s_law_wins_always, [], []⟩
def d_law_fits : He.DefD := ⟨("_law_fits", none), "_law_fits", "_law_fits", defArgs s_law_fits, defBody s_law_fits, defScope s_law_fits, [], []⟩
def d_law : He.DefD := ⟨("law", none), "law", "law", defArgs s_law, defBody s_law, defScope s_law, [], []⟩
def fnS : List He.DefD := [d_height_over, d_heights, d_lowest_too_high, d_attack_row, d_law_is_integer, d_law_bag, d_law_take, d_law_copies, d_law_page, d_law_pages, d_law_chain, d_law_has_stretch, d_law_reads, d_law_closed, d_law_after, d_law_wins, d_law_wins_always, d_law_fits, d_law]
def fa0 : List He.Fa := [.glo "height_over", .glo "heights", .glo "_lowest_too_high", .glo "attack_row", .glo "_law_is_integer", .glo "_law_bag", .glo "_law_take", .glo "_law_copies", .glo "_law_page", .glo "_law_pages", .glo "_law_chain", .glo "_law_has_stretch", .glo "_law_reads", .glo "_law_closed", .glo "_law_after", .glo "_law_wins", .glo "_law_wins_always", .glo "_law_fits", .glo "law", .free "abs", .free "all", .free "any", .free "bool", .free "enumerate", .free "int", .free "isinstance", .free "len", .free "list", .free "max", .free "min"]
def fa1 : List He.Fa := [.free "range", .free "reversed"]
def faS : List He.Fa := fa0 ++ fa1
def looseS : List PySem.Str := (["height_over", "heights", "_lowest_too_high", "attack_row", "_law_is_integer", "_law_bag", "_law_take", "_law_copies", "_law_page", "_law_pages", "_law_chain", "_law_has_stretch", "_law_reads", "_law_closed", "_law_after", "_law_wins", "_law_wins_always", "_law_fits"] : List PySem.Str)
abbrev RowS : PySem.W.OpenRow := PySem.W.OpenLaw.row PySem.Challenge.rw_onecopy_k27_whole_attack
abbrev hkS : PySem.W.Hook := He.hookD 4 faS fnS
def obS (s : PySem.W.SharedT) : He.AlD := He.obsDG 4 faS fnS (HandSHeadRun.getT s)
theorem obS_eq (s : PySem.W.SharedT) : obS s = hkS.obs s.abs := He.obsDG_eq (HandSHeadRun.getT_eq s)
theorem runS (w : World) : HandSHeadRun.RunEq RowS (PySem.W.view RowS.prog [21]) hkS obS 6000 looseS w := by
  intro os
  kernel_rfl
theorem factsS {P : Program} {w : World} {K : PySem.W.Frag} {h : Heap} {mg : Str → Option Value} {fa : Addr} (X : K.In h) (GN : h.Ns mainGlobals mg) (hfa : mg ("law" : Str) = some (.ref fa)) (c : He.SaysD faS fnS K) :
    ∃ fd : FuncData, (∀ (s : Shared) (v : Value), BindsTo s fd ⟨[v], []⟩ [("script", v)]) ∧ ∀ base : Heap, K.In base → base.Ns mainGlobals mg → FnOk P w K mg base CX0 6 fa fd ["script"] (sp_law K ⟨⟩) := by
  have T : Txt mg := ⟨He.free_ok X GN (c.fact 19 (f := .free "abs") rfl), He.free_ok X GN (c.fact 20 (f := .free "all") rfl), He.free_ok X GN (c.fact 21 (f := .free "any") rfl), He.free_ok X GN (c.fact 22 (f := .free "bool") rfl), He.free_ok X GN (c.fact 23 (f := .free "enumerate") rfl), He.free_ok X GN (c.fact 24 (f := .free "int") rfl), He.free_ok X GN (c.fact 25 (f := .free "isinstance") rfl), He.free_ok X GN (c.fact 26 (f := .free "len") rfl), He.free_ok X GN (c.fact 27 (f := .free "list") rfl), He.free_ok X GN (c.fact 28 (f := .free "max") rfl), He.free_ok X GN (c.fact 29 (f := .free "min") rfl), He.free_ok X GN (c.fact 30 (f := .free "range") rfl), He.free_ok X GN (c.fact 31 (f := .free "reversed") rfl)⟩
  have C : CT K ⟨⟩ := ⟨⟩
  have e := hfa.symm.trans (He.glo_ok X GN (c.fact 18 (f := .glo "law") rfl))
  cases e
  obtain ⟨fd0, D0⟩ := c.def_ 0 (d := d_height_over) rfl
  have F0 := He5.fun_of (st := s_height_over) D0
  obtain ⟨fd1, D1⟩ := c.def_ 1 (d := d_heights) rfl
  have F1 := He5.fun_of (st := s_heights) D1
  obtain ⟨fd2, D2⟩ := c.def_ 2 (d := d_lowest_too_high) rfl
  have F2 := He5.fun_of (st := s_lowest_too_high) D2
  obtain ⟨fd3, D3⟩ := c.def_ 3 (d := d_attack_row) rfl
  have F3 := He5.fun_of (st := s_attack_row) D3
  obtain ⟨fd4, D4⟩ := c.def_ 4 (d := d_law_is_integer) rfl
  have F4 := He5.fun_of (st := s_law_is_integer) D4
  obtain ⟨fd5, D5⟩ := c.def_ 5 (d := d_law_bag) rfl
  have F5 := He5.fun_of (st := s_law_bag) D5
  obtain ⟨fd6, D6⟩ := c.def_ 6 (d := d_law_take) rfl
  have F6 := He5.fun_of (st := s_law_take) D6
  obtain ⟨fd7, D7⟩ := c.def_ 7 (d := d_law_copies) rfl
  have F7 := He5.fun_of (st := s_law_copies) D7
  obtain ⟨fd8, D8⟩ := c.def_ 8 (d := d_law_page) rfl
  have F8 := He5.fun_of (st := s_law_page) D8
  obtain ⟨fd9, D9⟩ := c.def_ 9 (d := d_law_pages) rfl
  have F9 := He5.fun_of (st := s_law_pages) D9
  obtain ⟨fd10, D10⟩ := c.def_ 10 (d := d_law_chain) rfl
  have F10 := He5.fun_of (st := s_law_chain) D10
  obtain ⟨fd11, D11⟩ := c.def_ 11 (d := d_law_has_stretch) rfl
  have F11 := He5.fun_of (st := s_law_has_stretch) D11
  obtain ⟨fd12, D12⟩ := c.def_ 12 (d := d_law_reads) rfl
  have F12 := He5.fun_of (st := s_law_reads) D12
  obtain ⟨fd13, D13⟩ := c.def_ 13 (d := d_law_closed) rfl
  have F13 := He5.fun_of (st := s_law_closed) D13
  obtain ⟨fd14, D14⟩ := c.def_ 14 (d := d_law_after) rfl
  have F14 := He5.fun_of (st := s_law_after) D14
  obtain ⟨fd15, D15⟩ := c.def_ 15 (d := d_law_wins) rfl
  have F15 := He5.fun_of (st := s_law_wins) D15
  obtain ⟨fd16, D16⟩ := c.def_ 16 (d := d_law_wins_always) rfl
  have F16 := He5.fun_of (st := s_law_wins_always) D16
  obtain ⟨fd17, D17⟩ := c.def_ 17 (d := d_law_fits) rfl
  have F17 := He5.fun_of (st := s_law_fits) D17
  obtain ⟨fd18, D18⟩ := c.def_ 18 (d := d_law) rfl
  have F18 := He5.fun_of (st := s_law) D18
  have b := FunD.bindsA (ps := ["script"]) D18 fun _ _ _ _ _ _ us hl => match us, hl with | [_], _ => rfl
  refine ⟨fd18, fun s v => b s [v] rfl, fun base _ _ => ?_⟩
  have C_height_over : C8.Cal P w K mg base 1 "height_over" (sp_height_over K ⟨⟩) [] := ⟨_, _, _, [], fn_height_over F0 T C , He.glo_ok X GN (c.fact 0 (f := .glo "height_over") rfl), F0.kp, bi_height_over F0, .nil⟩
  have C_heights : C8.Cal P w K mg base 2 "heights" (sp_heights K ⟨⟩) [] := ⟨_, _, _, [], fn_heights F1 T C C_height_over, He.glo_ok X GN (c.fact 1 (f := .glo "heights") rfl), F1.kp, bi_heights F1, .nil⟩
  have C_lowest_too_high : C8.Cal P w K mg base 3 "_lowest_too_high" (sp_lowest_too_high K ⟨⟩) [] := ⟨_, _, _, [], fn_lowest_too_high F2 T C C_heights, He.glo_ok X GN (c.fact 2 (f := .glo "_lowest_too_high") rfl), F2.kp, bi_lowest_too_high F2, .nil⟩
  have C_attack_row : C8.Cal P w K mg base 4 "attack_row" (sp_attack_row K ⟨⟩) [] := ⟨_, _, _, [], fn_attack_row F3 T C C_lowest_too_high, He.glo_ok X GN (c.fact 3 (f := .glo "attack_row") rfl), F3.kp, bi_attack_row F3, .nil⟩
  have C_law_is_integer : C8.Cal P w K mg base 1 "_law_is_integer" (sp_law_is_integer K ⟨⟩) [] := ⟨_, _, _, [], fn_law_is_integer F4 T C , He.glo_ok X GN (c.fact 4 (f := .glo "_law_is_integer") rfl), F4.kp, bi_law_is_integer F4, .nil⟩
  have C_law_bag : C8.Cal P w K mg base 1 "_law_bag" (sp_law_bag K ⟨⟩) [] := ⟨_, _, _, [], fn_law_bag F5 T C , He.glo_ok X GN (c.fact 5 (f := .glo "_law_bag") rfl), F5.kp, bi_law_bag F5, .nil⟩
  have C_law_take : C8.Cal P w K mg base 1 "_law_take" (sp_law_take K ⟨⟩) [] := ⟨_, _, _, [], fn_law_take F6 T C , He.glo_ok X GN (c.fact 6 (f := .glo "_law_take") rfl), F6.kp, bi_law_take F6, .nil⟩
  have C_law_copies : C8.Cal P w K mg base 2 "_law_copies" (sp_law_copies K ⟨⟩) [] := ⟨_, _, _, [], fn_law_copies F7 T C C_law_take, He.glo_ok X GN (c.fact 7 (f := .glo "_law_copies") rfl), F7.kp, bi_law_copies F7, .nil⟩
  have C_law_page : C8.Cal P w K mg base 2 "_law_page" (sp_law_page K ⟨⟩) [] := ⟨_, _, _, [], fn_law_page F8 T C C_law_take, He.glo_ok X GN (c.fact 8 (f := .glo "_law_page") rfl), F8.kp, bi_law_page F8, .nil⟩
  have C_law_pages : C8.Cal P w K mg base 3 "_law_pages" (sp_law_pages K ⟨⟩) [] := ⟨_, _, _, [], fn_law_pages F9 T C C_law_page, He.glo_ok X GN (c.fact 9 (f := .glo "_law_pages") rfl), F9.kp, bi_law_pages F9, .nil⟩
  have C_law_chain : C8.Cal P w K mg base 4 "_law_chain" (sp_law_chain K ⟨⟩) [] := ⟨_, _, _, [], fn_law_chain F10 T C C_law_page C_law_pages C_law_take, He.glo_ok X GN (c.fact 10 (f := .glo "_law_chain") rfl), F10.kp, bi_law_chain F10, .nil⟩
  have C_law_has_stretch : C8.Cal P w K mg base 1 "_law_has_stretch" (sp_law_has_stretch K ⟨⟩) [] := ⟨_, _, _, [], fn_law_has_stretch F11 T C , He.glo_ok X GN (c.fact 11 (f := .glo "_law_has_stretch") rfl), F11.kp, bi_law_has_stretch F11, .nil⟩
  have C_law_reads : C8.Cal P w K mg base 2 "_law_reads" (sp_law_reads K ⟨⟩) [] := ⟨_, _, _, [], fn_law_reads F12 T C C_law_is_integer, He.glo_ok X GN (c.fact 12 (f := .glo "_law_reads") rfl), F12.kp, bi_law_reads F12, .nil⟩
  have C_law_closed : C8.Cal P w K mg base 1 "_law_closed" (sp_law_closed K ⟨⟩) [] := ⟨_, _, _, [], fn_law_closed F13 T C , He.glo_ok X GN (c.fact 13 (f := .glo "_law_closed") rfl), F13.kp, bi_law_closed F13, .nil⟩
  have C_law_after : C8.Cal P w K mg base 1 "_law_after" (sp_law_after K ⟨⟩) [] := ⟨_, _, _, [], fn_law_after F14 T C , He.glo_ok X GN (c.fact 14 (f := .glo "_law_after") rfl), F14.kp, bi_law_after F14, .nil⟩
  have C_law_wins : C8.Cal P w K mg base 2 "_law_wins" (sp_law_wins K ⟨⟩) [] := ⟨_, _, _, [], fn_law_wins F15 T C C_law_after C_law_closed C_law_take, He.glo_ok X GN (c.fact 15 (f := .glo "_law_wins") rfl), F15.kp, bi_law_wins F15, .nil⟩
  have C_law_wins_always : C8.Cal P w K mg base 2 "_law_wins_always" (sp_law_wins_always K ⟨⟩) [] := ⟨_, _, _, [], fn_law_wins_always F16 T C C_law_after C_law_closed, He.glo_ok X GN (c.fact 16 (f := .glo "_law_wins_always") rfl), F16.kp, bi_law_wins_always F16, .nil⟩
  have C_law_fits : C8.Cal P w K mg base 5 "_law_fits" (sp_law_fits K ⟨⟩) [] := ⟨_, _, _, [], fn_law_fits F17 T C C_law_has_stretch C_law_reads C_law_wins C_law_wins_always C_attack_row, He.glo_ok X GN (c.fact 17 (f := .glo "_law_fits") rfl), F17.kp, bi_law_fits F17, .nil⟩
  exact fn_law F18 T C C_law_bag C_law_chain C_law_copies C_law_fits C_law_take
end G

open PySem PySem.W PySem.Calls PyProof.Rows in
set_option maxRecDepth 100000 in
set_option maxHeartbeats 0 in
theorem PySem.Challenge.cw_onecopy_k27_whole_attack_holds : PySem.Challenge.rw_onecopy_k27_whole_attack.Holds := by
  w_on; o_law
  refine HandSHeadRun.head_any (r := OpenLaw.row PySem.Challenge.rw_onecopy_k27_whole_attack) (q := view (OpenLaw.row PySem.Challenge.rw_onecopy_k27_whole_attack).prog [21]) (H := G.hkS) (ob := G.obS) (M := 6000) (loose := G.looseS) (d := HandSHeadRun.topDef (OpenLaw.row PySem.Challenge.rw_onecopy_k27_whole_attack).prog 21) (kwd := []) G.obS_eq
    (by kernel_rfl) (fun s => by kernel_rfl) G.runS (by kernel_rfl) (by kernel_rfl) (by kernel_rfl) (by rfl) (by first | assumption | decide +kernel) (by decide +kernel) ⟨rfl, rfl, rfl, rfl, rfl, by decide +kernel⟩ ?hw ?hc
  case hw => w_witness2
  case hc =>
    refine L2.walk_ofE (l := PySem.Challenge.rw_onecopy_k27_whole_attack) (n := 63) (k := 6) (x := "script") (CX := L2.CX0) rfl (by decide) (by kernel_rfl) ⟨rfl, by decide, by decide⟩ ?F (fun _ _ _ _ z => z)
    intro w mg fa h Y GN hmg0
    obtain ⟨K, KX, c⟩ := Y
    have hmg : mg ("law" : PySem.Str) = some (.ref fa) := by
      have e : (HandSHeadRun.topDef (OpenLaw.row PySem.Challenge.rw_onecopy_k27_whole_attack).prog 21).name = ("law" : PySem.Str) := by kernel_rfl
      rw [← e]
      exact hmg0
    obtain ⟨fd, hb, hF⟩ := G.factsS (P := (PySem.Challenge.rw_onecopy_k27_whole_attack).prog) (w := w) KX GN hmg c
    exact ⟨K, fd, G.sp_law K _, KX, hb, fun H a ns hl _ hS => ⟨a, ns, rfl, hS, hl, fun _ => rfl⟩, hF⟩