import PyProof.Rows.All
import Wide.All
import OpenK.AllK
import Wide.FinOn
import HandS.ForMost
import HandS.Flow
import HandS.IsInst
import HandS.StrMore
import HandS.Style
import HandS.WordsExc
import HandS.EndBits
import HandS.Evl
import PySem.Challenge.RW_whomaywhat_k01_words_and_numbers
set_option Elab.async false
set_option linter.all false
set_option maxRecDepth 100000
set_option maxHeartbeats 4000000
namespace My
open PySem PySem.Spec PyProof.Rows L2

/-! ### calls of the text's own defs, in one word -/
/-- the def named x stands at module level and keeps its promise -/
structure Cal (P : Program) (w : World) (K : PySem.W.Frag) (mg : Str → Option Value) (base : Heap) (k : Nat) (x : Str) (ps : List Str) (sp : Sp) : Prop where
  ex : ∃ (f : Addr) (fd : FuncData), FnOk P w K mg base CX0 k f fd ps sp ∧ mg x = some (.ref f) ∧ PySem.W.keepIn K (.ref f) = true ∧ Binds K fd ps []
section
variable {X : Cx} {k j : Nat} {x : Str} {ps : List Str} {sp : Sp} {p pos : Pos} {e : Expr} {es : List Expr} {t : TA}
theorem pe_cal (c : Cal X.prog X.w X.K X.mg X.base k x ps sp) (hr : Room j X.A) (ha : PA X (e :: es) t) (hk : k ≤ j := by decide) (hg : Gl X x := by rfl) (hdb : (x == ("__debug__" : Str)) = false := by decide)
    (he : starEach (e :: es) X.env = (false, eval e X.env) :: starEach es X.env := by rfl) (hpl : (backTo pos (starEach es X.env)).any (·.1) = false := by rfl) : PE X (.Call (.Name x p) (e :: es) [] pos) (tCall sp [] E0 t) := by
  obtain ⟨f, fd, F, hm, kp, b⟩ := c.ex
  exact pe_call F (hr.mono hk) hg hm kp b .nil pass0 ha hdb he hpl
theorem pe_cal0 (c : Cal X.prog X.w X.K X.mg X.base k x ps sp) (hr : Room j X.A) (hk : k ≤ j := by decide) (hg : Gl X x := by rfl) (hdb : (x == ("__debug__" : Str)) = false := by decide) : PE X (.Call (.Name x p) [] [] pos) (tCall sp [] E0 tNil) := by
  obtain ⟨f, fd, F, hm, kp, b⟩ := c.ex
  exact pe_call0 F (hr.mono hk) hg hm kp b .nil pass0 hdb
end
/-- what the head tells of one def -/
structure DefAt (K : PySem.W.Frag) (mg : Str → Option Value) (x : Str) (st : Stmt) (ps : List Str) : Prop where
  ex : ∃ (f : Addr) (fd : FuncData), Fun K x x st f fd ∧ mg x = some (.ref f) ∧ Binds K fd ps []
theorem DefAt.cal {P : Program} {w : World} {K : PySem.W.Frag} {mg : Str → Option Value} {base : Heap} {k : Nat} {x : Str} {st : Stmt} {ps : List Str} {sp : Sp} (D : DefAt K mg x st ps)
    (h : ∀ (f : Addr) (fd : FuncData), Fun K x x st f fd → FnOk P w K mg base CX0 k f fd ps sp) : Cal P w K mg base k x ps sp := by
  obtain ⟨f, fd, F, hm, b⟩ := D.ex
  exact ⟨f, fd, h f fd F, hm, F.kp, b⟩

/-! ### heaps -/
theorem Same.new {H : Hp} {p : Addr} {o : HO} (h : H p = none) : Same H (upd H p o) := fun a u e => by
  rw [upd_ne (ne_of_none e h)]
  exact e
theorem Same.tup {K : PySem.W.Frag} {H H' : Hp} {a : Addr} {xs : List V} (e : Same H H') (h : SqT K H a xs) : SqT K H' a xs := by
  rcases h with (h | ⟨o, h⟩) | h
  · exact .inl (.inl (e _ _ h))
  · exact .inl (.inr ⟨o, e _ _ h⟩)
  · exact .inr h
/-- the draws at d: a list of ints -/
def Dr (d : Addr) (H : Hp) : Prop := ∃ ds : List Int, H d = some (.lst (ds.map V.int))
/-- from H to H' the draws alone may have changed; they are draws still -/
structure Go (d : Addr) (H H' : Hp) : Prop where
  fr : ∀ a o, a ≠ d → H a = some o → H' a = some o
  dr : Dr d H'
section
variable {d a p : Addr} {H H1 H2 H' : Hp} {xs : List V} {K : PySem.W.Frag}
theorem Go.refl (h : Dr d H) : Go d H H := ⟨fun _ _ _ e => e, h⟩
theorem Go.trans (x : Go d H H1) (y : Go d H1 H2) : Go d H H2 := ⟨fun a o n e => y.fr a o n (x.fr a o n e), y.dr⟩
theorem Go.same (x : Go d H H1) (y : Same H1 H2) : Go d H H2 := ⟨fun a o n e => y a o (x.fr a o n e), let ⟨ds, e⟩ := x.dr; ⟨ds, y d _ e⟩⟩
theorem Go.new {o : HO} (x : Go d H H1) (h : H1 p = none) : Go d H (upd H1 p o) := x.same (Same.new h)
theorem Go.ne (x : Dr d H) (h : H p = none) : p ≠ d := fun e => by
  obtain ⟨ds, q⟩ := x
  rw [e, q] at h
  cases h
theorem Go.sq (x : Go d H H') (n : a ≠ d) (h : SqL K H a xs) : SqL K H' a xs := by
  rcases h with (h | ⟨o, h⟩) | h
  · exact .inl (.inl (x.fr _ _ n h))
  · exact .inl (.inr ⟨o, x.fr _ _ n h⟩)
  · exact .inr h
end

/-! ### the readings, opened one step at a time -/
section
variable {K : PySem.W.Frag} {σ : L2.St} {H H' : Hp} {ta tb te tx to ti tl : TE} {t u tc : TT} {D : Ends} {t1 t2 tu : TS} {g : TG} {gs : TGs} {Q : VK} {QB : Bool → Hp → Prop} {QA : List V → Hp → Prop} {QS : L2.St → Hp → Prop}
  {r : R2} {x y v : V} {i j : Nat} {tr : TA} {QO : Option Int → Hp → Prop}
theorem w_var : tVar i σ H Q = ∃ v, σ[i]? = some (some v) ∧ Q v H := rfl
theorem w_c : tC v σ H Q = Q v H := rfl
theorem w_seq : tSeq t1 t2 D σ H = t1 { D with nx := t2 D } σ H := rfl
theorem w_next : tNext D σ H = D.nx σ H := rfl
theorem w_break : tBreak D σ H = D.bk σ H := rfl
theorem w_cont : tCont D σ H = D.ct σ H := rfl
theorem w_drop : tDrop te D σ H = te σ H fun _ H1 => D.nx σ H1 := rfl
theorem w_ret : tRet te D σ H = te σ H D.rt := rfl
theorem w_retN : tRetN D σ H = D.rt .non H := rfl
theorem w_ifs : tIfS tc t1 t2 D σ H = tc σ H fun b H1 => if b = true then t1 D σ H1 else t2 D σ H1 := rfl
theorem w_asg : tAsg te g D σ H = te σ H fun x H1 => g x σ H1 D.nx := rfl
theorem w_name : gName i v σ H QS = QS (σ.set i (some v)) H := rfl
theorem w_gnil {vs : List V} : gNil vs σ H QS = (vs = [] ∧ QS σ H) := rfl
theorem w_gcons {vs : List V} : gCons g gs vs σ H QS = ∃ v r, vs = v :: r ∧ g v σ H fun σ' H' => gs r σ' H' QS := rfl
theorem w_gtup {n : Nat} : gTup K n gs v σ H QS = ∃ a xs, v = .ref a ∧ SqT K H a xs ∧ xs.length = n ∧ gs xs σ H QS := rfl
theorem w_gsub {st : TSet} : gSub to ti st v σ H QS = to σ H fun o H1 => ti σ H1 fun i H2 => st o i v H2 fun H3 => QS σ H3 := rfl
theorem w_aug {tip : TIp} : tAug i te tip D σ H = ∃ x, σ[i]? = some (some x) ∧ te σ H fun y H1 => tip x y H1 fun z H2 => D.nx (σ.set i (some z)) H2 := rfl
theorem w_ipI {f : Int → Int → Int} : ipI f x y H Q = ∃ i j, x = .int i ∧ y = .int j ∧ Q (.int (f i j)) H := rfl
theorem w_op : tOp r ta tb σ H Q = ta σ H fun x H1 => tb σ H1 fun y H2 => r x y H2 Q := rfl
theorem w_un {r : V → Hp → VK → Prop} : tUn r ta σ H Q = ta σ H fun x H1 => r x H1 Q := rfl
theorem w_cb {r : List V → Hp → VK → Prop} : tCB r tr σ H Q = tr σ H fun vs H1 => r vs H1 Q := rfl
theorem w_cons : tCons ta tr σ H QA = ta σ H fun x H1 => tr σ H1 fun xs H2 => QA (x :: xs) H2 := rfl
theorem w_nil : tNil σ H QA = QA [] H := rfl
theorem w_tup : tTup tr σ H Q = tr σ H fun xs H1 => xs.length ≤ sizeLine ∧ ∀ p, H1 p = none → Q (.ref p) (upd H1 p (.tup xs)) := rfl
theorem w_lst : tLst tr σ H Q = tr σ H fun xs H1 => xs.length ≤ sizeLine ∧ ∀ p, H1 p = none → Q (.ref p) (upd H1 p (.lst xs)) := rfl
theorem w_test : tTest te σ H QB = te σ H fun x H1 => ∃ k, x = .bl k ∧ QB k H1 := rfl
theorem w_B : tB te σ H QB = te σ H fun x H1 => ∃ k, x = .bl k ∧ QB k H1 := rfl
theorem w_and : tAnd t u σ H QB = t σ H fun c H1 => if c = true then u σ H1 QB else QB false H1 := rfl
theorem w_or : tOr t u σ H QB = t σ H fun c H1 => if c = true then QB true H1 else u σ H1 QB := rfl
theorem w_not : tNot t σ H QB = t σ H fun c H1 => QB (!c) H1 := rfl
theorem w_andV : tAndV ta tb σ H Q = ta σ H fun x H1 => ∃ c, x = .bl c ∧ if c = true then tb σ H1 Q else Q (.bl false) H1 := rfl
theorem w_orV : tOrV ta tb σ H Q = ta σ H fun x H1 => ∃ c, x = .bl c ∧ if c = true then Q (.bl true) H1 else tb σ H1 Q := rfl
theorem w_notV : tNotV ta σ H Q = ta σ H fun x H1 => ∃ c, x = .bl c ∧ Q (.bl (!c)) H1 := rfl
theorem w_if : tIf t ta tb σ H Q = t σ H fun c H1 => if c = true then ta σ H1 Q else tb σ H1 Q := rfl
theorem w_call {sp : Sp} {dvs : List V} {E : XK} : tCall sp dvs E tr σ H Q = tr σ H fun vs H1 => sp (vs ++ dvs) H1 Q E := rfl
theorem w_sl {rs : V → Option Int → Option Int → Hp → VK → Prop} {tlo thi : TO} : tSl rs te tlo thi σ H Q = te σ H fun x H1 => tlo σ H1 fun l H2 => thi σ H2 fun u H3 => rs x l u H3 Q := rfl
theorem w_part : tPart te σ H QO = te σ H fun x H1 => ∃ i, x = .int i ∧ QO (some i) H1 := rfl
theorem w_nopart : tNoPart σ H QO = QO none H := rfl
theorem w_bm0 {T : String} {rm : V → List V → Hp → VK → Prop} : tBM0 K T rm to σ H Q = to σ H fun x H1 => tyV K T x H1 ∧ rm x [] H1 Q := rfl
theorem w_bm {T : String} {rm : V → List V → Hp → VK → Prop} : tBM K T rm to tr σ H Q = to σ H fun x H1 => tyV K T x H1 ∧ tr σ H1 fun xs H2 => rm x xs H2 Q := rfl
theorem w_bms {T : String} {rm : L2.St → V → List V → Hp → VK → Prop} : tBMS K T rm to tr σ H Q = to σ H fun x H1 => tyV K T x H1 ∧ tr σ H1 fun xs H2 => rm σ x xs H2 Q := rfl
theorem w_m0 {rm : V → List V → Hp → VK → Prop} : tM0 rm to σ H Q = to σ H fun x H1 => (∃ a, x = .str a) ∧ rm x [] H1 Q := rfl
theorem w_m1 {rm : V → List V → Hp → VK → Prop} : tM1 rm to te σ H Q = to σ H fun x H1 => (∃ a, x = .str a) ∧ te σ H1 fun y H2 => rm x [y] H2 Q := rfl
theorem w_revL : tRevL K te σ H Q = te σ H fun x H1 => ∃ a xs, x = .ref a ∧ SqL K H1 a xs ∧ ∀ p, H1 p = none → Q (.ref p) (upd H1 p (.lst xs.reverse)) := rfl
theorem r_I {C : Int → Int → Prop} {f : Int → Int → V} : rI C f x y H Q = ∃ i j, x = .int i ∧ y = .int j ∧ C i j ∧ Q (f i j) H := rfl
theorem r_I0 {f : Int → Int → V} : rI0 f x y H Q = ∃ i j, x = .int i ∧ y = .int j ∧ Q (f i j) H := rfl
theorem r_U {f : Int → V} : rU f x H Q = ∃ i, x = .int i ∧ Q (f i) H := rfl
theorem r_eq : rEq x y H Q = (scal x y = true ∧ Q (.bl (decide (x = y))) H) := rfl
theorem r_ne : rNe x y H Q = (scal x y = true ∧ Q (.bl (!decide (x = y))) H) := rfl
theorem r_ixL : rIxL K x y H Q = ∃ p xs i v, x = .ref p ∧ y = .int i ∧ SqL K H p xs ∧ atI xs i = some v ∧ Q v H := rfl
theorem r_ixT : rIxT K x y H Q = ∃ p xs i v, x = .ref p ∧ y = .int i ∧ SqT K H p xs ∧ atI xs i = some v ∧ Q v H := rfl
theorem r_ixS : rIxS x y H Q = ∃ z i c, x = .str z ∧ y = .int i ∧ z.length ≤ sizeLine ∧ atI z.cps.toList i = some c ∧ Q (.str ⟨#[c]⟩) H := rfl
theorem r_slL {lo hi : Option Int} : rSlL K x lo hi H Q = ∃ a xs, x = .ref a ∧ SqL K H a xs ∧ ∀ p, H p = none → Q (.ref p) (upd H p (.lst (cutV xs lo hi))) := rfl
theorem r_slS {lo hi : Option Int} : rSlS x lo hi H Q = ∃ z, x = .str z ∧ z.length ≤ sizeLine ∧ Q (.str (cutS z lo hi)) H := rfl
theorem r_in {neg : Bool} : rIn K neg x y H Q = ∃ p xs, y = .ref p ∧ (SqL K H p xs ∨ SqT K H p xs) ∧ flatV x = true ∧ xs.all flatV = true ∧ Q (.bl (if neg then !inV x xs else inV x xs)) H := rfl
theorem r_app {vs : List V} : rAppend x vs H Q = ∃ l xs y, x = .ref l ∧ vs = [y] ∧ H l = some (.lst xs) ∧ xs.length < sizeLine ∧ Q .non (upd H l (.lst (xs ++ [y]))) := rfl
theorem r_pop {vs : List V} : rPop x vs H Q = ∃ l xs y, x = .ref l ∧ vs = [] ∧ H l = some (.lst xs) ∧ xs[xs.length - 1]? = some y ∧ Q y (upd H l (.lst xs.dropLast)) := rfl
theorem r_rev {vs : List V} : rReverse x vs H Q = ∃ l xs, x = .ref l ∧ vs = [] ∧ H l = some (.lst xs) ∧ Q .non (upd H l (.lst xs.reverse)) := rfl
theorem r_setL {o i v : V} {QH : Hp → Prop} : rSetL o i v H QH = ∃ p xs k j, o = .ref p ∧ i = .int k ∧ H p = some (.lst xs) ∧ ixN xs.length k = some j ∧ QH (upd H p (.lst (xs.set j v))) := rfl
theorem r_index {W : WX} {vs : List V} : rIndexX W σ x vs H Q = ∃ (a b : Str), x = .str a ∧ vs = [.str b] ∧ (∀ k, Txt.index0 a b = some k → Q (.int (k : Nat)) H) ∧ (Txt.index0 a b = none → ∀ d, W (.type "ValueError") d σ H) := rfl
theorem r_isi {vs : List V} : rIsi K vs H Q = ∃ (x c : V) (t u : Value) (b : Bool), vs = [x, c] ∧ ClsV c u ∧ TyX K H x t ∧ PySem.W.kitOne K t u = some b ∧ Q (.bl b) H := rfl
end
/-! ### loops, shut until their invariant is told -/
def LpR (lo : Int) (n : Nat) (g : TG) (tb : TS) (D : Ends) (σ : L2.St) (H : Hp) : Prop := ∃ W : Nat → Nat → L2.St → Hp → Prop, (∃ m, W 0 m σ H) ∧ ∀ i m σ H, W i m σ H →
      ((Itr lo n).stop i H ∧ D.nx σ H) ∨ ((Itr lo n).go i H ∧ ∃ N : L2.St → Hp → Prop, (∀ σ' H', N σ' H' → ∃ m', m' < m ∧ W (i + 1) m' σ' H') ∧ ∀ x H', (Itr lo n).yld i H x H' → g x σ H' fun σ2 H2 => tb { D with nx := N, ct := N, bk := D.nx } σ2 H2)
def LpL (K : PySem.W.Frag) (a : Addr) (g : TG) (tb : TS) (D : Ends) (σ : L2.St) (H : Hp) : Prop := ∃ W : Nat → Nat → L2.St → Hp → Prop, (∃ m, W 0 m σ H) ∧ ∀ i m σ H, W i m σ H →
      ((Itl K a).stop i H ∧ D.nx σ H) ∨ ((Itl K a).go i H ∧ ∃ N : L2.St → Hp → Prop, (∀ σ' H', N σ' H' → ∃ m', m' < m ∧ W (i + 1) m' σ' H') ∧ ∀ x H', (Itl K a).yld i H x H' → g x σ H' fun σ2 H2 => tb { D with nx := N, ct := N, bk := D.nx } σ2 H2)
def LpT (K : PySem.W.Frag) (a : Addr) (g : TG) (tb : TS) (D : Ends) (σ : L2.St) (H : Hp) : Prop := ∃ W : Nat → Nat → L2.St → Hp → Prop, (∃ m, W 0 m σ H) ∧ ∀ i m σ H, W i m σ H →
      ((Itt K a).stop i H ∧ D.nx σ H) ∨ ((Itt K a).go i H ∧ ∃ N : L2.St → Hp → Prop, (∀ σ' H', N σ' H' → ∃ m', m' < m ∧ W (i + 1) m' σ' H') ∧ ∀ x H', (Itt K a).yld i H x H' → g x σ H' fun σ2 H2 => tb { D with nx := N, ct := N, bk := D.nx } σ2 H2)
def LpS (z : Str) (g : TG) (tb : TS) (D : Ends) (σ : L2.St) (H : Hp) : Prop := ∃ W : Nat → Nat → L2.St → Hp → Prop, (∃ m, W 0 m σ H) ∧ ∀ i m σ H, W i m σ H →
      ((Its z).stop i H ∧ D.nx σ H) ∨ ((Its z).go i H ∧ ∃ N : L2.St → Hp → Prop, (∀ σ' H', N σ' H' → ∃ m', m' < m ∧ W (i + 1) m' σ' H') ∧ ∀ x H', (Its z).yld i H x H' → g x σ H' fun σ2 H2 => tb { D with nx := N, ct := N, bk := D.nx } σ2 H2)
section
variable {K : PySem.W.Frag} {σ : L2.St} {H : Hp} {te : TE} {ta : TA} {g : TG} {tb : TS} {D : Ends} {a : Addr} {xs : List V} {z : Str} {lo : Int} {n : Nat}
theorem l_R1 : tFor (iRng1 ta) g tb D σ H = ta σ H fun vs H1 => ∃ j : Int, vs = [.int j] ∧ -(2 ^ 62) ≤ j ∧ j < 2 ^ 62 ∧ LpR 0 j.toNat g tb D σ H1 := rfl
theorem l_R2 : tFor (iRng2 ta) g tb D σ H = ta σ H fun vs H1 => ∃ i j : Int, vs = [.int i, .int j] ∧ (-(2 ^ 62) ≤ i ∧ i < 2 ^ 62 ∧ -(2 ^ 62) ≤ j ∧ j < 2 ^ 62) ∧ LpR i (j - i).toNat g tb D σ H1 := rfl
theorem l_L : tFor (iList K te) g tb D σ H = te σ H fun x H1 => ∃ a, x = .ref a ∧ (∃ xs, SqL K H1 a xs) ∧ LpL K a g tb D σ H1 := rfl
theorem l_T : tFor (iTup K te) g tb D σ H = te σ H fun x H1 => ∃ a, x = .ref a ∧ (∃ xs, SqT K H1 a xs) ∧ LpT K a g tb D σ H1 := rfl
theorem l_S : tFor (iStr te) g tb D σ H = te σ H fun v H1 => ∃ x, v = .str x ∧ LpS x g tb D σ H1 := rfl
theorem LpR.by (Pv : Nat → L2.St → Hp → Prop) (h0 : Pv 0 σ H) (hs : ∀ i σ H, i < n → Pv i σ H → g (.int (lo + i)) σ H fun σ2 H2 => tb { D with nx := Pv (i + 1), ct := Pv (i + 1), bk := D.nx } σ2 H2) (hd : ∀ σ H, Pv n σ H → D.nx σ H) : LpR lo n g tb D σ H := for_range Pv h0 hs hd
theorem LpL.by (xs : List V) (Pv : Nat → L2.St → Hp → Prop) (h0 : Pv 0 σ H) (hl : ∀ i σ H, i ≤ xs.length → Pv i σ H → SqL K H a xs)
    (hs : ∀ i x σ H, xs[i]? = some x → Pv i σ H → g x σ H fun σ2 H2 => tb { D with nx := Pv (i + 1), ct := Pv (i + 1), bk := D.nx } σ2 H2) (hd : ∀ σ H, Pv xs.length σ H → D.nx σ H) : LpL K a g tb D σ H := for_list Pv h0 hl hs hd
theorem LpT.by (xs : List V) (Pv : Nat → L2.St → Hp → Prop) (h0 : Pv 0 σ H) (hl : ∀ i σ H, i ≤ xs.length → Pv i σ H → SqT K H a xs)
    (hs : ∀ i x σ H, xs[i]? = some x → Pv i σ H → g x σ H fun σ2 H2 => tb { D with nx := Pv (i + 1), ct := Pv (i + 1), bk := D.nx } σ2 H2) (hd : ∀ σ H, Pv xs.length σ H → D.nx σ H) : LpT K a g tb D σ H := for_tup Pv h0 hl hs hd
theorem LpS.by (Pv : Nat → L2.St → Hp → Prop) (h0 : Pv 0 σ H) (hs : ∀ i c σ H, z.cps.toList[i]? = some c → Pv i σ H → g (.str ⟨#[c]⟩) σ H fun σ2 H2 => tb { D with nx := Pv (i + 1), ct := Pv (i + 1), bk := D.nx } σ2 H2)
    (hd : ∀ σ H, Pv z.cps.toList.length σ H → D.nx σ H) : LpS z g tb D σ H := by
  refine ⟨fun i m σ H => m = z.cps.size - i ∧ i ≤ z.cps.size ∧ Pv i σ H, ⟨z.cps.size, by simp, Nat.zero_le _, h0⟩, ?_⟩
  rintro i m σ H ⟨rfl, hi, p⟩
  by_cases hlt : i < z.cps.size
  · refine .inr ⟨hlt, Pv (i + 1), fun σ' H' p' => ⟨z.cps.size - (i + 1), by omega, rfl, hlt, p'⟩, fun x H' y => ?_⟩
    obtain ⟨rfl, c, hc, rfl⟩ := y
    exact hs i c σ _ (by simpa using hc) p
  · have e : i = z.cps.toList.length := by simp; omega
    subst e
    exact .inl ⟨by show z.cps.size ≤ _; simp, hd σ H p⟩
/-- a while by its word and a number that falls -/
theorem while_W {c : TT} {σ : L2.St} {H : Hp} (Pv : Nat → L2.St → Hp → Prop) (m : Nat) (h0 : Pv m σ H)
    (hs : ∀ m σ H, Pv m σ H → c σ H fun b H1 => if b = true then tb { D with nx := fun σ' H' => ∃ m', m' < m ∧ Pv m' σ' H', ct := fun σ' H' => ∃ m', m' < m ∧ Pv m' σ' H', bk := D.nx } σ H1 else D.nx σ H1)
    (mono : ∀ σ H Q Q', (∀ b H1, Q b H1 → Q' b H1) → c σ H Q → c σ H Q') : tWhile c tb D σ H := by
  refine ⟨Pv, ⟨m, h0⟩, fun m σ H p => ?_⟩
  refine mono σ H _ _ (fun b H1 q => ?_) (hs m σ H p)
  cases b with
  | true => exact ⟨_, fun σ' H' h => h, q⟩
  | false => exact q
end
/-- comprehensions, shut until their invariant is told -/
def LcL (K : PySem.W.Frag) (a : Addr) (g : TG) (tt : TT) (te : TE) (vs : List Nat) (σ : L2.St) (H1 : Hp) (Q : VK) : Prop := ∀ D, H1 D = none → ∃ W : Nat → Nat → Hp → Prop, (∃ m, W 0 m (upd H1 D (.lst []))) ∧ ∀ i m H, W i m H →
  ((Itl K a).stop i H ∧ Q (.ref D) H) ∨ ((Itl K a).go i H ∧ ∃ Nx : Hp → Prop, (∀ H', Nx H' → ∃ m', m' < m ∧ W (i + 1) m' H') ∧ ∀ x H', (Itl K a).yld i H x H' → g x (wipe σ vs) H' fun σ2 H2 => wipe σ2 vs = wipe σ vs ∧ tt σ2 H2 fun b H3 =>
    if b = true then te σ2 H3 fun y H4 => ∃ acc, H4 D = some (.lst acc) ∧ acc.length < sizeLine ∧ Nx (upd H4 D (.lst (acc ++ [y]))) else Nx H3)
section
variable {K : PySem.W.Frag} {σ : L2.St} {H : Hp} {tl te : TE} {tt : TT} {g : TG} {vs : List Nat} {Q : VK} {a : Addr}
theorem l_LcL : tLc (iList K tl) g tt te vs σ H Q = tl σ H fun x H1 => ∃ a, x = .ref a ∧ (∃ xs, SqL K H1 a xs) ∧ LcL K a g tt te vs σ H1 Q := rfl
theorem LcL.by (xs : List V) (h : ∀ D, H D = none → ∃ Pv : Nat → Hp → Prop, Pv 0 (upd H D (.lst [])) ∧ (∀ i H, i ≤ xs.length → Pv i H → SqL K H a xs) ∧
    (∀ i x H, xs[i]? = some x → Pv i H → g x (wipe σ vs) H fun σ2 H2 => wipe σ2 vs = wipe σ vs ∧ tt σ2 H2 fun b H3 =>
      if b = true then te σ2 H3 fun y H4 => ∃ acc, H4 D = some (.lst acc) ∧ acc.length < sizeLine ∧ Pv (i + 1) (upd H4 D (.lst (acc ++ [y]))) else Pv (i + 1) H3) ∧ ∀ H, Pv xs.length H → Q (.ref D) H) : LcL K a g tt te vs σ H Q := fun D hD => by
  obtain ⟨Pv, h0, hl, hs, hd⟩ := h D hD
  exact lc_list Pv h0 hl hs hd
end
theorem w_yes {σ : L2.St} {H : Hp} {Q : Bool → Hp → Prop} : tYes σ H Q = Q true H := rfl
/-! ### small facts -/
theorem ty_l {K : PySem.W.Frag} {H : Hp} {a : Addr} {xs : List V} (h : SqL K H a xs) : tyV K "list" (.ref a) H := Or.inl ⟨rfl, _, h⟩
theorem ty_s {K : PySem.W.Frag} {H : Hp} {z : Str} : tyV K "str" (.str z) H = True := eq_true rfl
theorem line_of {n : Nat} (h : n ≤ 16777216) : n ≤ sizeLine := by rw [sizeLine_eq]; exact h
theorem line_lt {n : Nat} (h : n < 16777216) : n < sizeLine := by rw [sizeLine_eq]; exact h
theorem at_lt {α : Type} {xs : List α} {z : Int} (h0 : 0 ≤ z) (h1 : z < xs.length) : ∃ v, atI xs z = some v ∧ xs[z.toNat]? = some v := by
  have h2 : z.toNat < xs.length := by omega
  refine ⟨xs[z.toNat], ?_, List.getElem?_eq_getElem h2⟩
  have e := atI_nat (List.getElem?_eq_getElem h2)
  rw [Int.toNat_of_nonneg h0] at e
  exact e
theorem w_cut {t u : TS} {D : Ends} {σ : L2.St} {H : Hp} : Evl.tCut t u D σ H = ∃ Mid : L2.St → Hp → Prop, t { D with nx := Mid } σ H ∧ ∀ σ' H', Mid σ' H' → u D σ' H' := rfl
theorem cx_K {CX : CXT} {P : Program} {w : World} {K : PySem.W.Frag} {mg : Str → Option Value} {base : Heap} {N : List Str} {q : Str} {sc : Scope} {f : Addr} {cd : Value} {A : Around} {o : List Env} {s : Shared} {H : Hp} {E : XK} :
    (cxOf CX P w K mg base N q sc f cd A o s H E).K = K := rfl
theorem scal_i {a b : Int} : (scal (.int a) (.int b) = true) = True := eq_true rfl
theorem scal_s {a b : Str} : (scal (.str a) (.str b) = true) = True := eq_true rfl
theorem scal_b {a b : Bool} : (scal (.bl a) (.bl b) = true) = True := eq_true rfl
theorem v_cons {x y : V} {xs ys : List V} : (x :: xs = y :: ys) = (x = y ∧ xs = ys) := propext ⟨fun e => ⟨(List.cons.inj e).1, (List.cons.inj e).2⟩, fun ⟨e1, e2⟩ => by rw [e1, e2]⟩
theorem Go.base {d : Addr} {H0 H1 H2 : Hp} (g : Go d H1 H2) (s : Same H0 H1) (n : H0 d = none) : Same H0 H2 := fun a o e => g.fr a o (ne_of_none e n) (s a o e)
theorem isi_int {K : PySem.W.Frag} {H : Hp} {i : Int} {Q : Bool → Prop} (q : Q true) : ∃ (t u : Value), ClsV (.ty "int") u ∧ TyX K H (.int i) t ∧ ∃ b : Bool, PySem.W.kitOne K t u = some b ∧ Q b := ⟨_, _, .ty _, .base (.int _), _, kit_ty (a := "int") (b := "int") (r := true) (by decide +kernel), q⟩
theorem isi_int_bool {K : PySem.W.Frag} {H : Hp} {i : Int} {Q : Bool → Prop} (q : Q false) : ∃ (t u : Value), ClsV (.ty "bool") u ∧ TyX K H (.int i) t ∧ ∃ b : Bool, PySem.W.kitOne K t u = some b ∧ Q b := ⟨_, _, .ty _, .base (.int _), _, kit_ty (a := "int") (b := "bool") (r := false) (by decide +kernel), q⟩
theorem isi_str {K : PySem.W.Frag} {H : Hp} {i : Str} {Q : Bool → Prop} (q : Q true) : ∃ (t u : Value), ClsV (.ty "str") u ∧ TyX K H (.str i) t ∧ ∃ b : Bool, PySem.W.kitOne K t u = some b ∧ Q b := ⟨_, _, .ty _, .base (.str _), _, kit_ty (a := "str") (b := "str") (r := true) (by decide +kernel), q⟩
theorem isi_bool {K : PySem.W.Frag} {H : Hp} {i : Bool} {Q : Bool → Prop} (q : Q true) : ∃ (t u : Value), ClsV (.ty "bool") u ∧ TyX K H (.bl i) t ∧ ∃ b : Bool, PySem.W.kitOne K t u = some b ∧ Q b := ⟨_, _, .ty _, .base (.bl _), _, kit_ty (a := "bool") (b := "bool") (r := true) (by decide +kernel), q⟩
open TL
/-! ### words: their signs and their numbers -/
abbrev LET : Str := "abcdefghijklmnopqrstuvwxyz"
def AZ (z : Str) : Prop := ∀ c ∈ tl z, 97 ≤ c ∧ c ≤ 122
theorem tl_LET : tl LET = List.range' 97 26 := by decide +kernel
theorem len_LET : LET.length = 26 := by decide +kernel
theorem mem_LET {c : Nat} : c ∈ LET.cps.toList ↔ 97 ≤ c ∧ c ≤ 122 := by
  rw [show LET.cps.toList = List.range' 97 26 from tl_LET, List.mem_range'_1]
  omega
theorem index_LET {c : Nat} (h : 97 ≤ c ∧ c ≤ 122) : Txt.index0 LET ⟨#[c]⟩ = some (c - 97) := by
  have key : ∀ d : Nat, d < 26 → Txt.index0 LET ⟨#[97 + d]⟩ = some d := by decide +kernel
  have := key (c - 97) (by omega)
  rw [show 97 + (c - 97) = c by omega] at this
  exact this
theorem at_LET {i : Int} (h0 : 0 ≤ i) (h1 : i < 26) : atI LET.cps.toList i = some (97 + i.toNat) := by
  have key : ∀ d : Nat, d < 26 → LET.cps.toList[d]? = some (97 + d) := by decide +kernel
  have e := atI_nat (key i.toNat (by omega))
  rw [Int.toNat_of_nonneg h0] at e
  exact e
theorem len_tl (z : Str) : z.length = (tl z).length := by show z.cps.size = _; simp
def wstep (a : Int) (c : Nat) : Int := a * 26 + ((c - 97 : Nat) : Int) + 1
def wnum (l : List Nat) : Int := l.foldl wstep 0
theorem wnum_snoc (l : List Nat) (c : Nat) : wnum (l ++ [c]) = wstep (wnum l) c := by unfold wnum; rw [List.foldl_append]; rfl
def atw (n : Nat) : List Nat := if h : n = 0 then [] else atw ((n - 1) / 26) ++ [97 + (n - 1) % 26]
termination_by n
decreasing_by omega
theorem atw_zero : atw 0 = [] := by rw [atw]; rfl
theorem atw_pos {n : Nat} (h : n ≠ 0) : atw n = atw ((n - 1) / 26) ++ [97 + (n - 1) % 26] := by rw [atw, dif_neg h]
theorem atw_az : ∀ n : Nat, ∀ c ∈ atw n, 97 ≤ c ∧ c ≤ 122 := by
  intro n
  induction n using Nat.strongRecOn with
  | ind n ih =>
    by_cases h : n = 0
    · subst h
      rw [atw_zero]
      intro c hc
      cases hc
    · rw [atw_pos h]
      intro c hc
      rcases List.mem_append.mp hc with k | k
      · exact ih _ (by omega) c k
      · rw [List.mem_singleton] at k
        omega
theorem wnum_atw : ∀ n : Nat, wnum (atw n) = n := by
  intro n
  induction n using Nat.strongRecOn with
  | ind n ih =>
    by_cases h : n = 0
    · subst h
      rw [atw_zero]
      rfl
    · rw [atw_pos h, wnum_snoc, ih _ (by omega)]
      unfold wstep
      omega
theorem atw_len : ∀ (b n : Nat), n < 2 ^ b → (atw n).length ≤ b
  | 0, n, h => by
    have : n = 0 := by simpa using h
    subst this
    rw [atw_zero]
    exact Nat.le_refl _
  | b + 1, n, h => by
    by_cases h0 : n = 0
    · subst h0
      rw [atw_zero]
      exact Nat.zero_le _
    · rw [atw_pos h0, List.length_append]
      have := atw_len b ((n - 1) / 26) (by rw [Nat.pow_succ] at h; omega)
      show _ + 1 ≤ _
      omega
theorem wstep_nonneg {a : Int} (h : 0 ≤ a) (c : Nat) : 0 < wstep a c := by unfold wstep; omega
theorem fold_nonneg : ∀ (l : List Nat) (a : Int), 0 ≤ a → 0 ≤ l.foldl wstep a
  | [], _, h => h
  | c :: r, a, h => fold_nonneg r _ (Int.le_of_lt (wstep_nonneg h c))
theorem wnum_nonneg (l : List Nat) : 0 ≤ wnum l := fold_nonneg l 0 (Int.le_refl 0)
/-- a word is the word of its number -/
theorem atw_wnum : ∀ l : List Nat, (∀ c ∈ l, 97 ≤ c ∧ c ≤ 122) → atw (wnum l).toNat = l := by
  intro l
  induction hn : l.length generalizing l with
  | zero =>
    intro _
    rw [List.eq_nil_of_length_eq_zero hn]
    exact atw_zero
  | succ n ih =>
    intro hl
    obtain ⟨m, c, rfl⟩ : ∃ m c, l = m ++ [c] := by
      have hne : l ≠ [] := fun e => by rw [e] at hn; cases hn
      exact ⟨l.dropLast, l.getLast hne, (List.dropLast_concat_getLast hne).symm⟩
    have hm : m.length = n := by rw [List.length_append] at hn; exact Nat.succ.inj hn
    have hc := hl c (by simp)
    have im := ih m hm fun x hx => hl x (List.mem_append_left _ hx)
    have h0 := wnum_nonneg m
    rw [wnum_snoc]
    have e1 : ((wstep (wnum m) c).toNat - 1) / 26 = (wnum m).toNat := by unfold wstep; omega
    have e2 : 97 + ((wstep (wnum m) c).toNat - 1) % 26 = c := by unfold wstep; omega
    rw [atw_pos (by have := wstep_nonneg h0 c; omega), e1, e2, im]
theorem wnum_inj {l m : List Nat} (hl : ∀ c ∈ l, 97 ≤ c ∧ c ≤ 122) (hm : ∀ c ∈ m, 97 ≤ c ∧ c ≤ 122) (e : wnum l = wnum m) : l = m := by
  rw [← atw_wnum l hl, ← atw_wnum m hm, e]
/-- words of the same length: the first one decides -/
theorem fold_lt : ∀ (u v : List Nat) (a b : Int), (∀ c ∈ u, 97 ≤ c ∧ c ≤ 122) → (∀ c ∈ v, 97 ≤ c ∧ c ≤ 122) → u.length = v.length → a < b → u.foldl wstep a < v.foldl wstep b
  | [], [], a, b, _, _, _, h => h
  | x :: u, y :: v, a, b, hu, hv, hl, h => fold_lt u v _ _ (fun c hc => hu c (List.mem_cons_of_mem _ hc)) (fun c hc => hv c (List.mem_cons_of_mem _ hc)) (Nat.succ.inj hl) (by
      have := hu x (List.mem_cons_self ..)
      have := hv y (List.mem_cons_self ..)
      unfold wstep
      omega)
  | [], _ :: _, _, _, _, _, hl, _ => by cases hl
  | _ :: _, [], _, _, _, _, hl, _ => by cases hl
theorem fold_lex : ∀ (u v : List Nat) (a : Int), (∀ c ∈ u, 97 ≤ c ∧ c ≤ 122) → (∀ c ∈ v, 97 ≤ c ∧ c ≤ 122) → u.length = v.length → (u.foldl wstep a < v.foldl wstep a ↔ u < v)
  | [], [], a, _, _, _ => by
    constructor
    · intro h
      exact absurd h (Int.lt_irrefl _)
    · intro h
      exact absurd h (List.not_lt_nil _)
  | x :: u, y :: v, a, hu, hv, hl => by
    have hx := hu x (List.mem_cons_self ..)
    have hy := hv y (List.mem_cons_self ..)
    have hu' : ∀ c ∈ u, 97 ≤ c ∧ c ≤ 122 := fun c hc => hu c (List.mem_cons_of_mem _ hc)
    have hv' : ∀ c ∈ v, 97 ≤ c ∧ c ≤ 122 := fun c hc => hv c (List.mem_cons_of_mem _ hc)
    have hl' : u.length = v.length := Nat.succ.inj hl
    rw [List.cons_lt_cons_iff, List.foldl_cons, List.foldl_cons]
    by_cases h1 : x < y
    · have := fold_lt u v (wstep a x) (wstep a y) hu' hv' hl' (by unfold wstep; omega)
      exact ⟨fun _ => .inl h1, fun _ => this⟩
    · by_cases h2 : x = y
      · subst h2
        have := fold_lex u v (wstep a x) hu' hv' hl'
        constructor
        · intro h
          exact .inr ⟨rfl, this.mp h⟩
        · rintro (h | ⟨_, h⟩)
          · exact absurd h h1
          · exact this.mpr h
      · have := fold_lt v u (wstep a y) (wstep a x) hv' hu' hl'.symm (by unfold wstep; omega)
        constructor
        · intro h
          exact absurd (Int.lt_trans h this) (Int.lt_irrefl _)
        · rintro (h | ⟨h, _⟩)
          · exact absurd h h1
          · exact absurd h h2
  | [], _ :: _, _, _, _, hl => by cases hl
  | _ :: _, [], _, _, _, hl => by cases hl
/-- a shorter word has the smaller number -/
theorem wnum_short {u v : List Nat} (hu : ∀ c ∈ u, 97 ≤ c ∧ c ≤ 122) (hv : ∀ c ∈ v, 97 ≤ c ∧ c ≤ 122) (h : u.length < v.length) : wnum u < wnum v := by
  have e : v = v.take (v.length - u.length) ++ v.drop (v.length - u.length) := (List.take_append_drop _ v).symm
  unfold wnum
  rw [e, List.foldl_append]
  refine fold_lt _ _ _ _ hu (fun c hc => hv c (List.mem_of_mem_drop hc)) (by rw [List.length_drop]; omega) ?_
  cases hw : v.take (v.length - u.length) with
  | nil =>
    have := congrArg List.length hw
    rw [List.length_take] at this
    simp at this
    omega
  | cons c r =>
    rw [List.foldl_cons]
    have p := wstep_nonneg (Int.le_refl 0) c
    have mono : ∀ (l : List Nat) (a : Int), 0 < a → 0 < l.foldl wstep a := by
      intro l
      induction l with
      | nil => intro a h; exact h
      | cons c r ih => intro a h; exact ih _ (wstep_nonneg (Int.le_of_lt h) c)
    exact mono r _ p
theorem wnum_lt {u v : List Nat} (hu : ∀ c ∈ u, 97 ≤ c ∧ c ≤ 122) (hv : ∀ c ∈ v, 97 ≤ c ∧ c ≤ 122) : wnum u < wnum v ↔ u.length < v.length ∨ (u.length = v.length ∧ u < v) := by
  constructor
  · intro h
    rcases Nat.lt_trichotomy u.length v.length with l | l | l
    · exact .inl l
    · exact .inr ⟨l, (fold_lex u v 0 hu hv l).mp h⟩
    · exact absurd (Int.lt_trans h (wnum_short hv hu l)) (Int.lt_irrefl _)
  · rintro (l | ⟨l, h⟩)
    · exact wnum_short hu hv l
    · exact (fold_lex u v 0 hu hv l).mpr h
/-- the texts of single signs, joined -/
def sgn (c : Nat) : Str := ⟨#[c]⟩
theorem joinL_nil : ∀ l : List (List Nat), joinL [] l = l.flatten
  | [] => rfl
  | [p] => by simp [joinL]
  | p :: q :: r => by
    show p ++ ([] ++ joinL [] (q :: r)) = _
    rw [joinL_nil (q :: r)]
    simp
theorem join_sgn (cs : List Nat) : Txt.join ("" : Str) (cs.map sgn) = ⟨cs.toArray⟩ := by
  refine ext_tl ?_
  rw [join_eq, tl_join]
  show joinL [] _ = cs
  rw [joinL_nil, List.map_map]
  induction cs with
  | nil => rfl
  | cons c r ih => rw [List.map_cons, List.flatten_cons, ih]; rfl
theorem sgn_sum (cs : List Nat) : ((cs.map sgn).map (·.length)).sum = cs.length := by
  induction cs with
  | nil => rfl
  | cons c r ih => rw [List.map_cons, List.map_cons, List.sum_cons, ih, List.length_cons]; show 1 + _ = _; omega
theorem AZ.nil : AZ (Str.ofString "") := fun x hx => by
  rw [show tl (Str.ofString "") = [] from rfl] at hx
  cases hx
theorem AZ.app {z y : Str} (h : AZ z) (k : AZ y) : AZ (z ++ y) := fun x hx => by
  rw [tl_append] at hx
  exact (List.mem_append.mp hx).elim (h x) (k x)
theorem AZ.snoc {z : Str} {c : Nat} (h : AZ z) (hc : 97 ≤ c ∧ c ≤ 122) : AZ (z ++ (⟨#[c]⟩ : Str)) := h.app fun x hx => by
  have e : x = c := by simpa using hx
  rw [e]
  exact hc
theorem AZ.cut {z : Str} {lo hi : Option Int} (h : AZ z) : AZ (cutS z lo hi) := fun x hx => by
  have hx' : x ∈ (z.cps.toList.drop (HT.sIx z.length 0 lo)).take (HT.sIx z.length z.length hi - HT.sIx z.length 0 lo) := hx
  exact h x (List.mem_of_mem_drop (List.mem_of_mem_take hx'))
theorem len_cut (z : Str) (lo hi : Option Int) : (cutS z lo hi).length ≤ z.length := by
  rw [len_tl, len_tl]
  show ((z.cps.toList.drop (HT.sIx z.length 0 lo)).take (HT.sIx z.length z.length hi - HT.sIx z.length 0 lo)).length ≤ z.cps.toList.length
  rw [List.length_take, List.length_drop]
  omega
theorem len_app (z y : Str) : (z ++ y).length = z.length + y.length := Str.length_append z y
theorem bits_len {v : Int} {n : Nat} (h : Builtin.Int.intBits v ≤ 1048576) (e : n = v.natAbs) : (atw n).length ≤ 16000000 := by
  have h1 : n < 2 ^ 1048576 := by
    rw [e]
    exact PyProof.Rows.lt_pow_of_bits h (Nat.le_refl _)
  exact Nat.le_trans (atw_len _ _ h1) (by decide)
end My

namespace My
open PySem PySem.Spec PyProof.Rows L2 TL
local macro_rules | `(tactic| walk_at "wp") => `(tactic| (simp only [w_var, w_c, w_seq, w_next, w_break, w_cont, w_drop, w_ret, w_retN, w_ifs, w_asg, w_name, w_gnil, w_gcons, w_gtup, w_gsub, w_aug, w_ipI, w_op, w_un, w_cb, w_cons, w_nil, w_tup, w_lst, w_test, w_B, w_and, w_or, w_not, w_andV, w_orV, w_notV, w_if, w_call, w_sl, w_part, w_nopart, w_bm0, w_bm, w_bms, w_m0, w_m1, w_revL, w_yes,
  r_I, r_I0, r_U, r_eq, r_ne, r_ixL, r_ixT, r_ixS, r_slL, r_slS, r_in, r_app, r_pop, r_rev, r_setL, r_index, r_isi, l_R1, l_R2, l_L, l_T, l_S, l_LcL, cx_K, scal_i, scal_s, scal_b, ty_s,
  L2.start, List.map_cons, List.map_nil, List.length_cons, List.length_nil, List.cons_append, List.nil_append, List.append_nil, List.set_cons_zero, List.set_cons_succ, List.getElem?_cons_zero, List.getElem?_cons_succ, Nat.reduceSub, Nat.reduceAdd, List.replicate_succ, List.replicate_zero, wipe,
  Option.some.injEq, V.ref.injEq, V.int.injEq, V.str.injEq, V.bl.injEq, v_cons, and_true, true_and, exists_eq_left, exists_eq_left', exists_eq_right, exists_eq_right', exists_and_left, decide_eq_true_eq, Bool.not_eq_true', decide_eq_false_iff_not, if_true, if_false, reduceCtorEq, false_and, and_false, exists_false, or_false, false_or, Bool.false_eq_true, Bool.not_true, Bool.not_false, and_assoc]))

def topS (i : Nat) : Stmt := PySem.Challenge.pw_whomaywhat_k01_words_and_numbers.main.body.getD i (.Pass ⟨0, 0, 0, 0⟩)
structure Bn (mg : Str → Option Value) : Prop where
  n_abs : mg "abs" = none
  n_bool : mg "bool" = none
  n_divmod : mg "divmod" = none
  n_int : mg "int" = none
  n_isinstance : mg "isinstance" = none
  n_len : mg "len" = none
  n_list : mg "list" = none
  n_max : mg "max" = none
  n_range : mg "range" = none
  n_str : mg "str" = none
  g_LETTERS : ∃ t, mg "LETTERS" = some (Value.str "abcdefghijklmnopqrstuvwxyz" t)
abbrev s_law_take : Stmt := topS 6
abbrev N_law_take : List Str := ["draws", "many"]
abbrev P_law_take : List Str := ["draws", "many"]
/-- a draw below n -/
def sp_law_take (_K : PySem.W.Frag) : Sp := fun vs H Q _ => ∃ (d : Addr) (n : Int), vs = [.ref d, .int n] ∧ Dr d H ∧ 0 < n ∧ ∀ r H', 0 ≤ r → r < n → Go d H H' → Q (.int r) H'

abbrev s_law_cell : Stmt := topS 7
abbrev N_law_cell : List Str := ["script", "draws"]
abbrev P_law_cell : List Str := ["script", "draws"]
def sp_law_cell (K : PySem.W.Frag) : Sp := fun vs H Q _ => ∃ (a d : Addr) (ns : List Int), vs = [.ref a, .ref d] ∧ (∃ H0, Same H0 H ∧ H0 d = none ∧ SqL K H0 a (ns.map V.int)) ∧ Dr d H ∧ ∀ v H', (v = 0 ∨ v ∈ ns) → Go d H H' → Q (.int v) H'

abbrev s_law_draws : Stmt := topS 5
abbrev N_law_draws : List Str := ["script", "many", "cells", "rest", "draws", "k", "at", "once", "cell"]
abbrev P_law_draws : List Str := ["script", "many"]
/-- the draws: a new list of ints -/
def sp_law_draws (K : PySem.W.Frag) : Sp := fun vs H Q _ => ∃ (a : Addr) (ns : List Int) (m : Int), vs = [.ref a, .int m] ∧ SqL K H a (ns.map V.int) ∧ ns.length ≤ 1000 ∧ 0 ≤ m ∧ m ≤ 100000 ∧ ∀ p H', H p = none → Same H H' → Dr p H' → Q (.ref p) H'

abbrev s_law_fold : Stmt := topS 9
abbrev N_law_fold : List Str := ["word", "number", "letter"]
abbrev P_law_fold : List Str := ["word"]
def sp_law_fold (_K : PySem.W.Frag) : Sp := fun vs H Q _ => ∃ z : Str, vs = [.str z] ∧ AZ z ∧ Q (.int (wnum (tl z))) H

abbrev s_law_is_integer : Stmt := topS 8
abbrev N_law_is_integer : List Str := ["value"]
abbrev P_law_is_integer : List Str := ["value"]
def sp_law_is_integer (_K : PySem.W.Frag) : Sp := fun vs H Q _ => ∃ n : Int, vs = [.int n] ∧ Q (.bl true) H

abbrev s_word_at : Stmt := topS 3
abbrev N_word_at : List Str := ["number", "letters", "place"]
abbrev P_word_at : List Str := ["number"]
def sp_word_at (_K : PySem.W.Frag) : Sp := fun vs H Q _ => ∃ n : Nat, vs = [.int n] ∧ (atw n).length ≤ 16000000 ∧ ∀ H', Same H H' → Q (.str ⟨(atw n).toArray⟩) H'

abbrev s_word_number : Stmt := topS 2
abbrev N_word_number : List Str := ["word", "number", "letter"]
abbrev P_word_number : List Str := ["word"]
def sp_word_number (_K : PySem.W.Frag) : Sp := fun vs H Q _ => ∃ z : Str, vs = [.str z] ∧ AZ z ∧ Q (.int (wnum (tl z))) H

abbrev s_law_known : Stmt := topS 13
abbrev N_law_known : List Str := ["word", "number", "back"]
abbrev P_law_known : List Str := ["word"]
def sp_law_known (_K : PySem.W.Frag) : Sp := fun vs H Q _ => ∃ z : Str, vs = [.str z] ∧ AZ z ∧ z.length ≤ 1000000 ∧ ∀ H', Same H H' → Q (.bl true) H'

abbrev s_law_letters : Stmt := topS 10
abbrev N_law_letters : List Str := ["draws", "size", "word", "k"]
abbrev P_law_letters : List Str := ["draws", "size"]
/-- a word of that many letters -/
def sp_law_letters (_K : PySem.W.Frag) : Sp := fun vs H Q _ => ∃ (d : Addr) (n : Int), vs = [.ref d, .int n] ∧ Dr d H ∧ 0 ≤ n ∧ n ≤ 10000 ∧ ∀ z H', AZ z → (z.length : Int) = n → Go d H H' → Q (.str z) H'

abbrev s_law_numbered : Stmt := topS 12
abbrev N_law_numbered : List Str := ["number", "word", "letter", "back"]
abbrev P_law_numbered : List Str := ["number"]
def sp_law_numbered (_K : PySem.W.Frag) : Sp := fun vs H Q _ => ∃ n : Nat, vs = [.int n] ∧ (atw n).length ≤ 16000000 ∧ ∀ H', Same H H' → Q (.bl true) H'

abbrev s_law_other : Stmt := topS 11
abbrev N_law_other : List Str := ["draws", "one", "shape", "at"]
abbrev P_law_other : List Str := ["draws", "one"]
def sp_law_other (_K : PySem.W.Frag) : Sp := fun vs H Q _ => ∃ (d : Addr) (z : Str), vs = [.ref d, .str z] ∧ Dr d H ∧ AZ z ∧ 1 ≤ z.length ∧ z.length ≤ 10000 ∧ ∀ y H', AZ y → y.length ≤ 10001 → Go d H H' → Q (.str y) H'

abbrev s_law : Stmt := topS 14
abbrev N_law : List Str := ["script", "draws", "great", "least", "one", "other", "word", "earlier", "edge", "k", "number"]
abbrev P_law : List Str := ["script"]
def sp_law (K : PySem.W.Frag) : Sp := fun vs H Q _ => ∃ (a : Addr) (ns : List Int), vs = [.ref a] ∧ SqL K H a (ns.map V.int) ∧ ns.length ≤ 63 ∧ (∀ z ∈ ns, Builtin.Int.intBits z ≤ 1048576) ∧ ∀ H', Q (.bl true) H'

section
variable {P : Program} {w : World} {K : PySem.W.Frag} {mg : Str → Option Value} {base : Heap}
theorem sc_law_take : FnScope N_law_take P_law_take (defScope s_law_take) := ⟨rfl, rfl, rfl, by decide +kernel, rfl, by decide +kernel, by decide +kernel⟩

theorem ok_law_take {f : Addr} {fd : FuncData} (F : Fun K "_law_take" "_law_take" s_law_take f fd) (B : Bn mg)  : FnOk P w K mg base CX0 1 f fd P_law_take (sp_law_take K) := by
  have sc := sc_law_take
  refine F.ok sc (fun vs H Q E h => ?_) (fun cdv A outer s H vs Q E hr h => ?_)
  · unfold sp_law_take at h
    obtain ⟨_, _, rfl, _⟩ := h
    rfl
  · refine ⟨_, (pss_cons (ps_if (pt_cmpR op_eq (pe_callB call_len_seq (by rfl) B.n_len boot_len (pa_cons (pv 0) (pa_nil))) (pe_int) (nomark _))
        (pss_one (ps_ret (pe_int)))
        pss_nil)
        (pss_one (ps_ret (pe_op op_mod (pe_callTy call_int1 (by rfl) B.n_int boot_int (pa_cons (pe_bm0 PySem.F.plainAttrs_list PySem.F.slot_list_pop PySem.F.type_list_pop mt_pop (pv 0)) (pa_nil))) (pv 1))))), ?_⟩
    unfold sp_law_take at h
    obtain ⟨d, n, rfl, ⟨ds, hd⟩, hn, q⟩ := h
    walk_at "wp"
    refine ⟨_, .inl (SqL.of hd), ite2 (fun e => ?_) (fun e => ?_)⟩
    · exact q 0 H (Int.le_refl 0) hn (Go.refl ⟨ds, hd⟩)
    · have hl : (ds.map V.int).length - 1 < (ds.map V.int).length := by
        have : (ds.map V.int).length ≠ 0 := fun z => e (by rw [z]; rfl)
        omega
      rw [List.length_map] at hl
      refine ⟨ty_l (SqL.of hd), _, hd, .int ds[ds.length - 1], ?_, .inl ⟨_, rfl, hn, ?_⟩⟩
      · rw [List.length_map, List.getElem?_map, List.getElem?_eq_getElem hl]
        rfl
      · refine q _ _ (Int.emod_nonneg _ (by omega)) (Int.emod_lt_of_pos _ hn) ⟨fun a o hne ha => ?_, ds.dropLast, ?_⟩
        · rw [upd_ne hne]
          exact ha
        · rw [upd_same, List.map_dropLast]
theorem sc_law_cell : FnScope N_law_cell P_law_cell (defScope s_law_cell) := ⟨rfl, rfl, rfl, by decide +kernel, rfl, by decide +kernel, by decide +kernel⟩

theorem ok_law_cell {f : Addr} {fd : FuncData} (F : Fun K "_law_cell" "_law_cell" s_law_cell f fd) (B : Bn mg) (C_law_take : Cal P w K mg base 1 "_law_take" P_law_take (sp_law_take K)) : FnOk P w K mg base CX0 2 f fd P_law_cell (sp_law_cell K) := by
  have sc := sc_law_cell
  refine F.ok sc (fun vs H Q E h => ?_) (fun cdv A outer s H vs Q E hr h => ?_)
  · unfold sp_law_cell at h
    obtain ⟨_, _, _, rfl, _⟩ := h
    rfl
  · refine ⟨_, (pss_cons (ps_if (pt_cmpR op_eq (pe_callB call_len_seq (by rfl) B.n_len boot_len (pa_cons (pv 0) (pa_nil))) (pe_int) (nomark _))
        (pss_one (ps_ret (pe_int)))
        pss_nil)
        (pss_one (ps_ret (pe_callTy call_int1 (by rfl) B.n_int boot_int (pa_cons (pe_ix ix_list (pv 0) (pe_cal C_law_take hr (pa_cons (pv 1) (pa_cons (pe_callB call_len_seq (by rfl) B.n_len boot_len (pa_cons (pv 0) (pa_nil))) (pa_nil)))) (fun _ _ => rfl)) (pa_nil)))))), ?_⟩
    unfold sp_law_cell at h
    obtain ⟨a, d, ns, rfl, ⟨H0, s0, n0, hS⟩, hD, q⟩ := h
    walk_at "wp"
    refine ⟨_, .inl (s0.seq hS), ite2 (fun e => ?_) (fun e => ?_)⟩
    · exact q 0 H (.inl rfl) (Go.refl hD)
    · refine ⟨_, .inl (s0.seq hS), d, ((ns.map V.int).length : Nat), rfl, hD, by omega, fun r H2 r0 r1 g => ?_⟩
      rw [List.length_map] at r1
      obtain ⟨v, e1, e2⟩ := at_lt (xs := ns.map V.int) r0 (by rw [List.length_map]; exact r1)
      obtain ⟨n, hn, rfl⟩ : ∃ n, n ∈ ns ∧ v = .int n := by
        obtain ⟨m, h1, h2⟩ := List.mem_map.mp (List.mem_of_getElem? e2)
        exact ⟨m, h1, h2.symm⟩
      walk_at "wp"
      refine ⟨_, (g.base s0 n0).seq hS, .int n, e1, ?_⟩
      walk_at "wp"
      exact q n H2 (.inr hn) g
theorem sc_law_draws : FnScope N_law_draws P_law_draws (defScope s_law_draws) := ⟨rfl, rfl, rfl, by decide +kernel, rfl, by decide +kernel, by decide +kernel⟩
theorem int_at {xs : List Int} {i : Nat} {x : V} (h : (xs.map V.int)[i]? = some x) : ∃ n, xs[i]? = some n ∧ x = .int n := by
  rw [List.getElem?_map] at h
  cases e : xs[i]? with
  | none => rw [e] at h; cases h
  | some n => rw [e] at h; exact ⟨n, rfl, (Option.some.inj h).symm⟩
theorem atI_int {xs : List Int} {z : Int} (h0 : 0 ≤ z) (h1 : z < xs.length) : ∃ n, atI (xs.map V.int) z = some (.int n) := by
  obtain ⟨v, e, e2⟩ := at_lt (xs := xs.map V.int) (z := z) h0 (by rw [List.length_map]; exact h1)
  obtain ⟨n, _, rfl⟩ := int_at e2
  exact ⟨n, e⟩

theorem ok_law_draws {f : Addr} {fd : FuncData} (F : Fun K "_law_draws" "_law_draws" s_law_draws f fd) (B : Bn mg)  : FnOk P w K mg base CX0 1 f fd P_law_draws (sp_law_draws K) := by
  have sc := sc_law_draws
  refine F.ok sc (fun vs H Q E h => ?_) (fun cdv A outer s H vs Q E hr h => ?_)
  · unfold sp_law_draws at h
    obtain ⟨_, _, _, rfl, _⟩ := h
    rfl
  · refine ⟨_, (pss_cons (ps_setLc (i := 2) (own := [("cell", 8)]) (g := gName 8) (tt := tYes) rfl sc.nd rfl rfl (sw_true rfl rfl rfl (by decide +kernel)) (pi_list (pv 0)) (blkOk_by (N := N_law_draws) (sc := defScope s_law_draws) (by decide +kernel)) (fun _ _ _ _ _ => pg_name (i := 8) sc.nd rfl (Or.inl rfl)) (fun _ _ _ _ _ => pts_nil) (fun _ _ _ _ _ => pe_callTy call_int1 (by rfl) B.n_int boot_int (pa_cons (pv 8) (pa_nil))))
        (Evl.pss_cut (ps_if (pt_cmpR op_eq (pe_callB call_len_seq (by rfl) B.n_len boot_len (pa_cons (pv 2) (pa_nil))) (pe_int) (nomark _))
        (pss_one (ps_expr (pe_bm PySem.F.plainAttrs_list PySem.F.slot_list_append PySem.F.type_list_append mt_append (pv 2) (pa_cons (pe_int) (pa_nil)))))
        pss_nil)
        (pss_cons (ps_set (i := 3) sc.nd rfl (by first | exact Or.inl rfl | exact Or.inr rfl) (pe_callTy call_list_of (by rfl) B.n_list boot_list (pa_cons (pv 2) (pa_nil))))
        (pss_cons (ps_set (i := 4) sc.nd rfl (by first | exact Or.inl rfl | exact Or.inr rfl) (pe_lst (pa_nil)))
        (pss_cons (ps_for PassesOwn.never rfl (pi_range1 (by rfl) B.n_range (pa_cons (pv 1) (pa_nil))) (pg_name (i := 5) sc.nd rfl (by first | exact Or.inl rfl | exact Or.inr rfl))
        (pss_cons (ps_set (i := 6) sc.nd rfl (by first | exact Or.inl rfl | exact Or.inr rfl) (pe_op op_mod (pv 5) (pe_callB call_len_seq (by rfl) B.n_len boot_len (pa_cons (pv 2) (pa_nil)))))
        (pss_one (ps_if (pt_cmpR op_ge (pe_ix ix_list (pv 2) (pv 6) (fun _ _ => rfl)) (pe_op op_pow (pe_int) (pe_int)) (nomark _))
        (pss_cons (ps_expr (pe_bm PySem.F.plainAttrs_list PySem.F.slot_list_append PySem.F.type_list_append mt_append (pv 4) (pa_cons (pe_op op_mod (pe_callTy call_int1 (by rfl) B.n_int boot_int (pa_cons (pe_ix ix_list (pv 3) (pv 6) (fun _ _ => rfl)) (pa_nil))) (pe_int)) (pa_nil))))
        (pss_one (ps_asg (pe_op op_fdiv (pe_ix ix_list (pv 3) (pv 6) (fun _ _ => rfl)) (pe_int)) (pg_sub (pv 3) (pv 6) set_list))))
        (pss_cons (ps_set (i := 7) sc.nd rfl (by first | exact Or.inl rfl | exact Or.inr rfl) (pe_op op_mod (pe_callTy call_int1 (by rfl) B.n_int boot_int (pa_cons (pe_op op_add (pe_op op_add (pe_op op_mul (pe_ix ix_list (pv 2) (pv 6) (fun _ _ => rfl)) (pe_int)) (pe_op op_mul (pv 5) (pe_int))) (pe_int)) (pa_nil))) (pe_int)))
        (pss_one (ps_expr (pe_bm PySem.F.plainAttrs_list PySem.F.slot_list_append PySem.F.type_list_append mt_append (pv 4) (pa_cons (pe_op op_mod (pe_callTy call_int1 (by rfl) B.n_int boot_int (pa_cons (pe_op op_add (pe_op op_add (pe_op op_mul (pv 7) (pv 7)) (pe_op op_mul (pe_int) (pv 7))) (pv 5)) (pa_nil))) (pe_int)) (pa_nil))))))))))
        (pss_cons (ps_expr (pe_bm0 PySem.F.plainAttrs_list PySem.F.slot_list_reverse PySem.F.type_list_reverse mt_reverse (pv 4)))
        (pss_one (ps_ret (pv 4))))))))), ?_⟩
    unfold sp_law_draws at h
    obtain ⟨a, ns, m, rfl, hS, hlen, hm0, hm1, q⟩ := h
    walk_at "wp"
    refine ⟨⟨_, hS⟩, LcL.by (ns.map V.int) fun D hD => ⟨fun i H' => Same H H' ∧ H' D = some (.lst ((ns.take i).map V.int)), ⟨Same.new hD, upd_same⟩, fun i H' _ p => p.1.seq hS, fun i x H' hi p => ?_, fun H1 p => ?_⟩⟩
    · obtain ⟨n, hn, rfl⟩ := int_at hi
      walk_at "wp"
      refine ⟨_, p.2, ?_, fun b o e => ?_, ?_⟩
      · rw [List.length_map, List.length_take]
        exact line_lt (by omega)
      · rw [upd_ne (ne_of_none e hD)]
        exact p.1 b o e
      · rw [upd_same, List.take_add_one, hn, List.map_append]
        rfl
    · obtain ⟨s1, hD1⟩ := p
      rw [List.length_map, List.take_length] at hD1
      refine ⟨fun σ' H' => σ' = [some (.ref a), some (.int m), some (.ref D), none, none, none, none, none, none] ∧ Same H H' ∧ ∃ cs : List Int, cs ≠ [] ∧ cs.length ≤ 1000 ∧ H' D = some (.lst (cs.map V.int)), ?_, ?_⟩
      · walk_at "wp"
        refine ⟨_, .inl (SqL.of hD1), ite2 (fun e => ?_) (fun e => ?_)⟩
        · rw [List.length_map] at e
          have e1 : ns = [] := List.eq_nil_of_length_eq_zero (by omega)
          subst e1
          refine ⟨ty_l (SqL.of hD1), _, hD1, line_lt (by show 0 < _; omega), fun b o e => ?_, [0], by simp, by show 1 ≤ 1000; omega, upd_same⟩
          rw [upd_ne (ne_of_none e hD)]
          exact s1 b o e
        · rw [List.length_map] at e
          exact ⟨s1, ns, fun z => e (by rw [z]; rfl), by omega, hD1⟩
      · rintro σ' H2 ⟨rfl, s2, cs, hne, hcl, hc⟩
        have hcp : 0 < cs.length := List.length_pos_iff.mpr hne
        walk_at "wp"
        refine ⟨_, .inl (SqL.of hc), fun r hr0 => ⟨Nat.zero_le _, fun d hd0 => ⟨by omega, by omega, ?_⟩⟩⟩
        have nrD : r ≠ D := fun e => by rw [e, hc] at hr0; cases hr0
        have ndr : d ≠ r := fun e => by rw [e, upd_same] at hd0; cases hd0
        have ndD : d ≠ D := fun e => by rw [e, upd_ne nrD.symm, hc] at hd0; cases hd0
        have hHr : H r = none := s2.free hr0
        have hHd : H d = none := s2.free (by rw [upd_ne ndr] at hd0; exact hd0)
        refine LpR.by (fun i σ H' => ∃ (rs ds : List Int) (y5 y6 y7 : Option V), σ = [some (.ref a), some (.int m), some (.ref D), some (.ref r), some (.ref d), y5, y6, y7, none] ∧ Same H H' ∧ H' D = some (.lst (cs.map V.int)) ∧ H' r = some (.lst (rs.map V.int)) ∧ rs.length = cs.length ∧ H' d = some (.lst (ds.map V.int)) ∧ ds.length = i) ?_ ?_ ?_
        · refine ⟨cs, [], none, none, none, rfl, fun b o e => ?_, ?_, ?_, rfl, upd_same, rfl⟩
          · rw [upd_ne (ne_of_none e hHd), upd_ne (ne_of_none e hHr)]
            exact s2 b o e
          · rw [upd_ne ndD.symm, upd_ne nrD.symm]
            exact hc
          · rw [upd_ne ndr.symm, upd_same]
        · rintro i σ H' hi ⟨rs, ds, y5, y6, y7, rfl, s3, hc3, hr3, hrl, hd3, hdl⟩
          walk_at "wp"
          have hpos : (0 : Int) < ((cs.map V.int).length : Nat) := by rw [List.length_map]; omega
          have h0 : 0 ≤ (0 + (i : Int)) % ((cs.map V.int).length : Nat) := Int.emod_nonneg _ (by omega)
          have h1 : (0 + (i : Int)) % ((cs.map V.int).length : Nat) < cs.length := by
            have := Int.emod_lt_of_pos (0 + (i : Int)) hpos
            rw [List.length_map] at this ⊢
            exact this
          obtain ⟨c, ec⟩ := atI_int h0 h1
          obtain ⟨t, et⟩ := atI_int (xs := rs) h0 (by rw [hrl]; exact h1)
          have hdz : (ds.map V.int).length < sizeLine := by rw [List.length_map]; exact line_lt (by omega)
          refine ⟨_, .inl (SqL.of hc3), hpos, _, SqL.of hc3, .int c, ec, ?_⟩
          walk_at "wp"
          refine ⟨⟨by decide, by decide, by decide⟩, ite2 (fun _ => ?_) (fun _ => ?_)⟩
          · refine ⟨ty_l (SqL.of hd3), _, SqL.of hr3, .int t, et, ?_⟩
            walk_at "wp"
            refine ⟨by decide, _, hd3, hdz, ?_⟩
            have hr4 : (upd H' d (.lst (ds.map V.int ++ [.int (t % 1000)]))) r = some (.lst (rs.map V.int)) := by
              rw [upd_ne ndr.symm]
              exact hr3
            refine ⟨_, SqL.of hr4, .int t, et, ?_⟩
            walk_at "wp"
            refine ⟨⟨by decide, by decide⟩, _, hr4, ((0 + (i : Int)) % ((cs.map V.int).length : Nat)).toNat, ?_, ?_⟩
            · rw [List.length_map, hrl]
              have := Evl.ixN_nat (n := cs.length) (j := ((0 + (i : Int)) % ((cs.map V.int).length : Nat)).toNat) (by omega)
              rw [Int.toNat_of_nonneg h0] at this
              exact this
            · refine ⟨rs.set ((0 + (i : Int)) % ((cs.map V.int).length : Nat)).toNat (t / 1000), ds ++ [t % 1000], _, _, _, rfl, fun b o e => ?_, ?_, ?_, by rw [List.length_set]; exact hrl, ?_, by rw [List.length_append, hdl]; rfl⟩
              · rw [upd_ne (ne_of_none e hHr), upd_ne (ne_of_none e hHd)]
                exact s3 b o e
              · rw [upd_ne nrD.symm, upd_ne ndD.symm]
                exact hc3
              · rw [upd_same, List.map_set]
              · rw [upd_ne ndr, upd_same, List.map_append]
                rfl
          · have hon := Int.emod_nonneg (c * 48271 + (0 + (i : Int)) * 69621 + 11) (show (2147483647 : Int) ≠ 0 by decide)
            have hol := Int.emod_lt_of_pos (c * 48271 + (0 + (i : Int)) * 69621 + 11) (show (0 : Int) < 2147483647 by decide)
            refine ⟨_, SqL.of hc3, .int c, ec, ?_⟩
            walk_at "wp"
            refine ⟨.inr ⟨by decide, by decide⟩, .inr ⟨by decide, by decide⟩, by decide, ty_l (SqL.of hd3), .inl ⟨by omega, by omega⟩, .inl ⟨by decide, by decide⟩, by decide, _, hd3, hdz, ?_⟩
            refine ⟨rs, ds ++ [?z], _, _, _, rfl, fun b o e => ?_, ?_, ?_, hrl, ?_, ?_⟩
            rotate_left
            · rw [upd_ne (ne_of_none e hHd)]
              exact s3 b o e
            · rw [upd_ne ndD.symm]
              exact hc3
            · rw [upd_ne ndr.symm]
              exact hr3
            · rw [upd_same, List.map_append]
              rfl
            · rw [List.length_append, hdl]
              rfl
        · rintro σ H' ⟨rs, ds, y5, y6, y7, rfl, s3, hc3, hr3, hrl, hd3, hdl⟩
          walk_at "wp"
          refine ⟨ty_l (SqL.of hd3), _, hd3, ?_⟩
          refine q d _ hHd (fun b o e => ?_) ⟨ds.reverse, ?_⟩
          · rw [upd_ne (ne_of_none e hHd)]
            exact s3 b o e
          · rw [upd_same, List.map_reverse]
theorem sc_law_fold : FnScope N_law_fold P_law_fold (defScope s_law_fold) := ⟨rfl, rfl, rfl, by decide +kernel, rfl, by decide +kernel, by decide +kernel⟩

theorem ok_law_fold {f : Addr} {fd : FuncData} (F : Fun K "_law_fold" "_law_fold" s_law_fold f fd) (B : Bn mg)  : FnOk P w K mg base CX0 1 f fd P_law_fold (sp_law_fold K) := by
  have sc := sc_law_fold
  refine F.ok sc (fun vs H Q E h => ?_) (fun cdv A outer s H vs Q E hr h => ?_)
  · unfold sp_law_fold at h
    obtain ⟨_, rfl, _⟩ := h
    rfl
  · refine ⟨_, (pss_cons (ps_set (i := 1) sc.nd rfl (by first | exact Or.inl rfl | exact Or.inr rfl) (pe_int))
        (pss_cons (ps_for PassesOwn.never rfl (pi_str (pv 0)) (pg_name (i := 2) sc.nd rfl (by first | exact Or.inl rfl | exact Or.inr rfl))
        (pss_one (ps_set (i := 1) sc.nd rfl (by first | exact Or.inl rfl | exact Or.inr rfl) (pe_op op_add (pe_op op_add (pe_op op_mul (pv 1) (pe_int)) (pe_bmS PySem.F.plainAttrs_str PySem.F.slot_str_index PySem.F.type_str_index (mt_indexX rfl takes0) (pe_str) (pa_cons (pv 2) (pa_nil)))) (pe_int)))))
        (pss_one (ps_ret (pv 1))))), ?_⟩
    unfold sp_law_fold at h
    obtain ⟨z, rfl, hz, q⟩ := h
    walk_at "wp"
    refine LpS.by (fun i σ H' => H' = H ∧ ∃ y, σ = [some (.str z), some (.int (wnum ((tl z).take i))), y]) ⟨rfl, none, rfl⟩ ?_ ?_
    · rintro i c σ H' hi ⟨rfl, y, rfl⟩
      have hc := hz c (List.mem_of_getElem? hi)
      walk_at "wp"
      refine ⟨.inr ⟨by decide, by decide⟩, fun k hk => ?_, fun hk => ?_⟩
      · rw [index_LET hc] at hk
        cases hk
        refine ⟨some (.str ⟨#[c]⟩), ?_⟩
        rw [List.take_add_one, hi, show ((some c).toList : List Nat) = [c] from rfl, wnum_snoc]
        rfl
      · rw [index_LET hc] at hk
        cases hk
    · rintro σ H' ⟨rfl, y, rfl⟩
      walk_at "wp"
      rw [List.take_length]
      exact q
theorem sc_law_is_integer : FnScope N_law_is_integer P_law_is_integer (defScope s_law_is_integer) := ⟨rfl, rfl, rfl, by decide +kernel, rfl, by decide +kernel, by decide +kernel⟩

theorem ok_law_is_integer {f : Addr} {fd : FuncData} (F : Fun K "_law_is_integer" "_law_is_integer" s_law_is_integer f fd) (B : Bn mg)  : FnOk P w K mg base CX0 1 f fd P_law_is_integer (sp_law_is_integer K) := by
  have sc := sc_law_is_integer
  refine F.ok sc (fun vs H Q E h => ?_) (fun cdv A outer s H vs Q E hr h => ?_)
  · unfold sp_law_is_integer at h
    obtain ⟨_, rfl, _⟩ := h
    rfl
  · refine ⟨_, (pss_one (ps_ret ((pe_and (pe_callB call_isi (by rfl) B.n_isinstance boot_isinstance (pa_cons (pv 0) (pa_cons ((pe_bltn (v := .ty "int") (by rfl) B.n_int boot_int rfl)) (pa_nil)))) (pe_one (pe_not (pe_callB call_isi (by rfl) B.n_isinstance boot_isinstance (pa_cons (pv 0) (pa_cons ((pe_bltn (v := .ty "bool") (by rfl) B.n_bool boot_bool rfl)) (pa_nil)))))))))), ?_⟩
    unfold sp_law_is_integer at h
    obtain ⟨n, rfl, q⟩ := h
    walk_at "wp"
    refine isi_int ?_
    walk_at "wp"
    refine isi_int_bool ?_
    walk_at "wp"
    exact q
theorem sc_word_at : FnScope N_word_at P_word_at (defScope s_word_at) := ⟨rfl, rfl, rfl, by decide +kernel, rfl, by decide +kernel, by decide +kernel⟩

theorem ok_word_at {f : Addr} {fd : FuncData} (F : Fun K "word_at" "word_at" s_word_at f fd) (B : Bn mg)  : FnOk P w K mg base CX0 1 f fd P_word_at (sp_word_at K) := by
  obtain ⟨t_LETTERS, g_LETTERS⟩ := B.g_LETTERS
  have sc := sc_word_at
  refine F.ok sc (fun vs H Q E h => ?_) (fun cdv A outer s H vs Q E hr h => ?_)
  · unfold sp_word_at at h
    obtain ⟨_, rfl, _⟩ := h
    rfl
  · refine ⟨_, (pss_cons (ps_set (i := 1) sc.nd rfl (by first | exact Or.inl rfl | exact Or.inr rfl) (pe_lst (pa_nil)))
        (pss_cons (ps_while PassesOwn.never (pt_cmpR op_gt (pv 0) (pe_int) (nomark _))
        (pss_cons (ps_asg (pe_callB call_divmod (by rfl) B.n_divmod boot_divmod (pa_cons (pe_op op_sub (pv 0) (pe_int)) (pa_cons (pe_callB call_len_str (by rfl) B.n_len boot_len (pa_cons ((pe_glob (v := .str "abcdefghijklmnopqrstuvwxyz") (by rfl) g_LETTERS ⟨_, rfl⟩)) (pa_nil))) (pa_nil)))) (pg_tup (by rfl) (pgs_cons (pg_name (i := 0) sc.nd rfl (by first | exact Or.inl rfl | exact Or.inr rfl)) (pgs_cons (pg_name (i := 2) sc.nd rfl (by first | exact Or.inl rfl | exact Or.inr rfl)) (pgs_nil)))))
        (pss_one (ps_expr (pe_bm PySem.F.plainAttrs_list PySem.F.slot_list_append PySem.F.type_list_append mt_append (pv 1) (pa_cons (pe_ix ix_str ((pe_glob (v := .str "abcdefghijklmnopqrstuvwxyz") (by rfl) g_LETTERS ⟨_, rfl⟩)) (pv 2) (fun _ _ => rfl)) (pa_nil)))))))
        (pss_one (ps_ret (pe_join (pe_str) (pe_revL (pv 1))))))), ?_⟩
    unfold sp_word_at at h
    obtain ⟨n, rfl, hz, q⟩ := h
    walk_at "wp"
    refine ⟨Nat.zero_le _, fun d hd => ?_⟩
    refine while_W (fun m σ H' => ∃ (cs : List Nat) (y : Option V), σ = [some (.int m), some (.ref d), y] ∧ Same H H' ∧ H' d = some (.lst ((cs.map sgn).map V.str)) ∧ atw n = atw m ++ cs.reverse) n ⟨[], none, rfl, Same.new hd, upd_same, by simp⟩ ?_ ?_
    · rintro m σ H' ⟨cs, y, rfl, s1, hd1, e1⟩
      walk_at "wp"
      refine ite2 (fun hm => ?_) (fun hm => ?_)
      · have hm1 : m ≠ 0 := by omega
        have ez : ((m : Int) - 1) % (LET.length : Nat) = (((m - 1) % 26 : Nat) : Int) := by rw [len_LET]; omega
        have ed : ((m : Int) - 1) / (LET.length : Nat) = (((m - 1) / 26 : Nat) : Int) := by rw [len_LET]; omega
        refine ⟨line_of (by rw [len_LET]; decide), ⟨by rw [len_LET]; decide, by rw [len_LET]; decide⟩, fun p hp => ⟨_, SqT.of upd_same, ?_⟩⟩
        have npd : d ≠ p := ne_of_none hd1 hp
        walk_at "wp"
        have hlen : cs.length < 16000000 := by
          rw [e1, atw_pos hm1, List.length_append, List.length_append, List.length_reverse] at hz
          simp only [List.length_cons, List.length_nil] at hz
          omega
        refine ⟨rfl, ty_l (SqL.of (by rw [upd_ne npd]; exact hd1)), line_of (by rw [len_LET]; decide), 97 + (m - 1) % 26, ?_, ?_⟩
        · rw [ez, at_LET (by omega) (by omega)]
          rfl
        · refine ⟨_, by rw [upd_ne npd]; exact hd1, by rw [List.length_map, List.length_map]; exact line_lt (by omega), (m - 1) / 26, by omega, cs ++ [97 + (m - 1) % 26], _, by rw [ed], fun b o e => ?_, ?_, ?_⟩
          · rw [upd_ne (ne_of_none e hd), upd_ne (ne_of_none (s1 _ _ e) hp)]
            exact s1 _ _ e
          · rw [upd_same, List.map_append, List.map_append]
            rfl
          · rw [e1, atw_pos hm1, List.reverse_append, List.append_assoc]
            rfl
      · have hm0 : m = 0 := by omega
        subst hm0
        rw [atw_zero, List.nil_append] at e1
        have hcl : cs.length ≤ 16000000 := by
          rw [e1, List.length_reverse] at hz
          exact hz
        refine ⟨⟨_, rfl⟩, _, SqL.of hd1, fun p hp => ⟨(cs.reverse).map sgn, .inl (SqL.of ?_), ?_, ?_⟩⟩
        · rw [upd_same, List.map_reverse, List.map_reverse]
        · rw [sgn_sum, List.length_map, List.length_reverse]
          show cs.length + cs.length * 0 ≤ _
          omega
        · rw [join_sgn, ← e1]
          refine q _ fun b o e => ?_
          rw [upd_ne (ne_of_none (s1 _ _ e) hp)]
          exact s1 _ _ e
    · intro σ H' Q1 Q2 hq
      walk_at "wp"
      rintro ⟨v, hv, i, rfl, hc⟩
      exact ⟨_, hv, i, rfl, hq _ _ hc⟩
theorem sc_word_number : FnScope N_word_number P_word_number (defScope s_word_number) := ⟨rfl, rfl, rfl, by decide +kernel, rfl, by decide +kernel, by decide +kernel⟩

theorem ok_word_number {f : Addr} {fd : FuncData} (F : Fun K "word_number" "word_number" s_word_number f fd) (B : Bn mg)  : FnOk P w K mg base CX0 1 f fd P_word_number (sp_word_number K) := by
  obtain ⟨t_LETTERS, g_LETTERS⟩ := B.g_LETTERS
  have sc := sc_word_number
  refine F.ok sc (fun vs H Q E h => ?_) (fun cdv A outer s H vs Q E hr h => ?_)
  · unfold sp_word_number at h
    obtain ⟨_, rfl, _⟩ := h
    rfl
  · refine ⟨_, (pss_cons (ps_set (i := 1) sc.nd rfl (by first | exact Or.inl rfl | exact Or.inr rfl) (pe_int))
        (pss_cons (ps_for PassesOwn.never rfl (pi_str (pv 0)) (pg_name (i := 2) sc.nd rfl (by first | exact Or.inl rfl | exact Or.inr rfl))
        (pss_one (ps_set (i := 1) sc.nd rfl (by first | exact Or.inl rfl | exact Or.inr rfl) (pe_op op_add (pe_op op_add (pe_op op_mul (pv 1) (pe_callB call_len_str (by rfl) B.n_len boot_len (pa_cons ((pe_glob (v := .str "abcdefghijklmnopqrstuvwxyz") (by rfl) g_LETTERS ⟨_, rfl⟩)) (pa_nil)))) (pe_bmS PySem.F.plainAttrs_str PySem.F.slot_str_index PySem.F.type_str_index (mt_indexX rfl takes0) ((pe_glob (v := .str "abcdefghijklmnopqrstuvwxyz") (by rfl) g_LETTERS ⟨_, rfl⟩)) (pa_cons (pv 2) (pa_nil)))) (pe_int)))))
        (pss_one (ps_ret (pv 1))))), ?_⟩
    unfold sp_word_number at h
    obtain ⟨z, rfl, hz, q⟩ := h
    walk_at "wp"
    refine LpS.by (fun i σ H' => H' = H ∧ ∃ y, σ = [some (.str z), some (.int (wnum ((tl z).take i))), y]) ⟨rfl, none, rfl⟩ ?_ ?_
    · rintro i c σ H' hi ⟨rfl, y, rfl⟩
      have hc := hz c (List.mem_of_getElem? hi)
      walk_at "wp"
      refine ⟨line_of (by rw [len_LET]; decide), .inr ⟨by rw [len_LET]; decide, by rw [len_LET]; decide⟩, fun k hk => ?_, fun hk => ?_⟩
      · rw [index_LET hc] at hk
        cases hk
        refine ⟨some (.str ⟨#[c]⟩), ?_⟩
        rw [List.take_add_one, hi, show ((some c).toList : List Nat) = [c] from rfl, wnum_snoc, len_LET]
        rfl
      · rw [index_LET hc] at hk
        cases hk
    · rintro σ H' ⟨rfl, y, rfl⟩
      walk_at "wp"
      rw [List.take_length]
      exact q
theorem sc_law_known : FnScope N_law_known P_law_known (defScope s_law_known) := ⟨rfl, rfl, rfl, by decide +kernel, rfl, by decide +kernel, by decide +kernel⟩

theorem ok_law_known {f : Addr} {fd : FuncData} (F : Fun K "_law_known" "_law_known" s_law_known f fd) (B : Bn mg) (C_law_fold : Cal P w K mg base 1 "_law_fold" P_law_fold (sp_law_fold K)) (C_law_is_integer : Cal P w K mg base 1 "_law_is_integer" P_law_is_integer (sp_law_is_integer K)) (Cword_at : Cal P w K mg base 1 "word_at" P_word_at (sp_word_at K)) (Cword_number : Cal P w K mg base 1 "word_number" P_word_number (sp_word_number K)) : FnOk P w K mg base CX0 2 f fd P_law_known (sp_law_known K) := by
  have sc := sc_law_known
  refine F.ok sc (fun vs H Q E h => ?_) (fun cdv A outer s H vs Q E hr h => ?_)
  · unfold sp_law_known at h
    obtain ⟨_, rfl, _⟩ := h
    rfl
  · refine ⟨_, (pss_cons (ps_set (i := 1) sc.nd rfl (by first | exact Or.inl rfl | exact Or.inr rfl) (pe_cal Cword_number hr (pa_cons (pv 0) (pa_nil))))
        (pss_cons (ps_if (PW.pt (pw_or (pt_not (pt_val (pe_cal C_law_is_integer hr (pa_cons (pv 1) (pa_nil))))) (pw_or1 (pt_cmpR op_ne (pv 1) (pe_cal C_law_fold hr (pa_cons (pv 0) (pa_nil))) (nomark _)))))
        (pss_one (ps_ret (pe_bl)))
        pss_nil)
        (pss_cons (ps_set (i := 2) sc.nd rfl (by first | exact Or.inl rfl | exact Or.inr rfl) (pe_cal Cword_at hr (pa_cons (pv 1) (pa_nil))))
        (pss_one (ps_ret ((pe_and (pe_callB call_isi (by rfl) B.n_isinstance boot_isinstance (pa_cons (pv 2) (pa_cons ((pe_bltn (v := .ty "str") (by rfl) B.n_str boot_str rfl)) (pa_nil)))) (pe_one (pe_cmpR op_eq (pv 2) (pv 0) (nomark _)))))))))), ?_⟩
    unfold sp_law_known at h
    obtain ⟨z, rfl, az, hl, q⟩ := h
    walk_at "wp"
    refine ⟨z, rfl, az, ?_⟩
    walk_at "wp"
    refine ⟨_, rfl, ?_⟩
    walk_at "wp"
    refine ⟨z, rfl, az, ?_⟩
    walk_at "wp"
    simp only [not_true, if_false]
    have e : atw (wnum (tl z)).toNat = tl z := atw_wnum (tl z) az
    have p := wnum_nonneg (tl z)
    refine ⟨(wnum (tl z)).toNat, ?_, ?_, fun H1 s1 => ?_⟩
    · rw [Int.toNat_of_nonneg p]
    · rw [e, ← len_tl]
      omega
    · walk_at "wp"
      refine isi_str ?_
      walk_at "wp"
      rw [e, mk_tl, decide_eq_true rfl]
      exact q _ s1
theorem sc_law_letters : FnScope N_law_letters P_law_letters (defScope s_law_letters) := ⟨rfl, rfl, rfl, by decide +kernel, rfl, by decide +kernel, by decide +kernel⟩

theorem ok_law_letters {f : Addr} {fd : FuncData} (F : Fun K "_law_letters" "_law_letters" s_law_letters f fd) (B : Bn mg) (C_law_take : Cal P w K mg base 1 "_law_take" P_law_take (sp_law_take K)) : FnOk P w K mg base CX0 2 f fd P_law_letters (sp_law_letters K) := by
  have sc := sc_law_letters
  refine F.ok sc (fun vs H Q E h => ?_) (fun cdv A outer s H vs Q E hr h => ?_)
  · unfold sp_law_letters at h
    obtain ⟨_, _, rfl, _⟩ := h
    rfl
  · refine ⟨_, (pss_cons (ps_set (i := 2) sc.nd rfl (by first | exact Or.inl rfl | exact Or.inr rfl) (pe_str))
        (pss_cons (ps_for PassesOwn.never rfl (pi_range1 (by rfl) B.n_range (pa_cons (pv 1) (pa_nil))) (pg_name (i := 3) sc.nd rfl (by first | exact Or.inl rfl | exact Or.inr rfl))
        (pss_one (ps_set (i := 2) sc.nd rfl (by first | exact Or.inl rfl | exact Or.inr rfl) (pe_op op_add_str (pv 2) (pe_ix ix_str (pe_str) (pe_cal C_law_take hr (pa_cons (pv 0) (pa_cons (pe_int) (pa_nil)))) (fun _ _ => rfl))))))
        (pss_one (ps_ret (pv 2))))), ?_⟩
    unfold sp_law_letters at h
    obtain ⟨d, n, rfl, hD, h0, h1, q⟩ := h
    walk_at "wp"
    refine ⟨by omega, by omega, LpR.by (fun i σ H' => ∃ (z : Str) (y : Option V), σ = [some (.ref d), some (.int n), some (.str z), y] ∧ AZ z ∧ z.length = i ∧ Go d H H') ⟨_, none, rfl, AZ.nil, rfl, Go.refl hD⟩ ?_ ?_⟩
    · rintro i σ H' hi ⟨z, y, rfl, hz, hl, g⟩
      walk_at "wp"
      refine ⟨d, 26, rfl, g.dr, by decide, fun r H2 r0 r1 g2 => ?_⟩
      walk_at "wp"
      refine ⟨line_of (by rw [len_LET]; decide), 97 + r.toNat, at_LET r0 r1, ?_, _, _, rfl, hz.snoc (by omega), ?_, g.trans g2⟩
      · rw [hl]
        show i + 1 ≤ sizeLine
        exact line_of (by omega)
      · rw [Str.length_append, hl]
        rfl
    · rintro σ H' ⟨z, y, rfl, hz, hl, g⟩
      walk_at "wp"
      exact q z H' hz (by omega) g
theorem sc_law_numbered : FnScope N_law_numbered P_law_numbered (defScope s_law_numbered) := ⟨rfl, rfl, rfl, by decide +kernel, rfl, by decide +kernel, by decide +kernel⟩

theorem ok_law_numbered {f : Addr} {fd : FuncData} (F : Fun K "_law_numbered" "_law_numbered" s_law_numbered f fd) (B : Bn mg) (C_law_fold : Cal P w K mg base 1 "_law_fold" P_law_fold (sp_law_fold K)) (C_law_is_integer : Cal P w K mg base 1 "_law_is_integer" P_law_is_integer (sp_law_is_integer K)) (Cword_at : Cal P w K mg base 1 "word_at" P_word_at (sp_word_at K)) (Cword_number : Cal P w K mg base 1 "word_number" P_word_number (sp_word_number K)) : FnOk P w K mg base CX0 2 f fd P_law_numbered (sp_law_numbered K) := by
  have sc := sc_law_numbered
  refine F.ok sc (fun vs H Q E h => ?_) (fun cdv A outer s H vs Q E hr h => ?_)
  · unfold sp_law_numbered at h
    obtain ⟨_, rfl, _⟩ := h
    rfl
  · refine ⟨_, (pss_cons (ps_set (i := 1) sc.nd rfl (by first | exact Or.inl rfl | exact Or.inr rfl) (pe_cal Cword_at hr (pa_cons (pv 0) (pa_nil))))
        (pss_cons (ps_if (pt_not (pt_val (pe_callB call_isi (by rfl) B.n_isinstance boot_isinstance (pa_cons (pv 1) (pa_cons ((pe_bltn (v := .ty "str") (by rfl) B.n_str boot_str rfl)) (pa_nil))))))
        (pss_one (ps_ret (pe_bl)))
        pss_nil)
        (pss_cons (ps_for PassesOwn.never rfl (pi_str (pv 1)) (pg_name (i := 2) sc.nd rfl (by first | exact Or.inl rfl | exact Or.inr rfl))
        (pss_one (ps_if (pt_cmpR op_notIn_sign (pv 2) (pe_str) (by rfl))
        (pss_one (ps_ret (pe_bl)))
        pss_nil)))
        (pss_cons (ps_set (i := 3) sc.nd rfl (by first | exact Or.inl rfl | exact Or.inr rfl) (pe_cal Cword_number hr (pa_cons (pv 1) (pa_nil))))
        (pss_one (ps_ret ((pe_and (pe_cmpR op_eq (pe_cal C_law_fold hr (pa_cons (pv 1) (pa_nil))) (pv 0) (nomark _)) (pe_and (pe_cal C_law_is_integer hr (pa_cons (pv 3) (pa_nil))) (pe_one (pe_cmpR op_eq (pv 3) (pv 0) (nomark _)))))))))))), ?_⟩
    unfold sp_law_numbered at h
    obtain ⟨n, rfl, hz, q⟩ := h
    have az : AZ ⟨(atw n).toArray⟩ := fun c hc => atw_az n c (by simpa using hc)
    walk_at "wp"
    refine ⟨n, rfl, hz, fun H1 s1 => ?_⟩
    walk_at "wp"
    refine isi_str ?_
    walk_at "wp"
    refine LpS.by (fun i σ H' => H' = H1 ∧ ∃ y, σ = [some (.int n), some (.str ⟨(atw n).toArray⟩), y, none]) ⟨rfl, none, rfl⟩ ?_ ?_
    · rintro i c σ H' hi ⟨rfl, y, rfl⟩
      have hc := az c (List.mem_of_getElem? hi)
      walk_at "wp"
      refine ⟨c, rfl, ?_⟩
      rw [if_neg (fun z => z (mem_LET.mpr hc))]
      exact ⟨some (.str ⟨#[c]⟩), rfl⟩
    · rintro σ H' ⟨rfl, y, rfl⟩
      walk_at "wp"
      refine ⟨_, rfl, az, ?_⟩
      walk_at "wp"
      refine ⟨_, rfl, az, ?_⟩
      have e : wnum (tl ⟨(atw n).toArray⟩) = n := by
        rw [show tl ⟨(atw n).toArray⟩ = atw n by simp]
        exact wnum_atw n
      walk_at "wp"
      rw [e]
      simp only [decide_true, exists_eq_left', if_true]
      refine ⟨_, rfl, ?_⟩
      walk_at "wp"
      exact q _ s1
theorem sc_law_other : FnScope N_law_other P_law_other (defScope s_law_other) := ⟨rfl, rfl, rfl, by decide +kernel, rfl, by decide +kernel, by decide +kernel⟩

theorem ok_law_other {f : Addr} {fd : FuncData} (F : Fun K "_law_other" "_law_other" s_law_other f fd) (B : Bn mg) (C_law_letters : Cal P w K mg base 2 "_law_letters" P_law_letters (sp_law_letters K)) (C_law_take : Cal P w K mg base 1 "_law_take" P_law_take (sp_law_take K)) : FnOk P w K mg base CX0 3 f fd P_law_other (sp_law_other K) := by
  have sc := sc_law_other
  refine F.ok sc (fun vs H Q E h => ?_) (fun cdv A outer s H vs Q E hr h => ?_)
  · unfold sp_law_other at h
    obtain ⟨_, _, rfl, _⟩ := h
    rfl
  · refine ⟨_, (pss_cons (ps_set (i := 2) sc.nd rfl (by first | exact Or.inl rfl | exact Or.inr rfl) (pe_cal C_law_take hr (pa_cons (pv 0) (pa_cons (pe_int) (pa_nil)))))
        (pss_cons (ps_if (pt_cmpR op_eq (pv 2) (pe_int) (nomark _))
        (pss_one (ps_ret (pe_cal C_law_letters hr (pa_cons (pv 0) (pa_cons (pe_op op_add (pe_int) (pe_cal C_law_take hr (pa_cons (pv 0) (pa_cons (pe_int) (pa_nil))))) (pa_nil))))))
        pss_nil)
        (pss_cons (ps_if (pt_cmpR op_eq (pv 2) (pe_int) (nomark _))
        (pss_cons (ps_set (i := 3) sc.nd rfl (by first | exact Or.inl rfl | exact Or.inr rfl) (pe_cal C_law_take hr (pa_cons (pv 0) (pa_cons (pe_callB call_len_str (by rfl) B.n_len boot_len (pa_cons (pv 1) (pa_nil))) (pa_nil)))))
        (pss_one (ps_ret (pe_op op_add_str (pe_op op_add_str (pe_slice sl_str (pv 1) po_none (po_some (pv 3))) (pe_cal C_law_letters hr (pa_cons (pv 0) (pa_cons (pe_int) (pa_nil))))) (pe_slice sl_str (pv 1) (po_some (pe_op op_add (pv 3) (pe_int))) po_none)))))
        pss_nil)
        (pss_cons (ps_if (pt_cmpR op_eq (pv 2) (pe_int) (nomark _))
        (pss_one (ps_ret (pe_op op_add_str (pv 1) (pe_cal C_law_letters hr (pa_cons (pv 0) (pa_cons (pe_int) (pa_nil)))))))
        pss_nil)
        (pss_one (ps_ret (pe_slice sl_str (pv 1) (po_some (pe_int)) po_none))))))), ?_⟩
    unfold sp_law_other at h
    obtain ⟨d, z, rfl, hD, hz, h1, h2, q⟩ := h
    have zl : z.length ≤ sizeLine := line_of (by omega)
    walk_at "wp"
    refine ⟨d, 4, rfl, hD, by decide, fun r H1 r0 r1 g1 => ?_⟩
    walk_at "wp"
    refine ite2 (fun _ => ?_) (fun _ => ite2 (fun _ => ?_) (fun _ => ite2 (fun _ => ?_) (fun _ => ?_)))
    · refine ⟨d, 6, rfl, g1.dr, by decide, fun n H2 n0 n1 g2 => ?_⟩
      walk_at "wp"
      refine ⟨d, 1 + n, rfl, g2.dr, by omega, by omega, fun y H3 hy yl g3 => q y H3 hy (by omega) ((g1.trans g2).trans g3)⟩
    · refine ⟨zl, d, (z.length : Nat), rfl, g1.dr, by omega, fun n H2 n0 n1 g2 => ?_⟩
      walk_at "wp"
      refine ⟨zl, d, 1, rfl, g2.dr, by decide, by decide, fun y H3 hy yl g3 => ?_⟩
      walk_at "wp"
      have c1 := len_cut z none (some n)
      have c2 := len_cut z (some (n + 1)) none
      refine ⟨line_of (by omega), zl, line_of (by rw [len_app]; omega), q _ _ (((hz.cut).app hy).app hz.cut) ?_ ((g1.trans g2).trans g3)⟩
      rw [len_app, len_app]
      have c3 : (cutS z none (some n)).length + (cutS z (some (n + 1)) none).length ≤ z.length := by
        rw [len_tl, len_tl, len_tl]
        show ((z.cps.toList.drop (HT.sIx z.length 0 none)).take (HT.sIx z.length z.length (some n) - HT.sIx z.length 0 none)).length + ((z.cps.toList.drop (HT.sIx z.length 0 (some (n + 1)))).take (HT.sIx z.length z.length none - HT.sIx z.length 0 (some (n + 1)))).length ≤ z.cps.toList.length
        obtain ⟨m, rfl⟩ : ∃ m : Nat, n = (m : Int) := ⟨n.toNat, by omega⟩
        have e0 : HT.sIx z.length 0 (some ((m : Int) + 1)) = min (m + 1) z.length := HT.sIx_nat z.length 0 (m + 1)
        rw [HT.sIx_nat, e0, HT.sIx_none, HT.sIx_none, List.length_take, List.length_take, List.length_drop, List.length_drop]
        omega
      omega
    · refine ⟨d, 1, rfl, g1.dr, by decide, by decide, fun y H3 hy yl g3 => ?_⟩
      walk_at "wp"
      refine ⟨line_of (by omega), q _ _ (hz.app hy) (by rw [len_app]; omega) (g1.trans g3)⟩
    · have c1 := len_cut z (some 1) none
      exact ⟨zl, q _ _ hz.cut (by omega) g1⟩
theorem sc_law : FnScope N_law P_law (defScope s_law) := ⟨rfl, rfl, rfl, by decide +kernel, rfl, by decide +kernel, by decide +kernel⟩
theorem small_len {e : Nat} (h : e < 2 ^ 100) : (atw e).length ≤ 16000000 := Nat.le_trans (atw_len 100 e h) (by decide)

theorem ok_law {f : Addr} {fd : FuncData} (F : Fun K "law" "law" s_law f fd) (B : Bn mg) (C_law_cell : Cal P w K mg base 2 "_law_cell" P_law_cell (sp_law_cell K)) (C_law_draws : Cal P w K mg base 1 "_law_draws" P_law_draws (sp_law_draws K)) (C_law_known : Cal P w K mg base 2 "_law_known" P_law_known (sp_law_known K)) (C_law_letters : Cal P w K mg base 2 "_law_letters" P_law_letters (sp_law_letters K)) (C_law_numbered : Cal P w K mg base 2 "_law_numbered" P_law_numbered (sp_law_numbered K)) (C_law_other : Cal P w K mg base 3 "_law_other" P_law_other (sp_law_other K)) (C_law_take : Cal P w K mg base 1 "_law_take" P_law_take (sp_law_take K)) (Cword_number : Cal P w K mg base 1 "word_number" P_word_number (sp_word_number K)) : FnOk P w K mg base CX0 4 f fd P_law (sp_law K) := by
  have sc := sc_law
  refine F.ok sc (fun vs H Q E h => ?_) (fun cdv A outer s H vs Q E hr h => ?_)
  · unfold sp_law at h
    obtain ⟨_, _, rfl, _⟩ := h
    rfl
  · refine ⟨_, (pss_cons (ps_set (i := 1) sc.nd rfl (by first | exact Or.inl rfl | exact Or.inr rfl) (pe_cal C_law_draws hr (pa_cons (pv 0) (pa_cons (pe_int) (pa_nil)))))
        (pss_cons (ps_set (i := 2) sc.nd rfl (by first | exact Or.inl rfl | exact Or.inr rfl) (pe_callB call_abs (by rfl) B.n_abs boot_abs (pa_cons (pe_cal C_law_cell hr (pa_cons (pv 0) (pa_cons (pv 1) (pa_nil)))) (pa_nil))))
        (pss_cons (ps_set (i := 3) sc.nd rfl (by first | exact Or.inl rfl | exact Or.inr rfl) (pe_ix ix_list (pe_lst (pa_cons (pe_int) (pa_cons (pe_int) (pa_cons (pe_int) (pa_cons (pe_int) (pa_nil)))))) (pe_cal C_law_take hr (pa_cons (pv 1) (pa_cons (pe_int) (pa_nil)))) (fun _ _ => rfl)))
        (pss_cons (ps_set (i := 4) sc.nd rfl (by first | exact Or.inl rfl | exact Or.inr rfl) (pe_cal C_law_letters hr (pa_cons (pv 1) (pa_cons (pe_op op_add (pe_int) (pe_cal C_law_take hr (pa_cons (pv 1) (pa_cons (pv 3) (pa_nil))))) (pa_nil)))))
        (pss_cons (ps_set (i := 5) sc.nd rfl (by first | exact Or.inl rfl | exact Or.inr rfl) (pe_cal C_law_other hr (pa_cons (pv 1) (pa_cons (pv 4) (pa_nil)))))
        (pss_cons (ps_for PassesOwn.never rfl (pi_list (pe_lst (pa_cons (pv 4) (pa_cons (pv 5) (pa_cons (pe_str) (pa_nil)))))) (pg_name (i := 6) sc.nd rfl (by first | exact Or.inl rfl | exact Or.inr rfl))
        (pss_one (ps_if (pt_not (pt_val (pe_cal C_law_known hr (pa_cons (pv 6) (pa_nil)))))
        (pss_one (ps_ret (pe_bl)))
        pss_nil)))
        (Evl.pss_cut (ps_set (i := 7) sc.nd rfl (by first | exact Or.inl rfl | exact Or.inr rfl) ((pe_or (pe_cmpR op_lt (pe_callB call_len_str (by rfl) B.n_len boot_len (pa_cons (pv 4) (pa_nil))) (pe_callB call_len_str (by rfl) B.n_len boot_len (pa_cons (pv 5) (pa_nil))) (nomark _)) (pe_one ((pe_and (pe_cmpR op_eq (pe_callB call_len_str (by rfl) B.n_len boot_len (pa_cons (pv 4) (pa_nil))) (pe_callB call_len_str (by rfl) B.n_len boot_len (pa_cons (pv 5) (pa_nil))) (nomark _)) (pe_one (pe_cmpR op_lt_str (pv 4) (pv 5) (nomark _)))))))))
        (pss_cons (ps_if (pt_cmpR op_ne (pe_cmpR op_lt (pe_cal Cword_number hr (pa_cons (pv 4) (pa_nil))) (pe_cal Cword_number hr (pa_cons (pv 5) (pa_nil))) (nomark _)) (pv 7) (nomark _))
        (pss_one (ps_ret (pe_bl)))
        pss_nil)
        (pss_cons (ps_set (i := 8) sc.nd rfl (by first | exact Or.inl rfl | exact Or.inr rfl) (pe_int))
        (pss_cons (ps_for PassesOwn.never rfl (pi_range1 (by rfl) B.n_range (pa_cons (pe_cal C_law_take hr (pa_cons (pv 1) (pa_cons (pe_int) (pa_nil)))) (pa_nil))) (pg_name (i := 9) sc.nd rfl (by first | exact Or.inl rfl | exact Or.inr rfl))
        (pss_one (ps_set (i := 8) sc.nd rfl (by first | exact Or.inl rfl | exact Or.inr rfl) (pe_op op_add (pe_op op_mul (pv 8) (pe_int)) (pe_int)))))
        (pss_cons (ps_for PassesOwn.never rfl (pi_list (pe_lst (pa_cons (pv 2) (pa_cons (pv 8) (pa_cons (pe_op op_add (pv 8) (pe_int)) (pa_cons (pe_callB (call_max2 rfl) (by rfl) B.n_max boot_max (pa_cons (pe_int) (pa_cons (pe_op op_sub (pv 8) (pe_int)) (pa_nil)))) (pa_nil))))))) (pg_name (i := 10) sc.nd rfl (by first | exact Or.inl rfl | exact Or.inr rfl))
        (pss_one (ps_if (pt_not (pt_val (pe_cal C_law_numbered hr (pa_cons (pv 10) (pa_nil)))))
        (pss_one (ps_ret (pe_bl)))
        pss_nil)))
        (pss_one (ps_ret (pe_bl)))))))))))))), ?_⟩
    unfold sp_law at h
    obtain ⟨a, ns, rfl, hS, hlen, hbits, q⟩ := h
    walk_at "wp"
    refine ⟨a, ns, 58, rfl, hS, by omega, by decide, by decide, fun d H1 nd s1 D1 => ?_⟩
    walk_at "wp"
    refine ⟨a, d, ns, rfl, ⟨H, s1, nd, hS⟩, D1, fun v H2 hv g2 => ?_⟩
    obtain ⟨gr, hgr⟩ : ∃ gr : Nat, gr = v.natAbs := ⟨_, rfl⟩
    have hgl : (atw gr).length ≤ 16000000 := by
      rcases hv with e | e
      · subst e
        rw [hgr]
        exact Nat.le_trans (Nat.le_of_eq (by rw [show (0 : Int).natAbs = 0 from rfl, atw_zero]; rfl)) (Nat.zero_le _)
      · exact bits_len (hbits v e) hgr
    walk_at "wp"
    have eg : (if v < 0 then -v else v) = (gr : Int) := by
      rw [hgr]
      split <;> omega
    rw [eg]
    refine ⟨line_of (by decide), fun p np => ?_⟩
    have npd := Go.ne g2.dr np
    have g3 : Go d H1 (upd H2 p (.lst [.int 2, .int 4, .int 12, .int 40])) := g2.new np
    refine ⟨d, 4, rfl, g3.dr, by decide, fun r H3 r0 r1 g4 => ?_⟩
    walk_at "wp"
    have hp3 : H3 p = some (.lst [.int 2, .int 4, .int 12, .int 40]) := g4.fr _ _ npd upd_same
    obtain ⟨l, el, l0, l1⟩ : ∃ l : Int, atI [V.int 2, V.int 4, V.int 12, V.int 40] r = some (.int l) ∧ 1 ≤ l ∧ l ≤ 40 := by
      obtain ⟨u, e1, e2⟩ := at_lt (xs := [V.int 2, V.int 4, V.int 12, V.int 40]) (z := r) r0 r1
      have hm := List.mem_of_getElem? e2
      simp only [List.mem_cons, List.not_mem_nil, or_false] at hm
      rcases hm with rfl | rfl | rfl | rfl
      · exact ⟨_, e1, by decide, by decide⟩
      · exact ⟨_, e1, by decide, by decide⟩
      · exact ⟨_, e1, by decide, by decide⟩
      · exact ⟨_, e1, by decide, by decide⟩
    refine ⟨_, SqL.of hp3, _, el, ?_⟩
    refine ⟨d, l, rfl, g4.dr, by omega, fun n H4 n0 n1 g5 => ?_⟩
    walk_at "wp"
    refine ⟨d, 1 + n, rfl, g5.dr, by omega, by omega, fun one H5 a1 o1 g6 => ?_⟩
    walk_at "wp"
    refine ⟨d, one, rfl, g6.dr, a1, by omega, by omega, fun two H6 a2 o2 g7 => ?_⟩
    walk_at "wp"
    refine ⟨line_of (by show 3 ≤ _; decide), fun c nc => ⟨⟨_, SqL.of upd_same⟩, ?_⟩⟩
    have g8 : Go d H1 (upd H6 c (.lst [.str one, .str two, .str ""])) := (((((g3.trans g4).trans g5).trans g6).trans g7).new nc)
    have ncd := Go.ne g7.dr nc
    have ol : one.length ≤ 41 := by omega
    refine LpL.by [.str one, .str two, .str ""] (fun i σ H' => (∃ y, σ = [some (.ref a), some (.ref d), some (.int gr), some (.int l), some (.str one), some (.str two), y, none, none, none, none]) ∧ Go d H1 H' ∧ H' c = some (.lst [.str one, .str two, .str ""])) ⟨⟨none, rfl⟩, g8, upd_same⟩ (fun i σ H' _ h => SqL.of h.2.2) ?_ ?_
    · rintro i x σ H' hi ⟨⟨y, rfl⟩, g, hc⟩
      obtain ⟨z, rfl, az, zl⟩ : ∃ z : Str, x = .str z ∧ AZ z ∧ z.length ≤ 1000000 := by
        have hm := List.mem_of_getElem? hi
        simp only [List.mem_cons, List.not_mem_nil, or_false] at hm
        rcases hm with rfl | rfl | rfl
        · exact ⟨_, rfl, a1, by omega⟩
        · exact ⟨_, rfl, a2, by omega⟩
        · exact ⟨_, rfl, AZ.nil, by decide⟩
      walk_at "wp"
      refine ⟨z, rfl, az, zl, fun H7 s7 => ?_⟩
      walk_at "wp"
      exact ⟨⟨some (.str z), rfl⟩, g.same s7, s7 _ _ hc⟩
    · rintro σ H7 ⟨⟨y, rfl⟩, g, hc⟩
      walk_at "wp"
      refine ⟨fun σ' H' => σ' = [some (.ref a), some (.ref d), some (.int gr), some (.int l), some (.str one), some (.str two), y, some (.bl (decide (wnum (tl one) < wnum (tl two)))), none, none, none] ∧ H' = H7, ?_, ?_⟩
      · have w1 := wnum_lt a1 a2
        rw [← len_tl, ← len_tl] at w1
        have f1 : one.length ≤ sizeLine := line_of (by omega)
        have f2 : two.length ≤ sizeLine := line_of (by omega)
        walk_at "wp"
        refine ⟨f1, f2, ite2 (fun e => ?_) (fun e => ⟨f1, f2, ite2 (fun e2 => ?_) (fun e2 => ?_)⟩)⟩
        · rw [decide_eq_true (w1.mpr (.inl (by omega)))]
        · have : decide (one.cps.toList < two.cps.toList) = decide (wnum (tl one) < wnum (tl two)) := by
            refine decide_eq_decide.mpr ⟨fun h => w1.mpr (.inr ⟨by omega, h⟩), fun h => ?_⟩
            rcases w1.mp h with k | k
            · omega
            · exact k.2
          rw [this]
        · rw [decide_eq_false (fun h => (w1.mp h).elim (fun k => by omega) (fun k => by omega))]
      · rintro σ' H' ⟨rfl, rfl⟩
        walk_at "wp"
        refine ⟨one, rfl, a1, ?_⟩
        walk_at "wp"
        refine ⟨two, rfl, a2, ?_⟩
        walk_at "wp"
        simp only [not_true, if_false]
        refine ⟨d, 13, rfl, g.dr, by decide, fun t H8 t0 t1 g9 => ?_⟩
        walk_at "wp"
        refine ⟨by omega, by omega, LpR.by (fun i σ H' => H' = H8 ∧ ∃ (e : Nat) (y9 : Option V), σ = [some (.ref a), some (.ref d), some (.int gr), some (.int l), some (.str one), some (.str two), y, some (.bl (decide (wnum (tl one) < wnum (tl two)))), some (.int e), y9, none] ∧ e + 2 ≤ 27 ^ (i + 1)) ⟨rfl, 0, none, rfl, by decide⟩ ?_ ?_⟩
        · rintro i σ H' hi ⟨rfl, e, y9, rfl, he⟩
          walk_at "wp"
          refine ⟨.inr ⟨by decide, by decide⟩, e * 26 + 26, _, by rw [Int.natCast_add, Int.natCast_mul]; rfl, ?_⟩
          rw [Nat.pow_succ]
          omega
        · rintro σ H' ⟨rfl, e, y9, rfl, he⟩
          have he2 : e + 2 ≤ 27 ^ 13 := Nat.le_trans he (Nat.pow_le_pow_right (by decide) (by omega))
          have he3 : e + 2 ≤ 4052555153018976267 := he2
          walk_at "wp"
          refine ⟨line_of (by show 4 ≤ _; decide), fun u nu => ⟨⟨_, SqL.of upd_same⟩, ?_⟩⟩
          have em : (if (e : Int) - 1 > 0 then (e : Int) - 1 else 0) = ((e - 1 : Nat) : Int) := by split <;> omega
          rw [em]
          refine LpL.by _ (fun i σ H' => (∃ y10, σ = [some (.ref a), some (.ref d), some (.int gr), some (.int l), some (.str one), some (.str two), y, some (.bl (decide (wnum (tl one) < wnum (tl two)))), some (.int e), y9, y10]) ∧ H' u = some (.lst [.int gr, .int e, .int (e + 1), .int ((e - 1 : Nat) : Int)])) ⟨⟨none, rfl⟩, upd_same⟩ (fun i σ H' _ h => SqL.of h.2) ?_ ?_
          · rintro i x σ H' hi ⟨⟨y10, rfl⟩, hu⟩
            obtain ⟨n, rfl, nl⟩ : ∃ n : Nat, x = .int n ∧ (atw n).length ≤ 16000000 := by
              have hm := List.mem_of_getElem? hi
              simp only [List.mem_cons, List.not_mem_nil, or_false] at hm
              rcases hm with rfl | rfl | rfl | rfl
              · exact ⟨_, rfl, hgl⟩
              · exact ⟨_, rfl, small_len (by omega)⟩
              · exact ⟨e + 1, rfl, small_len (by omega)⟩
              · exact ⟨_, rfl, small_len (by omega)⟩
            walk_at "wp"
            refine ⟨n, rfl, nl, fun H9 s9 => ?_⟩
            walk_at "wp"
            exact ⟨⟨some (.int n), rfl⟩, s9 _ _ hu⟩
          · rintro σ H' ⟨⟨y10, rfl⟩, hu⟩
            walk_at "wp"
            exact q _
end
theorem all_mk {l : PySem.W.OpenLaw} {w : World} {K : PySem.W.Frag} {h : Heap} {mg : Str → Option Value} {fa : Addr} (X : K.In h) (G : h.Ns mainGlobals mg) (hfa : mg "law" = some (.ref fa)) {v_LETTERS : Value} (z_LETTERS : PySem.W.nsIn K mainGlobals "LETTERS" = some (some v_LETTERS)) (r_LETTERS : RelV (.str "abcdefghijklmnopqrstuvwxyz") v_LETTERS) (z_abs : PySem.W.nsIn K mainGlobals "abs" = some none) (z_bool : PySem.W.nsIn K mainGlobals "bool" = some none) (z_divmod : PySem.W.nsIn K mainGlobals "divmod" = some none) (z_int : PySem.W.nsIn K mainGlobals "int" = some none) (z_isinstance : PySem.W.nsIn K mainGlobals "isinstance" = some none) (z_len : PySem.W.nsIn K mainGlobals "len" = some none) (z_list : PySem.W.nsIn K mainGlobals "list" = some none) (z_max : PySem.W.nsIn K mainGlobals "max" = some none) (z_range : PySem.W.nsIn K mainGlobals "range" = some none) (z_str : PySem.W.nsIn K mainGlobals "str" = some none)
    {f0 : Addr} {od0 an0 : Option Addr} {sl0 : Array (Option Value)} {oc0 kV0 dc0 pm0 cd0 ct0 : Value}
    (a0 : PySem.W.nsIn K mainGlobals "_law_take" = some (some (.ref f0))) (l0 : K.lookup f0 = some ⟨oc0, od0, .func (PySem.W.fnOf "_law_take" "_law_take" (defArgs s_law_take) (defBody s_law_take) (defScope s_law_take) .none kV0 dc0 pm0 an0 cd0 ct0), sl0⟩) (c0 : PySem.W.codeIn K cd0 "_law_take" = true) (k0 : PySem.W.keepIn K (.ref f0) = true)
    {f1 : Addr} {od1 an1 : Option Addr} {sl1 : Array (Option Value)} {oc1 kV1 dc1 pm1 cd1 ct1 : Value}
    (a1 : PySem.W.nsIn K mainGlobals "_law_cell" = some (some (.ref f1))) (l1 : K.lookup f1 = some ⟨oc1, od1, .func (PySem.W.fnOf "_law_cell" "_law_cell" (defArgs s_law_cell) (defBody s_law_cell) (defScope s_law_cell) .none kV1 dc1 pm1 an1 cd1 ct1), sl1⟩) (c1 : PySem.W.codeIn K cd1 "_law_cell" = true) (k1 : PySem.W.keepIn K (.ref f1) = true)
    {f2 : Addr} {od2 an2 : Option Addr} {sl2 : Array (Option Value)} {oc2 kV2 dc2 pm2 cd2 ct2 : Value}
    (a2 : PySem.W.nsIn K mainGlobals "_law_draws" = some (some (.ref f2))) (l2 : K.lookup f2 = some ⟨oc2, od2, .func (PySem.W.fnOf "_law_draws" "_law_draws" (defArgs s_law_draws) (defBody s_law_draws) (defScope s_law_draws) .none kV2 dc2 pm2 an2 cd2 ct2), sl2⟩) (c2 : PySem.W.codeIn K cd2 "_law_draws" = true) (k2 : PySem.W.keepIn K (.ref f2) = true)
    {f3 : Addr} {od3 an3 : Option Addr} {sl3 : Array (Option Value)} {oc3 kV3 dc3 pm3 cd3 ct3 : Value}
    (a3 : PySem.W.nsIn K mainGlobals "_law_fold" = some (some (.ref f3))) (l3 : K.lookup f3 = some ⟨oc3, od3, .func (PySem.W.fnOf "_law_fold" "_law_fold" (defArgs s_law_fold) (defBody s_law_fold) (defScope s_law_fold) .none kV3 dc3 pm3 an3 cd3 ct3), sl3⟩) (c3 : PySem.W.codeIn K cd3 "_law_fold" = true) (k3 : PySem.W.keepIn K (.ref f3) = true)
    {f4 : Addr} {od4 an4 : Option Addr} {sl4 : Array (Option Value)} {oc4 kV4 dc4 pm4 cd4 ct4 : Value}
    (a4 : PySem.W.nsIn K mainGlobals "_law_is_integer" = some (some (.ref f4))) (l4 : K.lookup f4 = some ⟨oc4, od4, .func (PySem.W.fnOf "_law_is_integer" "_law_is_integer" (defArgs s_law_is_integer) (defBody s_law_is_integer) (defScope s_law_is_integer) .none kV4 dc4 pm4 an4 cd4 ct4), sl4⟩) (c4 : PySem.W.codeIn K cd4 "_law_is_integer" = true) (k4 : PySem.W.keepIn K (.ref f4) = true)
    {f5 : Addr} {od5 an5 : Option Addr} {sl5 : Array (Option Value)} {oc5 kV5 dc5 pm5 cd5 ct5 : Value}
    (a5 : PySem.W.nsIn K mainGlobals "word_at" = some (some (.ref f5))) (l5 : K.lookup f5 = some ⟨oc5, od5, .func (PySem.W.fnOf "word_at" "word_at" (defArgs s_word_at) (defBody s_word_at) (defScope s_word_at) .none kV5 dc5 pm5 an5 cd5 ct5), sl5⟩) (c5 : PySem.W.codeIn K cd5 "word_at" = true) (k5 : PySem.W.keepIn K (.ref f5) = true)
    {f6 : Addr} {od6 an6 : Option Addr} {sl6 : Array (Option Value)} {oc6 kV6 dc6 pm6 cd6 ct6 : Value}
    (a6 : PySem.W.nsIn K mainGlobals "word_number" = some (some (.ref f6))) (l6 : K.lookup f6 = some ⟨oc6, od6, .func (PySem.W.fnOf "word_number" "word_number" (defArgs s_word_number) (defBody s_word_number) (defScope s_word_number) .none kV6 dc6 pm6 an6 cd6 ct6), sl6⟩) (c6 : PySem.W.codeIn K cd6 "word_number" = true) (k6 : PySem.W.keepIn K (.ref f6) = true)
    {f7 : Addr} {od7 an7 : Option Addr} {sl7 : Array (Option Value)} {oc7 kV7 dc7 pm7 cd7 ct7 : Value}
    (a7 : PySem.W.nsIn K mainGlobals "_law_known" = some (some (.ref f7))) (l7 : K.lookup f7 = some ⟨oc7, od7, .func (PySem.W.fnOf "_law_known" "_law_known" (defArgs s_law_known) (defBody s_law_known) (defScope s_law_known) .none kV7 dc7 pm7 an7 cd7 ct7), sl7⟩) (c7 : PySem.W.codeIn K cd7 "_law_known" = true) (k7 : PySem.W.keepIn K (.ref f7) = true)
    {f8 : Addr} {od8 an8 : Option Addr} {sl8 : Array (Option Value)} {oc8 kV8 dc8 pm8 cd8 ct8 : Value}
    (a8 : PySem.W.nsIn K mainGlobals "_law_letters" = some (some (.ref f8))) (l8 : K.lookup f8 = some ⟨oc8, od8, .func (PySem.W.fnOf "_law_letters" "_law_letters" (defArgs s_law_letters) (defBody s_law_letters) (defScope s_law_letters) .none kV8 dc8 pm8 an8 cd8 ct8), sl8⟩) (c8 : PySem.W.codeIn K cd8 "_law_letters" = true) (k8 : PySem.W.keepIn K (.ref f8) = true)
    {f9 : Addr} {od9 an9 : Option Addr} {sl9 : Array (Option Value)} {oc9 kV9 dc9 pm9 cd9 ct9 : Value}
    (a9 : PySem.W.nsIn K mainGlobals "_law_numbered" = some (some (.ref f9))) (l9 : K.lookup f9 = some ⟨oc9, od9, .func (PySem.W.fnOf "_law_numbered" "_law_numbered" (defArgs s_law_numbered) (defBody s_law_numbered) (defScope s_law_numbered) .none kV9 dc9 pm9 an9 cd9 ct9), sl9⟩) (c9 : PySem.W.codeIn K cd9 "_law_numbered" = true) (k9 : PySem.W.keepIn K (.ref f9) = true)
    {f10 : Addr} {od10 an10 : Option Addr} {sl10 : Array (Option Value)} {oc10 kV10 dc10 pm10 cd10 ct10 : Value}
    (a10 : PySem.W.nsIn K mainGlobals "_law_other" = some (some (.ref f10))) (l10 : K.lookup f10 = some ⟨oc10, od10, .func (PySem.W.fnOf "_law_other" "_law_other" (defArgs s_law_other) (defBody s_law_other) (defScope s_law_other) .none kV10 dc10 pm10 an10 cd10 ct10), sl10⟩) (c10 : PySem.W.codeIn K cd10 "_law_other" = true) (k10 : PySem.W.keepIn K (.ref f10) = true)
    {f11 : Addr} {od11 an11 : Option Addr} {sl11 : Array (Option Value)} {oc11 kV11 dc11 pm11 cd11 ct11 : Value}
    (a11 : PySem.W.nsIn K mainGlobals "law" = some (some (.ref f11))) (l11 : K.lookup f11 = some ⟨oc11, od11, .func (PySem.W.fnOf "law" "law" (defArgs s_law) (defBody s_law) (defScope s_law) .none kV11 dc11 pm11 an11 cd11 ct11), sl11⟩) (c11 : PySem.W.codeIn K cd11 "law" = true) (k11 : PySem.W.keepIn K (.ref f11) = true)
    : ∃ fd : FuncData, (∀ (s : Shared) (v : Value), BindsTo s fd ⟨[v], []⟩ [("script", v)]) ∧ ∀ base : Heap, K.In base → base.Ns mainGlobals mg → FnOk l.prog w K mg base CX0 4 fa fd ["script"] (sp_law K) := by
  have B : Bn mg := ⟨PySem.W.mg_none_of X G z_abs, PySem.W.mg_none_of X G z_bool, PySem.W.mg_none_of X G z_divmod, PySem.W.mg_none_of X G z_int, PySem.W.mg_none_of X G z_isinstance, PySem.W.mg_none_of X G z_len, PySem.W.mg_none_of X G z_list, PySem.W.mg_none_of X G z_max, PySem.W.mg_none_of X G z_range, PySem.W.mg_none_of X G z_str, (let ⟨t, e⟩ := r_LETTERS; ⟨t, e ▸ PySem.W.mg_of X G z_LETTERS⟩)⟩
  have e := hfa.symm.trans (PySem.W.mg_of X G a11)
  cases e
  have F0 := fun_mk (st := s_law_take) l0 c0 k0
  have b0 := F0.binds (ps := P_law_take) fun _ _ _ _ _ _ us hl => match us, hl with | [_, _], _ => rfl
  have F1 := fun_mk (st := s_law_cell) l1 c1 k1
  have b1 := F1.binds (ps := P_law_cell) fun _ _ _ _ _ _ us hl => match us, hl with | [_, _], _ => rfl
  have F2 := fun_mk (st := s_law_draws) l2 c2 k2
  have b2 := F2.binds (ps := P_law_draws) fun _ _ _ _ _ _ us hl => match us, hl with | [_, _], _ => rfl
  have F3 := fun_mk (st := s_law_fold) l3 c3 k3
  have b3 := F3.binds (ps := P_law_fold) fun _ _ _ _ _ _ us hl => match us, hl with | [_], _ => rfl
  have F4 := fun_mk (st := s_law_is_integer) l4 c4 k4
  have b4 := F4.binds (ps := P_law_is_integer) fun _ _ _ _ _ _ us hl => match us, hl with | [_], _ => rfl
  have F5 := fun_mk (st := s_word_at) l5 c5 k5
  have b5 := F5.binds (ps := P_word_at) fun _ _ _ _ _ _ us hl => match us, hl with | [_], _ => rfl
  have F6 := fun_mk (st := s_word_number) l6 c6 k6
  have b6 := F6.binds (ps := P_word_number) fun _ _ _ _ _ _ us hl => match us, hl with | [_], _ => rfl
  have F7 := fun_mk (st := s_law_known) l7 c7 k7
  have b7 := F7.binds (ps := P_law_known) fun _ _ _ _ _ _ us hl => match us, hl with | [_], _ => rfl
  have F8 := fun_mk (st := s_law_letters) l8 c8 k8
  have b8 := F8.binds (ps := P_law_letters) fun _ _ _ _ _ _ us hl => match us, hl with | [_, _], _ => rfl
  have F9 := fun_mk (st := s_law_numbered) l9 c9 k9
  have b9 := F9.binds (ps := P_law_numbered) fun _ _ _ _ _ _ us hl => match us, hl with | [_], _ => rfl
  have F10 := fun_mk (st := s_law_other) l10 c10 k10
  have b10 := F10.binds (ps := P_law_other) fun _ _ _ _ _ _ us hl => match us, hl with | [_, _], _ => rfl
  have F11 := fun_mk (st := s_law) l11 c11 k11
  have b11 := F11.binds (ps := P_law) fun _ _ _ _ _ _ us hl => match us, hl with | [_], _ => rfl
  refine ⟨PySem.W.fnOf "law" "law" (defArgs s_law) (defBody s_law) (defScope s_law) .none kV11 dc11 pm11 an11 cd11 ct11, fun s v => .of_eq rfl, fun base _ _ => ?_⟩
  have C0 : Cal l.prog w K mg base 1 "_law_take" P_law_take (sp_law_take K) := ⟨f0, _, ok_law_take F0 B , PySem.W.mg_of X G a0, F0.kp, b0⟩
  have C1 : Cal l.prog w K mg base 2 "_law_cell" P_law_cell (sp_law_cell K) := ⟨f1, _, ok_law_cell F1 B C0, PySem.W.mg_of X G a1, F1.kp, b1⟩
  have C2 : Cal l.prog w K mg base 1 "_law_draws" P_law_draws (sp_law_draws K) := ⟨f2, _, ok_law_draws F2 B , PySem.W.mg_of X G a2, F2.kp, b2⟩
  have C3 : Cal l.prog w K mg base 1 "_law_fold" P_law_fold (sp_law_fold K) := ⟨f3, _, ok_law_fold F3 B , PySem.W.mg_of X G a3, F3.kp, b3⟩
  have C4 : Cal l.prog w K mg base 1 "_law_is_integer" P_law_is_integer (sp_law_is_integer K) := ⟨f4, _, ok_law_is_integer F4 B , PySem.W.mg_of X G a4, F4.kp, b4⟩
  have C5 : Cal l.prog w K mg base 1 "word_at" P_word_at (sp_word_at K) := ⟨f5, _, ok_word_at F5 B , PySem.W.mg_of X G a5, F5.kp, b5⟩
  have C6 : Cal l.prog w K mg base 1 "word_number" P_word_number (sp_word_number K) := ⟨f6, _, ok_word_number F6 B , PySem.W.mg_of X G a6, F6.kp, b6⟩
  have C7 : Cal l.prog w K mg base 2 "_law_known" P_law_known (sp_law_known K) := ⟨f7, _, ok_law_known F7 B C3 C4 C5 C6, PySem.W.mg_of X G a7, F7.kp, b7⟩
  have C8 : Cal l.prog w K mg base 2 "_law_letters" P_law_letters (sp_law_letters K) := ⟨f8, _, ok_law_letters F8 B C0, PySem.W.mg_of X G a8, F8.kp, b8⟩
  have C9 : Cal l.prog w K mg base 2 "_law_numbered" P_law_numbered (sp_law_numbered K) := ⟨f9, _, ok_law_numbered F9 B C3 C4 C5 C6, PySem.W.mg_of X G a9, F9.kp, b9⟩
  have C10 : Cal l.prog w K mg base 3 "_law_other" P_law_other (sp_law_other K) := ⟨f10, _, ok_law_other F10 B C8 C0, PySem.W.mg_of X G a10, F10.kp, b10⟩
  exact ok_law F11 B C1 C2 C7 C8 C9 C10 C0 C6
end My
open PySem PySem.W PyProof.Rows
set_option maxHeartbeats 0 in
theorem PySem.Challenge.cw_whomaywhat_k01_words_and_numbers_holds : PySem.Challenge.rw_whomaywhat_k01_words_and_numbers.Holds := by
  w_on; o_law; k_head; (case hw => w_witness2)
  k_fill
  refine L2.walk_ofB (l := PySem.Challenge.rw_whomaywhat_k01_words_and_numbers) (n := 63) (k := 4) (x := "script") (CX := fun _ => L2.CX0) (sp := fun w => My.sp_law _) rfl (by decide) rfl ⟨rfl, by decide, by decide⟩ (fun w h Y => PySem.W.kIn_of Y) ?F (fun _ _ a ns hl hb _ hS => ⟨a, ns, rfl, hS, hl, hb, fun _ => rfl⟩) (fun _ _ _ _ _ h => h)
  case F =>
    intro w mg fa h KX G hmg
    refine' My.all_mk KX G hmg ?z_LETTERS ?r_LETTERS ?z_abs ?z_bool ?z_divmod ?z_int ?z_isinstance ?z_len ?z_list ?z_max ?z_range ?z_str ?a0 ?l0 ?c0 ?k0 ?a1 ?l1 ?c1 ?k1 ?a2 ?l2 ?c2 ?k2 ?a3 ?l3 ?c3 ?k3 ?a4 ?l4 ?c4 ?k4 ?a5 ?l5 ?c5 ?k5 ?a6 ?l6 ?c6 ?k6 ?a7 ?l7 ?c7 ?k7 ?a8 ?l8 ?c8 ?k8 ?a9 ?l9 ?c9 ?k9 ?a10 ?l10 ?c10 ?k10 ?a11 ?l11 ?c11 ?k11
    (case z_LETTERS => k_is); (case r_LETTERS => exact ⟨_, rfl⟩); (case z_abs => k_is); (case z_bool => k_is); (case z_divmod => k_is); (case z_int => k_is); (case z_isinstance => k_is); (case z_len => k_is); (case z_list => k_is); (case z_max => k_is); (case z_range => k_is); (case z_str => k_is); (case a0 => k_is); (case l0 => k_is); (case c0 => k_is); (case k0 => k_is); (case a1 => k_is); (case l1 => k_is); (case c1 => k_is); (case k1 => k_is); (case a2 => k_is); (case l2 => k_is); (case c2 => k_is); (case k2 => k_is); (case a3 => k_is); (case l3 => k_is); (case c3 => k_is); (case k3 => k_is); (case a4 => k_is); (case l4 => k_is); (case c4 => k_is); (case k4 => k_is); (case a5 => k_is); (case l5 => k_is); (case c5 => k_is); (case k5 => k_is); (case a6 => k_is); (case l6 => k_is); (case c6 => k_is); (case k6 => k_is); (case a7 => k_is); (case l7 => k_is); (case c7 => k_is); (case k7 => k_is); (case a8 => k_is); (case l8 => k_is); (case c8 => k_is); (case k8 => k_is); (case a9 => k_is); (case l9 => k_is); (case c9 => k_is); (case k9 => k_is); (case a10 => k_is); (case l10 => k_is); (case c10 => k_is); (case k10 => k_is); (case a11 => k_is); (case l11 => k_is); (case c11 => k_is); (case k11 => k_is)
