import PyProof.Rows.All
import Wide.All
import OpenK.AllK
import Wide.FinOn
import HandS.ForMost
import HandS.Flow
import HandS.IsInst
import HandS.StrMore
import HandS.Style
import HandS.WordsExc
import HandS.EndBits
import HandS.Evl
import HandS.Set
import HandS.SetFor
import HandS.SetKeys
import HandS.Strs
import HandS.TupAny
import HandS.More
import HandS.Star
import KE.DataMinKey
import HandS.SortKw
import HandS.AnyAll
import HandS.GenList
import HandS.Lambda
import HandS.Defaults
import HandS.MakeKwOnly
import HandS.ExcValue
import KE.SortUse
import HandS.RaiseMore
import HandS.TryOnly
import HandS.ExcIs
import HandS.HotCalls
import PyProof.StrLawsRepr
import HandS.FStr
import HandS.HeadHook4
import HandS.HeadWalk
import HandS.Head2
import PyProof.Rows.SortShellAny
import PySem.Challenge.RW_whomaywhat_k01_words_and_numbers
set_option Elab.async false
set_option linter.all false
set_option maxRecDepth 100000
set_option maxHeartbeats 4000000
namespace My
open PySem PySem.Spec PyProof.Rows L2

/-! ### calls of the text's own defs, in one word -/
/-- the def named x stands at module level and keeps its promise -/
structure Cal (P : Program) (w : World) (K : PySem.W.Frag) (mg : Str → Option Value) (base : Heap) (k : Nat) (x : Str) (ps : List Str) (sp : Sp) : Prop where
  ex : ∃ (f : Addr) (fd : FuncData), FnOk P w K mg base CX0 k f fd ps sp ∧ mg x = some (.ref f) ∧ PySem.W.keepIn K (.ref f) = true ∧ Binds K fd ps []
section
variable {X : Cx} {k j : Nat} {x : Str} {ps : List Str} {sp : Sp} {p pos : Pos} {e : Expr} {es : List Expr} {t : TA}
theorem pe_cal (c : Cal X.prog X.w X.K X.mg X.base k x ps sp) (hr : Room j X.A) (ha : PA X (e :: es) t) (hk : k ≤ j := by decide) (hg : Gl X x := by rfl) (hdb : (x == ("__debug__" : Str)) = false := by decide)
    (he : starEach (e :: es) X.env = (false, eval e X.env) :: starEach es X.env := by rfl) (hpl : (backTo pos (starEach es X.env)).any (·.1) = false := by rfl) : PE X (.Call (.Name x p) (e :: es) [] pos) (tCall sp [] E0 t) := by
  obtain ⟨f, fd, F, hm, kp, b⟩ := c.ex
  exact pe_call F (hr.mono hk) hg hm kp b .nil pass0 ha hdb he hpl
theorem pe_cal0 (c : Cal X.prog X.w X.K X.mg X.base k x ps sp) (hr : Room j X.A) (hk : k ≤ j := by decide) (hg : Gl X x := by rfl) (hdb : (x == ("__debug__" : Str)) = false := by decide) : PE X (.Call (.Name x p) [] [] pos) (tCall sp [] E0 tNil) := by
  obtain ⟨f, fd, F, hm, kp, b⟩ := c.ex
  exact pe_call0 F (hr.mono hk) hg hm kp b .nil pass0 hdb
end
/-- what the head tells of one def -/
structure DefAt (K : PySem.W.Frag) (mg : Str → Option Value) (x : Str) (st : Stmt) (ps : List Str) : Prop where
  ex : ∃ (f : Addr) (fd : FuncData), Fun K x x st f fd ∧ mg x = some (.ref f) ∧ Binds K fd ps []
theorem DefAt.cal {P : Program} {w : World} {K : PySem.W.Frag} {mg : Str → Option Value} {base : Heap} {k : Nat} {x : Str} {st : Stmt} {ps : List Str} {sp : Sp} (D : DefAt K mg x st ps)
    (h : ∀ (f : Addr) (fd : FuncData), Fun K x x st f fd → FnOk P w K mg base CX0 k f fd ps sp) : Cal P w K mg base k x ps sp := by
  obtain ⟨f, fd, F, hm, b⟩ := D.ex
  exact ⟨f, fd, h f fd F, hm, F.kp, b⟩

/-! ### heaps -/
theorem Same.new {H : Hp} {p : Addr} {o : HO} (h : H p = none) : Same H (upd H p o) := fun a u e => by
  rw [upd_ne (ne_of_none e h)]
  exact e
theorem Same.tup {K : PySem.W.Frag} {H H' : Hp} {a : Addr} {xs : List V} (e : Same H H') (h : SqT K H a xs) : SqT K H' a xs := by
  rcases h with (h | ⟨o, h⟩) | h
  · exact .inl (.inl (e _ _ h))
  · exact .inl (.inr ⟨o, e _ _ h⟩)
  · exact .inr h
/-- the draws at d: a list of ints -/
def Dr (d : Addr) (H : Hp) : Prop := ∃ ds : List Int, H d = some (.lst (ds.map V.int))
/-- from H to H' the draws alone may have changed; they are draws still -/
structure Go (d : Addr) (H H' : Hp) : Prop where
  fr : ∀ a o, a ≠ d → H a = some o → H' a = some o
  dr : Dr d H'
section
variable {d a p : Addr} {H H1 H2 H' : Hp} {xs : List V} {K : PySem.W.Frag}
theorem Go.refl (h : Dr d H) : Go d H H := ⟨fun _ _ _ e => e, h⟩
theorem Go.trans (x : Go d H H1) (y : Go d H1 H2) : Go d H H2 := ⟨fun a o n e => y.fr a o n (x.fr a o n e), y.dr⟩
theorem Go.same (x : Go d H H1) (y : Same H1 H2) : Go d H H2 := ⟨fun a o n e => y a o (x.fr a o n e), let ⟨ds, e⟩ := x.dr; ⟨ds, y d _ e⟩⟩
theorem Go.new {o : HO} (x : Go d H H1) (h : H1 p = none) : Go d H (upd H1 p o) := x.same (Same.new h)
theorem Go.ne (x : Dr d H) (h : H p = none) : p ≠ d := fun e => by
  obtain ⟨ds, q⟩ := x
  rw [e, q] at h
  cases h
theorem Go.sq (x : Go d H H') (n : a ≠ d) (h : SqL K H a xs) : SqL K H' a xs := by
  rcases h with (h | ⟨o, h⟩) | h
  · exact .inl (.inl (x.fr _ _ n h))
  · exact .inl (.inr ⟨o, x.fr _ _ n h⟩)
  · exact .inr h
end

/-! ### the readings, opened one step at a time -/
section
variable {K : PySem.W.Frag} {σ : L2.St} {H H' : Hp} {ta tb te tx to ti tl : TE} {t u tc : TT} {D : Ends} {t1 t2 tu : TS} {g : TG} {gs : TGs} {Q : VK} {QB : Bool → Hp → Prop} {QA : List V → Hp → Prop} {QS : L2.St → Hp → Prop}
  {r : R2} {x y v : V} {i j : Nat} {tr : TA} {QO : Option Int → Hp → Prop}
theorem w_var : tVar i σ H Q = ∃ v, σ[i]? = some (some v) ∧ Q v H := rfl
theorem w_c : tC v σ H Q = Q v H := rfl
theorem w_seq : tSeq t1 t2 D σ H = t1 { D with nx := t2 D } σ H := rfl
theorem w_next : tNext D σ H = D.nx σ H := rfl
theorem w_break : tBreak D σ H = D.bk σ H := rfl
theorem w_cont : tCont D σ H = D.ct σ H := rfl
theorem w_drop : tDrop te D σ H = te σ H fun _ H1 => D.nx σ H1 := rfl
theorem w_ret : tRet te D σ H = te σ H D.rt := rfl
theorem w_retN : tRetN D σ H = D.rt .non H := rfl
theorem w_ifs : tIfS tc t1 t2 D σ H = tc σ H fun b H1 => if b = true then t1 D σ H1 else t2 D σ H1 := rfl
theorem w_asg : tAsg te g D σ H = te σ H fun x H1 => g x σ H1 D.nx := rfl
theorem w_name : gName i v σ H QS = QS (σ.set i (some v)) H := rfl
theorem w_gnil {vs : List V} : gNil vs σ H QS = (vs = [] ∧ QS σ H) := rfl
theorem w_gcons {vs : List V} : gCons g gs vs σ H QS = ∃ v r, vs = v :: r ∧ g v σ H fun σ' H' => gs r σ' H' QS := rfl
theorem w_gtup {n : Nat} : gTup K n gs v σ H QS = ∃ a xs, v = .ref a ∧ SqT K H a xs ∧ xs.length = n ∧ gs xs σ H QS := rfl
theorem w_gsub {st : TSet} : gSub to ti st v σ H QS = to σ H fun o H1 => ti σ H1 fun i H2 => st o i v H2 fun H3 => QS σ H3 := rfl
theorem w_aug {tip : TIp} : tAug i te tip D σ H = ∃ x, σ[i]? = some (some x) ∧ te σ H fun y H1 => tip x y H1 fun z H2 => D.nx (σ.set i (some z)) H2 := rfl
theorem w_ipI {f : Int → Int → Int} : ipI f x y H Q = ∃ i j, x = .int i ∧ y = .int j ∧ Q (.int (f i j)) H := rfl
theorem w_op : tOp r ta tb σ H Q = ta σ H fun x H1 => tb σ H1 fun y H2 => r x y H2 Q := rfl
theorem w_un {r : V → Hp → VK → Prop} : tUn r ta σ H Q = ta σ H fun x H1 => r x H1 Q := rfl
theorem w_cb {r : List V → Hp → VK → Prop} : tCB r tr σ H Q = tr σ H fun vs H1 => r vs H1 Q := rfl
theorem w_cons : tCons ta tr σ H QA = ta σ H fun x H1 => tr σ H1 fun xs H2 => QA (x :: xs) H2 := rfl
theorem w_nil : tNil σ H QA = QA [] H := rfl
theorem w_tup : tTup tr σ H Q = tr σ H fun xs H1 => xs.length ≤ sizeLine ∧ ∀ p, H1 p = none → Q (.ref p) (upd H1 p (.tup xs)) := rfl
theorem w_lst : tLst tr σ H Q = tr σ H fun xs H1 => xs.length ≤ sizeLine ∧ ∀ p, H1 p = none → Q (.ref p) (upd H1 p (.lst xs)) := rfl
theorem w_test : tTest te σ H QB = te σ H fun x H1 => ∃ k, x = .bl k ∧ QB k H1 := rfl
theorem w_B : tB te σ H QB = te σ H fun x H1 => ∃ k, x = .bl k ∧ QB k H1 := rfl
theorem w_and : tAnd t u σ H QB = t σ H fun c H1 => if c = true then u σ H1 QB else QB false H1 := rfl
theorem w_or : tOr t u σ H QB = t σ H fun c H1 => if c = true then QB true H1 else u σ H1 QB := rfl
theorem w_not : tNot t σ H QB = t σ H fun c H1 => QB (!c) H1 := rfl
theorem w_andV : tAndV ta tb σ H Q = ta σ H fun x H1 => ∃ c, x = .bl c ∧ if c = true then tb σ H1 Q else Q (.bl false) H1 := rfl
theorem w_orV : tOrV ta tb σ H Q = ta σ H fun x H1 => ∃ c, x = .bl c ∧ if c = true then Q (.bl true) H1 else tb σ H1 Q := rfl
theorem w_notV : tNotV ta σ H Q = ta σ H fun x H1 => ∃ c, x = .bl c ∧ Q (.bl (!c)) H1 := rfl
theorem w_if : tIf t ta tb σ H Q = t σ H fun c H1 => if c = true then ta σ H1 Q else tb σ H1 Q := rfl
theorem w_call {sp : Sp} {dvs : List V} {E : XK} : tCall sp dvs E tr σ H Q = tr σ H fun vs H1 => sp (vs ++ dvs) H1 Q E := rfl
theorem w_sl {rs : V → Option Int → Option Int → Hp → VK → Prop} {tlo thi : TO} : tSl rs te tlo thi σ H Q = te σ H fun x H1 => tlo σ H1 fun l H2 => thi σ H2 fun u H3 => rs x l u H3 Q := rfl
theorem w_part : tPart te σ H QO = te σ H fun x H1 => ∃ i, x = .int i ∧ QO (some i) H1 := rfl
theorem w_nopart : tNoPart σ H QO = QO none H := rfl
theorem w_bm0 {T : String} {rm : V → List V → Hp → VK → Prop} : tBM0 K T rm to σ H Q = to σ H fun x H1 => tyV K T x H1 ∧ rm x [] H1 Q := rfl
theorem w_bm {T : String} {rm : V → List V → Hp → VK → Prop} : tBM K T rm to tr σ H Q = to σ H fun x H1 => tyV K T x H1 ∧ tr σ H1 fun xs H2 => rm x xs H2 Q := rfl
theorem w_bms {T : String} {rm : L2.St → V → List V → Hp → VK → Prop} : tBMS K T rm to tr σ H Q = to σ H fun x H1 => tyV K T x H1 ∧ tr σ H1 fun xs H2 => rm σ x xs H2 Q := rfl
theorem w_m0 {rm : V → List V → Hp → VK → Prop} : tM0 rm to σ H Q = to σ H fun x H1 => (∃ a, x = .str a) ∧ rm x [] H1 Q := rfl
theorem w_m1 {rm : V → List V → Hp → VK → Prop} : tM1 rm to te σ H Q = to σ H fun x H1 => (∃ a, x = .str a) ∧ te σ H1 fun y H2 => rm x [y] H2 Q := rfl
theorem w_revL : tRevL K te σ H Q = te σ H fun x H1 => ∃ a xs, x = .ref a ∧ SqL K H1 a xs ∧ ∀ p, H1 p = none → Q (.ref p) (upd H1 p (.lst xs.reverse)) := rfl
theorem r_I {C : Int → Int → Prop} {f : Int → Int → V} : rI C f x y H Q = ∃ i j, x = .int i ∧ y = .int j ∧ C i j ∧ Q (f i j) H := rfl
theorem r_I0 {f : Int → Int → V} : rI0 f x y H Q = ∃ i j, x = .int i ∧ y = .int j ∧ Q (f i j) H := rfl
theorem r_U {f : Int → V} : rU f x H Q = ∃ i, x = .int i ∧ Q (f i) H := rfl
theorem r_eq : rEq x y H Q = (scal x y = true ∧ Q (.bl (decide (x = y))) H) := rfl
theorem r_ne : rNe x y H Q = (scal x y = true ∧ Q (.bl (!decide (x = y))) H) := rfl
theorem r_ixL : rIxL K x y H Q = ∃ p xs i v, x = .ref p ∧ y = .int i ∧ SqL K H p xs ∧ atI xs i = some v ∧ Q v H := rfl
theorem r_ixT : rIxT K x y H Q = ∃ p xs i v, x = .ref p ∧ y = .int i ∧ SqT K H p xs ∧ atI xs i = some v ∧ Q v H := rfl
theorem r_ixS : rIxS x y H Q = ∃ z i c, x = .str z ∧ y = .int i ∧ z.length ≤ sizeLine ∧ atI z.cps.toList i = some c ∧ Q (.str ⟨#[c]⟩) H := rfl
theorem r_slL {lo hi : Option Int} : rSlL K x lo hi H Q = ∃ a xs, x = .ref a ∧ SqL K H a xs ∧ ∀ p, H p = none → Q (.ref p) (upd H p (.lst (cutV xs lo hi))) := rfl
theorem r_slS {lo hi : Option Int} : rSlS x lo hi H Q = ∃ z, x = .str z ∧ z.length ≤ sizeLine ∧ Q (.str (cutS z lo hi)) H := rfl
theorem r_in {neg : Bool} : rIn K neg x y H Q = ∃ p xs, y = .ref p ∧ (SqL K H p xs ∨ SqT K H p xs) ∧ flatV x = true ∧ xs.all flatV = true ∧ Q (.bl (if neg then !inV x xs else inV x xs)) H := rfl
theorem r_app {vs : List V} : rAppend x vs H Q = ∃ l xs y, x = .ref l ∧ vs = [y] ∧ H l = some (.lst xs) ∧ xs.length < sizeLine ∧ Q .non (upd H l (.lst (xs ++ [y]))) := rfl
theorem r_pop {vs : List V} : rPop x vs H Q = ∃ l xs y, x = .ref l ∧ vs = [] ∧ H l = some (.lst xs) ∧ xs[xs.length - 1]? = some y ∧ Q y (upd H l (.lst xs.dropLast)) := rfl
theorem r_rev {vs : List V} : rReverse x vs H Q = ∃ l xs, x = .ref l ∧ vs = [] ∧ H l = some (.lst xs) ∧ Q .non (upd H l (.lst xs.reverse)) := rfl
theorem r_setL {o i v : V} {QH : Hp → Prop} : rSetL o i v H QH = ∃ p xs k j, o = .ref p ∧ i = .int k ∧ H p = some (.lst xs) ∧ ixN xs.length k = some j ∧ QH (upd H p (.lst (xs.set j v))) := rfl
theorem r_index {W : WX} {vs : List V} : rIndexX W σ x vs H Q = ∃ (a b : Str), x = .str a ∧ vs = [.str b] ∧ (∀ k, Txt.index0 a b = some k → Q (.int (k : Nat)) H) ∧ (Txt.index0 a b = none → ∀ d, W (.type "ValueError") d σ H) := rfl
theorem r_isi {vs : List V} : rIsi K vs H Q = ∃ (x c : V) (t u : Value) (b : Bool), vs = [x, c] ∧ ClsV c u ∧ TyX K H x t ∧ PySem.W.kitOne K t u = some b ∧ Q (.bl b) H := rfl
end
/-! ### loops, shut until their invariant is told -/
def LpR (lo : Int) (n : Nat) (g : TG) (tb : TS) (D : Ends) (σ : L2.St) (H : Hp) : Prop := ∃ W : Nat → Nat → L2.St → Hp → Prop, (∃ m, W 0 m σ H) ∧ ∀ i m σ H, W i m σ H →
      ((Itr lo n).stop i H ∧ D.nx σ H) ∨ ((Itr lo n).go i H ∧ ∃ N : L2.St → Hp → Prop, (∀ σ' H', N σ' H' → ∃ m', m' < m ∧ W (i + 1) m' σ' H') ∧ ∀ x H', (Itr lo n).yld i H x H' → g x σ H' fun σ2 H2 => tb { D with nx := N, ct := N, bk := D.nx } σ2 H2)
def LpL (K : PySem.W.Frag) (a : Addr) (g : TG) (tb : TS) (D : Ends) (σ : L2.St) (H : Hp) : Prop := ∃ W : Nat → Nat → L2.St → Hp → Prop, (∃ m, W 0 m σ H) ∧ ∀ i m σ H, W i m σ H →
      ((Itl K a).stop i H ∧ D.nx σ H) ∨ ((Itl K a).go i H ∧ ∃ N : L2.St → Hp → Prop, (∀ σ' H', N σ' H' → ∃ m', m' < m ∧ W (i + 1) m' σ' H') ∧ ∀ x H', (Itl K a).yld i H x H' → g x σ H' fun σ2 H2 => tb { D with nx := N, ct := N, bk := D.nx } σ2 H2)
def LpT (K : PySem.W.Frag) (a : Addr) (g : TG) (tb : TS) (D : Ends) (σ : L2.St) (H : Hp) : Prop := ∃ W : Nat → Nat → L2.St → Hp → Prop, (∃ m, W 0 m σ H) ∧ ∀ i m σ H, W i m σ H →
      ((Itt K a).stop i H ∧ D.nx σ H) ∨ ((Itt K a).go i H ∧ ∃ N : L2.St → Hp → Prop, (∀ σ' H', N σ' H' → ∃ m', m' < m ∧ W (i + 1) m' σ' H') ∧ ∀ x H', (Itt K a).yld i H x H' → g x σ H' fun σ2 H2 => tb { D with nx := N, ct := N, bk := D.nx } σ2 H2)
def LpS (z : Str) (g : TG) (tb : TS) (D : Ends) (σ : L2.St) (H : Hp) : Prop := ∃ W : Nat → Nat → L2.St → Hp → Prop, (∃ m, W 0 m σ H) ∧ ∀ i m σ H, W i m σ H →
      ((Its z).stop i H ∧ D.nx σ H) ∨ ((Its z).go i H ∧ ∃ N : L2.St → Hp → Prop, (∀ σ' H', N σ' H' → ∃ m', m' < m ∧ W (i + 1) m' σ' H') ∧ ∀ x H', (Its z).yld i H x H' → g x σ H' fun σ2 H2 => tb { D with nx := N, ct := N, bk := D.nx } σ2 H2)
section
variable {K : PySem.W.Frag} {σ : L2.St} {H : Hp} {te : TE} {ta : TA} {g : TG} {tb : TS} {D : Ends} {a : Addr} {xs : List V} {z : Str} {lo : Int} {n : Nat}
theorem l_R1 : tFor (iRng1 ta) g tb D σ H = ta σ H fun vs H1 => ∃ j : Int, vs = [.int j] ∧ -(2 ^ 62) ≤ j ∧ j < 2 ^ 62 ∧ LpR 0 j.toNat g tb D σ H1 := rfl
theorem l_R2 : tFor (iRng2 ta) g tb D σ H = ta σ H fun vs H1 => ∃ i j : Int, vs = [.int i, .int j] ∧ (-(2 ^ 62) ≤ i ∧ i < 2 ^ 62 ∧ -(2 ^ 62) ≤ j ∧ j < 2 ^ 62) ∧ LpR i (j - i).toNat g tb D σ H1 := rfl
theorem l_L : tFor (iList K te) g tb D σ H = te σ H fun x H1 => ∃ a, x = .ref a ∧ (∃ xs, SqL K H1 a xs) ∧ LpL K a g tb D σ H1 := rfl
theorem l_T : tFor (iTup K te) g tb D σ H = te σ H fun x H1 => ∃ a, x = .ref a ∧ (∃ xs, SqT K H1 a xs) ∧ LpT K a g tb D σ H1 := rfl
theorem l_S : tFor (iStr te) g tb D σ H = te σ H fun v H1 => ∃ x, v = .str x ∧ LpS x g tb D σ H1 := rfl
theorem LpR.by (Pv : Nat → L2.St → Hp → Prop) (h0 : Pv 0 σ H) (hs : ∀ i σ H, i < n → Pv i σ H → g (.int (lo + i)) σ H fun σ2 H2 => tb { D with nx := Pv (i + 1), ct := Pv (i + 1), bk := D.nx } σ2 H2) (hd : ∀ σ H, Pv n σ H → D.nx σ H) : LpR lo n g tb D σ H := for_range Pv h0 hs hd
theorem LpL.by (xs : List V) (Pv : Nat → L2.St → Hp → Prop) (h0 : Pv 0 σ H) (hl : ∀ i σ H, i ≤ xs.length → Pv i σ H → SqL K H a xs)
    (hs : ∀ i x σ H, xs[i]? = some x → Pv i σ H → g x σ H fun σ2 H2 => tb { D with nx := Pv (i + 1), ct := Pv (i + 1), bk := D.nx } σ2 H2) (hd : ∀ σ H, Pv xs.length σ H → D.nx σ H) : LpL K a g tb D σ H := for_list Pv h0 hl hs hd
theorem LpT.by (xs : List V) (Pv : Nat → L2.St → Hp → Prop) (h0 : Pv 0 σ H) (hl : ∀ i σ H, i ≤ xs.length → Pv i σ H → SqT K H a xs)
    (hs : ∀ i x σ H, xs[i]? = some x → Pv i σ H → g x σ H fun σ2 H2 => tb { D with nx := Pv (i + 1), ct := Pv (i + 1), bk := D.nx } σ2 H2) (hd : ∀ σ H, Pv xs.length σ H → D.nx σ H) : LpT K a g tb D σ H := for_tup Pv h0 hl hs hd
theorem LpS.by (Pv : Nat → L2.St → Hp → Prop) (h0 : Pv 0 σ H) (hs : ∀ i c σ H, z.cps.toList[i]? = some c → Pv i σ H → g (.str ⟨#[c]⟩) σ H fun σ2 H2 => tb { D with nx := Pv (i + 1), ct := Pv (i + 1), bk := D.nx } σ2 H2)
    (hd : ∀ σ H, Pv z.cps.toList.length σ H → D.nx σ H) : LpS z g tb D σ H := by
  refine ⟨fun i m σ H => m = z.cps.size - i ∧ i ≤ z.cps.size ∧ Pv i σ H, ⟨z.cps.size, by simp, Nat.zero_le _, h0⟩, ?_⟩
  rintro i m σ H ⟨rfl, hi, p⟩
  by_cases hlt : i < z.cps.size
  · refine .inr ⟨hlt, Pv (i + 1), fun σ' H' p' => ⟨z.cps.size - (i + 1), by omega, rfl, hlt, p'⟩, fun x H' y => ?_⟩
    obtain ⟨rfl, c, hc, rfl⟩ := y
    exact hs i c σ _ (by simpa using hc) p
  · have e : i = z.cps.toList.length := by simp; omega
    subst e
    exact .inl ⟨by show z.cps.size ≤ _; simp, hd σ H p⟩
/-- a while by its word and a number that falls -/
theorem while_W {c : TT} {σ : L2.St} {H : Hp} (Pv : Nat → L2.St → Hp → Prop) (m : Nat) (h0 : Pv m σ H)
    (hs : ∀ m σ H, Pv m σ H → c σ H fun b H1 => if b = true then tb { D with nx := fun σ' H' => ∃ m', m' < m ∧ Pv m' σ' H', ct := fun σ' H' => ∃ m', m' < m ∧ Pv m' σ' H', bk := D.nx } σ H1 else D.nx σ H1)
    (mono : ∀ σ H Q Q', (∀ b H1, Q b H1 → Q' b H1) → c σ H Q → c σ H Q') : tWhile c tb D σ H := by
  refine ⟨Pv, ⟨m, h0⟩, fun m σ H p => ?_⟩
  refine mono σ H _ _ (fun b H1 q => ?_) (hs m σ H p)
  cases b with
  | true => exact ⟨_, fun σ' H' h => h, q⟩
  | false => exact q
end
/-- comprehensions, shut until their invariant is told -/
def LcL (K : PySem.W.Frag) (a : Addr) (g : TG) (tt : TT) (te : TE) (vs : List Nat) (σ : L2.St) (H1 : Hp) (Q : VK) : Prop := ∀ D, H1 D = none → ∃ W : Nat → Nat → Hp → Prop, (∃ m, W 0 m (upd H1 D (.lst []))) ∧ ∀ i m H, W i m H →
  ((Itl K a).stop i H ∧ Q (.ref D) H) ∨ ((Itl K a).go i H ∧ ∃ Nx : Hp → Prop, (∀ H', Nx H' → ∃ m', m' < m ∧ W (i + 1) m' H') ∧ ∀ x H', (Itl K a).yld i H x H' → g x (wipe σ vs) H' fun σ2 H2 => wipe σ2 vs = wipe σ vs ∧ tt σ2 H2 fun b H3 =>
    if b = true then te σ2 H3 fun y H4 => ∃ acc, H4 D = some (.lst acc) ∧ acc.length < sizeLine ∧ Nx (upd H4 D (.lst (acc ++ [y]))) else Nx H3)
section
variable {K : PySem.W.Frag} {σ : L2.St} {H : Hp} {tl te : TE} {tt : TT} {g : TG} {vs : List Nat} {Q : VK} {a : Addr}
theorem l_LcL : tLc (iList K tl) g tt te vs σ H Q = tl σ H fun x H1 => ∃ a, x = .ref a ∧ (∃ xs, SqL K H1 a xs) ∧ LcL K a g tt te vs σ H1 Q := rfl
theorem LcL.by (xs : List V) (h : ∀ D, H D = none → ∃ Pv : Nat → Hp → Prop, Pv 0 (upd H D (.lst [])) ∧ (∀ i H, i ≤ xs.length → Pv i H → SqL K H a xs) ∧
    (∀ i x H, xs[i]? = some x → Pv i H → g x (wipe σ vs) H fun σ2 H2 => wipe σ2 vs = wipe σ vs ∧ tt σ2 H2 fun b H3 =>
      if b = true then te σ2 H3 fun y H4 => ∃ acc, H4 D = some (.lst acc) ∧ acc.length < sizeLine ∧ Pv (i + 1) (upd H4 D (.lst (acc ++ [y]))) else Pv (i + 1) H3) ∧ ∀ H, Pv xs.length H → Q (.ref D) H) : LcL K a g tt te vs σ H Q := fun D hD => by
  obtain ⟨Pv, h0, hl, hs, hd⟩ := h D hD
  exact lc_list Pv h0 hl hs hd
end
theorem w_yes {σ : L2.St} {H : Hp} {Q : Bool → Hp → Prop} : tYes σ H Q = Q true H := rfl
/-! ### small facts -/
theorem ty_l {K : PySem.W.Frag} {H : Hp} {a : Addr} {xs : List V} (h : SqL K H a xs) : tyV K "list" (.ref a) H := Or.inl ⟨rfl, _, h⟩
theorem ty_s {K : PySem.W.Frag} {H : Hp} {z : Str} : tyV K "str" (.str z) H = True := eq_true rfl
theorem line_of {n : Nat} (h : n ≤ 16777216) : n ≤ sizeLine := by rw [sizeLine_eq]; exact h
theorem line_lt {n : Nat} (h : n < 16777216) : n < sizeLine := by rw [sizeLine_eq]; exact h
theorem at_lt {α : Type} {xs : List α} {z : Int} (h0 : 0 ≤ z) (h1 : z < xs.length) : ∃ v, atI xs z = some v ∧ xs[z.toNat]? = some v := by
  have h2 : z.toNat < xs.length := by omega
  refine ⟨xs[z.toNat], ?_, List.getElem?_eq_getElem h2⟩
  have e := atI_nat (List.getElem?_eq_getElem h2)
  rw [Int.toNat_of_nonneg h0] at e
  exact e
theorem w_cut {t u : TS} {D : Ends} {σ : L2.St} {H : Hp} : Evl.tCut t u D σ H = ∃ Mid : L2.St → Hp → Prop, t { D with nx := Mid } σ H ∧ ∀ σ' H', Mid σ' H' → u D σ' H' := rfl
theorem cx_K {CX : CXT} {P : Program} {w : World} {K : PySem.W.Frag} {mg : Str → Option Value} {base : Heap} {N : List Str} {q : Str} {sc : Scope} {f : Addr} {cd : Value} {A : Around} {o : List Env} {s : Shared} {H : Hp} {E : XK} :
    (cxOf CX P w K mg base N q sc f cd A o s H E).K = K := rfl
theorem scal_i {a b : Int} : (scal (.int a) (.int b) = true) = True := eq_true rfl
theorem scal_s {a b : Str} : (scal (.str a) (.str b) = true) = True := eq_true rfl
theorem scal_b {a b : Bool} : (scal (.bl a) (.bl b) = true) = True := eq_true rfl
theorem v_cons {x y : V} {xs ys : List V} : (x :: xs = y :: ys) = (x = y ∧ xs = ys) := propext ⟨fun e => ⟨(List.cons.inj e).1, (List.cons.inj e).2⟩, fun ⟨e1, e2⟩ => by rw [e1, e2]⟩
theorem Go.base {d : Addr} {H0 H1 H2 : Hp} (g : Go d H1 H2) (s : Same H0 H1) (n : H0 d = none) : Same H0 H2 := fun a o e => g.fr a o (ne_of_none e n) (s a o e)
theorem isi_int {K : PySem.W.Frag} {H : Hp} {i : Int} {Q : Bool → Prop} (q : Q true) : ∃ (t u : Value), ClsV (.ty "int") u ∧ TyX K H (.int i) t ∧ ∃ b : Bool, PySem.W.kitOne K t u = some b ∧ Q b := ⟨_, _, .ty _, .base (.int _), _, kit_ty (a := "int") (b := "int") (r := true) (by decide +kernel), q⟩
theorem isi_int_bool {K : PySem.W.Frag} {H : Hp} {i : Int} {Q : Bool → Prop} (q : Q false) : ∃ (t u : Value), ClsV (.ty "bool") u ∧ TyX K H (.int i) t ∧ ∃ b : Bool, PySem.W.kitOne K t u = some b ∧ Q b := ⟨_, _, .ty _, .base (.int _), _, kit_ty (a := "int") (b := "bool") (r := false) (by decide +kernel), q⟩
theorem isi_str {K : PySem.W.Frag} {H : Hp} {i : Str} {Q : Bool → Prop} (q : Q true) : ∃ (t u : Value), ClsV (.ty "str") u ∧ TyX K H (.str i) t ∧ ∃ b : Bool, PySem.W.kitOne K t u = some b ∧ Q b := ⟨_, _, .ty _, .base (.str _), _, kit_ty (a := "str") (b := "str") (r := true) (by decide +kernel), q⟩
theorem isi_bool {K : PySem.W.Frag} {H : Hp} {i : Bool} {Q : Bool → Prop} (q : Q true) : ∃ (t u : Value), ClsV (.ty "bool") u ∧ TyX K H (.bl i) t ∧ ∃ b : Bool, PySem.W.kitOne K t u = some b ∧ Q b := ⟨_, _, .ty _, .base (.bl _), _, kit_ty (a := "bool") (b := "bool") (r := true) (by decide +kernel), q⟩
theorem r_ix {K : PySem.W.Frag} {x y : V} {H : Hp} {Q : VK} : rIx K x y H Q = (rIxL K x y H Q ∨ rIxT K x y H Q ∨ rIxS x y H Q) := rfl
theorem r_ltT {K : PySem.W.Frag} {x y : V} {H : Hp} {Q : VK} : rLtT K x y H Q = ∃ a b ns ms, x = .ref a ∧ y = .ref b ∧ SqT K H a (ns.map V.int) ∧ SqT K H b (ms.map V.int) ∧ Q (.bl (HT.lexLt ns ms)) H := rfl
/-- a comprehension over a range, shut until its invariant is told -/
def LcR (lo : Int) (n : Nat) (g : TG) (tt : TT) (te : TE) (vs : List Nat) (σ : L2.St) (H1 : Hp) (Q : VK) : Prop := ∀ D, H1 D = none → ∃ W : Nat → Nat → Hp → Prop, (∃ m, W 0 m (upd H1 D (.lst []))) ∧ ∀ i m H, W i m H →
  ((Itr lo n).stop i H ∧ Q (.ref D) H) ∨ ((Itr lo n).go i H ∧ ∃ Nx : Hp → Prop, (∀ H', Nx H' → ∃ m', m' < m ∧ W (i + 1) m' H') ∧ ∀ x H', (Itr lo n).yld i H x H' → g x (wipe σ vs) H' fun σ2 H2 => wipe σ2 vs = wipe σ vs ∧ tt σ2 H2 fun b H3 =>
    if b = true then te σ2 H3 fun y H4 => ∃ acc, H4 D = some (.lst acc) ∧ acc.length < sizeLine ∧ Nx (upd H4 D (.lst (acc ++ [y]))) else Nx H3)
theorem l_LcR1 {ta : TA} {te : TE} {tt : TT} {g : TG} {vs : List Nat} {σ : L2.St} {H : Hp} {Q : VK} : tLc (iRng1 ta) g tt te vs σ H Q = ta σ H fun ws H1 => ∃ j : Int, ws = [.int j] ∧ -(2 ^ 62) ≤ j ∧ j < 2 ^ 62 ∧ LcR 0 j.toNat g tt te vs σ H1 Q := rfl
theorem LcR.by {lo : Int} {n : Nat} {te : TE} {tt : TT} {g : TG} {vs : List Nat} {σ : L2.St} {H : Hp} {Q : VK} (h : ∀ D, H D = none → ∃ Pv : Nat → Hp → Prop, Pv 0 (upd H D (.lst [])) ∧
    (∀ i H, i < n → Pv i H → g (.int (lo + i)) (wipe σ vs) H fun σ2 H2 => wipe σ2 vs = wipe σ vs ∧ tt σ2 H2 fun b H3 =>
      if b = true then te σ2 H3 fun y H4 => ∃ acc, H4 D = some (.lst acc) ∧ acc.length < sizeLine ∧ Pv (i + 1) (upd H4 D (.lst (acc ++ [y]))) else Pv (i + 1) H3) ∧ ∀ H, Pv n H → Q (.ref D) H) : LcR lo n g tt te vs σ H Q := fun D hD => by
  obtain ⟨Pv, h0, hs, hd⟩ := h D hD
  exact lc_range Pv h0 hs hd
theorem cx_w {CX : CXT} {P : Program} {w : World} {K : PySem.W.Frag} {mg : Str → Option Value} {base : Heap} {N : List Str} {q : Str} {sc : Scope} {f : Addr} {cd : Value} {A : Around} {o : List Env} {s : Shared} {H : Hp} {E : XK} :
    (cxOf CX P w K mg base N q sc f cd A o s H E).w = w := rfl
theorem r_slA {K : PySem.W.Frag} {x : V} {lo hi : Option Int} {H : Hp} {Q : VK} : rSlA K x lo hi H Q = ∃ a xs, x = .ref a ∧ SqT K H a xs ∧
  (HT.sIx xs.length 0 lo = 0 ∧ HT.sIx xs.length xs.length hi = xs.length → Q (.ref a) H) ∧ (¬ (HT.sIx xs.length 0 lo = 0 ∧ HT.sIx xs.length xs.length hi = xs.length) → ∀ p, H p = none → Q (.ref p) (upd H p (.tup (cutV xs lo hi)))) := rfl
theorem r_catA {K : PySem.W.Frag} {x y : V} {H : Hp} {Q : VK} : rCatA K x y H Q = ∃ a b xs ys, x = .ref a ∧ y = .ref b ∧ SqT K H a xs ∧ SqT K H b ys ∧ xs.length + ys.length ≤ sizeLine ∧
  (xs = [] → Q (.ref b) H) ∧ (xs ≠ [] → ys = [] → Q (.ref a) H) ∧ (xs ≠ [] → ys ≠ [] → ∀ p, H p = none → Q (.ref p) (upd H p (.tup (xs ++ ys)))) := rfl
/-- a comprehension over a tuple, shut until its invariant is told -/
def LcT (K : PySem.W.Frag) (a : Addr) (g : TG) (tt : TT) (te : TE) (vs : List Nat) (σ : L2.St) (H1 : Hp) (Q : VK) : Prop := ∀ D, H1 D = none → ∃ W : Nat → Nat → Hp → Prop, (∃ m, W 0 m (upd H1 D (.lst []))) ∧ ∀ i m H, W i m H →
  ((Itt K a).stop i H ∧ Q (.ref D) H) ∨ ((Itt K a).go i H ∧ ∃ Nx : Hp → Prop, (∀ H', Nx H' → ∃ m', m' < m ∧ W (i + 1) m' H') ∧ ∀ x H', (Itt K a).yld i H x H' → g x (wipe σ vs) H' fun σ2 H2 => wipe σ2 vs = wipe σ vs ∧ tt σ2 H2 fun b H3 =>
    if b = true then te σ2 H3 fun y H4 => ∃ acc, H4 D = some (.lst acc) ∧ acc.length < sizeLine ∧ Nx (upd H4 D (.lst (acc ++ [y]))) else Nx H3)
theorem l_LcT {K : PySem.W.Frag} {tl te : TE} {tt : TT} {g : TG} {vs : List Nat} {σ : L2.St} {H : Hp} {Q : VK} : tLc (iTup K tl) g tt te vs σ H Q = tl σ H fun x H1 => ∃ a, x = .ref a ∧ (∃ xs, SqT K H1 a xs) ∧ LcT K a g tt te vs σ H1 Q := rfl
theorem LcT.by {K : PySem.W.Frag} {a : Addr} {te : TE} {tt : TT} {g : TG} {vs : List Nat} {σ : L2.St} {H : Hp} {Q : VK} (xs : List V) (h : ∀ D, H D = none → ∃ Pv : Nat → Hp → Prop, Pv 0 (upd H D (.lst [])) ∧ (∀ i H, i ≤ xs.length → Pv i H → SqT K H a xs) ∧
    (∀ i x H, xs[i]? = some x → Pv i H → g x (wipe σ vs) H fun σ2 H2 => wipe σ2 vs = wipe σ vs ∧ tt σ2 H2 fun b H3 =>
      if b = true then te σ2 H3 fun y H4 => ∃ acc, H4 D = some (.lst acc) ∧ acc.length < sizeLine ∧ Pv (i + 1) (upd H4 D (.lst (acc ++ [y]))) else Pv (i + 1) H3) ∧ ∀ H, Pv xs.length H → Q (.ref D) H) : LcT K a g tt te vs σ H Q := fun D hD => by
  obtain ⟨Pv, h0, hl, hs, hd⟩ := h D hD
  exact lc_tup Pv h0 hl hs hd
/-! ### rules with the frame told (comprehensions need it) -/
section
variable {X : Cx} (K : PySem.W.Frag) (h : X.K = K)
include h
theorem k_ixL : IxR X (rIxL K) := h ▸ ix_list
theorem k_ixT : IxR X (rIxT K) := h ▸ ix_tup
theorem k_ixQ : IxR X (rIx K) := h ▸ ix_seq
theorem k_in : OpR X (compareOp .In) (rIn K false) := h ▸ op_in_seq
theorem k_notIn : OpR X (compareOp .NotIn) (rIn K true) := h ▸ op_notIn_seq
theorem k_len : CallR X (.builtin "len") (fun xs H Q => ∃ p ys, xs = [.ref p] ∧ (SqL K H p ys ∨ SqT K H p ys) ∧ Q (.int ys.length) H) := h ▸ call_len_seq
theorem k_slL : SlR X (rSlL K) := h ▸ sl_list
theorem k_slA : SlR X (rSlA K) := h ▸ sl_tupA
theorem k_orT {a b : Expr} {ta tb : TE} {rest : List Expr} {pos : Pos} (ha : PE X a ta) (hb : PE X (.BoolOp .Or (b :: rest) pos) tb) : PE X (.BoolOp .Or (a :: b :: rest) pos) (tOrT K ta tb) := h ▸ pe_orT ha hb
/-- sep.join(texts) -/
def tJn (K : PySem.W.Frag) (to te : TE) : TE := tM1 (fun x xs H Q => ∃ a p, ∃ ys : List Str, x = .str a ∧ xs = [.ref p] ∧ (SqL K H p (ys.map V.str) ∨ SqT K H p (ys.map V.str)) ∧ (ys.map (·.length)).sum + ys.length * a.length ≤ 16777216 ∧ Q (.str (Txt.join a ys)) H) to te
theorem k_join {o e : Expr} {to te : TE} {apos pos : Pos} (ho : PE X o to) (he : PE X e te) (hs : starEach [e] X.env = [(false, eval e X.env)] := by rfl) (hbase : attributeBase o "join" X.env (eval o X.env) = eval o X.env := by rfl) (hline : (apos.endLine == pos.line) = true := by rfl) :
    PE X (.Call (.Attribute o "join" apos) [e] [] pos) (tJn K to te) := h ▸ pe_join ho he hs hbase hline
theorem k_isi : CallR X (.builtin "isinstance") (rIsi K) := h ▸ call_isi
end
section
variable {K : PySem.W.Frag} {σ : L2.St} {H : Hp} {te ta tb to : TE} {Q : VK}
theorem w_fmt : tFmt te σ H Q = te σ H fun x H1 => (∃ y : Str, x = .str y ∧ y.length ≤ sizeLine ∧ Q (.str y) H1) ∨ ∃ i : Int, x = .int i ∧ i.natAbs.log2 < 1920 ∧ Q (.str (toString i)) H1 := rfl
theorem w_js0 {acc : Str} {R : Str → Hp → Prop} : tJs [] acc σ H R = R acc H := rfl
theorem w_js1 {t : TE} {ts : List TE} {acc : Str} {R : Str → Hp → Prop} : tJs (t :: ts) acc σ H R = t σ H fun x H1 => ∃ y : Str, x = .str y ∧ (acc ++ y).length ≤ sizeLine ∧ tJs ts (acc ++ y) σ H1 R := rfl
theorem w_orT : tOrT K ta tb σ H Q = ta σ H fun x H1 => ∃ k, TruV K x H1 k ∧ if k = true then Q x H1 else tb σ H1 Q := rfl
theorem w_jn : tJn K to te σ H Q = to σ H fun x H1 => (∃ a, x = .str a) ∧ te σ H1 fun y H2 => ∃ a p, ∃ ys : List Str, x = .str a ∧ [y] = [.ref p] ∧ (SqL K H2 p (ys.map V.str) ∨ SqT K H2 p (ys.map V.str)) ∧ (ys.map (·.length)).sum + ys.length * a.length ≤ 16777216 ∧ Q (.str (Txt.join a ys)) H2 := rfl
theorem r_ext {x : V} {vs : List V} : rExtend x vs H Q = ∃ l b xs zs, x = .ref l ∧ vs = [.ref b] ∧ H l = some (.lst xs) ∧ H b = some (.lst zs) ∧ xs.length + zs.length ≤ sizeLine ∧ Q .non (upd H l (.lst (xs ++ zs))) := rfl
theorem r_cat {x y : V} : rCat x y H Q = ∃ l b xs zs, x = .ref l ∧ y = .ref b ∧ H l = some (.lst xs) ∧ H b = some (.lst zs) ∧ xs.length + zs.length ≤ sizeLine ∧ ∀ p, H p = none → Q (.ref p) (upd H p (.lst (xs ++ zs))) := rfl
end
open TL
/-! ### words: their signs and their numbers -/
abbrev LET : Str := "abcdefghijklmnopqrstuvwxyz"
def AZ (z : Str) : Prop := ∀ c ∈ tl z, 97 ≤ c ∧ c ≤ 122
theorem tl_LET : tl LET = List.range' 97 26 := by decide +kernel
theorem len_LET : LET.length = 26 := by decide +kernel
theorem mem_LET {c : Nat} : c ∈ LET.cps.toList ↔ 97 ≤ c ∧ c ≤ 122 := by
  rw [show LET.cps.toList = List.range' 97 26 from tl_LET, List.mem_range'_1]
  omega
theorem index_LET {c : Nat} (h : 97 ≤ c ∧ c ≤ 122) : Txt.index0 LET ⟨#[c]⟩ = some (c - 97) := by
  have key : ∀ d : Nat, d < 26 → Txt.index0 LET ⟨#[97 + d]⟩ = some d := by decide +kernel
  have := key (c - 97) (by omega)
  rw [show 97 + (c - 97) = c by omega] at this
  exact this
theorem at_LET {i : Int} (h0 : 0 ≤ i) (h1 : i < 26) : atI LET.cps.toList i = some (97 + i.toNat) := by
  have key : ∀ d : Nat, d < 26 → LET.cps.toList[d]? = some (97 + d) := by decide +kernel
  have e := atI_nat (key i.toNat (by omega))
  rw [Int.toNat_of_nonneg h0] at e
  exact e
theorem len_tl (z : Str) : z.length = (tl z).length := by show z.cps.size = _; simp
def wstep (a : Int) (c : Nat) : Int := a * 26 + ((c - 97 : Nat) : Int) + 1
def wnum (l : List Nat) : Int := l.foldl wstep 0
theorem wnum_snoc (l : List Nat) (c : Nat) : wnum (l ++ [c]) = wstep (wnum l) c := by unfold wnum; rw [List.foldl_append]; rfl
def atw (n : Nat) : List Nat := if h : n = 0 then [] else atw ((n - 1) / 26) ++ [97 + (n - 1) % 26]
termination_by n
decreasing_by omega
theorem atw_zero : atw 0 = [] := by rw [atw]; rfl
theorem atw_pos {n : Nat} (h : n ≠ 0) : atw n = atw ((n - 1) / 26) ++ [97 + (n - 1) % 26] := by rw [atw, dif_neg h]
theorem atw_az : ∀ n : Nat, ∀ c ∈ atw n, 97 ≤ c ∧ c ≤ 122 := by
  intro n
  induction n using Nat.strongRecOn with
  | ind n ih =>
    by_cases h : n = 0
    · subst h
      rw [atw_zero]
      intro c hc
      cases hc
    · rw [atw_pos h]
      intro c hc
      rcases List.mem_append.mp hc with k | k
      · exact ih _ (by omega) c k
      · rw [List.mem_singleton] at k
        omega
theorem wnum_atw : ∀ n : Nat, wnum (atw n) = n := by
  intro n
  induction n using Nat.strongRecOn with
  | ind n ih =>
    by_cases h : n = 0
    · subst h
      rw [atw_zero]
      rfl
    · rw [atw_pos h, wnum_snoc, ih _ (by omega)]
      unfold wstep
      omega
theorem atw_len : ∀ (b n : Nat), n < 2 ^ b → (atw n).length ≤ b
  | 0, n, h => by
    have : n = 0 := by simpa using h
    subst this
    rw [atw_zero]
    exact Nat.le_refl _
  | b + 1, n, h => by
    by_cases h0 : n = 0
    · subst h0
      rw [atw_zero]
      exact Nat.zero_le _
    · rw [atw_pos h0, List.length_append]
      have := atw_len b ((n - 1) / 26) (by rw [Nat.pow_succ] at h; omega)
      show _ + 1 ≤ _
      omega
theorem wstep_nonneg {a : Int} (h : 0 ≤ a) (c : Nat) : 0 < wstep a c := by unfold wstep; omega
theorem fold_nonneg : ∀ (l : List Nat) (a : Int), 0 ≤ a → 0 ≤ l.foldl wstep a
  | [], _, h => h
  | c :: r, a, h => fold_nonneg r _ (Int.le_of_lt (wstep_nonneg h c))
theorem wnum_nonneg (l : List Nat) : 0 ≤ wnum l := fold_nonneg l 0 (Int.le_refl 0)
/-- a word is the word of its number -/
theorem atw_wnum : ∀ l : List Nat, (∀ c ∈ l, 97 ≤ c ∧ c ≤ 122) → atw (wnum l).toNat = l := by
  intro l
  induction hn : l.length generalizing l with
  | zero =>
    intro _
    rw [List.eq_nil_of_length_eq_zero hn]
    exact atw_zero
  | succ n ih =>
    intro hl
    obtain ⟨m, c, rfl⟩ : ∃ m c, l = m ++ [c] := by
      have hne : l ≠ [] := fun e => by rw [e] at hn; cases hn
      exact ⟨l.dropLast, l.getLast hne, (List.dropLast_concat_getLast hne).symm⟩
    have hm : m.length = n := by rw [List.length_append] at hn; exact Nat.succ.inj hn
    have hc := hl c (by simp)
    have im := ih m hm fun x hx => hl x (List.mem_append_left _ hx)
    have h0 := wnum_nonneg m
    rw [wnum_snoc]
    have e1 : ((wstep (wnum m) c).toNat - 1) / 26 = (wnum m).toNat := by unfold wstep; omega
    have e2 : 97 + ((wstep (wnum m) c).toNat - 1) % 26 = c := by unfold wstep; omega
    rw [atw_pos (by have := wstep_nonneg h0 c; omega), e1, e2, im]
theorem wnum_inj {l m : List Nat} (hl : ∀ c ∈ l, 97 ≤ c ∧ c ≤ 122) (hm : ∀ c ∈ m, 97 ≤ c ∧ c ≤ 122) (e : wnum l = wnum m) : l = m := by
  rw [← atw_wnum l hl, ← atw_wnum m hm, e]
/-- words of the same length: the first one decides -/
theorem fold_lt : ∀ (u v : List Nat) (a b : Int), (∀ c ∈ u, 97 ≤ c ∧ c ≤ 122) → (∀ c ∈ v, 97 ≤ c ∧ c ≤ 122) → u.length = v.length → a < b → u.foldl wstep a < v.foldl wstep b
  | [], [], a, b, _, _, _, h => h
  | x :: u, y :: v, a, b, hu, hv, hl, h => fold_lt u v _ _ (fun c hc => hu c (List.mem_cons_of_mem _ hc)) (fun c hc => hv c (List.mem_cons_of_mem _ hc)) (Nat.succ.inj hl) (by
      have := hu x (List.mem_cons_self ..)
      have := hv y (List.mem_cons_self ..)
      unfold wstep
      omega)
  | [], _ :: _, _, _, _, _, hl, _ => by cases hl
  | _ :: _, [], _, _, _, _, hl, _ => by cases hl
theorem fold_lex : ∀ (u v : List Nat) (a : Int), (∀ c ∈ u, 97 ≤ c ∧ c ≤ 122) → (∀ c ∈ v, 97 ≤ c ∧ c ≤ 122) → u.length = v.length → (u.foldl wstep a < v.foldl wstep a ↔ u < v)
  | [], [], a, _, _, _ => by
    constructor
    · intro h
      exact absurd h (Int.lt_irrefl _)
    · intro h
      exact absurd h (List.not_lt_nil _)
  | x :: u, y :: v, a, hu, hv, hl => by
    have hx := hu x (List.mem_cons_self ..)
    have hy := hv y (List.mem_cons_self ..)
    have hu' : ∀ c ∈ u, 97 ≤ c ∧ c ≤ 122 := fun c hc => hu c (List.mem_cons_of_mem _ hc)
    have hv' : ∀ c ∈ v, 97 ≤ c ∧ c ≤ 122 := fun c hc => hv c (List.mem_cons_of_mem _ hc)
    have hl' : u.length = v.length := Nat.succ.inj hl
    rw [List.cons_lt_cons_iff, List.foldl_cons, List.foldl_cons]
    by_cases h1 : x < y
    · have := fold_lt u v (wstep a x) (wstep a y) hu' hv' hl' (by unfold wstep; omega)
      exact ⟨fun _ => .inl h1, fun _ => this⟩
    · by_cases h2 : x = y
      · subst h2
        have := fold_lex u v (wstep a x) hu' hv' hl'
        constructor
        · intro h
          exact .inr ⟨rfl, this.mp h⟩
        · rintro (h | ⟨_, h⟩)
          · exact absurd h h1
          · exact this.mpr h
      · have := fold_lt v u (wstep a y) (wstep a x) hv' hu' hl'.symm (by unfold wstep; omega)
        constructor
        · intro h
          exact absurd (Int.lt_trans h this) (Int.lt_irrefl _)
        · rintro (h | ⟨h, _⟩)
          · exact absurd h h1
          · exact absurd h h2
  | [], _ :: _, _, _, _, hl => by cases hl
  | _ :: _, [], _, _, _, hl => by cases hl
/-- a shorter word has the smaller number -/
theorem wnum_short {u v : List Nat} (hu : ∀ c ∈ u, 97 ≤ c ∧ c ≤ 122) (hv : ∀ c ∈ v, 97 ≤ c ∧ c ≤ 122) (h : u.length < v.length) : wnum u < wnum v := by
  have e : v = v.take (v.length - u.length) ++ v.drop (v.length - u.length) := (List.take_append_drop _ v).symm
  unfold wnum
  rw [e, List.foldl_append]
  refine fold_lt _ _ _ _ hu (fun c hc => hv c (List.mem_of_mem_drop hc)) (by rw [List.length_drop]; omega) ?_
  cases hw : v.take (v.length - u.length) with
  | nil =>
    have := congrArg List.length hw
    rw [List.length_take] at this
    simp at this
    omega
  | cons c r =>
    rw [List.foldl_cons]
    have p := wstep_nonneg (Int.le_refl 0) c
    have mono : ∀ (l : List Nat) (a : Int), 0 < a → 0 < l.foldl wstep a := by
      intro l
      induction l with
      | nil => intro a h; exact h
      | cons c r ih => intro a h; exact ih _ (wstep_nonneg (Int.le_of_lt h) c)
    exact mono r _ p
theorem wnum_lt {u v : List Nat} (hu : ∀ c ∈ u, 97 ≤ c ∧ c ≤ 122) (hv : ∀ c ∈ v, 97 ≤ c ∧ c ≤ 122) : wnum u < wnum v ↔ u.length < v.length ∨ (u.length = v.length ∧ u < v) := by
  constructor
  · intro h
    rcases Nat.lt_trichotomy u.length v.length with l | l | l
    · exact .inl l
    · exact .inr ⟨l, (fold_lex u v 0 hu hv l).mp h⟩
    · exact absurd (Int.lt_trans h (wnum_short hv hu l)) (Int.lt_irrefl _)
  · rintro (l | ⟨l, h⟩)
    · exact wnum_short hu hv l
    · exact (fold_lex u v 0 hu hv l).mpr h
/-- the texts of single signs, joined -/
def sgn (c : Nat) : Str := ⟨#[c]⟩
theorem joinL_nil : ∀ l : List (List Nat), joinL [] l = l.flatten
  | [] => rfl
  | [p] => by simp [joinL]
  | p :: q :: r => by
    show p ++ ([] ++ joinL [] (q :: r)) = _
    rw [joinL_nil (q :: r)]
    simp
theorem join_sgn (cs : List Nat) : Txt.join ("" : Str) (cs.map sgn) = ⟨cs.toArray⟩ := by
  refine ext_tl ?_
  rw [join_eq, tl_join]
  show joinL [] _ = cs
  rw [joinL_nil, List.map_map]
  induction cs with
  | nil => rfl
  | cons c r ih => rw [List.map_cons, List.flatten_cons, ih]; rfl
theorem sgn_sum (cs : List Nat) : ((cs.map sgn).map (·.length)).sum = cs.length := by
  induction cs with
  | nil => rfl
  | cons c r ih => rw [List.map_cons, List.map_cons, List.sum_cons, ih, List.length_cons]; show 1 + _ = _; omega
theorem AZ.nil : AZ (Str.ofString "") := fun x hx => by
  rw [show tl (Str.ofString "") = [] from rfl] at hx
  cases hx
theorem AZ.app {z y : Str} (h : AZ z) (k : AZ y) : AZ (z ++ y) := fun x hx => by
  rw [tl_append] at hx
  exact (List.mem_append.mp hx).elim (h x) (k x)
theorem AZ.snoc {z : Str} {c : Nat} (h : AZ z) (hc : 97 ≤ c ∧ c ≤ 122) : AZ (z ++ (⟨#[c]⟩ : Str)) := h.app fun x hx => by
  have e : x = c := by simpa using hx
  rw [e]
  exact hc
theorem AZ.cut {z : Str} {lo hi : Option Int} (h : AZ z) : AZ (cutS z lo hi) := fun x hx => by
  have hx' : x ∈ (z.cps.toList.drop (HT.sIx z.length 0 lo)).take (HT.sIx z.length z.length hi - HT.sIx z.length 0 lo) := hx
  exact h x (List.mem_of_mem_drop (List.mem_of_mem_take hx'))
theorem len_cut (z : Str) (lo hi : Option Int) : (cutS z lo hi).length ≤ z.length := by
  rw [len_tl, len_tl]
  show ((z.cps.toList.drop (HT.sIx z.length 0 lo)).take (HT.sIx z.length z.length hi - HT.sIx z.length 0 lo)).length ≤ z.cps.toList.length
  rw [List.length_take, List.length_drop]
  omega
theorem len_app (z y : Str) : (z ++ y).length = z.length + y.length := Str.length_append z y
theorem bits_len {v : Int} {n : Nat} (h : Builtin.Int.intBits v ≤ 1048576) (e : n = v.natAbs) : (atw n).length ≤ 16000000 := by
  have h1 : n < 2 ^ 1048576 := by
    rw [e]
    exact PyProof.Rows.lt_pow_of_bits h (Nat.le_refl _)
  exact Nat.le_trans (atw_len _ _ h1) (by decide)
/-! ### sets of texts -/
def keyT (e : Int × Value) : Str := match e.2 with
  | .str x _ => x
  | _ => Str.empty
def IsTx (w : World) (e : Int × Value) : Prop := ∃ x tk, e = (hashStr w x, Value.str x tk)
/-- the texts of S stand as a set at a, n of them; the table can be walked -/
def TxS (w : World) (h : Heap) (a : Addr) (S : Str → Bool) (n : Nat) : Prop :=
  ∃ (ob : Obj) (el : Array (Int × Value)) (k : Nat) (tb : SetTable), (h.get? a = some ob ∧ ob.ExactSet ∧ ob.data = .set el k tb) ∧ ((∀ e ∈ el.toList, IsTx w e) ∧ (el.toList.map keyT).Nodup ∧ ∀ x, S x = true ↔ x ∈ el.toList.map keyT) ∧
    (el.size < scanBound ∧ tb.fits el.size = true ∧ el.size = n) ∧ Ris tb.place.toList ∧ (w.params.followText "set-order" = true ∨ tb.led = true)
section
variable {P : Program} {w : World} {h h' : Heap} {a : Addr} {S : Str → Bool} {n : Nat}
theorem TxS.keep (R : TxS w h a S n) (k : ∀ o, h.get? a = some o → h'.get? a = some o) : TxS w h' a S n := by
  obtain ⟨ob, el, e, tb, ⟨g1, g2⟩, r⟩ := R
  exact ⟨ob, el, e, tb, ⟨k ob g1, g2⟩, r⟩
theorem TxS.same {S' : Str → Bool} (R : TxS w h a S n) (e : ∀ k, S' k = S k) : TxS w h a S' n := (funext e : S' = S) ▸ R
theorem tx_elems {l : List (Int × Value)} (g : ∀ e ∈ l, IsTx w e) : ElemsOf (strKind P w) l := fun e m => by
  obtain ⟨x, tk, rfl⟩ := g e m
  exact ⟨⟨x, strKind_is P w x tk, rfl⟩, rfl⟩
theorem tx_is {e : Int × Value} (g : IsTx w e) (x : Str) : (strKind P w).is x e.2 = true ↔ keyT e = x := by
  obtain ⟨y, tk, rfl⟩ := g
  constructor
  · intro z
    obtain ⟨u, q⟩ := Value.isStrOf_shape (x := x) (v := Value.str y tk) z
    cases q
    rfl
  · rintro rfl
    exact strKind_is P w y tk
theorem tx_mem {l : List (Int × Value)} (g : ∀ e ∈ l, IsTx w e) (x : Str) : x ∈ l.map keyT ↔ ∃ e ∈ l, (strKind P w).is x e.2 = true :=
  List.mem_map.trans ⟨fun ⟨e, m, q⟩ => ⟨e, m, (tx_is (g e m) x).2 q⟩, fun ⟨e, m, q⟩ => ⟨e, m, (tx_is (g e m) x).1 q⟩⟩
theorem TxS.of (R : TxS w h a S n) : h.SetOf (strKind P w) a S n := by
  obtain ⟨ob, el, k, tb, ⟨g1, g2, g3⟩, ⟨g4, _, g6⟩, g7, _⟩ := R
  exact ⟨ob, el, k, tb, g1, g2, g3, tx_elems g4, fun x => (g6 x).trans (tx_mem g4 x), g7⟩
end
section
variable {P : Program} {w : World} {A : Around} {E : Value → Shared → Prop} {s : Shared} {a : Addr}
/-- the store behind a new member, and the table laid anew where it is too full -/
theorem put_end {g : Bool → Sem Unit} (hg : ∀ (b : Bool) (u : Shared) (Z : Unit → Shared → Prop), Z () u → wpAny (model P w) A (g b) Z E u) {ob : Obj} {el fl : Array (Int × Value)} {k : Nat} {tb tc : SetTable}
    (h1 : s.heap.get? a = some ob) (h2 : ob.data = .set el k tb) (b1 : fl.size < scanBound) (f1 : tc.fits fl.size = true) (r1 : Ris tc.place.toList) (l1 : w.params.followText "set-order" = true ∨ tc.led = true) {dm : Bool} {R : Option Bool → Shared → Prop}
    (hR : ∀ (h' : Heap) (gl : Array (Int × Value)) (k' : Nat) (td : SetTable), Heap.SameBut a s.heap h' → h'.get? a = some { ob with data := .set gl k' td } → gl.toList.Perm fl.toList → td.fits gl.size = true → Ris td.place.toList →
      (w.params.followText "set-order" = true ∨ td.led = true) → R (some true) { s with heap := h' }) :
    wpAny (model P w) A (do storeSet a fl tc; if (!dm && tc.tooFull) = true then (do g (relayAll tc fl (SetTable.grown fl.size)).2.2; storeSet a (relayAll tc fl (SetTable.grown fl.size)).1 (relayAll tc fl (SetTable.grown fl.size)).2.1; pure (some true)) else pure (some true)) R E s := by
  have p1 := store_at (es' := fl) (t' := tc) h1 h2
  have q1 := Heap.SameBut.update s.heap a (Obj.putSet fl tc)
  refine wpAny_bind (wpAny_storeSet_of h1 h2 ?_ (fits_of_scanBound b1))
  split
  · have v1 := relayAll_perm tc fl (SetTable.grown fl.size)
    have v2 := relayAll_fits tc fl (SetTable.grown fl.size)
    have v3 := relayAll_ris tc fl (SetTable.grown fl.size)
    have v4 := relayAll_led tc fl (SetTable.grown fl.size)
    revert v1 v2 v3 v4
    generalize relayAll tc fl (SetTable.grown fl.size) = Y
    obtain ⟨gl, td, gv⟩ := Y
    intro v1 v2 v3 v4
    have sz : gl.size = fl.size := by rw [← Array.length_toList, v1.length_eq, Array.length_toList]
    have p2 := store_at (es' := gl) (t' := td) p1 rfl
    refine wpAny_bind (hg _ _ _ (wpAny_bind (wpAny_storeSet_of p1 rfl (wpAny_pure (hR _ gl _ td (q1.trans (Heap.SameBut.update _ a _)) p2 v1 v2 v3 (l1.imp id fun z => v4.trans z))) (fits_of_scanBound (sz ▸ b1)))))
  · exact wpAny_pure (hR _ fl _ tc q1 p1 (List.Perm.refl _) f1 r1 l1)
theorem tx_add {S : Str → Bool} {n : Nat} {x : Str} {tk : Tok} {Q : Bool → Shared → Prop} (R : TxS w s.heap a S n) (room : n + 1 < scanBound)
    (hQ : ∀ h', Heap.SameBut a s.heap h' → TxS w h' a (fun j => S j || decide (j = x)) (if S x = true then n else n + 1) → Q (!S x) { s with heap := h' }) :
    wpAny (model P w) A (setAddHashed a (.str x tk) ((strKind P w).hash x)) Q E s := by
  obtain ⟨ob, el, k, tb, ⟨g1, g2, g3⟩, ⟨g4, g5, g6⟩, ⟨g7, g8, g9⟩, g10, g11⟩ := R
  have sc : (Value.str x tk).scannable = true := rfl
  have E1 : ElemsOf (strKind P w) el.toList := tx_elems g4
  unfold setAddHashed setAddHashedIn
  refine wpAny_holding (wpAny_bind (wpAny_setState_of g1 g3 g8 ?_))
  dsimp only
  rw [byScan_of sc g7 E1, if_pos rfl]
  unfold setAddByScan
  refine wpAny_bind (wpAny_bind (wpAny_rule (wpAny_bind (wpAny_setScan_of (strKind_is P w x tk) g1 g3 g8 E1 ?_))))
  cases hf : List.findIdx? (fun e => (strKind P w).is x e.2) el.toList with
  | some j =>
    obtain ⟨j1, j2, _⟩ := List.findIdx?_eq_some_iff_getElem.mp hf
    have sx : S x = true := (g6 x).2 ((tx_mem (P := P) g4 x).2 ⟨el.toList[j], List.getElem_mem j1, j2⟩)
    have q := hQ s.heap (Heap.SameBut.refl a s.heap) ⟨ob, el, k, tb, ⟨g1, g2, g3⟩, ⟨g4, g5, fun i => by
      rw [Bool.or_eq_true, decide_eq_true_eq, ← g6 i]
      exact ⟨fun z => z.elim id fun e => e ▸ sx, .inl⟩⟩, ⟨g7, g8, by rw [if_pos sx]; exact g9⟩, g10, g11⟩
    rw [sx] at q
    exact wpAny_pure (wpAny_pure q)
  | none =>
    have nx : x ∉ el.toList.map keyT := fun z => by
      obtain ⟨e, m, q⟩ := (tx_mem (P := P) g4 x).1 z
      rw [List.findIdx?_eq_none_iff.mp hf e m] at q
      cases q
    have sx : S x = false := by
      cases q : S x with
      | false => rfl
      | true => exact absurd ((g6 x).1 q) nx
    have c1 := layNew_perm tb el ((strKind P w).hash x) (.str x tk)
    have c2 := layNew_fits tb el ((strKind P w).hash x) (.str x tk)
    have c3 := layNew_ris tb el ((strKind P w).hash x) (.str x tk) g10
    have c4 := layNew_led tb el ((strKind P w).hash x) (.str x tk)
    dsimp only
    revert c1 c2 c3 c4
    generalize layNew tb el ((strKind P w).hash x) (.str x tk) = Y
    obtain ⟨fl, tc, dm, gv⟩ := Y
    intro c1 c2 c3 c4
    dsimp only at c1 c2 c3 c4 ⊢
    rw [Array.toList_push] at c1
    have d1 : fl.toList.Perm ((hashStr w x, Value.str x tk) :: el.toList) := c1.trans (List.perm_append_singleton _ _)
    have sz : fl.size = n + 1 := by rw [← Array.length_toList, d1.length_eq, List.length_cons, Array.length_toList, g9]
    have l1 : w.params.followText "set-order" = true ∨ tc.led = true := g11.imp id fun z => c4.trans z
    have fin : ∀ (h' : Heap) (gl : Array (Int × Value)) (k' : Nat) (td : SetTable), Heap.SameBut a s.heap h' → h'.get? a = some { ob with data := .set gl k' td } → gl.toList.Perm fl.toList → td.fits gl.size = true → Ris td.place.toList →
        (w.params.followText "set-order" = true ∨ td.led = true) → Q true { s with heap := h' } := fun h' gl k' td z1 z2 z3 z4 z5 z6 => by
      have d2 := z3.trans d1
      have d3 : (gl.toList.map keyT).Perm (x :: el.toList.map keyT) := d2.map keyT
      have zz : gl.size = n + 1 := by rw [← Array.length_toList, z3.length_eq, Array.length_toList, sz]
      have q := hQ h' z1 ⟨_, gl, k', td, ⟨z2, g2, rfl⟩, ⟨fun e m => ?_, d3.nodup_iff.mpr (List.nodup_cons.mpr ⟨nx, g5⟩), fun i => by
        rw [Bool.or_eq_true, decide_eq_true_eq, g6 i, d3.mem_iff, List.mem_cons]
        exact Or.comm⟩, ⟨by rw [zz]; exact room, z4, by rw [sx, if_neg Bool.false_ne_true]; exact zz⟩, z5, z6⟩
      · rw [sx] at q
        exact q
      · rcases List.mem_cons.mp (d2.mem_iff.mp m) with u | u
        · exact ⟨x, tk, u⟩
        · exact g4 e u
    have gw : ∀ (b : Bool) (u : Shared) (Z : Unit → Shared → Prop), Z () u → wpAny (model P w) A (match b with | true => rule "set.scan.the-table-gave-way" | false => pure ()) Z E u := fun b u Z z => by
      cases b <;> first | exact wpAny_pure z | exact wpAny_rule z
    refine wpAny_bind (gw _ _ _ ?_)
    have b1 : fl.size < scanBound := sz ▸ room
    split
    · refine wpAny_bind ?_
      rw [hashByValue_scannable 8 sc]
      refine wpAny_pure (put_end (fun b u Z z => by cases b <;> first | exact wpAny_pure z | exact wpAny_rule z) g1 g3 b1 ?_ ?_ ?_ fun h' gl k' td z1 z2 z3 z4 z5 z6 => wpAny_pure (fin h' gl k' td z1 z2 z3 z4 z5 z6))
      · first | exact c2 | (split <;> first | exact c2 | exact SetTable.fits_plain_off c2)
      · first | exact c3 | (split <;> exact c3)
      · first | exact l1 | (split <;> exact l1)
    · refine wpAny_bind (wpAny_pure ?_)
      rw [if_pos rfl]
      exact put_end (fun b u Z z => by cases b <;> first | exact wpAny_pure z | exact wpAny_rule z) g1 g3 b1 c2 c3 l1 fun h' gl k' td z1 z2 z3 z4 z5 z6 => wpAny_pure (fin h' gl k' td z1 z2 z3 z4 z5 z6)
end
section
variable {P : Program} {w : World} {A : Around} {E : Value → Shared → Prop} {s : Shared}
theorem tx_empty {h : Heap} {a : Addr} {xs : List Str} (ho : h.get? a = some { cls := .type "set", dict := none, data := .set #[] 0 (.fresh 0 0 (!w.params.followText "set-order")) }) : TxS w h a (fun j => decide (j ∈ xs.take 0)) 0 := by
  refine ⟨_, #[], 0, _, ⟨ho, ⟨rfl, rfl, rfl⟩, rfl⟩, ⟨fun e he => by simp at he, by simp, fun k => by simp⟩, ⟨by decide, by rfl, rfl⟩, List.Pairwise.nil, ?_⟩
  show _ ∨ (!w.params.followText "set-order") = true
  cases w.params.followText "set-order" <;> simp
theorem tx_loop {I U : Addr} {fp wr : List Addr} {G : Array GenState → Array GenState → Prop} {n : Nat} {Pv : Nat → Value → Prop} {St : Nat → Shared → Prop} {R : Result → Shared → Prop} (V : WalksS P w A.in1 I fp wr G n Pv St) (hU : U ∉ fp) (xs : List Str)
    (hn : n = xs.length) (hb : xs.length + 1 < scanBound) (hv : ∀ i v, Pv i v → ∃ k t, xs[i]? = some k ∧ v = .str k t) :
    ∀ (m i : Nat) (u : Shared), n - i = m → i ≤ n → St i u → (∃ c, c ≤ i ∧ TxS w u.heap U (fun j => decide (j ∈ xs.take i)) c) →
      (∀ u' c, Moved (U :: wr) G u u' → c ≤ n → TxS w u'.heap U (fun j => decide (j ∈ xs)) c → R (.ok (.ret .none)) u') → codeAny (model P w) A (.builtin "set.update.loop" ⟨[.ref U, .ref I], []⟩) R u := by
  have nU : U ∉ wr := fun z => hU (V.sub _ z)
  intro m
  induction m with
  | zero =>
    rintro i u hm hi hst ⟨c, hc, hS⟩ hR
    obtain rfl : i = n := by omega
    refine codeAny_builtin F.entry_set_update_loop ?_
    rw [Around.under_plainId F.plain_set_update_loop _]
    show wpAny _ A.in1 (pyNext (.ref I) >>= _) _ _ u
    refine wpAny_bind (V.done u _ _ hst fun u' mv => (show wpAny _ _ (ret Value.none) _ _ u' from wpAny_pure ?_))
    rw [show xs.take i = xs from List.take_of_length_le (by omega)] at hS
    exact hR u' c (mv.mono fun b q => List.mem_cons_of_mem _ q) hc (hS.keep fun o e => mv.heap U o nU e)
  | succ m ih =>
    rintro i u hm hi hst ⟨c, hc, hS⟩ hR
    have lt : i < n := by omega
    refine codeAny_builtin F.entry_set_update_loop ?_
    rw [Around.under_plainId F.plain_set_update_loop _]
    show wpAny _ A.in1 (pyNext (.ref I) >>= _) _ _ u
    refine wpAny_bind (V.item i u _ _ lt hst fun v u' hP hst' mv => ?_)
    obtain ⟨z, t, hz, rfl⟩ := hv i v hP
    show wpAny _ A.in1 (holding [Value.str z t] (setAdd U (.str z t)) >>= _) _ _ u'
    refine wpAny_bind (wpAny_holding ?_)
    unfold setAdd
    refine wpAny_holding (wpAny_bind ((strKind P w).pyHash (k := z) (strKind_is _ _ _ _) ?_))
    refine tx_add (s := { u' with toks := u'.toks + 1 }) (hS.keep fun o e => mv.heap U o nU e) (by omega) fun h' sb S2 => ?_
    have S3 : TxS w h' U (fun j => decide (j ∈ xs.take (i + 1))) (if decide (z ∈ xs.take i) = true then c else c + 1) := S2.same fun j => by
      rw [List.take_add_one, hz]
      simp [List.mem_append]
    refine wpAny_pure ⟨plainId_quiet F.plain_set_update_loop _, ih (i + 1) _ (by omega) lt (V.frame _ u' _ _ hst' (Nat.le_succ _) fun b hb o e => (sb.2 b fun q => hU (q ▸ hb)).trans e) ⟨_, by split <;> omega, S3⟩ fun u'' c2 mv2 hc2 hS2 => ?_⟩
    exact hR u'' c2 (Moved.trans V.gtrans ((mv.mono fun b q => List.mem_cons_of_mem _ q).then_heap (Nat.le_succ _) fun b o hb e => (sb.2 b fun q => hb (q ▸ List.mem_cons_self)).trans e) mv2) hc2 hS2
end
section
variable {P : Program} {w : World} {A : Around} {E : Value → Shared → Prop} {s : Shared} {a : Addr}
theorem strict_of : ∀ l : List Str, sortedS l = true → l.Nodup → l.Pairwise fun x y => tl x < tl y
  | [], _, _ => List.Pairwise.nil
  | p :: r, h, d => by
    have key : ∀ (r : List Str) (p : Str), risingS p r = true → (p :: r).Nodup → (p :: r).Pairwise fun x y => tl x < tl y := by
      intro r
      induction r with
      | nil => intro p _ _; exact List.pairwise_singleton _ _
      | cons z r ih =>
        intro p h d
        have h1 : (!ltCps z.cps.toList p.cps.toList && risingS z r) = true := h
        rw [Bool.and_eq_true, Bool.not_eq_true', ltCps_eq, decide_eq_false_iff_not] at h1
        obtain ⟨d1, d2⟩ := List.nodup_cons.mp d
        have h2 := ih z h1.2 d2
        have pz : tl p < tl z := by
          by_cases k : tl p < tl z
          · exact k
          · exact absurd (ext_tl (List.le_antisymm (List.not_lt.mp h1.1) (List.not_lt.mp k))) fun e => d1 (e ▸ List.mem_cons_self)
        refine List.pairwise_cons.mpr ⟨fun y hy => ?_, h2⟩
        rcases List.mem_cons.mp hy with e | m
        · rw [e]
          exact pz
        · exact List.lt_trans pz ((List.pairwise_cons.mp h2).1 y m)
    exact key r p h d
theorem tx_strs : ∀ l : List (Int × Value), (∀ e ∈ l, IsTx w e) → ∀ vs : List Value, vs.Perm (l.map (·.2)) → ∃ ss : List Str, StrsAre vs ss ∧ ss.Perm (l.map keyT) := fun l g vs pm => by
  refine ⟨vs.map strOf, ?_, ?_⟩
  · refine strsAre_map vs fun v m => ?_
    obtain ⟨e, he, q⟩ := List.mem_map.mp (pm.mem_iff.mp m)
    obtain ⟨x, tk, rfl⟩ := g e he
    exact ⟨x, tk, q.symm⟩
  · have q := pm.map strOf
    rw [List.map_map] at q
    refine q.trans (List.Perm.of_eq (List.map_congr_left fun e he => ?_))
    obtain ⟨x, tk, rfl⟩ := g e he
    rfl
theorem tx_sorted {S : Str → Bool} {n : Nat} {Q : Value → Shared → Prop} (R : TxS w s.heap a S n) (hh : A.handled = none) (hn : n ≤ sizeLine)
    (hQ : ∀ u p (out : Array Value) (c : Nat) (xs : List Str), (∀ b o, s.heap.get? b = some o → u.heap.get? b = some o) ∧ u.gens = s.gens ∧ u.os = s.os ∧ s.heap.objs.size ≤ p → u.heap.get? p = some (seqObj "list" out c) → StrsAre out.toList xs →
      (xs.Pairwise fun x y => tl x < tl y) → (∀ k, k ∈ xs ↔ S k = true) → xs.length = n → Q (.ref p) u) : wpAny (model P w) A (call (.builtin "sorted") [.ref a]) Q E s := by
  obtain ⟨ob, el, k, tb, ⟨g1, g2, g3⟩, ⟨g4, g5, g6⟩, ⟨g7, g8, g9⟩, g10, g11⟩ := R
  refine Calls.call_function_entry kind_sorted plain_sorted entry_sorted (args_sorted1 _) ?_
  unfold Builtin.«sorted»
  refine wpAny_bind (m := checkCount "sorted" 1 1 _) (wpAny_pure (wpAny_bind (collect_set (A := A.in1) hh ⟨ob, g1, g2.1, g3⟩ g8 g7 g10 g11 fun u vs k1 hz e1 e2 pm => ?_)))
  obtain ⟨ss, hS, ps⟩ := tx_strs el.toList g4 vs pm
  have lv : vs.length = n := by rw [pm.length_eq, List.length_map, Array.length_toList]; exact g9
  refine wpAny_bind (wpAny_newList ?_ (lv ▸ hn))
  have oL : (u.heap.push (seqObj "list" vs.toArray 0)).get? u.heap.objs.size = some (seqObj "list" vs.toArray 0) := Heap.get?_push_size _ rfl
  refine wpAny_bind (wpAny_holding (wpAny_call_entry slot_list_sort ⟨_, oL, rfl⟩ entry_list_sort (list_sort_treeKAny strKind_oneLt oL hS.keysOf (fun v₁ v₂ rest e => keyKind_strs (by rw [← e]; exact hS)) (lv ▸ hn) fun st hp hs => ⟨_, rfl, ?_⟩) (args_list_sort _)))
  obtain ⟨xs, a1, a2, a3⟩ := sorted_out_str hS hp hs
  obtain ⟨c, hc⟩ := sortedHeap_at (vs := vs) (out := (arrOf st).map (·.2)) oL
  have px : xs.Perm (el.toList.map keyT) := a2.trans ps
  refine wpAny_pure ⟨_, rfl, hQ _ u.heap.objs.size _ c xs ⟨fun b v e => ?_, e1, e2, hz⟩ hc a1 (strict_of xs a3 (px.nodup_iff.mpr g5)) (fun x => by rw [px.mem_iff, ← g6 x]) ?_⟩
  · have lt := Heap.lt_size (k1 b v e)
    show (sortedHeap (u.heap.push (seqObj "list" vs.toArray 0)) u.heap.objs.size vs _).get? b = some v
    rw [sortedHeap_old (Nat.ne_of_lt lt) (by rw [size_push']; exact Nat.lt_succ_of_lt lt)]
    exact Heap.get?_push_of_some _ (k1 b v e)
  · rw [px.length_eq, List.length_map, Array.length_toList]
    exact g9
end
def TxO (w : World) (a : Addr) (S : Str → Bool) (n : Nat) : HO := .ext fun h => TxS w h a S n
section
variable {X : Cx} {pins : List (Addr × Obj)} {σ : L2.St} {H : Hp} {s : Shared} {a : Addr} {S : Str → Bool} {n : Nat}
theorem txO_new {P : Program} {w : World} {h : Heap} (R : TxS w h a S n) : ObjOk P w H h a (TxO w a S n) :=
  ⟨R, let ⟨o, _, _, _, ⟨g, _⟩, _⟩ := R; ⟨o, g⟩, fun _ _ p k => TxS.keep p k⟩
theorem txO_get (I : Inv X pins σ H s) (h : H a = some (TxO X.w a S n)) : TxS X.w s.heap a S n := (I.hok a _ h).1
/-- sorted(a set of texts) -/
def rSortTx (w : World) : List V → Hp → VK → Prop := fun vs H Q => ∃ (a : Addr) (S : Str → Bool) (n : Nat), vs = [V.ref a] ∧ H a = some (TxO w a S n) ∧ n ≤ 1000000 ∧
  ∀ (xs : List Str) (p : Addr), (xs.Pairwise fun x y => tl x < tl y) → (∀ k, k ∈ xs ↔ S k = true) → xs.length = n → H p = none → Q (.ref p) (upd H p (.lst (xs.map V.str)))
theorem cr_sortTx (hc : X.calm = true) : CallR X (.builtin "sorted") (rSortTx X.w) := by
  intro pins s σ H vs us Q I r h
  obtain ⟨a, S, n, rfl, ha, hn, q⟩ := h
  rw [Vals.ref1 r]
  refine tx_sorted (txO_get I ha) (I.ok.hd hc) (line_of (by omega)) fun u p out c xs k hg hi hs hm hl => ?_
  have np : H p = none := I.hok.fresh k.2.2.2
  have hx : (xs.map V.str).length ≤ sizeLine := by rw [List.length_map, hl]; exact line_of (by omega)
  have J := I.call' (ch := []) (s' := u) k.2.2.1 (Un.laid k.1 k.2.2.2 np) (I.hok.laid k.1 k.2.2.2 (o := .lst (xs.map V.str)) ⟨hx, out.toList, c, vals_of_strs hi, hg⟩) (by rw [k.2.1]; exact I.bare) (fun _ z => nomatch z)
  exact ⟨.ref p, _, J, rfl, q xs p hs hm hl np⟩
/-- x in, x not in such a set -/
def rInTx (w : World) (neg : Bool) : V → V → Hp → VK → Prop := fun x y H Q => ∃ (z : Str) (a : Addr) (S : Str → Bool) (n : Nat), x = .str z ∧ y = .ref a ∧ H a = some (TxO w a S n) ∧ Q (.bl (if neg then !S z else S z)) H
theorem op_inTx : OpR X (compareOp .In) (rInTx X.w false) := by
  intro pins s σ H x y v u Q I rx ry h
  obtain ⟨z, a, S, n, rfl, rfl, ha, q⟩ := h
  obtain ⟨tk, rfl⟩ := rx
  cases ry
  exact wpAny_inSet_of (strKind_is _ _ _ _) rfl (txO_get I ha).of ⟨.bl (S z), H, I.tok _, rfl, q⟩
theorem op_notInTx : OpR X (compareOp .NotIn) (rInTx X.w true) := by
  intro pins s σ H x y v u Q I rx ry h
  obtain ⟨z, a, S, n, rfl, rfl, ha, q⟩ := h
  obtain ⟨tk, rfl⟩ := rx
  cases ry
  exact wpAny_notInSet_of (strKind_is _ _ _ _) rfl (txO_get I ha).of ⟨.bl (!S z), H, I.tok _, rfl, q⟩
end
/-! ### tuples known by their very object; their index -/
def FzT (H : Hp) (a : Addr) (xs : List V) : Prop := ∃ o : Obj, o.dict = none ∧ H a = some (.frz o (.tup xs))
theorem FzT.sq {K : PySem.W.Frag} {H : Hp} {a : Addr} {xs : List V} (h : FzT H a xs) : SqT K H a xs := let ⟨o, _, e⟩ := h; .inl (.inr ⟨o, e⟩)
theorem FzT.go {H H' : Hp} {a : Addr} {xs : List V} (s : Same H H') (h : FzT H a xs) : FzT H' a xs := let ⟨o, d, e⟩ := h; ⟨o, d, s _ _ e⟩
section
variable {X : Cx}
/-- tuple(a list) -/
def rTupF (K : PySem.W.Frag) : List V → Hp → VK → Prop := fun vs H Q => ∃ p ys, vs = [V.ref p] ∧ SqL K H p ys ∧ ∀ (l : Addr) (o : Obj), H l = none → o.dict = none → Q (.ref l) (upd H l (.frz o (.tup ys)))
theorem call_tupF : CallR X (.type "tuple") (rTupF X.K) := by
  intro pins s σ H vs us Q I r h
  obtain ⟨p, ys, rfl, hq, q⟩ := h
  rw [Vals.ref1 r]
  obtain ⟨its, rv, pl, hz⟩ := I.list hq
  refine call_tuple_list pl.isList (fun h' kp => ?_) (by have := rv.length; simp only [List.size_toArray]; omega)
  have J : Inv X pins σ H { s with heap := h' } := I.kept (t' := s.toks) kp
  have nw : (h'.push { cls := .type "tuple", data := .seq its.toArray }).get? h'.objs.size = some { cls := .type "tuple", data := .seq its.toArray } := Heap.get?_push_size _ rfl
  exact ⟨.ref h'.objs.size, _, J.laid (t' := s.toks) (fun b o e => Heap.get?_push_of_some _ e) (Nat.le_refl _) (o := .frz { cls := .type "tuple", data := .seq its.toArray } (.tup ys)) ⟨nw, hz, its, rv, IsTup.new _ _⟩, rfl, q _ _ (J.hok.fresh (Nat.le_refl _)) rfl⟩
/-- t.index(x), t such a tuple of texts -/
def tTix (K : PySem.W.Frag) (to : TE) (t : TA) : TE := fun σ H Q => to σ H fun x H1 => ∃ (p : Addr) (ys : List Str), x = .ref p ∧ FzT H1 p (ys.map V.str) ∧
  t σ H1 fun vs H2 => ∃ (z : Str) (j : Nat), vs = [V.str z] ∧ SqT K H2 p (ys.map V.str) ∧ ys[j]? = some z ∧ (∀ m, m < j → ys[m]? ≠ some z) ∧ Q (.int j) H2
variable {o e : Expr} {es : List Expr} {to : TE} {t : TA} {apos cpos : Pos}
theorem pe_tix (ho : PE X o to) (ha : PA X (e :: es) t) (hbase : attributeBase o "index" X.env (eval o X.env) = eval o X.env := by rfl)
    (hw : ((backTo cpos (starEach (e :: es) X.env)).all (fun x => !x.1) && (backToKw cpos (keywordEach [] X.env)).all (fun x => x.1.isSome) && decide ((e :: es).length + ([] : List Keyword).length + (if ([] : List Keyword).isEmpty then 0 else 1) < 30)) = true := by rfl)
    (hi : (apos.endLine == cpos.line) = true := by rfl) (hs : starEach (e :: es) X.env = (false, eval e X.env) :: starEach es X.env := by rfl) (hp : (backTo cpos (starEach es X.env)).any (·.1) = false := by rfl) :
    PE X (.Call (.Attribute o "index" apos) (e :: es) [] cpos) (tTix X.K to t) := by
  refine ⟨fun pins s σ H Q I h => wpAny_Call_method_late hbase hw hi rfl (thn (ho.run pins s σ H _ I h) fun v s1 ⟨x, H1, I1, r1, p, ys, ex, fz, q1⟩ => ?_)⟩
  subst ex
  cases r1
  obtain ⟨ob, d1, d2⟩ := fz
  obtain ⟨g, _, its, _, o2, g2, c2, _⟩ := I1.hok p _ d2
  rw [g] at g2
  cases g2
  refine ⟨"tuple", "tuple.index", PySem.F.plainAttrs_tuple, PySem.F.slot_tuple_index, PySem.F.type_tuple_index, ⟨ob, g, c2⟩, fun a e => (by cases e; exact ⟨ob, g, d1⟩), ?_⟩
  have hA := ha.run cpos pins s1 σ H1 _ I1 q1
  rw [hs] at hA ⊢
  refine Calls.callWith_builtin (by show (false || (backTo cpos (starEach es X.env)).any (·.1)) = false; rw [hp]; rfl) (Calls.evalArgs_plain (thn hA fun us s2 ⟨vs, H2, I2, r2, z, j, ez, h1, h2, h3, q2⟩ => ?_))
  exact mt_tup_index pins s2 σ H2 (.ref p) vs (.ref p) us Q I2 rfl r2 ⟨p, ys, z, j, rfl, ez, h1, h2, h3, q2⟩
end
theorem w_tix {K : PySem.W.Frag} {to : TE} {t : TA} {σ : L2.St} {H : Hp} {Q : VK} : tTix K to t σ H Q = to σ H fun x H1 => ∃ (p : Addr) (ys : List Str), x = .ref p ∧ FzT H1 p (ys.map V.str) ∧
  t σ H1 fun vs H2 => ∃ (z : Str) (j : Nat), vs = [V.str z] ∧ SqT K H2 p (ys.map V.str) ∧ ys[j]? = some z ∧ (∀ m, m < j → ys[m]? ≠ some z) ∧ Q (.int j) H2 := rfl
theorem inV_strs (z : Str) (ys : List Str) : inV (.str z) (ys.map V.str) = decide (z ∈ ys) := by
  unfold inV
  rw [List.any_map]
  induction ys with
  | nil => rfl
  | cons y r ih =>
    rw [List.any_cons, ih]
    show (eqV (.str y) (.str z) || decide (z ∈ r)) = _
    by_cases e : z = y
    · subst e
      have : eqV (.str z) (.str z) = true := by simp [eqV]
      rw [this]
      simp
    · have : eqV (.str y) (.str z) = false := by
        simp [eqV]
        exact fun q => e q.symm
      rw [this]
      simp [e]
/-! ### the heap without the draws -/
def msk (d : Addr) (H : Hp) : Hp := fun a => if a = d then none else H a
section
variable {d a p : Addr} {H H' H1 : Hp} {o : HO}
theorem msk_ne (h : a ≠ d) : msk d H a = H a := if_neg h
theorem msk_d : msk d H d = none := if_pos rfl
theorem msk_le : Same (msk d H) H := fun a o e => by
  by_cases h : a = d
  · rw [h, msk_d] at e
    cases e
  · rwa [msk_ne h] at e
theorem Go.msk (g : Go d H H') : Same (My.msk d H) (My.msk d H') := fun a o e => by
  have h : a ≠ d := fun z => by
    rw [z, msk_d] at e
    cases e
  rw [msk_ne h] at e ⊢
  exact g.fr a o h e
theorem Same.msk (g : Same H H') : Same (My.msk d H) (My.msk d H') := fun a o e => by
  have h : a ≠ d := fun z => by
    rw [z, msk_d] at e
    cases e
  rw [msk_ne h] at e ⊢
  exact g a o e
theorem same_msk (s : Same H H1) (n : H d = none) : Same H (msk d H1) := fun a o e => by
  rw [msk_ne (ne_of_none e n)]
  exact s a o e
theorem msk_upd (h : p ≠ d) : msk d (upd H p o) p = some o := by rw [msk_ne h, upd_same]
theorem Dr.of (n : H d = none) (s : Same H H1) (h : Dr d H1) : Dr d H1 := h
end
/-! ### data -/
mutual
theorem Dp.go {K : PySem.W.Frag} {H H' : Hp} (s : Same H H') : ∀ (d : PyData) (v : V), Dp K H v d → Dp K H' v d
  | .none, _, h => by cases h; exact .non
  | .bool b, _, h => by cases h; exact .bl b
  | .int i, _, h => by cases h; exact .int i
  | .str x, _, h => by cases h; exact .str x
  | .list ds, _, h => by
    cases h with
    | lst a b => exact .lst (s.seq a) (DpAll.go s ds _ b)
  | .tuple ds, _, h => by
    cases h with
    | tup a b => exact .tup (Same.tup s a) (DpAll.go s ds _ b)
  | .dict _, _, h => by cases h
theorem DpAll.go {K : PySem.W.Frag} {H H' : Hp} (s : Same H H') : ∀ (ds : List PyData) (vs : List V), DpAll K H vs ds → DpAll K H' vs ds
  | [], _, h => by cases h; exact .nil
  | d :: ds, _, h => by
    cases h with
    | cons a b => exact .cons (Dp.go s d _ a) (DpAll.go s ds _ b)
end
theorem DpAll.len {K : PySem.W.Frag} {H : Hp} : ∀ {vs : List V} {ds : List PyData}, DpAll K H vs ds → vs.length = ds.length
  | _, _, .nil => rfl
  | _, _, .cons _ t => congrArg (· + 1) (DpAll.len t)
theorem DpAll.at {K : PySem.W.Frag} {H : Hp} : ∀ {vs : List V} {ds : List PyData} {i : Nat} {d : PyData}, DpAll K H vs ds → ds[i]? = some d → ∃ v, vs[i]? = some v ∧ Dp K H v d
  | _, _, _, _, .nil, e => by simp at e
  | _, _, 0, d, .cons h _, e => ⟨_, rfl, by simp at e; rw [← e]; exact h⟩
  | _, _, i + 1, d, .cons _ t, e => by
    obtain ⟨v, h1, h2⟩ := DpAll.at (i := i) t (by simpa using e)
    exact ⟨v, by simpa using h1, h2⟩
theorem DpAll.strs {K : PySem.W.Frag} {H : Hp} : ∀ xs : List Str, DpAll K H (xs.map V.str) (xs.map PyData.str)
  | [] => .nil
  | x :: r => .cons (.str x) (DpAll.strs r)
/-- how deep data are nested -/
def deep : PyData → Nat
  | .list ds => deeps ds + 1
  | .tuple ds => deeps ds + 1
  | _ => 0
where deeps : List PyData → Nat
  | [] => 0
  | d :: ds => max (deep d) (deeps ds)
theorem deep_mem {ds : List PyData} {d : PyData} (h : d ∈ ds) : deep d ≤ deep.deeps ds := by
  induction ds with
  | nil => cases h
  | cons x r ih =>
    show _ ≤ max (deep x) (deep.deeps r)
    rcases List.mem_cons.mp h with e | m
    · rw [e]
      exact Nat.le_max_left _ _
    · exact Nat.le_trans (ih m) (Nat.le_max_right _ _)
mutual
/-- data that a comparison by parts goes through -/
def good : PyData → Bool
  | .str _ => true
  | .int _ => true
  | .bool _ => true
  | .list ds => decide (ds.length ≤ 1000000) && goods ds
  | .tuple ds => decide (ds.length ≤ 1000000) && goods ds
  | _ => false
def goods : List PyData → Bool
  | [] => true
  | d :: ds => good d && goods ds
end
theorem good_mem : ∀ {ds : List PyData} {d : PyData}, goods ds = true → d ∈ ds → good d = true
  | [], _, _, h => by cases h
  | x :: r, d, g, h => by
    have g' : (good x && goods r) = true := by
      unfold goods at g
      exact g
    rw [Bool.and_eq_true] at g'
    rcases List.mem_cons.mp h with e | m
    · rw [e]
      exact g'.1
    · exact good_mem g'.2 m
theorem goods_of : ∀ {ds : List PyData}, (∀ d ∈ ds, good d = true) → goods ds = true
  | [], _ => by unfold goods; rfl
  | x :: r, h => by
    unfold goods
    rw [Bool.and_eq_true]
    exact ⟨h x List.mem_cons_self, goods_of fun d m => h d (List.mem_cons_of_mem _ m)⟩
theorem goods_strs (xs : List Str) : goods (xs.map PyData.str) = true := goods_of fun d m => by
  obtain ⟨x, _, rfl⟩ := List.mem_map.mp m
  unfold good
  rfl
theorem deeps_le : ∀ {ds : List PyData} {n : Nat}, (∀ d ∈ ds, deep d ≤ n) → deep.deeps ds ≤ n
  | [], _, _ => Nat.zero_le _
  | x :: r, n, h => Nat.max_le.mpr ⟨h x List.mem_cons_self, deeps_le fun d m => h d (List.mem_cons_of_mem _ m)⟩
theorem deeps_strs (xs : List Str) : deep.deeps (xs.map PyData.str) = 0 := Nat.le_zero.mp (deeps_le fun d m => by
  obtain ⟨x, _, rfl⟩ := List.mem_map.mp m
  exact Nat.le_refl _)
/-- isinstance of a value whose type's name is known -/
theorem isi_by {K : PySem.W.Frag} {H : Hp} {v : V} {a b : String} {r : Bool} {Q : Bool → Prop} (h : TyX K H v (.type a)) (e : kitB a b = some r) (q : Q r) :
    ∃ (t u : Value), ClsV (.ty b) u ∧ TyX K H v t ∧ ∃ c : Bool, PySem.W.kitOne K t u = some c ∧ Q c := ⟨_, _, .ty _, h, _, kit_ty e, q⟩
theorem ty_tup {K : PySem.W.Frag} {H : Hp} {a : Addr} {xs : List V} (h : SqT K H a xs) : TyX K H (.ref a) (.type "tuple") := by
  rcases h with (h | ⟨o, h⟩) | ⟨o, its, n, h1, h2, _⟩
  · exact .base (.tup h)
  · exact .fTuple h
  · exact .kTuple h1 h2
theorem ty_lst {K : PySem.W.Frag} {H : Hp} {a : Addr} {xs : List V} (h : SqL K H a xs) : TyX K H (.ref a) (.type "list") := by
  rcases h with (h | ⟨o, h⟩) | ⟨o, its, n, h1, h2, _⟩
  · exact .base (.lst h)
  · exact .base (.frz h)
  · exact .kList h1 h2
theorem kb1 : kitB "tuple" "tuple" = some true := by decide +kernel
theorem kb2 : kitB "tuple" "list" = some false := by decide +kernel
theorem kb3 : kitB "list" "tuple" = some false := by decide +kernel
theorem kb4 : kitB "list" "list" = some true := by decide +kernel
theorem kb5 : kitB "str" "tuple" = some false := by decide +kernel
theorem kb6 : kitB "str" "list" = some false := by decide +kernel
theorem kb7 : kitB "str" "str" = some true := by decide +kernel
theorem kb8 : kitB "int" "tuple" = some false := by decide +kernel
theorem kb9 : kitB "int" "list" = some false := by decide +kernel
theorem kb10 : kitB "int" "str" = some false := by decide +kernel
theorem kb11 : kitB "int" "bool" = some false := by decide +kernel
theorem kb12 : kitB "int" "int" = some true := by decide +kernel
theorem kb13 : kitB "bool" "tuple" = some false := by decide +kernel
theorem kb14 : kitB "bool" "list" = some false := by decide +kernel
theorem kb15 : kitB "bool" "str" = some false := by decide +kernel
theorem kb16 : kitB "bool" "bool" = some true := by decide +kernel
theorem r_sortTx {w : World} {vs : List V} {H : Hp} {Q : VK} : rSortTx w vs H Q = ∃ (a : Addr) (S : Str → Bool) (n : Nat), vs = [V.ref a] ∧ H a = some (TxO w a S n) ∧ n ≤ 1000000 ∧
  ∀ (xs : List Str) (p : Addr), (xs.Pairwise fun x y => tl x < tl y) → (∀ k, k ∈ xs ↔ S k = true) → xs.length = n → H p = none → Q (.ref p) (upd H p (.lst (xs.map V.str))) := rfl
theorem r_inTx {w : World} {neg : Bool} {x y : V} {H : Hp} {Q : VK} : rInTx w neg x y H Q = ∃ (z : Str) (a : Addr) (S : Str → Bool) (n : Nat), x = .str z ∧ y = .ref a ∧ H a = some (TxO w a S n) ∧ Q (.bl (if neg then !S z else S z)) H := rfl
theorem r_tupF {K : PySem.W.Frag} {vs : List V} {H : Hp} {Q : VK} : rTupF K vs H Q = ∃ p ys, vs = [V.ref p] ∧ SqL K H p ys ∧ ∀ (l : Addr) (o : Obj), H l = none → o.dict = none → Q (.ref l) (upd H l (.frz o (.tup ys))) := rfl
theorem r_sortS {K : PySem.W.Frag} {vs : List V} {H : Hp} {Q : VK} : rSortedS K vs H Q = ∃ (a : Addr) (xs : List Str), vs = [V.ref a] ∧ SqL K H a (xs.map V.str) ∧ xs.length < 64 ∧ ∀ (ys : List Str) (p : Addr), ys.Perm xs → sortedS ys = true → H p = none → Q (.ref p) (upd H p (.lst (ys.map V.str))) := rfl
/-- set(a list | a tuple of texts), what is asked -/
def rSetTup (K : PySem.W.Frag) (w : World) : List V → Hp → VK → Prop := fun vs H Q => ∃ (p : Addr) (xs : List Str), vs = [V.ref p] ∧ SqT K H p (xs.map V.str) ∧ xs.length ≤ 4000 ∧ ∀ u c, H u = none → c ≤ xs.length → Q (.ref u) (upd H u (TxO w u (fun j => decide (j ∈ xs)) c))
def rSetLst (K : PySem.W.Frag) (w : World) : List V → Hp → VK → Prop := fun vs H Q => ∃ (p : Addr) (xs : List Str), vs = [V.ref p] ∧ SqL K H p (xs.map V.str) ∧ xs.length ≤ 4000 ∧ ∀ u c, H u = none → c ≤ xs.length → Q (.ref u) (upd H u (TxO w u (fun j => decide (j ∈ xs)) c))
theorem r_setTup {K : PySem.W.Frag} {w : World} {vs : List V} {H : Hp} {Q : VK} : rSetTup K w vs H Q = ∃ (p : Addr) (xs : List Str), vs = [V.ref p] ∧ SqT K H p (xs.map V.str) ∧ xs.length ≤ 4000 ∧ ∀ u c, H u = none → c ≤ xs.length → Q (.ref u) (upd H u (TxO w u (fun j => decide (j ∈ xs)) c)) := rfl
theorem r_setLst {K : PySem.W.Frag} {w : World} {vs : List V} {H : Hp} {Q : VK} : rSetLst K w vs H Q = ∃ (p : Addr) (xs : List Str), vs = [V.ref p] ∧ SqL K H p (xs.map V.str) ∧ xs.length ≤ 4000 ∧ ∀ u c, H u = none → c ≤ xs.length → Q (.ref u) (upd H u (TxO w u (fun j => decide (j ∈ xs)) c)) := rfl
/-! ### the stock order -/
/-- the first place of z -/
def fix (z : Str) : List Str → Nat
  | [] => 0
  | y :: r => if y = z then 0 else fix z r + 1
theorem fix_at : ∀ {z : Str} {ws : List Str}, z ∈ ws → ws[fix z ws]? = some z ∧ ∀ m, m < fix z ws → ws[m]? ≠ some z
  | z, [], h => by cases h
  | z, y :: r, h => by
    unfold fix
    by_cases e : y = z
    · rw [if_pos e]
      exact ⟨by rw [e]; rfl, fun m hm => absurd hm (Nat.not_lt_zero _)⟩
    · rw [if_neg e]
      have hr : z ∈ r := (List.mem_cons.mp h).resolve_left fun q => e q.symm
      obtain ⟨h1, h2⟩ := fix_at hr
      refine ⟨by rw [List.getElem?_cons_succ]; exact h1, fun m hm => ?_⟩
      cases m with
      | zero => exact fun q => e (Option.some.inj q)
      | succ m => rw [List.getElem?_cons_succ]; exact h2 m (Nat.lt_of_succ_lt_succ hm)
abbrev noW : Str := Str.ofString ""
/-- the place of a word or the blank -/
def place (ws : List Str) (z : Str) : Int × Int := if z = noW then (0, 0) else if z ∈ ws then (1, fix z ws) else (2, wnum (tl z))
def Rise (ws : List Str) : Prop := ws.Pairwise fun x y => tl x < tl y
theorem rise_fix {ws : List Str} (h : Rise ws) {x y : Str} (hx : x ∈ ws) (hy : y ∈ ws) : fix x ws < fix y ws ↔ tl x < tl y := by
  obtain ⟨a, _⟩ := fix_at hx
  obtain ⟨b, _⟩ := fix_at hy
  have key : ∀ i j u v, ws[i]? = some u → ws[j]? = some v → i < j → tl u < tl v := fun i j u v h1 h2 l => by
    obtain ⟨l1, e1⟩ := List.getElem?_eq_some_iff.mp h1
    obtain ⟨l2, e2⟩ := List.getElem?_eq_some_iff.mp h2
    have := List.pairwise_iff_getElem.mp h i j l1 l2 l
    rw [e1, e2] at this
    exact this
  constructor
  · exact key _ _ _ _ a b
  · intro l
    rcases Nat.lt_trichotomy (fix x ws) (fix y ws) with q | q | q
    · exact q
    · rw [q, b] at a
      rw [Option.some.inj a] at l
      exact absurd l (List.lt_irrefl _)
    · exact absurd l (List.lt_asymm (key _ _ _ _ b a q))
/-- what _law_before says -/
def bef (ws : List Str) (x y : Str) : Bool :=
  if x = noW ∨ y = noW then decide (x = noW) && !decide (y = noW)
  else if x ∈ ws ∨ y ∈ ws then decide (x ∈ ws) && (!decide (y ∈ ws) || decide (tl x < tl y))
  else decide (x.length < y.length) || (decide (x.length = y.length) && decide (tl x < tl y))
theorem lex2 (a b c d : Int) : HT.lexLt [a, b] [c, d] = decide (a < c ∨ (a = c ∧ b < d)) := by
  rw [HT.lexLt_cons]
  by_cases h : a = c
  · subst h
    rw [if_pos rfl, HT.lexLt_cons]
    by_cases k : b = d
    · subst k
      rw [if_pos rfl]
      show false = _
      simp
    · rw [if_neg k]
      simp
  · rw [if_neg h]
    simp [h]
theorem place_lt {ws : List Str} (h : Rise ws) {x y : Str} (hx : AZ x) (hy : AZ y) : HT.lexLt [(place ws x).1, (place ws x).2] [(place ws y).1, (place ws y).2] = bef ws x y := by
  rw [lex2]
  have w1 := wnum_lt hx hy
  rw [← len_tl, ← len_tl] at w1
  have p1 : ∀ z, z = noW → place ws z = (0, 0) := fun z e => if_pos e
  have p2 : ∀ z, z ≠ noW → z ∈ ws → place ws z = (1, (fix z ws : Int)) := fun z e m => (if_neg e).trans (if_pos m)
  have p3 : ∀ z, z ≠ noW → z ∉ ws → place ws z = (2, wnum (tl z)) := fun z e m => (if_neg e).trans (if_neg m)
  by_cases a : x = noW
  · have b1 : bef ws x y = (decide (x = noW) && !decide (y = noW)) := if_pos (.inl a)
    rw [b1, p1 x a, decide_eq_true a]
    by_cases b : y = noW
    · rw [p1 y b, decide_eq_true b]
      decide
    · rw [decide_eq_false b]
      by_cases c : y ∈ ws
      · rw [p2 y b c]
        exact decide_eq_true (.inl (by show (0 : Int) < 1; decide))
      · rw [p3 y b c]
        exact decide_eq_true (.inl (by show (0 : Int) < 2; decide))
  · by_cases b : y = noW
    · have b1 : bef ws x y = (decide (x = noW) && !decide (y = noW)) := if_pos (.inr b)
      rw [b1, p1 y b, decide_eq_false a]
      by_cases c : x ∈ ws
      · rw [p2 x a c]
        exact decide_eq_false (fun z => by
          have z' : (1 : Int) < 0 ∨ ((1 : Int) = 0 ∧ (fix x ws : Int) < 0) := z
          omega)
      · rw [p3 x a c]
        exact decide_eq_false (fun z => by
          have z' : (2 : Int) < 0 ∨ ((2 : Int) = 0 ∧ wnum (tl x) < 0) := z
          omega)
    · have b0 : bef ws x y = if x ∈ ws ∨ y ∈ ws then decide (x ∈ ws) && (!decide (y ∈ ws) || decide (tl x < tl y)) else decide (x.length < y.length) || (decide (x.length = y.length) && decide (tl x < tl y)) :=
        if_neg (fun z => z.elim a b)
      rw [b0]
      by_cases c : x ∈ ws
      · rw [p2 x a c, if_pos (.inl c), decide_eq_true c, Bool.true_and]
        by_cases d : y ∈ ws
        · have r := rise_fix h c d
          rw [p2 y b d, decide_eq_true d, Bool.not_true, Bool.false_or]
          refine decide_eq_decide.mpr ⟨fun q => r.mp ?_, fun q => .inr ⟨rfl, ?_⟩⟩
          · have q' : (1 : Int) < 1 ∨ ((1 : Int) = 1 ∧ (fix x ws : Int) < fix y ws) := q
            omega
          · have := r.mpr q
            show (fix x ws : Int) < fix y ws
            omega
        · rw [p3 y b d, decide_eq_false d, Bool.not_false, Bool.true_or]
          exact decide_eq_true (.inl (by show (1 : Int) < 2; decide))
      · by_cases d : y ∈ ws
        · rw [p3 x a c, p2 y b d, if_pos (.inr d), decide_eq_false c, Bool.false_and]
          exact decide_eq_false (fun z => by
            have z' : (2 : Int) < 1 ∨ ((2 : Int) = 1 ∧ wnum (tl x) < fix y ws) := z
            omega)
        · rw [p3 x a c, p3 y b d, if_neg (fun z => z.elim c d), ← Bool.decide_and, ← Bool.decide_or]
          refine decide_eq_decide.mpr (Iff.trans ⟨fun q => ?_, fun q => .inr ⟨rfl, q⟩⟩ w1)
          have q' : (2 : Int) < 2 ∨ ((2 : Int) = 2 ∧ wnum (tl x) < wnum (tl y)) := q
          omega
/-! ### comprehensions that draw texts -/
theorem LcR.strs {n k : Nat} {d : Addr} {H : Hp} {σ : L2.St} {vs : List Nat} {te : TE} {Q : VK} (Pz : Str → Prop) (hn : n ≤ 1000000) (hD : Dr d H) (hw : ∀ x, wipe ((wipe σ vs).set k (some x)) vs = wipe σ vs)
    (hel : ∀ (i : Nat) (H1 : Hp) (R : VK), i < n → Go d H H1 → (∀ z H2, Pz z → Go d H1 H2 → R (.str z) H2) → te ((wipe σ vs).set k (some (.int (0 + (i : Int))))) H1 R)
    (hq : ∀ (c : Addr) (H2 : Hp) (zs : List Str), Go d H H2 → H c = none → H2 c = some (.lst (zs.map V.str)) → zs.length = n → (∀ z ∈ zs, Pz z) → Q (.ref c) H2) : LcR 0 n (gName k) tYes te vs σ H Q :=
  LcR.by fun c nc => by
    have ncd := Go.ne hD nc
    have fr : ∀ {H1 : Hp} {o : HO}, Go d H H1 → Go d H (upd H1 c o) := fun {H1 o} g => ⟨fun a u ne e => by
      rw [upd_ne (ne_of_none e nc)]
      exact g.fr a u ne e, let ⟨ds, e⟩ := g.dr; ⟨ds, by rw [upd_ne ncd.symm]; exact e⟩⟩
    refine ⟨fun i H1 => Go d H H1 ∧ ∃ zs : List Str, H1 c = some (.lst (zs.map V.str)) ∧ zs.length = i ∧ ∀ z ∈ zs, Pz z, ⟨fr (Go.refl hD), [], upd_same, rfl, fun z m => by cases m⟩, fun i H1 hi p => ?_, fun H1 p => ?_⟩
    · obtain ⟨g, zs, e, hl, hz⟩ := p
      show wipe _ vs = _ ∧ te _ H1 _
      refine ⟨hw _, hel i H1 _ hi g fun z H2 pz g2 => ?_⟩
      have e2 : H2 c = some (.lst (zs.map V.str)) := g2.fr c _ ncd e
      refine ⟨_, e2, by rw [List.length_map]; exact line_lt (by omega), fr (g.trans g2), zs ++ [z], ?_, by rw [List.length_append, hl]; rfl, fun x m => ?_⟩
      · rw [upd_same, List.map_append]
        rfl
      · rcases List.mem_append.mp m with k | k
        · exact hz x k
        · rw [List.mem_singleton.mp k]
          exact pz
    · obtain ⟨g, zs, e, hl, hz⟩ := p
      exact hq c H1 zs g nc e hl hz
/-- the abstract heap behind set, sorted, tuple: what stood stands -/
theorem Go.dir {d p : Addr} {H H1 : Hp} {o : HO} (g : Go d H H1) (h : H1 p = none) : Go d H (upd H1 p o) := g.new h
/-! ### the first words that are not mentioned -/
/-- the word with that number -/
def wdN (n : Nat) : Str := ⟨(atw n).toArray⟩
/-- of the first n words those that are not mentioned -/
def frs (ws : List Str) (n : Nat) : List Str := ((List.range n).map fun i => wdN (i + 1)).filter fun z => !decide (z ∈ ws)
/-- the first c words that are not mentioned -/
def frsN (ws : List Str) (c : Nat) : List Str := (frs ws (c + ws.length)).take c
theorem wdN_inj {m n : Nat} (h : wdN m = wdN n) : m = n := by
  have e : atw m = atw n := by
    have := congrArg tl h
    simpa [wdN] using this
  have := congrArg wnum e
  rw [wnum_atw, wnum_atw] at this
  omega
theorem frs_succ (ws : List Str) (n : Nat) : frs ws (n + 1) = frs ws n ++ (if wdN (n + 1) ∈ ws then [] else [wdN (n + 1)]) := by
  unfold frs
  rw [List.range_succ, List.map_append, List.filter_append]
  congr 1
  by_cases h : wdN (n + 1) ∈ ws
  · rw [if_pos h]
    simp [h]
  · rw [if_neg h]
    simp [h]
theorem frs_len (ws : List Str) : ∀ n, (frs ws n).length ≤ n
  | 0 => Nat.zero_le _
  | n + 1 => by
    rw [frs_succ, List.length_append]
    have := frs_len ws n
    split <;> simp <;> omega
theorem nodup_len : ∀ (l D : List Str), l.Nodup → (∀ x ∈ l, x ∈ D) → l.length ≤ D.length
  | [], _, _, _ => Nat.zero_le _
  | x :: r, D, nd, h => by
    obtain ⟨n1, n2⟩ := List.nodup_cons.mp nd
    have hx := h x List.mem_cons_self
    have := nodup_len r (D.erase x) n2 fun y m => (List.mem_erase_of_ne (fun e => n1 (by rw [← e]; exact m))).mpr (h y (List.mem_cons_of_mem _ m))
    rw [List.length_erase_of_mem hx] at this
    have p := List.length_pos_of_mem hx
    show r.length + 1 ≤ _
    omega
theorem frs_ge (ws : List Str) (n : Nat) : n ≤ (frs ws n).length + ws.length := by
  have key : ∀ l : List Str, (l.filter fun z => !decide (z ∈ ws)).length + (l.filter fun z => decide (z ∈ ws)).length = l.length := by
    intro l
    induction l with
    | nil => rfl
    | cons x r ih =>
      by_cases h : x ∈ ws
      · rw [List.filter_cons_of_neg (by simp [h]), List.filter_cons_of_pos (by simp [h]), List.length_cons, List.length_cons]
        omega
      · rw [List.filter_cons_of_pos (by simp [h]), List.filter_cons_of_neg (by simp [h]), List.length_cons, List.length_cons]
        omega
  have k := key ((List.range n).map fun i => wdN (i + 1))
  rw [List.length_map, List.length_range] at k
  have nd : ((List.range n).map fun i => wdN (i + 1)).Nodup := by
    refine List.Pairwise.map _ (fun x y ne e => ne ?_) List.nodup_range
    have := wdN_inj e
    omega
  have := nodup_len (((List.range n).map fun i => wdN (i + 1)).filter fun z => decide (z ∈ ws)) ws (nd.sublist List.filter_sublist) fun x m => of_decide_eq_true (List.mem_filter.mp m).2
  unfold frs
  omega
theorem frs_pre (ws : List Str) (n : Nat) : ∀ k, (frs ws (n + k)).take (frs ws n).length = frs ws n
  | 0 => List.take_length
  | k + 1 => by
    have := frs_pre ws n k
    have l : (frs ws n).length ≤ (frs ws (n + k)).length := by
      have := congrArg List.length this
      rw [List.length_take] at this
      omega
    rw [show n + (k + 1) = n + k + 1 from rfl, frs_succ, List.take_append_of_le_length l]
    exact this
theorem frs_eq {ws : List Str} {n c : Nat} (h : (frs ws n).length = c) (hn : n ≤ c + ws.length) : frs ws n = frsN ws c := by
  have := frs_pre ws n (c + ws.length - n)
  rw [show n + (c + ws.length - n) = c + ws.length by omega, h] at this
  exact this.symm
theorem dp_strs {K : PySem.W.Frag} {H : Hp} {p : Addr} {xs : List Str} (h : SqL K H p (xs.map V.str)) (hn : xs.length ≤ 1000000) : Dp K H (.ref p) (.list (xs.map PyData.str)) ∧ good (.list (xs.map PyData.str)) = true ∧ deep (.list (xs.map PyData.str)) < 8 := by
  refine ⟨.lst h (DpAll.strs xs), ?_, ?_⟩
  · unfold good
    rw [Bool.and_eq_true, decide_eq_true_eq, List.length_map]
    exact ⟨hn, goods_strs xs⟩
  · show deep.deeps _ + 1 < 8
    rw [deeps_strs]
    decide
theorem dp_strsT {K : PySem.W.Frag} {H : Hp} {p : Addr} {xs : List Str} (h : SqT K H p (xs.map V.str)) (hn : xs.length ≤ 1000000) : Dp K H (.ref p) (.tuple (xs.map PyData.str)) ∧ good (.tuple (xs.map PyData.str)) = true ∧ deep (.tuple (xs.map PyData.str)) < 8 := by
  refine ⟨.tup h (DpAll.strs xs), ?_, ?_⟩
  · unfold good
    rw [Bool.and_eq_true, decide_eq_true_eq, List.length_map]
    exact ⟨hn, goods_strs xs⟩
  · show deep.deeps _ + 1 < 8
    rw [deeps_strs]
    decide
/-- t[1:] -/
theorem sl_one {K : PySem.W.Frag} {H : Hp} {t : Addr} {ys : List V} {Q : VK} (h : SqT K H t ys) (q : ∀ t' H', Same H H' → SqT K H' t' (ys.drop 1) → Q (.ref t') H') : rSlA K (.ref t) (some 1) none H Q := by
  have e1 : HT.sIx ys.length 0 (some (1 : Int)) = min 1 ys.length := HT.sIx_nat ys.length 0 1
  refine ⟨t, ys, rfl, h, fun w => ?_, fun _ p np => ?_⟩
  · rw [e1] at w
    have l0 : ys = [] := List.eq_nil_of_length_eq_zero (by omega)
    refine q t H (Same.refl H) ?_
    rw [l0] at h ⊢
    exact h
  · refine q p _ (Same.new np) (SqT.of ?_)
    rw [upd_same]
    show some (HO.tup ((ys.drop (HT.sIx ys.length 0 (some 1))).take (HT.sIx ys.length ys.length none - HT.sIx ys.length 0 (some 1)))) = _
    rw [e1, HT.sIx_none, List.take_of_length_le (by rw [List.length_drop]; exact Nat.le_refl _)]
    cases ys with
    | nil => rfl
    | cons y r => rw [show min 1 (y :: r).length = 1 by rw [List.length_cons]; omega]
theorem frsN_len (ws : List Str) (c : Nat) : (frsN ws c).length ≤ c := by
  unfold frsN
  rw [List.length_take]
  exact Nat.min_le_left _ _
/-! ### data without lists, in a heap that grows -/
/-- the tuples of H stand in H' -/
def TS (H H' : Hp) : Prop := ∀ a xs, (H a = some (.tup xs) → H' a = some (.tup xs)) ∧ ∀ o, H a = some (.frz o (.tup xs)) → H' a = some (.frz o (.tup xs))
section
variable {H H' H1 H2 : Hp} {a d p : Addr} {o : HO} {xs : List V} {K : PySem.W.Frag}
theorem TS.refl (H : Hp) : TS H H := fun _ _ => ⟨id, fun _ => id⟩
theorem TS.trans (x : TS H H1) (y : TS H1 H2) : TS H H2 := fun a xs => ⟨fun e => (y a xs).1 ((x a xs).1 e), fun o e => (y a xs).2 o ((x a xs).2 o e)⟩
theorem TS.of (s : Same H H') : TS H H' := fun _ _ => ⟨fun e => s _ _ e, fun _ e => s _ _ e⟩
theorem TS.new (h : H p = none) : TS H (upd H p o) := TS.of (Same.new h)
theorem TS.lst (h : H p = some (.lst xs)) : TS H (upd H p o) := fun a ys => by
  have key : ∀ u, H a = some u → (∀ zs, u ≠ .lst zs) → upd H p o a = some u := fun u e n => by
    rw [upd_ne (fun z => n xs (by rw [z, h] at e; exact (Option.some.inj e).symm))]
    exact e
  exact ⟨fun e => key _ e (fun zs z => by cases z), fun ob e => key _ e (fun zs z => by cases z)⟩
theorem TS.go (h : Dr d H) (g : Go d H H') : TS H H' := fun a ys => by
  obtain ⟨ds, e⟩ := h
  have key : ∀ u, H a = some u → (∀ zs, u ≠ .lst zs) → H' a = some u := fun u e2 n => g.fr a u (fun z => n _ (by rw [z, e] at e2; exact (Option.some.inj e2).symm)) e2
  exact ⟨fun e => key _ e (fun zs z => by cases z), fun ob e => key _ e (fun zs z => by cases z)⟩
theorem TS.tup (s : TS H H') (h : SqT K H a xs) : SqT K H' a xs := by
  rcases h with (h | ⟨o, h⟩) | h
  · exact .inl (.inl ((s a xs).1 h))
  · exact .inl (.inr ⟨o, (s a xs).2 o h⟩)
  · exact .inr h
end
mutual
/-- no list in it -/
def tupo : PyData → Bool
  | .list _ => false
  | .dict _ => false
  | .tuple ds => tupos ds
  | _ => true
def tupos : List PyData → Bool
  | [] => true
  | d :: ds => tupo d && tupos ds
end
theorem tupos_of : ∀ {ds : List PyData}, (∀ d ∈ ds, tupo d = true) → tupos ds = true
  | [], _ => by unfold tupos; rfl
  | x :: r, h => by
    unfold tupos
    rw [h x List.mem_cons_self, tupos_of fun d m => h d (List.mem_cons_of_mem _ m)]
    rfl
mutual
theorem Dp.ts {K : PySem.W.Frag} {H H' : Hp} (s : TS H H') : ∀ (d : PyData) (v : V), tupo d = true → Dp K H v d → Dp K H' v d
  | .none, _, _, h => by cases h; exact .non
  | .bool b, _, _, h => by cases h; exact .bl b
  | .int i, _, _, h => by cases h; exact .int i
  | .str x, _, _, h => by cases h; exact .str x
  | .list ds, _, t, _ => by unfold tupo at t; cases t
  | .tuple ds, _, t, h => by
    unfold tupo at t
    cases h with
    | tup a b => exact .tup (s.tup a) (DpAll.ts s ds _ t b)
  | .dict _, _, _, h => by cases h
theorem DpAll.ts {K : PySem.W.Frag} {H H' : Hp} (s : TS H H') : ∀ (ds : List PyData) (vs : List V), tupos ds = true → DpAll K H vs ds → DpAll K H' vs ds
  | [], _, _, h => by cases h; exact .nil
  | d :: ds, _, t, h => by
    unfold tupos at t
    rw [Bool.and_eq_true] at t
    cases h with
    | cons a b => exact .cons (Dp.ts s d _ t.1 a) (DpAll.ts s ds _ t.2 b)
end
theorem DpAll.snoc {K : PySem.W.Frag} {H : Hp} {v : V} {d : PyData} (h : Dp K H v d) : ∀ {vs : List V} {ds : List PyData}, DpAll K H vs ds → DpAll K H (vs ++ [v]) (ds ++ [d])
  | _, _, .nil => .cons h .nil
  | _, _, .cons a t => .cons a (DpAll.snoc h t)
/-- a part of a tuple of data -/
theorem Dp.part {K : PySem.W.Frag} {H : Hp} {v : V} {ds : List PyData} {i : Nat} {x : PyData} (h : Dp K H v (.tuple ds)) (e : ds[i]? = some x) : ∃ (a : Addr) (vs : List V) (u : V), v = .ref a ∧ SqT K H a vs ∧ atI vs (i : Int) = some u ∧ Dp K H u x ∧ vs.length = ds.length := by
  cases h with
  | @tup a vs _ s b =>
    obtain ⟨u, e1, du⟩ := DpAll.at b e
    exact ⟨a, vs, u, rfl, s, atI_nat e1, du, DpAll.len b⟩
theorem Dp.tupI {K : PySem.W.Frag} {H : Hp} {v : V} {ds : List PyData} (h : Dp K H v (.tuple ds)) : ∃ (a : Addr) (vs : List V), v = .ref a ∧ SqT K H a vs ∧ DpAll K H vs ds := by
  cases h with
  | tup s b => exact ⟨_, _, rfl, s, b⟩
theorem DpAll.strsI {K : PySem.W.Frag} {H : Hp} : ∀ {zs : List Str} {vs : List V}, DpAll K H vs (zs.map PyData.str) → vs = zs.map V.str
  | [], _, h => by cases h; rfl
  | z :: r, _, h => by
    cases h with
    | cons a b =>
      cases a
      exact congrArg (V.str z :: ·) (DpAll.strsI b)
theorem Dp.pairI {K : PySem.W.Frag} {H : Hp} {v : V} {x y : PyData} (h : Dp K H v (.tuple [x, y])) : ∃ (a : Addr) (u w : V), v = .ref a ∧ SqT K H a [u, w] ∧ Dp K H u x ∧ Dp K H w y := by
  cases h with
  | tup s b =>
    cases b with
    | cons a b =>
      cases b with
      | cons a2 b2 =>
        cases b2
        exact ⟨_, _, _, rfl, s, a, a2⟩
/-! ### comprehensions that make data, draws taken meanwhile -/
section
variable {K : PySem.W.Frag} {d : Addr} {H : Hp} {σ : L2.St} {vs : List Nat} {te : TE} {Q : VK}
theorem Go.acc {c : Addr} {H1 : Hp} {o : HO} (hD : Dr d H) (nc : H c = none) (g : Go d H H1) : Go d H (upd H1 c o) := ⟨fun a u ne e => by
  rw [upd_ne (ne_of_none e nc)]
  exact g.fr a u ne e, let ⟨ds, e⟩ := g.dr; ⟨ds, by rw [upd_ne (Go.ne hD nc).symm]; exact e⟩⟩
/-- what such a comprehension keeps -/
def DatI (K : PySem.W.Frag) (d c : Addr) (H : Hp) (T : Nat → PyData → Prop) (i : Nat) (H1 : Hp) : Prop :=
  Go d H H1 ∧ ∃ us xs, H1 c = some (.lst us) ∧ us.length = i ∧ DpAll K H1 us xs ∧ ∀ j x, xs[j]? = some x → T j x
theorem DatI.zero {c : Addr} {T : Nat → PyData → Prop} (hD : Dr d H) (nc : H c = none) : DatI K d c H T 0 (upd H c (.lst [])) := ⟨Go.acc hD nc (Go.refl hD), [], [], upd_same, rfl, .nil, fun j x e => by rw [List.getElem?_nil] at e; cases e⟩
theorem DatI.step {c : Addr} {T : Nat → PyData → Prop} {i : Nat} {H1 H2 : Hp} {v : V} {x : PyData} (tT : ∀ i x, T i x → tupo x = true) (hD : Dr d H) (nc : H c = none) (hi : i ≤ 1000000) (I : DatI K d c H T i H1) (g2 : Go d H1 H2) (dx : Dp K H2 v x) (tx : T i x) :
    ∃ acc, H2 c = some (.lst acc) ∧ acc.length < sizeLine ∧ DatI K d c H T (i + 1) (upd H2 c (.lst (acc ++ [v]))) := by
  obtain ⟨g, us, xs, e, hl, da, hT⟩ := I
  have e2 : H2 c = some (.lst us) := g2.fr c _ (Go.ne hD nc) e
  have s2 := TS.go g.dr g2
  have s3 : TS H2 (upd H2 c (.lst (us ++ [v]))) := TS.lst e2
  have tp : tupos xs = true := tupos_of fun y m => by
    obtain ⟨j, hj, ej⟩ := List.getElem_of_mem m
    exact tT j y (hT j y (by rw [List.getElem?_eq_getElem hj, ej]))
  refine ⟨us, e2, line_lt (by omega), Go.acc hD nc (g.trans g2), us ++ [v], xs ++ [x], upd_same, by rw [List.length_append, hl]; rfl, DpAll.snoc (Dp.ts s3 _ _ (tT _ _ tx) dx) (DpAll.ts (s2.trans s3) _ _ tp da), fun j y ej => ?_⟩
  have lx := DpAll.len da
  by_cases hj : j < xs.length
  · rw [List.getElem?_append_left hj] at ej
    exact hT j y ej
  · rw [List.getElem?_append_right (by omega)] at ej
    obtain ⟨h1, h2⟩ := List.getElem?_eq_some_iff.mp ej
    have : j - xs.length = 0 := by simp at h1; omega
    rw [show j = i by omega]
    simp [this] at h2
    rw [← h2]
    exact tx
theorem LcR.dat {n k : Nat} (T : Nat → PyData → Prop) (tT : ∀ i x, T i x → tupo x = true) (hn : n ≤ 1000000) (hD : Dr d H) (hw : ∀ x, wipe ((wipe σ vs).set k (some x)) vs = wipe σ vs)
    (hel : ∀ (i : Nat) (H1 : Hp) (R : VK), i < n → Go d H H1 → (∀ v x H2, Dp K H2 v x → T i x → Go d H1 H2 → R v H2) → te ((wipe σ vs).set k (some (.int (0 + (i : Int))))) H1 R)
    (hq : ∀ (c : Addr) (H2 : Hp) (us : List V) (xs : List PyData), Go d H H2 → H c = none → H2 c = some (.lst us) → us.length = n → DpAll K H2 us xs → (∀ j x, xs[j]? = some x → T j x) → Q (.ref c) H2) : LcR 0 n (gName k) tYes te vs σ H Q :=
  LcR.by fun c nc => by
    refine ⟨DatI K d c H T, DatI.zero hD nc, fun i H1 hi I => ?_, fun H1 ⟨g, us, xs, e, hl, da, hT⟩ => hq c H1 us xs g nc e hl da hT⟩
    show wipe _ vs = _ ∧ te _ H1 _
    exact ⟨hw _, hel i H1 _ hi I.1 fun v x H2 dx tx g2 => DatI.step tT hD nc (by omega) I g2 dx tx⟩
theorem LcL.dat {k : Nat} {a : Addr} {its : List V} (T : Nat → PyData → Prop) (tT : ∀ i x, T i x → tupo x = true) (hn : its.length ≤ 1000000) (hD : Dr d H) (nad : a ≠ d) (hS : SqL K H a its) (hw : ∀ x, wipe ((wipe σ vs).set k (some x)) vs = wipe σ vs)
    (hel : ∀ (i : Nat) (u : V) (H1 : Hp) (R : VK), its[i]? = some u → Go d H H1 → (∀ v x H2, Dp K H2 v x → T i x → Go d H1 H2 → R v H2) → te ((wipe σ vs).set k (some u)) H1 R)
    (hq : ∀ (c : Addr) (H2 : Hp) (us : List V) (xs : List PyData), Go d H H2 → H c = none → H2 c = some (.lst us) → us.length = its.length → DpAll K H2 us xs → (∀ j x, xs[j]? = some x → T j x) → Q (.ref c) H2) : LcL K a (gName k) tYes te vs σ H Q :=
  LcL.by its fun c nc => by
    refine ⟨DatI K d c H T, DatI.zero hD nc, fun i H1 hi I => I.1.sq nad hS, fun i x H1 hi I => ?_, fun H1 ⟨g, us, xs, e, hl, da, hT⟩ => hq c H1 us xs g nc e hl da hT⟩
    have hi2 := (List.getElem?_eq_some_iff.mp hi).1
    show wipe _ vs = _ ∧ te _ H1 _
    exact ⟨hw _, hel i x H1 _ hi I.1 fun v y H2 dx tx g2 => DatI.step tT hD nc (by omega) I g2 dx tx⟩
theorem LcT.dat {k : Nat} {a : Addr} {its : List V} (T : Nat → PyData → Prop) (tT : ∀ i x, T i x → tupo x = true) (hn : its.length ≤ 1000000) (hD : Dr d H) (hS : SqT K H a its) (hw : ∀ x, wipe ((wipe σ vs).set k (some x)) vs = wipe σ vs)
    (hel : ∀ (i : Nat) (u : V) (H1 : Hp) (R : VK), its[i]? = some u → Go d H H1 → (∀ v x H2, Dp K H2 v x → T i x → Go d H1 H2 → R v H2) → te ((wipe σ vs).set k (some u)) H1 R)
    (hq : ∀ (c : Addr) (H2 : Hp) (us : List V) (xs : List PyData), Go d H H2 → H c = none → H2 c = some (.lst us) → us.length = its.length → DpAll K H2 us xs → (∀ j x, xs[j]? = some x → T j x) → Q (.ref c) H2) : LcT K a (gName k) tYes te vs σ H Q :=
  LcT.by its fun c nc => by
    refine ⟨DatI K d c H T, DatI.zero hD nc, fun i H1 hi I => (TS.go hD I.1).tup hS, fun i x H1 hi I => ?_, fun H1 ⟨g, us, xs, e, hl, da, hT⟩ => hq c H1 us xs g nc e hl da hT⟩
    have hi2 := (List.getElem?_eq_some_iff.mp hi).1
    show wipe _ vs = _ ∧ te _ H1 _
    exact ⟨hw _, hel i x H1 _ hi I.1 fun v y H2 dx tx g2 => DatI.step tT hD nc (by omega) I g2 dx tx⟩
end
/-! ### requests -/
def Wd (z : Str) : Prop := AZ z ∧ 1 ≤ z.length ∧ z.length ≤ 1000
/-- a section's value -/
def okV (kind : Nat) (x : PyData) : Prop := (kind = 0 ∧ ∃ z, x = .str z ∧ Wd z) ∨ (kind = 3 ∧ ∃ i : Int, x = .int i ∧ i ≠ 0) ∨
  ((kind = 1 ∨ kind = 2) ∧ ∃ zs : List Str, x = .tuple (zs.map .str) ∧ 1 ≤ zs.length ∧ zs.length ≤ 1000 ∧ (∀ z ∈ zs, Wd z) ∧ (kind = 2 → zs.Pairwise fun x y => tl x < tl y))
def prD (p : Str × PyData) : PyData := .tuple [.str p.1, p.2]
def scD (ps : List (Str × PyData)) : PyData := .tuple (ps.map prD)
structure okS (kind : Nat) (ps : List (Str × PyData)) : Prop where
  len : ps.length ≤ 1000
  wd : ∀ p ∈ ps, Wd p.1
  val : ∀ p ∈ ps, okV kind p.2
  asc : ps.Pairwise fun x y => tl x.1 < tl y.1
def rqD (p : Nat → List (Str × PyData)) : PyData := .tuple [scD (p 0), scD (p 1), scD (p 2), scD (p 3)]
def okR (p : Nat → List (Str × PyData)) : Prop := ∀ k, k < 4 → okS k (p k)
/-- the value of a field -/
def getP (f : Str) (d0 : PyData) : List (Str × PyData) → PyData
  | [] => d0
  | p :: r => if p.1 = f then p.2 else getP f d0 r
theorem getP_or {f : Str} {d0 : PyData} : ∀ ps : List (Str × PyData), getP f d0 ps = d0 ∨ ∃ p ∈ ps, getP f d0 ps = p.2
  | [] => .inl rfl
  | p :: r => by
    unfold getP
    split
    · exact .inr ⟨p, List.mem_cons_self, rfl⟩
    · rcases getP_or (f := f) (d0 := d0) r with h | ⟨q, m, h⟩
      · exact .inl h
      · exact .inr ⟨q, List.mem_cons_of_mem _ m, h⟩
theorem okV.tupo {kind : Nat} {x : PyData} (h : okV kind x) : My.tupo x = true := by
  rcases h with ⟨_, z, rfl, _⟩ | ⟨_, i, rfl, _⟩ | ⟨_, zs, rfl, _⟩
  · unfold My.tupo; rfl
  · unfold My.tupo; rfl
  · unfold My.tupo
    exact tupos_of fun y m => by
      obtain ⟨z, _, rfl⟩ := List.mem_map.mp m
      unfold My.tupo; rfl
theorem prD_tupo {p : Str × PyData} (h : tupo p.2 = true) : tupo (prD p) = true := by
  unfold prD tupo
  exact tupos_of fun y m => by
    rcases List.mem_cons.mp m with rfl | m
    · unfold tupo; rfl
    · rw [List.mem_singleton.mp m]
      exact h
theorem scD_tupo {ps : List (Str × PyData)} (h : ∀ p ∈ ps, tupo p.2 = true) : tupo (scD ps) = true := by
  unfold scD tupo
  exact tupos_of fun y m => by
    obtain ⟨p, hp, rfl⟩ := List.mem_map.mp m
    exact prD_tupo (h p hp)
theorem okS.tupo {kind : Nat} {ps : List (Str × PyData)} (h : okS kind ps) : My.tupo (scD ps) = true := scD_tupo fun p m => (h.val p m).tupo
theorem okR.tupo {p : Nat → List (Str × PyData)} (h : okR p) : My.tupo (rqD p) = true := by
  unfold rqD My.tupo
  exact tupos_of fun y m => by
    simp only [List.mem_cons, List.not_mem_nil, or_false] at m
    rcases m with rfl | rfl | rfl | rfl
    · exact (h 0 (by decide)).tupo
    · exact (h 1 (by decide)).tupo
    · exact (h 2 (by decide)).tupo
    · exact (h 3 (by decide)).tupo
theorem good_strsT {zs : List Str} (h : zs.length ≤ 1000) : good (.tuple (zs.map .str)) = true ∧ deep (.tuple (zs.map .str)) < 8 := by
  constructor
  · unfold good
    rw [Bool.and_eq_true, decide_eq_true_eq, List.length_map]
    exact ⟨by omega, goods_strs zs⟩
  · show deep.deeps _ + 1 < 8
    rw [deeps_strs]
    decide
theorem good_s {z : Str} : good (.str z) = true ∧ deep (.str z) < 8 := ⟨by unfold good; rfl, (show 0 < 8 by decide)⟩
theorem good_i {z : Int} : good (.int z) = true ∧ deep (.int z) < 8 := ⟨by unfold good; rfl, (show 0 < 8 by decide)⟩
theorem okV.fit {kind : Nat} {x : PyData} (h : okV kind x) : good x = true ∧ deep x < 8 := by
  rcases h with ⟨_, z, rfl, _⟩ | ⟨_, i, rfl, _⟩ | ⟨_, zs, rfl, _, l, _⟩
  · exact good_s
  · exact good_i
  · exact good_strsT l
theorem Dp.rq {K : PySem.W.Frag} {H : Hp} {r : V} {p : Nat → List (Str × PyData)} {k : Nat} (h : Dp K H r (rqD p)) (hk : k < 4) : ∃ (a : Addr) (vs : List V) (u : V), r = .ref a ∧ SqT K H a vs ∧ atI vs (k : Int) = some u ∧ Dp K H u (scD (p k)) ∧ vs.length = 4 :=
  Dp.part h (by match k, hk with | 0, _ => rfl | 1, _ => rfl | 2, _ => rfl | 3, _ => rfl)
theorem getP_drop {f : Str} {d0 : PyData} {ps : List (Str × PyData)} {i : Nat} {p : Str × PyData} (h : ps[i]? = some p) : getP f d0 (ps.drop i) = if p.1 = f then p.2 else getP f d0 (ps.drop (i + 1)) := by
  obtain ⟨hl, e⟩ := List.getElem?_eq_some_iff.mp h
  rw [List.drop_eq_getElem_cons hl, e]
  rfl
theorem sec_at {K : PySem.W.Frag} {H : Hp} {us : List V} {ps : List (Str × PyData)} {i : Nat} {x : V} (hA : DpAll K H us (ps.map prD)) (hi : us[i]? = some x) : ∃ (p : Str × PyData) (b : Addr) (w : V), ps[i]? = some p ∧ x = .ref b ∧ SqT K H b [.str p.1, w] ∧ Dp K H w p.2 := by
  have hl := DpAll.len hA
  rw [List.length_map] at hl
  obtain ⟨h1, _⟩ := List.getElem?_eq_some_iff.mp hi
  have hp := List.getElem?_eq_getElem (l := ps) (i := i) (by omega)
  obtain ⟨v, hv, dx⟩ := DpAll.at hA (i := i) (d := prD ps[i]) (by rw [List.getElem?_map, hp]; rfl)
  have := Option.some.inj (hi.symm.trans hv)
  subst this
  obtain ⟨b, u, w, rfl, hT, hu, hw⟩ := Dp.pairI dx
  cases hu
  exact ⟨_, b, w, hp, rfl, hT, hw⟩
/-- a section asked for a field -/
def spq_of (k : Nat) (d0 : PyData) (K : PySem.W.Frag) : Sp := fun vs H Q _ => ∃ (r : V) (f : Str) (p : Nat → List (Str × PyData)), vs = [r, .str f] ∧ Dp K H r (rqD p) ∧ ∀ v H', Dp K H' v (getP f d0 (p k)) → Same H H' → Q v H'
theorem getP_fit {k : Nat} {f : Str} {d0 : PyData} {ps : List (Str × PyData)} (h : okS k ps) (h0 : good d0 = true ∧ deep d0 < 8) : good (getP f d0 ps) = true ∧ deep (getP f d0 ps) < 8 := by
  rcases getP_or (f := f) (d0 := d0) ps with e | ⟨p, m, e⟩
  · rw [e]
    exact h0
  · rw [e]
    exact (h.val p m).fit
theorem fit_nil : good (.tuple []) = true ∧ deep (.tuple []) < 8 := good_strsT (zs := []) (Nat.zero_le _)
theorem okV.words {k : Nat} {x : PyData} (h : okV k x) (hk : k = 1 ∨ k = 2) : ∃ zs : List Str, x = .tuple (zs.map .str) ∧ zs.length ≤ 1000 ∧ (∀ z ∈ zs, Wd z) ∧ (k = 2 → zs.Pairwise fun x y => tl x < tl y) := by
  rcases h with ⟨e, _⟩ | ⟨e, _⟩ | ⟨_, zs, e, _, l, w, s⟩
  · omega
  · omega
  · exact ⟨zs, e, l, w, s⟩
theorem getP_words {k : Nat} {f : Str} {ps : List (Str × PyData)} (h : okS k ps) (hk : k = 1 ∨ k = 2) : ∃ zs : List Str, getP f (.tuple []) ps = .tuple (zs.map .str) ∧ zs.length ≤ 1000 ∧ (∀ z ∈ zs, Wd z) ∧ (k = 2 → zs.Pairwise fun x y => tl x < tl y) := by
  rcases getP_or (f := f) (d0 := .tuple []) ps with e | ⟨p, m, e⟩
  · rw [e]
    exact ⟨[], rfl, Nat.zero_le _, fun z m => (by cases m), fun _ => .nil⟩
  · rw [e]
    exact (h.val p m).words hk
theorem okR.get {p : Nat → List (Str × PyData)} (h : okR p) {k : Nat} (hk : k < 4) : okS k (p k) := h k hk
theorem okR_nil : okR fun _ => [] := fun k _ => ⟨Nat.zero_le _, fun p m => (by cases m), fun p m => (by cases m), .nil⟩
/-- a path's part -/
def partAt (zs : List Str) (i : Int) : Str := zs.getD i.toNat ""
theorem partAt_lt {zs : List Str} {i : Int} (h0 : 0 ≤ i) (h : i < zs.length) : atI (zs.map V.str) i = some (.str (partAt zs i)) := by
  have h2 : i.toNat < zs.length := by omega
  have e : (zs.map V.str)[i.toNat]? = some (.str (partAt zs i)) := by
    rw [List.getElem?_map, List.getElem?_eq_getElem h2]
    unfold partAt
    rw [List.getD_eq_getElem?_getD, List.getElem?_eq_getElem h2]
    rfl
  have := atI_nat e
  rwa [Int.toNat_of_nonneg h0] at this
theorem partAt_ge {zs : List Str} {i : Int} (h : (zs.length : Int) ≤ i) : partAt zs i = "" := by
  unfold partAt
  rw [List.getD_eq_getElem?_getD, List.getElem?_eq_none (by omega)]
  rfl
theorem ps_of {k : Nat} : ∀ {ws : List Str} {xs : List PyData}, xs.length = ws.length → (∀ (j : Nat) (x : PyData), xs[j]? = some x → ∃ z w, ws[j]? = some z ∧ x = prD (z, w) ∧ okV k w) → ∃ ps : List (Str × PyData), xs = ps.map prD ∧ ps.map (·.1) = ws ∧ ∀ p ∈ ps, okV k p.2
  | [], xs, hl, _ => ⟨[], List.eq_nil_of_length_eq_zero hl, rfl, fun p m => (by cases m)⟩
  | z :: r, [], hl, _ => by cases hl
  | z :: r, x :: xs, hl, hT => by
    obtain ⟨ps, e1, e2, e3⟩ := ps_of (k := k) (ws := r) (xs := xs) (by simpa using hl) fun j y e => by
      have := hT (j + 1) y (by simpa using e)
      simpa using this
    obtain ⟨z2, w, h1, h2, h3⟩ := hT 0 x rfl
    cases h1
    refine ⟨(z, w) :: ps, by rw [e1, h2]; rfl, by rw [List.map_cons, e2], fun p m => ?_⟩
    rcases List.mem_cons.mp m with rfl | m
    · exact h3
    · exact e3 p m
theorem okS.mk2 {k : Nat} {ws : List Str} {ps : List (Str × PyData)} (e : ps.map (·.1) = ws) (hl : ws.length ≤ 1000) (hw : ∀ z ∈ ws, Wd z) (rise : ws.Pairwise fun x y => tl x < tl y) (hv : ∀ p ∈ ps, okV k p.2) : okS k ps := by
  subst e
  rw [List.length_map] at hl
  exact ⟨hl, fun p m => hw _ (List.mem_map.mpr ⟨p, m, rfl⟩), hv, (List.pairwise_map (f := fun p : Str × PyData => p.1) (R := fun x y => tl x < tl y)).mp rise⟩
theorem rq_of {xs : List PyData} (hl : xs.length = 4) (hT : ∀ (j : Nat) (x : PyData), xs[j]? = some x → ∃ ps, x = scD ps ∧ okS j ps) : ∃ p : Nat → List (Str × PyData), xs = [scD (p 0), scD (p 1), scD (p 2), scD (p 3)] ∧ okR p := by
  match xs, hl with
  | [x0, x1, x2, x3], _ =>
    obtain ⟨p0, e0, o0⟩ := hT 0 x0 rfl
    obtain ⟨p1, e1, o1⟩ := hT 1 x1 rfl
    obtain ⟨p2, e2, o2⟩ := hT 2 x2 rfl
    obtain ⟨p3, e3, o3⟩ := hT 3 x3 rfl
    refine ⟨fun k => match k with | 0 => p0 | 1 => p1 | 2 => p2 | _ => p3, by rw [e0, e1, e2, e3]; rfl, fun k hk => ?_⟩
    match k, hk with
    | 0, _ => exact o0
    | 1, _ => exact o1
    | 2, _ => exact o2
    | 3, _ => exact o3
theorem DpAll.four {K : PySem.W.Frag} {H : Hp} {us : List V} {a b c d : PyData} (h : DpAll K H us [a, b, c, d]) : ∃ u0 u1 u2 u3, us = [u0, u1, u2, u3] ∧ Dp K H u0 a ∧ Dp K H u1 b ∧ Dp K H u2 c ∧ Dp K H u3 d := by
  cases h with
  | cons h0 h => cases h with
    | cons h1 h => cases h with
      | cons h2 h => cases h with
        | cons h3 h =>
          cases h
          exact ⟨_, _, _, _, rfl, h0, h1, h2, h3⟩
/-! ### min(a list of texts, key=f, default=d) -/
theorem best_le (bt : Nat → Nat → Bool) : ∀ k, argBest bt k ≤ k
  | 0 => Nat.le_refl _
  | k + 1 => by
    unfold argBest
    split
    · exact Nat.le_refl _
    · exact Nat.le_succ_of_le (best_le bt k)
theorem best_min (kf : Nat → Int) : ∀ k j, j ≤ k → kf (argBest (fun a b => decide (kf a < kf b)) k) ≤ kf j
  | 0, j, h => by
    have : j = 0 := by omega
    subst this
    exact Int.le_refl _
  | k + 1, j, h => by
    have ih := best_min kf k
    unfold argBest
    by_cases c : kf (k + 1) < kf (argBest (fun a b => decide (kf a < kf b)) k)
    · rw [if_pos (decide_eq_true c)]
      rcases Nat.lt_or_ge j (k + 1) with z | z
      · have := ih j (by omega)
        omega
      · rw [show j = k + 1 by omega]
        exact Int.le_refl _
    · rw [if_neg (by simp only [decide_eq_true_eq]; exact c)]
      rcases Nat.lt_or_ge j (k + 1) with z | z
      · exact ih j (by omega)
      · rw [show j = k + 1 by omega]
        omega
section
variable {X : Cx}
/-- what is asked: f answers by an int, and leaves all as it is, where the list is known by its object -/
def MinAsk (sp : Sp) (v dz : V) (H : Hp) (Q : VK) : Prop := ∃ (a : Addr) (xs : List Str) (key : Str → Int), v = .ref a ∧ H a = some (.lst (xs.map V.str)) ∧ ∀ o : Obj,
  (∀ x ∈ xs, ∀ R : VK, R (.int (key x)) (upd H a (.frz o (.lst (xs.map V.str)))) → sp [.str x] (upd H a (.frz o (.lst (xs.map V.str)))) R E0) ∧
  (xs = [] → Q dz (upd H a (.frz o (.lst (xs.map V.str))))) ∧ ∀ m ∈ xs, (∀ y ∈ xs, key m ≤ key y) → Q (.str m) (upd H a (.frz o (.lst (xs.map V.str))))
/-- a tracked list is known by its object from now on -/
theorem Inv.freeze {pins : List (Addr × Obj)} {σ : L2.St} {H : Hp} {s : Shared} {a : Addr} {ys : List V} (I : Inv X pins σ H s) (h : H a = some (.lst ys)) :
    ∃ (o : Obj) (its : List Value), Inv X pins σ (upd H a (.frz o (.lst ys))) s ∧ s.heap.get? a = some o ∧ s.heap.IsList a its.toArray ∧ Vals ys its ∧ o.cls = .type "list" ∧ (∃ n, o.data = .seq its.toArray n) := by
  obtain ⟨z, its, n, r, e⟩ := I.hok a _ h
  refine ⟨{ cls := .type "list", data := .seq its.toArray n }, its, ?_, e, ⟨_, e, rfl, n, rfl⟩, r, rfl, n, rfl⟩
  exact I.write (t' := s.toks) (by rw [h]; trivial) (.inl rfl) (fun _ _ _ q => q) ⟨_, e⟩ ⟨e, z, its, n, r, e⟩
variable {k j : Nat} {x : Str} {ps : List Str} {sp : Sp} {p : Pos}
/-- a def of the module as a value -/
def tFn (mg : Str → Option Value) (x : Str) : TE := fun _ H Q => ∀ f : Addr, mg x = some (.ref f) → Q (.ref f) H
theorem pe_fnV (c : Cal X.prog X.w X.K X.mg X.base k x ps sp) (hg : Gl X x := by rfl) (hdb : (x == ("__debug__" : Str)) = false := by decide) : PE X (.Name x p) (tFn X.mg x) := by
  obtain ⟨f, _, _, hm, _, _⟩ := c.ex
  exact ⟨fun pins s σ H Q I h => (pe_glob (v := .ref f) hg hm rfl hdb).run pins s σ H Q I (h f hm)⟩
def rMinKD (mg : Str → Option Value) (x : Str) (sp : Sp) : List V → List V → Hp → VK → Prop := fun vs zs H Q => ∃ (v : V) (f : Addr) (dz : V), vs = [v] ∧ zs = [.ref f, dz] ∧ mg x = some (.ref f) ∧ MinAsk sp v dz H Q
theorem cr_minKD (c : Cal X.prog X.w X.K X.mg X.base k x ps sp) (hr : Room j X.A) (hk : k + 1 ≤ j := by decide) : CallRK X (.builtin "min") [("key" : Str), ("default" : Str)] (rMinKD X.mg x sp) := by
  obtain ⟨f, fd, F, hmx, kpf, b⟩ := c.ex
  intro pins s σ H vs zs us ws Q I r rz h
  obtain ⟨v, f2, dz, rfl, rfl, hf, a, xs, key, rfl, ha, hq⟩ := h
  obtain rfl : f2 = f := by
    rw [hmx] at hf
    cases hf
    rfl
  rw [Vals.ref1 r]
  obtain ⟨w1, du, rfl, rw1, rdu⟩ := vals2 rz
  cases rw1
  obtain ⟨o, its, I1, ho, hl, rv, _⟩ := Inv.freeze I ha
  obtain ⟨hsp, h0, hm⟩ := hq o
  have hfa : upd H a (.frz o (.lst (xs.map V.str))) a = some (.frz o (.lst (xs.map V.str))) := upd_same
  generalize upd H a (.frz o (.lst (xs.map V.str))) = Hf at hsp h0 hm I1 hfa
  refine call_min_walkKD (wpAny_pyIter_list hl ?_)
  have lenI : its.length = xs.length := by
    have := rv.length
    rw [List.length_map] at this
    exact this.symm
  have itAt : ∀ (i : Nat) (v : Value), its.toArray[i]? = some v → ∃ z, xs[i]? = some z ∧ ∃ t, v = Value.str z t := fun i v e => by
    have e2 : its[i]? = some v := by simpa using e
    have hi := (List.getElem?_eq_some_iff.mp e2).1
    obtain ⟨u, e3, ru⟩ := Vals.get rv (i := i) (x := .str xs[i]) (by rw [List.getElem?_map, List.getElem?_eq_getElem (by omega)]; rfl)
    have := Option.some.inj (e3.symm.trans e2)
    subst this
    exact ⟨xs[i], List.getElem?_eq_getElem (by omega), ru⟩
  -- the iterator at T, the pair of the best at S
  have hT : ∃ T, T = s.heap.objs.size := ⟨_, rfl⟩
  obtain ⟨T, eT⟩ := hT
  have sz2 : (s.heap.push { cls := .type "list_iterator", data := .fields #[.ref a, .int 0 0] }).objs.size = T + 1 := by
    rw [Heap.size_push, eT]
  have fresh : ∀ b, T ≤ b → Hf b = none := fun b hb => I1.hok.fresh (by rw [← eT]; exact hb)
  have locLt : X.env.locals < T := eT ▸ I1.lt
  have hch : ∀ b ∈ [T + 1, T], (b ∈ X.ex ∨ X.s_0.heap.objs.size ≤ b) ∧ b ≠ X.env.locals ∧ (∀ x c, X.env.cells.lookup x = some c → c ≠ b) ∧ ∀ p ∈ X.pn ++ pins, p.1 ≠ b := fun b hb => by
    have hb2 : T ≤ b := by
      rcases List.mem_cons.mp hb with z | z
      · rw [z]
        exact Nat.le_succ T
      · rw [List.mem_singleton.mp z]
        exact Nat.le_refl _
    have low : ∀ {c : Addr} {oc : Obj}, s.heap.get? c = some oc → c ≠ b := fun e z => by
      have := Heap.lt_size e
      rw [z, ← eT] at this
      exact absurd (Nat.lt_of_lt_of_le this hb2) (Nat.lt_irrefl _)
    refine ⟨.inr (Nat.le_trans I1.sz (by rw [← eT]; exact hb2)), fun z => by
      rw [z] at hb2
      exact Nat.lt_irrefl _ (Nat.lt_of_lt_of_le locLt hb2), fun x c e => ?_, fun p hp => low (I1.pin p hp).1⟩
    obtain ⟨v, oc, e2, _⟩ := I1.cell x c e
    exact low e2
  have keepI : ∀ (sA sB : Shared), Inv X pins σ Hf sA → Moved [T + 1, T] (fun a b => b = a) sA sB → Inv X pins σ Hf sB := fun sA sB J hm => by
    have nch : ∀ {b u}, Hf b = some u → b ∉ [T + 1, T] := fun {b u} e hb => by
      have hb2 : T ≤ b := by
        rcases List.mem_cons.mp hb with z | z
        · rw [z]
          exact Nat.le_succ T
        · rw [List.mem_singleton.mp z]
          exact Nat.le_refl _
      rw [fresh b hb2] at e
      cases e
    have K := J.step (h' := sB.heap) (H' := Hf) (g' := sB.gens) (t' := sB.toks) (d' := sB.drawn) (ch := [T + 1, T]) hch (fun b ob _ _ hb e _ => hm.heap b ob hb e) (fun b ob _ _ hb e _ => ⟨ob.slots, hm.heap b ob hb e⟩) (fun b ob _ _ n => n) (fun b ob hb e => ⟨ob, hm.heap b ob hb e⟩) (fun _ _ e => e) (fun _ _ _ e => e)
      (fun b qs e => ⟨#[], by simpa using e⟩) (fun m hn => ?_) (fun b u e => (J.hok b u e).stay (fun dd v hd q => hm.heap dd v ?_ q) (fun _ q => q) (fun _ _ q => q)) (by rw [hm.gens]; exact J.bare)
    · rw [GxR.sh_eta sA sB hm.os] at K
      exact K
    · obtain ⟨ob, es, ep, e1, e2⟩ := hn
      refine ⟨ob, es, ep, hm.heap _ _ (fun hb => ?_) e1, e2⟩
      exact (hch _ hb).2.1 rfl
    · rcases hd with z | z
      · rw [z]
        exact nch e
      · exact nch z
  have nofs : ∀ b, T ≤ b → b ∉ L2.frs X.stack := fun b hb z => by
    rcases List.mem_cons.mp (I1.stkSub b z) with e | e
    · rw [e] at hb
      exact Nat.lt_irrefl _ (Nat.lt_of_lt_of_le locLt hb)
    · exact I1.nofs (by rw [← eT]; exact hb) e
  have hh : X.A.in1.handled = none := hr.hd
  have neT : a ≠ T := fun z => by
    obtain ⟨ob, e, _⟩ := hl
    have := Heap.lt_size e
    rw [z, eT] at this
    exact Nat.lt_irrefl _ this
  have W := (Walks.list (prog := X.prog) (w := X.w) hh T a neT its.toArray).toS
  refine ⟨T, [T, a], [T], fun a b => b = a, its.toArray.size, _, _, fun st => Inv X pins σ Hf st, fun i kv _ => ∃ z t, xs[i]? = some z ∧ kv = .int (key z) t, fun i j => decide (key (xs.getD i "") < key (xs.getD j "")), by rw [eT], W, ?_, ?_, ?_, ?_, ?_, ?_⟩
  · refine ⟨⟨_, by rw [eT]; exact Heap.get?_push_size _ rfl, rfl, rfl⟩, ?_⟩
    obtain ⟨ob, e, e2⟩ := hl
    exact ⟨ob, Heap.get?_push_of_some _ e, e2⟩
  · intro b hb
    rw [sz2]
    rcases List.mem_cons.mp hb with z | z
    · rw [z]
      exact Nat.lt_succ_self _
    · rw [List.mem_singleton.mp z]
      have := Heap.lt_size ho
      rw [← eT] at this
      exact Nat.lt_succ_of_lt this
  · rw [sz2]
    refine ⟨fun sA sB J m => keepI sA sB J m, fun _ _ _ _ v _ => v, fun i v sA oS Q' E' hi hv J st hS cont => ?_, fun i j ki kj sA Q' E' _ vi vj q => ?_⟩
    · obtain ⟨z, hz, tz, rfl⟩ := itAt i v hv
      have hmem := List.mem_of_getElem? hz
      have hs0 := hsp z hmem (fun u H' => u = .int (key z) ∧ H' = Hf) ⟨rfl, rfl⟩
      have hl1 := F.len _ _ _ _ hs0
      refine wpAny_call (codeAny_mono (F.run X.A.in1 X.stack sA Hf ⟨[.str z tz], []⟩ [.str z tz] [.str z] _ E0 ((hr.mono hk).in1) J.env0.in1 (b sA [.str z tz] J.kIn hl1) (.cons ⟨tz, rfl⟩ .nil) hs0) fun res sB hq => ?_)
      cases res with
      | error e => exact hq.elim
      | ok fl =>
        cases fl with
        | next => exact False.elim hq
        | brk => exact False.elim hq
        | cont => exact False.elim hq
        | ret u =>
          have hq2 := hq
          obtain ⟨v1, H1, _, _, un, _, _, _⟩ := hq2
          obtain ⟨v2, H2, J2, ru, rfl, rfl⟩ := J.after hq
          obtain ⟨tu, rfl⟩ := ru
          have far : ∀ bb ob, T ≤ bb → sA.heap.get? bb = some ob → sB.heap.get? bb = some ob := fun bb ob hb e => un.keep bb ob e (fresh bb hb) (nofs bb hb) (by simp)
          obtain ⟨⟨oi, e1, e2⟩, _⟩ := st
          have ga : sB.heap.get? a = some o := (J2.hok a _ hfa).1
          have ga0 : s.heap.get? a = some o := ho
          refine cont _ sB J2 ⟨⟨oi, far T _ (Nat.le_refl _) e1, e2⟩, ?_⟩ (far _ _ (Nat.le_succ T) hS) ⟨z, tu, hz, rfl⟩ fun _ _ q => q
          obtain ⟨ob, e3, e4⟩ := hl
          rw [ga0] at e3
          cases e3
          exact ⟨o, ga, e4⟩
    · obtain ⟨zi, ti, ei, rfl⟩ := vi
      obtain ⟨zj, tj, ej, rfl⟩ := vj
      refine P.lt_int ?_
      have d1 : xs.getD i "" = zi := by rw [List.getD_eq_getElem?_getD, ei]; rfl
      have d2 : xs.getD j "" = zj := by rw [List.getD_eq_getElem?_getD, ej]; rfl
      rw [d1, d2] at q
      exact q
  · exact I1.kept (t' := s.toks) fun b u e => Heap.get?_push_of_some _ e
  · intro hn s' J
    have : xs = [] := List.eq_nil_of_length_eq_zero (by rw [← lenI]; simpa using hn)
    exact ⟨dz, Hf, J, rdu, h0 this⟩
  · intro hn v s' hv J
    obtain ⟨z, hz, tz, rfl⟩ := itAt _ v hv
    refine ⟨.str z, Hf, J, ⟨tz, rfl⟩, hm z (List.mem_of_getElem? hz) fun y my => ?_⟩
    obtain ⟨j, hj, ej⟩ := List.getElem_of_mem my
    have := best_min (fun i => key (xs.getD i "")) (its.toArray.size - 1) j (by simp only [List.size_toArray]; omega)
    have d1 : xs.getD j "" = y := by rw [List.getD_eq_getElem?_getD, List.getElem?_eq_getElem hj, ej]; rfl
    have d2 : xs.getD (argBest (fun i j => decide (key (xs.getD i "") < key (xs.getD j ""))) (its.toArray.size - 1)) "" = z := by rw [List.getD_eq_getElem?_getD, hz]; rfl
    rw [d1, d2] at this
    exact this
end
section
variable {K : PySem.W.Frag} {σ : L2.St} {H : Hp} {t tk : TA} {Q : VK}
theorem w_ckw {r : List V → List V → Hp → VK → Prop} : tCKw r t tk σ H Q = t σ H fun vs H1 => tk σ H1 fun zs H2 => r vs zs H2 Q := rfl
theorem w_fn {mg : Str → Option Value} {x : Str} : tFn mg x σ H Q = ∀ f : Addr, mg x = some (.ref f) → Q (.ref f) H := rfl
theorem r_minKD {mg : Str → Option Value} {x : Str} {sp : Sp} {vs zs : List V} : rMinKD mg x sp vs zs H Q = ∃ (v : V) (f : Addr) (dz : V), vs = [v] ∧ zs = [.ref f, dz] ∧ mg x = some (.ref f) ∧ MinAsk sp v dz H Q := rfl
theorem cx_mg {CX : CXT} {P : Program} {w : World} {K : PySem.W.Frag} {mg : Str → Option Value} {base : Heap} {N : List Str} {q : Str} {sc : Scope} {f : Addr} {cd : Value} {A : Around} {o : List Env} {s : Shared} {H : Hp} {E : XK} :
    (cxOf CX P w K mg base N q sc f cd A o s H E).mg = mg := rfl
end
/-! ### terms -/
def strOf : PyData → Str
  | .str z => z
  | _ => ""
def wordsOf : PyData → List Str
  | .tuple ds => ds.map strOf
  | _ => []
theorem wordsOf_strs (zs : List Str) : wordsOf (.tuple (zs.map .str)) = zs := by
  show (zs.map PyData.str).map strOf = zs
  rw [List.map_map]
  exact List.map_id zs
/-- a field's word; a path, a set -/
def wrd (p : Nat → List (Str × PyData)) (f : Str) : Str := strOf (getP f (.str "") (p 0))
def mem (p : Nat → List (Str × PyData)) (k : Nat) (f : Str) : List Str := wordsOf (getP f (.tuple []) (p k))
theorem wrd_eq {p : Nat → List (Str × PyData)} (ok : okR p) (f : Str) : getP f (.str "") (p 0) = .str (wrd p f) ∧ (wrd p f = "" ∨ Wd (wrd p f)) := by
  unfold wrd
  rcases getP_or (f := f) (d0 := .str "") (p 0) with e | ⟨q, m, e⟩
  · rw [e]
    exact ⟨rfl, .inl rfl⟩
  · rcases (ok 0 (by decide)).val q m with ⟨_, z, e2, w⟩ | ⟨e2, _⟩ | ⟨e2, _⟩
    · rw [e, e2]
      exact ⟨rfl, .inr w⟩
    · omega
    · omega
theorem mem_eq {p : Nat → List (Str × PyData)} (ok : okR p) {k : Nat} (hk : k = 1 ∨ k = 2) (f : Str) : getP f (.tuple []) (p k) = .tuple ((mem p k f).map .str) ∧ (mem p k f).length ≤ 1000 ∧ (∀ z ∈ mem p k f, Wd z) ∧ (k = 2 → (mem p k f).Pairwise fun x y => tl x < tl y) := by
  obtain ⟨zs, e, l, w, s⟩ := getP_words (f := f) (ok k (by omega)) hk
  have : mem p k f = zs := by
    unfold mem
    rw [e, wordsOf_strs]
  rw [this]
  exact ⟨e, l, w, s⟩
/-- of the words that are not allowed the one of the least number -/
def Least (ms al : List Str) (y : Str) : Prop := (y = "" ∧ ∀ m ∈ ms, m ∈ al) ∨ (y ∈ ms ∧ y ∉ al ∧ ∀ m ∈ ms, m ∉ al → wnum (tl y) ≤ wnum (tl m))
theorem Least.one {ms al : List Str} {x y : Str} (w : ∀ z ∈ ms, Wd z) (h : Least ms al x) (k : Least ms al y) : x = y := by
  rcases h with ⟨rfl, a⟩ | ⟨h1, h2, h3⟩
  · rcases k with ⟨rfl, _⟩ | ⟨k1, k2, _⟩
    · rfl
    · exact absurd (a y k1) k2
  · rcases k with ⟨rfl, a⟩ | ⟨k1, k2, k3⟩
    · exact absurd (a x h1) h2
    · exact ext_tl (wnum_inj (w x h1).1 (w y k1).1 (Int.le_antisymm (h3 y k1 k2) (k3 x h1 h2)))
inductive Tg where
  | set (g : Str)
  | names (zs : List Str)
inductive Tm where
  | name (z : Str)
  | fld (f : Str)
  | part (f : Str) (i : Int)
  | oth (f : Str) (t : Tg)
def tgD : Tg → PyData
  | .set g => .tuple [.str "set", .str g]
  | .names zs => .tuple [.str "names", .tuple (zs.map .str)]
def tmD : Tm → PyData
  | .name z => .tuple [.str "name", .str z]
  | .fld f => .tuple [.str "field", .str f]
  | .part f i => .tuple [.str "part", .str f, .int i]
  | .oth f t => .tuple [.str "other", .str f, tgD t]
def okG : Tg → Prop
  | .set g => Wd g
  | .names zs => zs.length ≤ 4000 ∧ (∀ z ∈ zs, Wd z) ∧ zs.Pairwise fun x y => tl x < tl y
def okT : Tm → Prop
  | .name z => z = "" ∨ Wd z
  | .fld f => Wd f
  | .part f i => Wd f ∧ 0 ≤ i ∧ i ≤ 40
  | .oth f t => Wd f ∧ okG t
theorem strs_tupos (zs : List Str) : tupos (zs.map .str) = true := tupos_of fun y m => by
  obtain ⟨z, _, rfl⟩ := List.mem_map.mp m
  unfold tupo; rfl
theorem tupo_s {z : Str} : tupo (.str z) = true := by unfold tupo; rfl
theorem tupo_i {i : Int} : tupo (.int i) = true := by unfold tupo; rfl
theorem tupo2 {x y : PyData} (h : tupo x = true) (k : tupo y = true) : tupo (.tuple [x, y]) = true := by
  unfold tupo tupos tupos tupos
  rw [h, k]
  rfl
theorem tupo3 {x y z : PyData} (h : tupo x = true) (k : tupo y = true) (l : tupo z = true) : tupo (.tuple [x, y, z]) = true := by
  unfold tupo tupos tupos tupos tupos
  rw [h, k, l]
  rfl
theorem tupo_strs (zs : List Str) : tupo (.tuple (zs.map .str)) = true := by
  unfold tupo
  exact strs_tupos zs
theorem tgD_tupo (t : Tg) : tupo (tgD t) = true := by
  cases t with
  | set g => exact tupo2 tupo_s tupo_s
  | names zs => exact tupo2 tupo_s (tupo_strs zs)
theorem tmD_tupo (t : Tm) : tupo (tmD t) = true := by
  cases t with
  | name z => exact tupo2 tupo_s tupo_s
  | fld f => exact tupo2 tupo_s tupo_s
  | part f i => exact tupo3 tupo_s tupo_s tupo_i
  | oth f t => exact tupo3 tupo_s tupo_s (tgD_tupo t)
def allow (p : Nat → List (Str × PyData)) : Tg → List Str
  | .set g => mem p 2 g
  | .names zs => zs
/-- the word for which a term stands -/
def Val (p : Nat → List (Str × PyData)) : Tm → Str → Prop
  | .name z, y => y = z
  | .fld f, y => y = wrd p f
  | .part f i, y => y = partAt (mem p 1 f) i
  | .oth f t, y => Least (mem p 2 f) (allow p t) y
theorem Val.one {p : Nat → List (Str × PyData)} (ok : okR p) {t : Tm} {x y : Str} (h : Val p t x) (k : Val p t y) : x = y := by
  cases t with
  | oth f t => exact Least.one (mem_eq ok (.inr rfl) f).2.2.1 h k
  | name z => exact Eq.trans h (Eq.symm k)
  | fld f => exact Eq.trans h (Eq.symm k)
  | part f i => exact Eq.trans h (Eq.symm k)
theorem Dp.trI {K : PySem.W.Frag} {H : Hp} {v : V} {x y z : PyData} (h : Dp K H v (.tuple [x, y, z])) : ∃ (a : Addr) (u w o : V), v = .ref a ∧ SqT K H a [u, w, o] ∧ Dp K H u x ∧ Dp K H w y ∧ Dp K H o z := by
  cases h with
  | tup s b =>
    cases b with
    | cons a b =>
      cases b with
      | cons a2 b2 =>
        cases b2 with
        | cons a3 b3 =>
          cases b3
          exact ⟨_, _, _, _, rfl, s, a, a2, a3⟩
theorem Dp.strI {K : PySem.W.Frag} {H : Hp} {v : V} {z : Str} (h : Dp K H v (.str z)) : v = .str z := by cases h; rfl
theorem Dp.intI {K : PySem.W.Frag} {H : Hp} {v : V} {z : Int} (h : Dp K H v (.int z)) : v = .int z := by cases h; rfl
theorem Dp.wordsI {K : PySem.W.Frag} {H : Hp} {v : V} {zs : List Str} (h : Dp K H v (.tuple (zs.map .str))) : ∃ a : Addr, v = .ref a ∧ SqT K H a (zs.map V.str) := by
  obtain ⟨a, us, rfl, s, d⟩ := Dp.tupI h
  rw [DpAll.strsI d] at s
  exact ⟨a, rfl, s⟩
theorem Least.skip {ms al : List Str} {y z : Str} (h : Least ms al y) (hz : z ∈ al) : Least (ms ++ [z]) al y := by
  rcases h with ⟨rfl, a⟩ | ⟨h1, h2, h3⟩
  · refine .inl ⟨rfl, fun m mm => ?_⟩
    rcases List.mem_append.mp mm with k | k
    · exact a m k
    · rw [List.mem_singleton.mp k]
      exact hz
  · refine .inr ⟨List.mem_append_left _ h1, h2, fun m mm nm => ?_⟩
    rcases List.mem_append.mp mm with k | k
    · exact h3 m k nm
    · rw [List.mem_singleton.mp k] at nm
      exact absurd hz nm
theorem Wd.ne {z : Str} (h : Wd z) : z ≠ "" := fun e => by
  have := h.2.1
  rw [e] at this
  exact absurd this (by decide)
theorem Least.take_ {ms al : List Str} {y z : Str} (w : ∀ z ∈ ms, Wd z) (wz : Wd z) (h : Least ms al y) (hz : z ∉ al) (c : y = "" ∨ z.length < y.length ∨ (z.length = y.length ∧ tl z < tl y)) : Least (ms ++ [z]) al z := by
  refine .inr ⟨List.mem_append_right _ (List.mem_singleton.mpr rfl), hz, fun m mm nm => ?_⟩
  rcases List.mem_append.mp mm with k | k
  · rcases h with ⟨_, a⟩ | ⟨h1, _, h3⟩
    · exact absurd (a m k) nm
    · have := h3 m k nm
      have lt : wnum (tl z) < wnum (tl y) := (wnum_lt wz.1 (w y h1).1).mpr (by
        rw [← len_tl, ← len_tl]
        exact c.resolve_left (w y h1).ne)
      omega
  · rw [List.mem_singleton.mp k]
    exact Int.le_refl _
theorem Least.keep_ {ms al : List Str} {y z : Str} (w : ∀ z ∈ ms, Wd z) (wz : Wd z) (h : Least ms al y) (hz : z ∉ al) (c : ¬(y = "" ∨ z.length < y.length ∨ (z.length = y.length ∧ tl z < tl y))) : Least (ms ++ [z]) al y := by
  rcases h with ⟨rfl, _⟩ | ⟨h1, h2, h3⟩
  · exact absurd (.inl rfl) c
  · refine .inr ⟨List.mem_append_left _ h1, h2, fun m mm nm => ?_⟩
    rcases List.mem_append.mp mm with k | k
    · exact h3 m k nm
    · rw [List.mem_singleton.mp k]
      refine Int.not_lt.mp fun lt => c (.inr ?_)
      have := (wnum_lt wz.1 (w y h1).1).mp lt
      rw [len_tl, len_tl]
      exact this
theorem take_snoc {xs : List Str} {i : Nat} {z : Str} (h : xs[i]? = some z) : xs.take (i + 1) = xs.take i ++ [z] := by
  rw [List.take_add_one, h]
  rfl
theorem str_at {xs : List Str} {i : Nat} {x : V} (h : (xs.map V.str)[i]? = some x) : ∃ z, xs[i]? = some z ∧ x = .str z := by
  rw [List.getElem?_map] at h
  cases e : xs[i]? with
  | none => rw [e] at h; cases h
  | some n => rw [e] at h; exact ⟨n, rfl, (Option.some.inj h).symm⟩
theorem Least.nil (al : List Str) : Least [] al "" := .inl ⟨rfl, fun m mm => (by cases mm)⟩
theorem Least.len {ms al : List Str} {y : Str} (w : ∀ z ∈ ms, Wd z) (h : Least ms al y) : y.length ≤ 1000 := by
  rcases h with ⟨rfl, _⟩ | ⟨h1, _, _⟩
  · decide
  · exact (w y h1).2.2
/-! ### conditions -/
inductive Cn where
  | tru
  | fls
  | is (a b : Tm)
  | inn (a : Tm) (w : Str)
  | mbr (a : Tm) (w : Str)
  | wth (f : Str) (t : Tg)
  | most (a b : Str) (n : Int)
  | und (f : Str) (ts : List Tm)
  | ats (f : Str) (ts : List Tm)
  | not (c : Cn)
  | all (cs : List Cn)
  | any (cs : List Cn)
mutual
def cnD : Cn → PyData
  | .tru => .tuple [.str "true"]
  | .fls => .tuple [.str "false"]
  | .is a b => .tuple [.str "is", tmD a, tmD b]
  | .inn a w => .tuple [.str "in", tmD a, .str w]
  | .mbr a w => .tuple [.str "member", tmD a, .str w]
  | .wth f t => .tuple [.str "within", .str f, tgD t]
  | .most a b n => .tuple [.str "most", .str a, .str b, .int n]
  | .und f ts => .tuple [.str "under", .str f, .tuple (ts.map tmD)]
  | .ats f ts => .tuple [.str "at", .str f, .tuple (ts.map tmD)]
  | .not c => .tuple [.str "not", cnD c]
  | .all cs => .tuple [.str "all", .tuple (cnDs cs)]
  | .any cs => .tuple [.str "any", .tuple (cnDs cs)]
def cnDs : List Cn → List PyData
  | [] => []
  | c :: r => cnD c :: cnDs r
end
/-- a term of a condition -/
def pl : Tm → Prop
  | .oth _ _ => False
  | t => okT t
def blw (z : Str) : Prop := z = "" ∨ Wd z
mutual
/-- a valid condition, numbers up to B -/
def okc (B : Nat) : Cn → Prop
  | .tru => True
  | .fls => True
  | .is a b => pl a ∧ pl b
  | .inn a w => pl a ∧ Wd w
  | .mbr a w => pl a ∧ Wd w
  | .wth f t => Wd f ∧ okG t ∧ (∀ zs, t = .names zs → zs.length ≤ 40)
  | .most a b n => blw a ∧ blw b ∧ n.natAbs ≤ B
  | .und f ts => Wd f ∧ (∀ t ∈ ts, pl t) ∧ ts.length ≤ 40
  | .ats f ts => Wd f ∧ (∀ t ∈ ts, pl t) ∧ ts.length ≤ 40
  | .not c => okc B c
  | .all cs => okcs B cs ∧ cs.length ≤ 1000
  | .any cs => okcs B cs ∧ cs.length ≤ 1000
def okcs (B : Nat) : List Cn → Prop
  | [] => True
  | c :: r => okc B c ∧ okcs B r
end
mutual
/-- how deep; how many -/
def dpt : Cn → Nat
  | .not c => dpt c + 1
  | .all cs => dpts cs + 1
  | .any cs => dpts cs + 1
  | _ => 0
def dpts : List Cn → Nat
  | [] => 0
  | c :: r => max (dpt c) (dpts r)
end
mutual
def nod : Cn → Nat
  | .not c => nod c + 1
  | .all cs => nods cs + 1
  | .any cs => nods cs + 1
  | _ => 1
def nods : List Cn → Nat
  | [] => 0
  | c :: r => nod c + nods r
end
theorem cnDs_eq : ∀ cs : List Cn, cnDs cs = cs.map cnD
  | [] => rfl
  | c :: r => by
    show cnD c :: cnDs r = cnD c :: r.map cnD
    rw [cnDs_eq r]
theorem okcs_of {B : Nat} : ∀ {cs : List Cn}, (∀ c ∈ cs, okc B c) → okcs B cs
  | [], _ => by unfold okcs; trivial
  | c :: r, h => by
    unfold okcs
    exact ⟨h c List.mem_cons_self, okcs_of fun x m => h x (List.mem_cons_of_mem _ m)⟩
theorem okcs_mem {B : Nat} : ∀ {cs : List Cn} {c : Cn}, okcs B cs → c ∈ cs → okc B c
  | [], _, _, m => by cases m
  | x :: r, c, h, m => by
    unfold okcs at h
    rcases List.mem_cons.mp m with rfl | m
    · exact h.1
    · exact okcs_mem h.2 m
theorem dpts_mem : ∀ {cs : List Cn} {c : Cn}, c ∈ cs → dpt c ≤ dpts cs
  | [], _, m => by cases m
  | x :: r, c, m => by
    unfold dpts
    rcases List.mem_cons.mp m with rfl | m
    · exact Nat.le_max_left _ _
    · exact Nat.le_trans (dpts_mem m) (Nat.le_max_right _ _)
theorem dpts_le : ∀ {cs : List Cn} {n : Nat}, (∀ c ∈ cs, dpt c ≤ n) → dpts cs ≤ n
  | [], n, _ => by unfold dpts; exact Nat.zero_le _
  | x :: r, n, h => by
    unfold dpts
    exact Nat.max_le.mpr ⟨h x List.mem_cons_self, dpts_le fun c m => h c (List.mem_cons_of_mem _ m)⟩
theorem nods_mem : ∀ {cs : List Cn} {c : Cn}, c ∈ cs → nod c ≤ nods cs
  | [], _, m => by cases m
  | x :: r, c, m => by
    unfold nods
    rcases List.mem_cons.mp m with rfl | m
    · exact Nat.le_add_right _ _
    · exact Nat.le_trans (nods_mem m) (Nat.le_add_left _ _)
theorem nods_le : ∀ {cs : List Cn} {n : Nat}, (∀ c ∈ cs, nod c ≤ n) → nods cs ≤ cs.length * n
  | [], n, _ => by unfold nods; exact Nat.zero_le _
  | x :: r, n, h => by
    unfold nods
    have h1 := h x List.mem_cons_self
    have h2 := nods_le (cs := r) fun c m => h c (List.mem_cons_of_mem _ m)
    rw [List.length_cons, Nat.add_mul, Nat.one_mul]
    omega
theorem tms_tupos (ts : List Tm) : tupos (ts.map tmD) = true := tupos_of fun y m => by
  obtain ⟨t, _, rfl⟩ := List.mem_map.mp m
  exact tmD_tupo t
theorem tupo_t {ds : List PyData} (h : ∀ d ∈ ds, tupo d = true) : tupo (.tuple ds) = true := by
  unfold tupo
  exact tupos_of h
theorem tupo4 {x y z u : PyData} (h : tupo x = true) (k : tupo y = true) (l : tupo z = true) (m : tupo u = true) : tupo (.tuple [x, y, z, u]) = true := tupo_t fun d e => by
  simp only [List.mem_cons, List.not_mem_nil, or_false] at e
  rcases e with rfl | rfl | rfl | rfl
  · exact h
  · exact k
  · exact l
  · exact m
theorem tupo1 {x : PyData} (h : tupo x = true) : tupo (.tuple [x]) = true := tupo_t fun d e => by
  rw [List.mem_singleton.mp e]
  exact h
mutual
theorem cnD_tupo : ∀ c : Cn, tupo (cnD c) = true
  | .tru => tupo1 tupo_s
  | .fls => tupo1 tupo_s
  | .is a b => tupo3 tupo_s (tmD_tupo a) (tmD_tupo b)
  | .inn a w => tupo3 tupo_s (tmD_tupo a) tupo_s
  | .mbr a w => tupo3 tupo_s (tmD_tupo a) tupo_s
  | .wth f t => tupo3 tupo_s tupo_s (tgD_tupo t)
  | .most a b n => tupo4 tupo_s tupo_s tupo_s tupo_i
  | .und f ts => tupo3 tupo_s tupo_s (by unfold tupo; exact tms_tupos ts)
  | .ats f ts => tupo3 tupo_s tupo_s (by unfold tupo; exact tms_tupos ts)
  | .not c => tupo2 tupo_s (cnD_tupo c)
  | .all cs => tupo2 tupo_s (by unfold tupo; exact cnDs_tupo cs)
  | .any cs => tupo2 tupo_s (by unfold tupo; exact cnDs_tupo cs)
theorem cnDs_tupo : ∀ cs : List Cn, tupos (cnDs cs) = true
  | [] => by unfold cnDs tupos; rfl
  | c :: r => by
    unfold cnDs tupos
    rw [cnD_tupo c, cnDs_tupo r]
    rfl
end
theorem Dp.oneI {K : PySem.W.Frag} {H : Hp} {v : V} {x : PyData} (h : Dp K H v (.tuple [x])) : ∃ (a : Addr) (u : V), v = .ref a ∧ SqT K H a [u] ∧ Dp K H u x := by
  cases h with
  | tup s b =>
    cases b with
    | cons a b =>
      cases b
      exact ⟨_, _, rfl, s, a⟩
theorem Dp.quI {K : PySem.W.Frag} {H : Hp} {v : V} {x y z w : PyData} (h : Dp K H v (.tuple [x, y, z, w])) : ∃ (a : Addr) (u1 u2 u3 u4 : V), v = .ref a ∧ SqT K H a [u1, u2, u3, u4] ∧ Dp K H u1 x ∧ Dp K H u2 y ∧ Dp K H u3 z ∧ Dp K H u4 w := by
  cases h with
  | tup s b =>
    obtain ⟨u0, u1, u2, u3, rfl, d0, d1, d2, d3⟩ := DpAll.four b
    exact ⟨_, _, _, _, _, rfl, s, d0, d1, d2, d3⟩
/-- new tuples of parts -/
theorem Dp.mk1 {K : PySem.W.Frag} {H : Hp} {t : Addr} {u : V} {x : PyData} (n : H t = none) (h : Dp K H u x) : Dp K (upd H t (.tup [u])) (.ref t) (.tuple [x]) := .tup (SqT.of upd_same) (.cons (Dp.go (Same.new n) _ _ h) .nil)
theorem Dp.mk2 {K : PySem.W.Frag} {H : Hp} {t : Addr} {u v : V} {x y : PyData} (n : H t = none) (h : Dp K H u x) (k : Dp K H v y) : Dp K (upd H t (.tup [u, v])) (.ref t) (.tuple [x, y]) := .tup (SqT.of upd_same) (.cons (Dp.go (Same.new n) _ _ h) (.cons (Dp.go (Same.new n) _ _ k) .nil))
theorem Dp.mk3 {K : PySem.W.Frag} {H : Hp} {t : Addr} {u v w : V} {x y z : PyData} (n : H t = none) (h : Dp K H u x) (k : Dp K H v y) (l : Dp K H w z) : Dp K (upd H t (.tup [u, v, w])) (.ref t) (.tuple [x, y, z]) := .tup (SqT.of upd_same) (.cons (Dp.go (Same.new n) _ _ h) (.cons (Dp.go (Same.new n) _ _ k) (.cons (Dp.go (Same.new n) _ _ l) .nil)))
theorem Dp.mk4 {K : PySem.W.Frag} {H : Hp} {t : Addr} {u v w o : V} {x y z q : PyData} (n : H t = none) (h : Dp K H u x) (k : Dp K H v y) (l : Dp K H w z) (m : Dp K H o q) : Dp K (upd H t (.tup [u, v, w, o])) (.ref t) (.tuple [x, y, z, q]) := .tup (SqT.of upd_same) (.cons (Dp.go (Same.new n) _ _ h) (.cons (Dp.go (Same.new n) _ _ k) (.cons (Dp.go (Same.new n) _ _ l) (.cons (Dp.go (Same.new n) _ _ m) .nil))))
/-- tuple(a list) by its parts -/
theorem Dp.mkF {K : PySem.W.Frag} {H : Hp} {t : Addr} {o : Obj} {us : List V} {xs : List PyData} (n : H t = none) (ho : o.dict = none) (h : DpAll K H us xs) : Dp K (upd H t (.frz o (.tup us))) (.ref t) (.tuple xs) := .tup (FzT.sq ⟨o, ho, upd_same⟩) (DpAll.go (Same.new n) _ _ h)
/-- a list of data by their descriptions -/
theorem dats_of {α : Type} {f : α → PyData} {P : α → Prop} : ∀ {xs : List PyData}, (∀ (j : Nat) (x : PyData), xs[j]? = some x → ∃ c, x = f c ∧ P c) → ∃ cs : List α, xs = cs.map f ∧ ∀ c ∈ cs, P c
  | [], _ => ⟨[], rfl, fun c m => (by cases m)⟩
  | x :: r, h => by
    obtain ⟨cs, e, hc⟩ := dats_of (xs := r) fun j y ey => h (j + 1) y (by simpa using ey)
    obtain ⟨c, e0, p0⟩ := h 0 x rfl
    exact ⟨c :: cs, by rw [e, e0]; rfl, fun d m => by
      rcases List.mem_cons.mp m with rfl | m
      · exact p0
      · exact hc d m⟩
/-- one of a written list -/
theorem pick {α : Type} {xs : List α} {P : α → Prop} {z : Int} (h0 : 0 ≤ z) (h1 : z < xs.length) (h : ∀ x ∈ xs, P x) : ∃ x, atI xs z = some x ∧ P x := by
  obtain ⟨v, e1, e2⟩ := at_lt h0 h1
  exact ⟨v, e1, h v (List.mem_of_getElem? e2)⟩
theorem dpt_not (c : Cn) : dpt (.not c) = dpt c + 1 := by rw [dpt]
theorem dpt_all (c : List Cn) : dpt (.all c) = dpts c + 1 := by rw [dpt]
theorem dpt_any (c : List Cn) : dpt (.any c) = dpts c + 1 := by rw [dpt]
theorem dpts_nil : dpts [] = 0 := by rw [dpts]
theorem dpts_cons (c : Cn) (r : List Cn) : dpts (c :: r) = max (dpt c) (dpts r) := by rw [dpts]
theorem nod_not (c : Cn) : nod (.not c) = nod c + 1 := by rw [nod]
theorem nod_all (c : List Cn) : nod (.all c) = nods c + 1 := by rw [nod]
theorem nod_any (c : List Cn) : nod (.any c) = nods c + 1 := by rw [nod]
theorem nods_nil : nods [] = 0 := by rw [nods]
theorem nods_cons (c : Cn) (r : List Cn) : nods (c :: r) = nod c + nods r := by rw [nods]
theorem nod_tru : nod .tru = 1 := by rw [nod] <;> (intros; simp_all)
theorem nod_fls : nod .fls = 1 := by rw [nod] <;> (intros; simp_all)
theorem dpt_tru : dpt .tru = 0 := by rw [dpt] <;> (intros; simp_all)
theorem dpt_fls : dpt .fls = 0 := by rw [dpt] <;> (intros; simp_all)
theorem okc_tru {B : Nat} : okc B .tru := by unfold okc; trivial
theorem okc_fls {B : Nat} : okc B .fls := by unfold okc; trivial
theorem okcs_two {B : Nat} {a b : Cn} (h : okc B a) (k : okc B b) : okcs B [a, b] ∧ [a, b].length ≤ 1000 := ⟨okcs_of fun x m => by
  simp only [List.mem_cons, List.not_mem_nil, or_false] at m
  rcases m with rfl | rfl
  · exact h
  · exact k, by simp⟩
theorem okcs_one {B : Nat} {a : Cn} (h : okc B a) : okcs B [a] ∧ [a].length ≤ 1000 := ⟨okcs_of fun x m => by
  rw [List.mem_singleton.mp m]
  exact h, by simp⟩
/-! ### the written form -/
abbrev Sx (l : List Nat) : Str := ⟨l.toArray⟩
theorem tl_Sx (l : List Nat) : tl (Sx l) = l := by simp [tl]
theorem Sx_tl (z : Str) : Sx (tl z) = z := ext_tl (tl_Sx _)
theorem len_Sx (l : List Nat) : (Sx l).length = l.length := by rw [len_tl, tl_Sx]
theorem Sx_app (a b : List Nat) : Sx a ++ Sx b = Sx (a ++ b) := ext_tl (by rw [tl_append, tl_Sx, tl_Sx, tl_Sx])
theorem map_Sx_tl (ls : List (List Nat)) : (ls.map Sx).map tl = ls := by
  rw [List.map_map]
  exact (List.map_congr_left fun x _ => tl_Sx x).trans (List.map_id ls)
theorem join_Sx (a : Str) (ls : List (List Nat)) : Txt.join a (ls.map Sx) = Sx (joinL (tl a) ls) := ext_tl (by
  rw [join_eq, tl_join, map_Sx_tl])
def its (n : Int) : List Nat := tl (Str.ofString (toString n))
theorem its_S (n : Int) : Str.ofString (toString n) = Sx (its n) := (Sx_tl _).symm
theorem its_eq (n : Int) : its n = (toString n).toList.map Char.toNat := by
  unfold its
  rw [Str.ofString_eq_toList]
theorem its_ne (n : Int) : its n ≠ [44] := by
  rw [its_eq]
  cases n with
  | ofNat m =>
    have e : (toString (Int.ofNat m)).toList = Nat.toDigits 10 m := by
      show (Nat.repr m).toList = _
      unfold Nat.repr
      simp
    rw [e]
    intro h
    obtain ⟨c, l, e2, e3, e4⟩ := List.map_eq_cons_iff.mp h
    have d := Nat.isDigit_of_mem_toDigits (b := 10) (n := m) (c := c) (by decide) (by decide) (by rw [e2]; exact List.mem_cons_self)
    have : c = ',' := Char.toNat_inj.mp (e3.trans (by decide))
    rw [this] at d
    exact absurd d (by decide)
  | negSucc m =>
    have e : (toString (Int.negSucc m)).toList = '-' :: (Nat.repr (m + 1)).toList := by
      show (Int.repr (Int.negSucc m)).toList = _
      unfold Int.repr
      simp
    rw [e]
    intro h
    have := (List.cons.inj h).1
    exact absurd this (by decide)
theorem its_len {n : Int} (h : n.natAbs ≤ 10 ^ 60) : (its n).length ≤ 63 := by
  rw [its_eq, List.length_map]
  have key : ∀ m : Nat, m ≤ 10 ^ 60 → (Nat.repr m).toList.length ≤ 61 := fun m hm => by
    have e : (Nat.repr m).toList = Nat.toDigits 10 m := by
      unfold Nat.repr
      simp
    rw [e]
    exact (Nat.length_toDigits_le_iff (by decide) (by decide)).mpr (Nat.lt_of_le_of_lt hm (by decide))
  cases n with
  | ofNat m => exact Nat.le_trans (key m h) (by decide)
  | negSucc m =>
    have e : (toString (Int.negSucc m)).toList = '-' :: (Nat.repr (m + 1)).toList := by
      show (Int.repr (Int.negSucc m)).toList = _
      unfold Int.repr
      simp
    rw [e, List.length_cons]
    have := key (m + 1) h
    omega
theorem log_lt {n : Int} (h : n.natAbs ≤ 10 ^ 60) : n.natAbs.log2 < 1920 := by
  by_cases h0 : n.natAbs = 0
  · rw [h0]
    decide
  · exact (Nat.log2_lt h0).mpr (Nat.lt_of_le_of_lt h (by decide +kernel))
/-! what is written of each part -/
def quo (z : Str) : List Nat := [34] ++ tl z ++ [34]
def wt : Tm → List Nat
  | .name z => quo z
  | .fld f => tl f
  | .part f i => tl f ++ [46] ++ its i
  | .oth _ _ => []
def wg : Tg → List Nat
  | .set g => tl g
  | .names zs => [123] ++ joinL [44, 32] (zs.map quo) ++ [125]
def wp : List Tm → List Nat
  | [] => [47]
  | t :: r => ((t :: r).map fun t => [47] ++ wt t).flatten
def or0 (z : Str) : List Nat := if z = "" then [48] else tl z
def brk (k : Str) (l : List (List Nat)) : List Nat := tl k ++ [40] ++ joinL [44, 32] l ++ [41]
mutual
def wl : Cn → List Nat
  | .tru => tl "yes"
  | .fls => tl "no"
  | .is a b => brk "is" [wt a, wt b]
  | .inn a w => brk "in" [wt a, tl w]
  | .mbr a w => brk "member" [wt a, tl w]
  | .wth f t => brk "within" [tl f, wg t]
  | .most a b n => brk "most" [or0 a, or0 b, its n]
  | .und f ts => brk "under" [tl f, wp ts]
  | .ats f ts => brk "at" [tl f, wp ts]
  | .not c => brk "not" [wl c]
  | .all cs => brk "all" (wls cs)
  | .any cs => brk "any" (wls cs)
def wls : List Cn → List (List Nat)
  | [] => []
  | c :: r => wl c :: wls r
end
theorem wls_eq : ∀ cs : List Cn, wls cs = cs.map wl
  | [] => by rw [wls]; rfl
  | c :: r => by rw [wls, wls_eq r]; rfl
/-- the kind's name; the arguments -/
def knd : Cn → Str
  | .tru => "true"
  | .fls => "false"
  | .is _ _ => "is"
  | .inn _ _ => "in"
  | .mbr _ _ => "member"
  | .wth _ _ => "within"
  | .most _ _ _ => "most"
  | .und _ _ => "under"
  | .ats _ _ => "at"
  | .not _ => "not"
  | .all _ => "all"
  | .any _ => "any"
def ags : Cn → List (List Nat)
  | .tru => []
  | .fls => []
  | .is a b => [wt a, wt b]
  | .inn a w => [wt a, tl w]
  | .mbr a w => [wt a, tl w]
  | .wth f t => [tl f, wg t]
  | .most a b n => [or0 a, or0 b, its n]
  | .und f ts => [tl f, wp ts]
  | .ats f ts => [tl f, wp ts]
  | .not c => [wl c]
  | .all cs => cs.map wl
  | .any cs => cs.map wl
theorem wl_eq {c : Cn} (h1 : c ≠ .tru) (h2 : c ≠ .fls) : wl c = brk (knd c) (ags c) := by
  cases c with
  | tru => exact absurd rfl h1
  | fls => exact absurd rfl h2
  | all cs => rw [wl, wls_eq]; rfl
  | any cs => rw [wl, wls_eq]; rfl
  | _ => rw [wl]; rfl
/-! lengths -/
def tot (l : List (List Nat)) : Nat := (l.map List.length).sum + 2 * l.length
theorem tot_cons (x : List Nat) (l : List (List Nat)) : tot (x :: l) = x.length + 2 + tot l := by
  unfold tot
  rw [List.map_cons, List.sum_cons, List.length_cons]
  omega
theorem tot_nil : tot [] = 0 := rfl
theorem tot_le {l : List (List Nat)} {m : Nat} (h : ∀ x ∈ l, x.length ≤ m) : tot l ≤ l.length * (m + 2) := by
  induction l with
  | nil => exact Nat.zero_le _
  | cons x r ih =>
    rw [tot_cons, List.length_cons, Nat.add_mul]
    have := h x List.mem_cons_self
    have := ih fun y m => h y (List.mem_cons_of_mem _ m)
    omega
theorem joinL_tot : ∀ l : List (List Nat), (joinL [44, 32] l).length ≤ tot l
  | [] => Nat.zero_le _
  | [p] => by
    rw [tot_cons, tot_nil]
    show p.length ≤ _
    omega
  | p :: q :: r => by
    rw [tot_cons]
    show (p ++ ([44, 32] ++ joinL [44, 32] (q :: r))).length ≤ _
    have := joinL_tot (q :: r)
    rw [List.length_append, List.length_append]
    show _ + (2 + _) ≤ _
    omega
theorem brk_len (k : Str) (l : List (List Nat)) : (brk k l).length ≤ k.length + 2 + tot l := by
  unfold brk
  rw [List.length_append, List.length_append, List.length_append, len_tl]
  have := joinL_tot l
  show _ + 1 + _ + 1 ≤ _
  omega
theorem Wd.tl_len {z : Str} (h : Wd z) : (tl z).length ≤ 1000 := by rw [← len_tl]; exact h.2.2
theorem blw.tl_len {z : Str} (h : blw z) : (tl z).length ≤ 1000 := by
  rcases h with rfl | h
  · decide
  · exact h.tl_len
theorem quo_len {z : Str} (h : blw z) : (quo z).length ≤ 1002 := by
  have := h.tl_len
  unfold quo
  rw [List.length_append, List.length_append]
  show 1 + _ + 1 ≤ _
  omega
theorem wt_len {t : Tm} (h : pl t) : (wt t).length ≤ 1100 := by
  cases t with
  | name z => exact Nat.le_trans (quo_len h) (by decide)
  | fld f => exact Nat.le_trans (Wd.tl_len h) (by decide)
  | part f i =>
    have h1 := Wd.tl_len h.1
    have h2 := its_len (n := i) (Nat.le_trans (by have := h.2; omega : i.natAbs ≤ 40) (by decide))
    show (tl f ++ [46] ++ its i).length ≤ _
    rw [List.length_append, List.length_append]
    show _ + 1 + _ ≤ _
    omega
  | oth f t => exact h.elim
theorem wg_len {t : Tg} (h : okG t) (k : ∀ zs, t = .names zs → zs.length ≤ 40) : (wg t).length ≤ 41000 := by
  cases t with
  | set g => exact Nat.le_trans (Wd.tl_len h) (by decide)
  | names zs =>
    have := joinL_tot (zs.map quo)
    have h2 := tot_le (l := zs.map quo) (m := 1002) fun x m => by
      obtain ⟨z, mz, rfl⟩ := List.mem_map.mp m
      exact quo_len (.inr (h.2.1 z mz))
    rw [List.length_map] at h2
    have h3 := k zs rfl
    have h4 : zs.length * (1002 + 2) ≤ 40 * (1002 + 2) := Nat.mul_le_mul_right _ h3
    show ([123] ++ joinL [44, 32] (zs.map quo) ++ [125]).length ≤ _
    rw [List.length_append, List.length_append]
    show 1 + _ + 1 ≤ _
    omega
theorem flat_le {l : List (List Nat)} {m : Nat} (h : ∀ x ∈ l, x.length ≤ m) : l.flatten.length ≤ l.length * m := by
  induction l with
  | nil => exact Nat.zero_le _
  | cons x r ih =>
    rw [List.flatten_cons, List.length_append, List.length_cons, Nat.add_mul]
    have := h x List.mem_cons_self
    have := ih fun y m => h y (List.mem_cons_of_mem _ m)
    omega
theorem wp_len {ts : List Tm} (h : ∀ t ∈ ts, pl t) (k : ts.length ≤ 40) : (wp ts).length ≤ 45000 := by
  cases ts with
  | nil => decide
  | cons t r =>
    have h2 := flat_le (l := (t :: r).map fun t => [47] ++ wt t) (m := 1101) fun x m => by
      obtain ⟨z, mz, rfl⟩ := List.mem_map.mp m
      have := wt_len (h z mz)
      rw [List.length_append]
      show 1 + _ ≤ _
      omega
    rw [List.length_map] at h2
    have h4 : (t :: r).length * 1101 ≤ 40 * 1101 := Nat.mul_le_mul_right _ k
    show ((((t :: r).map fun t => [47] ++ wt t).flatten)).length ≤ _
    omega
theorem or0_len {z : Str} (h : blw z) : (or0 z).length ≤ 1000 := by
  unfold or0
  split
  · decide
  · exact h.tl_len
theorem knd_len (c : Cn) : (knd c).length ≤ 6 := match c with
  | .tru => (by decide : (Str.ofString "true").length ≤ 6)
  | .fls => (by decide : (Str.ofString "false").length ≤ 6)
  | .is _ _ => (by decide : (Str.ofString "is").length ≤ 6)
  | .inn _ _ => (by decide : (Str.ofString "in").length ≤ 6)
  | .mbr _ _ => (by decide : (Str.ofString "member").length ≤ 6)
  | .wth _ _ => (by decide : (Str.ofString "within").length ≤ 6)
  | .most _ _ _ => (by decide : (Str.ofString "most").length ≤ 6)
  | .und _ _ => (by decide : (Str.ofString "under").length ≤ 6)
  | .ats _ _ => (by decide : (Str.ofString "at").length ≤ 6)
  | .not _ => (by decide : (Str.ofString "not").length ≤ 6)
  | .all _ => (by decide : (Str.ofString "all").length ≤ 6)
  | .any _ => (by decide : (Str.ofString "any").length ≤ 6)
def smp : Cn → Bool
  | .tru => false
  | .fls => false
  | .not _ => false
  | .all _ => false
  | .any _ => false
  | _ => true
theorem smp_len {c : Cn} (s : smp c = true) (h : okc (10 ^ 60) c) : tot (ags c) ≤ 90000 := by
  cases c with
  | is a b =>
    unfold okc at h
    have h1 := wt_len h.1
    have h2 := wt_len h.2
    show tot [wt a, wt b] ≤ _
    rw [tot_cons, tot_cons, tot_nil]
    omega
  | inn a w =>
    unfold okc at h
    have h1 := wt_len h.1
    have h2 := h.2.tl_len
    show tot [wt a, tl w] ≤ _
    rw [tot_cons, tot_cons, tot_nil]
    omega
  | mbr a w =>
    unfold okc at h
    have h1 := wt_len h.1
    have h2 := h.2.tl_len
    show tot [wt a, tl w] ≤ _
    rw [tot_cons, tot_cons, tot_nil]
    omega
  | wth f t =>
    unfold okc at h
    have h1 := h.1.tl_len
    have h2 := wg_len h.2.1 h.2.2
    show tot [tl f, wg t] ≤ _
    rw [tot_cons, tot_cons, tot_nil]
    omega
  | most a b n =>
    unfold okc at h
    have h1 := or0_len h.1
    have h2 := or0_len h.2.1
    have h3 := its_len h.2.2
    show tot [or0 a, or0 b, its n] ≤ _
    rw [tot_cons, tot_cons, tot_cons, tot_nil]
    omega
  | und f ts =>
    unfold okc at h
    have h1 := h.1.tl_len
    have h2 := wp_len h.2.1 h.2.2
    show tot [tl f, wp ts] ≤ _
    rw [tot_cons, tot_cons, tot_nil]
    omega
  | ats f ts =>
    unfold okc at h
    have h1 := h.1.tl_len
    have h2 := wp_len h.2.1 h.2.2
    show tot [tl f, wp ts] ≤ _
    rw [tot_cons, tot_cons, tot_nil]
    omega
  | tru => cases s
  | fls => cases s
  | not _ => cases s
  | all _ => cases s
  | any _ => cases s
theorem wl_fin {c : Cn} {m : Nat} (h1 : c ≠ .tru) (h2 : c ≠ .fls) (h : tot (ags c) ≤ m) : (wl c).length + 2 ≤ m + 10 := by
  rw [wl_eq h1 h2]
  have := brk_len (knd c) (ags c)
  have := knd_len c
  omega
theorem smp_fin {c : Cn} (s : smp c = true) (n : nod c = 1) (h : okc (10 ^ 60) c) : (wl c).length + 2 ≤ 100100 * nod c := by
  rw [n]
  have := wl_fin (c := c) (fun e => by rw [e] at s; cases s) (fun e => by rw [e] at s; cases s) (smp_len s h)
  omega
mutual
theorem wl_len : ∀ c : Cn, okc (10 ^ 60) c → (wl c).length + 2 ≤ 100100 * nod c
  | .tru, _ => by rw [wl, nod_tru]; decide
  | .fls, _ => by rw [wl, nod_fls]; decide
  | .is a b, h => smp_fin rfl rfl h
  | .inn a b, h => smp_fin rfl rfl h
  | .mbr a b, h => smp_fin rfl rfl h
  | .wth a b, h => smp_fin rfl rfl h
  | .most a b c, h => smp_fin rfl rfl h
  | .und a b, h => smp_fin rfl rfl h
  | .ats a b, h => smp_fin rfl rfl h
  | .not c, h => by
    unfold okc at h
    have := wl_len c h
    have := wl_fin (c := .not c) (m := 100100 * nod c) (by simp) (by simp) (by
      show tot [wl c] ≤ _
      rw [tot_cons, tot_nil]
      omega)
    rw [nod_not]
    omega
  | .all cs, h => by
    unfold okc at h
    have := wls_len cs h.1
    have := wl_fin (c := .all cs) (m := 100100 * nods cs) (by simp) (by simp) (by
      show tot (cs.map wl) ≤ _
      rw [← wls_eq]
      exact this)
    rw [nod_all]
    omega
  | .any cs, h => by
    unfold okc at h
    have := wls_len cs h.1
    have := wl_fin (c := .any cs) (m := 100100 * nods cs) (by simp) (by simp) (by
      show tot (cs.map wl) ≤ _
      rw [← wls_eq]
      exact this)
    rw [nod_any]
    omega
theorem wls_len : ∀ cs : List Cn, okcs (10 ^ 60) cs → tot (wls cs) ≤ 100100 * nods cs
  | [], _ => by rw [wls, nods_nil]; decide
  | c :: r, h => by
    unfold okcs at h
    have := wl_len c h.1
    have := wls_len r h.2
    rw [wls, tot_cons, nods_cons]
    omega
end
theorem nod_pos (c : Cn) : 1 ≤ nod c := by
  cases c with
  | not c => rw [nod_not]; omega
  | all c => rw [nod_all]; omega
  | any c => rw [nod_any]; omega
  | _ => exact Nat.le_refl 1
theorem ags_len {c : Cn} (h : okc (10 ^ 60) c) : tot (ags c) ≤ 100100 * nod c := by
  have p := nod_pos c
  cases hs : smp c with
  | true => have := smp_len hs h; omega
  | false =>
    cases c with
    | tru => exact Nat.zero_le _
    | fls => exact Nat.zero_le _
    | not c =>
      unfold okc at h
      have := wl_len c h
      show tot [wl c] ≤ _
      rw [tot_cons, tot_nil, nod_not]
      omega
    | all cs =>
      unfold okc at h
      have := wls_len cs h.1
      rw [wls_eq] at this
      rw [nod_all]
      show tot (cs.map wl) ≤ _
      omega
    | any cs =>
      unfold okc at h
      have := wls_len cs h.1
      rw [wls_eq] at this
      rw [nod_any]
      show tot (cs.map wl) ≤ _
      omega
    | _ => cases hs
/-- a comprehension over a tuple that makes texts told beforehand -/
theorem LcT.txt {K : PySem.W.Frag} {H : Hp} {σ : L2.St} {vs : List Nat} {te : TE} {Q : VK} {k : Nat} {a : Addr} {its : List V} (zs : List Str) (hl : zs.length = its.length) (hn : its.length ≤ 1000000) (hS : SqT K H a its) (hw : ∀ x, wipe ((wipe σ vs).set k (some x)) vs = wipe σ vs)
    (hel : ∀ (i : Nat) (u : V) (z : Str) (H1 : Hp) (R : VK), its[i]? = some u → zs[i]? = some z → Same H H1 → (∀ H2, Same H1 H2 → R (.str z) H2) → te ((wipe σ vs).set k (some u)) H1 R)
    (hq : ∀ (c : Addr) (H2 : Hp), Same H H2 → H c = none → H2 c = some (.lst (zs.map V.str)) → Q (.ref c) H2) : LcT K a (gName k) tYes te vs σ H Q :=
  LcT.by its fun c nc => by
    refine ⟨fun i H1 => Same H H1 ∧ H1 c = some (.lst ((zs.take i).map V.str)), ⟨Same.new nc, upd_same⟩, fun i H1 _ h => Same.tup h.1 hS, fun i x H1 hi h => ?_, fun H1 h => hq c H1 h.1 nc (by rw [← hl, List.take_length] at h; exact h.2)⟩
    obtain ⟨s, e⟩ := h
    have h2 := (List.getElem?_eq_some_iff.mp hi).1
    have hz := List.getElem?_eq_getElem (l := zs) (i := i) (by omega)
    show wipe _ vs = _ ∧ te _ H1 _
    refine ⟨hw _, hel i x zs[i] H1 _ hi hz s fun H2 s2 => ?_⟩
    refine ⟨_, s2 _ _ e, by rw [List.length_map, List.length_take]; exact line_lt (by omega), fun b u eb => ?_, ?_⟩
    · rw [upd_ne (ne_of_none eb nc)]
      exact s2 _ _ (s _ _ eb)
    · rw [upd_same, take_snoc hz, List.map_append]
      rfl
theorem js_len {ls : List (List Nat)} {n m : Nat} (h : tot ls ≤ m) (hm : m ≤ 16777216) (hn : n ≤ 2) : ((ls.map Sx).map (·.length)).sum + (ls.map Sx).length * n ≤ 16777216 := by
  have e : (ls.map Sx).map (·.length) = ls.map List.length := by
    rw [List.map_map]
    exact List.map_congr_left fun x _ => len_Sx x
  rw [e, List.length_map]
  unfold tot at h
  have : ls.length * n ≤ ls.length * 2 := Nat.mul_le_mul_left _ hn
  omega
theorem emp_app (z : Str) : Str.empty ++ z = z := ext_tl (by rw [tl_append]; rfl)
theorem ap_len {x y : Str} {n m : Nat} (h : x.length ≤ n) (k : y.length ≤ m) : (x ++ y).length ≤ n + m := by
  rw [Str.length_append]
  omega
theorem wp_flat {ts : List Tm} (h : ts ≠ []) : wp ts = (ts.map fun t => [47] ++ wt t).flatten := by
  cases ts with
  | nil => exact absurd rfl h
  | cons t r => rfl
/-! a condition by its kind -/
theorem cn_head {K : PySem.W.Frag} {H : Hp} {v : V} {c : Cn} (h : Dp K H v (cnD c)) : ∃ (p : Addr) (us : List V), v = .ref p ∧ SqT K H p us ∧ atI us 0 = some (.str (knd c)) := by
  have key : ∀ {ds : List PyData}, cnD c = .tuple (.str (knd c) :: ds) → ∃ (p : Addr) (us : List V), v = .ref p ∧ SqT K H p us ∧ atI us 0 = some (.str (knd c)) := fun e => by
    rw [e] at h
    obtain ⟨a, us, rfl, hT, hA⟩ := Dp.tupI h
    cases hA with
    | cons h1 _ =>
      cases h1
      exact ⟨a, _, rfl, hT, atI_nat (j := 0) rfl⟩
  cases c <;> exact key (by unfold cnD; rfl)
/-- the kinds by their numbers -/
def kno : Cn → Nat
  | .tru => 0
  | .fls => 1
  | .is _ _ => 2
  | .inn _ _ => 3
  | .mbr _ _ => 4
  | .wth _ _ => 5
  | .most _ _ _ => 6
  | .und _ _ => 7
  | .ats _ _ => 8
  | .not _ => 9
  | .all _ => 10
  | .any _ => 11
def kns : List Str := ["true", "false", "is", "in", "member", "within", "most", "under", "at", "not", "all", "any"]
theorem kns_at (c : Cn) : kns[kno c]? = some (knd c) := by cases c <;> rfl
theorem kns_inj {i j : Nat} {z : Str} (h : kns[i]? = some z) (k : kns[j]? = some z) : i = j := by
  have key : ∀ i, i < 12 → ∀ j, j < 12 → kns[i]? = kns[j]? → i = j := by decide +kernel
  have hi := (List.getElem?_eq_some_iff.mp h).1
  have hj := (List.getElem?_eq_some_iff.mp k).1
  exact key i hi j hj (h.trans k.symm)
theorem knd_no {c : Cn} {z : Str} {i : Nat} (h : V.str (knd c) = V.str z) (k : kns[i]? = some z) : kno c = i := kns_inj (kns_at c) (by rw [V.str.inj h]; exact k)
theorem kno_knd {c : Cn} {z : Str} {i : Nat} (h : ¬ V.str (knd c) = V.str z) (k : kns[i]? = some z) : kno c ≠ i := fun e => h (by
  have := kns_at c
  rw [e, k] at this
  rw [Option.some.inj this])
theorem kno2 {c : Cn} (h : kno c = 2) : ∃ a b, c = .is a b := by cases c <;> first | exact ⟨_, _, rfl⟩ | cases h
theorem kno3 {c : Cn} (h : kno c = 3) : ∃ a b, c = .inn a b := by cases c <;> first | exact ⟨_, _, rfl⟩ | cases h
theorem kno4 {c : Cn} (h : kno c = 4) : ∃ a b, c = .mbr a b := by cases c <;> first | exact ⟨_, _, rfl⟩ | cases h
theorem kno5 {c : Cn} (h : kno c = 5) : ∃ a b, c = .wth a b := by cases c <;> first | exact ⟨_, _, rfl⟩ | cases h
theorem kno7 {c : Cn} (h : kno c = 7) : ∃ a b, c = .und a b := by cases c <;> first | exact ⟨_, _, rfl⟩ | cases h
theorem kno8 {c : Cn} (h : kno c = 8) : ∃ a b, c = .ats a b := by cases c <;> first | exact ⟨_, _, rfl⟩ | cases h
theorem kno6 {c : Cn} (h : kno c = 6) : ∃ a b n, c = .most a b n := by cases c <;> first | exact ⟨_, _, _, rfl⟩ | cases h
theorem kno9 {c : Cn} (h : kno c = 9) : ∃ a, c = .not a := by cases c <;> first | exact ⟨_, rfl⟩ | cases h
theorem kno10 {c : Cn} (h : kno c = 10) : ∃ a, c = .all a := by cases c <;> first | exact ⟨_, rfl⟩ | cases h
theorem kno11 {c : Cn} (h : kno c = 11) : ∃ a, c = .any a := by cases c <;> first | exact ⟨_, rfl⟩ | cases h
theorem kno0 {c : Cn} (h : kno c = 0) : c = .tru := by cases c <;> first | rfl | cases h
theorem kno1 {c : Cn} (h : kno c = 1) : c = .fls := by cases c <;> first | rfl | cases h
theorem kno_lt (c : Cn) : kno c < 12 := (List.getElem?_eq_some_iff.mp (kns_at c)).1
/-- what was new stays new to what was -/
theorem none_of {H H' : Hp} {l : Addr} (s : Same H H') (n : H' l = none) : H l = none := by
  cases e : H l with
  | none => rfl
  | some o => rw [s _ _ e] at n; cases n
theorem in2 {c : Cn} {a b : Str} {i j : Nat} (ha : kns[i]? = some a) (hb : kns[j]? = some b) : inV (.str (knd c)) [.str a, .str b] = decide (kno c = i ∨ kno c = j) := by
  have e := inV_strs (knd c) [a, b]
  rw [show [V.str a, V.str b] = [a, b].map V.str from rfl, e]
  have : (knd c ∈ [a, b]) ↔ (kno c = i ∨ kno c = j) := by
    simp only [List.mem_cons, List.not_mem_nil, or_false]
    constructor
    · rintro (e | e)
      · exact .inl (kns_inj (kns_at c) (by rw [e]; exact ha))
      · exact .inr (kns_inj (kns_at c) (by rw [e]; exact hb))
    · rintro (e | e)
      · have := kns_at c
        rw [e, ha] at this
        exact .inl (Option.some.inj this).symm
      · have := kns_at c
        rw [e, hb] at this
        exact .inr (Option.some.inj this).symm
  simp only [this]
/-- a text or another: by truth -/
theorem or_step {K : PySem.W.Frag} {H : Hp} {a : Str} {P R : Prop} (h : blw a) (h1 : Sx (or0 a) = a → P) (h2 : Sx (or0 a) = Str.ofString "0" → R) : ∃ k, TruV K (.str a) H k ∧ if k = true then P else R := by
  have la := blw.tl_len h
  rw [← len_tl] at la
  refine ⟨_, ⟨line_of (by omega), rfl⟩, ?_⟩
  rcases h with rfl | w
  · rw [if_neg (by decide)]
    exact h2 (by decide)
  · have l := w.2.1
    rw [if_pos (by simp; omega)]
    refine h1 ?_
    unfold or0
    rw [if_neg w.ne]
/-! ### the tokens of the written form -/
def jn : List (List (List Nat)) → List (List Nat)
  | [] => []
  | [x] => x
  | x :: y :: r => x ++ ([44] :: jn (y :: r))
def flat (ts : List (List Nat)) : List Nat := (ts.map fun t => if t = [44] then [44, 32] else t).flatten
theorem flat_app (a b : List (List Nat)) : flat (a ++ b) = flat a ++ flat b := by
  unfold flat
  rw [List.map_append, List.flatten_append]
theorem flat_cons (t : List Nat) (r : List (List Nat)) : flat (t :: r) = (if t = [44] then [44, 32] else t) ++ flat r := by
  unfold flat
  rw [List.map_cons, List.flatten_cons]
theorem flat_nil : flat [] = [] := rfl
theorem flat_one {t : List Nat} (h : t ≠ [44]) : flat [t] = t := by
  rw [flat_cons, if_neg h, flat_nil, List.append_nil]
theorem flat_jn : ∀ rs : List (List (List Nat)), flat (jn rs) = joinL [44, 32] (rs.map flat)
  | [] => rfl
  | [x] => rfl
  | x :: y :: r => by
    show flat (x ++ ([44] :: jn (y :: r))) = flat x ++ ([44, 32] ++ joinL [44, 32] ((y :: r).map flat))
    rw [flat_app, flat_cons, if_pos rfl, flat_jn (y :: r)]
/-- the tokens -/
def tt : Tm → List (List Nat)
  | .name z => [quo z]
  | .fld f => [tl f]
  | .part f i => [tl f, [46], its i]
  | .oth _ _ => []
def tg : Tg → List (List Nat)
  | .set g => [tl g]
  | .names zs => [[123]] ++ jn (zs.map fun z => [quo z]) ++ [[125]]
def tp : List Tm → List (List Nat)
  | [] => [[47]]
  | t :: r => ((t :: r).map fun t => [47] :: tt t).flatten
def brt (k : Str) (rs : List (List (List Nat))) : List (List Nat) := [tl k, [40]] ++ jn rs ++ [[41]]
mutual
def tk : Cn → List (List Nat)
  | .tru => [tl "yes"]
  | .fls => [tl "no"]
  | .is a b => brt "is" [tt a, tt b]
  | .inn a w => brt "in" [tt a, [tl w]]
  | .mbr a w => brt "member" [tt a, [tl w]]
  | .wth f t => brt "within" [[tl f], tg t]
  | .most a b n => brt "most" [[or0 a], [or0 b], [its n]]
  | .und f ts => brt "under" [[tl f], tp ts]
  | .ats f ts => brt "at" [[tl f], tp ts]
  | .not c => brt "not" [tk c]
  | .all cs => brt "all" (tks cs)
  | .any cs => brt "any" (tks cs)
def tks : List Cn → List (List (List Nat))
  | [] => []
  | c :: r => tk c :: tks r
end
theorem tks_eq : ∀ cs : List Cn, tks cs = cs.map tk
  | [] => by rw [tks]; rfl
  | c :: r => by rw [tks, tks_eq r]; rfl
def rws : Cn → List (List (List Nat))
  | .tru => []
  | .fls => []
  | .is a b => [tt a, tt b]
  | .inn a w => [tt a, [tl w]]
  | .mbr a w => [tt a, [tl w]]
  | .wth f t => [[tl f], tg t]
  | .most a b n => [[or0 a], [or0 b], [its n]]
  | .und f ts => [[tl f], tp ts]
  | .ats f ts => [[tl f], tp ts]
  | .not c => [tk c]
  | .all cs => cs.map tk
  | .any cs => cs.map tk
theorem tk_eq {c : Cn} (h1 : kno c ≠ 0) (h2 : kno c ≠ 1) : tk c = brt (knd c) (rws c) := by
  cases c with
  | tru => exact absurd rfl h1
  | fls => exact absurd rfl h2
  | all cs => rw [tk, tks_eq]; rfl
  | any cs => rw [tk, tks_eq]; rfl
  | _ => rw [tk]; rfl
theorem blw.nc {z : Str} (h : blw z) : tl z ≠ [44] := fun e => by
  rcases h with rfl | w
  · exact absurd e (by decide)
  · have := w.1 44 (by rw [e]; exact List.mem_singleton.mpr rfl)
    omega
theorem Wd.nc {z : Str} (h : Wd z) : tl z ≠ [44] := blw.nc (.inr h)
theorem quo_nc (z : Str) : quo z ≠ [44] := fun e => absurd (List.cons.inj e).1 (by decide)
theorem or0_nc {z : Str} (h : blw z) : or0 z ≠ [44] := by
  unfold or0
  split
  · decide
  · exact h.nc
theorem flat_tt {t : Tm} (h : pl t) : flat (tt t) = wt t := by
  cases t with
  | name z => exact flat_one (quo_nc z)
  | fld f => exact flat_one (Wd.nc h)
  | part f i =>
    show flat [tl f, [46], its i] = tl f ++ [46] ++ its i
    rw [flat_cons, if_neg (Wd.nc h.1), flat_cons, if_neg (by decide), flat_one (its_ne i), List.append_assoc]
  | oth f t => exact h.elim
theorem flat_tg {t : Tg} (h : okG t) : flat (tg t) = wg t := by
  cases t with
  | set g => exact flat_one (Wd.nc h)
  | names zs =>
    show flat ([[123]] ++ jn (zs.map fun z => [quo z]) ++ [[125]]) = [123] ++ joinL [44, 32] (zs.map quo) ++ [125]
    rw [flat_app, flat_app, flat_jn, flat_one (by decide), flat_one (by decide), List.map_map]
    congr 2
    congr 1
    exact List.map_congr_left fun z _ => flat_one (quo_nc z)
theorem flat_flat : ∀ l : List (List (List Nat)), flat l.flatten = (l.map flat).flatten
  | [] => rfl
  | x :: r => by rw [List.flatten_cons, flat_app, flat_flat r]; rfl
theorem flat_tp {ts : List Tm} (h : ∀ t ∈ ts, pl t) : flat (tp ts) = wp ts := by
  cases ts with
  | nil => exact flat_one (by decide)
  | cons t r =>
    show flat (((t :: r).map fun t => [47] :: tt t).flatten) = ((t :: r).map fun t => [47] ++ wt t).flatten
    rw [flat_flat, List.map_map]
    congr 1
    exact List.map_congr_left fun x m => by
      show flat ([47] :: tt x) = _
      rw [flat_cons, if_neg (by decide), flat_tt (h x m)]
theorem flat_brt {k : Str} {rs : List (List (List Nat))} (h : tl k ≠ [44]) : flat (brt k rs) = brk k (rs.map flat) := by
  unfold brt brk
  rw [flat_app, flat_app, flat_cons, if_neg h, flat_one (by decide), flat_one (by decide), flat_jn]
theorem knd_nc (c : Cn) : tl (knd c) ≠ [44] := by
  have key : ∀ z ∈ kns, tl z ≠ [44] := by decide +kernel
  exact key _ (List.mem_of_getElem? (kns_at c))
mutual
theorem flat_tk {B : Nat} : ∀ c : Cn, okc B c → flat (tk c) = wl c
  | .tru, _ => by rw [tk, wl]; exact flat_one (by decide)
  | .fls, _ => by rw [tk, wl]; exact flat_one (by decide)
  | .is a b, h => by
    unfold okc at h
    rw [tk, wl, flat_brt (by decide), List.map_cons, List.map_cons, flat_tt h.1, flat_tt h.2]
    rfl
  | .inn a b, h => by
    unfold okc at h
    rw [tk, wl, flat_brt (by decide), List.map_cons, List.map_cons, flat_tt h.1, flat_one h.2.nc]
    rfl
  | .mbr a b, h => by
    unfold okc at h
    rw [tk, wl, flat_brt (by decide), List.map_cons, List.map_cons, flat_tt h.1, flat_one h.2.nc]
    rfl
  | .wth a b, h => by
    unfold okc at h
    rw [tk, wl, flat_brt (by decide), List.map_cons, List.map_cons, flat_one h.1.nc, flat_tg h.2.1]
    rfl
  | .most a b n, h => by
    unfold okc at h
    rw [tk, wl, flat_brt (by decide), List.map_cons, List.map_cons, List.map_cons, flat_one (or0_nc h.1), flat_one (or0_nc h.2.1), flat_one (its_ne n)]
    rfl
  | .und a b, h => by
    unfold okc at h
    rw [tk, wl, flat_brt (by decide), List.map_cons, List.map_cons, flat_one h.1.nc, flat_tp h.2.1]
    rfl
  | .ats a b, h => by
    unfold okc at h
    rw [tk, wl, flat_brt (by decide), List.map_cons, List.map_cons, flat_one h.1.nc, flat_tp h.2.1]
    rfl
  | .not c, h => by
    unfold okc at h
    rw [tk, wl, flat_brt (by decide), List.map_cons, flat_tk c h]
    rfl
  | .all cs, h => by
    unfold okc at h
    rw [tk, wl, flat_brt (by decide), flat_tks cs h.1]
  | .any cs, h => by
    unfold okc at h
    rw [tk, wl, flat_brt (by decide), flat_tks cs h.1]
theorem flat_tks {B : Nat} : ∀ cs : List Cn, okcs B cs → (tks cs).map flat = wls cs
  | [], _ => by rw [tks, wls]; rfl
  | c :: r, h => by
    unfold okcs at h
    rw [tks, wls, List.map_cons, flat_tk c h.1, flat_tks r h.2]
end
theorem jn_snoc : ∀ (xs : List (List (List Nat))) (y : List (List Nat)), jn (xs ++ [y]) = if xs = [] then y else jn xs ++ ([44] :: y)
  | [], y => rfl
  | [x], y => rfl
  | x :: z :: r, y => by
    rw [if_neg (by simp)]
    have := jn_snoc (z :: r) y
    rw [if_neg (by simp)] at this
    show x ++ ([44] :: jn (z :: r ++ [y])) = (x ++ ([44] :: jn (z :: r))) ++ ([44] :: y)
    rw [this]
    simp
def cnt (rs : List (List (List Nat))) : Nat := (rs.map fun r => r.length + 1).sum
theorem cnt_cons (x : List (List Nat)) (l : List (List (List Nat))) : cnt (x :: l) = x.length + 1 + cnt l := by
  unfold cnt
  rw [List.map_cons, List.sum_cons]
theorem cnt_app (a b : List (List (List Nat))) : cnt (a ++ b) = cnt a + cnt b := by
  unfold cnt
  rw [List.map_append, List.sum_append]
theorem cnt_take (rs : List (List (List Nat))) (i : Nat) : cnt (rs.take i) ≤ cnt rs := by
  have := cnt_app (rs.take i) (rs.drop i)
  rw [List.take_append_drop] at this
  omega
theorem cnt_len (rs : List (List (List Nat))) : rs.length ≤ cnt rs := by
  induction rs with
  | nil => exact Nat.zero_le _
  | cons x r ih =>
    rw [cnt_cons, List.length_cons]
    omega
theorem jn_len : ∀ rs : List (List (List Nat)), (jn rs).length ≤ cnt rs
  | [] => Nat.zero_le _
  | [x] => by
    rw [cnt_cons]
    show x.length ≤ _
    omega
  | x :: y :: r => by
    rw [cnt_cons]
    show (x ++ ([44] :: jn (y :: r))).length ≤ _
    have := jn_len (y :: r)
    rw [List.length_append, List.length_cons]
    omega
theorem tt_len (t : Tm) : (tt t).length ≤ 3 := by cases t <;> (unfold tt; simp)
theorem cnt_le {rs : List (List (List Nat))} {m : Nat} (h : ∀ x ∈ rs, x.length ≤ m) : cnt rs ≤ rs.length * (m + 1) := by
  induction rs with
  | nil => exact Nat.zero_le _
  | cons x r ih =>
    rw [cnt_cons, List.length_cons, Nat.add_mul]
    have := h x List.mem_cons_self
    have := ih fun y m => h y (List.mem_cons_of_mem _ m)
    omega
theorem tg_len {t : Tg} (k : ∀ zs, t = .names zs → zs.length ≤ 40) : (tg t).length ≤ 100 := by
  cases t with
  | set g => exact (by decide : 1 ≤ 100)
  | names zs =>
    have := jn_len (zs.map fun z => [quo z])
    have h2 := cnt_le (rs := zs.map fun z => [quo z]) (m := 1) fun x m => by
      obtain ⟨z, mz, rfl⟩ := List.mem_map.mp m
      exact Nat.le_refl 1
    rw [List.length_map] at h2
    have h3 := k zs rfl
    show ([[123]] ++ jn (zs.map fun z => [quo z]) ++ [[125]]).length ≤ _
    rw [List.length_append, List.length_append]
    show 1 + _ + 1 ≤ _
    omega
theorem tp_len {ts : List Tm} (k : ts.length ≤ 40) : (tp ts).length ≤ 200 := by
  cases ts with
  | nil => exact (by decide : 1 ≤ 200)
  | cons t r =>
    have key : ∀ l : List Tm, ((l.map fun t => [47] :: tt t).flatten).length ≤ l.length * 4 := fun l => by
      induction l with
      | nil => exact Nat.zero_le _
      | cons x r ih =>
        rw [List.map_cons, List.flatten_cons, List.length_append, List.length_cons, List.length_cons]
        have := tt_len x
        omega
    have := key (t :: r)
    show ((((t :: r).map fun t => [47] :: tt t).flatten)).length ≤ _
    omega
theorem brt_len (k : Str) (rs : List (List (List Nat))) : (brt k rs).length ≤ 3 + cnt rs := by
  unfold brt
  rw [List.length_append, List.length_append]
  have := jn_len rs
  show 2 + _ + 1 ≤ _
  omega
mutual
theorem tk_len {B : Nat} : ∀ c : Cn, okc B c → (tk c).length + 1 ≤ 500 * nod c
  | .tru, _ => by rw [tk, nod_tru]; decide
  | .fls, _ => by rw [tk, nod_fls]; decide
  | .is a b, h => by
    have := brt_len "is" [tt a, tt b]
    rw [cnt_cons, cnt_cons] at this
    have := tt_len a
    have := tt_len b
    rw [tk, show nod (.is a b) = 1 from rfl]
    show _ ≤ 500
    have : cnt [] = 0 := rfl
    omega
  | .inn a b, h => by
    have := brt_len "in" [tt a, [tl b]]
    rw [cnt_cons, cnt_cons] at this
    have := tt_len a
    rw [tk, show nod (.inn a b) = 1 from rfl]
    have : cnt [] = 0 := rfl
    have : [tl b].length = 1 := rfl
    omega
  | .mbr a b, h => by
    have := brt_len "member" [tt a, [tl b]]
    rw [cnt_cons, cnt_cons] at this
    have := tt_len a
    rw [tk, show nod (.mbr a b) = 1 from rfl]
    have : cnt [] = 0 := rfl
    have : [tl b].length = 1 := rfl
    omega
  | .wth a b, h => by
    unfold okc at h
    have := brt_len "within" [[tl a], tg b]
    rw [cnt_cons, cnt_cons] at this
    have := tg_len h.2.2
    rw [tk, show nod (.wth a b) = 1 from rfl]
    have : cnt [] = 0 := rfl
    have : [tl a].length = 1 := rfl
    omega
  | .most a b n, h => by
    have := brt_len "most" [[or0 a], [or0 b], [its n]]
    rw [cnt_cons, cnt_cons, cnt_cons] at this
    rw [tk, show nod (.most a b n) = 1 from rfl]
    have : cnt [] = 0 := rfl
    have : [or0 a].length = 1 := rfl
    have : [or0 b].length = 1 := rfl
    have : [its n].length = 1 := rfl
    omega
  | .und a b, h => by
    unfold okc at h
    have := brt_len "under" [[tl a], tp b]
    rw [cnt_cons, cnt_cons] at this
    have := tp_len h.2.2
    rw [tk, show nod (.und a b) = 1 from rfl]
    have : cnt [] = 0 := rfl
    have : [tl a].length = 1 := rfl
    omega
  | .ats a b, h => by
    unfold okc at h
    have := brt_len "at" [[tl a], tp b]
    rw [cnt_cons, cnt_cons] at this
    have := tp_len h.2.2
    rw [tk, show nod (.ats a b) = 1 from rfl]
    have : cnt [] = 0 := rfl
    have : [tl a].length = 1 := rfl
    omega
  | .not c, h => by
    unfold okc at h
    have := tk_len c h
    have := brt_len "not" [tk c]
    rw [cnt_cons] at this
    rw [tk, nod_not]
    have : cnt [] = 0 := rfl
    omega
  | .all cs, h => by
    unfold okc at h
    have := tks_len cs h.1
    have := brt_len "all" (tks cs)
    rw [tk, nod_all]
    omega
  | .any cs, h => by
    unfold okc at h
    have := tks_len cs h.1
    have := brt_len "any" (tks cs)
    rw [tk, nod_any]
    omega
theorem tks_len {B : Nat} : ∀ cs : List Cn, okcs B cs → cnt (tks cs) ≤ 500 * nods cs
  | [], _ => by rw [tks, nods_nil]; decide
  | c :: r, h => by
    unfold okcs at h
    have := tk_len c h.1
    have := tks_len r h.2
    rw [tks, cnt_cons, nods_cons]
    omega
end
theorem rws_len {B : Nat} {c : Cn} (h : okc B c) : cnt (rws c) ≤ 500 * nod c := by
  have p := nod_pos c
  have z : cnt [] = 0 := rfl
  cases c with
  | tru => exact Nat.zero_le _
  | fls => exact Nat.zero_le _
  | is a b =>
    have := tt_len a
    have := tt_len b
    show cnt [tt a, tt b] ≤ _
    rw [cnt_cons, cnt_cons]
    omega
  | inn a b =>
    have := tt_len a
    have : [tl b].length = 1 := rfl
    show cnt [tt a, [tl b]] ≤ _
    rw [cnt_cons, cnt_cons]
    omega
  | mbr a b =>
    have := tt_len a
    have : [tl b].length = 1 := rfl
    show cnt [tt a, [tl b]] ≤ _
    rw [cnt_cons, cnt_cons]
    omega
  | wth a b =>
    unfold okc at h
    have := tg_len h.2.2
    have : [tl a].length = 1 := rfl
    show cnt [[tl a], tg b] ≤ _
    rw [cnt_cons, cnt_cons]
    omega
  | most a b n =>
    have : [or0 a].length = 1 := rfl
    have : [or0 b].length = 1 := rfl
    have : [its n].length = 1 := rfl
    show cnt [[or0 a], [or0 b], [its n]] ≤ _
    rw [cnt_cons, cnt_cons, cnt_cons]
    omega
  | und a b =>
    unfold okc at h
    have := tp_len h.2.2
    have : [tl a].length = 1 := rfl
    show cnt [[tl a], tp b] ≤ _
    rw [cnt_cons, cnt_cons]
    omega
  | ats a b =>
    unfold okc at h
    have := tp_len h.2.2
    have : [tl a].length = 1 := rfl
    show cnt [[tl a], tp b] ≤ _
    rw [cnt_cons, cnt_cons]
    omega
  | not c =>
    unfold okc at h
    have := tk_len c h
    show cnt [tk c] ≤ _
    rw [cnt_cons, nod_not]
    omega
  | all cs =>
    unfold okc at h
    have := tks_len cs h.1
    rw [tks_eq] at this
    rw [nod_all]
    show cnt (cs.map tk) ≤ _
    omega
  | any cs =>
    unfold okc at h
    have := tks_len cs h.1
    rw [tks_eq] at this
    rw [nod_any]
    show cnt (cs.map tk) ≤ _
    omega
/-- a list of texts; rows of texts -/
abbrev Txs (r : List (List Nat)) : List V := (r.map Sx).map V.str
def Rws (H : Hp) (R : Addr) (rs : List (List (List Nat))) : Prop := ∃ ls : List Addr, H R = some (.lst (ls.map V.ref)) ∧ ls.length = rs.length ∧ ∀ (j : Nat) (l : Addr) (r : List (List Nat)), ls[j]? = some l → rs[j]? = some r → l ≠ R ∧ H l = some (.lst (Txs r))
theorem Rws.go {H H' : Hp} {R : Addr} {rs : List (List (List Nat))} (s : Same H H') (h : Rws H R rs) : Rws H' R rs := by
  obtain ⟨ls, e, hl, h⟩ := h
  exact ⟨ls, s _ _ e, hl, fun j l r h1 h2 => ⟨(h j l r h1 h2).1, s _ _ (h j l r h1 h2).2⟩⟩
theorem Txs_len (r : List (List Nat)) : (Txs r).length = r.length := by
  unfold Txs
  rw [List.length_map, List.length_map]
theorem Txs_app (a b : List (List Nat)) : Txs (a ++ b) = Txs a ++ Txs b := by
  unfold Txs
  rw [List.map_append, List.map_append]
theorem LcL.txt {K : PySem.W.Frag} {H : Hp} {σ : L2.St} {vs : List Nat} {te : TE} {Q : VK} {k : Nat} {a : Addr} {its : List V} (zs : List Str) (hl : zs.length = its.length) (hn : its.length ≤ 1000000) (hS : SqL K H a its) (hw : ∀ x, wipe ((wipe σ vs).set k (some x)) vs = wipe σ vs)
    (hel : ∀ (i : Nat) (u : V) (z : Str) (H1 : Hp) (R : VK), its[i]? = some u → zs[i]? = some z → Same H H1 → (∀ H2, Same H1 H2 → R (.str z) H2) → te ((wipe σ vs).set k (some u)) H1 R)
    (hq : ∀ (c : Addr) (H2 : Hp), Same H H2 → H c = none → H2 c = some (.lst (zs.map V.str)) → Q (.ref c) H2) : LcL K a (gName k) tYes te vs σ H Q :=
  LcL.by its fun c nc => by
    refine ⟨fun i H1 => Same H H1 ∧ H1 c = some (.lst ((zs.take i).map V.str)), ⟨Same.new nc, upd_same⟩, fun i H1 _ h => h.1.seq hS, fun i x H1 hi h => ?_, fun H1 h => hq c H1 h.1 nc (by rw [← hl, List.take_length] at h; exact h.2)⟩
    obtain ⟨s, e⟩ := h
    have h2 := (List.getElem?_eq_some_iff.mp hi).1
    have hz := List.getElem?_eq_getElem (l := zs) (i := i) (by omega)
    show wipe _ vs = _ ∧ te _ H1 _
    refine ⟨hw _, hel i x zs[i] H1 _ hi hz s fun H2 s2 => ?_⟩
    refine ⟨_, s2 _ _ e, by rw [List.length_map, List.length_take]; exact line_lt (by omega), fun b u eb => ?_, ?_⟩
    · rw [upd_ne (ne_of_none eb nc)]
      exact s2 _ _ (s _ _ eb)
    · rw [upd_same, take_snoc hz, List.map_append]
      rfl
/-- a comprehension over a tuple that makes rows of texts told beforehand -/
theorem LcT.rows {K : PySem.W.Frag} {H : Hp} {σ : L2.St} {vs : List Nat} {te : TE} {Q : VK} {k : Nat} {a : Addr} {its : List V} (rs : List (List (List Nat))) (hl : rs.length = its.length) (hn : its.length ≤ 1000000) (hS : SqT K H a its) (hw : ∀ x, wipe ((wipe σ vs).set k (some x)) vs = wipe σ vs)
    (hel : ∀ (i : Nat) (u : V) (r : List (List Nat)) (H1 : Hp) (R : VK), its[i]? = some u → rs[i]? = some r → Same H H1 → (∀ l H2, H1 l = none → H2 l = some (.lst (Txs r)) → Same H1 H2 → R (.ref l) H2) → te ((wipe σ vs).set k (some u)) H1 R)
    (hq : ∀ (c : Addr) (H2 : Hp), Same H H2 → H c = none → Rws H2 c rs → Q (.ref c) H2) : LcT K a (gName k) tYes te vs σ H Q :=
  LcT.by its fun c nc => by
    refine ⟨fun i H1 => Same H H1 ∧ ∃ ls : List Addr, H1 c = some (.lst (ls.map V.ref)) ∧ ls.length = i ∧ ∀ (j : Nat) (l : Addr) (r : List (List Nat)), ls[j]? = some l → rs[j]? = some r → l ≠ c ∧ H1 l = some (.lst (Txs r)), ⟨Same.new nc, [], upd_same, rfl, fun j l r e => by rw [List.getElem?_nil] at e; cases e⟩, fun i H1 _ h => Same.tup h.1 hS, fun i x H1 hi h => ?_, fun H1 h => ?_⟩
    · obtain ⟨s, ls, e, ll, hr⟩ := h
      have h2 := (List.getElem?_eq_some_iff.mp hi).1
      have hz := List.getElem?_eq_getElem (l := rs) (i := i) (by omega)
      show wipe _ vs = _ ∧ te _ H1 _
      refine ⟨hw _, hel i x rs[i] H1 _ hi hz s fun l H2 nl el s2 => ?_⟩
      have e2 := s2 _ _ e
      have nlc : l ≠ c := fun z => by rw [z, e] at nl; cases nl
      refine ⟨_, e2, by rw [List.length_map]; exact line_lt (by omega), fun b u eb => ?_, ls ++ [l], ?_, by rw [List.length_append, ll]; rfl, fun j l2 r2 hj hrj => ?_⟩
      · rw [upd_ne (ne_of_none eb nc)]
        exact s2 _ _ (s _ _ eb)
      · rw [upd_same, List.map_append]
        rfl
      · by_cases hlt : j < ls.length
        · rw [List.getElem?_append_left hlt] at hj
          obtain ⟨k1, k2⟩ := hr j l2 r2 hj hrj
          exact ⟨k1, by rw [upd_ne k1]; exact s2 _ _ k2⟩
        · have hj2 := (List.getElem?_eq_some_iff.mp hj).1
          rw [List.length_append] at hj2
          have hj3 : j = i := by
            have : [l].length = 1 := rfl
            omega
          subst hj3
          rw [List.getElem?_append_right (by omega), show j - ls.length = 0 by omega] at hj
          cases hj
          rw [hz] at hrj
          cases hrj
          exact ⟨nlc, by rw [upd_ne nlc]; exact el⟩
    · obtain ⟨s, ls, e, ll, hr⟩ := h
      exact hq c H1 s nc ⟨ls, e, by omega, hr⟩
theorem Rws.mk1 {H : Hp} {R l : Addr} {r : List (List Nat)} (n : H R = none) (h : H l = some (.lst (Txs r))) : Rws (upd H R (.lst [.ref l])) R [r] :=
  ⟨[l], upd_same, rfl, fun j l2 r2 h1 h2 => by
    match j, h1, h2 with
    | 0, h1, h2 =>
      cases h1
      cases h2
      have ne := ne_of_none h n
      exact ⟨ne, by rw [upd_ne ne]; exact h⟩⟩
theorem Rws.mk2 {H : Hp} {R l k : Addr} {r s : List (List Nat)} (n : H R = none) (h : H l = some (.lst (Txs r))) (g : H k = some (.lst (Txs s))) : Rws (upd H R (.lst [.ref l, .ref k])) R [r, s] :=
  ⟨[l, k], upd_same, rfl, fun j l2 r2 h1 h2 => by
    match j, h1, h2 with
    | 0, h1, h2 =>
      cases h1
      cases h2
      have ne := ne_of_none h n
      exact ⟨ne, by rw [upd_ne ne]; exact h⟩
    | 1, h1, h2 =>
      cases h1
      cases h2
      have ne := ne_of_none g n
      exact ⟨ne, by rw [upd_ne ne]; exact g⟩⟩
theorem Rws.snoc {H : Hp} {R l : Addr} {rs : List (List (List Nat))} {r : List (List Nat)} {ls : List Addr} (e : H R = some (.lst (ls.map V.ref))) (hl : ls.length = rs.length) (hr : ∀ (j : Nat) (l : Addr) (r : List (List Nat)), ls[j]? = some l → rs[j]? = some r → l ≠ R ∧ H l = some (.lst (Txs r))) (ne : l ≠ R) (h : H l = some (.lst (Txs r))) :
    Rws (upd H R (.lst (ls.map V.ref ++ [.ref l]))) R (rs ++ [r]) :=
  ⟨ls ++ [l], by rw [upd_same, List.map_append]; rfl, by rw [List.length_append, List.length_append, hl]; rfl, fun j l2 r2 h1 h2 => by
    by_cases hlt : j < ls.length
    · rw [List.getElem?_append_left hlt] at h1
      rw [List.getElem?_append_left (by omega)] at h2
      obtain ⟨k1, k2⟩ := hr j l2 r2 h1 h2
      exact ⟨k1, by rw [upd_ne k1]; exact k2⟩
    · have hj := (List.getElem?_eq_some_iff.mp h1).1
      rw [List.length_append] at hj
      have e1 : [l].length = 1 := rfl
      rw [List.getElem?_append_right (by omega), show j - ls.length = 0 by omega] at h1
      rw [List.getElem?_append_right (by omega), show j - rs.length = 0 by omega] at h2
      cases h1
      cases h2
      exact ⟨ne, by rw [upd_ne ne]; exact h⟩⟩
/-! ### all(x in L for x in a text), L a text of the module -/
/-- a sign among the text's -/
def amid (z : Str) (c : Nat) : Bool := decide (c ∈ z.cps.toList)
section
variable {X : Cx} {pins : List (Addr × Obj)} {σ : L2.St} {H : Hp} {s : Shared}
theorem all_signs_core {c T : Addr} {iter : Expr} {x L lets : Str} {px p1 p2 p3 gpos : Pos} {scope : Scope} {te : TE} {k : Nat} {u : Tok} {Fin : Value → Shared → Prop} {Rel : Str → Hp → Prop}
    (room : Room k X.A) (tb : GxR.TabB X.base X.mg c T) (code : X.env.code = .ref c) (gs : GxR.GenS X.env scope x) (pe : PE X iter te) (fold : ∀ v, genFold iter X.env v = pure v)
    (hL : X.mg L = some (.str lets u)) (hLk : scope.names.lookup L = some .globalImplicit) (dx : (x == ("__debug__" : Str)) = false) (dL : (L == ("__debug__" : Str)) = false)
    (inv : Inv X pins σ H s) (ask : te σ H fun v H1 => ∃ z : Str, v = .str z ∧ GxR.TabG H1 T ∧ Rel z H1)
    (fin : ∀ z H1 g s5, Rel z H1 → GxR.Ready X pins σ H1 T z (amid lets) g s5 → Fin (.ref g) s5) :
    wpAny (model X.prog X.w) X.A (eval (.GeneratorExp (.Compare (.Name x p1) [.In] [.Name L p2] p3) [⟨.Name x px, iter, [], 0⟩] scope gpos) X.env) Fin X.xe s := by
  refine wpAny_GeneratorExp_walksQ room.hd gs.co (closure_ok gs.free) gs.cell gs.dot gs.loc gs.kind (Nat.lt_of_le_of_lt (Nat.le_add_right _ _) (by have := room.dp; omega : X.A.depth + 0 < recursionLimit)) ?_ fold
  refine thn (pe.run pins s σ H _ inv ask) fun xv sA ⟨v, HA, invA, rel, z, ev, ⟨ps, tabH, trip⟩, rz⟩ => ?_
  subst ev
  obtain ⟨tz, rfl⟩ := _root_.id rel
  refine wpAny_pyIter_str fun itO St walk stand => ?_
  have tabA : sA.heap.get? T = some { cls := .none, data := .fields ps } := invA.hok T _ tabH
  have ltT : T < sA.heap.objs.size := Heap.lt_size tabA
  have tabB : (sA.heap.push itO).get? T = some { cls := .none, data := .fields ps } := Heap.get?_push_of_some _ tabA
  have codeB : PySem.W.CodeHd (sA.heap.push itO) c T := tb.code.keeps fun b o e => Heap.get?_push_of_some _ (invA.bk b o e)
  have limB : (sA.heap.push itO).NoLimit := invA.nolimit.push itO
  have rest : ∀ (cv : Value) (hC : Heap) (tkC : Nat) (qs : Array Value), Heap.ExtBut T (sA.heap.push itO) hC → (sA.heap.push itO).objs.size ≤ hC.objs.size → hC.get? T = some { cls := .none, data := .fields qs } → (∃ more, qs = ps ++ more) → TriplesOk qs.toList →
      wpAny (model X.prog X.w) X.A (builtinsFor X.env.globals X.env.builtins) (fun bi sD =>
        ∃ Ia fp wr n₀ Pf St₀ pz F, Value.ref sA.heap.objs.size = .ref Ia ∧ (∀ A' : Around, A'.handled = none → Walks X.prog X.w A' Ia fp wr n₀ Pf St₀) ∧ St₀ 0 sD.heap ∧ (∀ b ∈ fp, b < sD.heap.objs.size) ∧ sD.heap.NoLimit ∧ cStatics ∉ wr ∧
          (∀ hr : Heap, (∀ b o, sD.heap.get? b = some o → hr.get? b = some o) →
            QuietGen X.prog X.w (genEnv scope (cloFrom X.env.cells scope.names []) sD.heap.objs.size cv bi X.env) x [] (.Compare (.Name x p1) [.In] [.Name L p2] p3) (List.range sD.heap.objs.size) wr Pf pz F hr) ∧
          (∀ a h₅ tk gst, gst.bare = true → sD.heap.objs.size < a → h₅.objs.size = a + 1 → (∀ b o, sD.heap.get? b = some o → h₅.get? b = some o) →
            WalksS X.prog X.w X.A.in4 a (a :: sD.heap.objs.size :: List.range sD.heap.objs.size) (sD.heap.objs.size :: wr) (GenOnlyQ sD.gens.size) (passing pz n₀ 0).length
              (fun j y => ∃ i, (passing pz n₀ 0)[j]? = some i ∧ F i y) (GenAt X.prog X.w X.A.in4 a sD.gens.size sD.heap.objs.size (List.range sD.heap.objs.size) wr pz n₀ F) →
            GenAt X.prog X.w X.A.in4 a sD.gens.size sD.heap.objs.size (List.range sD.heap.objs.size) wr pz n₀ F 0 { sD with gens := sD.gens.push gst, toks := tk, heap := h₅ } →
            Fin (.ref a) { sD with gens := sD.gens.push gst, toks := tk, heap := h₅ })) X.xe { sA with heap := hC, toks := tkC } := by
    intro cv hC tkC qs ext hsz tabC grown tripC
    obtain ⟨bm, ob, b1, b2, b3, b4, b5, b6, b7, b8⟩ := tb.bm
    have neS : cStatics ≠ T := fun e => by
      obtain ⟨_, hns, _⟩ := invA.nolimit
      obtain ⟨o', es, ep, ho, hd, _⟩ := hns
      rw [e, tabA] at ho
      cases ho
      cases hd
    have ltS : cStatics < sA.heap.objs.size := let ⟨_, hns, _⟩ := invA.nolimit; hns.lt
    have szB : (sA.heap.push itO).objs.size = sA.heap.objs.size + 1 := Heap.size_push ..
    have stay : ∀ b o, b ≠ T → sA.heap.get? b = some o → hC.get? b = some o := fun b o nb e => ext b o nb (Heap.get?_push_of_some _ e)
    have globA : sA.heap.Ns mainGlobals X.mg := invA.mod.glob.keeps invA.bk
    refine wpAny_builtinsFor (m := X.mg) (by rw [invA.ok.glob]; exact (globA.push itO).extBut ext tb.gP) b1 b2 (stay _ _ b4 (invA.bk _ _ b5)) b6 b7 b8 ?_
    refine ⟨sA.heap.objs.size, [sA.heap.objs.size], [sA.heap.objs.size], z.cps.size, SignAt z, St, (fun _ => true), (fun i y => ∃ cc, z.cps[i]? = some cc ∧ y = .bool (amid lets cc)), rfl, walk, ?_, ?_, limB.extBut ext neS, ?_, ?_, ?_⟩
    · refine (walk X.A room.hd).frame _ _ _ stand fun b hb o e => ext b o (fun eb => ?_) e
      rw [List.mem_singleton.mp hb] at eb
      exact Nat.lt_irrefl _ (eb ▸ ltT)
    · intro b hb
      rw [List.mem_singleton.mp hb]
      exact Nat.lt_of_lt_of_le (by rw [szB]; exact Nat.lt_succ_self _) hsz
    · intro hb
      rw [List.mem_singleton.mp hb] at ltS
      exact Nat.lt_irrefl _ ltS
    · intro hr above
      refine ⟨fun A' E' i v s₂ m₂ _ _ _ _ _ => ?_, fun A' E' i v s₂ m₂ _ sign _ names mine same => ?_⟩
      · simp only [List.forIn_nil]
        exact wpAny_pure ⟨rfl, GxR.keeps_refl _⟩
      · obtain ⟨cc, uu, hcc, rfl⟩ := sign
        have gl : s₂.heap.Ns mainGlobals X.mg := by
          obtain ⟨o', es, ep, e1, e2⟩ := globA
          have inR : mainGlobals ∈ List.range hC.objs.size := List.mem_range.mpr (Heap.lt_size (stay _ _ tb.gP e1))
          refine ⟨o', es, ep, same mainGlobals inR (fun hb => ?_) o' (above _ _ (stay _ _ tb.gP e1)), e2⟩
          rw [List.mem_singleton.mp hb] at e1
          exact Nat.lt_irrefl _ (Heap.lt_size e1)
        refine wpAny_Compare1 ?_
        refine wpAny_Name (wpAny_loadName_local gs.kind (show scope.names.lookup x = some .local from gs.loc) names mine ?_) dx
        refine Calls.Name_function_global gs.kind (show scope.names.lookup L = some .globalImplicit from hLk) (Calls.loadGlobal_global (by show s₂.heap.Ns X.env.globals X.mg; rw [invA.ok.glob]; exact gl) hL ?_) dL
        refine PyProof.Rows.in_str ⟨⟨cc, hcc, ?_⟩, GxR.keeps_tok _ _⟩
        rw [PySem.StrLaws.found_one]
        rfl
    · intro g h5 tk5 gst bareG aboveG szG keepG W5 at5
      simp only [GxR.passing_true, List.length_range] at W5
      refine fin z HA g _ rz ⟨_, _, _, _, _, W5.in4_1, at5, ?_, fun s' moved => ?_⟩
      · intro j y sj Qj Ej hy hQj
        obtain ⟨i, hij, cc, hcc, rfl⟩ := hy
        obtain ⟨hj, ej⟩ := List.getElem?_eq_some_iff.mp hij
        rw [List.getElem_range] at ej
        subst ej
        have e9 : z.cps.toList[j]? = some cc := by rw [Array.getElem?_toList]; exact hcc
        have q2 : Qj (GxR.trF (amid lets) z.cps.toList j) sj := hQj
        rw [GxR.trF_some e9] at q2
        exact wpAny_truthy_bool q2
      · obtain ⟨more, em⟩ := grown
        have far : ∀ b o, sA.heap.get? b = some o → b ∉ hC.objs.size :: [sA.heap.objs.size] := fun b o e hb => by
          have hl := Heap.lt_size e
          rcases List.mem_cons.mp hb with w | w
          · rw [w] at hl
            exact Nat.lt_irrefl _ (Nat.lt_of_lt_of_le hl (Nat.le_trans (Nat.le_succ _) (by have hz := hsz; rw [szB] at hz; exact hz)))
          · rw [List.mem_singleton.mp w] at hl
            exact Nat.lt_irrefl _ hl
        have J := GxR.inv_tab (more := more) (h' := s'.heap) (g' := s'.gens) (d' := s'.drawn) (t' := s'.toks) invA tabH (fun b o nb e => moved.heap b o (far b o e) (keepG b o (stay b o nb e)))
          (by rw [← em]; exact moved.heap T _ (far T _ tabA) (keepG T _ tabC)) (AllBare.movedS (invA.bare.push bareG) moved)
        rw [GxR.sh_eta sA s' moved.os] at J
        exact ⟨upd HA T (.tbl (ps ++ more)), ⟨⟨ps ++ more, upd_same, by rw [← em]; exact tripC⟩, fun b hb => upd_ne hb⟩, J⟩
  refine ⟨limB, ?_⟩
  cases found : codeAmong gpos ps.toList with
  | none =>
    refine wpAny_genexprCodeX code (codeB.code tabB trip) (codeB.tab tabB) found fun cv hC tk ext ge lt rec' _ tab' _ => ?_
    obtain ⟨o1, vs, f1, tf, fl, tg, inF, tx, tt, op, _, _, _, _, _, _, _, _, _, tr, _⟩ := rec'
    exact rest _ hC tk _ ext (Nat.le_trans ge (Nat.le_of_lt lt)) tab'.2 ⟨_, rfl⟩ tr
  | some cv =>
    refine wpAny_genexprCode_hit code (codeB.code tabB trip) found ?_
    exact rest cv (sA.heap.push itO) sA.toks ps (Heap.ExtBut.refl _ _) (Nat.le_refl _) tabB ⟨#[], by simp⟩ trip
/-- what is asked; behind it the def's table may have grown -/
def tAllL (T : Addr) (lets : Str) (te : TE) : TE := fun σ H Q => te σ H fun v H1 => ∃ z : Str, v = .str z ∧ GxR.TabG H1 T ∧ ∀ H2, GxR.Tabbed T H1 H2 → Q (.bl (z.cps.toList.all (amid lets))) H2
theorem pe_allL {c T : Addr} {iter : Expr} {x L lets : Str} {px p p1 p2 p3 pos gpos : Pos} {scope : Scope} {te : TE} {k : Nat} {u : Tok}
    (room : Room k X.A) (hg : Gl X "all") (hm : X.mg "all" = none) (tb : GxR.TabB X.base X.mg c T) (code : X.env.code = .ref c) (gs : GxR.GenS X.env scope x) (pe : PE X iter te)
    (hL : X.mg L = some (.str lets u)) (hLk : scope.names.lookup L = some .globalImplicit) (fold : ∀ v, genFold iter X.env v = pure v := by intro _; rfl) (dx : (x == ("__debug__" : Str)) = false := by decide) (dL : (L == ("__debug__" : Str)) = false := by decide)
    (he : starEach [.GeneratorExp (.Compare (.Name x p1) [.In] [.Name L p2] p3) [⟨.Name x px, iter, [], 0⟩] scope gpos] X.env = (false, eval (.GeneratorExp (.Compare (.Name x p1) [.In] [.Name L p2] p3) [⟨.Name x px, iter, [], 0⟩] scope gpos) X.env) :: starEach [] X.env := by rfl) :
    PE X (.Call (.Name "all" p) [.GeneratorExp (.Compare (.Name x p1) [.In] [.Name L p2] p3) [⟨.Name x px, iter, [], 0⟩] scope gpos] [] pos) (tAllL T lets te) := by
  refine ⟨fun pins s σ H Q inv ask => ?_⟩
  refine wpAny_Call_Name_kw (ld_blt inv hg hm boot_all ?_)
  refine PyProof.Rows.callWith_builtin1 ?_ he (by rfl)
  rw [he]
  show wpAny _ _ (spliced ((false, eval (.GeneratorExp (.Compare (.Name x p1) [.In] [.Name L p2] p3) [⟨.Name x px, iter, [], 0⟩] scope gpos) X.env) :: backTo pos (starEach [] X.env))) _ _ s
  refine Calls.spliced_cons (all_signs_core (Rel := fun z H1 => ∀ H2, GxR.Tabbed T H1 H2 → Q (.bl (z.cps.toList.all (amid lets))) H2) room tb code gs pe fold hL hLk dx dL inv ask fun z H1 g s5 rz ready => ?_)
  obtain ⟨fp, wr, G, F, St, W, stand, truth, after⟩ := ready
  refine Calls.spliced_nil ?_
  refine call_all_walkS (W.self 0 _ _ _ stand ⟨g, fp, wr, G, _, F, St, _, rfl, W, stand, truth, fun s' moved => ?_⟩)
  obtain ⟨H2, grown, J⟩ := after s' moved
  refine ⟨.bl _, H2, J, rfl, ?_⟩
  rw [GxR.all_signs z (amid lets)]
  exact rz H2 grown
end
/-! ### defs with tables of code objects -/
theorem genS_by {env : Env} {scope : Scope} {x : Str} (h : (decide (scope.kind = .function) && (!scope.isCoroutine && (scope.names.all (fun y => decide (y.2 ≠ .cell) && decide (y.2 ≠ .free)) && (decide (scope.names.lookup (".0" : Str) = some NameKind.local) && decide (scope.names.lookup x = some .local))))) = true) : GxR.GenS env scope x := by
  simp only [Bool.and_eq_true, decide_eq_true_eq, Bool.not_eq_true', List.all_eq_true] at h
  obtain ⟨h1, h2, h3, h4, h5⟩ := h
  exact ⟨h1, h2, fun y m => (h3 y m).1, h4, h5, fun y m e => absurd e (h3 y m).2⟩
def codeW (K : PySem.W.Frag) (x : Str) : Addr := (He.cT K (x, none)).1
def tabW (K : PySem.W.Frag) (x : Str) : Addr := (He.cT K (x, none)).2
theorem fn_okT {P : Program} {w : World} {K : PySem.W.Frag} {mg : Str → Option Value} {base : Heap} {x : Str} {st : Stmt} {f : Addr} {fd : FuncData} {N ps : List Str} {k : Nat} {sp : Sp} (F : Fun K x x st f fd) (hf : f = He.fAd K (x, none)) (S : FnScope N ps (defScope st)) (len : ∀ vs H Q E, sp vs H Q E → vs.length = ps.length)
    (body : ∀ (A : Around) (outer : List Env) (s : Shared) (H : Hp) (vs : List V) (Q : VK) (E : XK), Room k (A.deeper (envOfC x (defScope st) s.heap.objs.size f (.ref (codeW K x)))) → sp vs H Q E →
      ∃ t, PSs (cxOf CX0 P w K mg base N x (defScope st) f (.ref (codeW K x)) A outer s H E).nox (defBody st) t ∧ t { nx := fun _ H' => Q .non H', rt := Q } (start N vs) H) : FnOk P w K mg base CX0 (k + 1) f fd ps sp := by
  obtain ⟨oc, od, kV, doc, pm, an, cdv, ct, osl, rfl, lk, hcd⟩ := F.ex
  obtain ⟨c, rfl⟩ := He.codeIn_ref hcd
  have e : codeW K x = c := He.codeOf_eq (by rw [← hf]; exact lk) rfl
  refine fn_of lk hcd S len fun A outer s H vs Q E hr hsp => ?_
  obtain ⟨t, h, q⟩ := body A outer s H vs Q E (by rw [e]; exact hr) hsp
  rw [e] at h
  exact ⟨t, h.nox, q⟩
theorem fun_of {K : PySem.W.Frag} {x : Str} {st : Stmt} {f : Addr} {fd : FuncData} (F : FunD K x x (defArgs st) (defBody st) (defScope st) [] [] f fd) : Fun K x x st f fd := by
  obtain ⟨oc, od, dV, kV, doc, pm, an, cdv, ct, osl, e, lk, hcd, hD, _⟩ := F.ex
  rcases hD with ⟨_, rfl⟩ | ⟨n, _⟩
  · exact ⟨⟨oc, od, kV, doc, pm, an, cdv, ct, osl, e, lk, hcd⟩, F.kp⟩
  · exact absurd rfl n
section
variable {σ : L2.St} {H : Hp} {Q : VK} {te : TE}
theorem w_allL {T : Addr} {lets : Str} : tAllL T lets te σ H Q = te σ H fun v H1 => ∃ z : Str, v = .str z ∧ GxR.TabG H1 T ∧ ∀ H2, GxR.Tabbed T H1 H2 → Q (.bl (z.cps.toList.all (amid lets))) H2 := rfl
end
theorem Tb.refl {T : Addr} {H : Hp} (h : GxR.TabG H T) : GxR.Tabbed T H H := ⟨h, fun _ _ => rfl⟩
theorem Tb.trans {T : Addr} {H H1 H2 : Hp} (x : GxR.Tabbed T H H1) (y : GxR.Tabbed T H1 H2) : GxR.Tabbed T H H2 := ⟨y.1, fun b n => (y.2 b n).trans (x.2 b n)⟩
/-- a word by its signs -/
def isW (z : Str) : Bool := decide (z ≠ "") && z.cps.toList.all (amid LET)
/-! ### any, all of a generator expression: the element any expression (it may call), over anything that a for may walk -/
/-- while the generator sleeps: nothing that stands is changed -/
structure Sleep (s s' : Shared) : Prop where
  os : s'.os = s.os
  bare : AllBare s'.gens
  keep : ∀ b o, s.heap.get? b = some o → s'.heap.get? b = some o
theorem Sleep.trans {s s1 s2 : Shared} (x : Sleep s s1) (y : Sleep s1 s2) : Sleep s s2 := ⟨y.os.trans x.os, y.bare, fun b o e => y.keep b o (x.keep b o e)⟩
/-- the end of the generator's code -/
def gEnd (Pn : Shared → Prop) : Shared → Prop := Pn
def gY (q : Bool) (a : Addr) (g : Nat) (Ps : Shared → Prop) : Protocol := fun _ _ v s kap =>
  ∃ b, v = .bool b ∧ s.heap.IsGen a g ∧ s.heap.NoLimit ∧ AllBare s.gens ∧ (if b = q then ∀ s', Sleep s s' → kap (.send .none) s' else Ps s)
abbrev gR (Pn : Shared → Prop) : GenEnd := fun _ _ r s1 => r = .ok .next ∧ (AllBare s1.gens ∧ Pn s1)
section
variable {P : Program} {w : World} {A : Around} {a : Addr} {g : Nat} {Pn Ps : Shared → Prop} {Rr : Result → Shared → Prop}
theorem genAt_next {q : Bool} (hh : A.handled = none) (hd : A.depth < recursionLimit) {E : Value → Shared → Prop} {n : Nat} {s : Shared} {gs : GenState} {Q : Option Value → Shared → Prop} (hg : s.heap.IsGen a g) (hl : s.heap.NoLimit) (hb : AllBare s.gens) (hgs : s.gens[g]? = some gs)
    (hgo : ∀ s', Sleep s s' → gs.Goes (model P w) A.in1 (gR Pn) (gY q a g Ps) n (.send .none) s')
    (hend : ∀ s1 s2, Pn s1 → Sleep s1 s2 → Q none s2)
    (hstop : ∀ s1 s2, Ps s1 → Sleep s1 s2 → Q (some (.bool (!q))) s2)
    (hgoon : ∀ m s2 gs', n = m + 1 → s2.heap.IsGen a g → s2.heap.NoLimit → AllBare s2.gens → s2.gens[g]? = some gs' → (∀ s', Sleep s2 s' → gs'.Goes (model P w) A.in1 (gR Pn) (gY q a g Ps) m (.send .none) s') → Q (some (.bool q)) s2) :
    wpAny (model P w) A (pyNext (.ref a)) Q E s := by
  have hgl : g < s.gens.size := (Array.getElem?_eq_some_iff.mp hgs).1
  have h0 : Sleep s (s.setGen g .running) := ⟨rfl, allBare_setGen hb rfl, fun _ _ e => e⟩
  refine wpAny_mono (GenW.wpAny_gsz (n := g + 1) (Q := Q) (E := E) hgl (wpAny_pyNext_genexpQ (P := fun _ _ s1 => AllBare s1.gens ∧ Pn s1) hh hl hd hg hgs (hgo _ h0) (fun v s₁ gs' hbare hv hsz => ?_) (fun s₁ hp h' hk hsz => ?_))) (fun _ _ x => x) fun _ _ x => x
  · obtain ⟨b, rfl, hg1, hl1, hb1, hk⟩ := hv
    have hsz1 : g < s₁.gens.size := by
      have q' : (s₁.setGen g gs').gens.size = s₁.gens.size := GenW.setGen_size _ _ _
      have hsz' : g + 1 ≤ (s₁.setGen g gs').gens.size := hsz
      omega
    have h1 : Sleep s₁ (s₁.setGen g gs') := ⟨rfl, allBare_setGen hb1 hbare, fun _ _ e => e⟩
    by_cases hbq : b = q
    · subst hbq
      rw [if_pos rfl] at hk
      cases n with
      | zero => exact (hk _ h1).elim
      | succ m =>
        exact hgoon m (s₁.setGen g gs') gs' rfl hg1 hl1 h1.bare (setGen_at hsz1) fun s' z => hk _ (h1.trans z)
    · rw [if_neg hbq] at hk
      have e : b = !q := by cases b <;> cases q <;> simp_all
      rw [e]
      exact hstop s₁ _ hk h1
  · obtain ⟨hb1, hp⟩ := hp
    exact hend s₁ _ hp ⟨rfl, allBare_setGen hb1 rfl, hk⟩
theorem gen_all_loop (hh : A.handled = none) (hd : A.depth < recursionLimit)
    (hend : ∀ s1 s2, Pn s1 → Sleep s1 s2 → Rr (.ok (.ret (.bool true))) s2) (hstop : ∀ s1 s2, Ps s1 → Sleep s1 s2 → Rr (.ok (.ret (.bool false))) s2) :
    ∀ (n : Nat) (s : Shared) (gs : GenState), s.heap.IsGen a g → s.heap.NoLimit → AllBare s.gens → s.gens[g]? = some gs →
      (∀ s', Sleep s s' → gs.Goes (model P w) A.in1.in1 (gR Pn) (gY true a g Ps) n (.send .none) s') → codeAny (model P w) A (.builtin "all.loop" ⟨[.ref a], []⟩) Rr s := by
  intro n
  induction n with
  | zero =>
    intro s gs hg hl hb hgs hgo
    refine codeAny_builtin F.entry_all_loop ?_
    rw [Around.under_plainId F.plain_all_loop _]
    show wpAny _ A.in1 (pyNext (.ref a) >>= _) _ _ s
    refine wpAny_bind (genAt_next (A := A.in1) hh hd hg hl hb hgs hgo (fun s1 s2 h z => ?_) (fun s1 s2 h z => ?_) fun m _ _ e => absurd e (Nat.succ_ne_zero m).symm)
    · exact wpAny_bind (wpAny_rule (wpAny_pure (hend s1 s2 h z)))
    · refine wpAny_bind (wpAny_holding (wpAny_truthy_bool (wpAny_bind (wpAny_letGo ?_))))
      simp only [Bool.not_true, Bool.false_eq_true, if_false]
      exact wpAny_bind (wpAny_rule (wpAny_pure (hstop s1 s2 h z)))
  | succ n ih =>
    intro s gs hg hl hb hgs hgo
    refine codeAny_builtin F.entry_all_loop ?_
    rw [Around.under_plainId F.plain_all_loop _]
    show wpAny _ A.in1 (pyNext (.ref a) >>= _) _ _ s
    refine wpAny_bind (genAt_next (A := A.in1) hh hd hg hl hb hgs hgo (fun s1 s2 h z => ?_) (fun s1 s2 h z => ?_) fun m s2 gs' e g2 l2 b2 gs2 go2 => ?_)
    · exact wpAny_bind (wpAny_rule (wpAny_pure (hend s1 s2 h z)))
    · refine wpAny_bind (wpAny_holding (wpAny_truthy_bool (wpAny_bind (wpAny_letGo ?_))))
      simp only [Bool.not_true, Bool.false_eq_true, if_false]
      exact wpAny_bind (wpAny_rule (wpAny_pure (hstop s1 s2 h z)))
    · cases e
      refine wpAny_bind (wpAny_holding (wpAny_truthy_bool (wpAny_bind (wpAny_letGo ?_))))
      simp only [if_true]
      exact wpAny_pure ⟨plainId_quiet F.plain_all_loop _, ih s2 gs' g2 l2 b2 gs2 go2⟩
theorem gen_any_loop (hh : A.handled = none) (hd : A.depth < recursionLimit)
    (hend : ∀ s1 s2, Pn s1 → Sleep s1 s2 → Rr (.ok (.ret (.bool false))) s2) (hstop : ∀ s1 s2, Ps s1 → Sleep s1 s2 → Rr (.ok (.ret (.bool true))) s2) :
    ∀ (n : Nat) (s : Shared) (gs : GenState), s.heap.IsGen a g → s.heap.NoLimit → AllBare s.gens → s.gens[g]? = some gs →
      (∀ s', Sleep s s' → gs.Goes (model P w) A.in1.in1 (gR Pn) (gY false a g Ps) n (.send .none) s') → codeAny (model P w) A (.builtin "any.loop" ⟨[.ref a], []⟩) Rr s := by
  intro n
  induction n with
  | zero =>
    intro s gs hg hl hb hgs hgo
    refine codeAny_builtin F.entry_any_loop ?_
    rw [Around.under_plainId F.plain_any_loop _]
    show wpAny _ A.in1 (pyNext (.ref a) >>= _) _ _ s
    refine wpAny_bind (genAt_next (A := A.in1) hh hd hg hl hb hgs hgo (fun s1 s2 h z => ?_) (fun s1 s2 h z => ?_) fun m _ _ e => absurd e (Nat.succ_ne_zero m).symm)
    · exact wpAny_bind (wpAny_rule (wpAny_pure (hend s1 s2 h z)))
    · refine wpAny_bind (wpAny_holding (wpAny_truthy_bool (wpAny_bind (wpAny_letGo ?_))))
      simp only [Bool.not_false, if_true]
      exact wpAny_bind (wpAny_rule (wpAny_pure (hstop s1 s2 h z)))
  | succ n ih =>
    intro s gs hg hl hb hgs hgo
    refine codeAny_builtin F.entry_any_loop ?_
    rw [Around.under_plainId F.plain_any_loop _]
    show wpAny _ A.in1 (pyNext (.ref a) >>= _) _ _ s
    refine wpAny_bind (genAt_next (A := A.in1) hh hd hg hl hb hgs hgo (fun s1 s2 h z => ?_) (fun s1 s2 h z => ?_) fun m s2 gs' e g2 l2 b2 gs2 go2 => ?_)
    · exact wpAny_bind (wpAny_rule (wpAny_pure (hend s1 s2 h z)))
    · refine wpAny_bind (wpAny_holding (wpAny_truthy_bool (wpAny_bind (wpAny_letGo ?_))))
      simp only [Bool.not_false, if_true]
      exact wpAny_bind (wpAny_rule (wpAny_pure (hstop s1 s2 h z)))
    · cases e
      refine wpAny_bind (wpAny_holding (wpAny_truthy_bool (wpAny_bind (wpAny_letGo ?_))))
      simp only [Bool.false_eq_true, if_false]
      exact wpAny_pure ⟨plainId_quiet F.plain_any_loop _, ih s2 gs' g2 l2 b2 gs2 go2⟩
end
/-! #### the generator's context -/
structure GenOk (N : List Str) (sc scope : Scope) (cap : List (Str × Nat)) : Prop where
  kind : scope.kind = .function
  co : scope.isCoroutine = false
  nocell : ∀ y ∈ scope.names, y.2 ≠ .cell
  dot : scope.names.lookup (".0" : Str) = some NameKind.local
  free : ∀ y ∈ scope.names, y.2 = .free → sc.names.lookup y.1 = some .cell ∨ sc.names.lookup y.1 = some .free
  cap : ∀ p ∈ cap, N[p.2]? = some p.1 ∧ scope.names.lookup p.1 = some .free
theorem genOk_by {N : List Str} {sc scope : Scope} {cap : List (Str × Nat)} (h : (decide (scope.kind = .function) && (!scope.isCoroutine && (scope.names.all (fun y => decide (y.2 ≠ .cell)) && (decide (scope.names.lookup (".0" : Str) = some NameKind.local) &&
    (scope.names.all (fun y => !decide (y.2 = .free) || (decide (sc.names.lookup y.1 = some .cell) || decide (sc.names.lookup y.1 = some .free))) && cap.all (fun p => decide (N[p.2]? = some p.1) && decide (scope.names.lookup p.1 = some .free))))))) = true) : GenOk N sc scope cap := by
  simp only [Bool.and_eq_true, decide_eq_true_eq, Bool.not_eq_true', List.all_eq_true, Bool.or_eq_true, decide_eq_false_iff_not] at h
  obtain ⟨h1, h2, h3, h4, h5, h6⟩ := h
  exact ⟨h1, h2, h3, h4, fun y m e => (h5 y m).resolve_left fun z => z e, h6⟩
abbrev gnC (X : Cx) (N' : List Str) (env : Env) (s : Shared) (H : Hp) (fp : List Addr) : Cx :=
  { prog := X.prog, w := X.w, K := X.K, mg := X.mg, base := X.base, A := X.A.in1.in1.deeper env, N := N', s_0 := s, H_0 := H, env := env, outer := X.stack, stack := env :: X.stack, ex := fp, fn := fun _ => false, calm := true, pn := [], xe := fun _ _ => False }
theorem room_gn {k : Nat} {A : Around} (r : Room (k + 1) A) (env : Env) : Room k (A.in1.in1.deeper env) :=
  ⟨r.hd, by have := r.dp; show A.depth + 1 + 3 * k + 5 < _; omega, by have := r.un; show A.units + 1 + 1 + 3 + 16 * k + 200 < _; omega⟩
/-- the slots at a turn's start -/
def gnS (nt : Nat) (cap : List (Str × Nat)) (σ : L2.St) : L2.St := List.replicate nt none ++ cap.map fun p => (σ[p.2]?).join
section
variable {X : Cx} {pins : List (Addr × Obj)} {σ : L2.St} {H : Hp} {s s5 : Shared}
theorem inv_gn {scope : Scope} {tg : List Str} {cap : List (Str × Nat)} {fp : List Addr} {C : Addr} {cv : Value} {m : Str → Option Value} (hc : X.calm = true) (I : Inv X pins σ H s) (ok : GenOk X.N X.env.scope scope cap)
    (hC : s.heap.objs.size ≤ C) (hn : s5.heap.Ns C m) (kp : ∀ b o, s.heap.get? b = some o → s5.heap.get? b = some o) (os : s5.os = s.os) (bare : AllBare s5.gens) (hfp : ∀ b ∈ fp, FpOk X pins H b ∧ b < s.heap.objs.size) :
    Inv (gnC X (tg ++ cap.map (·.1)) (genEnv scope (cloFrom X.env.cells scope.names []) C cv builtinsNs X.env) s H fp) [] (gnS tg.length cap σ) H s5 := by
  have hfree : ∀ y ∈ scope.names, y.2 = .free → ∃ c, X.env.cells.lookup y.1 = some c := fun y hy e => by
    rcases ok.free y hy e with k | k
    · exact I.ok.has _ (.inl k)
    · exact I.ok.has _ (.inr k)
  have cm : ∀ {y c}, (cloFrom X.env.cells scope.names []).lookup y = some c → (y, NameKind.free) ∈ scope.names ∧ X.env.cells.lookup y = some c := fun {y c} e => by
    rcases cloFrom_mem (PySem.mem_of_lookup e) with hm | ⟨h1, rfl⟩
    · cases hm
    · obtain ⟨c, hc⟩ := hfree _ h1 rfl
      rw [hc]
      exact ⟨h1, rfl⟩
  have look : ∀ {y}, scope.names.lookup y = some .free → ∃ c, (cloFrom X.env.cells scope.names []).lookup y = some c ∧ X.env.cells.lookup y = some c := fun {y} hl => by
    obtain ⟨c', e'⟩ := mem_lookup (cloFrom_has (cells := X.env.cells) (acc := []) (PySem.mem_of_lookup hl))
    exact ⟨c', e', (cm e').2⟩
  have clt : ∀ {y c}, X.env.cells.lookup y = some c → c < s.heap.objs.size := fun {y c} e => by
    obtain ⟨v, z⟩ := I.cell y c e
    exact z.lt
  refine ⟨⟨I.ok.mod, ok.kind, I.ok.glob, rfl, hC, fun y z c e1 e2 => I.ok.inj y z c (cm e1).2 (cm e2).2, fun y hy => ?_, fun y c e _ => (Bool.noConfusion e), fun _ => I.ok.hd hc, ?_, .inr ⟨rfl, rfl⟩, fun b hb => ⟨fun z => ?_, fun y c e z => ?_⟩,
    I.bs, Nat.le_trans I.ok.bsz I.sz, fun b o e hb => ?_, fun b hb z => ?_, I.stack, I.stkFree⟩, os, bare, Un.kept kp, ⟨m, hn, fun i y v h1 h2 h3 => ?_⟩, fun y c e => ?_, I.hok.fresh hC, fun y c e => ?_, fun p hp => absurd (show p ∈ ([] : List (Addr × Obj)) from hp) (by simp), I.hok.kept kp, ?_⟩
  · have hy : scope.names.lookup y = some .cell ∨ scope.names.lookup y = some .free := hy
    rcases hy with hy | hy
    · exact absurd rfl (ok.nocell _ (PySem.mem_of_lookup hy))
    · obtain ⟨c, e, _⟩ := look hy
      exact ⟨c, e⟩
  · exact Around.frames_deeper (show X.A.in1.in1.frames = some X.stack from I.ok.frames)
  · have h1 := (hfp b hb).2
    have z : b = C := z
    rw [z] at h1
    exact absurd (Nat.lt_of_lt_of_le h1 hC) (Nat.lt_irrefl _)
  · exact (hfp b hb).1.2.2.2.2.1 y c (cm e).2 z
  · rcases (hfp b hb).1.2.2.2.1 with z | z
    · exact I.ok.noex b o e z
    · exact absurd (Nat.lt_of_lt_of_le (Heap.lt_size (I.ok.bs b o e).1) z) (Nat.lt_irrefl _)
  · rcases List.mem_cons.mp (I.stkSub b z) with z | z
    · exact (hfp b hb).1.2.1 z
    · exact (hfp b hb).1.2.2.1 z
  · have h2' : (gnS tg.length cap σ)[i]? = some (some v) := h2
    have h1' : (tg ++ cap.map (·.1))[i]? = some y := h1
    unfold gnS at h2'
    by_cases hi : i < tg.length
    · rw [List.getElem?_append_left (by simpa using hi), List.getElem?_replicate, if_pos hi] at h2'
      cases h2'
    · rw [List.getElem?_append_right (by simpa using Nat.le_of_not_lt hi), List.length_replicate, List.getElem?_map] at h2'
      rw [List.getElem?_append_right (Nat.le_of_not_lt hi), List.getElem?_map] at h1'
      cases e : cap[i - tg.length]? with
      | none => rw [e] at h2'; cases h2'
      | some p =>
        rw [e] at h1' h2'
        have e1 : p.1 = y := Option.some.inj h1'
        have e2 : (σ[p.2]?).join = some v := Option.some.inj h2'
        have e3 : σ[p.2]? = some (some v) := by
          cases q : σ[p.2]? with
          | none => rw [q] at e2; cases e2
          | some o =>
            rw [q] at e2
            have : o = some v := e2
            rw [this]
        obtain ⟨c1, c2⟩ := ok.cap p (List.mem_of_getElem? e)
        obtain ⟨m0, hn0, hl0⟩ := I.loc
        have hk := ok.free (p.1, .free) (PySem.mem_of_lookup c2) rfl
        have hk : X.env.scope.names.lookup p.1 = some .cell ∨ X.env.scope.names.lookup p.1 = some .free := hk
        obtain ⟨u, ru, l⟩ := hl0 p.2 p.1 v c1 e3 (hk.elim (fun z => .inr (.inl z)) fun z => .inr (.inr z))
        refine ⟨u, ru, .inr ⟨.inr (by rw [← e1]; exact c2), ?_⟩⟩
        obtain ⟨c, f1, f2⟩ := look c2
        rcases l with ⟨l, _⟩ | ⟨_, c', f3, f4⟩
        · have l : X.env.scope.names.lookup p.1 = some .local := l
          rcases hk with z | z <;> (rw [z] at l; cases l)
        · rw [f3] at f2
          cases f2
          refine ⟨c, by rw [← e1]; exact f1, ?_⟩
          obtain ⟨o, ho, hd⟩ := f4
          exact ⟨o, kp _ _ ho, hd⟩
  · obtain ⟨v, o, ho, hd⟩ := I.cell y c (cm e).2
    exact ⟨v, o, kp _ _ ho, hd⟩
  · exact I.freeC y c (cm e).2
  · show (gnS tg.length cap σ).length = (tg ++ cap.map (·.1)).length
    unfold gnS
    rw [List.length_append, List.length_append, List.length_replicate, List.length_map, List.length_map]
end
/-! #### the generator's loop -/
/-- what a turn is to reach; q: the answer of an item that goes on -/
def gnTurn (q : Bool) (J : It) (g : TG) (tt : TT) (te : TE) (vs : List Nat) (σ0 : L2.St) (W : Nat → Nat → Hp → Prop) (Qn Qs : Hp → Prop) : Prop := ∀ i m H, W i m H →
  (J.stop i H ∧ Qn H) ∨ (J.go i H ∧ ∃ Nx : Hp → Prop, (∀ H', Nx H' → ∃ m', m' < m ∧ W (i + 1) m' H') ∧ ∀ x H', J.yld i H x H' → g x σ0 H' fun σ2 H2 => wipe σ2 vs = σ0 ∧ tt σ2 H2 fun b H3 =>
    if b = true then te σ2 H3 fun v H4 => ∃ c : Bool, v = .bl c ∧ (if c = q then Nx H4 else Qs H4) else Nx H3)
section
variable {X : Cx} {N' : List Str} {env' : Env} {s4 : Shared} {H4 : Hp} {fp : List Addr} {tg elt iter : Expr} {ifs : List Expr} {scope : Scope} {pos : Pos} {it a : Addr} {g : Nat} {go : Obj} {tn : Nat → Heap → Prop} {J : It} {tgg : TG} {tt : TT} {te : TE} {vs : List Nat} {σ0 : L2.St}
  {W : Nat → Nat → Hp → Prop} {q : Bool} {Qn Qs : Hp → Prop}
theorem over_gn {A : Around} {ge : Expr} {it acc : Value} {elt : Expr} {gs : List Comprehension} {sc : Scope} {pos : Pos} (e : ge = .GeneratorExp elt gs sc pos) : A.over (.compLoop ge 0 it acc env') [] = A.deeper env' := by
  subst e
  first
    | rfl
    | (obtain ⟨hd, d, fr, gs, u⟩ := A; simp [Around.over, Around.deeper, marksOver, frameCount, unitsOf, envsOf, guardsOf, pushEnvs, pushGuards, Code.envs, Code.env?, Code.isFrame, Code.guards, Code.isGuard, Code.weight, Code.frames, Code.isCreation, Code.isCaller, Code.cUnits])
theorem over_gs {A : Around} {ge : Expr} {it acc : Value} {elt : Expr} {gs : List Comprehension} {sc : Scope} {pos : Pos} (e : ge = .GeneratorExp elt gs sc pos) : A.over (.compStart ge 0 it acc env') [] = A.deeper env' := by
  subst e
  first
    | rfl
    | (obtain ⟨hd, d, fr, gs, u⟩ := A; simp [Around.over, Around.deeper, marksOver, frameCount, unitsOf, envsOf, guardsOf, pushEnvs, pushGuards, Code.envs, Code.env?, Code.isFrame, Code.guards, Code.isGuard, Code.weight, Code.frames, Code.isCreation, Code.isCaller, Code.cUnits])
/-- an end of the generator's run, told by its own context -/
abbrev gnP (X : Cx) (N' : List Str) (env' : Env) (s4 : Shared) (H4 : Hp) (fp : List Addr) (a : Addr) (go : Obj) (Q : Hp → Prop) : Shared → Prop := fun s1 => ∃ σ1 H1, Inv (gnC X N' env' s4 H4 fp) [(a, go)] σ1 H1 s1 ∧ Q H1
theorem compTurn_gn (elt target iter : Expr) (ifs : List Expr) (scope : Scope) (pos : Pos) (it acc : Value) (env : Env) :
    compTurn (.GeneratorExp elt [⟨target, iter, ifs, 0⟩] scope pos) 0 it acc env = (do
      standAt iter.pos
      match ← pyNext it with
      | none => pure (.done .next)
      | some v =>
        letOwnedTupleGo target it v
        assign target env v
        let ok ← (forIn ifs true fun c r => if r = true then do let ok ← isTrue c env (eval c env); pure (ForInStep.yield ok) else pure (ForInStep.yield r))
        if ok then
          (do let v ← eval elt env; standAt elt.pos; let _ ← yieldOut env v)
        again (.compLoop (.GeneratorExp elt [⟨target, iter, ifs, 0⟩] scope pos) 0 it acc env)) := by rfl
theorem seg_gn (hgo : ∀ s : Shared, s.heap.get? a = some go → s.heap.IsGen a g) (T : Turn X.prog X.w X.K tg J fp it tn) (pg : PG (gnC X N' env' s4 H4 fp) tg tgg) (pt : PTs (gnC X N' env' s4 H4 fp) ifs tt) (pe : PE (gnC X N' env' s4 H4 fp) elt te)
    (hco : env'.scope.isCoroutine = false) (hafp : ∀ b ∈ fp, a ≠ b) (turn : gnTurn q J tgg tt te vs σ0 W Qn Qs) :
    ∀ (m n i : Nat) (H : Hp) (s s₀ : Shared), W i m H → m < n → Inv (gnC X N' env' s4 H4 fp) [(a, go)] σ0 H s → tn i s.heap → (∀ b ∈ fp, H b = none) →
      Seg (model X.prog X.w) X.A.in1.in1 (gR (gnP X N' env' s4 H4 fp a go Qn)) (gY q a g (gnP X N' env' s4 H4 fp a go Qs)) n s₀
        (.compLoop (.GeneratorExp elt [⟨tg, iter, ifs, 0⟩] scope pos) 0 (.ref it) .none env')
        ((model X.prog X.w).den (.compLoop (.GeneratorExp elt [⟨tg, iter, ifs, 0⟩] scope pos) 0 (.ref it) .none env')) [] s := by
  have stat : ∀ {σ' : L2.St} {H' : Hp} {s' : Shared}, Inv (gnC X N' env' s4 H4 fp) [(a, go)] σ' H' s' → (∀ b ∈ fp, H' b = none) → ∀ b ∈ fp, FpOk (gnC X N' env' s4 H4 fp) [(a, go)] H' b := fun {σ' H' s'} I' hn b hb =>
    ⟨hn b hb, (I'.ok.exf b hb).1, I'.ok.exfs b hb, .inl hb, fun x c e => (I'.ok.exf b hb).2 x c e, fun p hp => by
      have hp : p ∈ ([] : List (Addr × Obj)) ++ [(a, go)] := hp
      rw [List.nil_append, List.mem_singleton] at hp
      rw [hp]
      exact hafp b hb⟩
  intro m
  induction m using Nat.strongRecOn with
  | ind m ih =>
    intro n i H s s₀ w hmn I st hn
    show Seg _ X.A.in1.in1 _ _ _ s₀ _ ((compTurn (.GeneratorExp elt [⟨tg, iter, ifs, 0⟩] scope pos) 0 (.ref it) .none env').onRaise (leaving env')) [] s
    rw [compTurn_gn, Sem.onRaise_eq_wrap]
    refine seg_bind_wrap (wpAny_standAt ?_)
    rcases turn i m H w with ⟨stop, qq⟩ | ⟨go', Nx, hNx, step⟩
    · have td := T.done (gnC X N' env' s4 H4 fp) rfl rfl rfl rfl i [(a, go)] s σ0 H (fun _ _ => False) I (stat I hn) st stop
      refine seg_bind_wrap ?_
      rw [over_gn rfl]
      refine thnF td fun r s6 ⟨hr, I6⟩ => ?_
      subst hr
      exact seg_end (.ok .next) ⟨rfl, I6.bare, σ0, H, I6, qq⟩
    · have ti := T.item (gnC X N' env' s4 H4 fp) rfl rfl rfl rfl i [(a, go)] s σ0 H (fun _ _ => False) I (stat I hn) st go'
      refine seg_bind_wrap ?_
      rw [over_gn rfl]
      refine thnF ti fun r s6 ⟨u, hr, h6⟩ => ?_
      subst hr
      refine seg_bind_wrap ?_
      rw [over_gn rfl]
      refine thnF h6 fun _ s7 ⟨x, H7, I7, r7, y7, st7, n7⟩ => ?_
      have I7' := I7.pinned (stat I7 n7) (T.obj _ _ st7)
      refine seg_bind_wrap ?_
      rw [over_gn rfl]
      refine thnF (pg.run _ s7 σ0 H7 x u _ I7' r7 (step x H7 y7)) fun _ s8 ⟨σ8, H8, I8, hw8, q8⟩ => ?_
      refine seg_bind_wrap ?_
      rw [over_gn rfl]
      refine thnF (pt.run _ s8 σ8 H8 _ I8 q8) fun b s9 ⟨H9, I9, q9⟩ => ?_
      -- a turn's end
      have fin : ∀ {s' : Shared} {H' : Hp}, Inv (gnC X N' env' s4 H4 fp) ([(a, go)] ++ pinsAt fp s7.heap) σ8 H' s' → Inv (gnC X N' env' s4 H4 fp) [(a, go)] σ0 H' s' ∧ tn (i + 1) s'.heap ∧ ∀ b ∈ fp, H' b = none := fun {s' H'} I' => by
        have pin' : ∀ b ∈ fp, ∀ o, s7.heap.get? b = some o → s'.heap.get? b = some o ∧ H' b = none := fun b hb o e =>
          let z := I'.pin (b, o) (List.mem_append_right _ (List.mem_append_right _ (mem_pinsAt hb e)))
          ⟨z.1, z.2.1⟩
        refine ⟨(I'.unpinned (pins := [(a, go)])).weak (by rw [← hw8, wipe_length]) (fun j v e => ?_), T.keep _ _ _ st7 fun b hb o e => (pin' b hb o e).1, fun b hb => ?_⟩
        · rw [← hw8] at e
          exact (wipe_some e).1
        · obtain ⟨o, e, _⟩ := T.obj _ _ st7 b hb
          exact (pin' b hb o e).2
      cases b with
      | false =>
        rw [if_neg Bool.false_ne_true] at q9
        simp only [Bool.false_eq_true, if_false]
        obtain ⟨m', hm, w'⟩ := hNx H9 q9
        obtain ⟨j1, j2, j3⟩ := fin I9
        exact seg_again rfl (ih m' hm n (i + 1) H9 s9 s₀ w' (by omega) j1 j2 j3)
      | true =>
        rw [if_pos rfl] at q9
        simp only [if_true]
        have hy : ∀ v, yieldOut env' v = yieldValue v := fun v => by simp only [yieldOut, hco, Bool.false_eq_true, if_false]
        simp only [hy]
        obtain ⟨n, rfl⟩ : ∃ k, n = k + 1 := ⟨n - 1, by omega⟩
        rw [Sem.bind_eq_wrap', Sem.bind_eq_wrap', Sem.wrap_wrap, Sem.wrap_wrap]
        refine seg_wrap ?_
        rw [over_gn rfl]
        refine thnF (pe.run _ s9 σ8 H9 _ I9 q9) fun z s10 ⟨yv, H10, I10, r10, c, ec, nx⟩ => ?_
        subst ec
        obtain rfl : z = .bool c := r10
        obtain ⟨j1, j2, j3⟩ := fin I10
        refine seg_at (seg_yield rfl rfl rfl ⟨c, rfl, hgo s10 (j1.pin (a, go) (List.mem_append_right _ (List.mem_singleton.mpr rfl))).1, j1.nolimit, j1.bare, ?_⟩)
        by_cases hcq : c = q
        · rw [if_pos hcq] at nx ⊢
          obtain ⟨m', hm, w'⟩ := hNx H10 nx
          intro s' z
          have J2 : Inv (gnC X N' env' s4 H4 fp) [(a, go)] σ0 H10 s' := j1.call' (ch := []) z.os (Un.kept z.keep) (j1.hok.kept z.keep) z.bare fun b hb => by simp at hb
          exact seg_again rfl (ih m' hm n (i + 1) H10 s' s' w' (by omega) J2 (T.keep _ _ _ j2 fun b _ o e => z.keep b o e) j3)
        · rw [if_neg hcq] at nx ⊢
          exact ⟨σ0, H10, j1, nx⟩
theorem seg_gnStart (hgo : ∀ s : Shared, s.heap.get? a = some go → s.heap.IsGen a g) (T : Turn X.prog X.w X.K tg J fp it tn) (pg : PG (gnC X N' env' s4 H4 fp) tg tgg) (pt : PTs (gnC X N' env' s4 H4 fp) ifs tt) (pe : PE (gnC X N' env' s4 H4 fp) elt te)
    (hco : env'.scope.isCoroutine = false) (hafp : ∀ b ∈ fp, a ≠ b) (turn : gnTurn q J tgg tt te vs σ0 W Qn Qs) (m n : Nat) (H : Hp) (s s₀ : Shared) (w : W 0 m H) (hmn : m < n) (I : Inv (gnC X N' env' s4 H4 fp) [(a, go)] σ0 H s) (st : tn 0 s.heap) (hn : ∀ b ∈ fp, H b = none) :
      Seg (model X.prog X.w) X.A.in1.in1 (gR (gnP X N' env' s4 H4 fp a go Qn)) (gY q a g (gnP X N' env' s4 H4 fp a go Qs)) n s₀
        (.compStart (.GeneratorExp elt [⟨tg, iter, ifs, 0⟩] scope pos) 0 (.ref it) .none env')
        ((model X.prog X.w).den (.compStart (.GeneratorExp elt [⟨tg, iter, ifs, 0⟩] scope pos) 0 (.ref it) .none env')) [] s := by
  have loop := seg_gn (iter := iter) (scope := scope) (pos := pos) hgo T pg pt pe hco hafp turn m n 0 H s s₀ w hmn I st hn
  show Seg _ X.A.in1.in1 _ _ _ s₀ _ ((compStart (.GeneratorExp elt [⟨tg, iter, ifs, 0⟩] scope pos) 0 (.ref it) .none env').onRaise (leaving env')) [] s
  unfold compStart
  rw [Sem.onRaise_eq_wrap]
  show Seg _ X.A.in1.in1 _ _ _ s₀ _ ((ask >>= _).wrap _ _ _ _) [] s
  refine seg_bind_wrap (wpAny_askSetting ?_)
  split
  · exact seg_again rfl loop
  · refine seg_bind_wrap (wpAny_rule ?_)
    show Seg _ X.A.in1.in1 _ _ _ s₀ _ ((standAt iter.pos >>= _).wrap _ _ _ _) [] s
    exact seg_bind_wrap (wpAny_standAt (seg_bind_wrap (T.self _ 0 s _ _ st (seg_again rfl loop))))
end
/-! #### the rule -/
/-- all(..), q = true; any(..), q = false; behind the making the def's table may have grown -/
def tGnq (q : Bool) (T : Addr) (nt : Nat) (cap : List (Str × Nat)) (vs : List Nat) (wi : TI) (g : TG) (tt : TT) (te : TE) : TE := fun σ H Q => wi σ H fun J H1 => GxR.TabG H1 T ∧ ∀ H2, GxR.Tabbed T H1 H2 →
  ∃ W : Nat → Nat → Hp → Prop, (∃ m, W 0 m H2) ∧ gnTurn q J g tt te vs (gnS nt cap σ) W (fun H' => Q (.bl q) H') (fun H' => Q (.bl (!q)) H')
section
variable {X : Cx} {pins : List (Addr × Obj)} {σ : L2.St} {H : Hp} {s : Shared}
theorem gen_made {c T : Addr} {tg elt iter : Expr} {ifs : List Expr} {scope : Scope} {gpos : Pos} {tgs : List Str} {cap : List (Str × Nat)} {vs : List Nat} {wi : TI} {g : TG} {tt : TT} {te : TE} {k : Nat} {q : Bool} {Q : VK} {Fin : Value → Shared → Prop}
    (hc : X.calm = true) (room : Room k X.A) (tb : GxR.TabB X.base X.mg c T) (code : X.env.code = .ref c) (ok : GenOk X.N X.env.scope scope cap) (pi : PI X tg iter wi)
    (pg : ∀ (C : Addr) (cv : Value) (s : Shared) (H : Hp) (fp : List Addr), PG (gnC X (tgs ++ cap.map (·.1)) (genEnv scope (cloFrom X.env.cells scope.names []) C cv builtinsNs X.env) s H fp) tg g)
    (pt : ∀ (C : Addr) (cv : Value) (s : Shared) (H : Hp) (fp : List Addr), PTs (gnC X (tgs ++ cap.map (·.1)) (genEnv scope (cloFrom X.env.cells scope.names []) C cv builtinsNs X.env) s H fp) ifs tt)
    (pe : ∀ (C : Addr) (cv : Value) (s : Shared) (H : Hp) (fp : List Addr), PE (gnC X (tgs ++ cap.map (·.1)) (genEnv scope (cloFrom X.env.cells scope.names []) C cv builtinsNs X.env) s H fp) elt te)
    (fold : ∀ v, genFold iter X.env v = pure v) (inv : Inv X pins σ H s) (ask : tGnq q T tgs.length cap vs wi g tt te σ H Q)
    (fin : ∀ (a gg n : Nat) (gs : GenState) (s5 : Shared) (Pn Ps : Shared → Prop), s5.heap.IsGen a gg → s5.heap.NoLimit → AllBare s5.gens → s5.gens[gg]? = some gs → (∀ s', Sleep s5 s' → gs.Goes (model X.prog X.w) X.A.in1.in1 (gR Pn) (gY q a gg Ps) n (.send .none) s') →
      (∀ s1 s2, Pn s1 → Sleep s1 s2 → EP X pins σ Q (.bool q) s2) → (∀ s1 s2, Ps s1 → Sleep s1 s2 → EP X pins σ Q (.bool (!q)) s2) → Fin (.ref a) s5) :
    wpAny (model X.prog X.w) X.A (eval (.GeneratorExp elt [⟨tg, iter, ifs, 0⟩] scope gpos) X.env) Fin X.xe s := by
  have hfree : ∀ y ∈ scope.names, y.2 = .free → ∃ c, X.env.cells.lookup y.1 = some c := fun y hy e => by
    rcases ok.free y hy e with k | k
    · exact inv.ok.has _ (.inl k)
    · exact inv.ok.has _ (.inr k)
  refine wpAny_GeneratorExp_make ok.co (closure_ok hfree) ok.nocell ok.dot ok.kind (by have := room.dp; omega) ?_ fold
  refine thn (pi.run pins s σ H _ inv ask) fun xv s1 h1 => thn h1 fun itv sA ⟨it, fp, tn, J, HA, ei, invA, TT, stA, fA, ⟨ps, tabH, trip⟩, rest⟩ => ?_
  subst ei
  refine ⟨invA.nolimit, ?_⟩
  have tabA : sA.heap.get? T = some { cls := .none, data := .fields ps } := invA.hok T _ tabH
  have ltT : T < sA.heap.objs.size := Heap.lt_size tabA
  have codeA : PySem.W.CodeHd sA.heap c T := tb.code.keeps fun b o e => invA.bk b o e
  have szf : ∀ b ∈ fp, b < sA.heap.objs.size := fun b hb => by
    obtain ⟨o, e, _⟩ := TT.obj _ _ stA b hb
    exact Heap.lt_size e
  have main : ∀ (cv : Value) (hC : Heap) (tkC : Nat) (qs : Array Value), Heap.ExtBut T sA.heap hC → sA.heap.objs.size ≤ hC.objs.size → hC.get? T = some { cls := .none, data := .fields qs } → (∃ more, qs = ps ++ more) → TriplesOk qs.toList →
      wpAny (model X.prog X.w) X.A (builtinsFor X.env.globals X.env.builtins) (fun bi s₄ => ∀ h', h'.Ns s₄.heap.objs.size (fun y => if y = ".0" then some (.ref it) else none) → Heap.SameBut s₄.heap.objs.size (s₄.heap.push { cls := .type "frame", data := .dict #[] }) h' →
          Fin (.ref h'.objs.size) { s₄ with
            gens := s₄.gens.push (.fresh (.compStart (.GeneratorExp elt [⟨tg, iter, ifs, 0⟩] scope gpos) 0 (.ref it) .none (genEnv scope (cloFrom X.env.cells scope.names []) s₄.heap.objs.size cv bi X.env))),
            toks := s₄.toks + 1 + 1 + 1,
            heap := h'.push { cls := .type "generator", data := .fields #[.int s₄.gens.size 0, .str "<genexpr>" (s₄.toks + 1), .str (X.env.qual ++ "<genexpr>") (s₄.toks + 1 + 1)] } }) X.xe { sA with heap := hC, toks := tkC } := by
    intro cv hC tkC qs ext hsz tabC grown tripC
    obtain ⟨bm, ob, b1, b2, b3, b4, b5, b6, b7, b8⟩ := tb.bm
    have stay : ∀ b o, b ≠ T → sA.heap.get? b = some o → hC.get? b = some o := fun b o nb e => ext b o nb e
    refine wpAny_builtinsFor (m := X.mg) (by rw [invA.ok.glob]; exact (invA.mod.glob.keeps invA.bk).extBut ext tb.gP) b1 b2 (stay _ _ b4 (invA.bk _ _ b5)) b6 b7 b8 ?_
    intro h' hns hsb
    obtain ⟨more, em⟩ := grown
    subst em
    have inv4 : Inv X pins σ (upd HA T (.tbl (ps ++ more))) { sA with heap := hC, toks := tkC } :=
      GxR.inv_tab (more := more) (h' := hC) (g' := sA.gens) (d' := sA.drawn) (t' := tkC) invA tabH stay tabC invA.bare
    obtain ⟨W, ⟨m0, w0⟩, turn⟩ := rest (upd HA T (.tbl (ps ++ more))) ⟨⟨ps ++ more, upd_same, tripC⟩, fun b hb => upd_ne hb⟩
    generalize hH4 : upd HA T (.tbl (ps ++ more)) = H4 at inv4 turn w0
    have fpT : ∀ b ∈ fp, b ≠ T := fun b hb e => by
      have z := (fA b hb).1
      rw [e, tabH] at z
      cases z
    have f4 : ∀ b ∈ fp, FpOk X pins H4 b ∧ b < hC.objs.size := fun b hb => ⟨⟨by rw [← hH4, upd_ne (fpT b hb)]; exact (fA b hb).1, (fA b hb).2⟩, Nat.lt_of_lt_of_le (szf b hb) hsz⟩
    have hsz' : h'.objs.size = hC.objs.size + 1 := by rw [hsb.1, Heap.size_push]
    have keep' : ∀ b o, hC.get? b = some o → h'.get? b = some o := fun b o e => hsb.extBut b o (Nat.ne_of_lt (Heap.lt_size e)) (Heap.get?_push_of_some _ e)
    have keep5 : ∀ (go : Obj), ∀ b o, hC.get? b = some o → (h'.push go).get? b = some o := fun go b o e => Heap.get?_push_of_some _ (keep' b o e)
    have build : ∀ (go : Obj) (tk5 : Nat) (gs : GenState), (h'.push go).get? h'.objs.size = some go → (∀ v, go.data ≠ .cell v) → (∀ h : Heap, h.get? h'.objs.size = some go → h.IsGen h'.objs.size sA.gens.size) →
        gs = .fresh (.compStart (.GeneratorExp elt [⟨tg, iter, ifs, 0⟩] scope gpos) 0 (.ref it) .none (genEnv scope (cloFrom X.env.cells scope.names []) hC.objs.size cv builtinsNs X.env)) →
        Fin (.ref h'.objs.size) { sA with gens := sA.gens.push gs, toks := tk5, heap := h'.push go } := by
      intro go tk5 gs hgo hgd hgen hgs
      generalize hs5 : ({ sA with gens := sA.gens.push gs, toks := tk5, heap := h'.push go } : Shared) = s5
      have h5 : s5.heap = h'.push go := by rw [← hs5]
      have g5 : s5.gens = sA.gens.push gs := by rw [← hs5]
      have o5 : s5.os = sA.os := by rw [← hs5]
      have bare5 : AllBare s5.gens := by rw [g5, hgs]; exact AllBare.push invA.bare rfl
      have I5 := inv_gn (s5 := s5) (tg := tgs) (cv := cv) hc inv4 ok (Nat.le_refl _) (by rw [h5]; exact hns.push _) (fun b o e => by rw [h5]; exact keep5 go b o e) o5 bare5 f4
      have lim5 : s5.heap.NoLimit := inv4.nolimit.keeps fun b o e => by rw [h5]; exact keep5 go b o e
      have hag : s5.heap.get? h'.objs.size = some go := by rw [h5]; exact hgo
      have young : hC.objs.size < h'.objs.size := by rw [hsz']; exact Nat.lt_succ_self _
      have I5' : Inv (gnC X (tgs ++ cap.map (·.1)) (genEnv scope (cloFrom X.env.cells scope.names []) hC.objs.size cv builtinsNs X.env) { sA with heap := hC, toks := tkC } H4 fp) [(h'.objs.size, go)] (gnS tgs.length cap σ) H4 s5 := by
        refine I5.pins_of fun p hp => ?_
        rw [List.mem_singleton.mp hp]
        refine ⟨hag, inv4.hok.fresh (Nat.le_of_lt young), Nat.ne_of_gt young, fun z => ?_, hgd⟩
        have z' : h'.objs.size ∈ L2.frs X.stack := z
        rcases List.mem_cons.mp (inv4.stkSub _ z') with z | z
        · exact absurd (Nat.lt_trans (Nat.lt_of_lt_of_le (by rw [z]; exact inv4.lt) (Nat.le_refl _)) young) (Nat.lt_irrefl _)
        · exact inv4.nofs (Nat.le_of_lt young) z
      have st5 : tn 0 s5.heap := TT.keep _ _ _ stA fun b hb o e => by rw [h5]; exact keep5 go b o (stay b o (fpT b hb) e)
      have back : ∀ {σ1 : L2.St} {H1 : Hp} {s1 s2 : Shared}, Inv (gnC X (tgs ++ cap.map (·.1)) (genEnv scope (cloFrom X.env.cells scope.names []) hC.objs.size cv builtinsNs X.env) { sA with heap := hC, toks := tkC } H4 fp) [(h'.objs.size, go)] σ1 H1 s1 → Sleep s1 s2 → Inv X pins σ H1 s2 := fun {σ1 H1 s1 s2} J z => by
        have J2 : Inv (gnC X (tgs ++ cap.map (·.1)) (genEnv scope (cloFrom X.env.cells scope.names []) hC.objs.size cv builtinsNs X.env) { sA with heap := hC, toks := tkC } H4 fp) [(h'.objs.size, go)] σ1 H1 s2 :=
          J.call' (ch := []) z.os (Un.kept z.keep) (J.hok.kept z.keep) z.bare fun b hb => by simp at hb
        exact inv4.call' (ch := fp) J2.os J2.base J2.hok J2.bare fun b hb => ⟨(f4 b hb).1.2.2.2.1, (f4 b hb).1.2.1, (f4 b hb).1.2.2.2.2.1, (f4 b hb).1.2.2.2.2.2⟩
      refine fin h'.objs.size sA.gens.size (m0 + 1) gs s5 (gnP X (tgs ++ cap.map (·.1)) (genEnv scope (cloFrom X.env.cells scope.names []) hC.objs.size cv builtinsNs X.env) { sA with heap := hC, toks := tkC } H4 fp h'.objs.size go (fun H' => Q (.bl q) H')) (gnP X (tgs ++ cap.map (·.1)) (genEnv scope (cloFrom X.env.cells scope.names []) hC.objs.size cv builtinsNs X.env) { sA with heap := hC, toks := tkC } H4 fp h'.objs.size go (fun H' => Q (.bl (!q)) H')) (hgen _ hag) lim5 bare5 (by rw [g5]; exact Array.getElem?_push_size ..) (fun s' z => ?_) (fun s1 s2 ⟨σ1, H1, J, qq⟩ z => ⟨.bl q, H1, back J z, rfl, qq⟩) (fun s1 s2 ⟨σ1, H1, J, qq⟩ z => ⟨.bl (!q), H1, back J z, rfl, qq⟩)
      have J5 : Inv (gnC X (tgs ++ cap.map (·.1)) (genEnv scope (cloFrom X.env.cells scope.names []) hC.objs.size cv builtinsNs X.env) { sA with heap := hC, toks := tkC } H4 fp) [(h'.objs.size, go)] (gnS tgs.length cap σ) H4 s' :=
        I5'.call' (ch := []) z.os (Un.kept z.keep) (I5'.hok.kept z.keep) z.bare fun b hb => by simp at hb
      rw [hgs]
      exact ⟨rfl, seg_gnStart (fun s0 e => hgen _ e) TT (pg _ _ _ _ _) (pt _ _ _ _ _) (pe _ _ _ _ _) ok.co (fun b hb => Nat.ne_of_gt (Nat.lt_trans (f4 b hb).2 young)) turn m0 (m0 + 1) H4 s' s' w0 (Nat.lt_succ_self _) J5 (TT.keep _ _ _ st5 fun b _ o e => z.keep b o e) fun b hb => (f4 b hb).1.1⟩
    exact build _ _ _ (Heap.get?_push_size _ rfl) (fun v e => by cases e) (fun h e => ⟨_, _, _, e, rfl, rfl, rfl⟩) rfl
  cases found : codeAmong gpos ps.toList with
  | none =>
    refine wpAny_genexprCodeX code (codeA.code tabA trip) (codeA.tab tabA) found fun cv hC tk ext ge lt rec' _ tab' _ => ?_
    obtain ⟨o1, vs, f1, tf, fl, tg, inF, tx, tt, op, _, _, _, _, _, _, _, _, _, tr, _⟩ := rec'
    exact main _ hC tk _ ext (Nat.le_trans ge (Nat.le_of_lt lt)) tab'.2 ⟨_, rfl⟩ tr
  | some cv =>
    refine wpAny_genexprCode_hit code (codeA.code tabA trip) found ?_
    exact main cv sA.heap sA.toks ps (Heap.ExtBut.refl _ _) (Nat.le_refl _) tabA ⟨#[], by simp⟩ trip
end
section
variable {X : Cx}
theorem pe_gnAll {c T : Addr} {tg elt iter : Expr} {ifs : List Expr} {scope : Scope} {gpos p pos : Pos} {tgs : List Str} {cap : List (Str × Nat)} {vs : List Nat} {wi : TI} {g : TG} {tt : TT} {te : TE} {k : Nat}
    (room : Room k X.A) (hg : Gl X "all") (hm : X.mg "all" = none) (tb : GxR.TabB X.base X.mg c T) (code : X.env.code = .ref c) (ok : GenOk X.N X.env.scope scope cap) (pi : PI X tg iter wi)
    (pg : ∀ (C : Addr) (cv : Value) (s : Shared) (H : Hp) (fp : List Addr), PG (gnC X (tgs ++ cap.map (·.1)) (genEnv scope (cloFrom X.env.cells scope.names []) C cv builtinsNs X.env) s H fp) tg g)
    (pt : ∀ (C : Addr) (cv : Value) (s : Shared) (H : Hp) (fp : List Addr), PTs (gnC X (tgs ++ cap.map (·.1)) (genEnv scope (cloFrom X.env.cells scope.names []) C cv builtinsNs X.env) s H fp) ifs tt)
    (pe : ∀ (C : Addr) (cv : Value) (s : Shared) (H : Hp) (fp : List Addr), PE (gnC X (tgs ++ cap.map (·.1)) (genEnv scope (cloFrom X.env.cells scope.names []) C cv builtinsNs X.env) s H fp) elt te)
    (hc : X.calm = true := by rfl) (fold : ∀ v, genFold iter X.env v = pure v := by intro _; rfl)
    (he : starEach [.GeneratorExp elt [⟨tg, iter, ifs, 0⟩] scope gpos] X.env = (false, eval (.GeneratorExp elt [⟨tg, iter, ifs, 0⟩] scope gpos) X.env) :: starEach [] X.env := by rfl) :
    PE X (.Call (.Name "all" p) [.GeneratorExp elt [⟨tg, iter, ifs, 0⟩] scope gpos] [] pos) (tGnq true T tgs.length cap vs wi g tt te) := by
  refine ⟨fun pins s σ H Q inv ask => ?_⟩
  refine wpAny_Call_Name_kw (ld_blt inv hg hm boot_all ?_)
  refine PyProof.Rows.callWith_builtin1 ?_ he (by rfl)
  rw [he]
  show wpAny _ _ (spliced ((false, eval (.GeneratorExp elt [⟨tg, iter, ifs, 0⟩] scope gpos) X.env) :: backTo pos (starEach [] X.env))) _ _ s
  refine Calls.spliced_cons (gen_made hc room tb code ok pi pg pt pe fold inv ask fun a gg n gs s5 Pn Ps h1 h2 h3 h4 h5 h6 h7 => ?_)
  refine Calls.spliced_nil ?_
  refine call_function_tree F.kind_all F.plain_all F.entry_all (F.args_all1 _) ?_
  unfold Builtin.«all»
  refine wpAny_bind (m := oneArg "all" _) (wpAny_pure ?_)
  refine wpAny_bind (wpAny_pyIter_gen h1 ?_)
  exact wpAny_pure ⟨plainId_quiet F.plain_all_loop _, gen_all_loop room.hd (by have := room.dp; omega) h6 h7 n s5 gs h1 h2 h3 h4 h5⟩
theorem pe_gnAny {c T : Addr} {tg elt iter : Expr} {ifs : List Expr} {scope : Scope} {gpos p pos : Pos} {tgs : List Str} {cap : List (Str × Nat)} {vs : List Nat} {wi : TI} {g : TG} {tt : TT} {te : TE} {k : Nat}
    (room : Room k X.A) (hg : Gl X "any") (hm : X.mg "any" = none) (tb : GxR.TabB X.base X.mg c T) (code : X.env.code = .ref c) (ok : GenOk X.N X.env.scope scope cap) (pi : PI X tg iter wi)
    (pg : ∀ (C : Addr) (cv : Value) (s : Shared) (H : Hp) (fp : List Addr), PG (gnC X (tgs ++ cap.map (·.1)) (genEnv scope (cloFrom X.env.cells scope.names []) C cv builtinsNs X.env) s H fp) tg g)
    (pt : ∀ (C : Addr) (cv : Value) (s : Shared) (H : Hp) (fp : List Addr), PTs (gnC X (tgs ++ cap.map (·.1)) (genEnv scope (cloFrom X.env.cells scope.names []) C cv builtinsNs X.env) s H fp) ifs tt)
    (pe : ∀ (C : Addr) (cv : Value) (s : Shared) (H : Hp) (fp : List Addr), PE (gnC X (tgs ++ cap.map (·.1)) (genEnv scope (cloFrom X.env.cells scope.names []) C cv builtinsNs X.env) s H fp) elt te)
    (hc : X.calm = true := by rfl) (fold : ∀ v, genFold iter X.env v = pure v := by intro _; rfl)
    (he : starEach [.GeneratorExp elt [⟨tg, iter, ifs, 0⟩] scope gpos] X.env = (false, eval (.GeneratorExp elt [⟨tg, iter, ifs, 0⟩] scope gpos) X.env) :: starEach [] X.env := by rfl) :
    PE X (.Call (.Name "any" p) [.GeneratorExp elt [⟨tg, iter, ifs, 0⟩] scope gpos] [] pos) (tGnq false T tgs.length cap vs wi g tt te) := by
  refine ⟨fun pins s σ H Q inv ask => ?_⟩
  refine wpAny_Call_Name_kw (ld_blt inv hg hm boot_any ?_)
  refine PyProof.Rows.callWith_builtin1 ?_ he (by rfl)
  rw [he]
  show wpAny _ _ (spliced ((false, eval (.GeneratorExp elt [⟨tg, iter, ifs, 0⟩] scope gpos) X.env) :: backTo pos (starEach [] X.env))) _ _ s
  refine Calls.spliced_cons (gen_made hc room tb code ok pi pg pt pe fold inv ask fun a gg n gs s5 Pn Ps h1 h2 h3 h4 h5 h6 h7 => ?_)
  refine Calls.spliced_nil ?_
  refine call_function_tree F.kind_any F.plain_any F.entry_any (F.args_any1 _) ?_
  unfold Builtin.«any»
  refine wpAny_bind (m := oneArg "any" _) (wpAny_pure ?_)
  refine wpAny_bind (wpAny_pyIter_gen h1 ?_)
  exact wpAny_pure ⟨plainId_quiet F.plain_any_loop _, gen_any_loop room.hd (by have := room.dp; omega) h6 h7 n s5 gs h1 h2 h3 h4 h5⟩
end
/-! #### the reading over a tuple, a list: each item gives its own answer, Rel is kept -/
section
variable {K : PySem.W.Frag} {a : Addr} {xs : List V} {bs : List Bool} {g : TG} {tt : TT} {te : TE} {vs : List Nat} {σ0 : L2.St} {H2 : Hp} {q : Bool} {Q : VK}
/-- all, any by the items' answers: till the first that is not q -/
def gnRes (q : Bool) (bs : List Bool) : Bool := if bs.all (fun b => decide (b = q)) then q else !q
theorem gnRes_all (bs : List Bool) : gnRes true bs = bs.all id := by
  unfold gnRes
  induction bs with
  | nil => rfl
  | cons b r ih => cases b <;> simp_all
theorem gnRes_any (bs : List Bool) : gnRes false bs = bs.any id := by
  unfold gnRes
  induction bs with
  | nil => rfl
  | cons b r ih => cases b <;> simp_all
theorem gn_seq {J : It} (SJ : Hp → Prop) (hJ : ∀ i H, SJ H → (i < xs.length → J.go i H ∧ ∃ x, xs[i]? = some x ∧ ∀ x' H', J.yld i H x' H' → H' = H ∧ x' = x) ∧ (xs.length ≤ i → J.stop i H)) (Rel : Hp → Prop) (hl : xs.length = bs.length) (h0 : Rel H2) (hS : ∀ H, Rel H → SJ H)
    (hs : ∀ (i : Nat) (x : V) (b : Bool) (H : Hp) (Kc : VK) (Nx : Hp → Prop), xs[i]? = some x → bs[i]? = some b → Rel H → (∀ H', Rel H' → Kc (.bl b) H') → g x σ0 H fun σ2 H' => wipe σ2 vs = σ0 ∧ tt σ2 H' fun c H3 => if c = true then te σ2 H3 Kc else Nx H3)
    (hQ : ∀ H, Rel H → Q (.bl (gnRes q bs)) H) :
    ∃ W : Nat → Nat → Hp → Prop, (∃ m, W 0 m H2) ∧ gnTurn q J g tt te vs σ0 W (fun H' => Q (.bl q) H') (fun H' => Q (.bl (!q)) H') := by
  have end_ : ∀ i, xs.length ≤ i → (bs.take i).all (fun b => decide (b = q)) = true → gnRes q bs = q := fun i hi h => by
    rw [List.take_of_length_le (by omega)] at h
    unfold gnRes
    rw [if_pos h]
  have stop_ : ∀ (i : Nat) (b : Bool), bs[i]? = some b → b ≠ q → gnRes q bs = !q := fun i b e n => by
    unfold gnRes
    rw [if_neg]
    intro h
    exact n (of_decide_eq_true (List.all_eq_true.mp h b (List.mem_of_getElem? e)))
  refine ⟨fun i m H => m = xs.length - i ∧ i ≤ xs.length ∧ (bs.take i).all (fun b => decide (b = q)) = true ∧ Rel H, ⟨xs.length, by simp, Nat.zero_le _, by simp, h0⟩, ?_⟩
  rintro i m H ⟨rfl, hi, hb, r⟩
  by_cases hlt : i < xs.length
  · have hbl : i < bs.length := by omega
    have hbi : bs[i]? = some bs[i] := List.getElem?_eq_getElem hbl
    obtain ⟨go, x, hx, hy⟩ := (hJ i H (hS H r)).1 hlt
    refine .inr ⟨go, fun H' => Rel H' ∧ (bs.take (i + 1)).all (fun b => decide (b = q)) = true, fun H' ⟨r', e'⟩ => ⟨xs.length - (i + 1), by omega, rfl, hlt, e', r'⟩, fun x' H' y => ?_⟩
    obtain ⟨e, ex⟩ := hy x' H' y
    subst e ex
    refine hs i x' bs[i] _ _ _ hx hbi r fun H' r' => ⟨bs[i], rfl, ?_⟩
    by_cases hq : bs[i] = q
    · rw [if_pos hq]
      refine ⟨r', ?_⟩
      rw [List.take_add_one, hbi, List.all_append, hb]
      simp [hq]
    · rw [if_neg hq]
      have := hQ H' r'
      rw [stop_ i _ hbi hq] at this
      exact this
  · have := hQ H r
    rw [end_ i (by omega) hb] at this
    exact .inl ⟨(hJ i H (hS H r)).2 (by omega), this⟩
theorem gn_tup (Rel : Hp → Prop) (hl : xs.length = bs.length) (h0 : Rel H2) (hS : ∀ H, Rel H → SqT K H a xs)
    (hs : ∀ (i : Nat) (x : V) (b : Bool) (H : Hp) (Kc : VK) (Nx : Hp → Prop), xs[i]? = some x → bs[i]? = some b → Rel H → (∀ H', Rel H' → Kc (.bl b) H') → g x σ0 H fun σ2 H' => wipe σ2 vs = σ0 ∧ tt σ2 H' fun c H3 => if c = true then te σ2 H3 Kc else Nx H3)
    (hQ : ∀ H, Rel H → Q (.bl (gnRes q bs)) H) :
    ∃ W : Nat → Nat → Hp → Prop, (∃ m, W 0 m H2) ∧ gnTurn q (Itt K a) g tt te vs σ0 W (fun H' => Q (.bl q) H') (fun H' => Q (.bl (!q)) H') :=
  gn_seq (fun H => SqT K H a xs) (fun i H s => ⟨fun hi => ⟨⟨xs, xs[i], s, List.getElem?_eq_getElem hi⟩, xs[i], List.getElem?_eq_getElem hi, fun x' H' y => ⟨y.1, by
    have e := y.2 xs s
    rw [List.getElem?_eq_getElem hi] at e
    exact (Option.some.inj e).symm⟩⟩, fun hi => ⟨xs, s, hi⟩⟩) Rel hl h0 hS hs hQ
theorem gn_list (Rel : Hp → Prop) (hl : xs.length = bs.length) (h0 : Rel H2) (hS : ∀ H, Rel H → SqL K H a xs)
    (hs : ∀ (i : Nat) (x : V) (b : Bool) (H : Hp) (Kc : VK) (Nx : Hp → Prop), xs[i]? = some x → bs[i]? = some b → Rel H → (∀ H', Rel H' → Kc (.bl b) H') → g x σ0 H fun σ2 H' => wipe σ2 vs = σ0 ∧ tt σ2 H' fun c H3 => if c = true then te σ2 H3 Kc else Nx H3)
    (hQ : ∀ H, Rel H → Q (.bl (gnRes q bs)) H) :
    ∃ W : Nat → Nat → Hp → Prop, (∃ m, W 0 m H2) ∧ gnTurn q (Itl K a) g tt te vs σ0 W (fun H' => Q (.bl q) H') (fun H' => Q (.bl (!q)) H') :=
  gn_seq (fun H => SqL K H a xs) (fun i H s => ⟨fun hi => ⟨⟨xs, xs[i], s, List.getElem?_eq_getElem hi⟩, xs[i], List.getElem?_eq_getElem hi, fun x' H' y => ⟨y.1, by
    have e := y.2 xs s
    rw [List.getElem?_eq_getElem hi] at e
    exact (Option.some.inj e).symm⟩⟩, fun hi => ⟨xs, s, hi⟩⟩) Rel hl h0 hS hs hQ
theorem w_gnq {q : Bool} {T : Addr} {nt : Nat} {cap : List (Str × Nat)} {vs : List Nat} {wi : TI} {σ : L2.St} {H : Hp} : tGnq q T nt cap vs wi g tt te σ H Q = wi σ H fun J H1 => GxR.TabG H1 T ∧ ∀ H2, GxR.Tabbed T H1 H2 →
  ∃ W : Nat → Nat → Hp → Prop, (∃ m, W 0 m H2) ∧ gnTurn q J g tt te vs (gnS nt cap σ) W (fun H' => Q (.bl q) H') (fun H' => Q (.bl (!q)) H') := rfl
end
section
variable {K : PySem.W.Frag} {te : TE} {σ : L2.St} {H : Hp} {R : It → Hp → Prop}
theorem w_iT : iTup K te σ H R = te σ H fun x H1 => ∃ a, x = .ref a ∧ (∃ xs, SqT K H1 a xs) ∧ R (Itt K a) H1 := rfl
theorem w_iL : iList K te σ H R = te σ H fun x H1 => ∃ a, x = .ref a ∧ (∃ xs, SqL K H1 a xs) ∧ R (Itl K a) H1 := rfl
end
theorem join_ss {α : Type} {v : α} : Option.join (some (some v)) = some v := rfl
theorem join_sn {α : Type} : Option.join (some (none : Option α)) = none := rfl
/-! ### tables that may grow -/
def Tbs (Ts : List Addr) (H : Hp) : Prop := ∀ T ∈ Ts, GxR.TabG H T
def TbG (Ts : List Addr) (H H' : Hp) : Prop := Tbs Ts H' ∧ ∀ b o, b ∉ Ts → H b = some o → H' b = some o
section
variable {Ts : List Addr} {H H1 H2 H' : Hp} {T d : Addr}
theorem TbG.refl (h : Tbs Ts H) : TbG Ts H H := ⟨h, fun _ _ _ e => e⟩
theorem TbG.trans (x : TbG Ts H H1) (y : TbG Ts H1 H2) : TbG Ts H H2 := ⟨y.1, fun b o n e => y.2 b o n (x.2 b o n e)⟩
theorem Tbs.same (h : Tbs Ts H) (s : Same H H') : Tbs Ts H' := fun T m => by
  obtain ⟨ps, e, t⟩ := h T m
  exact ⟨ps, s _ _ e, t⟩
theorem TbG.same (h : Tbs Ts H) (s : Same H H') : TbG Ts H H' := ⟨h.same s, fun b o _ e => s b o e⟩
theorem TbG.tab (h : Tbs Ts H) (m : T ∈ Ts) (g : GxR.Tabbed T H H') : TbG Ts H H' := by
  refine ⟨fun U mU => ?_, fun b o n e => ?_⟩
  · by_cases eU : U = T
    · rw [eU]
      exact g.1
    · obtain ⟨ps, e, t⟩ := h U mU
      exact ⟨ps, (g.2 U eU).trans e, t⟩
  · exact (g.2 b fun e => n (e ▸ m)).trans e
theorem Tbs.off (h : Tbs Ts H) {b : Addr} {o : HO} (e : H b = some o) (n : ∀ q, o ≠ .tbl q) : b ∉ Ts := fun m => by
  obtain ⟨ps, e', _⟩ := h b m
  rw [e] at e'
  exact n ps (Option.some.inj e')
theorem TbG.at (h : Tbs Ts H) (g : TbG Ts H H') {b : Addr} {o : HO} (e : H b = some o) (n : ∀ q, o ≠ .tbl q := by intro q z; cases z) : H' b = some o := g.2 b o (h.off e n) e
theorem TbG.ts (h : Tbs Ts H) (g : TbG Ts H H') : TS H H' := fun a xs => ⟨fun e => g.at h e, fun o e => g.at h e⟩
theorem Tbs.go (h : Tbs Ts H) (hd : Dr d H) (g : Go d H H') : Tbs Ts H' := fun T m => by
  obtain ⟨ps, e, t⟩ := h T m
  refine ⟨ps, g.fr _ _ (fun z => ?_) e, t⟩
  obtain ⟨xs, ex⟩ := hd
  rw [z] at e
  rw [ex] at e
  cases e
theorem Dr.tb (h : Tbs Ts H) (hd : Dr d H) (g : TbG Ts H H') : Dr d H' := by
  obtain ⟨xs, e⟩ := hd
  exact ⟨xs, g.at h e⟩
end
theorem TbG.wide {Us Ts : List Addr} {H H' : Hp} (h : Tbs Ts H) (g : TbG Us H H') (sub : ∀ u ∈ Us, u ∈ Ts) : TbG Ts H H' := by
  refine ⟨fun U m => ?_, fun b o n e => g.2 b o (fun z => n (sub b z)) e⟩
  by_cases mu : U ∈ Us
  · exact g.1 U mu
  · obtain ⟨ps, e, t⟩ := h U m
    exact ⟨ps, g.2 U _ mu e, t⟩
theorem Tbs.sub {Us Ts : List Addr} {H : Hp} (h : Tbs Ts H) (sub : ∀ u ∈ Us, u ∈ Ts) : Tbs Us H := fun u m => h u (sub u m)
theorem Tbs.mk {Ts : List Addr} {H : Hp} (h : ∀ T ∈ Ts, H T = some (.tbl #[])) : Tbs Ts H := fun T m => ⟨#[], h T m, trivial⟩
/-! ### primitive or not -/
mutual
def prim : Cn → Bool
  | .mbr _ _ => false
  | .und _ _ => false
  | .ats _ _ => false
  | .not c => prim c
  | .all cs => prims cs
  | .any cs => prims cs
  | .tru => true
  | .fls => true
  | .is _ _ => true
  | .inn _ _ => true
  | .wth _ _ => true
  | .most _ _ _ => true
def prims : List Cn → Bool
  | [] => true
  | c :: r => prim c && prims r
end
theorem prims_all : ∀ cs : List Cn, prims cs = (cs.map prim).all id
  | [] => by rw [prims]; rfl
  | c :: r => by
    rw [prims, prims_all r]
    rfl
/-- the conditions that stand directly in one -/
def inn : Cn → List Cn
  | .not c => [c]
  | .all cs => cs
  | .any cs => cs
  | _ => []
theorem prim_inn {c : Cn} (h4 : kno c ≠ 4) (h7 : kno c ≠ 7) (h8 : kno c ≠ 8) : prim c = ((inn c).map prim).all id := by
  cases c with
  | mbr _ _ => exact absurd rfl h4
  | und _ _ => exact absurd rfl h7
  | ats _ _ => exact absurd rfl h8
  | not c =>
    rw [prim]
    show prim c = (prim c && true)
    rw [Bool.and_true]
  | all cs => rw [prim, prims_all]; rfl
  | any cs => rw [prim, prims_all]; rfl
  | _ => rw [prim]; rfl
theorem prim_no {c : Cn} (h : kno c = 4 ∨ kno c = 7 ∨ kno c = 8) : prim c = false := by
  rcases h with h | h | h
  · obtain ⟨_, _, rfl⟩ := kno4 h; rw [prim]
  · obtain ⟨_, _, rfl⟩ := kno7 h; rw [prim]
  · obtain ⟨_, _, rfl⟩ := kno8 h; rw [prim]
theorem inn_dpt {c x : Cn} (m : x ∈ inn c) : dpt x + 1 ≤ dpt c := by
  cases c with
  | not c =>
    rw [List.mem_singleton.mp m, dpt]
    exact Nat.le_refl _
  | all cs => rw [dpt]; exact Nat.succ_le_succ (dpts_mem m)
  | any cs => rw [dpt]; exact Nat.succ_le_succ (dpts_mem m)
  | _ => cases m
theorem in3 {c : Cn} {a b d : Str} {i j k : Nat} (ha : kns[i]? = some a) (hb : kns[j]? = some b) (hd : kns[k]? = some d) : inV (.str (knd c)) [.str a, .str b, .str d] = decide (kno c = i ∨ kno c = j ∨ kno c = k) := by
  have h1 := in2 (c := c) ha hb
  have h2 := in2 (c := c) hd hd
  have e : inV (V.str (knd c)) [.str a, .str b, .str d] = (inV (V.str (knd c)) [.str a, .str b] || inV (V.str (knd c)) [.str d, .str d]) := by
    unfold inV
    simp only [List.any_cons, List.any_nil, Bool.or_false, Bool.or_assoc, Bool.or_self]
  rw [e, h1, h2]
  by_cases p1 : kno c = i <;> by_cases p2 : kno c = j <;> by_cases p3 : kno c = k <;> simp [p1, p2, p3]
theorem dpat {K : PySem.W.Frag} {H : Hp} {us : List V} {ds : List PyData} {i : Nat} {u : V} {d : PyData} (h : DpAll K H us ds) (e : us[i]? = some u) (k : ds[i]? = some d) : Dp K H u d := by
  obtain ⟨u', e', du⟩ := DpAll.at h k
  rw [e] at e'
  cases e'
  exact du
theorem prims_true {cs : List Cn} (h : ∀ x ∈ cs, prim x = true) : prims cs = true := by
  rw [prims_all, List.all_eq_true]
  intro b m
  obtain ⟨x, mx, rfl⟩ := List.mem_map.mp m
  exact h x mx
theorem prims_false {cs : List Cn} {x : Cn} (m : x ∈ cs) (h : prim x = false) : prims cs = false := by
  rw [prims_all, Bool.eq_false_iff]
  intro e
  have := List.all_eq_true.mp e (prim x) (List.mem_map.mpr ⟨x, m, rfl⟩)
  rw [h] at this
  cases this
/-! ### defs with defaults -/
structure CalD (P : Program) (w : World) (K : PySem.W.Frag) (mg : Str → Option Value) (base : Heap) (k : Nat) (x : Str) (ps : List Str) (sp : Sp) (dvs : List V) : Prop where
  ex : ∃ (f : Addr) (fd : FuncData) (ds : List Value), FnOk P w K mg base CX0 k f fd ps sp ∧ mg x = some (.ref f) ∧ PySem.W.keepIn K (.ref f) = true ∧ Binds K fd ps ds ∧ Vals dvs ds
section
variable {X : Cx} {k j : Nat} {x : Str} {ps : List Str} {sp : Sp} {p pos : Pos} {e : Expr} {es : List Expr} {t : TA} {dvs : List V}
theorem pe_calD (c : CalD X.prog X.w X.K X.mg X.base k x ps sp dvs) (hr : Room j X.A) (ha : PA X (e :: es) t) (hk : k ≤ j := by decide) (hg : Gl X x := by rfl) (hdb : (x == ("__debug__" : Str)) = false := by decide)
    (he : starEach (e :: es) X.env = (false, eval e X.env) :: starEach es X.env := by rfl) (hpl : (backTo pos (starEach es X.env)).any (·.1) = false := by rfl) : PE X (.Call (.Name x p) (e :: es) [] pos) (tCall sp dvs E0 t) := by
  obtain ⟨f, fd, ds, F, hm, kp, b, r⟩ := c.ex
  exact pe_call F (hr.mono hk) hg hm kp b r pass0 ha hdb he hpl
end
theorem fn_okTD {P : Program} {w : World} {K : PySem.W.Frag} {mg : Str → Option Value} {base : Heap} {x : Str} {st : Stmt} {dvs : List V} {f : Addr} {fd : FuncData} {N ps : List Str} {k : Nat} {sp : Sp} (F : FunD K x x (defArgs st) (defBody st) (defScope st) dvs [] f fd) (hf : f = He.fAd K (x, none)) (S : FnScope N ps (defScope st)) (len : ∀ vs H Q E, sp vs H Q E → vs.length = ps.length)
    (body : ∀ (A : Around) (outer : List Env) (s : Shared) (H : Hp) (vs : List V) (Q : VK) (E : XK), Room k (A.deeper (envOfC x (defScope st) s.heap.objs.size f (.ref (codeW K x)))) → sp vs H Q E →
      ∃ t, PSs (cxOf CX0 P w K mg base N x (defScope st) f (.ref (codeW K x)) A outer s H E).nox (defBody st) t ∧ t { nx := fun _ H' => Q .non H', rt := Q } (start N vs) H) : FnOk P w K mg base CX0 (k + 1) f fd ps sp := by
  obtain ⟨oc, od, dV, kV, doc, pm, an, cdv, ct, osl, rfl, lk, hcd, _, _⟩ := F.ex
  obtain ⟨c, rfl⟩ := He.codeIn_ref hcd
  have e : codeW K x = c := He.codeOf_eq (by rw [← hf]; exact lk) rfl
  refine fn_of lk hcd S len fun A outer s H vs Q E hr hsp => ?_
  obtain ⟨t, h, q⟩ := body A outer s H vs Q E (by rw [e]; exact hr) hsp
  rw [e] at h
  exact ⟨t, h.nox, q⟩
/-! ### when a condition holds -/
def intOf : PyData → Int
  | .int i => i
  | _ => 0
def num (p : Nat → List (Str × PyData)) (f : Str) : Int := intOf (getP f (.int 0) (p 3))
theorem num_eq {p : Nat → List (Str × PyData)} (ok : okR p) (f : Str) : getP f (.int 0) (p 3) = .int (num p f) := by
  rcases getP_or (f := f) (d0 := .int 0) (p 3) with e | ⟨q, m, e⟩
  · unfold num
    rw [e]
    rfl
  · obtain h := (ok.get (k := 3) (by decide)).val q m
    unfold num
    rw [e]
    rcases h with ⟨h, _⟩ | ⟨_, i, ei, _⟩ | h
    · exact absurd h (by decide)
    · rw [ei]
      rfl
    · rcases h with ⟨h, _⟩
      rcases h with h | h <;> exact absurd h (by decide)
def vt (p : Nat → List (Str × PyData)) : Tm → Str
  | .name z => z
  | .fld f => wrd p f
  | .part f i => partAt (mem p 1 f) i
  | .oth _ _ => ""
theorem Val.vt {p : Nat → List (Str × PyData)} {t : Tm} {y : Str} (h : Val p t y) (k : pl t) : y = My.vt p t := by
  cases t with
  | oth f t => exact k.elim
  | _ => exact h
/-- the path begins so -/
def begw (p : Nat → List (Str × PyData)) (f : Str) (ts : List Tm) : Bool := (List.range ts.length).all fun i => decide (vt p (ts.getD i (.name "")) ≠ "" ∧ vt p (ts.getD i (.name "")) = partAt (mem p 1 f) i)
mutual
def hol (D : Str → Str → Bool) (p : Nat → List (Str × PyData)) : Cn → Bool
  | .tru => true
  | .fls => false
  | .is a b => decide (vt p a = vt p b)
  | .inn a s => decide (vt p a ∈ mem p 2 s)
  | .wth s t => (mem p 2 s).all fun z => decide (z ∈ allow p t)
  | .most x y c => decide (num p x - num p y ≤ c)
  | .mbr t g => decide (vt p t ≠ "") && D (vt p t) g
  | .und f ts => begw p f ts
  | .ats f ts => decide (partAt (mem p 1 f) ts.length = "") && begw p f ts
  | .not c => !hol D p c
  | .all cs => hola D p cs
  | .any cs => holx D p cs
def hola (D : Str → Str → Bool) (p : Nat → List (Str × PyData)) : List Cn → Bool
  | [] => true
  | c :: r => hol D p c && hola D p r
def holx (D : Str → Str → Bool) (p : Nat → List (Str × PyData)) : List Cn → Bool
  | [] => false
  | c :: r => hol D p c || holx D p r
end
theorem hola_eq (D : Str → Str → Bool) (p : Nat → List (Str × PyData)) : ∀ cs : List Cn, hola D p cs = (cs.map (hol D p)).all id
  | [] => by rw [hola]; rfl
  | c :: r => by
    rw [hola, hola_eq D p r]
    rfl
theorem holx_eq (D : Str → Str → Bool) (p : Nat → List (Str × PyData)) : ∀ cs : List Cn, holx D p cs = (cs.map (hol D p)).any id
  | [] => by rw [holx]; rfl
  | c :: r => by
    rw [holx, holx_eq D p r]
    rfl
theorem pn {c : Cn} {i : Nat} {z : Str} (hz : kns[i]? = some z) : V.str (knd c) = V.str z ↔ kno c = i := ⟨fun e => knd_no e hz, fun e => by
    have := kns_at c
    rw [e, hz] at this
    rw [Option.some.inj this]⟩
theorem plT {t : Tm} (h : pl t) : okT t := by
  cases t with
  | oth _ _ => exact h.elim
  | _ => exact h
/-! ### a module's tuple of texts -/
def strsB : List Str → List Value → Bool
  | [], [] => true
  | z :: r, .str y _ :: r' => decide (y = z) && strsB r r'
  | _, _ => false
def tupB (K : PySem.W.Frag) (x : Str) (zs : List Str) : Bool := match PySem.W.nsIn K mainGlobals x with
  | some (some (.ref a)) => (match K.lookup a with
    | some o => decide (o.cls = .type "tuple") && (match o.data with
      | .seq its _ => decide (its.size ≤ 1000) && strsB zs its.toList
      | _ => false)
    | none => false)
  | _ => false
theorem strsB_ok : ∀ {zs : List Str} {us : List Value}, strsB zs us = true → Vals (zs.map V.str) us
  | [], [], _ => .nil
  | z :: r, u :: us, h => by
    cases u with
    | str y t =>
      unfold strsB at h
      rw [Bool.and_eq_true, decide_eq_true_eq] at h
      exact .cons ⟨t, by rw [h.1]⟩ (strsB_ok h.2)
    | _ => cases h
  | [], _ :: _, h => by cases h
  | _ :: _, [], h => by cases h
theorem tupB_ok {K : PySem.W.Frag} {h : Heap} {mg : Str → Option Value} (X : K.In h) (G : h.Ns mainGlobals mg) {x : Str} {zs : List Str} (c : tupB K x zs = true) : ∃ a, mg x = some (.ref a) ∧ ∀ H : Hp, SqT K H a (zs.map V.str) := by
  unfold tupB at c
  cases e : PySem.W.nsIn K mainGlobals x with
  | none => rw [e] at c; cases c
  | some o =>
    rw [e] at c
    cases o with
    | none => cases c
    | some v =>
      cases v with
      | ref a =>
        refine ⟨a, PySem.W.mg_of X G e, fun H => ?_⟩
        have c : (match K.lookup a with
          | some o => decide (o.cls = .type "tuple") && (match o.data with
            | .seq its _ => decide (its.size ≤ 1000) && strsB zs its.toList
            | _ => false)
          | none => false) = true := c
        cases q : K.lookup a with
        | none => rw [q] at c; cases c
        | some ob =>
          rw [q] at c
          have c : (decide (ob.cls = .type "tuple") && (match ob.data with
            | .seq its _ => decide (its.size ≤ 1000) && strsB zs its.toList
            | _ => false)) = true := c
          rw [Bool.and_eq_true, decide_eq_true_eq] at c
          obtain ⟨c1, c2⟩ := c
          cases d : ob.data with
          | seq its n =>
            rw [d] at c2
            have c2 : (decide (its.size ≤ 1000) && strsB zs its.toList) = true := c2
            rw [Bool.and_eq_true, decide_eq_true_eq] at c2
            exact .inr ⟨ob, its, n, q, c1, d, line_of (by omega), strsB_ok c2.2⟩
          | _ => rw [d] at c2; cases c2
      | _ => cases c
theorem dec_str {y z : Str} : decide (V.str y = V.str z) = decide (y = z) := by
  by_cases h : y = z
  · subst h; simp
  · rw [decide_eq_false h, decide_eq_false fun e => h (V.str.inj e)]
/-- neither of groups nor made of conditions -/
def smk (c : Cn) : Prop := kno c ≠ 4 ∧ kno c ≠ 7 ∧ kno c ≠ 8 ∧ kno c ≠ 9 ∧ kno c ≠ 10 ∧ kno c ≠ 11
mutual
theorem okc_mono {B C : Nat} (h : B ≤ C) : ∀ c : Cn, okc B c → okc C c
  | .tru, _ => by unfold okc; trivial
  | .fls, _ => by unfold okc; trivial
  | .is _ _, k => by unfold okc at k ⊢; exact k
  | .inn _ _, k => by unfold okc at k ⊢; exact k
  | .mbr _ _, k => by unfold okc at k ⊢; exact k
  | .wth _ _, k => by unfold okc at k ⊢; exact k
  | .most _ _ _, k => by unfold okc at k ⊢; exact ⟨k.1, k.2.1, Nat.le_trans k.2.2 h⟩
  | .und _ _, k => by unfold okc at k ⊢; exact k
  | .ats _ _, k => by unfold okc at k ⊢; exact k
  | .not c, k => by unfold okc at k ⊢; exact okc_mono h c k
  | .all cs, k => by unfold okc at k ⊢; exact ⟨okcs_mono h cs k.1, k.2⟩
  | .any cs, k => by unfold okc at k ⊢; exact ⟨okcs_mono h cs k.1, k.2⟩
theorem okcs_mono {B C : Nat} (h : B ≤ C) : ∀ cs : List Cn, okcs B cs → okcs C cs
  | [], _ => by unfold okcs; trivial
  | c :: r, k => by unfold okcs at k ⊢; exact ⟨okc_mono h c k.1, okcs_mono h r k.2⟩
end
/-- valid, numbers of any size -/
def okC (c : Cn) : Prop := ∃ B, okc B c
theorem okCs : ∀ {cs : List Cn}, (∀ c ∈ cs, okC c) → ∃ B, okcs B cs
  | [], _ => ⟨0, by unfold okcs; trivial⟩
  | c :: r, h => by
    obtain ⟨B, hB⟩ := h c List.mem_cons_self
    obtain ⟨C, hC⟩ := okCs (cs := r) fun x m => h x (List.mem_cons_of_mem _ m)
    exact ⟨max B C, by unfold okcs; exact ⟨okc_mono (Nat.le_max_left _ _) c hB, okcs_mono (Nat.le_max_right _ _) r hC⟩⟩
/-- a list of words in the heap, apart from the draws -/
structure WL (d b : Addr) (zs : List Str) (H : Hp) : Prop where
  at_ : H b = some (.lst (zs.map V.str))
  ne : b ≠ d
  wd : ∀ z ∈ zs, Wd z
  pos : 1 ≤ zs.length
  len : zs.length ≤ 40
theorem WL.go {d b : Addr} {zs : List Str} {H H' : Hp} (h : WL d b zs H) (g : Go d H H') : WL d b zs H' := ⟨g.fr _ _ h.ne h.at_, h.ne, h.wd, h.pos, h.len⟩
theorem WL.same {d b : Addr} {zs : List Str} {H H' : Hp} (h : WL d b zs H) (s : Same H H') : WL d b zs H' := ⟨s _ _ h.at_, h.ne, h.wd, h.pos, h.len⟩
theorem WL.pick {d b : Addr} {zs : List Str} {H : Hp} (h : WL d b zs H) {z : Int} (h0 : 0 ≤ z) (h1 : z < (zs.length : Int)) : ∃ y, atI (zs.map V.str) z = some (.str y) ∧ y ∈ zs ∧ Wd y := by
  obtain ⟨v, ev, y, rfl, my⟩ := My.pick (xs := zs.map V.str) (z := z) (P := fun v => ∃ y, v = .str y ∧ y ∈ zs) h0 (by rw [List.length_map]; exact h1) fun x m => by
    obtain ⟨y, my, rfl⟩ := List.mem_map.mp m
    exact ⟨y, rfl, my⟩
  exact ⟨y, ev, my, h.wd y my⟩
theorem k_listOf {X : Cx} (K : PySem.W.Frag) (h : X.K = K) : CallR X (.type "list") (fun xs H Q => ∃ (p : Addr) (ys : List V), xs = [.ref p] ∧ (SqL K H p ys ∨ SqT K H p ys) ∧ ∀ l, H l = none → Q (.ref l) (upd H l (.lst ys))) := by
  subst h
  exact call_list_of
theorem k_tupF {X : Cx} (K : PySem.W.Frag) (h : X.K = K) : CallR X (.type "tuple") (rTupF K) := by
  subst h
  exact call_tupF
/-! ### four rows of a request, filled field by field -/
structure RowA (d R : Addr) (l : Nat → Addr) (H0 : Hp) : Prop where
  dr : Dr d H0
  r0 : H0 R = none
  l0 : ∀ k, k < 4 → H0 (l k) = none
  lr : ∀ k, k < 4 → l k ≠ R
  ll : ∀ k j, k < 4 → j < 4 → k ≠ j → l k ≠ l j
def RowS (K : PySem.W.Frag) (d R : Addr) (l : Nat → Addr) (H0 : Hp) (fs : List Str) (i j : Nat) (H : Hp) : Prop :=
  ∃ ps : Nat → List (Str × PyData), Go d H0 H ∧ H R = some (.lst [.ref (l 0), .ref (l 1), .ref (l 2), .ref (l 3)]) ∧ ∀ k, k < 4 → ∃ us, H (l k) = some (.lst us) ∧ DpAll K H us ((ps k).map prD) ∧ ((ps k).map (·.1)).Sublist (fs.take (if k < j then i + 1 else i)) ∧ ∀ q ∈ ps k, okV k q.2
section
variable {K : PySem.W.Frag} {d R : Addr} {l : Nat → Addr} {H0 H H' : Hp} {fs : List Str} {i j : Nat}
theorem prs_tupos {k : Nat} {ps : List (Str × PyData)} (h : ∀ q ∈ ps, okV k q.2) : tupos (ps.map prD) = true := tupos_of fun y m => by
  obtain ⟨q, mq, rfl⟩ := List.mem_map.mp m
  exact prD_tupo (h q mq).tupo
theorem RowS.g (h : RowS K d R l H0 fs i j H) : Go d H0 H := let ⟨_, g, _⟩ := h; g
theorem RowS.go (A : RowA d R l H0) (h : RowS K d R l H0 fs i j H) (g : Go d H H') : RowS K d R l H0 fs i j H' := by
  obtain ⟨ps, g0, hR, hk⟩ := h
  refine ⟨ps, g0.trans g, g.fr _ _ (Go.ne A.dr A.r0) hR, fun k hk4 => ?_⟩
  obtain ⟨us, e, da, sl, ok⟩ := hk k hk4
  exact ⟨us, g.fr _ _ (Go.ne A.dr (A.l0 k hk4)) e, DpAll.ts (TS.go g0.dr g) _ _ (prs_tupos ok) da, sl, ok⟩
theorem RowS.skip (h : RowS K d R l H0 fs i j H) : RowS K d R l H0 fs i (j + 1) H := by
  obtain ⟨ps, g0, hR, hk⟩ := h
  refine ⟨ps, g0, hR, fun k hk4 => ?_⟩
  obtain ⟨us, e, da, sl, ok⟩ := hk k hk4
  refine ⟨us, e, da, sl.trans ?_, ok⟩
  by_cases h1 : k < j
  · rw [if_pos h1, if_pos (show k < j + 1 by omega)]
    exact List.Sublist.refl _
  · rw [if_neg h1]
    split
    · exact List.take_sublist_take_left (by omega)
    · exact List.Sublist.refl _
theorem RowS.at_ (h : RowS K d R l H0 fs i j H) (hj : j < 4) : ∃ us, H (l j) = some (.lst us) ∧ us.length ≤ i := by
  obtain ⟨ps, g0, hR, hk⟩ := h
  obtain ⟨us, e, da, sl, ok⟩ := hk j hj
  refine ⟨us, e, ?_⟩
  have h1 := DpAll.len da
  have h2 := sl.length_le
  rw [if_neg (Nat.lt_irrefl _), List.length_take, List.length_map] at h2
  rw [List.length_map] at h1
  omega
theorem RowS.app (A : RowA d R l H0) (h : RowS K d R l H0 fs i j H) (hj : j < 4) {z : Str} {w : PyData} {v : V} (hz : fs[i]? = some z) (dv : Dp K H v (prD (z, w))) (ok : okV j w) {us : List V} (e : H (l j) = some (.lst us)) :
    RowS K d R l H0 fs i (j + 1) (upd H (l j) (.lst (us ++ [v]))) := by
  have h' := h.skip
  obtain ⟨ps', g0, hR, hk'⟩ := h'
  obtain ⟨ps, _, _, hk⟩ := h
  have t : TS H (upd H (l j) (.lst (us ++ [v]))) := TS.lst e
  refine ⟨fun k => if k = j then ps j ++ [(z, w)] else ps' k, Go.acc A.dr (A.l0 j hj) g0, by rw [upd_ne (Ne.symm (A.lr j hj))]; exact hR, fun k hk4 => ?_⟩
  by_cases ek : k = j
  · subst ek
    obtain ⟨us2, e2, da, sl, okk⟩ := hk k hj
    rw [e] at e2
    cases e2
    refine ⟨_, upd_same, ?_, ?_, ?_⟩
    · show DpAll K _ _ ((if k = k then ps k ++ [(z, w)] else ps' k).map prD)
      rw [if_pos rfl, List.map_append]
      exact DpAll.snoc (Dp.ts t _ _ (prD_tupo ok.tupo) dv) (DpAll.ts t _ _ (prs_tupos okk) da)
    · show ((if k = k then ps k ++ [(z, w)] else ps' k).map (·.1)).Sublist _
      rw [if_pos rfl, if_pos (Nat.lt_succ_self _), List.map_append, take_snoc hz]
      rw [if_neg (Nat.lt_irrefl _)] at sl
      exact sl.append (List.Sublist.refl _)
    · intro q m
      have m : q ∈ (if k = k then ps k ++ [(z, w)] else ps' k) := m
      rw [if_pos rfl] at m
      rcases List.mem_append.mp m with m | m
      · exact okk q m
      · rw [List.mem_singleton.mp m]
        exact ok
  · obtain ⟨us2, e2, da, sl, okk⟩ := hk' k hk4
    refine ⟨us2, by rw [upd_ne (A.ll k j hk4 hj ek)]; exact e2, ?_, ?_, ?_⟩
    · show DpAll K _ _ ((if k = j then ps j ++ [(z, w)] else ps' k).map prD)
      rw [if_neg ek]
      exact DpAll.ts t _ _ (prs_tupos okk) da
    · show ((if k = j then ps j ++ [(z, w)] else ps' k).map (·.1)).Sublist _
      rw [if_neg ek]
      exact sl
    · intro q m
      have m : q ∈ (if k = j then ps j ++ [(z, w)] else ps' k) := m
      rw [if_neg ek] at m
      exact okk q m
theorem RowS.next (h : RowS K d R l H0 fs i 4 H) : RowS K d R l H0 fs (i + 1) 0 H := by
  obtain ⟨ps, g0, hR, hk⟩ := h
  refine ⟨ps, g0, hR, fun k hk4 => ?_⟩
  obtain ⟨us, e, da, sl, ok⟩ := hk k hk4
  rw [if_pos hk4] at sl
  exact ⟨us, e, da, by rw [if_neg (Nat.not_lt_zero _)]; exact sl, ok⟩
theorem RowS.fin (h : RowS K d R l H0 fs fs.length 0 H) (len : fs.length ≤ 1000) (wd : ∀ z ∈ fs, Wd z) (rise : fs.Pairwise fun x y => tl x < tl y) :
    ∃ ps : Nat → List (Str × PyData), okR ps ∧ ∀ k, k < 4 → ∃ us, H (l k) = some (.lst us) ∧ us.length ≤ 1000 ∧ DpAll K H us ((ps k).map prD) := by
  obtain ⟨ps, g0, hR, hk⟩ := h
  refine ⟨ps, fun k hk4 => ?_, fun k hk4 => ?_⟩
  · obtain ⟨us, e, da, sl, ok⟩ := hk k hk4
    rw [if_neg (Nat.not_lt_zero _), List.take_length] at sl
    have h2 := sl.length_le
    rw [List.length_map] at h2
    exact ⟨by omega, fun q m => wd q.1 (sl.subset (List.mem_map.mpr ⟨q, m, rfl⟩)), ok, (List.pairwise_map (R := fun x y => tl x < tl y)).mp (rise.sublist sl)⟩
  · obtain ⟨us, e, da, sl, ok⟩ := hk k hk4
    rw [if_neg (Nat.not_lt_zero _), List.take_length] at sl
    have h2 := sl.length_le
    have h1 := DpAll.len da
    rw [List.length_map] at h1 h2
    exact ⟨us, e, by omega, da⟩
end
/-! ### defs that may raise: their calls -/
structure CalX (P : Program) (w : World) (K : PySem.W.Frag) (mg : Str → Option Value) (base : Heap) (k : Nat) (x : Str) (ps : List Str) (sp : Sp) : Prop where
  ex : ∃ (f : Addr) (fd : FuncData), FnOk P w K mg base (L2.CX P w) k f fd ps sp ∧ mg x = some (.ref f) ∧ PySem.W.keepIn K (.ref f) = true ∧ Binds K fd ps []
/-- an own error's class, made by its name -/
structure ExF (K : PySem.W.Frag) (mg : Str → Option Value) (x : Str) : Prop where
  gC : mg x = some (.ref (He.ga K x))
  q : PySem.W.excIn K (He.ga K x) He.veBase "ValueError.__new__" = true
  kp : PySem.W.keepIn K (.ref (He.ga K x)) = true
  b1 : PySem.W.subIn K (.ref (He.ga K x)) (.type "BaseException") = some true
  t1 : PySem.W.typeIn K (.ref (He.ga K x)) = some (.type "type")
/-- raise x(e) -/
def tRaiseF (C : Addr) (E : XK) (ta : TE) : L2.TS := fun _ σ H => ta σ H fun _ H1 => E (.ref C) none H1
section
variable {X : Cx} {k j : Nat} {x : Str} {ps : List Str} {sp : Sp} {p pos pos2 : Pos} {e : Expr} {es : List Expr} {t : TA} {ta : TE} {E : XK}
theorem pe_calX (c : CalX X.prog X.w X.K X.mg X.base k x ps sp) (hr : Room j X.A) (tk : L2.Takes X (fun cls d _ H => E cls d H)) (ha : PA X (e :: es) t) (hk : k ≤ j := by decide) (hg : Gl X x := by rfl) (hdb : (x == ("__debug__" : Str)) = false := by decide)
    (he : starEach (e :: es) X.env = (false, eval e X.env) :: starEach es X.env := by rfl) (hpl : (backTo pos (starEach es X.env)).any (·.1) = false := by rfl) : PE X (.Call (.Name x p) (e :: es) [] pos) (tCall sp [] E t) := by
  obtain ⟨f, fd, F, hm, kp, b⟩ := c.ex
  exact pe_call F (hr.mono hk) hg hm kp b .nil (passes_call tk fun _ _ _ _ h => h) ha hdb he hpl
theorem ps_raiseF (c : ExF X.K X.mg x) (hc : X.calm = true) (tk : L2.Takes X (fun cls d _ H => E cls d H)) (he : PE X e ta) (hg : Gl X x := by rfl)
    (hs : starEach [e] X.env = (false, eval e X.env) :: starEach [] X.env := by rfl) (hdb : (x == ("__debug__" : Str)) = false := by decide) :
    PS X (.Raise (some (.Call (.Name x p) [e] [] pos)) none pos2) (tRaiseF (He.ga X.K x) E ta) :=
  L2.ps_raise (W := fun cls d _ H => E cls d H) hc tk (SkE.pmk_own1 PySem.F.excBase_ValueError c.q c.gC c.kp (raises_own c.b1 c.t1) hg he hs hdb)
/-- the body of a try: one call of a raising def -/
theorem pe_calW {W : WX} (c : CalX X.prog X.w X.K X.mg X.base k x ps sp) (hr : Room j X.A) (tk : L2.Takes X W) (ha : PA X (e :: es) t) (hk : k ≤ j := by decide) (hg : Gl X x := by rfl) (hdb : (x == ("__debug__" : Str)) = false := by decide)
    (he : starEach (e :: es) X.env = (false, eval e X.env) :: starEach es X.env := by rfl) (hpl : (backTo pos (starEach es X.env)).any (·.1) = false := by rfl) : PE X (.Call (.Name x p) (e :: es) [] pos) (tCallS sp (WE W) t) := by
  obtain ⟨f, fd, F, hm, kp, b⟩ := c.ex
  exact pe_callS F (hr.mono hk) hg hm kp b (fun σ => passAt tk σ) ha hdb he hpl
end
section
variable {K : PySem.W.Frag} {σ : L2.St} {H : Hp} {te ta : TE} {tr : TA} {Q : VK} {sp : Sp} {E : L2.St → XK} {D : Ends} {C : Addr} {E0' : XK}
theorem w_callS : tCallS sp E tr σ H Q = tr σ H fun vs H1 => sp vs H1 Q (E σ) := rfl
theorem w_raiseF : tRaiseF C E0' ta D σ H = ta σ H fun _ H1 => E0' (.ref C) none H1 := rfl
theorem w_fmtR : tFmtR te σ H Q = te σ H fun x H1 => (∃ y : Str, x = .str y ∧ (reprText y).length ≤ sizeLine ∧ Q (.str (reprText y)) H1) ∨ ∃ i : Int, x = .int i ∧ i.natAbs.log2 < 1920 ∧ Q (.str (toString i)) H1 := rfl
end
/-! ### isinstance of the error that a suite holds -/
def isEB (K : PySem.W.Frag) (D : Addr) : Bool := He.eqO (PySem.W.findIn K (.ref D) "__getattribute__") (some (some (.builtin "BaseException.__getattribute__"))) && (He.eqO (PySem.W.findIn K (.ref D) "__getattr__") (some none) && (decide (PySem.W.subIn K (.ref D) (.type "BaseException") = some true) && (PySem.W.hasDictIn K D &&
  (He.eqO (PySem.W.findIn K (.ref D) "__class__") (some (some (.builtin "object.__class__"))) && (He.eqO (PySem.W.specialIn K (.builtin "object.__class__") "__get__") (some (some (.builtin "getset_descriptor.__get__"))) && (decide (PySem.W.takesIn K (.builtin "object.__class__") = some true) && decide (PySem.W.mroIn K D (.type "object") = some true)))))))
theorem isEB_ok {K : PySem.W.Frag} {D : Addr} (h : isEB K D = true) : ExcC K D := by
  obtain ⟨h1, h⟩ := He.ba h
  obtain ⟨h2, h⟩ := He.ba h
  obtain ⟨h3, h⟩ := He.ba h
  obtain ⟨h4, h⟩ := He.ba h
  obtain ⟨h5, h⟩ := He.ba h
  obtain ⟨h6, h⟩ := He.ba h
  obtain ⟨h7, h8⟩ := He.ba h
  exact ⟨He.eqO_ok h1, He.eqO_ok h2, of_decide_eq_true h3, h4, He.eqO_ok h5, He.eqO_ok h6, of_decide_eq_true h7, of_decide_eq_true h8⟩
def rIsX (K : PySem.W.Frag) (a : Addr) (cls : Value) (d : Option Addr) : List V → Hp → VK → Prop := fun xs H Q => ∃ (D : Addr) (c : V) (cv : Value) (b : Bool), cls = .ref D ∧ d = none ∧ ExcC K D ∧ xs = [.ref a, c] ∧ (∀ u, RelV c u → u = cv) ∧ PySem.W.kitOne K (.ref D) cv = some b ∧ Q (.bl b) H
theorem call_isX {X : Cx} {a : Addr} {oe : Obj} {cls : Value} {d : Option Addr} (hp : (a, oe) ∈ X.pn) (hz : L2.Zc cls d oe) (hf : ∃ vs, oe.data = .fields vs) : CallR X (.builtin "isinstance") (rIsX X.K a cls d) := by
  intro pins s σ H xs us Q I r h
  obtain ⟨D, c, cv, b, rfl, rfl, C, rfl, hcv, e, q⟩ := h
  cases r with
  | cons rx rr =>
    cases rr with
    | cons rt rr =>
      cases rr
      cases rx
      have ec := hcv _ rt
      subst ec
      obtain ⟨hget, _⟩ := I.pin (a, oe) (List.mem_append.mpr (.inl hp))
      obtain ⟨vs, hv⟩ := hf
      have J : PySem.W.InstAt s.heap a oe D none := by
        obtain ⟨oc, od, oda, osl⟩ := oe
        obtain ⟨h1, h2⟩ := hz
        dsimp only at h1 h2 hv
        subst h1 h2 hv
        exact ⟨hget, rfl, rfl, trivial⟩
      exact PySem.W.kia_one (PySem.W.handS_kitx_exc C.hg C.hk C.hs C.hd C.ha C.hn C.ht C.hm) I.kIn J e (fun z => nomatch z) fun tk => ⟨.bl b, H, I.kept (t' := tk) fun _ _ z => z, rfl, q⟩
theorem isX_ref {K : PySem.W.Frag} {a D c : Addr} {b : Bool} {H : Hp} {Q : VK} (C : ExcC K D) (e : PySem.W.kitOne K (.ref D) (.ref c) = some b) (q : Q (.bl b) H) : rIsX K a (.ref D) none [.ref a, .ref c] H Q :=
  ⟨D, .ref c, .ref c, b, rfl, rfl, C, rfl, fun u r => r, e, q⟩
theorem isX_ty {K : PySem.W.Frag} {a D : Addr} {t : String} {b : Bool} {H : Hp} {Q : VK} (C : ExcC K D) (e : PySem.W.kitOne K (.ref D) (.type t) = some b) (q : Q (.bl b) H) : rIsX K a (.ref D) none [.ref a, .ty t] H Q :=
  ⟨D, .ty t, .type t, b, rfl, rfl, C, rfl, fun u r => r, e, q⟩
/-! ### a def called in an except suite, the error its argument; it raises nothing -/
structure FnU (P : Program) (w : World) (K : PySem.W.Frag) (mg : Str → Option Value) (base : Heap) (k : Nat) (f : Addr) (fd : FuncData) (ps : List Str) (sp : Addr → Value → Option Addr → Sp) : Prop where
  len : ∀ a cls d vs H Q E, sp a cls d vs H Q E → vs.length = ps.length
  run : ∀ (A : Around) (outer : List Env) (s : Shared) (H : Hp) (args : Args) (us : List Value) (vs : List V) (Q : VK) (E : XK) (p : Addr × Obj) (cls : Value) (d : Option Addr), L2H.RoomH k A → L2.Zc cls d p.2 → (∃ v, p.2.data = .fields v) → L2H.PinOk outer H s p → Env0 P w K mg base A outer s H → BindsTo s fd args (ps.zip us) → Vals vs us → sp p.1 cls d vs H Q E →
    codeAny (model P w) A (.call (.ref f) args) (CR CX0 outer P w H s Q E) s
theorem fn_ofU {P : Program} {w : World} {K : PySem.W.Frag} {mg : Str → Option Value} {base : Heap} {k : Nat} {f : Addr} {x qual : Str} {st : Stmt} {fd : FuncData} {N ps : List Str} {sp : Addr → Value → Option Addr → Sp} (F : Fun K x qual st f fd) (S : FnScope N ps (defScope st))
    (len : ∀ a cls d vs H Q E, sp a cls d vs H Q E → vs.length = ps.length)
    (hbody : ∀ (cdv : Value) (A : Around) (outer : List Env) (s : Shared) (H : Hp) (vs : List V) (Q : VK) (E : XK) (p : Addr × Obj) (cls : Value) (d : Option Addr), L2.Zc cls d p.2 → (∃ v, p.2.data = .fields v) → L2H.RoomH k (A.deeper (envOfC qual (defScope st) s.heap.objs.size f cdv)) → sp p.1 cls d vs H Q E →
      ∃ t, PSs (L2H.cxH CX0 P w K mg base N qual (defScope st) f cdv A outer s H E p) (defBody st) t ∧ t { nx := fun _ H' => Q .non H', rt := Q } (L2.start N vs) H) :
    FnU P w K mg base (k + 1) f fd ps sp := by
  obtain ⟨oc, od, kV, doc, pm, an, cdv, ct, osl, rfl, lk, hcd⟩ := F.ex
  refine ⟨len, fun A outer s H args us vs Q E p cls d hr hz hf hpin e0 hb r hsp => ?_⟩
  have hl := len _ _ _ _ _ _ _ hsp
  have KX : K.In s.heap := e0.mod.kin.keeps fun b o e => (e0.bs b o e).1
  have lim : s.heap.NoLimit := e0.mod.nolimit.keeps fun b o e => (e0.bs b o e).1
  have hkind : ∀ y ∈ ps.zip us, (defScope st).names.lookup y.1 = some .local ∨ ((defScope st).names.lookup y.1 = some .cell ∧ ((cellsFrom (s.heap.objs.size + 1) (defScope st).names []).lookup y.1).isSome = true) := fun ⟨n, v⟩ hy => by
    rcases S.par n (List.of_mem_zip hy).1 with q | q
    · exact .inl q
    · exact .inr ⟨q, PySem.W.cellsFrom_some _ _ _ (.inl q)⟩
  refine codeAny_call_function hr.depth (KX _ _ lk) rfl S.co S.gen rfl (PySem.W.codeRec_of KX hcd) (hb _ _ _ _ ?_)
  refine wpAny_newFunctionEnv_cells S.kind hkind fun env he s1 x => ?_
  subst he
  refine ⟨lim.keeps x.toInCall.keep, codeAny_func ?_⟩
  obtain ⟨t, ht, hq⟩ := hbody cdv A outer s H vs Q E p cls d hz hf (hr.deeper _) hsp
  have I : Inv (L2H.cxH CX0 P w K mg base N qual (defScope st) f cdv A outer s H E p) [] (L2.start N vs) H s1 := L2H.inv_startH S hpin e0 hl r x
  refine wpAny_mono (ht.run [] s1 (L2.start N vs) H _ I hq) (fun fl s' hs => ?_) fun e s' hs => hs
  have fin : ∀ {σ' : L2.St} {H' : Hp} {v : V} {u : Value}, Inv (L2H.cxH CX0 P w K mg base N qual (defScope st) f cdv A outer s H E p) [] σ' H' s' → RelV v u → Q v H' → CE outer P w H s Q u s' :=
    fun {σ' H' v u} J rv q => ⟨v, H', J.os, J.bare, J.base, J.hok, rv, q⟩
  cases fl with
  | ret u =>
    obtain ⟨v, σ', H', J, rv, q⟩ := hs
    exact fin J rv q
  | next =>
    obtain ⟨σ', H', J, q⟩ := hs
    exact fin (v := V.non) (u := Value.none) J rfl q
  | brk =>
    obtain ⟨_, _, _, q⟩ := hs
    exact False.elim q
  | cont =>
    obtain ⟨_, _, _, q⟩ := hs
    exact False.elim q
structure CalU (P : Program) (w : World) (K : PySem.W.Frag) (mg : Str → Option Value) (base : Heap) (k : Nat) (x : Str) (ps : List Str) (sp : Addr → Value → Option Addr → Sp) : Prop where
  ex : ∃ (f : Addr) (fd : FuncData), FnU P w K mg base k f fd ps sp ∧ mg x = some (.ref f) ∧ PySem.W.keepIn K (.ref f) = true ∧ Binds K fd ps []
def tCallU (sp : Addr → Value → Option Addr → Sp) (a : Addr) (cls : Value) (d : Option Addr) (t : TA) : TE := fun σ H Q => t σ H fun vs H1 => sp a cls d vs H1 Q E0
theorem pe_calU {X : Cx} {k j : Nat} {x : Str} {ps : List Str} {sp : Addr → Value → Option Addr → Sp} {q pos : Pos} {e : Expr} {es : List Expr} {t : TA} {a : Addr} {oe : Obj} {cls : Value} {d : Option Addr} (c : CalU X.prog X.w X.K X.mg X.base k x ps sp) (hp : (a, oe) ∈ X.pn) (hz : L2.Zc cls d oe) (hf : ∃ vs, oe.data = .fields vs) (hr : L2H.RoomH j X.A)
    (ha : PA X (e :: es) t) (hk : k ≤ j := by decide) (hg : Gl X x := by rfl) (hdb : (x == ("__debug__" : Str)) = false := by decide) (he : starEach (e :: es) X.env = (false, eval e X.env) :: starEach es X.env := by rfl) (hpl : (backTo pos (starEach es X.env)).any (·.1) = false := by rfl) :
    PE X (.Call (.Name x q) (e :: es) [] pos) (tCallU sp a cls d t) := by
  obtain ⟨f, fd, F, hm, kp, hb⟩ := c.ex
  refine ⟨fun pins s σ H Q I h => ?_⟩
  refine wpAny_Call_Name_kw (ld_glob I hg hm ?_ hdb)
  refine PySem.W.callWith_K (h₀ := X.base) I.ok.mod.kin kp (thn (ha.run pos pins s σ H _ I h) fun us s1 ⟨vs, H1, I1, r, q⟩ => ⟨I1.kIn, ?_⟩) he hpl
  have hl : us.length = ps.length := by rw [← r.length]; exact F.len _ _ _ _ _ _ _ q
  have b := hb s1 us I1.kIn (by rw [List.append_nil]; exact hl)
  rw [List.append_nil] at b
  have P1 := I1.pin (a, oe) (List.mem_append_left _ hp)
  have hpin : L2H.PinOk X.stack H1 s1 (a, oe) := ⟨P1.1, P1.2.1, fun hm => (List.mem_cons.mp (I1.stkSub a hm)).elim P1.2.2.1 P1.2.2.2.1, P1.2.2.2.2⟩
  refine wpAny_call (codeAny_mono (F.run X.A X.stack s1 H1 ⟨us, []⟩ us vs Q E0 (a, oe) cls d (hr.mono hk) hz hf hpin I1.env0 b r q) fun r s' hq => ?_)
  cases r with
  | error e => exact pass0 pins σ H1 s1 e s' I1 hq
  | ok fl =>
    cases fl with
    | ret u => exact I1.after hq
    | next => exact False.elim hq
    | brk => exact False.elim hq
    | cont => exact False.elim hq
theorem w_callU {sp : Addr → Value → Option Addr → Sp} {a : Addr} {cls : Value} {d : Option Addr} {tr : TA} {σ : L2.St} {H : Hp} {Q : VK} : tCallU sp a cls d tr σ H Q = tr σ H fun vs H1 => sp a cls d vs H1 Q E0 := rfl
/-! ### try: one call of a raising def -/
section
variable {X : Cx} {k j i : Nat} {x f n : Str} {c : Value} {ps : List Str} {sp : Sp} {np pos pos' p cp ap tp : Pos} {e : Expr} {es : List Expr} {t : TA} {b₀ : Stmt} {suite : List Stmt} {ts : Addr → Value → Option Addr → L2.TS}
/-- the body: f(..), its value set to slot i | dropped -/
def tB1 (sp : Sp) (t : TA) (i : Option Nat) (W : WX) : L2.TS := match i with
  | some i => tAsg (tCallS sp (WE W) t) (gName i)
  | none => tDrop (tCallS sp (WE W) t)
def tTryO (K : PySem.W.Frag) (c : Value) (sp : Sp) (t : TA) (i : Option Nat) (ts : Addr → Value → Option Addr → L2.TS) : L2.TS := fun D σ H => tB1 sp t i (wOnly K c ts (fun _ _ _ _ => False) D) D σ H
def tTryA (K : PySem.W.Frag) (c : Value) (sp : Sp) (t : TA) (i : Option Nat) (l : Nat) (ts : Addr → Value → Option Addr → L2.TS) : L2.TS := fun D σ H => tB1 sp t i (L2.wAs K c l ts (fun _ _ _ _ => False) D) D σ H
theorem ps_tryO_set (cal : CalX X.prog X.w X.K X.mg X.base k f ps sp) (hr : Room j X.A) (ha : ∀ (pn : List (Addr × Obj)) (xe : Value → Shared → Prop), PA (X.tr pn xe) (e :: es) t) (hc : L2.Names X x c) (hN : X.N.Nodup) (hi : X.N[i]? = some n) (hln : X.env.kindOf n = some .local)
    (hsu : ∀ (a : Addr) (oe : Obj) (cls : Value) (d : Option Addr) (pn : List (Addr × Obj)), L2.Zc cls d oe → (∃ vs, oe.data = .fields vs) → PSs (X.suite a ((a, oe) :: pn)) (b₀ :: suite) (ts a cls d)) (hs : X.stack = X.env :: X.outer := by rfl) (hf : X.env.frame = some X.env.locals := by rfl) (hk : k ≤ j := by decide) (hg : Gl X f := by rfl) (hdb : (f == ("__debug__" : Str)) = false := by decide)
    (he : starEach (e :: es) X.env = (false, eval e X.env) :: starEach es X.env := by rfl) (hpl : (backTo cp (starEach es X.env)).any (·.1) = false := by rfl) :
    PS X (.Try [.Assign [.Name n ap] (.Call (.Name f p) (e :: es) [] cp) tp] [.ExceptHandler (some (.Name x np)) none (b₀ :: suite) pos'] [] [] pos) (tTryO X.K c sp t (some i) ts) :=
  ps_try_only (tb := tB1 sp t (some i)) hs hf hc takes0 (fun W pn xe tk _ => pss_one (ps_set (X := X.tr pn xe) hN hi (Or.inl hln) (pe_calW (X := X.tr pn xe) cal hr tk (ha pn xe) hk hg hdb he hpl) (hf := Or.inr hln))) hsu
theorem ps_tryA_drop {l : Nat} {m : Str} (cal : CalX X.prog X.w X.K X.mg X.base k f ps sp) (hr : Room j X.A) (ha : ∀ (pn : List (Addr × Obj)) (xe : Value → Shared → Prop), PA (X.tr pn xe) (e :: es) t) (hc : L2.Names X x c) (hN : X.N.Nodup) (hi : X.N[l]? = some m) (hln : X.env.kindOf m = some .local)
    (hsu : ∀ (a : Addr) (oe : Obj) (cls : Value) (d : Option Addr) (pn : List (Addr × Obj)), L2.Zc cls d oe → (∃ vs, oe.data = .fields vs) → PSs (X.suite a ((a, oe) :: pn)) (b₀ :: suite) (ts a cls d)) (hs : X.stack = X.env :: X.outer := by rfl) (hf : X.env.frame = some X.env.locals := by rfl) (hk : k ≤ j := by decide) (hg : Gl X f := by rfl) (hdb : (f == ("__debug__" : Str)) = false := by decide)
    (he : starEach (e :: es) X.env = (false, eval e X.env) :: starEach es X.env := by rfl) (hpl : (backTo cp (starEach es X.env)).any (·.1) = false := by rfl) :
    PS X (.Try [.Expr (.Call (.Name f p) (e :: es) [] cp) tp] [.ExceptHandler (some (.Name x np)) (some m) (b₀ :: suite) pos'] [] [] pos) (tTryA X.K c sp t none l ts) :=
  ps_try_as (tb := tB1 sp t none) hs hf hN hi hln hc takes0 (fun W pn xe tk _ => pss_one (ps_expr (X := X.tr pn xe) (pe_calW (X := X.tr pn xe) cal hr tk (ha pn xe) hk hg hdb he hpl))) hsu
theorem ps_tryA_set {l : Nat} {m : Str} (cal : CalX X.prog X.w X.K X.mg X.base k f ps sp) (hr : Room j X.A) (ha : ∀ (pn : List (Addr × Obj)) (xe : Value → Shared → Prop), PA (X.tr pn xe) (e :: es) t) (hc : L2.Names X x c) (hN : X.N.Nodup) (hi : X.N[l]? = some m) (hln : X.env.kindOf m = some .local) (hi2 : X.N[i]? = some n) (hln2 : X.env.kindOf n = some .local)
    (hsu : ∀ (a : Addr) (oe : Obj) (cls : Value) (d : Option Addr) (pn : List (Addr × Obj)), L2.Zc cls d oe → (∃ vs, oe.data = .fields vs) → PSs (X.suite a ((a, oe) :: pn)) (b₀ :: suite) (ts a cls d)) (hs : X.stack = X.env :: X.outer := by rfl) (hf : X.env.frame = some X.env.locals := by rfl) (hk : k ≤ j := by decide) (hg : Gl X f := by rfl) (hdb : (f == ("__debug__" : Str)) = false := by decide)
    (he : starEach (e :: es) X.env = (false, eval e X.env) :: starEach es X.env := by rfl) (hpl : (backTo cp (starEach es X.env)).any (·.1) = false := by rfl) :
    PS X (.Try [.Assign [.Name n ap] (.Call (.Name f p) (e :: es) [] cp) tp] [.ExceptHandler (some (.Name x np)) (some m) (b₀ :: suite) pos'] [] [] pos) (tTryA X.K c sp t (some i) l ts) :=
  ps_try_as (tb := tB1 sp t (some i)) hs hf hN hi hln hc takes0 (fun W pn xe tk _ => pss_one (ps_set (X := X.tr pn xe) hN hi2 (Or.inl hln2) (pe_calW (X := X.tr pn xe) cal hr tk (ha pn xe) hk hg hdb he hpl) (hf := Or.inr hln2))) hsu
end
section
variable {K : PySem.W.Frag} {c : Value} {sp : Sp} {t : TA} {ts : Addr → Value → Option Addr → L2.TS} {i l : Nat} {D : Ends} {σ : L2.St} {H : Hp} {W : WX}
theorem w_tryO : tTryO K c sp t (some i) ts D σ H = t σ H fun vs H1 => sp vs H1 (fun v H2 => D.nx (σ.set i (some v)) H2) (fun cls d H2 => wOnly K c ts (fun _ _ _ _ => False) D cls d σ H2) := rfl
theorem w_tryAs : tTryA K c sp t (some i) l ts D σ H = t σ H fun vs H1 => sp vs H1 (fun v H2 => D.nx (σ.set i (some v)) H2) (fun cls d H2 => L2.wAs K c l ts (fun _ _ _ _ => False) D cls d σ H2) := rfl
theorem w_tryA : tTryA K c sp t none l ts D σ H = t σ H fun vs H1 => sp vs H1 (fun _ H2 => D.nx σ H2) (fun cls d H2 => L2.wAs K c l ts (fun _ _ _ _ => False) D cls d σ H2) := rfl
theorem only_yes {cls : Value} {d : Option Addr} (m : PySem.W.exmOne K cls c = some true) (q : ∀ a, H a = none → ts a cls d D σ H) : wOnly K c ts (fun _ _ _ _ => False) D cls d σ H := ⟨true, m, fun _ => q, fun z => Bool.noConfusion z⟩
theorem as_yes {cls : Value} {d : Option Addr} (m : PySem.W.exmOne K cls c = some true) (q : ∀ a, H a = none → ts a cls d { nx := fun σ' H' => D.nx (σ'.set i none) H', rt := D.rt, bk := fun σ' H' => D.bk (σ'.set i none) H', ct := fun σ' H' => D.ct (σ'.set i none) H' } (σ.set i (some (.ref a))) H) : L2.wAs K c i ts (fun _ _ _ _ => False) D cls d σ H :=
  ⟨true, m, fun _ => q, fun z => Bool.noConfusion z⟩
end
section
variable {K : PySem.W.Frag} {x y : V} {H : Hp} {Q : VK}
theorem r_eqD : rEqD K x y H Q = ∃ d e, Dp K H x d ∧ Dp K H y e ∧ SeqAt.shaped d = true ∧ SeqAt.shaped e = true ∧ Q (.bl (PyData.eqv d e)) H := rfl
theorem r_neD : rNeD K x y H Q = ∃ d e, Dp K H x d ∧ Dp K H y e ∧ SeqAt.shaped d = true ∧ SeqAt.shaped e = true ∧ Q (.bl (!PyData.eqv d e)) H := rfl
end
theorem room_su {X : Cx} {k : Nat} {a : Addr} {pn : List (Addr × Obj)} (r : Room k X.A) : L2H.RoomH k (X.suite a pn).A := ⟨r.dp, r.un⟩
theorem isX_no {K : PySem.W.Frag} {a D c : Addr} {H : Hp} {Q : Bool → Hp → Prop} (C : ExcC K D) (e : PySem.W.kitOne K (.ref D) (.ref c) = some false) (q : Q false H) : rIsX K a (.ref D) none [.ref a, .ref c] H fun x H1 => ∃ k, x = .bl k ∧ Q k H1 := isX_ref C e ⟨_, rfl, q⟩
/-! ### texts of any kind -/
/-- not too long, its code points within bounds -/
def Sz (z : Str) : Prop := z.length ≤ 4000 ∧ PyData.strOk z = true
theorem Sz.repr {z : Str} (h : Sz z) : (reprText z).length ≤ 40002 := by
  have := StrLaws.reprText_len z fun c m => by
    have q : c < 0x110000 := of_decide_eq_true (Array.all_eq_true_iff_forall_mem.mp h.2 c (Array.mem_def.mpr m))
    have : (16 : Nat) ^ 8 = 4294967296 := by decide
    omega
  have := h.1
  omega
theorem AZ.ok {z : Str} (h : AZ z) : PyData.strOk z = true := by
  unfold PyData.strOk
  rw [Array.all_eq_true_iff_forall_mem]
  intro c m
  have := h c (Array.mem_def.mp m)
  exact decide_eq_true (by omega)
theorem Sz.nil : Sz "" := ⟨by decide, by decide +kernel⟩
/-! ### validity -/
def bv (z : Str) : Bool := decide (z = "") || isW z
def tv : Tm → Bool
  | .name z => bv z
  | .fld f => isW f
  | .part f i => isW f && decide (0 ≤ i ∧ i ≤ 40)
  | .oth _ _ => false
def mv : Tm → Bool
  | .name _ => false
  | t => tv t
def gv : Tg → Bool
  | .set g => isW g
  | .names zs => zs.all isW && decide (zs.Pairwise fun x y => tl x < tl y)
def nb : Tm → Bool
  | .name z => decide (z ≠ "")
  | _ => true
def tvs (ts : List Tm) : Bool := decide (ts.length ≤ 40) && ts.all fun t => tv t && nb t
def own : Cn → Bool
  | .is a b => tv a && tv b
  | .inn a w => tv a && isW w
  | .wth f t => isW f && gv t
  | .most a b _ => bv a && bv b
  | .mbr a w => mv a && isW w
  | .und f ts => isW f && tvs ts
  | .ats f ts => isW f && tvs ts
  | _ => true
mutual
def pas : Nat → Cn → Bool
  | d, .not c => decide (d ≤ 12) && pas (d + 1) c
  | d, .all cs => decide (d ≤ 12) && pass (d + 1) cs
  | d, .any cs => decide (d ≤ 12) && pass (d + 1) cs
  | d, .is a b => decide (d ≤ 12) && own (.is a b)
  | d, .inn a b => decide (d ≤ 12) && own (.inn a b)
  | d, .wth a b => decide (d ≤ 12) && own (.wth a b)
  | d, .mbr a b => decide (d ≤ 12) && own (.mbr a b)
  | d, .und a b => decide (d ≤ 12) && own (.und a b)
  | d, .ats a b => decide (d ≤ 12) && own (.ats a b)
  | d, .most a b n => decide (d ≤ 12) && own (.most a b n)
  | d, .tru => decide (d ≤ 12)
  | d, .fls => decide (d ≤ 12)
def pass : Nat → List Cn → Bool
  | _, [] => true
  | d, c :: r => pas d c && pass d r
end
theorem pass_all (d : Nat) : ∀ cs : List Cn, pass d cs = cs.all (pas d)
  | [] => by rw [pass]; rfl
  | c :: r => by
    rw [pass, pass_all d r]
    rfl
theorem pas_eq (d : Nat) (c : Cn) : pas d c = (decide (d ≤ 12) && (own c && (inn c).all (pas (d + 1)))) := by
  cases c <;> rw [pas] <;> try rw [pass_all]
  all_goals simp [own, inn]
theorem pas_deep {d : Nat} {c : Cn} (h : 12 < d) : pas d c = false := by
  rw [pas_eq, decide_eq_false (by omega)]
  rfl
/-- its texts of any kind -/
def szG : Tg → Prop
  | .set g => Sz g
  | .names zs => zs.length ≤ 4000 ∧ ∀ z ∈ zs, Sz z
def szT : Tm → Prop
  | .name z => Sz z
  | .fld f => Sz f
  | .part f _ => Sz f
  | .oth f t => Sz f ∧ szG t
mutual
def szc : Cn → Prop
  | .tru => True
  | .fls => True
  | .is a b => szT a ∧ szT b
  | .inn a w => szT a ∧ Sz w
  | .mbr a w => szT a ∧ Sz w
  | .wth f t => Sz f ∧ szG t
  | .most a b _ => Sz a ∧ Sz b
  | .und f ts => Sz f ∧ ∀ t ∈ ts, szT t
  | .ats f ts => Sz f ∧ ∀ t ∈ ts, szT t
  | .not c => szc c
  | .all cs => szcs cs
  | .any cs => szcs cs
def szcs : List Cn → Prop
  | [] => True
  | c :: r => szc c ∧ szcs r
end
theorem szcs_mem : ∀ {cs : List Cn} {c : Cn}, szcs cs → c ∈ cs → szc c
  | [], _, _, m => by cases m
  | x :: r, c, h, m => by
    unfold szcs at h
    rcases List.mem_cons.mp m with rfl | m
    · exact h.1
    · exact szcs_mem h.2 m
theorem szcs_of : ∀ {cs : List Cn}, (∀ c ∈ cs, szc c) → szcs cs
  | [], _ => by unfold szcs; trivial
  | c :: r, h => by
    unfold szcs
    exact ⟨h c List.mem_cons_self, szcs_of fun x m => h x (List.mem_cons_of_mem _ m)⟩
theorem szc_inn {c x : Cn} (h : szc c) (m : x ∈ inn c) : szc x := by
  cases c with
  | not c => unfold szc at h; rw [List.mem_singleton.mp m]; exact h
  | all cs => unfold szc at h; exact szcs_mem h m
  | any cs => unfold szc at h; exact szcs_mem h m
  | _ => cases m
/-! ### equality of data -/
theorem eqv_strs : ∀ xs ys : List Str, PyData.eqvAll (xs.map .str) (ys.map .str) = decide (xs = ys)
  | [], [] => by simp [PyData.eqvAll]
  | [], _ :: _ => by simp [PyData.eqvAll]
  | _ :: _, [] => by simp [PyData.eqvAll]
  | x :: xs, y :: ys => by
    rw [List.map_cons, List.map_cons, PyData.eqvAll, PyData.eqv, eqv_strs xs ys]
    by_cases h : x = y
    · by_cases k : xs = ys
      · rw [h, k]; simp
      · simp [h, k]
    · simp [h]
theorem lay_strs : ∀ {zs : List Str}, (∀ z ∈ zs, Sz z) → PyData.canLayAll0 (zs.map .str) = true
  | [], _ => by rw [List.map_nil, PyData.canLayAll0]
  | z :: r, h => by
    rw [List.map_cons, PyData.canLayAll0, PyData.canLay0, (h z List.mem_cons_self).2, lay_strs fun x m => h x (List.mem_cons_of_mem _ m)]
    rfl
theorem dep_strs : ∀ zs : List Str, PyData.depthAll (zs.map .str) = 0
  | [] => by rw [List.map_nil, PyData.depthAll]
  | z :: r => by
    rw [List.map_cons, PyData.depthAll, PyData.depth, dep_strs r]
    rfl
theorem shaped_l {zs : List Str} (h : ∀ z ∈ zs, Sz z) : SeqAt.shaped (.list (zs.map .str)) = true := by
  unfold SeqAt.shaped
  rw [PyData.canLay0, lay_strs h, PyData.depth, dep_strs]
  rfl
theorem ok_name : PyData.strOk "name" = true := by decide +kernel
theorem ok_field : PyData.strOk "field" = true := by decide +kernel
theorem ok_part : PyData.strOk "part" = true := by decide +kernel
theorem shaped_name {z : Str} (h : Sz z) : SeqAt.shaped (.tuple [.str "name", .str z]) = true := by
  unfold SeqAt.shaped
  simp only [PyData.canLay0, PyData.canLayAll0, PyData.depth, PyData.depthAll, h.2, ok_name]
  rfl
theorem shaped_t {t : Tm} (h : szT t) (k : tv t = true) : SeqAt.shaped (tmD t) = true := by
  cases t with
  | name z => exact shaped_name h
  | fld f =>
    unfold szT at h
    unfold SeqAt.shaped tmD
    simp only [PyData.canLay0, PyData.canLayAll0, PyData.depth, PyData.depthAll, h.2, ok_field]
    rfl
  | part f i =>
    unfold szT at h
    unfold SeqAt.shaped tmD
    simp only [PyData.canLay0, PyData.canLayAll0, PyData.depth, PyData.depthAll, h.2, ok_part]
    rfl
  | oth _ _ => cases k
theorem eqv_nb (t : Tm) : PyData.eqv (tmD t) (.tuple [.str "name", .str ""]) = !nb t := by
  cases t with
  | name z =>
    have := eqv_strs ["name", z] ["name", ""]
    rw [List.map_cons, List.map_cons, List.map_nil, List.map_cons, List.map_cons, List.map_nil] at this
    show PyData.eqv (.tuple [.str "name", .str z]) _ = !decide (z ≠ "")
    rw [PyData.eqv, this]
    by_cases h : z = "" <;> simp [h]
  | fld f => unfold tmD; simp only [PyData.eqv, PyData.eqvAll]; show (decide _ && _) = !true; rfl
  | part f i => unfold tmD; simp only [PyData.eqv, PyData.eqvAll]; rfl
  | oth f t => unfold tmD; simp only [PyData.eqv, PyData.eqvAll]; rfl
/-! ### the tail of a word's list, sorted and alone -/
theorem sorted_iff {zs ws : List Str} (rise : ws.Pairwise fun x y => tl x < tl y) (mem : ∀ z, z ∈ ws ↔ z ∈ zs) : decide (zs = ws) = decide (zs.Pairwise fun x y => tl x < tl y) := by
  by_cases h : zs.Pairwise fun x y => tl x < tl y
  · rw [decide_eq_true h]
    have irr : ∀ a : Str, ¬ tl a < tl a := fun a => List.lt_irrefl _
    have tr : ∀ {a b c : Str}, tl a < tl b → tl b < tl c → tl a < tl c := fun h k => List.lt_trans h k
    have nd : ∀ {l : List Str}, l.Pairwise (fun x y => tl x < tl y) → l.Nodup := fun p => List.Pairwise.imp (S := fun x y => x ≠ y) (fun {a b} q (e : a = b) => by subst e; exact irr _ q) p
    have pm : zs.Perm ws := (List.perm_ext_iff_of_nodup (nd h) (nd rise)).mpr fun a => (mem a).symm
    exact decide_eq_true (List.Perm.eq_of_pairwise (le := fun x y => tl x < tl y) (fun a b _ _ x y => absurd (tr x y) (irr a)) h rise pm)
  · rw [decide_eq_false h]
    exact decide_eq_false fun e => h (e ▸ rise)
/-- what a check answers -/
def Oc (K : PySem.W.Frag) (b : Bool) (H : Hp) (Q : VK) (E : XK) : Prop := Tbs [tabW K "is_word"] H ∧ (b = true → ∀ H', TbG [tabW K "is_word"] H H' → Q .non H') ∧ (b = false → ∀ H', TbG [tabW K "is_word"] H H' → E (.ref (He.ga K "InvalidCondition")) none H')
section
variable {K : PySem.W.Frag} {b c : Bool} {H H1 : Hp} {Q : VK} {E : XK}
theorem Oc.go (h : Oc K b H Q E) (g : TbG [tabW K "is_word"] H H1) : Oc K b H1 Q E := ⟨g.1, fun e H' g' => h.2.1 e H' (g.trans g'), fun e H' g' => h.2.2 e H' (g.trans g')⟩
theorem Oc.same (h : Oc K b H Q E) (s : Same H H1) : Oc K b H1 Q E := h.go (TbG.same h.1 s)
theorem Oc.ts (h : Oc K b H Q E) (g : TbG [tabW K "is_word"] H H1) : TS H H1 := TbG.ts h.1 g
/-- one check, then another -/
theorem Oc.two (h : Oc K (b && c) H Q E) {Q2 : VK} (hq : ∀ H1 v, Oc K c H1 Q E → TbG [tabW K "is_word"] H H1 → b = true → Q2 v H1) : Oc K b H Q2 E := by
  refine ⟨h.1, fun e H' g => hq H' _ (Oc.go (h := ?_) g) g e, fun e H' g => h.2.2 (by rw [e]; rfl) H' g⟩
  rw [e, Bool.true_and] at h
  exact h
theorem Oc.yes (h : Oc K b H Q E) (e : b = true) : Q .non H := h.2.1 e H (TbG.refl h.1)
theorem Oc.no (h : Oc K b H Q E) (e : b = false) : E (.ref (He.ga K "InvalidCondition")) none H := h.2.2 e H (TbG.refl h.1)
end
/-! ### words and no words -/
theorem isW_az {z : Str} (h : AZ z) (l : 1 ≤ z.length) : isW z = true := by
  unfold isW
  have h1 : z ≠ "" := fun e => by
    rw [e] at l
    exact absurd l (by decide)
  rw [decide_eq_true h1, Bool.true_and]
  refine List.all_eq_true.mpr fun c m => decide_eq_true ?_
  have q : c ∈ tl LET := by
    rw [tl_LET, List.mem_range']
    have := h c m
    exact ⟨c - 97, by omega, by omega⟩
  exact q
theorem isW_wd {z : Str} (h : Wd z) : isW z = true := isW_az h.1 h.2.1
theorem isW_bad {z : Str} {c : Nat} (m : c ∈ tl z) (h : ¬ (97 ≤ c ∧ c ≤ 122)) : isW z = false := by
  unfold isW
  rw [Bool.and_eq_false_iff]
  refine .inr (List.all_eq_false.mpr ⟨c, m, fun e => h ?_⟩)
  have q : c ∈ tl LET := of_decide_eq_true e
  rw [tl_LET, List.mem_range'] at q
  obtain ⟨i, hi, e⟩ := q
  omega
theorem isW_nil : isW "" = false := by decide +kernel
theorem Sz.az {z : Str} (h : AZ z) (l : z.length ≤ 4000) : Sz z := ⟨l, h.ok⟩
theorem Sz.wd {z : Str} (h : Wd z) : Sz z := .az h.1 (by have := h.2.2; omega)
theorem ok_of {z : Str} (h : ∀ c ∈ tl z, c < 0x110000) : PyData.strOk z = true := by
  unfold PyData.strOk
  rw [Array.all_eq_true_iff_forall_mem]
  exact fun c m => decide_eq_true (h c (Array.mem_def.mp m))
/-- a sign put into a word -/
theorem put_bad {x y : Str} {c : Nat} (hx : AZ x) (hy : AZ y) (c1 : c < 128) (c2 : ¬ (97 ≤ c ∧ c ≤ 122)) (l : x.length + y.length ≤ 3000) : Sz (x ++ (⟨#[c]⟩ : Str) ++ y) ∧ isW (x ++ (⟨#[c]⟩ : Str) ++ y) = false ∧ (x ++ (⟨#[c]⟩ : Str) ++ y) ≠ "" := by
  have et : tl (x ++ (⟨#[c]⟩ : Str) ++ y) = tl x ++ [c] ++ tl y := by
    show (x.cps ++ #[c] ++ y.cps).toList = _
    simp
  have m : c ∈ tl (x ++ (⟨#[c]⟩ : Str) ++ y) := by
    rw [et]
    simp
  refine ⟨⟨?_, ok_of fun k mk => ?_⟩, isW_bad m c2, fun e => ?_⟩
  · rw [len_app, len_app]
    show x.length + 1 + y.length ≤ 4000
    omega
  · rw [et] at mk
    rcases List.mem_append.mp mk with mk | mk
    · rcases List.mem_append.mp mk with mk | mk
      · have := hx k mk; omega
      · rw [List.mem_singleton.mp mk]; omega
    · have := hy k mk; omega
  · rw [e] at m
    cases m
theorem bv_wd {z : Str} (h : Wd z) : bv z = true := by
  unfold bv
  rw [isW_wd h, Bool.or_true]
theorem bv_bad {z : Str} (h : isW z = false) (n : z ≠ "") : bv z = false := by
  unfold bv
  rw [h, decide_eq_false n]
  rfl
theorem mv_tv {t : Tm} (h : tv t = false) : mv t = false := by
  cases t with
  | name _ => rfl
  | _ => exact h
theorem pick3 {a b c z : Int} {P : Int → Prop} (h0 : 0 ≤ z) (h1 : z < 3) (ha : P a) (hb : P b) (hc : P c) : ∃ y, atI [V.int a, V.int b, V.int c] z = some (.int y) ∧ P y := by
  obtain ⟨v, ev, y, rfl, hy⟩ := pick (xs := [V.int a, V.int b, V.int c]) (z := z) (P := fun v => ∃ y : Int, v = .int y ∧ P y) h0 h1 fun x mx => by
    simp only [List.mem_cons, List.not_mem_nil, or_false] at mx
    rcases mx with rfl | rfl | rfl
    · exact ⟨_, rfl, ha⟩
    · exact ⟨_, rfl, hb⟩
    · exact ⟨_, rfl, hc⟩
  exact ⟨y, ev, hy⟩
theorem pick2 {a b : V} {z : Int} (h0 : 0 ≤ z) (h1 : z < 2) : (z = 0 ∧ atI [a, b] z = some a) ∨ (z = 1 ∧ atI [a, b] z = some b) := by
  by_cases e : z = 0
  · exact .inl ⟨e, by rw [e]; rfl⟩
  · have e : z = 1 := by omega
    exact .inr ⟨e, by rw [e]; rfl⟩
theorem cut_take (xs : List V) {i : Int} (h : 0 ≤ i) : cutV xs none (some i) = xs.take i.toNat := by
  obtain ⟨k, rfl⟩ : ∃ k : Nat, i = (k : Int) := ⟨i.toNat, by omega⟩
  show (xs.drop (HT.sIx xs.length 0 none)).take (HT.sIx xs.length xs.length (some (k : Int)) - HT.sIx xs.length 0 none) = _
  rw [HT.sIx_none, HT.sIx_nat, List.drop_zero, Nat.sub_zero, Int.toNat_natCast]
  by_cases e : k ≤ xs.length
  · rw [Nat.min_eq_left e]
  · rw [Nat.min_eq_right (by omega), List.take_length, List.take_of_length_le (by omega)]
theorem cut_drop (xs : List V) {i : Int} (h : 0 ≤ i) : cutV xs (some i) none = xs.drop i.toNat := by
  obtain ⟨k, rfl⟩ : ∃ k : Nat, i = (k : Int) := ⟨i.toNat, by omega⟩
  show (xs.drop (HT.sIx xs.length 0 (some (k : Int)))).take (HT.sIx xs.length xs.length none - HT.sIx xs.length 0 (some (k : Int))) = _
  rw [HT.sIx_none, HT.sIx_nat, Int.toNat_natCast]
  by_cases e : k ≤ xs.length
  · rw [Nat.min_eq_left e, List.take_of_length_le (by rw [List.length_drop]; omega)]
  · rw [Nat.min_eq_right (by omega), List.drop_length, List.take_nil, List.drop_of_length_le (by omega)]
theorem lt_app : ∀ l : List Nat, ¬ (l ++ [97] < l)
  | [], h => by cases h
  | a :: l, h => by
    have h : a :: (l ++ [97]) < a :: l := h
    rcases List.cons_lt_cons_iff.mp h with h | ⟨_, h⟩
    · exact Nat.lt_irrefl _ h
    · exact lt_app l h
theorem gv_no {l : List Str} {x y : Str} {xs ys : List Str} (e : l = xs ++ x :: y :: ys) (h : ¬ tl x < tl y) : gv (.names l) = false := by
  show (l.all isW && decide _) = false
  rw [Bool.and_eq_false_iff]
  refine .inr (decide_eq_false fun p => h ?_)
  rw [e] at p
  have p2 := (List.pairwise_append.mp p).2.1
  exact (List.pairwise_cons.mp p2).1 y List.mem_cons_self
theorem gv_bad {l : List Str} {x : Str} (m : x ∈ l) (h : isW x = false) : gv (.names l) = false := by
  show (l.all isW && decide _) = false
  rw [Bool.and_eq_false_iff]
  exact .inl (List.all_eq_false.mpr ⟨x, m, by rw [h]; decide⟩)
theorem gv_yes {l : List Str} (h : ∀ z ∈ l, Wd z) (p : l.Pairwise fun x y => tl x < tl y) : gv (.names l) = true := by
  show (l.all isW && decide _) = true
  rw [decide_eq_true p, Bool.and_true]
  exact List.all_eq_true.mpr fun z m => isW_wd (h z m)
theorem DpAll.app {K : PySem.W.Frag} {H : Hp} {vs : List V} {ds : List PyData} (k : DpAll K H vs ds) : ∀ {us : List V} {cs : List PyData}, DpAll K H us cs → DpAll K H (us ++ vs) (cs ++ ds)
  | _, _, .nil => k
  | _, _, .cons a b => .cons a (DpAll.app k b)
theorem DpAll.ins {K : PySem.W.Frag} {H : Hp} {v : V} {d : PyData} (h : Dp K H v d) : ∀ {us : List V} {cs : List PyData} (k : Nat), DpAll K H us cs → DpAll K H (us.take k ++ [v] ++ us.drop k) (cs.take k ++ [d] ++ cs.drop k)
  | _, _, 0, b => .cons h b
  | _, _, _ + 1, .nil => .cons h .nil
  | _, _, k + 1, .cons a b => .cons a (DpAll.ins h k b)
theorem DpAll.take_ {K : PySem.W.Frag} {H : Hp} : ∀ {us : List V} {cs : List PyData} (k : Nat), DpAll K H us cs → DpAll K H (us.take k) (cs.take k)
  | _, _, 0, _ => .nil
  | _, _, _ + 1, .nil => .nil
  | _, _, k + 1, .cons a b => .cons a (DpAll.take_ k b)
theorem slA_take {K : PySem.W.Frag} {H : Hp} {a : Addr} {us : List V} {ds : List PyData} (hT : SqT K H a us) (dA : DpAll K H us ds) {i : Int} (h0 : 0 ≤ i) {Q : VK} (q : ∀ p H', Same H H' → Dp K H' (.ref p) (.tuple (ds.take i.toNat)) → Q (.ref p) H') : rSlA K (.ref a) none (some i) H Q := by
  have hl := DpAll.len dA
  rw [r_slA]
  refine ⟨a, us, rfl, hT, fun ⟨_, e⟩ => q a H (Same.refl H) ?_, fun _ p np => q p _ (Same.new np) ?_⟩
  · obtain ⟨k, rfl⟩ : ∃ k : Nat, i = (k : Int) := ⟨i.toNat, by omega⟩
    rw [HT.sIx_nat] at e
    rw [Int.toNat_natCast, List.take_of_length_le (by omega)]
    exact .tup hT dA
  · rw [cut_take _ h0]
    exact .tup (SqT.of upd_same) (DpAll.go (Same.new np) _ _ (DpAll.take_ _ dA))
theorem catA_dp {K : PySem.W.Frag} {H : Hp} {a b : Addr} {us ws : List V} {ds es : List PyData} (hT : SqT K H a us) (hU : SqT K H b ws) (da : DpAll K H us ds) (db : DpAll K H ws es) (l : us.length + ws.length ≤ 1000) {Q : VK} (q : ∀ p H', Same H H' → Dp K H' (.ref p) (.tuple (ds ++ es)) → Q (.ref p) H') : rCatA K (.ref a) (.ref b) H Q := by
  rw [r_catA]
  refine ⟨a, b, us, ws, rfl, rfl, hT, hU, line_of (by omega), fun e => q b H (Same.refl H) ?_, fun _ e => q a H (Same.refl H) ?_, fun _ _ p np => q p _ (Same.new np) (.tup (SqT.of upd_same) (DpAll.go (Same.new np) _ _ (DpAll.app db da)))⟩
  · subst e
    cases da
    exact .tup hU db
  · subst e
    cases db
    rw [List.append_nil]
    exact .tup hT da
/-! ### sorted(e, key=lambda x: x[0]), e a list of tuples that begin with a text -/
theorem extN_sqT {K : PySem.W.Frag} {H H' : Hp} {a : Addr} {xs : List V} (e : LamX.ExtN H H') (h : SqT K H a xs) : SqT K H' a xs := by
  rcases h with (h | ⟨o, h⟩) | h
  · exact .inl (.inl (e _ _ h fun ps z => by cases z))
  · exact .inl (.inr ⟨o, e _ _ h fun ps z => by cases z⟩)
  · exact .inr h
theorem extN_sqL {K : PySem.W.Frag} {H H' : Hp} {a : Addr} {xs : List V} (e : LamX.ExtN H H') (h : SqL K H a xs) : SqL K H' a xs := by
  rcases h with (h | ⟨o, h⟩) | h
  · exact .inl (.inl (e _ _ h fun ps z => by cases z))
  · exact .inl (.inr ⟨o, e _ _ h fun ps z => by cases z⟩)
  · exact .inr h
/-! the making of a lambda: only its maker's own table changes -/
section
variable {X : Cx} {pins : List (Addr × Obj)} {σ : L2.St} {H : Hp} {s : Shared}
theorem far_frs (I : L2.Inv X pins σ H s) {f : Addr} (hf : s.heap.objs.size ≤ f) : f ∉ L2.frs X.stack := fun z => by
  have lt := I.lt
  rcases List.mem_cons.mp (I.stkSub f z) with e | e
  · rw [e] at hf
    exact Nat.lt_irrefl _ (Nat.lt_of_lt_of_le lt hf)
  · exact I.nofs hf e
/-- one more code object of the name q -/
theorem tabS_more {P c' : Addr} {q : Str} {ps : Array Value} {pos : Pos} (hP : H P = some (.tbl ps)) (ht : TriplesOk ps.toList) (ha : ∀ (pos : Pos) (cv : Value), codeAmong pos ps.toList = some cv → ∃ c, cv = .ref c ∧ H c = some (LamX.CodeO c q)) (nC : H c' = none) :
    LamX.TabS (upd (upd H P (.tbl (ps ++ #[rawInt pos.line, rawInt pos.col, .ref c']))) c' (LamX.CodeO c' q)) P q := by
  have el : (ps ++ #[rawInt pos.line, rawInt pos.col, .ref c']).toList = ps.toList ++ [rawInt pos.line, rawInt pos.col, .ref c'] := by simp
  refine ⟨_, (by rw [upd_ne (ne_of_none hP nC)]; exact upd_same), (by rw [el]; exact TriplesOk_snoc _ _ _ _ ht), fun p' cv hcv => ?_⟩
  rw [el] at hcv
  rcases LamX.among_app _ ht hcv with z | z
  · obtain ⟨c0, e1, e2⟩ := ha p' cv z
    have n1 : c0 ≠ P := fun e => by
      rw [e, hP] at e2
      exact LamX.codeO_ne ps (Option.some.inj e2).symm
    exact ⟨c0, e1, by rw [upd_ne (ne_of_none e2 nC), upd_ne n1]; exact e2⟩
  · exact ⟨c', z, upd_same⟩
theorem lam_new {c P : Addr} {params : Arguments} {body : Expr} {scope : Scope} {pos : Pos} {E : Value → Shared → Prop} {Q : Value → Shared → Prop} (I : L2.Inv X pins σ H s) (TB : LamX.TabB X.base X.mg c P) (hcode : X.env.code = .ref c) (hS : LamX.TabS H P (X.env.qual ++ "<lambda>"))
    (hdef : defaultsOf params X.env = ([], [])) (hfree : ∀ y ∈ scope.names, y.2 = .free → ∃ c, X.env.cells.lookup y.1 = some c)
    (h : ∀ (f c' : Addr) (pm ctv : Value) (H1 : Hp) (s' : Shared), L2.Inv X pins σ H1 s' → (∀ b o, b ≠ P → H b = some o → H1 b = some o) → LamX.TabS H1 P (X.env.qual ++ "<lambda>") →
      s'.heap.get? f = some (PySem.W.kla_obj "<lambda>" (X.env.qual ++ "<lambda>") params body scope (cloFrom X.env.cells scope.names []) pm c' ctv) → H1 f = none → f ∉ L2.frs X.stack → H1 c' = some (LamX.CodeO c' (X.env.qual ++ "<lambda>")) → Q (.ref f) s') :
    wpAny (model X.prog X.w) X.A (eval (.Lambda params body scope pos) X.env) Q E s := by
  obtain ⟨ps, hP, ht, ha⟩ := id hS
  have oP := I.hok P _ hP
  have bk := I.bk
  refine PySem.W.kla_eval hdef ?_
  by_cases hc : ∃ cv, codeAmong pos ps.toList = some cv
  · obtain ⟨cv, hc⟩ := hc
    obtain ⟨c', rfl, hO⟩ := ha pos cv hc
    refine PySem.W.kla_makeFunctionHit (mg := X.mg) (c := c) (P := P) (ps := ps) (closure_ok hfree) I.ok.glob (I.mod.glob.keeps bk) hcode (TB.code.keeps bk) oP ht hc (TB.bm.keeps bk) fun ctv g tk k z => ?_
    exact h g.objs.size c' _ ctv H _ (I.kept (t' := tk) fun b o e => Heap.get?_push_of_some _ (k b o e)) (fun _ _ _ e => e) hS (Heap.get?_push_size _ rfl) (I.hok.fresh z) (far_frs I z) hO
  · have hc : codeAmong pos ps.toList = none := by
      cases e : codeAmong pos ps.toList with
      | none => rfl
      | some cv => exact absurd ⟨cv, e⟩ hc
    refine PySem.W.kla_makeFunction (mg := X.mg) (c := c) (P := P) (ps := ps) (closure_ok hfree) I.ok.glob (I.mod.glob.keeps bk) hcode (TB.code.keeps bk) oP ht hc TB.gP (TB.bm.keeps bk) fun c' ctv g tk k z1 z2 rec tb => ?_
    obtain ⟨_, oc, vs, t, e0, r1, r2, r3⟩ := rec
    cases e0
    have nC := I.hok.fresh z1
    have big : s.heap.objs.size ≤ g.objs.size := by omega
    have ltP := Heap.lt_size oP
    have J := LamX.inv_table (t' := tk) (c := c') (q := X.env.qual ++ "<lambda>") (more := #[rawInt pos.line, rawInt pos.col, .ref c']) (h' := g.push (PySem.W.kla_obj "<lambda>" (X.env.qual ++ "<lambda>") params body scope (cloFrom X.env.cells scope.names []) ((X.mg "__name__").getD .none) c' ctv)) I hP
      (fun b o hb e => Heap.get?_push_of_some _ (k b o hb e)) (Heap.get?_push_of_some _ tb) z1 ⟨oc, vs, t, Heap.get?_push_of_some _ r1, r2, r3⟩
    refine h g.objs.size c' _ ctv _ _ J (fun b o nb e => by rw [upd_ne (ne_of_none e nC), upd_ne nb]; exact e) (tabS_more hP ht ha nC) (Heap.get?_push_size _ rfl) ?_ (far_frs I big) upd_same
    rw [upd_ne (Nat.ne_of_gt z2), upd_ne (Nat.ne_of_gt (Nat.lt_of_lt_of_le ltP big))]
    exact I.hok.fresh big
end
def byTxt (bs : List (V × Str)) : List (V × Str) := bs.mergeSort fun a b => decide (a.2.cps.toList ≤ b.2.cps.toList)
def tSortL (K : PySem.W.Frag) (T : Addr) (q : Str) (te : TE) : TE := fun σ H Q => te σ H fun x H1 => ∃ (a : Addr) (bs : List (V × Str)), [x] = [.ref a] ∧ SqL K H1 a (bs.map Prod.fst) ∧ (∀ b ∈ bs, ∃ t us, b.1 = .ref t ∧ SqT K H1 t (.str b.2 :: us)) ∧ bs.length ≤ 1000000 ∧ LamX.TabS H1 T q ∧
  ∀ H2, (∀ b o, b ≠ T → H1 b = some o → H2 b = some o) → LamX.TabS H2 T q → ∀ p, H2 p = none → Q (.ref p) (upd H2 p (.lst ((byTxt bs).map Prod.fst)))
theorem each_vals {bs : List (V × Str)} : ∀ {its : List Value}, Vals (bs.map Prod.fst) its → PySem.W.EachIs (fun v b => L2.RelV b.1 v) its bs := by
  induction bs with
  | nil =>
    intro its h
    cases h
    exact .nil
  | cons b bs ih =>
    intro its h
    cases h with
    | cons r rr => exact .cons r (ih rr)
theorem vals_each {bs : List (V × Str)} {its : List Value} (h : PySem.W.EachIs (fun v b => L2.RelV b.1 v) its bs) : Vals (bs.map Prod.fst) its := by
  induction h with
  | nil => exact .nil
  | cons r _ ih => exact .cons r ih
section
variable {X : Cx} {k : Nat} {c T : Addr} {x : Str} {e : Expr} {te : TE} {params : Arguments} {scope : Scope} {p pos p1 p2 p3 lp kpos : Pos} {k0 : Nat}
theorem pe_sortL (hr : Room k X.A) (hc : X.calm = true) (hg : Gl X "sorted") (hm : X.mg "sorted" = none) (TB : LamX.TabB X.base X.mg c T) (hcode : X.env.code = .ref c) (he : PE X e te)
    (hdef : defaultsOf params X.env = ([], [])) (hco : scope.isCoroutine = false) (hgen : scope.isGenerator = false) (hkind : scope.kind = .function) (hx : scope.names = [(x, .local)])
    (hbind : ∀ (q : Str) (cl : List (Str × Addr)) (pm ctv v : Value) (c' : Addr), bindArgs (PySem.W.kla_fn "<lambda>" q params (.Subscript (.Name x p1) (.Constant (.int 0) k0 p2) p3) scope cl pm (.ref c') ctv) ⟨[v], []⟩ = pure [(x, v)])
    (hd : (x == ("__debug__" : Str)) = false := by decide)
    (he1 : backTo pos (starEach [e] X.env) = (false, eval e X.env) :: backTo pos (starEach [] X.env) := by rfl) (hpl : (backTo pos (starEach [e] X.env)).any (·.1) = false := by rfl)
    (hs1 : starEach [e] X.env = (false, eval e X.env) :: starEach [] X.env := by rfl) :
    PE X (.Call (.Name "sorted" p) [e] [⟨some "key", .Lambda params (.Subscript (.Name x p1) (.Constant (.int 0) k0 p2) p3) scope lp, kpos⟩] pos) (tSortL X.K T (X.env.qual ++ "<lambda>") te) := by
  refine ⟨fun pins s σ H Q I h => ?_⟩
  refine wpAny_Call_Name_kw (ld_blt I hg hm boot_sorted ?_ (by decide) (by decide))
  have ha : PA X [e] (tCons te tNil) := pa_cons he pa_nil hs1
  refine PyProof.Rows.callWith_kw (thn (ha.run pos pins s σ H (fun vs H1 => ∃ (a : Addr) (bs : List (V × Str)), vs = [.ref a] ∧ SqL X.K H1 a (bs.map Prod.fst) ∧ (∀ b ∈ bs, ∃ t us, b.1 = .ref t ∧ SqT X.K H1 t (.str b.2 :: us)) ∧ bs.length ≤ 1000000 ∧ LamX.TabS H1 T (X.env.qual ++ "<lambda>") ∧
    ∀ H2, (∀ b o, b ≠ T → H1 b = some o → H2 b = some o) → LamX.TabS H2 T (X.env.qual ++ "<lambda>") → ∀ p, H2 p = none → Q (.ref p) (upd H2 p (.lst ((byTxt bs).map Prod.fst)))) I h) fun us s1 ⟨vs, H1, I1, r1, q1⟩ => ?_) he1 hpl rfl rfl
  obtain ⟨a, bs, rfl, hL, hT, lb, tS, q⟩ := q1
  rw [Vals.ref1 r1]
  show wpAny _ _ (evalAll [(do let v ← eval (.Lambda params (.Subscript (.Name x p1) (.Constant (.int 0) k0 p2) p3) scope lp) X.env; standAt pos; pure v)]) _ _ s1
  refine wpAny_evalAll_cons (wpAny_bind (lam_new I1 TB hcode tS hdef (fun y hy e => by rw [hx] at hy; rw [List.mem_singleton.mp hy] at e; cases e) fun f c' pm ctv H2 s2 I2 ext tabs hf hfn hfr hcO => wpAny_bind (wpAny_standAt (wpAny_pure (wpAny_evalAll_nil ?_)))))
  show wpAny _ _ (call (.builtin "sorted") [.ref a] [(Str.ofString "key", .ref f)]) _ _ s2
  have nT : ∀ {b o}, H1 b = some o → (∀ ps, o ≠ .tbl ps) → b ≠ T := fun e n z => by
    obtain ⟨ps, e2, _⟩ := tS
    rw [z, e2] at e
    exact n ps (Option.some.inj e).symm
  have exN : LamX.ExtN H1 H2 := fun b o e n => ext b o (nT e n) e
  have hL2 := extN_sqL exN hL
  obtain ⟨its, rv, pl, hz⟩ := I2.list hL2
  obtain ⟨⟨oc, ovs, ot, hoc, hdc, hvc⟩, _, _⟩ := I2.hok c' _ hcO
  have hdp := hr.dp
  have hun := hr.un
  refine PySem.W.sorted_key_data (b := false) (k := fun b : V × Str => PyData.str b.2) pl.isList (each_vals rv) (PySem.W.AllAlike.of fun _ _ => by simp [PySem.W.alike]) (PySem.W.Sortable.others (enc := fun b : V × Str => PyData.str b.2) fun _ => ⟨fun z => PyData.noConfusion z, fun _ z => PyData.noConfusion z⟩) (line_of (by omega)) (fun b _ => ?_) (PyProof.Rows.ksk_s1 _ _) (fun _ => PyProof.Rows.ksk_l1 _ _) (fun _ => PyProof.Rows.ksk_t1 _ _) (fun v b hR hb g tk kp => ?_) (fun out n h' tn kp nn hD lo ko => ?_)
  · rw [PyData.depth]
    omega
  · obtain ⟨t, us, eb, ht⟩ := hT b hb
    rw [eb] at hR
    obtain rfl : v = Value.ref t := hR
    obtain ⟨jts, rj, pt, _⟩ := I2.tuple (extN_sqT exN ht)
    cases rj with
    | cons r0 rr =>
      rename_i v0 vr
      obtain ⟨tk0, rfl⟩ := r0
      have pg := pt.keeps kp
      refine wpAny_call (PySem.W.kla_callFunE (show X.A.depth < _ by omega) (kp _ _ hf) rfl hco hgen rfl ⟨c', oc, ovs, ot, rfl, kp _ _ hoc, hdc, hvc⟩ ?_)
      rw [hbind]
      refine wpAny_pure (wpAny_newFunctionEnv (fun y hy => by rw [hx] at hy; rw [List.mem_singleton.mp hy]; intro z; cases z) (fun y hy => by rw [List.mem_singleton.mp hy]; show scope.names.lookup x = _; rw [hx]; simp [List.lookup]) (fun h₁ hns hsb => ⟨((I2.nolimit.keeps kp)).fresh _ hsb, ?_⟩) hkind)
      have k1 : ∀ b o, g.get? b = some o → h₁.get? b = some o := fun b o e => hsb.extBut b o (Nat.ne_of_lt (Heap.lt_size e)) (Heap.get?_push_of_some _ e)
      show codeAny _ _ (.expr _ (PySem.W.envX (X.env.qual ++ "<lambda>") scope g.objs.size f (.ref c') (cloFrom X.env.cells scope.names []))) _ _
      refine PySem.W.kla_codeExpr (PyProof.Rows.Subscript_ (wpAny_Name (wpAny_loadName_local (v := .ref t) hkind (by show scope.names.lookup x = _; rw [hx]; simp [List.lookup]) hns (by simp [List.lookup]) (wpAny_Constant_int ?_)) hd))
      refine PyProof.Rows.subscriptTail_builtinR (x := .str b.2 tk0) (pg.keeps k1).typeIs PyProof.Rows.slot_tuple_getitem.lookup (PyProof.Rows.getItem_tuple (k := 0) (j := 0) (x := .str b.2 tk0) (pg.keeps k1) (by decide) (by decide) ?_ ?_ ⟨rfl, ⟨_, _, rfl, k1, .str _ _⟩⟩) ?_
      · simp [seqIndex?]
      · simp
      · rfl
  · rw [PySem.W.dataLe_str (fun b : V × Str => b.2)] at ko
    have rv' := vals_each ko
    have J := I2.laidN (t' := tn) (a := s2.heap.objs.size + 1) (o := .lst ((byTxt bs).map Prod.fst)) kp nn ?_ ?_
    · exact ⟨.ref _, _, J, rfl, q H2 ext tabs _ (I2.hok.fresh (Nat.le_succ _))⟩
    · exact I2.hok.fresh (Nat.le_succ _)
    · refine ⟨?_, out, n, rv', hD⟩
      rw [List.length_map]
      unfold byTxt
      rw [List.length_mergeSort]
      exact line_of (by omega)
end
/-! ### set(), s.add(x): sets of texts -/
section
variable {X : Cx} {o e : Expr} {es : List Expr} {to te : TE} {apos cpos : Pos}
theorem cr_setTx0 : CallR X (.type "set") (fun vs H Q => vs = [] ∧ ∀ u, H u = none → Q (.ref u) (upd H u (TxO X.w u (fun _ => false) 0))) := by
  intro pins s σ H vs us Q I r h
  obtain ⟨rfl, q⟩ := h
  cases r
  refine setR_new fun _ => ?_
  have J := I.laid (t' := s.toks) (h' := s.heap.push { cls := .type "set", dict := none, data := .set #[] 0 (.fresh 0 0 (!X.w.params.followText "set-order")) }) (a := s.heap.objs.size) (o := TxO X.w s.heap.objs.size (fun _ => false) 0) (fun b o e => Heap.get?_push_of_some _ e) (Nat.le_refl _)
    (txO_new (TxS.same (tx_empty (xs := []) (Heap.get?_push_size _ rfl)) fun k => by simp))
  exact ⟨.ref _, _, J, rfl, q _ (I.hok.fresh (Nat.le_refl _))⟩
theorem tx_add_call {P : Program} {w : World} {A : Around} {E : Value → Shared → Prop} {s : Shared} {a : Addr} {S : Str → Bool} {n : Nat} {z : Str} {tk : Tok} {Q : Value → Shared → Prop} (R : TxS w s.heap a S n) (room : n + 1 < scanBound)
    (hQ : ∀ h', Heap.SameBut a s.heap h' → TxS w h' a (fun j => S j || decide (j = z)) (if S z = true then n else n + 1) → Q .none { s with heap := h', toks := s.toks + 1 }) :
    wpAny (model P w) A (call (.builtin "set.add") [.ref a, .str z tk]) Q E s := by
  have hS : s.heap.SetOf (strKind P w) a S n := R.of
  refine wpAny_call_entry F.slot_set_add hS.typeIs F.entry_set_add ?_ (F.args_set_add_2 _ _)
  unfold Builtin.«set.add» Builtin.Frozenset.oneOther
  simp only [List.isEmpty_nil, bind_assoc]
  unfold Builtin.Frozenset.addrOf setAdd
  refine wpAny_bind (wpAny_pure ?_)
  try dsimp only
  refine wpAny_bind (wpAny_pure ?_)
  try dsimp only
  refine wpAny_bind ?_
  refine wpAny_holding ?_
  refine wpAny_bind ((strKind P w).pyHash (strKind_is P w z tk) ?_)
  refine tx_add (s := { s with toks := s.toks + 1 }) R room fun h' sb r => ?_
  show wpAny _ _ (ret Value.none) _ _ _
  exact wpAny_pure ⟨_, rfl, hQ h' sb r⟩
def tAddTx (w : World) (to te : TE) : TE := fun σ H Q => to σ H fun x H1 => (∃ D S n, x = .ref D ∧ H1 D = some (TxO w D S n)) ∧ te σ H1 fun y H2 => ∃ D S n z, [x, y] = [.ref D, .str z] ∧ H2 D = some (TxO w D S n) ∧ n ≤ 4000 ∧ Q .non (upd H2 D (TxO w D (fun j => S j || decide (j = z)) (if S z = true then n else n + 1)))
theorem pe_addTx (ho : PE X o to) (he : PE X e te)
    (hbase : attributeBase o "add" X.env (eval o X.env) = eval o X.env := by rfl)
    (hfew : ((backTo cpos (starEach [e] X.env)).all (fun x => !x.1) && (backToKw cpos (keywordEach [] X.env)).all (fun x => x.1.isSome)
      && decide ([e].length + ([] : List Keyword).length + (if ([] : List Keyword).isEmpty then 0 else 1) < 30)) = true := by rfl)
    (hline : (apos.endLine == cpos.line) = true := by rfl) (hs : starEach [e] X.env = (false, eval e X.env) :: starEach [] X.env := by rfl) (hplain : (backTo cpos (starEach [] X.env)).any (·.1) = false := by rfl) :
    PE X (.Call (.Attribute o "add" apos) [e] [] cpos) (tAddTx X.w to te) := by
  refine ⟨fun pins s σ H Q I h => ?_⟩
  refine wpAny_Call_method_late hbase hfew hline rfl (thn (ho.run pins s σ H _ I h) fun v s1 ⟨x, H1, I1, r1, ⟨D, S, n, ex, hD⟩, q1⟩ => ?_)
  subst ex
  obtain rfl : v = Value.ref D := r1
  have R := txO_get I1 hD
  refine ⟨"set", "set.add", PySem.F.plainAttrs_set, PySem.F.slot_set_add, PySem.F.type_set_add, (R.of (P := X.prog)).typeIs, fun a ea => ?_, ?_⟩
  · cases ea
    obtain ⟨ob, el, k, tb, ⟨g1, g2, g3⟩, _⟩ := R
    exact ⟨ob, g1, g2.2.1⟩
  have hA := (pa_cons he pa_nil hs).run cpos pins s1 σ H1 (fun ys H2 => ∃ D2 S n z, V.ref D :: ys = [.ref D2, .str z] ∧ H2 D2 = some (TxO X.w D2 S n) ∧ n ≤ 4000 ∧ Q .non (upd H2 D2 (TxO X.w D2 (fun j => S j || decide (j = z)) (if S z = true then n else n + 1)))) I1 q1
  rw [hs] at hA ⊢
  refine Calls.callWith_builtin (by show (false || (backTo cpos (starEach [] X.env)).any (·.1)) = false; rw [hplain] <;> rfl) (Calls.evalArgs_plain ?_)
  refine thn hA fun us s2 ⟨vs, H2, I2, r2, q2⟩ => ?_
  obtain ⟨D2, S2, n2, z, e2, hD2, hn, q⟩ := q2
  cases e2
  obtain ⟨u, ⟨tk, rfl⟩, rfl⟩ : ∃ u, L2.RelV (.str z) u ∧ us = [u] := by
    cases r2 with
    | cons r rr =>
      cases rr
      exact ⟨_, r, rfl⟩
  have R2 := txO_get I2 hD2
  refine tx_add_call R2 (by unfold scanBound; omega) fun h' sb new => ?_
  have he : ∃ u, h'.get? D = some u := by
    obtain ⟨ob, _, _, _, ⟨g1, _⟩, _⟩ := new
    exact ⟨ob, g1⟩
  exact ⟨.non, _, I2.write (e := D) (t' := s2.toks + 1) (by rw [hD2]; trivial) (.inl rfl) (fun b u hb hu => (sb.2 b hb).trans hu) he (txO_new new), rfl, q⟩
end
section
variable {K : PySem.W.Frag} {w : World} {T : Addr} {q : Str} {to te : TE} {σ : L2.St} {H : Hp} {Q : VK}
theorem w_addTx : tAddTx w to te σ H Q = to σ H fun x H1 => (∃ D S n, x = .ref D ∧ H1 D = some (TxO w D S n)) ∧ te σ H1 fun y H2 => ∃ D S n z, [x, y] = [.ref D, .str z] ∧ H2 D = some (TxO w D S n) ∧ n ≤ 4000 ∧ Q .non (upd H2 D (TxO w D (fun j => S j || decide (j = z)) (if S z = true then n else n + 1))) := rfl
theorem w_sortL : tSortL K T q te σ H Q = te σ H fun x H1 => ∃ (a : Addr) (bs : List (V × Str)), [x] = [V.ref a] ∧ SqL K H1 a (bs.map Prod.fst) ∧ (∀ b ∈ bs, ∃ t us, b.1 = .ref t ∧ SqT K H1 t (.str b.2 :: us)) ∧ bs.length ≤ 1000000 ∧ LamX.TabS H1 T q ∧
  ∀ H2, (∀ b o, b ≠ T → H1 b = some o → H2 b = some o) → LamX.TabS H2 T q → ∀ p, H2 p = none → Q (.ref p) (upd H2 p (.lst ((byTxt bs).map Prod.fst))) := rfl
end
/-! ### for over a list or a tuple -/
section
variable {X : Cx} {tg : Expr}
def SqQ (K : PySem.W.Frag) (H : Hp) (a : Addr) (xs : List V) : Prop := SqL K H a xs ∨ SqT K H a xs
/-- over a list if it is one, else over a tuple: which, is told with the reading -/
def iSeq (K : PySem.W.Frag) (tl : TE) : TI := fun σ H R => tl σ H fun x H1 => ∃ a, x = .ref a ∧ (((∃ xs, SqL K H1 a xs) ∧ R (Itl K a) H1) ∨ ((∃ xs, SqT K H1 a xs) ∧ R (Itt K a) H1))
theorem pi_seq {l : Expr} {tl : TE} (hl : PE X l tl) : PI X tg l (iSeq X.K tl) := by
  refine ⟨fun pins s σ H R I h => ?_⟩
  refine thn (hl.run pins s σ H _ I h) fun v s1 ⟨x, H1, I1, r1, q1⟩ => ?_
  obtain ⟨a, e, q⟩ := q1
  subst e
  cases r1
  rcases q with ⟨⟨xs, hq⟩, q⟩ | ⟨⟨xs, hq⟩, q⟩
  · obtain ⟨its, rv, p, hz⟩ := I1.list hq
    refine wpAny_pyIter_list p.isList ?_
    refine ⟨s1.heap.objs.size, [s1.heap.objs.size], _, _, H1, rfl, I1.kept (t' := s1.toks) fun b o e => Heap.get?_push_of_some _ e, turn_list a _, ⟨_, Heap.get?_push_size _ rfl, rfl, rfl⟩, fun b hb => ?_, q⟩
    have e : b = s1.heap.objs.size := by simpa using hb
    subst e
    exact I1.fpOk (Nat.le_refl _) (I1.hok.fresh (Nat.le_refl _))
  · obtain ⟨its, rv, p, hz⟩ := I1.tuple hq
    refine wpAny_pyIter_tuple (show s1.heap.IsTuple a its.toArray from p) ?_
    refine ⟨s1.heap.objs.size, [s1.heap.objs.size], _, _, H1, rfl, I1.kept (t' := s1.toks) fun b o e => Heap.get?_push_of_some _ e, turn_tuple a _, ⟨_, Heap.get?_push_size _ rfl, rfl, rfl⟩, fun b hb => ?_, q⟩
    have e : b = s1.heap.objs.size := by simpa using hb
    subst e
    exact I1.fpOk (Nat.le_refl _) (I1.hok.fresh (Nat.le_refl _))
end
section
variable {K : PySem.W.Frag} {σ : L2.St} {H : Hp} {te : TE} {g : TG} {tb : L2.TS} {D : Ends} {a : Addr} {tl : TE} {tt : TT} {vs : List Nat} {Q : VK}
/-- such a loop, such a comprehension, shut until the invariant is told -/
def LpQ (K : PySem.W.Frag) (a : Addr) (g : TG) (tb : L2.TS) (D : Ends) (σ : L2.St) (H : Hp) : Prop := ((∃ xs, SqL K H a xs) ∧ LpL K a g tb D σ H) ∨ ((∃ xs, SqT K H a xs) ∧ LpT K a g tb D σ H)
theorem l_Q : tFor (iSeq K te) g tb D σ H = te σ H fun x H1 => ∃ a, x = .ref a ∧ LpQ K a g tb D σ H1 := rfl
theorem LpQ.by (xs : List V) (hs0 : SqQ K H a xs) (Pv : Nat → L2.St → Hp → Prop) (h0 : Pv 0 σ H)  (hL : SqL K H a xs → ∀ i σ H', i ≤ xs.length → Pv i σ H' → SqL K H' a xs) (hT : SqT K H a xs → ∀ i σ H', i ≤ xs.length → Pv i σ H' → SqT K H' a xs)
    (hs : ∀ i x σ H, xs[i]? = some x → Pv i σ H → g x σ H fun σ2 H2 => tb { D with nx := Pv (i + 1), ct := Pv (i + 1), bk := D.nx } σ2 H2) (hd : ∀ σ H, Pv xs.length σ H → D.nx σ H) : LpQ K a g tb D σ H := by
  rcases hs0 with h | h
  · exact .inl ⟨⟨_, h⟩, LpL.by xs Pv h0 (hL h) hs hd⟩
  · exact .inr ⟨⟨_, h⟩, LpT.by xs Pv h0 (hT h) hs hd⟩
def LcQ (K : PySem.W.Frag) (a : Addr) (g : TG) (tt : TT) (te : TE) (vs : List Nat) (σ : L2.St) (H : Hp) (Q : VK) : Prop := ((∃ xs, SqL K H a xs) ∧ LcL K a g tt te vs σ H Q) ∨ ((∃ xs, SqT K H a xs) ∧ LcT K a g tt te vs σ H Q)
theorem LcQ.by (xs : List V) (hs0 : SqQ K H a xs) (hL : SqL K H a xs → LcL K a g tt te vs σ H Q) (hT : SqT K H a xs → LcT K a g tt te vs σ H Q) : LcQ K a g tt te vs σ H Q := by
  rcases hs0 with h | h
  · exact .inl ⟨⟨_, h⟩, hL h⟩
  · exact .inr ⟨⟨_, h⟩, hT h⟩
end
/-! ### calls by keywords alone, of defs that may raise -/
structure CalXK (P : Program) (w : World) (K : PySem.W.Frag) (mg : Str → Option Value) (base : Heap) (k : Nat) (x : Str) (ps : List Str) (sp : Sp) (ks : List Str) (gV : List V → List V → List V) : Prop where
  ex : ∃ (f : Addr) (fd : FuncData) (g : List Value → List Value → List Value), FnOk P w K mg base (L2.CX P w) k f fd ps sp ∧ mg x = some (.ref f) ∧ PySem.W.keepIn K (.ref f) = true ∧ KBn K fd ps 0 ks g gV
def tCallSK (sp : Sp) (gV : List V → List V → List V) (m : Nat) (E : L2.St → XK) (tk : TA) : TE := fun σ H Q => tk σ H fun zs H2 => zs.length = m ∧ sp (gV [] zs) H2 Q (E σ)
section
variable {X : Cx} {k j : Nat} {x : Str} {ps ks : List Str} {sp : Sp} {p pos : Pos} {kws : List Keyword} {tk : TA} {gV : List V → List V → List V} {E : L2.St → XK}
theorem pe_calXK0 (c : CalXK X.prog X.w X.K X.mg X.base k x ps sp ks gV) (hr : Room j X.A) (hx : ∀ σ, PassesAt (L2.CX X.prog X.w) X σ (E σ)) (hkw : PK X kws tk) (hk : k ≤ j := by decide) (hall : (backToKw pos (keywordEach kws X.env)).all (·.1.isSome) = true := by rfl) (hks : (backToKw pos (keywordEach kws X.env)).filterMap (·.1) = ks := by rfl)
    (hg : Gl X x := by rfl) (hdb : (x == ("__debug__" : Str)) = false := by decide) (hpl : ((backTo pos (starEach [] X.env)).any (·.1) || (backToKw pos (keywordEach kws X.env)).any (·.1.isNone)) = false := by rfl) :
    PE X (.Call (.Name x p) [] kws pos) (tCallSK sp gV ks.length E tk) := by
  obtain ⟨f, fd, g, F, hm, kp, hb⟩ := c.ex
  refine ⟨fun pins s σ H Q I h => ?_⟩
  refine wpAny_Call_Name_kw (ld_glob I hg hm ?_ hdb)
  refine PySem.W.callWith_KW0 (h₀ := X.base) I.ok.mod.kin kp hall (thn (hkw.run pos pins s σ H _ I h) fun ws s2 ⟨zs, H2, I2, rz, l2, q2⟩ => ⟨I2.kIn, ?_⟩) hpl
  rw [hks]
  have r2 := hb.rel (.nil : Vals [] []) rz
  refine wpAny_call (codeAny_mono (F.run X.A X.stack s2 H2 ⟨[], ks.zip ws⟩ (g [] ws) (gV [] zs) Q (E σ) (hr.mono hk) I2.env0 (hb.to s2 [] ws I2.kIn rfl (rz.length.symm.trans l2)) r2 q2) fun r s' hq => ?_)
  cases r with
  | error e => exact hx σ pins H2 s2 e s' I2 hq
  | ok fl =>
    cases fl with
    | ret u => exact I2.after hq
    | next => exact False.elim hq
    | brk => exact False.elim hq
    | cont => exact False.elim hq
end
/-! ### try: one statement, its expression by any word -/
section
variable {X : Cx} {i l : Nat} {x n m : Str} {c : Value} {np pos pos' ap tp : Pos} {e : Expr} {b₀ : Stmt} {suite : List Stmt} {ts : Addr → Value → Option Addr → L2.TS} {te : WX → TE}
def tTryOG (K : PySem.W.Frag) (c : Value) (te : WX → TE) (i : Option Nat) (ts : Addr → Value → Option Addr → L2.TS) : L2.TS := fun D σ H => (match i with | some i => tAsg (te (wOnly K c ts (fun _ _ _ _ => False) D)) (gName i) | none => tDrop (te (wOnly K c ts (fun _ _ _ _ => False) D))) D σ H
def tTryAG (K : PySem.W.Frag) (c : Value) (te : WX → TE) (l : Nat) (ts : Addr → Value → Option Addr → L2.TS) : L2.TS := fun D σ H => tDrop (te (L2.wAs K c l ts (fun _ _ _ _ => False) D)) D σ H
theorem ps_tryOG_set (hb : ∀ (W : WX) (pn : List (Addr × Obj)) (xe : Value → Shared → Prop), L2.Takes (X.tr pn xe) W → PE (X.tr pn xe) e (te W)) (hc : L2.Names X x c) (hN : X.N.Nodup) (hi : X.N[i]? = some n) (hln : X.env.kindOf n = some .local)
    (hsu : ∀ (a : Addr) (oe : Obj) (cls : Value) (d : Option Addr) (pn : List (Addr × Obj)), L2.Zc cls d oe → (∃ vs, oe.data = .fields vs) → PSs (X.suite a ((a, oe) :: pn)) (b₀ :: suite) (ts a cls d)) (hs : X.stack = X.env :: X.outer := by rfl) (hf : X.env.frame = some X.env.locals := by rfl) (hsw : ∀ (pn : List (Addr × Obj)) (xe : Value → Shared → Prop), swapsWith e (some (.Name n ap)) tp.line (X.tr pn xe).env = pure false := by intros; rfl) :
    PS X (.Try [.Assign [.Name n ap] e tp] [.ExceptHandler (some (.Name x np)) none (b₀ :: suite) pos'] [] [] pos) (tTryOG X.K c te (some i) ts) :=
  ps_try_only (tb := fun W => tAsg (te W) (gName i)) hs hf hc takes0 (fun W pn xe tk _ => pss_one (ps_set (X := X.tr pn xe) hN hi (Or.inl hln) (hb W pn xe tk) (hf := Or.inr hln) (hs := hsw pn xe))) hsu
theorem ps_tryAG_drop (hb : ∀ (W : WX) (pn : List (Addr × Obj)) (xe : Value → Shared → Prop), L2.Takes (X.tr pn xe) W → PE (X.tr pn xe) e (te W)) (hc : L2.Names X x c) (hN : X.N.Nodup) (hi : X.N[l]? = some m) (hln : X.env.kindOf m = some .local)
    (hsu : ∀ (a : Addr) (oe : Obj) (cls : Value) (d : Option Addr) (pn : List (Addr × Obj)), L2.Zc cls d oe → (∃ vs, oe.data = .fields vs) → PSs (X.suite a ((a, oe) :: pn)) (b₀ :: suite) (ts a cls d)) (hs : X.stack = X.env :: X.outer := by rfl) (hf : X.env.frame = some X.env.locals := by rfl) (hsw : ∀ (pn : List (Addr × Obj)) (xe : Value → Shared → Prop), swapsWith e none tp.line (X.tr pn xe).env = pure false := by intros; rfl) :
    PS X (.Try [.Expr e tp] [.ExceptHandler (some (.Name x np)) (some m) (b₀ :: suite) pos'] [] [] pos) (tTryAG X.K c te l ts) :=
  ps_try_as (tb := fun W => tDrop (te W)) hs hf hN hi hln hc takes0 (fun W pn xe tk _ => pss_one (ps_expr (X := X.tr pn xe) (hb W pn xe tk) (hs := hsw pn xe))) hsu
end
section
variable {K : PySem.W.Frag} {c : Value} {te : WX → TE} {tk : TA} {sp : Sp} {gV : List V → List V → List V} {m : Nat} {E : L2.St → XK} {ts : Addr → Value → Option Addr → L2.TS} {i l : Nat} {D : Ends} {σ : L2.St} {H : Hp} {Q : VK}
theorem w_tryOG : tTryOG K c te (some i) ts D σ H = te (wOnly K c ts (fun _ _ _ _ => False) D) σ H fun v H1 => D.nx (σ.set i (some v)) H1 := rfl
theorem w_tryAG : tTryAG K c te l ts D σ H = te (L2.wAs K c l ts (fun _ _ _ _ => False) D) σ H fun _ H1 => D.nx σ H1 := rfl
theorem w_callSK : tCallSK sp gV m E tk σ H Q = tk σ H fun zs H2 => zs.length = m ∧ sp (gV [] zs) H2 Q (E σ) := rfl
end
theorem l_LcQ {K : PySem.W.Frag} {tl te : TE} {tt : TT} {g : TG} {vs : List Nat} {σ : L2.St} {H : Hp} {Q : VK} : tLc (iSeq K tl) g tt te vs σ H Q = tl σ H fun x H1 => ∃ a, x = .ref a ∧ LcQ K a g tt te vs σ H1 Q := rfl
theorem LpQ.by2 {K : PySem.W.Frag} {σ : L2.St} {H : Hp} {g : TG} {tb : L2.TS} {D : Ends} {a : Addr} (xs : List V) (Pv : Nat → L2.St → Hp → Prop) (hs0 : (SqL K H a xs ∧ ∀ i σ H', i ≤ xs.length → Pv i σ H' → SqL K H' a xs) ∨ (SqT K H a xs ∧ ∀ i σ H', i ≤ xs.length → Pv i σ H' → SqT K H' a xs)) (h0 : Pv 0 σ H)
    (hs : ∀ i x σ H, xs[i]? = some x → Pv i σ H → g x σ H fun σ2 H2 => tb { D with nx := Pv (i + 1), ct := Pv (i + 1), bk := D.nx } σ2 H2) (hd : ∀ σ H, Pv xs.length σ H → D.nx σ H) : LpQ K a g tb D σ H := by
  rcases hs0 with ⟨h, k⟩ | ⟨h, k⟩
  · exact .inl ⟨⟨_, h⟩, LpL.by xs Pv h0 k hs hd⟩
  · exact .inr ⟨⟨_, h⟩, LpT.by xs Pv h0 k hs hd⟩
/-- a def called by keywords alone, none of them missing -/
theorem Fun.kb {K : PySem.W.Frag} {x qual : Str} {st : Stmt} {f : Addr} {fd : FuncData} {ps : List Str} (F : Fun K x qual st f fd) (ks : List Str) (g : {α : Type} → List α → List α)
    (hrel : ∀ {zs : List V} {ws : List Value}, Vals zs ws → Vals (g zs) (g ws))
    (h : ∀ (kV doc pm cdv ct : Value) (an : Option Addr) (ws : List Value), ws.length = ks.length → bindArgs (PySem.W.fnOf x qual (defArgs st) (defBody st) (defScope st) .none kV doc pm an cdv ct) ⟨[], ks.zip ws⟩ = pure (ps.zip (g ws))) :
    KBn K fd ps 0 ks (fun _ ws => g ws) (fun _ zs => g zs) := by
  obtain ⟨oc, od, kV, doc, pm, an, cdv, ct, osl, rfl, lk, hcd⟩ := F.ex
  exact ⟨fun s us ws _ l1 l2 => by
    obtain rfl := List.eq_nil_of_length_eq_zero l1
    exact BindsTo.of_eq (h kV doc pm cdv ct an ws l2), fun _ r => hrel r⟩
/-- tuple(a list or a tuple) -/
def rTupQ (K : PySem.W.Frag) : List V → Hp → VK → Prop := fun vs H Q => (∃ p ys, vs = [V.ref p] ∧ SqT K H p ys ∧ Q (.ref p) H) ∨ rTupF K vs H Q
theorem call_tupQ {X : Cx} : CallR X (.type "tuple") (rTupQ X.K) := by
  intro pins s σ H vs us Q I r h
  rcases h with h | h
  · exact call_tupleT pins s σ H vs us Q I r h
  · exact call_tupF pins s σ H vs us Q I r h
theorem k_tupQ {X : Cx} (K : PySem.W.Frag) (h : X.K = K) : CallR X (.type "tuple") (rTupQ K) := by
  subst h
  exact call_tupQ
theorem r_tupQ {K : PySem.W.Frag} {vs : List V} {H : Hp} {Q : VK} : rTupQ K vs H Q = ((∃ p ys, vs = [V.ref p] ∧ SqT K H p ys ∧ Q (.ref p) H) ∨ rTupF K vs H Q) := rfl
theorem k_sortTx {X : Cx} (w : World) (hw : X.w = w) (hc : X.calm = true) : CallR X (.builtin "sorted") (rSortTx w) := by
  subst hw
  exact cr_sortTx hc
/-! ### checks of requests -/
/-- what a check answers: the class C of its error, the tables that may grow -/
def Ov (C : Addr) (Ts : List Addr) (b : Bool) (H : Hp) (Q : VK) (E : XK) : Prop := Tbs Ts H ∧ (b = true → ∀ H', TbG Ts H H' → Q .non H') ∧ (b = false → ∀ H', TbG Ts H H' → E (.ref C) none H')
section
variable {C : Addr} {Ts : List Addr} {b c : Bool} {H H1 : Hp} {Q : VK} {E : XK}
theorem Ov.go (h : Ov C Ts b H Q E) (g : TbG Ts H H1) : Ov C Ts b H1 Q E := ⟨g.1, fun e H' g' => h.2.1 e H' (g.trans g'), fun e H' g' => h.2.2 e H' (g.trans g')⟩
theorem Ov.same (h : Ov C Ts b H Q E) (s : Same H H1) : Ov C Ts b H1 Q E := h.go (TbG.same h.1 s)
theorem Ov.ts (h : Ov C Ts b H Q E) (g : TbG Ts H H1) : TS H H1 := TbG.ts h.1 g
theorem Ov.two (h : Ov C Ts (b && c) H Q E) {Q2 : VK} (hq : ∀ H1 v, Ov C Ts c H1 Q E → TbG Ts H H1 → b = true → Q2 v H1) : Ov C Ts b H Q2 E := by
  refine ⟨h.1, fun e H' g => hq H' _ (Ov.go (h := ?_) g) g e, fun e H' g => h.2.2 (by rw [e]; rfl) H' g⟩
  rw [e, Bool.true_and] at h
  exact h
theorem Ov.yes (h : Ov C Ts b H Q E) (e : b = true) : Q .non H := h.2.1 e H (TbG.refl h.1)
theorem Ov.no (h : Ov C Ts b H Q E) (e : b = false) : E (.ref C) none H := h.2.2 e H (TbG.refl h.1)
end
section
variable {K : PySem.W.Frag} {Ts : List Addr} {H H' : Hp} {a u : Addr} {xs : List V} {o : HO}
theorem TbG.sqL (h : Tbs Ts H) (g : TbG Ts H H') (s : SqL K H a xs) : SqL K H' a xs := by
  rcases s with (s | ⟨ob, s⟩) | s
  · exact .inl (.inl (g.at h s))
  · exact .inl (.inr ⟨ob, g.at h s⟩)
  · exact .inr s
/-- what was new may be written -/
theorem TbG.acc (h : Tbs Ts H) (n : H u = none) (g : TbG Ts H H') : TbG Ts H (upd H' u o) := by
  have nu : u ∉ Ts := fun m => by
    obtain ⟨ps, e, _⟩ := h u m
    rw [n] at e
    cases e
  refine ⟨fun T m => ?_, fun b o' nb e => ?_⟩
  · obtain ⟨ps, e, t⟩ := g.1 T m
    exact ⟨ps, by rw [upd_ne (show T ≠ u from fun z => nu (by rw [← z]; exact m))]; exact e, t⟩
  · rw [upd_ne (ne_of_none e n)]
    exact g.2 b o' nb e
end
/-- pairs: each its tuple's place, its field, its worth -/
abbrev Prs := List (Addr × Str × V)
def prV (P : Prs) : List V := P.map fun p => .ref p.1
def PrT (K : PySem.W.Frag) (H : Hp) (P : Prs) : Prop := ∀ p ∈ P, SqT K H p.1 [.str p.2.1, p.2.2] ∧ Sz p.2.1
theorem PrT.ts {K : PySem.W.Frag} {H H' : Hp} {P : Prs} (s : TS H H') (h : PrT K H P) : PrT K H' P := fun p m => ⟨s.tup (h p m).1, (h p m).2⟩
theorem prV_at {P : Prs} {i : Nat} {x : V} (h : (prV P)[i]? = some x) : ∃ p, P[i]? = some p ∧ x = .ref p.1 := by
  unfold prV at h
  rw [List.getElem?_map] at h
  cases e : P[i]? with
  | none => rw [e] at h; cases h
  | some n => rw [e] at h; exact ⟨n, rfl, (Option.some.inj h).symm⟩
def flds (P : Prs) : List Str := P.map fun p => p.2.1
/-- fields that are words, each once -/
def fok (P : Prs) : Bool := (P.all fun p => isW p.2.1) && decide ((flds P).Nodup)
theorem fok_bad {P : Prs} {p : Addr × Str × V} (m : p ∈ P) (h : isW p.2.1 = false) : fok P = false := by
  unfold fok
  rw [Bool.and_eq_false_iff]
  exact .inl (List.all_eq_false.mpr ⟨p, m, by rw [h]; simp⟩)
theorem fok_twice {P : Prs} {i : Nat} {p : Addr × Str × V} (h : P[i]? = some p) (m : p.2.1 ∈ flds (P.take i)) : fok P = false := by
  unfold fok
  rw [Bool.and_eq_false_iff]
  refine .inr (decide_eq_false fun nd => ?_)
  have e : P = P.take i ++ P.drop i := (List.take_append_drop i P).symm
  unfold flds at nd m
  rw [e, List.map_append] at nd
  have hd : P.drop i = p :: P.drop (i + 1) := by
    obtain ⟨hi, ei⟩ := List.getElem?_eq_some_iff.mp h
    rw [← ei]
    exact List.drop_eq_getElem_cons hi
  rw [hd, List.map_cons] at nd
  exact (List.nodup_append.mp nd).2.2 _ m _ List.mem_cons_self rfl
theorem msg_len {x y z : Str} (hx : x.length ≤ 100) (hy : y.length ≤ 40002) (hz : z.length ≤ 100) : (Str.empty ++ x).length ≤ sizeLine ∧ y.length ≤ sizeLine ∧ (Str.empty ++ x ++ y).length ≤ sizeLine ∧ (Str.empty ++ x ++ y ++ z).length ≤ sizeLine := by
  have e : Str.empty.length = 0 := rfl
  refine ⟨line_of ?_, line_of ?_, line_of ?_, line_of ?_⟩ <;> (try simp only [len_app]) <;> omega
/-! ### literals and bounds -/
def ltD (c : Cn) (b : Bool) : PyData := .tuple [cnD c, .bool b]
/-- the bound of a literal about x, y, c -/
def bdL (x y : Str) (c : Int) (b : Bool) : Str := if b then x else y
def bdR (x y : Str) (c : Int) (b : Bool) : Str := if b then y else x
def bdC (c : Int) (b : Bool) : Int := if b then c else -c - 1
def bdD (x y : Str) (c : Int) (b : Bool) : PyData := .tuple [.str (bdL x y c b), .str (bdR x y c b), .int (bdC c b)]
theorem ltD_tupo (c : Cn) (b : Bool) : tupo (ltD c b) = true := tupo2 (cnD_tupo c) (by unfold tupo; rfl)
theorem bdD_tupo (x y : Str) (c : Int) (b : Bool) : tupo (bdD x y c b) = true := tupo3 tupo_s tupo_s tupo_i
theorem bdD_good (x y : Str) (c : Int) (b : Bool) : good (bdD x y c b) = true ∧ deep (bdD x y c b) < 8 := by
  refine ⟨?_, ?_⟩
  · unfold bdD good
    rw [Bool.and_eq_true, decide_eq_true_eq]
    refine ⟨by show 3 ≤ 1000000; decide, goods_of fun d m => ?_⟩
    simp only [List.mem_cons, List.not_mem_nil, or_false] at m
    rcases m with rfl | rfl | rfl
    · exact good_s.1
    · exact good_s.1
    · exact good_i.1
  · show 0 + 1 < 8
    decide
theorem bd_keeps (p : Nat → List (Str × PyData)) (x y : Str) (c : Int) (b : Bool) : decide (num p (bdL x y c b) - num p (bdR x y c b) ≤ bdC c b) = (decide (num p x - num p y ≤ c) == b) := by
  unfold bdL bdR bdC
  cases b
  · simp only [Bool.false_eq_true, if_false]
    by_cases h : num p x - num p y ≤ c
    · rw [decide_eq_true h, decide_eq_false (by omega)]
      rfl
    · rw [decide_eq_false h, decide_eq_true (by omega)]
      rfl
  · simp only [if_true]
    by_cases h : num p x - num p y ≤ c
    · rw [decide_eq_true h]
      rfl
    · rw [decide_eq_false h]
      rfl
theorem good_b {b : Bool} : good (.bool b) = true ∧ deep (.bool b) < 8 := ⟨by unfold good; rfl, (show 0 < 8 by decide)⟩
theorem Dp.blI {K : PySem.W.Frag} {H : Hp} {v : V} {z : Bool} (h : Dp K H v (.bool z)) : v = .bl z := by cases h; rfl
/-- a short word, or the blank -/
theorem word_ok3 {n : Nat} (hn : n < 2 ^ 120) : blw (⟨(atw n).toArray⟩ : Str) ∧ (⟨(atw n).toArray⟩ : Str).length ≤ 120 := by
  have hl : (⟨(atw n).toArray⟩ : Str).length ≤ 120 := by
    show (atw n).toArray.size ≤ 120
    rw [List.size_toArray]
    exact atw_len 120 n hn
  refine ⟨?_, hl⟩
  by_cases h : n = 0
  · subst h
    rw [atw_zero]
    exact .inl rfl
  · refine .inr ⟨fun c hc => atw_az n c (by simpa using hc), ?_, by omega⟩
    show 1 ≤ (atw n).toArray.size
    rw [List.size_toArray, atw_pos h, List.length_append]
    show 1 ≤ _ + 1
    omega
theorem tl_pos {x y : Str} (h : tl x < tl y) : y ≠ "" := fun e => by
  rw [e, show tl ("" : Str) = [] from rfl] at h
  exact absurd h (List.not_lt_nil _)
theorem blw.wd {y : Str} (h : blw y) (n : y ≠ "") : Wd y := h.resolve_left n
/-- two different texts in their order -/
theorem two_rise {ys : List Str} {x y : Str} (ne : x ≠ y) (p : ys.Perm [x, y]) (s : sortedS ys = true) : ∃ a b, ys = [a, b] ∧ tl a < tl b ∧ ((a = x ∧ b = y) ∨ (a = y ∧ b = x)) := by
  have nd : ys.Nodup := p.nodup_iff.mpr (by simp [ne])
  have st := strict_of ys s nd
  match ys, p.length_eq with
  | [a, b], _ =>
    rw [List.pairwise_cons] at st
    refine ⟨a, b, rfl, st.1 b (List.mem_singleton.mpr rfl), ?_⟩
    have ma : a = x ∨ a = y := by simpa using p.mem_iff.mp (List.mem_cons_self (a := a) (l := [b]))
    have mb : b = x ∨ b = y := by simpa using p.mem_iff.mp (List.mem_cons_of_mem a (List.mem_singleton.mpr (rfl : b = b)))
    have nab : a ≠ b := by
      rw [List.nodup_cons] at nd
      simpa using nd.1
    rcases ma with rfl | rfl <;> rcases mb with rfl | rfl
    · exact absurd rfl nab
    · exact .inl ⟨rfl, rfl⟩
    · exact .inr ⟨rfl, rfl⟩
    · exact absurd rfl nab
theorem atI_int2 {xs : List Int} {z : Int} (h0 : 0 ≤ z) (h1 : z < xs.length) : ∃ n, atI (xs.map V.int) z = some (.int n) ∧ xs[z.toNat]? = some n := by
  obtain ⟨v, e, e2⟩ := at_lt (xs := xs.map V.int) (z := z) h0 (by rw [List.length_map]; exact h1)
  rw [List.getElem?_map] at e2
  cases e3 : xs[z.toNat]? with
  | none => rw [e3] at e2; cases e2
  | some n =>
    rw [e3] at e2
    exact ⟨n, by rw [e]; exact congrArg some (Option.some.inj e2).symm, rfl⟩
theorem tl_mk (l : List Nat) : tl (⟨l.toArray⟩ : Str) = l := by show l.toArray.toList = _; simp
theorem word_ne {n : Nat} (h : n ≠ 0) : (⟨(atw n).toArray⟩ : Str) ≠ "" := fun e => by
  have e2 := congrArg tl e
  rw [tl_mk, show tl ("" : Str) = [] from rfl, atw_pos h] at e2
  simp at e2
theorem snoc_ne (y : Str) : y ≠ y ++ ("b" : Str) := fun e => by
  have := congrArg Str.length e
  rw [len_app] at this
  have : ("b" : Str).length = 1 := by decide
  omega
theorem Wd.b {y : Str} (h : blw y) (l : y.length ≤ 900) : Wd (y ++ ("b" : Str)) := by
  have hl : ("b" : Str).length = 1 := by decide
  refine ⟨AZ.app ?_ ?_, by rw [len_app]; omega, by rw [len_app]; omega⟩
  · rcases h with rfl | h
    · exact AZ.nil
    · exact h.1
  · intro c hc
    rw [show tl ("b" : Str) = [98] from rfl, List.mem_singleton] at hc
    omega
/-- a comprehension that leaves some out -/
theorem filB_snoc (zs : List (V × Bool)) (i : Nat) (z : V × Bool) (h : zs[i]? = some z) : ((zs.take (i + 1)).filter (·.2)).map Prod.fst = ((zs.take i).filter (·.2)).map Prod.fst ++ (if z.2 = true then [z.1] else []) := by
  rw [List.take_add_one, h, List.filter_append, List.map_append]
  cases e : z.2 <;> simp [e]
theorem LcL.filB {K : PySem.W.Frag} {H : Hp} {σ : L2.St} {vs : List Nat} {tt : TT} {Q : VK} {k : Nat} {a : Addr} (zs : List (V × Bool)) (hn : zs.length ≤ 1000000) (hS : SqL K H a (zs.map Prod.fst)) (hw : ∀ x, wipe ((wipe σ vs).set k (some x)) vs = wipe σ vs) (hk : ∀ x : V, ((wipe σ vs).set k (some x))[k]? = some (some x))
    (hel : ∀ (i : Nat) (z : V × Bool) (H1 : Hp) (QB : Bool → Hp → Prop), zs[i]? = some z → Same H H1 → (∀ H2, Same H1 H2 → QB z.2 H2) → tt ((wipe σ vs).set k (some z.1)) H1 QB)
    (hq : ∀ (c : Addr) (H2 : Hp), H c = none → Same H H2 → H2 c = some (.lst ((zs.filter (·.2)).map Prod.fst)) → Q (.ref c) H2) : LcL K a (gName k) tt (tVar k) vs σ H Q :=
  LcL.by (zs.map Prod.fst) fun c nc => by
    refine ⟨fun i H' => Same H H' ∧ H' c = some (.lst (((zs.take i).filter (·.2)).map Prod.fst)), ⟨Same.new nc, upd_same⟩, fun i H1 hi I => I.1.seq hS, fun i x H1 hi I => ?_, fun H1 I => ?_⟩
    · rw [List.getElem?_map] at hi
      cases ez : zs[i]? with
      | none => rw [ez] at hi; cases hi
      | some z =>
        rw [ez] at hi
        cases Option.some.inj hi
        show wipe _ vs = _ ∧ tt _ H1 _
        refine ⟨hw _, hel i z H1 _ ez I.1 fun H2 s2 => ?_⟩
        have ll : (((zs.take i).filter (·.2)).map Prod.fst).length ≤ 1000000 := by
          rw [List.length_map]
          exact Nat.le_trans (List.length_filter_le _ _) (by rw [List.length_take]; omega)
        have sn := filB_snoc zs i z ez
        refine ite2 (fun e => ?_) (fun e => ?_)
        · show ∃ v, _ ∧ _
          refine ⟨_, hk _, _, s2 _ _ I.2, line_lt (by omega), fun b o eb => ?_, ?_⟩
          · rw [upd_ne (ne_of_none eb nc)]
            exact s2 b o (I.1 b o eb)
          · rw [upd_same, sn, if_pos e]
        · exact ⟨I.1.trans s2, by rw [sn, if_neg e, List.append_nil]; exact s2 _ _ I.2⟩
    · refine hq c H1 nc I.1 ?_
      have := I.2
      rw [List.length_map, List.take_length] at this
      exact this
theorem Go.none_ {d p : Addr} {H H' : Hp} (g : Go d H H') (n : p ≠ d) (h : H' p = none) : H p = none := by
  cases e : H p with
  | none => rfl
  | some o => rw [g.fr p o n e] at h; cases h
theorem Same.none_ {p : Addr} {H H' : Hp} (g : Same H H') (h : H' p = none) : H p = none := by
  cases e : H p with
  | none => rfl
  | some o => rw [g p o e] at h; cases h
/-- a request of numbers alone -/
def onlyN (ps : List (Str × PyData)) : Nat → List (Str × PyData) := fun k => if k = 3 then ps else []
theorem okS_nil (k : Nat) : okS k [] := ⟨Nat.zero_le _, fun p m => (by cases m), fun p m => (by cases m), .nil⟩
theorem onlyN_ok {ps : List (Str × PyData)} (h : okS 3 ps) : okR (onlyN ps) := fun k _ => by
  unfold onlyN
  split
  · rename_i e
    rw [e]
    exact h
  · exact okS_nil k
theorem okV_i {i : Int} (h : i ≠ 0) : okV 3 (.int i) := .inr (.inl ⟨rfl, i, rfl, h⟩)
/-- the script, older than the draws -/
def Sc (K : PySem.W.Frag) (d a : Addr) (ns : List Int) (H : Hp) : Prop := ∃ H0, Same H0 H ∧ H0 d = none ∧ SqL K H0 a (ns.map V.int)
theorem Sc.go {K : PySem.W.Frag} {d a : Addr} {ns : List Int} {H H' : Hp} (s : Sc K d a ns H) (g : Go d H H') : Sc K d a ns H' := let ⟨H0, s0, n, h⟩ := s; ⟨H0, g.base s0 n, n, h⟩
theorem Sc.sq {K : PySem.W.Frag} {d a : Addr} {ns : List Int} {H : Hp} (s : Sc K d a ns H) : SqL K H a (ns.map V.int) := let ⟨_, s0, _, h⟩ := s; s0.seq h
theorem Sc.same {K : PySem.W.Frag} {d a : Addr} {ns : List Int} {H H' : Hp} (s : Sc K d a ns H) (g : Same H H') : Sc K d a ns H' := let ⟨H0, s0, n, h⟩ := s; ⟨H0, s0.trans g, n, h⟩
theorem same_put {H H' : Hp} {p : Addr} {o : HO} (s : Same H H') (n : H p = none) : Same H (upd H' p o) := fun a u e => by
  rw [upd_ne (ne_of_none e n)]
  exact s a u e
theorem kbs : kitB "str" "bool" = some false := by decide +kernel
theorem kbi : kitB "str" "int" = some false := by decide +kernel
theorem kbt : kitB "tuple" "bool" = some false := by decide +kernel
theorem kbu : kitB "tuple" "int" = some false := by decide +kernel
theorem kbv : kitB "tuple" "str" = some false := by decide +kernel
theorem kbx : kitB "list" "bool" = some false := by decide +kernel
theorem kby : kitB "list" "int" = some false := by decide +kernel
theorem kbz : kitB "list" "str" = some false := by decide +kernel
theorem tupos_mem {ds : List PyData} {d : PyData} (h : tupos ds = true) (m : d ∈ ds) : tupo d = true := by
  induction ds with
  | nil => cases m
  | cons x r ih =>
    unfold tupos at h
    rw [Bool.and_eq_true] at h
    rcases List.mem_cons.mp m with rfl | m
    · exact h.1
    · exact ih h.2 m
theorem tupos_take {ds : List PyData} (h : tupos ds = true) (i : Nat) : tupos (ds.take i) = true := tupos_of fun _ m => tupos_mem h (List.mem_of_mem_take m)
theorem sgn_app3 (c : Nat) (cs : List Nat) : ((⟨#[c]⟩ : Str) ++ (⟨cs.toArray⟩ : Str)) = ⟨(c :: cs).toArray⟩ := ext_tl (by rw [tl_append]; exact rfl)
/-! ### comprehensions over a list or tuple, the heap growing by new objects alone -/
section
variable {K : PySem.W.Frag} {H : Hp} {σ : L2.St} {vs : List Nat} {te : TE} {Q : VK} {k : Nat} {a : Addr}
theorem LcL.vals {its : List V} (rs : List V) (hl : its.length = rs.length) (hn : rs.length ≤ 1000000) (hS : SqL K H a its) (hw : ∀ x, wipe ((wipe σ vs).set k (some x)) vs = wipe σ vs)
    (hel : ∀ (i : Nat) (u r : V) (H1 : Hp) (R : VK), its[i]? = some u → rs[i]? = some r → Same H H1 → (∀ H2, Same H1 H2 → R r H2) → te ((wipe σ vs).set k (some u)) H1 R)
    (hq : ∀ (c : Addr) (H2 : Hp), H c = none → Same H H2 → H2 c = some (.lst rs) → Q (.ref c) H2) : LcL K a (gName k) tYes te vs σ H Q :=
  LcL.by its fun c nc => by
    refine ⟨fun i H' => Same H H' ∧ H' c = some (.lst (rs.take i)), ⟨Same.new nc, upd_same⟩, fun i H1 hi I => I.1.seq hS, fun i x H1 hi I => ?_, fun H1 I => ?_⟩
    · have hi2 := (List.getElem?_eq_some_iff.mp hi).1
      have er : rs[i]? = some rs[i] := List.getElem?_eq_getElem (by omega)
      show wipe _ vs = _ ∧ te _ H1 _
      refine ⟨hw _, hel i x _ H1 _ hi er I.1 fun H2 s2 => ⟨_, s2 _ _ I.2, line_lt (by rw [List.length_take]; omega), same_put (I.1.trans s2) nc, ?_⟩⟩
      rw [upd_same, List.take_add_one, er]
      rfl
    · refine hq c H1 nc I.1 ?_
      rw [I.2, List.take_of_length_le (by omega)]
theorem LcT.vals {its : List V} (rs : List V) (hl : its.length = rs.length) (hn : rs.length ≤ 1000000) (hS : SqT K H a its) (hw : ∀ x, wipe ((wipe σ vs).set k (some x)) vs = wipe σ vs)
    (hel : ∀ (i : Nat) (u r : V) (H1 : Hp) (R : VK), its[i]? = some u → rs[i]? = some r → Same H H1 → (∀ H2, Same H1 H2 → R r H2) → te ((wipe σ vs).set k (some u)) H1 R)
    (hq : ∀ (c : Addr) (H2 : Hp), H c = none → Same H H2 → H2 c = some (.lst rs) → Q (.ref c) H2) : LcT K a (gName k) tYes te vs σ H Q :=
  LcT.by its fun c nc => by
    refine ⟨fun i H' => Same H H' ∧ H' c = some (.lst (rs.take i)), ⟨Same.new nc, upd_same⟩, fun i H1 hi I => Same.tup I.1 hS, fun i x H1 hi I => ?_, fun H1 I => ?_⟩
    · have hi2 := (List.getElem?_eq_some_iff.mp hi).1
      have er : rs[i]? = some rs[i] := List.getElem?_eq_getElem (by omega)
      show wipe _ vs = _ ∧ te _ H1 _
      refine ⟨hw _, hel i x _ H1 _ hi er I.1 fun H2 s2 => ⟨_, s2 _ _ I.2, line_lt (by rw [List.length_take]; omega), same_put (I.1.trans s2) nc, ?_⟩⟩
      rw [upd_same, List.take_add_one, er]
      rfl
    · refine hq c H1 nc I.1 ?_
      rw [I.2, List.take_of_length_le (by omega)]
/-- the same with data that are made -/
theorem LcL.dats {its : List V} (ds : List PyData) (td : tupos ds = true) (hl : its.length = ds.length) (hn : ds.length ≤ 1000000) (hS : SqL K H a its) (hw : ∀ x, wipe ((wipe σ vs).set k (some x)) vs = wipe σ vs)
    (hel : ∀ (i : Nat) (u : V) (d : PyData) (H1 : Hp) (R : VK), its[i]? = some u → ds[i]? = some d → Same H H1 → (∀ v H2, Dp K H2 v d → Same H1 H2 → R v H2) → te ((wipe σ vs).set k (some u)) H1 R)
    (hq : ∀ (c : Addr) (H2 : Hp) (us : List V), H c = none → Same H H2 → H2 c = some (.lst us) → DpAll K H2 us ds → Q (.ref c) H2) : LcL K a (gName k) tYes te vs σ H Q :=
  LcL.by its fun c nc => by
    refine ⟨fun i H' => Same H H' ∧ ∃ us, H' c = some (.lst us) ∧ DpAll K H' us (ds.take i), ⟨Same.new nc, [], upd_same, .nil⟩, fun i H1 hi I => I.1.seq hS, fun i x H1 hi I => ?_, fun H1 I => ?_⟩
    · have hi2 := (List.getElem?_eq_some_iff.mp hi).1
      have er : ds[i]? = some ds[i] := List.getElem?_eq_getElem (by omega)
      obtain ⟨s1, us, eu, da⟩ := I
      show wipe _ vs = _ ∧ te _ H1 _
      refine ⟨hw _, hel i x _ H1 _ hi er s1 fun v H2 dv s2 => ⟨us, s2 _ _ eu, line_lt (by rw [DpAll.len da, List.length_take]; omega), same_put (s1.trans s2) nc, us ++ [v], upd_same, ?_⟩⟩
      have t3 : TS H2 (upd H2 c (.lst (us ++ [v]))) := TS.lst (s2 _ _ eu)
      rw [List.take_add_one, er]
      exact DpAll.snoc (Dp.ts t3 _ _ (tupos_mem td (List.getElem_mem _)) dv) (DpAll.ts t3 _ _ (tupos_take td i) (DpAll.go s2 _ _ da))
    · obtain ⟨s1, us, eu, da⟩ := I
      rw [List.take_of_length_le (by omega)] at da
      exact hq c H1 us nc s1 eu da
theorem LcT.dats {its : List V} (ds : List PyData) (td : tupos ds = true) (hl : its.length = ds.length) (hn : ds.length ≤ 1000000) (hS : SqT K H a its) (hw : ∀ x, wipe ((wipe σ vs).set k (some x)) vs = wipe σ vs)
    (hel : ∀ (i : Nat) (u : V) (d : PyData) (H1 : Hp) (R : VK), its[i]? = some u → ds[i]? = some d → Same H H1 → (∀ v H2, Dp K H2 v d → Same H1 H2 → R v H2) → te ((wipe σ vs).set k (some u)) H1 R)
    (hq : ∀ (c : Addr) (H2 : Hp) (us : List V), H c = none → Same H H2 → H2 c = some (.lst us) → DpAll K H2 us ds → Q (.ref c) H2) : LcT K a (gName k) tYes te vs σ H Q :=
  LcT.by its fun c nc => by
    refine ⟨fun i H' => Same H H' ∧ ∃ us, H' c = some (.lst us) ∧ DpAll K H' us (ds.take i), ⟨Same.new nc, [], upd_same, .nil⟩, fun i H1 hi I => Same.tup I.1 hS, fun i x H1 hi I => ?_, fun H1 I => ?_⟩
    · have hi2 := (List.getElem?_eq_some_iff.mp hi).1
      have er : ds[i]? = some ds[i] := List.getElem?_eq_getElem (by omega)
      obtain ⟨s1, us, eu, da⟩ := I
      show wipe _ vs = _ ∧ te _ H1 _
      refine ⟨hw _, hel i x _ H1 _ hi er s1 fun v H2 dv s2 => ⟨us, s2 _ _ eu, line_lt (by rw [DpAll.len da, List.length_take]; omega), same_put (s1.trans s2) nc, us ++ [v], upd_same, ?_⟩⟩
      have t3 : TS H2 (upd H2 c (.lst (us ++ [v]))) := TS.lst (s2 _ _ eu)
      rw [List.take_add_one, er]
      exact DpAll.snoc (Dp.ts t3 _ _ (tupos_mem td (List.getElem_mem _)) dv) (DpAll.ts t3 _ _ (tupos_take td i) (DpAll.go s2 _ _ da))
    · obtain ⟨s1, us, eu, da⟩ := I
      rw [List.take_of_length_le (by omega)] at da
      exact hq c H1 us nc s1 eu da
end
/-! ### generators over two lists side by side -/
section
variable {K : PySem.W.Frag} {a b : Addr} {xs ys : List V} {bs : List Bool} {q : Bool} {H2 : Hp} {g : TG} {tt : TT} {te : TE} {vs : List Nat} {σ0 : L2.St} {Q : VK}
theorem gn_zip (Rel : Hp → Prop) (hl : xs.length = bs.length) (hl2 : ys.length = bs.length) (h0 : Rel H2) (hS : ∀ H, Rel H → SqL K H a xs ∧ SqL K H b ys) (hN : ∀ H p o, Rel H → H p = none → Rel (upd H p o))
    (hs : ∀ (i : Nat) (T : Addr) (x y : V) (c : Bool) (H : Hp) (Kc : VK) (Nx : Hp → Prop), xs[i]? = some x → ys[i]? = some y → bs[i]? = some c → Rel H → H T = some (.tup [x, y]) → (∀ H', Rel H' → Kc (.bl c) H') → g (.ref T) σ0 H fun σ2 H' => wipe σ2 vs = σ0 ∧ tt σ2 H' fun c H3 => if c = true then te σ2 H3 Kc else Nx H3)
    (A B : Hp → Prop) (hA : ∀ H, Rel H → gnRes q bs = q → A H) (hB : ∀ H, Rel H → gnRes q bs = !q → B H) :
    ∃ W : Nat → Nat → Hp → Prop, (∃ m, W 0 m H2) ∧ gnTurn q (Itz K a b) g tt te vs σ0 W A B := by
  have end_ : ∀ i, xs.length ≤ i → (bs.take i).all (fun b => decide (b = q)) = true → gnRes q bs = q := fun i hi h => by
    rw [List.take_of_length_le (by omega)] at h
    unfold gnRes
    rw [if_pos h]
  have stop_ : ∀ (i : Nat) (b : Bool), bs[i]? = some b → b ≠ q → gnRes q bs = !q := fun i b e n => by
    unfold gnRes
    rw [if_neg]
    intro h
    exact n (of_decide_eq_true (List.all_eq_true.mp h b (List.mem_of_getElem? e)))
  refine ⟨fun i m H => m = xs.length - i ∧ i ≤ xs.length ∧ (bs.take i).all (fun b => decide (b = q)) = true ∧ Rel H, ⟨xs.length, by simp, Nat.zero_le _, by simp, h0⟩, ?_⟩
  rintro i m H ⟨rfl, hi, hb, r⟩
  by_cases hlt : i < xs.length
  · have hbl : i < bs.length := by omega
    have hbi : bs[i]? = some bs[i] := List.getElem?_eq_getElem hbl
    have hxi : xs[i]? = some xs[i] := List.getElem?_eq_getElem hlt
    have hyi : ys[i]? = some (ys[i]'(by omega)) := List.getElem?_eq_getElem (by omega)
    obtain ⟨sx, sy⟩ := hS H r
    refine .inr ⟨⟨xs, ys, _, _, sx, sy, hxi, hyi⟩, fun H' => Rel H' ∧ (bs.take (i + 1)).all (fun b => decide (b = q)) = true, fun H' ⟨r', e'⟩ => ⟨xs.length - (i + 1), by omega, rfl, hlt, e', r'⟩, fun x' H' y => ?_⟩
    obtain ⟨T, x, y, rfl, nT, rfl, ex, ey⟩ := y
    refine hs i T x y bs[i] _ _ _ (ex xs sx) (ey ys sy) hbi (hN H T _ r nT) upd_same fun H' r' => ⟨bs[i], rfl, ?_⟩
    by_cases hq : bs[i] = q
    · rw [if_pos hq]
      refine ⟨r', ?_⟩
      rw [List.take_add_one, hbi, List.all_append, hb]
      simp [hq]
    · rw [if_neg hq]
      exact hB H' r' (stop_ i _ hbi hq)
  · exact .inl ⟨⟨xs, ys, (hS H r).1, (hS H r).2, .inl (by omega)⟩, hA H r (end_ i (by omega) hb)⟩
theorem w_iZ {ta : TA} {σ : L2.St} {H : Hp} {R : It → Hp → Prop} : iZip K ta σ H R = ta σ H fun ws H1 => ∃ a b xs ys, ws = [.ref a, .ref b] ∧ SqL K H1 a xs ∧ SqL K H1 b ys ∧ R (Itz K a b) H1 := rfl
theorem r_sum {ws : List V} {H : Hp} : rSum K ws H Q = ∃ (a : Addr) (ns : List Int), ws = [V.ref a] ∧ SqL K H a (ns.map V.int) ∧ Q (.int ns.sum) H := rfl
theorem r_popAt {x : V} {ws : List V} {H : Hp} : rPopAt x ws H Q = ∃ l xs i k y, x = .ref l ∧ ws = [.int i] ∧ H l = some (.lst xs) ∧ -(2 ^ 63) ≤ i ∧ i < 2 ^ 63 ∧ seqIndex? i xs.length = some k ∧ xs[k]? = some y ∧ Q y (upd H l (.lst (xs.eraseIdx k))) := rfl
end
/-! ### rings -/
structure Lt4 where
  x : Str
  y : Str
  c : Int
  b : Bool
def lt4D (l : Lt4) : PyData := ltD (.most l.x l.y l.c) l.b
theorem lt4D_tupo (l : Lt4) : tupo (lt4D l) = true := ltD_tupo _ _
theorem lt4s_tupos (ls : List Lt4) : tupos (ls.map lt4D) = true := tupos_of fun d m => by
  obtain ⟨l, _, rfl⟩ := List.mem_map.mp m
  exact lt4D_tupo l
structure Bd where
  x : Str
  y : Str
  c : Int
def bdOf (l : Lt4) : Bd := ⟨bdL l.x l.y l.c l.b, bdR l.x l.y l.c l.b, bdC l.c l.b⟩
def bd3D (l : Bd) : PyData := .tuple [.str l.x, .str l.y, .int l.c]
theorem bd3D_eq (l : Lt4) : bd3D (bdOf l) = bdD l.x l.y l.c l.b := rfl
theorem bd3s_tupos (ls : List Bd) : tupos (ls.map bd3D) = true := tupos_of fun d m => by
  obtain ⟨l, _, rfl⟩ := List.mem_map.mp m
  exact tupo3 tupo_s tupo_s tupo_i
def lnk (bs : List Bd) : Bool := decide (bs.map (·.y) = (bs.drop 1 ++ bs.take 1).map (·.x))
def ringB (bs : List Bd) : Bool := !bs.isEmpty && (lnk bs && decide ((bs.map (·.c)).sum < 0))
theorem zip_any : ∀ (as cs : List Str), as.length = cs.length → ((as.zip cs).map fun z => !decide (z.1 = z.2)).any id = !decide (as = cs)
  | [], [], _ => rfl
  | x :: as, y :: cs, h => by
    rw [List.zip_cons_cons, List.map_cons, List.any_cons, zip_any as cs (Nat.succ.inj h)]
    by_cases e : x = y
    · subst e
      by_cases e2 : as = cs
      · subst e2; simp
      · simp [e2]
    · simp [e]
  | [], _ :: _, h => by cases h
  | _ :: _, [], h => by cases h
def chk (bs : List Bd) (j : Nat) : Prop := (bs[if j = 0 then bs.length - 1 else j - 1]?).map (·.y) = (bs[j]?).map (·.x)
theorem rot_at (bs : List Bd) (i : Nat) (h : i < bs.length) : (bs.drop 1 ++ bs.take 1)[i]? = bs[if i = bs.length - 1 then 0 else i + 1]? := by
  have hd : (bs.drop 1).length = bs.length - 1 := by simp
  by_cases e : i = bs.length - 1
  · rw [if_pos e, List.getElem?_append_right (by omega), hd, e, Nat.sub_self]
    cases bs with
    | nil => simp at h
    | cons b r => rfl
  · rw [if_neg e, List.getElem?_append_left (by omega), List.getElem?_drop, Nat.add_comm]
theorem lnk_iff (bs : List Bd) : lnk bs = true ↔ ∀ j, j < bs.length → chk bs j := by
  unfold lnk
  rw [decide_eq_true_eq]
  have hl : (bs.drop 1 ++ bs.take 1).length = bs.length := by
    rw [List.length_append, List.length_drop, List.length_take]
    omega
  constructor
  · intro h j hj
    unfold chk
    have key : ∀ i, i < bs.length → (bs[i]?).map (·.y) = (bs[if i = bs.length - 1 then 0 else i + 1]?).map (·.x) := fun i hi => by
      have := congrArg (fun l : List Str => l[i]?) h
      simp only [List.getElem?_map] at this
      rw [this, rot_at bs i hi]
    by_cases e : j = 0
    · rw [if_pos e, key (bs.length - 1) (by omega), if_pos rfl, e]
    · rw [if_neg e, key (j - 1) (by omega), if_neg (by omega)]
      congr 2
      omega
  · intro h
    refine List.ext_getElem? fun i => ?_
    rw [List.getElem?_map, List.getElem?_map]
    by_cases hi : i < bs.length
    · rw [rot_at bs i hi]
      by_cases e : i = bs.length - 1
      · have := h 0 (by omega)
        unfold chk at this
        rw [if_pos rfl] at this
        rw [if_pos e, e]
        exact this
      · have := h (i + 1) (by omega)
        unfold chk at this
        rw [if_neg (by omega), Nat.add_sub_cancel] at this
        rw [if_neg e]
        exact this
    · rw [List.getElem?_eq_none (by omega), List.getElem?_eq_none (by omega)]
      rfl
/-- no numbers keep the bounds of a ring -/
theorem ring_no {bs : List Bd} (v : Str → Int) (h : ringB bs = true) (k : ∀ b ∈ bs, v b.x - v b.y ≤ b.c) : False := by
  unfold ringB at h
  rw [Bool.and_eq_true, Bool.and_eq_true, decide_eq_true_eq] at h
  obtain ⟨_, h1, h2⟩ := h
  unfold lnk at h1
  rw [decide_eq_true_eq] at h1
  have e1 : (bs.map fun b => v b.y).sum = (bs.map fun b => v b.x).sum := by
    have e : (bs.map (·.y)).map v = ((bs.drop 1 ++ bs.take 1).map (·.x)).map v := by rw [h1]
    rw [List.map_map, List.map_map] at e
    have e2 := congrArg List.sum e
    rw [List.map_append, List.sum_append, Int.add_comm, ← List.sum_append, ← List.map_append, List.take_append_drop] at e2
    exact e2
  have le : ∀ l : List Bd, (∀ b ∈ l, v b.x - v b.y ≤ b.c) → (l.map fun b => v b.x).sum - (l.map fun b => v b.y).sum ≤ (l.map (·.c)).sum := by
    intro l
    induction l with
    | nil => intro _; simp
    | cons b r ih =>
      intro kk
      have h1 := kk b List.mem_cons_self
      have h2 := ih fun c m => kk c (List.mem_cons_of_mem _ m)
      simp only [List.map_cons, List.sum_cons]
      omega
  have := le bs k
  omega
theorem cutV_drop1 (xs : List V) : cutV xs (some 1) none = xs.drop 1 := by
  unfold cutV
  rw [show HT.sIx xs.length 0 (some 1) = min 1 xs.length from HT.sIx_nat _ _ 1, HT.sIx_none]
  cases xs with
  | nil => rfl
  | cons x r =>
    rw [show min 1 (x :: r).length = 1 by rw [List.length_cons]; omega]
    show r.take _ = r
    rw [List.take_of_length_le (by simp)]
theorem cutV_take1 (xs : List V) : cutV xs none (some 1) = xs.take 1 := by
  unfold cutV
  rw [show HT.sIx xs.length xs.length (some 1) = min 1 xs.length from HT.sIx_nat _ _ 1, HT.sIx_none, Nat.sub_zero, List.drop_zero]
  cases xs with
  | nil => rfl
  | cons x r => rw [show min 1 (x :: r).length = 1 by rw [List.length_cons]; omega]
theorem dpall_drop {K : PySem.W.Frag} {H : Hp} (n : Nat) : ∀ {vs : List V} {ds : List PyData}, DpAll K H vs ds → DpAll K H (vs.drop n) (ds.drop n) := by
  induction n with
  | zero => exact fun h => h
  | succ n ih =>
    intro vs ds h
    cases h with
    | nil => exact .nil
    | cons a t => exact ih t
theorem bd_parts {K : PySem.W.Frag} {H : Hp} {v : V} {b : Bd} (h : Dp K H v (bd3D b)) : ∃ p : Addr, v = .ref p ∧ SqT K H p [.str b.x, .str b.y, .int b.c] := by
  obtain ⟨p, w0, w1, w2, rfl, hT, e0, e1, e2⟩ := Dp.trI h
  cases Dp.strI e0
  cases Dp.strI e1
  cases Dp.intI e2
  exact ⟨p, rfl, hT⟩
theorem bd_at {K : PySem.W.Frag} {H : Hp} {us : List V} {bs : List Bd} {i : Nat} {x : V} (h : DpAll K H us (bs.map bd3D)) (hi : us[i]? = some x) : ∃ (b : Bd) (p : Addr), bs[i]? = some b ∧ x = .ref p ∧ SqT K H p [.str b.x, .str b.y, .int b.c] := by
  have hl := DpAll.len h
  rw [List.length_map] at hl
  obtain ⟨h1, _⟩ := List.getElem?_eq_some_iff.mp hi
  have hb := List.getElem?_eq_getElem (l := bs) (i := i) (by omega)
  obtain ⟨p, e, hT⟩ := bd_parts (dpat h hi (by rw [List.getElem?_map, hb]; rfl))
  exact ⟨_, p, hb, e, hT⟩
theorem TbG.new {Ts : List Addr} {H H' : Hp} {p : Addr} {o : HO} (g : TbG Ts H H') (n : H' p = none) : TbG Ts H (upd H' p o) := g.trans (TbG.same g.1 (Same.new n))
theorem gnRes_false {bs : List Bool} : gnRes false bs = bs.any id := gnRes_any bs
theorem ringB_lnk {bs : List Bd} (n : bs ≠ []) : ringB bs = (lnk bs && decide ((bs.map (·.c)).sum < 0)) := by
  unfold ringB
  cases bs with
  | nil => exact absurd rfl n
  | cons b r => rfl
def LtV (K : PySem.W.Frag) (H : Hp) (v : V) : Prop := ∃ l : Lt4, Dp K H v (lt4D l)
theorem lts_of {K : PySem.W.Frag} {H : Hp} : ∀ {us : List V}, (∀ v ∈ us, LtV K H v) → ∃ ls : List Lt4, DpAll K H us (ls.map lt4D)
  | [], _ => ⟨[], .nil⟩
  | v :: r, h => by
    obtain ⟨l, dl⟩ := h v List.mem_cons_self
    obtain ⟨ls, da⟩ := lts_of (us := r) fun x m => h x (List.mem_cons_of_mem _ m)
    exact ⟨l :: ls, .cons dl da⟩
theorem lts_memD {K : PySem.W.Frag} {H : Hp} {us : List V} {ls : List Lt4} (h : DpAll K H us (ls.map lt4D)) : ∀ v ∈ us, LtV K H v := by
  induction us generalizing ls with
  | nil => intro v m; cases m
  | cons x r ih =>
    intro v m
    cases ls with
    | nil => cases h
    | cons l t =>
      cases h with
      | cons a b =>
        rcases List.mem_cons.mp m with rfl | m
        · exact ⟨l, a⟩
        · exact ih b v m
theorem LtV.ts {K : PySem.W.Frag} {H H' : Hp} {v : V} (s : TS H H') (h : LtV K H v) : LtV K H' v := by
  obtain ⟨l, dl⟩ := h
  exact ⟨l, Dp.ts s _ _ (lt4D_tupo l) dl⟩
theorem lt_parts {K : PySem.W.Frag} {H : Hp} {v : V} {l : Lt4} (h : Dp K H v (lt4D l)) : ∃ (p : Addr) (u : V), v = .ref p ∧ SqT K H p [u, .bl l.b] ∧ Dp K H u (cnD (.most l.x l.y l.c)) := by
  obtain ⟨p, u, w, rfl, hT, d0, d1⟩ := Dp.pairI h
  cases Dp.blI d1
  exact ⟨p, u, rfl, hT, d0⟩
theorem mem_set_ {us : List V} {k : Nat} {x v : V} (m : v ∈ us.set k x) : v ∈ us ∨ v = x := (List.mem_or_eq_of_mem_set m)
theorem ixN_at {n : Nat} {z : Int} (h0 : 0 ≤ z) (h1 : z < n) : ixN n z = some z.toNat := by
  unfold ixN
  rw [if_pos h0, if_pos h1]
theorem atI_last_ {xs : List V} (h : 0 < xs.length) : ∃ v, atI xs (-1) = some v ∧ xs[xs.length - 1]? = some v := by
  have h1 : xs.length - 1 < xs.length := by omega
  refine ⟨xs[xs.length - 1], ?_, List.getElem?_eq_getElem h1⟩
  unfold atI ixN
  rw [if_neg (by decide), if_pos (by omega)]
  show xs[(-1 + (xs.length : Int)).toNat]? = _
  rw [show (-1 + (xs.length : Int)).toNat = xs.length - 1 by omega, List.getElem?_eq_getElem h1]
theorem ixN_last {n : Nat} (h : 0 < n) : ixN n (-1) = some (n - 1) := by
  unfold ixN
  rw [if_neg (by decide), if_pos (by omega)]
  congr 1
  omega
theorem cutV_int (ns : List Int) (lo hi : Option Int) : ∃ ms : List Int, cutV (ns.map V.int) lo hi = ms.map V.int := by
  unfold cutV
  rw [← List.map_drop, ← List.map_take]
  exact ⟨_, rfl⟩
theorem ints_ofD {us : List V} {xs : List PyData} {K : PySem.W.Frag} {H : Hp} (da : DpAll K H us xs) (hT : ∀ (j : Nat) (x : PyData), xs[j]? = some x → ∃ n : Int, x = .int n) : ∃ ms : List Int, us = ms.map V.int := by
  induction us generalizing xs with
  | nil => exact ⟨[], rfl⟩
  | cons u r ih =>
    cases xs with
    | nil => cases da
    | cons d ds =>
      cases da with
      | cons a b =>
        obtain ⟨n, rfl⟩ := hT 0 d rfl
        obtain ⟨ms, rfl⟩ := ih b fun j x e => hT (j + 1) x e
        cases Dp.intI a
        exact ⟨n :: ms, rfl⟩
/-- pairs of fields and numbers; those of zero left out -/
def pnD (p : Str × Int) : PyData := prD (p.1, .int p.2)
theorem pnD_tupo (p : Str × Int) : tupo (pnD p) = true := prD_tupo tupo_i
def keepN (ps : List (Str × Int)) : List (Str × PyData) := (ps.filter fun p => decide (p.2 ≠ 0)).map fun p => (p.1, .int p.2)
theorem filt_dp {K : PySem.W.Frag} {H : Hp} : ∀ {ps : List (Str × Int)} {us : List V}, DpAll K H us (ps.map pnD) → DpAll K H (((us.zip (ps.map fun p => decide (p.2 ≠ 0))).filter (·.2)).map Prod.fst) ((keepN ps).map prD)
  | [], _, h => by cases h; exact .nil
  | p :: r, _, h => by
    cases h with
    | cons a b =>
      have ih := filt_dp (ps := r) b
      unfold keepN at ih ⊢
      by_cases e : p.2 ≠ 0
      · rw [List.map_cons, List.zip_cons_cons, List.filter_cons_of_pos (by exact decide_eq_true e), List.filter_cons_of_pos (by exact decide_eq_true e)]
        exact .cons a ih
      · rw [List.map_cons, List.zip_cons_cons, List.filter_cons_of_neg (by simpa using e), List.filter_cons_of_neg (by simpa using e)]
        exact ih
theorem keepN_ok {ps : List (Str × Int)} (l : ps.length ≤ 1000) (w : ∀ p ∈ ps, Wd p.1) (rise : (ps.map (·.1)).Pairwise fun x y => tl x < tl y) : okS 3 (keepN ps) := by
  unfold keepN
  refine ⟨by rw [List.length_map]; exact Nat.le_trans (List.length_filter_le _ _) l, fun q m => ?_, fun q m => ?_, ?_⟩
  · obtain ⟨p, mp, rfl⟩ := List.mem_map.mp m
    exact w p (List.mem_filter.mp mp).1
  · obtain ⟨p, mp, rfl⟩ := List.mem_map.mp m
    exact okV_i (by simpa using (List.mem_filter.mp mp).2)
  · rw [List.pairwise_map] at rise ⊢
    exact rise.sublist List.filter_sublist
theorem pns_of : ∀ {ws : List Str} {xs : List PyData}, xs.length = ws.length → (∀ (j : Nat) (x : PyData), xs[j]? = some x → ∃ z n, ws[j]? = some z ∧ x = pnD (z, n)) → ∃ ps : List (Str × Int), xs = ps.map pnD ∧ ps.map (·.1) = ws
  | [], xs, hl, _ => ⟨[], List.eq_nil_of_length_eq_zero hl, rfl⟩
  | z :: r, [], hl, _ => by cases hl
  | z :: r, x :: xs, hl, hT => by
    obtain ⟨ps, e1, e2⟩ := pns_of (ws := r) (xs := xs) (by simpa using hl) fun j y e => by
      have := hT (j + 1) y (by simpa using e)
      simpa using this
    obtain ⟨z2, w, h1, h2⟩ := hT 0 x rfl
    cases h1
    exact ⟨(z, w) :: ps, by rw [e1, h2]; rfl, by rw [List.map_cons, e2]⟩
theorem zip_fst {α β : Type} : ∀ {as : List α} {bs : List β}, as.length = bs.length → (as.zip bs).map Prod.fst = as
  | [], [], _ => rfl
  | x :: as, y :: bs, h => by rw [List.zip_cons_cons, List.map_cons, zip_fst (Nat.succ.inj h)]
  | [], _ :: _, h => by cases h
  | _ :: _, [], h => by cases h
theorem flat_bls (bs : List Bool) : (bs.map V.bl).all flatV = true := by
  rw [List.all_map, List.all_eq_true]
  intro b _
  rfl
theorem inV_no {bs : List Bool} (h : inV (.bl false) (bs.map V.bl) = false) : ∀ b ∈ bs, b = true := by
  intro b m
  cases b with
  | true => rfl
  | false =>
    exfalso
    have : inV (.bl false) (bs.map V.bl) = true := by
      unfold inV
      exact List.any_eq_true.mpr ⟨.bl false, List.mem_map.mpr ⟨false, m, rfl⟩, by simp [eqV]⟩
    rw [h] at this
    cases this
theorem filt_tm {K : PySem.W.Frag} {H : Hp} (g : Tm → Bool) : ∀ {ts : List Tm} {us : List V}, DpAll K H us (ts.map tmD) → DpAll K H (((us.zip (ts.map g)).filter (·.2)).map Prod.fst) ((ts.filter g).map tmD)
  | [], _, h => by cases h; exact .nil
  | t :: r, _, h => by
    cases h with
    | cons a b =>
      have ih := filt_tm g (ts := r) b
      cases e : g t with
      | true =>
        rw [List.map_cons, List.zip_cons_cons, List.filter_cons_of_pos (by exact e), List.filter_cons_of_pos e]
        exact .cons a ih
      | false =>
        rw [List.map_cons, List.zip_cons_cons, List.filter_cons_of_neg (by simp [e]), List.filter_cons_of_neg (by simp [e])]
        exact ih
theorem r_rep {x y : V} {H : Hp} {Q : VK} : rRep x y H Q = ∃ l k xs, x = .ref l ∧ y = .int k ∧ H l = some (.lst xs) ∧ -(2 ^ 63) ≤ k ∧ k < 2 ^ 63 ∧ xs.length * k.toNat ≤ sizeLine ∧ ∀ p, H p = none → Q (.ref p) (upd H p (.lst (List.replicate k.toNat xs).flatten)) := rfl
theorem dp_rep {K : PySem.W.Frag} {H : Hp} {v : V} {d : PyData} (h : Dp K H v d) : ∀ n : Nat, DpAll K H (List.replicate n [v]).flatten (List.replicate n d)
  | 0 => .nil
  | n + 1 => .cons h (dp_rep h n)
/-! ### conditions drawn over fields and words -/
theorem k_eqD {X : Cx} (K : PySem.W.Frag) (h : X.K = K) (hu : X.A.units + 64 < cLine) : OpR X (compareOp .Eq) (rEqD K) := h ▸ op_eqD hu
theorem k_neD {X : Cx} (K : PySem.W.Frag) (h : X.K = K) (hu : X.A.units + 64 < cLine) : OpR X (compareOp .NotEq) (rNeD K) := h ▸ op_neD hu
/-- the fields, the words and the terms of which conditions are made -/
structure Wld (K : PySem.W.Frag) (d : Addr) (v : V) (f w T : Addr) (fs ws : List Str) (us : List V) (ts : List Tm) (H : Hp) : Prop where
  tp : ∃ t : Addr, v = .ref t ∧ SqT K H t [.ref f, .ref w, .ref T]
  fl : WL d f fs H
  wl : WL d w ws H
  te : H T = some (.lst us)
  ne : T ≠ d
  da : DpAll K H us (ts.map tmD)
  ok : ∀ t ∈ ts, tv t = true ∧ szT t
  pos : 1 ≤ ts.length
  len : ts.length ≤ 1000
  nd : ws.Nodup
theorem Wld.go {K : PySem.W.Frag} {d : Addr} {v : V} {f w T : Addr} {fs ws : List Str} {us : List V} {ts : List Tm} {H H' : Hp} (W : Wld K d v f w T fs ws us ts H) (hD : Dr d H) (g : Go d H H') : Wld K d v f w T fs ws us ts H' :=
  ⟨let ⟨t, e, h⟩ := W.tp; ⟨t, e, (TS.go hD g).tup h⟩, W.fl.go g, W.wl.go g, g.fr _ _ W.ne W.te, W.ne, DpAll.ts (TS.go hD g) _ _ (tms_tupos ts) W.da, W.ok, W.pos, W.len, W.nd⟩
theorem Wld.tq {K : PySem.W.Frag} {d t f w T : Addr} {fs ws : List Str} {us : List V} {ts : List Tm} {H : Hp} (W : Wld K d (.ref t) f w T fs ws us ts H) : SqT K H t [.ref f, .ref w, .ref T] := by
  obtain ⟨t', e, h⟩ := W.tp
  cases e
  exact h
theorem Wld.term {K : PySem.W.Frag} {d f w T : Addr} {v : V} {fs ws : List Str} {us : List V} {ts : List Tm} {H : Hp} (W : Wld K d v f w T fs ws us ts H) {z : Int} (h0 : 0 ≤ z) (h1 : z < us.length) : ∃ u t, atI us z = some u ∧ Dp K H u (tmD t) ∧ tv t = true ∧ szT t := by
  obtain ⟨u, e, e2⟩ := at_lt h0 h1
  have hl := DpAll.len W.da
  rw [List.length_map] at hl
  have hb := List.getElem?_eq_getElem (l := ts) (i := z.toNat) (by omega)
  have o := W.ok _ (List.mem_of_getElem? hb)
  exact ⟨u, _, e, dpat W.da e2 (by rw [List.getElem?_map, hb]; rfl), o.1, o.2⟩
theorem Wld.pos' {K : PySem.W.Frag} {d f w T : Addr} {v : V} {fs ws : List Str} {us : List V} {ts : List Tm} {H : Hp} (W : Wld K d v f w T fs ws us ts H) : 1 ≤ us.length := by
  have hl := DpAll.len W.da
  rw [List.length_map] at hl
  have := W.pos
  omega
theorem WL.pickL {d b : Addr} {zs : List Str} {H : Hp} (h : WL d b zs H) {z : Int} (h0 : 0 ≤ z) (h1 : z < ((zs.map V.str).length : Int)) : ∃ y, atI (zs.map V.str) z = some (.str y) ∧ y ∈ zs ∧ Wd y := h.pick h0 (by rw [List.length_map] at h1; exact h1)
theorem tm_name {K : PySem.W.Frag} {H : Hp} {u : V} {t : Tm} (h : Dp K H u (tmD t)) : ∃ (p : Addr) (xs : List V) (s : Str), u = .ref p ∧ SqT K H p xs ∧ atI xs 0 = some (.str s) ∧ (s = "name" ↔ ∃ z, t = .name z) := by
  cases t with
  | name z => obtain ⟨p, x, y, rfl, hT, a, b⟩ := Dp.pairI h; cases Dp.strI a; exact ⟨p, _, _, rfl, hT, rfl, ⟨fun _ => ⟨z, rfl⟩, fun _ => rfl⟩⟩
  | fld z => obtain ⟨p, x, y, rfl, hT, a, b⟩ := Dp.pairI h; cases Dp.strI a; exact ⟨p, _, _, rfl, hT, rfl, ⟨fun e => absurd e (by decide), fun ⟨z, e⟩ => by cases e⟩⟩
  | part z i => obtain ⟨p, x, y, o, rfl, hT, a, b, c⟩ := Dp.trI h; cases Dp.strI a; exact ⟨p, _, _, rfl, hT, rfl, ⟨fun e => absurd e (by decide), fun ⟨z, e⟩ => by cases e⟩⟩
  | oth z g => obtain ⟨p, x, y, o, rfl, hT, a, b, c⟩ := Dp.trI h; cases Dp.strI a; exact ⟨p, _, _, rfl, hT, rfl, ⟨fun e => absurd e (by decide), fun ⟨z, e⟩ => by cases e⟩⟩
theorem mv_of {t : Tm} (h : tv t = true) (n : ¬ ∃ z, t = .name z) : mv t = true := by
  cases t with
  | name z => exact absurd ⟨z, rfl⟩ n
  | _ => exact h
/-- c is ci, k deep in others that are valid -/
structure Wr (k : Nat) (ci c : Cn) : Prop where
  yes : ∀ d, d + k ≤ 12 → pas (d + k) ci = true → pas d c = true
  no : (∀ d, pas d ci = false) → ∀ d, pas d c = false
  deep : ∀ d, 12 < d + k → pas d c = false
theorem Wr.zero (c : Cn) : Wr 0 c c := ⟨fun _ _ h => h, fun h => h, fun d h => pas_deep h⟩
theorem Wr.not {k : Nat} {ci c : Cn} (h : Wr k ci c) : Wr (k + 1) ci (.not c) := by
  have e : ∀ d, pas d (.not c) = (decide (d ≤ 12) && pas (d + 1) c) := fun d => by rw [pas]
  refine ⟨fun d l p => ?_, fun n d => ?_, fun d l => ?_⟩
  · rw [e, decide_eq_true (by omega), h.yes (d + 1) (by omega) (by rw [show d + 1 + k = d + (k + 1) by omega]; exact p)]
    rfl
  · rw [e, h.no n, Bool.and_false]
  · rw [e, h.deep (d + 1) (by omega), Bool.and_false]
/-- valid, nothing within -/
def sib (c : Cn) : Prop := own c = true ∧ inn c = []
theorem sib_pas {c : Cn} (h : sib c) {d : Nat} (l : d ≤ 12) : pas d c = true := by
  rw [pas_eq, h.1, h.2, decide_eq_true l]
  rfl
theorem Wr.in {k : Nat} {ci c x : Cn} {cs : List Cn} (h : Wr k ci c) (e : ∀ d, pas d x = (decide (d ≤ 12) && pass (d + 1) cs)) (m : c ∈ cs) (s : ∀ y ∈ cs, y = c ∨ sib y) : Wr (k + 1) ci x := by
  refine ⟨fun d l p => ?_, fun n d => ?_, fun d l => ?_⟩
  · rw [e, decide_eq_true (by omega), Bool.true_and, pass_all]
    refine List.all_eq_true.mpr fun y my => ?_
    rcases s y my with rfl | hs
    · exact h.yes (d + 1) (by omega) (by rw [show d + 1 + k = d + (k + 1) by omega]; exact p)
    · exact sib_pas hs (by omega)
  · rw [e, pass_all, List.all_eq_false.mpr ⟨c, m, by rw [h.no n]; decide⟩, Bool.and_false]
  · rw [e, pass_all, List.all_eq_false.mpr ⟨c, m, by rw [h.deep (d + 1) (by omega)]; decide⟩, Bool.and_false]
/-- valid with n levels below it -/
def vn (n : Nat) (c : Cn) : Prop := ∀ d, d + n ≤ 12 → pas d c = true
theorem vn.up {n m : Nat} {c : Cn} (h : vn n c) (l : n ≤ m) : vn m c := fun d e => h d (by omega)
theorem sib_vn {c : Cn} (h : sib c) : vn 0 c := fun d l => sib_pas h (by omega)
theorem vn_not {n : Nat} {c : Cn} (h : vn n c) : vn (n + 1) (.not c) := fun d l => by
  rw [pas, decide_eq_true (by omega), h (d + 1) (by omega)]
  rfl
theorem vn_all {n : Nat} {cs : List Cn} (h : ∀ c ∈ cs, vn n c) : vn (n + 1) (.all cs) := fun d l => by
  rw [pas, decide_eq_true (by omega), Bool.true_and, pass_all]
  exact List.all_eq_true.mpr fun c m => h c m (d + 1) (by omega)
theorem vn_any {n : Nat} {cs : List Cn} (h : ∀ c ∈ cs, vn n c) : vn (n + 1) (.any cs) := fun d l => by
  rw [pas, decide_eq_true (by omega), Bool.true_and, pass_all]
  exact List.all_eq_true.mpr fun c m => h c m (d + 1) (by omega)
/-- a list of conditions that grows, the draws going on -/
theorem cns_of {K : PySem.W.Frag} {H : Hp} {P : Cn → Prop} : ∀ {us : List V}, (∀ u ∈ us, ∃ c, Dp K H u (cnD c) ∧ P c) → ∃ cs : List Cn, DpAll K H us (cs.map cnD) ∧ ∀ c ∈ cs, P c
  | [], _ => ⟨[], .nil, fun c m => (by cases m)⟩
  | u :: r, h => by
    obtain ⟨c, dc, pc⟩ := h u List.mem_cons_self
    obtain ⟨cs, da, ps⟩ := cns_of (us := r) fun x m => h x (List.mem_cons_of_mem _ m)
    exact ⟨c :: cs, .cons dc da, fun y m => by
      rcases List.mem_cons.mp m with rfl | m
      · exact pc
      · exact ps y m⟩
abbrev errN : List Str := ["InvalidRequest", "InvalidCondition", "InvalidRule", "BadText", "Circle", "AlreadyLinked", "NotLinked", "NoGrant", "NoPasses", "NoRule", "NothingToUndo", "NothingToRedo", "Widening"]
theorem starts_cut (z : Str) : Txt.startswith z "grant" = decide (cutS z none (some 5) = Str.ofString "grant") := by
  have hg : (Str.ofString "grant").length = 5 := by decide
  have ht : tl (cutS z none (some 5)) = (tl z).take 5 := by
    show (z.cps.toList.drop (HT.sIx z.length 0 none)).take (HT.sIx z.length z.length (some 5) - HT.sIx z.length 0 none) = z.cps.toList.take 5
    rw [HT.sIx_none, show HT.sIx z.length z.length (some 5) = min 5 z.length from HT.sIx_nat _ _ 5, List.drop_zero, Nat.sub_zero]
    have hl : z.length = z.cps.toList.length := len_tl z
    rw [hl]
    by_cases h : 5 ≤ z.cps.toList.length
    · rw [Nat.min_eq_left h]
    · rw [Nat.min_eq_right (by omega), List.take_length, List.take_of_length_le (by omega)]
  have e1 : decide (cutS z none (some 5) = Str.ofString "grant") = decide ((tl z).take 5 = tl (Str.ofString "grant")) := by
    by_cases h : cutS z none (some 5) = Str.ofString "grant"
    · rw [decide_eq_true h, decide_eq_true (by rw [← ht, h])]
    · rw [decide_eq_false h, decide_eq_false fun e => h (ext_tl (by rw [ht, e]))]
  rw [e1]
  unfold Txt.startswith
  rw [StrLaws.subAt_eq, hg, List.drop_zero]
  have hl : z.length = (tl z).length := len_tl z
  by_cases h : (tl z).take 5 = tl (Str.ofString "grant")
  · have l5 : ((tl z).take 5).length = 5 := by rw [h]; decide
    rw [List.length_take] at l5
    rw [decide_eq_true h, decide_eq_true (by omega), Bool.true_and]
    exact beq_iff_eq.mpr h
  · rw [decide_eq_false h, Bool.and_eq_false_iff]
    exact .inr (beq_eq_false_iff_ne.mpr h)
theorem WL.tb {Ts : List Addr} {d b : Addr} {zs : List Str} {H H' : Hp} (h : WL d b zs H) (t : Tbs Ts H) (g : TbG Ts H H') : WL d b zs H' := ⟨g.at t h.at_, h.ne, h.wd, h.pos, h.len⟩
theorem Wld.tb {Ts : List Addr} {K : PySem.W.Frag} {d : Addr} {v : V} {f w T : Addr} {fs ws : List Str} {us : List V} {ts : List Tm} {H H' : Hp} (W : Wld K d v f w T fs ws us ts H) (t : Tbs Ts H) (g : TbG Ts H H') : Wld K d v f w T fs ws us ts H' :=
  ⟨let ⟨a, e, h⟩ := W.tp; ⟨a, e, (g.ts t).tup h⟩, W.fl.tb t g, W.wl.tb t g, g.at t W.te, W.ne, DpAll.ts (g.ts t) _ _ (tms_tupos ts) W.da, W.ok, W.pos, W.len, W.nd⟩
theorem Sc.tb {Ts : List Addr} {K : PySem.W.Frag} {d a : Addr} {ns : List Int} {H H' : Hp} (s : Sc K d a ns H) (t : Tbs Ts H) (g : TbG Ts H H') : Sc K d a ns H' := by
  obtain ⟨H0, s0, n, h⟩ := s
  refine ⟨fun b => if b ∈ Ts then none else H0 b, fun b o e => ?_, ?_, ?_⟩
  · have e : (if b ∈ Ts then none else H0 b) = some o := e
    by_cases m : b ∈ Ts
    · rw [if_pos m] at e; cases e
    · rw [if_neg m] at e
      exact g.2 b o m (s0 b o e)
  · show (if d ∈ Ts then none else H0 d) = none
    rw [n]
    split <;> rfl
  · rcases h with (h | ⟨o, h⟩) | h
    · have m : a ∉ Ts := t.off (s0 _ _ h) (fun q z => by cases z)
      exact .inl (.inl (by show (if a ∈ Ts then none else H0 a) = _; rw [if_neg m]; exact h))
    · have m : a ∉ Ts := t.off (s0 _ _ h) (fun q z => by cases z)
      exact .inl (.inr ⟨o, by show (if a ∈ Ts then none else H0 a) = _; rw [if_neg m]; exact h⟩)
    · exact .inr h
/-- a rule's name and effect are right -/
def okN (nm ef : Str) : Prop := isW nm = true ∧ Txt.startswith nm "grant" = false ∧ (ef = "permit" ∨ ef = "forbid")
/-- the answers of isinstance for an error of that name -/
def errL (z : Str) : List V := (errN.map fun o => decide (V.str o = V.str z)).map V.bl
/-! ### methods and makers of own classes -/
def codeM (K : PySem.W.Frag) (C m : Str) : Addr := (He.cT K (C, some m)).1
def tabM (K : PySem.W.Frag) (C m : Str) : Addr := (He.cT K (C, some m)).2
structure CalM (P : Program) (w : World) (K : PySem.W.Frag) (mg : Str → Option Value) (base : Heap) (CX : L2.CXT) (k : Nat) (C m : Str) (ps : List Str) (sp : Sp) : Prop where
  ex : ∃ (f : Addr) (fd : FuncData), FnOk P w K mg base CX k f fd ps sp ∧ Meth K (He.ga K C) m f ∧ Binds K fd ps []
structure CalMk (P : Program) (w : World) (K : PySem.W.Frag) (mg : Str → Option Value) (base : Heap) (k : Nat) (C : Str) (ps : List Str) (sp : Sp) (dvs : List V) : Prop where
  ex : ∃ (f : Addr) (fd : FuncData) (ds : List Value), FnOk P w K mg base CX0 k f fd ps sp ∧ Mk K (He.ga K C) f ∧ Binds K fd ps ds ∧ Vals dvs ds
/-- a call that lets nothing out -/
def spC (sp : Sp) : Sp := fun vs H Q _ => sp vs H Q (fun _ _ _ => False)
theorem FnOk.calm {P : Program} {w : World} {K : PySem.W.Frag} {mg : Str → Option Value} {base : Heap} {k : Nat} {f : Addr} {fd : FuncData} {ps : List Str} {sp : Sp} (F : FnOk P w K mg base (L2.CX P w) k f fd ps sp) : FnOk P w K mg base CX0 k f fd ps (spC sp) := by
  refine ⟨fun vs H Q E h => F.len vs H Q _ h, fun A outer s H args us vs Q E hr e0 hb r h => codeAny_mono (F.run A outer s H args us vs Q (fun _ _ _ => False) hr e0 hb r h) fun rr s' hq => ?_⟩
  cases rr with
  | ok fl =>
    cases fl with
    | ret u => exact hq
    | next => exact False.elim hq
    | brk => exact False.elim hq
    | cont => exact False.elim hq
  | error e =>
    obtain ⟨a, B, H', cls, d, _, _, _, _, _, _, _, z⟩ := hq
    exact z.elim
theorem CalM.calm {P : Program} {w : World} {K : PySem.W.Frag} {mg : Str → Option Value} {base : Heap} {k : Nat} {C m : Str} {ps : List Str} {sp : Sp} (c : CalM P w K mg base (L2.CX P w) k C m ps sp) : CalM P w K mg base CX0 k C m ps (spC sp) := by
  obtain ⟨f, fd, F, hm, b⟩ := c.ex
  exact ⟨f, fd, FnOk.calm F, hm, b⟩
def tMethS2 (C : Addr) (m : Str) (sp : Sp) (E : L2.St → XK) (ta : TE) (t : TA) : TE := fun σ H Q => ta σ H fun x H1 => ∃ a dx fs, x = .ref a ∧ H1 a = some (.ins C dx fs) ∧ fs.lookup m = none ∧ t σ H1 fun vs H2 => sp (x :: vs) H2 Q (E σ)
section
variable {X : Cx} {k j : Nat} {C m : Str} {ps : List Str} {sp : Sp} {p pos apos : Pos} {e o : Expr} {es : List Expr} {t : TA} {ta : TE} {E : XK} {dvs : List V} {CX : L2.CXT}
theorem pe_calM {K : PySem.W.Frag} {pl : Sem Bool} (c : CalM X.prog X.w K X.mg X.base CX0 k C m ps sp) (cl : Cls K (He.ga K C)) (hr : Room j X.A) (he : PE X o ta) (ha : PA X (e :: es) t) (hK : X.K = K := by rfl) (hk : k ≤ j := by decide)
    (hst : starEach (e :: es) X.env = (false, eval e X.env) :: starEach es X.env := by rfl) (hpl : (backTo pos (starEach es X.env)).any (·.1) = false := by rfl)
    (ht : eval (.Call (.Attribute o m apos) (e :: es) [] pos) X.env = (do
      let ov ← eval o X.env
      standAt apos.atName
      let (f, first) ← holding [ov] (getMethod ov m pl)
      callWith pos f first (backTo pos (starEach (e :: es) X.env)) (backToKw pos (keywordEach [] X.env))) := by rfl) :
    PE X (.Call (.Attribute o m apos) (e :: es) [] pos) (tMeth (He.ga K C) m sp [] E0 ta t) := by
  subst hK
  obtain ⟨f, fd, F, hm, b⟩ := c.ex
  exact pe_meth he cl hm F (hr.mono hk) b .nil pass0 ha hst hpl ht
theorem pe_calM0 {pl : Sem Bool} (c : CalM X.prog X.w X.K X.mg X.base CX0 k C m ps sp) (cl : Cls X.K (He.ga X.K C)) (hr : Room j X.A) (he : PE X o ta) (hk : k ≤ j := by decide)
    (ht : eval (.Call (.Attribute o m apos) [] [] pos) X.env = (do
      let ov ← eval o X.env
      standAt apos.atName
      let (f, first) ← holding [ov] (getMethod ov m pl)
      callWith pos f first (backTo pos (starEach [] X.env)) (backToKw pos (keywordEach [] X.env))) := by rfl) :
    PE X (.Call (.Attribute o m apos) [] [] pos) (tMeth (He.ga X.K C) m sp [] E0 ta tNil) := by
  obtain ⟨f, fd, F, hm, b⟩ := c.ex
  exact pe_meth0 he cl hm F (hr.mono hk) b .nil pass0 ht
theorem pe_calMX {pl : Sem Bool} (c : CalM X.prog X.w X.K X.mg X.base (L2.CX X.prog X.w) k C m ps sp) (cl : Cls X.K (He.ga X.K C)) (hr : Room j X.A) (tk : L2.Takes X (fun cls d _ H => E cls d H)) (he : PE X o ta) (ha : PA X (e :: es) t) (hk : k ≤ j := by decide)
    (hst : starEach (e :: es) X.env = (false, eval e X.env) :: starEach es X.env := by rfl) (hpl : (backTo pos (starEach es X.env)).any (·.1) = false := by rfl)
    (ht : eval (.Call (.Attribute o m apos) (e :: es) [] pos) X.env = (do
      let ov ← eval o X.env
      standAt apos.atName
      let (f, first) ← holding [ov] (getMethod ov m pl)
      callWith pos f first (backTo pos (starEach (e :: es) X.env)) (backToKw pos (keywordEach [] X.env))) := by rfl) :
    PE X (.Call (.Attribute o m apos) (e :: es) [] pos) (tMeth (He.ga X.K C) m sp [] E ta t) := by
  obtain ⟨f, fd, F, hm, b⟩ := c.ex
  exact pe_meth he cl hm F (hr.mono hk) b .nil (passes_call tk fun _ _ _ _ h => h) ha hst hpl ht
theorem pe_calMX0 {pl : Sem Bool} (c : CalM X.prog X.w X.K X.mg X.base (L2.CX X.prog X.w) k C m ps sp) (cl : Cls X.K (He.ga X.K C)) (hr : Room j X.A) (tk : L2.Takes X (fun cls d _ H => E cls d H)) (he : PE X o ta) (hk : k ≤ j := by decide)
    (ht : eval (.Call (.Attribute o m apos) [] [] pos) X.env = (do
      let ov ← eval o X.env
      standAt apos.atName
      let (f, first) ← holding [ov] (getMethod ov m pl)
      callWith pos f first (backTo pos (starEach [] X.env)) (backToKw pos (keywordEach [] X.env))) := by rfl) :
    PE X (.Call (.Attribute o m apos) [] [] pos) (tMeth (He.ga X.K C) m sp [] E ta tNil) := by
  obtain ⟨f, fd, F, hm, b⟩ := c.ex
  exact pe_meth0 he cl hm F (hr.mono hk) b .nil (passes_call tk fun _ _ _ _ h => h) ht
/-- in a try -/
theorem pe_calMW {K : PySem.W.Frag} {pl : Sem Bool} {W : WX} (c : CalM X.prog X.w K X.mg X.base (L2.CX X.prog X.w) k C m ps sp) (cl : Cls K (He.ga K C)) (hr : Room j X.A) (tk : L2.Takes X W) (he : PE X o ta) (ha : PA X (e :: es) t) (hK : X.K = K := by rfl) (hk : k ≤ j := by decide)
    (hst : starEach (e :: es) X.env = (false, eval e X.env) :: starEach es X.env := by rfl) (hpl : (backTo pos (starEach es X.env)).any (·.1) = false := by rfl)
    (ht : eval (.Call (.Attribute o m apos) (e :: es) [] pos) X.env = (do
      let ov ← eval o X.env
      standAt apos.atName
      let (f, first) ← holding [ov] (getMethod ov m pl)
      callWith pos f first (backTo pos (starEach (e :: es) X.env)) (backToKw pos (keywordEach [] X.env))) := by rfl) :
    PE X (.Call (.Attribute o m apos) (e :: es) [] pos) (tMethS2 (He.ga K C) m sp (WE W) ta t) := by
  subst hK
  obtain ⟨f, fd, F, hm, b⟩ := c.ex
  have hr := hr.mono hk
  refine ⟨fun pins s σ H Q I h => ?_⟩
  refine PySem.W.methodCall_KW (pl := pl) (thn (he.run pins s σ H _ I h) fun u s1 ⟨x, H1, I1, rx, a, dx, fs, ex, ea, l, q⟩ => ?_) ht
  subst ex
  obtain rfl : u = Value.ref a := rx
  refine getmeth_ok I1 ea cl hm l ?_
  refine PySem.W.callWith_K (first := [.ref a]) (h₀ := X.base) I.ok.mod.kin hm.kp (thn (ha.run pos pins s1 σ H1 _ I1 q) fun us s2 ⟨vs, H2, I2, r, q2⟩ => ⟨I2.kIn, ?_⟩) hst hpl
  exact run_fnS (us := .ref a :: us) (vs := .ref a :: vs) F hr b (passAt tk σ) I2 (.cons rfl r) q2
/-- C(..) -/
theorem pe_mk (c : CalMk X.prog X.w X.K X.mg X.base k C ps sp dvs) (gC : X.mg C = some (.ref (He.ga X.K C))) (hr : Room j X.A) (ha : PA X (e :: es) t) (hk : k + 1 ≤ j := by decide) (hg : Gl X C := by rfl)
    (hdb : (C == ("__debug__" : Str)) = false := by decide) (he : starEach (e :: es) X.env = (false, eval e X.env) :: starEach es X.env := by rfl) (hpl : (backTo pos (starEach es X.env)).any (·.1) = false := by rfl) :
    PE X (.Call (.Name C p) (e :: es) [] pos) (tMake (He.ga X.K C) sp dvs E0 t) := by
  obtain ⟨f, fd, ds, F, M, b, r⟩ := c.ex
  exact pe_make M F (hr.mono hk) hg gC b r pass0 ha hdb he hpl
theorem pe_mk0 (c : CalMk X.prog X.w X.K X.mg X.base k C ps sp dvs) (gC : X.mg C = some (.ref (He.ga X.K C))) (hr : Room j X.A) (hk : k + 1 ≤ j := by decide) (hg : Gl X C := by rfl) (hdb : (C == ("__debug__" : Str)) = false := by decide) :
    PE X (.Call (.Name C p) [] [] pos) (tMake (He.ga X.K C) sp dvs E0 tNil) := by
  obtain ⟨f, fd, ds, F, M, b, r⟩ := c.ex
  exact pe_make0 M F (hr.mono hk) hg gC b r pass0 hdb
end
/-- try: return o.m(..) -/
def tTryRM (K : PySem.W.Frag) (c : Value) (te : WX → TE) (l : Nat) (ts : Addr → Value → Option Addr → L2.TS) : L2.TS := fun D σ H => te (L2.wAs K c l ts (fun _ _ _ _ => False) D) σ H D.rt
theorem ps_tryA_ret {X : Cx} {l : Nat} {x n : Str} {c : Value} {e : Expr} {te : WX → TE} {np pos pos' tp : Pos} {b₀ : Stmt} {suite : List Stmt} {ts : Addr → Value → Option Addr → L2.TS}
    (hb : ∀ (W : WX) (pn : List (Addr × Obj)) (xe : Value → Shared → Prop), L2.Takes (X.tr pn xe) W → PE (X.tr pn xe) e (te W)) (hc : L2.Names X x c) (hN : X.N.Nodup) (hi : X.N[l]? = some n) (hln : X.env.kindOf n = some .local)
    (hsu : ∀ (a : Addr) (oe : Obj) (cls : Value) (d : Option Addr) (pn : List (Addr × Obj)), L2.Zc cls d oe → (∃ vs, oe.data = .fields vs) → PSs (X.suite a ((a, oe) :: pn)) (b₀ :: suite) (ts a cls d)) (hs : X.stack = X.env :: X.outer := by rfl) (hf : X.env.frame = some X.env.locals := by rfl) :
    PS X (.Try [.Return (some e) tp] [.ExceptHandler (some (.Name x np)) (some n) (b₀ :: suite) pos'] [] [] pos) (tTryRM X.K c te l ts) :=
  L2.ps_try_as (tb := fun W => fun D σ H => te W σ H D.rt) hs hf hN hi hln hc takes0 (fun W pn xe tk _ => pss_one (ps_ret (X := X.tr pn xe) (hb W pn xe tk))) hsu
section
variable {K : PySem.W.Frag} {σ : L2.St} {H : Hp} {te ta tv : TE} {tr : TA} {Q : VK} {sp : Sp} {E : XK} {D : Ends} {C : Addr} {m f : Str} {dvs : List V} {c : Value} {tw : WX → TE} {l : Nat} {ts : Addr → Value → Option Addr → L2.TS} {Es : L2.St → XK}
theorem w_meth : tMeth C m sp dvs E ta tr σ H Q = ta σ H fun x H1 => ∃ a dx fs, x = .ref a ∧ H1 a = some (.ins C dx fs) ∧ fs.lookup m = none ∧ tr σ H1 fun vs H2 => sp (x :: (vs ++ dvs)) H2 Q E := rfl
theorem w_methS : tMethS2 C m sp Es ta tr σ H Q = ta σ H fun x H1 => ∃ a dx fs, x = .ref a ∧ H1 a = some (.ins C dx fs) ∧ fs.lookup m = none ∧ tr σ H1 fun vs H2 => sp (x :: vs) H2 Q (Es σ) := rfl
theorem w_make : tMake C sp dvs E tr σ H Q = tr σ H fun vs H1 => ∀ x dx, H1 x = none → H1 dx = none → dx ≠ x → sp (.ref x :: (vs ++ dvs)) (upd (upd H1 dx (.own x)) x (.ins C dx [])) (fun v H2 => v = .non ∧ Q (.ref x) H2) E := rfl
theorem w_fld : tFld K ta f σ H Q = ta σ H fun x H1 => ∃ a C dx fs v, x = .ref a ∧ H1 a = some (.ins C dx fs) ∧ Cls K C ∧ NoAttr K C f ∧ fs.lookup f = some v ∧ Q v H1 := rfl
theorem w_sfld : sFld K ta tv f D σ H = tv σ H fun y H1 => ta σ H1 fun x H2 => ∃ a C dx fs, x = .ref a ∧ H2 a = some (.ins C dx fs) ∧ Cls K C ∧ NoAttr K C f ∧ fs.length < 1000 ∧ D.nx σ (upd H2 a (.ins C dx (putF f y fs))) := rfl
theorem w_spC {vs : List V} : spC sp vs H Q E = sp vs H Q (fun _ _ _ => False) := rfl
theorem w_tryRM : tTryRM K c tw l ts D σ H = tw (L2.wAs K c l ts (fun _ _ _ _ => False) D) σ H D.rt := rfl
end
/-! ### methods with tables -/
theorem fn_okTM {P : Program} {w : World} {K : PySem.W.Frag} {mg : Str → Option Value} {base : Heap} {C x q : Str} {st : Stmt} {f : Addr} {fd : FuncData} {N ps : List Str} {k : Nat} {sp : Sp} (F : Fun K x q st f fd) (hf : f = He.fAd K (C, some x)) (S : FnScope N ps (defScope st)) (len : ∀ vs H Q E, sp vs H Q E → vs.length = ps.length)
    (body : ∀ (A : Around) (outer : List Env) (s : Shared) (H : Hp) (vs : List V) (Q : VK) (E : XK), Room k (A.deeper (envOfC q (defScope st) s.heap.objs.size f (.ref (codeM K C x)))) → sp vs H Q E →
      ∃ t, PSs (cxOf CX0 P w K mg base N q (defScope st) f (.ref (codeM K C x)) A outer s H E).nox (defBody st) t ∧ t { nx := fun _ H' => Q .non H', rt := Q } (start N vs) H) : FnOk P w K mg base CX0 (k + 1) f fd ps sp := by
  obtain ⟨oc, od, kV, doc, pm, an, cdv, ct, osl, rfl, lk, hcd⟩ := F.ex
  obtain ⟨c, rfl⟩ := He.codeIn_ref hcd
  have e : codeM K C x = c := He.codeOf_eq (by rw [← hf]; exact lk) rfl
  refine fn_of lk hcd S len fun A outer s H vs Q E hr hsp => ?_
  obtain ⟨t, h, q⟩ := body A outer s H vs Q E (by rw [e]; exact hr) hsp
  rw [e] at h
  exact ⟨t, h.nox, q⟩
theorem fun_ofM {K : PySem.W.Frag} {x q : Str} {st : Stmt} {f : Addr} {fd : FuncData} (F : FunD K x q (defArgs st) (defBody st) (defScope st) [] [] f fd) : Fun K x q st f fd := by
  obtain ⟨oc, od, dV, kV, doc, pm, an, cdv, ct, osl, e, lk, hcd, hD, _⟩ := F.ex
  rcases hD with ⟨_, rfl⟩ | ⟨n, _⟩
  · exact ⟨⟨oc, od, kV, doc, pm, an, cdv, ct, osl, e, lk, hcd⟩, F.kp⟩
  · exact absurd rfl n
/-! ### an empty tuple as a default -/
def tup0B (K : PySem.W.Frag) (a : Addr) : Bool := match K.lookup a with
  | some o => decide (o.cls = .type "tuple") && (match o.data with
    | .seq its _ => decide (its.size ≤ 1000) && strsB [] its.toList
    | _ => false)
  | none => false
theorem tup0B_ok {K : PySem.W.Frag} {a : Addr} (c : tup0B K a = true) (H : Hp) : SqT K H a [] := by
  unfold tup0B at c
  cases q : K.lookup a with
  | none => rw [q] at c; cases c
  | some ob =>
    rw [q] at c
    have c : (decide (ob.cls = .type "tuple") && (match ob.data with
      | .seq its _ => decide (its.size ≤ 1000) && strsB [] its.toList
      | _ => false)) = true := c
    rw [Bool.and_eq_true, decide_eq_true_eq] at c
    obtain ⟨c1, c2⟩ := c
    cases d : ob.data with
    | seq its n =>
      rw [d] at c2
      have c2 : (decide (its.size ≤ 1000) && strsB [] its.toList) = true := c2
      rw [Bool.and_eq_true, decide_eq_true_eq] at c2
      exact .inr ⟨ob, its, n, q, c1, d, line_of (by omega), strsB_ok c2.2⟩
    | _ => rw [d] at c2; cases c2
/-! ### dicts of simple keys, starred parts -/
theorem dict_hu {k : Nat} {A : Around} (r : Room k A) : A.units + 1 < cLine := by
  have := r.units
  omega
section
variable {K : PySem.W.Frag} {σ : L2.St} {H : Hp} {td ty tv te t : TE} {tr : TA} {Q : VK} {D : Ends} {trs : List (TE × TE)} {R : It → Hp → Prop}
theorem w_star : StX.tStar K te tr σ H = fun Q => te σ H fun x H1 => ∃ p xs, x = .ref p ∧ (SqT K H1 p xs ∨ SqL K H1 p xs) ∧ tr σ H1 fun ys H2 => Q (xs ++ ys) H2 := rfl
theorem w_dget : tDGet td ty σ H Q = td σ H fun x H1 => ty σ H1 fun y H2 => ∃ a v, x = .ref a ∧ DGet H2 a y (some v) ∧ Q v H2 := rfl
theorem w_dput : sDPut td ty tv D σ H = tv σ H fun v H1 => td σ H1 fun x H2 => ty σ H2 fun y H3 => ∃ a H4, x = .ref a ∧ DPut H3 a y v H4 ∧ D.nx σ H4 := rfl
theorem w_disp : tDisp trs σ H Q = ∀ p, H p = none → tPairs trs σ (upd H p (.dK [])) fun ps H2 => H2 p = some (.dK []) ∧ ∃ kvs : List (Key × V), ps = kvs.map (fun kv => (kV kv.1, kv.2)) ∧ kvs.length ≤ 15 ∧ Q (.ref p) (upd H2 p (.dK (mergeK [] kvs))) := rfl
theorem w_lockE : tLockE t σ H Q = ∃ d u, H d = some u ∧ Mut (some u) ∧ ∀ od, t σ (upd H d (.frz od u)) fun v H' => H' d = some (.frz od u) ∧ Q v (upd H' d u) := rfl
theorem w_keys : iKeys td σ H R = td σ H fun x H1 => ∃ d o, x = .ref d ∧ ((∃ kvs, H1 d = some (.frz o (.dK kvs)) ∧ R (Itk d o kvs) H1) ∨ ∃ kvs, H1 d = some (.frz o (.dT kvs)) ∧ R (Itkt d o kvs) H1) := rfl
end
theorem w_par3 {i j l : Nat} {ta : TA} {D : Ends} {σ : L2.St} {H : Hp} : tPar3 i j l ta D σ H = ta σ H fun vs H1 => ∃ u v w, vs = [u, v, w] ∧ D.nx (((σ.set i (some u)).set j (some v)).set l (some w)) H1 := rfl
/-! ### comprehensions over a dict's keys -/
def LcD (d : Addr) (o : Obj) (kvs : List (Key × V)) (g : TG) (tt : TT) (te : TE) (vs : List Nat) (σ : L2.St) (H1 : Hp) (Q : VK) : Prop := ∀ D, H1 D = none → ∃ W : Nat → Nat → Hp → Prop, (∃ m, W 0 m (upd H1 D (.lst []))) ∧ ∀ i m H, W i m H →
  ((Itk d o kvs).stop i H ∧ Q (.ref D) H) ∨ ((Itk d o kvs).go i H ∧ ∃ Nx : Hp → Prop, (∀ H', Nx H' → ∃ m', m' < m ∧ W (i + 1) m' H') ∧ ∀ x H', (Itk d o kvs).yld i H x H' → g x (wipe σ vs) H' fun σ2 H2 => wipe σ2 vs = wipe σ vs ∧ tt σ2 H2 fun b H3 =>
    if b = true then te σ2 H3 fun y H4 => ∃ acc, H4 D = some (.lst acc) ∧ acc.length < sizeLine ∧ Nx (upd H4 D (.lst (acc ++ [y]))) else Nx H3)
def LcDt (d : Addr) (o : Obj) (kvs : List (List Key × V)) (g : TG) (tt : TT) (te : TE) (vs : List Nat) (σ : L2.St) (H1 : Hp) (Q : VK) : Prop := ∀ D, H1 D = none → ∃ W : Nat → Nat → Hp → Prop, (∃ m, W 0 m (upd H1 D (.lst []))) ∧ ∀ i m H, W i m H →
  ((Itkt d o kvs).stop i H ∧ Q (.ref D) H) ∨ ((Itkt d o kvs).go i H ∧ ∃ Nx : Hp → Prop, (∀ H', Nx H' → ∃ m', m' < m ∧ W (i + 1) m' H') ∧ ∀ x H', (Itkt d o kvs).yld i H x H' → g x (wipe σ vs) H' fun σ2 H2 => wipe σ2 vs = wipe σ vs ∧ tt σ2 H2 fun b H3 =>
    if b = true then te σ2 H3 fun y H4 => ∃ acc, H4 D = some (.lst acc) ∧ acc.length < sizeLine ∧ Nx (upd H4 D (.lst (acc ++ [y]))) else Nx H3)
section
variable {td te : TE} {tt : TT} {g : TG} {vs : List Nat} {σ : L2.St} {H : Hp} {Q : VK} {d : Addr} {o : Obj} {kvs : List (Key × V)}
theorem l_LcD : tLc (iKeys td) g tt te vs σ H Q = td σ H fun x H1 => ∃ d o, x = .ref d ∧ ((∃ kvs, H1 d = some (.frz o (.dK kvs)) ∧ LcD d o kvs g tt te vs σ H1 Q) ∨ ∃ kvs, H1 d = some (.frz o (.dT kvs)) ∧ LcDt d o kvs g tt te vs σ H1 Q) := rfl
theorem LcD.by (h : ∀ D, H D = none → ∃ Pv : Nat → Hp → Prop, Pv 0 (upd H D (.lst [])) ∧ (∀ i H, i ≤ kvs.length → Pv i H → H d = some (.frz o (.dK kvs))) ∧
    (∀ i k v H, kvs[i]? = some (k, v) → Pv i H → g (kV k) (wipe σ vs) H fun σ2 H2 => wipe σ2 vs = wipe σ vs ∧ tt σ2 H2 fun b H3 =>
      if b = true then te σ2 H3 fun y H4 => ∃ acc, H4 D = some (.lst acc) ∧ acc.length < sizeLine ∧ Pv (i + 1) (upd H4 D (.lst (acc ++ [y]))) else Pv (i + 1) H3) ∧ ∀ H, Pv kvs.length H → Q (.ref D) H) : LcD d o kvs g tt te vs σ H Q := fun D hD => by
  obtain ⟨Pv, h0, hl, hs, hd⟩ := h D hD
  refine ⟨fun i m H => m = kvs.length - i ∧ i ≤ kvs.length ∧ Pv i H, ⟨kvs.length, by simp, Nat.zero_le _, h0⟩, ?_⟩
  rintro i m H ⟨rfl, hi, p⟩
  have q := hl i H hi p
  by_cases hlt : i < kvs.length
  · refine .inr ⟨⟨q, hlt⟩, Pv (i + 1), fun H' p' => ⟨kvs.length - (i + 1), by omega, rfl, hlt, p'⟩, fun x H' y => ?_⟩
    obtain ⟨e, k, v, ek, ex⟩ := y
    subst e
    subst ex
    exact hs i k v _ ek p
  · have e : i = kvs.length := by omega
    subst e
    exact .inl ⟨⟨q, Nat.le_refl _⟩, hd H p⟩
end
/-! ### data that may be compared -/
def Lay (n : Nat) (d : PyData) : Prop := d.canLay0 = true ∧ d.depth ≤ n
theorem Lay.mono {m n : Nat} {d : PyData} (h : Lay m d) (l : m ≤ n) : Lay n d := ⟨h.1, Nat.le_trans h.2 l⟩
theorem Lay.str {n : Nat} {z : Str} (h : Sz z) : Lay n (.str z) := ⟨by rw [PyData.canLay0]; exact h.2, by rw [PyData.depth]; exact Nat.zero_le _⟩
theorem Lay.int {n : Nat} (i : Int) : Lay n (.int i) := ⟨by rw [PyData.canLay0], by rw [PyData.depth]; exact Nat.zero_le _⟩
theorem Lay.bl {n : Nat} (b : Bool) : Lay n (.bool b) := ⟨by rw [PyData.canLay0], by rw [PyData.depth]; exact Nat.zero_le _⟩
theorem lay_all {n : Nat} : ∀ {xs : List PyData}, (∀ x ∈ xs, Lay n x) → PyData.canLayAll0 xs = true ∧ PyData.depthAll xs ≤ n
  | [], _ => ⟨by rw [PyData.canLayAll0], by rw [PyData.depthAll]; exact Nat.zero_le _⟩
  | x :: r, h => by
    have h1 := h x List.mem_cons_self
    have h2 := lay_all fun y m => h y (List.mem_cons_of_mem _ m)
    rw [PyData.canLayAll0, PyData.depthAll, h1.1, h2.1]
    exact ⟨rfl, Nat.max_le.mpr ⟨h1.2, h2.2⟩⟩
theorem Lay.tup {n : Nat} {xs : List PyData} (h : ∀ x ∈ xs, Lay n x) : Lay (n + 1) (.tuple xs) := ⟨by rw [PyData.canLay0]; exact (lay_all h).1, by rw [PyData.depth]; exact Nat.succ_le_succ (lay_all h).2⟩
theorem Lay.lst {n : Nat} {xs : List PyData} (h : ∀ x ∈ xs, Lay n x) : Lay (n + 1) (.list xs) := ⟨by rw [PyData.canLay0]; exact (lay_all h).1, by rw [PyData.depth]; exact Nat.succ_le_succ (lay_all h).2⟩
theorem Lay.t2 {n : Nat} {x y : PyData} (h : Lay n x) (k : Lay n y) : Lay (n + 1) (.tuple [x, y]) := Lay.tup fun z m => by
  simp only [List.mem_cons, List.not_mem_nil, or_false] at m
  rcases m with rfl | rfl
  · exact h
  · exact k
theorem Lay.t3 {n : Nat} {x y z : PyData} (h : Lay n x) (k : Lay n y) (l : Lay n z) : Lay (n + 1) (.tuple [x, y, z]) := Lay.tup fun u m => by
  simp only [List.mem_cons, List.not_mem_nil, or_false] at m
  rcases m with rfl | rfl | rfl
  · exact h
  · exact k
  · exact l
theorem Lay.shaped {n : Nat} {d : PyData} (h : Lay n d) (l : n ≤ 64 := by decide) : SeqAt.shaped d = true := by
  unfold SeqAt.shaped
  rw [h.1, Bool.true_and]
  exact decide_eq_true (Nat.le_trans h.2 l)
theorem Lay.eqv {n : Nat} {d : PyData} (h : Lay n d) : PyData.eqv d d = true := SeqAt.eqv_refl d h.1
theorem sz_ {z : Str} (h : (decide (z.length ≤ 4000) && PyData.strOk z) = true := by decide +kernel) : Sz z := by
  rw [Bool.and_eq_true, decide_eq_true_eq] at h
  exact h
theorem lay_g {t : Tg} (h : szG t) : Lay 2 (tgD t) := by
  cases t with
  | set g => exact Lay.t2 (.str sz_) (.str h)
  | names zs => exact Lay.t2 (.str sz_) (.tup fun x m => by obtain ⟨z, mz, rfl⟩ := List.mem_map.mp m; exact .str (h.2 z mz))
theorem lay_t {t : Tm} (h : szT t) : Lay 3 (tmD t) := by
  cases t with
  | name z => exact Lay.t2 (.str sz_) (.str h)
  | fld f => exact Lay.t2 (.str sz_) (.str h)
  | part f i => exact Lay.t3 (.str sz_) (.str h) (.int _)
  | oth f t => exact Lay.t3 (.str sz_) (.str h.1) (lay_g h.2)
theorem lay_ts {ts : List Tm} (h : ∀ t ∈ ts, szT t) : Lay 4 (.tuple (ts.map tmD)) := .tup fun x m => by
  obtain ⟨t, mt, rfl⟩ := List.mem_map.mp m
  exact lay_t (h t mt)
theorem lay_c {c : Cn} (h : szc c) (e : inn c = []) : Lay 5 (cnD c) := by
  cases c with
  | tru => exact .tup fun x m => by rw [List.mem_singleton.mp m]; exact .str sz_
  | fls => exact .tup fun x m => by rw [List.mem_singleton.mp m]; exact .str sz_
  | is a b => unfold szc at h; exact .t3 (.str sz_) ((lay_t h.1).mono (by decide)) ((lay_t h.2).mono (by decide))
  | inn a w => unfold szc at h; exact .t3 (.str sz_) ((lay_t h.1).mono (by decide)) (.str h.2)
  | mbr a w => unfold szc at h; exact .t3 (.str sz_) ((lay_t h.1).mono (by decide)) (.str h.2)
  | wth f t => unfold szc at h; exact .t3 (.str sz_) (.str h.1) ((lay_g h.2).mono (by decide))
  | most a b n =>
    unfold szc at h
    exact .tup fun x m => by
      simp only [List.mem_cons, List.not_mem_nil, or_false] at m
      rcases m with rfl | rfl | rfl | rfl
      · exact .str sz_
      · exact .str h.1
      · exact .str h.2
      · exact .int _
  | und f ts => unfold szc at h; exact .t3 (.str sz_) (.str h.1) (lay_ts h.2)
  | ats f ts => unfold szc at h; exact .t3 (.str sz_) (.str h.1) (lay_ts h.2)
  | not c => cases e
  | all cs =>
    have e : cs = [] := e
    subst e
    exact .t2 (.str sz_) (.tup fun x m => by cases m)
  | any cs =>
    have e : cs = [] := e
    subst e
    exact .t2 (.str sz_) (.tup fun x m => by cases m)
/-! ### what is written, what stays -/
def Wt (Ws : List Addr) (H H' : Hp) : Prop := ∀ b o, b ∉ Ws → H b = some o → H' b = some o
theorem Wt.trans {Ws : List Addr} {H H1 H2 : Hp} (x : Wt Ws H H1) (y : Wt Ws H1 H2) : Wt Ws H H2 := fun b o n e => y b o n (x b o n e)
theorem Wt.sub {Us Ws : List Addr} {H H' : Hp} (x : Wt Us H H') (s : ∀ u ∈ Us, u ∈ Ws) : Wt Ws H H' := fun b o n e => x b o (fun m => n (s b m)) e
theorem Wt.of {Ws : List Addr} {H H' : Hp} (s : Same H H') : Wt Ws H H' := fun b o _ e => s b o e
theorem Wt.put {Ws : List Addr} {H H' : Hp} {a : Addr} {o : HO} (x : Wt Ws H H') (m : a ∈ Ws) : Wt Ws H (upd H' a o) := fun b u n e => by
  have ne : b ≠ a := fun z => n (by rw [z]; exact m)
  rw [upd_ne ne]
  exact x b u n e
theorem Wt.ts {Ws : List Addr} {H H' : Hp} (x : Wt Ws H H') (h : ∀ a ∈ Ws, ∃ o, H a = some o ∧ (∀ xs, o ≠ .tup xs) ∧ ∀ q xs, o ≠ .frz q (.tup xs)) : TS H H' := fun a xs => by
  have n : ∀ o, H a = some o → (o = .tup xs ∨ ∃ q, o = .frz q (.tup xs)) → a ∉ Ws := fun o e k m => by
    obtain ⟨o', e', n1, n2⟩ := h a m
    rw [e] at e'
    cases Option.some.inj e'
    rcases k with k | ⟨q, k⟩
    · exact n1 _ k
    · exact n2 _ _ k
  exact ⟨fun e => x a _ (n _ e (.inl rfl)) e, fun o e => x a _ (n _ e (.inr ⟨o, rfl⟩)) e⟩
/-! ### records of grants -/
structure Rc where
  num : Int
  par : Int
  who : Str
  cn : Cn
  pass : Int
  off : Bool
def rcD (r : Rc) : PyData := .tuple [.int r.num, .int r.par, .str r.who, cnD r.cn, .int r.pass, .bool r.off]
structure okRc (j : Nat) (r : Rc) : Prop where
  num : r.num = j + 1
  par0 : 0 ≤ r.par
  par1 : r.par ≤ j
  who : Sz r.who
  cn : szc r.cn
  inn : inn r.cn = []
  off : r.off = false
def okRs (rs : List Rc) : Prop := ∀ j r, rs[j]? = some r → okRc j r
theorem okRs.snoc {rs : List Rc} {r : Rc} (h : okRs rs) (k : okRc rs.length r) : okRs (rs ++ [r]) := fun j x e => by
  by_cases l : j < rs.length
  · rw [List.getElem?_append_left l] at e
    exact h j x e
  · rw [List.getElem?_append_right (by omega)] at e
    have : j - rs.length = 0 := by
      cases z : j - rs.length with
      | zero => rfl
      | succ n => rw [z] at e; cases e
    rw [this] at e
    cases Option.some.inj e
    have : j = rs.length := by omega
    rw [this]
    exact k
theorem lay_r {j : Nat} {r : Rc} (h : okRc j r) : Lay 6 (rcD r) := .tup fun x m => by
  simp only [List.mem_cons, List.not_mem_nil, or_false] at m
  rcases m with rfl | rfl | rfl | rfl | rfl | rfl
  · exact .int _
  · exact .int _
  · exact .str h.who
  · exact lay_c h.cn h.inn
  · exact .int _
  · exact .bl _
theorem lay_rs {rs : List Rc} (h : okRs rs) : Lay 7 (.tuple (rs.map rcD)) := .tup fun x m => by
  obtain ⟨r, mr, rfl⟩ := List.mem_map.mp m
  obtain ⟨j, e⟩ := List.mem_iff_getElem?.mp mr
  exact lay_r (h j r e)
theorem rcs_tupos : ∀ rs : List Rc, tupos (rs.map rcD) = true
  | [] => rfl
  | r :: rs => by
    rw [List.map_cons, tupos, rcs_tupos rs, Bool.and_true]
    show tupo (rcD r) = true
    unfold rcD
    rw [tupo]
    simp only [tupos, tupo, cnD_tupo, Bool.and_true]
theorem Dp.rcI {K : PySem.W.Frag} {H : Hp} {v : V} {r : Rc} (h : Dp K H v (rcD r)) : ∃ (a : Addr) (vc : V), v = .ref a ∧ SqT K H a [.int r.num, .int r.par, .str r.who, vc, .int r.pass, .bl r.off] ∧ Dp K H vc (cnD r.cn) := by
  unfold rcD at h
  obtain ⟨a, vs, rfl, hT, hA⟩ := Dp.tupI h
  cases hA with
  | cons h1 t => cases t with
    | cons h2 t => cases t with
      | cons h3 t => cases t with
        | cons h4 t => cases t with
          | cons h5 t => cases t with
            | cons h6 t =>
              cases t
              cases h1
              cases h2
              cases h3
              cases h5
              cases h6
              exact ⟨a, _, rfl, hT, h4⟩
/-- an instance with its list -/
def GrO (K : PySem.W.Frag) (p g : Addr) (us : List V) (H : Hp) : Prop := (∃ dx, H p = some (.ins (He.ga K "Grants") dx [("_made", .ref g)])) ∧ H g = some (.lst us)
theorem GrO.same {K : PySem.W.Frag} {p g : Addr} {us : List V} {H H' : Hp} (h : GrO K p g us H) (s : Same H H') : GrO K p g us H' := let ⟨⟨dx, e⟩, k⟩ := h; ⟨⟨dx, s _ _ e⟩, s _ _ k⟩
theorem GrO.tb {K : PySem.W.Frag} {p g : Addr} {us : List V} {Ts : List Addr} {H H' : Hp} (h : GrO K p g us H) (t : Tbs Ts H) (s : TbG Ts H H') : GrO K p g us H' := let ⟨⟨dx, e⟩, k⟩ := h; ⟨⟨dx, s.at t e⟩, s.at t k⟩
theorem lk1 {f : Str} {v : V} : List.lookup f [(f, v)] = some v := by simp [List.lookup]
theorem lk0 {f m : Str} {v : V} (h : m ≠ f) : List.lookup m [(f, v)] = none := by
  have : (m == f) = false := beq_eq_false_iff_ne.mpr h
  simp [List.lookup, this]
theorem rc_at {K : PySem.W.Frag} {H : Hp} {us : List V} {rs : List Rc} {n : Int} {v : V} (hA : DpAll K H us (rs.map rcD)) (n1 : 1 ≤ n) (e : atI us (n - 1) = some v) (n2 : n ≤ us.length) : ∃ (j : Nat) (r : Rc), rs[j]? = some r ∧ n = j + 1 ∧ Dp K H v (rcD r) := by
  have hl := DpAll.len hA
  rw [List.length_map] at hl
  obtain ⟨j, rfl⟩ : ∃ j : Nat, n = j + 1 := ⟨(n - 1).toNat, by omega⟩
  have lj : j < rs.length := by omega
  have ej : (rs.map rcD)[j]? = some (rcD rs[j]) := by rw [List.getElem?_map, List.getElem?_eq_getElem lj]; rfl
  obtain ⟨u, eu, du⟩ := DpAll.at hA ej
  have e2 : atI us ((j : Int) + 1 - 1) = some u := by
    rw [show ((j : Int) + 1 - 1) = (j : Int) by omega]
    exact atI_nat eu
  rw [e2] at e
  cases Option.some.inj e
  exact ⟨j, rs[j], List.getElem?_eq_getElem lj, rfl, du⟩
def nV : V → V
  | .bl b => .bl (!b)
  | v => v
theorem dp_rc {K : PySem.W.Frag} {H : Hp} {t : Addr} {vc : V} {x : Rc} (e : H t = some (.tup [.int x.num, .int x.par, .str x.who, vc, .int x.pass, .bl x.off])) (dc : Dp K H vc (cnD x.cn)) : Dp K H (.ref t) (rcD x) :=
  .tup (SqT.of e) (.cons (.int _) (.cons (.int _) (.cons (.str _) (.cons dc (.cons (.int _) (.cons (.bl _) .nil))))))
/-! ### two lists of records beside each other -/
def msks (Ws : List Addr) (H : Hp) : Hp := fun b => if b ∈ Ws then none else H b
theorem msks_same (Ws : List Addr) (H : Hp) : Same (msks Ws H) H := fun b o e => by
  have e : (if b ∈ Ws then none else H b) = some o := e
  by_cases m : b ∈ Ws
  · rw [if_pos m] at e; cases e
  · rwa [if_neg m] at e
theorem msks_in {Ws : List Addr} {H : Hp} {b : Addr} (m : b ∈ Ws) : msks Ws H b = none := if_pos m
theorem msks_out {Ws : List Addr} {H : Hp} {b : Addr} (m : b ∉ Ws) : msks Ws H b = H b := if_neg m
structure Gd (d g oo r T : Addr) (H0 : Hp) : Prop where
  d0 : H0 d = none
  g0 : H0 g = none
  o0 : H0 oo = none
  r0 : H0 r = none
  t0 : H0 T = none
  dg : d ≠ g
  dO : d ≠ oo
  dr : d ≠ r
  gO : g ≠ oo
  gr : g ≠ r
  oR : oo ≠ r
structure Gv (K : PySem.W.Frag) (d g oo r T : Addr) (H0 : Hp) (rg rr : List Rc) (H : Hp) : Prop where
  same : Same H0 H
  dr : Dr d H
  gm : ∃ us, H g = some (.lst us) ∧ DpAll K H us (rg.map rcD)
  rm : ∃ us, H r = some (.lst us) ∧ DpAll K H us (rr.map rcD)
  om : H oo = some (.lst [])
  tb : Tbs [T] H
section
variable {K : PySem.W.Frag} {d g oo r T : Addr} {H0 H H' : Hp} {rg rr : List Rc}
theorem Gv.go (G : Gd d g oo r T H0) (v : Gv K d g oo r T H0 rg rr H) (k : Go d H H') : Gv K d g oo r T H0 rg rr H' :=
  ⟨k.base v.same G.d0, k.dr, let ⟨us, e, a⟩ := v.gm; ⟨us, k.fr _ _ G.dg.symm e, DpAll.ts (TS.go v.dr k) _ _ (rcs_tupos _) a⟩, let ⟨us, e, a⟩ := v.rm; ⟨us, k.fr _ _ G.dr.symm e, DpAll.ts (TS.go v.dr k) _ _ (rcs_tupos _) a⟩, k.fr _ _ G.dO.symm v.om, v.tb.go v.dr k⟩
theorem Gv.sm (v : Gv K d g oo r T H0 rg rr H) (s : Same H H') : Gv K d g oo r T H0 rg rr H' :=
  ⟨v.same.trans s, let ⟨xs, e⟩ := v.dr; ⟨xs, s _ _ e⟩, let ⟨us, e, a⟩ := v.gm; ⟨us, s _ _ e, DpAll.go s _ _ a⟩, let ⟨us, e, a⟩ := v.rm; ⟨us, s _ _ e, DpAll.go s _ _ a⟩, s _ _ v.om, v.tb.same s⟩
theorem Gv.tg (G : Gd d g oo r T H0) (v : Gv K d g oo r T H0 rg rr H) (t : TbG [T] H H') : Gv K d g oo r T H0 rg rr H' :=
  ⟨fun b o e => t.2 b o (fun m => by rw [List.mem_singleton.mp m, G.t0] at e; cases e) (v.same b o e), Dr.tb v.tb v.dr t, let ⟨us, e, a⟩ := v.gm; ⟨us, t.at v.tb e, DpAll.ts (t.ts v.tb) _ _ (rcs_tupos _) a⟩, let ⟨us, e, a⟩ := v.rm; ⟨us, t.at v.tb e, DpAll.ts (t.ts v.tb) _ _ (rcs_tupos _) a⟩, t.at v.tb v.om, t.1⟩
theorem Gv.ts (v : Gv K d g oo r T H0 rg rr H) (w : Wt [g, T] H H') : TS H H' := w.ts fun a m => by
  rcases List.mem_cons.mp m with rfl | m
  · obtain ⟨us, e, _⟩ := v.gm
    exact ⟨_, e, (fun _ z => by cases z), (fun _ _ z => by cases z)⟩
  · obtain ⟨ps, e, _⟩ := v.tb a m
    exact ⟨_, e, (fun _ z => by cases z), (fun _ _ z => by cases z)⟩
theorem Gv.gapp (G : Gd d g oo r T H0) (v : Gv K d g oo r T H0 rg rr H) {us : List V} {t : Addr} {vc : V} {x : Rc} (e : H g = some (.lst us)) (a : DpAll K H us (rg.map rcD)) (w : Wt [g, T] H H') (tt : Tbs [T] H') (et : H' t = some (.tup [.int x.num, .int x.par, .str x.who, vc, .int x.pass, .bl x.off])) (eg : H' g = some (.lst (us ++ [.ref t]))) (dc : Dp K H vc (cnD x.cn)) : Gv K d g oo r T H0 (rg ++ [x]) rr H' := by
  have ts := v.ts w
  have out : ∀ {b : Addr} {xs : List V}, b ≠ g → H b = some (.lst xs) → b ∉ [g, T] := fun n eb m => by
    rcases List.mem_cons.mp m with z | m
    · exact n z
    · exact v.tb.off eb (fun q z => by cases z) m
  refine ⟨fun b o eb => w b o (fun m => ?_) (v.same b o eb), ?_, ⟨_, eg, ?_⟩, ?_, w _ _ (out G.gO.symm v.om) v.om, tt⟩
  · rcases List.mem_cons.mp m with z | m
    · rw [z, G.g0] at eb; cases eb
    · rw [List.mem_singleton.mp m, G.t0] at eb; cases eb
  · obtain ⟨xs, ed⟩ := v.dr
    exact ⟨xs, w _ _ (out G.dg ed) ed⟩
  · rw [List.map_append]
    exact DpAll.snoc (dp_rc et (Dp.ts ts _ _ (cnD_tupo _) dc)) (DpAll.ts ts _ _ (rcs_tupos _) a)
  · obtain ⟨xs, ex, ax⟩ := v.rm
    exact ⟨xs, w _ _ (out G.gr.symm ex) ex, DpAll.ts ts _ _ (rcs_tupos _) ax⟩
theorem Gv.rapp (G : Gd d g oo r T H0) (v : Gv K d g oo r T H0 rg rr H) {us : List V} {t : Addr} {vc : V} {x : Rc} (e : H r = some (.lst us)) (a : DpAll K H us (rr.map rcD)) (n : H t = none) (dc : Dp K H vc (cnD x.cn)) : Gv K d g oo r T H0 rg (rr ++ [x]) (upd (upd H t (.tup [.int x.num, .int x.par, .str x.who, vc, .int x.pass, .bl x.off])) r (.lst (us ++ [.ref t]))) := by
  have s1 : Same H (upd H t (.tup [.int x.num, .int x.par, .str x.who, vc, .int x.pass, .bl x.off])) := Same.new n
  have e1 : upd H t (.tup [.int x.num, .int x.par, .str x.who, vc, .int x.pass, .bl x.off]) t = some (.tup [.int x.num, .int x.par, .str x.who, vc, .int x.pass, .bl x.off]) := upd_same
  generalize upd H t (.tup [.int x.num, .int x.par, .str x.who, vc, .int x.pass, .bl x.off]) = H1 at s1 e1 ⊢
  have v1 := v.sm s1
  have er := s1 _ _ e
  have ts : TS H1 (upd H1 r (.lst (us ++ [.ref t]))) := TS.lst er
  have da := DpAll.snoc (dp_rc e1 (Dp.go s1 _ _ dc)) (DpAll.go s1 _ _ a)
  refine ⟨fun b o eb => ?_, ?_, ?_, ⟨_, upd_same, ?_⟩, ?_, ?_⟩
  · rw [upd_ne (fun z => by rw [z, G.r0] at eb; cases eb)]
    exact v1.same b o eb
  · obtain ⟨xs, ed⟩ := v1.dr
    exact ⟨xs, by rw [upd_ne G.dr]; exact ed⟩
  · obtain ⟨xs, ex, ax⟩ := v1.gm
    exact ⟨xs, by rw [upd_ne G.gr]; exact ex, DpAll.ts ts _ _ (rcs_tupos _) ax⟩
  · rw [List.map_append]
    exact DpAll.ts ts _ _ (by have := rcs_tupos (rr ++ [x]); rw [List.map_append] at this; exact this) da
  · rw [upd_ne G.oR]
    exact v1.om
  · intro T' m
    obtain ⟨ps, ep, tr⟩ := v1.tb T' m
    exact ⟨ps, by rw [upd_ne (ne_of ep er (by intro z; cases z))]; exact ep, tr⟩
theorem Wld.msks {d f w Te : Addr} {v : V} {fs ws : List Str} {us : List V} {ts : List Tm} {Ws : List Addr} (W : Wld K d v f w Te fs ws us ts H) (hm : ∀ a ∈ Ws, ∃ o, H a = some o ∧ (∀ xs, o ≠ .tup xs) ∧ ∀ q xs, o ≠ .frz q (.tup xs)) (hf : f ∉ Ws) (hw : w ∉ Ws) (ht : Te ∉ Ws) : Wld K d v f w Te fs ws us ts (msks Ws H) := by
  have tS : TS H (My.msks Ws H) := Wt.ts (Ws := Ws) (fun b o n e => by rw [msks_out n]; exact e) hm
  exact ⟨let ⟨a, e, h⟩ := W.tp; ⟨a, e, tS.tup h⟩, ⟨by rw [msks_out hf]; exact W.fl.at_, W.fl.ne, W.fl.wd, W.fl.pos, W.fl.len⟩, ⟨by rw [msks_out hw]; exact W.wl.at_, W.wl.ne, W.wl.wd, W.wl.pos, W.wl.len⟩, by rw [msks_out ht]; exact W.te, W.ne, DpAll.ts tS _ _ (tms_tupos ts) W.da, W.ok, W.pos, W.len, W.nd⟩
theorem Wld.sm {d f w Te : Addr} {v : V} {fs ws : List Str} {us : List V} {ts : List Tm} (W : Wld K d v f w Te fs ws us ts H) (s : Same H H') : Wld K d v f w Te fs ws us ts H' :=
  ⟨let ⟨a, e, h⟩ := W.tp; ⟨a, e, (TS.of s).tup h⟩, ⟨s _ _ W.fl.at_, W.fl.ne, W.fl.wd, W.fl.pos, W.fl.len⟩, ⟨s _ _ W.wl.at_, W.wl.ne, W.wl.wd, W.wl.pos, W.wl.len⟩, s _ _ W.te, W.ne, DpAll.go s _ _ W.da, W.ok, W.pos, W.len, W.nd⟩
end
theorem Tbs.wt {T g : Addr} {us : List V} {H H' : Hp} (t : Tbs [T] H) (e : H g = some (.lst us)) (w : Wt [g] H H') : Tbs [T] H' := fun U m => by
  obtain ⟨ps, eU, tr⟩ := t U m
  refine ⟨ps, w U _ (fun z => ?_) eU, tr⟩
  rw [List.mem_singleton.mp z, e] at eU
  cases eU
theorem ts_app {H : Hp} {t r : Addr} {o : HO} {us ws : List V} (n : H t = none) (e : H r = some (.lst us)) : TS H (upd (upd H t o) r (.lst ws)) :=
  (TS.new n).trans (TS.lst (xs := us) (by rw [upd_ne (ne_of_none e n)]; exact e))
theorem lay_err {z : Str} : Lay 1 (.list ((errN.map fun o => decide (V.str o = V.str z)).map PyData.bool)) := .lst fun x m => by
  obtain ⟨b, _, rfl⟩ := List.mem_map.mp m
  exact .bl _
theorem dp_err {K : PySem.W.Frag} {H : Hp} {l : Addr} {z : Str} (e : H l = some (.lst (errL z))) : Dp K H (.ref l) (.list ((errN.map fun o => decide (V.str o = V.str z)).map PyData.bool)) := .lst (SqL.of e) (by
  have : ∀ bs : List Bool, DpAll K H (bs.map V.bl) (bs.map PyData.bool) := fun bs => by
    induction bs with
    | nil => exact .nil
    | cons b bs ih => exact .cons (.bl _) ih
  exact this _)
/-! ### the chain of a grant -/
/-- each parent stands ahead -/
def tree (rs : List Rc) : Prop := ∀ (j : Nat) (r : Rc), rs[j]? = some r → 0 ≤ r.par ∧ r.par ≤ j
def chn (rs : List Rc) : Nat → Int → List Int
  | 0, _ => []
  | k + 1, n => if n < 1 then [] else match rs[(n - 1).toNat]? with
    | some r => chn rs k r.par ++ [n]
    | none => []
theorem chn_zero {rs : List Rc} : ∀ {k : Nat}, chn rs k 0 = []
  | 0 => rfl
  | _ + 1 => rfl
theorem chn_fuel {rs : List Rc} (t : tree rs) : ∀ {k m : Nat} {n : Int}, n ≤ k → n ≤ m → chn rs k n = chn rs m n
  | 0, m, n, h, _ => by
    cases m with
    | zero => rfl
    | succ m =>
      show [] = if n < 1 then [] else _
      rw [if_pos (by omega)]
  | k + 1, 0, n, _, h => by
    show (if n < 1 then [] else _) = []
    rw [if_pos (by omega)]
  | k + 1, m + 1, n, h1, h2 => by
    show (if n < 1 then [] else match rs[(n - 1).toNat]? with
      | some r => chn rs k r.par ++ [n]
      | none => []) = if n < 1 then [] else match rs[(n - 1).toNat]? with
      | some r => chn rs m r.par ++ [n]
      | none => []
    by_cases h : n < 1
    · rw [if_pos h, if_pos h]
    · rw [if_neg h, if_neg h]
      cases e : rs[(n - 1).toNat]? with
      | none => rfl
      | some r =>
        have := (t _ r e).2
        show chn rs k r.par ++ [n] = chn rs m r.par ++ [n]
        rw [chn_fuel t (k := k) (m := m) (n := r.par) (by omega) (by omega)]
theorem chn_step {rs : List Rc} (t : tree rs) {j : Nat} {r : Rc} {n : Int} (e : rs[j]? = some r) (ej : n = j + 1) : chn rs rs.length n = chn rs rs.length r.par ++ [n] := by
  have lj := (List.getElem?_eq_some_iff.mp e).1
  have := (t j r e).2
  obtain ⟨k, hk⟩ : ∃ k, rs.length = k + 1 := ⟨rs.length - 1, by omega⟩
  rw [hk]
  show (if n < 1 then [] else match rs[(n - 1).toNat]? with
    | some r => chn rs k r.par ++ [n]
    | none => []) = _
  rw [if_neg (by omega), show (n - 1).toNat = j by omega, e]
  show chn rs k r.par ++ [n] = _
  rw [chn_fuel t (k := k) (m := k + 1) (by omega) (by omega)]
theorem chn_mem {rs : List Rc} : ∀ {k : Nat} {n z : Int}, z ∈ chn rs k n → 1 ≤ z ∧ z ≤ rs.length
  | 0, n, z, m => by cases m
  | k + 1, n, z, m => by
    have m : z ∈ (if n < 1 then [] else match rs[(n - 1).toNat]? with
      | some r => chn rs k r.par ++ [n]
      | none => []) := m
    by_cases h : n < 1
    · rw [if_pos h] at m; cases m
    · rw [if_neg h] at m
      cases e : rs[(n - 1).toNat]? with
      | none => rw [e] at m; cases m
      | some r =>
        rw [e] at m
        have m : z ∈ chn rs k r.par ++ [n] := m
        rcases List.mem_append.mp m with m | m
        · exact chn_mem m
        · have := (List.getElem?_eq_some_iff.mp e).1
          rw [List.mem_singleton.mp m]
          omega
/-- revoked -/
def offAt (rs : List Rc) (z : Int) : Bool := match rs[(z - 1).toNat]? with
  | some r => r.off
  | none => false
/-- stands: nothing in its chain is revoked -/
def std (rs : List Rc) (n : Int) : Bool := !(chn rs rs.length n).any (offAt rs)
theorem Dp.rc5 {K : PySem.W.Frag} {H : Hp} {a : Addr} {r : Rc} (h : Dp K H (.ref a) (.tuple [.int r.num, .int r.par, .str r.who, cnD r.cn, .int r.pass])) : ∃ vc : V, SqT K H a [.int r.num, .int r.par, .str r.who, vc, .int r.pass] ∧ Dp K H vc (cnD r.cn) := by
  obtain ⟨b, vs, e, hT, hA⟩ := Dp.tupI h
  cases e
  cases hA with
  | cons h1 t => cases t with
    | cons h2 t => cases t with
      | cons h3 t => cases t with
        | cons h4 t => cases t with
          | cons h5 t =>
            cases t
            cases h1
            cases h2
            cases h3
            cases h5
            exact ⟨_, hT, h4⟩
theorem ixN_in {n j : Nat} (h : j < n) : ixN n (j : Int) = some j := by
  unfold ixN
  rw [if_pos (by omega), if_pos (by omega)]
  rfl
/-- the numbers of the grants that stand, ascending -/
def ups (rs : List Rc) : List Int := ((List.range rs.length).map fun (i : Nat) => (i : Int) + 1).filter (std rs)
theorem std_zero {rs : List Rc} : std rs 0 = true := by
  unfold std
  rw [chn_zero]
  rfl
theorem std_step {rs : List Rc} (t : tree rs) {j : Nat} {r : Rc} (e : rs[j]? = some r) : std rs (j + 1) = (std rs r.par && !r.off) := by
  unfold std
  rw [chn_step t e rfl, List.any_append]
  have eo : offAt rs ((j : Int) + 1) = r.off := by
    unfold offAt
    rw [show ((j : Int) + 1 - 1).toNat = j by omega, e]
  rw [List.any_cons, List.any_nil, Bool.or_false, eo, Bool.not_or]
/-- the dict that standing fills -/
def stK (rs : List Rc) (i : Nat) : List (Key × V) := (List.range (i + 1)).map fun (j : Nat) => ((Sum.inl (j : Int) : Key), V.bl (std rs j))
theorem stK_succ (rs : List Rc) (i : Nat) : stK rs (i + 1) = stK rs i ++ [((Sum.inl ((i + 1 : Nat) : Int) : Key), V.bl (std rs ((i + 1 : Nat) : Int)))] := by
  unfold stK
  rw [List.range_succ, List.map_append]
  rfl
theorem stK_val (rs : List Rc) : ∀ i z : Nat, valV (stK rs i) (Sum.inl (z : Int)) = if z ≤ i then some (.bl (std rs z)) else none
  | 0, z => by
    by_cases h : z = 0
    · subst h
      rw [if_pos (Nat.le_refl 0)]
      exact valV_pos (p := ((Sum.inl ((0 : Nat) : Int) : Key), V.bl (std rs ((0 : Nat) : Int)))) rfl
    · rw [if_neg (by omega)]
      show valV [((Sum.inl ((0 : Nat) : Int) : Key), V.bl (std rs ((0 : Nat) : Int)))] _ = none
      rw [valV_neg (fun e => h (by have := Sum.inl.inj e; omega))]
      rfl
  | i + 1, z => by
    rw [stK_succ, valV_snoc _ _ _ _ (by rw [stK_val rs i (i + 1), if_neg (by omega)]), stK_val rs i z]
    by_cases h : z = i + 1
    · subst h
      rw [if_pos rfl, if_pos (Nat.le_refl _)]
    · rw [if_neg (fun e => h (by have := Sum.inl.inj e; omega))]
      by_cases h2 : z ≤ i
      · rw [if_pos h2, if_pos (by omega)]
      · rw [if_neg h2, if_neg (by omega)]
theorem same_put_at {H H' : Hp} {p : Addr} {o : HO} (s : Same H H') (n : H p = none) : Same H (upd H' p o) := fun a u e => by
  rw [upd_ne (ne_of_none e n)]
  exact s a u e
end My

namespace My
open PySem PySem.Spec PyProof.Rows L2 TL
local macro_rules | `(tactic| walk_at "wp") => `(tactic| (simp only [w_var, w_c, w_seq, w_next, w_break, w_cont, w_drop, w_ret, w_retN, w_ifs, w_asg, w_name, w_gnil, w_gcons, w_gtup, w_gsub, w_aug, w_ipI, w_op, w_un, w_cb, w_cons, w_nil, w_tup, w_lst, w_test, w_B, w_and, w_or, w_not, w_andV, w_orV, w_notV, w_if, w_call, w_sl, w_part, w_nopart, w_bm0, w_bm, w_bms, w_m0, w_m1, w_revL, w_yes,
  r_I, r_I0, r_U, r_eq, r_ne, r_ixL, r_ixT, r_ixS, r_slL, r_slS, r_in, r_app, r_pop, r_rev, r_setL, r_index, r_isi, r_ix, r_ltT, r_catA, r_setTup, r_setLst, r_sortTx, r_inTx, r_tupF, r_sortS, w_tix, l_LcR1, l_R1, l_R2, l_L, l_T, l_S, l_LcL, l_LcT, cx_K, cx_w, cx_mg, w_ckw, w_fn, r_minKD, w_fmt, w_js0, w_js1, w_orT, w_jn, w_allL, w_gnq, w_iT, w_iL, gnS, join_ss, join_sn, w_raiseF, w_fmtR, w_callU, w_callS, w_tryO, w_tryA, w_tryAs, r_eqD, r_neD, w_sortL, w_addTx, l_Q, l_LcQ, w_tryOG, w_tryAG, w_callSK, w_iZ, w_meth, w_methS, w_make, w_fld, w_sfld, w_tryRM, w_spC, w_star, w_dget, w_dput, w_par3, r_sum, r_popAt, r_rep, r_ext, r_cat, scal_i, scal_s, scal_b, ty_s,
  L2.start, List.map_cons, List.map_nil, List.length_cons, List.length_nil, List.cons_append, List.nil_append, List.append_nil, List.set_cons_zero, List.set_cons_succ, List.getElem?_cons_zero, List.getElem?_cons_succ, Nat.reduceSub, Nat.reduceAdd, List.replicate_succ, List.replicate_zero, wipe,
  Option.some.injEq, V.ref.injEq, V.int.injEq, V.str.injEq, V.bl.injEq, v_cons, and_true, true_and, exists_eq_left, exists_eq_left', exists_eq_right, exists_eq_right', exists_and_left, decide_eq_true_eq, Bool.not_eq_true', decide_eq_false_iff_not, if_true, if_false, reduceCtorEq, false_and, and_false, exists_false, or_false, false_or, Bool.false_eq_true, Bool.not_true, Bool.not_false, and_assoc]))
local macro_rules | `(tactic| walk_at "wc") => `(tactic| (simp only [w_var, w_c, w_seq, w_next, w_break, w_cont, w_drop, w_ret, w_retN, w_ifs, w_asg, w_name, w_gnil, w_gcons, w_gtup, w_gsub, w_aug, w_ipI, w_op, w_un, w_cb, w_cons, w_nil, w_tup, w_lst, w_test, w_B, w_and, w_or, w_not, w_andV, w_orV, w_notV, w_if, w_call, w_sl, w_part, w_nopart, w_bm0, w_bm, w_bms, w_m0, w_m1, w_revL, w_yes,
  r_I, r_I0, r_U, r_eq, r_ne, r_ixL, r_ixT, r_ixS, r_slL, r_slS, r_in, r_app, r_pop, r_rev, r_setL, r_index, r_isi, r_ix, r_ltT, r_setTup, r_setLst, r_sortTx, r_inTx, r_tupF, r_sortS, w_tix, l_LcR1, l_R1, l_R2, l_L, l_T, l_S, l_LcL, l_LcT, cx_K, cx_w, cx_mg, w_ckw, w_fn, r_minKD, w_fmt, w_js0, w_js1, w_orT, w_jn, w_allL, w_gnq, w_iT, w_iL, gnS, join_ss, join_sn, w_raiseF, w_fmtR, w_callU, w_callS, w_tryO, w_tryA, w_tryAs, r_eqD, r_neD, w_sortL, w_addTx, l_Q, l_LcQ, w_tryOG, w_tryAG, w_callSK, w_iZ, w_meth, w_methS, w_make, w_fld, w_sfld, w_tryRM, w_spC, w_star, w_dget, w_dput, w_par3, r_sum, r_popAt, r_rep, r_ext, r_cat, scal_i, scal_s, scal_b, ty_s,
  L2.start, List.map_cons, List.map_nil, List.length_cons, List.length_nil, List.cons_append, List.nil_append, List.append_nil, List.set_cons_zero, List.set_cons_succ, List.getElem?_cons_zero, List.getElem?_cons_succ, Nat.reduceSub, Nat.reduceAdd, List.replicate_succ, List.replicate_zero, wipe,
  Option.some.injEq, V.ref.injEq, V.int.injEq, V.str.injEq, V.bl.injEq, v_cons, and_true, true_and, exists_eq_left, exists_eq_left', exists_eq_right, exists_eq_right', exists_and_left, decide_eq_true_eq, Bool.not_eq_true', decide_eq_false_iff_not, if_true, if_false, reduceCtorEq, false_and, and_false, exists_false, or_false, false_or, Bool.false_eq_true, Bool.not_true, Bool.not_false, and_assoc]))

def topS (i : Nat) : Stmt := PySem.Challenge.pw_whomaywhat_k01_words_and_numbers.main.body.getD i (.Pass ⟨0, 0, 0, 0⟩)
structure Bn (K : PySem.W.Frag) (mg : Str → Option Value) : Prop where
  n_abs : mg "abs" = none
  n_bool : mg "bool" = none
  n_divmod : mg "divmod" = none
  n_int : mg "int" = none
  n_isinstance : mg "isinstance" = none
  n_len : mg "len" = none
  n_list : mg "list" = none
  n_max : mg "max" = none
  n_range : mg "range" = none
  n_str : mg "str" = none
  g_LETTERS : ∃ t, mg "LETTERS" = some (Value.str "abcdefghijklmnopqrstuvwxyz" t)
abbrev s_law_take : Stmt := topS 6
abbrev N_law_take : List Str := ["draws", "many"]
abbrev P_law_take : List Str := ["draws", "many"]
/-- a draw below n -/
def sp_law_take (_K : PySem.W.Frag) : Sp := fun vs H Q _ => ∃ (d : Addr) (n : Int), vs = [.ref d, .int n] ∧ Dr d H ∧ 0 < n ∧ ∀ r H', 0 ≤ r → r < n → Go d H H' → Q (.int r) H'

abbrev s_law_cell : Stmt := topS 7
abbrev N_law_cell : List Str := ["script", "draws"]
abbrev P_law_cell : List Str := ["script", "draws"]
def sp_law_cell (K : PySem.W.Frag) : Sp := fun vs H Q _ => ∃ (a d : Addr) (ns : List Int), vs = [.ref a, .ref d] ∧ (∃ H0, Same H0 H ∧ H0 d = none ∧ SqL K H0 a (ns.map V.int)) ∧ Dr d H ∧ ∀ v H', (v = 0 ∨ v ∈ ns) → Go d H H' → Q (.int v) H'

abbrev s_law_draws : Stmt := topS 5
abbrev N_law_draws : List Str := ["script", "many", "cells", "rest", "draws", "k", "at", "once", "cell"]
abbrev P_law_draws : List Str := ["script", "many"]
/-- the draws: a new list of ints -/
def sp_law_draws (K : PySem.W.Frag) : Sp := fun vs H Q _ => ∃ (a : Addr) (ns : List Int) (m : Int), vs = [.ref a, .int m] ∧ SqL K H a (ns.map V.int) ∧ ns.length ≤ 1000 ∧ 0 ≤ m ∧ m ≤ 100000 ∧ ∀ p H', H p = none → Same H H' → Dr p H' → Q (.ref p) H'

abbrev s_law_fold : Stmt := topS 9
abbrev N_law_fold : List Str := ["word", "number", "letter"]
abbrev P_law_fold : List Str := ["word"]
def sp_law_fold (_K : PySem.W.Frag) : Sp := fun vs H Q _ => ∃ z : Str, vs = [.str z] ∧ AZ z ∧ Q (.int (wnum (tl z))) H

abbrev s_law_is_integer : Stmt := topS 8
abbrev N_law_is_integer : List Str := ["value"]
abbrev P_law_is_integer : List Str := ["value"]
def sp_law_is_integer (_K : PySem.W.Frag) : Sp := fun vs H Q _ => ∃ n : Int, vs = [.int n] ∧ Q (.bl true) H

abbrev s_word_at : Stmt := topS 3
abbrev N_word_at : List Str := ["number", "letters", "place"]
abbrev P_word_at : List Str := ["number"]
def sp_word_at (_K : PySem.W.Frag) : Sp := fun vs H Q _ => ∃ n : Nat, vs = [.int n] ∧ (atw n).length ≤ 16000000 ∧ ∀ H', Same H H' → Q (.str ⟨(atw n).toArray⟩) H'

abbrev s_word_number : Stmt := topS 2
abbrev N_word_number : List Str := ["word", "number", "letter"]
abbrev P_word_number : List Str := ["word"]
def sp_word_number (_K : PySem.W.Frag) : Sp := fun vs H Q _ => ∃ z : Str, vs = [.str z] ∧ AZ z ∧ Q (.int (wnum (tl z))) H

abbrev s_law_known : Stmt := topS 13
abbrev N_law_known : List Str := ["word", "number", "back"]
abbrev P_law_known : List Str := ["word"]
def sp_law_known (_K : PySem.W.Frag) : Sp := fun vs H Q _ => ∃ z : Str, vs = [.str z] ∧ AZ z ∧ z.length ≤ 1000000 ∧ ∀ H', Same H H' → Q (.bl true) H'

abbrev s_law_letters : Stmt := topS 10
abbrev N_law_letters : List Str := ["draws", "size", "word", "k"]
abbrev P_law_letters : List Str := ["draws", "size"]
/-- a word of that many letters -/
def sp_law_letters (_K : PySem.W.Frag) : Sp := fun vs H Q _ => ∃ (d : Addr) (n : Int), vs = [.ref d, .int n] ∧ Dr d H ∧ 0 ≤ n ∧ n ≤ 10000 ∧ ∀ z H', AZ z → (z.length : Int) = n → Go d H H' → Q (.str z) H'

abbrev s_law_numbered : Stmt := topS 12
abbrev N_law_numbered : List Str := ["number", "word", "letter", "back"]
abbrev P_law_numbered : List Str := ["number"]
def sp_law_numbered (_K : PySem.W.Frag) : Sp := fun vs H Q _ => ∃ n : Nat, vs = [.int n] ∧ (atw n).length ≤ 16000000 ∧ ∀ H', Same H H' → Q (.bl true) H'

abbrev s_law_other : Stmt := topS 11
abbrev N_law_other : List Str := ["draws", "one", "shape", "at"]
abbrev P_law_other : List Str := ["draws", "one"]
def sp_law_other (_K : PySem.W.Frag) : Sp := fun vs H Q _ => ∃ (d : Addr) (z : Str), vs = [.ref d, .str z] ∧ Dr d H ∧ AZ z ∧ 1 ≤ z.length ∧ z.length ≤ 10000 ∧ ∀ y H', AZ y → y.length ≤ 10001 → Go d H H' → Q (.str y) H'

abbrev s_law : Stmt := topS 14
abbrev N_law : List Str := ["script", "draws", "great", "least", "one", "other", "word", "earlier", "edge", "k", "number"]
abbrev P_law : List Str := ["script"]
def sp_law (K : PySem.W.Frag) : Sp := fun vs H Q _ => ∃ (a : Addr) (ns : List Int), vs = [.ref a] ∧ SqL K H a (ns.map V.int) ∧ ns.length ≤ 63 ∧ (∀ z ∈ ns, Builtin.Int.intBits z ≤ 1048576) ∧ ∀ H', Q (.bl true) H'

section
variable {P : Program} {w : World} {K : PySem.W.Frag} {mg : Str → Option Value} {base : Heap}
theorem sc_law_take : FnScope N_law_take P_law_take (defScope s_law_take) := ⟨rfl, rfl, rfl, by decide +kernel, rfl, by decide +kernel, by decide +kernel⟩

theorem ok_law_take {f : Addr} {fd : FuncData} (F : Fun K "_law_take" "_law_take" s_law_take f fd) (B : Bn K mg)     : FnOk P w K mg base CX0 1 f fd P_law_take (sp_law_take K) := by
  have sc := sc_law_take
  refine F.ok sc (fun vs H Q E h => ?_) (fun cdv A outer s H vs Q E hr h => ?_)
  · unfold sp_law_take at h
    obtain ⟨_, _, rfl, _⟩ := h
    rfl
  · refine ⟨_, (pss_cons (ps_if (pt_cmpR op_eq (pe_callB (k_len K rfl) (by rfl) B.n_len boot_len (pa_cons (pv 0) (pa_nil))) (pe_int) (nomark _))
        (pss_one (ps_ret (pe_int)))
        pss_nil)
        (pss_one (ps_ret (pe_op op_mod (pe_callTy call_int1 (by rfl) B.n_int boot_int (pa_cons (pe_bm0 PySem.F.plainAttrs_list PySem.F.slot_list_pop PySem.F.type_list_pop mt_pop (pv 0)) (pa_nil))) (pv 1))))), ?_⟩
    unfold sp_law_take at h
    obtain ⟨d, n, rfl, ⟨ds, hd⟩, hn, q⟩ := h
    walk_at "wp"
    refine ⟨_, .inl (SqL.of hd), ite2 (fun e => ?_) (fun e => ?_)⟩
    · exact q 0 H (Int.le_refl 0) hn (Go.refl ⟨ds, hd⟩)
    · have hl : (ds.map V.int).length - 1 < (ds.map V.int).length := by
        have : (ds.map V.int).length ≠ 0 := fun z => e (by rw [z]; rfl)
        omega
      rw [List.length_map] at hl
      refine ⟨ty_l (SqL.of hd), _, hd, .int ds[ds.length - 1], ?_, .inl ⟨_, rfl, hn, ?_⟩⟩
      · rw [List.length_map, List.getElem?_map, List.getElem?_eq_getElem hl]
        rfl
      · refine q _ _ (Int.emod_nonneg _ (by omega)) (Int.emod_lt_of_pos _ hn) ⟨fun a o hne ha => ?_, ds.dropLast, ?_⟩
        · rw [upd_ne hne]
          exact ha
        · rw [upd_same, List.map_dropLast]
theorem sc_law_cell : FnScope N_law_cell P_law_cell (defScope s_law_cell) := ⟨rfl, rfl, rfl, by decide +kernel, rfl, by decide +kernel, by decide +kernel⟩

theorem ok_law_cell {f : Addr} {fd : FuncData} (F : Fun K "_law_cell" "_law_cell" s_law_cell f fd) (B : Bn K mg) (C_law_take : Cal P w K mg base 1 "_law_take" P_law_take (sp_law_take K))    : FnOk P w K mg base CX0 2 f fd P_law_cell (sp_law_cell K) := by
  have sc := sc_law_cell
  refine F.ok sc (fun vs H Q E h => ?_) (fun cdv A outer s H vs Q E hr h => ?_)
  · unfold sp_law_cell at h
    obtain ⟨_, _, _, rfl, _⟩ := h
    rfl
  · refine ⟨_, (pss_cons (ps_if (pt_cmpR op_eq (pe_callB (k_len K rfl) (by rfl) B.n_len boot_len (pa_cons (pv 0) (pa_nil))) (pe_int) (nomark _))
        (pss_one (ps_ret (pe_int)))
        pss_nil)
        (pss_one (ps_ret (pe_callTy call_int1 (by rfl) B.n_int boot_int (pa_cons (pe_ix (k_ixL K rfl) (pv 0) (pe_cal C_law_take hr (pa_cons (pv 1) (pa_cons (pe_callB (k_len K rfl) (by rfl) B.n_len boot_len (pa_cons (pv 0) (pa_nil))) (pa_nil)))) (fun _ _ => rfl)) (pa_nil)))))), ?_⟩
    unfold sp_law_cell at h
    obtain ⟨a, d, ns, rfl, ⟨H0, s0, n0, hS⟩, hD, q⟩ := h
    walk_at "wp"
    refine ⟨_, .inl (s0.seq hS), ite2 (fun e => ?_) (fun e => ?_)⟩
    · exact q 0 H (.inl rfl) (Go.refl hD)
    · refine ⟨_, .inl (s0.seq hS), d, ((ns.map V.int).length : Nat), rfl, hD, by omega, fun r H2 r0 r1 g => ?_⟩
      rw [List.length_map] at r1
      obtain ⟨v, e1, e2⟩ := at_lt (xs := ns.map V.int) r0 (by rw [List.length_map]; exact r1)
      obtain ⟨n, hn, rfl⟩ : ∃ n, n ∈ ns ∧ v = .int n := by
        obtain ⟨m, h1, h2⟩ := List.mem_map.mp (List.mem_of_getElem? e2)
        exact ⟨m, h1, h2.symm⟩
      walk_at "wp"
      refine ⟨_, (g.base s0 n0).seq hS, .int n, e1, ?_⟩
      walk_at "wp"
      exact q n H2 (.inr hn) g
theorem sc_law_draws : FnScope N_law_draws P_law_draws (defScope s_law_draws) := ⟨rfl, rfl, rfl, by decide +kernel, rfl, by decide +kernel, by decide +kernel⟩
theorem int_at {xs : List Int} {i : Nat} {x : V} (h : (xs.map V.int)[i]? = some x) : ∃ n, xs[i]? = some n ∧ x = .int n := by
  rw [List.getElem?_map] at h
  cases e : xs[i]? with
  | none => rw [e] at h; cases h
  | some n => rw [e] at h; exact ⟨n, rfl, (Option.some.inj h).symm⟩
theorem atI_int {xs : List Int} {z : Int} (h0 : 0 ≤ z) (h1 : z < xs.length) : ∃ n, atI (xs.map V.int) z = some (.int n) := by
  obtain ⟨v, e, e2⟩ := at_lt (xs := xs.map V.int) (z := z) h0 (by rw [List.length_map]; exact h1)
  obtain ⟨n, _, rfl⟩ := int_at e2
  exact ⟨n, e⟩

theorem ok_law_draws {f : Addr} {fd : FuncData} (F : Fun K "_law_draws" "_law_draws" s_law_draws f fd) (B : Bn K mg)     : FnOk P w K mg base CX0 1 f fd P_law_draws (sp_law_draws K) := by
  have sc := sc_law_draws
  refine F.ok sc (fun vs H Q E h => ?_) (fun cdv A outer s H vs Q E hr h => ?_)
  · unfold sp_law_draws at h
    obtain ⟨_, _, _, rfl, _⟩ := h
    rfl
  · refine ⟨_, (pss_cons (ps_setLc (i := 2) (own := [("cell", 8)]) (g := gName 8) (tt := tYes) rfl sc.nd rfl rfl (sw_true rfl rfl rfl (by decide +kernel)) (pi_list (pv 0)) (blkOk_by (N := N_law_draws) (sc := defScope s_law_draws) (by decide +kernel)) (fun _ _ _ _ _ => pg_name (i := 8) sc.nd rfl (Or.inl rfl)) (fun _ _ _ _ _ => pts_nil) (fun _ _ _ _ _ => pe_callTy call_int1 (by rfl) B.n_int boot_int (pa_cons (pv 8) (pa_nil))))
        (Evl.pss_cut (ps_if (pt_cmpR op_eq (pe_callB (k_len K rfl) (by rfl) B.n_len boot_len (pa_cons (pv 2) (pa_nil))) (pe_int) (nomark _))
        (pss_one (ps_expr (pe_bm PySem.F.plainAttrs_list PySem.F.slot_list_append PySem.F.type_list_append mt_append (pv 2) (pa_cons (pe_int) (pa_nil)))))
        pss_nil)
        (pss_cons (ps_set (i := 3) sc.nd rfl (by first | exact Or.inl rfl | exact Or.inr rfl) (pe_callTy call_list_of (by rfl) B.n_list boot_list (pa_cons (pv 2) (pa_nil))))
        (pss_cons (ps_set (i := 4) sc.nd rfl (by first | exact Or.inl rfl | exact Or.inr rfl) (pe_lst (pa_nil)))
        (pss_cons (ps_for PassesOwn.never rfl (pi_range1 (by rfl) B.n_range (pa_cons (pv 1) (pa_nil))) (pg_name (i := 5) sc.nd rfl (by first | exact Or.inl rfl | exact Or.inr rfl))
        (pss_cons (ps_set (i := 6) sc.nd rfl (by first | exact Or.inl rfl | exact Or.inr rfl) (pe_op op_mod (pv 5) (pe_callB (k_len K rfl) (by rfl) B.n_len boot_len (pa_cons (pv 2) (pa_nil)))))
        (pss_one (ps_if (pt_cmpR op_ge (pe_ix (k_ixL K rfl) (pv 2) (pv 6) (fun _ _ => rfl)) (pe_op op_pow (pe_int) (pe_int)) (nomark _))
        (pss_cons (ps_expr (pe_bm PySem.F.plainAttrs_list PySem.F.slot_list_append PySem.F.type_list_append mt_append (pv 4) (pa_cons (pe_op op_mod (pe_callTy call_int1 (by rfl) B.n_int boot_int (pa_cons (pe_ix (k_ixL K rfl) (pv 3) (pv 6) (fun _ _ => rfl)) (pa_nil))) (pe_int)) (pa_nil))))
        (pss_one (ps_asg (pe_op op_fdiv (pe_ix (k_ixL K rfl) (pv 3) (pv 6) (fun _ _ => rfl)) (pe_int)) (pg_sub (pv 3) (pv 6) set_list))))
        (pss_cons (ps_set (i := 7) sc.nd rfl (by first | exact Or.inl rfl | exact Or.inr rfl) (pe_op op_mod (pe_callTy call_int1 (by rfl) B.n_int boot_int (pa_cons (pe_op op_add (pe_op op_add (pe_op op_mul (pe_ix (k_ixL K rfl) (pv 2) (pv 6) (fun _ _ => rfl)) (pe_int)) (pe_op op_mul (pv 5) (pe_int))) (pe_int)) (pa_nil))) (pe_int)))
        (pss_one (ps_expr (pe_bm PySem.F.plainAttrs_list PySem.F.slot_list_append PySem.F.type_list_append mt_append (pv 4) (pa_cons (pe_op op_mod (pe_callTy call_int1 (by rfl) B.n_int boot_int (pa_cons (pe_op op_add (pe_op op_add (pe_op op_mul (pv 7) (pv 7)) (pe_op op_mul (pe_int) (pv 7))) (pv 5)) (pa_nil))) (pe_int)) (pa_nil))))))))))
        (pss_cons (ps_expr (pe_bm0 PySem.F.plainAttrs_list PySem.F.slot_list_reverse PySem.F.type_list_reverse mt_reverse (pv 4)))
        (pss_one (ps_ret (pv 4))))))))), ?_⟩
    unfold sp_law_draws at h
    obtain ⟨a, ns, m, rfl, hS, hlen, hm0, hm1, q⟩ := h
    walk_at "wp"
    refine ⟨⟨_, hS⟩, LcL.by (ns.map V.int) fun D hD => ⟨fun i H' => Same H H' ∧ H' D = some (.lst ((ns.take i).map V.int)), ⟨Same.new hD, upd_same⟩, fun i H' _ p => p.1.seq hS, fun i x H' hi p => ?_, fun H1 p => ?_⟩⟩
    · obtain ⟨n, hn, rfl⟩ := int_at hi
      walk_at "wp"
      refine ⟨_, p.2, ?_, fun b o e => ?_, ?_⟩
      · rw [List.length_map, List.length_take]
        exact line_lt (by omega)
      · rw [upd_ne (ne_of_none e hD)]
        exact p.1 b o e
      · rw [upd_same, List.take_add_one, hn, List.map_append]
        rfl
    · obtain ⟨s1, hD1⟩ := p
      rw [List.length_map, List.take_length] at hD1
      refine ⟨fun σ' H' => σ' = [some (.ref a), some (.int m), some (.ref D), none, none, none, none, none, none] ∧ Same H H' ∧ ∃ cs : List Int, cs ≠ [] ∧ cs.length ≤ 1000 ∧ H' D = some (.lst (cs.map V.int)), ?_, ?_⟩
      · walk_at "wp"
        refine ⟨_, .inl (SqL.of hD1), ite2 (fun e => ?_) (fun e => ?_)⟩
        · rw [List.length_map] at e
          have e1 : ns = [] := List.eq_nil_of_length_eq_zero (by omega)
          subst e1
          refine ⟨ty_l (SqL.of hD1), _, hD1, line_lt (by show 0 < _; omega), fun b o e => ?_, [0], by simp, by show 1 ≤ 1000; omega, upd_same⟩
          rw [upd_ne (ne_of_none e hD)]
          exact s1 b o e
        · rw [List.length_map] at e
          exact ⟨s1, ns, fun z => e (by rw [z]; rfl), by omega, hD1⟩
      · rintro σ' H2 ⟨rfl, s2, cs, hne, hcl, hc⟩
        have hcp : 0 < cs.length := List.length_pos_iff.mpr hne
        walk_at "wp"
        refine ⟨_, .inl (SqL.of hc), fun r hr0 => ⟨Nat.zero_le _, fun d hd0 => ⟨by omega, by omega, ?_⟩⟩⟩
        have nrD : r ≠ D := fun e => by rw [e, hc] at hr0; cases hr0
        have ndr : d ≠ r := fun e => by rw [e, upd_same] at hd0; cases hd0
        have ndD : d ≠ D := fun e => by rw [e, upd_ne nrD.symm, hc] at hd0; cases hd0
        have hHr : H r = none := s2.free hr0
        have hHd : H d = none := s2.free (by rw [upd_ne ndr] at hd0; exact hd0)
        refine LpR.by (fun i σ H' => ∃ (rs ds : List Int) (y5 y6 y7 : Option V), σ = [some (.ref a), some (.int m), some (.ref D), some (.ref r), some (.ref d), y5, y6, y7, none] ∧ Same H H' ∧ H' D = some (.lst (cs.map V.int)) ∧ H' r = some (.lst (rs.map V.int)) ∧ rs.length = cs.length ∧ H' d = some (.lst (ds.map V.int)) ∧ ds.length = i) ?_ ?_ ?_
        · refine ⟨cs, [], none, none, none, rfl, fun b o e => ?_, ?_, ?_, rfl, upd_same, rfl⟩
          · rw [upd_ne (ne_of_none e hHd), upd_ne (ne_of_none e hHr)]
            exact s2 b o e
          · rw [upd_ne ndD.symm, upd_ne nrD.symm]
            exact hc
          · rw [upd_ne ndr.symm, upd_same]
        · rintro i σ H' hi ⟨rs, ds, y5, y6, y7, rfl, s3, hc3, hr3, hrl, hd3, hdl⟩
          walk_at "wp"
          have hpos : (0 : Int) < ((cs.map V.int).length : Nat) := by rw [List.length_map]; omega
          have h0 : 0 ≤ (0 + (i : Int)) % ((cs.map V.int).length : Nat) := Int.emod_nonneg _ (by omega)
          have h1 : (0 + (i : Int)) % ((cs.map V.int).length : Nat) < cs.length := by
            have := Int.emod_lt_of_pos (0 + (i : Int)) hpos
            rw [List.length_map] at this ⊢
            exact this
          obtain ⟨c, ec⟩ := atI_int h0 h1
          obtain ⟨t, et⟩ := atI_int (xs := rs) h0 (by rw [hrl]; exact h1)
          have hdz : (ds.map V.int).length < sizeLine := by rw [List.length_map]; exact line_lt (by omega)
          refine ⟨_, .inl (SqL.of hc3), hpos, _, SqL.of hc3, .int c, ec, ?_⟩
          walk_at "wp"
          refine ⟨⟨by decide, by decide, by decide⟩, ite2 (fun _ => ?_) (fun _ => ?_)⟩
          · refine ⟨ty_l (SqL.of hd3), _, SqL.of hr3, .int t, et, ?_⟩
            walk_at "wp"
            refine ⟨by decide, _, hd3, hdz, ?_⟩
            have hr4 : (upd H' d (.lst (ds.map V.int ++ [.int (t % 1000)]))) r = some (.lst (rs.map V.int)) := by
              rw [upd_ne ndr.symm]
              exact hr3
            refine ⟨_, SqL.of hr4, .int t, et, ?_⟩
            walk_at "wp"
            refine ⟨⟨by decide, by decide⟩, _, hr4, ((0 + (i : Int)) % ((cs.map V.int).length : Nat)).toNat, ?_, ?_⟩
            · rw [List.length_map, hrl]
              have := Evl.ixN_nat (n := cs.length) (j := ((0 + (i : Int)) % ((cs.map V.int).length : Nat)).toNat) (by omega)
              rw [Int.toNat_of_nonneg h0] at this
              exact this
            · refine ⟨rs.set ((0 + (i : Int)) % ((cs.map V.int).length : Nat)).toNat (t / 1000), ds ++ [t % 1000], _, _, _, rfl, fun b o e => ?_, ?_, ?_, by rw [List.length_set]; exact hrl, ?_, by rw [List.length_append, hdl]; rfl⟩
              · rw [upd_ne (ne_of_none e hHr), upd_ne (ne_of_none e hHd)]
                exact s3 b o e
              · rw [upd_ne nrD.symm, upd_ne ndD.symm]
                exact hc3
              · rw [upd_same, List.map_set]
              · rw [upd_ne ndr, upd_same, List.map_append]
                rfl
          · have hon := Int.emod_nonneg (c * 48271 + (0 + (i : Int)) * 69621 + 11) (show (2147483647 : Int) ≠ 0 by decide)
            have hol := Int.emod_lt_of_pos (c * 48271 + (0 + (i : Int)) * 69621 + 11) (show (0 : Int) < 2147483647 by decide)
            refine ⟨_, SqL.of hc3, .int c, ec, ?_⟩
            walk_at "wp"
            refine ⟨.inr ⟨by decide, by decide⟩, .inr ⟨by decide, by decide⟩, by decide, ty_l (SqL.of hd3), .inl ⟨by omega, by omega⟩, .inl ⟨by decide, by decide⟩, by decide, _, hd3, hdz, ?_⟩
            refine ⟨rs, ds ++ [?z], _, _, _, rfl, fun b o e => ?_, ?_, ?_, hrl, ?_, ?_⟩
            rotate_left
            · rw [upd_ne (ne_of_none e hHd)]
              exact s3 b o e
            · rw [upd_ne ndD.symm]
              exact hc3
            · rw [upd_ne ndr.symm]
              exact hr3
            · rw [upd_same, List.map_append]
              rfl
            · rw [List.length_append, hdl]
              rfl
        · rintro σ H' ⟨rs, ds, y5, y6, y7, rfl, s3, hc3, hr3, hrl, hd3, hdl⟩
          walk_at "wp"
          refine ⟨ty_l (SqL.of hd3), _, hd3, ?_⟩
          refine q d _ hHd (fun b o e => ?_) ⟨ds.reverse, ?_⟩
          · rw [upd_ne (ne_of_none e hHd)]
            exact s3 b o e
          · rw [upd_same, List.map_reverse]
theorem sc_law_fold : FnScope N_law_fold P_law_fold (defScope s_law_fold) := ⟨rfl, rfl, rfl, by decide +kernel, rfl, by decide +kernel, by decide +kernel⟩

theorem ok_law_fold {f : Addr} {fd : FuncData} (F : Fun K "_law_fold" "_law_fold" s_law_fold f fd) (B : Bn K mg)     : FnOk P w K mg base CX0 1 f fd P_law_fold (sp_law_fold K) := by
  have sc := sc_law_fold
  refine F.ok sc (fun vs H Q E h => ?_) (fun cdv A outer s H vs Q E hr h => ?_)
  · unfold sp_law_fold at h
    obtain ⟨_, rfl, _⟩ := h
    rfl
  · refine ⟨_, (pss_cons (ps_set (i := 1) sc.nd rfl (by first | exact Or.inl rfl | exact Or.inr rfl) (pe_int))
        (pss_cons (ps_for PassesOwn.never rfl (pi_str (pv 0)) (pg_name (i := 2) sc.nd rfl (by first | exact Or.inl rfl | exact Or.inr rfl))
        (pss_one (ps_set (i := 1) sc.nd rfl (by first | exact Or.inl rfl | exact Or.inr rfl) (pe_op op_add (pe_op op_add (pe_op op_mul (pv 1) (pe_int)) (pe_bmS PySem.F.plainAttrs_str PySem.F.slot_str_index PySem.F.type_str_index (mt_indexX rfl takes0) (pe_str) (pa_cons (pv 2) (pa_nil)))) (pe_int)))))
        (pss_one (ps_ret (pv 1))))), ?_⟩
    unfold sp_law_fold at h
    obtain ⟨z, rfl, hz, q⟩ := h
    walk_at "wp"
    refine LpS.by (fun i σ H' => H' = H ∧ ∃ y, σ = [some (.str z), some (.int (wnum ((tl z).take i))), y]) ⟨rfl, none, rfl⟩ ?_ ?_
    · rintro i c σ H' hi ⟨rfl, y, rfl⟩
      have hc := hz c (List.mem_of_getElem? hi)
      walk_at "wp"
      refine ⟨.inr ⟨by decide, by decide⟩, fun k hk => ?_, fun hk => ?_⟩
      · rw [index_LET hc] at hk
        cases hk
        refine ⟨some (.str ⟨#[c]⟩), ?_⟩
        rw [List.take_add_one, hi, show ((some c).toList : List Nat) = [c] from rfl, wnum_snoc]
        rfl
      · rw [index_LET hc] at hk
        cases hk
    · rintro σ H' ⟨rfl, y, rfl⟩
      walk_at "wp"
      rw [List.take_length]
      exact q
theorem sc_law_is_integer : FnScope N_law_is_integer P_law_is_integer (defScope s_law_is_integer) := ⟨rfl, rfl, rfl, by decide +kernel, rfl, by decide +kernel, by decide +kernel⟩

theorem ok_law_is_integer {f : Addr} {fd : FuncData} (F : Fun K "_law_is_integer" "_law_is_integer" s_law_is_integer f fd) (B : Bn K mg)     : FnOk P w K mg base CX0 1 f fd P_law_is_integer (sp_law_is_integer K) := by
  have sc := sc_law_is_integer
  refine F.ok sc (fun vs H Q E h => ?_) (fun cdv A outer s H vs Q E hr h => ?_)
  · unfold sp_law_is_integer at h
    obtain ⟨_, rfl, _⟩ := h
    rfl
  · refine ⟨_, (pss_one (ps_ret ((pe_and (pe_callB (k_isi K rfl) (by rfl) B.n_isinstance boot_isinstance (pa_cons (pv 0) (pa_cons ((pe_bltn (v := .ty "int") (by rfl) B.n_int boot_int rfl)) (pa_nil)))) (pe_one (pe_not (pe_callB (k_isi K rfl) (by rfl) B.n_isinstance boot_isinstance (pa_cons (pv 0) (pa_cons ((pe_bltn (v := .ty "bool") (by rfl) B.n_bool boot_bool rfl)) (pa_nil)))))))))), ?_⟩
    unfold sp_law_is_integer at h
    obtain ⟨n, rfl, q⟩ := h
    walk_at "wp"
    refine isi_int ?_
    walk_at "wp"
    refine isi_int_bool ?_
    walk_at "wp"
    exact q
theorem sc_word_at : FnScope N_word_at P_word_at (defScope s_word_at) := ⟨rfl, rfl, rfl, by decide +kernel, rfl, by decide +kernel, by decide +kernel⟩

theorem ok_word_at {f : Addr} {fd : FuncData} (F : Fun K "word_at" "word_at" s_word_at f fd) (B : Bn K mg)     : FnOk P w K mg base CX0 1 f fd P_word_at (sp_word_at K) := by
  obtain ⟨t_LETTERS, g_LETTERS⟩ := B.g_LETTERS
  have sc := sc_word_at
  refine F.ok sc (fun vs H Q E h => ?_) (fun cdv A outer s H vs Q E hr h => ?_)
  · unfold sp_word_at at h
    obtain ⟨_, rfl, _⟩ := h
    rfl
  · refine ⟨_, (pss_cons (ps_set (i := 1) sc.nd rfl (by first | exact Or.inl rfl | exact Or.inr rfl) (pe_lst (pa_nil)))
        (pss_cons (ps_while PassesOwn.never (pt_cmpR op_gt (pv 0) (pe_int) (nomark _))
        (pss_cons (ps_asg (pe_callB call_divmod (by rfl) B.n_divmod boot_divmod (pa_cons (pe_op op_sub (pv 0) (pe_int)) (pa_cons (pe_callB call_len_str (by rfl) B.n_len boot_len (pa_cons ((pe_glob (v := .str "abcdefghijklmnopqrstuvwxyz") (by rfl) g_LETTERS ⟨_, rfl⟩)) (pa_nil))) (pa_nil)))) (pg_tup (by rfl) (pgs_cons (pg_name (i := 0) sc.nd rfl (by first | exact Or.inl rfl | exact Or.inr rfl)) (pgs_cons (pg_name (i := 2) sc.nd rfl (by first | exact Or.inl rfl | exact Or.inr rfl)) (pgs_nil)))))
        (pss_one (ps_expr (pe_bm PySem.F.plainAttrs_list PySem.F.slot_list_append PySem.F.type_list_append mt_append (pv 1) (pa_cons (pe_ix ix_str ((pe_glob (v := .str "abcdefghijklmnopqrstuvwxyz") (by rfl) g_LETTERS ⟨_, rfl⟩)) (pv 2) (fun _ _ => rfl)) (pa_nil)))))))
        (pss_one (ps_ret (k_join K rfl (pe_str) (pe_revL (pv 1))))))), ?_⟩
    unfold sp_word_at at h
    obtain ⟨n, rfl, hz, q⟩ := h
    walk_at "wp"
    refine ⟨Nat.zero_le _, fun d hd => ?_⟩
    refine while_W (fun m σ H' => ∃ (cs : List Nat) (y : Option V), σ = [some (.int m), some (.ref d), y] ∧ Same H H' ∧ H' d = some (.lst ((cs.map sgn).map V.str)) ∧ atw n = atw m ++ cs.reverse) n ⟨[], none, rfl, Same.new hd, upd_same, by simp⟩ ?_ ?_
    · rintro m σ H' ⟨cs, y, rfl, s1, hd1, e1⟩
      walk_at "wp"
      refine ite2 (fun hm => ?_) (fun hm => ?_)
      · have hm1 : m ≠ 0 := by omega
        have ez : ((m : Int) - 1) % (LET.length : Nat) = (((m - 1) % 26 : Nat) : Int) := by rw [len_LET]; omega
        have ed : ((m : Int) - 1) / (LET.length : Nat) = (((m - 1) / 26 : Nat) : Int) := by rw [len_LET]; omega
        refine ⟨line_of (by rw [len_LET]; decide), ⟨by rw [len_LET]; decide, by rw [len_LET]; decide⟩, fun p hp => ⟨_, SqT.of upd_same, ?_⟩⟩
        have npd : d ≠ p := ne_of_none hd1 hp
        walk_at "wp"
        have hlen : cs.length < 16000000 := by
          rw [e1, atw_pos hm1, List.length_append, List.length_append, List.length_reverse] at hz
          simp only [List.length_cons, List.length_nil] at hz
          omega
        refine ⟨rfl, ty_l (SqL.of (by rw [upd_ne npd]; exact hd1)), line_of (by rw [len_LET]; decide), 97 + (m - 1) % 26, ?_, ?_⟩
        · rw [ez, at_LET (by omega) (by omega)]
          rfl
        · refine ⟨_, by rw [upd_ne npd]; exact hd1, by rw [List.length_map, List.length_map]; exact line_lt (by omega), (m - 1) / 26, by omega, cs ++ [97 + (m - 1) % 26], _, by rw [ed], fun b o e => ?_, ?_, ?_⟩
          · rw [upd_ne (ne_of_none e hd), upd_ne (ne_of_none (s1 _ _ e) hp)]
            exact s1 _ _ e
          · rw [upd_same, List.map_append, List.map_append]
            rfl
          · rw [e1, atw_pos hm1, List.reverse_append, List.append_assoc]
            rfl
      · have hm0 : m = 0 := by omega
        subst hm0
        rw [atw_zero, List.nil_append] at e1
        have hcl : cs.length ≤ 16000000 := by
          rw [e1, List.length_reverse] at hz
          exact hz
        refine ⟨⟨_, rfl⟩, _, SqL.of hd1, fun p hp => ⟨(cs.reverse).map sgn, .inl (SqL.of ?_), ?_, ?_⟩⟩
        · rw [upd_same, List.map_reverse, List.map_reverse]
        · rw [sgn_sum, List.length_map, List.length_reverse]
          show cs.length + cs.length * 0 ≤ _
          omega
        · rw [join_sgn, ← e1]
          refine q _ fun b o e => ?_
          rw [upd_ne (ne_of_none (s1 _ _ e) hp)]
          exact s1 _ _ e
    · intro σ H' Q1 Q2 hq
      walk_at "wp"
      rintro ⟨v, hv, i, rfl, hc⟩
      exact ⟨_, hv, i, rfl, hq _ _ hc⟩
theorem sc_word_number : FnScope N_word_number P_word_number (defScope s_word_number) := ⟨rfl, rfl, rfl, by decide +kernel, rfl, by decide +kernel, by decide +kernel⟩

theorem ok_word_number {f : Addr} {fd : FuncData} (F : Fun K "word_number" "word_number" s_word_number f fd) (B : Bn K mg)     : FnOk P w K mg base CX0 1 f fd P_word_number (sp_word_number K) := by
  obtain ⟨t_LETTERS, g_LETTERS⟩ := B.g_LETTERS
  have sc := sc_word_number
  refine F.ok sc (fun vs H Q E h => ?_) (fun cdv A outer s H vs Q E hr h => ?_)
  · unfold sp_word_number at h
    obtain ⟨_, rfl, _⟩ := h
    rfl
  · refine ⟨_, (pss_cons (ps_set (i := 1) sc.nd rfl (by first | exact Or.inl rfl | exact Or.inr rfl) (pe_int))
        (pss_cons (ps_for PassesOwn.never rfl (pi_str (pv 0)) (pg_name (i := 2) sc.nd rfl (by first | exact Or.inl rfl | exact Or.inr rfl))
        (pss_one (ps_set (i := 1) sc.nd rfl (by first | exact Or.inl rfl | exact Or.inr rfl) (pe_op op_add (pe_op op_add (pe_op op_mul (pv 1) (pe_callB call_len_str (by rfl) B.n_len boot_len (pa_cons ((pe_glob (v := .str "abcdefghijklmnopqrstuvwxyz") (by rfl) g_LETTERS ⟨_, rfl⟩)) (pa_nil)))) (pe_bmS PySem.F.plainAttrs_str PySem.F.slot_str_index PySem.F.type_str_index (mt_indexX rfl takes0) ((pe_glob (v := .str "abcdefghijklmnopqrstuvwxyz") (by rfl) g_LETTERS ⟨_, rfl⟩)) (pa_cons (pv 2) (pa_nil)))) (pe_int)))))
        (pss_one (ps_ret (pv 1))))), ?_⟩
    unfold sp_word_number at h
    obtain ⟨z, rfl, hz, q⟩ := h
    walk_at "wp"
    refine LpS.by (fun i σ H' => H' = H ∧ ∃ y, σ = [some (.str z), some (.int (wnum ((tl z).take i))), y]) ⟨rfl, none, rfl⟩ ?_ ?_
    · rintro i c σ H' hi ⟨rfl, y, rfl⟩
      have hc := hz c (List.mem_of_getElem? hi)
      walk_at "wp"
      refine ⟨line_of (by rw [len_LET]; decide), .inr ⟨by rw [len_LET]; decide, by rw [len_LET]; decide⟩, fun k hk => ?_, fun hk => ?_⟩
      · rw [index_LET hc] at hk
        cases hk
        refine ⟨some (.str ⟨#[c]⟩), ?_⟩
        rw [List.take_add_one, hi, show ((some c).toList : List Nat) = [c] from rfl, wnum_snoc, len_LET]
        rfl
      · rw [index_LET hc] at hk
        cases hk
    · rintro σ H' ⟨rfl, y, rfl⟩
      walk_at "wp"
      rw [List.take_length]
      exact q
theorem sc_law_known : FnScope N_law_known P_law_known (defScope s_law_known) := ⟨rfl, rfl, rfl, by decide +kernel, rfl, by decide +kernel, by decide +kernel⟩

theorem ok_law_known {f : Addr} {fd : FuncData} (F : Fun K "_law_known" "_law_known" s_law_known f fd) (B : Bn K mg) (C_law_fold : Cal P w K mg base 1 "_law_fold" P_law_fold (sp_law_fold K)) (C_law_is_integer : Cal P w K mg base 1 "_law_is_integer" P_law_is_integer (sp_law_is_integer K)) (Cword_at : Cal P w K mg base 1 "word_at" P_word_at (sp_word_at K)) (Cword_number : Cal P w K mg base 1 "word_number" P_word_number (sp_word_number K))    : FnOk P w K mg base CX0 2 f fd P_law_known (sp_law_known K) := by
  have sc := sc_law_known
  refine F.ok sc (fun vs H Q E h => ?_) (fun cdv A outer s H vs Q E hr h => ?_)
  · unfold sp_law_known at h
    obtain ⟨_, rfl, _⟩ := h
    rfl
  · refine ⟨_, (pss_cons (ps_set (i := 1) sc.nd rfl (by first | exact Or.inl rfl | exact Or.inr rfl) (pe_cal Cword_number hr (pa_cons (pv 0) (pa_nil))))
        (pss_cons (ps_if (PW.pt (pw_or (pt_not (pt_val (pe_cal C_law_is_integer hr (pa_cons (pv 1) (pa_nil))))) (pw_or1 (pt_cmpR op_ne (pv 1) (pe_cal C_law_fold hr (pa_cons (pv 0) (pa_nil))) (nomark _)))))
        (pss_one (ps_ret (pe_bl)))
        pss_nil)
        (pss_cons (ps_set (i := 2) sc.nd rfl (by first | exact Or.inl rfl | exact Or.inr rfl) (pe_cal Cword_at hr (pa_cons (pv 1) (pa_nil))))
        (pss_one (ps_ret ((pe_and (pe_callB (k_isi K rfl) (by rfl) B.n_isinstance boot_isinstance (pa_cons (pv 2) (pa_cons ((pe_bltn (v := .ty "str") (by rfl) B.n_str boot_str rfl)) (pa_nil)))) (pe_one (pe_cmpR op_eq (pv 2) (pv 0) (nomark _)))))))))), ?_⟩
    unfold sp_law_known at h
    obtain ⟨z, rfl, az, hl, q⟩ := h
    walk_at "wp"
    refine ⟨z, rfl, az, ?_⟩
    walk_at "wp"
    refine ⟨_, rfl, ?_⟩
    walk_at "wp"
    refine ⟨z, rfl, az, ?_⟩
    walk_at "wp"
    simp only [not_true, if_false]
    have e : atw (wnum (tl z)).toNat = tl z := atw_wnum (tl z) az
    have p := wnum_nonneg (tl z)
    refine ⟨(wnum (tl z)).toNat, ?_, ?_, fun H1 s1 => ?_⟩
    · rw [Int.toNat_of_nonneg p]
    · rw [e, ← len_tl]
      omega
    · walk_at "wp"
      refine isi_str ?_
      walk_at "wp"
      rw [e, mk_tl, decide_eq_true rfl]
      exact q _ s1
theorem sc_law_letters : FnScope N_law_letters P_law_letters (defScope s_law_letters) := ⟨rfl, rfl, rfl, by decide +kernel, rfl, by decide +kernel, by decide +kernel⟩

theorem ok_law_letters {f : Addr} {fd : FuncData} (F : Fun K "_law_letters" "_law_letters" s_law_letters f fd) (B : Bn K mg) (C_law_take : Cal P w K mg base 1 "_law_take" P_law_take (sp_law_take K))    : FnOk P w K mg base CX0 2 f fd P_law_letters (sp_law_letters K) := by
  have sc := sc_law_letters
  refine F.ok sc (fun vs H Q E h => ?_) (fun cdv A outer s H vs Q E hr h => ?_)
  · unfold sp_law_letters at h
    obtain ⟨_, _, rfl, _⟩ := h
    rfl
  · refine ⟨_, (pss_cons (ps_set (i := 2) sc.nd rfl (by first | exact Or.inl rfl | exact Or.inr rfl) (pe_str))
        (pss_cons (ps_for PassesOwn.never rfl (pi_range1 (by rfl) B.n_range (pa_cons (pv 1) (pa_nil))) (pg_name (i := 3) sc.nd rfl (by first | exact Or.inl rfl | exact Or.inr rfl))
        (pss_one (ps_set (i := 2) sc.nd rfl (by first | exact Or.inl rfl | exact Or.inr rfl) (pe_op op_add_str (pv 2) (pe_ix ix_str (pe_str) (pe_cal C_law_take hr (pa_cons (pv 0) (pa_cons (pe_int) (pa_nil)))) (fun _ _ => rfl))))))
        (pss_one (ps_ret (pv 2))))), ?_⟩
    unfold sp_law_letters at h
    obtain ⟨d, n, rfl, hD, h0, h1, q⟩ := h
    walk_at "wp"
    refine ⟨by omega, by omega, LpR.by (fun i σ H' => ∃ (z : Str) (y : Option V), σ = [some (.ref d), some (.int n), some (.str z), y] ∧ AZ z ∧ z.length = i ∧ Go d H H') ⟨_, none, rfl, AZ.nil, rfl, Go.refl hD⟩ ?_ ?_⟩
    · rintro i σ H' hi ⟨z, y, rfl, hz, hl, g⟩
      walk_at "wp"
      refine ⟨d, 26, rfl, g.dr, by decide, fun r H2 r0 r1 g2 => ?_⟩
      walk_at "wp"
      refine ⟨line_of (by rw [len_LET]; decide), 97 + r.toNat, at_LET r0 r1, ?_, _, _, rfl, hz.snoc (by omega), ?_, g.trans g2⟩
      · rw [hl]
        show i + 1 ≤ sizeLine
        exact line_of (by omega)
      · rw [Str.length_append, hl]
        rfl
    · rintro σ H' ⟨z, y, rfl, hz, hl, g⟩
      walk_at "wp"
      exact q z H' hz (by omega) g
theorem sc_law_numbered : FnScope N_law_numbered P_law_numbered (defScope s_law_numbered) := ⟨rfl, rfl, rfl, by decide +kernel, rfl, by decide +kernel, by decide +kernel⟩

theorem ok_law_numbered {f : Addr} {fd : FuncData} (F : Fun K "_law_numbered" "_law_numbered" s_law_numbered f fd) (B : Bn K mg) (C_law_fold : Cal P w K mg base 1 "_law_fold" P_law_fold (sp_law_fold K)) (C_law_is_integer : Cal P w K mg base 1 "_law_is_integer" P_law_is_integer (sp_law_is_integer K)) (Cword_at : Cal P w K mg base 1 "word_at" P_word_at (sp_word_at K)) (Cword_number : Cal P w K mg base 1 "word_number" P_word_number (sp_word_number K))    : FnOk P w K mg base CX0 2 f fd P_law_numbered (sp_law_numbered K) := by
  have sc := sc_law_numbered
  refine F.ok sc (fun vs H Q E h => ?_) (fun cdv A outer s H vs Q E hr h => ?_)
  · unfold sp_law_numbered at h
    obtain ⟨_, rfl, _⟩ := h
    rfl
  · refine ⟨_, (pss_cons (ps_set (i := 1) sc.nd rfl (by first | exact Or.inl rfl | exact Or.inr rfl) (pe_cal Cword_at hr (pa_cons (pv 0) (pa_nil))))
        (pss_cons (ps_if (pt_not (pt_val (pe_callB (k_isi K rfl) (by rfl) B.n_isinstance boot_isinstance (pa_cons (pv 1) (pa_cons ((pe_bltn (v := .ty "str") (by rfl) B.n_str boot_str rfl)) (pa_nil))))))
        (pss_one (ps_ret (pe_bl)))
        pss_nil)
        (pss_cons (ps_for PassesOwn.never rfl (pi_str (pv 1)) (pg_name (i := 2) sc.nd rfl (by first | exact Or.inl rfl | exact Or.inr rfl))
        (pss_one (ps_if (pt_cmpR op_notIn_sign (pv 2) (pe_str) (by rfl))
        (pss_one (ps_ret (pe_bl)))
        pss_nil)))
        (pss_cons (ps_set (i := 3) sc.nd rfl (by first | exact Or.inl rfl | exact Or.inr rfl) (pe_cal Cword_number hr (pa_cons (pv 1) (pa_nil))))
        (pss_one (ps_ret ((pe_and (pe_cmpR op_eq (pe_cal C_law_fold hr (pa_cons (pv 1) (pa_nil))) (pv 0) (nomark _)) (pe_and (pe_cal C_law_is_integer hr (pa_cons (pv 3) (pa_nil))) (pe_one (pe_cmpR op_eq (pv 3) (pv 0) (nomark _)))))))))))), ?_⟩
    unfold sp_law_numbered at h
    obtain ⟨n, rfl, hz, q⟩ := h
    have az : AZ ⟨(atw n).toArray⟩ := fun c hc => atw_az n c (by simpa using hc)
    walk_at "wp"
    refine ⟨n, rfl, hz, fun H1 s1 => ?_⟩
    walk_at "wp"
    refine isi_str ?_
    walk_at "wp"
    refine LpS.by (fun i σ H' => H' = H1 ∧ ∃ y, σ = [some (.int n), some (.str ⟨(atw n).toArray⟩), y, none]) ⟨rfl, none, rfl⟩ ?_ ?_
    · rintro i c σ H' hi ⟨rfl, y, rfl⟩
      have hc := az c (List.mem_of_getElem? hi)
      walk_at "wp"
      refine ⟨c, rfl, ?_⟩
      rw [if_neg (fun z => z (mem_LET.mpr hc))]
      exact ⟨some (.str ⟨#[c]⟩), rfl⟩
    · rintro σ H' ⟨rfl, y, rfl⟩
      walk_at "wp"
      refine ⟨_, rfl, az, ?_⟩
      walk_at "wp"
      refine ⟨_, rfl, az, ?_⟩
      have e : wnum (tl ⟨(atw n).toArray⟩) = n := by
        rw [show tl ⟨(atw n).toArray⟩ = atw n by simp]
        exact wnum_atw n
      walk_at "wp"
      rw [e]
      simp only [decide_true, exists_eq_left', if_true]
      refine ⟨_, rfl, ?_⟩
      walk_at "wp"
      exact q _ s1
theorem sc_law_other : FnScope N_law_other P_law_other (defScope s_law_other) := ⟨rfl, rfl, rfl, by decide +kernel, rfl, by decide +kernel, by decide +kernel⟩

theorem ok_law_other {f : Addr} {fd : FuncData} (F : Fun K "_law_other" "_law_other" s_law_other f fd) (B : Bn K mg) (C_law_letters : Cal P w K mg base 2 "_law_letters" P_law_letters (sp_law_letters K)) (C_law_take : Cal P w K mg base 1 "_law_take" P_law_take (sp_law_take K))    : FnOk P w K mg base CX0 3 f fd P_law_other (sp_law_other K) := by
  have sc := sc_law_other
  refine F.ok sc (fun vs H Q E h => ?_) (fun cdv A outer s H vs Q E hr h => ?_)
  · unfold sp_law_other at h
    obtain ⟨_, _, rfl, _⟩ := h
    rfl
  · refine ⟨_, (pss_cons (ps_set (i := 2) sc.nd rfl (by first | exact Or.inl rfl | exact Or.inr rfl) (pe_cal C_law_take hr (pa_cons (pv 0) (pa_cons (pe_int) (pa_nil)))))
        (pss_cons (ps_if (pt_cmpR op_eq (pv 2) (pe_int) (nomark _))
        (pss_one (ps_ret (pe_cal C_law_letters hr (pa_cons (pv 0) (pa_cons (pe_op op_add (pe_int) (pe_cal C_law_take hr (pa_cons (pv 0) (pa_cons (pe_int) (pa_nil))))) (pa_nil))))))
        pss_nil)
        (pss_cons (ps_if (pt_cmpR op_eq (pv 2) (pe_int) (nomark _))
        (pss_cons (ps_set (i := 3) sc.nd rfl (by first | exact Or.inl rfl | exact Or.inr rfl) (pe_cal C_law_take hr (pa_cons (pv 0) (pa_cons (pe_callB call_len_str (by rfl) B.n_len boot_len (pa_cons (pv 1) (pa_nil))) (pa_nil)))))
        (pss_one (ps_ret (pe_op op_add_str (pe_op op_add_str (pe_slice sl_str (pv 1) po_none (po_some (pv 3))) (pe_cal C_law_letters hr (pa_cons (pv 0) (pa_cons (pe_int) (pa_nil))))) (pe_slice sl_str (pv 1) (po_some (pe_op op_add (pv 3) (pe_int))) po_none)))))
        pss_nil)
        (pss_cons (ps_if (pt_cmpR op_eq (pv 2) (pe_int) (nomark _))
        (pss_one (ps_ret (pe_op op_add_str (pv 1) (pe_cal C_law_letters hr (pa_cons (pv 0) (pa_cons (pe_int) (pa_nil)))))))
        pss_nil)
        (pss_one (ps_ret (pe_slice sl_str (pv 1) (po_some (pe_int)) po_none))))))), ?_⟩
    unfold sp_law_other at h
    obtain ⟨d, z, rfl, hD, hz, h1, h2, q⟩ := h
    have zl : z.length ≤ sizeLine := line_of (by omega)
    walk_at "wp"
    refine ⟨d, 4, rfl, hD, by decide, fun r H1 r0 r1 g1 => ?_⟩
    walk_at "wp"
    refine ite2 (fun _ => ?_) (fun _ => ite2 (fun _ => ?_) (fun _ => ite2 (fun _ => ?_) (fun _ => ?_)))
    · refine ⟨d, 6, rfl, g1.dr, by decide, fun n H2 n0 n1 g2 => ?_⟩
      walk_at "wp"
      refine ⟨d, 1 + n, rfl, g2.dr, by omega, by omega, fun y H3 hy yl g3 => q y H3 hy (by omega) ((g1.trans g2).trans g3)⟩
    · refine ⟨zl, d, (z.length : Nat), rfl, g1.dr, by omega, fun n H2 n0 n1 g2 => ?_⟩
      walk_at "wp"
      refine ⟨zl, d, 1, rfl, g2.dr, by decide, by decide, fun y H3 hy yl g3 => ?_⟩
      walk_at "wp"
      have c1 := len_cut z none (some n)
      have c2 := len_cut z (some (n + 1)) none
      refine ⟨line_of (by omega), zl, line_of (by rw [len_app]; omega), q _ _ (((hz.cut).app hy).app hz.cut) ?_ ((g1.trans g2).trans g3)⟩
      rw [len_app, len_app]
      have c3 : (cutS z none (some n)).length + (cutS z (some (n + 1)) none).length ≤ z.length := by
        rw [len_tl, len_tl, len_tl]
        show ((z.cps.toList.drop (HT.sIx z.length 0 none)).take (HT.sIx z.length z.length (some n) - HT.sIx z.length 0 none)).length + ((z.cps.toList.drop (HT.sIx z.length 0 (some (n + 1)))).take (HT.sIx z.length z.length none - HT.sIx z.length 0 (some (n + 1)))).length ≤ z.cps.toList.length
        obtain ⟨m, rfl⟩ : ∃ m : Nat, n = (m : Int) := ⟨n.toNat, by omega⟩
        have e0 : HT.sIx z.length 0 (some ((m : Int) + 1)) = min (m + 1) z.length := HT.sIx_nat z.length 0 (m + 1)
        rw [HT.sIx_nat, e0, HT.sIx_none, HT.sIx_none, List.length_take, List.length_take, List.length_drop, List.length_drop]
        omega
      omega
    · refine ⟨d, 1, rfl, g1.dr, by decide, by decide, fun y H3 hy yl g3 => ?_⟩
      walk_at "wp"
      refine ⟨line_of (by omega), q _ _ (hz.app hy) (by rw [len_app]; omega) (g1.trans g3)⟩
    · have c1 := len_cut z (some 1) none
      exact ⟨zl, q _ _ hz.cut (by omega) g1⟩
theorem sc_law : FnScope N_law P_law (defScope s_law) := ⟨rfl, rfl, rfl, by decide +kernel, rfl, by decide +kernel, by decide +kernel⟩
theorem small_len {e : Nat} (h : e < 2 ^ 100) : (atw e).length ≤ 16000000 := Nat.le_trans (atw_len 100 e h) (by decide)

theorem ok_law {f : Addr} {fd : FuncData} (F : Fun K "law" "law" s_law f fd) (B : Bn K mg) (C_law_cell : Cal P w K mg base 2 "_law_cell" P_law_cell (sp_law_cell K)) (C_law_draws : Cal P w K mg base 1 "_law_draws" P_law_draws (sp_law_draws K)) (C_law_known : Cal P w K mg base 2 "_law_known" P_law_known (sp_law_known K)) (C_law_letters : Cal P w K mg base 2 "_law_letters" P_law_letters (sp_law_letters K)) (C_law_numbered : Cal P w K mg base 2 "_law_numbered" P_law_numbered (sp_law_numbered K)) (C_law_other : Cal P w K mg base 3 "_law_other" P_law_other (sp_law_other K)) (C_law_take : Cal P w K mg base 1 "_law_take" P_law_take (sp_law_take K)) (Cword_number : Cal P w K mg base 1 "word_number" P_word_number (sp_word_number K))    : FnOk P w K mg base CX0 4 f fd P_law (sp_law K) := by
  have sc := sc_law
  refine F.ok sc (fun vs H Q E h => ?_) (fun cdv A outer s H vs Q E hr h => ?_)
  · unfold sp_law at h
    obtain ⟨_, _, rfl, _⟩ := h
    rfl
  · refine ⟨_, (pss_cons (ps_set (i := 1) sc.nd rfl (by first | exact Or.inl rfl | exact Or.inr rfl) (pe_cal C_law_draws hr (pa_cons (pv 0) (pa_cons (pe_int) (pa_nil)))))
        (pss_cons (ps_set (i := 2) sc.nd rfl (by first | exact Or.inl rfl | exact Or.inr rfl) (pe_callB call_abs (by rfl) B.n_abs boot_abs (pa_cons (pe_cal C_law_cell hr (pa_cons (pv 0) (pa_cons (pv 1) (pa_nil)))) (pa_nil))))
        (pss_cons (ps_set (i := 3) sc.nd rfl (by first | exact Or.inl rfl | exact Or.inr rfl) (pe_ix (k_ixL K rfl) (pe_lst (pa_cons (pe_int) (pa_cons (pe_int) (pa_cons (pe_int) (pa_cons (pe_int) (pa_nil)))))) (pe_cal C_law_take hr (pa_cons (pv 1) (pa_cons (pe_int) (pa_nil)))) (fun _ _ => rfl)))
        (pss_cons (ps_set (i := 4) sc.nd rfl (by first | exact Or.inl rfl | exact Or.inr rfl) (pe_cal C_law_letters hr (pa_cons (pv 1) (pa_cons (pe_op op_add (pe_int) (pe_cal C_law_take hr (pa_cons (pv 1) (pa_cons (pv 3) (pa_nil))))) (pa_nil)))))
        (pss_cons (ps_set (i := 5) sc.nd rfl (by first | exact Or.inl rfl | exact Or.inr rfl) (pe_cal C_law_other hr (pa_cons (pv 1) (pa_cons (pv 4) (pa_nil)))))
        (pss_cons (ps_for PassesOwn.never rfl (pi_list (pe_lst (pa_cons (pv 4) (pa_cons (pv 5) (pa_cons (pe_str) (pa_nil)))))) (pg_name (i := 6) sc.nd rfl (by first | exact Or.inl rfl | exact Or.inr rfl))
        (pss_one (ps_if (pt_not (pt_val (pe_cal C_law_known hr (pa_cons (pv 6) (pa_nil)))))
        (pss_one (ps_ret (pe_bl)))
        pss_nil)))
        (Evl.pss_cut (ps_set (i := 7) sc.nd rfl (by first | exact Or.inl rfl | exact Or.inr rfl) ((pe_or (pe_cmpR op_lt (pe_callB call_len_str (by rfl) B.n_len boot_len (pa_cons (pv 4) (pa_nil))) (pe_callB call_len_str (by rfl) B.n_len boot_len (pa_cons (pv 5) (pa_nil))) (nomark _)) (pe_one ((pe_and (pe_cmpR op_eq (pe_callB call_len_str (by rfl) B.n_len boot_len (pa_cons (pv 4) (pa_nil))) (pe_callB call_len_str (by rfl) B.n_len boot_len (pa_cons (pv 5) (pa_nil))) (nomark _)) (pe_one (pe_cmpR op_lt_str (pv 4) (pv 5) (nomark _)))))))))
        (pss_cons (ps_if (pt_cmpR op_ne (pe_cmpR op_lt (pe_cal Cword_number hr (pa_cons (pv 4) (pa_nil))) (pe_cal Cword_number hr (pa_cons (pv 5) (pa_nil))) (nomark _)) (pv 7) (nomark _))
        (pss_one (ps_ret (pe_bl)))
        pss_nil)
        (pss_cons (ps_set (i := 8) sc.nd rfl (by first | exact Or.inl rfl | exact Or.inr rfl) (pe_int))
        (pss_cons (ps_for PassesOwn.never rfl (pi_range1 (by rfl) B.n_range (pa_cons (pe_cal C_law_take hr (pa_cons (pv 1) (pa_cons (pe_int) (pa_nil)))) (pa_nil))) (pg_name (i := 9) sc.nd rfl (by first | exact Or.inl rfl | exact Or.inr rfl))
        (pss_one (ps_set (i := 8) sc.nd rfl (by first | exact Or.inl rfl | exact Or.inr rfl) (pe_op op_add (pe_op op_mul (pv 8) (pe_int)) (pe_int)))))
        (pss_cons (ps_for PassesOwn.never rfl (pi_list (pe_lst (pa_cons (pv 2) (pa_cons (pv 8) (pa_cons (pe_op op_add (pv 8) (pe_int)) (pa_cons (pe_callB (call_max2 rfl) (by rfl) B.n_max boot_max (pa_cons (pe_int) (pa_cons (pe_op op_sub (pv 8) (pe_int)) (pa_nil)))) (pa_nil))))))) (pg_name (i := 10) sc.nd rfl (by first | exact Or.inl rfl | exact Or.inr rfl))
        (pss_one (ps_if (pt_not (pt_val (pe_cal C_law_numbered hr (pa_cons (pv 10) (pa_nil)))))
        (pss_one (ps_ret (pe_bl)))
        pss_nil)))
        (pss_one (ps_ret (pe_bl)))))))))))))), ?_⟩
    unfold sp_law at h
    obtain ⟨a, ns, rfl, hS, hlen, hbits, q⟩ := h
    walk_at "wp"
    refine ⟨a, ns, 58, rfl, hS, by omega, by decide, by decide, fun d H1 nd s1 D1 => ?_⟩
    walk_at "wp"
    refine ⟨a, d, ns, rfl, ⟨H, s1, nd, hS⟩, D1, fun v H2 hv g2 => ?_⟩
    obtain ⟨gr, hgr⟩ : ∃ gr : Nat, gr = v.natAbs := ⟨_, rfl⟩
    have hgl : (atw gr).length ≤ 16000000 := by
      rcases hv with e | e
      · subst e
        rw [hgr]
        exact Nat.le_trans (Nat.le_of_eq (by rw [show (0 : Int).natAbs = 0 from rfl, atw_zero]; rfl)) (Nat.zero_le _)
      · exact bits_len (hbits v e) hgr
    walk_at "wp"
    have eg : (if v < 0 then -v else v) = (gr : Int) := by
      rw [hgr]
      split <;> omega
    rw [eg]
    refine ⟨line_of (by decide), fun p np => ?_⟩
    have npd := Go.ne g2.dr np
    have g3 : Go d H1 (upd H2 p (.lst [.int 2, .int 4, .int 12, .int 40])) := g2.new np
    refine ⟨d, 4, rfl, g3.dr, by decide, fun r H3 r0 r1 g4 => ?_⟩
    walk_at "wp"
    have hp3 : H3 p = some (.lst [.int 2, .int 4, .int 12, .int 40]) := g4.fr _ _ npd upd_same
    obtain ⟨l, el, l0, l1⟩ : ∃ l : Int, atI [V.int 2, V.int 4, V.int 12, V.int 40] r = some (.int l) ∧ 1 ≤ l ∧ l ≤ 40 := by
      obtain ⟨u, e1, e2⟩ := at_lt (xs := [V.int 2, V.int 4, V.int 12, V.int 40]) (z := r) r0 r1
      have hm := List.mem_of_getElem? e2
      simp only [List.mem_cons, List.not_mem_nil, or_false] at hm
      rcases hm with rfl | rfl | rfl | rfl
      · exact ⟨_, e1, by decide, by decide⟩
      · exact ⟨_, e1, by decide, by decide⟩
      · exact ⟨_, e1, by decide, by decide⟩
      · exact ⟨_, e1, by decide, by decide⟩
    refine ⟨_, SqL.of hp3, _, el, ?_⟩
    refine ⟨d, l, rfl, g4.dr, by omega, fun n H4 n0 n1 g5 => ?_⟩
    walk_at "wp"
    refine ⟨d, 1 + n, rfl, g5.dr, by omega, by omega, fun one H5 a1 o1 g6 => ?_⟩
    walk_at "wp"
    refine ⟨d, one, rfl, g6.dr, a1, by omega, by omega, fun two H6 a2 o2 g7 => ?_⟩
    walk_at "wp"
    refine ⟨line_of (by show 3 ≤ _; decide), fun c nc => ⟨⟨_, SqL.of upd_same⟩, ?_⟩⟩
    have g8 : Go d H1 (upd H6 c (.lst [.str one, .str two, .str ""])) := (((((g3.trans g4).trans g5).trans g6).trans g7).new nc)
    have ncd := Go.ne g7.dr nc
    have ol : one.length ≤ 41 := by omega
    refine LpL.by [.str one, .str two, .str ""] (fun i σ H' => (∃ y, σ = [some (.ref a), some (.ref d), some (.int gr), some (.int l), some (.str one), some (.str two), y, none, none, none, none]) ∧ Go d H1 H' ∧ H' c = some (.lst [.str one, .str two, .str ""])) ⟨⟨none, rfl⟩, g8, upd_same⟩ (fun i σ H' _ h => SqL.of h.2.2) ?_ ?_
    · rintro i x σ H' hi ⟨⟨y, rfl⟩, g, hc⟩
      obtain ⟨z, rfl, az, zl⟩ : ∃ z : Str, x = .str z ∧ AZ z ∧ z.length ≤ 1000000 := by
        have hm := List.mem_of_getElem? hi
        simp only [List.mem_cons, List.not_mem_nil, or_false] at hm
        rcases hm with rfl | rfl | rfl
        · exact ⟨_, rfl, a1, by omega⟩
        · exact ⟨_, rfl, a2, by omega⟩
        · exact ⟨_, rfl, AZ.nil, by decide⟩
      walk_at "wp"
      refine ⟨z, rfl, az, zl, fun H7 s7 => ?_⟩
      walk_at "wp"
      exact ⟨⟨some (.str z), rfl⟩, g.same s7, s7 _ _ hc⟩
    · rintro σ H7 ⟨⟨y, rfl⟩, g, hc⟩
      walk_at "wp"
      refine ⟨fun σ' H' => σ' = [some (.ref a), some (.ref d), some (.int gr), some (.int l), some (.str one), some (.str two), y, some (.bl (decide (wnum (tl one) < wnum (tl two)))), none, none, none] ∧ H' = H7, ?_, ?_⟩
      · have w1 := wnum_lt a1 a2
        rw [← len_tl, ← len_tl] at w1
        have f1 : one.length ≤ sizeLine := line_of (by omega)
        have f2 : two.length ≤ sizeLine := line_of (by omega)
        walk_at "wp"
        refine ⟨f1, f2, ite2 (fun e => ?_) (fun e => ⟨f1, f2, ite2 (fun e2 => ?_) (fun e2 => ?_)⟩)⟩
        · rw [decide_eq_true (w1.mpr (.inl (by omega)))]
        · have : decide (one.cps.toList < two.cps.toList) = decide (wnum (tl one) < wnum (tl two)) := by
            refine decide_eq_decide.mpr ⟨fun h => w1.mpr (.inr ⟨by omega, h⟩), fun h => ?_⟩
            rcases w1.mp h with k | k
            · omega
            · exact k.2
          rw [this]
        · rw [decide_eq_false (fun h => (w1.mp h).elim (fun k => by omega) (fun k => by omega))]
      · rintro σ' H' ⟨rfl, rfl⟩
        walk_at "wp"
        refine ⟨one, rfl, a1, ?_⟩
        walk_at "wp"
        refine ⟨two, rfl, a2, ?_⟩
        walk_at "wp"
        simp only [not_true, if_false]
        refine ⟨d, 13, rfl, g.dr, by decide, fun t H8 t0 t1 g9 => ?_⟩
        walk_at "wp"
        refine ⟨by omega, by omega, LpR.by (fun i σ H' => H' = H8 ∧ ∃ (e : Nat) (y9 : Option V), σ = [some (.ref a), some (.ref d), some (.int gr), some (.int l), some (.str one), some (.str two), y, some (.bl (decide (wnum (tl one) < wnum (tl two)))), some (.int e), y9, none] ∧ e + 2 ≤ 27 ^ (i + 1)) ⟨rfl, 0, none, rfl, by decide⟩ ?_ ?_⟩
        · rintro i σ H' hi ⟨rfl, e, y9, rfl, he⟩
          walk_at "wp"
          refine ⟨.inr ⟨by decide, by decide⟩, e * 26 + 26, _, by rw [Int.natCast_add, Int.natCast_mul]; rfl, ?_⟩
          rw [Nat.pow_succ]
          omega
        · rintro σ H' ⟨rfl, e, y9, rfl, he⟩
          have he2 : e + 2 ≤ 27 ^ 13 := Nat.le_trans he (Nat.pow_le_pow_right (by decide) (by omega))
          have he3 : e + 2 ≤ 4052555153018976267 := he2
          walk_at "wp"
          refine ⟨line_of (by show 4 ≤ _; decide), fun u nu => ⟨⟨_, SqL.of upd_same⟩, ?_⟩⟩
          have em : (if (e : Int) - 1 > 0 then (e : Int) - 1 else 0) = ((e - 1 : Nat) : Int) := by split <;> omega
          rw [em]
          refine LpL.by _ (fun i σ H' => (∃ y10, σ = [some (.ref a), some (.ref d), some (.int gr), some (.int l), some (.str one), some (.str two), y, some (.bl (decide (wnum (tl one) < wnum (tl two)))), some (.int e), y9, y10]) ∧ H' u = some (.lst [.int gr, .int e, .int (e + 1), .int ((e - 1 : Nat) : Int)])) ⟨⟨none, rfl⟩, upd_same⟩ (fun i σ H' _ h => SqL.of h.2) ?_ ?_
          · rintro i x σ H' hi ⟨⟨y10, rfl⟩, hu⟩
            obtain ⟨n, rfl, nl⟩ : ∃ n : Nat, x = .int n ∧ (atw n).length ≤ 16000000 := by
              have hm := List.mem_of_getElem? hi
              simp only [List.mem_cons, List.not_mem_nil, or_false] at hm
              rcases hm with rfl | rfl | rfl | rfl
              · exact ⟨_, rfl, hgl⟩
              · exact ⟨_, rfl, small_len (by omega)⟩
              · exact ⟨e + 1, rfl, small_len (by omega)⟩
              · exact ⟨_, rfl, small_len (by omega)⟩
            walk_at "wp"
            refine ⟨n, rfl, nl, fun H9 s9 => ?_⟩
            walk_at "wp"
            exact ⟨⟨some (.int n), rfl⟩, s9 _ _ hu⟩
          · rintro σ H' ⟨⟨y10, rfl⟩, hu⟩
            walk_at "wp"
            exact q _
end
theorem all_mk {l : PySem.W.OpenLaw} {w : World} {K : PySem.W.Frag} {h : Heap} {mg : Str → Option Value} {fa : Addr} (X : K.In h) (G : h.Ns mainGlobals mg) (hfa : mg "law" = some (.ref fa)) {v_LETTERS : Value} (z_LETTERS : PySem.W.nsIn K mainGlobals "LETTERS" = some (some v_LETTERS)) (r_LETTERS : RelV (.str "abcdefghijklmnopqrstuvwxyz") v_LETTERS) (z_abs : PySem.W.nsIn K mainGlobals "abs" = some none) (z_bool : PySem.W.nsIn K mainGlobals "bool" = some none) (z_divmod : PySem.W.nsIn K mainGlobals "divmod" = some none) (z_int : PySem.W.nsIn K mainGlobals "int" = some none) (z_isinstance : PySem.W.nsIn K mainGlobals "isinstance" = some none) (z_len : PySem.W.nsIn K mainGlobals "len" = some none) (z_list : PySem.W.nsIn K mainGlobals "list" = some none) (z_max : PySem.W.nsIn K mainGlobals "max" = some none) (z_range : PySem.W.nsIn K mainGlobals "range" = some none) (z_str : PySem.W.nsIn K mainGlobals "str" = some none)
    {f0 : Addr} {od0 an0 : Option Addr} {sl0 : Array (Option Value)} {oc0 kV0 dc0 pm0 cd0 ct0 : Value}
    (a0 : PySem.W.nsIn K mainGlobals "_law_take" = some (some (.ref f0))) (l0 : K.lookup f0 = some ⟨oc0, od0, .func (PySem.W.fnOf "_law_take" "_law_take" (defArgs s_law_take) (defBody s_law_take) (defScope s_law_take) .none kV0 dc0 pm0 an0 cd0 ct0), sl0⟩) (c0 : PySem.W.codeIn K cd0 "_law_take" = true) (k0 : PySem.W.keepIn K (.ref f0) = true)
    {f1 : Addr} {od1 an1 : Option Addr} {sl1 : Array (Option Value)} {oc1 kV1 dc1 pm1 cd1 ct1 : Value}
    (a1 : PySem.W.nsIn K mainGlobals "_law_cell" = some (some (.ref f1))) (l1 : K.lookup f1 = some ⟨oc1, od1, .func (PySem.W.fnOf "_law_cell" "_law_cell" (defArgs s_law_cell) (defBody s_law_cell) (defScope s_law_cell) .none kV1 dc1 pm1 an1 cd1 ct1), sl1⟩) (c1 : PySem.W.codeIn K cd1 "_law_cell" = true) (k1 : PySem.W.keepIn K (.ref f1) = true)
    {f2 : Addr} {od2 an2 : Option Addr} {sl2 : Array (Option Value)} {oc2 kV2 dc2 pm2 cd2 ct2 : Value}
    (a2 : PySem.W.nsIn K mainGlobals "_law_draws" = some (some (.ref f2))) (l2 : K.lookup f2 = some ⟨oc2, od2, .func (PySem.W.fnOf "_law_draws" "_law_draws" (defArgs s_law_draws) (defBody s_law_draws) (defScope s_law_draws) .none kV2 dc2 pm2 an2 cd2 ct2), sl2⟩) (c2 : PySem.W.codeIn K cd2 "_law_draws" = true) (k2 : PySem.W.keepIn K (.ref f2) = true)
    {f3 : Addr} {od3 an3 : Option Addr} {sl3 : Array (Option Value)} {oc3 kV3 dc3 pm3 cd3 ct3 : Value}
    (a3 : PySem.W.nsIn K mainGlobals "_law_fold" = some (some (.ref f3))) (l3 : K.lookup f3 = some ⟨oc3, od3, .func (PySem.W.fnOf "_law_fold" "_law_fold" (defArgs s_law_fold) (defBody s_law_fold) (defScope s_law_fold) .none kV3 dc3 pm3 an3 cd3 ct3), sl3⟩) (c3 : PySem.W.codeIn K cd3 "_law_fold" = true) (k3 : PySem.W.keepIn K (.ref f3) = true)
    {f4 : Addr} {od4 an4 : Option Addr} {sl4 : Array (Option Value)} {oc4 kV4 dc4 pm4 cd4 ct4 : Value}
    (a4 : PySem.W.nsIn K mainGlobals "_law_is_integer" = some (some (.ref f4))) (l4 : K.lookup f4 = some ⟨oc4, od4, .func (PySem.W.fnOf "_law_is_integer" "_law_is_integer" (defArgs s_law_is_integer) (defBody s_law_is_integer) (defScope s_law_is_integer) .none kV4 dc4 pm4 an4 cd4 ct4), sl4⟩) (c4 : PySem.W.codeIn K cd4 "_law_is_integer" = true) (k4 : PySem.W.keepIn K (.ref f4) = true)
    {f5 : Addr} {od5 an5 : Option Addr} {sl5 : Array (Option Value)} {oc5 kV5 dc5 pm5 cd5 ct5 : Value}
    (a5 : PySem.W.nsIn K mainGlobals "word_at" = some (some (.ref f5))) (l5 : K.lookup f5 = some ⟨oc5, od5, .func (PySem.W.fnOf "word_at" "word_at" (defArgs s_word_at) (defBody s_word_at) (defScope s_word_at) .none kV5 dc5 pm5 an5 cd5 ct5), sl5⟩) (c5 : PySem.W.codeIn K cd5 "word_at" = true) (k5 : PySem.W.keepIn K (.ref f5) = true)
    {f6 : Addr} {od6 an6 : Option Addr} {sl6 : Array (Option Value)} {oc6 kV6 dc6 pm6 cd6 ct6 : Value}
    (a6 : PySem.W.nsIn K mainGlobals "word_number" = some (some (.ref f6))) (l6 : K.lookup f6 = some ⟨oc6, od6, .func (PySem.W.fnOf "word_number" "word_number" (defArgs s_word_number) (defBody s_word_number) (defScope s_word_number) .none kV6 dc6 pm6 an6 cd6 ct6), sl6⟩) (c6 : PySem.W.codeIn K cd6 "word_number" = true) (k6 : PySem.W.keepIn K (.ref f6) = true)
    {f7 : Addr} {od7 an7 : Option Addr} {sl7 : Array (Option Value)} {oc7 kV7 dc7 pm7 cd7 ct7 : Value}
    (a7 : PySem.W.nsIn K mainGlobals "_law_known" = some (some (.ref f7))) (l7 : K.lookup f7 = some ⟨oc7, od7, .func (PySem.W.fnOf "_law_known" "_law_known" (defArgs s_law_known) (defBody s_law_known) (defScope s_law_known) .none kV7 dc7 pm7 an7 cd7 ct7), sl7⟩) (c7 : PySem.W.codeIn K cd7 "_law_known" = true) (k7 : PySem.W.keepIn K (.ref f7) = true)
    {f8 : Addr} {od8 an8 : Option Addr} {sl8 : Array (Option Value)} {oc8 kV8 dc8 pm8 cd8 ct8 : Value}
    (a8 : PySem.W.nsIn K mainGlobals "_law_letters" = some (some (.ref f8))) (l8 : K.lookup f8 = some ⟨oc8, od8, .func (PySem.W.fnOf "_law_letters" "_law_letters" (defArgs s_law_letters) (defBody s_law_letters) (defScope s_law_letters) .none kV8 dc8 pm8 an8 cd8 ct8), sl8⟩) (c8 : PySem.W.codeIn K cd8 "_law_letters" = true) (k8 : PySem.W.keepIn K (.ref f8) = true)
    {f9 : Addr} {od9 an9 : Option Addr} {sl9 : Array (Option Value)} {oc9 kV9 dc9 pm9 cd9 ct9 : Value}
    (a9 : PySem.W.nsIn K mainGlobals "_law_numbered" = some (some (.ref f9))) (l9 : K.lookup f9 = some ⟨oc9, od9, .func (PySem.W.fnOf "_law_numbered" "_law_numbered" (defArgs s_law_numbered) (defBody s_law_numbered) (defScope s_law_numbered) .none kV9 dc9 pm9 an9 cd9 ct9), sl9⟩) (c9 : PySem.W.codeIn K cd9 "_law_numbered" = true) (k9 : PySem.W.keepIn K (.ref f9) = true)
    {f10 : Addr} {od10 an10 : Option Addr} {sl10 : Array (Option Value)} {oc10 kV10 dc10 pm10 cd10 ct10 : Value}
    (a10 : PySem.W.nsIn K mainGlobals "_law_other" = some (some (.ref f10))) (l10 : K.lookup f10 = some ⟨oc10, od10, .func (PySem.W.fnOf "_law_other" "_law_other" (defArgs s_law_other) (defBody s_law_other) (defScope s_law_other) .none kV10 dc10 pm10 an10 cd10 ct10), sl10⟩) (c10 : PySem.W.codeIn K cd10 "_law_other" = true) (k10 : PySem.W.keepIn K (.ref f10) = true)
    {f11 : Addr} {od11 an11 : Option Addr} {sl11 : Array (Option Value)} {oc11 kV11 dc11 pm11 cd11 ct11 : Value}
    (a11 : PySem.W.nsIn K mainGlobals "law" = some (some (.ref f11))) (l11 : K.lookup f11 = some ⟨oc11, od11, .func (PySem.W.fnOf "law" "law" (defArgs s_law) (defBody s_law) (defScope s_law) .none kV11 dc11 pm11 an11 cd11 ct11), sl11⟩) (c11 : PySem.W.codeIn K cd11 "law" = true) (k11 : PySem.W.keepIn K (.ref f11) = true)
    : ∃ fd : FuncData, (∀ (s : Shared) (v : Value), BindsTo s fd ⟨[v], []⟩ [("script", v)]) ∧ ∀ base : Heap, K.In base → base.Ns mainGlobals mg → FnOk l.prog w K mg base CX0 4 fa fd ["script"] (sp_law K) := by
  have B : Bn K mg := ⟨PySem.W.mg_none_of X G z_abs, PySem.W.mg_none_of X G z_bool, PySem.W.mg_none_of X G z_divmod, PySem.W.mg_none_of X G z_int, PySem.W.mg_none_of X G z_isinstance, PySem.W.mg_none_of X G z_len, PySem.W.mg_none_of X G z_list, PySem.W.mg_none_of X G z_max, PySem.W.mg_none_of X G z_range, PySem.W.mg_none_of X G z_str, (let ⟨t, e⟩ := r_LETTERS; ⟨t, e ▸ PySem.W.mg_of X G z_LETTERS⟩)⟩
  have e := hfa.symm.trans (PySem.W.mg_of X G a11)
  cases e
  have F0 := fun_mk (st := s_law_take) l0 c0 k0
  have b0 := F0.binds (ps := P_law_take) fun _ _ _ _ _ _ us hl => match us, hl with | [_, _], _ => rfl
  have F1 := fun_mk (st := s_law_cell) l1 c1 k1
  have b1 := F1.binds (ps := P_law_cell) fun _ _ _ _ _ _ us hl => match us, hl with | [_, _], _ => rfl
  have F2 := fun_mk (st := s_law_draws) l2 c2 k2
  have b2 := F2.binds (ps := P_law_draws) fun _ _ _ _ _ _ us hl => match us, hl with | [_, _], _ => rfl
  have F3 := fun_mk (st := s_law_fold) l3 c3 k3
  have b3 := F3.binds (ps := P_law_fold) fun _ _ _ _ _ _ us hl => match us, hl with | [_], _ => rfl
  have F4 := fun_mk (st := s_law_is_integer) l4 c4 k4
  have b4 := F4.binds (ps := P_law_is_integer) fun _ _ _ _ _ _ us hl => match us, hl with | [_], _ => rfl
  have F5 := fun_mk (st := s_word_at) l5 c5 k5
  have b5 := F5.binds (ps := P_word_at) fun _ _ _ _ _ _ us hl => match us, hl with | [_], _ => rfl
  have F6 := fun_mk (st := s_word_number) l6 c6 k6
  have b6 := F6.binds (ps := P_word_number) fun _ _ _ _ _ _ us hl => match us, hl with | [_], _ => rfl
  have F7 := fun_mk (st := s_law_known) l7 c7 k7
  have b7 := F7.binds (ps := P_law_known) fun _ _ _ _ _ _ us hl => match us, hl with | [_], _ => rfl
  have F8 := fun_mk (st := s_law_letters) l8 c8 k8
  have b8 := F8.binds (ps := P_law_letters) fun _ _ _ _ _ _ us hl => match us, hl with | [_, _], _ => rfl
  have F9 := fun_mk (st := s_law_numbered) l9 c9 k9
  have b9 := F9.binds (ps := P_law_numbered) fun _ _ _ _ _ _ us hl => match us, hl with | [_], _ => rfl
  have F10 := fun_mk (st := s_law_other) l10 c10 k10
  have b10 := F10.binds (ps := P_law_other) fun _ _ _ _ _ _ us hl => match us, hl with | [_, _], _ => rfl
  have F11 := fun_mk (st := s_law) l11 c11 k11
  have b11 := F11.binds (ps := P_law) fun _ _ _ _ _ _ us hl => match us, hl with | [_], _ => rfl
  refine ⟨PySem.W.fnOf "law" "law" (defArgs s_law) (defBody s_law) (defScope s_law) .none kV11 dc11 pm11 an11 cd11 ct11, fun s v => .of_eq rfl, fun base _ _ => ?_⟩
  have C0 : Cal l.prog w K mg base 1 "_law_take" P_law_take (sp_law_take K) := ⟨f0, _, ok_law_take F0 B , PySem.W.mg_of X G a0, F0.kp, b0⟩
  have C1 : Cal l.prog w K mg base 2 "_law_cell" P_law_cell (sp_law_cell K) := ⟨f1, _, ok_law_cell F1 B C0, PySem.W.mg_of X G a1, F1.kp, b1⟩
  have C2 : Cal l.prog w K mg base 1 "_law_draws" P_law_draws (sp_law_draws K) := ⟨f2, _, ok_law_draws F2 B , PySem.W.mg_of X G a2, F2.kp, b2⟩
  have C3 : Cal l.prog w K mg base 1 "_law_fold" P_law_fold (sp_law_fold K) := ⟨f3, _, ok_law_fold F3 B , PySem.W.mg_of X G a3, F3.kp, b3⟩
  have C4 : Cal l.prog w K mg base 1 "_law_is_integer" P_law_is_integer (sp_law_is_integer K) := ⟨f4, _, ok_law_is_integer F4 B , PySem.W.mg_of X G a4, F4.kp, b4⟩
  have C5 : Cal l.prog w K mg base 1 "word_at" P_word_at (sp_word_at K) := ⟨f5, _, ok_word_at F5 B , PySem.W.mg_of X G a5, F5.kp, b5⟩
  have C6 : Cal l.prog w K mg base 1 "word_number" P_word_number (sp_word_number K) := ⟨f6, _, ok_word_number F6 B , PySem.W.mg_of X G a6, F6.kp, b6⟩
  have C7 : Cal l.prog w K mg base 2 "_law_known" P_law_known (sp_law_known K) := ⟨f7, _, ok_law_known F7 B C3 C4 C5 C6, PySem.W.mg_of X G a7, F7.kp, b7⟩
  have C8 : Cal l.prog w K mg base 2 "_law_letters" P_law_letters (sp_law_letters K) := ⟨f8, _, ok_law_letters F8 B C0, PySem.W.mg_of X G a8, F8.kp, b8⟩
  have C9 : Cal l.prog w K mg base 2 "_law_numbered" P_law_numbered (sp_law_numbered K) := ⟨f9, _, ok_law_numbered F9 B C3 C4 C5 C6, PySem.W.mg_of X G a9, F9.kp, b9⟩
  have C10 : Cal l.prog w K mg base 3 "_law_other" P_law_other (sp_law_other K) := ⟨f10, _, ok_law_other F10 B C8 C0, PySem.W.mg_of X G a10, F10.kp, b10⟩
  exact ok_law F11 B C1 C2 C7 C8 C9 C10 C0 C6
end My
open PySem PySem.W PyProof.Rows
set_option maxHeartbeats 0 in
theorem PySem.Challenge.cw_whomaywhat_k01_words_and_numbers_holds : PySem.Challenge.rw_whomaywhat_k01_words_and_numbers.Holds := by
  w_on; o_law; k_head; (case hw => w_witness2)
  k_fill
  refine L2.walk_ofB (l := PySem.Challenge.rw_whomaywhat_k01_words_and_numbers) (n := 63) (k := 4) (x := "script") (CX := fun _ => L2.CX0) (sp := fun w => My.sp_law _) rfl (by decide) rfl ⟨rfl, by decide, by decide⟩ (fun w h Y => PySem.W.kIn_of Y) ?F (fun _ _ a ns hl hb _ hS => ⟨a, ns, rfl, hS, hl, hb, fun _ => rfl⟩) (fun _ _ _ _ _ h => h)
  case F =>
    intro w mg fa h KX G hmg
    refine' My.all_mk KX G hmg ?z_LETTERS ?r_LETTERS ?z_abs ?z_bool ?z_divmod ?z_int ?z_isinstance ?z_len ?z_list ?z_max ?z_range ?z_str ?a0 ?l0 ?c0 ?k0 ?a1 ?l1 ?c1 ?k1 ?a2 ?l2 ?c2 ?k2 ?a3 ?l3 ?c3 ?k3 ?a4 ?l4 ?c4 ?k4 ?a5 ?l5 ?c5 ?k5 ?a6 ?l6 ?c6 ?k6 ?a7 ?l7 ?c7 ?k7 ?a8 ?l8 ?c8 ?k8 ?a9 ?l9 ?c9 ?k9 ?a10 ?l10 ?c10 ?k10 ?a11 ?l11 ?c11 ?k11
    (case z_LETTERS => k_is); (case r_LETTERS => exact ⟨_, rfl⟩); (case z_abs => k_is); (case z_bool => k_is); (case z_divmod => k_is); (case z_int => k_is); (case z_isinstance => k_is); (case z_len => k_is); (case z_list => k_is); (case z_max => k_is); (case z_range => k_is); (case z_str => k_is); (case a0 => k_is); (case l0 => k_is); (case c0 => k_is); (case k0 => k_is); (case a1 => k_is); (case l1 => k_is); (case c1 => k_is); (case k1 => k_is); (case a2 => k_is); (case l2 => k_is); (case c2 => k_is); (case k2 => k_is); (case a3 => k_is); (case l3 => k_is); (case c3 => k_is); (case k3 => k_is); (case a4 => k_is); (case l4 => k_is); (case c4 => k_is); (case k4 => k_is); (case a5 => k_is); (case l5 => k_is); (case c5 => k_is); (case k5 => k_is); (case a6 => k_is); (case l6 => k_is); (case c6 => k_is); (case k6 => k_is); (case a7 => k_is); (case l7 => k_is); (case c7 => k_is); (case k7 => k_is); (case a8 => k_is); (case l8 => k_is); (case c8 => k_is); (case k8 => k_is); (case a9 => k_is); (case l9 => k_is); (case c9 => k_is); (case k9 => k_is); (case a10 => k_is); (case l10 => k_is); (case c10 => k_is); (case k10 => k_is); (case a11 => k_is); (case l11 => k_is); (case c11 => k_is); (case k11 => k_is)
