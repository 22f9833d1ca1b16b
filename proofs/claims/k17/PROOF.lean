import PyProof.Rows.All
import Wide.All
import OpenK.AllK
import Wide.FinOn
import PyProof.TypeEq
import HandS.ForMost
import HandS.Evl
import HandS.Wide
import HandS.WideBits
import HandS.Gcd
import HandS.Codes
import HandS.Conv
import HandS.IsInst
import HandS.More
import HandS.Walk
import HandS.Style
import PyProof.InstEq
import HandS.Sort
import KE.DataMinMax
import KE.GoesEnum
import KE.GoesMore
import HandS.Iter
import HandS.WordsDict
import PyProof.ReprLen
import PyProof.Rows.RegStrFacts
import KE.KMathGC
import HandS.RevRange
import HandS.Deep
import HandS.Strs
import HandS.SetFor
import KE.SortData
import HandS.SortRule
import HandS.Exc
import HandS.ExcOwn
import HandS.ExcCtx
import HandS.HotCalls
import HandS.ExcIs
import HandS.FStr
import HandS.RaiseMore
import HandS.SortOrd
import HandS.SortInts
import HandS.ExcValue
import KE.OsSortAny
import PySem.Challenge.RW_newtables_k17_whole_renamed_and_turned
set_option Elab.async false
set_option linter.all false
set_option maxRecDepth 100000
set_option maxHeartbeats 4000000
namespace Kit
open PySem PySem.Spec PyProof.Rows L2 Evl
/-! rules that the layer lacks -/
section
variable {X : Cx} {a b c d : Expr} {ta tb tc td : TE} {pos : Pos}
def CPowX (i j : Int) : Prop := 0 ≤ j ∧ (Builtin.Int.intBits i : Int) * j ≤ 2 ^ 27
theorem op_powX : OpR X (binaryOp .Pow) (rI CPowX fun i j => .int (i ^ j.toNat)) := opI fun _ _ _ _ _ _ _ hc q => pow_int hc.1 hc.2 q
/-- the types that are compared by == -/
def Meta (n : String) : Prop := ∀ s : Shared, s.TypeIs (.type n) "type"
def rEqTy : R2 := fun x y H Q => ∃ m n, x = .ty m ∧ y = .ty n ∧ Meta m ∧ Meta n ∧ Q (.bl (decide (m = n))) H
theorem op_eqTy : OpR X (compareOp .Eq) rEqTy := by
  intro pins s σ H x y v u Q I rx ry h
  obtain ⟨m, n, rfl, rfl, hm, hn, q⟩ := h
  cases (show v = Value.type m from rx)
  cases (show u = Value.type n from ry)
  by_cases e : m = n
  · subst e
    exact PySem.TypeEq.eq_type_same hm ⟨.bl true, H, I, rfl, by simpa using q⟩
  · exact PySem.TypeEq.eq_type_other hm hn (by rw [beq_eq_false_iff_ne]; exact fun z => e (Value.type.inj z)) ⟨.bl false, H, I, rfl, by simpa [e] using q⟩
/-- a op b op c op d -/
def tChain3 (r r' r'' : R2) (ta tb tc td : TE) : TE := fun σ H Q => ta σ H fun x H1 => tb σ H1 fun y H2 => r x y H2 fun z H3 => ∃ k, z = .bl k ∧
  (if k = true then tc σ H3 fun w' H4 => r' y w' H4 fun z' H5 => ∃ k', z' = .bl k' ∧ (if k' = true then td σ H5 fun w'' H6 => r'' w' w'' H6 Q else Q (.bl false) H5) else Q (.bl false) H3)
theorem pe_chain3 {op op' op'' : CmpOp} {r r' r'' : R2} (ho : OpR X (compareOp op) r) (ho' : OpR X (compareOp op') r') (ho'' : OpR X (compareOp op'') r'') (ha : PE X a ta) (hb : PE X b tb) (hc : PE X c tc) (hd : PE X d td)
    (hm : lastMarks [op, op', op''] [b, c, d] = false := by with_unfolding_all rfl) : PE X (.Compare a [op, op', op''] [b, c, d] pos) (tChain3 r r' r'' ta tb tc td) := by
  refine ⟨fun pins s σ H Q I h => ?_⟩
  refine Compare_chain (thn (ha.run pins s σ H _ I h) fun v s1 ⟨x, H1, I1, r1, q1⟩ => chain_link (thn (hb.run pins s1 σ H1 _ I1 q1) fun u s2 ⟨y, H2, I2, r2, q2⟩ =>
    thn (ho pins s2 σ H2 x y v u _ I2 r1 r2 q2) fun d s3 ⟨z, H3, I3, r3, k, e, q3⟩ => ?_)) hm
  subst e
  cases r3
  refine wpAny_truthy_bool ?_
  cases k with
  | false => exact ite_ff ⟨.bl false, H3, I3, rfl, q3⟩
  | true =>
    refine ite_tt (chain_link (thn (hc.run pins s3 σ H3 _ I3 q3) fun w' s4 ⟨z', H4, I4, r4, q4⟩ => thn (ho' pins s4 σ H4 y z' u w' _ I4 r2 r4 q4) fun d' s5 ⟨z5, H5, I5, r5, k5, e5, q5⟩ => ?_))
    subst e5
    cases r5
    refine wpAny_truthy_bool ?_
    cases k5 with
    | false => exact ite_ff ⟨.bl false, H5, I5, rfl, q5⟩
    | true => exact ite_tt (chain_last (thn (hd.run pins s5 σ H5 _ I5 q5) fun w6 s6 ⟨z6, H6, I6, r6, q6⟩ => ho'' pins s6 σ H6 z' z6 w' w6 Q I6 r4 r6 q6))
theorem pt_chain3 {op op' op'' : CmpOp} {r r' r'' : R2} (ho : OpR X (compareOp op) r) (ho' : OpR X (compareOp op') r') (ho'' : OpR X (compareOp op'') r'') (ha : PE X a ta) (hb : PE X b tb) (hc : PE X c tc) (hd : PE X d td)
    (hm : lastMarks [op, op', op''] [b, c, d] = false := by with_unfolding_all rfl) : PT X (.Compare a [op, op', op''] [b, c, d] pos) (tTest (tChain3 r r' r'' ta tb tc td)) := by
  refine ⟨fun pins s σ H Q I h => ?_⟩
  refine isTrue_chain (thn (ha.run pins s σ H _ I h) fun v s1 ⟨x, H1, I1, r1, q1⟩ => test_link (thn (hb.run pins s1 σ H1 _ I1 q1) fun u s2 ⟨y, H2, I2, r2, q2⟩ =>
    thn (ho pins s2 σ H2 x y v u _ I2 r1 r2 q2) fun d s3 ⟨z, H3, I3, r3, k, e, q3⟩ => ?_)) hm
  subst e
  cases r3
  refine wpAny_truthy_bool ?_
  cases k with
  | false =>
    obtain ⟨k', e', q'⟩ := q3
    cases e'
    exact ite_ff ⟨H3, I3, q'⟩
  | true =>
    refine ite_tt (test_link (thn (hc.run pins s3 σ H3 _ I3 q3) fun w' s4 ⟨z', H4, I4, r4, q4⟩ => thn (ho' pins s4 σ H4 y z' u w' _ I4 r2 r4 q4) fun d' s5 ⟨z5, H5, I5, r5, k5, e5, q5⟩ => ?_))
    subst e5
    cases r5
    refine wpAny_truthy_bool ?_
    cases k5 with
    | false =>
      obtain ⟨k', e', q'⟩ := q5
      cases e'
      exact ite_ff ⟨H5, I5, q'⟩
    | true =>
      refine ite_tt (test_last (thn (hd.run pins s5 σ H5 _ I5 q5) fun w6 s6 ⟨z6, H6, I6, r6, q6⟩ => thn (ho'' pins s6 σ H6 z' z6 w' w6 _ I6 r4 r6 q6) fun d7 s7 ⟨z7, H7, I7, r7, k7, e7, q7⟩ => ?_))
      subst e7
      cases r7
      exact wpAny_truthy_bool ⟨H7, I7, q7⟩
end
/-! f(k = v, ..): keywords alone -/
section
variable {X : Cx} {CX : CXT} {k : Nat} {f C : Addr} {fd : FuncData} {ps ks : List Str} {sp : Sp} {E : XK} {x m : Str} {p pos apos kpos : Pos} {kws : List Keyword} {tk : TA}
variable {g : List Value → List Value → List Value} {gV : List V → List V → List V}
theorem pe_callK0 (F : FnOk X.prog X.w X.K X.mg X.base CX k f fd ps sp) (hr : Room k X.A) (hg : Gl X x) (hm : X.mg x = some (.ref f)) (hk : PySem.W.keepIn X.K (.ref f) = true) (hb : KBinds X.K fd ps ks g gV) (hx : Passes CX X E)
    (hkw : PK X kws tk) (hall : (backToKw pos (keywordEach kws X.env)).all (·.1.isSome) = true := by rfl) (hks : (backToKw pos (keywordEach kws X.env)).filterMap (·.1) = ks := by rfl)
    (hdb : (x == ("__debug__" : Str)) = false := by decide)
    (hpl : ((backTo pos (starEach [] X.env)).any (·.1) || (backToKw pos (keywordEach kws X.env)).any (·.1.isNone)) = false := by rfl) :
    PE X (.Call (.Name x p) [] kws pos) (tCallK sp gV E tNil tk) := by
  refine ⟨fun pins s σ H Q I h => ?_⟩
  refine wpAny_Call_Name_kw (ld_glob I hg hm ?_ hdb)
  refine PySem.W.callWith_KW0 (h₀ := X.base) I.ok.mod.kin hk hall ?_ hpl
  refine thn (hkw.run pos pins s σ H _ I h) fun ws s2 ⟨zs, H2, I2, rz, q2⟩ => ⟨I2.kIn, ?_⟩
  rw [hks]
  exact run_fnk F hr hb hx I2 (us := []) (vs := []) .nil rz q2
end
theorem pe_gc {X : Cx} {x : Str} {pos : Pos} {v : V} (hg : Gl X x) (h : ∃ u, X.mg x = some u ∧ RelV v u) (hd : (x == ("__debug__" : Str)) = false := by decide) : PE X (.Name x pos) (tC v) := by
  obtain ⟨u, hm, r⟩ := h
  exact pe_glob hg hm r hd
/-! built-ins by name, with readings that have names -/
section
variable {X : Cx}
def rAbs : List V → Hp → VK → Prop := fun xs H Q => ∃ i, xs = [.int i] ∧ Q (.int (if i < 0 then -i else i)) H
def rMin2 : List V → Hp → VK → Prop := fun xs H Q => ∃ i j, xs = [.int i, .int j] ∧ Q (.int (if j < i then j else i)) H
def rIntI : List V → Hp → VK → Prop := fun xs H Q => ∃ i, xs = [.int i] ∧ Q (.int i) H
def rIntB : List V → Hp → VK → Prop := fun xs H Q => ∃ b, xs = [.bl b] ∧ Q (.int (if b then 1 else 0)) H
theorem call_absR : CallR X (.builtin "abs") rAbs := call_abs
theorem call_maxR (hc : X.calm = true) : CallR X (.builtin "max") rMax2 := call_max2 hc
theorem call_minR (hc : X.calm = true) : CallR X (.builtin "min") rMin2 := call_min2 hc
theorem call_intI : CallR X (.type "int") rIntI := by
  intro pins s σ H xs us Q I r h
  obtain ⟨i, e, q⟩ := h
  exact call_int1 pins s σ H xs us Q I r (.inl ⟨i, e, q⟩)
theorem call_intB : CallR X (.type "int") rIntB := by
  intro pins s σ H xs us Q I r h
  obtain ⟨i, e, q⟩ := h
  exact call_int1 pins s σ H xs us Q I r (.inr ⟨i, e, q⟩)
theorem call_lenR : CallR X (.builtin "len") (rLenS X.K) := call_len_seq
theorem call_listR : CallR X (.type "list") (rListS X.K) := call_list_of
def rTupS (K : PySem.W.Frag) : List V → Hp → VK → Prop := fun xs H Q => ∃ p ys, xs = [.ref p] ∧ SqL K H p ys ∧ ∀ l, H l = none → Q (.ref l) (upd H l (.tup ys))
theorem call_tupR : CallR X (.type "tuple") (rTupS X.K) := by
  intro pins s σ H xs us Q I r h
  obtain ⟨p, ys, e, hs, q⟩ := h
  exact call_tuple_of pins s σ H xs us Q I r ⟨p, ys, e, .inl ⟨hs, q⟩⟩
def rIsN1 : R2 := fun x y H Q => y = .non ∧ Q (.bl (decide (x = .non))) H
def rNotN1 : R2 := fun x y H Q => y = .non ∧ Q (.bl (!decide (x = .non))) H
theorem op_isNR : OpR X (compareOp .Is) rIsN1 := op_isN
theorem op_notNR : OpR X (compareOp .IsNot) rNotN1 := op_notN
end
/-! evaluations of these -/
section
variable {K : PySem.W.Frag} {σ : L2.St} {H H' : Hp} {ta tb tc td te : TE} {x y z v : V} {r : R2} {i j : Int}
theorem ev_abs (h : Ev ta σ H (.int i)) : Ev (tCB rAbs (tCons ta tNil)) σ H (.int (if i < 0 then -i else i)) := fun H1 e Q q => h H1 e _ fun H2 e2 => ⟨i, rfl, q H2 e2⟩
theorem ev_min2 (ha : Ev ta σ H (.int i)) (hb : Ev tb σ H (.int j)) : Ev (tCB rMin2 (tCons ta (tCons tb tNil))) σ H (.int (if j < i then j else i)) := fun H1 e Q q =>
  ha H1 e _ fun H2 e2 => hb H2 (e.trans e2) _ fun H3 e3 => ⟨i, j, rfl, q H3 (e2.trans e3)⟩
theorem ev_intI (h : Ev ta σ H (.int i)) : Ev (tCB rIntI (tCons ta tNil)) σ H (.int i) := fun H1 e Q q => h H1 e _ fun H2 e2 => ⟨i, rfl, q H2 e2⟩
theorem ev_intB {b : Bool} (h : Ev ta σ H (.bl b)) : Ev (tCB rIntB (tCons ta tNil)) σ H (.int (if b then 1 else 0)) := fun H1 e Q q => h H1 e _ fun H2 e2 => ⟨b, rfl, q H2 e2⟩
theorem rv_isN : RV rIsN1 x .non H (.bl (decide (x = .non))) := fun H1 _ _ q => ⟨rfl, q H1 (Ex.refl H1)⟩
theorem rv_notN : RV rNotN1 x .non H (.bl (!decide (x = .non))) := fun H1 _ _ q => ⟨rfl, q H1 (Ex.refl H1)⟩
theorem ev_chain {r r' : R2} {k : Bool} {k' : Bool} (ha : Ev ta σ H x) (hb : Ev tb σ H y) (hr : RV r x y H (.bl k)) (hc : k = true → ∃ z, Ev tc σ H z ∧ RV r' y z H (.bl k')) : Ev (tChain r r' ta tb tc) σ H (.bl (k && k')) := fun H1 e Q q =>
  ha H1 e _ fun H2 e2 => hb H2 (e.trans e2) _ fun H3 e3 => hr H3 ((e.trans e2).trans e3) _ fun H4 e4 => ⟨k, rfl, by
    cases k with
    | true =>
      obtain ⟨z, h1, h2⟩ := hc rfl
      exact h1 H4 (((e.trans e2).trans e3).trans e4) _ fun H5 e5 => h2 H5 ((((e.trans e2).trans e3).trans e4).trans e5) _ fun H6 e6 => q H6 ((((e2.trans e3).trans e4).trans e5).trans e6)
    | false => exact q H4 ((e2.trans e3).trans e4)⟩
theorem ev_chainI {C C' : Int → Int → Bool} {i j l : Int} (ha : Ev ta σ H (.int i)) (hb : Ev tb σ H (.int j)) (hc : Ev tc σ H (.int l)) :
    Ev (tChain (rI0 fun i j => .bl (C i j)) (rI0 fun i j => .bl (C' i j)) ta tb tc) σ H (.bl (C i j && C' j l)) := ev_chain ha hb rv_I0 fun _ => ⟨_, hc, rv_I0⟩
theorem ev_chain3I {C C' C'' : Int → Int → Bool} {i j l m : Int} (ha : Ev ta σ H (.int i)) (hb : Ev tb σ H (.int j)) (hc : Ev tc σ H (.int l)) (hd : Ev td σ H (.int m)) :
    Ev (tChain3 (rI0 fun i j => .bl (C i j)) (rI0 fun i j => .bl (C' i j)) (rI0 fun i j => .bl (C'' i j)) ta tb tc td) σ H (.bl (C i j && (C' j l && C'' l m))) := fun H1 e Q q =>
  ha H1 e _ fun H2 e2 => hb H2 (e.trans e2) _ fun H3 e3 => ⟨i, j, rfl, rfl, C i j, rfl, by
    have e23 := e2.trans e3
    generalize C i j = k1 at q ⊢
    cases k1 with
    | false => exact q H3 e23
    | true =>
      refine hc H3 (e.trans e23) _ fun H4 e4 => ⟨j, l, rfl, rfl, C' j l, rfl, ?_⟩
      generalize C' j l = k2 at q ⊢
      cases k2 with
      | false => exact q H4 (e23.trans e4)
      | true => exact hd H4 ((e.trans e23).trans e4) _ fun H5 e5 => ⟨l, m, rfl, rfl, q H5 ((e23.trans e4).trans e5)⟩⟩
theorem rv_eqTy {m n : String} (hm : Meta m) (hn : Meta n) : RV rEqTy (.ty m) (.ty n) H (.bl (decide (m = n))) := fun H1 _ _ q => ⟨m, n, rfl, rfl, hm, hn, q H1 (Ex.refl H1)⟩
theorem ev_typeI (h : Ev ta σ H (.int i)) : Ev (tThenZ ta kTyp) σ H (.ty "int") := fun H1 e Q q => h H1 e _ fun H2 e2 => ⟨"int", rfl, q H2 e2⟩
/-- a tuple that was made is read as two names -/
theorem s_tup2 {D : Ends} {i j : Nat} {p : Addr} (ha : Ev ta σ H (.ref p)) (hp : SqT K H p [x, y]) (k : ∀ H1, Ex H H1 → D.nx ((σ.set i (some x)).set j (some y)) H1) : tAsg ta (gTup K 2 (gCons (gName i) (gCons (gName j) gNil))) D σ H :=
  ha H (Ex.refl H) _ fun H1 e => ⟨p, [x, y], rfl, ex_t e hp, rfl, x, [y], rfl, y, [], rfl, rfl, k H1 e⟩
end
/-- a new tuple that is handed back -/
def RetU (xs : List V) (H : Hp) (Q : VK) : Prop := ∀ p H2, H p = none → Ex H H2 → H2 p = some (.tup xs) → Q (.ref p) H2
def SpU (sp : Sp) (vs : List V) (H : Hp) (xs : List V) : Prop := ∀ H1, Ex H H1 → ∀ Q : VK, (∀ p H2, H1 p = none → Ex H1 H2 → H2 p = some (.tup xs) → Q (.ref p) H2) → ∀ E : XK, sp vs H1 Q E
section
variable {K : PySem.W.Frag} {σ : L2.St} {H : Hp}
theorem eu_call {sp : Sp} {dvs vs xs : List V} {E : XK} {ta : TA} (h : EvA ta σ H vs) (hs : SpU sp (vs ++ dvs) H xs) : EvU (tCall sp dvs E ta) σ H xs := fun H1 e Q q =>
  h H1 e _ fun H2 e2 => hs H2 (e.trans e2) Q (fun p H3 hp e3 h3 => q p H3 (fresh_back e2 hp) (e2.trans e3) h3) E
/-- a, b = f(..), f's answer a new tuple -/
theorem s_tup2U {te : TE} {D : Ends} {i j : Nat} {x y : V} (ha : EvU te σ H [x, y]) (k : ∀ H1, Ex H H1 → D.nx ((σ.set i (some x)).set j (some y)) H1) : tAsg te (gTup K 2 (gCons (gName i) (gCons (gName j) gNil))) D σ H :=
  ha H (Ex.refl H) _ fun p H1 _ e h1 => ⟨p, [x, y], rfl, st_of h1, rfl, x, [y], rfl, y, [], rfl, rfl, k H1 e⟩
theorem q_tup2U {te : TE} {tz : TS} {D : Ends} {i j : Nat} {x y : V} (ha : EvU te σ H [x, y]) (k : ∀ H1, Ex H H1 → tz D ((σ.set i (some x)).set j (some y)) H1) : tSeq (tAsg te (gTup K 2 (gCons (gName i) (gCons (gName j) gNil)))) tz D σ H := s_tup2U (D := { D with nx := tz D }) ha k
theorem q_tup2 {ta : TE} {tz : TS} {D : Ends} {i j : Nat} {p : Addr} {x y : V} (ha : Ev ta σ H (.ref p)) (hp : SqT K H p [x, y]) (k : ∀ H1, Ex H H1 → tz D ((σ.set i (some x)).set j (some y)) H1) : tSeq (tAsg ta (gTup K 2 (gCons (gName i) (gCons (gName j) gNil)))) tz D σ H := s_tup2 (D := { D with nx := tz D }) ha hp k
/-- a, b = x, y -/
theorem s_par {ta : TA} {D : Ends} {i j : Nat} {x y : V} (ha : EvA ta σ H [x, y]) (k : ∀ H1, Ex H H1 → D.nx ((σ.set i (some x)).set j (some y)) H1) : tPar i j ta D σ H := ha H (Ex.refl H) _ fun H1 e => ⟨x, y, rfl, k H1 e⟩
theorem q_par {ta : TA} {tz : TS} {D : Ends} {i j : Nat} {x y : V} (ha : EvA ta σ H [x, y]) (k : ∀ H1, Ex H H1 → tz D ((σ.set i (some x)).set j (some y)) H1) : tSeq (tPar i j ta) tz D σ H := s_par (D := { D with nx := tz D }) ha k
end
theorem natAbs_pow_le {b : Int} {k : Nat} (h : b.natAbs < 2 ^ k) (n : Nat) : (b ^ n).natAbs ≤ 2 ^ (k * n) := by
  rw [Int.natAbs_pow, Nat.pow_mul]
  exact Nat.pow_le_pow_left (Nat.le_of_lt h) n
theorem lt_of_le2 {x k : Nat} (h : x ≤ 2 ^ k) : x < 2 ^ (k + 1) := Nat.lt_of_le_of_lt h (Nat.pow_lt_pow_right (by decide) (Nat.lt_succ_self k))
theorem lt2_mono {x k m : Nat} (h : x < 2 ^ k) (e : k ≤ m) : x < 2 ^ m := Nat.lt_of_lt_of_le h (Nat.pow_le_pow_right (by decide) e)
theorem natAbs_mul_lt {a b : Int} {k m : Nat} (ha : a.natAbs < 2 ^ k) (hb : b.natAbs < 2 ^ m) : (a * b).natAbs < 2 ^ (k + m) := wide_lt ha hb
/-! comprehensions -/
section
variable {K : PySem.W.Frag} {σ : L2.St} {H : Hp} {te tl : TE} {t : TT}
theorem et_yes : EvT tYes σ H true := fun H1 _ _ q => q H1 (Ex.refl H1)
theorem given_map {xs : List V} {F : V → V} : given xs.length (fun _ => true) (fun i => F (xs.getD i .non)) = xs.map F := by
  unfold given
  rw [List.filter_eq_self.mpr (fun _ _ => rfl)]
  refine List.ext_getElem (by simp) fun i h1 h2 => ?_
  simp at h1
  simp [h1]
/-- [e for x in xs] -/
theorem el_map {a : Addr} {xs : List V} {j : Nat} {vs : List Nat} (F : V → V) (h : Ev tl σ H (.ref a)) (hx : SqL K H a xs) (hz : xs.length ≤ 40000) (hw : ∀ x, wipe ((wipe σ vs).set j (some x)) vs = wipe σ vs)
    (he : ∀ (i : Nat) (x : V) H1, Ex H H1 → xs[i]? = some x → Ev te ((wipe σ vs).set j (some x)) H1 (F x)) : EvL (tLc (iList K tl) (gName j) tYes te vs) σ H (xs.map F) := by
  rw [← given_map]
  refine el_lcL _ _ h hx hz hw (fun _ _ _ _ _ => et_yes) fun i x H1 e hi _ => ?_
  have q := he i x H1 e hi
  have g : xs.getD i .non = x := by rw [List.getD_eq_getElem?_getD, hi] <;> rfl
  show Ev _ _ _ (F (xs.getD i .non))
  rw [g]
  exact q
theorem el_mapN {xs : List V} {j : Nat} {vs : List Nat} (F : V → V) (h : EvL tl σ H xs) (hz : xs.length ≤ 40000) (hw : ∀ x, wipe ((wipe σ vs).set j (some x)) vs = wipe σ vs)
    (he : ∀ (i : Nat) (x : V) H1, Ex H H1 → xs[i]? = some x → Ev te ((wipe σ vs).set j (some x)) H1 (F x)) : EvL (tLc (iList K tl) (gName j) tYes te vs) σ H (xs.map F) := by
  rw [← given_map]
  refine el_lcNL _ _ h hz hw (fun _ _ _ _ _ => et_yes) fun i x H1 e hi _ => ?_
  have q := he i x H1 e hi
  have g : xs.getD i .non = x := by rw [List.getD_eq_getElem?_getD, hi] <;> rfl
  show Ev _ _ _ (F (xs.getD i .non))
  rw [g]
  exact q
/-- [e for x in range(lo, hi) if t] -/
theorem el_lcR2 {ta : TA} {j : Nat} {vs : List Nat} {lo n : Int} (f : Nat → Bool) (v : Nat → V) (h : EvA ta σ H [.int lo, .int n]) (hn : 0 ≤ lo ∧ lo ≤ 40000 ∧ -40000 ≤ n ∧ n ≤ 40000) (hw : ∀ x, wipe ((wipe σ vs).set j (some x)) vs = wipe σ vs)
    (ht : ∀ (i : Nat) H1, Ex H H1 → lo + (i : Int) < n → EvT t ((wipe σ vs).set j (some (.int (lo + (i : Int))))) H1 (f i)) (he : ∀ (i : Nat) H1, Ex H H1 → lo + (i : Int) < n → f i = true → Ev te ((wipe σ vs).set j (some (.int (lo + (i : Int))))) H1 (v i)) :
    EvL (tLc (iRng2 ta) (gName j) t te vs) σ H (given (n - lo).toNat f v) := fun H0 e Q q => h H0 e _ fun H1 e1 => ⟨lo, n, rfl, ⟨by omega, by omega, by omega, by omega⟩, fun Dl hD =>
  lc_range (lo := lo) (n := (n - lo).toNat) (Cw H1 f v Dl) ⟨hD, Ex.new hD, upd_same⟩ (fun i H' hi p =>
    ⟨hw _, cw_turn p (by omega) (ht i H1 (e.trans e1) (by omega)) (fun hf => he i H1 (e.trans e1) (by omega) hf)⟩) (fun H' p => q Dl H' (fresh_back e1 p.1) (e1.trans p.2.1) p.2.2)⟩
theorem given_none {n : Nat} {f : Nat → Bool} {v : Nat → V} (h : ∀ i, i < n → f i = false) : given n f v = [] := by
  unfold given
  rw [List.filter_eq_nil_iff.mpr (fun i hi => by simp [h i (List.mem_range.mp hi)])]
  rfl
/-- xs + ys, both new -/
theorem el_cat {ta tb : TE} {xs ys : List V} (ha : EvL ta σ H xs) (hb : EvL tb σ H ys) (hl : xs.length + ys.length ≤ 100000) : EvL (tOp rCat ta tb) σ H (xs ++ ys) := fun H1 e Q q =>
  ha H1 e _ fun p H2 hp e2 h2 => hb H2 (e.trans e2) _ fun p' H3 hp' e3 h3 =>
    ⟨p, p', xs, ys, rfl, rfl, e3 p _ h2, h3, sz_of hl, fun l hl' => q l _ (fresh_back (e2.trans e3) hl') ((e2.trans e3).trans (Ex.new hl')) upd_same⟩
/-- [e for x, y in zip(xs, ys)] -/
theorem el_zip {ta : TA} {i j : Nat} {vs : List Nat} {a b : Addr} {xs ys : List V} (F : V → V → V) (h : EvA ta σ H [.ref a, .ref b]) (hx : SqL K H a xs) (hy : SqL K H b ys) (hl : xs.length = ys.length) (hz : xs.length ≤ 40000)
    (hw : ∀ x y, wipe (((wipe σ vs).set i (some x)).set j (some y)) vs = wipe σ vs)
    (he : ∀ (n : Nat) x y H1, Ex H H1 → xs[n]? = some x → ys[n]? = some y → Ev te (((wipe σ vs).set i (some x)).set j (some y)) H1 (F x y)) :
    EvL (tLc (iZip K ta) (gTup K 2 (gCons (gName i) (gCons (gName j) gNil))) tYes te vs) σ H (List.zipWith F xs ys) := fun H0 e Q q => h H0 e _ fun H1 e1 => ⟨a, b, xs, ys, rfl, ex_l (e.trans e1) hx, ex_l (e.trans e1) hy, fun Dl hD => by
  refine lc_it (walk_zip (n := xs.length) (by omega)) (fun n H' => Ex H1 H' ∧ H' Dl = some (.lst ((List.zipWith F xs ys).take n))) ⟨Ex.new hD, upd_same⟩ (fun n H' _ p => ⟨ex_l ((e.trans e1).trans p.1) hx, ex_l ((e.trans e1).trans p.1) hy⟩) ?_ fun H' p => ?_
  · rintro n v Hh H' hn ⟨p1, p2⟩ ⟨T, x, y, rfl, nT, rfl, g1, g2⟩
    have eT : Ex Hh (upd Hh T (.tup [x, y])) := Ex.new nT
    refine ⟨T, [x, y], rfl, st_of upd_same, rfl, x, [y], rfl, y, [], rfl, rfl, hw x y, ?_⟩
    show te _ _ _
    refine he n x y H1 (e.trans e1) g1 g2 _ (p1.trans eT) _ fun H4 e4 => ?_
    have k2 := e4 Dl _ (eT Dl _ p2)
    refine ⟨_, k2, sz_lt (by rw [List.length_take]; omega), Ex.mut (p1.trans (eT.trans e4)) hD, ?_⟩
    rw [upd_same]
    have gz : (List.zipWith F xs ys)[n]? = some (F x y) := by
      rw [List.getElem?_zipWith, show xs[n]? = some x from g1, show ys[n]? = some y from g2]
    rw [List.take_add_one, gz]
    rfl
  · obtain ⟨p1, p2⟩ := p
    rw [List.take_of_length_le (by rw [List.length_zipWith]; omega)] at p2
    exact q Dl H' (fresh_back e1 hD) (e1.trans p1) p2⟩
theorem ev_gcd {ta tb : TE} {a b : Int} (ha : Ev ta σ H (.int a)) (hb : Ev tb σ H (.int b)) : Ev (tCB rGcd (tCons ta (tCons tb tNil))) σ H (.int ((Nat.gcd a.natAbs b.natAbs : Nat) : Int)) := fun H1 e Q q =>
  ha H1 e _ fun H2 e2 => hb H2 (e.trans e2) _ fun H3 e3 => ⟨a, b, rfl, q H3 (e2.trans e3)⟩
end
/-! data, compared by == -/
section
variable {K : PySem.W.Frag} {σ : L2.St} {H H' : Hp}
mutual
theorem Dp.ex (e : Ex H H') : ∀ (d : PyData) (v : V), Dp K H v d → Dp K H' v d
  | .none, _, h => by cases h; exact .non
  | .bool _, _, h => by cases h; exact .bl _
  | .int _, _, h => by cases h; exact .int _
  | .str _, _, h => by cases h; exact .str _
  | .list ds, _, h => by
    cases h with
    | lst hs ha => exact .lst (ex_l e hs) (DpAll.ex e ds _ ha)
  | .tuple ds, _, h => by
    cases h with
    | tup hs ha => exact .tup (ex_t e hs) (DpAll.ex e ds _ ha)
  | .dict _, _, h => by cases h
theorem DpAll.ex (e : Ex H H') : ∀ (ds : List PyData) (vs : List V), DpAll K H vs ds → DpAll K H' vs ds
  | [], _, h => by cases h; exact .nil
  | d :: ds, _, h => by
    cases h with
    | cons h1 h2 => exact .cons (Dp.ex e d _ h1) (DpAll.ex e ds _ h2)
end
theorem DpAll.len : ∀ {ds : List PyData} {vs : List V}, DpAll K H vs ds → vs.length = ds.length
  | [], _, h => by cases h; rfl
  | d :: ds, _, h => by
    cases h with
    | cons h1 h2 => simp [DpAll.len h2]
def EvD (K : PySem.W.Frag) (te : TE) (σ : L2.St) (H : Hp) (d : PyData) : Prop := ∀ H1, Ex H H1 → ∀ Q : VK, (∀ v H2, Ex H1 H2 → Dp K H2 v d → Q v H2) → te σ H1 Q
def EvDA (K : PySem.W.Frag) (ta : TA) (σ : L2.St) (H : Hp) (ds : List PyData) : Prop := ∀ H1, Ex H H1 → ∀ Q : List V → Hp → Prop, (∀ vs H2, Ex H1 H2 → DpAll K H2 vs ds → Q vs H2) → ta σ H1 Q
variable {te ta tb : TE} {d e : PyData} {ds : List PyData}
theorem ed_of {v : V} (h : Ev te σ H v) (k : Dp K H v d) : EvD K te σ H d := fun H1 e1 Q q => h H1 e1 Q fun H2 e2 => q v H2 e2 (Dp.ex (e1.trans e2) d v k)
theorem ed_int {i : Int} (h : Ev te σ H (.int i)) : EvD K te σ H (.int i) := ed_of h (.int i)
theorem ed_bl {i : Bool} (h : Ev te σ H (.bl i)) : EvD K te σ H (.bool i) := ed_of h (.bl i)
theorem ed_non (h : Ev te σ H .non) : EvD K te σ H .none := ed_of h .non
theorem ed_str {i : Str} (h : Ev te σ H (.str i)) : EvD K te σ H (.str i) := ed_of h (.str i)
theorem eda_nil : EvDA K tNil σ H [] := fun H1 _ _ q => q [] H1 (Ex.refl H1) .nil
theorem eda_cons {tr : TA} (h : EvD K te σ H d) (hr : EvDA K tr σ H ds) : EvDA K (tCons te tr) σ H (d :: ds) := fun H1 e _ q =>
  h H1 e _ fun v H2 e2 dv => hr H2 (e.trans e2) _ fun vs H3 e3 dvs => q (v :: vs) H3 (e2.trans e3) (.cons (Dp.ex e3 d v dv) dvs)
theorem ed_lst {t : TA} (h : EvDA K t σ H ds) (hl : ds.length ≤ 100000) : EvD K (tLst t) σ H (.list ds) := fun H1 e _ q =>
  h H1 e _ fun vs H2 e2 dv => ⟨sz_of (by rw [DpAll.len dv]; exact hl), fun p hp => q _ _ (e2.trans (Ex.new hp)) (.lst (sq_of upd_same) (DpAll.ex (Ex.new hp) ds vs dv))⟩
theorem ed_tup {t : TA} (h : EvDA K t σ H ds) (hl : ds.length ≤ 100000) : EvD K (tTup t) σ H (.tuple ds) := fun H1 e _ q =>
  h H1 e _ fun vs H2 e2 dv => ⟨sz_of (by rw [DpAll.len dv]; exact hl), fun p hp => q _ _ (e2.trans (Ex.new hp)) (.tup (st_of upd_same) (DpAll.ex (Ex.new hp) ds vs dv))⟩
theorem ed_ofL {xs : List V} (h : EvL te σ H xs) (k : DpAll K H xs ds) : EvD K te σ H (.list ds) := fun H1 e1 Q q => h H1 e1 Q fun p H2 _ e2 h2 => q _ H2 e2 (.lst (sq_of h2) (DpAll.ex (e1.trans e2) ds xs k))
theorem ed_ofU {xs : List V} (h : EvU te σ H xs) (k : DpAll K H xs ds) : EvD K te σ H (.tuple ds) := fun H1 e1 Q q => h H1 e1 Q fun p H2 _ e2 h2 => q _ H2 e2 (.tup (st_of h2) (DpAll.ex (e1.trans e2) ds xs k))
theorem dpa_ints : ∀ ns : List Int, DpAll K H (ns.map V.int) (ns.map PyData.int)
  | [] => .nil
  | n :: r => .cons (.int n) (dpa_ints r)
theorem ev_eqD (ha : EvD K ta σ H d) (hb : EvD K tb σ H e) (sd : SeqAt.shaped d = true) (se : SeqAt.shaped e = true) : Ev (tOp (rEqD K) ta tb) σ H (.bl (PyData.eqv d e)) := fun H1 e1 Q q =>
  ha H1 e1 _ fun v H2 e2 dv => hb H2 (e1.trans e2) _ fun u H3 e3 du => ⟨d, e, Dp.ex e3 d v dv, du, sd, se, q H3 (e2.trans e3)⟩
theorem ev_neD (ha : EvD K ta σ H d) (hb : EvD K tb σ H e) (sd : SeqAt.shaped d = true) (se : SeqAt.shaped e = true) : Ev (tOp (rNeD K) ta tb) σ H (.bl (!PyData.eqv d e)) := fun H1 e1 Q q =>
  ha H1 e1 _ fun v H2 e2 dv => hb H2 (e1.trans e2) _ fun u H3 e3 du => ⟨d, e, Dp.ex e3 d v dv, du, sd, se, q H3 (e2.trans e3)⟩
theorem shaped_ints : ∀ ns : List Int, SeqAt.shaped (.list (ns.map PyData.int)) = true := fun ns => by
  have h1 : ∀ ms : List Int, PyData.canLayAll0 (ms.map PyData.int) = true := fun ms => by
    induction ms with
    | nil => rfl
    | cons m r ih => simp [PyData.canLayAll0, PyData.canLay0, ih]
  have h2 : ∀ ms : List Int, PyData.depthAll (ms.map PyData.int) = 0 := fun ms => by
    induction ms with
    | nil => rfl
    | cons m r ih => simp [PyData.depthAll, PyData.depth, ih]
  simp [SeqAt.shaped, PyData.canLay0, h1, PyData.depth, h2]
theorem eqv_same {d : PyData} (h : SeqAt.shaped d = true) : PyData.eqv d d = true := by
  have h1 : PyData.canLay0 d = true := (Bool.and_eq_true_iff.mp h).1
  first
    | exact PySem.P3.eqv_refl d h1
    | exact PyData.eqv_refl d h1
    | exact PySem.SeqAt.eqv_refl d h1
/-- f(k = v): a new tuple back -/
theorem eu_callK {sp : Sp} {gV : List V → List V → List V} {E : XK} {t tk : TA} {vs zs xs : List V} (h : EvA t σ H vs) (hk : EvA tk σ H zs) (hs : SpU sp (gV vs zs) H xs) : EvU (tCallK sp gV E t tk) σ H xs := fun H1 e Q q =>
  h H1 e _ fun H2 e2 => hk H2 (e.trans e2) _ fun H3 e3 => hs H3 ((e.trans e2).trans e3) Q (fun p H4 hp e4 h4 => q p H4 (fresh_back (e2.trans e3) hp) ((e2.trans e3).trans e4) h4) E
theorem ev_callK {sp : Sp} {gV : List V → List V → List V} {E : XK} {t tk : TA} {vs zs : List V} {z : V} (h : EvA t σ H vs) (hk : EvA tk σ H zs) (hs : SpV sp (gV vs zs) H z) : Ev (tCallK sp gV E t tk) σ H z := fun H1 e Q q =>
  h H1 e _ fun H2 e2 => hk H2 (e.trans e2) _ fun H3 e3 => hs H3 ((e.trans e2).trans e3) Q (fun H4 e4 => q H4 ((e2.trans e3).trans e4)) E
/-- isinstance(x, tuple) of a tuple; len of a tuple -/
theorem ev_isT {p : Addr} {xs : List V} {n : String} {b : Bool} (h : Ev ta σ H (.ref p)) (hp : H p = some (.tup xs)) (hk : PySem.W.kitOne K (.type "tuple") (.type n) = some b) : Ev (tCB (rIsi K) (tCons ta (tCons (tC (.ty n)) tNil))) σ H (.bl b) := fun H1 e Q q =>
  h H1 e _ fun H2 e2 => ⟨.ref p, .ty n, .type "tuple", .type n, b, rfl, .ty n, .base (.tup (e2 p _ (e p _ hp))), hk, q H2 e2⟩
theorem ev_lenT {p : Addr} {xs : List V} (ha : Ev ta σ H (.ref p)) (h : SqT K H p xs) : Ev (tCB (rLenS K) (tCons ta tNil)) σ H (.int (xs.length : Int)) := fun H1 e Q q =>
  ha H1 e _ fun H2 e2 => ⟨p, xs, rfl, Or.inr (ex_t (e.trans e2) h), q H2 e2⟩
/-- list(range(a, b)) -/
theorem el_rg2 {a b : Int} (ha : Ev ta σ H (.int a)) (hb : Ev tb σ H (.int b)) (h : RgOk a b) : EvL (tLstRg (tRg2 ta tb)) σ H (rgV a b) := fun H1 e Q q =>
  ha H1 e _ fun H2 e2 => hb H2 (e.trans e2) _ fun H3 e3 => ⟨a, b, rfl, rfl, h, fun p hp => q p _ (fresh_back (e2.trans e3) hp) ((e2.trans e3).trans (Ex.new hp)) upd_same⟩
theorem el_rg1 {b : Int} (hb : Ev tb σ H (.int b)) (h : RgOk 0 b) : EvL (tLstRg (tRg1 tb)) σ H (rgV 0 b) := fun H1 e Q q =>
  hb H1 e _ fun H3 e3 => ⟨b, rfl, h, fun p hp => q p _ (fresh_back e3 hp) (e3.trans (Ex.new hp)) upd_same⟩
end
/-! more statements -/
section
variable {K : PySem.W.Frag} {σ : L2.St} {H H' : Hp} {te tl : TE} {t : TT} {D : Ends} {tu tz : TS} {g : TG}
/-- a comprehension over range(lo, n) that keeps nothing -/
theorem el_noneR2 {ta : TA} {j : Nat} {vs : List Nat} {lo n : Int} (h : EvA ta σ H [.int lo, .int n]) (hn : 0 ≤ lo ∧ lo ≤ 40000 ∧ -40000 ≤ n ∧ n ≤ 40000) (hw : ∀ x, wipe ((wipe σ vs).set j (some x)) vs = wipe σ vs)
    (ht : ∀ (i : Nat) H1, Ex H H1 → lo + (i : Int) < n → EvT t ((wipe σ vs).set j (some (.int (lo + (i : Int))))) H1 false) : EvL (tLc (iRng2 ta) (gName j) t te vs) σ H [] := by
  have q := el_lcR2 (te := te) (fun _ => false) (fun _ => .non) h hn hw ht (fun _ _ _ _ hf => Bool.noConfusion hf)
  rw [given_none (fun _ _ => rfl)] at q
  exact q
/-- a for over a new tuple -/
theorem s_forNU {xs : List V} (h : EvU tl σ H xs) (Pv : Addr → Nat → L2.St → Hp → Prop) (h0 : ∀ p H1, H p = none → Ex H H1 → H1 p = some (.tup xs) → Pv p 0 σ H1) (hl : ∀ p i σ' H', i ≤ xs.length → Pv p i σ' H' → SqT K H' p xs)
    (hs : ∀ p i x σ' H', xs[i]? = some x → Pv p i σ' H' → g x σ' H' fun σ2 H2 => tu { D with nx := Pv p (i + 1), ct := Pv p (i + 1), bk := D.nx } σ2 H2) (hd : ∀ p σ' H', Pv p xs.length σ' H' → D.nx σ' H') : tFor (iTup K tl) g tu D σ H :=
  h H (Ex.refl H) _ fun p H1 hp e h1 => ⟨p, rfl, ⟨xs, st_of h1⟩, for_tup (Pv p) (h0 p H1 hp e h1) (hl p) (hs p) (hd p)⟩
theorem q_forNU {xs : List V} (h : EvU tl σ H xs) (Pv : Addr → Nat → L2.St → Hp → Prop) (h0 : ∀ p H1, H p = none → Ex H H1 → H1 p = some (.tup xs) → Pv p 0 σ H1) (hl : ∀ p i σ' H', i ≤ xs.length → Pv p i σ' H' → SqT K H' p xs)
    (hs : ∀ p i x σ' H', xs[i]? = some x → Pv p i σ' H' → g x σ' H' fun σ2 H2 => tu { D with nx := Pv p (i + 1), ct := Pv p (i + 1), bk := tz D } σ2 H2) (hd : ∀ p σ' H', Pv p xs.length σ' H' → tz D σ' H') : tSeq (tFor (iTup K tl) g tu) tz D σ H :=
  s_forNU (D := { D with nx := tz D }) h Pv h0 hl hs hd
theorem s_asgD {i : Nat} {d : PyData} (h : EvD K te σ H d) (k : ∀ v H1, Ex H H1 → Dp K H1 v d → D.nx (σ.set i (some v)) H1) : tAsg te (gName i) D σ H := h H (Ex.refl H) _ fun v H1 e dv => k v H1 e dv
theorem q_asgD {i : Nat} {d : PyData} (h : EvD K te σ H d) (k : ∀ v H1, Ex H H1 → Dp K H1 v d → tz D (σ.set i (some v)) H1) : tSeq (tAsg te (gName i)) tz D σ H := s_asgD (D := { D with nx := tz D }) h k
end
end Kit

set_option Elab.async false
set_option linter.all false
set_option maxRecDepth 100000
set_option maxHeartbeats 4000000
namespace Kit
open PySem PySem.Spec PyProof.Rows L2 Evl
theorem slot_type_ne : Slot "type" (cmpInfo .NotEq).2.1 "object.__ne__" :=
  .of (owner := "object") (n := "__ne__") (by rw [typeLookup_type, builtinLookup_eq_fast]; kernel_rfl) (by decide +kernel) (by decide +kernel) (by decide +kernel)
    (by first | exact .inl (by decide +kernel) | exact .inr (by decide +kernel)) (by rw [isSubtype_type]; kernel_rfl)
theorem slot_type_eqN : Slot "type" "__eq__" "object.__eq__" :=
  .of (owner := "object") (n := "__eq__") (by rw [typeLookup_type, builtinLookup_eq_fast]; kernel_rfl) (by decide +kernel) (by decide +kernel) (by decide +kernel)
    (by first | exact .inl (by decide +kernel) | exact .inr (by decide +kernel)) (by rw [isSubtype_type]; kernel_rfl)
section
variable {prog : Program} {w : World} {A : Around} {E : Value → Shared → Prop} {s : Shared} {Q : Value → Shared → Prop}
theorem ne_type_same {X : String} (hX : ∀ s' : Shared, s'.TypeIs (.type X) "type") (hu : A.units + 1 < cLine) (h : Q (.bool false) s) : wpAny (model prog w) A (compareOp .NotEq (.type X) (.type X)) Q E s := by
  show wpAny _ A (richCompare .NotEq _ _) Q E s
  refine wpAny_richCompare_same (T := "type") (hX s) (hX s) slot_type_ne ?_
  refine wpAny_call_entry slot_type_ne (hX s) PySem.F.cmpEntry_ne ?_ (PySem.F.cmpArgs_ne _ _)
  unfold Builtin.«object.__ne__»
  have key : wpAny (model prog w) A.in1 (call (.builtin "object.__eq__") [.type X, .type X]) (fun v s' => v = .bool true ∧ s' = s) E s :=
    call_gives slot_type_eqN (hX s) F.entry_object_eq (F.args_object_eq_2 _ _) (PySem.TypeEq.object_eq_same rfl (by simp)) ⟨rfl, rfl⟩
  repeat (first
    | with_reducible refine wpAny_cRoomFor (by show A.units + 1 < cLine; exact hu) ?_
    | (refine wpAny_bind (m := callSpecialIfBound? (.type X) (Str.ofString "__eq__") [.type X])
        (wpAny_callSpecialIfBound?_slot (hX _) slot_type_eqN (wpAny_mono key (fun r s' hr => by
          obtain ⟨rfl, rfl⟩ := hr
          have hq : Q (.bool false) s' := h
          repeat (first | exact ⟨_, rfl, (by intro e; cases e), hq⟩ | exact wpAny_pure ⟨_, rfl, (by intro e; cases e), hq⟩ | (refine wpAny_bind (m := truthy (.bool _)) (wpAny_truthy_bool ?_)) | wp_step)) fun _ _ e => e)))
    | wp_step)
end
end Kit

set_option Elab.async false
set_option linter.all false
set_option maxRecDepth 100000
set_option maxHeartbeats 4000000
namespace Kit
open PySem PySem.Spec PyProof.Rows L2 Evl
section
variable {X : Cx}
def rNeTyS : R2 := fun x y H Q => ∃ m, x = .ty m ∧ y = .ty m ∧ Meta m ∧ Q (.bl false) H
theorem op_neTyS (hu : X.A.units + 1 < cLine) : OpR X (compareOp .NotEq) rNeTyS := by
  intro pins s σ H x y v u Q I rx ry h
  obtain ⟨m, rfl, rfl, hm, q⟩ := h
  cases (show v = Value.type m from rx)
  cases (show u = Value.type m from ry)
  exact ne_type_same hm hu ⟨.bl false, H, I, rfl, q⟩
/-- min of a tuple of ints -/
def rMinT (K : PySem.W.Frag) : List V → Hp → VK → Prop := fun vs H Q => ∃ (a : Addr) (n : Int) (ns : List Int), vs = [V.ref a] ∧ SqT K H a ((n :: ns).map V.int) ∧ Q (.int (ns.foldl min n)) H
theorem alike_ints (ns : List Int) : PySem.W.AlikeAll (ns.map PyData.int) := by
  refine ⟨fun x hx y hy => ?_, fun x hx => ?_⟩
  · obtain ⟨a, _, rfl⟩ := List.mem_map.mp hx
    obtain ⟨b, _, rfl⟩ := List.mem_map.mp hy
    rfl
  · obtain ⟨a, _, rfl⟩ := List.mem_map.mp hx
    exact fun z => by cases z
theorem depth_ints : ∀ ms : List Int, PyData.depthAll (ms.map PyData.int) = 0
  | [] => rfl
  | m :: r => by simp [PyData.depthAll, PyData.depth, depth_ints r]
theorem cr_minT (hc : X.calm = true) (hu : X.A.units + 1 < cLine) : CallR X (.builtin "min") (rMinT X.K) := by
  intro pins s σ H vs us Q I r h
  obtain ⟨a, n, ns, rfl, hs, q⟩ := h
  obtain ⟨its, rv, hl, _⟩ := I.tuple hs
  rw [Vals.ref1 r]
  obtain ⟨as, rd⟩ := Dp.readsAll I (PyData.int n :: ns.map PyData.int) _ its (dpa_ints (n :: ns)) rv
  refine PySem.W.min_tuple_data (I.ok.hd hc) (show s.heap.IsTuple a its.toArray from hl) (by simpa using rd) (alike_ints (n :: ns)) ?_ fun i v h' tk bs hv hr hk => ?_
  · have := depth_ints (n :: ns)
    rw [List.map_cons] at this
    rw [this]
    exact hu
  · rw [PySem.W.minD_ints] at hr
    cases hr with
    | int _ t => exact ⟨.int (ns.foldl min n), H, I.kept (t' := tk) hk, ⟨_, rfl⟩, q⟩
theorem foldl_min_spec : ∀ (ns : List Int) (n : Int), ns.foldl min n ∈ n :: ns ∧ ∀ y ∈ n :: ns, ns.foldl min n ≤ y
  | [], n => ⟨by simp, by simp⟩
  | k :: r, n => by
    obtain ⟨h1, h2⟩ := foldl_min_spec r (min n k)
    refine ⟨?_, fun y hy => ?_⟩
    · rcases List.mem_cons.mp h1 with e | e
      · rw [List.foldl_cons, e]
        rcases Int.le_total n k with h | h
        · rw [Int.min_eq_left h]; simp
        · rw [Int.min_eq_right h]; simp
      · simp [List.foldl_cons, e]
    · have h3 := h2 (min n k) (by simp)
      rw [List.foldl_cons]
      rcases List.mem_cons.mp hy with e | hy
      · omega
      · rcases List.mem_cons.mp hy with e | hy
        · omega
        · exact h2 y (by simp [hy])
end
/-! readings of these -/
section
variable {K : PySem.W.Frag} {σ : L2.St} {H H' : Hp} {ta tb te tl : TE} {D : Ends} {tu tz : TS} {t : TT}
theorem ev_typeL {p : Addr} {xs : List V} (h : Ev ta σ H (.ref p)) (hp : H p = some (.lst xs)) : Ev (tThenZ ta kTyp) σ H (.ty "list") := fun H1 e Q q => h H1 e _ fun H2 e2 => ⟨"list", by
  have := e2 p _ (e p _ hp)
  simp [zTyV, this], q H2 e2⟩
theorem ev_typeT {p : Addr} {xs : List V} (h : Ev ta σ H (.ref p)) (hp : H p = some (.tup xs)) : Ev (tThenZ ta kTyp) σ H (.ty "tuple") := fun H1 e Q q => h H1 e _ fun H2 e2 => ⟨"tuple", by
  have := e2 p _ (e p _ hp)
  simp [zTyV, this], q H2 e2⟩
theorem rv_neTyS {m : String} (hm : Meta m) : RV rNeTyS (.ty m) (.ty m) H (.bl false) := fun H1 _ _ q => ⟨m, rfl, rfl, hm, q H1 (Ex.refl H1)⟩
theorem ev_sumN {ns : List Int} (h : EvL ta σ H (ns.map V.int)) : Ev (tCB (rSum K) (tCons ta tNil)) σ H (.int ns.sum) := fun H1 e Q q => h H1 e _ fun p H2 _ e2 h2 => ⟨p, ns, rfl, sq_of h2, q H2 e2⟩
theorem ev_allN {bs : List Bool} (h : EvL ta σ H (bs.map V.bl)) : Ev (tCB (rAll K) (tCons ta tNil)) σ H (.bl (bs.all id)) := fun H1 e Q q => h H1 e _ fun p H2 _ e2 h2 => ⟨p, bs, rfl, sq_of h2, q H2 e2⟩
theorem ev_minT {p : Addr} {n : Int} {ns : List Int} (h : Ev ta σ H (.ref p)) (hp : SqT K H p ((n :: ns).map V.int)) : Ev (tCB (rMinT K) (tCons ta tNil)) σ H (.int (ns.foldl min n)) := fun H1 e Q q => h H1 e _ fun H2 e2 => ⟨p, n, ns, rfl, ex_t (e.trans e2) hp, q H2 e2⟩
/-- sorted(xs), told by what it is -/
theorem ed_sorted {p : Addr} {ns ms : List Int} (h : Ev ta σ H (.ref p)) (hp : SqL K H p (ns.map V.int)) (hl : ns.length < 64) (hm : ms.Perm ns) (hs : ms.Pairwise (· ≤ ·)) : EvD K (tCB (rSorted K) (tCons ta tNil)) σ H (.list (ms.map PyData.int)) := fun H1 e Q q => h H1 e _ fun H2 e2 =>
  ⟨p, ns, rfl, ex_l (e.trans e2) hp, hl, fun ns' l pm so new => by
    have eq : ns' = ms := by
      exact List.Perm.eq_of_pairwise (le := fun a b : Int => a ≤ b) (fun a b _ _ h1 h2 => Int.le_antisymm h1 h2) so hs (pm.trans hm.symm)
    subst eq
    exact q _ _ (e2.trans (Ex.new new)) (.lst (sq_of upd_same) (dpa_ints _))⟩
/-- a new tuple of a list's items -/
theorem eu_tupOf {p : Addr} {xs : List V} (h : Ev ta σ H (.ref p)) (hp : SqL K H p xs) : EvU (tCB (rTupS K) (tCons ta tNil)) σ H xs := fun H1 e Q q => h H1 e _ fun H2 e2 =>
  ⟨p, xs, rfl, ex_l (e.trans e2) hp, fun l hl => q l _ (fresh_back e2 hl) (e2.trans (Ex.new hl)) upd_same⟩
/-- [0] * n -/
theorem el_rep {xs : List V} {k : Int} (ha : EvL ta σ H xs) (hb : Ev tb σ H (.int k)) (h0 : 0 ≤ k) (h1 : k ≤ 1000) (hx : xs.length ≤ 50) : EvL (tOp rRep ta tb) σ H (List.replicate k.toNat xs).flatten := fun H1 e Q q =>
  ha H1 e _ fun p H2 hp e2 h2 => hb H2 (e.trans e2) _ fun H3 e3 => ⟨p, k, xs, rfl, rfl, e3 p _ h2, by omega, by omega, sz_of (by
    have : xs.length * k.toNat ≤ 50 * 1000 := Nat.mul_le_mul hx (by omega)
    omega), fun l hl => q l _ (fresh_back (e2.trans e3) hl) ((e2.trans e3).trans (Ex.new hl)) upd_same⟩
/-- xs[::-1] -/
theorem el_rev {p : Addr} {xs : List V} (h : Ev ta σ H (.ref p)) (hp : SqL K H p xs) : EvL (tRevL K ta) σ H xs.reverse := fun H1 e Q q => h H1 e _ fun H2 e2 =>
  ⟨p, xs, rfl, ex_l (e.trans e2) hp, fun l hl => q l _ (fresh_back e2 hl) (e2.trans (Ex.new hl)) upd_same⟩
theorem el_revN {xs : List V} (h : EvL ta σ H xs) : EvL (tRevL K ta) σ H xs.reverse := fun H1 e Q q => h H1 e _ fun p H2 _ e2 h2 =>
  ⟨p, xs, rfl, sq_of h2, fun l hl => q l _ (fresh_back e2 hl) (e2.trans (Ex.new hl)) upd_same⟩
/-- for i, x in enumerate(xs): the pair is a new tuple -/
theorem s_forEn {ta : TA} {i j : Nat} {a : Addr} {xs : List V} (h : EvA ta σ H [.ref a]) (hx : SqL K H a xs) (Pv : Nat → L2.St → Hp → Prop) (h0 : ∀ H1, Ex H H1 → Pv 0 σ H1) (hl : ∀ n σ' H', n ≤ xs.length → Pv n σ' H' → SqL K H' a xs)
    (hs : ∀ n x σ' H' H2, xs[n]? = some x → Pv n σ' H' → Ex H' H2 → tu { D with nx := Pv (n + 1), ct := Pv (n + 1), bk := D.nx } ((σ'.set i (some (.int (n : Int)))).set j (some x)) H2) (hd : ∀ σ' H', Pv xs.length σ' H' → D.nx σ' H') :
    tFor (iEnum K ta) (gTup K 2 (gCons (gName i) (gCons (gName j) gNil))) tu D σ H := h H (Ex.refl H) _ fun H1 e => ⟨a, xs, rfl, ex_l e hx, by
  refine for_it walk_enum Pv (h0 H1 e) (fun n σ' H' hn p => hl n σ' H' hn p) ?_ hd
  rintro n v σ' Hh H2 hn p ⟨T, x, y, rfl, nT, rfl, g1, g2⟩
  have ex : V.int (n : Nat) = x := Option.some.inj g1
  subst ex
  exact ⟨T, [.int (n : Nat), y], rfl, st_of upd_same, rfl, _, [y], rfl, y, [], rfl, rfl, hs n y σ' Hh _ g2 p (Ex.new nT)⟩⟩
theorem q_forEn {ta : TA} {i j : Nat} {a : Addr} {xs : List V} (h : EvA ta σ H [.ref a]) (hx : SqL K H a xs) (Pv : Nat → L2.St → Hp → Prop) (h0 : ∀ H1, Ex H H1 → Pv 0 σ H1) (hl : ∀ n σ' H', n ≤ xs.length → Pv n σ' H' → SqL K H' a xs)
    (hs : ∀ n x σ' H' H2, xs[n]? = some x → Pv n σ' H' → Ex H' H2 → tu { D with nx := Pv (n + 1), ct := Pv (n + 1), bk := tz D } ((σ'.set i (some (.int (n : Int)))).set j (some x)) H2) (hd : ∀ σ' H', Pv xs.length σ' H' → tz D σ' H') :
    tSeq (tFor (iEnum K ta) (gTup K 2 (gCons (gName i) (gCons (gName j) gNil))) tu) tz D σ H := s_forEn (D := { D with nx := tz D }) h hx Pv h0 hl hs hd
end
end Kit

set_option Elab.async false
set_option linter.all false
set_option maxRecDepth 100000
set_option maxHeartbeats 4000000
namespace Kit
open PySem PySem.Spec PyProof.Rows L2 Evl
/-! ### new lists of new tuples -/
def TL (H : Hp) (vs : List V) (rs : List (List V)) : Prop := Paired (fun v r => ∃ a, v = .ref a ∧ H a = some (.tup r)) vs rs
theorem TL.imp {H H' : Hp} (f : ∀ a r, H a = some (.tup r) → H' a = some (.tup r)) : ∀ {vs : List V} {rs : List (List V)}, TL H vs rs → TL H' vs rs
  | _, _, .nil => .nil
  | _, _, .cons ⟨a, e, h⟩ t => .cons ⟨a, e, f a _ h⟩ (TL.imp f t)
theorem TL.ex {H H' : Hp} {vs : List V} {rs : List (List V)} (e : Ex H H') (h : TL H vs rs) : TL H' vs rs := h.imp fun a r x => e a _ x
theorem TL.upd {H : Hp} {l : Addr} {xs : List V} {o : HO} {vs : List V} {rs : List (List V)} (hl : H l = some (.lst xs)) (h : TL H vs rs) : TL (upd H l o) vs rs := h.imp fun a r x => by
  rw [upd_ne (ne_of x hl (by intro z; cases z))]
  exact x
theorem TL.len {H : Hp} : ∀ {vs : List V} {rs : List (List V)}, TL H vs rs → vs.length = rs.length
  | _, _, .nil => rfl
  | _, _, .cons _ t => by rw [List.length_cons, List.length_cons, TL.len t]
theorem TL.app {H : Hp} {v : V} {r : List V} (hv : ∃ a, v = .ref a ∧ H a = some (.tup r)) : ∀ {vs : List V} {rs : List (List V)}, TL H vs rs → TL H (vs ++ [v]) (rs ++ [r])
  | _, _, .nil => .cons hv .nil
  | _, _, .cons q t => .cons q (TL.app hv t)
theorem TL.get {H : Hp} : ∀ {vs : List V} {rs : List (List V)} {i : Nat} {v : V}, TL H vs rs → vs[i]? = some v → ∃ a r, v = .ref a ∧ H a = some (.tup r) ∧ rs[i]? = some r
  | _, _, 0, v, .cons ⟨a, e, h⟩ t, hv => ⟨a, _, (Option.some.inj (by simpa using hv)).symm.trans e, h, rfl⟩
  | _, _, i + 1, v, .cons _ t, hv => by
    obtain ⟨a, r, h1, h2, h3⟩ := TL.get (i := i) t (by simpa using hv)
    exact ⟨a, r, h1, h2, by simpa using h3⟩
  | _, _, 0, v, .nil, hv => by simp at hv
  | _, _, i + 1, v, .nil, hv => by simp at hv
theorem TL.rev {H : Hp} : ∀ {vs : List V} {rs : List (List V)}, TL H vs rs → TL H vs.reverse rs.reverse
  | _, _, .nil => .nil
  | _, _, .cons q t => by
    rw [List.reverse_cons, List.reverse_cons]
    exact TL.app q (TL.rev t)
def EvLT (te : TE) (σ : L2.St) (H : Hp) (rs : List (List V)) : Prop := ∀ H1, Ex H H1 → ∀ Q : VK, (∀ p vs H2, H1 p = none → Ex H1 H2 → H2 p = some (.lst vs) → TL H2 vs rs → Q (.ref p) H2) → te σ H1 Q
section
variable {K : PySem.W.Frag} {σ : L2.St} {H H' : Hp} {te tl : TE} {D : Ends} {tz : TS} {t : TT}
/-- [a new tuple for i in range(n)] -/
theorem elt_R1 {ta : TA} {j : Nat} {vs : List Nat} {n : Int} (f : Nat → List V) (h : EvA ta σ H [.int n]) (hn : 0 ≤ n ∧ n ≤ 40000) (hw : ∀ x, wipe ((wipe σ vs).set j (some x)) vs = wipe σ vs)
    (he : ∀ (i : Nat) H1, Ex H H1 → (i : Int) < n → EvU te ((wipe σ vs).set j (some (.int (i : Int)))) H1 (f i)) : EvLT (tLc (iRng1 ta) (gName j) tYes te vs) σ H ((List.range n.toNat).map f) := fun H0 e Q q => h H0 e _ fun H1 e1 => ⟨n, rfl, by omega, by omega, fun Dl hD =>
  lc_range (lo := 0) (n := n.toNat) (fun i H' => Ex H1 H' ∧ ∃ ws, H' Dl = some (.lst ws) ∧ TL H' ws ((List.range i).map f)) ⟨Ex.new hD, [], upd_same, .nil⟩ (fun i H' hi p => by
    obtain ⟨p1, ws, p2, p3⟩ := p
    have e0 : (0 : Int) + (i : Int) = (i : Int) := Int.zero_add _
    show wipe ((wipe σ vs).set j (some (.int ((0 : Int) + (i : Int))))) vs = wipe σ vs ∧ te ((wipe σ vs).set j (some (.int ((0 : Int) + (i : Int))))) H' fun y H4 => ∃ acc, H4 Dl = some (.lst acc) ∧ acc.length < sizeLine ∧ _
    rw [e0]
    refine ⟨hw _, he i H1 (e.trans e1) (by omega) H' p1 _ fun p H4 hp e4 h4 => ⟨ws, e4 Dl _ p2, sz_lt (by
      have := p3.len
      simp at this
      omega), Ex.mut (p1.trans e4) hD, ws ++ [.ref p], upd_same, ?_⟩⟩
    rw [List.range_succ, List.map_append]
    exact ((p3.ex e4).app ⟨p, rfl, h4⟩).upd (e4 Dl _ p2)) (fun H' p => by
      obtain ⟨p1, ws, p2, p3⟩ := p
      exact q Dl ws H' (fresh_back e1 hD) (e1.trans p1) p2 p3)⟩
/-- [a new tuple for x in xs] -/
theorem elt_map {a : Addr} {xs : List V} {j : Nat} {vs : List Nat} (f : Nat → List V) (h : Ev tl σ H (.ref a)) (hx : SqL K H a xs) (hz : xs.length ≤ 40000) (hw : ∀ x, wipe ((wipe σ vs).set j (some x)) vs = wipe σ vs)
    (he : ∀ (i : Nat) (x : V) H1, Ex H H1 → xs[i]? = some x → EvU te ((wipe σ vs).set j (some x)) H1 (f i)) : EvLT (tLc (iList K tl) (gName j) tYes te vs) σ H ((List.range xs.length).map f) := fun H0 e Q q => h H0 e _ fun H1 e1 => ⟨a, rfl, ⟨xs, ex_l (e.trans e1) hx⟩, fun Dl hD =>
  lc_list (xs := xs) (fun i H' => Ex H1 H' ∧ ∃ ws, H' Dl = some (.lst ws) ∧ TL H' ws ((List.range i).map f)) ⟨Ex.new hD, [], upd_same, .nil⟩ (fun i H' _ p => ex_l ((e.trans e1).trans p.1) hx) (fun i x H' hi p => by
    obtain ⟨p1, ws, p2, p3⟩ := p
    show wipe ((wipe σ vs).set j (some x)) vs = wipe σ vs ∧ te ((wipe σ vs).set j (some x)) H' fun y H4 => ∃ acc, H4 Dl = some (.lst acc) ∧ acc.length < sizeLine ∧ _
    refine ⟨hw _, he i x H1 (e.trans e1) hi H' p1 _ fun p H4 hp e4 h4 => ⟨ws, e4 Dl _ p2, sz_lt (by
      have := p3.len
      have := (List.getElem?_eq_some_iff.mp hi).1
      simp at *
      omega), Ex.mut (p1.trans e4) hD, ws ++ [.ref p], upd_same, ?_⟩⟩
    rw [List.range_succ, List.map_append]
    exact ((p3.ex e4).app ⟨p, rfl, h4⟩).upd (e4 Dl _ p2)) (fun H' p => by
      obtain ⟨p1, ws, p2, p3⟩ := p
      exact q Dl ws H' (fresh_back e1 hD) (e1.trans p1) p2 p3)⟩
theorem range_get {α : Type} (rs : List α) (d : α) : rs = (List.range rs.length).map fun i => rs.getD i d := by
  refine List.ext_getElem (by simp) fun i h1 h2 => ?_
  simp [h1]
theorem paired_map {α β γ : Type} {F : β → γ → Prop} (f : α → β) (g : α → γ) : ∀ l : List α, (∀ x ∈ l, F (f x) (g x)) → Paired F (l.map f) (l.map g)
  | [], _ => .nil
  | x :: r, h => .cons (h x (by simp)) (paired_map f g r fun y hy => h y (by simp [hy]))
/-- [x for x in xs if test(x)], xs a list of tuples, the test P of the tuple's items -/
theorem elt_filter {a : Addr} {xs : List V} {rs : List (List V)} {j : Nat} {vs : List Nat} (P : List V → Bool) (h : Ev tl σ H (.ref a)) (hx : SqL K H a xs) (ht : TL H xs rs) (hz : xs.length ≤ 40000) (hw : ∀ x, wipe ((wipe σ vs).set j (some x)) vs = wipe σ vs) (hj : ∀ x, ((wipe σ vs).set j (some x))[j]? = some (some x))
    (he : ∀ (b : Addr) (r : List V) H1, Ex H H1 → r ∈ rs → H1 b = some (.tup r) → EvT t ((wipe σ vs).set j (some (.ref b))) H1 (P r)) : EvLT (tLc (iList K tl) (gName j) t (tVar j) vs) σ H (rs.filter P) := fun H0 e Q q => by
  refine el_lcL (K := K) (f := fun i => P (rs.getD i [])) (v := fun i => xs.getD i .non) h hx hz hw (fun i x H1 e1 hi => ?_) (fun i x H1 e1 hi hf => ?_) H0 e Q fun p H2 hp e2 h2 => ?_
  · obtain ⟨b, r, rfl, hb, hr⟩ := ht.get hi
    have g : rs.getD i [] = r := by rw [List.getD_eq_getElem?_getD, hr] <;> rfl
    show EvT _ _ _ (P (rs.getD i []))
    rw [g]
    exact he b r H1 e1 (List.mem_of_getElem? hr) (e1 b _ hb)
  · have g : xs.getD i .non = x := by rw [List.getD_eq_getElem?_getD, hi] <;> rfl
    show Ev _ _ _ (xs.getD i .non)
    rw [g]
    exact ev_var (hj x)
  · refine q p _ H2 hp e2 h2 ?_
    have e3 : rs.filter P = ((List.range rs.length).filter fun i => P (rs.getD i [])).map fun i => rs.getD i [] := by
      conv => lhs; rw [range_get rs [], List.filter_map]
      rfl
    unfold given
    rw [e3, ht.len]
    refine paired_map _ _ _ fun i hi => ?_
    have hi := List.mem_range.mp (List.mem_filter.mp hi).1
    have hlx : i < xs.length := by rw [ht.len]; exact hi
    obtain ⟨b, r, h1, h2', h3⟩ := ht.get (List.getElem?_eq_getElem hlx)
    refine ⟨b, ?_, ?_⟩
    · rw [List.getD_eq_getElem?_getD, List.getElem?_eq_getElem hlx, h1]
      rfl
    · rw [List.getD_eq_getElem?_getD, h3]
      exact (e.trans e2) b _ h2'
theorem q_asgLT {i : Nat} {rs : List (List V)} (h : EvLT te σ H rs) (k : ∀ p vs H1, H p = none → Ex H H1 → H1 p = some (.lst vs) → TL H1 vs rs → tz D (σ.set i (some (.ref p))) H1) : tSeq (tAsg te (gName i)) tz D σ H := h H (Ex.refl H) _ fun p vs H1 hp e h1 h2 => k p vs H1 hp e h1 h2
theorem s_retLT {rs : List (List V)} (h : EvLT te σ H rs) (k : ∀ p vs H1, H p = none → Ex H H1 → H1 p = some (.lst vs) → TL H1 vs rs → D.rt (.ref p) H1) : tRet te D σ H := h H (Ex.refl H) _ k
end
end Kit

set_option Elab.async false
set_option linter.all false
set_option maxRecDepth 100000
set_option maxHeartbeats 4000000
namespace Kit
open PySem PySem.Spec PyProof.Rows L2 Evl
theorem meets_enum_new1 {v : Value} {o : Obj} {H : Heap → Prop} (B : Begins v o H) :
    Meets (Builtin.«enumerate.__new__» ⟨[.type "enumerate", v], []⟩) (fun _ R s => H s.heap ∧
      R (.ok (.ret (.ref (s.heap.push o).objs.size))) { s with heap := (s.heap.push o).push { cls := .type "enumerate", data := .fields #[.none, .bool false, .ref s.heap.objs.size, rawInt 0, .none, .none] } }) :=
  .of_wp fun prog w A R s h => by
    obtain ⟨hp, g, d, tk, os⟩ := s; obtain ⟨h1, h⟩ := h
    have hsub := sub_enumerate
    have q1 : ∀ {A' : Around} {E : Value → Shared → Prop} {Q : Value → Shared → Prop}, Q (.ref hp.objs.size) ⟨hp.push o, g, d, tk, os⟩ → wpAny (model prog w) A' (pyIter v) Q E ⟨hp, g, d, tk, os⟩ :=
      fun q => B.iter prog w _ _ ⟨hp, g, d, tk, os⟩ _ h1 q
    wp_walk using q1
    refine wpAny_stack_any fun st => wpAny_pure ?_
    split
    · rename_i c _ _ _ _ _
      cases (c == Value.type "enumerate")
      · wp_walk using q1
        exact ⟨_, rfl, h⟩
      · wp_walk using q1
        exact ⟨_, rfl, h⟩
    · wp_walk using q1
      exact ⟨_, rfl, h⟩
section
variable {prog : Program} {w : World} {A : Around} {E : Value → Shared → Prop} {s : Shared}
theorem enum_begins1 {v : Value} {o : Obj} {H : Heap → Prop} {Q : Value → Shared → Prop} (B : Begins v o H) (h1 : H s.heap)
    (h : ∀ h', IsEnum h' (s.heap.objs.size + 1) s.heap.objs.size 0 .none → h'.get? s.heap.objs.size = some o → h'.objs.size = s.heap.objs.size + 2 →
      (∀ b o, s.heap.get? b = some o → h'.get? b = some o) → Q (.ref (s.heap.objs.size + 1)) { s with heap := h' }) :
    wpAny (model prog w) A (call (.type "enumerate") [v]) Q E s := by
  refine callType_new F.called_enumerate (by decide) (F.typeCall_enumerate_1 _) (F.newCall_enumerate_1 _) (fun obj => F.args_object_init_2 obj _) F.entry_enumerate_new
    (meets_enum_new1 B) ⟨h1, ?_⟩
  have hz : (s.heap.push o).objs.size = s.heap.objs.size + 1 := Heap.size_push ..
  show _ ∧ _
  rw [hz]
  have he : IsEnum ((s.heap.push o).push { cls := .type "enumerate", data := .fields #[.none, .bool false, .ref s.heap.objs.size, rawInt 0, .none, .none] }) (s.heap.objs.size + 1) s.heap.objs.size 0 .none := by
    have := Heap.get?_push_size (s.heap.push o) (o := { cls := .type "enumerate", data := .fields #[.none, .bool false, .ref s.heap.objs.size, rawInt 0, .none, .none] }) rfl
    rw [hz] at this; exact this
  refine ⟨⟨_, he, rfl⟩, h _ he (Heap.get?_push_of_some _ (Heap.get?_push_size _ B.free)) (by rw [Heap.size_push, hz]) fun b o x => Heap.get?_push_of_some _ (Heap.get?_push_of_some _ x)⟩
end
end Kit

set_option Elab.async false
set_option linter.all false
set_option maxRecDepth 100000
set_option maxHeartbeats 4000000
namespace Kit
open PySem PySem.Spec PyProof.Rows L2 Evl
/-- the tuple at a, each item in a new pair -/
def IteT (K : PySem.W.Frag) (a : Addr) : It :=
  ⟨fun i H => ∃ (xs : List V) (x : V), SqT K H a xs ∧ xs[i]? = some x, fun i H v H' => ∃ T x, v = .ref T ∧ H T = none ∧ H' = upd H T (.tup [.int (i : Nat), x]) ∧ ∀ xs, SqT K H a xs → xs[i]? = some x, fun i H => ∃ xs : List V, SqT K H a xs ∧ xs.length = i⟩
theorem enum_ne {h : Heap} {e it t : Addr} {i : Int} {old : Value} {vs : Array Value} (he : IsEnum h e it i old) (ht : h.IsTuple t vs) : e ≠ t := fun z => by
  subst z
  obtain ⟨o, ho, hc, _⟩ := ht
  have he' : h.get? e = _ := he
  rw [he'] at ho
  cases ho
  exact absurd hc (by show ¬ (Value.type "enumerate" = Value.type "tuple"); decide +kernel)
theorem turn_enumT {P : Program} {w : World} {K : PySem.W.Frag} {elts : List Expr} {kk : Nat} {tpos : Pos} (a e it : Addr) :
    Turn P w K (.Tuple elts kk tpos) (IteT K a) [e, it] e (fun i h => (∃ old, IsEnum h e it ((i : Nat) : Int) old) ∧ h.IsTupleIter it a i ∧ e ≠ it) where
  mem := by simp
  obj := fun i h st b hb => by
    obtain ⟨⟨old, he⟩, ⟨o, ho, hc, hd⟩, _⟩ := st
    have e' : b = e ∨ b = it := by simpa using hb
    rcases e' with z | z
    · rw [z]; exact ⟨_, he, fun v q => nomatch q⟩
    · rw [z]; exact ⟨o, ho, fun v q => by rw [hd] at q; cases q⟩
  keep := fun i h h' st k => by
    obtain ⟨⟨old, he⟩, ⟨o, ho, hr⟩, hne⟩ := st
    exact ⟨⟨old, k e (by simp) _ he⟩, ⟨o, k it (by simp) o ho, hr⟩, hne⟩
  item := by
    intro X hP hw hK hc i pins s σ H E I hf st hg
    subst hP hw hK
    obtain ⟨⟨old, he⟩, hit, hne⟩ := st
    obtain ⟨xs, x, hq, hx⟩ := hg
    obtain ⟨its, rv, p, hz⟩ := I.tuple hq
    obtain ⟨u, hu, ru⟩ := rv.get hx
    have hel : e < s.heap.objs.size := Heap.lt_size he
    have hil : it < s.heap.objs.size := by obtain ⟨_, q, _⟩ := hit; exact Heap.lt_size q
    have pT : s.heap.IsTuple a its.toArray := p
    have nea : e ≠ a := enum_ne he pT
    have nit : a ≠ it := fun z => by
      subst z
      obtain ⟨o, ho, hc', _⟩ := pT
      obtain ⟨o', ho', hc'', _⟩ := hit
      rw [ho] at ho'
      cases ho'
      rw [hc'] at hc''
      exact absurd hc'' (by decide +kernel)
    have hlt : i < its.toArray.size := by
      have := (List.getElem?_eq_some_iff.mp hu).1
      simpa using this
    refine wpAny_pyNext_enum_itemD (Draws.tuple (by exact I.ok.hd hc) it a nit its.toArray) he ⟨hit, pT⟩ hlt hne (by simp [hne, nea]) fun x' h' tk hx' ho hst' hT hsz hk => ?_
    have eu : u = x' := by
      have : its[i]? = some x' := by simpa using hx'
      rw [hu] at this
      exact Option.some.inj this
    subst eu
    refine ⟨_, rfl, wpAny_letOwnedTupleGo_enum (s := { s with heap := h', toks := tk + 1 }) ho fun h'' he' sb => ?_⟩
    have hT2 : h''.get? s.heap.objs.size = some { cls := .type "tuple", data := .seq #[.int i tk, u] } := (sb.2 _ (Nat.ne_of_gt hel)).trans hT
    have new : ObjOk X.prog X.w (upd H s.heap.objs.size (.tup [.int (i : Nat), x])) h'' s.heap.objs.size (.tup [.int (i : Nat), x]) :=
      ⟨by show 2 ≤ sizeLine; decide, [.int i tk, u], .cons ⟨_, rfl⟩ (.cons ru .nil), ⟨_, hT2, rfl, _, rfl⟩⟩
    have I1 : Inv X pins σ (upd H s.heap.objs.size (.tup [.int (i : Nat), x])) { s with heap := h'', toks := tk + 1 } :=
      I.turnedNew (ch := [e, it]) (fun b ob hb q => (sb.2 b (fun z => hb (by simp [z]))).trans (hk b ob (fun z => hb (by simp [z])) (fun z => hb (by simp [z])) q)) hf (Nat.le_refl _) new
    refine ⟨.ref s.heap.objs.size, _, I1, rfl, ⟨_, x, rfl, I.hok.fresh (Nat.le_refl _), rfl, fun ys hy => by rw [I.tuple_inj hy hq]; exact hx⟩, ⟨⟨u, ?_⟩, ?_, hne⟩, fun b hb => ?_⟩
    · have e1 : ((i + 1 : Nat) : Int) = (i : Int) + 1 := by omega
      rw [e1]; exact he'
    · obtain ⟨o, q, r⟩ := hst'.1
      exact ⟨o, (sb.2 it (Ne.symm hne)).trans q, r⟩
    · have hb' : b < s.heap.objs.size := by
        have e' : b = e ∨ b = it := by simpa using hb
        rcases e' with z | z
        · rw [z]; exact hel
        · rw [z]; exact hil
      rw [upd_ne (Nat.ne_of_lt hb')]
      exact (hf b hb).1
  done := by
    intro X hP hw hK hc i pins s σ H E I hf st hg
    subst hP hw hK
    obtain ⟨⟨old, he⟩, hit, hne⟩ := st
    obtain ⟨xs, hq, hx⟩ := hg
    obtain ⟨its, rv, p, hz⟩ := I.tuple hq
    obtain ⟨f0, f1, f2, f3, f4, f5⟩ := hf it (by simp)
    have hl := rv.length
    have pT : s.heap.IsTuple a its.toArray := p
    have nit : a ≠ it := fun z => by
      subst z
      obtain ⟨o, ho, hc', _⟩ := pT
      obtain ⟨o', ho', hc'', _⟩ := hit
      rw [ho] at ho'
      cases ho'
      rw [hc'] at hc''
      exact absurd hc'' (by decide +kernel)
    have hn : its.toArray.size = i := by
      rw [← hx, hl]
      simp
    subst hn
    exact wpAny_pyNext_enum_endD (Draws.tuple (by exact I.ok.hd hc) it a nit its.toArray) he ⟨hit, pT⟩ fun h' eb => ⟨rfl, I.turned (t' := s.toks) (fun b o hb q => eb b o hb q) f0 f1 f3 f4 f5⟩
  self := fun A i s Q E st h => let ⟨⟨_, he⟩, _⟩ := st; wpAny_pyIter_enum he h
def iEnumS (K : PySem.W.Frag) (ta : TA) : TI := fun σ H R => ta σ H fun vs H1 => ∃ a xs, vs = [.ref a] ∧ ((SqL K H1 a xs ∧ R (Ite K a) H1) ∨ (SqT K H1 a xs ∧ R (IteT K a) H1))
theorem pi_enumS {X : Cx} {e : Expr} {ta : TA} {p pos tpos : Pos} {elts : List Expr} {kk : Nat} (hg : Gl X "enumerate") (hm : X.mg "enumerate" = none) (ha : PA X [e] ta) (hs : starEach [e] X.env = [(false, eval e X.env)] := by rfl) :
    PI X (.Tuple elts kk tpos) (.Call (.Name "enumerate" p) [e] [] pos) (iEnumS X.K ta) := by
  refine ⟨fun pins s σ H R I h => ?_⟩
  refine Call_ (ld_blt I hg hm boot_enumerate (PyProof.Rows.callWith_type1 (thn (ha.run pos pins s σ H _ I h) fun us s1 ⟨vs, H1, I1, r1, q1⟩ => ?_) hs rfl))
  obtain ⟨a, xs, ex, q1⟩ := q1
  subst ex
  cases r1 with
  | cons r rr =>
    cases rr
    cases r
    have fin : ∀ (h' : Heap) (itx : Addr), itx = s1.heap.objs.size → (∀ b o, s1.heap.get? b = some o → h'.get? b = some o) → ∀ b ∈ [s1.heap.objs.size + 1, itx], FpOk X pins H1 b := fun h' itx ei hk b hb => by
      have hle : s1.heap.objs.size ≤ b := by
        have e' : b = s1.heap.objs.size + 1 ∨ b = itx := by simpa using hb
        rcases e' with z | z
        · rw [z]; exact Nat.le_add_right _ _
        · rw [z, ei]; exact Nat.le_refl _
      exact I1.fpOk hle (I1.hok.fresh hle)
    rcases q1 with ⟨hq, q⟩ | ⟨hq, q⟩
    · obtain ⟨its, rv, p', hz⟩ := I1.list hq
      refine call_enumerate_list p'.isList fun h' he hit hsz hk => wpAny_pyIter_enum he ?_
      have I2 : Inv X pins σ H1 { s1 with heap := h' } := I1.kept (t' := s1.toks) hk
      exact ⟨s1.heap.objs.size + 1, [s1.heap.objs.size + 1, s1.heap.objs.size], _, _, H1, rfl, I2, turn_enum a (s1.heap.objs.size + 1) s1.heap.objs.size, ⟨⟨.none, he⟩, hit, Nat.succ_ne_self _⟩, fin h' _ rfl hk, q⟩
    · obtain ⟨its, rv, p', hz⟩ := I1.tuple hq
      refine enum_begins1 (begins_tuple a its.toArray) (show s1.heap.IsTuple a its.toArray from p') fun h' he hit hsz hk => wpAny_pyIter_enum he ?_
      have I2 : Inv X pins σ H1 { s1 with heap := h' } := I1.kept (t' := s1.toks) hk
      exact ⟨s1.heap.objs.size + 1, [s1.heap.objs.size + 1, s1.heap.objs.size], _, _, H1, rfl, I2, turn_enumT a (s1.heap.objs.size + 1) s1.heap.objs.size, ⟨⟨.none, he⟩, ⟨_, hit, rfl, rfl⟩, Nat.succ_ne_self _⟩, fin h' _ rfl hk, q⟩
theorem walk_enumT {K : PySem.W.Frag} {a : Addr} {xs : List V} : Walk (IteT K a) xs.length (fun H => SqT K H a xs) (YPair (fun i => some (.int (i : Nat))) (fun i => xs[i]?)) := by
  refine ⟨fun i _ hi q => ⟨xs, xs[i], q, by simp [hi]⟩, fun _ q => ⟨xs, q, rfl⟩, fun i H v H' _ q y => ?_⟩
  obtain ⟨T, x, h1, h2, h3, h4⟩ := y
  exact ⟨T, .int (i : Nat), x, h1, h2, h3, rfl, h4 xs q⟩
section
variable {K : PySem.W.Frag} {σ : L2.St} {H H' : Hp} {D : Ends} {tu tz : TS}
/-- for i, x in enumerate(xs), xs a list or a tuple -/
theorem s_forEnS {ta : TA} {i j : Nat} {a : Addr} {xs : List V} (h : EvA ta σ H [.ref a]) (G : Hp → Prop) (hG : (∀ H, G H → SqL K H a xs) ∨ (∀ H, G H → SqT K H a xs)) (hx : ∀ H1, Ex H H1 → G H1) (Pv : Nat → L2.St → Hp → Prop) (h0 : ∀ H1, Ex H H1 → Pv 0 σ H1) (hl : ∀ n σ' H', n ≤ xs.length → Pv n σ' H' → G H')
    (hs : ∀ n x σ' H' H2, xs[n]? = some x → Pv n σ' H' → Ex H' H2 → tu { D with nx := Pv (n + 1), ct := Pv (n + 1), bk := D.nx } ((σ'.set i (some (.int (n : Int)))).set j (some x)) H2) (hd : ∀ σ' H', Pv xs.length σ' H' → D.nx σ' H') :
    tFor (iEnumS K ta) (gTup K 2 (gCons (gName i) (gCons (gName j) gNil))) tu D σ H := h H (Ex.refl H) _ fun H1 e => by
  have turn : ∀ n v σ' Hh H2, n < xs.length → Pv n σ' Hh → YPair (fun i => some (.int (i : Nat))) (fun i => xs[i]?) n Hh v H2 → gTup K 2 (gCons (gName i) (gCons (gName j) gNil)) v σ' H2 fun σ2 H3 => tu { D with nx := Pv (n + 1), ct := Pv (n + 1), bk := D.nx } σ2 H3 := by
    rintro n v σ' Hh H2 hn p ⟨T, x, y, rfl, nT, rfl, g1, g2⟩
    have ex : V.int (n : Nat) = x := Option.some.inj g1
    subst ex
    exact ⟨T, [.int (n : Nat), y], rfl, st_of upd_same, rfl, _, [y], rfl, y, [], rfl, rfl, hs n y σ' Hh _ g2 p (Ex.new nT)⟩
  rcases hG with hG | hG
  · exact ⟨a, xs, rfl, .inl ⟨hG _ (hx H1 e), for_it walk_enum Pv (h0 H1 e) (fun n σ' H' hn p => hG _ (hl n σ' H' hn p)) (fun n v σ' Hh H2 => turn n v σ' Hh H2) hd⟩⟩
  · exact ⟨a, xs, rfl, .inr ⟨hG _ (hx H1 e), for_it walk_enumT Pv (h0 H1 e) (fun n σ' H' hn p => hG _ (hl n σ' H' hn p)) (fun n v σ' Hh H2 => turn n v σ' Hh H2) hd⟩⟩
end
end Kit

set_option Elab.async false
set_option linter.all false
set_option maxRecDepth 100000
set_option maxHeartbeats 4000000
namespace Kit
open PySem PySem.Spec PyProof.Rows L2 Evl
/-! ### a promise of a def that shows data (repr): no repr may be under way around it -/
structure FnOkG (P : Program) (w : World) (K : PySem.W.Frag) (mg : Str → Option Value) (base : Heap) (n : Nat) (f : Addr) (fd : FuncData) (names : List Str) (want : Sp) : Prop where
  many : ∀ xs H Q E, want xs H Q E → xs.length = names.length
  go : ∀ (A : Around) (frames : List Env) (st : Shared) (H : Hp) (given : Args) (us : List Value) (xs : List V) (Q : VK) (E : XK), A.guards = some [] → Room n A → Env0 P w K mg base A frames st H →
    BindsTo st fd given (names.zip us) → Vals xs us → want xs H Q E → codeAny (model P w) A (.call (.ref f) given) (CR CX0 frames P w H st Q E) st
section
variable {P : Program} {w : World} {K : PySem.W.Frag} {mg : Str → Option Value} {base : Heap}
theorem FnOkG.mono {j n : Nat} {f : Addr} {fd : FuncData} {names : List Str} {want : Sp} (F : FnOkG P w K mg base j f fd names want) (h : j ≤ n) : FnOkG P w K mg base n f fd names want :=
  ⟨F.many, fun A fr st H g us xs Q E hg r => F.go A fr st H g us xs Q E hg (r.mono h)⟩
/-- the rule for such a def -/
theorem funG {x qual : Str} {d : Stmt} {f : Addr} {fd : FuncData} {N names : List Str} {n : Nat} {want : Sp} (F : Fun K x qual d f fd) (S : FnScope N names (defScope d)) (many : ∀ xs H Q E, want xs H Q E → xs.length = names.length)
    (body : ∀ (cv : Value) (A : Around) (frames : List Env) (st : Shared) (H : Hp) (xs : List V) (Q : VK) (E : XK), A.guards = some [] → Room n (A.deeper (envOfC qual (defScope d) st.heap.objs.size f cv)) → want xs H Q E →
      ∃ t, PSs (cxOf CX0 P w K mg base N qual (defScope d) f cv A frames st H E).nox (defBody d) t ∧ t { nx := fun _ H' => Q .non H', rt := Q } (start N xs) H) : FnOkG P w K mg base (n + 1) f fd names want := by
  obtain ⟨o1, o2, v1, v2, v3, an, cv, ct, sl, rfl, look, code⟩ := F.ex
  refine ⟨many, fun A frames st H given us xs Q E hg room en bind vals hw => ?_⟩
  have size := many _ _ _ _ hw
  have inK : K.In st.heap := en.mod.kin.keeps fun b o q => (en.bs b o q).1
  have noLim : st.heap.NoLimit := en.mod.nolimit.keeps fun b o q => (en.bs b o q).1
  have kinds : ∀ y ∈ names.zip us, (defScope d).names.lookup y.1 = some .local ∨ ((defScope d).names.lookup y.1 = some .cell ∧ ((cellsFrom (st.heap.objs.size + 1) (defScope d).names []).lookup y.1).isSome = true) := by
    rintro ⟨a, b⟩ hy
    exact (S.par a (List.of_mem_zip hy).1).elim .inl fun q => .inr ⟨q, PySem.W.cellsFrom_some _ _ _ (.inl q)⟩
  refine codeAny_call_function room.depth (inK _ _ look) rfl S.co S.gen rfl (PySem.W.codeRec_of inK code) (bind _ _ _ _ (wpAny_newFunctionEnv_cells S.kind kinds fun env eq st1 made => ?_))
  cases eq
  refine ⟨noLim.keeps made.toInCall.keep, codeAny_func ?_⟩
  obtain ⟨t, rule, done⟩ := body cv A frames st H xs Q E hg (room.deeper _) hw
  have J : Inv (cxOf CX0 P w K mg base N qual (defScope d) f cv A frames st H E) [] (start N xs) H st1 := inv_start S room.hd en size vals made
  have back : ∀ {σ' : L2.St} {H' : Hp} {v : V} {u : Value} {st2 : Shared}, Inv (cxOf CX0 P w K mg base N qual (defScope d) f cv A frames st H E) [] σ' H' st2 → RelV v u → Q v H' → CE frames P w H st Q u st2 := fun J2 rv q => ⟨_, _, J2.os, J2.bare, J2.base, J2.hok, rv, q⟩
  refine wpAny_mono (rule.nox.run [] st1 (start N xs) H _ J done) (fun r st2 hs => ?_) fun _ _ hs => hs
  match r, hs with
  | .ret u, ⟨v, σ2, H2, J2, rv, q⟩ => exact back J2 rv q
  | .next, ⟨σ2, H2, J2, q⟩ => exact back (v := V.non) (u := Value.none) J2 rfl q
  | .brk, ⟨_, _, _, q⟩ => exact False.elim q
  | .cont, ⟨_, _, _, q⟩ => exact False.elim q
end
/-- such a def is called -/
theorem pe_callG {X : Cx} {n : Nat} {f : Addr} {fd : FuncData} {names : List Str} {want : Sp} {x : Str} {p pos : Pos} {e : Expr} {es : List Expr} {t : TA} (F : FnOkG X.prog X.w X.K X.mg X.base n f fd names want) (hg : X.A.guards = some []) (room : Room n X.A) (gl : Gl X x)
    (at_ : X.mg x = some (.ref f)) (keep : PySem.W.keepIn X.K (.ref f) = true) (bind : Binds X.K fd names []) (ha : PA X (e :: es) t) (nd : (x == ("__debug__" : Str)) = false := by decide)
    (one : starEach (e :: es) X.env = (false, eval e X.env) :: starEach es X.env := by rfl) (plain : (backTo pos (starEach es X.env)).any (·.1) = false := by rfl) : PE X (.Call (.Name x p) (e :: es) [] pos) (tCall want [] E0 t) := by
  refine ⟨fun pins st σ H Q J h => wpAny_Call_Name_kw (ld_glob J gl at_ ?_ nd)⟩
  refine PySem.W.callWith_K (h₀ := X.base) J.ok.mod.kin keep (thn (ha.run pos pins st σ H _ J h) fun us st1 ⟨vs, H1, J1, r, q⟩ => ⟨J1.kIn, ?_⟩) one plain
  have q : want vs H1 Q E0 := by
    have q' : want (vs ++ []) H1 Q E0 := q
    rwa [List.append_nil] at q'
  have size : us.length = names.length := r.length.symm.trans (F.many _ _ _ _ q)
  have bd := bind st1 us J1.kIn (by rw [List.append_nil]; exact size)
  rw [List.append_nil] at bd
  refine wpAny_call (codeAny_mono (F.go X.A X.stack st1 H1 ⟨us, []⟩ us vs Q E0 hg room J1.env0 bd r q) fun res st2 hq => ?_)
  match res, hq with
  | .error _, hq => exact False.elim hq
  | .ok (.ret _), hq => exact J1.after hq
  | .ok .next, hq => exact False.elim hq
  | .ok .brk, hq => exact False.elim hq
  | .ok .cont, hq => exact False.elim hq
/-- the law's promise, at the heap behind the top -/
theorem headG {P : Program} {w : World} {K : PySem.W.Frag} {mg mb : Str → Option Value} {n : Nat} {fa a : Addr} {fd : FuncData} {x : Str} {want : Sp} {st : Shared} {us : List Value} {ns : List Int}
    (inK : K.In st.heap) (glob : st.heap.Ns mainGlobals mg) (blt : st.heap.Ns builtinsNs mb) (boot : ∀ x : Str, x ≠ "__name__" → mb x = bootBuiltins x) (noLim : st.heap.NoLimit) (gens : st.gens = #[])
    (obj : st.heap.get? a = some { cls := .type "list", data := .seq us.toArray }) (allInt : IntsAre us ns) (short : ns.length ≤ sizeLine) (room : Room n callerA)
    (F : ∀ base : Heap, K.In base → base.Ns mainGlobals mg → FnOkG P w K mg base n fa fd [x] want) (bind : ∀ (s : Shared) (u : Value), BindsTo s fd ⟨[u], []⟩ [(x, u)])
    (ask : ∀ H : Hp, Only H → SqL K H a (ns.map V.int) → want [.ref a] H (fun v _ => v = .bl true) fun _ _ _ => False) :
    codeAny (model P w) callerA (.call (.ref fa) ⟨[.ref a], []⟩) (fun r s' => r = .ok (.ret (.bool true)) ∧ OldK st.heap s'.heap ∧ s'.os = st.os ∧ AllBare s'.gens) st := by
  have vals := vals_ints allInt
  have size := allInt.length
  have main : ∀ H : Hp, Only H → SqL K H a (ns.map V.int) → HOk P w H st.heap → (∀ b, H b ≠ none → b = a) → (H a ≠ none → K.lookup a = none) →
      codeAny (model P w) callerA (.call (.ref fa) ⟨[.ref a], []⟩) (fun r s' => r = .ok (.ret (.bool true)) ∧ OldK st.heap s'.heap ∧ s'.os = st.os ∧ AllBare s'.gens) st := by
    intro H only sq ok one not
    have stay : ∀ {b : Addr} {o : Obj}, st.heap.get? b = some o → H b = none → (hidT st.heap H).get? b = some o := fun q z => hidT_get q z
    have free : ∀ {b : Addr}, (b = a → False) → H b = none := fun {b} ne => by
      cases q : H b with
      | none => rfl
      | some u => exact (ne (one b (by rw [q]; exact Option.some_ne_none u))).elim
    have space : ∀ {b : Addr} {m : Str → Option Value}, st.heap.Ns b m → (hidT st.heap H).Ns b m := fun {b m} ⟨o, es, ep, q, d, r⟩ => ⟨o, es, ep, stay q (free fun z => by
      subst z
      rw [obj] at q
      cases q
      exact Data.noConfusion (show Data.seq us.toArray _ = Data.dict es ep from d)), d, r⟩
    have kin : K.In (hidT st.heap H) := fun b o q => stay (inK b o q) (by
      cases z : H b with
      | none => rfl
      | some u =>
        have ne : H b ≠ none := by rw [z]; exact Option.some_ne_none u
        have ba := one b ne
        subst ba
        rw [not ne] at q
        cases q)
    obtain ⟨mc, l1, l2⟩ := noLim
    have md : Mod K mg (hidT st.heap H) := ⟨kin, space glob, ⟨mb, space blt, boot⟩, ⟨mc, space l1, l2⟩⟩
    have en : Env0 P w K mg (hidT st.heap H) callerA [] st H := ⟨rfl, md, fun b o q => of_hidT q, Nat.le_of_eq (hidT_size _ _), trivial, fun b hb => absurd (show b ∈ ([] : List Addr) from hb) (by simp), ok, .of_eq gens⟩
    refine codeAny_mono ((F _ kin (space glob)).go callerA [] st H ⟨[.ref a], []⟩ [.ref a] [.ref a] _ _ rfl room en (bind st (.ref a)) (.cons rfl .nil) (ask H only sq)) fun r s' h => ?_
    match r, h with
    | .error _, h => exact False.elim h
    | .ok .next, h => exact False.elim h
    | .ok .brk, h => exact False.elim h
    | .ok .cont, h => exact False.elim h
    | .ok (.ret u), ⟨v, H', os, bare, un, ok', rel, q⟩ =>
      have q2 : v = .bl true := q
      cases q2
      have r2 : u = Value.bool true := rel
      cases r2
      refine ⟨rfl, OldK.of_keep fun b o e => ?_, os, bare⟩
      rcases only b with z | ⟨ob, xs, z⟩
      · exact un.keep b o e z (fun t => absurd (show b ∈ ([] : List Addr) from t) (by simp)) (by simp)
      · have z2 := un.frzs b ob _ z
        obtain ⟨g1, _⟩ := ok b _ z
        obtain ⟨g2, _⟩ := ok' b _ z2
        rw [e] at g1
        cases g1
        exact g2
  cases own : K.lookup a with
  | some o =>
    have e := inK a o own
    rw [obj] at e
    cases e
    exact main (fun _ => none) (fun _ => .inl rfl) (.inr ⟨_, us.toArray, _, own, rfl, rfl, rfl, by rw [List.size_toArray, size]; exact short, by simpa using vals⟩) (fun b u z => by have y : (none : Option HO) = some u := z; cases y) (fun b z => absurd rfl z) fun z => absurd rfl z
  | none =>
    have yes : (fun b => if b = a then some (HO.frz { cls := .type "list", data := .seq us.toArray } (.lst (ns.map V.int))) else none) a = some (HO.frz { cls := .type "list", data := .seq us.toArray } (.lst (ns.map V.int))) := if_pos rfl
    have no : ∀ b, b ≠ a → (fun b => if b = a then some (HO.frz { cls := .type "list", data := .seq us.toArray } (.lst (ns.map V.int))) else none) b = none := fun b ne => if_neg ne
    generalize (fun b => if b = a then some (HO.frz { cls := .type "list", data := .seq us.toArray } (.lst (ns.map V.int))) else none) = G at yes no
    refine main G (fun b => ?_) (.inl (.inr ⟨_, yes⟩)) (fun b u z => ?_) (fun b z => ?_) fun _ => own
    · by_cases hb : b = a
      · subst hb
        exact .inr ⟨_, _, yes⟩
      · exact .inl (no b hb)
    · by_cases hb : b = a
      · subst hb
        rw [yes] at z
        cases z
        exact ⟨obj, by rw [List.length_map]; exact short, us, _, vals, obj⟩
      · rw [no b hb] at z
        cases z
    · by_cases hb : b = a
      · exact hb
      · exact absurd (no b hb) z
theorem walk_G {l : PySem.W.OpenLaw} {m n : Nat} {q : Program} {loose : List Str} {XP : (Str → Option Value) → Heap → Prop} {YP : World → Heap → Prop} {d : DefRec} {K : Params → PySem.W.Frag} {want : World → Sp} {x : Str}
    (most : l.most = some m) (most2 : m ≤ sizeLine) (noDef : d.params.defaults = []) (room : Room n callerA) (inK : ∀ (w : World) (h : Heap), YP w h → (K w.params).In h)
    (F : ∀ (w : World) (mg : Str → Option Value) (fa : Addr) (h : Heap), (K w.params).In h → h.Ns mainGlobals mg → mg d.name = some (.ref fa) →
      ∃ fd : FuncData, (∀ (s : Shared) (u : Value), BindsTo s fd ⟨[u], []⟩ [(x, u)]) ∧ ∀ base : Heap, (K w.params).In base → base.Ns mainGlobals mg → FnOkG l.prog w (K w.params) mg base n fa fd [x] (want w))
    (ask : ∀ (w : World) (H : Hp) (a : Addr) (ns : List Int), ns.length ≤ m → Only H → SqL (K w.params) H a (ns.map V.int) → want w [.ref a] H (fun v _ => v = .bl true) fun _ _ _ => False) :
    PySem.W.WalkO q loose XP YP l.row.toRowW d [] (fun f vs => PySem.call f vs) :=
  Att.attach_call most noDef fun w s₀ st mg mb fa o pm cd doc a us ns G Y ho hd hcd named obj allInt short gens => by
    have kin := inK w _ Y
    obtain ⟨fd, bind, FF⟩ := F w mg fa _ kin G.T.g named
    exact headG kin G.T.g G.T.b G.T.builtins G.T.nolimit gens obj allInt (Nat.le_trans short most2) room FF bind fun H only sq => ask w H a ns short only sq
/-! ### repr of data -/
def rRepr (K : PySem.W.Frag) : List V → Hp → VK → Prop := fun xs H Q => ∃ p d, xs = [.ref p] ∧ Dp K H (.ref p) d ∧ d.showable = true ∧ d.hasDict = false ∧ d.depth ≤ 50 ∧ d.shown.length ≤ sizeLine ∧ Q (.str d.shown) H
theorem call_reprD {X : Cx} (hg : X.A.guards = some []) (hu : X.A.units + 64 < cLine) : CallR X (.builtin "repr") (rRepr X.K) := by
  intro pins st σ H xs us Q J r h
  obtain ⟨p, d, rfl, dp, hs, hd, hdp, hz, q⟩ := h
  obtain ⟨u, rfl, hu2⟩ : ∃ u, us = [u] ∧ RelV (.ref p) u := by
    cases r with
    | cons a b =>
      cases b
      exact ⟨_, rfl, a⟩
  have e : u = Value.ref p := hu2
  subst e
  obtain ⟨as, rd⟩ := Dp.reads J d _ _ dp hu2
  refine repr_of_reads' rd hs (fun z => by rw [hd] at z; cases z) hg (by omega) (fun _ _ e => e) (fun h' u tk keep => ?_) hz
  exact ⟨.str d.shown, H, J.turnedL (ch := []) (fun b o _ e => keep b o e) (fun b hb => absurd hb (by simp)), ⟨_, rfl⟩, q⟩
section
variable {K : PySem.W.Frag} {σ : L2.St} {H : Hp} {te : TE}
theorem ev_repr {d : PyData} (h : EvD K te σ H d) (hl : isDisplay d = true) (hs : d.showable = true) (hd : d.hasDict = false) (hdp : d.depth ≤ 50) (hz : d.shown.length ≤ sizeLine) : Ev (tCB (rRepr K) (tCons te tNil)) σ H (.str d.shown) := fun H1 e Q q =>
  h H1 e _ fun v H2 e2 dv => by
    have hp : ∃ p, v = .ref p := by
      cases dv with
      | lst _ _ => exact ⟨_, rfl⟩
      | tup _ _ => exact ⟨_, rfl⟩
      | non => cases hl
      | bl _ => cases hl
      | int _ => cases hl
      | str _ => cases hl
    obtain ⟨p, rfl⟩ := hp
    exact ⟨p, d, rfl, dv, hs, hd, hdp, hz, q H2 e2⟩
end
end Kit

set_option Elab.async false
set_option linter.all false
set_option maxRecDepth 100000
set_option maxHeartbeats 4000000
namespace Kit
open PySem PySem.Spec PyProof.Rows L2 Evl
theorem slot_type_neR : Slot "type" (cmpInfo .NotEq).2.2 "object.__ne__" :=
  .of (owner := "object") (n := "__ne__") (by rw [typeLookup_type, builtinLookup_eq_fast]; kernel_rfl) (by decide +kernel) (by decide +kernel) (by decide +kernel)
    (by first | exact .inl (by decide +kernel) | exact .inr (by decide +kernel)) (by rw [isSubtype_type]; kernel_rfl)
section
variable {M : Model} {A : Around} {E : Value → Shared → Prop} {s : Shared}
theorem ne_decline {a b : Value} {T id : String} {k : Bool} {Q : Value → Shared → Prop} (ta : ∀ s' : Shared, s'.TypeIs a T) (tb : ∀ s' : Shared, s'.TypeIs b T) (l1 : Slot T (cmpInfo .NotEq).2.1 id) (l2 : Slot T (cmpInfo .NotEq).2.2 id)
    (nh : [a, b].any Value.onHeap = false) (same : isSame a b = pure k) (go : wpAny M A (call (.builtin id) [a, b]) (fun v t => v = .notImplemented ∧ wpAny M A (call (.builtin id) [b, a]) (fun v t2 => v = .notImplemented ∧ Q (.bool (!k)) t2) E t) E s) :
    wpAny M A (richCompare .NotEq a b) Q E s := by
  rcases eq : cmpInfo CmpOp.NotEq with ⟨n1, n2, n3⟩
  rw [eq] at l1 l2
  simp only [richCompare, eq, (ta s).oneThing_none]
  try with_reducible refine wpAny_holding ?_
  refine wpAny_bind (wpAny_cRoomFor_or (.inl nh) (wpAny_bind (wpAny_typeOf (ta s) (wpAny_bind (wpAny_typeOf (tb s) ?_)))))
  simp only [bne_self_eq_false, Bool.false_eq_true, if_false, pure_bind, Bool.not_false, if_true]
  refine wpAny_bind (m := tryCompare a _ b) (wpAny_tryCompare_declines (ta s) l1 (wpAny_mono go (fun v t z => ⟨z.1, ?_⟩) fun _ _ x => x))
  refine wpAny_bind (m := tryCompare b _ a) (wpAny_tryCompare_declines (tb t) l2 (wpAny_mono z.2 (fun v t2 z2 => ⟨z2.1, ?_⟩) fun _ _ x => x))
  refine wpAny_bind (wpAny_rule (wpAny_bind (wpAny_of_eq same (wpAny_pure z2.2))))
end
section
variable {prog : Program} {w : World} {A : Around} {E : Value → Shared → Prop} {s : Shared} {Q : Value → Shared → Prop}
theorem obj_ne_other {X Y : String} (hX : ∀ s' : Shared, s'.TypeIs (.type X) "type") (ne : (Value.type X == Value.type Y) = false) (hu : A.units + 1 < cLine) (h : Q .notImplemented s) : wpAny (model prog w) A (call (.builtin "object.__ne__") [.type X, .type Y]) Q E s := by
  refine wpAny_call_entry slot_type_ne (hX s) PySem.F.cmpEntry_ne ?_ (PySem.F.cmpArgs_ne _ _)
  unfold Builtin.«object.__ne__»
  have key : wpAny (model prog w) A.in1 (call (.builtin "object.__eq__") [.type X, .type Y]) (fun v s' => v = .notImplemented ∧ s' = s) E s :=
    call_gives slot_type_eqN (hX s) F.entry_object_eq (F.args_object_eq_2 _ _) (PySem.TypeEq.object_eq_other rfl ne) ⟨rfl, rfl⟩
  repeat (first
    | with_reducible refine wpAny_cRoomFor (by show A.units + 1 < cLine; exact hu) ?_
    | (refine wpAny_bind (m := callSpecialIfBound? (.type X) (Str.ofString "__eq__") [.type Y])
        (wpAny_callSpecialIfBound?_slot (hX _) slot_type_eqN (wpAny_mono key (fun r s' hr => by
          obtain ⟨rfl, rfl⟩ := hr
          have hq : Q .notImplemented s' := h
          repeat (first | exact hq | exact ⟨_, rfl, hq⟩ | exact wpAny_pure hq | wp_step)) fun _ _ e => e)))
    | wp_step)
theorem ne_type_other {X Y : String} (hX : ∀ s' : Shared, s'.TypeIs (.type X) "type") (hY : ∀ s' : Shared, s'.TypeIs (.type Y) "type") (ne : (Value.type X == Value.type Y) = false) (hu : A.units + 1 < cLine) (h : Q (.bool true) s) : wpAny (model prog w) A (compareOp .NotEq (.type X) (.type Y)) Q E s := by
  have ne' : (Value.type Y == Value.type X) = false := by
    rw [beq_eq_false_iff_ne] at ne ⊢
    exact fun z => ne z.symm
  show wpAny _ A (richCompare .NotEq _ _) Q E s
  exact ne_decline (T := "type") (k := false) hX hY slot_type_ne slot_type_neR rfl (by rw [isSame_plain rfl, ne]) (obj_ne_other hX ne hu ⟨rfl, obj_ne_other hY ne' hu ⟨rfl, h⟩⟩)
end
end Kit

set_option Elab.async false
set_option linter.all false
set_option maxRecDepth 100000
set_option maxHeartbeats 4000000
namespace Kit
open PySem PySem.Spec PyProof.Rows L2 Evl
/-! list(range(a, b, c)) -/
def rgC (i c : Int) (n : Nat) : List V := (List.range n).map fun k => V.int (i + (k : Nat) * c)
def PRgC (X : Cx) (e : Expr) (t : L2.St → Hp → (Int → Int → Int → Hp → Prop) → Prop) : Prop :=
  ∀ (pins : List (Addr × Obj)) (s : Shared) (σ : L2.St) (H : Hp) (Q : Int → Int → Int → Hp → Prop), Inv X pins σ H s → t σ H Q →
    wpAny (model X.prog X.w) X.A (eval e X.env) (fun x s' => ∃ r a b c t u v H', x = .ref r ∧ IsRange s'.heap r a b c t u v ∧ Inv X pins σ H' s' ∧ Q a b c H') X.xe s
def tRg3 (ta : TA) : L2.St → Hp → (Int → Int → Int → Hp → Prop) → Prop := fun σ H Q => ta σ H fun vs H1 => ∃ i j c, vs = [.int i, .int j, .int c] ∧ (c ≠ 0 ∧ c.natAbs < 1073741824) ∧ Q i j c H1
section
variable {X : Cx}
theorem prg_3 {a b c : Expr} {ta : TA} {p pos : Pos} (hg : Gl X "range") (hm : X.mg "range" = none) (ha : PA X [a, b, c] ta)
    (hs : starEach [a, b, c] X.env = (false, eval a X.env) :: starEach [b, c] X.env := by rfl) (hpl : (backTo pos (starEach [b, c] X.env)).any (·.1) = false := by rfl) : PRgC X (.Call (.Name "range" p) [a, b, c] [] pos) (tRg3 ta) := by
  intro pins s σ H Q I h
  refine Call_ (ld_blt I hg hm boot_range (PyProof.Rows.callWith_type1 (thn (ha.run pos pins s σ H _ I h) fun us s1 ⟨vs, H1, I1, r1, q1⟩ => ?_) hs hpl))
  obtain ⟨i, j, k, e, ⟨c0, c1⟩, q⟩ := q1
  subst e
  cases r1 with
  | cons r rr =>
    cases rr with
    | cons r' rr =>
      cases rr with
      | cons r'' rr =>
        cases rr
        obtain ⟨t, rfl⟩ := r
        obtain ⟨t', rfl⟩ := r'
        obtain ⟨t'', rfl⟩ := r''
        exact call_range_3 c0 ⟨_, i, j, k, _, _, _, H1, rfl, IsRange.new _ _ _ _ _ _ _, I1.kept fun b u e => Heap.get?_push_of_some _ e, q⟩ (.inl (PyProof.noPylong_small c1))
theorem vals_rgC {a c : Int} {n : Nat} {acc : Array Value} (h : ItemsOf (fun i v => ∃ t, v = .int (a + i * c) t) acc n) : Vals (rgC a c n) acc.toList := by
  have e : acc.toList.length = n := by rw [Array.length_toList]; exact h.1
  unfold rgC
  rw [← e]
  refine vals_of_get acc.toList _ fun j u hj => ?_
  obtain ⟨t, rfl⟩ := h.2 j u (by rw [← hj, Array.getElem?_toList])
  exact ⟨t, rfl⟩
def tLstRgC (te : L2.St → Hp → (Int → Int → Int → Hp → Prop) → Prop) : TE := fun σ H Q => te σ H fun a b c H1 => ∃ n : Nat, (Builtin.Range.small a b c = true ∧ Builtin.Range.rangeSize a b c = n ∧ n ≤ 2 ^ 24) ∧ ∀ q, H1 q = none → Q (.ref q) (upd H1 q (.lst (rgC a c n)))
theorem pe_listRgC {e : Expr} {te : L2.St → Hp → (Int → Int → Int → Hp → Prop) → Prop} {p pos : Pos} (hc : X.calm = true) (hg : Gl X "list") (hm : X.mg "list" = none) (he : PRgC X e te) (na : starEach [e] X.env = (false, eval e X.env) :: starEach [] X.env := by rfl) : PE X (.Call (.Name "list" p) [e] [] pos) (tLstRgC te) := by
  refine ⟨fun pins s σ H Q I h => ?_⟩
  refine Call_ (ld_blt I hg hm boot_list (PyProof.Rows.callWith_type1 (args_cons (thn (he pins s σ H _ I h) fun x s1 ⟨r, a, b, c, t, u, v, H1, ex, hr, I1, n, ⟨ok1, ok2, ok3⟩, q⟩ => args_nil ?_) na) na))
  subst ex
  refine call_list_range (n := n) (I1.ok.hd hc) hr ok1 ok2 ok3 fun h' tk acc c' hk e' hi => ?_
  refine ⟨.ref s1.heap.objs.size, upd H1 s1.heap.objs.size (.lst (rgC a c n)), I1.laid hk (Nat.le_refl _) (show ObjOk X.prog X.w _ _ _ (.lst (rgC a c n)) from ⟨?_, acc.toList, c', vals_rgC hi, ?_⟩), rfl, q _ (I1.hok.fresh (Nat.le_refl _))⟩
  · unfold rgC
    rw [List.length_map, List.length_range, sizeLine_eq]
    omega
  · rw [Array.toArray_toList]; exact e'
end
theorem el_down {σ : L2.St} {H : Hp} {ta : TA} {i j : Int} (h : EvA ta σ H [.int i, .int j, .int (-1)]) (hi : 0 ≤ i ∧ i ≤ 1000) (hj : -1 ≤ j ∧ j ≤ 1000) : EvL (tLstRgC (tRg3 ta)) σ H (rgC i (-1) (i - j).toNat) := fun H1 e Q q =>
  h H1 e _ fun H2 e2 => ⟨i, j, -1, rfl, ⟨by decide, by decide⟩, (i - j).toNat, ⟨(RgC.neg (by omega) (by omega) (by omega) (by omega)).2.2.1, (RgC.neg (by omega) (by omega) (by omega) (by omega)).2.2.2, by omega⟩, fun l hl => q l _ (fresh_back e2 hl) (e2.trans (Ex.new hl)) upd_same⟩
end Kit

set_option Elab.async false
set_option linter.all false
set_option maxRecDepth 100000
set_option maxHeartbeats 4000000
namespace Kit
open PySem PySem.Spec PyProof.Rows L2 Evl
/-! ### any thing: none, bools, ints, texts, tuples, dicts, lists of data -/
inductive It (K : PySem.W.Frag) (H : Hp) : V → PyData → Prop
  | non : It K H .non .none
  | bl (b : Bool) : It K H (.bl b) (.bool b)
  | int (i : Int) : It K H (.int i) (.int i)
  | str (x : Str) : It K H (.str x) (.str x)
  | lst {a : Addr} {xs : List V} {ds : List PyData} (h : H a = some (.lst xs)) (hd : DpAll K H xs ds) : It K H (.ref a) (.list ds)
theorem It.ex {K : PySem.W.Frag} {H H' : Hp} {v : V} {d : PyData} (e : Ex H H') (h : It K H v d) : It K H' v d := by
  cases h with
  | non => exact .non
  | bl b => exact .bl b
  | int i => exact .int i
  | str x => exact .str x
  | lst h hd => exact .lst (e _ _ h) (DpAll.ex e _ _ hd)
theorem It.dp {K : PySem.W.Frag} {H : Hp} {v : V} {d : PyData} (h : It K H v d) : Dp K H v d := by
  cases h with
  | non => exact .non
  | bl b => exact .bl b
  | int i => exact .int i
  | str x => exact .str x
  | lst h hd => exact .lst (sq_of h) hd
def ItAll (K : PySem.W.Frag) (H : Hp) (vs : List V) (ds : List PyData) : Prop := Paired (It K H) vs ds
theorem ItAll.ex {K : PySem.W.Frag} {H H' : Hp} (e : Ex H H') : ∀ {vs : List V} {ds : List PyData}, ItAll K H vs ds → ItAll K H' vs ds
  | _, _, .nil => .nil
  | _, _, .cons h t => .cons (h.ex e) (ItAll.ex e t)
theorem ItAll.dp {K : PySem.W.Frag} {H : Hp} : ∀ {vs : List V} {ds : List PyData}, ItAll K H vs ds → DpAll K H vs ds
  | _, _, .nil => .nil
  | _, _, .cons h t => .cons h.dp (ItAll.dp t)
theorem ItAll.app {K : PySem.W.Frag} {H : Hp} : ∀ {vs ws : List V} {ds es : List PyData}, ItAll K H vs ds → ItAll K H ws es → ItAll K H (vs ++ ws) (ds ++ es)
  | _, _, _, _, .nil, q => q
  | _, _, _, _, .cons h t, q => .cons h (ItAll.app t q)
theorem ItAll.len {K : PySem.W.Frag} {H : Hp} {vs : List V} {ds : List PyData} (h : ItAll K H vs ds) : vs.length = ds.length := Paired.length h
theorem ita_ints {K : PySem.W.Frag} {H : Hp} : ∀ ns : List Int, ItAll K H (ns.map V.int) (ns.map PyData.int)
  | [] => .nil
  | n :: r => .cons (.int n) (ita_ints r)
def Fine (ds : List PyData) : Prop := ∀ d ∈ ds, d.canLay0 = true ∧ d.depth ≤ 5
theorem fine_nil : Fine [] := fun d h => by cases h
theorem fine_cons {d : PyData} {ds : List PyData} (h : d.canLay0 = true) (h2 : d.depth ≤ 5) (t : Fine ds) : Fine (d :: ds) := fun x hx => by
  rcases List.mem_cons.mp hx with e | e
  · rw [e]
    exact ⟨h, h2⟩
  · exact t x e
theorem fine_app {ds es : List PyData} (h : Fine ds) (h2 : Fine es) : Fine (ds ++ es) := fun x hx => (List.mem_append.mp hx).elim (h x) (h2 x)
theorem fine_ints : ∀ ns : List Int, Fine (ns.map PyData.int)
  | [] => fine_nil
  | n :: r => fine_cons rfl (Nat.zero_le _) (fine_ints r)
theorem Fine.sub {ds es : List PyData} (h : Fine ds) (s : ∀ x ∈ es, x ∈ ds) : Fine es := fun x hx => h x (s x hx)
theorem Fine.shaped {ds : List PyData} (h : Fine ds) : SeqAt.shaped (.list ds) = true := by
  have : PyData.canLayAll0 ds = true ∧ PyData.depthAll ds ≤ 5 := by
    induction ds with
    | nil => exact ⟨rfl, Nat.zero_le _⟩
    | cons d r ih =>
      obtain ⟨a, b⟩ := ih fun x hx => h x (List.mem_cons_of_mem _ hx)
      obtain ⟨c, e⟩ := h d List.mem_cons_self
      refine ⟨by simp [PyData.canLayAll0, a, c], ?_⟩
      simp [PyData.depthAll]
      omega
  simp [SeqAt.shaped, PyData.canLay0, this.1, PyData.depth]
  omega
inductive Th (K : PySem.W.Frag) (H : Hp) : V → Option (List PyData) → Prop
  | non : Th K H .non none
  | bl (b : Bool) : Th K H (.bl b) none
  | int (i : Int) : Th K H (.int i) none
  | str (x : Str) : Th K H (.str x) none
  | tup {a : Addr} {xs : List V} (h : H a = some (.tup xs)) : Th K H (.ref a) none
  | dct {a : Addr} {kvs : List (Key × V)} (h : H a = some (.dK kvs)) : Th K H (.ref a) none
  | lst {a : Addr} {xs : List V} {ds : List PyData} (h : H a = some (.lst xs)) (hd : ItAll K H xs ds) (hf : Fine ds) : Th K H (.ref a) (some ds)
def AT (K : PySem.W.Frag) (H : Hp) (v : V) : Prop := ∃ o, Th K H v o
section
variable {K : PySem.W.Frag} {σ : L2.St} {H H' : Hp} {te ta tb : TE} {t tr : TA}
theorem Th.ex {v : V} {o : Option (List PyData)} (e : Ex H H') (h : Th K H v o) : Th K H' v o := by
  cases h with
  | non => exact .non
  | bl b => exact .bl b
  | int i => exact .int i
  | str x => exact .str x
  | tup h => exact .tup (e _ _ h)
  | dct h => exact .dct (e _ _ h)
  | lst h hd hf => exact .lst (e _ _ h) (hd.ex e) hf
theorem AT.ex {v : V} (e : Ex H H') (h : AT K H v) : AT K H' v := h.imp fun _ x => x.ex e
def EvTh (K : PySem.W.Frag) (te : TE) (σ : L2.St) (H : Hp) : Prop := ∀ H1, Ex H H1 → ∀ Q : VK, (∀ v H2, Ex H1 H2 → AT K H2 v → Q v H2) → te σ H1 Q
def EvThA (K : PySem.W.Frag) (ta : TA) (σ : L2.St) (H : Hp) (n : Nat) : Prop := ∀ H1, Ex H H1 → ∀ Q : List V → Hp → Prop, (∀ vs H2, Ex H1 H2 → vs.length = n → (∀ v ∈ vs, AT K H2 v) → Q vs H2) → ta σ H1 Q
theorem tha_nil : EvThA K tNil σ H 0 := fun H1 _ _ q => q [] H1 (Ex.refl H1) rfl (by simp)
theorem tha_cons {n : Nat} (h : EvTh K te σ H) (hr : EvThA K tr σ H n) : EvThA K (tCons te tr) σ H (n + 1) := fun H1 e _ q =>
  h H1 e _ fun v H2 e2 hv => hr H2 (e.trans e2) _ fun vs H3 e3 hl hvs => q (v :: vs) H3 (e2.trans e3) (by simp [hl]) fun x hx => by
    rcases List.mem_cons.mp hx with z | z
    · rw [z]
      exact hv.ex e3
    · exact hvs x z
theorem th_non (h : Ev te σ H .non) : EvTh K te σ H := fun H1 e Q q => h H1 e Q fun H2 e2 => q _ H2 e2 ⟨_, .non⟩
theorem th_bl {b : Bool} (h : Ev te σ H (.bl b)) : EvTh K te σ H := fun H1 e Q q => h H1 e Q fun H2 e2 => q _ H2 e2 ⟨_, .bl b⟩
theorem th_int {i : Int} (h : Ev te σ H (.int i)) : EvTh K te σ H := fun H1 e Q q => h H1 e Q fun H2 e2 => q _ H2 e2 ⟨_, .int i⟩
theorem th_str {x : Str} (h : Ev te σ H (.str x)) : EvTh K te σ H := fun H1 e Q q => h H1 e Q fun H2 e2 => q _ H2 e2 ⟨_, .str x⟩
theorem th_U {xs : List V} (h : EvU te σ H xs) : EvTh K te σ H := fun H1 e Q q => h H1 e Q fun p H2 _ e2 h2 => q _ H2 e2 ⟨_, .tup h2⟩
theorem th_L {xs : List V} (h : EvL te σ H xs) (hd : ∃ ds, ItAll K H xs ds ∧ Fine ds) : EvTh K te σ H := fun H1 e Q q => h H1 e Q fun p H2 _ e2 h2 => q _ H2 e2 (by
  obtain ⟨ds, d, f⟩ := hd
  exact ⟨_, .lst h2 (d.ex (e.trans e2)) f⟩)
def EvIA (K : PySem.W.Frag) (ta : TA) (σ : L2.St) (H : Hp) (ds : List PyData) : Prop := ∀ H1, Ex H H1 → ∀ Q : List V → Hp → Prop, (∀ vs H2, Ex H1 H2 → ItAll K H2 vs ds → Q vs H2) → ta σ H1 Q
def EvI (K : PySem.W.Frag) (te : TE) (σ : L2.St) (H : Hp) (d : PyData) : Prop := ∀ H1, Ex H H1 → ∀ Q : VK, (∀ v H2, Ex H1 H2 → It K H2 v d → Q v H2) → te σ H1 Q
theorem ia_nil : EvIA K tNil σ H [] := fun H1 _ _ q => q [] H1 (Ex.refl H1) .nil
theorem ia_cons {d : PyData} {ds : List PyData} (h : EvI K te σ H d) (hr : EvIA K tr σ H ds) : EvIA K (tCons te tr) σ H (d :: ds) := fun H1 e _ q =>
  h H1 e _ fun v H2 e2 dv => hr H2 (e.trans e2) _ fun vs H3 e3 dvs => q (v :: vs) H3 (e2.trans e3) (.cons (dv.ex e3) dvs)
theorem it_of {v : V} {d : PyData} (h : Ev te σ H v) (k : It K H v d) : EvI K te σ H d := fun H1 e Q q => h H1 e Q fun H2 e2 => q v H2 e2 (k.ex (e.trans e2))
theorem it_D {ds : List PyData} (h : EvDA K t σ H ds) (hl : ds.length ≤ 100000) : EvI K (tLst t) σ H (.list ds) := fun H1 e Q q =>
  h H1 e _ fun vs H2 e2 dv => ⟨sz_of (by rw [DpAll.len dv]; exact hl), fun p hp => q _ _ (e2.trans (Ex.new hp)) (.lst upd_same (DpAll.ex (Ex.new hp) ds vs dv))⟩
theorem th_D {ds : List PyData} (h : EvIA K t σ H ds) (hf : Fine ds) (hl : ds.length ≤ 100000) : EvTh K (tLst t) σ H := fun H1 e Q q =>
  h H1 e _ fun vs H2 e2 dv => ⟨sz_of (by rw [dv.len]; exact hl), fun p hp => q _ _ (e2.trans (Ex.new hp)) ⟨_, .lst upd_same (dv.ex (Ex.new hp)) hf⟩⟩
theorem th_var {i : Nat} {v : V} (h : σ[i]? = some (some v)) (hv : AT K H v) : EvTh K (tVar i) σ H := fun H1 e Q q => ⟨v, h, q v H1 (Ex.refl _) (hv.ex e)⟩
theorem th_dnew : EvTh K tDNewK σ H := fun H1 e Q q p hp => q _ _ (Ex.new hp) ⟨_, .dct upd_same⟩
theorem th_disp {x : Str} {i : Int} : EvTh K (tDisp [(tC (.str x), tC (.int i))]) σ H := fun H1 e Q q p hp =>
  ⟨upd_same, [(.inr x, .int i)], rfl, Nat.le_of_ble_eq_true rfl, q _ _ (Ex.mut (Ex.new hp) hp) ⟨_, .dct upd_same⟩⟩
/-- [.., ..] of things: a new list -/
def EvTL (K : PySem.W.Frag) (te : TE) (σ : L2.St) (H : Hp) (n : Nat) : Prop := ∀ H1, Ex H H1 → ∀ Q : VK, (∀ p vs H2, H1 p = none → Ex H1 H2 → H2 p = some (.lst vs) → vs.length = n → (∀ v ∈ vs, AT K H2 v) → Q (.ref p) H2) → te σ H1 Q
theorem tl_lst {n : Nat} (h : EvThA K t σ H n) (hn : n ≤ 100000) : EvTL K (tLst t) σ H n := fun H1 e Q q =>
  h H1 e _ fun vs H2 e2 hl hv => ⟨sz_of (by omega), fun p hp => q p vs _ (fresh_back e2 hp) (e2.trans (Ex.new hp)) upd_same hl fun v z => (hv v z).ex (Ex.new hp)⟩
theorem tl_cat {a : Addr} {xs : List V} {n : Nat} (h : Ev ta σ H (.ref a)) (ha : H a = some (.lst xs)) (hx : ∀ v ∈ xs, AT K H v) (h2 : EvTL K tb σ H n) (hz : xs.length + n ≤ 1000) : EvTL K (tOp rCat ta tb) σ H (xs.length + n) := fun H1 e Q q =>
  h H1 e _ fun H2 e2 => h2 H2 (e.trans e2) _ fun p vs H3 _ e3 h3 hl hv =>
    ⟨a, p, xs, vs, rfl, rfl, e3 a _ (e2 a _ (e a _ ha)), h3, sz_of (by omega), fun l hl' => q l _ _ (fresh_back (e2.trans e3) hl') ((e2.trans e3).trans (Ex.new hl')) upd_same (by rw [List.length_append, hl]) fun v z => by
      rcases List.mem_append.mp z with z | z
      · exact (hx v z).ex (e.trans (e2.trans (e3.trans (Ex.new hl'))))
      · exact (hv v z).ex (Ex.new hl')⟩
/-- x + ys, x an old list -/
theorem el_catO {a : Addr} {xs ys : List V} (h : Ev ta σ H (.ref a)) (ha : H a = some (.lst xs)) (h2 : EvL tb σ H ys) (hz : xs.length + ys.length ≤ 1000) : EvL (tOp rCat ta tb) σ H (xs ++ ys) := fun H1 e Q q =>
  h H1 e _ fun H2 e2 => h2 H2 (e.trans e2) _ fun p H3 _ e3 h3 =>
    ⟨a, p, xs, ys, rfl, rfl, e3 a _ (e2 a _ (e a _ ha)), h3, sz_of (by omega), fun l hl' => q l _ (fresh_back (e2.trans e3) hl') ((e2.trans e3).trans (Ex.new hl')) upd_same⟩
end
/-! ### the type of any thing -/
def kTyp2 (x : V) (H : Hp) (Q : VK) : Prop := ∃ n, (zTyV x H = some n ∨ (n = "dict" ∧ ∃ a kvs, x = .ref a ∧ H a = some (.dK kvs))) ∧ Q (.ty n) H
def rNeTyG : R2 := fun x y H Q => ∃ m n, x = .ty m ∧ y = .ty n ∧ Meta m ∧ Meta n ∧ Q (.bl (!decide (m = n))) H
section
variable {X : Cx} {ta : TE} {a : Expr}
theorem rl_type2 (pins : List (Addr × Obj)) (st : Shared) (σ : L2.St) (H : Hp) (x : V) (u : Value) (Q : VK) (J : Inv X pins σ H st) (r : RelV x u) (h : kTyp2 x H Q) :
    wpAny (model X.prog X.w) X.A (call (.type "type") [u]) (EP X pins σ Q) X.xe st := by
  obtain ⟨n, e | ⟨rfl, a, kvs, rfl, ha⟩, q⟩ := h
  · exact rl_type pins st σ H x u Q J r ⟨n, e, q⟩
  · cases (show u = Value.ref a from r)
    obtain ⟨_, _, vs, _, o, es, ep, h1, h2, _⟩ := (show ObjOk X.prog X.w H st.heap a (.dK kvs) from J.hok a _ ha)
    exact call_type_of (Tx := "dict") ⟨o, h1, h2.1⟩ (by decide +kernel) ⟨.ty "dict", H, J, rfl, q⟩
theorem pe_typeOf2 {p pos : Pos} (hg : Gl X "type") (hm : X.mg "type" = none) (ha : PE X a ta) (na : starEach [a] X.env = (false, eval a X.env) :: starEach [] X.env := by rfl) :
    PE X (.Call (.Name "type" p) [a] [] pos) (tThenZ ta kTyp2) := pe_callTy (call_r1 rl_type2) hg hm (by decide +kernel) (pa_cons ha pa_nil na) (he := na)
theorem op_neTyG (hu : X.A.units + 1 < cLine) : OpR X (compareOp .NotEq) rNeTyG := by
  intro pins st σ H x y v u Q J rx ry h
  obtain ⟨m, n, rfl, rfl, hm, hn, q⟩ := h
  cases (show v = Value.type m from rx)
  cases (show u = Value.type n from ry)
  by_cases e : m = n
  · subst e
    exact ne_type_same hm hu ⟨.bl false, H, J, rfl, by simpa using q⟩
  · exact ne_type_other hm hn (by rw [beq_eq_false_iff_ne]; exact fun z => e (Value.type.inj z)) hu ⟨.bl true, H, J, rfl, by simpa [e] using q⟩
end
section
variable {K : PySem.W.Frag} {σ : L2.St} {H : Hp} {ta tb : TE}
/-- the name of a thing's type -/
theorem th_type {v : V} {o : Option (List PyData)} (h : Th K H v o) : ∃ n, (zTyV v H = some n ∨ (n = "dict" ∧ ∃ a kvs, v = .ref a ∧ H a = some (.dK kvs))) ∧ Meta n ∧ (n = "list" ↔ o.isSome = true) := by
  cases h with
  | non => exact ⟨"NoneType", .inl rfl, PySem.TypeEq.meta_NoneType, by simp⟩
  | bl b => exact ⟨"bool", .inl rfl, PySem.TypeEq.meta_bool, by simp⟩
  | int i => exact ⟨"int", .inl rfl, PySem.TypeEq.meta_int, by simp⟩
  | str x => exact ⟨"str", .inl rfl, PySem.TypeEq.meta_str, by simp⟩
  | tup h => exact ⟨"tuple", .inl (by simp [zTyV, h]), PySem.TypeEq.meta_tuple, by simp⟩
  | dct h => exact ⟨"dict", .inr ⟨rfl, _, _, rfl, h⟩, PySem.TypeEq.meta_dict, by simp⟩
  | lst h _ _ => exact ⟨"list", .inl (by simp [zTyV, h]), PySem.TypeEq.meta_list, by simp⟩
/-- type(v) != list -/
theorem ev_noList {v : V} {o : Option (List PyData)} (h : Ev ta σ H v) (hv : Th K H v o) : Ev (tOp rNeTyG (tThenZ ta kTyp2) (tC (.ty "list"))) σ H (.bl (!o.isSome)) := fun H1 e Q q => h H1 e _ fun H2 e2 => by
  obtain ⟨n, hn, mt, iff⟩ := th_type (hv.ex (e.trans e2))
  refine ⟨n, hn, n, "list", rfl, rfl, mt, PySem.TypeEq.meta_list, ?_⟩
  have : decide (n = "list") = o.isSome := by
    rw [Bool.eq_iff_iff, decide_eq_true_iff]
    exact iff
  rw [this]
  exact q H2 e2
theorem th_is {v : V} {o : Option (List PyData)} (h : Th K H v o) : ∃ n, TyX K H v (.type n) ∧ PySem.W.kitOne K (.type n) (.type "list") = some o.isSome := by
  cases h with
  | non => exact ⟨_, .base .non, rfl⟩
  | bl b => exact ⟨_, .base (.bl b), rfl⟩
  | int i => exact ⟨_, .base (.int i), rfl⟩
  | str x => exact ⟨_, .base (.str x), rfl⟩
  | tup h => exact ⟨_, .base (.tup h), rfl⟩
  | dct h => exact ⟨_, .base (.dK h), rfl⟩
  | lst h _ _ => exact ⟨_, .base (.lst h), rfl⟩
/-- isinstance(v, list) -/
theorem ev_isList {v : V} {o : Option (List PyData)} (h : Ev ta σ H v) (hv : Th K H v o) : Ev (tCB (rIsi K) (tCons ta (tCons (tC (.ty "list")) tNil))) σ H (.bl o.isSome) := fun H1 e Q q => h H1 e _ fun H2 e2 => by
  obtain ⟨n, ht, hk⟩ := th_is (hv.ex (e.trans e2))
  exact ⟨v, .ty "list", .type n, .type "list", o.isSome, rfl, .ty "list", ht, hk, q H2 e2⟩
def isI : PyData → Bool
  | .int _ => true
  | _ => false
theorem it_type {v : V} {d : PyData} (h : It K H v d) : ∃ n, zTyV v H = some n ∧ Meta n ∧ decide (n = "int") = isI d := by
  cases h with
  | non => exact ⟨"NoneType", rfl, PySem.TypeEq.meta_NoneType, by simp [isI]⟩
  | bl b => exact ⟨"bool", rfl, PySem.TypeEq.meta_bool, by simp [isI]⟩
  | int i => exact ⟨"int", rfl, PySem.TypeEq.meta_int, by simp [isI]⟩
  | str x => exact ⟨"str", rfl, PySem.TypeEq.meta_str, by simp [isI]⟩
  | lst h _ => exact ⟨"list", by simp [zTyV, h], PySem.TypeEq.meta_list, by simp [isI]⟩
/-- type(v) == int -/
theorem ev_isWhole {v : V} {d : PyData} (h : Ev ta σ H v) (hv : It K H v d) : Ev (tOp rEqTy (tThenZ ta kTyp) (tC (.ty "int"))) σ H (.bl (isI d)) := fun H1 e Q q => h H1 e _ fun H2 e2 => by
  obtain ⟨n, hn, mt, iff⟩ := it_type (hv.ex (e.trans e2))
  refine ⟨n, hn, n, "int", rfl, rfl, mt, PySem.TypeEq.meta_int, ?_⟩
  rw [iff]
  exact q H2 e2
def isB : PyData → Bool
  | .bool _ => true
  | _ => false
theorem it_isB {v : V} {d : PyData} (h : It K H v d) : ∃ n, TyX K H v (.type n) ∧ PySem.W.kitOne K (.type n) (.type "bool") = some (isB d) := by
  cases h with
  | non => exact ⟨_, .base .non, rfl⟩
  | bl b => exact ⟨_, .base (.bl b), rfl⟩
  | int i => exact ⟨_, .base (.int i), rfl⟩
  | str x => exact ⟨_, .base (.str x), rfl⟩
  | lst h _ => exact ⟨_, .base (.lst h), rfl⟩
theorem it_isI {v : V} {d : PyData} (h : It K H v d) : ∃ n, TyX K H v (.type n) ∧ PySem.W.kitOne K (.type n) (.type "int") = some (isI d || isB d) := by
  cases h with
  | non => exact ⟨_, .base .non, rfl⟩
  | bl b => exact ⟨_, .base (.bl b), rfl⟩
  | int i => exact ⟨_, .base (.int i), rfl⟩
  | str x => exact ⟨_, .base (.str x), rfl⟩
  | lst h _ => exact ⟨_, .base (.lst h), rfl⟩
/-- isinstance(v, bool) or not isinstance(v, int) -/
theorem et_noInt {v : V} {d : PyData} (h : Ev ta σ H v) (hv : It K H v d) : EvT (tOr (tB (tCB (rIsi K) (tCons ta (tCons (tC (.ty "bool")) tNil)))) (tNot (tB (tCB (rIsi K) (tCons ta (tCons (tC (.ty "int")) tNil)))))) σ H (!isI d) := by
  have one : Ev (tCB (rIsi K) (tCons ta (tCons (tC (.ty "bool")) tNil))) σ H (.bl (isB d)) := fun H1 e Q q => h H1 e _ fun H2 e2 => by
    obtain ⟨n, ht, hb⟩ := it_isB (hv.ex (e.trans e2))
    exact ⟨v, .ty "bool", _, .type "bool", _, rfl, .ty "bool", ht, hb, q H2 e2⟩
  have two : Ev (tCB (rIsi K) (tCons ta (tCons (tC (.ty "int")) tNil))) σ H (.bl (isI d || isB d)) := fun H1 e Q q => h H1 e _ fun H2 e2 => by
    obtain ⟨n, ht, hb⟩ := it_isI (hv.ex (e.trans e2))
    exact ⟨v, .ty "int", _, .type "int", _, rfl, .ty "int", ht, hb, q H2 e2⟩
  refine et_is (et_or (et_B one) fun _ => et_not (et_B two)) ?_
  cases d <;> rfl
end
/-! tuple(range(a, b, c)) -/
def tTupRgC (te : L2.St → Hp → (Int → Int → Int → Hp → Prop) → Prop) : TE := fun σ H Q => te σ H fun a b c H1 => ∃ n : Nat, (Builtin.Range.small a b c = true ∧ Builtin.Range.rangeSize a b c = n ∧ n ≤ 2 ^ 24) ∧ ∀ q, H1 q = none → Q (.ref q) (upd H1 q (.tup (rgC a c n)))
theorem pe_tupRgC {X : Cx} {e : Expr} {te : L2.St → Hp → (Int → Int → Int → Hp → Prop) → Prop} {p pos : Pos} (calm : X.calm = true) (hg : Gl X "tuple") (hm : X.mg "tuple" = none) (he : PRgC X e te) (na : starEach [e] X.env = (false, eval e X.env) :: starEach [] X.env := by rfl) : PE X (.Call (.Name "tuple" p) [e] [] pos) (tTupRgC te) := by
  refine ⟨fun pins st σ H Q J h => ?_⟩
  refine Call_ (ld_blt J hg hm boot_tuple (PyProof.Rows.callWith_type1 (args_cons (thn (he pins st σ H _ J h) fun x s1 ⟨r, a, b, c, t, u, v, H1, ex, hr, J1, n, ⟨o1, o2, o3⟩, q⟩ => args_nil ?_) na) na))
  subst ex
  refine call_tuple_range (n := n) (J1.ok.hd calm) hr o1 o2 o3 fun h' tk acc keep its => ?_
  have J2 : Inv X pins σ H1 { s1 with heap := h', toks := tk } := J1.kept keep
  refine ⟨.ref h'.objs.size, upd H1 h'.objs.size (.tup (rgC a c n)), J2.laid (t' := tk) (fun z o e => Heap.get?_push_of_some _ e) (Nat.le_refl _) (show ObjOk X.prog X.w _ _ _ (.tup (rgC a c n)) from ⟨?_, acc.toList, vals_rgC its, ?_⟩), rfl, q _ (J2.hok.fresh (Nat.le_refl _))⟩
  · unfold rgC
    rw [List.length_map, List.length_range, sizeLine_eq]
    omega
  · rw [Array.toArray_toList]
    exact IsTup.new _ _
theorem eu_down {σ : L2.St} {H : Hp} {ta : TA} {i j : Int} (h : EvA ta σ H [.int i, .int j, .int (-1)]) (hi : 0 ≤ i ∧ i ≤ 1000) (hj : -1 ≤ j ∧ j ≤ 1000) : EvU (tTupRgC (tRg3 ta)) σ H (rgC i (-1) (i - j).toNat) := fun H1 e Q q =>
  h H1 e _ fun H2 e2 => ⟨i, j, -1, rfl, ⟨by decide, by decide⟩, (i - j).toNat, ⟨(RgC.neg (by omega) (by omega) (by omega) (by omega)).2.2.1, (RgC.neg (by omega) (by omega) (by omega) (by omega)).2.2.2, by omega⟩, fun l hl => q l _ (fresh_back e2 hl) (e2.trans (Ex.new hl)) upd_same⟩
/-! xs.index(x) where the written part must be said -/
theorem pe_indexK {X : Cx} {K : PySem.W.Frag} {o e : Expr} {to te : TE} {apos cpos : Pos} (hK : X.K = K) (ho : PE X o to) (he : PE X e te) (b : attributeBase o "index" X.env (eval o X.env) = eval o X.env := by rfl)
    (few : ((backTo cpos (starEach [e] X.env)).all (fun x => !x.1) && (backToKw cpos (keywordEach [] X.env)).all (fun x => x.1.isSome) && decide ([e].length + ([] : List Keyword).length + (if ([] : List Keyword).isEmpty then 0 else 1) < 30)) = true := by rfl)
    (line : (apos.endLine == cpos.line) = true := by rfl) (st : starEach [e] X.env = (false, eval e X.env) :: starEach [] X.env := by rfl) (pl : (backTo cpos (starEach [] X.env)).any (·.1) = false := by rfl) :
    PE X (.Call (.Attribute o "index" apos) [e] [] cpos) (tBM K "list" (rIndex K) to (tCons te tNil)) := by
  subst hK
  exact pe_bm PySem.F.plainAttrs_list PySem.F.slot_list_index PySem.F.type_list_index mt_index ho (pa_cons he pa_nil st) b few line st pl
theorem pe_revLK {X : Cx} {K : PySem.W.Frag} {e : Expr} {te : TE} {k : Nat} {p1 p2 p3 pos : Pos} (hK : X.K = K) (he : PE X e te) : PE X (.Subscript e (.Slice none none (some (.UnaryOp .USub (.Constant (.int 1) k p1) p2)) p3) pos) (tRevL K te) := by
  subst hK
  exact pe_revL he
end Kit

set_option Elab.async false
set_option linter.all false
set_option maxRecDepth 100000
set_option maxHeartbeats 4000000
namespace Kit
open PySem PySem.Spec PyProof.Rows L2 Evl
/-! ### data that repr shows, with long ints: at most n signs -/
structure ShN (d : PyData) (n : Nat) : Prop where
  shw : d.showable = true
  nod : d.hasDict = false
  len : d.shown.length ≤ n
  dep : d.depth ≤ 20
theorem shn_int {i : Int} (h : i.natAbs.log2 < 1920) : ShN (.int i) 1921 := ⟨decide_eq_true h, rfl, int_text_len_1921 h, Nat.zero_le _⟩
theorem shn_int2 {i : Int} (h : i.natAbs < 2 ^ 1900) : ShN (.int i) 1921 := shn_int (by
  by_cases z : i.natAbs = 0
  · rw [z]
    decide
  · exact Nat.lt_of_lt_of_le ((Nat.log2_lt z).mpr h) (by decide))
theorem shn_all {n : Nat} : ∀ {ds : List PyData}, (∀ d ∈ ds, ShN d n ∧ d.depth ≤ 19) → PyData.showableAll ds = true ∧ PyData.hasDictAll ds = false ∧ ((PyData.shownAll ds).map (·.length)).sum ≤ n * ds.length ∧ (PyData.shownAll ds).length = ds.length ∧ PyData.depthAll ds ≤ 19
  | [], _ => ⟨rfl, rfl, Nat.zero_le _, rfl, Nat.zero_le _⟩
  | d :: r, h => by
    obtain ⟨a, b, c, e, f⟩ := shn_all fun x hx => h x (List.mem_cons_of_mem _ hx)
    obtain ⟨⟨p, q, s, _⟩, t⟩ := h d List.mem_cons_self
    refine ⟨by simp [PyData.showableAll, a, p], by simp [PyData.hasDictAll, b, q], ?_, by simp [PyData.shownAll, e], by simp only [PyData.depthAll]; omega⟩
    simp only [PyData.shownAll, List.map_cons, List.sum_cons, List.length_cons, Nat.mul_succ]
    omega
theorem shn_list {ds : List PyData} {n : Nat} (h : ∀ d ∈ ds, ShN d n ∧ d.depth ≤ 19) : ShN (.list ds) ((n + 2) * ds.length + 3) := by
  obtain ⟨a, b, c, e, f⟩ := shn_all h
  refine ⟨by simpa [PyData.showable] using a, by simpa [PyData.hasDict] using b, ?_, by simp only [PyData.depth]; omega⟩
  have := listText_len_le (PyData.shownAll ds)
  show (listText (PyData.shownAll ds)).length ≤ _
  rw [e] at this
  rw [Nat.add_mul]
  omega
theorem shn_tup {ds : List PyData} {n : Nat} (h : ∀ d ∈ ds, ShN d n ∧ d.depth ≤ 19) : ShN (.tuple ds) ((n + 2) * ds.length + 3) := by
  obtain ⟨a, b, c, e, f⟩ := shn_all h
  refine ⟨by simpa [PyData.showable] using a, by simpa [PyData.hasDict] using b, ?_, by simp only [PyData.depth]; omega⟩
  have := tupleText_len_le (PyData.shownAll ds)
  show (tupleText (PyData.shownAll ds)).length ≤ _
  rw [e] at this
  rw [Nat.add_mul]
  omega
section
variable {K : PySem.W.Frag} {σ : L2.St} {H : Hp} {te : TE}
theorem ev_reprN {d : PyData} {n : Nat} (h : EvD K te σ H d) (hl : isDisplay d = true) (s : ShN d n) (hn : n ≤ 1000000) : Ev (tCB (rRepr K) (tCons te tNil)) σ H (.str d.shown) :=
  ev_repr h hl s.shw s.nod (by have := s.dep; omega) (Nat.le_trans s.len (Nat.le_trans hn (by rw [sizeLine_eq]; decide)))
end
end Kit

set_option Elab.async false
set_option linter.all false
set_option maxRecDepth 100000
set_option maxHeartbeats 4000000
namespace Kit
open PySem PySem.Spec PyProof.Rows L2 Evl
section
variable {K : PySem.W.Frag} {σ : L2.St} {H : Hp} {ta tb te : TE} {t : TT}
/-- max(xs), told by what it is -/
theorem ev_maxV {a : Addr} {ns : List Int} {m : Int} (h : Ev ta σ H (.ref a)) (ha : SqL K H a (ns.map V.int)) (hm : m ∈ ns) (hl : ∀ y ∈ ns, y ≤ m) : Ev (tCB (rMax K) (tCons ta tNil)) σ H (.int m) := fun H1 e Q q =>
  h H1 e _ fun H2 e2 => ⟨a, ns, rfl, ex_l (e.trans e2) ha, List.length_pos_of_mem hm, fun m' hm' hl' => by
    have h1 := hl m' hm'
    have h2 := hl' m hm
    have : m' = m := by omega
    rw [this]
    exact q H2 e2⟩
/-- [e for i, x in enumerate(xs) if t] -/
theorem el_en {ta : TA} {i j : Nat} {vs : List Nat} {a : Addr} {xs : List V} (f : Nat → Bool) (v : Nat → V) (h : EvA ta σ H [.ref a]) (hx : SqL K H a xs) (hz : xs.length ≤ 40000) (hw : ∀ x y, wipe (((wipe σ vs).set i (some x)).set j (some y)) vs = wipe σ vs)
    (ht : ∀ (n : Nat) x H1, Ex H H1 → xs[n]? = some x → EvT t (((wipe σ vs).set i (some (.int (n : Int)))).set j (some x)) H1 (f n))
    (he : ∀ (n : Nat) x H1, Ex H H1 → xs[n]? = some x → f n = true → Ev te (((wipe σ vs).set i (some (.int (n : Int)))).set j (some x)) H1 (v n)) :
    EvL (tLc (iEnum K ta) (gTup K 2 (gCons (gName i) (gCons (gName j) gNil))) t te vs) σ H (given xs.length f v) := fun H0 e Q q => h H0 e _ fun H1 e1 => ⟨a, xs, rfl, ex_l (e.trans e1) hx, fun Dl hD => by
  refine lc_it walk_enum (Cw H1 f v Dl) ⟨hD, Ex.new hD, upd_same⟩ (fun n H' _ p => ex_l ((e.trans e1).trans p.2.1) hx) ?_ fun H' p => q Dl H' (fresh_back e1 p.1) (e1.trans p.2.1) p.2.2
  rintro n w Hh H' hn p ⟨T, x, y, rfl, nT, rfl, g1, g2⟩
  have ex : V.int (n : Nat) = x := Option.some.inj g1
  subst ex
  have eT : Ex Hh (upd Hh T (.tup [.int (n : Nat), y])) := Ex.new nT
  refine ⟨T, [.int (n : Nat), y], rfl, st_of upd_same, rfl, _, [y], rfl, y, [], rfl, rfl, hw _ y, ?_⟩
  exact cw_turn (H := H1) ⟨p.1, p.2.1.trans eT, eT Dl _ p.2.2⟩ (by omega) (ht n y H1 (e.trans e1) g2) fun hf => he n y H1 (e.trans e1) g2 hf⟩
/-- [e for x, y in zip(xs, ys)], both new lists -/
theorem el_zipN {i j : Nat} {vs : List Nat} {xs ys : List V} (F : V → V → V) (h : EvL ta σ H xs) (h2 : EvL tb σ H ys) (hl : xs.length = ys.length) (hz : xs.length ≤ 40000) (hw : ∀ x y, wipe (((wipe σ vs).set i (some x)).set j (some y)) vs = wipe σ vs)
    (he : ∀ (n : Nat) x y H1, Ex H H1 → xs[n]? = some x → ys[n]? = some y → Ev te (((wipe σ vs).set i (some x)).set j (some y)) H1 (F x y)) :
    EvL (tLc (iZip K (tCons ta (tCons tb tNil))) (gTup K 2 (gCons (gName i) (gCons (gName j) gNil))) tYes te vs) σ H (List.zipWith F xs ys) := fun H0 e Q q =>
  h H0 e _ fun a H1 na e1 ha => h2 H1 (e.trans e1) _ fun b H2 nb e2 hb => by
    have := el_zip (K := K) (H := H2) (ta := fun _ H' R => R [.ref a, .ref b] H') (te := te) (vs := vs) F (fun H3 _ Q q => q H3 (Ex.refl _)) (sq_of (e2 a _ ha)) (sq_of hb) hl hz hw fun n x y H3 e3 g1 g2 => he n x y H3 (e.trans (e1.trans (e2.trans e3))) g1 g2
    exact this H2 (Ex.refl _) Q fun p H3 hp e3 h3 => q p H3 (fresh_back (e1.trans e2) hp) (e1.trans (e2.trans e3)) h3
/-- xs + y, y an old list; x + ys, x an old list -/
theorem el_catR {a : Addr} {xs ys : List V} (h : EvL ta σ H xs) (h2 : Ev tb σ H (.ref a)) (ha : H a = some (.lst ys)) (hz : xs.length + ys.length ≤ 1000) : EvL (tOp rCat ta tb) σ H (xs ++ ys) := fun H1 e Q q =>
  h H1 e _ fun p H2 _ e2 h3 => h2 H2 (e.trans e2) _ fun H3 e3 => ⟨p, a, xs, ys, rfl, rfl, e3 p _ h3, e3 a _ (e2 a _ (e a _ ha)), sz_of (by omega), fun l hl => q l _ (fresh_back (e2.trans e3) hl) ((e2.trans e3).trans (Ex.new hl)) upd_same⟩
theorem el_catL {a : Addr} {xs ys : List V} (h : Ev ta σ H (.ref a)) (ha : H a = some (.lst xs)) (h2 : EvL tb σ H ys) (hz : xs.length + ys.length ≤ 1000) : EvL (tOp rCat ta tb) σ H (xs ++ ys) := fun H1 e Q q =>
  h H1 e _ fun H2 e2 => h2 H2 (e.trans e2) _ fun p H3 _ e3 h3 => ⟨a, p, xs, ys, rfl, rfl, e3 a _ (e2 a _ (e a _ ha)), h3, sz_of (by omega), fun l hl => q l _ (fresh_back (e2.trans e3) hl) ((e2.trans e3).trans (Ex.new hl)) upd_same⟩
end
end Kit

set_option Elab.async false
set_option linter.all false
set_option maxRecDepth 100000
namespace Kit
open PySem PySem.Spec PyProof.Rows L2 Evl
def fac (n : Nat) : Nat := Builtin.Math.factorialNat n
theorem fac_succ (n : Nat) : fac (n + 1) = fac n * (n + 1) := PySem.W.mc_fac_succ n
theorem fac_pos (n : Nat) : 1 ≤ fac n := PySem.W.mc_fac_pos n
theorem fac_mono : ∀ {m n : Nat}, m ≤ n → fac m ≤ fac n := fun {m n} h => by
  induction h with
  | refl => exact Nat.le_refl _
  | step _ ih =>
    rw [Nat.succ_eq_add_one, fac_succ]
    exact Nat.le_trans ih (Nat.le_mul_of_pos_right _ (Nat.succ_pos _))
theorem fac20 : fac 20 < 2 ^ 64 := by decide +kernel
def rFac : List V → Hp → VK → Prop := fun vs H Q => ∃ n : Nat, vs = [.int (n : Int)] ∧ n ≤ 20000 ∧ Q (.int ((fac n : Nat) : Int)) H
section
variable {X : Cx}
theorem cr_factorial : CallR X (.builtin "math.factorial") rFac := by
  intro pins s σ H vs us Q I r h
  obtain ⟨n, rfl, hn, q⟩ := h
  cases r with
  | cons ru rt =>
    cases rt
    obtain ⟨t, rfl⟩ := ru
    refine PySem.W.mc_factorial (Int.natCast_nonneg n) (by omega) fun _ => ?_
    rw [Int.toNat_natCast]
    exact ⟨.int _, H, I.tok _, ⟨_, rfl⟩, q⟩
def rDivmod : List V → Hp → VK → Prop := fun xs H Q => ∃ i j, xs = [.int i, .int j] ∧ CDivP i j ∧ ∀ p, H p = none → Q (.ref p) (upd H p (.tup [.int (i / j), .int (i % j)]))
theorem call_divmodR : CallR X (.builtin "divmod") rDivmod := call_divmodW
end
section
variable {K : PySem.W.Frag} {σ : L2.St} {H : Hp} {ta tb te tl : TE} {D : Ends} {tu tz : TS}
theorem ev_fac {n : Nat} (h : Ev ta σ H (.int (n : Int))) (hn : n ≤ 20000) : Ev (tCB rFac (tCons ta tNil)) σ H (.int ((fac n : Nat) : Int)) := fun H1 e Q q => h H1 e _ fun H2 e2 => ⟨n, rfl, hn, q H2 e2⟩
theorem divp_small {i j : Int} (h : 0 < j) (hj : j.natAbs < 2 ^ 8000) : CDivP i j := ⟨h, PyProof.noPylong_of_log2 (by
  have h2 := (Nat.log2_lt (n := j.natAbs) (k := 8000) (by omega)).mpr hj
  omega)⟩
theorem eu_divmod {a b : Nat} (h : Ev ta σ H (.int (a : Int))) (h2 : Ev tb σ H (.int (b : Int))) (hb : 0 < b) (hb2 : b < 2 ^ 8000) : EvU (tCB rDivmod (tCons ta (tCons tb tNil))) σ H [.int ((a / b : Nat) : Int), .int ((a % b : Nat) : Int)] := fun H1 e Q q =>
  h H1 e _ fun H2 e2 => h2 H2 (e.trans e2) _ fun H3 e3 => ⟨a, b, rfl, divp_small (by omega) (by rw [Int.natAbs_natCast]; exact hb2), fun p hp => q p _ (fresh_back (e2.trans e3) hp) ((e2.trans e3).trans (Ex.new hp)) (by rw [upd_same, Int.natCast_ediv, Int.natCast_emod])⟩
end
end Kit

set_option Elab.async false
set_option linter.all false
set_option maxRecDepth 100000
set_option maxHeartbeats 4000000
namespace Kit
open PySem PySem.Spec PyProof.Rows L2 Evl
section
variable {K : PySem.W.Frag} {σ : L2.St} {H : Hp} {ta tb te tl : TE} {D : Ends} {tu tz : TS} {t : TT}
/-- for i in reversed(range(n)) -/
theorem s_forRev {j n : Nat} (h : Ev ta σ H (.int (n : Int))) (hn : n ≤ 40000) (Pv : Nat → L2.St → Hp → Prop) (h0 : ∀ H1, Ex H H1 → Pv 0 σ H1)
    (hs : ∀ (i : Nat) σ' H', i < n → Pv i σ' H' → tu { D with nx := Pv (i + 1), ct := Pv (i + 1), bk := D.nx } (σ'.set j (some (.int ((n - 1 - i : Nat) : Int)))) H') (hd : ∀ σ' H', Pv n σ' H' → D.nx σ' H') : tFor (iRevR (tRg1 ta)) (gName j) tu D σ H :=
  h H (Ex.refl H) _ fun H1 e => ⟨n, rfl, by
    have e0 : ((n : Int) - 0).toNat = n := by omega
    refine ⟨by omega, by omega, by omega, by omega, ?_⟩
    rw [e0]
    exact for_rangeC Pv (h0 H1 e) (fun i σ' H' hi p => by
      have e1 : (0 : Int) + (n : Int) - 1 + (i : Nat) * (-1) = ((n - 1 - i : Nat) : Int) := by omega
      rw [e1]
      exact hs i σ' H' hi p) hd⟩
theorem q_forRev {j n : Nat} (h : Ev ta σ H (.int (n : Int))) (hn : n ≤ 40000) (Pv : Nat → L2.St → Hp → Prop) (h0 : ∀ H1, Ex H H1 → Pv 0 σ H1)
    (hs : ∀ (i : Nat) σ' H', i < n → Pv i σ' H' → tu { D with nx := Pv (i + 1), ct := Pv (i + 1), bk := tz D } (σ'.set j (some (.int ((n - 1 - i : Nat) : Int)))) H') (hd : ∀ σ' H', Pv n σ' H' → tz D σ' H') : tSeq (tFor (iRevR (tRg1 ta)) (gName j) tu) tz D σ H := s_forRev (D := { D with nx := tz D }) h hn Pv h0 hs hd
/-- [a new tuple for i in range(lo, n)] -/
theorem elt_R2 {ta : TA} {j : Nat} {vs : List Nat} {lo n : Int} (f : Nat → List V) (h : EvA ta σ H [.int lo, .int n]) (hn : 0 ≤ lo ∧ lo ≤ 40000 ∧ -40000 ≤ n ∧ n ≤ 40000) (hw : ∀ x, wipe ((wipe σ vs).set j (some x)) vs = wipe σ vs)
    (he : ∀ (i : Nat) H1, Ex H H1 → lo + (i : Int) < n → EvU te ((wipe σ vs).set j (some (.int (lo + (i : Int))))) H1 (f i)) : EvLT (tLc (iRng2 ta) (gName j) tYes te vs) σ H ((List.range (n - lo).toNat).map f) := fun H0 e Q q => h H0 e _ fun H1 e1 => ⟨lo, n, rfl, ⟨by omega, by omega, by omega, by omega⟩, fun Dl hD =>
  lc_range (lo := lo) (n := (n - lo).toNat) (fun i H' => Ex H1 H' ∧ ∃ ws, H' Dl = some (.lst ws) ∧ TL H' ws ((List.range i).map f)) ⟨Ex.new hD, [], upd_same, .nil⟩ (fun i H' hi p => by
    obtain ⟨p1, ws, p2, p3⟩ := p
    show wipe ((wipe σ vs).set j (some (.int (lo + (i : Int))))) vs = wipe σ vs ∧ te ((wipe σ vs).set j (some (.int (lo + (i : Int))))) H' fun y H4 => ∃ acc, H4 Dl = some (.lst acc) ∧ acc.length < sizeLine ∧ _
    refine ⟨hw _, he i H1 (e.trans e1) (by omega) H' p1 _ fun p H4 hp e4 h4 => ⟨ws, e4 Dl _ p2, sz_lt (by
      have := p3.len
      simp at this
      omega), Ex.mut (p1.trans e4) hD, ws ++ [.ref p], upd_same, ?_⟩⟩
    rw [List.range_succ, List.map_append]
    exact ((p3.ex e4).app ⟨p, rfl, h4⟩).upd (e4 Dl _ p2)) (fun H' p => by
      obtain ⟨p1, ws, p2, p3⟩ := p
      exact q Dl ws H' (fresh_back e1 hD) (e1.trans p1) p2 p3)⟩
end
end Kit

set_option Elab.async false
set_option linter.all false
set_option maxRecDepth 100000
set_option maxHeartbeats 4000000
namespace Kit
open PySem PySem.Spec PyProof.Rows L2 Evl
/-! ### choosing -/
def cho : Nat → Nat → Nat
  | _, 0 => 1
  | 0, _ + 1 => 0
  | n + 1, k + 1 => cho n k + cho n (k + 1)
theorem fac_zero : fac 0 = 1 := rfl
theorem cho_zero (n : Nat) : cho n 0 = 1 := by cases n <;> rfl
theorem cho_gt : ∀ {n k : Nat}, n < k → cho n k = 0
  | 0, _ + 1, _ => rfl
  | n + 1, k + 1, h => by
    show cho n k + cho n (k + 1) = 0
    rw [cho_gt (by omega : n < k), cho_gt (by omega : n < k + 1)]
theorem cho_self : ∀ n : Nat, cho n n = 1
  | 0 => rfl
  | n + 1 => by
    show cho n n + cho n (n + 1) = 1
    rw [cho_self n, cho_gt (Nat.lt_succ_self n)]
theorem cho_next : ∀ n k : Nat, cho n (k + 1) * (k + 1) = cho n k * (n - k)
  | 0, k => by
    rw [Nat.zero_sub, Nat.mul_zero]
    show 0 * (k + 1) = 0
    rw [Nat.zero_mul]
  | n + 1, 0 => by
    have a := cho_next n 0
    show (cho n 0 + cho n 1) * (0 + 1) = cho (n + 1) 0 * (n + 1 - 0)
    rw [cho_zero, cho_zero] at *
    simp only [Nat.zero_add, Nat.mul_one, Nat.sub_zero, Nat.one_mul] at *
    omega
  | n + 1, k + 1 => by
    have a := cho_next n (k + 1)
    have b := cho_next n k
    show (cho n (k + 1) + cho n (k + 2)) * (k + 1 + 1) = (cho n k + cho n (k + 1)) * (n + 1 - (k + 1))
    rcases Nat.lt_or_ge k n with h | h
    · obtain ⟨d, rfl⟩ : ∃ d, n = k + 1 + d := ⟨n - (k + 1), by omega⟩
      rw [show k + 1 + d - (k + 1) = d by omega] at a
      rw [show k + 1 + d - k = d + 1 by omega] at b
      rw [show k + 1 + d + 1 - (k + 1) = d + 1 by omega]
      generalize cho (k + 1 + d) (k + 1) = x at *
      generalize cho (k + 1 + d) k = y at *
      generalize cho (k + 1 + d) (k + 1 + 1) = z at *
      grind
    · rw [show n + 1 - (k + 1) = 0 by omega, cho_gt (by omega : n < k + 1), cho_gt (by omega : n < k + 2)]
      simp
/-- k of n: n! = C(n, k) k! (n - k)! -/
theorem cho_fac : ∀ {n k : Nat}, k ≤ n → cho n k * (fac k * fac (n - k)) = fac n
  | n, 0, _ => by
    rw [cho_zero, Nat.sub_zero]
    rw [fac_zero]
    omega
  | n, k + 1, h => by
    have ih := cho_fac (n := n) (k := k) (by omega)
    have a := cho_next n k
    rw [show n - k = (n - (k + 1)) + 1 by omega, fac_succ] at ih
    rw [show n - k = n - (k + 1) + 1 by omega] at a
    rw [fac_succ]
    generalize fac (n - (k + 1)) = y at *
    generalize fac n = v at *
    generalize cho n (k + 1) = z at *
    generalize cho n k = x at *
    generalize fac k = u at *
    generalize n - (k + 1) = d at *
    have e : z * (u * (k + 1) * y) = z * (k + 1) * (u * y) := by grind
    rw [e, a, ← ih]
    grind
theorem cho_pos {n k : Nat} (h : k ≤ n) : 1 ≤ cho n k := by
  have a := cho_fac h
  have b := fac_pos n
  rcases Nat.eq_zero_or_pos (cho n k) with z | z
  · rw [z, Nat.zero_mul] at a
    omega
  · exact z
theorem cho_le : ∀ n k : Nat, cho n k ≤ 2 ^ n
  | n, 0 => by rw [cho_zero]; exact Nat.one_le_two_pow
  | 0, _ + 1 => Nat.zero_le _
  | n + 1, k + 1 => by
    have a := cho_le n k
    have b := cho_le n (k + 1)
    rw [Nat.pow_succ]
    show cho n k + cho n (k + 1) ≤ _
    omega
theorem fp_fac (n : Nat) : ∀ k : Nat, k ≤ n → Builtin.Math.fallingProduct (n : Int) k * (fac (n - k) : Int) = (fac n : Int)
  | 0, _ => by
    rw [PySem.W.mc_fp_zero, Nat.sub_zero, Int.one_mul]
  | k + 1, h => by
    have ih := fp_fac n k (by omega)
    rw [show n - k = n - (k + 1) + 1 by omega, fac_succ] at ih
    rw [PySem.W.mc_fp_succ, ← ih, show (n : Int) - (k : Int) = ((n - (k + 1) + 1 : Nat) : Int) by omega]
    push_cast
    generalize (fac (n - (k + 1)) : Int) = x
    generalize Builtin.Math.fallingProduct (n : Int) k = y
    grind
theorem fp_self (n : Nat) : Builtin.Math.fallingProduct (n : Int) n = (fac n : Int) := by
  have := fp_fac n n (Nat.le_refl _)
  rw [Nat.sub_self, fac_zero] at this
  simpa using this
theorem cho_sym {n k : Nat} (h : k ≤ n) : cho n k = cho n (n - k) := by
  have a := cho_fac h
  have b := cho_fac (n := n) (k := n - k) (by omega)
  rw [show n - (n - k) = k by omega, Nat.mul_comm (fac (n - k))] at b
  have p : 0 < fac k * fac (n - k) := Nat.mul_pos (fac_pos _) (fac_pos _)
  exact Nat.eq_of_mul_eq_mul_right p (a.trans b.symm)
theorem comb_cho (n k : Nat) : PySem.W.mcComb (n : Int) (k : Int) = (cho n k : Int) := by
  by_cases h : k ≤ n
  · have key : ∀ m : Nat, m ≤ n → Builtin.Math.fallingProduct (n : Int) m / Builtin.Math.fallingProduct (m : Int) m = (cho n m : Int) := fun m hm => by
      have a := fp_fac n m hm
      have b := cho_fac hm
      have f := fac_pos m
      have g := fac_pos (n - m)
      rw [fp_self]
      have e : Builtin.Math.fallingProduct (n : Int) m = (cho n m : Int) * (fac m : Int) := by
        refine Int.eq_of_mul_eq_mul_right (a := (fac (n - m) : Int)) (by omega) ?_
        rw [a, ← b]
        push_cast
        grind
      rw [e]
      exact Int.mul_ediv_cancel _ (by omega)
    rw [PySem.W.mcComb_at (m := ((min k (n - k) : Nat) : Int)) (by omega) (by omega) (by omega), Int.toNat_natCast, key _ (by omega)]
    rcases Nat.le_total k (n - k) with q | q
    · rw [Nat.min_eq_left q]
    · rw [Nat.min_eq_right q, ← cho_sym h]
  · rw [PySem.W.mcComb_above (by omega), cho_gt (by omega)]
    rfl
def prm (n k : Nat) : Int := PySem.W.mcPerm (n : Int) (k : Int)
theorem prm_fac {n k : Nat} (h : k ≤ n) : prm n k * (fac (n - k) : Int) = (fac n : Int) := by
  unfold prm
  rw [PySem.W.mcPerm_at (by omega), Int.toNat_natCast]
  exact fp_fac n k h
theorem prm_pos {n k : Nat} (h : k ≤ n) : 1 ≤ prm n k := PySem.W.mcPerm_pos (by omega) (by omega)
def rComb : List V → Hp → VK → Prop := fun vs H Q => ∃ n k : Nat, vs = [.int (n : Int), .int (k : Int)] ∧ n ≤ 10000 ∧ Q (.int (cho n k : Int)) H
def rPerm : List V → Hp → VK → Prop := fun vs H Q => ∃ n k : Nat, vs = [.int (n : Int), .int (k : Int)] ∧ n ≤ 10000 ∧ k ≤ 10000 ∧ Q (.int (prm n k)) H
section
variable {X : Cx}
theorem cr_comb : CallR X (.builtin "math.comb") rComb := by
  intro pins s σ H vs us Q I r h
  obtain ⟨n, k, rfl, hn, q⟩ := h
  cases r with
  | cons ru r2 =>
    cases r2 with
    | cons rv rt =>
      cases rt
      obtain ⟨t, rfl⟩ := ru
      obtain ⟨u, rfl⟩ := rv
      refine PySem.W.mc_comb_v (Int.natCast_nonneg n) (Int.natCast_nonneg k) (by omega) (by omega) (comb_cho n k) ?_
      exact ⟨.int _, H, I.tok _, ⟨_, rfl⟩, q⟩
theorem cr_perm : CallR X (.builtin "math.perm") rPerm := by
  intro pins s σ H vs us Q I r h
  obtain ⟨n, k, rfl, hn, hk, q⟩ := h
  cases r with
  | cons ru r2 =>
    cases r2 with
    | cons rv rt =>
      cases rt
      obtain ⟨t, rfl⟩ := ru
      obtain ⟨u, rfl⟩ := rv
      refine PySem.W.mc_perm_v (Int.natCast_nonneg n) (Int.natCast_nonneg k) (by omega) (by omega) rfl ?_
      exact ⟨.int _, H, I.tok _, ⟨_, rfl⟩, q⟩
end
section
variable {K : PySem.W.Frag} {σ : L2.St} {H : Hp} {ta tb te tl : TE} {D : Ends} {tu tz : TS}
theorem ev_comb {n k : Nat} (h : Ev ta σ H (.int (n : Int))) (h2 : Ev tb σ H (.int (k : Int))) (hn : n ≤ 10000) : Ev (tCB rComb (tCons ta (tCons tb tNil))) σ H (.int (cho n k : Int)) := fun H1 e Q q => h H1 e _ fun H2 e2 => h2 H2 (e.trans e2) _ fun H3 e3 => ⟨n, k, rfl, hn, q H3 (e2.trans e3)⟩
theorem ev_perm {n k : Nat} (h : Ev ta σ H (.int (n : Int))) (h2 : Ev tb σ H (.int (k : Int))) (hn : n ≤ 10000) (hk : k ≤ 10000) : Ev (tCB rPerm (tCons ta (tCons tb tNil))) σ H (.int (prm n k)) := fun H1 e Q q => h H1 e _ fun H2 e2 => h2 H2 (e.trans e2) _ fun H3 e3 => ⟨n, k, rfl, hn, hk, q H3 (e2.trans e3)⟩
/-- for x, y in zip(xs, ys): the pair is a new tuple -/
theorem s_forZip {ta : TA} {i j n : Nat} {a b : Addr} {xs ys : List V} (h : EvA ta σ H [.ref a, .ref b]) (hx : SqL K H a xs) (hy : SqL K H b ys) (hn : n = min xs.length ys.length) (Pv : Nat → L2.St → Hp → Prop) (h0 : ∀ H1, Ex H H1 → Pv 0 σ H1) (hl : ∀ k σ' H', k ≤ n → Pv k σ' H' → SqL K H' a xs ∧ SqL K H' b ys)
    (hs : ∀ k x y σ' H' H2, xs[k]? = some x → ys[k]? = some y → Pv k σ' H' → Ex H' H2 → tu { D with nx := Pv (k + 1), ct := Pv (k + 1), bk := D.nx } ((σ'.set i (some x)).set j (some y)) H2) (hd : ∀ σ' H', Pv n σ' H' → D.nx σ' H') :
    tFor (iZip K ta) (gTup K 2 (gCons (gName i) (gCons (gName j) gNil))) tu D σ H := h H (Ex.refl H) _ fun H1 e => ⟨a, b, xs, ys, rfl, ex_l e hx, ex_l e hy, by
  refine for_it (walk_zip (n := n) hn) Pv (h0 H1 e) (fun k σ' H' hk p => hl k σ' H' hk p) ?_ hd
  rintro k v σ' Hh H2 hk p ⟨T, x, y, rfl, nT, rfl, g1, g2⟩
  exact ⟨T, [x, y], rfl, st_of upd_same, rfl, x, [y], rfl, y, [], rfl, rfl, hs k x y σ' Hh _ g1 g2 p (Ex.new nT)⟩⟩
theorem q_forZip {ta : TA} {i j n : Nat} {a b : Addr} {xs ys : List V} (h : EvA ta σ H [.ref a, .ref b]) (hx : SqL K H a xs) (hy : SqL K H b ys) (hn : n = min xs.length ys.length) (Pv : Nat → L2.St → Hp → Prop) (h0 : ∀ H1, Ex H H1 → Pv 0 σ H1) (hl : ∀ k σ' H', k ≤ n → Pv k σ' H' → SqL K H' a xs ∧ SqL K H' b ys)
    (hs : ∀ k x y σ' H' H2, xs[k]? = some x → ys[k]? = some y → Pv k σ' H' → Ex H' H2 → tu { D with nx := Pv (k + 1), ct := Pv (k + 1), bk := tz D } ((σ'.set i (some x)).set j (some y)) H2) (hd : ∀ σ' H', Pv n σ' H' → tz D σ' H') :
    tSeq (tFor (iZip K ta) (gTup K 2 (gCons (gName i) (gCons (gName j) gNil))) tu) tz D σ H := s_forZip (D := { D with nx := tz D }) h hx hy hn Pv h0 hl hs hd
/-- [e for x, y in zip(xs, ys)], xs an old list, ys a new one -/
theorem el_zipO {i j : Nat} {vs : List Nat} {a : Addr} {xs ys : List V} (F : V → V → V) (h : Ev ta σ H (.ref a)) (hx : SqL K H a xs) (h2 : EvL tb σ H ys) (hl : xs.length = ys.length) (hz : xs.length ≤ 40000) (hw : ∀ x y, wipe (((wipe σ vs).set i (some x)).set j (some y)) vs = wipe σ vs)
    (he : ∀ (n : Nat) x y H1, Ex H H1 → xs[n]? = some x → ys[n]? = some y → Ev te (((wipe σ vs).set i (some x)).set j (some y)) H1 (F x y)) :
    EvL (tLc (iZip K (tCons ta (tCons tb tNil))) (gTup K 2 (gCons (gName i) (gCons (gName j) gNil))) tYes te vs) σ H (List.zipWith F xs ys) := fun H0 e Q q =>
  h H0 e _ fun H1 e1 => h2 H1 (e.trans e1) _ fun b H2 nb e2 hb => by
    have := el_zip (K := K) (H := H2) (ta := fun _ H' R => R [.ref a, .ref b] H') (te := te) (vs := vs) F (fun H3 _ Q q => q H3 (Ex.refl _)) (ex_l (e.trans (e1.trans e2)) hx) (sq_of hb) hl hz hw fun n x y H3 e3 g1 g2 => he n x y H3 (e.trans (e1.trans (e2.trans e3))) g1 g2
    exact this H2 (Ex.refl _) Q fun p H3 hp e3 h3 => q p H3 (fresh_back (e1.trans e2) hp) (e1.trans (e2.trans e3)) h3
end
end Kit

set_option Elab.async false
set_option linter.all false
set_option maxRecDepth 100000
set_option maxHeartbeats 4000000
namespace Kit
open PySem PySem.Spec PyProof.Rows L2 Evl
/-! ### dicts of whole numbers by whole numbers -/
def enc (ps : List (Int × Int)) : List (Key × V) := ps.map fun p => (.inl p.1, .int p.2)
def gI (ps : List (Int × Int)) (x : Int) : Int := ((ps.find? fun p => decide (p.1 = x)).map (·.2)).getD 0
def putI (ps : List (Int × Int)) (x v : Int) : List (Int × Int) := if ps.any (fun p => decide (p.1 = x)) then ps.map (fun p => if p.1 = x then (p.1, v) else p) else ps ++ [(x, v)]
theorem inl_eq (a x : Int) : decide ((Sum.inl a : Key) = .inl x) = decide (a = x) := by
  rw [Bool.eq_iff_iff, decide_eq_true_iff, decide_eq_true_iff]
  exact ⟨fun h => Sum.inl.inj h, fun h => by rw [h]⟩
theorem enc_val : ∀ (ps : List (Int × Int)) (x : Int), valV (enc ps) (.inl x) = ((ps.find? fun p => decide (p.1 = x)).map (·.2)).map V.int
  | [], _ => rfl
  | p :: r, x => by
    have ih := enc_val r x
    by_cases h : p.1 = x
    · rw [List.find?_cons_of_pos (by simpa using h)]
      exact valV_pos (by show (Sum.inl p.1 : Key) = .inl x; rw [h])
    · rw [List.find?_cons_of_neg (by simpa using h), ← ih]
      exact valV_neg fun z => h (Sum.inl.inj z)
theorem enc_get (ps : List (Int × Int)) (x : Int) : (valV (enc ps) (.inl x)).getD (.int 0) = .int (gI ps x) := by
  rw [enc_val]
  unfold gI
  cases (ps.find? fun p => decide (p.1 = x)).map (·.2) <;> rfl
theorem enc_put (ps : List (Int × Int)) (x v : Int) : putK (enc ps) (.inl x) (.int v) = enc (putI ps x v) := by
  have ea : ((enc ps).any fun kv => decide (kv.1 = .inl x)) = ps.any fun p => decide (p.1 = x) := by
    unfold enc
    rw [List.any_map]
    congr 1
    funext p
    exact inl_eq p.1 x
  unfold putK putI
  rw [ea]
  split
  · unfold enc
    rw [List.map_map, List.map_map]
    refine List.map_congr_left fun p _ => ?_
    show (if (Sum.inl p.1 : Key) = .inl x then _ else _) = _
    by_cases h : p.1 = x
    · rw [if_pos (by rw [h])]
      show _ = (Sum.inl (if p.1 = x then (p.1, v) else p).1, V.int (if p.1 = x then (p.1, v) else p).2)
      rw [if_pos h]
    · rw [if_neg fun z => h (Sum.inl.inj z)]
      show _ = (Sum.inl (if p.1 = x then (p.1, v) else p).1, V.int (if p.1 = x then (p.1, v) else p).2)
      rw [if_neg h]
  · unfold enc
    rw [List.map_append]
    rfl
theorem put_keys (ps : List (Int × Int)) (x v : Int) : (putI ps x v).map (·.1) = if x ∈ ps.map (·.1) then ps.map (·.1) else ps.map (·.1) ++ [x] := by
  have hm : (ps.any fun p => decide (p.1 = x)) = true ↔ x ∈ ps.map (·.1) := by
    rw [List.any_eq_true, List.mem_map]
    exact ⟨fun ⟨p, h, e⟩ => ⟨p, h, of_decide_eq_true e⟩, fun ⟨p, h, e⟩ => ⟨p, h, decide_eq_true e⟩⟩
  unfold putI
  by_cases h : x ∈ ps.map (·.1)
  · rw [if_pos h, if_pos (hm.mpr h), List.map_map]
    refine List.map_congr_left fun p _ => ?_
    show (if p.1 = x then (p.1, v) else p).1 = p.1
    split <;> rfl
  · rw [if_neg h, if_neg fun z => h (hm.mp z), List.map_append]
    rfl
theorem put_nodup {ps : List (Int × Int)} (h : (ps.map (·.1)).Nodup) (x v : Int) : ((putI ps x v).map (·.1)).Nodup := by
  rw [put_keys]
  split
  · exact h
  · rename_i n
    exact List.nodup_append.mpr ⟨h, by simp, fun a ha b hb => by
      rw [List.mem_singleton.mp hb]
      intro z
      exact n (z ▸ ha)⟩
theorem put_len (ps : List (Int × Int)) (x v : Int) : (putI ps x v).length ≤ ps.length + 1 := by
  unfold putI
  split
  · rw [List.length_map]
    omega
  · simp
theorem gI_nil (x : Int) : gI [] x = 0 := rfl
theorem gI_eq {ps : List (Int × Int)} {x : Int} : V.int (gI ps x) = (valV (enc ps) (.inl x)).getD (.int 0) := (enc_get ps x).symm
theorem gI_put (ps : List (Int × Int)) (x v y : Int) : gI (putI ps x v) y = if y = x then v else gI ps y := by
  have h := enc_get (putI ps x v) y
  rw [← enc_put, valV_put] at h
  have e : V.int (gI (putI ps x v) y) = V.int (if y = x then v else gI ps y) := by
    rw [← h]
    by_cases z : y = x
    · rw [if_pos (by rw [z]), if_pos z]
      rfl
    · rw [if_neg fun w => z (Sum.inl.inj w), if_neg z, enc_get]
  exact V.int.inj e
theorem gI_no {ps : List (Int × Int)} {x : Int} (h : x ∉ ps.map (·.1)) : gI ps x = 0 := by
  unfold gI
  have : (ps.find? fun p => decide (p.1 = x)) = none := List.find?_eq_none.mpr fun p hp z => h (List.mem_map.mpr ⟨p, hp, of_decide_eq_true z⟩)
  rw [this]
  rfl
theorem gI_sum : ∀ {ps : List (Int × Int)} (s : Int), (ps.map (·.1)).Nodup → (ps.map fun p => if p.1 = s then p.2 else 0).sum = gI ps s
  | [], _, _ => rfl
  | p :: r, s, h => by
    rw [List.map_cons, List.nodup_cons] at h
    rw [List.map_cons, List.sum_cons, gI_sum s h.2]
    by_cases z : p.1 = s
    · rw [if_pos z, gI_no (z ▸ h.1)]
      unfold gI
      rw [List.find?_cons_of_pos (by simpa using z)]
      show p.2 + 0 = p.2
      omega
    · rw [if_neg z]
      unfold gI
      rw [List.find?_cons_of_neg (by simpa using z)]
      omega
theorem val_at {ps : List (Int × Int)} {i : Nat} {a v : Int} (h : ps[i]? = some (a, v)) (nd : (ps.map (·.1)).Nodup) : valV (enc ps) (.inl a) = some (.int v) := by
  rw [enc_val]
  have : (ps.find? fun p => decide (p.1 = a)) = some (a, v) := by
    induction ps generalizing i with
    | nil => simp at h
    | cons p r ih =>
      rw [List.map_cons, List.nodup_cons] at nd
      cases i with
      | zero =>
        have : p = (a, v) := by simpa using h
        subst this
        exact List.find?_cons_of_pos (by simp)
      | succ i =>
        have h' : r[i]? = some (a, v) := by simpa using h
        have : p.1 ≠ a := fun z => nd.1 (z ▸ List.mem_map.mpr ⟨(a, v), List.mem_of_getElem? h', rfl⟩)
        rw [List.find?_cons_of_neg (by simpa using this)]
        exact ih h' nd.2
  rw [this]
  rfl
section
variable {K : PySem.W.Frag} {σ : L2.St} {H : Hp} {ta tb tc te td : TE} {D : Ends} {tu tz : TS} {ps : List (Int × Int)} {x v : Int}
theorem ev_getI {a : Addr} (h : Ev ta σ H (.ref a)) (hx : Ev tb σ H (.int x)) (h0 : Ev tc σ H (.int 0)) (ha : H a = some (.dK (enc ps))) : Ev (tDGet2 ta tb tc) σ H (.int (gI ps x)) := fun H1 e Q q =>
  h H1 e _ fun H2 e2 => ⟨a, rfl, .inl ⟨_, .inl (e2 a _ (e a _ ha))⟩, hx H2 (e.trans e2) _ fun H3 e3 => h0 H3 (e.trans (e2.trans e3)) _ fun H4 e4 => ⟨_, DGet.k (k := .inl x) (e4 a _ (e3 a _ (e2 a _ (e a _ ha)))), by
    rw [enc_get]
    exact q H4 (e2.trans (e3.trans e4))⟩⟩
theorem s_putI {a : Addr} (h : Ev ta σ H (.ref a)) (hx : Ev tb σ H (.int x)) (hv : Ev te σ H (.int v)) (ha : H a = some (.dK (enc ps))) (hl : ps.length < 10000) (k : ∀ H1, Ex H H1 → D.nx σ (upd H1 a (.dK (enc (putI ps x v))))) : sDPut ta tb te D σ H :=
  hv H (Ex.refl _) _ fun H1 e1 => h H1 e1 _ fun H2 e2 => hx H2 (e1.trans e2) _ fun H3 e3 => ⟨a, _, rfl, DPut.k (k := .inl x) (e3 a _ (e2 a _ (e1 a _ ha))) (sz_lt (by unfold enc; rw [List.length_map]; omega)), by
    rw [enc_put]
    exact k H3 (e1.trans (e2.trans e3))⟩
theorem q_putI {a : Addr} (h : Ev ta σ H (.ref a)) (hx : Ev tb σ H (.int x)) (hv : Ev te σ H (.int v)) (ha : H a = some (.dK (enc ps))) (hl : ps.length < 10000) (k : ∀ H1, Ex H H1 → tz D σ (upd H1 a (.dK (enc (putI ps x v))))) : tSeq (sDPut ta tb te) tz D σ H := s_putI (D := { D with nx := tz D }) h hx hv ha hl k
theorem q_dnewI {i : Nat} (k : ∀ p H1, H p = none → Ex H H1 → H1 p = some (.dK (enc [])) → tz D (σ.set i (some (.ref p))) H1) : tSeq (tAsg tDNewK (gName i)) tz D σ H := fun p hp => k p _ hp (Ex.new hp) upd_same
theorem q_dispI {i : Nat} (hk : Ev ta σ H (.int x)) (hv : Ev tb σ H (.int v)) (k : ∀ p H1, H p = none → Ex H H1 → H1 p = some (.dK (enc [(x, v)])) → tz D (σ.set i (some (.ref p))) H1) : tSeq (tAsg (tDisp [(ta, tb)]) (gName i)) tz D σ H := fun p hp => hk _ (Ex.new hp) _ fun H1 e1 => hv H1 ((Ex.new hp).trans e1) _ fun H2 e2 =>
  ⟨e2 p _ (e1 p _ upd_same), [(.inl x, .int v)], rfl, Nat.le_of_ble_eq_true rfl, k p _ hp (Ex.mut ((Ex.new hp).trans (e1.trans e2)) hp) upd_same⟩
theorem ev_dgetL {a : Addr} {o : Obj} {i : Nat} (h : Ev ta σ H (.ref a)) (hx : Ev tb σ H (.int x)) (ha : H a = some (.frz o (.dK (enc ps)))) (hi : ps[i]? = some (x, v)) (nd : (ps.map (·.1)).Nodup) : Ev (tDGet ta tb) σ H (.int v) := fun H1 e Q q =>
  h H1 e _ fun H2 e2 => hx H2 (e.trans e2) _ fun H3 e3 => ⟨a, .int v, rfl, .inl ⟨enc ps, .inl x, .inr ⟨o, e3 a _ (e2 a _ (e a _ ha))⟩, rfl, (val_at hi nd).symm⟩, q H3 (e2.trans e3)⟩
/-- for x in a dict -/
theorem s_forKeys {j : Nat} {d : Addr} (h : ∀ H1, Ev td σ H1 (.ref d)) (hd : H d = some (.dK (enc ps))) (Pv : Obj → Nat → L2.St → Hp → Prop) (h0 : ∀ o H1, Ex (upd H d (.frz o (.dK (enc ps)))) H1 → Pv o 0 σ H1) (hl : ∀ o k σ' H', k ≤ ps.length → Pv o k σ' H' → H' d = some (.frz o (.dK (enc ps))))
    (hs : ∀ o k a v σ' H', ps[k]? = some (a, v) → Pv o k σ' H' → tu { nx := Pv o (k + 1), ct := Pv o (k + 1), bk := fun σ' H' => H' d = some (.frz o (.dK (enc ps))) ∧ D.nx σ' (upd H' d (.dK (enc ps))), rt := fun v H' => H' d = some (.frz o (.dK (enc ps))) ∧ D.rt v (upd H' d (.dK (enc ps))) } (σ'.set j (some (.int a))) H')
    (he : ∀ o σ' H', Pv o ps.length σ' H' → D.nx σ' (upd H' d (.dK (enc ps)))) : tLock (tFor (iKeys td) (gName j) tu) D σ H := ⟨d, .dK (enc ps), hd, True.intro, fun o => h _ _ (Ex.refl _) _ fun H1 e => ⟨d, o, rfl, .inl ⟨enc ps, e d _ upd_same, by
  have le : (enc ps).length = ps.length := List.length_map ..
  refine for_it walk_keys (Pv o) (h0 o H1 e) (fun k σ' H' hk p => hl o k σ' H' (by omega) p) ?_ (fun σ' H' p => by
    rw [le] at p
    exact ⟨hl o _ σ' H' (Nat.le_refl _) p, he o σ' H' p⟩)
  rintro k v σ' Hh H2 hk p ⟨rfl, key, x, g1, rfl⟩
  unfold enc at g1
  rw [List.getElem?_map] at g1
  obtain ⟨q, hq, eq⟩ := Option.map_eq_some_iff.mp g1
  cases eq
  exact hs o k q.1 q.2 σ' _ hq p⟩⟩⟩
theorem q_forKeys {j : Nat} {d : Addr} (h : ∀ H1, Ev td σ H1 (.ref d)) (hd : H d = some (.dK (enc ps))) (Pv : Obj → Nat → L2.St → Hp → Prop) (h0 : ∀ o H1, Ex (upd H d (.frz o (.dK (enc ps)))) H1 → Pv o 0 σ H1) (hl : ∀ o k σ' H', k ≤ ps.length → Pv o k σ' H' → H' d = some (.frz o (.dK (enc ps))))
    (hs : ∀ o k a v σ' H', ps[k]? = some (a, v) → Pv o k σ' H' → tu { nx := Pv o (k + 1), ct := Pv o (k + 1), bk := fun σ' H' => H' d = some (.frz o (.dK (enc ps))) ∧ tz D σ' (upd H' d (.dK (enc ps))), rt := fun v H' => H' d = some (.frz o (.dK (enc ps))) ∧ D.rt v (upd H' d (.dK (enc ps))) } (σ'.set j (some (.int a))) H')
    (he : ∀ o σ' H', Pv o ps.length σ' H' → tz D σ' (upd H' d (.dK (enc ps)))) : tSeq (tLock (tFor (iKeys td) (gName j) tu)) tz D σ H := s_forKeys (D := { D with nx := tz D }) h hd Pv h0 hl hs he
end
end Kit

set_option Elab.async false
set_option linter.all false
set_option maxRecDepth 100000
namespace Kit
open PySem PySem.Spec PyProof.Rows L2 Evl
/-! ### set(a list of ints), sorted(set(a list of ints)) -/
/-- a new empty set behind a heap -/
abbrev emptyI (led : Bool) : Obj := { cls := .type "set", dict := none, data := .set #[] 0 (.fresh 0 0 led) }
section
variable {prog : Program} {w : World} {A : Around} {E : Value → Shared → Prop} {s : Shared}
set_option maxHeartbeats 3200000 in
theorem set_of_ints {l : Addr} {items : Array Value} {xs : List Int} {Q : Value → Shared → Prop}
    (hand : A.handled = none) (isl : s.heap.IsList l items)
    (are : IntsAre items.toList xs) (room : xs.length + 1 < scanBound)
    (fin : ∀ (h' : Heap) (tk c : Nat),
      SetR w h' s.heap.objs.size (fun j => decide (j ∈ xs)) c → c ≤ xs.length →
      (∀ b o, s.heap.get? b = some o → h'.get? b = some o) →
      Q (.ref s.heap.objs.size) { s with heap := h', toks := tk }) :
    wpAny (model prog w) A (call (.type "set") [.ref l]) Q E s := by
  generalize hled : (!w.params.followText "set-order") = led
  obtain ⟨c, tl, mro⟩ := PySem.F.called_set.mro
  have made := PySem.F.called_set.made
  have subt := PySem.F.called_set.sub
  refine wpAny_call (codeAny_of_tree ?_)
  show wpAny _ _ (callAny (.type "set") _) _ _ _
  refine wpAny_pure ⟨Code.quiet_builtin _ (by decide +kernel),
    codeAny_builtin PySem.F.entry_type_call ?_⟩
  rw [Around.under_plain (weight_type_call_type "set" [.ref l] []) rfl]
  have no1 := PySem.F.called_set.notType
  have no2 := PySem.F.called_set.canCreate
  have tc := PySem.F.typeCall_set_1 (.ref l)
  repeat (any_goals (first | assumption | wp_step))
  refine codeAny_mono (code_set_led1 (.ref l) (E := E) (Q₁ := fun obj s₁ =>
    obj = .ref s.heap.objs.size ∧ s₁ = { s with heap := s.heap.push (emptyI led) })
    (by rw [hled]; exact ⟨rfl, rfl⟩)) fun r s₁ hr => ?_
  cases r with
  | error e => exact hr
  | ok fl =>
    cases fl with
    | ret obj =>
      obtain ⟨rfl, rfl⟩ := hr
      have atS : (s.heap.push (emptyI led)).get? s.heap.objs.size = some (emptyI led) :=
        Heap.get?_push_size _ rfl
      have tyS : Shared.TypeIs { s with heap := s.heap.push (emptyI led) } (.ref s.heap.objs.size) "set" :=
        ⟨_, atS, rfl⟩
      have lk := PySem.F.called_set.init.lookup
      have bd := PySem.F.called_set.init.bind (.ref s.heap.objs.size)
      repeat (any_goals (first | assumption | wp_step))
      refine codeAny_mono (codeAny_call_builtin (R := wants (fun r s₂ => r = .none ∧ ∃ h' tk c,
          s₂ = { s with heap := h', toks := tk } ∧
          SetR w h' s.heap.objs.size (fun j => decide (j ∈ xs)) c ∧ c ≤ xs.length ∧
          (∀ b o, s.heap.get? b = some o → h'.get? b = some o)) E)
        PySem.F.called_set.init.plain PySem.F.entry_set_init (check_set_init_1 tyS ?_)) fun r₂ s₂ hr₂ => ?_
      · obtain ⟨ol, hol, hc, nl, hd⟩ := isl
        obtain ⟨oc, odic, odat, oslo⟩ := ol
        simp only at hc hd
        subst hc
        subst hd
        have hol2 : (s.heap.push (emptyI led)).get? l
            = some { cls := .type "list", dict := odic, data := .seq items nl, slots := oslo } :=
          Heap.get?_push_of_some _ hol
        have sl1 := PySem.F.sub_list_set
        have sl2 := PySem.F.sub_list_frozenset
        have nod : (Value.type "list" == Value.type "dict") = false := by decide
        have isl2 : (s.heap.push (emptyI led)).IsList l items := ⟨_, hol2, rfl, nl, rfl⟩
        unfold Builtin.«set.__init__» noKeywords Builtin.Frozenset.updateFrom
        generalize hgen : pyIter = PI
        wp_walk
        subst hgen
        refine wpAny_pyIter_list isl2 ?_
        refine wpAny_bind (wpAny_runValue ?_)
        have lS : l < s.heap.objs.size := Heap.lt_size hol
        have h3 : A.in1.in1.in1.handled = none := by simp [hand]
        have neI : l ≠ (s.heap.push (emptyI led)).objs.size := by
          rw [Heap.size_push]
          exact Nat.ne_of_lt (Nat.lt_succ_of_lt lS)
        have outS : s.heap.objs.size ∉ [(s.heap.push (emptyI led)).objs.size, l] := by
          rw [Heap.size_push]
          intro q
          rcases List.mem_cons.mp q with q | q
          · exact absurd q (Nat.ne_of_lt (Nat.lt_succ_self _))
          · exact absurd (List.mem_singleton.mp q) (Nat.ne_of_gt lS)
        have szx : items.size = xs.length := by
          have q := IntsAre.length are
          rw [Array.length_toList] at q
          exact q
        have vals : ∀ (i : Nat) (v : Value), items[i]? = some v → ∃ k t, xs[i]? = some k ∧ v = .int k t := fun i v hv => by
          have hi : i < xs.length := by rw [← szx]; exact (Array.getElem?_eq_some_iff.mp hv).1
          obtain ⟨t, e⟩ := PyProof.Rows.IntsAre.int_at are i v (by rw [Array.getElem?_toList]; exact hv)
          exact ⟨xs[i], t, List.getElem?_eq_getElem hi, by rw [e, List.getD_eq_getElem?_getD, List.getElem?_eq_getElem hi]; rfl⟩
        refine set_update_ints ((Walks.list h3 _ l neI items).toS) s.heap.objs.size outS xs szx room vals
          (items.size - 0) 0 _ (by omega) (Nat.zero_le _)
          ⟨⟨_, Heap.get?_push_size _ rfl, rfl, rfl⟩, (isl2.push _)⟩ ?_ ?_
        · have at2 : ((s.heap.push (emptyI led)).push
              { cls := .type "list_iterator", data := .fields #[.ref l, .int 0 0] }).get? s.heap.objs.size
              = some (emptyI led) := Heap.get?_push_of_some _ atS
          refine ⟨0, Nat.le_refl 0, setR_new_at (w := w) (ns := xs) ?_⟩
          rw [hled]
          exact at2
        · intro s2 c2 mv hc2 set2
          obtain ⟨h2, g2, d2, tk2, os2⟩ := s2
          obtain rfl : g2 = s.gens := mv.gens
          obtain rfl : d2 = s.drawn := mv.drawn
          obtain rfl : os2 = s.os := mv.os
          show wpAny _ _ _ _ _ _
          refine wpAny_pure ?_
          show wpAny _ _ (ret Value.none) _ _ _
          refine wpAny_pure ⟨rfl, h2, tk2, c2, rfl, set2, by omega, fun b o e => ?_⟩
          have hb := Heap.lt_size e
          refine mv.heap b o (fun q => ?_) (Heap.get?_push_of_some _ (Heap.get?_push_of_some _ e))
          rcases List.mem_cons.mp q with q | q
          · exact absurd q (Nat.ne_of_lt hb)
          · rcases List.mem_cons.mp q with q | q
            · rw [Heap.size_push] at q
              exact absurd q (Nat.ne_of_lt (Nat.lt_succ_of_lt hb))
            · cases q
      · cases r₂ with
        | error e => exact hr₂
        | ok fl₂ =>
          cases fl₂ with
          | ret r =>
            obtain ⟨rfl, h2, tk2, c2, rfl, set2, hc2, keep2⟩ := hr₂
            repeat (any_goals (first | assumption | wp_step))
            exact fin _ _ _ set2 hc2 keep2
          | _ => exact hr₂.elim
    | _ => exact hr.elim
end
section
variable {X : Cx}
def rSetI (K : PySem.W.Frag) (w : World) : List V → Hp → VK → Prop := fun vs H Q => ∃ (l : Addr) (ns : List Int), vs = [V.ref l] ∧ SqL K H l (ns.map V.int) ∧ ns.length ≤ 4000 ∧ ∀ p c, H p = none → c ≤ ns.length → Q (.ref p) (upd H p (SetO w p (fun j => decide (j ∈ ns)) c))
theorem cr_setI (hc : X.calm = true) : CallR X (.type "set") (rSetI X.K X.w) := by
  intro pins s σ H vs us Q I r h
  obtain ⟨l, ns, rfl, hs, hn, q⟩ := h
  obtain ⟨its, rv, pl, _⟩ := I.list hs
  rw [Vals.ref1 r]
  refine set_of_ints (I.ok.hd hc) pl.isList (by simpa using rv.ints) (by unfold scanBound; omega) fun h' tk c set1 hc1 keep => ?_
  have hf : H s.heap.objs.size = none := I.hok.fresh (Nat.le_refl _)
  exact ⟨.ref s.heap.objs.size, _, I.laid (t' := tk) keep (Nat.le_refl _) (setO_new set1), rfl, q _ c hf hc1⟩
end
section
variable {K : PySem.W.Frag} {w : World} {σ : L2.St} {H : Hp} {ta : TE}
/-- sorted(set(xs)), xs an old list of ints -/
theorem el_sortSet {l : Addr} {ns zs : List Int} (h : Ev ta σ H (.ref l)) (hl : SqL K H l (ns.map V.int)) (h64 : ns.length < 64) (hz : zs.Pairwise (· < ·)) (hm : ∀ k : Int, k ∈ zs ↔ k ∈ ns) : EvL (tCB (rSortedSet w) (tCons (tCB (rSetI K w) (tCons ta tNil)) tNil)) σ H (zs.map V.int) := fun H1 e Q q =>
  h H1 e _ fun H2 e2 => ⟨l, ns, rfl, ex_l (e.trans e2) hl, by omega, fun p c hp hc => ⟨p, _, c, rfl, upd_same, by omega, fun ms r hms hmm _ hr => by
    have : ms = zs := by
      refine List.Perm.eq_of_pairwise (le := fun a b : Int => a < b) (fun a b _ _ h1 h2 => by omega) hms hz ?_
      refine (List.perm_ext_iff_of_nodup (hms.imp fun z => Int.ne_of_lt z) (hz.imp fun z => Int.ne_of_lt z)).mpr fun k => ?_
      rw [hmm k, hm k]
      simp
    subst this
    exact q r _ (fresh_back (e2.trans (Ex.new hp)) hr) ((e2.trans (Ex.new hp)).trans (Ex.new hr)) upd_same⟩⟩
/-- sorted(set(xs)), xs a new list of ints -/
theorem el_sortSetN {ns zs : List Int} (h : EvL ta σ H (ns.map V.int)) (h64 : ns.length < 64) (hz : zs.Pairwise (· < ·)) (hm : ∀ k : Int, k ∈ zs ↔ k ∈ ns) : EvL (tCB (rSortedSet w) (tCons (tCB (rSetI K w) (tCons ta tNil)) tNil)) σ H (zs.map V.int) := fun H1 e Q q =>
  h H1 e _ fun l H2 nl e2 h2 => el_sortSet (K := K) (w := w) (σ := σ) (H := H2) (ta := fun _ H' R => R (.ref l) H') (l := l) (ns := ns) (fun H3 _ Q q => q H3 (Ex.refl _)) (sq_of h2) h64 hz hm H2 (Ex.refl _) Q fun p H3 hp e3 h3 => q p H3 (fresh_back e2 hp) (e2.trans e3) h3
end
end Kit

set_option Elab.async false
set_option linter.all false
set_option maxRecDepth 100000
set_option maxHeartbeats 4000000
namespace Kit
open PySem PySem.Spec PyProof.Rows L2 Evl
/-! ### sorted(xs), xs a list of data, of any length -/
/-- zs: the items, each with what it holds -/
def rSortedD (K : PySem.W.Frag) : List V → Hp → VK → Prop := fun vs H Q => ∃ (a : Addr) (zs : List (V × PyData)), vs = [V.ref a] ∧ SqL K H a (zs.map (·.1)) ∧ (∀ z ∈ zs, Dp K H z.1 z.2) ∧ PySem.W.AllAlike (zs.map (·.2)) ∧ PySem.W.Sortable (zs.map (·.2)) ∧ (∀ z ∈ zs, z.2.depth ≤ 60) ∧
  ∀ p, H p = none → Q (.ref p) (upd H p (.lst ((zs.mergeSort (PySem.W.dataLe false (·.2))).map (·.1))))
theorem eachIs_rel {zs : List (V × PyData)} : ∀ {its : List Value}, Vals (zs.map (·.1)) its → PySem.W.EachIs (fun v z => RelV z.1 v) its zs := by
  induction zs with
  | nil =>
    intro its h
    cases h
    exact .nil
  | cons z zs ih =>
    intro its h
    cases h with
    | cons a t => exact .cons a (ih t)
theorem rel_eachIs {zs : List (V × PyData)} : ∀ {its : List Value}, PySem.W.EachIs (fun v z => RelV z.1 v) its zs → Vals (zs.map (·.1)) its := by
  induction zs with
  | nil =>
    intro its h
    cases h
    exact .nil
  | cons z zs ih =>
    intro its h
    cases h with
    | cons a t => exact .cons a (ih t)
section
variable {X : Cx}
theorem cr_sortedD (hu : X.A.units + 64 < cLine) : CallR X (.builtin "sorted") (rSortedD X.K) := by
  intro pins s σ H vs us Q I r h
  obtain ⟨a, zs, rfl, hs, hd, hal, hk, hdep, q⟩ := h
  obtain ⟨its, rv, hl, hz⟩ := I.list hs
  obtain ⟨u, rfl, ru⟩ := vals1 r
  obtain rfl : u = Value.ref a := ru
  have lz : zs.length = its.length := by
    have := rv.length
    rw [List.length_map] at this
    exact this
  have e := eachIs_rel rv
  have er : PySem.W.EachIs (fun v z => ∃ as, Reads s.heap v z.2 as) its zs := by
    refine (PySem.W.each_mem e).mono fun v z ⟨hv, hm⟩ => ?_
    exact Dp.reads I z.2 z.1 v (hd z hm) hv
  refine PySem.W.sorted_data (vs := its) (bs := zs) (enc := fun z : V × PyData => z.2) hl.isList e er hal hk (by rw [List.length_map] at hz; exact hz) (fun z hm => ?_) fun out ho eo => ?_
  · have := hdep z hm
    omega
  · have hf : H (s.heap.objs.size + 1) = none := I.hok.fresh (Nat.le_succ _)
    obtain ⟨n, hn⟩ := sortedAll_at s.heap its out.toArray
    refine ⟨.ref (s.heap.objs.size + 1), upd H (s.heap.objs.size + 1) (.lst ((zs.mergeSort (PySem.W.dataLe false (·.2))).map (·.1))), I.laid (t' := s.toks) (fun b o e => sortedAll_old e) (Nat.le_succ _) ⟨?_, out, n, rel_eachIs eo, hn⟩, rfl, q _ hf⟩
    rw [List.length_map, List.length_mergeSort]
    rw [List.length_map] at hz
    exact hz
end
section
variable {K : PySem.W.Frag} {σ : L2.St} {H : Hp} {ta : TE}
/-- sorted(xs) -/
theorem el_sortedD {a : Addr} {zs : List (V × PyData)} (h : Ev ta σ H (.ref a)) (ha : SqL K H a (zs.map (·.1))) (hd : ∀ z ∈ zs, Dp K H z.1 z.2) (hal : PySem.W.AllAlike (zs.map (·.2))) (hk : PySem.W.Sortable (zs.map (·.2))) (hdep : ∀ z ∈ zs, z.2.depth ≤ 60) :
    EvL (tCB (rSortedD K) (tCons ta tNil)) σ H ((zs.mergeSort (PySem.W.dataLe false (·.2))).map (·.1)) := fun H1 e Q q => h H1 e _ fun H2 e2 =>
  ⟨a, zs, rfl, ex_l (e.trans e2) ha, fun z hz => Dp.ex (e.trans e2) z.2 z.1 (hd z hz), hal, hk, hdep, fun p hp => q p _ (fresh_back e2 hp) (e2.trans (Ex.new hp)) upd_same⟩
end
/-- lists of ints -/
theorem sorted_rows {zs : List (V × List Int)} : ((zs.map fun z => (z.1, PyData.list (z.2.map PyData.int))).mergeSort (PySem.W.dataLe false (·.2))) = (zs.mergeSort fun x y => decide (x.2 ≤ y.2)).map fun z => (z.1, PyData.list (z.2.map PyData.int)) := by
  rw [← PySem.W.sort_maps (r := fun x y : V × List Int => decide (x.2 ≤ y.2))]
  intro x _ y _
  have := congrFun (congrFun (PySem.W.dataLe_rows (β := V × List Int) (·.2)) x) y
  exact this.symm
theorem rows_alike (zs : List (V × List Int)) : PySem.W.AllAlike ((zs.map fun z => (z.1, PyData.list (z.2.map PyData.int))).map (·.2)) := by
  rw [List.map_map]
  exact PySem.W.AllAlike.of (enc := fun z : V × List Int => PyData.list (z.2.map PyData.int)) fun b b' => by
    show PySem.W.alikeAll _ _ = true
    exact PySem.W.alike_ints _ _
theorem rows_sortable (zs : List (V × List Int)) : PySem.W.Sortable ((zs.map fun z => (z.1, PyData.list (z.2.map PyData.int))).map (·.2)) := by
  rw [List.map_map]
  exact PySem.W.Sortable.others (enc := fun z : V × List Int => PyData.list (z.2.map PyData.int)) fun b => ⟨nofun, fun xs h => by cases h⟩
end Kit

set_option Elab.async false
set_option linter.all false
set_option maxRecDepth 100000
set_option maxHeartbeats 4000000
namespace Kit
open PySem PySem.Spec PyProof.Rows L2 Evl
/-! ### defs that may raise -/
section
variable {P : Program} {w : World} {K : PySem.W.Frag} {mg : Str → Option Value} {base : Heap}
theorem okN {x qual : Str} {d : Stmt} {f : Addr} {fd : FuncData} {N names : List Str} {n : Nat} {want : Sp} (F : Fun K x qual d f fd) (S : FnScope N names (defScope d)) (many : ∀ xs H Q E, want xs H Q E → xs.length = names.length)
    (body : ∀ (cv : Value) (A : Around) (frames : List Env) (st : Shared) (H : Hp) (xs : List V) (Q : VK) (E : XK), Room n (A.deeper (envOfC qual (defScope d) st.heap.objs.size f cv)) → want xs H Q E →
      ∃ t, PSs (cxOf (L2N.CX P w) P w K mg base N qual (defScope d) f cv A frames st H E) (defBody d) t ∧ t { nx := fun _ H' => Q .non H', rt := Q } (start N xs) H) : FnOk P w K mg base (L2N.CX P w) (n + 1) f fd names want := by
  obtain ⟨oc, od, kV, doc, pm, an, cdv, ct, osl, rfl, lk, hcd⟩ := F.ex
  exact fn_of lk hcd S many fun A outer s H vs Q E hr hsp => body cdv A outer s H vs Q E hr hsp
theorem passN {N : List Str} {qual : Str} {sc : Scope} {f : Addr} {cv : Value} {A : Around} {frames : List Env} {st : Shared} {H : Hp} {E : XK} :
    Passes (L2N.CX P w) (cxOf (L2N.CX P w) P w K mg base N qual sc f cv A frames st H E) E := L2N.passes_call (W := fun cls d _ H => E cls d H) (L2N.takes_of rfl rfl rfl rfl) fun _ _ _ _ h => h
theorem passE0 {X : Cx} : Passes (L2N.CX X.prog X.w) X E0 := fun _ _ _ _ _ _ _ h => by
  obtain ⟨_, _, _, _, _, _, _, _, _, _, _, _, z⟩ := h
  exact z.elim
theorem takesN {N : List Str} {qual : Str} {sc : Scope} {f : Addr} {cv : Value} {A : Around} {frames : List Env} {st : Shared} {H : Hp} {E : XK} :
    L2N.Takes (cxOf (L2N.CX P w) P w K mg base N qual sc f cv A frames st H E) (fun cls d _ H => E cls d H) := L2N.takes_of rfl rfl rfl rfl
end
theorem takes0N {X : Cx} : L2N.Takes X.nox (fun _ _ _ _ => False) := fun _ _ x => by
  obtain ⟨_, _, _, _, _, _, _, _, _, _, _, _, _, _, _, _, z⟩ := x
  exact z.elim
/-! ### exceptions made: X(e) -/
theorem pmk1N {X : Cx} {C : Addr} {bmB : List Value} {B newId initId : String} {x : Str} {e : Expr} {ta : TE} {p pos : Pos} (F : ExcBaseFacts B newId initId bmB) (q : PySem.W.excIn X.K C bmB newId = true) (gC : X.mg x = some (.ref C)) (kC : PySem.W.keepIn X.K (.ref C) = true) (r : Raises X (.ref C)) (hg : Gl X x)
    (he : PE X e ta) (hs : starEach [e] X.env = (false, eval e X.env) :: starEach [] X.env := by rfl) (hdb : (x == ("__debug__" : Str)) = false := by decide) :
    L2N.PMk X (.Call (.Name x p) [e] [] pos) (fun σ H Q => ta σ H fun _ H1 => Q (.ref C) none H1) := by
  intro pins st σ H Q J h
  refine wpAny_Call_Name_kw (ld_glob J hg gC (PySem.W.callWith_K (h₀ := X.base) J.ok.mod.kin kC ?_ hs (by rfl)) hdb)
  rw [hs]
  show wpAny _ _ (spliced ((false, eval e X.env) :: backTo pos (starEach [] X.env))) _ _ st
  refine Calls.spliced_cons (thn (he.run pins st σ H _ J h) fun u st1 ⟨v, H1, J1, rv, want⟩ => Calls.spliced_nil ⟨J1.kIn, ?_⟩)
  show wpAny _ _ (call (.ref C) [u]) _ _ _
  obtain ⟨_, _, _, _, _, _, _, _, _, _, _, _, _, _, _, _, _, cls, ns, no, tail⟩ := exc_obj J1.kIn q
  exact wpAny_call_exc_subT F tail cls ns no (fun h2 a made => L2N.mk_of J1 made r want (J1.hok.gone made.new)) (by show 1 ≤ sizeLine; rw [sizeLine_eq]; omega)
/-- what an own class of errors must be -/
def excB (K : PySem.W.Frag) (C : Addr) : Bool := PySem.W.excIn K C [.type "ValueError", .type "Exception", .type "BaseException", .type "object"] "ValueError.__new__" && (PySem.W.keepIn K (.ref C) &&
  (decide (PySem.W.subIn K (.ref C) (.type "BaseException") = some true) && (decide (PySem.W.typeIn K (.ref C) = some (.type "type")) &&
  (decide (PySem.W.findIn K (.ref C) "__getattribute__" = some (some (.builtin "BaseException.__getattribute__"))) && (decide (PySem.W.findIn K (.ref C) "__getattr__" = some none) &&
  (PySem.W.hasDictIn K C && (decide (PySem.W.findIn K (.ref C) "__class__" = some (some (.builtin "object.__class__"))) && (decide (PySem.W.specialIn K (.builtin "object.__class__") "__get__" = some (some (.builtin "getset_descriptor.__get__"))) &&
  (decide (PySem.W.takesIn K (.builtin "object.__class__") = some true) && decide (PySem.W.mroIn K C (.type "object") = some true))))))))))
structure ExcD (K : PySem.W.Frag) (C : Addr) : Prop where
  ein : PySem.W.excIn K C [.type "ValueError", .type "Exception", .type "BaseException", .type "object"] "ValueError.__new__" = true
  kp : PySem.W.keepIn K (.ref C) = true
  sb : PySem.W.subIn K (.ref C) (.type "BaseException") = some true
  ty : PySem.W.typeIn K (.ref C) = some (.type "type")
  is : ExcC K C
theorem excD_of {K : PySem.W.Frag} {C : Addr} (h : excB K C = true) : ExcD K C := by
  obtain ⟨h1, h⟩ := Bool.and_eq_true_iff.mp h
  obtain ⟨h2, h⟩ := Bool.and_eq_true_iff.mp h
  obtain ⟨h3, h⟩ := Bool.and_eq_true_iff.mp h
  obtain ⟨h4, h⟩ := Bool.and_eq_true_iff.mp h
  obtain ⟨h5, h⟩ := Bool.and_eq_true_iff.mp h
  obtain ⟨h6, h⟩ := Bool.and_eq_true_iff.mp h
  obtain ⟨h7, h⟩ := Bool.and_eq_true_iff.mp h
  obtain ⟨h8, h⟩ := Bool.and_eq_true_iff.mp h
  obtain ⟨h9, h⟩ := Bool.and_eq_true_iff.mp h
  obtain ⟨h10, h11⟩ := Bool.and_eq_true_iff.mp h
  exact ⟨h1, h2, of_decide_eq_true h3, of_decide_eq_true h4, ⟨of_decide_eq_true h5, of_decide_eq_true h6, of_decide_eq_true h3, h7, of_decide_eq_true h8, of_decide_eq_true h9, of_decide_eq_true h10, of_decide_eq_true h11⟩⟩
/-- what isinstance says of an error of the class C, class by class -/
def isRow (K : PySem.W.Frag) (C : Addr) (l : List (Value × Bool)) : Bool := l.all fun x => decide (PySem.W.kitOne K (.ref C) x.1 = some x.2)
theorem isRow_at {K : PySem.W.Frag} {C : Addr} {l : List (Value × Bool)} (h : isRow K C l = true) {v : Value} {b : Bool} (m : (v, b) ∈ l) : PySem.W.kitOne K (.ref C) v = some b := of_decide_eq_true (List.all_eq_true.mp h _ m)
/-- raise X(e) -/
theorem ps_raiseN {X : Cx} {C : Addr} {W : WX} {x : Str} {e : Expr} {ta : TE} {p pos pos2 : Pos} (hc : X.calm = true) (tk : L2N.Takes X W) (D : ExcD X.K C) (gC : X.mg x = some (.ref C)) (hg : Gl X x)
    (he : PE X e ta) (hs : starEach [e] X.env = (false, eval e X.env) :: starEach [] X.env := by rfl) (hdb : (x == ("__debug__" : Str)) = false := by decide) :
    PS X (.Raise (some (.Call (.Name x p) [e] [] pos)) none pos2) (fun _ σ H => ta σ H fun _ H1 => W (.ref C) none σ H1) :=
  L2N.ps_raise hc tk (pmk1N PySem.F.excBase_ValueError D.ein gC D.kp (raises_own D.sb D.ty) hg he hs hdb)
/-! ### calls within the suite, the exception handed on -/
structure FnP (P : Program) (w : World) (K : PySem.W.Frag) (mg : Str → Option Value) (base : Heap) (CX : CXT) (k : Nat) (f : Addr) (fd : FuncData) (ps : List Str) (sp : Addr → Value → Option Addr → Sp) : Prop where
  len : ∀ a cls d vs H Q E, sp a cls d vs H Q E → vs.length = ps.length
  run : ∀ (A : Around) (outer : List Env) (s : Shared) (H : Hp) (args : Args) (us : List Value) (vs : List V) (Q : VK) (E : XK) (p : Addr × Obj) (cls : Value) (d : Option Addr), L2H.RoomH k A → L2H.Hot1 A p → Zc cls d p.2 → L2H.PinOk outer H s p → Env0 P w K mg base A outer s H → BindsTo s fd args (ps.zip us) → Vals vs us → sp p.1 cls d vs H Q E →
    codeAny (model P w) A (.call (.ref f) args) (CR CX outer P w H s Q E) s
theorem okP {CX : CXT} {P : Program} {w : World} {K : PySem.W.Frag} {mg : Str → Option Value} {base : Heap} {k : Nat} {f : Addr} {x qual : Str} {d : Stmt} {fd : FuncData} {N ps : List Str} {sp : Addr → Value → Option Addr → Sp} (F : Fun K x qual d f fd) (S : FnScope N ps (defScope d))
    (len : ∀ a cls d vs H Q E, sp a cls d vs H Q E → vs.length = ps.length)
    (hbody : ∀ (cdv : Value) (A : Around) (outer : List Env) (s : Shared) (H : Hp) (vs : List V) (Q : VK) (E : XK) (p : Addr × Obj) (cls : Value) (dd : Option Addr), L2H.Hot1 A p → Zc cls dd p.2 → L2H.RoomH k (A.deeper (envOfC qual (defScope d) s.heap.objs.size f cdv)) → sp p.1 cls dd vs H Q E →
      ∃ t, PSs (L2H.cxH CX P w K mg base N qual (defScope d) f cdv A outer s H E p) (defBody d) t ∧ t { nx := fun _ H' => Q .non H', rt := Q } (L2.start N vs) H) :
    FnP P w K mg base CX (k + 1) f fd ps sp := by
  obtain ⟨oc, od, kV, doc, pm, an, cdv, ct, osl, rfl, lk, hcd⟩ := F.ex
  refine ⟨len, fun A outer s H args us vs Q E p cls dd hr hot hz hpin e0 hb r hsp => ?_⟩
  have size := len _ _ _ _ _ _ _ hsp
  have inK : K.In s.heap := e0.mod.kin.keeps fun b o q => (e0.bs b o q).1
  have noLim : s.heap.NoLimit := e0.mod.nolimit.keeps fun b o q => (e0.bs b o q).1
  have kinds : ∀ y ∈ ps.zip us, (defScope d).names.lookup y.1 = some .local ∨ ((defScope d).names.lookup y.1 = some .cell ∧ ((cellsFrom (s.heap.objs.size + 1) (defScope d).names []).lookup y.1).isSome = true) := by
    rintro ⟨a, b⟩ hy
    exact (S.par a (List.of_mem_zip hy).1).elim .inl fun q => .inr ⟨q, PySem.W.cellsFrom_some _ _ _ (.inl q)⟩
  refine codeAny_call_function hr.depth (inK _ _ lk) rfl S.co S.gen rfl (PySem.W.codeRec_of inK hcd) (hb _ _ _ _ (wpAny_newFunctionEnv_cells S.kind kinds fun env eq st1 made => ?_))
  cases eq
  refine ⟨noLim.keeps made.toInCall.keep, codeAny_func ?_⟩
  obtain ⟨t, rule, done⟩ := hbody cdv A outer s H vs Q E p cls dd hot hz (hr.deeper _) hsp
  have J : Inv (L2H.cxH CX P w K mg base N qual (defScope d) f cdv A outer s H E p) [] (L2.start N vs) H st1 := L2H.inv_startH S hpin e0 size r made
  have back : ∀ {σ' : L2.St} {H' : Hp} {v : V} {u : Value} {st2 : Shared}, Inv (L2H.cxH CX P w K mg base N qual (defScope d) f cdv A outer s H E p) [] σ' H' st2 → RelV v u → Q v H' → CE outer P w H s Q u st2 := fun J2 rv q => ⟨_, _, J2.os, J2.bare, J2.base, J2.hok, rv, q⟩
  refine wpAny_mono (rule.run [] st1 (L2.start N vs) H _ J done) (fun z st2 hs => ?_) fun _ _ hs => hs
  match z, hs with
  | .ret u, ⟨v, σ2, H2, J2, rv, q⟩ => exact back J2 rv q
  | .next, ⟨σ2, H2, J2, q⟩ => exact back (v := V.non) (u := Value.none) J2 rfl q
  | .brk, ⟨_, _, _, q⟩ => exact False.elim q
  | .cont, ⟨_, _, _, q⟩ => exact False.elim q
def tCallP (sp : Addr → Value → Option Addr → Sp) (a : Addr) (cls : Value) (d : Option Addr) (t : TA) : TE := fun σ H Q => t σ H fun vs H1 => sp a cls d vs H1 Q E0
/-- f(e, ..) in the suite of the exception p -/
theorem pe_callP {X : Cx} {k : Nat} {f : Addr} {fd : FuncData} {ps : List Str} {sp : Addr → Value → Option Addr → Sp} {x : Str} {q pos : Pos} {e : Expr} {es : List Expr} {t : TA} {p : Addr × Obj} {cls : Value} {d : Option Addr} (F : FnP X.prog X.w X.K X.mg X.base CX0 k f fd ps sp) (room : L2H.RoomH k X.A) (hot : L2H.Hot1 X.A p) (hz : Zc cls d p.2) (hp : p ∈ X.pn)
    (gl : Gl X x) (at_ : X.mg x = some (.ref f)) (keep : PySem.W.keepIn X.K (.ref f) = true) (bind : Binds X.K fd ps []) (ha : PA X (e :: es) t) (nd : (x == ("__debug__" : Str)) = false := by decide)
    (one : starEach (e :: es) X.env = (false, eval e X.env) :: starEach es X.env := by rfl) (plain : (backTo pos (starEach es X.env)).any (·.1) = false := by rfl) : PE X (.Call (.Name x q) (e :: es) [] pos) (tCallP sp p.1 cls d t) := by
  refine ⟨fun pins st σ H Q J h => wpAny_Call_Name_kw (ld_glob J gl at_ ?_ nd)⟩
  refine PySem.W.callWith_K (h₀ := X.base) J.ok.mod.kin keep (thn (ha.run pos pins st σ H _ J h) fun us st1 ⟨vs, H1, J1, r, want⟩ => ⟨J1.kIn, ?_⟩) one plain
  have size : us.length = ps.length := r.length.symm.trans (F.len _ _ _ _ _ _ _ want)
  have bd := bind st1 us J1.kIn (by rw [List.append_nil]; exact size)
  rw [List.append_nil] at bd
  have P1 := J1.pin p (List.mem_append_left _ hp)
  have pin : L2H.PinOk X.stack H1 st1 p := ⟨P1.1, P1.2.1, fun hm => (List.mem_cons.mp (J1.stkSub p.1 hm)).elim P1.2.2.1 P1.2.2.2.1, P1.2.2.2.2⟩
  refine wpAny_call (codeAny_mono (F.run X.A X.stack st1 H1 ⟨us, []⟩ us vs Q E0 p cls d room hot hz pin J1.env0 bd r want) fun res st2 hq => ?_)
  match res, hq with
  | .error _, hq => exact False.elim hq
  | .ok (.ret _), hq => exact J1.after hq
  | .ok .next, hq => exact False.elim hq
  | .ok .brk, hq => exact False.elim hq
  | .ok .cont, hq => exact False.elim hq
theorem hot_suite {A : Around} {a : Addr} {oe : Obj} {cls : Value} {d : Option Addr} (hz : L2N.Zn cls d oe) (hf : ∃ vs, oe.data = .fields vs) : L2H.Hot1 (A.mark (some (.ref a))) (a, oe) :=
  ⟨rfl, hf.imp fun vs e => ⟨e, hz.2.2 vs e⟩⟩
theorem roomS {A : Around} {x : Option Value} {k : Nat} (r : Room k A) : L2H.RoomH k (A.mark x) := ⟨r.dp, r.un⟩
/-- isinstance(e, c), e the exception p -/
theorem call_isP {X : Cx} {p : Addr × Obj} {D : Addr} (C : ExcD X.K D) (hp : p ∈ X.pn) (hz : Zc (.ref D) none p.2) (hf : ∃ vs, p.2.data = .fields vs) : CallR X (.builtin "isinstance") (rIsE X.K D p.1) := by
  intro pins st σ H xs us Q J r h
  obtain ⟨c, cv, b, rfl, same, e, q⟩ := h
  cases r with
  | cons ra rest =>
    cases rest with
    | cons rc rest =>
      cases rest
      cases ra
      have ec := same _ rc
      subst ec
      obtain ⟨there, _⟩ := J.pin p (List.mem_append_left _ hp)
      obtain ⟨vs, hv⟩ := hf
      have inst : PySem.W.InstAt st.heap p.1 p.2 D none := ⟨there, hz.1, by unfold PySem.W.notCls; rw [hv] <;> rfl, by rw [hz.2]; trivial⟩
      have Z := PySem.W.handS_kitx_exc (x := p.1) (ox := p.2) C.is.hg C.is.hk C.is.hs C.is.hd C.is.ha C.is.hn C.is.ht C.is.hm
      exact PySem.W.kia_one Z J.kIn inst e (fun z => nomatch z) fun tk => ⟨.bl b, H, J.kept (t' := tk) fun _ _ z => z, rfl, q⟩
/-! ### readings -/
/-- what is due: nothing, or an error -/
structure Out (due : Option Addr) (H : Hp) (Q : VK) (E : XK) : Prop where
  no : due = none → ∀ v H1, Ex H H1 → Q v H1
  yes : ∀ C, due = some C → ∀ H1, Ex H H1 → E (.ref C) none H1
section
variable {K : PySem.W.Frag} {σ : L2.St} {H H' : Hp} {ta : TA} {tz : TS} {D : Ends} {E : XK} {sp : Sp} {vs dvs : List V} {te tf : TE}
theorem ev_isP {a C : Addr} {c : V} {cv : Value} {b : Bool} (h0 : Ev te σ H (.ref a)) (h1 : Ev tf σ H c) (hc : ∀ u, RelV c u → u = cv) (hk : PySem.W.kitOne K (.ref C) cv = some b) : Ev (tCB (rIsE K C a) (tCons te (tCons tf tNil))) σ H (.bl b) := fun H1 e Q q =>
  h0 H1 e _ fun H2 e2 => h1 H2 (e.trans e2) _ fun H3 e3 => ⟨c, cv, b, rfl, hc, hk, q H3 (e2.trans e3)⟩
def SpO (sp : Sp) (vs : List V) (H : Hp) (due : Option Addr) : Prop := ∀ H1, Ex H H1 → ∀ (Q : VK) (E : XK), Out due H1 Q E → sp vs H1 Q E
theorem Out.mono {due : Option Addr} {Q : VK} {E : XK} (e : Ex H H') (h : Out due H Q E) : Out due H' Q E := ⟨fun z v H1 e1 => h.no z v H1 (e.trans e1), fun C z H1 e1 => h.yes C z H1 (e.trans e1)⟩
/-- f(..) that raises what is due, and the rest -/
theorem q_chk {due : Option Addr} (ha : EvA ta σ H vs) (hs : SpO sp (vs ++ dvs) H due) (k : due = none → ∀ H1, Ex H H1 → tz D σ H1) (ke : ∀ C, due = some C → ∀ H1, Ex H H1 → E (.ref C) none H1) : tSeq (tDrop (tCall sp dvs E ta)) tz D σ H :=
  ha H (Ex.refl H) _ fun H1 e1 => hs H1 e1 _ _ ⟨fun z v H2 e2 => k z H2 (e1.trans e2), fun C z H2 e2 => ke C z H2 (e1.trans e2)⟩
theorem unseq {t : TS} (h : t { D with nx := tz D } σ H) : tSeq t tz D σ H := h
/-- x = f(..), whatever f promises -/
theorem q_asgCall {i : Nat} (ha : EvA ta σ H vs) (k : ∀ H1, Ex H H1 → sp (vs ++ dvs) H1 (fun v H2 => tz D (σ.set i (some v)) H2) E) : tSeq (tAsg (tCall sp dvs E ta) (gName i)) tz D σ H := ha H (Ex.refl H) _ fun H1 e1 => k H1 e1
theorem s_retCall (ha : EvA ta σ H vs) (k : ∀ H1, Ex H H1 → sp (vs ++ dvs) H1 D.rt E) : tRet (tCall sp dvs E ta) D σ H := ha H (Ex.refl H) _ fun H1 e1 => k H1 e1
/-- the same as one of the ways of a try -/
theorem s_chkS {due : Option Addr} {W : WX} (ha : EvA ta σ H vs) (hs : SpO sp vs H due) (k : due = none → ∀ H1, Ex H H1 → D.nx σ H1) (ke : ∀ C, due = some C → ∀ H1, Ex H H1 → W (.ref C) none σ H1) : tDrop (tCallS sp (WE W) ta) D σ H :=
  ha H (Ex.refl H) _ fun H1 e1 => hs H1 e1 _ _ ⟨fun z v H2 e2 => k z H2 (e1.trans e2), fun C z H2 e2 => ke C z H2 (e1.trans e2)⟩
/-- [e for x in f(..)] -/
theorem lc_call {K : PySem.W.Frag} {g : TG} {t : TT} {te : TE} {ns : List Nat} {Q : VK} (ha : EvA ta σ H vs) (k : ∀ H1, Ex H H1 → sp (vs ++ dvs) H1 (fun x H2 => tLc (iList K fun _ H' Q' => Q' x H') g t te ns σ H2 Q) E) : tLc (iList K (tCall sp dvs E ta)) g t te ns σ H Q := ha H (Ex.refl H) _ fun H1 e1 => k H1 e1
/-- what a walk over a list wants of it -/
def ForQ (K : PySem.W.Frag) (g : TG) (tu : TS) (D : Ends) (σ : L2.St) : VK := fun x H1 => ∃ a, x = .ref a ∧ (∃ xs, SqL K H1 a xs) ∧ ∃ W : Nat → Nat → L2.St → Hp → Prop, (∃ m, W 0 m σ H1) ∧ ∀ i m σ H, W i m σ H →
  ((Itl K a).stop i H ∧ D.nx σ H) ∨ ((Itl K a).go i H ∧ ∃ N : L2.St → Hp → Prop, (∀ σ' H', N σ' H' → ∃ m', m' < m ∧ W (i + 1) m' σ' H') ∧ ∀ x H', (Itl K a).yld i H x H' → g x σ H' fun σ2 H2 => tu { D with nx := N, ct := N, bk := D.nx } σ2 H2)
theorem forQ_of {K : PySem.W.Frag} {g : TG} {tu : TS} {a : Addr} {xs : List V} (Pv : Nat → L2.St → Hp → Prop) (h0 : Pv 0 σ H) (hl : ∀ i σ' H', i ≤ xs.length → Pv i σ' H' → SqL K H' a xs)
    (hs : ∀ i x σ' H', xs[i]? = some x → Pv i σ' H' → g x σ' H' fun σ2 H2 => tu { D with nx := Pv (i + 1), ct := Pv (i + 1), bk := D.nx } σ2 H2) (hd : ∀ σ' H', Pv xs.length σ' H' → D.nx σ' H') : ForQ K g tu D σ (.ref a) H :=
  ⟨a, rfl, ⟨xs, hl 0 σ H (Nat.zero_le _) h0⟩, for_list Pv h0 hl hs hd⟩
/-- for x in f(..) -/
theorem q_forCall {K : PySem.W.Frag} {g : TG} {tu : TS} (ha : EvA ta σ H vs) (k : ∀ H1, Ex H H1 → sp (vs ++ dvs) H1 (ForQ K g tu { D with nx := tz D } σ) E) : tSeq (tFor (iList K (tCall sp dvs E ta)) g tu) tz D σ H := ha H (Ex.refl H) _ fun H1 e1 => k H1 e1
theorem s_forCall {K : PySem.W.Frag} {g : TG} {tu : TS} (ha : EvA ta σ H vs) (k : ∀ H1, Ex H H1 → sp (vs ++ dvs) H1 (ForQ K g tu D σ) E) : tFor (iList K (tCall sp dvs E ta)) g tu D σ H := ha H (Ex.refl H) _ fun H1 e1 => k H1 e1
end
/-! ### xs.count(x) of flat values -/
def rCntF (K : PySem.W.Frag) : V → List V → Hp → VK → Prop := fun x xs H Q => ∃ (p : Addr) (ys : List V) (y : V), x = .ref p ∧ xs = [y] ∧ SqL K H p ys ∧ flatV y = true ∧ ys.all flatV = true ∧ Q (.int ((ys.countP fun z => eqV z y : Nat) : Int)) H
theorem countP_eqU {y : V} : ∀ {ys : List V} {us : List Value}, Vals ys us → ys.all flatV = true → us.countP (eqU y) = ys.countP fun z => eqV z y
  | _, _, .nil, _ => rfl
  | _, _, .cons r t, f => by
    rw [List.all_cons, Bool.and_eq_true] at f
    have ih := countP_eqU (y := y) t f.2
    rw [List.countP_cons, List.countP_cons, ih, eqU_of r f.1]
theorem mt_countF {X : Cx} : MtR X "list.count" (rCntF X.K) := by
  intro pins st σ H x xs v us Q J rx rxs h
  obtain ⟨p, ys, y, rfl, rfl, sq, fy, fys, q⟩ := h
  cases rx
  cases rxs with
  | cons ry rest =>
    rename_i uy ut
    cases rest
    obtain ⟨its, rv, ⟨⟨c, dd, dat, sl⟩, n, there, isL, _, isS⟩, _⟩ := J.list sq
    simp only at isL isS
    subst isL isS
    have ec : its.toArray.toList.countP (eqU y) = ys.countP fun z => eqV z y := countP_eqU rv fys
    exact call_meets PySem.F.slot_list_count ⟨_, there, rfl⟩ PySem.F.entry_list_count (PySem.F.args_list_count_2 _ _) (SeqAt.list_countAt p its.toArray n dd sl uy (eqU y))
      ⟨there, fun z hz => mem_eqAt ry fy rv fys z (by simpa using hz), .int ((ys.countP fun z => eqV z y : Nat) : Int), H, J.tok _, ⟨st.toks, by rw [ec]⟩, q⟩
theorem ev_countF {K : PySem.W.Frag} {σ : L2.St} {H : Hp} {ta te : TE} {p : Addr} {ys : List V} {y : V} (ha : Ev ta σ H (.ref p)) (sq : H p = some (.lst ys)) (he : Ev te σ H y) (fy : flatV y = true) (fys : ys.all flatV = true) : Ev (tBM K "list" (rCntF K) ta (tCons te tNil)) σ H (.int ((ys.countP fun z => eqV z y : Nat) : Int)) := fun H1 e Q q =>
  ha H1 e _ fun H2 e2 => ⟨.inl ⟨rfl, _, sq_of (e2 p _ (e p _ sq))⟩, he H2 (e.trans e2) _ fun H3 e3 => ⟨p, ys, y, rfl, rfl, sq_of (e3 p _ (e2 p _ (e p _ sq))), fy, fys, q H3 (e2.trans e3)⟩⟩
/-- xs.index(x), by its number -/
theorem ev_indexF {K : PySem.W.Frag} {σ : L2.St} {H : Hp} {ta te : TE} {p : Addr} {ys : List V} {y : V} (j : Nat) (ha : Ev ta σ H (.ref p)) (sq : H p = some (.lst ys)) (he : Ev te σ H y) (fy : flatV y = true) (fys : ys.all flatV = true) (hj : ∃ z, ys[j]? = some z ∧ eqV z y = true) (hno : ∀ (m : Nat) (z : V), m < j → ys[m]? = some z → eqV z y = false) :
    Ev (tBM K "list" (rIndex K) ta (tCons te tNil)) σ H (.int (j : Int)) := fun H1 e Q q =>
  ha H1 e _ fun H2 e2 => ⟨.inl ⟨rfl, _, sq_of (e2 p _ (e p _ sq))⟩, he H2 (e.trans e2) _ fun H3 e3 => by
    obtain ⟨z, hz, ez⟩ := hj
    exact ⟨p, ys, y, j, z, rfl, rfl, sq_of (e3 p _ (e2 p _ (e p _ sq))), fy, fys, hz, ez, hno, q H3 (e2.trans e3)⟩⟩
end Kit

set_option Elab.async false
set_option linter.all false
set_option maxRecDepth 100000
set_option maxHeartbeats 4000000
namespace Kit
open PySem PySem.Spec PyProof.Rows L2 Evl
/-! ### sorted(xs) of a tuple of ints -/
section
variable {prog : Program} {w : World} {A : Around} {E : Value → Shared → Prop} {s : Shared}
theorem sorted_tup {a : Addr} {its : List Value} {ns : List Int} {Q : Value → Shared → Prop} (ht : s.heap.IsTuple a its.toArray) (hi : IntsAre its ns) (hz : its.length ≤ sizeLine)
    (h : ∀ (h' : Heap) (d : Addr) (out : List Value) (n : Nat), (∀ b o, s.heap.get? b = some o → h'.get? b = some o) → s.heap.get? d = none → h'.get? d = some (seqObj "list" out.toArray n) → IntsAre out (out.map SrtO.iv) → (out.map SrtO.iv).Perm ns → (out.map SrtO.iv).Pairwise (· ≤ ·) → Q (.ref d) { s with heap := h' }) :
    wpAny (model prog w) A (call (.builtin "sorted") [.ref a]) Q E s := by
  obtain ⟨o, ho, hc, n, hd⟩ := ht
  refine Calls.call_function_entry kind_sorted plain_sorted entry_sorted (args_sorted1 _) ?_
  unfold Builtin.«sorted»
  refine wpAny_bind (m := checkCount "sorted" 1 1 _) (wpAny_pure ?_)
  refine wpAny_bind (wpAny_collect_seq a (.inr rfl) ho hc hd (fun h1 k1 => ?_) (by simpa using hz))
  have e1 : s.heap.get? h1.objs.size = none := by
    cases q : s.heap.get? h1.objs.size with
    | none => rfl
    | some u => exact absurd (Heap.lt_size (k1 _ _ q)) (Nat.lt_irrefl _)
  refine wpAny_bind (wpAny_newList ?_ (by simpa using hz))
  have hoL : (h1.push (seqObj "list" its.toArray 0)).get? h1.objs.size = some (seqObj "list" its.toArray 0) := Heap.get?_push_size _ rfl
  refine wpAny_bind (wpAny_holding (wpAny_call_entry slot_list_sort ⟨_, hoL, rfl⟩ entry_list_sort (SrtO.list_sort_ord SrtO.swo_int hoL hz (fun h2 => SrtO.ints_sortable hi h2) fun out a1 a2 => ⟨_, rfl, ?_⟩) (args_list_sort _)))
  obtain ⟨b1, b2, b3⟩ := SrtO.ints_out hi a1 a2
  obtain ⟨e, he⟩ := sortedHeap_at (vs := its) (out := out.toArray) hoL
  refine wpAny_pure ⟨_, rfl, h _ _ out e (fun b u hb => ?_) e1 he b1 b2 b3⟩
  have lt1 := Heap.lt_size (k1 _ _ hb)
  rw [sortedHeap_old (Nat.ne_of_lt lt1) (by rw [size_push']; exact Nat.lt_succ_of_lt lt1)]
  exact Heap.get?_push_of_some _ (k1 _ _ hb)
end
def rSortedTu (K : PySem.W.Frag) : List V → Hp → VK → Prop := fun vs H Q => ∃ (a : Addr) (ns : List Int), vs = [V.ref a] ∧ SqT K H a (ns.map V.int) ∧
  ∀ (ns' : List Int) (p : Addr), ns'.Perm ns → ns'.Pairwise (· ≤ ·) → H p = none → Q (.ref p) (upd H p (.lst (ns'.map V.int)))
section
variable {X : Cx}
theorem cr_sortedTu : CallR X (.builtin "sorted") (rSortedTu X.K) := by
  intro pins s σ H vs us Q I r h
  obtain ⟨a, ns, rfl, hs, q⟩ := h
  obtain ⟨its, rv, ht, hz⟩ := I.tuple hs
  rw [Vals.ref1 r]
  refine sorted_tup ht rv.ints (by rw [← rv.length]; exact hz) fun h' d out n k le hd b1 b2 b3 => ?_
  have hlen : ((out.map SrtO.iv).map V.int).length ≤ sizeLine := by
    rw [List.length_map, b2.length_eq]
    rw [List.length_map] at hz
    exact hz
  exact ⟨.ref d, upd H d (.lst ((out.map SrtO.iv).map V.int)), I.laidN (t' := s.toks) k le (I.hok.gone le) ⟨hlen, out, n, vals_of_ints b1, hd⟩, rfl, q _ _ b2 b3 (I.hok.gone le)⟩
end
/-- sorted(xs), told by what it is -/
theorem el_sortedTu {K : PySem.W.Frag} {σ : L2.St} {H : Hp} {ta : TE} {b : Addr} {ns ms : List Int} (h : Ev ta σ H (.ref b)) (hb : H b = some (.tup (ns.map V.int))) (hm : ms.Perm ns) (hs : ms.Pairwise (· ≤ ·)) : EvL (tCB (rSortedTu K) (tCons ta tNil)) σ H (ms.map V.int) := fun H1 e Q q => h H1 e _ fun H2 e2 =>
  ⟨b, ns, rfl, st_of (e2 b _ (e b _ hb)), fun ns' l pm so new => by
    have eq : ns' = ms := List.Perm.eq_of_pairwise (le := fun a b : Int => a ≤ b) (fun a b _ _ h1 h2 => Int.le_antisymm h1 h2) so hs (pm.trans hm.symm)
    subst eq
    exact q l _ (fresh_back e2 new) (e2.trans (Ex.new new)) upd_same⟩
end Kit

namespace K17
open PySem PySem.Spec PyProof.Rows L2 Evl Kit
def topS (i : Nat) : Stmt := PySem.Challenge.pw_newtables_k17_whole_renamed_and_turned.main.body.getD i (.Pass ⟨0, 0, 0, 0⟩)
abbrev s_is_whole : Stmt := topS 15
abbrev n_is_whole : List Str := ["thing"]
theorem sc_is_whole : FnScope n_is_whole ["thing"] (defScope s_is_whole) := ⟨rfl, rfl, rfl, by decide +kernel, rfl, by decide +kernel, by decide +kernel⟩
abbrev s_is_within : Stmt := topS 16
abbrev n_is_within : List Str := ["thing", "least", "most"]
theorem sc_is_within : FnScope n_is_within ["thing", "least", "most"] (defScope s_is_within) := ⟨rfl, rfl, rfl, by decide +kernel, rfl, by decide +kernel, by decide +kernel⟩
abbrev s_is_order : Stmt := topS 17
abbrev n_is_order : List Str := ["thing", "item"]
theorem sc_is_order : FnScope n_is_order ["thing"] (defScope s_is_order) := ⟨rfl, rfl, rfl, by decide +kernel, rfl, by decide +kernel, by decide +kernel⟩
abbrev s_check_guests : Stmt := topS 18
abbrev n_check_guests : List Str := ["guests"]
theorem sc_check_guests : FnScope n_check_guests ["guests"] (defScope s_check_guests) := ⟨rfl, rfl, rfl, by decide +kernel, rfl, by decide +kernel, by decide +kernel⟩
abbrev s_check_weight : Stmt := topS 19
abbrev n_check_weight : List Str := ["weight"]
theorem sc_check_weight : FnScope n_check_weight ["weight"] (defScope s_check_weight) := ⟨rfl, rfl, rfl, by decide +kernel, rfl, by decide +kernel, by decide +kernel⟩
abbrev s_check_guest : Stmt := topS 20
abbrev n_check_guest : List Str := ["guest", "guests"]
theorem sc_check_guest : FnScope n_check_guest ["guest", "guests"] (defScope s_check_guest) := ⟨rfl, rfl, rfl, by decide +kernel, rfl, by decide +kernel, by decide +kernel⟩
abbrev s_check_any_number : Stmt := topS 21
abbrev n_check_any_number : List Str := ["number"]
theorem sc_check_any_number : FnScope n_check_any_number ["number"] (defScope s_check_any_number) := ⟨rfl, rfl, rfl, by decide +kernel, rfl, by decide +kernel, by decide +kernel⟩
abbrev s_check_index : Stmt := topS 22
abbrev n_check_index : List Str := ["index", "many"]
theorem sc_check_index : FnScope n_check_index ["index", "many"] (defScope s_check_index) := ⟨rfl, rfl, rfl, by decide +kernel, rfl, by decide +kernel, by decide +kernel⟩
abbrev s_raised : Stmt := topS 23
abbrev n_raised : List Str := ["base", "times", "total", "_"]
theorem sc_raised : FnScope n_raised ["base", "times"] (defScope s_raised) := ⟨rfl, rfl, rfl, by decide +kernel, rfl, by decide +kernel, by decide +kernel⟩
abbrev s_rising : Stmt := topS 24
abbrev n_rising : List Str := ["weight", "guests", "total", "guest"]
theorem sc_rising : FnScope n_rising ["weight", "guests"] (defScope s_rising) := ⟨rfl, rfl, rfl, by decide +kernel, rfl, by decide +kernel, by decide +kernel⟩
abbrev s_fraction : Stmt := topS 25
abbrev n_fraction : List Str := ["top", "bottom", "common"]
theorem sc_fraction : FnScope n_fraction ["top", "bottom"] (defScope s_fraction) := ⟨rfl, rfl, rfl, by decide +kernel, rfl, by decide +kernel, by decide +kernel⟩
abbrev s_is_seating : Stmt := topS 27
abbrev n_is_seating : List Str := ["thing"]
theorem sc_is_seating : FnScope n_is_seating ["thing"] (defScope s_is_seating) := ⟨rfl, rfl, rfl, by decide +kernel, rfl, by decide +kernel, by decide +kernel⟩
abbrev s_tables_of : Stmt := topS 28
abbrev n_tables_of : List Str := ["seating"]
theorem sc_tables_of : FnScope n_tables_of ["seating"] (defScope s_tables_of) := ⟨rfl, rfl, rfl, by decide +kernel, rfl, by decide +kernel, by decide +kernel⟩
abbrev s_seating_of : Stmt := topS 29
abbrev n_seating_of : List Str := ["tables"]
theorem sc_seating_of : FnScope n_seating_of ["tables"] (defScope s_seating_of) := ⟨rfl, rfl, rfl, by decide +kernel, rfl, by decide +kernel, by decide +kernel⟩
abbrev s_table_from : Stmt := topS 30
abbrev n_table_from : List Str := ["seating", "guest"]
theorem sc_table_from : FnScope n_table_from ["seating", "guest"] (defScope s_table_from) := ⟨rfl, rfl, rfl, by decide +kernel, rfl, by decide +kernel, by decide +kernel⟩
abbrev s_right_of : Stmt := topS 31
abbrev n_right_of : List Str := ["seating", "guest"]
theorem sc_right_of : FnScope n_right_of ["seating", "guest"] (defScope s_right_of) := ⟨rfl, rfl, rfl, by decide +kernel, rfl, by decide +kernel, by decide +kernel⟩
abbrev s_steps_left : Stmt := topS 32
abbrev n_steps_left : List Str := ["seating", "guest", "number", "table"]
theorem sc_steps_left : FnScope n_steps_left ["seating", "guest", "number"] (defScope s_steps_left) := ⟨rfl, rfl, rfl, by decide +kernel, rfl, by decide +kernel, by decide +kernel⟩
abbrev s_are_together : Stmt := topS 33
abbrev n_are_together : List Str := ["seating", "guest", "mate"]
theorem sc_are_together : FnScope n_are_together ["seating", "guest", "mate"] (defScope s_are_together) := ⟨rfl, rfl, rfl, by decide +kernel, rfl, by decide +kernel, by decide +kernel⟩
abbrev s_mirrored : Stmt := topS 34
abbrev n_mirrored : List Str := ["seating", "guest"]
theorem sc_mirrored : FnScope n_mirrored ["seating"] (defScope s_mirrored) := ⟨rfl, rfl, rfl, by decide +kernel, rfl, by decide +kernel, by decide +kernel⟩
abbrev s_renamed : Stmt := topS 35
abbrev n_renamed : List Str := ["seating", "names", "renewed", "guest", "left"]
theorem sc_renamed : FnScope n_renamed ["seating", "names"] (defScope s_renamed) := ⟨rfl, rfl, rfl, by decide +kernel, rfl, by decide +kernel, by decide +kernel⟩
abbrev s_record_list : Stmt := topS 36
abbrev n_record_list : List Str := ["seating", "table", "guest"]
theorem sc_record_list : FnScope n_record_list ["seating"] (defScope s_record_list) := ⟨rfl, rfl, rfl, by decide +kernel, rfl, by decide +kernel, by decide +kernel⟩
abbrev s_seating_of_records : Stmt := topS 37
abbrev n_seating_of_records : List Str := ["names", "tables", "guest"]
theorem sc_seating_of_records : FnScope n_seating_of_records ["names"] (defScope s_seating_of_records) := ⟨rfl, rfl, rfl, by decide +kernel, rfl, by decide +kernel, by decide +kernel⟩
abbrev s_check_seating : Stmt := topS 38
abbrev n_check_seating : List Str := ["seating"]
theorem sc_check_seating : FnScope n_check_seating ["seating"] (defScope s_check_seating) := ⟨rfl, rfl, rfl, by decide +kernel, rfl, by decide +kernel, by decide +kernel⟩
abbrev s_check_names : Stmt := topS 39
abbrev n_check_names : List Str := ["names"]
theorem sc_check_names : FnScope n_check_names ["names"] (defScope s_check_names) := ⟨rfl, rfl, rfl, by decide +kernel, rfl, by decide +kernel, by decide +kernel⟩
abbrev s_are_tables : Stmt := topS 40
abbrev n_are_tables : List Str := ["thing", "table", "openers", "guest"]
theorem sc_are_tables : FnScope n_are_tables ["thing"] (defScope s_are_tables) := ⟨rfl, rfl, rfl, by decide +kernel, rfl, by decide +kernel, by decide +kernel⟩
abbrev s_is_table : Stmt := topS 41
abbrev n_is_table : List Str := ["thing", "guest"]
theorem sc_is_table : FnScope n_is_table ["thing"] (defScope s_is_table) := ⟨rfl, rfl, rfl, by decide +kernel, rfl, by decide +kernel, by decide +kernel⟩
abbrev s_walk_left : Stmt := topS 42
abbrev n_walk_left : List Str := ["lefts", "guest", "walk"]
theorem sc_walk_left : FnScope n_walk_left ["lefts", "guest"] (defScope s_walk_left) := ⟨rfl, rfl, rfl, by decide +kernel, rfl, by decide +kernel, by decide +kernel⟩
abbrev s_tables_among : Stmt := topS 43
abbrev n_tables_among : List Str := ["lefts", "guests", "guest", "walks", "walk"]
theorem sc_tables_among : FnScope n_tables_among ["lefts", "guests"] (defScope s_tables_among) := ⟨rfl, rfl, rfl, by decide +kernel, rfl, by decide +kernel, by decide +kernel⟩
abbrev s_seating_with : Stmt := topS 44
abbrev n_seating_with : List Str := ["tables", "table", "seating", "at", "guest"]
theorem sc_seating_with : FnScope n_seating_with ["tables"] (defScope s_seating_with) := ⟨rfl, rfl, rfl, by decide +kernel, rfl, by decide +kernel, by decide +kernel⟩
abbrev s_seating_share : Stmt := topS 46
abbrev n_seating_share : List Str := ["seating", "weight", "tables"]
theorem sc_seating_share : FnScope n_seating_share ["seating", "weight"] (defScope s_seating_share) := ⟨rfl, rfl, rfl, by decide +kernel, rfl, by decide +kernel, by decide +kernel⟩
abbrev s_nth_seating : Stmt := topS 48
abbrev n_nth_seating : List Str := ["guests", "index", "free", "seating", "at"]
theorem sc_nth_seating : FnScope n_nth_seating ["guests", "index"] (defScope s_nth_seating) := ⟨rfl, rfl, rfl, by decide +kernel, rfl, by decide +kernel, by decide +kernel⟩
abbrev s_seating_index : Stmt := topS 49
abbrev n_seating_index : List Str := ["seating", "free", "index", "left", "at"]
theorem sc_seating_index : FnScope n_seating_index ["seating"] (defScope s_seating_index) := ⟨rfl, rfl, rfl, by decide +kernel, rfl, by decide +kernel, by decide +kernel⟩
abbrev s_count_sizes : Stmt := topS 51
abbrev n_count_sizes : List Str := ["sizes"]
theorem sc_count_sizes : FnScope n_count_sizes ["sizes"] (defScope s_count_sizes) := ⟨rfl, rfl, rfl, by decide +kernel, rfl, by decide +kernel, by decide +kernel⟩
abbrev s_sizes_share : Stmt := topS 52
abbrev n_sizes_share : List Str := ["sizes", "weight"]
theorem sc_sizes_share : FnScope n_sizes_share ["sizes", "weight"] (defScope s_sizes_share) := ⟨rfl, rfl, rfl, by decide +kernel, rfl, by decide +kernel, by decide +kernel⟩
abbrev s_index_with_sizes : Stmt := topS 53
abbrev n_index_with_sizes : List Str := ["seating", "tables", "table", "rest", "free", "index", "guest"]
theorem sc_index_with_sizes : FnScope n_index_with_sizes ["seating"] (defScope s_index_with_sizes) := ⟨rfl, rfl, rfl, by decide +kernel, rfl, by decide +kernel, by decide +kernel⟩
abbrev s_check_sizes : Stmt := topS 54
abbrev n_check_sizes : List Str := ["sizes"]
theorem sc_check_sizes : FnScope n_check_sizes ["sizes"] (defScope s_check_sizes) := ⟨rfl, rfl, rfl, by decide +kernel, rfl, by decide +kernel, by decide +kernel⟩
abbrev s_are_sizes : Stmt := topS 55
abbrev n_are_sizes : List Str := ["thing", "item"]
theorem sc_are_sizes : FnScope n_are_sizes ["thing"] (defScope s_are_sizes) := ⟨rfl, rfl, rfl, by decide +kernel, rfl, by decide +kernel, by decide +kernel⟩
abbrev s_ways_with_sizes : Stmt := topS 56
abbrev n_ways_with_sizes : List Str := ["sizes", "bottom", "at", "size"]
theorem sc_ways_with_sizes : FnScope n_ways_with_sizes ["sizes"] (defScope s_ways_with_sizes) := ⟨rfl, rfl, rfl, by decide +kernel, rfl, by decide +kernel, by decide +kernel⟩
abbrev s_share_of_ways : Stmt := topS 57
abbrev n_share_of_ways : List Str := ["ways", "sizes", "weight"]
theorem sc_share_of_ways : FnScope n_share_of_ways ["ways", "sizes", "weight"] (defScope s_share_of_ways) := ⟨rfl, rfl, rfl, by decide +kernel, rfl, by decide +kernel, by decide +kernel⟩
abbrev s_ways_behind_sizes : Stmt := topS 58
abbrev n_ways_behind_sizes : List Str := ["sizes", "ways", "size", "rest"]
theorem sc_ways_behind_sizes : FnScope n_ways_behind_sizes ["sizes"] (defScope s_ways_behind_sizes) := ⟨rfl, rfl, rfl, by decide +kernel, rfl, by decide +kernel, by decide +kernel⟩
abbrev s_index_of_table : Stmt := topS 59
abbrev n_index_of_table : List Str := ["free", "behind", "table", "others", "index", "length", "at"]
theorem sc_index_of_table : FnScope n_index_of_table ["free", "behind", "table"] (defScope s_index_of_table) := ⟨rfl, rfl, rfl, by decide +kernel, rfl, by decide +kernel, by decide +kernel⟩
abbrev s_ways_to_go_on : Stmt := topS 60
abbrev n_ways_to_go_on : List Str := ["length", "many", "behind", "size", "ways"]
theorem sc_ways_to_go_on : FnScope n_ways_to_go_on ["length", "many", "behind"] (defScope s_ways_to_go_on) := ⟨rfl, rfl, rfl, by decide +kernel, rfl, by decide +kernel, by decide +kernel⟩
abbrev s_law_pouch : Stmt := topS 62
abbrev n_law_pouch : List Str := ["script", "at", "cell"]
theorem sc_law_pouch : FnScope n_law_pouch ["script", "at"] (defScope s_law_pouch) := ⟨rfl, rfl, rfl, by decide +kernel, rfl, by decide +kernel, by decide +kernel⟩
abbrev s_law_dip : Stmt := topS 63
abbrev n_law_dip : List Str := ["pouch", "wide", "taken", "mixed"]
theorem sc_law_dip : FnScope n_law_dip ["pouch", "wide"] (defScope s_law_dip) := ⟨rfl, rfl, rfl, by decide +kernel, rfl, by decide +kernel, by decide +kernel⟩
abbrev s_law_entries : Stmt := topS 64
abbrev n_law_entries : List Str := ["pouch", "many", "style", "found", "one", "some", "pick"]
theorem sc_law_entries : FnScope n_law_entries ["pouch", "many"] (defScope s_law_entries) := ⟨rfl, rfl, rfl, by decide +kernel, rfl, by decide +kernel, by decide +kernel⟩
abbrev s_law_rings : Stmt := topS 65
abbrev n_law_rings : List Str := ["entries", "rings", "one", "pal", "ring"]
theorem sc_law_rings : FnScope n_law_rings ["entries"] (defScope s_law_rings) := ⟨rfl, rfl, rfl, by decide +kernel, rfl, by decide +kernel, by decide +kernel⟩
abbrev s_law_seat : Stmt := topS 66
abbrev n_law_seat : List Str := ["rings", "near", "ring", "k", "one"]
theorem sc_law_seat : FnScope n_law_seat ["rings"] (defScope s_law_seat) := ⟨rfl, rfl, rfl, by decide +kernel, rfl, by decide +kernel, by decide +kernel⟩
abbrev s_law_heavy : Stmt := topS 67
abbrev n_law_heavy : List Str := ["pouch"]
theorem sc_law_heavy : FnScope n_law_heavy ["pouch"] (defScope s_law_heavy) := ⟨rfl, rfl, rfl, by decide +kernel, rfl, by decide +kernel, by decide +kernel⟩
abbrev s_law_rise : Stmt := topS 68
abbrev n_law_rise : List Str := ["heavy", "many", "found", "turn"]
theorem sc_law_rise : FnScope n_law_rise ["heavy", "many"] (defScope s_law_rise) := ⟨rfl, rfl, rfl, by decide +kernel, rfl, by decide +kernel, by decide +kernel⟩
abbrev s_law_inverse : Stmt := topS 69
abbrev n_law_inverse : List Str := ["row", "one"]
theorem sc_law_inverse : FnScope n_law_inverse ["row"] (defScope s_law_inverse) := ⟨rfl, rfl, rfl, by decide +kernel, rfl, by decide +kernel, by decide +kernel⟩
abbrev s_law_named_right : Stmt := topS 70
abbrev n_law_named_right : List Str := ["pouch", "hall", "fresh", "heavy", "many", "later", "back", "one", "ring", "turned_here", "turn", "far", "pal", "more"]
theorem sc_law_named_right : FnScope n_law_named_right ["pouch", "hall", "fresh", "heavy"] (defScope s_law_named_right) := ⟨rfl, rfl, rfl, by decide +kernel, rfl, by decide +kernel, by decide +kernel⟩
abbrev s_law_turned_right : Stmt := topS 71
abbrev n_law_turned_right : List Str := ["pouch", "hall", "heavy", "many", "back", "ring", "one", "low", "high"]
theorem sc_law_turned_right : FnScope n_law_turned_right ["pouch", "hall", "heavy"] (defScope s_law_turned_right) := ⟨rfl, rfl, rfl, by decide +kernel, rfl, by decide +kernel, by decide +kernel⟩
abbrev s_law_lists_right : Stmt := topS 72
abbrev n_law_lists_right : List Str := ["hall", "heavy", "rings", "ring", "wide", "top", "bottom", "whole", "under"]
theorem sc_law_lists_right : FnScope n_law_lists_right ["hall", "heavy"] (defScope s_law_lists_right) := ⟨rfl, rfl, rfl, by decide +kernel, rfl, by decide +kernel, by decide +kernel⟩
abbrev s_law : Stmt := topS 73
abbrev n_law : List Str := ["script", "at", "pouch", "many", "hall", "heavy", "fresh", "kept"]
theorem sc_law : FnScope n_law ["script"] (defScope s_law) := ⟨rfl, rfl, rfl, by decide +kernel, rfl, by decide +kernel, by decide +kernel⟩
/-! what the top has written -/
structure Tx (K : PySem.W.Frag) (mg : Str → Option Value) where
  f_is_whole : Addr
  d_is_whole : FuncData
  F_is_whole : Fun K "is_whole" "is_whole" s_is_whole f_is_whole d_is_whole
  g_is_whole : mg "is_whole" = some (.ref f_is_whole)
  b_is_whole : Binds K d_is_whole ["thing"] []
  f_is_within : Addr
  d_is_within : FuncData
  F_is_within : Fun K "is_within" "is_within" s_is_within f_is_within d_is_within
  g_is_within : mg "is_within" = some (.ref f_is_within)
  b_is_within : Binds K d_is_within ["thing", "least", "most"] []
  f_is_order : Addr
  d_is_order : FuncData
  F_is_order : Fun K "is_order" "is_order" s_is_order f_is_order d_is_order
  g_is_order : mg "is_order" = some (.ref f_is_order)
  b_is_order : Binds K d_is_order ["thing"] []
  f_check_guests : Addr
  d_check_guests : FuncData
  F_check_guests : Fun K "check_guests" "check_guests" s_check_guests f_check_guests d_check_guests
  g_check_guests : mg "check_guests" = some (.ref f_check_guests)
  b_check_guests : Binds K d_check_guests ["guests"] []
  f_check_weight : Addr
  d_check_weight : FuncData
  F_check_weight : Fun K "check_weight" "check_weight" s_check_weight f_check_weight d_check_weight
  g_check_weight : mg "check_weight" = some (.ref f_check_weight)
  b_check_weight : Binds K d_check_weight ["weight"] []
  f_check_guest : Addr
  d_check_guest : FuncData
  F_check_guest : Fun K "check_guest" "check_guest" s_check_guest f_check_guest d_check_guest
  g_check_guest : mg "check_guest" = some (.ref f_check_guest)
  b_check_guest : Binds K d_check_guest ["guest", "guests"] []
  f_check_any_number : Addr
  d_check_any_number : FuncData
  F_check_any_number : Fun K "check_any_number" "check_any_number" s_check_any_number f_check_any_number d_check_any_number
  g_check_any_number : mg "check_any_number" = some (.ref f_check_any_number)
  b_check_any_number : Binds K d_check_any_number ["number"] []
  f_check_index : Addr
  d_check_index : FuncData
  F_check_index : Fun K "check_index" "check_index" s_check_index f_check_index d_check_index
  g_check_index : mg "check_index" = some (.ref f_check_index)
  b_check_index : Binds K d_check_index ["index", "many"] []
  f_raised : Addr
  d_raised : FuncData
  F_raised : Fun K "raised" "raised" s_raised f_raised d_raised
  g_raised : mg "raised" = some (.ref f_raised)
  b_raised : Binds K d_raised ["base", "times"] []
  f_rising : Addr
  d_rising : FuncData
  F_rising : Fun K "rising" "rising" s_rising f_rising d_rising
  g_rising : mg "rising" = some (.ref f_rising)
  b_rising : Binds K d_rising ["weight", "guests"] []
  f_fraction : Addr
  d_fraction : FuncData
  F_fraction : Fun K "fraction" "fraction" s_fraction f_fraction d_fraction
  g_fraction : mg "fraction" = some (.ref f_fraction)
  b_fraction : Binds K d_fraction ["top", "bottom"] []
  f_is_seating : Addr
  d_is_seating : FuncData
  F_is_seating : Fun K "is_seating" "is_seating" s_is_seating f_is_seating d_is_seating
  g_is_seating : mg "is_seating" = some (.ref f_is_seating)
  b_is_seating : Binds K d_is_seating ["thing"] []
  f_tables_of : Addr
  d_tables_of : FuncData
  F_tables_of : Fun K "tables_of" "tables_of" s_tables_of f_tables_of d_tables_of
  g_tables_of : mg "tables_of" = some (.ref f_tables_of)
  b_tables_of : Binds K d_tables_of ["seating"] []
  f_seating_of : Addr
  d_seating_of : FuncData
  F_seating_of : Fun K "seating_of" "seating_of" s_seating_of f_seating_of d_seating_of
  g_seating_of : mg "seating_of" = some (.ref f_seating_of)
  b_seating_of : Binds K d_seating_of ["tables"] []
  f_table_from : Addr
  d_table_from : FuncData
  F_table_from : Fun K "table_from" "table_from" s_table_from f_table_from d_table_from
  g_table_from : mg "table_from" = some (.ref f_table_from)
  b_table_from : Binds K d_table_from ["seating", "guest"] []
  f_right_of : Addr
  d_right_of : FuncData
  F_right_of : Fun K "right_of" "right_of" s_right_of f_right_of d_right_of
  g_right_of : mg "right_of" = some (.ref f_right_of)
  b_right_of : Binds K d_right_of ["seating", "guest"] []
  f_steps_left : Addr
  d_steps_left : FuncData
  F_steps_left : Fun K "steps_left" "steps_left" s_steps_left f_steps_left d_steps_left
  g_steps_left : mg "steps_left" = some (.ref f_steps_left)
  b_steps_left : Binds K d_steps_left ["seating", "guest", "number"] []
  f_are_together : Addr
  d_are_together : FuncData
  F_are_together : Fun K "are_together" "are_together" s_are_together f_are_together d_are_together
  g_are_together : mg "are_together" = some (.ref f_are_together)
  b_are_together : Binds K d_are_together ["seating", "guest", "mate"] []
  f_mirrored : Addr
  d_mirrored : FuncData
  F_mirrored : Fun K "mirrored" "mirrored" s_mirrored f_mirrored d_mirrored
  g_mirrored : mg "mirrored" = some (.ref f_mirrored)
  b_mirrored : Binds K d_mirrored ["seating"] []
  f_renamed : Addr
  d_renamed : FuncData
  F_renamed : Fun K "renamed" "renamed" s_renamed f_renamed d_renamed
  g_renamed : mg "renamed" = some (.ref f_renamed)
  b_renamed : Binds K d_renamed ["seating", "names"] []
  f_record_list : Addr
  d_record_list : FuncData
  F_record_list : Fun K "record_list" "record_list" s_record_list f_record_list d_record_list
  g_record_list : mg "record_list" = some (.ref f_record_list)
  b_record_list : Binds K d_record_list ["seating"] []
  f_seating_of_records : Addr
  d_seating_of_records : FuncData
  F_seating_of_records : Fun K "seating_of_records" "seating_of_records" s_seating_of_records f_seating_of_records d_seating_of_records
  g_seating_of_records : mg "seating_of_records" = some (.ref f_seating_of_records)
  b_seating_of_records : Binds K d_seating_of_records ["names"] []
  f_check_seating : Addr
  d_check_seating : FuncData
  F_check_seating : Fun K "check_seating" "check_seating" s_check_seating f_check_seating d_check_seating
  g_check_seating : mg "check_seating" = some (.ref f_check_seating)
  b_check_seating : Binds K d_check_seating ["seating"] []
  f_check_names : Addr
  d_check_names : FuncData
  F_check_names : Fun K "check_names" "check_names" s_check_names f_check_names d_check_names
  g_check_names : mg "check_names" = some (.ref f_check_names)
  b_check_names : Binds K d_check_names ["names"] []
  f_are_tables : Addr
  d_are_tables : FuncData
  F_are_tables : Fun K "are_tables" "are_tables" s_are_tables f_are_tables d_are_tables
  g_are_tables : mg "are_tables" = some (.ref f_are_tables)
  b_are_tables : Binds K d_are_tables ["thing"] []
  f_is_table : Addr
  d_is_table : FuncData
  F_is_table : Fun K "is_table" "is_table" s_is_table f_is_table d_is_table
  g_is_table : mg "is_table" = some (.ref f_is_table)
  b_is_table : Binds K d_is_table ["thing"] []
  f_walk_left : Addr
  d_walk_left : FuncData
  F_walk_left : Fun K "walk_left" "walk_left" s_walk_left f_walk_left d_walk_left
  g_walk_left : mg "walk_left" = some (.ref f_walk_left)
  b_walk_left : Binds K d_walk_left ["lefts", "guest"] []
  f_tables_among : Addr
  d_tables_among : FuncData
  F_tables_among : Fun K "tables_among" "tables_among" s_tables_among f_tables_among d_tables_among
  g_tables_among : mg "tables_among" = some (.ref f_tables_among)
  b_tables_among : Binds K d_tables_among ["lefts", "guests"] []
  f_seating_with : Addr
  d_seating_with : FuncData
  F_seating_with : Fun K "seating_with" "seating_with" s_seating_with f_seating_with d_seating_with
  g_seating_with : mg "seating_with" = some (.ref f_seating_with)
  b_seating_with : Binds K d_seating_with ["tables"] []
  f_seating_share : Addr
  d_seating_share : FuncData
  F_seating_share : Fun K "seating_share" "seating_share" s_seating_share f_seating_share d_seating_share
  g_seating_share : mg "seating_share" = some (.ref f_seating_share)
  b_seating_share : Binds K d_seating_share ["seating", "weight"] []
  f_nth_seating : Addr
  d_nth_seating : FuncData
  F_nth_seating : Fun K "nth_seating" "nth_seating" s_nth_seating f_nth_seating d_nth_seating
  g_nth_seating : mg "nth_seating" = some (.ref f_nth_seating)
  b_nth_seating : Binds K d_nth_seating ["guests", "index"] []
  f_seating_index : Addr
  d_seating_index : FuncData
  F_seating_index : Fun K "seating_index" "seating_index" s_seating_index f_seating_index d_seating_index
  g_seating_index : mg "seating_index" = some (.ref f_seating_index)
  b_seating_index : Binds K d_seating_index ["seating"] []
  f_count_sizes : Addr
  d_count_sizes : FuncData
  F_count_sizes : Fun K "count_sizes" "count_sizes" s_count_sizes f_count_sizes d_count_sizes
  g_count_sizes : mg "count_sizes" = some (.ref f_count_sizes)
  b_count_sizes : Binds K d_count_sizes ["sizes"] []
  f_sizes_share : Addr
  d_sizes_share : FuncData
  F_sizes_share : Fun K "sizes_share" "sizes_share" s_sizes_share f_sizes_share d_sizes_share
  g_sizes_share : mg "sizes_share" = some (.ref f_sizes_share)
  b_sizes_share : Binds K d_sizes_share ["sizes", "weight"] []
  f_index_with_sizes : Addr
  d_index_with_sizes : FuncData
  F_index_with_sizes : Fun K "index_with_sizes" "index_with_sizes" s_index_with_sizes f_index_with_sizes d_index_with_sizes
  g_index_with_sizes : mg "index_with_sizes" = some (.ref f_index_with_sizes)
  b_index_with_sizes : Binds K d_index_with_sizes ["seating"] []
  f_check_sizes : Addr
  d_check_sizes : FuncData
  F_check_sizes : Fun K "check_sizes" "check_sizes" s_check_sizes f_check_sizes d_check_sizes
  g_check_sizes : mg "check_sizes" = some (.ref f_check_sizes)
  b_check_sizes : Binds K d_check_sizes ["sizes"] []
  f_are_sizes : Addr
  d_are_sizes : FuncData
  F_are_sizes : Fun K "are_sizes" "are_sizes" s_are_sizes f_are_sizes d_are_sizes
  g_are_sizes : mg "are_sizes" = some (.ref f_are_sizes)
  b_are_sizes : Binds K d_are_sizes ["thing"] []
  f_ways_with_sizes : Addr
  d_ways_with_sizes : FuncData
  F_ways_with_sizes : Fun K "ways_with_sizes" "ways_with_sizes" s_ways_with_sizes f_ways_with_sizes d_ways_with_sizes
  g_ways_with_sizes : mg "ways_with_sizes" = some (.ref f_ways_with_sizes)
  b_ways_with_sizes : Binds K d_ways_with_sizes ["sizes"] []
  f_share_of_ways : Addr
  d_share_of_ways : FuncData
  F_share_of_ways : Fun K "share_of_ways" "share_of_ways" s_share_of_ways f_share_of_ways d_share_of_ways
  g_share_of_ways : mg "share_of_ways" = some (.ref f_share_of_ways)
  b_share_of_ways : Binds K d_share_of_ways ["ways", "sizes", "weight"] []
  f_ways_behind_sizes : Addr
  d_ways_behind_sizes : FuncData
  F_ways_behind_sizes : Fun K "ways_behind_sizes" "ways_behind_sizes" s_ways_behind_sizes f_ways_behind_sizes d_ways_behind_sizes
  g_ways_behind_sizes : mg "ways_behind_sizes" = some (.ref f_ways_behind_sizes)
  b_ways_behind_sizes : Binds K d_ways_behind_sizes ["sizes"] []
  f_index_of_table : Addr
  d_index_of_table : FuncData
  F_index_of_table : Fun K "index_of_table" "index_of_table" s_index_of_table f_index_of_table d_index_of_table
  g_index_of_table : mg "index_of_table" = some (.ref f_index_of_table)
  b_index_of_table : Binds K d_index_of_table ["free", "behind", "table"] []
  f_ways_to_go_on : Addr
  d_ways_to_go_on : FuncData
  F_ways_to_go_on : Fun K "ways_to_go_on" "ways_to_go_on" s_ways_to_go_on f_ways_to_go_on d_ways_to_go_on
  g_ways_to_go_on : mg "ways_to_go_on" = some (.ref f_ways_to_go_on)
  b_ways_to_go_on : Binds K d_ways_to_go_on ["length", "many", "behind"] []
  f_law_pouch : Addr
  d_law_pouch : FuncData
  F_law_pouch : Fun K "_law_pouch" "_law_pouch" s_law_pouch f_law_pouch d_law_pouch
  g_law_pouch : mg "_law_pouch" = some (.ref f_law_pouch)
  b_law_pouch : Binds K d_law_pouch ["script", "at"] []
  f_law_dip : Addr
  d_law_dip : FuncData
  F_law_dip : Fun K "_law_dip" "_law_dip" s_law_dip f_law_dip d_law_dip
  g_law_dip : mg "_law_dip" = some (.ref f_law_dip)
  b_law_dip : Binds K d_law_dip ["pouch", "wide"] []
  f_law_entries : Addr
  d_law_entries : FuncData
  F_law_entries : Fun K "_law_entries" "_law_entries" s_law_entries f_law_entries d_law_entries
  g_law_entries : mg "_law_entries" = some (.ref f_law_entries)
  b_law_entries : Binds K d_law_entries ["pouch", "many"] []
  f_law_rings : Addr
  d_law_rings : FuncData
  F_law_rings : Fun K "_law_rings" "_law_rings" s_law_rings f_law_rings d_law_rings
  g_law_rings : mg "_law_rings" = some (.ref f_law_rings)
  b_law_rings : Binds K d_law_rings ["entries"] []
  f_law_seat : Addr
  d_law_seat : FuncData
  F_law_seat : Fun K "_law_seat" "_law_seat" s_law_seat f_law_seat d_law_seat
  g_law_seat : mg "_law_seat" = some (.ref f_law_seat)
  b_law_seat : Binds K d_law_seat ["rings"] []
  f_law_heavy : Addr
  d_law_heavy : FuncData
  F_law_heavy : Fun K "_law_heavy" "_law_heavy" s_law_heavy f_law_heavy d_law_heavy
  g_law_heavy : mg "_law_heavy" = some (.ref f_law_heavy)
  b_law_heavy : Binds K d_law_heavy ["pouch"] []
  f_law_rise : Addr
  d_law_rise : FuncData
  F_law_rise : Fun K "_law_rise" "_law_rise" s_law_rise f_law_rise d_law_rise
  g_law_rise : mg "_law_rise" = some (.ref f_law_rise)
  b_law_rise : Binds K d_law_rise ["heavy", "many"] []
  f_law_inverse : Addr
  d_law_inverse : FuncData
  F_law_inverse : Fun K "_law_inverse" "_law_inverse" s_law_inverse f_law_inverse d_law_inverse
  g_law_inverse : mg "_law_inverse" = some (.ref f_law_inverse)
  b_law_inverse : Binds K d_law_inverse ["row"] []
  f_law_named_right : Addr
  d_law_named_right : FuncData
  F_law_named_right : Fun K "_law_named_right" "_law_named_right" s_law_named_right f_law_named_right d_law_named_right
  g_law_named_right : mg "_law_named_right" = some (.ref f_law_named_right)
  b_law_named_right : Binds K d_law_named_right ["pouch", "hall", "fresh", "heavy"] []
  f_law_turned_right : Addr
  d_law_turned_right : FuncData
  F_law_turned_right : Fun K "_law_turned_right" "_law_turned_right" s_law_turned_right f_law_turned_right d_law_turned_right
  g_law_turned_right : mg "_law_turned_right" = some (.ref f_law_turned_right)
  b_law_turned_right : Binds K d_law_turned_right ["pouch", "hall", "heavy"] []
  f_law_lists_right : Addr
  d_law_lists_right : FuncData
  F_law_lists_right : Fun K "_law_lists_right" "_law_lists_right" s_law_lists_right f_law_lists_right d_law_lists_right
  g_law_lists_right : mg "_law_lists_right" = some (.ref f_law_lists_right)
  b_law_lists_right : Binds K d_law_lists_right ["hall", "heavy"] []
  f_law : Addr
  d_law : FuncData
  F_law : Fun K "law" "law" s_law f_law d_law
  g_law : mg "law" = some (.ref f_law)
  b_law : Binds K d_law ["script"] []
  m_abs : mg "abs" = none
  m_all : mg "all" = none
  m_divmod : mg "divmod" = none
  m_enumerate : mg "enumerate" = none
  m_int : mg "int" = none
  m_len : mg "len" = none
  m_list : mg "list" = none
  m_max : mg "max" = none
  m_min : mg "min" = none
  m_range : mg "range" = none
  m_sorted : mg "sorted" = none
  m_sum : mg "sum" = none
  m_tuple : mg "tuple" = none
  m_type : mg "type" = none
  c_MOST_GUESTS : ∃ u, mg "MOST_GUESTS" = some u ∧ RelV (.int 20) u
  c_MOST_WEIGHT : ∃ u, mg "MOST_WEIGHT" = some u ∧ RelV (.int 1000000000000) u
  i_factorial : mg "factorial" = some (.builtin "math.factorial")
  i_gcd : mg "gcd" = some (.builtin "math.gcd")
  i_perm : mg "perm" = some (.builtin "math.perm")
/-! readings that go by themselves -/
local macro_rules | `(tactic| walk_at "side") => `(tactic| first | with_reducible assumption | with_reducible rfl | omega | decide | (constructor <;> first | assumption | omega | decide))
local macro_rules | `(tactic| walk_at "ev") => `(tactic| first
  | ((with_reducible refine' ev_var ?e1); (case e1 => rfl))
  | (with_reducible exact ev_c)
  | ((with_reducible refine' ev_op ?e1 ?e2 rv_I0); (case e1 => walk_at "ev"); (case e2 => walk_at "ev"))
  | ((with_reducible refine' ev_op ?e1 ?e2 (rv_I ?e3)); (case e1 => walk_at "ev"); (case e2 => walk_at "ev"); (case e3 => walk_at "side"))
  | ((with_reducible refine' ev_op ?e1 ?e2 (rv_eq ?e3)); (case e1 => walk_at "ev"); (case e2 => walk_at "ev"); (case e3 => rfl))
  | ((with_reducible refine' ev_op ?e1 ?e2 (rv_ne ?e3)); (case e1 => walk_at "ev"); (case e2 => walk_at "ev"); (case e3 => rfl))
  | ((with_reducible refine' ev_op ?e1 ?e2 (rv_ixL ?e3 ?e4)); (case e1 => walk_at "ev"); (case e2 => walk_at "ev"); (case e3 => walk_at "sq"); (case e4 => walk_at "at"))
  | ((with_reducible refine' ev_op ?e1 ?e2 (rv_ixT ?e3 ?e4)); (case e1 => walk_at "ev"); (case e2 => walk_at "ev"); (case e3 => walk_at "sq"); (case e4 => walk_at "at"))
  | ((with_reducible refine' ev_op ?e1 ?e2 rv_isN); (case e1 => walk_at "ev"); (case e2 => walk_at "ev"))
  | ((with_reducible refine' ev_op ?e1 ?e2 rv_notN); (case e1 => walk_at "ev"); (case e2 => walk_at "ev"))
  | ((with_reducible refine' ev_op ?e1 ?e2 (rv_eqTy ?e3 ?e4)); (case e1 => walk_at "ev"); (case e2 => walk_at "ev"); (case e3 => exact PySem.TypeEq.meta_int); (case e4 => exact PySem.TypeEq.meta_int))
  | ((with_reducible refine' ev_un ?e1 ru_neg); (case e1 => walk_at "ev"))
  | ((with_reducible refine' ev_intI ?e1); (case e1 => walk_at "ev"))
  | ((with_reducible refine' ev_intB ?e1); (case e1 => walk_at "ev"))
  | ((with_reducible refine' ev_typeI ?e1); (case e1 => walk_at "ev"))
  | ((with_reducible refine' ev_abs ?e1); (case e1 => walk_at "ev"))
  | ((with_reducible refine' ev_max2 ?e1 ?e2); (case e1 => walk_at "ev"); (case e2 => walk_at "ev"))
  | ((with_reducible refine' ev_min2 ?e1 ?e2); (case e1 => walk_at "ev"); (case e2 => walk_at "ev"))
  | ((with_reducible refine' ev_gcd ?e1 ?e2); (case e1 => walk_at "ev"); (case e2 => walk_at "ev"))
  | ((with_reducible refine' ev_len ?e1 ?e2); (case e1 => walk_at "ev"); (case e2 => walk_at "sq"))
  | ((with_reducible refine' ev_chainI ?e1 ?e2 ?e3); (case e1 => walk_at "ev"); (case e2 => walk_at "ev"); (case e3 => walk_at "ev"))
  | ((with_reducible refine' ev_chain3I ?e1 ?e2 ?e3 ?e4); (case e1 => walk_at "ev"); (case e2 => walk_at "ev"); (case e3 => walk_at "ev"); (case e4 => walk_at "ev"))
  | ((with_reducible refine' ev_notV ?e1); (case e1 => walk_at "ev"))
  | ((with_reducible refine' ev_andV ?e1 ?e2); (case e1 => walk_at "ev"); (case e2 => (intro _; walk_at "ev")))
  | ((with_reducible refine' ev_orV ?e1 ?e2); (case e1 => walk_at "ev"); (case e2 => (intro _; walk_at "ev")))
  | ((with_reducible refine' ev_if ?e1 ?e2 ?e3); (case e1 => walk_at "et"); (case e2 => (intro _; walk_at "ev")); (case e3 => (intro _; walk_at "ev")))
  | ((with_reducible refine' ev_call ?e1 ?e2); (case e1 => walk_at "ea"); (case e2 => walk_at "call")))
local macro_rules | `(tactic| walk_at "ea") => `(tactic| first
  | (with_reducible exact ea_nil)
  | ((with_reducible refine' ea_cons ?e1 ?e2); (case e1 => walk_at "ev"); (case e2 => walk_at "ea")))
local macro_rules | `(tactic| walk_at "et") => `(tactic| first
  | ((with_reducible refine' et_test ?e1); (case e1 => walk_at "ev"))
  | ((with_reducible refine' et_B ?e1); (case e1 => walk_at "ev"))
  | ((with_reducible refine' et_not ?e1); (case e1 => walk_at "et"))
  | ((with_reducible refine' et_and ?e1 ?e2); (case e1 => walk_at "et"); (case e2 => (intro _; walk_at "et")))
  | ((with_reducible refine' et_or ?e1 ?e2); (case e1 => walk_at "et"); (case e2 => (intro _; walk_at "et"))))
local macro_rules | `(tactic| walk_at "eu") => `(tactic| first
  | ((with_reducible refine' eu_tup ?e1 ?e2); (case e1 => walk_at "ea"); (case e2 => exact Nat.le_of_ble_eq_true rfl))
  | ((with_reducible refine' eu_call ?e1 ?e2); (case e1 => walk_at "ea"); (case e2 => walk_at "callU")))
local macro_rules | `(tactic| walk_at "el") => `(tactic| first
  | ((with_reducible refine' el_call ?e1 ?e2); (case e1 => walk_at "ea"); (case e2 => walk_at "callL"))
  | ((with_reducible refine' el_lst ?e1 ?e2); (case e1 => walk_at "ea"); (case e2 => exact Nat.le_of_ble_eq_true rfl)))
local macro_rules | `(tactic| walk_at "sq") => `(tactic| first | assumption | exact sq_of (by assumption) | exact st_of (by assumption))
local macro_rules | `(tactic| walk_at "at") => `(tactic| first | assumption | rfl | (apply atI_nat; rfl))
local macro_rules | `(tactic| walk_at "call") => `(tactic| assumption)

/-! ### the pouch -/
/-- H without p -/
def Hm (p : Addr) (H : Hp) : Hp := fun b => if b = p then none else H b
theorem hm_p {p : Addr} {H : Hp} : Hm p H p = none := if_pos rfl
theorem hm_sub {p : Addr} {H : Hp} : Ex (Hm p H) H := fun a o h => by
  unfold Hm at h
  split at h
  · cases h
  · exact h
theorem hm_mono {p : Addr} {H H' : Hp} (e : Ex H H') : Ex (Hm p H) (Hm p H') := fun a o h => by
  unfold Hm at h ⊢
  split at h
  · cases h
  · rename_i ne
    rw [if_neg ne]
    exact e a o h
theorem ex_hm {p : Addr} {H0 H : Hp} (e : Ex H0 H) (h : H0 p = none) : Ex H0 (Hm p H) := fun a o ha => by
  unfold Hm
  rw [if_neg (ne_of_none ha h)]
  exact e a o ha
/-- a pouch after at most n mixed draws -/
def Po (p : Addr) (n : Nat) (H : Hp) : Prop := ∃ a b c : Int, H p = some (.lst [.int a, .int b, .int c]) ∧ (0 ≤ b ∧ b < 2 ^ 200) ∧ 0 ≤ c ∧ c ≤ n
theorem Po.ex {p : Addr} {n : Nat} {H H' : Hp} (h : Po p n H) (e : Ex H H') : Po p n H' := by
  obtain ⟨a, b, c, h1, h2⟩ := h
  exact ⟨a, b, c, e p _ h1, h2⟩
theorem Po.mono {p : Addr} {n m : Nat} {H : Hp} (h : Po p n H) (e : n ≤ m) : Po p m H := by
  obtain ⟨a, b, c, h1, h2, h3, h4⟩ := h
  exact ⟨a, b, c, h1, h2, h3, by omega⟩
theorem pow3_ok {i : Int} (h : i.natAbs < 2 ^ 250) : CPowX i 3 := by
  have := PyProof.Rows.intBits_le h
  unfold CPowX
  omega
theorem divw_ok {i j : Int} (h : 0 < j) (hb : j < 2 ^ 200) : CDivW i j := wide_div (b := 200) h (by omega) (by decide) (by decide)
theorem mulk_ok {i j : Int} (h : i.natAbs < 2 ^ 100000) (hb : j.natAbs < 2 ^ 100000) : CMulX i j := mulx_ok h hb (by decide)
def sp_law_pouch (K : PySem.W.Frag) : Sp := fun vs H Q _ => ∃ (s : Addr) (ns : List Int) (i : Nat), vs = [.ref s, .int (i : Int)] ∧ SqL K H s (ns.map V.int) ∧ i ≤ 100 ∧ ∀ p H', H p = none → Ex H H' → Po p 0 H' → Q (.ref p) H'
def sp_law_dip : Sp := fun vs H Q _ => ∃ (p : Addr) (n : Nat) (w : Int), vs = [.ref p, .int w] ∧ Po p n H ∧ n < 1000000000 ∧ 0 < w ∧ w < 2 ^ 200 ∧
  ∀ r H', 0 ≤ r → r < w → Po p (n + 1) H' → Ex (Hm p H) H' → Q (.int r) H'
section
variable {P : Program} {w : World} {K : PySem.W.Frag} {mg : Str → Option Value} {base : Heap}
theorem ok_law_dip (T : Tx K mg) : FnOk P w K mg base CX0 1 T.f_law_dip T.d_law_dip ["pouch", "wide"] sp_law_dip := by
  refine T.F_law_dip.ok sc_law_dip (fun vs H Q E h => ?_) (fun cdv A outer s H vs Q E hr h => ?_)
  · obtain ⟨p, n, w, rfl, _⟩ := h
    rfl
  · obtain ⟨p, n, w, rfl, ⟨a, b, c, hp, ⟨hb0, hb1⟩, hc0, hc1⟩, hn, hw0, hw1, k⟩ := h
    refine ⟨_, (pss_cons (ps_if (pt_cmpR op_gt (pe_ix ix_list (pv 0) pe_int (fun _ _ => rfl)) pe_int (nomark _)) (pss_cons (ps_set (i := 2) sc_law_dip.nd rfl (Or.inl rfl) (pe_op op_mod (pe_callTy call_intI (by rfl) T.m_int (by decide +kernel) (pa_cons (pe_ix ix_list (pv 0) pe_int (fun _ _ => rfl)) pa_nil)) (pv 1)))
      (pss_cons (ps_asg (pe_op op_fdivW (pe_ix ix_list (pv 0) pe_int (fun _ _ => rfl)) (pv 1)) (pg_sub (pv 0) pe_int set_list))
      (pss_one (ps_ret (pv 2))))) pss_nil)
      (pss_cons (ps_asg (pe_op op_add (pe_ix ix_list (pv 0) pe_int (fun _ _ => rfl)) pe_int) (pg_sub (pv 0) pe_int set_list))
      (pss_cons (ps_set (i := 3) sc_law_dip.nd rfl (Or.inl rfl) (pe_op op_mod (pe_op op_powX (pe_callTy call_intI (by rfl) T.m_int (by decide +kernel) (pa_cons (pe_op op_add (pe_ix ix_list (pv 0) pe_int (fun _ _ => rfl)) (pe_op op_mulX pe_int (pe_ix ix_list (pv 0) pe_int (fun _ _ => rfl)))) pa_nil)) pe_int) (pe_op op_add (pe_op op_powX pe_int pe_int) pe_int)))
      (pss_cons (ps_set (i := 3) sc_law_dip.nd rfl (Or.inl rfl) (pe_op op_mod (pe_op op_powX (pe_callTy call_intI (by rfl) T.m_int (by decide +kernel) (pa_cons (pe_op op_add (pv 3) (pe_op op_mulX pe_int (pe_ix ix_list (pv 0) pe_int (fun _ _ => rfl)))) pa_nil)) pe_int) (pe_op op_add (pe_op op_powX pe_int pe_int) pe_int)))
      (pss_one (ps_ret (pe_op op_mod (pe_callTy call_intI (by rfl) T.m_int (by decide +kernel) (pa_cons (pe_op op_fdivW (pv 3) pe_int) pa_nil)) (pv 1)))))))), ?_⟩
    have hp0 : Hm p H p = none := hm_p
    refine q_when (by walk_at "et") (fun hb H1 e1 => ?_) (fun hb H1 e1 => ?_)
    · have hp1 := e1 p _ hp
      refine q_asg (by walk_at "ev") fun H2 e2 => ?_
      have hp2 := e2 p _ hp1
      have hd : CDivW a w := divw_ok hw0 hw1
      refine q_setL (j := 0) hp2 (by walk_at "ev") (by walk_at "ev") ev_c (by show 0 < 3; decide) fun H3 e3 => ?_
      refine s_ret (by walk_at "ev") fun H4 e4 => ?_
      refine k _ _ (Int.emod_nonneg _ (by omega)) (Int.emod_lt_of_pos _ hw0) ⟨a / w, b, c, e4 p _ upd_same, ⟨hb0, hb1⟩, hc0, by omega⟩ ?_
      exact Ex.trans (Ex.mut (hm_sub.trans (e1.trans (e2.trans e3))) hp0) e4
    · have hp1 := e1 p _ hp
      refine q_setL (j := 2) hp1 (by walk_at "ev") (by walk_at "ev") ev_c (by show 2 < 3; decide) fun H2 e2 => ?_
      have hp2 : ∀ H3, Ex (upd H2 p (.lst ([V.int a, .int b, .int c].set 2 (.int (c + 1))))) H3 → H3 p = some (.lst [.int a, .int b, .int (c + 1)]) := fun H3 e => e p _ upd_same
      have hq := hp2 _ (Ex.refl _)
      have hm1 : CMulX 870022201 (c + 1) := mulx_ok (a := 64) (b := 64) (by decide) (by omega) (by decide)
      have hw1' : CPowX (b + 870022201 * (c + 1)) 3 := pow3_ok (by omega)
      have hw2 : CPowX 10 41 := ⟨by decide, by decide +kernel⟩
      refine q_asg (by walk_at "ev") fun H3 e3 => ?_
      have hq3 := hp2 _ e3
      have hm2 : CMulX 334214467 (c + 1) := mulx_ok (a := 64) (b := 64) (by decide) (by omega) (by decide)
      generalize hz : (b + 870022201 * (c + 1)) ^ (3 : Int).toNat % ((10 : Int) ^ (41 : Int).toNat + 37) = z
      have hz0 : 0 ≤ z := by
        rw [← hz]
        exact Int.emod_nonneg _ (by decide)
      have hz1 : z < (10 : Int) ^ (41 : Int).toNat + 37 := by
        rw [← hz]
        exact Int.emod_lt_of_pos _ (by decide)
      have hz2 : z < 2 ^ 200 := Int.lt_trans hz1 (by decide)
      have hw3 : CPowX (z + 334214467 * (c + 1)) 3 := pow3_ok (by omega)
      have hw4 : CPowX 10 39 := ⟨by decide, by decide +kernel⟩
      refine q_asg (by walk_at "ev") fun H4 e4 => ?_
      generalize (z + 334214467 * (c + 1)) ^ (3 : Int).toNat % ((10 : Int) ^ (39 : Int).toNat + 3) = y
      have hd : CDivW y 1048583 := divw_ok (by decide) (by decide)
      refine s_ret (by walk_at "ev") fun H5 e5 => ?_
      refine k _ _ (Int.emod_nonneg _ (by omega)) (Int.emod_lt_of_pos _ hw0) ⟨a, b, c + 1, hp2 _ (e3.trans (e4.trans e5)), ⟨hb0, hb1⟩, by omega, by omega⟩ ?_
      exact Ex.trans (Ex.mut (hm_sub.trans (e1.trans e2)) hp0) (e3.trans (e4.trans e5))
theorem ok_law_pouch (T : Tx K mg) : FnOk P w K mg base CX0 1 T.f_law_pouch T.d_law_pouch ["script", "at"] (sp_law_pouch K) := by
  refine T.F_law_pouch.ok sc_law_pouch (fun vs H Q E h => ?_) (fun cdv A outer s H vs Q E hr h => ?_)
  · obtain ⟨a, ns, i, rfl, _⟩ := h
    rfl
  · obtain ⟨a, ns, i, rfl, hs, hi, k⟩ := h
    refine ⟨_, (pss_cons (ps_set (i := 2) sc_law_pouch.nd rfl (Or.inl rfl) (pe_ifExp (pt_cmpR op_lt (pv 1) (pe_callB call_lenR (by rfl) T.m_len (by decide +kernel) (pa_cons (pv 0) pa_nil)) (nomark _)) (pe_ix ix_list (pv 0) (pv 1) (fun _ _ => rfl)) pe_int))
      (pss_one (ps_ret (pe_lst (pa_cons (pe_callB (call_maxR rfl) (by rfl) T.m_max (by decide +kernel) (pa_cons pe_int (pa_cons (pe_op op_sub (pe_callB call_absR (by rfl) T.m_abs (by decide +kernel) (pa_cons (pv 2) pa_nil)) (pe_op op_powX pe_int pe_int)) pa_nil))) (pa_cons (pe_op op_add (pe_op op_add (pe_op op_mulX (pe_op op_mod (pe_callTy call_intI (by rfl) T.m_int (by decide +kernel) (pa_cons (pv 2) pa_nil)) (pe_op op_add (pe_op op_powX pe_int pe_int) pe_int)) pe_int) (pe_op op_mulX pe_int (pv 1))) pe_int) (pa_cons pe_int pa_nil))))))), ?_⟩
    have hlen : (ns.map V.int).length = ns.length := List.length_map ..
    refine q_asg (v := .int (ns.getD i 0)) ?_ fun H1 e1 => ?_
    · refine ev_if (b := decide ((i : Int) < ((ns.map V.int).length : Int))) (by walk_at "et") (fun hb => ?_) (fun hb => ?_)
      · have hb := of_decide_eq_true hb
        rw [hlen] at hb
        have hlt : i < ns.length := by omega
        refine ev_op (ev_var rfl) (ev_var rfl) (rv_ixL hs (atI_nat (j := i) ?_))
        rw [List.getElem?_map, List.getElem?_eq_getElem hlt]
        simp [List.getD_eq_getElem?_getD, hlt]
      · have hb := of_decide_eq_false hb
        rw [hlen] at hb
        have e0 : ns.getD i 0 = 0 := by
          rw [List.getD_eq_getElem?_getD, List.getElem?_eq_none (by omega)]
          rfl
        rw [e0]
        exact ev_c
    · generalize ns.getD i 0 = z
      have hw1 : CPowX 10 18 := ⟨by decide, by decide +kernel⟩
      have hw2 : CPowX 10 38 := ⟨by decide, by decide +kernel⟩
      have hy0 : 0 ≤ z % ((10 : Int) ^ (38 : Int).toNat + 133) := Int.emod_nonneg _ (by decide)
      have hy1 : z % ((10 : Int) ^ (38 : Int).toNat + 133) < (10 : Int) ^ (38 : Int).toNat + 133 := Int.emod_lt_of_pos _ (by decide)
      have hy2 : z % ((10 : Int) ^ (38 : Int).toNat + 133) < 2 ^ 150 := Int.lt_trans hy1 (by decide)
      have hpos : 0 < (10 : Int) ^ (38 : Int).toNat + 133 := by decide
      have hm1 : CMulX (z % ((10 : Int) ^ (38 : Int).toNat + 133)) 107 := mulx_ok (a := 150) (b := 64) (by omega) (by decide) (by decide)
      have hm2 : CMulX 71 (i : Int) := mulx_ok (a := 64) (b := 64) (by decide) (by omega) (by decide)
      refine s_retL (el_lst (ea_cons (by walk_at "ev") (ea_cons (by walk_at "ev") (ea_cons ev_c ea_nil))) (Nat.le_of_ble_eq_true rfl)) fun p H2 hp e2 hl => ?_
      refine k p H2 (fresh_back e1 hp) (e1.trans e2) ⟨_, _, _, hl, ⟨?_, ?_⟩, by omega, by omega⟩
      · generalize z % ((10 : Int) ^ (38 : Int).toNat + 133) = y at hy0 hy2 ⊢
        omega
      · generalize z % ((10 : Int) ^ (38 : Int).toNat + 133) = y at hy0 hy2 ⊢
        omega
end

/-! ### expressions that draw -/
theorem hm_trans {p : Addr} {H H1 H2 : Hp} (a : Ex (Hm p H) H1) (b : Ex (Hm p H1) H2) : Ex (Hm p H) H2 := fun x o h => by
  have ne : x ≠ p := fun z => by
    subst z
    rw [hm_p] at h
    cases h
  have h1 := a x o h
  refine b x o ?_
  unfold Hm
  rw [if_neg ne]
  exact h1
theorem hm_next {p : Addr} {H0 H H1 : Hp} (h0 : H0 p = none) (e : Ex H0 H) (s : Ex (Hm p H) H1) : Ex H0 H1 := (ex_hm e h0).trans s
theorem hm_of {p : Addr} {H H1 : Hp} (e : Ex H H1) : Ex (Hm p H) H1 := hm_sub.trans e
theorem hm_at {p a : Addr} {H H1 : Hp} {o : HO} (s : Ex (Hm p H) H1) (ne : a ≠ p) (h : H a = some o) : H1 a = some o := s a o (by
  unfold Hm
  rw [if_neg ne]
  exact h)
theorem Po.ne {p l : Addr} {n : Nat} {H : Hp} (h : Po p n H) (hl : H l = none) : l ≠ p := fun z => by
  subst z
  obtain ⟨_, _, _, h1, _⟩ := h
  rw [hl] at h1
  cases h1
def EvP (p : Addr) (k : Nat) (te : TE) (σ : L2.St) (H0 : Hp) (R : V → Hp → Prop) : Prop := ∀ n H1, Ex H0 H1 → Po p n H1 → n + k ≤ 1000000000 →
  ∀ Q : VK, (∀ v H2, R v H2 → Po p (n + k) H2 → Ex (Hm p H1) H2 → Q v H2) → te σ H1 Q
def Stb (p : Addr) (R : V → Hp → Prop) : Prop := ∀ v H H', R v H → Ex (Hm p H) H' → R v H'
section
variable {K : PySem.W.Frag} {σ : L2.St} {H0 H : Hp} {p : Addr} {k k1 k2 : Nat} {te ta tb : TE} {R Ra Rb : V → Hp → Prop}
theorem ep_ev {v : V} (h : Ev te σ H0 v) : EvP p 0 te σ H0 (fun x _ => x = v) := fun n H1 e hp _ Q q => h H1 e Q fun H2 e2 => q v H2 rfl (hp.ex e2) (hm_of e2)
theorem ep_L {xs : List V} (h : EvL te σ H0 xs) : EvP p 0 te σ H0 (fun x H => ∃ l, l ≠ p ∧ x = .ref l ∧ H l = some (.lst xs)) := fun n H1 e hp _ Q q => h H1 e Q fun l H2 hl e2 h2 => q _ H2 ⟨l, hp.ne hl, rfl, h2⟩ (hp.ex e2) (hm_of e2)
theorem stb_L {xs : List V} : Stb p (fun x H => ∃ l, l ≠ p ∧ x = .ref l ∧ H l = some (.lst xs)) := fun v H H' ⟨l, ne, e, h⟩ s => ⟨l, ne, e, hm_at s ne h⟩
theorem stb_c {C : V → Prop} : Stb p (fun x _ => C x) := fun _ _ _ h _ => h
theorem ep_op {r : R2} (h0 : H0 p = none) (ha : EvP p k1 ta σ H0 Ra) (hb : EvP p k2 tb σ H0 Rb) (s1 : Stb p Ra) (s : Stb p R) (hr : ∀ x y H, Ra x H → Rb y H → ∃ z, R z H ∧ RV r x y H z) : EvP p (k1 + k2) (tOp r ta tb) σ H0 R :=
  fun n H1 e hp hn Q q => ha n H1 e hp (by omega) _ fun x H2 hx p2 e2 => hb (n + k1) H2 (hm_next h0 e e2) p2 (by omega) _ fun y H3 hy p3 e3 => by
    obtain ⟨z, hz, hv⟩ := hr x y H3 (s1 x H2 H3 hx e3) hy
    refine hv H3 (Ex.refl H3) Q fun H4 e4 => q z H4 (s z H3 H4 hz (hm_of e4)) ?_ (hm_trans (hm_trans e2 e3) (hm_of e4))
    rw [← Nat.add_assoc]
    exact p3.ex e4
theorem ep_dip {tw : TE} {E : XK} {C : Int → Prop} (h0 : H0 p = none) (hp : Ev ta σ H0 (.ref p)) (hw : EvP p k tw σ H0 (fun v _ => ∃ w, v = .int w ∧ 0 < w ∧ w < 2 ^ 200 ∧ C w)) :
    EvP p (k + 1) (tCall sp_law_dip [] E (tCons ta (tCons tw tNil))) σ H0 (fun v _ => ∃ r w, v = .int r ∧ 0 ≤ r ∧ r < w ∧ C w) :=
  fun n H1 e hpo hn Q q => hp H1 e _ fun H2 e2 => hw n H2 (e.trans e2) (hpo.ex e2) (by omega) _ fun y H3 hy p3 e3 => by
    obtain ⟨w, rfl, w0, w1, c⟩ := hy
    exact ⟨p, n + k, w, rfl, p3, by omega, w0, w1, fun r H' r0 r1 p4 e4 => q _ H' ⟨r, w, rfl, r0, r1, c⟩ p4 (hm_trans (hm_trans (hm_of e2) e3) e4)⟩
theorem ep_is {R' : V → Hp → Prop} (h : EvP p k te σ H0 R) (e : ∀ v H, R v H → R' v H) : EvP p k te σ H0 R' := fun n H1 a b c Q q => h n H1 a b c Q fun v H2 hv => q v H2 (e v H2 hv)
/-- the width is a pure int -/
theorem ep_dipI {tw : TE} {E : XK} {w : Int} (h0 : H0 p = none) (hp : Ev ta σ H0 (.ref p)) (hw : Ev tw σ H0 (.int w)) (w0 : 0 < w) (w1 : w < 2 ^ 200) :
    EvP p 1 (tCall sp_law_dip [] E (tCons ta (tCons tw tNil))) σ H0 (fun v _ => ∃ r, v = .int r ∧ 0 ≤ r ∧ r < w) :=
  ep_is (ep_dip (k := 0) (C := fun z => z = w) h0 hp (ep_is (ep_ev hw) fun v H e => ⟨w, e, w0, w1, rfl⟩)) fun v H ⟨r, z, e, r0, r1, e2⟩ => ⟨r, e, r0, e2 ▸ r1⟩
/-- a + b, b drawn -/
theorem ep_add {a : Int} {C : Int → Prop} (h0 : H0 p = none) (ha : Ev ta σ H0 (.int a)) (hb : EvP p k tb σ H0 (fun v _ => ∃ r, v = .int r ∧ C r)) : EvP p (0 + k) (tOp (rI0 fun i j => .int (i + j)) ta tb) σ H0 (fun v _ => ∃ r, v = .int (a + r) ∧ C r) :=
  ep_op h0 (ep_ev ha) hb stb_c stb_c fun x y H e ⟨r, e2, c⟩ => ⟨.int (a + r), ⟨r, rfl, c⟩, by
    subst e
    subst e2
    exact rv_I0⟩
theorem p_asg {i n : Nat} {D : Ends} (h : EvP p k te σ H0 R) (e : Ex H0 H) (hp : Po p n H) (hn : n + k ≤ 1000000000) (q : ∀ v H2, R v H2 → Po p (n + k) H2 → Ex (Hm p H) H2 → D.nx (σ.set i (some v)) H2) : tAsg te (gName i) D σ H := h n H e hp hn _ q
theorem pq_asg {i n : Nat} {D : Ends} {tz : TS} (h : EvP p k te σ H0 R) (e : Ex H0 H) (hp : Po p n H) (hn : n + k ≤ 1000000000) (q : ∀ v H2, R v H2 → Po p (n + k) H2 → Ex (Hm p H) H2 → tz D (σ.set i (some v)) H2) : tSeq (tAsg te (gName i)) tz D σ H := h n H e hp hn _ q
/-- tests that draw -/
def EtP (p : Addr) (k : Nat) (t : TT) (σ : L2.St) (H0 : Hp) (b : Bool) : Prop := ∀ n H1, Ex H0 H1 → Po p n H1 → n + k ≤ 1000000000 →
  ∀ Q : Bool → Hp → Prop, (∀ H2, Po p (n + k) H2 → Ex (Hm p H1) H2 → Q b H2) → t σ H1 Q
variable {t u : TT} {b c : Bool}
theorem tp_B (h : EvP p k te σ H0 (fun v _ => v = .bl b)) : EtP p k (tB te) σ H0 b := fun n H1 e hp hn Q q => h n H1 e hp hn _ fun v H2 hv p2 e2 => ⟨b, hv, q H2 p2 e2⟩
theorem tp_not (h : EtP p k t σ H0 b) : EtP p k (tNot t) σ H0 (!b) := fun n H1 e hp hn Q q => h n H1 e hp hn _ fun H2 p2 e2 => q H2 p2 e2
theorem tp_is (h : EtP p k t σ H0 b) (e : b = c) : EtP p k t σ H0 c := e ▸ h
theorem tp_or (h0 : H0 p = none) (h : EtP p k1 t σ H0 false) (h' : EtP p k2 u σ H0 b) : EtP p (k1 + k2) (tOr t u) σ H0 b := fun n H1 e hp hn Q q => h n H1 e hp (by omega) _ fun H2 p2 e2 => by
  show u σ H2 Q
  refine h' (n + k1) H2 (hm_next h0 e e2) p2 (by omega) Q fun H3 p3 e3 => q H3 ?_ (hm_trans e2 e3)
  rw [← Nat.add_assoc]
  exact p3
theorem tp_et (h : EvT t σ H0 b) : EtP p 0 t σ H0 b := fun n H1 e hp _ Q q => h H1 e Q fun H2 e2 => q H2 (hp.ex e2) (hm_of e2)
/-- a test that is false: what follows -/
theorem pq_no {n : Nat} {D : Ends} {tu tz : TS} (h : EtP p k t σ H0 false) (e : Ex H0 H) (hp : Po p n H) (hn : n + k ≤ 1000000000) (q : ∀ H2, Po p (n + k) H2 → Ex (Hm p H) H2 → tz D σ H2) : tSeq (tIfS t tu tNext) tz D σ H := h n H e hp hn _ q
theorem ps_no {n : Nat} {D : Ends} {tu : TS} (h : EtP p k t σ H0 false) (e : Ex H0 H) (hp : Po p n H) (hn : n + k ≤ 1000000000) (q : ∀ H2, Po p (n + k) H2 → Ex (Hm p H) H2 → D.nx σ H2) : tIfS t tu tNext D σ H := h n H e hp hn _ q
/-- pouch = _law_pouch(script, at) -/
theorem pq_pouch {ta : TA} {E : XK} {D : Ends} {tz : TS} {j i : Nat} {s : Addr} {ns : List Int} (h : EvA ta σ H [.ref s, .int (i : Int)]) (hs : SqL K H s (ns.map V.int)) (hi : i ≤ 100) (q : ∀ p H2, H p = none → Ex H H2 → Po p 0 H2 → tz D (σ.set j (some (.ref p))) H2) :
    tSeq (tAsg (tCall (sp_law_pouch K) [] E ta) (gName j)) tz D σ H := h H (Ex.refl H) _ fun H1 e1 => ⟨s, ns, i, rfl, ex_l e1 hs, hi, fun p H2 hp e2 hpo => q p H2 (fresh_back e1 hp) (e1.trans e2) hpo⟩
end


/-! ### lists of guests -/
def iz (xs : List Nat) : List Int := xs.map fun x : Nat => (x : Int)
def nv (xs : List Nat) : List V := (iz xs).map V.int
theorem nv_len (xs : List Nat) : (nv xs).length = xs.length := by simp [nv, iz]
theorem nv_get {xs : List Nat} {i x : Nat} (h : xs[i]? = some x) : (nv xs)[i]? = some (.int x) := by simp [nv, iz, h]
theorem nv_app (xs ys : List Nat) : nv (xs ++ ys) = nv xs ++ nv ys := by simp [nv, iz]
theorem nv_eq (xs : List Nat) : nv xs = xs.map fun x : Nat => V.int (x : Int) := by simp [nv, iz]
def Ord (h : List Nat) : Prop := h.Perm (List.range h.length) ∧ 1 ≤ h.length ∧ h.length ≤ 20
theorem el_mapI {K : PySem.W.Frag} {σ : L2.St} {H : Hp} {te tl : TE} {a : Addr} {xs : List V} {j : Nat} {vs : List Nat} (f : Nat → V) (h : Ev tl σ H (.ref a)) (hx : SqL K H a xs) (hz : xs.length ≤ 40000) (hw : ∀ x, wipe ((wipe σ vs).set j (some x)) vs = wipe σ vs)
    (he : ∀ (i : Nat) (x : V) H1, Ex H H1 → xs[i]? = some x → Ev te ((wipe σ vs).set j (some x)) H1 (f i)) : EvL (tLc (iList K tl) (gName j) tYes te vs) σ H ((List.range xs.length).map f) := by
  have e : (List.range xs.length).map f = given xs.length (fun _ => true) f := by
    unfold given
    rw [List.filter_eq_self.mpr (fun _ _ => rfl)]
  rw [e]
  exact el_lcL _ _ h hx hz hw (fun _ _ _ _ _ => et_yes) fun i x H1 e hi _ => he i x H1 e hi
def sp_is_whole (K : PySem.W.Frag) : Sp := fun vs H Q _ => ∃ (v : V) (d : PyData), vs = [v] ∧ It K H v d ∧ RetV (.bl (isI d)) H Q
theorem sv_whole {K : PySem.W.Frag} {H : Hp} {x : Int} : SpV (sp_is_whole K) ([.int x] ++ []) H (.bl true) := fun H1 _ Q q E => ⟨.int x, .int x, rfl, .int x, q⟩
theorem sv_wholeD {K : PySem.W.Frag} {H : Hp} {v : V} {d : PyData} (h : It K H v d) : SpV (sp_is_whole K) ([v] ++ []) H (.bl (isI d)) := fun H1 e Q q E => ⟨v, d, rfl, h.ex e, q⟩
local macro_rules | `(tactic| walk_at "call") => `(tactic| (with_reducible exact sv_whole))
def sp_ord (v : V) : Sp := fun vs H Q _ => ∃ (a : Addr) (h : List Nat), vs = [.ref a] ∧ H a = some (.lst (nv h)) ∧ Ord h ∧ RetV v H Q
theorem sv_ord {H : Hp} {v : V} {a : Addr} {h : List Nat} (ha : H a = some (.lst (nv h))) (o : Ord h) : SpV (sp_ord v) ([.ref a] ++ []) H v := fun H1 e Q q E => ⟨a, h, rfl, e a _ ha, o, q⟩
section
variable {P : Program} {w : World} {K : PySem.W.Frag} {mg : Str → Option Value} {base : Heap}
theorem ok_is_whole (T : Tx K mg) : FnOk P w K mg base CX0 1 T.f_is_whole T.d_is_whole ["thing"] (sp_is_whole K) := by
  refine T.F_is_whole.ok sc_is_whole (fun vs H Q E h => ?_) (fun cdv A outer s H vs Q E hr h => ?_)
  · obtain ⟨v, d, rfl, _⟩ := h
    rfl
  · obtain ⟨v, d, rfl, hv, k⟩ := h
    refine ⟨_, (pss_one (ps_ret (pe_cmpR op_eqTy (pe_typeOf (by rfl) T.m_type (pv 0)) (pe_bltn (v := .ty "int") (by rfl) T.m_int (by decide +kernel) rfl) (nomark _)))), ?_⟩
    exact s_ret (ev_isWhole (ev_var rfl) hv) fun H1 e1 => k _ e1
theorem range_iz (n : Nat) : rgV 0 (n : Int) = nv (List.range n) := by
  rw [nv_eq]
  unfold rgV
  simp
/-- the ints of data -/
def intsOf (ds : List PyData) : List Int := ds.map fun
  | .int i => i
  | _ => 0
def sortI (ns : List Int) : List Int := ns.mergeSort fun a b => decide (a ≤ b)
theorem sortI_perm (ns : List Int) : (sortI ns).Perm ns := List.mergeSort_perm ns _
theorem sortI_sorted (ns : List Int) : (sortI ns).Pairwise (· ≤ ·) := by
  have := List.pairwise_mergeSort (le := fun a b : Int => decide (a ≤ b)) (fun a b c h1 h2 => by
    have h1 := of_decide_eq_true h1
    have h2 := of_decide_eq_true h2
    exact decide_eq_true (by omega)) (fun a b => by
    rw [Bool.or_eq_true, decide_eq_true_iff, decide_eq_true_iff]
    omega) ns
  exact this.imp fun h => of_decide_eq_true h
theorem ints_of {K : PySem.W.Frag} {H : Hp} : ∀ {xs : List V} {ds : List PyData}, ItAll K H xs ds → ds.all isI = true → xs = (intsOf ds).map V.int
  | _, _, .nil, _ => rfl
  | _, _, .cons h t, ha => by
    rw [List.all_cons, Bool.and_eq_true] at ha
    have := ints_of t ha.2
    cases h with
    | int i =>
      rw [this]
      rfl
    | non => exact Bool.noConfusion ha.1
    | bl b => exact Bool.noConfusion ha.1
    | str x => exact Bool.noConfusion ha.1
    | lst _ _ => exact Bool.noConfusion ha.1
theorem ita_get {K : PySem.W.Frag} {H : Hp} : ∀ {xs : List V} {ds : List PyData} {i : Nat} {x : V}, ItAll K H xs ds → xs[i]? = some x → ∃ d, ds[i]? = some d ∧ It K H x d
  | _, _, 0, x, .cons h t, e => ⟨_, rfl, (Option.some.inj (show some _ = some x from e)) ▸ h⟩
  | _, _, i + 1, x, .cons h t, e => ita_get (i := i) t e
  | _, _, 0, x, .nil, e => by simp at e
  | _, _, i + 1, x, .nil, e => by simp at e
def lenOk (n : Nat) : Bool := decide ((1 : Int) ≤ (n : Int)) && decide ((n : Int) ≤ 20)
def sorts (ds : List PyData) : Bool := PyData.eqv (.list ((sortI (intsOf ds)).map PyData.int)) (.list ((iz (List.range ds.length)).map PyData.int))
/-- whether a thing is a list with 0, 1, .. once each -/
def judge : Option (List PyData) → Bool
  | none => false
  | some ds => lenOk ds.length && (ds.all isI && sorts ds)
def sp_any (K : PySem.W.Frag) : Sp := fun vs H Q _ => ∃ (v : V) (o : Option (List PyData)), vs = [v] ∧ Th K H v o ∧ RetV (.bl (judge o)) H Q
def sp_is_order (K : PySem.W.Frag) : Sp := fun vs H Q E => sp_ord (.bl true) vs H Q E ∨ sp_any K vs H Q E
theorem sv_order {K : PySem.W.Frag} {H : Hp} {a : Addr} {h : List Nat} (ha : H a = some (.lst (nv h))) (o : Ord h) : SpV (sp_is_order K) ([.ref a] ++ []) H (.bl true) := fun H1 e Q q E => .inl (sv_ord ha o H1 e Q q E)
theorem sv_any {K : PySem.W.Frag} {H : Hp} {v : V} {o : Option (List PyData)} (hv : Th K H v o) : SpV (sp_is_order K) ([v] ++ []) H (.bl (judge o)) := fun H1 e Q q E => .inr ⟨v, o, rfl, hv.ex e, q⟩
theorem judge_ord {h : List Nat} (o : Ord h) : judge (some ((iz h).map PyData.int)) = true := by
  have e : intsOf ((iz h).map PyData.int) = iz h := by
    unfold intsOf
    rw [List.map_map]
    exact List.map_id _
  have el : ((iz h).map PyData.int).length = h.length := by simp [iz]
  have s : sortI (iz h) = iz (List.range h.length) := List.Perm.eq_of_pairwise (le := fun a b : Int => a ≤ b) (fun a b _ _ h1 h2 => by omega) (sortI_sorted _) (by
    unfold iz
    rw [List.pairwise_map]
    exact List.Pairwise.imp (fun {a b} h => by omega) List.pairwise_lt_range) ((sortI_perm _).trans (o.1.map (fun x : Nat => (x : Int))))
  unfold judge sorts lenOk
  simp only
  rw [e, el, s, eqv_same (shaped_ints _)]
  have hl := o.2
  have : ((iz h).map PyData.int).all isI = true := by
    rw [List.all_map, List.all_eq_true]
    intro x _
    rfl
  rw [this]
  simp
  omega
theorem Ord.th {K : PySem.W.Frag} {H : Hp} {a : Addr} {h : List Nat} (ha : H a = some (.lst (nv h))) : Th K H (.ref a) (some ((iz h).map PyData.int)) := .lst ha (ita_ints _) (fine_ints _)
theorem ok_is_order (T : Tx K mg) : FnOk P w K mg base CX0 2 T.f_is_order T.d_is_order ["thing"] (sp_is_order K) := by
  refine FnOk.imp (sp := sp_any K) ?_ (fun vs H Q E h => ?_)
  · refine T.F_is_order.ok sc_is_order (fun vs H Q E h => ?_) (fun cdv A outer s H vs Q E hr h => ?_)
    · obtain ⟨v, o, rfl, _⟩ := h
      rfl
    · obtain ⟨v, o, rfl, hv, k⟩ := h
      refine ⟨_, (pss_cons (ps_if (PW.pt (pw_or (pt_cmpR (op_neTyG (hu_of hr)) (pe_typeOf2 (by rfl) T.m_type (pv 0)) (pe_bltn (v := .ty "list") (by rfl) T.m_list (by decide +kernel) rfl) (nomark _)) (pw_or1 (pt_not (pt_chain op_le op_le pe_int (pe_callB call_lenR (by rfl) T.m_len (by decide +kernel) (pa_cons (pv 0) pa_nil)) (pe_gc (by rfl) T.c_MOST_GUESTS)))))) (pss_one (ps_ret pe_bl)) pss_nil)
      (pss_cons (ps_if (pt_not (pt_val (pe_callB (cr_all rfl) (by rfl) T.m_all (by decide +kernel) (pa_cons (pe_lc (own := [("item", 1)]) (g := (gName 1)) (tt := tYes) rfl sc_is_order.nd (pi_list (pv 0)) (blkOk_by (own := [("item", 1)]) (N := n_is_order) (sc := defScope s_is_order) (by decide +kernel)) (fun _ _ _ _ _ => (pg_name (i := 1) sc_is_order.nd rfl (Or.inl rfl))) (fun _ _ _ _ _ => pts_nil) (fun _ _ _ _ _ => (pe_call (ok_is_whole T) (hr.mono (by decide)) (by rfl) T.g_is_whole T.F_is_whole.kp T.b_is_whole .nil pass0 (pa_cons (pv 1) pa_nil)))) pa_nil)))) (pss_one (ps_ret pe_bl)) pss_nil)
      (pss_one (ps_ret (pe_cmpR (op_eqD hr.units) (pe_callB cr_sorted (by rfl) T.m_sorted (by decide +kernel) (pa_cons (pv 0) pa_nil)) (pe_listRg rfl (by rfl) T.m_list (prg_1 (by rfl) T.m_range (pe_callB call_lenR (by rfl) T.m_len (by decide +kernel) (pa_cons (pv 0) pa_nil)))) (nomark _)))))), ?_⟩
      cases o with
      | none =>
        refine q_when (b := true) (et_is (et_or (b := false) (et_test (ev_noList (ev_var rfl) hv)) fun z => Bool.noConfusion z) rfl) (fun _ H1 e1 => ?_) fun hb => Bool.noConfusion hb
        exact s_ret ev_c fun H2 e2 => k _ (e1.trans e2)
      | some ds =>
        have hv0 := hv
        cases hv with
        | @lst a xs _ ha hd hf =>
          have hl : xs.length = ds.length := hd.len
          refine q_when (b := !lenOk ds.length) (et_is (et_or (et_test (ev_noList (ev_var rfl) hv0)) fun _ => et_not (et_test (ev_chainI ev_c (ev_len (ev_var rfl) (sq_of ha)) ev_c))) (by rw [hl]; rfl)) (fun hb H1 e1 => ?_) fun hb H1 e1 => ?_
          · have hb : lenOk ds.length = false := by simpa using hb
            have ej : judge (some ds) = false := by
              unfold judge
              simp only
              rw [hb]
              rfl
            rw [ej] at k
            exact s_ret ev_c fun H2 e2 => k _ (e1.trans e2)
          · have hb : lenOk ds.length = true := by simpa using hb
            have hn : 1 ≤ ds.length ∧ ds.length ≤ 20 := by
              unfold lenOk at hb
              simp at hb
              omega
            have h1 := e1 a _ ha
            refine q_when (b := !(ds.all isI)) (et_is (et_not (et_B (ev_allN (bs := ds.map isI) ?_))) (by rw [List.all_map]; rfl)) (fun hb2 H2 e2 => ?_) fun hb2 H2 e2 => ?_
            · have g := el_mapI (K := K) (te := tCall (sp_is_whole K) [] E0 (tCons (tVar 1) tNil)) (j := 1) (vs := [1]) (σ := start n_is_order [.ref a]) (H := H1) (fun i => V.bl (isI (ds.getD i .none))) (ev_var (i := 0) rfl) (sq_of h1) (by omega) (fun _ => rfl) fun i x H2 e2 hx => ?_
              · have e : (List.range xs.length).map (fun i => V.bl (isI (ds.getD i .none))) = (ds.map isI).map V.bl := by
                  rw [hl]
                  conv => rhs; rw [range_get ds .none]
                  rw [List.map_map, List.map_map]
                  rfl
                rw [e] at g
                exact g
              · obtain ⟨d, hd1, hd2⟩ := ita_get hd hx
                have gd : ds.getD i .none = d := by rw [List.getD_eq_getElem?_getD, hd1] <;> rfl
                show Ev _ _ _ (V.bl (isI (ds.getD i .none)))
                rw [gd]
                exact ev_call (ea_cons (ev_var rfl) ea_nil) (sv_wholeD (hd2.ex (e1.trans e2)))
            · have hb2 : ds.all isI = false := by simpa using hb2
              have ej : judge (some ds) = false := by
                unfold judge
                simp only
                rw [hb2, Bool.false_and, Bool.and_false]
              rw [ej] at k
              exact s_ret ev_c fun H3 e3 => k _ (e1.trans (e2.trans e3))
            · have hb2 : ds.all isI = true := by simpa using hb2
              have ex := ints_of hd hb2
              have il : (intsOf ds).length = ds.length := by simp [intsOf]
              have h2 := e2 a _ h1
              have sr : EvD K (tCB (rSorted K) (tCons (tVar 0) tNil)) (start n_is_order [.ref a]) H2 (.list ((sortI (intsOf ds)).map PyData.int)) :=
                ed_sorted (ns := intsOf ds) (ev_var rfl) (sq_of (by rw [← ex]; exact h2)) (by omega) (sortI_perm _) (sortI_sorted _)
              have rg : EvD K (tLstRg (tRg1 (tCB (rLenS K) (tCons (tVar 0) tNil)))) (start n_is_order [.ref a]) H2 (.list ((iz (List.range ds.length)).map PyData.int)) :=
                ed_ofL (xs := nv (List.range ds.length)) (by
                  have g := el_rg1 (σ := start n_is_order [.ref a]) (ev_len (K := K) (ta := tVar 0) (ev_var (i := 0) (v := .ref a) rfl) (sq_of h2)) (RgOk.of_le (by decide) (by omega) (by decide) (by omega))
                  rw [hl, range_iz] at g
                  exact g) (dpa_ints _)
              have ej : judge (some ds) = sorts ds := by
                unfold judge
                simp only
                rw [hb, hb2, Bool.true_and, Bool.true_and]
              rw [ej] at k
              exact s_ret (ev_eqD sr rg (shaped_ints _) (shaped_ints _)) fun H3 e3 => k _ (e1.trans (e2.trans e3))
  · rcases h with ⟨a, g, rfl, ha, o, k⟩ | h
    · refine ⟨.ref a, _, rfl, Ord.th ha, ?_⟩
      rw [judge_ord o]
      exact k
    · exact h
local macro_rules | `(tactic| walk_at "call") => `(tactic| ((with_reducible refine' sv_order ?c1 ?c2); (case c1 => assumption); (case c2 => assumption)))
theorem ok_is_seating (T : Tx K mg) : FnOk P w K mg base CX0 3 T.f_is_seating T.d_is_seating ["thing"] (sp_is_order K) := by
  refine T.F_is_seating.ok sc_is_seating (fun vs H Q E h => ?_) (fun cdv A outer s H vs Q E hr h => ?_)
  · rcases h with ⟨a, g, rfl, _⟩ | ⟨v, o, rfl, _⟩
    · rfl
    · rfl
  · rcases h with ⟨a, g, rfl, ha, o, k⟩ | ⟨v, o, rfl, hv, k⟩
    · refine ⟨_, (pss_one (ps_ret (pe_call (ok_is_order T) (hr.mono (by decide)) (by rfl) T.g_is_order T.F_is_order.kp T.b_is_order .nil pass0 (pa_cons (pv 0) pa_nil)))), ?_⟩
      exact s_ret (by walk_at "ev") fun H1 e1 => k _ e1
    · refine ⟨_, (pss_one (ps_ret (pe_call (ok_is_order T) (hr.mono (by decide)) (by rfl) T.g_is_order T.F_is_order.kp T.b_is_order .nil pass0 (pa_cons (pv 0) pa_nil)))), ?_⟩
      exact s_ret (ev_call (ea_cons (ev_var rfl) ea_nil) (sv_any hv)) fun H1 e1 => k _ e1
theorem ok_check_seating (T : Tx K mg) : FnOk P w K mg base CX0 4 T.f_check_seating T.d_check_seating ["seating"] (sp_ord .non) := by
  refine T.F_check_seating.ok sc_check_seating (fun vs H Q E h => ?_) (fun cdv A outer s H vs Q E hr h => ?_)
  · obtain ⟨a, h, rfl, _⟩ := h
    rfl
  · obtain ⟨a, h, rfl, ha, o, k⟩ := h
    refine ⟨_, (pss_one (ps_if (pt_not (pt_val (pe_call (ok_is_seating T) (hr.mono (by decide)) (by rfl) T.g_is_seating T.F_is_seating.kp T.b_is_seating .nil pass0 (pa_cons (pv 0) pa_nil)))) (pss_one ps_never) pss_nil)), ?_⟩
    exact s_when (b := false) (et_is (by walk_at "et") (by rfl)) (fun hb => Bool.noConfusion hb) fun _ H1 e1 => k _ e1
end
local macro_rules | `(tactic| walk_at "call") => `(tactic| (with_reducible exact sv_whole))
local macro_rules | `(tactic| walk_at "call") => `(tactic| ((with_reducible refine' sv_order ?c1 ?c2); (case c1 => assumption); (case c2 => assumption)))
local macro_rules | `(tactic| walk_at "call") => `(tactic| ((with_reducible refine' sv_ord ?c1 ?c2); (case c1 => assumption); (case c2 => assumption)))


local macro_rules | `(tactic| walk_at "call") => `(tactic| (with_reducible exact sv_whole))
local macro_rules | `(tactic| walk_at "call") => `(tactic| ((with_reducible refine' sv_order ?c1 ?c2); (case c1 => assumption); (case c2 => assumption)))
local macro_rules | `(tactic| walk_at "call") => `(tactic| ((with_reducible refine' sv_ord ?c1 ?c2); (case c1 => assumption); (case c2 => assumption)))

/-! ### rings: the mathematics -/
/-- r is a whole table of the seating h, from its first guest on to the left -/
structure Rg (h r : List Nat) : Prop where
  ne : 0 < r.length
  nd : r.Nodup
  st : ∀ i, i < r.length → ∃ x y, r[i]? = some x ∧ r[(i + 1) % r.length]? = some y ∧ h[x]? = some y
def rot (r : List Nat) (k : Nat) : List Nat := r.drop k ++ r.take k
theorem rot_len {r : List Nat} {k : Nat} (hk : k ≤ r.length) : (rot r k).length = r.length := by
  unfold rot
  rw [List.length_append, List.length_drop, List.length_take]
  omega
theorem rot_get {r : List Nat} {k i : Nat} (hk : k < r.length) (hi : i < r.length) : (rot r k)[i]? = r[(i + k) % r.length]? := by
  unfold rot
  by_cases h : i < r.length - k
  · rw [List.getElem?_append_left (by rw [List.length_drop]; exact h), List.getElem?_drop, Nat.mod_eq_of_lt (by omega), Nat.add_comm]
  · rw [List.getElem?_append_right (by rw [List.length_drop]; omega), List.length_drop, List.getElem?_take_of_lt (by omega)]
    have e : (i + k) % r.length = i - (r.length - k) := by
      rw [Nat.mod_eq_sub_mod (by omega), Nat.mod_eq_of_lt (by omega)]
      omega
    rw [e]
theorem rot_perm (r : List Nat) (k : Nat) : (rot r k).Perm r := by
  unfold rot
  exact List.perm_append_comm.trans (List.Perm.of_eq (List.take_append_drop k r))
theorem Rg.rot {h r : List Nat} (R : Rg h r) {k : Nat} (hk : k < r.length) : Rg h (rot r k) := by
  have hl := rot_len (r := r) (k := k) (by omega)
  refine ⟨by have := R.ne; omega, (rot_perm r k).nodup_iff.mpr R.nd, fun i hi => ?_⟩
  rw [hl] at hi ⊢
  obtain ⟨x, y, h1, h2, h3⟩ := R.st ((i + k) % r.length) (Nat.mod_lt _ R.ne)
  refine ⟨x, y, by rw [rot_get hk hi]; exact h1, ?_, h3⟩
  rw [rot_get hk (Nat.mod_lt _ R.ne), ← h2, Nat.mod_add_mod, Nat.mod_add_mod]
  congr 2
  omega
structure Rings (h : List Nat) (rs : List (List Nat)) : Prop where
  rg : ∀ r ∈ rs, Rg h r
  low : ∀ r ∈ rs, ∀ x ∈ r, r.headD 0 ≤ x
  asc : (rs.map (·.headD 0)).Pairwise (· < ·)
  all : rs.flatten.Perm (List.range h.length)
def leads (r : List Nat) : Bool := decide (∀ x ∈ r, r.headD 0 ≤ x)
theorem Rings.turn {h : List Nat} {rs : List (List Nat)} (R : Rings h rs) {g : Nat} (hg : g < h.length) : ∃ w : List Nat, (∃ r ∈ rs, ∃ k, r[k]? = some g ∧ w = rot r k) := by
  have hm : g ∈ rs.flatten := R.all.mem_iff.mpr (List.mem_range.mpr hg)
  obtain ⟨r, hr, hgr⟩ := List.mem_flatten.mp hm
  obtain ⟨k, hk⟩ := List.mem_iff_getElem?.mp hgr
  exact ⟨rot r k, r, hr, k, hk, rfl⟩
theorem Rings.walks {h : List Nat} {rs : List (List Nat)} (R : Rings h rs) : ∃ f : Nat → List Nat, ∀ g, g < h.length → ∃ r ∈ rs, ∃ k, r[k]? = some g ∧ f g = rot r k :=
  ⟨fun g => if hg : g < h.length then Classical.choose (R.turn hg) else [], fun g hg => by
    have := Classical.choose_spec (R.turn hg)
    simp only [dif_pos hg]
    exact this⟩
theorem head_rot {r : List Nat} {k g : Nat} (hk : r[k]? = some g) : (rot r k).headD 0 = g := by
  obtain ⟨hl, e⟩ := List.getElem?_eq_some_iff.mp hk
  unfold rot
  rw [List.drop_eq_getElem_cons hl]
  exact e
theorem leads_rot {r : List Nat} {k g : Nat} (hk : r[k]? = some g) (lo : ∀ x ∈ r, r.headD 0 ≤ x) (ne : 0 < r.length) : leads (rot r k) = decide (g = r.headD 0) := by
  unfold leads
  rw [head_rot hk]
  have hmem : ∀ x, x ∈ rot r k ↔ x ∈ r := fun x => (rot_perm r k).mem_iff
  have h0 : r.headD 0 ∈ r := by
    cases r with
    | nil => simp at ne
    | cons a l => simp
  have hg : g ∈ r := List.mem_of_getElem? hk
  apply decide_eq_decide.mpr
  constructor
  · intro a
    have := a _ ((hmem _).mpr h0)
    have := lo g hg
    omega
  · intro a x hx
    rw [a]
    exact lo x ((hmem x).mp hx)
theorem rot_zero (r : List Nat) : rot r 0 = r := by
  unfold rot
  simp
theorem nodup_flat {rs : List (List Nat)} (h : rs.flatten.Nodup) {r r' : List Nat} {x : Nat} (hr : r ∈ rs) (hr' : r' ∈ rs) (hx : x ∈ r) (hx' : x ∈ r') : r = r' := by
  induction rs with
  | nil => cases hr
  | cons a l ih =>
    rw [List.flatten_cons, List.nodup_append] at h
    obtain ⟨h1, h2, h3⟩ := h
    rcases List.mem_cons.mp hr with e | q
    · rcases List.mem_cons.mp hr' with e' | q'
      · rw [e, e']
      · exact absurd rfl (h3 x (e ▸ hx) x (List.mem_flatten.mpr ⟨r', q', hx'⟩))
    · rcases List.mem_cons.mp hr' with e' | q'
      · exact absurd rfl (h3 x (e' ▸ hx') x (List.mem_flatten.mpr ⟨r, q, hx⟩))
      · exact ih h2 q q'
theorem Rings.nodup {h : List Nat} {rs : List (List Nat)} (R : Rings h rs) : rs.flatten.Nodup := R.all.nodup_iff.mpr List.nodup_range
/-- the walks that begin with their least guest are the rings -/
theorem Rings.lead {h : List Nat} {rs : List (List Nat)} (R : Rings h rs) {f : Nat → List Nat} (hf : ∀ g, g < h.length → ∃ r ∈ rs, ∃ k, r[k]? = some g ∧ f g = rot r k) : ((List.range h.length).map f).filter leads = rs := by
  rw [List.filter_map]
  have hd : ∀ g, g < h.length → leads (f g) = decide (g ∈ rs.map (·.headD 0)) := fun g hg => by
    obtain ⟨r, hr, k, hk, e⟩ := hf g hg
    rw [e, leads_rot hk (R.low r hr) (R.rg r hr).ne]
    apply decide_eq_decide.mpr
    constructor
    · intro a
      exact List.mem_map.mpr ⟨r, hr, a.symm⟩
    · intro a
      obtain ⟨r', hr', e'⟩ := List.mem_map.mp a
      have h0 : g ∈ r' := by
        have := (R.rg r' hr').ne
        cases r' with
        | nil => simp at this
        | cons b l => simp at e'; simp [e']
      have := nodup_flat R.nodup hr hr' (List.mem_of_getElem? hk) h0
      rw [this]
      exact e'.symm
  have hs : (List.range h.length).filter (leads ∘ f) = rs.map (·.headD 0) := by
    have e : (List.range h.length).filter (leads ∘ f) = (List.range h.length).filter (fun g => decide (g ∈ rs.map (·.headD 0))) := List.filter_congr fun g hg => hd g (List.mem_range.mp hg)
    rw [e]
    refine List.Perm.eq_of_pairwise (le := fun a b : Nat => a < b) (fun a b _ _ h1 h2 => by omega) (List.Pairwise.filter _ List.pairwise_lt_range) R.asc ?_
    refine (List.perm_ext_iff_of_nodup (List.Pairwise.filter _ List.nodup_range) (R.asc.imp fun h => Nat.ne_of_lt h)).mpr fun g => ?_
    rw [List.mem_filter]
    constructor
    · intro a
      exact of_decide_eq_true a.2
    · intro a
      refine ⟨?_, decide_eq_true a⟩
      obtain ⟨r', hr', e'⟩ := List.mem_map.mp a
      refine R.all.mem_iff.mp (List.mem_flatten.mpr ⟨r', hr', ?_⟩)
      have := (R.rg r' hr').ne
      cases r' with
      | nil => simp at this
      | cons b l => simp at e'; simp [e']
  rw [hs, List.map_map]
  refine (List.map_congr_left fun r hr => ?_).trans (List.map_id _)
  have ne := (R.rg r hr).ne
  have hm : r.headD 0 < h.length := List.mem_range.mp (R.all.mem_iff.mp (List.mem_flatten.mpr ⟨r, hr, by
    cases r with
    | nil => simp at ne
    | cons b l => simp⟩))
  obtain ⟨r', hr', k, hk, e⟩ := hf (r.headD 0) hm
  have e2 := nodup_flat R.nodup hr' hr (List.mem_of_getElem? hk) (by
    cases r with
    | nil => simp at ne
    | cons b l => simp)
  subst e2
  have k0 : k = 0 := by
    have h0 : r'[0]? = some (r'.headD 0) := by
      cases r' with
      | nil => simp at ne
      | cons b l => simp
    exact nd_ix (R.rg r' hr').nd hk h0
  show f (r'.headD 0) = r'
  rw [e, k0, rot_zero]

/-! ### walk_left, tables_of -/
def sp_walk_left : Sp := fun vs H Q _ => ∃ (a : Addr) (h r : List Nat) (g : Nat), vs = [.ref a, .int g] ∧ H a = some (.lst (nv h)) ∧ Rg h r ∧ r[0]? = some g ∧ r.length ≤ 20 ∧ RetU (nv r) H Q
theorem su_walk {H : Hp} {a : Addr} {h r : List Nat} {g : Nat} (ha : H a = some (.lst (nv h))) (R : Rg h r) (h0 : r[0]? = some g) (hl : r.length ≤ 20) : SpU sp_walk_left ([.ref a, .int (g : Int)] ++ []) H (nv r) := fun H1 e Q q E => ⟨a, h, r, g, rfl, e a _ ha, R, h0, hl, q⟩
theorem take_next {α : Type} {l : List α} {i : Nat} {x : α} (h : l[i]? = some x) : l.take (i + 1) = l.take i ++ [x] := by
  rw [List.take_add_one, h]
  rfl
section
variable {P : Program} {w : World} {K : PySem.W.Frag} {mg : Str → Option Value} {base : Heap}
theorem ok_walk_left (T : Tx K mg) : FnOk P w K mg base CX0 1 T.f_walk_left T.d_walk_left ["lefts", "guest"] sp_walk_left := by
  refine T.F_walk_left.ok sc_walk_left (fun vs H Q E h => ?_) (fun cdv A outer s H vs Q E hr h => ?_)
  · obtain ⟨a, h, r, g, rfl, _⟩ := h
    rfl
  · obtain ⟨a, h, r, g, rfl, ha, R, h0, hl, k⟩ := h
    refine ⟨_, (pss_cons (ps_set (i := 2) sc_walk_left.nd rfl (Or.inl rfl) (pe_lst (pa_cons (pv 1) pa_nil)))
      (pss_cons (ps_while PassesOwn.never (pt_cmpR op_ne (pe_ix ix_list (pv 0) (pe_ix ix_list (pv 2) (pe_un un_neg pe_int) (fun _ _ => rfl)) (fun _ _ => rfl)) (pv 1) (nomark _)) (pss_one (ps_expr (pe_bm PySem.F.plainAttrs_list PySem.F.slot_list_append PySem.F.type_list_append mt_append (pv 2) (pa_cons (pe_ix ix_list (pv 0) (pe_ix ix_list (pv 2) (pe_un un_neg pe_int) (fun _ _ => rfl)) (fun _ _ => rfl)) pa_nil)))))
      (pss_one (ps_ret (pe_callTy call_tupR (by rfl) T.m_tuple (by decide +kernel) (pa_cons (pv 2) pa_nil)))))), ?_⟩
    refine q_asgL (by walk_at "el") fun p H1 hp e1 h1 => ?_
    refine q_while (fun m σ' H' => ∃ i, σ' = [some (.ref a), some (.int g), some (.ref p)] ∧ i < r.length ∧ Ex H H' ∧ H' p = some (.lst (nv (r.take (i + 1)))) ∧ m = r.length - i) r.length ⟨0, rfl, R.ne, e1, ?_, by omega⟩ ?_
    · rw [h1, take_next h0]
      rfl
    · rintro m σ' H' ⟨i, rfl, hi, e, hl', rfl⟩
      obtain ⟨x, y, hx, hy, hxy⟩ := R.st i hi
      have hlast : atI (nv (r.take (i + 1))) (-1) = some (.int (x : Int)) := by
        rw [take_next hx, nv_app]
        exact atI_last _ _
      have hax := e a _ ha
      have evx : ∀ H2, Ex H' H2 → Ev (tOp (rIxL K) (tVar 0) (tOp (rIxL K) (tVar 2) (tUn (rU fun i => .int (-i)) (tC (.int 1))))) [some (.ref a), some (.int g), some (.ref p)] H2 (.int (y : Int)) := fun H2 e2 =>
        ev_op (ev_var rfl) (ev_op (ev_var rfl) (ev_un ev_c ru_neg) (rv_ixL (sq_of (e2 p _ hl')) hlast)) (rv_ixL (sq_of (e2 a _ hax)) (atI_nat (nv_get hxy)))
      refine ⟨decide (i + 1 < r.length), et_is (et_test (ev_op (evx H' (Ex.refl _)) (ev_var rfl) (rv_ne rfl))) ?_, fun hb H2 e2 => ?_, fun hb H2 e2 => ?_⟩
      · rw [dec_int]
        by_cases hn : i + 1 < r.length
        · rw [Nat.mod_eq_of_lt hn] at hy
          have ne : y ≠ g := fun z => by
            subst z
            have := nd_ix R.nd hy h0
            omega
          have : ((y : Int) == (g : Int)) = false := by
            rw [beq_eq_false_iff_ne]
            omega
          rw [this]
          simp [hn]
        · have e0 : i + 1 = r.length := by omega
          rw [e0, Nat.mod_self, h0] at hy
          have : y = g := (Option.some.inj hy).symm
          subst this
          simp [hn]
      · have hn := of_decide_eq_true hb
        rw [Nat.mod_eq_of_lt hn] at hy
        have hl2 := e2 p _ hl'
        refine ⟨fun σ2 H3 => σ2 = [some (.ref a), some (.int g), some (.ref p)] ∧ Ex H H3 ∧ H3 p = some (.lst (nv (r.take (i + 1 + 1)))), fun σ2 H3 ⟨h1, h2, h3⟩ => ⟨r.length - (i + 1), by omega, i + 1, h1, hn, h2, h3, rfl⟩, ?_⟩
        refine s_app hl2 (ev_var rfl) (evx H2 e2) (by rw [nv_len, List.length_take]; omega) fun H3 e3 => ⟨rfl, Ex.mut (e.trans (e2.trans e3)) hp, ?_⟩
        rw [upd_same, take_next hy, nv_app]
        rfl
      · have hn := of_decide_eq_false hb
        have ht : r.take (i + 1) = r := List.take_of_length_le (by omega)
        rw [ht] at hl'
        exact s_retU (eu_tupOf (ev_var rfl) (sq_of (e2 p _ hl'))) fun q H3 hq e3 h3 => k q H3 (fresh_back (e.trans e2) hq) (e.trans (e2.trans e3)) h3
def sp_tables_of : Sp := fun vs H Q _ => ∃ (a : Addr) (h : List Nat) (rs : List (List Nat)), vs = [.ref a] ∧ H a = some (.lst (nv h)) ∧ Ord h ∧ Rings h rs ∧ (∀ p ws H2, H p = none → Ex H H2 → H2 p = some (.lst ws) → TL H2 ws (rs.map nv) → Q (.ref p) H2)
theorem Rings.short {h : List Nat} {rs : List (List Nat)} (R : Rings h rs) {r : List Nat} (hr : r ∈ rs) : r.length ≤ h.length := by
  have := List.Sublist.length_le (List.sublist_flatten_of_mem hr)
  rw [R.all.length_eq, List.length_range] at this
  exact this
theorem lead_val {r : List Nat} (ne : 0 < r.length) : ∃ (x : Nat) (l : List Int), iz r = (x : Int) :: l ∧ r[0]? = some x ∧ decide (V.int (x : Int) = V.int (l.foldl min (x : Int))) = leads r := by
  cases r with
  | nil => simp at ne
  | cons x l =>
    refine ⟨x, iz l, rfl, rfl, ?_⟩
    obtain ⟨h1, h2⟩ := foldl_min_spec (iz l) (x : Int)
    rw [dec_int]
    unfold leads
    rw [Bool.eq_iff_iff]
    simp only [beq_iff_eq, decide_eq_true_eq]
    constructor
    · intro e y hy
      show x ≤ y
      have := h2 (y : Int) (by
        rcases List.mem_cons.mp hy with q | q
        · rw [q]; simp
        · exact List.mem_cons_of_mem _ (List.mem_map.mpr ⟨y, q, rfl⟩))
      omega
    · intro hle
      have a := h2 (x : Int) (by simp)
      have b : ∀ z ∈ (x : Int) :: iz l, (x : Int) ≤ z := fun z hz => by
        rcases List.mem_cons.mp hz with q | q
        · omega
        · obtain ⟨y, hy, rfl⟩ := List.mem_map.mp q
          have : x ≤ y := hle y (by simp [hy])
          omega
      have := b _ h1
      omega
/-- tables_among: of all guests of a seating -/
def sp_tables_among : Sp := fun vs H Q _ => ∃ (a b : Addr) (h : List Nat) (rs : List (List Nat)), vs = [.ref a, .ref b] ∧ H a = some (.lst (nv h)) ∧ H b = some (.lst (nv (List.range h.length))) ∧ Ord h ∧ Rings h rs ∧ (∀ p ws H2, H p = none → Ex H H2 → H2 p = some (.lst ws) → TL H2 ws (rs.map nv) → Q (.ref p) H2)
theorem ok_tables_among (T : Tx K mg) : FnOk P w K mg base CX0 2 T.f_tables_among T.d_tables_among ["lefts", "guests"] sp_tables_among := by
  refine T.F_tables_among.ok sc_tables_among (fun vs H Q E h => ?_) (fun cdv A outer s H vs Q E hr h => ?_)
  · obtain ⟨a, b, h, rs, rfl, _⟩ := h
    rfl
  · obtain ⟨a, b, h, rs, rfl, ha, hb0, o, R, k⟩ := h
    refine ⟨_, (pss_cons (ps_setLc (i := 3) (own := [("guest", 2)]) (g := (gName 2)) (tt := tYes) rfl sc_tables_among.nd rfl rfl (sw_true rfl rfl rfl (by decide +kernel)) (pi_list (pv 1)) (blkOk_by (own := [("guest", 2)]) (N := n_tables_among) (sc := defScope s_tables_among) (by decide +kernel)) (fun _ _ _ _ _ => (pg_name (i := 2) sc_tables_among.nd rfl (Or.inl rfl))) (fun _ _ _ _ _ => pts_nil) (fun _ _ _ _ _ => (pe_call (ok_walk_left T) (hr.mono (by decide)) (by rfl) T.g_walk_left T.F_walk_left.kp T.b_walk_left .nil pass0 (pa_cons (pv 0) (pa_cons (pv 2) pa_nil)))))
      (pss_one (ps_ret (pe_lc (own := [("walk", 4)]) (g := (gName 4)) rfl sc_tables_among.nd (pi_list (pv 3)) (blkOk_by (own := [("walk", 4)]) (N := n_tables_among) (sc := defScope s_tables_among) (by decide +kernel)) (fun _ _ _ _ _ => (pg_name (i := 4) sc_tables_among.nd rfl (Or.inl rfl))) (fun _ _ _ _ _ => (pts_one (pt_cmpR op_eq (pe_ix (r := rIxT K) ix_tup (pv 4) pe_int (fun _ _ => rfl)) (pe_callB (id := "min") (r := rMinT K) (cr_minT rfl (hu_of hr)) (by rfl) T.m_min (by decide +kernel) (pa_cons (pv 4) pa_nil)) (nomark _)))) (fun _ _ _ _ _ => (pv 4)))))), ?_⟩
    obtain ⟨f, hf⟩ := R.walks
    have ho := o.2
    have e1 := Ex.refl H
    have h1 := ha
    refine q_asgLT (rs := (List.range h.length).map fun g => nv (f g)) ?_ fun p ws H2 hp e2 h2 ht => ?_
    · have g := elt_map (K := K) (te := tCall sp_walk_left [] E0 (tCons (tVar 0) (tCons (tVar 2) tNil))) (tl := tVar 1) (σ := [some (.ref a), some (.ref b), none, none, none]) (H := H) (j := 2) (vs := [2]) (xs := nv (List.range h.length)) (fun g => nv (f g)) (ev_var rfl) (sq_of hb0) (by rw [nv_len, List.length_range]; omega) (fun _ => rfl) fun i x H2 e2 hi0 => ?_
      · rw [nv_len, List.length_range] at g
        exact g
      · have hi : i < h.length := by
          have := (List.getElem?_eq_some_iff.mp hi0).1
          rw [nv_len, List.length_range] at this
          exact this
        have hx : x = .int (i : Int) := by
          have := nv_get (xs := List.range h.length) (i := i) (x := i) (by rw [List.getElem?_range hi])
          rw [this] at hi0
          exact (Option.some.inj hi0).symm
        subst hx
        obtain ⟨r, hr, kk, hk, e⟩ := hf i (by omega)
        have hkl := (List.getElem?_eq_some_iff.mp hk).1
        have hrs := R.short hr
        refine eu_call (by walk_at "ea") ?_
        have := su_walk (a := a) (g := i) (e2 a _ h1) ((R.rg r hr).rot hkl) (by rw [rot_get hkl (R.rg r hr).ne, Nat.zero_add, Nat.mod_eq_of_lt hkl]; exact hk) (by rw [rot_len (by omega)]; omega)
        rw [← e] at this
        exact this
    · have hlen := ht.len
      simp at hlen
      refine s_retLT (rs := rs.map nv) ?_ fun q vs H3 hq e3 h3 ht3 => k q vs H3 (fresh_back (e1.trans e2) hq) (e1.trans (e2.trans e3)) h3 ht3
      have g := elt_filter (K := K) (σ := [some (.ref a), some (.ref b), none, some (.ref p), none]) (H := H2) (tl := tVar 3) (j := 4) (vs := [4]) (t := tTest (tOp rEq (tOp (rIxT K) (tVar 4) (tC (.int 0))) (tCB (rMinT K) (tCons (tVar 4) tNil)))) (xs := ws) (rs := (List.range h.length).map fun g => nv (f g))
        (fun r => leads (r.map fun v => match v with | .int z => z.toNat | _ => 0)) (ev_var rfl) (sq_of h2) ht (by omega) (fun _ => rfl) (fun _ => rfl) fun b r H3 e3 hr hb => ?_
      · have e : ((List.range h.length).map fun g => nv (f g)).filter (fun r => leads (r.map fun v => match v with | .int z => z.toNat | _ => 0)) = rs.map nv := by
          rw [show ((List.range h.length).map fun g => nv (f g)) = ((List.range h.length).map f).map nv by rw [List.map_map]; rfl, List.filter_map]
          congr 1
          have : ((fun r : List V => leads (r.map fun v => match v with | .int z => z.toNat | _ => 0)) ∘ nv) = leads := by
            funext r
            show leads ((nv r).map _) = leads r
            rw [nv_eq, List.map_map]
            congr 1
            refine (List.map_congr_left fun x _ => ?_).trans (List.map_id _)
            simp
          rw [this]
          exact R.lead hf
        rw [e] at g
        exact g
      · obtain ⟨g, hg, rfl⟩ := List.mem_map.mp hr
        obtain ⟨r, hr, kk, hk, e⟩ := hf g (List.mem_range.mp hg)
        have hkl := (List.getElem?_eq_some_iff.mp hk).1
        have ne : 0 < (f g).length := by rw [e, rot_len (by omega)]; exact (R.rg r hr).ne
        obtain ⟨x, l, i1, i2, i3⟩ := lead_val ne
        have e5 : leads ((nv (f g)).map fun v => match v with | .int z => z.toNat | _ => 0) = leads (f g) := by
          rw [nv_eq, List.map_map]
          congr 1
          refine (List.map_congr_left fun x _ => ?_).trans (List.map_id _)
          simp
        rw [e5, ← i3]
        have hb2 : SqT K H3 b (((x : Int) :: l).map V.int) := st_of (by rw [hb]; unfold nv; rw [i1])
        exact et_test (ev_op (ev_op (ev_var rfl) ev_c (rv_ixT (st_of hb) (atI_nat (j := 0) (nv_get i2)))) (ev_minT (ev_var rfl) hb2) (rv_eq rfl))
theorem elt_among {H : Hp} {a : Addr} {h : List Nat} {rs : List (List Nat)} {σ : L2.St} {ta tb : TE} {E : XK} (h1 : Ev ta σ H (.ref a)) (h2 : EvL tb σ H (nv (List.range h.length))) (ha : H a = some (.lst (nv h))) (o : Ord h) (R : Rings h rs) : EvLT (tCall sp_tables_among [] E (tCons ta (tCons tb tNil))) σ H (rs.map nv) := fun H1 e Q q => h1 H1 e _ fun H2 e2 => h2 H2 (e.trans e2) _ fun b H3 nb e3 hb => ⟨a, b, h, rs, rfl, (e.trans (e2.trans e3)) a _ ha, hb, o, R, fun p ws H4 hp e4 h4 t => q p ws H4 (fresh_back (e2.trans e3) hp) ((e2.trans e3).trans e4) h4 t⟩
theorem ok_tables_of (T : Tx K mg) : FnOk P w K mg base CX0 5 T.f_tables_of T.d_tables_of ["seating"] sp_tables_of := by
  refine T.F_tables_of.ok sc_tables_of (fun vs H Q E h => ?_) (fun cdv A outer s H vs Q E hr h => ?_)
  · obtain ⟨a, h, rs, rfl, _⟩ := h
    rfl
  · obtain ⟨a, h, rs, rfl, ha, o, R, k⟩ := h
    refine ⟨_, (pss_cons (ps_expr (pe_call (ok_check_seating T) (hr.mono (by decide)) (by rfl) T.g_check_seating T.F_check_seating.kp T.b_check_seating .nil pass0 (pa_cons (pv 0) pa_nil)))
      (pss_one (ps_ret (pe_call (ok_tables_among T) (hr.mono (by decide)) (by rfl) T.g_tables_among T.F_tables_among.kp T.b_tables_among .nil pass0 (pa_cons (pv 0) (pa_cons (pe_listRg rfl (by rfl) T.m_list (prg_1 (by rfl) T.m_range (pe_callB call_lenR (by rfl) T.m_len (by decide +kernel) (pa_cons (pv 0) pa_nil)))) pa_nil)))))), ?_⟩
    have ho := o.2
    refine q_drop (by walk_at "ev") fun H1 e1 => ?_
    have h1 := e1 a _ ha
    refine s_retLT (rs := rs.map nv) (elt_among (ev_var rfl) ?_ h1 o R) fun q vs H3 hq e3 h3 ht3 => k q vs H3 (fresh_back e1 hq) (e1.trans e3) h3 ht3
    have g := el_rg1 (σ := start n_tables_of [.ref a]) (ev_len (K := K) (ta := tVar 0) (ev_var (i := 0) (v := .ref a) rfl) (sq_of h1)) (RgOk.of_le (by decide) (by rw [nv_len]; omega) (by decide) (by rw [nv_len]; omega))
    rw [nv_len, range_iz] at g
    exact g
end


local macro_rules | `(tactic| walk_at "call") => `(tactic| (with_reducible exact sv_whole))
local macro_rules | `(tactic| walk_at "call") => `(tactic| ((with_reducible refine' sv_order ?c1 ?c2); (case c1 => assumption); (case c2 => assumption)))
local macro_rules | `(tactic| walk_at "call") => `(tactic| ((with_reducible refine' sv_ord ?c1 ?c2); (case c1 => assumption); (case c2 => assumption)))

/-! ### rings by entries: the mathematics -/
def insr (pal one : Nat) (r : List Nat) : List Nat := if pal ∈ r ∧ pal ≠ one then r.take (r.idxOf pal + 1) ++ [one] ++ r.drop (r.idxOf pal + 1) else r
def rstep (rs : List (List Nat)) (one pal : Nat) : List (List Nat) := (if one = pal then rs ++ [[one]] else rs).map (insr pal one)
def ringsTo (e : List Nat) : Nat → List (List Nat)
  | 0 => []
  | i + 1 => rstep (ringsTo e i) i (e.getD i 0)
structure RI (m : Nat) (rs : List (List Nat)) : Prop where
  all : rs.flatten.Perm (List.range m)
  ne : ∀ r ∈ rs, 0 < r.length
  low : ∀ r ∈ rs, ∀ x ∈ r, r.headD 0 ≤ x
  asc : (rs.map (·.headD 0)).Pairwise (· < ·)
theorem insr_perm {pal one : Nat} {r : List Nat} (h : pal ∈ r) (ne : pal ≠ one) : (insr pal one r).Perm (one :: r) := by
  unfold insr
  rw [if_pos ⟨h, ne⟩, List.append_assoc]
  refine (List.Perm.append_left _ List.perm_append_comm).trans ?_
  rw [← List.append_assoc, List.take_append_drop]
  exact List.perm_append_comm
theorem insr_no {pal one : Nat} {r : List Nat} (h : pal ∉ r) : insr pal one r = r := if_neg fun q => h q.1
theorem insr_same {pal one : Nat} {r : List Nat} (h : pal = one) : insr pal one r = r := if_neg fun q => q.2 h
theorem insr_head {pal one : Nat} {r : List Nat} : (insr pal one r).headD 0 = r.headD 0 := by
  by_cases h : pal ∈ r ∧ pal ≠ one
  · unfold insr
    rw [if_pos h]
    cases r with
    | nil => simp at h
    | cons x l => simp
  · unfold insr
    rw [if_neg h]
theorem insr_len {pal one : Nat} {r : List Nat} (h : 0 < r.length) : 0 < (insr pal one r).length := by
  unfold insr
  split
  · simp
    omega
  · exact h
theorem insr_mem {pal one x : Nat} {r : List Nat} (h : x ∈ insr pal one r) : x ∈ r ∨ x = one := by
  by_cases q : pal ∈ r ∧ pal ≠ one
  · have := (insr_perm q.1 q.2).mem_iff.mp h
    rcases List.mem_cons.mp this with z | z
    · exact .inr z
    · exact .inl z
  · unfold insr at h
    rw [if_neg q] at h
    exact .inl h
theorem insr_all {pal one : Nat} (ne : pal ≠ one) : ∀ {rs : List (List Nat)}, rs.flatten.Nodup → pal ∈ rs.flatten → (rs.map (insr pal one)).flatten.Perm (one :: rs.flatten)
  | [], _, h => by simp at h
  | r :: l, nd, h => by
    rw [List.flatten_cons, List.nodup_append] at nd
    rw [List.map_cons, List.flatten_cons, List.flatten_cons]
    by_cases q : pal ∈ r
    · have hn : ∀ s ∈ l, pal ∉ s := fun s hs z => absurd rfl (nd.2.2 pal q pal (List.mem_flatten.mpr ⟨s, hs, z⟩))
      have e : l.map (insr pal one) = l := (List.map_congr_left fun s hs => insr_no (hn s hs)).trans (List.map_id _)
      rw [e]
      exact (List.Perm.append_right _ (insr_perm q ne))
    · rw [insr_no q]
      have h' : pal ∈ l.flatten := by
        rw [List.flatten_cons] at h
        rcases List.mem_append.mp h with z | z
        · exact absurd z q
        · exact z
      refine (List.Perm.append_left _ (insr_all ne nd.2.1 h')).trans ?_
      exact List.perm_middle
theorem RI.nd {m : Nat} {rs : List (List Nat)} (R : RI m rs) : rs.flatten.Nodup := R.all.nodup_iff.mpr List.nodup_range
theorem RI.mem {m x : Nat} {rs : List (List Nat)} (R : RI m rs) {r : List Nat} (hr : r ∈ rs) (hx : x ∈ r) : x < m := List.mem_range.mp (R.all.mem_iff.mp (List.mem_flatten.mpr ⟨r, hr, hx⟩))
theorem head_mem {r : List Nat} (h : 0 < r.length) : r.headD 0 ∈ r := by
  cases r with
  | nil => simp at h
  | cons x l => simp
theorem RI.step {one pal : Nat} {rs : List (List Nat)} (R : RI one rs) (h : pal ≤ one) : RI (one + 1) (rstep rs one pal) := by
  unfold rstep
  by_cases q : one = pal
  · rw [if_pos q]
    have e : (rs ++ [[one]]).map (insr pal one) = rs ++ [[one]] := (List.map_congr_left fun s _ => insr_same q.symm).trans (List.map_id _)
    rw [e]
    refine ⟨?_, ?_, ?_, ?_⟩
    · rw [List.flatten_append, List.range_succ]
      exact List.Perm.append_right _ R.all
    · intro r hr
      rcases List.mem_append.mp hr with z | z
      · exact R.ne r z
      · rw [List.mem_singleton.mp z]; simp
    · intro r hr
      rcases List.mem_append.mp hr with z | z
      · exact R.low r z
      · rw [List.mem_singleton.mp z]; simp
    · rw [List.map_append, List.pairwise_append]
      refine ⟨R.asc, by simp, fun a ha b hb => ?_⟩
      obtain ⟨r, hr, rfl⟩ := List.mem_map.mp ha
      have := R.mem hr (head_mem (R.ne r hr))
      simp at hb
      omega
  · rw [if_neg q]
    have hp : pal ∈ rs.flatten := R.all.mem_iff.mpr (List.mem_range.mpr (by omega))
    have eh : (rs.map (insr pal one)).map (·.headD 0) = rs.map (·.headD 0) := by
      rw [List.map_map]
      exact List.map_congr_left fun r _ => insr_head
    refine ⟨?_, ?_, ?_, ?_⟩
    · refine (insr_all (Ne.symm q) R.nd hp).trans ?_
      rw [List.range_succ]
      exact (List.Perm.cons _ R.all).trans (List.perm_append_comm (l₁ := [one]))
    · intro r hr
      obtain ⟨s, hs, rfl⟩ := List.mem_map.mp hr
      exact insr_len (R.ne s hs)
    · intro r hr x hx
      obtain ⟨s, hs, rfl⟩ := List.mem_map.mp hr
      rw [insr_head]
      rcases insr_mem hx with z | z
      · exact R.low s hs x z
      · have := R.mem hs (head_mem (R.ne s hs))
        omega
    · rw [eh]
      exact R.asc
theorem ringsTo_ok {e : List Nat} (h : ∀ (i x : Nat), e[i]? = some x → x ≤ i) : ∀ m, m ≤ e.length → RI m (ringsTo e m)
  | 0, _ => ⟨List.Perm.refl _, by simp [ringsTo], by simp [ringsTo], by simp [ringsTo]⟩
  | m + 1, hm => by
    have ih := ringsTo_ok h m (by omega)
    refine ih.step ?_
    have : e[m]? = some (e.getD m 0) := by
      rw [List.getD_eq_getElem?_getD, List.getElem?_eq_getElem (by omega)]
      rfl
    exact h m _ this
/-! the seating of rings -/
def succ (rs : List (List Nat)) (x : Nat) : Nat := match rs.find? (fun r => decide (x ∈ r)) with
  | some r => r.getD ((r.idxOf x + 1) % r.length) 0
  | none => 0
theorem succ_at {rs : List (List Nat)} (nd : rs.flatten.Nodup) {r : List Nat} (hr : r ∈ rs) {i x : Nat} (hx : r[i]? = some x) : succ rs x = r.getD ((i + 1) % r.length) 0 := by
  have hm := List.mem_of_getElem? hx
  have hf : rs.find? (fun r => decide (x ∈ r)) = some r := by
    cases hq : rs.find? (fun r => decide (x ∈ r)) with
    | none => exact absurd (decide_eq_true hm) (by simpa using List.find?_eq_none.mp hq r hr)
    | some s =>
      have h1 := List.mem_of_find?_eq_some hq
      have h2 := List.find?_some hq
      rw [nodup_flat nd h1 hr (of_decide_eq_true h2) hm]
  have ndr : r.Nodup := List.Pairwise.sublist (List.sublist_flatten_of_mem hr) nd
  have hi : r.idxOf x = i := by
    have hl := List.idxOf_lt_length_of_mem hm
    have := List.getElem_idxOf hl
    have h1 : r[r.idxOf x]? = some x := by rw [List.getElem?_eq_getElem hl, this]
    exact nd_ix ndr h1 hx
  unfold succ
  rw [hf]
  show r.getD ((r.idxOf x + 1) % r.length) 0 = _
  rw [hi]
def seat (rs : List (List Nat)) (n : Nat) : List Nat := (List.range n).map (succ rs)
theorem seat_rg {rs : List (List Nat)} {n : Nat} (hp : rs.flatten.Perm (List.range n)) {r : List Nat} (hr : r ∈ rs) (ne : 0 < r.length) : Rg (seat rs n) r := by
  have nd : rs.flatten.Nodup := hp.nodup_iff.mpr List.nodup_range
  refine ⟨ne, List.Pairwise.sublist (List.sublist_flatten_of_mem hr) nd, fun i hi => ?_⟩
  have hx : r[i]? = some r[i] := List.getElem?_eq_getElem hi
  have hm := Nat.mod_lt (i + 1) ne
  refine ⟨r[i], r[(i + 1) % r.length], hx, List.getElem?_eq_getElem hm, ?_⟩
  have hn : r[i] < n := List.mem_range.mp (hp.mem_iff.mp (List.mem_flatten.mpr ⟨r, hr, List.getElem_mem hi⟩))
  unfold seat
  rw [List.getElem?_map, List.getElem?_range hn]
  show some (succ rs r[i]) = _
  rw [succ_at nd hr hx, List.getD_eq_getElem?_getD, List.getElem?_eq_getElem hm]
  rfl
theorem seat_len (rs : List (List Nat)) (n : Nat) : (seat rs n).length = n := by simp [seat]
theorem map_rot {rs : List (List Nat)} (nd : rs.flatten.Nodup) {r : List Nat} (hr : r ∈ rs) (ne : 0 < r.length) : r.map (succ rs) = rot r (1 % r.length) := by
  have hk := Nat.mod_lt 1 ne
  refine List.ext_getElem? fun i => ?_
  by_cases hi : i < r.length
  · have hx : r[i]? = some r[i] := List.getElem?_eq_getElem hi
    have hm := Nat.mod_lt (i + 1) ne
    rw [List.getElem?_map, hx, rot_get hk hi, Nat.add_mod_mod]
    show some (succ rs r[i]) = _
    rw [succ_at nd hr hx, List.getD_eq_getElem?_getD, List.getElem?_eq_getElem hm]
    rfl
  · rw [List.getElem?_eq_none (by simp; omega), List.getElem?_eq_none (by rw [rot_len (by omega)]; omega)]
theorem flat_map_perm {g : Nat → Nat} : ∀ {rs : List (List Nat)}, (∀ r ∈ rs, (r.map g).Perm r) → (rs.flatten.map g).Perm rs.flatten
  | [], _ => List.Perm.refl _
  | r :: l, h => by
    rw [List.flatten_cons, List.map_append]
    exact List.Perm.append (h r (by simp)) (flat_map_perm fun s hs => h s (by simp [hs]))
theorem seat_perm {rs : List (List Nat)} {n : Nat} (hp : rs.flatten.Perm (List.range n)) (hne : ∀ r ∈ rs, 0 < r.length) : (seat rs n).Perm (List.range n) := by
  have nd : rs.flatten.Nodup := hp.nodup_iff.mpr List.nodup_range
  unfold seat
  refine ((hp.symm.map (succ rs)).trans (flat_map_perm fun r hr => ?_)).trans hp
  rw [map_rot nd hr (hne r hr)]
  exact rot_perm r _
theorem RI.rings {m : Nat} {rs : List (List Nat)} (R : RI m rs) : Rings (seat rs m) rs := ⟨fun r hr => seat_rg R.all hr (R.ne r hr), R.low, R.asc, by rw [seat_len]; exact R.all⟩
theorem seat_ord {rs : List (List Nat)} {n : Nat} (hp : rs.flatten.Perm (List.range n)) (hne : ∀ r ∈ rs, 0 < r.length) (h1 : 1 ≤ n) (h2 : n ≤ 20) : Ord (seat rs n) := by
  unfold Ord
  rw [seat_len]
  exact ⟨seat_perm hp hne, h1, h2⟩

/-! ### coming lists: the mathematics -/
def Cm (c : List Nat) : Prop := 1 ≤ c.length ∧ c.length ≤ 20 ∧ ∀ (i x : Nat), c[i]? = some x → x ≤ i
theorem Cm.get {c : List Nat} (h : Cm c) (k : Nat) : c.getD k 0 ≤ k := by
  rw [List.getD_eq_getElem?_getD]
  cases e : c[k]? with
  | none => exact Nat.zero_le _
  | some x => exact h.2.2 k x e
/-- one more guest at the left of x, or alone -/
def sits (h : List Nat) (k x : Nat) : List Nat := if x = k then h ++ [k] else ((h ++ [k]).set k (h.getD x 0)).set x k
def sby (c : List Nat) : Nat → List Nat
  | 0 => []
  | k + 1 => sits (sby c k) k (c.getD k 0)
theorem sits_len {h : List Nat} {k x : Nat} : (sits h k x).length = h.length + 1 := by
  unfold sits
  split <;> simp
theorem sby_len (c : List Nat) : ∀ k, (sby c k).length = k
  | 0 => rfl
  | k + 1 => by
    show (sits _ _ _).length = _
    rw [sits_len, sby_len c k]
theorem sby_take (c : List Nat) {w : Nat} (hw : w ≤ c.length) : ∀ k, k ≤ w → sby (c.take w) k = sby c k
  | 0, _ => rfl
  | k + 1, h => by
    show sits (sby (c.take w) k) k _ = sits (sby c k) k _
    rw [sby_take c hw k (by omega)]
    congr 1
    rw [List.getD_eq_getElem?_getD, List.getD_eq_getElem?_getD, List.getElem?_take]
    rw [if_pos (by omega)]
theorem insr_at {pal one : Nat} {r : List Nat} {j : Nat} (nd : r.Nodup) (hj : r[j]? = some pal) (ne : pal ≠ one) : insr pal one r = r.take (j + 1) ++ [one] ++ r.drop (j + 1) := by
  have hm := List.mem_of_getElem? hj
  have e : r.idxOf pal = j := by
    have hl := List.idxOf_lt_length_of_mem hm
    have h1 : r[r.idxOf pal]? = some pal := by rw [List.getElem?_eq_getElem hl, List.getElem_idxOf hl]
    exact nd_ix nd h1 hj
  unfold insr
  rw [if_pos ⟨hm, ne⟩, e]
theorem ins_get {r : List Nat} {j one t : Nat} (hj : j < r.length) : (r.take (j + 1) ++ [one] ++ r.drop (j + 1))[t]? = if t ≤ j then r[t]? else if t = j + 1 then some one else r[t - 1]? := by
  have l1 : (r.take (j + 1)).length = j + 1 := by rw [List.length_take]; omega
  split
  · rename_i h
    rw [List.getElem?_append_left (by simp; omega), List.getElem?_append_left (by omega), List.getElem?_take, if_pos (by omega)]
  · split
    · rename_i h1 h2
      subst h2
      rw [List.getElem?_append_left (by simp; omega), List.getElem?_append_right (by omega), l1, Nat.sub_self]
      rfl
    · rename_i h1 h2
      rw [List.getElem?_append_right (by simp; omega), List.getElem?_drop]
      congr 1
      simp
      omega
theorem ins_len {r : List Nat} {j one : Nat} (hj : j < r.length) : (r.take (j + 1) ++ [one] ++ r.drop (j + 1)).length = r.length + 1 := by
  simp
  omega
theorem mod_next {i L : Nat} (h : i < L) : (i + 1) % L = if i + 1 = L then 0 else i + 1 := by
  split
  · rename_i e
    rw [e, Nat.mod_self]
  · exact Nat.mod_eq_of_lt (by omega)
theorem getD_of {r : List Nat} {i x : Nat} (h : r[i]? = some x) : r.getD i 0 = x := by
  rw [List.getD_eq_getElem?_getD, h]
  rfl
/-- the left neighbours when one more guest has sat down -/
theorem succ_step {one pal : Nat} {rs : List (List Nat)} (R : RI one rs) (lt : pal < one) : succ (rstep rs one pal) pal = one ∧ succ (rstep rs one pal) one = succ rs pal ∧ ∀ x, x < one → x ≠ pal → succ (rstep rs one pal) x = succ rs x := by
  have ne : pal ≠ one := by omega
  have R2 := R.step (pal := pal) (by omega)
  have nd2 := R2.nd
  have nd := R.nd
  have e : rstep rs one pal = rs.map (insr pal one) := by
    unfold rstep
    rw [if_neg (by omega)]
  have hp : pal ∈ rs.flatten := R.all.mem_iff.mpr (List.mem_range.mpr lt)
  obtain ⟨r, hr, hpr⟩ := List.mem_flatten.mp hp
  obtain ⟨j, hj⟩ := List.mem_iff_getElem?.mp hpr
  have jl := (List.getElem?_eq_some_iff.mp hj).1
  have ndr : r.Nodup := List.Pairwise.sublist (List.sublist_flatten_of_mem hr) nd
  have ei := insr_at (one := one) ndr hj ne
  have mem2 : r.take (j + 1) ++ [one] ++ r.drop (j + 1) ∈ rstep rs one pal := by
    rw [e, ← ei]
    exact List.mem_map.mpr ⟨r, hr, rfl⟩
  have L := ins_len (one := one) jl
  have G := fun t => ins_get (one := one) (t := t) jl
  generalize hq : r.take (j + 1) ++ [one] ++ r.drop (j + 1) = q at *
  have atj : q[j]? = some pal := by rw [G, if_pos (Nat.le_refl _)]; exact hj
  have atj1 : q[j + 1]? = some one := by rw [G, if_neg (by omega), if_pos rfl]
  have s1 := succ_at nd2 mem2 atj
  have s2 := succ_at nd2 mem2 atj1
  have s0 := succ_at nd hr hj
  refine ⟨?_, ?_, ?_⟩
  · rw [s1, L, mod_next (by omega), if_neg (by omega)]
    exact getD_of atj1
  · rw [s2, L, s0, mod_next (by omega), mod_next jl]
    by_cases z : j + 1 = r.length
    · rw [if_pos (by omega), if_pos z, List.getD_eq_getElem?_getD, List.getD_eq_getElem?_getD, G, if_pos (by omega)]
    · rw [if_neg (by omega), if_neg z, List.getD_eq_getElem?_getD, List.getD_eq_getElem?_getD, G, if_neg (by omega), if_neg (by omega)]
      rfl
  · intro x hx nx
    have hxm : x ∈ rs.flatten := R.all.mem_iff.mpr (List.mem_range.mpr hx)
    obtain ⟨s, hs, hxs⟩ := List.mem_flatten.mp hxm
    obtain ⟨i, hi⟩ := List.mem_iff_getElem?.mp hxs
    have il := (List.getElem?_eq_some_iff.mp hi).1
    have t0 := succ_at nd hs hi
    by_cases hps : pal ∈ s
    · have : s = r := nodup_flat nd hs hr hps hpr
      subst this
      rw [t0, mod_next il]
      rcases Nat.lt_trichotomy i j with h | h | h
      · have t1 := succ_at nd2 mem2 (i := i) (x := x) (by rw [G, if_pos (by omega)]; exact hi)
        rw [t1, L, mod_next (by omega), if_neg (by omega), if_neg (by omega), List.getD_eq_getElem?_getD, List.getD_eq_getElem?_getD, G, if_pos (by omega)]
      · subst h
        rw [hj] at hi
        exact absurd (Option.some.inj hi).symm nx
      · have t1 := succ_at nd2 mem2 (i := i + 1) (x := x) (by
          rw [G, if_neg (by omega), if_neg (by omega)]
          exact hi)
        rw [t1, L, mod_next (by omega)]
        by_cases z : i + 1 = s.length
        · rw [if_pos (by omega), if_pos z, List.getD_eq_getElem?_getD, List.getD_eq_getElem?_getD, G, if_pos (by omega)]
        · rw [if_neg (by omega), if_neg z, List.getD_eq_getElem?_getD, List.getD_eq_getElem?_getD, G, if_neg (by omega), if_neg (by omega)]
          rfl
    · have mem3 : s ∈ rstep rs one pal := by
        rw [e]
        exact List.mem_map.mpr ⟨s, hs, insr_no hps⟩
      rw [succ_at nd2 mem3 hi, t0]
theorem succ_open {one : Nat} {rs : List (List Nat)} (R : RI one rs) : succ (rstep rs one one) one = one ∧ ∀ x, x < one → succ (rstep rs one one) x = succ rs x := by
  have R2 := R.step (pal := one) (Nat.le_refl _)
  have nd2 := R2.nd
  have nd := R.nd
  have e : rstep rs one one = rs ++ [[one]] := by
    unfold rstep
    rw [if_pos rfl]
    exact (List.map_congr_left fun s _ => insr_same rfl).trans (List.map_id _)
  refine ⟨?_, fun x hx => ?_⟩
  · have := succ_at nd2 (r := [one]) (by rw [e]; simp) (i := 0) (x := one) rfl
    rw [this]
    simp
  · have hxm : x ∈ rs.flatten := R.all.mem_iff.mpr (List.mem_range.mpr hx)
    obtain ⟨s, hs, hxs⟩ := List.mem_flatten.mp hxm
    obtain ⟨i, hi⟩ := List.mem_iff_getElem?.mp hxs
    rw [succ_at nd2 (r := s) (by rw [e]; simp [hs]) hi, succ_at nd hs hi]
theorem sby_seat {c : List Nat} (h : ∀ (i x : Nat), c[i]? = some x → x ≤ i) : ∀ k, k ≤ c.length → sby c k = seat (ringsTo c k) k
  | 0, _ => rfl
  | k + 1, hk => by
    have ih := sby_seat h k (by omega)
    have R := ringsTo_ok h k (by omega)
    have hx : c.getD k 0 ≤ k := by
      have : c[k]? = some (c.getD k 0) := by
        rw [List.getD_eq_getElem?_getD, List.getElem?_eq_getElem (by omega)]
        rfl
      exact h k _ this
    show sits (sby c k) k (c.getD k 0) = (List.range (k + 1)).map (succ (rstep (ringsTo c k) k (c.getD k 0)))
    rw [ih]
    generalize c.getD k 0 = x at *
    generalize ringsTo c k = rs at *
    have sl := seat_len rs k
    refine List.ext_getElem? fun i => ?_
    rw [List.getElem?_map]
    unfold sits
    by_cases hxk : x = k
    · subst hxk
      obtain ⟨s1, s2⟩ := succ_open R
      rw [if_pos rfl]
      rcases Nat.lt_trichotomy i x with q | q | q
      · rw [List.getElem?_append_left (by omega), List.getElem?_range (by omega)]
        unfold seat
        rw [List.getElem?_map, List.getElem?_range q]
        show some _ = some _
        rw [s2 i q]
      · subst q
        rw [List.getElem?_append_right (by omega), sl, Nat.sub_self, List.getElem?_range (by omega)]
        show some i = some _
        rw [s1]
      · rw [List.getElem?_eq_none (by simp [sl]; omega), List.getElem?_eq_none (by simp; omega)]
        rfl
    · have xl : x < k := by omega
      obtain ⟨s1, s2, s3⟩ := succ_step R xl
      rw [if_neg hxk]
      have hgx : (seat rs k).getD x 0 = succ rs x := by
        refine getD_of ?_
        unfold seat
        rw [List.getElem?_map, List.getElem?_range xl]
        rfl
      rw [hgx, List.getElem?_set, List.getElem?_set]
      by_cases q1 : x = i
      · subst q1
        rw [if_pos rfl, if_pos (by simp [sl]; omega), List.getElem?_range (by omega)]
        show some k = some _
        rw [s1]
      · rw [if_neg q1]
        rcases Nat.lt_trichotomy i k with q | q | q
        · rw [if_neg (by omega), List.getElem?_append_left (by omega), List.getElem?_range (by omega)]
          unfold seat
          rw [List.getElem?_map, List.getElem?_range q]
          show some _ = some _
          rw [s3 i q (fun z => q1 z.symm)]
        · subst q
          rw [if_pos rfl, if_pos (by simp [sl]), List.getElem?_range (by omega)]
          show some _ = some _
          rw [s2]
        · rw [if_neg (by omega), List.getElem?_eq_none (by simp [sl]; omega), List.getElem?_eq_none (by simp; omega)]
          rfl
theorem sby_lt {c : List Nat} (h : ∀ (i x : Nat), c[i]? = some x → x ≤ i) {k : Nat} (hk : k ≤ c.length) {y : Nat} (hy : y ∈ sby c k) : y < k := by
  rw [sby_seat h k hk] at hy
  have R := ringsTo_ok h k hk
  have := (seat_perm R.all R.ne).mem_iff.mp hy
  exact List.mem_range.mp this
/-- the last guest's right neighbour, and the others without it -/
theorem sits_last {h : List Nat} {k x : Nat} (hl : h.length = k) (hlt : ∀ y ∈ h, y < k) (hx : x ≤ k) :
    (sits h k x)[x]? = some k ∧ (∀ m, m < x → (sits h k x)[m]? ≠ some k) ∧ ((sits h k x).set x ((sits h k x).getD k 0)).dropLast = h := by
  have at' : ∀ (m y : Nat), h[m]? = some y → y < k := fun m y hy => hlt y (List.mem_of_getElem? hy)
  unfold sits
  by_cases hxk : x = k
  · subst hxk
    rw [if_pos rfl]
    have g : (h ++ [x])[x]? = some x := by
      rw [List.getElem?_append_right (by omega), hl, Nat.sub_self]
      rfl
    refine ⟨g, fun m hm z => ?_, ?_⟩
    · rw [List.getElem?_append_left (by omega)] at z
      have := at' m x z
      omega
    · rw [getD_of g, List.set_append_right _ _ (by omega), hl, Nat.sub_self]
      simp
  · have xl : x < k := by omega
    rw [if_neg hxk]
    have l1 : ((h ++ [k]).set k (h.getD x 0)).length = k + 1 := by simp [hl]
    refine ⟨by rw [List.getElem?_set, if_pos rfl, if_pos (by omega)], fun m hm z => ?_, ?_⟩
    · rw [List.getElem?_set, if_neg (by omega), List.getElem?_set, if_neg (by omega), List.getElem?_append_left (by omega)] at z
      have := at' m k z
      omega
    · have g : (((h ++ [k]).set k (h.getD x 0)).set x k).getD k 0 = h.getD x 0 := by
        refine getD_of ?_
        rw [List.getElem?_set, if_neg (by omega), List.getElem?_set, if_pos rfl, if_pos (by simp [hl])]
      rw [g, List.set_set]
      have e1 : (h ++ [k]).set k (h.getD x 0) = h ++ [h.getD x 0] := by
        rw [List.set_append_right _ _ (by omega), hl, Nat.sub_self]
        rfl
      rw [e1, List.set_append_left _ _ (by omega), List.dropLast_concat]
      refine List.ext_getElem (by simp) fun i h1 h2 => ?_
      rw [List.getElem_set]
      split
      · rename_i q
        subst q
        exact getD_of (List.getElem?_eq_getElem h2)
      · rfl
/-- who opened the tables -/
theorem rings_heads (c : List Nat) : ∀ k, (ringsTo c k).map (·.headD 0) = (List.range k).filter fun i => decide (c.getD i 0 = i)
  | 0 => rfl
  | k + 1 => by
    have ih := rings_heads c k
    rw [List.range_succ, List.filter_append, ← ih]
    show (rstep (ringsTo c k) k (c.getD k 0)).map (·.headD 0) = _
    have eh : ∀ rs : List (List Nat), (rs.map (insr (c.getD k 0) k)).map (·.headD 0) = rs.map (·.headD 0) := fun rs => by
      rw [List.map_map]
      exact List.map_congr_left fun r _ => insr_head
    unfold rstep
    rw [eh]
    by_cases h : c.getD k 0 = k
    · have q : decide (c.getD k 0 = k) = true := decide_eq_true h
      rw [if_pos h.symm, List.map_append, List.filter_cons, q]
      rfl
    · have q : decide (c.getD k 0 = k) = false := decide_eq_false h
      rw [if_neg (fun z => h z.symm), List.filter_cons, q]
      simp

/-! ### every list of guests has its tables -/
theorem sby_ext {c : List Nat} {x : Nat} : sby (c ++ [x]) c.length = sby c c.length ∧ sby (c ++ [x]) (c.length + 1) = sits (sby c c.length) c.length x := by
  have h := sby_take (c ++ [x]) (w := c.length) (by simp) c.length (Nat.le_refl _)
  rw [List.take_append_of_le_length (Nat.le_refl _), List.take_length] at h
  refine ⟨h.symm, ?_⟩
  show sits (sby (c ++ [x]) c.length) c.length ((c ++ [x]).getD c.length 0) = _
  rw [← h, List.getD_eq_getElem?_getD, List.getElem?_append_right (Nat.le_refl _), Nat.sub_self]
  rfl
theorem sits_app {h : List Nat} {k x : Nat} (hl : h.length = k) (ne : x ≠ k) : sits h k x = (h ++ [h.getD x 0]).set x k := by
  unfold sits
  rw [if_neg ne]
  congr 1
  rw [List.set_append_right _ _ (by omega), hl, Nat.sub_self]
  rfl
theorem Cm.ord {c : List Nat} (o : Cm c) : Ord (sby c c.length) := by
  rw [sby_seat o.2.2 _ (Nat.le_refl _)]
  have R := ringsTo_ok o.2.2 c.length (Nat.le_refl _)
  exact seat_ord R.all R.ne o.1 o.2.1
theorem Cm.rings {c : List Nat} (o : Cm c) : Rings (sby c c.length) (ringsTo c c.length) := by
  rw [sby_seat o.2.2 _ (Nat.le_refl _)]
  exact (ringsTo_ok o.2.2 c.length (Nat.le_refl _)).rings
theorem perm_end {A B R : List Nat} {n y : Nat} (h : (A ++ n :: B ++ [y]).Perm (R ++ [n])) : (A ++ y :: B).Perm R := by
  have a : (A ++ y :: B ++ [n]).Perm (A ++ n :: B ++ [y]) := by
    rw [List.append_assoc, List.append_assoc]
    refine List.Perm.append_left A ?_
    show (y :: (B ++ [n])).Perm (n :: (B ++ [y]))
    refine (List.Perm.cons y (List.perm_append_singleton n B)).trans ?_
    refine (List.Perm.swap n y B).trans ?_
    exact List.Perm.cons n (List.perm_append_singleton y B).symm
  exact (List.perm_append_right_iff [n]).mp (a.trans h)
/-- every seating comes about by a coming list -/
theorem ord_sby : ∀ (n : Nat) (h : List Nat), h.Perm (List.range n) → ∃ c : List Nat, c.length = n ∧ (∀ (i x : Nat), c[i]? = some x → x ≤ i) ∧ sby c n = h
  | 0, h, p => ⟨[], rfl, fun i x z => by simp at z, by rw [List.range_zero] at p; rw [List.Perm.eq_nil p]; rfl⟩
  | n + 1, h, p => by
    have hl : h.length = n + 1 := by
      have := p.length_eq
      rwa [List.length_range] at this
    have nm : n ∈ h := p.mem_iff.mpr (List.mem_range.mpr (Nat.lt_succ_self n))
    have ne : h ≠ [] := fun z => by
      rw [z] at hl
      simp at hl
    obtain ⟨h0, y, rfl⟩ : ∃ h0 y, h = h0 ++ [y] := ⟨_, _, (List.dropLast_concat_getLast ne).symm⟩
    have l0 : h0.length = n := by
      rw [List.length_append, List.length_singleton] at hl
      omega
    rw [List.range_succ] at p
    have ext : ∀ (c : List Nat) (x : Nat), c.length = n → (∀ (i x : Nat), c[i]? = some x → x ≤ i) → x ≤ n → ∀ (i z : Nat), (c ++ [x])[i]? = some z → z ≤ i := fun c x cl cm xn i z hz => by
      rw [List.getElem?_append] at hz
      split at hz
      · exact cm i z hz
      · have hj := (List.getElem?_eq_some_iff.mp hz).1
        rw [List.length_singleton] at hj
        have e0 : i - c.length = 0 := by omega
        rw [e0] at hz
        have : x = z := by simpa using hz
        omega
    by_cases hy : y = n
    · subst hy
      obtain ⟨c, cl, cm, cs⟩ := ord_sby y h0 ((List.perm_append_right_iff [y]).mp p)
      refine ⟨c ++ [y], by rw [List.length_append, cl]; rfl, ext c y cl cm (Nat.le_refl _), ?_⟩
      have e := (sby_ext (c := c) (x := y)).2
      rw [cl] at e
      rw [e, cs]
      unfold sits
      rw [if_pos rfl]
    · have n0 : n ∈ h0 := by
        rcases List.mem_append.mp nm with z | z
        · exact z
        · exact absurd (List.mem_singleton.mp z).symm hy
      obtain ⟨A, B, rfl⟩ := List.append_of_mem n0
      have pe := perm_end p
      obtain ⟨c, cl, cm, cs⟩ := ord_sby n _ pe
      have al : A.length < n := by
        rw [List.length_append, List.length_cons] at l0
        omega
      refine ⟨c ++ [A.length], by rw [List.length_append, cl]; rfl, ext c _ cl cm (by omega), ?_⟩
      have e := (sby_ext (c := c) (x := A.length)).2
      rw [cl] at e
      rw [e, cs, sits_app (by rw [List.length_append, List.length_cons]; rw [List.length_append, List.length_cons] at l0; exact l0) (by omega)]
      have g : (A ++ y :: B).getD A.length 0 = y := by
        rw [List.getD_eq_getElem?_getD, List.getElem?_append_right (Nat.le_refl _), Nat.sub_self]
        rfl
      rw [g, List.append_assoc, List.set_append_right _ _ (Nat.le_refl _), Nat.sub_self, List.append_assoc]
      rfl
theorem ord_cm {h : List Nat} (o : Ord h) : ∃ c, Cm c ∧ c.length = h.length ∧ sby c c.length = h := by
  obtain ⟨c, cl, cm, cs⟩ := ord_sby h.length h o.1
  exact ⟨c, ⟨by rw [cl]; exact o.2.1, by rw [cl]; exact o.2.2, cm⟩, cl, by rw [cl]; exact cs⟩
/-- who has come last leaves -/
theorem ord_rings {h : List Nat} (o : Ord h) : ∃ rs, Rings h rs ∧ rs.length ≤ h.length := by
  obtain ⟨c, oc, cl, rfl⟩ := ord_cm o
  refine ⟨ringsTo c c.length, oc.rings, ?_⟩
  have e := congrArg List.length (rings_heads c c.length)
  rw [List.length_map] at e
  have l := List.length_filter_le (fun i => decide (c.getD i 0 = i)) (List.range c.length)
  rw [List.length_range] at l
  rw [sby_len]
  omega


local macro_rules | `(tactic| walk_at "call") => `(tactic| (with_reducible exact sv_whole))
local macro_rules | `(tactic| walk_at "call") => `(tactic| ((with_reducible refine' sv_order ?c1 ?c2); (case c1 => assumption); (case c2 => assumption)))
local macro_rules | `(tactic| walk_at "call") => `(tactic| ((with_reducible refine' sv_ord ?c1 ?c2); (case c1 => assumption); (case c2 => assumption)))

/-! ### _law_rings -/
section
variable {K : PySem.W.Frag} {σ : L2.St} {H : Hp} {ta te : TE} {tr : TA} {D : Ends}
theorem nv_flat (r : List Nat) : (nv r).all flatV = true := by
  rw [nv_eq, List.all_map, List.all_eq_true]
  intro x _
  rfl
theorem nv_in (r : List Nat) (x : Nat) : inV (.int x) (nv r) = decide (x ∈ r) := by
  unfold inV
  rw [nv_eq, List.any_map, Bool.eq_iff_iff, List.any_eq_true, decide_eq_true_iff]
  constructor
  · rintro ⟨y, hy, e⟩
    have : ((y : Int) == (x : Int)) = true := e
    have := eq_of_beq this
    have : y = x := by omega
    exact this ▸ hy
  · intro h
    exact ⟨x, h, beq_self_eq_true _⟩
theorem s_dropBM {r : V → List V → Hp → VK → Prop} {l : Addr} {xs : List V} (hl : H l = some (.lst xs)) (ha : Ev ta σ H (.ref l)) (k : ∀ H1, Ex H H1 → tr σ H1 fun vs H2 => r (.ref l) vs H2 fun _ H3 => D.nx σ H3) : tDrop (tBM K "list" r ta tr) D σ H :=
  ha H (Ex.refl H) _ fun H1 e1 => ⟨Or.inl ⟨rfl, xs, sq_of (e1 l _ hl)⟩, k H1 e1⟩
theorem ev_index {l : Addr} {r : List Nat} {x : Nat} (hl : H l = some (.lst (nv r))) (ha : Ev ta σ H (.ref l)) (he : Ev te σ H (.int (x : Int))) (hx : x ∈ r) : Ev (tBM K "list" (rIndex K) ta (tCons te tNil)) σ H (.int (r.idxOf x : Nat)) := fun H1 e Q q =>
  ha H1 e _ fun H2 e2 => ⟨Or.inl ⟨rfl, _, sq_of (e2 l _ (e l _ hl))⟩, he H2 (e.trans e2) _ fun H3 e3 => by
    have hlt := List.idxOf_lt_length_of_mem hx
    refine ⟨l, nv r, .int x, r.idxOf x, .int x, rfl, rfl, sq_of (e3 l _ (e2 l _ (e l _ hl))), rfl, nv_flat r, nv_get (by rw [List.getElem?_eq_getElem hlt, List.getElem_idxOf hlt]), beq_self_eq_true _, fun m z hm hz => ?_, q H3 (e2.trans e3)⟩
    have hml : m < r.length := by omega
    have := nv_get (List.getElem?_eq_getElem hml)
    rw [hz] at this
    have ez := Option.some.inj this
    subst ez
    show ((r[m] : Int) == (x : Int)) = false
    rw [beq_eq_false_iff_ne]
    intro ee
    have ee' : r[m] = x := by omega
    have h1 : r.idxOf x ≤ m := by
      have hh : r.findIdx (· == x) ≤ m := by
        refine Nat.le_of_not_lt fun hlt2 => ?_
        have := List.not_of_lt_findIdx hlt2
        rw [ee'] at this
        simp at this
      exact hh
    omega⟩
end

/-! ### the functions that read a seating -/
def sp_is_within : Sp := fun vs H Q _ => ∃ x l m : Int, vs = [.int x, .int l, .int m] ∧ RetV (.bl (decide (l ≤ x) && decide (x ≤ m))) H Q
theorem sv_between {H : Hp} {x l m : Int} : SpV sp_is_within ([.int x, .int l, .int m] ++ []) H (.bl (decide (l ≤ x) && decide (x ≤ m))) := fun H1 _ Q q E => ⟨x, l, m, rfl, q⟩
local macro_rules | `(tactic| walk_at "call") => `(tactic| (with_reducible exact sv_between))
def sp_check_guest : Sp := fun vs H Q _ => ∃ g n : Nat, vs = [.int (g : Int), .int (n : Int)] ∧ g < n ∧ RetV .non H Q
theorem sv_check_guest {H : Hp} {g n : Nat} (h : g < n) : SpV sp_check_guest ([.int (g : Int), .int (n : Int)] ++ []) H .non := fun H1 _ Q q E => ⟨g, n, rfl, h, q⟩
def sp_check_any : Sp := fun vs H Q _ => ∃ z : Int, vs = [.int z] ∧ RetV .non H Q
theorem sv_check_any {H : Hp} {z : Int} : SpV sp_check_any ([.int z] ++ []) H .non := fun H1 _ Q q E => ⟨z, rfl, q⟩
/-- a guest of the seating h, with its ring from it on -/
def Gst (h r : List Nat) (g : Nat) : Prop := Ord h ∧ Rg h r ∧ r[0]? = some g ∧ g < h.length ∧ r.length ≤ 20
def sp_table_from : Sp := fun vs H Q _ => ∃ (a : Addr) (h r : List Nat) (g : Nat), vs = [.ref a, .int (g : Int)] ∧ H a = some (.lst (nv h)) ∧ Gst h r g ∧ RetU (nv r) H Q
theorem su_table_from {H : Hp} {a : Addr} {h r : List Nat} {g : Nat} (ha : H a = some (.lst (nv h))) (G : Gst h r g) : SpU sp_table_from ([.ref a, .int (g : Int)] ++ []) H (nv r) := fun H1 e Q q E => ⟨a, h, r, g, rfl, e a _ ha, G, q⟩
def sp_right_of : Sp := fun vs H Q _ => ∃ (a : Addr) (h : List Nat) (g x : Nat), vs = [.ref a, .int (g : Int)] ∧ H a = some (.lst (nv h)) ∧ Ord h ∧ h[x]? = some g ∧ RetV (.int (x : Int)) H Q
theorem sv_right_of {H : Hp} {a : Addr} {h : List Nat} {g x : Nat} (ha : H a = some (.lst (nv h))) (o : Ord h) (hx : h[x]? = some g) : SpV sp_right_of ([.ref a, .int (g : Int)] ++ []) H (.int (x : Int)) := fun H1 e Q q E => ⟨a, h, g, x, rfl, e a _ ha, o, hx, q⟩
def sp_steps_left : Sp := fun vs H Q _ => ∃ (a : Addr) (h r : List Nat) (g y : Nat) (z : Int), vs = [.ref a, .int (g : Int), .int z] ∧ H a = some (.lst (nv h)) ∧ Gst h r g ∧ r[(z % (r.length : Int)).toNat]? = some y ∧ RetV (.int (y : Int)) H Q
theorem sv_steps_left {H : Hp} {a : Addr} {h r : List Nat} {g y : Nat} {z : Int} (ha : H a = some (.lst (nv h))) (G : Gst h r g) (hy : r[(z % (r.length : Int)).toNat]? = some y) : SpV sp_steps_left ([.ref a, .int (g : Int), .int z] ++ []) H (.int (y : Int)) := fun H1 e Q q E => ⟨a, h, r, g, y, z, rfl, e a _ ha, G, hy, q⟩
def sp_are_together : Sp := fun vs H Q _ => ∃ (a : Addr) (h r : List Nat) (g m : Nat), vs = [.ref a, .int (g : Int), .int (m : Int)] ∧ H a = some (.lst (nv h)) ∧ Gst h r g ∧ m < h.length ∧ RetV (.bl (decide (m ∈ r))) H Q
theorem sv_are_together {H : Hp} {a : Addr} {h r : List Nat} {g m : Nat} (ha : H a = some (.lst (nv h))) (G : Gst h r g) (hm : m < h.length) : SpV sp_are_together ([.ref a, .int (g : Int), .int (m : Int)] ++ []) H (.bl (decide (m ∈ r))) := fun H1 e Q q E => ⟨a, h, r, g, m, rfl, e a _ ha, G, hm, q⟩
def mirr (h : List Nat) : List Nat := (List.range h.length).map h.idxOf
def sp_mirrored : Sp := fun vs H Q _ => ∃ (a : Addr) (h : List Nat), vs = [.ref a] ∧ H a = some (.lst (nv h)) ∧ Ord h ∧ RetL (nv (mirr h)) H Q
theorem sl_mirrored {H : Hp} {a : Addr} {h : List Nat} (ha : H a = some (.lst (nv h))) (o : Ord h) : SpL sp_mirrored ([.ref a] ++ []) H (nv (mirr h)) := fun H1 e Q q E => ⟨a, h, rfl, e a _ ha, o, q⟩
theorem Ord.nd {h : List Nat} (o : Ord h) : h.Nodup := o.1.nodup_iff.mpr List.nodup_range
theorem Ord.mem {h : List Nat} (o : Ord h) {x : Nat} : x ∈ h ↔ x < h.length := by
  rw [o.1.mem_iff, List.mem_range]
theorem Ord.at_ {h : List Nat} (o : Ord h) {i x : Nat} (e : h[i]? = some x) : x < h.length := o.mem.mp (List.mem_of_getElem? e)
theorem idx_at {h : List Nat} (nd : h.Nodup) {x g : Nat} (hx : h[x]? = some g) : h.idxOf g = x := by
  obtain ⟨hl, e⟩ := List.getElem?_eq_some_iff.mp hx
  have m : g ∈ h := List.mem_of_getElem? hx
  have := List.idxOf_lt_length_of_mem m
  have : h[h.idxOf g]? = some g := by
    rw [List.getElem?_eq_getElem this, List.getElem_idxOf this]
  exact nd_ix nd this hx
section
variable {P : Program} {w : World} {K : PySem.W.Frag} {mg : Str → Option Value} {base : Heap}
theorem ok_is_within (T : Tx K mg) : FnOk P w K mg base CX0 2 T.f_is_within T.d_is_within ["thing", "least", "most"] sp_is_within := by
  refine T.F_is_within.ok sc_is_within (fun vs H Q E h => ?_) (fun cdv A outer s H vs Q E hr h => ?_)
  · obtain ⟨x, l, m, rfl, _⟩ := h
    rfl
  · obtain ⟨x, l, m, rfl, k⟩ := h
    refine ⟨_, (pss_one (ps_ret (pe_and (pe_call (ok_is_whole T) (hr.mono (by decide)) (by rfl) T.g_is_whole T.F_is_whole.kp T.b_is_whole .nil pass0 (pa_cons (pv 0) pa_nil)) (pe_one (pe_chain op_le op_le (pv 1) (pv 0) (pv 2)))))), ?_⟩
    refine s_ret (by walk_at "ev") fun H1 e1 => ?_
    exact k _ e1
theorem ok_check_guest (T : Tx K mg) : FnOk P w K mg base CX0 3 T.f_check_guest T.d_check_guest ["guest", "guests"] sp_check_guest := by
  refine T.F_check_guest.ok sc_check_guest (fun vs H Q E h => ?_) (fun cdv A outer s H vs Q E hr h => ?_)
  · obtain ⟨g, n, rfl, _⟩ := h
    rfl
  · obtain ⟨g, n, rfl, hg, k⟩ := h
    refine ⟨_, (pss_one (ps_if (pt_not (pt_val (pe_call (ok_is_within T) (hr.mono (by decide)) (by rfl) T.g_is_within T.F_is_within.kp T.b_is_within .nil pass0 (pa_cons (pv 0) (pa_cons pe_int (pa_cons (pe_op op_sub (pv 1) pe_int) pa_nil)))))) (pss_one ps_never) pss_nil)), ?_⟩
    refine s_when (by walk_at "et") (fun hb H1 e1 => ?_) fun hb H1 e1 => k _ e1
    rw [decide_eq_true (show (0 : Int) ≤ (g : Int) by omega), decide_eq_true (show (g : Int) ≤ (n : Int) - 1 by omega)] at hb
    cases hb
theorem ok_check_any_number (T : Tx K mg) : FnOk P w K mg base CX0 2 T.f_check_any_number T.d_check_any_number ["number"] sp_check_any := by
  refine T.F_check_any_number.ok sc_check_any_number (fun vs H Q E h => ?_) (fun cdv A outer s H vs Q E hr h => ?_)
  · obtain ⟨z, rfl, _⟩ := h
    rfl
  · obtain ⟨z, rfl, k⟩ := h
    refine ⟨_, (pss_one (ps_if (pt_not (pt_val (pe_call (ok_is_whole T) (hr.mono (by decide)) (by rfl) T.g_is_whole T.F_is_whole.kp T.b_is_whole .nil pass0 (pa_cons (pv 0) pa_nil)))) (pss_one ps_never) pss_nil)), ?_⟩
    exact s_when (b := false) (et_is (by walk_at "et") (by rfl)) (fun hb => Bool.noConfusion hb) fun _ H1 e1 => k _ e1
theorem ev_lenH {σ : L2.St} {H : Hp} {i : Nat} {a : Addr} {h : List Nat} (e : σ[i]? = some (some (.ref a))) (ha : H a = some (.lst (nv h))) : Ev (tCB (rLenS K) (tCons (tVar i) tNil)) σ H (.int (h.length : Int)) := by
  have := ev_len (K := K) (ev_var e) (sq_of ha)
  rw [nv_len] at this
  exact this
theorem ok_table_from (T : Tx K mg) : FnOk P w K mg base CX0 5 T.f_table_from T.d_table_from ["seating", "guest"] sp_table_from := by
  refine T.F_table_from.ok sc_table_from (fun vs H Q E h => ?_) (fun cdv A outer s H vs Q E hr h => ?_)
  · obtain ⟨a, h, r, g, rfl, _⟩ := h
    rfl
  · obtain ⟨a, h, r, g, rfl, ha, ⟨o, R, h0, hg, hl⟩, k⟩ := h
    refine ⟨_, (pss_cons (ps_expr (pe_call (ok_check_seating T) (hr.mono (by decide)) (by rfl) T.g_check_seating T.F_check_seating.kp T.b_check_seating .nil pass0 (pa_cons (pv 0) pa_nil)))
      (pss_cons (ps_expr (pe_call (ok_check_guest T) (hr.mono (by decide)) (by rfl) T.g_check_guest T.F_check_guest.kp T.b_check_guest .nil pass0 (pa_cons (pv 1) (pa_cons (pe_callB call_lenR (by rfl) T.m_len (by decide +kernel) (pa_cons (pv 0) pa_nil)) pa_nil))))
      (pss_one (ps_ret (pe_call (ok_walk_left T) (hr.mono (by decide)) (by rfl) T.g_walk_left T.F_walk_left.kp T.b_walk_left .nil pass0 (pa_cons (pv 0) (pa_cons (pv 1) pa_nil))))))), ?_⟩
    refine q_drop (by walk_at "ev") fun H1 e1 => ?_
    have h1 := e1 a _ ha
    refine q_drop (ev_call (ea_cons (ev_var rfl) (ea_cons (ev_lenH rfl h1) ea_nil)) (sv_check_guest hg)) fun H2 e2 => ?_
    refine s_retU (eu_call (ea_cons (ev_var rfl) (ea_cons (ev_var rfl) ea_nil)) (su_walk (e2 a _ h1) R h0 hl)) fun p H3 hp e3 h3 => k p H3 (fresh_back (e1.trans e2) hp) (e1.trans (e2.trans e3)) h3
theorem ok_right_of (T : Tx K mg) : FnOk P w K mg base CX0 5 T.f_right_of T.d_right_of ["seating", "guest"] sp_right_of := by
  refine T.F_right_of.ok sc_right_of (fun vs H Q E h => ?_) (fun cdv A outer s H vs Q E hr h => ?_)
  · obtain ⟨a, h, g, x, rfl, _⟩ := h
    rfl
  · obtain ⟨a, h, g, x, rfl, ha, o, hx, k⟩ := h
    refine ⟨_, (pss_cons (ps_expr (pe_call (ok_check_seating T) (hr.mono (by decide)) (by rfl) T.g_check_seating T.F_check_seating.kp T.b_check_seating .nil pass0 (pa_cons (pv 0) pa_nil)))
      (pss_cons (ps_expr (pe_call (ok_check_guest T) (hr.mono (by decide)) (by rfl) T.g_check_guest T.F_check_guest.kp T.b_check_guest .nil pass0 (pa_cons (pv 1) (pa_cons (pe_callB call_lenR (by rfl) T.m_len (by decide +kernel) (pa_cons (pv 0) pa_nil)) pa_nil))))
      (pss_one (ps_ret (pe_bm PySem.F.plainAttrs_list PySem.F.slot_list_index PySem.F.type_list_index mt_index (pv 0) (pa_cons (pv 1) pa_nil)))))), ?_⟩
    refine q_drop (by walk_at "ev") fun H1 e1 => ?_
    have h1 := e1 a _ ha
    refine q_drop (ev_call (ea_cons (ev_var rfl) (ea_cons (ev_lenH rfl h1) ea_nil)) (sv_check_guest (o.at_ hx))) fun H2 e2 => ?_
    have := ev_index (K := K) (ta := tVar 0) (te := tVar 1) (σ := start n_right_of [.ref a, .int (g : Int)]) (e2 a _ h1) (ev_var (i := 0) rfl) (ev_var (i := 1) rfl) (List.mem_of_getElem? hx)
    rw [idx_at o.nd hx] at this
    exact s_ret this fun H3 e3 => k _ (e1.trans (e2.trans e3))
theorem ok_steps_left (T : Tx K mg) : FnOk P w K mg base CX0 5 T.f_steps_left T.d_steps_left ["seating", "guest", "number"] sp_steps_left := by
  refine T.F_steps_left.ok sc_steps_left (fun vs H Q E h => ?_) (fun cdv A outer s H vs Q E hr h => ?_)
  · obtain ⟨a, h, r, g, y, z, rfl, _⟩ := h
    rfl
  · obtain ⟨a, h, r, g, y, z, rfl, ha, ⟨o, R, h0, hg, hl⟩, hy, k⟩ := h
    refine ⟨_, (pss_cons (ps_expr (pe_call (ok_check_seating T) (hr.mono (by decide)) (by rfl) T.g_check_seating T.F_check_seating.kp T.b_check_seating .nil pass0 (pa_cons (pv 0) pa_nil)))
      (pss_cons (ps_expr (pe_call (ok_check_guest T) (hr.mono (by decide)) (by rfl) T.g_check_guest T.F_check_guest.kp T.b_check_guest .nil pass0 (pa_cons (pv 1) (pa_cons (pe_callB call_lenR (by rfl) T.m_len (by decide +kernel) (pa_cons (pv 0) pa_nil)) pa_nil))))
      (pss_cons (ps_expr (pe_call (ok_check_any_number T) (hr.mono (by decide)) (by rfl) T.g_check_any_number T.F_check_any_number.kp T.b_check_any_number .nil pass0 (pa_cons (pv 2) pa_nil)))
      (pss_cons (ps_set (i := 3) sc_steps_left.nd rfl (Or.inl rfl) (pe_call (ok_walk_left T) (hr.mono (by decide)) (by rfl) T.g_walk_left T.F_walk_left.kp T.b_walk_left .nil pass0 (pa_cons (pv 0) (pa_cons (pv 1) pa_nil))))
      (pss_one (ps_ret (pe_ix ix_tup (pv 3) (pe_op op_mod (pv 2) (pe_callB call_lenR (by rfl) T.m_len (by decide +kernel) (pa_cons (pv 3) pa_nil))) (fun _ _ => rfl)))))))), ?_⟩
    refine q_drop (by walk_at "ev") fun H1 e1 => ?_
    have h1 := e1 a _ ha
    refine q_drop (ev_call (ea_cons (ev_var rfl) (ea_cons (ev_lenH rfl h1) ea_nil)) (sv_check_guest hg)) fun H2 e2 => ?_
    refine q_drop (ev_call (ea_cons (ev_var rfl) ea_nil) sv_check_any) fun H3 e3 => ?_
    refine q_asgU (eu_call (ea_cons (ev_var rfl) (ea_cons (ev_var rfl) ea_nil)) (su_walk (e3 a _ (e2 a _ h1)) R h0 hl)) fun p H4 hp e4 h4 => ?_
    have ne := R.ne
    have pos : (0 : Int) < (r.length : Int) := by omega
    have lo := Int.emod_nonneg z (show (r.length : Int) ≠ 0 by omega)
    have lt := ev_lenT (K := K) (ta := tVar 3) (σ := [some (V.ref a), some (V.int g), some (.int z), some (.ref p)]) (ev_var (i := 3) rfl) (st_of h4)
    rw [nv_len] at lt
    have ei : (z % (r.length : Int)) = (((z % (r.length : Int)).toNat : Nat) : Int) := by omega
    refine s_ret (ev_op (ev_var rfl) (ev_op (ev_var rfl) lt (rv_I ?_)) (rv_ixT (K := K) (st_of h4) ?_)) fun H5 e5 => k _ (e1.trans (e2.trans (e3.trans (e4.trans e5))))
    · first | omega | (constructor <;> omega) | trace_state
    · have := atI_nat (nv_get hy)
      rw [← ei] at this
      exact this
theorem ok_are_together (T : Tx K mg) : FnOk P w K mg base CX0 5 T.f_are_together T.d_are_together ["seating", "guest", "mate"] sp_are_together := by
  refine T.F_are_together.ok sc_are_together (fun vs H Q E h => ?_) (fun cdv A outer s H vs Q E hr h => ?_)
  · obtain ⟨a, h, r, g, m, rfl, _⟩ := h
    rfl
  · obtain ⟨a, h, r, g, m, rfl, ha, ⟨o, R, h0, hg, hl⟩, hm, k⟩ := h
    refine ⟨_, (pss_cons (ps_expr (pe_call (ok_check_seating T) (hr.mono (by decide)) (by rfl) T.g_check_seating T.F_check_seating.kp T.b_check_seating .nil pass0 (pa_cons (pv 0) pa_nil)))
      (pss_cons (ps_expr (pe_call (ok_check_guest T) (hr.mono (by decide)) (by rfl) T.g_check_guest T.F_check_guest.kp T.b_check_guest .nil pass0 (pa_cons (pv 1) (pa_cons (pe_callB call_lenR (by rfl) T.m_len (by decide +kernel) (pa_cons (pv 0) pa_nil)) pa_nil))))
      (pss_cons (ps_expr (pe_call (ok_check_guest T) (hr.mono (by decide)) (by rfl) T.g_check_guest T.F_check_guest.kp T.b_check_guest .nil pass0 (pa_cons (pv 2) (pa_cons (pe_callB call_lenR (by rfl) T.m_len (by decide +kernel) (pa_cons (pv 0) pa_nil)) pa_nil))))
      (pss_one (ps_ret (pe_cmpR op_in_seq (pv 2) (pe_call (ok_walk_left T) (hr.mono (by decide)) (by rfl) T.g_walk_left T.F_walk_left.kp T.b_walk_left .nil pass0 (pa_cons (pv 0) (pa_cons (pv 1) pa_nil))) (by rfl))))))), ?_⟩
    refine q_drop (by walk_at "ev") fun H1 e1 => ?_
    have h1 := e1 a _ ha
    refine q_drop (ev_call (ea_cons (ev_var rfl) (ea_cons (ev_lenH rfl h1) ea_nil)) (sv_check_guest hg)) fun H2 e2 => ?_
    have h2 := e2 a _ h1
    refine q_drop (ev_call (ea_cons (ev_var rfl) (ea_cons (ev_lenH rfl h2) ea_nil)) (sv_check_guest hm)) fun H3 e3 => ?_
    refine s_ret (ev_is (ev_inU (K := K) (ev_var rfl) (eu_call (ea_cons (ev_var rfl) (ea_cons (ev_var rfl) ea_nil)) (su_walk (e3 a _ h2) R h0 hl)) rfl (nv_flat r)) (by rw [nv_in])) fun H4 e4 => k _ (e1.trans (e2.trans (e3.trans e4)))
theorem ok_mirrored (T : Tx K mg) : FnOk P w K mg base CX0 5 T.f_mirrored T.d_mirrored ["seating"] sp_mirrored := by
  refine T.F_mirrored.ok sc_mirrored (fun vs H Q E h => ?_) (fun cdv A outer s H vs Q E hr h => ?_)
  · obtain ⟨a, h, rfl, _⟩ := h
    rfl
  · obtain ⟨a, h, rfl, ha, o, k⟩ := h
    refine ⟨_, (pss_cons (ps_expr (pe_call (ok_check_seating T) (hr.mono (by decide)) (by rfl) T.g_check_seating T.F_check_seating.kp T.b_check_seating .nil pass0 (pa_cons (pv 0) pa_nil)))
      (pss_one (ps_ret (pe_lc (own := [("guest", 1)]) (g := (gName 1)) (tt := tYes) rfl sc_mirrored.nd (pi_range1 (by rfl) T.m_range (pa_cons (pe_callB (id := "len") (r := rLenS K) call_lenR (by rfl) T.m_len (by decide +kernel) (pa_cons (pv 0) pa_nil)) pa_nil)) (blkOk_by (own := [("guest", 1)]) (N := n_mirrored) (sc := defScope s_mirrored) (by decide +kernel)) (fun _ _ _ _ _ => (pg_name (i := 1) sc_mirrored.nd rfl (Or.inl rfl))) (fun _ _ _ _ _ => pts_nil) (fun _ _ _ _ _ => (pe_indexK (K := K) rfl (pv 0) (pv 1))))))), ?_⟩
    refine q_drop (by walk_at "ev") fun H1 e1 => ?_
    have h1 := e1 a _ ha
    have ho := o.2
    refine s_retL (xs := nv (mirr h)) ?_ fun p H2 hp e2 h2 => k p H2 (fresh_back e1 hp) (e1.trans e2) h2
    have el : nv (mirr h) = given ((h.length : Int)).toNat (fun _ => true) (fun i => V.int (h.idxOf i : Nat)) := by
      unfold given mirr
      rw [List.filter_eq_self.mpr (fun _ _ => rfl), Int.toNat_natCast, nv_eq, List.map_map]
      rfl
    rw [el]
    refine el_lcR1 (n := (h.length : Int)) _ _ (ea_cons (ev_lenH rfl h1) ea_nil) (by omega) (fun _ => rfl) (fun _ _ _ _ => et_yes) fun i H2 e2 hi _ => ?_
    exact ev_index (K := K) (ta := tVar 0) (te := tVar 1) (e2 a _ h1) (ev_var (i := 0) rfl) (ev_var (i := 1) rfl) (o.mem.mpr (by omega))
end


local macro_rules | `(tactic| walk_at "call") => `(tactic| (with_reducible exact sv_whole))
local macro_rules | `(tactic| walk_at "call") => `(tactic| ((with_reducible refine' sv_order ?c1 ?c2); (case c1 => assumption); (case c2 => assumption)))
local macro_rules | `(tactic| walk_at "call") => `(tactic| ((with_reducible refine' sv_ord ?c1 ?c2); (case c1 => assumption); (case c2 => assumption)))

/-! ### seating_with -/
/-- a table at b: a list or a tuple -/
def Tb (H : Hp) (v : V) (r : List Nat) : Prop := ∃ b, v = .ref b ∧ (H b = some (.lst (nv r)) ∨ H b = some (.tup (nv r)))
theorem Tb.ex {H H' : Hp} {v : V} {r : List Nat} (e : Ex H H') (h : Tb H v r) : Tb H' v r := by
  obtain ⟨b, rfl, h | h⟩ := h
  · exact ⟨b, rfl, .inl (e b _ h)⟩
  · exact ⟨b, rfl, .inr (e b _ h)⟩
theorem nv_setN {c : List Nat} {x y : Nat} : (nv c).set x (.int y) = nv (c.set x y) := by
  rw [nv_eq, nv_eq, List.map_set]
theorem nv_rep (n : Nat) : (List.replicate n [V.int 0]).flatten = nv (List.replicate n 0) := by
  rw [nv_eq, List.map_replicate]
  induction n with
  | zero => rfl
  | succ k ih =>
    rw [List.replicate_succ, List.flatten_cons, ih, List.replicate_succ]
    rfl
theorem nv_inj {a b : List Nat} (h : a = b) : nv a = nv b := by rw [h]
def sp_seating_with : Sp := fun vs H Q _ => ∃ (a : Addr) (ws : List V) (rs : List (List Nat)) (h : List Nat), vs = [.ref a] ∧ H a = some (.lst ws) ∧ Paired (Tb H) ws rs ∧ rs.flatten.Perm (List.range h.length) ∧ (∀ r ∈ rs, Rg h r) ∧ h.length ≤ 20 ∧ RetL (nv h) H Q
theorem paired_get {α β : Type} {F : α → β → Prop} : ∀ {l : List α} {m : List β} {i : Nat} {x : α}, Paired F l m → l[i]? = some x → ∃ y, m[i]? = some y ∧ F x y
  | _, _, 0, x, .cons h t, hx => ⟨_, rfl, (Option.some.inj (by simpa using hx)) ▸ h⟩
  | _, _, i + 1, x, .cons h t, hx => by
    obtain ⟨y, h1, h2⟩ := paired_get (i := i) t (by simpa using hx)
    exact ⟨y, by simpa using h1, h2⟩
  | _, _, 0, x, .nil, hx => by simp at hx
  | _, _, i + 1, x, .nil, hx => by simp at hx
theorem sum_len : ∀ rs : List (List Nat), ((rs.map fun r => (r.length : Int))).sum = (rs.flatten.length : Int)
  | [] => rfl
  | r :: l => by
    rw [List.map_cons, List.sum_cons, sum_len l, List.flatten_cons, List.length_append]
    omega
theorem flat_next {rs : List (List Nat)} {i : Nat} {r : List Nat} (h : rs[i]? = some r) : (rs.take (i + 1)).flatten = (rs.take i).flatten ++ r := by
  rw [take_next h, List.flatten_append]
  simp
section
variable {P : Program} {w : World} {K : PySem.W.Frag} {mg : Str → Option Value} {base : Heap}
theorem ok_seating_with (T : Tx K mg) : FnOk P w K mg base CX0 1 T.f_seating_with T.d_seating_with ["tables"] sp_seating_with := by
  refine T.F_seating_with.ok sc_seating_with (fun vs H Q E h => ?_) (fun cdv A outer s H vs Q E hr h => ?_)
  · obtain ⟨a, ws, rs, h, rfl, _⟩ := h
    rfl
  · obtain ⟨a, ws, rs, h, rfl, ha, ht, hp, hR, hn, k⟩ := h
    refine ⟨_, (pss_cons (ps_set (i := 2) sc_seating_with.nd rfl (Or.inl rfl) (pe_op op_rep (pe_lst (pa_cons pe_int pa_nil)) (pe_callB (cr_sum rfl) (by rfl) T.m_sum (by decide +kernel) (pa_cons (pe_lc (own := [("table", 1)]) (g := (gName 1)) (tt := tYes) rfl sc_seating_with.nd (pi_list (pv 0)) (blkOk_by (own := [("table", 1)]) (N := n_seating_with) (sc := defScope s_seating_with) (by decide +kernel)) (fun _ _ _ _ _ => (pg_name (i := 1) sc_seating_with.nd rfl (Or.inl rfl))) (fun _ _ _ _ _ => pts_nil) (fun _ _ _ _ _ => (pe_callB (id := "len") (r := rLenS K) call_lenR (by rfl) T.m_len (by decide +kernel) (pa_cons (pv 1) pa_nil)))) pa_nil))))
      (pss_cons (ps_for PassesOwn.never rfl (pi_list (pv 0)) (pg_name (i := 1) sc_seating_with.nd rfl (Or.inl rfl)) (pss_one (ps_for PassesOwn.never rfl (pi_enumS (by rfl) T.m_enumerate (pa_cons (pv 1) pa_nil)) (pg_tup rfl (pgs_cons (pg_name (i := 3) sc_seating_with.nd rfl (Or.inl rfl)) (pgs_cons (pg_name (i := 4) sc_seating_with.nd rfl (Or.inl rfl)) pgs_nil))) (pss_one (ps_asg (pe_ix ix_seq (pv 1) (pe_op op_mod (pe_op op_add (pv 3) pe_int) (pe_callB call_lenR (by rfl) T.m_len (by decide +kernel) (pa_cons (pv 1) pa_nil))) (fun _ _ => rfl)) (pg_sub (pv 2) (pv 4) set_list))))))
      (pss_one (ps_ret (pv 2))))), ?_⟩
    have hlen : ws.length = rs.length := Paired.length ht
    have hfl : rs.flatten.length = h.length := by rw [hp.length_eq, List.length_range]
    have short : ∀ r ∈ rs, r.length ≤ h.length := fun r hr => by
      have := List.Sublist.length_le (List.sublist_flatten_of_mem hr)
      omega
    have many : rs.length ≤ h.length := by
      have : ∀ l : List (List Nat), (∀ r ∈ l, 0 < r.length) → l.length ≤ l.flatten.length := fun l => by
        induction l with
        | nil => intro _; simp
        | cons r l ih =>
          intro hl
          have := ih fun x hx => hl x (by simp [hx])
          have := hl r (by simp)
          rw [List.flatten_cons, List.length_append, List.length_cons]
          omega
      have := this rs fun r hr => (hR r hr).ne
      omega
    have e0 : ((List.range ws.length).map fun i => V.int ((rs.getD i []).length : Int)) = (rs.map fun r => (r.length : Int)).map V.int := by
      rw [hlen, List.map_map]
      conv => rhs; rw [range_get rs []]
      rw [List.map_map]
      rfl
    refine q_asgL (xs := nv (List.replicate h.length 0)) ?_ fun p H1 hp1 e1 h1 => ?_
    · rw [← nv_rep, ← Int.toNat_natCast h.length]
      refine el_rep (by walk_at "el") ?_ (by omega) (by omega) (by simp)
      rw [← hfl, ← sum_len rs]
      refine ev_sumN (ns := rs.map fun r => (r.length : Int)) ?_
      rw [← e0]
      refine el_mapI _ (ev_var rfl) (sq_of ha) (by omega) (fun _ => rfl) fun i x H1 e1 hx => ?_
      obtain ⟨r, hr, b, rfl, hb⟩ := paired_get ht hx
      have g : rs.getD i [] = r := by rw [List.getD_eq_getElem?_getD, hr] <;> rfl
      rw [g, ← nv_len r]
      rcases hb with hb | hb
      · exact ev_len (K := K) (ev_var rfl) (sq_of (e1 b _ hb))
      · exact ev_lenT (K := K) (ev_var rfl) (st_of (e1 b _ hb))
    have pa : p ≠ a := fun z => by
      subst z
      rw [ha] at hp1
      cases hp1
    refine q_forLn (xs := ws) (K := K) (ev_var rfl) (sq_of (e1 a _ ha)) (fun i σ' H' => ∃ (c : List Nat) (y1 y3 y4 : Option V), σ' = [some (.ref a), y1, some (.ref p), y3, y4] ∧ Ex H H' ∧ H' p = some (.lst (nv c)) ∧ c.length = h.length ∧ ∀ x ∈ (rs.take i).flatten, c[x]? = h[x]?)
      (fun H2 e2 => ⟨List.replicate h.length 0, none, none, none, rfl, e1.trans e2, e2 p _ h1, by simp, by simp⟩) (fun i σ' H' _ ⟨_, _, _, _, _, e, _⟩ => sq_of (e a _ ha)) ?_ ?_
    · rintro i v σ' H' hv ⟨c, y1, y3, y4, rfl, e, hc, hcl, hdone⟩
      obtain ⟨r, hr, b, rfl, hb⟩ := paired_get ht hv
      have hrm : r ∈ rs := List.mem_of_getElem? hr
      have R := hR r hrm
      have bp : ∀ o, H b = some o → b ≠ p := fun o ho z => by
        subst z
        rw [hp1] at ho
        cases ho
      have hrl := short r hrm
      have body : ∀ (D : Ends), (∀ σ' H', (∃ (c : List Nat) (y1 y3 y4 : Option V), σ' = [some (.ref a), y1, some (.ref p), y3, y4] ∧ Ex H H' ∧ H' p = some (.lst (nv c)) ∧ c.length = h.length ∧ ∀ x ∈ (rs.take (i + 1)).flatten, c[x]? = h[x]?) → D.nx σ' H') → ∀ (G : Hp → Prop) (hG : (∀ H, G H → SqL K H b (nv r)) ∨ (∀ H, G H → SqT K H b (nv r))), (∀ H2, Ex H H2 → G H2) → tFor (iEnumS K (tCons (tVar 1) tNil)) (gTup K 2 (gCons (gName 3) (gCons (gName 4) gNil)))
          (tAsg (tOp (rIx K) (tVar 1) (tOp (rI (fun _ j => 0 < j) fun i j => .int (i % j)) (tOp (rI0 fun i j => .int (i + j)) (tVar 3) (tC (.int 1))) (tCB (rLenS K) (tCons (tVar 1) tNil)))) (gSub (tVar 2) (tVar 4) rSetL))
          D
          [some (.ref a), some (.ref b), some (.ref p), y3, y4] H' := fun D hD G hG hg => by
        refine s_forEnS (xs := nv r) (ea_cons (ev_var rfl) ea_nil) G hG (fun H2 e2 => hg H2 (e.trans e2)) (fun m σ' H2 => ∃ (c : List Nat) (y3 y4 : Option V), σ' = [some (.ref a), some (.ref b), some (.ref p), y3, y4] ∧ Ex H H2 ∧ H2 p = some (.lst (nv c)) ∧ c.length = h.length ∧ ∀ x ∈ (rs.take i).flatten ++ r.take m, c[x]? = h[x]?)
          (fun H2 e2 => ⟨c, y3, y4, rfl, e.trans e2, e2 p _ hc, hcl, by simpa using hdone⟩) (fun m σ' H2 _ ⟨_, _, _, _, e2, _⟩ => hg H2 e2) ?_ ?_
        · rintro m x σ' H2 H3 hx ⟨c, y3, y4, rfl, e2, hc2, hcl2, hd2⟩ e3
          have hml : m < r.length := by
            have := (List.getElem?_eq_some_iff.mp hx).1
            rw [nv_len] at this
            exact this
          obtain ⟨x0, y0, hx0, hy0, hxy⟩ := R.st m hml
          have ex0 : x = .int (x0 : Int) := by
            have := nv_get hx0
            rw [hx] at this
            exact Option.some.inj this
          subst ex0
          have hgH := hg H3 (e2.trans e3)
          have el : ((m : Int) + 1) % ((nv r).length : Int) = (((m + 1) % r.length : Nat) : Int) := by
            rw [nv_len]
            have := Int.natCast_emod (m + 1) r.length
            simpa using this.symm
          have evl : Ev (tCB (rLenS K) (tCons (tVar 1) tNil)) [some (.ref a), some (.ref b), some (.ref p), some (.int (m : Int)), some (.int (x0 : Int))] H3 (.int ((nv r).length : Int)) := by
            rcases hG with hG | hG
            · exact ev_len (K := K) (ev_var rfl) (hG _ hgH)
            · exact ev_lenT (K := K) (ev_var rfl) (hG _ hgH)
          have hix : RV (rIx K) (.ref b) (.int (((m + 1) % r.length : Nat) : Int)) H3 (.int (y0 : Int)) := fun H4 e4 Q q => by
            rcases hG with hG | hG
            · exact .inl ⟨b, nv r, _, _, rfl, rfl, ex_l e4 (hG _ hgH), atI_nat (nv_get hy0), q H4 (Ex.refl H4)⟩
            · exact .inr (.inl ⟨b, nv r, _, _, rfl, rfl, ex_t e4 (hG _ hgH), atI_nat (nv_get hy0), q H4 (Ex.refl H4)⟩)
          have hx0l : x0 < h.length := (List.getElem?_eq_some_iff.mp hxy).1
          refine s_setL (j := x0) (e3 p _ hc2) (ev_op (ev_var rfl) (ev_op (ev_op (ev_var rfl) ev_c rv_I0) evl (rv_I (by rw [nv_len]; omega))) (by rw [el]; exact hix)) (ev_var rfl) (ev_var rfl) (by rw [nv_len]; omega) fun H4 e4 => ?_
          refine ⟨c.set x0 y0, _, _, rfl, Ex.mut (e2.trans (e3.trans e4)) hp1, ?_, by simp [hcl2], ?_⟩
          · rw [upd_same, nv_setN]
          · intro z hz
            by_cases ez : z = x0
            · rw [ez, List.getElem?_set_self (by omega)]
              exact hxy.symm
            · rw [List.getElem?_set_ne (Ne.symm ez)]
              refine hd2 z ?_
              rw [take_next hx0] at hz
              simp at hz ⊢
              rcases hz with hz | hz | hz
              · exact .inl hz
              · exact .inr hz
              · exact absurd hz ez
        · rintro σ' H2 ⟨c, y3, y4, rfl, e2, hc2, hcl2, hd2⟩
          refine hD _ _ ⟨c, _, _, _, rfl, e2, hc2, hcl2, ?_⟩
          rw [flat_next hr]
          rw [nv_len, List.take_of_length_le (Nat.le_refl _)] at hd2
          exact hd2
      rcases hb with hb | hb
      · exact body _ (fun _ _ q => q) (fun H2 => H2 b = some (.lst (nv r))) (.inl fun _ q => sq_of q) (fun H2 e2 => e2 b _ hb)
      · exact body _ (fun _ _ q => q) (fun H2 => H2 b = some (.tup (nv r))) (.inr fun _ q => st_of q) (fun H2 e2 => e2 b _ hb)
    · rintro σ' H' ⟨c, y1, y3, y4, rfl, e, hc, hcl, hdone⟩
      rw [hlen, List.take_of_length_le (Nat.le_refl _)] at hdone
      have eq : c = h := by
        refine List.ext_getElem? fun x => ?_
        by_cases hx : x < h.length
        · exact hdone x (hp.mem_iff.mpr (List.mem_range.mpr hx))
        · rw [List.getElem?_eq_none (by omega), List.getElem?_eq_none (by omega)]
      subst eq
      exact s_ret (ev_var rfl) fun H2 e2 => k p H2 hp1 (e.trans e2) (e2 p _ hc)
end


local macro_rules | `(tactic| walk_at "call") => `(tactic| (with_reducible exact sv_whole))
local macro_rules | `(tactic| walk_at "call") => `(tactic| ((with_reducible refine' sv_order ?c1 ?c2); (case c1 => assumption); (case c2 => assumption)))
local macro_rules | `(tactic| walk_at "call") => `(tactic| ((with_reducible refine' sv_ord ?c1 ?c2); (case c1 => assumption); (case c2 => assumption)))

section
variable {P : Program} {w : World} {K : PySem.W.Frag} {mg : Str → Option Value} {base : Heap}
theorem ok_check_names (T : Tx K mg) : FnOk P w K mg base CX0 4 T.f_check_names T.d_check_names ["names"] (sp_ord .non) := by
  refine T.F_check_names.ok sc_check_names (fun vs H Q E h => ?_) (fun cdv A outer s H vs Q E hr h => ?_)
  · obtain ⟨a, h, rfl, _⟩ := h
    rfl
  · obtain ⟨a, h, rfl, ha, o, k⟩ := h
    refine ⟨_, (pss_one (ps_if (pt_not (pt_val (pe_call (ok_is_order T) (hr.mono (by decide)) (by rfl) T.g_is_order T.F_is_order.kp T.b_is_order .nil pass0 (pa_cons (pv 0) pa_nil)))) (pss_one ps_never) pss_nil)), ?_⟩
    exact s_when (b := false) (et_is (by walk_at "et") (by rfl)) (fun hb => Bool.noConfusion hb) fun _ H1 e1 => k _ e1
end

theorem nv_set {c : List Nat} {x y : Nat} : (nv c).set x (.int y) = nv (c.set x y) := by rw [nv_eq, nv_eq, List.map_set]

/-! ### two walks in one comprehension; record_list -/
theorem it_gen {J : It} {n : Nat} {G : Hp → Prop} {Y : Nat → Hp → V → Hp → Prop} (w : Walk J n G Y) {S : Hp} {Qd : Hp → Prop} {B : (Hp → Prop) → V → Hp → Prop} (Pv : Nat → Hp → Prop) (h0 : Pv 0 S) (hG : ∀ i H, i ≤ n → Pv i H → G H)
    (hs : ∀ i x H H', i < n → Pv i H → Y i H x H' → B (Pv (i + 1)) x H') (hd : ∀ H, Pv n H → Qd H) :
    ∃ W : Nat → Nat → Hp → Prop, (∃ m, W 0 m S) ∧ ∀ i m H, W i m H →
      (J.stop i H ∧ Qd H) ∨ (J.go i H ∧ ∃ Nx : Hp → Prop, (∀ H', Nx H' → ∃ m', m' < m ∧ W (i + 1) m' H') ∧ ∀ x H', J.yld i H x H' → B Nx x H') := by
  refine ⟨fun i m H => m = n - i ∧ i ≤ n ∧ Pv i H, ⟨n, by simp, Nat.zero_le _, h0⟩, ?_⟩
  rintro i m H ⟨rfl, hi, p⟩
  have q := hG i H hi p
  by_cases hlt : i < n
  · exact .inr ⟨w.goes i H hlt q, Pv (i + 1), fun H' p' => ⟨n - (i + 1), by omega, rfl, hlt, p'⟩, fun x H' y => hs i x H H' hlt p (w.yields i H x H' hlt q y)⟩
  · have e : i = n := by omega
    subst e
    exact .inl ⟨w.stops H q, hd H p⟩
theorem elt_rev {K : PySem.W.Frag} {σ : L2.St} {H : Hp} {ta : TE} {rs : List (List V)} (h : EvLT ta σ H rs) : EvLT (tRevL K ta) σ H rs.reverse := fun H1 e Q q => h H1 e _ fun p vs H2 _ e2 h2 ht =>
  ⟨p, vs, rfl, sq_of h2, fun l hl => q l vs.reverse _ (fresh_back e2 hl) (e2.trans (Ex.new hl)) upd_same (ht.rev.ex (Ex.new hl))⟩
theorem flatV_next {rs : List (List V)} {i : Nat} {r : List V} (h : rs[i]? = some r) : (rs.take (i + 1)).flatten = (rs.take i).flatten ++ r := by
  rw [take_next h, List.flatten_append]
  simp
/-- [x for t in ts for x in t], ts a list of tuples -/
theorem el_lc2 {K : PySem.W.Frag} {σ : L2.St} {H : Hp} {tl : TE} {j l : Nat} {vs vs1 : List Nat} {rs : List (List V)} (h : EvLT tl σ H rs) (hz : rs.flatten.length ≤ 40000)
    (hw : ∀ x, wipe ((wipe σ vs).set j (some x)) vs = wipe σ vs) (hj : ∀ x, ((wipe σ vs).set j (some x))[j]? = some (some x))
    (hw1 : ∀ x y, wipe ((wipe ((wipe σ vs).set j (some x)) vs1).set l (some y)) vs1 = wipe ((wipe σ vs).set j (some x)) vs1) (hl : ∀ x y, ((wipe ((wipe σ vs).set j (some x)) vs1).set l (some y))[l]? = some (some y)) :
    EvL (tLc2 (iList K tl) (gName j) tYes (iTup K (tVar j)) (gName l) tYes (tVar l) vs vs1) σ H rs.flatten := fun H0 e Q q => h H0 e _ fun a ws H1 ha e1 h1 ht => ⟨a, rfl, ⟨ws, sq_of h1⟩, fun Dl hD => by
  have hlen := ht.len
  refine it_gen walk_list (fun i H' => Ex H1 H' ∧ H' Dl = some (.lst (rs.take i).flatten)) ⟨Ex.new hD, upd_same⟩ (fun i H' _ p => sq_of (p.1 a _ h1)) ?_ fun H' p => ?_
  · rintro i x Hh H' hi ⟨p1, p2⟩ ⟨rfl, hx⟩
    obtain ⟨b, r, rfl, hb, hr⟩ := ht.get hx
    have hlr : (rs.take (i + 1)).flatten.length ≤ 40000 := by
      have : (rs.take (i + 1)).flatten.length ≤ rs.flatten.length := by
        conv => rhs; rw [← List.take_append_drop (i + 1) rs, List.flatten_append, List.length_append]
        omega
      omega
    rw [flatV_next hr, List.length_append] at hlr
    refine ⟨hw _, ?_⟩
    simp only [tYes, ↓reduceIte]
    refine ⟨.ref b, hj _, b, rfl, ⟨r, st_of (p1 b _ hb)⟩, ?_⟩
    refine it_gen (walk_tup (K := K) (a := b) (xs := r)) (fun m H2 => Ex H1 H2 ∧ H2 Dl = some (.lst ((rs.take i).flatten ++ r.take m))) ⟨p1, by rw [p2]; simp⟩ (fun m H2 _ p => st_of (p.1 b _ hb)) ?_ fun H2 p => ?_
    · rintro m y H2 H3 hm ⟨p3, p4⟩ ⟨rfl, hy⟩
      refine ⟨hw1 _ _, ?_⟩
      simp only [tYes, ↓reduceIte]
      refine ⟨y, hl _ _, _, p4, sz_lt (by rw [List.length_append, List.length_take]; omega), Ex.mut p3 hD, ?_⟩
      rw [upd_same, take_next hy, List.append_assoc]
    · obtain ⟨p3, p4⟩ := p
      refine ⟨p3, ?_⟩
      rw [p4, flatV_next hr, List.take_of_length_le (Nat.le_refl _)]
  · obtain ⟨p1, p2⟩ := p
    rw [hlen, List.take_of_length_le (Nat.le_refl _)] at p2
    exact q Dl H' (fresh_back e1 hD) (e1.trans p1) p2⟩
theorem flat_nv : ∀ rs : List (List Nat), (rs.map nv).flatten = nv rs.flatten
  | [] => rfl
  | r :: l => by rw [List.map_cons, List.flatten_cons, flat_nv l, List.flatten_cons, nv_app]
theorem elt_tables {σ : L2.St} {H : Hp} {ta : TE} {E : XK} {a : Addr} {h : List Nat} {rs : List (List Nat)} (hv : Ev ta σ H (.ref a)) (ha : H a = some (.lst (nv h))) (o : Ord h) (R : Rings h rs) : EvLT (tCall sp_tables_of [] E (tCons ta tNil)) σ H (rs.map nv) := fun H1 e Q q =>
  hv H1 e _ fun H2 e2 => ⟨a, h, rs, rfl, e2 a _ (e a _ ha), o, R, fun p ws H3 hp e3 h3 ht => q p ws H3 (fresh_back e2 hp) (e2.trans e3) h3 ht⟩
def sp_record_list : Sp := fun vs H Q _ => ∃ (a : Addr) (h : List Nat) (rs : List (List Nat)), vs = [.ref a] ∧ H a = some (.lst (nv h)) ∧ Ord h ∧ Rings h rs ∧ RetL (nv rs.reverse.flatten) H Q
theorem sl_record {H : Hp} {a : Addr} {h : List Nat} {rs : List (List Nat)} (ha : H a = some (.lst (nv h))) (o : Ord h) (R : Rings h rs) : SpL sp_record_list ([.ref a] ++ []) H (nv rs.reverse.flatten) := fun H1 e Q q E => ⟨a, h, rs, rfl, e a _ ha, o, R, q⟩
section
variable {P : Program} {w : World} {K : PySem.W.Frag} {mg : Str → Option Value} {base : Heap}
theorem ok_record_list (T : Tx K mg) : FnOk P w K mg base CX0 6 T.f_record_list T.d_record_list ["seating"] sp_record_list := by
  refine T.F_record_list.ok sc_record_list (fun vs H Q E h => ?_) (fun cdv A outer s H vs Q E hr h => ?_)
  · obtain ⟨a, h, rs, rfl, _⟩ := h
    rfl
  · obtain ⟨a, h, rs, rfl, ha, o, R, k⟩ := h
    refine ⟨_, (pss_one (ps_ret (pe_lc2 (wi1 := iTup K (tVar 1)) (own := [("table", 1), ("guest", 2)]) (vs1 := [2]) (g := (gName 1)) (g1 := (gName 2)) (tt := tYes) (tt1 := tYes) rfl sc_record_list.nd (pi_list (pe_revLK (K := K) rfl (pe_call (ok_tables_of T) (hr.mono (by decide)) (by rfl) T.g_tables_of T.F_tables_of.kp T.b_tables_of .nil pass0 (pa_cons (pv 0) pa_nil)))) (blkOk_by (own := [("table", 1), ("guest", 2)]) (N := n_record_list) (sc := defScope s_record_list) (by decide +kernel)) (by decide) (fun _ _ _ _ _ => (pg_name (i := 1) sc_record_list.nd rfl (Or.inl rfl))) (fun _ _ _ _ _ => pts_nil) (fun _ _ _ _ _ => (pi_tup (pv 1))) (fun _ _ _ _ _ => (pg_name (i := 2) sc_record_list.nd rfl (Or.inl rfl))) (fun _ _ _ _ _ => pts_nil) (fun _ _ _ _ _ => (pv 2))))), ?_⟩
    have hfl : rs.reverse.flatten.length ≤ 20 := by
      have h1 : rs.reverse.flatten.length = rs.flatten.length := (List.Perm.flatten (List.reverse_perm rs)).length_eq
      have h2 := R.all.length_eq
      rw [List.length_range] at h2
      have := o.2.2
      omega
    refine s_retL (xs := nv rs.reverse.flatten) ?_ fun p H1 hp e1 h1 => k p H1 hp e1 h1
    rw [← flat_nv, List.map_reverse]
    refine el_lc2 (elt_rev (elt_tables (ev_var rfl) ha o R)) (by rw [← List.map_reverse, flat_nv, nv_len]; omega) (fun _ => rfl) (fun _ => rfl) (fun _ _ => rfl) (fun _ _ => rfl)
/-! renamed -/
def sp_renamed : Sp := fun vs H Q _ => ∃ (a b : Addr) (h f t : List Nat), vs = [.ref a, .ref b] ∧ H a = some (.lst (nv h)) ∧ H b = some (.lst (nv f)) ∧ Ord h ∧ Ord f ∧ f.length = h.length ∧ t.length = h.length ∧
  (∀ (g x : Nat), h[g]? = some x → ∃ y z, f[g]? = some y ∧ f[x]? = some z ∧ t[y]? = some z) ∧ RetL (nv t) H Q
theorem sl_renamed {H : Hp} {a b : Addr} {h f t : List Nat} (ha : H a = some (.lst (nv h))) (hb : H b = some (.lst (nv f))) (o : Ord h) (o' : Ord f) (hl : f.length = h.length) (ht : t.length = h.length)
    (hk : ∀ (g x : Nat), h[g]? = some x → ∃ y z, f[g]? = some y ∧ f[x]? = some z ∧ t[y]? = some z) : SpL sp_renamed ([.ref a, .ref b] ++ []) H (nv t) := fun H1 e Q q E => ⟨a, b, h, f, t, rfl, e a _ ha, e b _ hb, o, o', hl, ht, hk, q⟩
theorem ok_renamed (T : Tx K mg) : FnOk P w K mg base CX0 5 T.f_renamed T.d_renamed ["seating", "names"] sp_renamed := by
  refine T.F_renamed.ok sc_renamed (fun vs H Q E h => ?_) (fun cdv A outer s H vs Q E hr h => ?_)
  · obtain ⟨a, b, h, f, t, rfl, _⟩ := h
    rfl
  · obtain ⟨a, b, h, f, t, rfl, ha, hb, o, o', hl, ht, hk, k⟩ := h
    refine ⟨_, (pss_cons (ps_expr (pe_call (ok_check_seating T) (hr.mono (by decide)) (by rfl) T.g_check_seating T.F_check_seating.kp T.b_check_seating .nil pass0 (pa_cons (pv 0) pa_nil)))
      (pss_cons (ps_expr (pe_call (ok_check_names T) (hr.mono (by decide)) (by rfl) T.g_check_names T.F_check_names.kp T.b_check_names .nil pass0 (pa_cons (pv 1) pa_nil)))
      (pss_cons (ps_if (pt_cmpR op_ne (pe_callB call_lenR (by rfl) T.m_len (by decide +kernel) (pa_cons (pv 1) pa_nil)) (pe_callB call_lenR (by rfl) T.m_len (by decide +kernel) (pa_cons (pv 0) pa_nil)) (nomark _)) (pss_one ps_never) pss_nil)
      (pss_cons (ps_set (i := 2) sc_renamed.nd rfl (Or.inl rfl) (pe_op op_rep (pe_lst (pa_cons pe_int pa_nil)) (pe_callB call_lenR (by rfl) T.m_len (by decide +kernel) (pa_cons (pv 0) pa_nil))))
      (pss_cons (ps_for PassesOwn.never rfl (pi_enum (by rfl) T.m_enumerate (pa_cons (pv 0) pa_nil)) (pg_tup rfl (pgs_cons (pg_name (i := 3) sc_renamed.nd rfl (Or.inl rfl)) (pgs_cons (pg_name (i := 4) sc_renamed.nd rfl (Or.inl rfl)) pgs_nil))) (pss_one (ps_asg (pe_ix ix_list (pv 1) (pv 4) (fun _ _ => rfl)) (pg_sub (pv 2) (pe_ix ix_list (pv 1) (pv 3) (fun _ _ => rfl)) set_list))))
      (pss_one (ps_ret (pv 2)))))))), ?_⟩
    have hn := o.2.2
    refine q_drop (by walk_at "ev") fun H1 e1 => ?_
    have ha1 := e1 a _ ha
    have hb1 := e1 b _ hb
    refine q_drop (by walk_at "ev") fun H2 e2 => ?_
    have ha2 := e2 a _ ha1
    have hb2 := e2 b _ hb1
    refine q_when (b := false) (et_is (et_test (ev_op (ev_len (K := K) (ev_var rfl) (sq_of hb2)) (ev_len (K := K) (ev_var rfl) (sq_of ha2)) (rv_ne rfl))) (by rw [nv_len, nv_len, hl]; simp)) (fun hb => Bool.noConfusion hb) fun _ H3 e3 => ?_
    have ha3 := e3 a _ ha2
    have hb3 := e3 b _ hb2
    refine q_asgL (xs := nv (List.replicate h.length 0)) ?_ fun p H4 hp e4 h4 => ?_
    · rw [← nv_rep, ← Int.toNat_natCast h.length]
      refine el_rep (el_lst (ea_cons ev_c ea_nil) (Nat.le_of_ble_eq_true rfl)) ?_ (by omega) (by omega) (by simp)
      have := ev_len (K := K) (ta := tVar 0) (σ := start n_renamed [.ref a, .ref b]) (ev_var (i := 0) (v := .ref a) rfl) (sq_of ha3)
      rw [nv_len] at this
      exact this
    have e04 := e1.trans (e2.trans (e3.trans e4))
    have hp0 : H p = none := fresh_back (e1.trans (e2.trans e3)) hp
    refine q_forEn (xs := nv h) (K := K) (by walk_at "ea") (sq_of (e4 a _ ha3)) (fun m σ' H' => ∃ (c : List Nat) (y3 y4 : Option V), σ' = [some (.ref a), some (.ref b), some (.ref p), y3, y4] ∧ Ex H H' ∧ H' p = some (.lst (nv c)) ∧ c.length = h.length ∧ ∀ g, g < m → ∀ y, f[g]? = some y → c[y]? = t[y]?)
      (fun H5 e5 => ⟨List.replicate h.length 0, none, none, rfl, e04.trans e5, e5 p _ h4, by simp, fun g hg => by omega⟩) (fun m σ' H' _ ⟨_, _, _, _, e, _⟩ => sq_of (e a _ ha)) ?_ ?_
    · rintro m v σ' H5 H6 hv ⟨c, y3, y4, rfl, e5, hc, hcl, hd⟩ e6
      have hml : m < h.length := by
        have := (List.getElem?_eq_some_iff.mp hv).1
        rw [nv_len] at this
        exact this
      obtain ⟨x, hx⟩ : ∃ x, h[m]? = some x := ⟨h[m], List.getElem?_eq_getElem hml⟩
      have ev : v = .int (x : Int) := by
        have := nv_get hx
        rw [hv] at this
        exact Option.some.inj this
      subst ev
      obtain ⟨y, z, h1, h2, h3⟩ := hk m x hx
      have hyl : y < h.length := by
        have := (List.getElem?_eq_some_iff.mp h3).1
        omega
      have e06 := e5.trans e6
      refine s_setL (j := y) (e6 p _ hc) (ev_op (ev_var rfl) (ev_var rfl) (rv_ixL (K := K) (sq_of (e06 b _ hb)) (atI_nat (nv_get h2)))) (ev_var rfl) (ev_op (ev_var rfl) (ev_var rfl) (rv_ixL (K := K) (sq_of (e06 b _ hb)) (atI_nat (nv_get h1)))) (by rw [nv_len]; omega) fun H7 e7 => ?_
      refine ⟨c.set y z, _, _, rfl, Ex.mut (e06.trans e7) hp0, by rw [upd_same, nv_set], by simp [hcl], fun g hg y' hy' => ?_⟩
      by_cases ey : y' = y
      · subst ey
        rw [List.getElem?_set_self (by omega), h3]
      · rw [List.getElem?_set_ne (Ne.symm ey)]
        by_cases eg : g = m
        · subst eg
          rw [h1] at hy'
          exact absurd (Option.some.inj hy').symm ey
        · exact hd g (by omega) y' hy'
    · rintro σ' H' ⟨c, y3, y4, rfl, e, hc, hcl, hd⟩
      rw [nv_len] at hd
      have eq : c = t := by
        refine List.ext_getElem? fun y => ?_
        by_cases hy : y < h.length
        · have hm : y ∈ f := o'.1.mem_iff.mpr (List.mem_range.mpr (by omega))
          obtain ⟨g, hg⟩ := List.mem_iff_getElem?.mp hm
          have := (List.getElem?_eq_some_iff.mp hg).1
          exact hd g (by omega) y hg
        · rw [List.getElem?_eq_none (by omega), List.getElem?_eq_none (by omega)]
      subst eq
      exact s_ret (ev_var rfl) fun H5 e5 => k p H5 hp0 (e.trans e5) (e5 p _ hc)
end


local macro_rules | `(tactic| walk_at "call") => `(tactic| (with_reducible exact sv_whole))
local macro_rules | `(tactic| walk_at "call") => `(tactic| ((with_reducible refine' sv_order ?c1 ?c2); (case c1 => assumption); (case c2 => assumption)))
local macro_rules | `(tactic| walk_at "call") => `(tactic| ((with_reducible refine' sv_ord ?c1 ?c2); (case c1 => assumption); (case c2 => assumption)))

theorem et_tru {K : PySem.W.Frag} {σ : L2.St} {H : Hp} {ta : TE} {a : Addr} {xs : List V} (h : Ev ta σ H (.ref a)) (hx : SqL K H a xs) : EvT (fun σ H Q => ta σ H fun x H' => ∃ k, TruV K x H' k ∧ Q k H') σ H (!xs.isEmpty) := fun H1 e Q q => h H1 e _ fun H2 e2 => ⟨_, .inl ⟨xs, ex_l (e.trans e2) hx, rfl⟩, q H2 e2⟩

theorem given_at {n : Nat} (v : Nat → V) : given n (fun _ => true) v = (List.range n).map v := by
  unfold given
  rw [List.filter_eq_self.mpr fun _ _ => rfl]

/-! ### a list of new lists -/
structure LL (H0 : Hp) (p : Addr) (H : Hp) (bs : List Addr) (rs : List (List Nat)) : Prop where
  self : H p = some (.lst (bs.map V.ref))
  nd : bs.Nodup
  np : p ∉ bs
  fp : H0 p = none
  fr : ∀ b ∈ bs, H0 b = none
  len : bs.length = rs.length
  at_ : ∀ (i : Nat) (b : Addr) (r : List Nat), bs[i]? = some b → rs[i]? = some r → H b = some (.lst (nv r))
theorem LL.ex {H0 H H' : Hp} {p : Addr} {bs : List Addr} {rs : List (List Nat)} (L : LL H0 p H bs rs) (e : Ex H H') : LL H0 p H' bs rs :=
  ⟨e p _ L.self, L.nd, L.np, L.fp, L.fr, L.len, fun i b r h1 h2 => e b _ (L.at_ i b r h1 h2)⟩
theorem LL.get {H0 H : Hp} {p : Addr} {bs : List Addr} {rs : List (List Nat)} (L : LL H0 p H bs rs) {i : Nat} {r : List Nat} (h : rs[i]? = some r) : ∃ b, bs[i]? = some b ∧ H b = some (.lst (nv r)) ∧ b ≠ p ∧ H0 b = none := by
  have hi := (List.getElem?_eq_some_iff.mp h).1
  have hb : bs[i]? = some (bs[i]'(by rw [L.len]; exact hi)) := List.getElem?_eq_getElem _
  refine ⟨_, hb, L.at_ i _ r hb h, fun z => L.np ?_, L.fr _ (List.mem_of_getElem? hb)⟩
  rw [← z]
  exact List.mem_of_getElem? hb
theorem LL.nil {H0 H : Hp} {p : Addr} (h : H p = some (.lst [])) (fp : H0 p = none) : LL H0 p H [] [] :=
  ⟨h, List.nodup_nil, by simp, fp, by simp, rfl, fun i b r h1 => by simp at h1⟩
theorem LL.push {H0 H H' : Hp} {p q : Addr} {bs : List Addr} {rs : List (List Nat)} {r : List Nat} (L : LL H0 p H bs rs) (e0 : Ex H0 H) (e : Ex H H') (hq : H q = none) (h' : H' q = some (.lst (nv r))) : LL H0 p (upd H' p (.lst (bs.map V.ref ++ [.ref q]))) (bs ++ [q]) (rs ++ [r]) := by
  have nq : q ∉ bs := fun hm => by
    obtain ⟨i, hi⟩ := List.mem_iff_getElem?.mp hm
    have hl := (List.getElem?_eq_some_iff.mp hi).1
    have := L.at_ i q _ hi (List.getElem?_eq_getElem (by rw [← L.len]; exact hl))
    rw [hq] at this
    cases this
  have qp : q ≠ p := fun z => by
    have := L.self
    rw [← z, hq] at this
    cases this
  refine ⟨by rw [upd_same]; simp, ?_, ?_, L.fp, ?_, by simp [L.len], ?_⟩
  · exact List.nodup_append.mpr ⟨L.nd, by simp, fun a ha b hb z => nq (by
      rw [List.mem_singleton] at hb
      rw [← hb, ← z]
      exact ha)⟩
  · simp [L.np, Ne.symm qp]
  · intro b hb
    rcases List.mem_append.mp hb with h | h
    · exact L.fr b h
    · rw [List.mem_singleton] at h
      rw [h]
      exact fresh_back e0 hq
  · intro i b s h1 h2
    by_cases hi : i < bs.length
    · rw [List.getElem?_append_left hi] at h1
      rw [List.getElem?_append_left (by rw [← L.len]; exact hi)] at h2
      have hb := L.at_ i b s h1 h2
      rw [upd_ne (fun z => L.np (by rw [← z]; exact List.mem_of_getElem? h1))]
      exact e b _ hb
    · rw [List.getElem?_append_right (by omega)] at h1
      rw [List.getElem?_append_right (by rw [← L.len]; omega)] at h2
      have i0 : i - bs.length = 0 := by
        have := (List.getElem?_eq_some_iff.mp h1).1
        simp at this
        omega
      rw [i0] at h1
      rw [← L.len, i0] at h2
      have b1 : q = b := Option.some.inj h1
      have r1 : r = s := Option.some.inj h2
      rw [← b1, ← r1, upd_ne qp]
      exact h'
theorem LL.put {H0 H : Hp} {p b : Addr} {bs : List Addr} {rs : List (List Nat)} {r : List Nat} {i : Nat} (L : LL H0 p H bs rs) (hb : bs[i]? = some b) : LL H0 p (upd H b (.lst (nv r))) bs (rs.set i r) := by
  have bp : p ≠ b := fun z => L.np (by rw [z]; exact List.mem_of_getElem? hb)
  refine ⟨by rw [upd_ne bp]; exact L.self, L.nd, L.np, L.fp, L.fr, by simp [L.len], fun j c s h1 h2 => ?_⟩
  by_cases hj : i = j
  · subst hj
    have hl : i < rs.length := by rw [← L.len]; exact (List.getElem?_eq_some_iff.mp hb).1
    rw [List.getElem?_set_self hl] at h2
    rw [hb] at h1
    rw [← Option.some.inj h1, ← Option.some.inj h2, upd_same]
  · rw [List.getElem?_set_ne hj] at h2
    have : c ≠ b := fun z => by
      subst z
      exact hj (nd_ix L.nd hb h1)
    rw [upd_ne this]
    exact L.at_ j c s h1 h2
theorem LL.tb {H0 H : Hp} {p : Addr} {bs : List Addr} {rs : List (List Nat)} (L : LL H0 p H bs rs) : Paired (Tb H) (bs.map V.ref) rs := by
  have : ∀ (bs : List Addr) (rs : List (List Nat)), bs.length = rs.length → (∀ (i : Nat) (b : Addr) (r : List Nat), bs[i]? = some b → rs[i]? = some r → H b = some (.lst (nv r))) → Paired (Tb H) (bs.map V.ref) rs := fun bs => by
    induction bs with
    | nil => 
      intro rs hl _
      cases rs with
      | nil => exact .nil
      | cons r l => simp at hl
    | cons b bs ih =>
      intro rs hl ha
      cases rs with
      | nil => simp at hl
      | cons r l =>
        refine .cons ⟨b, rfl, .inl (ha 0 b r rfl rfl)⟩ (ih l (by simpa using hl) fun i c s h1 h2 => ha (i + 1) c s (by simpa using h1) (by simpa using h2))
  exact this bs rs L.len L.at_
/-- xs.append of a list among others -/
theorem set_end {α : Type} (l : List α) (x y : α) : (l ++ [x]).set l.length y = l ++ [y] := by
  rw [List.set_append_right _ _ (Nat.le_refl _)]
  simp
theorem paired_imp {α β : Type} {F G : α → β → Prop} (f : ∀ a b, F a b → G a b) : ∀ {l : List α} {m : List β}, Paired F l m → Paired G l m
  | _, _, .nil => .nil
  | _, _, .cons h t => .cons (f _ _ h) (paired_imp f t)
/-! the tables of a record -/
def cstep (ts : List (List Nat)) (g : Nat) : List (List Nat) :=
  match ts.getLast? with
  | none => [[g]]
  | some r => if g < r.headD 0 then ts ++ [[g]] else ts.dropLast ++ [r ++ [g]]
def cuts (f : List Nat) : List (List Nat) := f.foldl cstep []
theorem cuts_next {f : List Nat} {i x : Nat} (h : f[i]? = some x) : cuts (f.take (i + 1)) = cstep (cuts (f.take i)) x := by
  unfold cuts
  rw [take_next h, List.foldl_append]
  rfl
theorem cstep_end (l : List (List Nat)) (r : List Nat) (g : Nat) : cstep (l ++ [r]) g = if g < r.headD 0 then l ++ [r] ++ [[g]] else l ++ [r ++ [g]] := by
  unfold cstep
  rw [List.getLast?_concat, List.dropLast_concat]
theorem cstep_nil (g : Nat) : cstep [] g = [[g]] := rfl
theorem list_end {α : Type} (l : List α) : l = [] ∨ ∃ i x, l = i ++ [x] := by
  rcases List.eq_nil_or_concat l with h | ⟨i, x, h⟩
  · exact .inl h
  · exact .inr ⟨i, x, by simpa using h⟩
theorem cstep_flat (ts : List (List Nat)) (g : Nat) : (cstep ts g).flatten = ts.flatten ++ [g] := by
  rcases list_end ts with h | ⟨i, x, h⟩
  · rw [h]
    rfl
  · rw [h, cstep_end]
    by_cases q : g < x.headD 0
    · rw [if_pos q]; simp
    · rw [if_neg q]; simp
theorem cstep_ne {ts : List (List Nat)} (g : Nat) (h : ∀ r ∈ ts, 0 < r.length) : ∀ r ∈ cstep ts g, 0 < r.length := by
  rcases list_end ts with e | ⟨i, x, e⟩
  · rw [e]
    intro r hr
    rw [List.mem_singleton.mp hr]
    simp
  · rw [e] at h
    rw [e, cstep_end]
    by_cases q : g < x.headD 0
    · rw [if_pos q]
      intro r hr
      rcases List.mem_append.mp hr with k | k
      · exact h r k
      · rw [List.mem_singleton.mp k]; simp
    · rw [if_neg q]
      intro r hr
      rcases List.mem_append.mp hr with k | k
      · exact h r (List.mem_append.mpr (.inl k))
      · rw [List.mem_singleton.mp k]; simp
theorem cuts_inv (f : List Nat) : ∀ (ts : List (List Nat)), (∀ r ∈ ts, 0 < r.length) → (f.foldl cstep ts).flatten = ts.flatten ++ f ∧ ∀ r ∈ f.foldl cstep ts, 0 < r.length := by
  induction f with
  | nil => intro ts h; simpa using h
  | cons x l ih =>
    intro ts h
    obtain ⟨h1, h2⟩ := ih (cstep ts x) (cstep_ne x h)
    refine ⟨?_, h2⟩
    rw [List.foldl_cons, h1, cstep_flat]
    simp
theorem cuts_flat (f : List Nat) : (cuts f).flatten = f := by
  have := (cuts_inv f [] (by simp)).1
  rw [List.flatten_nil, List.nil_append] at this
  exact this
theorem cuts_ne (f : List Nat) : ∀ r ∈ cuts f, 0 < r.length := (cuts_inv f [] (by simp)).2
theorem cuts_len (f : List Nat) : (cuts f).length ≤ f.length := by
  have : ∀ l : List (List Nat), (∀ r ∈ l, 0 < r.length) → l.length ≤ l.flatten.length := fun l => by
    induction l with
    | nil => intro _; simp
    | cons r l ih =>
      intro hl
      have := ih fun x hx => hl x (by simp [hx])
      have := hl r (by simp)
      rw [List.flatten_cons, List.length_append, List.length_cons]
      omega
  have h := this (cuts f) (cuts_ne f)
  rw [cuts_flat] at h
  exact h
def sp_of_records : Sp := fun vs H Q _ => ∃ (a : Addr) (f h : List Nat), vs = [.ref a] ∧ H a = some (.lst (nv f)) ∧ Ord f ∧ h.length = f.length ∧ (∀ r ∈ cuts f, Rg h r) ∧ RetL (nv h) H Q
theorem sl_with {H : Hp} {a : Addr} {ws : List V} {rs : List (List Nat)} {h : List Nat} (ha : H a = some (.lst ws)) (ht : Paired (Tb H) ws rs) (hp : rs.flatten.Perm (List.range h.length)) (hR : ∀ r ∈ rs, Rg h r) (hn : h.length ≤ 20) : SpL sp_seating_with ([.ref a] ++ []) H (nv h) := fun H1 e Q q E =>
  ⟨a, ws, rs, h, rfl, e a _ ha, paired_imp (fun _ _ x => Tb.ex e x) ht, hp, hR, hn, q⟩
theorem sl_of_records {H : Hp} {a : Addr} {f h : List Nat} (ha : H a = some (.lst (nv f))) (o : Ord f) (hl : h.length = f.length) (hR : ∀ r ∈ cuts f, Rg h r) : SpL sp_of_records ([.ref a] ++ []) H (nv h) := fun H1 e Q q E => ⟨a, f, h, rfl, e a _ ha, o, hl, hR, q⟩
section
variable {P : Program} {w : World} {K : PySem.W.Frag} {mg : Str → Option Value} {base : Heap}
theorem ok_seating_of_records (T : Tx K mg) : FnOk P w K mg base CX0 5 T.f_seating_of_records T.d_seating_of_records ["names"] sp_of_records := by
  refine T.F_seating_of_records.ok sc_seating_of_records (fun vs H Q E h => ?_) (fun cdv A outer s H vs Q E hr h => ?_)
  · obtain ⟨a, f, h, rfl, _⟩ := h
    rfl
  · obtain ⟨a, f, h, rfl, ha, o, hl, hR, k⟩ := h
    refine ⟨_, (pss_cons (ps_expr (pe_call (ok_check_names T) (hr.mono (by decide)) (by rfl) T.g_check_names T.F_check_names.kp T.b_check_names .nil pass0 (pa_cons (pv 0) pa_nil)))
      (pss_cons (ps_set (i := 1) sc_seating_of_records.nd rfl (Or.inl rfl) (pe_lst pa_nil))
      (pss_cons (ps_for PassesOwn.never rfl (pi_list (pv 0)) (pg_name (i := 2) sc_seating_of_records.nd rfl (Or.inl rfl)) (pss_one (ps_if (PW.pt (pw_or (pt_not (pt_truth (pv 1) (by intro _; rfl))) (pw_or1 (pt_cmpR op_lt (pv 2) (pe_ix ix_list (pe_ix ix_list (pv 1) (pe_un un_neg pe_int) (fun _ _ => rfl)) pe_int (fun _ _ => rfl)) (nomark _))))) (pss_one (ps_expr (pe_bm PySem.F.plainAttrs_list PySem.F.slot_list_append PySem.F.type_list_append mt_append (pv 1) (pa_cons (pe_lst (pa_cons (pv 2) pa_nil)) pa_nil)))) (pss_one (ps_expr (pe_bm PySem.F.plainAttrs_list PySem.F.slot_list_append PySem.F.type_list_append mt_append (pe_ix ix_list (pv 1) (pe_un un_neg pe_int) (fun _ _ => rfl)) (pa_cons (pv 2) pa_nil)))))))
      (pss_one (ps_ret (pe_call (ok_seating_with T) (hr.mono (by decide)) (by rfl) T.g_seating_with T.F_seating_with.kp T.b_seating_with .nil pass0 (pa_cons (pv 1) pa_nil))))))), ?_⟩
    have ho := o.2.2
    refine q_drop (by walk_at "ev") fun H1 e1 => ?_
    have h1 := e1 a _ ha
    refine q_asgL (by walk_at "el") fun p H2 hp e2 h2 => ?_
    have hp0 := fresh_back e1 hp
    refine q_forLn (xs := nv f) (K := K) (ev_var rfl) (sq_of (e2 a _ h1)) (fun i σ' H' => ∃ (bs : List Addr) (y : Option V), σ' = [some (.ref a), some (.ref p), y] ∧ Ex H H' ∧ LL H p H' bs (cuts (f.take i)))
      (fun H3 e3 => ⟨[], none, rfl, e1.trans (e2.trans e3), LL.nil (e3 p _ h2) hp0⟩) (fun i σ' H' _ ⟨_, _, _, e, _⟩ => sq_of (e a _ ha)) ?_ ?_
    · rintro i v σ' H' hv ⟨bs, y, rfl, e, L⟩
      have hil : i < f.length := by
        have := (List.getElem?_eq_some_iff.mp hv).1
        rw [nv_len] at this
        exact this
      obtain ⟨x, hx⟩ : ∃ x, f[i]? = some x := ⟨f[i], List.getElem?_eq_getElem hil⟩
      have ev : v = .int (x : Int) := by
        have := nv_get hx
        rw [hv] at this
        exact Option.some.inj this
      subst ev
      have hn := cuts_next hx
      have hne := cuts_ne (f.take i)
      have hle := cuts_len (f.take i)
      rw [List.length_take] at hle
      rcases list_end (cuts (f.take i)) with hz | ⟨ini, r, hz⟩
      · rw [hz] at L hn
        have b0 : bs = [] := List.eq_nil_of_length_eq_zero (by rw [L.len]; rfl)
        subst b0
        refine s_if (b := true) (et_is (et_or (et_not (et_tru (K := K) (ev_var rfl) (sq_of L.self))) (b := true) (fun hb => by cases hb)) rfl) (fun _ H3 e3 => ?_) (fun hb => Bool.noConfusion hb)
        refine s_appL (e3 p _ L.self) (ev_var rfl) (by walk_at "el") (by simp) fun q H4 hq e4 h4 => ?_
        exact ⟨[q], _, rfl, Ex.mut (e.trans (e3.trans e4)) hp0, by
          rw [hn, cstep_nil]
          exact (L.ex e3).push (e.trans e3) e4 hq h4⟩
      · rw [hz] at L hn hne hle
        have hrl := hne r (by simp)
        obtain ⟨b, hb, hbv, hbp, hb0⟩ := L.get (i := ini.length) (r := r) (by simp)
        obtain ⟨c, r', er⟩ : ∃ c r', r = c :: r' := by
          cases r with
          | nil => simp at hrl
          | cons c l => exact ⟨c, l, rfl⟩
        have hbl : bs.length = ini.length + 1 := by rw [L.len]; simp
        obtain ⟨bi, eb⟩ : ∃ bi, bs = bi ++ [b] := by
          rcases list_end bs with z | ⟨bi, b', z⟩
          · rw [z] at hbl; simp at hbl
          · refine ⟨bi, ?_⟩
            rw [z] at hb hbl
            have : bi.length = ini.length := by simpa using hbl
            rw [← this] at hb
            simp at hb
            rw [z, hb]
        have last : ∀ H3, Ex H' H3 → Ev (tOp (rIxL K) (tVar 1) (tUn (rU fun i => .int (-i)) (tC (.int 1)))) [some (.ref a), some (.ref p), some (.int (x : Int))] H3 (.ref b) := fun H3 e3 =>
          ev_op (ev_var rfl) (ev_un ev_c ru_neg) (rv_ixL (sq_of (e3 p _ L.self)) (by rw [eb, List.map_append]; exact atI_last _ _))
        have ne : (!(bs.map V.ref).isEmpty) = true := by rw [eb]; simp
        refine s_if (b := decide (x < c)) (et_is (et_or (et_not (et_tru (K := K) (ev_var rfl) (sq_of L.self))) (fun _ => et_test (ev_op (ev_var rfl) (ev_op (last H' (Ex.refl _)) ev_c (rv_ixL (K := K) (sq_of hbv) (atI_nat (j := 0) (nv_get (by rw [er]; rfl))))) rv_I0))) (by rw [ne]; simp)) (fun hc H3 e3 => ?_) (fun hc H3 e3 => ?_)
        · have hc := of_decide_eq_true hc
          refine s_appL (e3 p _ L.self) (ev_var rfl) (by walk_at "el") (by rw [List.length_map, hbl]; rw [List.length_append] at hle; simp at hle; omega) fun q H4 hq e4 h4 => ?_
          refine ⟨bs ++ [q], _, rfl, Ex.mut (e.trans (e3.trans e4)) hp0, ?_⟩
          rw [hn, cstep_end, if_pos (by rw [er]; exact hc)]
          exact (L.ex e3).push (e.trans e3) e4 hq h4
        · have hc := of_decide_eq_false hc
          refine s_app (e3 b _ hbv) (last H3 e3) (ev_var rfl) (by
            rw [nv_len]
            have h1 : (ini ++ [r]).flatten.length = (f.take i).length := by rw [← hz, cuts_flat]
            rw [List.flatten_append, List.length_append, List.length_take] at h1
            simp at h1
            omega) fun H4 e4 => ?_
          refine ⟨bs, _, rfl, Ex.mut (e.trans (e3.trans e4)) hb0, ?_⟩
          rw [hn, cstep_end, if_neg (by rw [er]; exact hc)]
          have g := ((L.ex e3).ex e4).put (r := r ++ [x]) hb
          rw [set_end, nv_app] at g
          exact g
    · rintro σ' H' ⟨bs, y, rfl, e, L⟩
      rw [nv_len, List.take_of_length_le (Nat.le_refl _)] at L
      refine s_retL (el_call (by walk_at "ea") (sl_with L.self L.tb (by rw [cuts_flat, hl]; exact o.1) hR (by omega))) fun q H3 hq e3 h3 => k q H3 (fresh_back e hq) (e.trans e3) h3
end


local macro_rules | `(tactic| walk_at "call") => `(tactic| (with_reducible exact sv_whole))
local macro_rules | `(tactic| walk_at "call") => `(tactic| ((with_reducible refine' sv_order ?c1 ?c2); (case c1 => assumption); (case c2 => assumption)))
local macro_rules | `(tactic| walk_at "call") => `(tactic| ((with_reducible refine' sv_ord ?c1 ?c2); (case c1 => assumption); (case c2 => assumption)))

/-! ### is_table, are_tables, seating_of -/
section
variable {K : PySem.W.Frag} {σ : L2.St} {H H' : Hp} {ta tb te tl : TE} {t : TT}
theorem el_lcT {a : Addr} {xs : List V} {tl : TE} {j : Nat} {vs : List Nat} (f : Nat → Bool) (v : Nat → V) (h : Ev tl σ H (.ref a)) (hx : SqT K H a xs) (hz : xs.length ≤ 40000) (hw : ∀ x, wipe ((wipe σ vs).set j (some x)) vs = wipe σ vs)
    (ht : ∀ (i : Nat) (x : V) H1, Ex H H1 → xs[i]? = some x → EvT t ((wipe σ vs).set j (some x)) H1 (f i)) (he : ∀ (i : Nat) (x : V) H1, Ex H H1 → xs[i]? = some x → f i = true → Ev te ((wipe σ vs).set j (some x)) H1 (v i)) : EvL (tLc (iTup K tl) (gName j) t te vs) σ H (given xs.length f v) := fun H0 e Q q => h H0 e _ fun H1 e1 =>
  ⟨a, rfl, ⟨xs, ex_t (e.trans e1) hx⟩, fun Dl hD => lc_tup (xs := xs) (Cw H1 f v Dl) ⟨hD, Ex.new hD, upd_same⟩ (fun i H' _ p => ex_t ((e.trans e1).trans p.2.1) hx)
    (fun i x H' hi p => ⟨hw x, cw_turn p (by have := (List.getElem?_eq_some_iff.mp hi).1; omega) (ht i x H1 (e.trans e1) hi) (fun hf => he i x H1 (e.trans e1) hi hf)⟩) (fun H' p => q Dl H' (fresh_back e1 p.1) (e1.trans p.2.1) p.2.2)⟩
/-- a call whose argument is a new list -/
theorem ev_call1L {sp : Sp} {dvs xs : List V} {v : V} {E : XK} (h : EvL te σ H xs) (hs : ∀ p H1, Ex H H1 → H1 p = some (.lst xs) → SpV sp ([.ref p] ++ dvs) H1 v) : Ev (tCall sp dvs E (tCons te tNil)) σ H v := fun H1 e Q q =>
  h H1 e _ fun p H2 _ e2 h2 => hs p H2 (e.trans e2) h2 H2 (Ex.refl _) Q (fun H3 e3 => q H3 (e2.trans e3)) E
theorem el_call1L {sp : Sp} {dvs xs ys : List V} {E : XK} (h : EvL te σ H xs) (hs : ∀ p H1, Ex H H1 → H1 p = some (.lst xs) → SpL sp ([.ref p] ++ dvs) H1 ys) : EvL (tCall sp dvs E (tCons te tNil)) σ H ys := fun H1 e Q q =>
  h H1 e _ fun p H2 _ e2 h2 => hs p H2 (e.trans e2) h2 H2 (Ex.refl _) Q (fun l H3 hl e3 h3 => q l H3 (fresh_back e2 hl) (e2.trans e3) h3) E
end
def sp_is_table : Sp := fun vs H Q _ => ∃ (b : Addr) (r : List Nat), vs = [.ref b] ∧ H b = some (.tup (nv r)) ∧ 0 < r.length ∧ r.length ≤ 20 ∧ leads r = true ∧ RetV (.bl true) H Q
theorem sv_table {H : Hp} {b : Addr} {r : List Nat} (hb : H b = some (.tup (nv r))) (ne : 0 < r.length) (hl : r.length ≤ 20) (lo : leads r = true) : SpV sp_is_table ([.ref b] ++ []) H (.bl true) := fun H1 e Q q E => ⟨b, r, rfl, e b _ hb, ne, hl, lo, q⟩
theorem Rings.leads {h : List Nat} {rs : List (List Nat)} (R : Rings h rs) {r : List Nat} (hr : r ∈ rs) : leads r = true := decide_eq_true (R.low r hr)
def sp_are_tables : Sp := fun vs H Q _ => ∃ (a : Addr) (ws : List V) (rs : List (List Nat)) (h : List Nat), vs = [.ref a] ∧ H a = some (.lst ws) ∧ TL H ws (rs.map nv) ∧ Rings h rs ∧ Ord h ∧ RetV (.bl true) H Q
theorem sv_tables {H : Hp} {a : Addr} {ws : List V} {rs : List (List Nat)} {h : List Nat} (ha : H a = some (.lst ws)) (ht : TL H ws (rs.map nv)) (R : Rings h rs) (o : Ord h) : SpV sp_are_tables ([.ref a] ++ []) H (.bl true) := fun H1 e Q q E => ⟨a, ws, rs, h, rfl, e a _ ha, ht.ex e, R, o, q⟩
def sp_seating_of : Sp := fun vs H Q _ => ∃ (a : Addr) (ws : List V) (rs : List (List Nat)) (h : List Nat), vs = [.ref a] ∧ H a = some (.lst ws) ∧ TL H ws (rs.map nv) ∧ Rings h rs ∧ Ord h ∧ RetL (nv h) H Q
theorem sl_seating_of {H : Hp} {a : Addr} {ws : List V} {rs : List (List Nat)} {h : List Nat} (ha : H a = some (.lst ws)) (ht : TL H ws (rs.map nv)) (R : Rings h rs) (o : Ord h) : SpL sp_seating_of ([.ref a] ++ []) H (nv h) := fun H1 e Q q E => ⟨a, ws, rs, h, rfl, e a _ ha, ht.ex e, R, o, q⟩
/-- [x for t in ts for x in t], ts an old list of tuples -/
theorem el_lc2O {K : PySem.W.Frag} {σ : L2.St} {H : Hp} {tl : TE} {j l : Nat} {vs vs1 : List Nat} {a : Addr} {ws : List V} {rs : List (List V)} (h : Ev tl σ H (.ref a)) (ha : H a = some (.lst ws)) (ht : TL H ws rs) (hz : rs.flatten.length ≤ 40000)
    (hw : ∀ x, wipe ((wipe σ vs).set j (some x)) vs = wipe σ vs) (hj : ∀ x, ((wipe σ vs).set j (some x))[j]? = some (some x))
    (hw1 : ∀ x y, wipe ((wipe ((wipe σ vs).set j (some x)) vs1).set l (some y)) vs1 = wipe ((wipe σ vs).set j (some x)) vs1) (hl : ∀ x y, ((wipe ((wipe σ vs).set j (some x)) vs1).set l (some y))[l]? = some (some y)) :
    EvL (tLc2 (iList K tl) (gName j) tYes (iTup K (tVar j)) (gName l) tYes (tVar l) vs vs1) σ H rs.flatten := fun H0 e Q q => h H0 e _ fun H1 e1 => ⟨a, rfl, ⟨ws, sq_of (e1 a _ (e a _ ha))⟩, fun Dl hD => by
  have ht := ht.ex (e.trans e1)
  have h1 := e1 a _ (e a _ ha)
  have hlen := ht.len
  refine it_gen walk_list (fun i H' => Ex H1 H' ∧ H' Dl = some (.lst (rs.take i).flatten)) ⟨Ex.new hD, upd_same⟩ (fun i H' _ p => sq_of (p.1 a _ h1)) ?_ fun H' p => ?_
  · rintro i x Hh H' hi ⟨p1, p2⟩ ⟨rfl, hx⟩
    obtain ⟨b, r, rfl, hb, hr⟩ := ht.get hx
    have hlr : (rs.take (i + 1)).flatten.length ≤ 40000 := by
      have : (rs.take (i + 1)).flatten.length ≤ rs.flatten.length := by
        conv => rhs; rw [← List.take_append_drop (i + 1) rs, List.flatten_append, List.length_append]
        omega
      omega
    rw [flatV_next hr, List.length_append] at hlr
    refine ⟨hw _, ?_⟩
    simp only [tYes, ↓reduceIte]
    refine ⟨.ref b, hj _, b, rfl, ⟨r, st_of (p1 b _ hb)⟩, ?_⟩
    refine it_gen (walk_tup (K := K) (a := b) (xs := r)) (fun m H2 => Ex H1 H2 ∧ H2 Dl = some (.lst ((rs.take i).flatten ++ r.take m))) ⟨p1, by rw [p2]; simp⟩ (fun m H2 _ p => st_of (p.1 b _ hb)) ?_ fun H2 p => ?_
    · rintro m y H2 H3 hm ⟨p3, p4⟩ ⟨rfl, hy⟩
      refine ⟨hw1 _ _, ?_⟩
      simp only [tYes, ↓reduceIte]
      refine ⟨y, hl _ _, _, p4, sz_lt (by rw [List.length_append, List.length_take]; omega), Ex.mut p3 hD, ?_⟩
      rw [upd_same, take_next hy, List.append_assoc]
    · obtain ⟨p3, p4⟩ := p
      refine ⟨p3, ?_⟩
      rw [p4, flatV_next hr, List.take_of_length_le (Nat.le_refl _)]
  · obtain ⟨p1, p2⟩ := p
    rw [hlen, List.take_of_length_le (Nat.le_refl _)] at p2
    exact q Dl H' (fresh_back e1 hD) (e1.trans p1) p2⟩
section
variable {P : Program} {w : World} {K : PySem.W.Frag} {mg : Str → Option Value} {base : Heap}
theorem ok_is_table (T : Tx K mg) : FnOk P w K mg base CX0 2 T.f_is_table T.d_is_table ["thing"] sp_is_table := by
  refine T.F_is_table.ok sc_is_table (fun vs H Q E h => ?_) (fun cdv A outer s H vs Q E hr h => ?_)
  · obtain ⟨b, r, rfl, _⟩ := h
    rfl
  · obtain ⟨b, r, rfl, hb, ne, hl, lo, k⟩ := h
    refine ⟨_, (pss_cons (ps_if (PW.pt (pw_or (pt_cmpR (op_neTyS (hu_of hr)) (pe_typeOf (by rfl) T.m_type (pv 0)) (pe_bltn (v := .ty "tuple") (by rfl) T.m_tuple (by decide +kernel) rfl) (nomark _)) (pw_or1 (pt_cmpR op_eq (pe_callB call_lenR (by rfl) T.m_len (by decide +kernel) (pa_cons (pv 0) pa_nil)) pe_int (nomark _))))) (pss_one (ps_ret pe_bl)) pss_nil)
      (pss_one (ps_ret (pe_and (pe_callB (cr_all rfl) (by rfl) T.m_all (by decide +kernel) (pa_cons (pe_lc (own := [("guest", 1)]) (g := (gName 1)) (tt := tYes) rfl sc_is_table.nd (pi_tup (pv 0)) (blkOk_by (own := [("guest", 1)]) (N := n_is_table) (sc := defScope s_is_table) (by decide +kernel)) (fun _ _ _ _ _ => (pg_name (i := 1) sc_is_table.nd rfl (Or.inl rfl))) (fun _ _ _ _ _ => pts_nil) (fun _ _ _ _ _ => (pe_call (ok_is_whole T) (hr.mono (by decide)) (by rfl) T.g_is_whole T.F_is_whole.kp T.b_is_whole .nil pass0 (pa_cons (pv 1) pa_nil)))) pa_nil)) (pe_one (pe_cmpR op_eq (pe_ix ix_tup (pv 0) pe_int (fun _ _ => rfl)) (pe_callB (id := "min") (r := rMinT K) (cr_minT rfl (hu_of hr)) (by rfl) T.m_min (by decide +kernel) (pa_cons (pv 0) pa_nil)) (nomark _))))))), ?_⟩
    refine q_when (b := false) (et_is (et_or (et_test (ev_op (ev_typeT (ev_var rfl) hb) ev_c (rv_neTyS PySem.TypeEq.meta_tuple))) fun _ => et_test (ev_op (ev_lenT (K := K) (ev_var rfl) (st_of hb)) ev_c (rv_eq rfl))) ?_) (fun hb => Bool.noConfusion hb) fun _ H1 e1 => ?_
    · rw [dec_int, nv_len, show ((r.length : Int) == 0) = false from by
        rw [beq_eq_false_iff_ne]
        omega]
      simp
    have h1 := e1 b _ hb
    obtain ⟨x, l, i1, i2, i3⟩ := lead_val ne
    have hb2 : SqT K H1 b (((x : Int) :: l).map V.int) := st_of (by rw [h1]; unfold nv; rw [i1])
    have hm : (nv r).map (fun _ => V.bl true) = (List.replicate r.length true).map V.bl := by
      rw [nv_eq, List.map_map, List.map_replicate]
      exact List.map_const' ..
    refine s_ret (v := .bl true) (ev_is (ev_andV (ev_allN (bs := List.replicate r.length true) ?_) fun _ => ev_op (ev_op (ev_var rfl) ev_c (rv_ixT (K := K) (st_of h1) (atI_nat (j := 0) (nv_get i2)))) (ev_minT (ev_var rfl) hb2) (rv_eq rfl)) ?_) fun H2 e2 => k _ (e1.trans e2)
    · have g := el_lcT (K := K) (t := tYes) (te := tCall (sp_is_whole K) [] E0 (tCons (tVar 1) tNil)) (vs := [1]) (j := 1) (fun _ => true) (fun _ => V.bl true) (ev_var (σ := start n_is_table [.ref b]) (i := 0) rfl) (st_of h1) (by rw [nv_len]; omega) (fun _ => rfl) (fun _ _ _ _ _ => et_yes) fun i x H2 e2 hx _ => by
        rw [nv_eq, List.getElem?_map] at hx
        obtain ⟨z, _, rfl⟩ := Option.map_eq_some_iff.mp hx
        exact by walk_at "ev"
      have e : given (nv r).length (fun _ => true) (fun _ => V.bl true) = (List.replicate r.length true).map V.bl := by
        rw [given_at, nv_len, List.map_replicate, List.map_const', List.length_range]
      rw [e] at g
      exact g
    · rw [i3, lo]
      simp
theorem ok_are_tables (T : Tx K mg) : FnOk P w K mg base CX0 3 T.f_are_tables T.d_are_tables ["thing"] sp_are_tables := by
  refine T.F_are_tables.ok sc_are_tables (fun vs H Q E h => ?_) (fun cdv A outer s H vs Q E hr h => ?_)
  · obtain ⟨a, ws, rs, h, rfl, _⟩ := h
    rfl
  · obtain ⟨a, ws, rs, h, rfl, ha, ht, R, o, k⟩ := h
    refine ⟨_, (pss_cons (ps_if (PW.pt (pw_or (pt_cmpR (op_neTyS (hu_of hr)) (pe_typeOf (by rfl) T.m_type (pv 0)) (pe_bltn (v := .ty "list") (by rfl) T.m_list (by decide +kernel) rfl) (nomark _)) (pw_or1 (pt_not (pt_val (pe_callB (cr_all rfl) (by rfl) T.m_all (by decide +kernel) (pa_cons (pe_lc (own := [("table", 1)]) (g := (gName 1)) (tt := tYes) rfl sc_are_tables.nd (pi_list (pv 0)) (blkOk_by (own := [("table", 1)]) (N := n_are_tables) (sc := defScope s_are_tables) (by decide +kernel)) (fun _ _ _ _ _ => (pg_name (i := 1) sc_are_tables.nd rfl (Or.inl rfl))) (fun _ _ _ _ _ => pts_nil) (fun _ _ _ _ _ => (pe_call (ok_is_table T) (hr.mono (by decide)) (by rfl) T.g_is_table T.F_is_table.kp T.b_is_table .nil pass0 (pa_cons (pv 1) pa_nil)))) pa_nil))))))) (pss_one (ps_ret pe_bl)) pss_nil)
      (pss_cons (ps_setLc (i := 2) (own := [("table", 1)]) (g := (gName 1)) (tt := tYes) rfl sc_are_tables.nd rfl rfl (sw_true rfl rfl rfl (by decide +kernel)) (pi_list (pv 0)) (blkOk_by (own := [("table", 1)]) (N := n_are_tables) (sc := defScope s_are_tables) (by decide +kernel)) (fun _ _ _ _ _ => (pg_name (i := 1) sc_are_tables.nd rfl (Or.inl rfl))) (fun _ _ _ _ _ => pts_nil) (fun _ _ _ _ _ => (pe_ix (r := rIxT K) ix_tup (pv 1) pe_int (fun _ _ => rfl))))
      (pss_one (ps_ret (pe_and (pe_cmpR (op_eqD hr.units) (pv 2) (pe_callB cr_sorted (by rfl) T.m_sorted (by decide +kernel) (pa_cons (pv 2) pa_nil)) (nomark _)) (pe_one (pe_call (ok_is_order T) (hr.mono (by decide)) (by rfl) T.g_is_order T.F_is_order.kp T.b_is_order .nil pass0 (pa_cons (pe_lc2 (wi1 := iTup K (tVar 1)) (own := [("table", 1), ("guest", 3)]) (vs1 := [3]) (g := (gName 1)) (g1 := (gName 3)) (tt := tYes) (tt1 := tYes) rfl sc_are_tables.nd (pi_list (pv 0)) (blkOk_by (own := [("table", 1), ("guest", 3)]) (N := n_are_tables) (sc := defScope s_are_tables) (by decide +kernel)) (by decide) (fun _ _ _ _ _ => (pg_name (i := 1) sc_are_tables.nd rfl (Or.inl rfl))) (fun _ _ _ _ _ => pts_nil) (fun _ _ _ _ _ => (pi_tup (pv 1))) (fun _ _ _ _ _ => (pg_name (i := 3) sc_are_tables.nd rfl (Or.inl rfl))) (fun _ _ _ _ _ => pts_nil) (fun _ _ _ _ _ => (pv 3))) pa_nil)))))))), ?_⟩
    have hlen := ht.len
    rw [List.length_map] at hlen
    have hfl : rs.flatten.length = h.length := by rw [R.all.length_eq, List.length_range]
    have hn := o.2.2
    have many : rs.length ≤ h.length := by
      have : ∀ l : List (List Nat), (∀ r ∈ l, 0 < r.length) → l.length ≤ l.flatten.length := fun l => by
        induction l with
        | nil => intro _; simp
        | cons r l ih =>
          intro hl
          have := ih fun x hx => hl x (by simp [hx])
          have := hl r (by simp)
          rw [List.flatten_cons, List.length_append, List.length_cons]
          omega
      have := this rs fun r hr => (R.rg r hr).ne
      omega
    have hm : ws.map (fun _ => V.bl true) = (List.replicate ws.length true).map V.bl := by
      rw [List.map_replicate]
      exact List.map_const' ..
    refine q_when (b := false) (et_is (et_or (et_test (ev_op (ev_typeL (ev_var rfl) ha) ev_c (rv_neTyS PySem.TypeEq.meta_list))) fun _ => et_not (et_B (ev_allN (bs := List.replicate ws.length true) ?_))) (by simp)) (fun hb => Bool.noConfusion hb) fun _ H1 e1 => ?_
    · rw [← hm]
      refine el_map (fun _ => V.bl true) (ev_var rfl) (sq_of ha) (by omega) (fun _ => rfl) fun i x H2 e2 hx => ?_
      obtain ⟨b, r, rfl, hb, hr⟩ := ht.get hx
      rw [List.getElem?_map] at hr
      obtain ⟨r', hr', rfl⟩ := Option.map_eq_some_iff.mp hr
      have hrm := List.mem_of_getElem? hr'
      have := R.short hrm
      exact ev_call (by walk_at "ea") (sv_table (e2 b _ hb) (R.rg _ hrm).ne (by omega) (R.leads hrm))
    have h1 := e1 a _ ha
    have ht1 := ht.ex e1
    have heads : (List.range ws.length).map (fun i => V.int ((rs.getD i []).headD 0 : Nat)) = (iz (rs.map (·.headD 0))).map V.int := by
      unfold iz
      rw [hlen, List.map_map, List.map_map]
      conv => rhs; rw [range_get rs []]
      rw [List.map_map]
      rfl
    refine q_asgL (xs := (iz (rs.map (·.headD 0))).map V.int) ?_ fun p H2 hp e2 h2 => ?_
    · rw [← heads, ← given_at]
      refine el_lcL _ _ (ev_var rfl) (sq_of h1) (by omega) (fun _ => rfl) (fun _ _ _ _ _ => et_yes) fun i x H2 e2 hx _ => ?_
      obtain ⟨b, r, rfl, hb, hr⟩ := ht1.get hx
      rw [List.getElem?_map] at hr
      obtain ⟨r', hr', rfl⟩ := Option.map_eq_some_iff.mp hr
      have g : rs.getD i [] = r' := by rw [List.getD_eq_getElem?_getD, hr'] <;> rfl
      rw [g]
      have ne := (R.rg r' (List.mem_of_getElem? hr')).ne
      refine ev_op (ev_var rfl) ev_c (rv_ixT (K := K) (st_of (e2 b _ hb)) (atI_nat (j := 0) (nv_get ?_)))
      cases r' with
      | nil => simp at ne
      | cons c l => rfl
    · have sz : (iz (rs.map (·.headD 0))).length < 64 := by
        unfold iz
        rw [List.length_map, List.length_map]
        omega
      have so : (iz (rs.map (·.headD 0))).Pairwise (· ≤ ·) := by
        unfold iz
        rw [List.pairwise_map]
        exact List.Pairwise.imp (fun {a b} h => by omega) R.asc
      have sr := ed_sorted (K := K) (ta := tVar 2) (σ := [some (.ref a), none, some (.ref p), none]) (ev_var (i := 2) rfl) (sq_of h2) sz (List.Perm.refl _) so
      have vr : EvD K (tVar 2) [some (.ref a), none, some (.ref p), none] H2 (.list ((iz (rs.map (·.headD 0))).map PyData.int)) := ed_of (ev_var rfl) (.lst (sq_of h2) (dpa_ints _))
      refine s_ret (v := .bl true) (ev_is (ev_andV (ev_eqD vr sr (shaped_ints _) (shaped_ints _)) fun _ => ev_call1L (xs := nv rs.flatten) (v := .bl true) ?_ fun q H3 e3 h3 => ?_) (by rw [eqv_same (shaped_ints _)]; rfl)) fun H3 e3 => k _ (e1.trans (e2.trans e3))
      · rw [← flat_nv]
        exact el_lc2O (ev_var rfl) (e2 a _ h1) (ht1.ex e2) (by rw [flat_nv, nv_len]; omega) (fun _ => rfl) (fun _ => rfl) (fun _ _ => rfl) (fun _ _ => rfl)
      · exact sv_order h3 ⟨by rw [hfl]; exact R.all, by rw [hfl]; exact o.2.1, by rw [hfl]; exact o.2.2⟩
theorem TL.tb {H : Hp} : ∀ {ws : List V} {rs : List (List Nat)}, TL H ws (rs.map nv) → Paired (Tb H) ws rs
  | [], [], _ => .nil
  | _ :: _, _ :: _, .cons ⟨b, e, h⟩ t => .cons ⟨b, e, .inr h⟩ (TL.tb t)
theorem ok_seating_of (T : Tx K mg) : FnOk P w K mg base CX0 4 T.f_seating_of T.d_seating_of ["tables"] sp_seating_of := by
  refine T.F_seating_of.ok sc_seating_of (fun vs H Q E h => ?_) (fun cdv A outer s H vs Q E hr h => ?_)
  · obtain ⟨a, ws, rs, h, rfl, _⟩ := h
    rfl
  · obtain ⟨a, ws, rs, h, rfl, ha, ht, R, o, k⟩ := h
    refine ⟨_, (pss_cons (ps_if (pt_not (pt_val (pe_call (ok_are_tables T) (hr.mono (by decide)) (by rfl) T.g_are_tables T.F_are_tables.kp T.b_are_tables .nil pass0 (pa_cons (pv 0) pa_nil)))) (pss_one ps_never) pss_nil)
      (pss_one (ps_ret (pe_call (ok_seating_with T) (hr.mono (by decide)) (by rfl) T.g_seating_with T.F_seating_with.kp T.b_seating_with .nil pass0 (pa_cons (pv 0) pa_nil))))), ?_⟩
    refine q_when (b := false) (et_is (et_not (et_B (ev_call (by walk_at "ea") (sv_tables ha ht R o)))) rfl) (fun hb => Bool.noConfusion hb) fun _ H1 e1 => ?_
    exact s_retL (el_call (by walk_at "ea") (sl_with (e1 a _ ha) (TL.tb (ht.ex e1)) R.all R.rg o.2.2)) fun q H3 hq e3 h3 => k q H3 (fresh_back e1 hq) (e1.trans e3) h3
end


local macro_rules | `(tactic| walk_at "call") => `(tactic| (with_reducible exact sv_whole))
local macro_rules | `(tactic| walk_at "call") => `(tactic| ((with_reducible refine' sv_order ?c1 ?c2); (case c1 => assumption); (case c2 => assumption)))
local macro_rules | `(tactic| walk_at "call") => `(tactic| ((with_reducible refine' sv_ord ?c1 ?c2); (case c1 => assumption); (case c2 => assumption)))

def cd (a b : Int) : Int := ((Nat.gcd a.natAbs b.natAbs : Nat) : Int)
theorem cd_pos {a b : Int} (h : 0 < b) : 0 < cd a b := by
  unfold cd
  have := Nat.gcd_pos_of_pos_right a.natAbs (show 0 < b.natAbs by omega)
  omega
theorem cd_le {a b : Int} (h : 0 < b) : cd a b ≤ b := by
  unfold cd
  have := Nat.le_of_dvd (show 0 < b.natAbs by omega) (Nat.gcd_dvd_right a.natAbs b.natAbs)
  omega
theorem cd_dvd1 {a b : Int} : cd a b ∣ a := Int.ofNat_dvd_left.mpr (Nat.gcd_dvd_left a.natAbs b.natAbs)
theorem cd_dvd2 {a b : Int} : cd a b ∣ b := Int.ofNat_dvd_left.mpr (Nat.gcd_dvd_right a.natAbs b.natAbs)
/-! ### checks -/
def sp_check1 (lo hi : Int) : Sp := fun vs H Q _ => ∃ x : Int, vs = [.int x] ∧ lo ≤ x ∧ x ≤ hi ∧ RetV .non H Q
theorem sv_check1 {H : Hp} {lo hi x : Int} (h0 : lo ≤ x) (h1 : x ≤ hi) : SpV (sp_check1 lo hi) ([.int x] ++ []) H .non := fun H1 _ Q q E => ⟨x, rfl, h0, h1, q⟩
def sp_fraction : Sp := fun vs H Q _ => ∃ a b : Int, vs = [.int a, .int b] ∧ 0 < b ∧ b.natAbs < 2 ^ 8000 ∧ RetU [.int (a / cd a b), .int (b / cd a b)] H Q
theorem su_fraction {H : Hp} {a b : Int} (h0 : 0 < b) (h1 : b.natAbs < 2 ^ 8000) : SpU sp_fraction ([.int a, .int b] ++ []) H [.int (a / cd a b), .int (b / cd a b)] := fun H1 _ Q q E => ⟨a, b, rfl, h0, h1, q⟩
section
variable {P : Program} {w : World} {K : PySem.W.Frag} {mg : Str → Option Value} {base : Heap}
theorem ok_check_guests (T : Tx K mg) : FnOk P w K mg base CX0 3 T.f_check_guests T.d_check_guests ["guests"] (sp_check1 1 20) := by
  refine T.F_check_guests.ok sc_check_guests (fun vs H Q E h => ?_) (fun cdv A outer s H vs Q E hr h => ?_)
  · obtain ⟨x, rfl, _⟩ := h
    rfl
  · obtain ⟨x, rfl, h0, h1, k⟩ := h
    refine ⟨_, (pss_one (ps_if (pt_not (pt_val (pe_call (ok_is_within T) (hr.mono (by decide)) (by rfl) T.g_is_within T.F_is_within.kp T.b_is_within .nil pass0 (pa_cons (pv 0) (pa_cons pe_int (pa_cons (pe_gc (by rfl) T.c_MOST_GUESTS) pa_nil)))))) (pss_one ps_never) pss_nil)), ?_⟩
    exact s_when (b := false) (et_is (et_not (et_B (ev_call (ea_cons (ev_var rfl) (ea_cons ev_c (ea_cons ev_c ea_nil))) sv_between))) (by rw [decide_eq_true h0, decide_eq_true h1]; rfl)) (fun hb => Bool.noConfusion hb) fun _ H1 e1 => k _ e1
theorem ok_check_weight (T : Tx K mg) : FnOk P w K mg base CX0 3 T.f_check_weight T.d_check_weight ["weight"] (sp_check1 1 1000000000000) := by
  refine T.F_check_weight.ok sc_check_weight (fun vs H Q E h => ?_) (fun cdv A outer s H vs Q E hr h => ?_)
  · obtain ⟨x, rfl, _⟩ := h
    rfl
  · obtain ⟨x, rfl, h0, h1, k⟩ := h
    refine ⟨_, (pss_one (ps_if (pt_not (pt_val (pe_call (ok_is_within T) (hr.mono (by decide)) (by rfl) T.g_is_within T.F_is_within.kp T.b_is_within .nil pass0 (pa_cons (pv 0) (pa_cons pe_int (pa_cons (pe_gc (by rfl) T.c_MOST_WEIGHT) pa_nil)))))) (pss_one ps_never) pss_nil)), ?_⟩
    exact s_when (b := false) (et_is (et_not (et_B (ev_call (ea_cons (ev_var rfl) (ea_cons ev_c (ea_cons ev_c ea_nil))) sv_between))) (by rw [decide_eq_true h0, decide_eq_true h1]; rfl)) (fun hb => Bool.noConfusion hb) fun _ H1 e1 => k _ e1
theorem ok_fraction (T : Tx K mg) : FnOk P w K mg base CX0 1 T.f_fraction T.d_fraction ["top", "bottom"] sp_fraction := by
  refine T.F_fraction.ok sc_fraction (fun vs H Q E h => ?_) (fun cdv A outer s H vs Q E hr h => ?_)
  · obtain ⟨a, b, rfl, _⟩ := h
    rfl
  · obtain ⟨a, b, rfl, h0, h1, k⟩ := h
    refine ⟨_, (pss_cons (ps_set (i := 2) sc_fraction.nd rfl (Or.inl rfl) (pe_callBfun cr_gcd (by rfl) T.i_gcd (pa_cons (pv 0) (pa_cons (pv 1) pa_nil))))
      (pss_one (ps_ret (pe_tup (pa_cons (pe_op op_fdivW (pv 0) (pv 2)) (pa_cons (pe_op op_fdivW (pv 1) (pv 2)) pa_nil)))))), ?_⟩
    refine q_asg (by walk_at "ev") fun H1 e1 => ?_
    have hd : ∀ x : Int, CDivW x (cd a b) := fun x => wide_div (cd_pos h0) (Nat.lt_of_le_of_lt (by have := cd_le (a := a) h0; have := cd_pos (a := a) h0; omega) h1) (by decide) (by decide)
    have hd1 := hd a
    have hd2 := hd b
    refine s_retU (by walk_at "eu") fun p H2 hp e2 h2 => k p H2 (fresh_back e1 hp) (e1.trans e2) h2
end

/-! ### rising products -/
def rise (w : Int) : Nat → Int
  | 0 => 1
  | n + 1 => rise w n * (w + n)
theorem rise_pos {w : Int} (h : 1 ≤ w) : ∀ n, 0 < rise w n
  | 0 => by
    show (0 : Int) < 1
    decide
  | n + 1 => Int.mul_pos (rise_pos h n) (by omega)

/-! ### numbers -/
theorem rise_le {w : Int} (h : w.natAbs < 2 ^ 130) : ∀ n : Nat, n ≤ 100 → (rise w n).natAbs ≤ 2 ^ (131 * n)
  | 0, _ => by
    show (1 : Int).natAbs ≤ 2 ^ 0
    decide
  | n + 1, hn => by
    have ih := rise_le h n (by omega)
    show (rise w n * (w + n)).natAbs ≤ _
    rw [Int.natAbs_mul, Nat.mul_succ, Nat.pow_add]
    exact Nat.mul_le_mul ih (by omega)
def sp_pow : Sp := fun vs H Q _ => ∃ b t : Int, vs = [.int b, .int t] ∧ b.natAbs < 2 ^ 130 ∧ 0 ≤ t ∧ t ≤ 40 ∧ RetV (.int (b ^ t.toNat)) H Q
theorem sv_pow {H : Hp} {b t : Int} (hb : b.natAbs < 2 ^ 130) (h0 : 0 ≤ t) (h1 : t ≤ 40) : SpV sp_pow ([.int b, .int t] ++ []) H (.int (b ^ t.toNat)) := fun H1 _ Q q E => ⟨b, t, rfl, hb, h0, h1, q⟩
def sp_rise : Sp := fun vs H Q _ => ∃ (b : Int) (n : Nat), vs = [.int b, .int n] ∧ b.natAbs < 2 ^ 130 ∧ n ≤ 40 ∧ RetV (.int (rise b n)) H Q
theorem sv_rise {H : Hp} {b : Int} {n : Nat} (hb : b.natAbs < 2 ^ 130) (h1 : n ≤ 40) : SpV sp_rise ([.int b, .int (n : Int)] ++ []) H (.int (rise b n)) := fun H1 _ Q q E => ⟨b, n, rfl, hb, h1, q⟩
local macro_rules | `(tactic| walk_at "call") => `(tactic| ((with_reducible refine' sv_pow ?c1 ?c2 ?c3); (case c1 => walk_at "side"); (case c2 => walk_at "side"); (case c3 => walk_at "side")))
local macro_rules | `(tactic| walk_at "call") => `(tactic| ((with_reducible refine' sv_rise ?c1 ?c2); (case c1 => walk_at "side"); (case c2 => walk_at "side")))

section
variable {P : Program} {w : World} {K : PySem.W.Frag} {mg : Str → Option Value} {base : Heap}
theorem ok_raised (T : Tx K mg) : FnOk P w K mg base CX0 1 T.f_raised T.d_raised ["base","times"] sp_pow := by
  refine T.F_raised.ok sc_raised (fun vs H Q E h => ?_) (fun cdv A outer s H vs Q E hr h => ?_)
  · obtain ⟨b, t, rfl, _⟩ := h
    rfl
  · obtain ⟨b, t, rfl, hb, ht0, ht1, k⟩ := h
    refine ⟨_, (pss_cons (ps_set (i := 2) sc_raised.nd rfl (Or.inl rfl) pe_int)
      (pss_cons (ps_for PassesOwn.never rfl (pi_range1 (by rfl) T.m_range (pa_cons (pv 1) pa_nil)) (pg_name (i := 3) sc_raised.nd rfl (Or.inl rfl)) (pss_one (ps_set (i := 2) sc_raised.nd rfl (Or.inl rfl) (pe_op op_mulX (pv 2) (pv 0)))))
      (pss_one (ps_ret (pv 2))))), ?_⟩
    refine q_asg ev_c fun H1 e1 => ?_
    refine q_forR1 (n := t) (by walk_at "ea") ⟨ht0, by omega⟩ (fun i σ' H' => ∃ y, σ' = [some (.int b), some (.int t), some (.int (b ^ i)), y] ∧ Ex H H') (fun H2 e2 => ⟨none, by rw [Int.pow_zero]; rfl, e1.trans e2⟩) ?_ ?_
    · rintro i σ' H' hi ⟨y, rfl, e⟩
      have hm : CMulX (b ^ i) b := mulx_ok (lt_of_le2 (natAbs_pow_le hb i)) hb (by omega)
      exact s_asg (by walk_at "ev") fun H2 e2 => ⟨_, by rw [Int.pow_succ]; rfl, e.trans e2⟩
    · rintro σ' H' ⟨y, rfl, e⟩
      exact s_ret (by walk_at "ev") fun H2 e2 => k _ (e.trans e2)

theorem ok_rising (T : Tx K mg) : FnOk P w K mg base CX0 1 T.f_rising T.d_rising ["weight","guests"] sp_rise := by
  refine T.F_rising.ok sc_rising (fun vs H Q E h => ?_) (fun cdv A outer s H vs Q E hr h => ?_)
  · obtain ⟨b, n, rfl, _⟩ := h
    rfl
  · obtain ⟨b, n, rfl, hb, hn, k⟩ := h
    refine ⟨_, (pss_cons (ps_set (i := 2) sc_rising.nd rfl (Or.inl rfl) pe_int)
      (pss_cons (ps_for PassesOwn.never rfl (pi_range1 (by rfl) T.m_range (pa_cons (pv 1) pa_nil)) (pg_name (i := 3) sc_rising.nd rfl (Or.inl rfl)) (pss_one (ps_set (i := 2) sc_rising.nd rfl (Or.inl rfl) (pe_op op_mulX (pv 2) (pe_op op_add (pv 0) (pv 3))))))
      (pss_one (ps_ret (pv 2))))), ?_⟩
    refine q_asg ev_c fun H1 e1 => ?_
    refine q_forR1 (n := (n : Int)) (by walk_at "ea") ⟨by omega, by omega⟩ (fun i σ' H' => ∃ y, σ' = [some (.int b), some (.int n), some (.int (rise b i)), y] ∧ Ex H H') (fun H2 e2 => ⟨none, rfl, e1.trans e2⟩) ?_ ?_
    · rintro i σ' H' hi ⟨y, rfl, e⟩
      have hs : (b + (i : Int)).natAbs < 2 ^ 131 := by omega
      have hm : CMulX (rise b i) (b + (i : Int)) := mulx_ok (lt_of_le2 (rise_le hb i (by omega))) hs (by omega)
      exact s_asg (by walk_at "ev") fun H2 e2 => ⟨_, rfl, e.trans e2⟩
    · rintro σ' H' ⟨y, rfl, e⟩
      exact s_ret (by walk_at "ev") fun H2 e2 => k _ (e.trans e2)

theorem ok_law_rise (T : Tx K mg) : FnOk P w K mg base CX0 1 T.f_law_rise T.d_law_rise ["heavy","many"] sp_rise := by
  refine T.F_law_rise.ok sc_law_rise (fun vs H Q E h => ?_) (fun cdv A outer s H vs Q E hr h => ?_)
  · obtain ⟨b, n, rfl, _⟩ := h
    rfl
  · obtain ⟨b, n, rfl, hb, hn, k⟩ := h
    refine ⟨_, (pss_cons (ps_set (i := 2) sc_law_rise.nd rfl (Or.inl rfl) pe_int)
      (pss_cons (ps_for PassesOwn.never rfl (pi_range1 (by rfl) T.m_range (pa_cons (pv 1) pa_nil)) (pg_name (i := 3) sc_law_rise.nd rfl (Or.inl rfl)) (pss_one (ps_set (i := 2) sc_law_rise.nd rfl (Or.inl rfl) (pe_op op_mulX (pv 2) (pe_op op_add (pv 0) (pv 3))))))
      (pss_one (ps_ret (pv 2))))), ?_⟩
    refine q_asg ev_c fun H1 e1 => ?_
    refine q_forR1 (n := (n : Int)) (by walk_at "ea") ⟨by omega, by omega⟩ (fun i σ' H' => ∃ y, σ' = [some (.int b), some (.int n), some (.int (rise b i)), y] ∧ Ex H H') (fun H2 e2 => ⟨none, rfl, e1.trans e2⟩) ?_ ?_
    · rintro i σ' H' hi ⟨y, rfl, e⟩
      have hs : (b + (i : Int)).natAbs < 2 ^ 131 := by omega
      have hm : CMulX (rise b i) (b + (i : Int)) := mulx_ok (lt_of_le2 (rise_le hb i (by omega))) hs (by omega)
      exact s_asg (by walk_at "ev") fun H2 e2 => ⟨_, rfl, e.trans e2⟩
    · rintro σ' H' ⟨y, rfl, e⟩
      exact s_ret (by walk_at "ev") fun H2 e2 => k _ (e.trans e2)

end
def sp_check_index : Sp := fun vs H Q _ => ∃ x n : Int, vs = [.int x, .int n] ∧ 0 ≤ x ∧ x < n ∧ RetV .non H Q
theorem sv_check_index {H : Hp} {x n : Int} (h0 : 0 ≤ x) (h1 : x < n) : SpV sp_check_index ([.int x, .int n] ++ []) H .non := fun H1 _ Q q E => ⟨x, n, rfl, h0, h1, q⟩
section
variable {P : Program} {w : World} {K : PySem.W.Frag} {mg : Str → Option Value} {base : Heap}
theorem ok_check_index (T : Tx K mg) : FnOk P w K mg base CX0 3 T.f_check_index T.d_check_index ["index", "many"] sp_check_index := by
  refine T.F_check_index.ok sc_check_index (fun vs H Q E h => ?_) (fun cdv A outer s H vs Q E hr h => ?_)
  · obtain ⟨x, n, rfl, _⟩ := h
    rfl
  · obtain ⟨x, n, rfl, h0, h1, k⟩ := h
    refine ⟨_, (pss_one (ps_if (pt_not (pt_val (pe_call (ok_is_within T) (hr.mono (by decide)) (by rfl) T.g_is_within T.F_is_within.kp T.b_is_within .nil pass0 (pa_cons (pv 0) (pa_cons pe_int (pa_cons (pe_op op_sub (pv 1) pe_int) pa_nil)))))) (pss_one ps_never) pss_nil)), ?_⟩
    exact s_when (b := false) (et_is (et_not (et_B (ev_call (ea_cons (ev_var rfl) (ea_cons ev_c (ea_cons (ev_op (ev_var rfl) ev_c rv_I0) ea_nil))) sv_between))) (by rw [decide_eq_true h0, decide_eq_true (show x ≤ n - 1 by omega)]; rfl)) (fun hb => Bool.noConfusion hb) fun _ H1 e1 => k _ e1
end
def frac (a b : Int) : List V := [.int (a / cd a b), .int (b / cd a b)]
def sp_seating_share : Sp := fun vs H Q _ => ∃ (a : Addr) (h : List Nat) (rs : List (List Nat)) (w : Int), vs = [.ref a, .int w] ∧ H a = some (.lst (nv h)) ∧ Ord h ∧ Rings h rs ∧ rs.length ≤ 20 ∧ 1 ≤ w ∧ w ≤ 1000000000000 ∧ RetU (frac (w ^ rs.length) (rise w h.length)) H Q
theorem su_seating_share {H : Hp} {a : Addr} {h : List Nat} {rs : List (List Nat)} {w : Int} (ha : H a = some (.lst (nv h))) (o : Ord h) (R : Rings h rs) (hl : rs.length ≤ 20) (h2 : 1 ≤ w) (h3 : w ≤ 1000000000000) : SpU sp_seating_share ([.ref a, .int w] ++ []) H (frac (w ^ rs.length) (rise w h.length)) := fun H1 e Q q E => ⟨a, h, rs, w, rfl, e a _ ha, o, R, hl, h2, h3, q⟩
local macro_rules | `(tactic| walk_at "call") => `(tactic| ((with_reducible refine' sv_check1 ?c1 ?c2); (case c1 => walk_at "side"); (case c2 => walk_at "side")))
section
variable {P : Program} {w : World} {K : PySem.W.Frag} {mg : Str → Option Value} {base : Heap}
theorem ok_seating_share (T : Tx K mg) : FnOk P w K mg base CX0 6 T.f_seating_share T.d_seating_share ["seating", "weight"] sp_seating_share := by
  refine T.F_seating_share.ok sc_seating_share (fun vs H Q E h => ?_) (fun cdv A outer s H vs Q E hr h => ?_)
  · obtain ⟨a, h, rs, x, rfl, _⟩ := h
    rfl
  · obtain ⟨a, h, rs, x, rfl, ha, o, R, hl, h2, h3, k⟩ := h
    refine ⟨_, (pss_cons (ps_set (i := 2) sc_seating_share.nd rfl (Or.inl rfl) (pe_call (ok_tables_of T) (hr.mono (by decide)) (by rfl) T.g_tables_of T.F_tables_of.kp T.b_tables_of .nil pass0 (pa_cons (pv 0) pa_nil)))
      (pss_cons (ps_expr (pe_call (ok_check_weight T) (hr.mono (by decide)) (by rfl) T.g_check_weight T.F_check_weight.kp T.b_check_weight .nil pass0 (pa_cons (pv 1) pa_nil)))
      (pss_one (ps_ret (pe_call (ok_fraction T) (hr.mono (by decide)) (by rfl) T.g_fraction T.F_fraction.kp T.b_fraction .nil pass0 (pa_cons (pe_call (ok_raised T) (hr.mono (by decide)) (by rfl) T.g_raised T.F_raised.kp T.b_raised .nil pass0 (pa_cons (pv 1) (pa_cons (pe_callB call_lenR (by rfl) T.m_len (by decide +kernel) (pa_cons (pv 2) pa_nil)) pa_nil))) (pa_cons (pe_call (ok_rising T) (hr.mono (by decide)) (by rfl) T.g_rising T.F_rising.kp T.b_rising .nil pass0 (pa_cons (pv 1) (pa_cons (pe_callB call_lenR (by rfl) T.m_len (by decide +kernel) (pa_cons (pv 0) pa_nil)) pa_nil))) pa_nil))))))), ?_⟩
    have o2 := o.2
    have lt : EvLT (tCall sp_tables_of [] E0 (tCons (tVar 0) tNil)) (start n_seating_share [.ref a, .int x]) H (rs.map nv) := fun H1 e Q q => (ea_cons (ev_var (i := 0) rfl) ea_nil) H1 (Ex.refl _) _ fun H2 e2 => ⟨a, h, rs, rfl, e2 a _ (e a _ ha), o, R, fun p ws H3 hp e3 h3 ht => q p ws H3 (fresh_back e2 hp) (e2.trans e3) h3 ht⟩
    refine q_asgLT lt fun b ws H1 nb e1 h1 t1 => ?_
    have wl := t1.len
    rw [List.length_map] at wl
    refine q_drop (by walk_at "ev") fun H2 e2 => ?_
    have hb : x.natAbs < 2 ^ 130 := by omega
    have l1 := ev_len (K := K) (ta := tVar 2) (σ := [some (V.ref a), some (.int x), some (.ref b)]) (ev_var (i := 2) rfl) (sq_of (e2 b _ h1))
    have l2 := ev_len (K := K) (ta := tVar 0) (σ := [some (V.ref a), some (.int x), some (.ref b)]) (ev_var (i := 0) rfl) (sq_of (e2 a _ (e1 a _ ha)))
    rw [wl] at l1
    rw [nv_len] at l2
    have pw := ev_call (E := E0) (ea_cons (ev_var (i := 1) (v := .int x) (σ := [some (V.ref a), some (.int x), some (.ref b)]) rfl) (ea_cons l1 ea_nil)) (sv_pow hb (by omega) (by omega))
    rw [Int.toNat_natCast] at pw
    refine s_retU (eu_call (ea_cons pw (ea_cons (ev_call (ea_cons (ev_var rfl) (ea_cons l2 ea_nil)) (sv_rise hb (by omega))) ea_nil)) (su_fraction (rise_pos h2 _) (lt2_mono (lt_of_le2 (rise_le hb _ (by omega))) (by omega)))) fun p H3 hp e3 h3 => k p H3 (fresh_back (e1.trans e2) hp) (e1.trans (e2.trans e3)) h3
end


local macro_rules | `(tactic| walk_at "call") => `(tactic| (with_reducible exact sv_whole))
local macro_rules | `(tactic| walk_at "call") => `(tactic| ((with_reducible refine' sv_order ?c1 ?c2); (case c1 => assumption); (case c2 => assumption)))
local macro_rules | `(tactic| walk_at "call") => `(tactic| ((with_reducible refine' sv_ord ?c1 ?c2); (case c1 => assumption); (case c2 => assumption)))

local macro_rules | `(tactic| walk_at "call") => `(tactic| (with_reducible exact sv_whole))
local macro_rules | `(tactic| walk_at "call") => `(tactic| ((with_reducible refine' sv_ord ?c1 ?c2); (case c1 => assumption); (case c2 => assumption)))

local macro_rules | `(tactic| walk_at "call") => `(tactic| ((with_reducible refine' sv_pow ?c1 ?c2 ?c3); (case c1 => walk_at "side"); (case c2 => walk_at "side"); (case c3 => walk_at "side")))
local macro_rules | `(tactic| walk_at "call") => `(tactic| ((with_reducible refine' sv_rise ?c1 ?c2); (case c1 => walk_at "side"); (case c2 => walk_at "side")))
local macro_rules | `(tactic| walk_at "call") => `(tactic| (with_reducible exact sv_between))
local macro_rules | `(tactic| walk_at "call") => `(tactic| ((with_reducible refine' sv_check1 ?c1 ?c2); (case c1 => walk_at "side"); (case c2 => walk_at "side")))
local macro_rules | `(tactic| walk_at "call") => `(tactic| ((with_reducible refine' sv_check_number ?c1 ?c2); (case c1 => walk_at "side"); (case c2 => walk_at "side")))
local macro_rules | `(tactic| walk_at "callU") => `(tactic| ((with_reducible refine' su_fraction ?c1 ?c2); (case c1 => walk_at "side"); (case c2 => walk_at "side")))

theorem nv_at {l : List Nat} {i : Nat} (h : i < l.length) : (nv l)[i]? = some (.int ((l.getD i 0 : Nat) : Int)) := nv_get (by
  rw [List.getD_eq_getElem?_getD, List.getElem?_eq_getElem h]
  rfl)

/-! ### _law_mixed, _law_entries -/
theorem q_parLL {σ : L2.St} {H : Hp} {ta tb : TE} {tz : TS} {D : Ends} {i j : Nat} {xs ys : List V} (ha : EvL ta σ H xs) (hb : EvL tb σ H ys) (k : ∀ p q H1, H p = none → H q = none → p ≠ q → Ex H H1 → H1 p = some (.lst xs) → H1 q = some (.lst ys) → tz D ((σ.set i (some (.ref p))).set j (some (.ref q))) H1) :
    tSeq (tPar i j (tCons ta (tCons tb tNil))) tz D σ H := ha H (Ex.refl H) _ fun p H1 hp e1 h1 => hb H1 e1 _ fun q H2 hq e2 h2 => ⟨_, _, rfl, k p q H2 hp (fresh_back e1 hq) (ne_of_none h1 hq) (e1.trans e2) (e2 p _ h1) h2⟩
theorem eqv_nil (xs : List V) (ns : List Int) : PyData.eqv (.list (ns.map PyData.int)) (.list []) = ns.isEmpty := by
  cases ns with
  | nil => decide
  | cons n l => rfl
theorem nv_erase (L : List Nat) (k : Nat) : (nv L).eraseIdx k = nv (L.eraseIdx k) := by
  rw [nv_eq, nv_eq, List.eraseIdx_eq_take_drop_succ, List.eraseIdx_eq_take_drop_succ, List.map_append, List.map_take, List.map_drop]
theorem shaped_nil : SeqAt.shaped (.list []) = true := by decide
theorem s_appE {K : PySem.W.Frag} {σ : L2.St} {H : Hp} {ta te : TE} {D : Ends} {l : Addr} {xs : List V} (hl : H l = some (.lst xs)) (ha : Ev ta σ H (.ref l)) (k : ∀ H1, Ex H H1 → te σ H1 fun v H2 => rAppend (.ref l) [v] H2 fun _ H3 => D.nx σ H3) : tDrop (tBM K "list" rAppend ta (tCons te tNil)) D σ H :=
  ha H (Ex.refl H) _ fun H1 e1 => ⟨Or.inl ⟨rfl, xs, sq_of (e1 l _ hl)⟩, k H1 e1⟩
theorem t_popAt {K : PySem.W.Frag} {σ : L2.St} {H : Hp} {ta te : TE} {Q : VK} {l : Addr} {xs : List V} (hl : H l = some (.lst xs)) (ha : Ev ta σ H (.ref l)) (k : ∀ H1, Ex H H1 → te σ H1 fun v H2 => rPopAt (.ref l) [v] H2 Q) : tBM K "list" rPopAt ta (tCons te tNil) σ H Q :=
  ha H (Ex.refl H) _ fun H1 e1 => ⟨Or.inl ⟨rfl, xs, sq_of (e1 l _ hl)⟩, k H1 e1⟩
theorem seq_at {j n : Nat} (h : j < n) : seqIndex? (j : Int) n = some j := by
  unfold seqIndex?
  have h1 : ¬ ((j : Int) < 0) := by omega
  have h2 : (0 : Int) ≤ j := by omega
  have h3 : (j : Int) < n := by omega
  simp [h1, h2, h3]
theorem erase_perm {L : List Nat} {j : Nat} (hj : j < L.length) : (L[j] :: L.eraseIdx j).Perm L := by
  have e2 : L.take j ++ L[j] :: L.drop (j + 1) = L := by rw [← List.drop_eq_getElem_cons hj, List.take_append_drop]
  rw [List.eraseIdx_eq_take_drop_succ]
  exact List.perm_middle.symm.trans (List.Perm.of_eq e2)

/-! ### orders -/
section
variable {K : PySem.W.Frag} {σ : L2.St} {H : Hp} {ta tb te : TE} {D : Ends} {tz : TS}
theorem et_lst {a : Addr} {xs : List V} (h : Ev ta σ H (.ref a)) (ha : H a = some (.lst xs)) : EvT (fun σ H Q => ta σ H fun x H' => ∃ k, TruV K x H' k ∧ Q k H') σ H (!xs.isEmpty) := fun H1 e Q q => h H1 e _ fun H2 e2 => ⟨_, Or.inl ⟨xs, sq_of (e2 a _ (e a _ ha)), rfl⟩, q H2 e2⟩
end
theorem fac_le20 {k : Nat} (h : k ≤ 20) : fac k < 2 ^ 64 := Nat.lt_of_le_of_lt (fac_mono h) fac20
def nthS : Nat → List Nat → Nat → List Nat
  | 0, _, _ => []
  | k + 1, free, i => free.getD (i / fac k) 0 :: nthS k (free.eraseIdx (i / fac k)) (i % fac k)
def sp_nth_seating : Sp := fun vs H Q _ => ∃ g i : Nat, vs = [.int (g : Int), .int (i : Int)] ∧ 1 ≤ g ∧ g ≤ 20 ∧ i < fac g ∧ RetL (nv (nthS g (List.range g) i)) H Q
theorem sl_nth_seating {H : Hp} {g i : Nat} (h0 : 1 ≤ g) (h1 : g ≤ 20) (h2 : i < fac g) : SpL sp_nth_seating ([.int (g : Int), .int (i : Int)] ++ []) H (nv (nthS g (List.range g) i)) := fun H1 _ Q q E => ⟨g, i, rfl, h0, h1, h2, q⟩
def fr (h : List Nat) : Nat → List Nat
  | 0 => List.range h.length
  | k + 1 => (fr h k).eraseIdx ((fr h k).idxOf (h.getD k 0))
def si (h : List Nat) : Nat → Nat
  | 0 => 0
  | k + 1 => si h k * (fr h k).length + (fr h k).idxOf (h.getD k 0)
theorem fr_perm {h : List Nat} (o : Ord h) : ∀ k, k ≤ h.length → (fr h k).Perm (h.drop k)
  | 0, _ => o.1.symm
  | k + 1, hk => by
    have ih := fr_perm o k (by omega)
    have hd : h.drop k = h.getD k 0 :: h.drop (k + 1) := by
      rw [List.drop_eq_getElem_cons (show k < h.length by omega), List.getD_eq_getElem?_getD, List.getElem?_eq_getElem (show k < h.length by omega)]
      rfl
    rw [hd] at ih
    have hm : h.getD k 0 ∈ fr h k := ih.mem_iff.mpr List.mem_cons_self
    have hlt := List.idxOf_lt_length_of_mem hm
    have ep := erase_perm hlt
    rw [List.getElem_idxOf hlt] at ep
    exact (ep.trans ih).cons_inv
theorem fr_len {h : List Nat} (o : Ord h) {k : Nat} (hk : k ≤ h.length) : (fr h k).length = h.length - k := by
  rw [(fr_perm o k hk).length_eq, List.length_drop]
theorem fr_mem {h : List Nat} (o : Ord h) {k : Nat} (hk : k < h.length) : h.getD k 0 ∈ fr h k := by
  refine (fr_perm o k (by omega)).mem_iff.mpr ?_
  rw [List.drop_eq_getElem_cons hk, List.getD_eq_getElem?_getD, List.getElem?_eq_getElem hk]
  exact List.mem_cons_self
theorem si_lt {h : List Nat} (o : Ord h) : ∀ k, k ≤ h.length → (si h k + 1) * fac (h.length - k) ≤ fac h.length
  | 0, _ => by
    show (0 + 1) * fac (h.length - 0) ≤ _
    rw [Nat.zero_add, Nat.one_mul, Nat.sub_zero]
    exact Nat.le_refl _
  | k + 1, hk => by
    have ih := si_lt o k (by omega)
    have hm := fr_mem o (show k < h.length by omega)
    have hlt := List.idxOf_lt_length_of_mem hm
    have hl := fr_len o (show k ≤ h.length by omega)
    obtain ⟨r, hr⟩ : ∃ r, h.length - k = r + 1 := ⟨h.length - k - 1, by omega⟩
    rw [hr] at ih hl
    rw [hl] at hlt
    rw [si, hl, show h.length - (k + 1) = r by omega]
    rw [fac_succ] at ih
    have a : si h k * (r + 1) + (fr h k).idxOf (h.getD k 0) + 1 ≤ (si h k + 1) * (r + 1) := by
      rw [Nat.add_mul, Nat.one_mul]
      omega
    refine Nat.le_trans (Nat.mul_le_mul_right _ a) (Nat.le_trans (Nat.le_of_eq ?_) ih)
    rw [Nat.mul_assoc, Nat.mul_comm (r + 1)]
theorem si_fac {h : List Nat} (o : Ord h) {k : Nat} (hk : k ≤ h.length) : si h k < fac h.length := by
  have a := si_lt o k hk
  have b := fac_pos (h.length - k)
  have := Nat.le_mul_of_pos_right (si h k + 1) b
  omega
def sp_seating_index : Sp := fun vs H Q _ => ∃ (a : Addr) (h : List Nat), vs = [.ref a] ∧ H a = some (.lst (nv h)) ∧ Ord h ∧ RetV (.int (si h h.length : Int)) H Q
theorem sv_seating_index {H : Hp} {a : Addr} {h : List Nat} (ha : H a = some (.lst (nv h))) (o : Ord h) : SpV sp_seating_index ([.ref a] ++ []) H (.int (si h h.length : Int)) := fun H1 e Q q E => ⟨a, h, rfl, e a _ ha, o, q⟩
section
variable {P : Program} {w : World} {K : PySem.W.Frag} {mg : Str → Option Value} {base : Heap}
theorem ok_nth_seating (T : Tx K mg) : FnOk P w K mg base CX0 5 T.f_nth_seating T.d_nth_seating ["guests", "index"] sp_nth_seating := by
  refine T.F_nth_seating.ok sc_nth_seating (fun vs H Q E h => ?_) (fun cdv A outer s H vs Q E hr h => ?_)
  · obtain ⟨g, i, rfl, _⟩ := h
    rfl
  · obtain ⟨g, i, rfl, h0, h1, h2, k⟩ := h
    refine ⟨_, (pss_cons (ps_expr (pe_call (ok_check_guests T) (hr.mono (by decide)) (by rfl) T.g_check_guests T.F_check_guests.kp T.b_check_guests .nil pass0 (pa_cons (pv 0) pa_nil)))
      (pss_cons (ps_expr (pe_call (ok_check_index T) (hr.mono (by decide)) (by rfl) T.g_check_index T.F_check_index.kp T.b_check_index .nil pass0 (pa_cons (pv 1) (pa_cons (pe_callBfun cr_factorial (by rfl) T.i_factorial (pa_cons (pv 0) pa_nil)) pa_nil))))
      (pss_cons (ps_set (i := 2) sc_nth_seating.nd rfl (Or.inl rfl) (pe_listRg rfl (by rfl) T.m_list (prg_1 (by rfl) T.m_range (pv 0))))
      (pss_cons (ps_set (i := 3) sc_nth_seating.nd rfl (Or.inl rfl) (pe_lst pa_nil))
      (pss_cons (ps_while PassesOwn.never (pt_truth (pv 2) (by intro _; rfl)) (pss_cons (ps_asg (pe_callB (id := "divmod") (r := rDivmod) call_divmodR (by rfl) T.m_divmod (by decide +kernel) (pa_cons (pv 1) (pa_cons (pe_callBfun cr_factorial (by rfl) T.i_factorial (pa_cons (pe_op op_sub (pe_callB call_lenR (by rfl) T.m_len (by decide +kernel) (pa_cons (pv 2) pa_nil)) pe_int) pa_nil)) pa_nil))) (pg_tup rfl (pgs_cons (pg_name (i := 4) sc_nth_seating.nd rfl (Or.inl rfl)) (pgs_cons (pg_name (i := 1) sc_nth_seating.nd rfl (Or.inl rfl)) pgs_nil))))
      (pss_one (ps_expr (pe_bm PySem.F.plainAttrs_list PySem.F.slot_list_append PySem.F.type_list_append mt_append (pv 3) (pa_cons (pe_bm PySem.F.plainAttrs_list PySem.F.slot_list_pop PySem.F.type_list_pop mt_popAt (pv 2) (pa_cons (pv 4) pa_nil)) pa_nil))))))
      (pss_one (ps_ret (pv 3)))))))), ?_⟩
    refine q_drop (ev_call (ea_cons (ev_var rfl) ea_nil) (sv_check1 (by omega) (by omega))) fun H1 e1 => ?_
    refine q_drop (ev_call (ea_cons (ev_var rfl) (ea_cons (ev_fac (ev_var rfl) (by omega)) ea_nil)) (sv_check_index (by omega) (by omega))) fun H2 e2 => ?_
    refine q_asgL (xs := nv (List.range g)) ?_ fun a H3 na e3 h3 => ?_
    · have q := el_rg1 (σ := start n_nth_seating [.int (g : Int), .int (i : Int)]) (H := H2) (tb := tVar 0) (b := (g : Int)) (ev_var rfl) (RgOk.of_le (by decide) (by omega) (by decide) (by omega))
      rw [range_iz] at q
      exact q
    refine q_asgL (xs := nv []) (el_lst ea_nil (Nat.le_of_ble_eq_true rfl)) fun b H4 nb e4 h4 => ?_
    have na0 := fresh_back (e1.trans e2) na
    have nb0 := fresh_back (e1.trans (e2.trans e3)) nb
    have ab : a ≠ b := ne_of_none h3 nb
    refine q_while (fun m σ' H' => ∃ (L F : List Nat) (x : Nat) (y4 : Option V), σ' = [some (.int (g : Int)), some (.int (x : Int)), some (.ref a), some (.ref b), y4] ∧ H' a = some (.lst (nv L)) ∧ H' b = some (.lst (nv F)) ∧ Ex H H' ∧ L.length = m ∧ F.length + m = g ∧ x < fac m ∧ F ++ nthS m L x = nthS g (List.range g) i) g
      ⟨List.range g, [], i, none, rfl, e4 a _ h3, h4, e1.trans (e2.trans (e3.trans e4)), List.length_range, by simp, h2, rfl⟩ ?_
    rintro m σ' H' ⟨L, F, x, y4, rfl, hL, hF, e, hm, hfm, hx, hr⟩
    refine ⟨!(nv L).isEmpty, et_lst (ev_var rfl) hL, fun hb H5 e5 => ?_, fun hb H5 e5 => ?_⟩
    · obtain ⟨m', rfl⟩ : ∃ m', m = m' + 1 := by
        cases m with
        | zero =>
          rw [List.length_eq_zero_iff.mp hm] at hb
          cases hb
        | succ m' => exact ⟨m', rfl⟩
      have f64 := fac_le20 (show m' ≤ 20 by omega)
      have fp := fac_pos m'
      have hq : x / fac m' < m' + 1 := (Nat.div_lt_iff_lt_mul fp).mpr (by rw [fac_succ, Nat.mul_comm] at hx; exact hx)
      rw [nthS] at hr
      generalize hqv : x / fac m' = qv at hq hr
      refine ⟨_, fun σ2 H2 h => ⟨m', by omega, h⟩, ?_⟩
      have hL5 := e5 a _ hL
      have ln : ∀ (y : Option V), Ev (tOp (rI0 fun i j => .int (i - j)) (tCB (rLenS K) (tCons (tVar 2) tNil)) (tC (.int 1))) [some (.int (g : Int)), some (.int (x : Int)), some (.ref a), some (.ref b), y] H5 (.int ((m' : Nat) : Int)) := fun y => by
        have := ev_len (K := K) (ta := tVar 2) (σ := [some (.int (g : Int)), some (.int (x : Int)), some (.ref a), some (.ref b), y]) (ev_var (i := 2) rfl) (sq_of hL5)
        rw [nv_len, hm] at this
        exact ev_is (ev_op this ev_c rv_I0) (congrArg V.int (by omega))
      have dm := eu_divmod (a := x) (b := fac m') (σ := [some (.int (g : Int)), some (.int (x : Int)), some (.ref a), some (.ref b), y4]) (H := H5) (ta := tVar 1) (ev_var (i := 1) rfl) (ev_fac (ln y4) (by omega)) fp (Nat.lt_trans f64 (Nat.pow_lt_pow_right (by decide) (by decide)))
      rw [hqv] at dm
      refine q_tup2U (K := K) dm fun H6 e6 => ?_
      have hL6 := e6 a _ hL5
      have hF6 := e6 b _ (e5 b _ hF)
      refine s_appE hF6 (ev_var rfl) fun H7 e7 => ?_
      refine t_popAt (e7 a _ hL6) (ev_var rfl) fun H8 e8 => ?_
      refine (ev_var (i := 4) (v := .int ((qv : Nat) : Int)) rfl) H8 (Ex.refl _) _ fun H9 e9 => ?_
      have hL9 := e9 a _ (e8 a _ (e7 a _ hL6))
      have hF9 := e9 b _ (e8 b _ (e7 b _ hF6))
      have hj : qv < L.length := by omega
      refine ⟨a, nv L, _, qv, _, rfl, rfl, hL9, by omega, by omega, by rw [nv_len]; exact seq_at hj, nv_at hj, b, nv F, _, rfl, rfl, ?_, sz_lt (by rw [nv_len]; omega), ?_⟩
      · rw [upd_ne ab.symm]
        exact hF9
      · refine ⟨L.eraseIdx (qv), F ++ [L.getD (qv) 0], x % fac m', _, rfl, ?_, ?_, ?_, ?_, ?_, Nat.mod_lt _ fp, ?_⟩
        · rw [upd_ne ab, upd_same, nv_erase]
        · rw [upd_same, nv_app]
          rfl
        · exact Ex.mut (Ex.mut (e.trans (e5.trans (e6.trans (e7.trans (e8.trans e9))))) na0) nb0
        · rw [List.length_eraseIdx_of_lt hj]
          omega
        · rw [List.length_append, List.length_cons, List.length_nil]
          omega
        · rw [List.append_assoc]
          exact hr
    · have m0 : m = 0 := by
        cases L with
        | nil => exact hm.symm
        | cons z l => simp [nv, iz] at hb
      subst m0
      rw [nthS, List.append_nil] at hr
      subst hr
      exact s_ret (ev_var rfl) fun H6 e6 => k b H6 nb0 (e.trans (e5.trans e6)) (e6 b _ (e5 b _ hF))
theorem ok_seating_index (T : Tx K mg) : FnOk P w K mg base CX0 5 T.f_seating_index T.d_seating_index ["seating"] sp_seating_index := by
  refine T.F_seating_index.ok sc_seating_index (fun vs H Q E h => ?_) (fun cdv A outer s H vs Q E hr h => ?_)
  · obtain ⟨a, h, rfl, _⟩ := h
    rfl
  · obtain ⟨a, h, rfl, ha, o, k⟩ := h
    refine ⟨_, (pss_cons (ps_expr (pe_call (ok_check_seating T) (hr.mono (by decide)) (by rfl) T.g_check_seating T.F_check_seating.kp T.b_check_seating .nil pass0 (pa_cons (pv 0) pa_nil)))
      (pss_cons (ps_set (i := 1) sc_seating_index.nd rfl (Or.inl rfl) (pe_listRg rfl (by rfl) T.m_list (prg_1 (by rfl) T.m_range (pe_callB call_lenR (by rfl) T.m_len (by decide +kernel) (pa_cons (pv 0) pa_nil)))))
      (pss_cons (ps_set (i := 2) sc_seating_index.nd rfl (Or.inl rfl) pe_int)
      (pss_cons (ps_for PassesOwn.never rfl (pi_list (pv 0)) (pg_name (i := 3) sc_seating_index.nd rfl (Or.inl rfl)) (pss_cons (ps_set (i := 4) sc_seating_index.nd rfl (Or.inl rfl) (pe_bm PySem.F.plainAttrs_list PySem.F.slot_list_index PySem.F.type_list_index mt_index (pv 1) (pa_cons (pv 3) pa_nil)))
      (pss_cons (ps_set (i := 2) sc_seating_index.nd rfl (Or.inl rfl) (pe_op op_add (pe_op op_mulX (pv 2) (pe_callB call_lenR (by rfl) T.m_len (by decide +kernel) (pa_cons (pv 1) pa_nil))) (pv 4)))
      (pss_one (ps_expr (pe_bm PySem.F.plainAttrs_list PySem.F.slot_list_pop PySem.F.type_list_pop mt_popAt (pv 1) (pa_cons (pv 4) pa_nil)))))))
      (pss_one (ps_ret (pv 2))))))), ?_⟩
    have hl := nv_len h
    have h20 := o.2.2
    refine q_drop (ev_call (ea_cons (ev_var rfl) ea_nil) (sv_ord ha o)) fun H1 e1 => ?_
    have ha1 := e1 a _ ha
    refine q_asgL (xs := nv (List.range h.length)) ?_ fun b H2 nb e2 hb2 => ?_
    · have q := el_rg1 (σ := start n_seating_index [.ref a]) (H := H1) (tb := tCB (rLenS K) (tCons (tVar 0) tNil)) (b := (h.length : Int)) (ev_lenH rfl ha1) (RgOk.of_le (by decide) (by omega) (by decide) (by omega))
      rw [range_iz] at q
      exact q
    have nb0 := fresh_back e1 nb
    refine q_asg (v := .int 0) ev_c fun H3 e3 => ?_
    refine q_forLn (K := K) (a := a) (xs := nv h) (ev_var rfl) (sq_of (e3 a _ (e2 a _ ha1))) (fun j σ' H' => ∃ y3 y4, σ' = [some (.ref a), some (.ref b), some (.int (si h j : Int)), y3, y4] ∧ Ex H H' ∧ H' b = some (.lst (nv (fr h j)))) (fun H4 e4 => ⟨none, none, rfl, e1.trans (e2.trans (e3.trans e4)), e4 b _ (e3 b _ hb2)⟩) (fun j σ' H' _ ⟨_, _, _, e, _⟩ => sq_of (e a _ ha)) ?_ ?_
    · rintro j x σ' H' hx ⟨y3, y4, rfl, e, hb⟩
      rw [nv_eq, List.getElem?_map] at hx
      obtain ⟨z, hz, rfl⟩ := Option.map_eq_some_iff.mp hx
      have jl := (List.getElem?_eq_some_iff.mp hz).1
      have gz : h.getD j 0 = z := by rw [List.getD_eq_getElem?_getD, hz]; rfl
      have hm := fr_mem o jl
      have fl := fr_len o (show j ≤ h.length by omega)
      have hlt := List.idxOf_lt_length_of_mem hm
      have sb := Nat.lt_of_lt_of_le (si_fac o (show j ≤ h.length by omega)) (fac_mono h20)
      have s64 : si h j < 2 ^ 64 := Nat.lt_trans sb fac20
      have snx : si h (j + 1) = si h j * (fr h j).length + (fr h j).idxOf z := by rw [si, gz]
      have fnx : fr h (j + 1) = (fr h j).eraseIdx ((fr h j).idxOf z) := by rw [fr, gz]
      rw [gz] at hm hlt
      generalize fr h j = L at *
      refine q_asg (v := .int (L.idxOf z : Nat)) (ev_index hb (ev_var rfl) (ev_var rfl) hm) fun H4 e4 => ?_
      have hb4 := e4 b _ hb
      refine q_asg (v := .int (si h (j + 1) : Int)) (ev_is (ev_op (ev_op (ev_var rfl) (ev_lenH (h := L) rfl hb4) (rv_I (mulx_ok (a := 64) (b := 64) (by omega) (by omega) (by decide)))) (ev_var rfl) rv_I0) (congrArg V.int (by rw [snx]; simp))) fun H5 e5 => ?_
      refine s_dropBM (e5 b _ hb4) (ev_var rfl) fun H6 e6 => ?_
      refine (ea_cons (ev_var (i := 4) (v := .int ((L.idxOf z : Nat) : Int)) rfl) ea_nil) H6 (Ex.refl _) _ fun H7 e7 => ?_
      have hb7 := e7 b _ (e6 b _ (e5 b _ hb4))
      refine ⟨b, nv L, _, L.idxOf z, _, rfl, rfl, hb7, by omega, by omega, by rw [nv_len]; exact seq_at hlt, nv_at hlt, ?_⟩
      refine ⟨_, _, rfl, Ex.mut (e.trans (e4.trans (e5.trans (e6.trans e7)))) nb0, ?_⟩
      rw [upd_same, nv_erase, fnx]
    · rintro σ' H' ⟨y3, y4, rfl, e, hb⟩
      rw [hl]
      exact s_ret (ev_var rfl) fun H4 e4 => k _ (e.trans e4)
end
def siL : List Nat → List Nat → Nat → Nat
  | [], _, a => a
  | x :: h, L, a => siL h (L.eraseIdx (L.idxOf x)) (a * L.length + L.idxOf x)
theorem siL_nthS : ∀ (k : Nat) (L : List Nat) (i a : Nat), L.Nodup → L.length = k → i < fac k → siL (nthS k L i) L a = a * fac k + i
  | 0, L, i, a, _, _, h => by
    have : fac 0 = 1 := by decide +kernel
    show a = a * fac 0 + i
    rw [this]
    omega
  | k + 1, L, i, a, nd, hl, h => by
    have fp := fac_pos k
    rw [fac_succ] at h
    have hq : i / fac k < L.length := by
      rw [hl]
      exact (Nat.div_lt_iff_lt_mul fp).mpr (by rw [Nat.mul_comm]; exact h)
    have hx : L.getD (i / fac k) 0 = L[i / fac k] := by rw [List.getD_eq_getElem?_getD, List.getElem?_eq_getElem hq]; rfl
    rw [nthS, siL, hx, List.Nodup.idxOf_getElem nd _ hq, siL_nthS k _ _ _ (nd.sublist (List.eraseIdx_sublist _ _)) (by rw [List.length_eraseIdx_of_lt hq]; omega) (Nat.mod_lt _ fp), hl, fac_succ]
    have := Nat.div_add_mod i (fac k)
    grind
theorem si_siL {h : List Nat} : ∀ j, j ≤ h.length → siL (h.drop j) (fr h j) (si h j) = siL h (List.range h.length) 0
  | 0, _ => rfl
  | j + 1, hj => by
    rw [← si_siL j (by omega), List.drop_eq_getElem_cons (show j < h.length by omega), siL]
    have e : h.getD j 0 = h[j] := by rw [List.getD_eq_getElem?_getD, List.getElem?_eq_getElem (show j < h.length by omega)]; rfl
    rw [fr, si, e]
theorem nthS_len : ∀ (k : Nat) (L : List Nat) (i : Nat), (nthS k L i).length = k
  | 0, _, _ => rfl
  | k + 1, L, i => by rw [nthS, List.length_cons, nthS_len k]
theorem si_nthS {g i : Nat} (h : i < fac g) : si (nthS g (List.range g) i) g = i := by
  have a := si_siL (h := nthS g (List.range g) i) g (by rw [nthS_len]; exact Nat.le_refl _)
  rw [List.drop_eq_nil_of_le (by rw [nthS_len]; exact Nat.le_refl _), nthS_len, siL, siL_nthS g _ i 0 List.nodup_range List.length_range h, Nat.zero_mul, Nat.zero_add] at a
  exact a
theorem nthS_perm : ∀ (k : Nat) (L : List Nat) (i : Nat), L.length = k → i < fac k → (nthS k L i).Perm L
  | 0, L, i, hl, _ => by
    rw [List.length_eq_zero_iff.mp hl]
    exact List.Perm.refl _
  | k + 1, L, i, hl, h => by
    have fp := fac_pos k
    rw [fac_succ] at h
    have hq : i / fac k < L.length := by
      rw [hl]
      exact (Nat.div_lt_iff_lt_mul fp).mpr (by rw [Nat.mul_comm]; exact h)
    have hx : L.getD (i / fac k) 0 = L[i / fac k] := by rw [List.getD_eq_getElem?_getD, List.getElem?_eq_getElem hq]; rfl
    rw [nthS, hx]
    exact (List.Perm.cons _ (nthS_perm k _ _ (by rw [List.length_eraseIdx_of_lt hq]; omega) (Nat.mod_lt _ fp))).trans (erase_perm hq)
theorem ord_nthS {g i : Nat} (h1 : 1 ≤ g) (h2 : g ≤ 20) (h : i < fac g) : Ord (nthS g (List.range g) i) := by
  refine ⟨?_, by rw [nthS_len]; exact h1, by rw [nthS_len]; exact h2⟩
  rw [nthS_len]
  exact nthS_perm g _ i List.length_range h
theorem siL_add : ∀ (h L : List Nat) (a : Nat), h.length = L.length → (∀ x ∈ h, x ∈ L) → h.Nodup → siL h L a = a * fac h.length + siL h L 0
  | [], _, a, _, _, _ => by
    have : fac 0 = 1 := by decide +kernel
    show a = a * fac 0 + 0
    rw [this]
    omega
  | x :: h, L, a, hl, hm, nd => by
    have xm := hm x List.mem_cons_self
    have hlt := List.idxOf_lt_length_of_mem xm
    have le : (L.eraseIdx (L.idxOf x)).length = h.length := by
      rw [List.length_eraseIdx_of_lt hlt]
      rw [List.length_cons] at hl
      omega
    have nx : x ∉ h := (List.nodup_cons.mp nd).1
    have me : ∀ y ∈ h, y ∈ L.eraseIdx (L.idxOf x) := fun y hy => by
      have ep := erase_perm hlt
      rw [List.getElem_idxOf hlt] at ep
      have := ep.mem_iff.mpr (hm y (List.mem_cons_of_mem _ hy))
      rcases List.mem_cons.mp this with z | z
      · rw [z] at hy
        exact absurd hy nx
      · exact z
    rw [siL, siL, siL_add h _ (a * L.length + L.idxOf x) le.symm me (List.nodup_cons.mp nd).2, siL_add h _ (0 * L.length + L.idxOf x) le.symm me (List.nodup_cons.mp nd).2, List.length_cons, fac_succ, ← hl, List.length_cons]
    grind
theorem nthS_siL : ∀ (h L : List Nat), h.length = L.length → (∀ x ∈ h, x ∈ L) → h.Nodup → siL h L 0 < fac h.length ∧ nthS h.length L (siL h L 0) = h
  | [], _, _, _, _ => by
    refine ⟨?_, rfl⟩
    show 0 < fac 0
    decide +kernel
  | x :: h, L, hl, hm, nd => by
    have xm := hm x List.mem_cons_self
    have hlt := List.idxOf_lt_length_of_mem xm
    have le : (L.eraseIdx (L.idxOf x)).length = h.length := by
      rw [List.length_eraseIdx_of_lt hlt]
      rw [List.length_cons] at hl
      omega
    have nx : x ∉ h := (List.nodup_cons.mp nd).1
    have me : ∀ y ∈ h, y ∈ L.eraseIdx (L.idxOf x) := fun y hy => by
      have ep := erase_perm hlt
      rw [List.getElem_idxOf hlt] at ep
      have := ep.mem_iff.mpr (hm y (List.mem_cons_of_mem _ hy))
      rcases List.mem_cons.mp this with z | z
      · rw [z] at hy
        exact absurd hy nx
      · exact z
    obtain ⟨i1, i2⟩ := nthS_siL h _ le.symm me (List.nodup_cons.mp nd).2
    have e : siL (x :: h) L 0 = L.idxOf x * fac h.length + siL h (L.eraseIdx (L.idxOf x)) 0 := by
      rw [siL, siL_add h _ _ le.symm me (List.nodup_cons.mp nd).2, Nat.zero_mul, Nat.zero_add]
    have fp := fac_pos h.length
    have d : (L.idxOf x * fac h.length + siL h (L.eraseIdx (L.idxOf x)) 0) / fac h.length = L.idxOf x := by
      rw [Nat.add_comm, Nat.add_mul_div_right _ _ fp, Nat.div_eq_of_lt i1, Nat.zero_add]
    have m : (L.idxOf x * fac h.length + siL h (L.eraseIdx (L.idxOf x)) 0) % fac h.length = siL h (L.eraseIdx (L.idxOf x)) 0 := by
      rw [Nat.add_comm, Nat.add_mul_mod_self_right, Nat.mod_eq_of_lt i1]
    constructor
    · rw [e, List.length_cons, fac_succ, Nat.mul_comm (fac h.length)]
      have : (L.idxOf x + 1) * fac h.length ≤ (h.length + 1) * fac h.length := Nat.mul_le_mul_right _ (by rw [List.length_cons] at hl; omega)
      rw [Nat.add_mul, Nat.one_mul] at this
      omega
    · rw [e, List.length_cons, nthS, d, m, i2, List.getD_eq_getElem?_getD, List.getElem?_eq_getElem hlt]
      show L[L.idxOf x] :: h = x :: h
      rw [List.getElem_idxOf hlt]
theorem nthS_si {h : List Nat} (o : Ord h) : nthS h.length (List.range h.length) (si h h.length) = h := by
  have a := si_siL (h := h) h.length (Nat.le_refl _)
  rw [List.drop_eq_nil_of_le (Nat.le_refl _), siL] at a
  rw [a]
  have nd : h.Nodup := o.1.nodup_iff.mpr List.nodup_range
  exact (nthS_siL h (List.range h.length) List.length_range.symm (fun x hx => o.1.mem_iff.mp hx) nd).2


local macro_rules | `(tactic| walk_at "call") => `(tactic| (with_reducible exact sv_whole))
local macro_rules | `(tactic| walk_at "call") => `(tactic| ((with_reducible refine' sv_order ?c1 ?c2); (case c1 => assumption); (case c2 => assumption)))
local macro_rules | `(tactic| walk_at "call") => `(tactic| ((with_reducible refine' sv_ord ?c1 ?c2); (case c1 => assumption); (case c2 => assumption)))

local macro_rules | `(tactic| walk_at "call") => `(tactic| (with_reducible exact sv_whole))
local macro_rules | `(tactic| walk_at "call") => `(tactic| ((with_reducible refine' sv_ord ?c1 ?c2); (case c1 => assumption); (case c2 => assumption)))

local macro_rules | `(tactic| walk_at "call") => `(tactic| ((with_reducible refine' sv_pow ?c1 ?c2 ?c3); (case c1 => walk_at "side"); (case c2 => walk_at "side"); (case c3 => walk_at "side")))
local macro_rules | `(tactic| walk_at "call") => `(tactic| ((with_reducible refine' sv_rise ?c1 ?c2); (case c1 => walk_at "side"); (case c2 => walk_at "side")))
local macro_rules | `(tactic| walk_at "call") => `(tactic| (with_reducible exact sv_between))
local macro_rules | `(tactic| walk_at "call") => `(tactic| ((with_reducible refine' sv_check1 ?c1 ?c2); (case c1 => walk_at "side"); (case c2 => walk_at "side")))
local macro_rules | `(tactic| walk_at "call") => `(tactic| ((with_reducible refine' sv_check_number ?c1 ?c2); (case c1 => walk_at "side"); (case c2 => walk_at "side")))
local macro_rules | `(tactic| walk_at "callU") => `(tactic| ((with_reducible refine' su_fraction ?c1 ?c2); (case c1 => walk_at "side"); (case c2 => walk_at "side")))

/-! ### _law_entries -/
def EvPA (p : Addr) (k : Nat) (ta : TA) (σ : L2.St) (H0 : Hp) (C : List V → Prop) : Prop := ∀ n H1, Ex H0 H1 → Po p n H1 → n + k ≤ 1000000000 →
  ∀ Q : List V → Hp → Prop, (∀ vs H2, C vs → Po p (n + k) H2 → Ex (Hm p H1) H2 → Q vs H2) → ta σ H1 Q
section
variable {K : PySem.W.Frag} {σ : L2.St} {H0 H : Hp} {p : Addr} {k k1 k2 : Nat} {te ta tb : TE} {R Ra Rb : V → Hp → Prop} {tr : TA} {A : V → Prop} {B C : List V → Prop}
theorem epa_nil : EvPA p 0 tNil σ H0 (fun vs => vs = []) := fun n H1 e hp _ Q q => q [] H1 rfl hp (hm_of (Ex.refl _))
theorem epa_cons (h0 : H0 p = none) (h : EvP p k1 te σ H0 (fun v _ => A v)) (hr : EvPA p k2 tr σ H0 B) : EvPA p (k1 + k2) (tCons te tr) σ H0 (fun vs => ∃ v r, vs = v :: r ∧ A v ∧ B r) := fun n H1 e hp hn Q q =>
  h n H1 e hp (by omega) _ fun v H2 hv p2 e2 => hr (n + k1) H2 (hm_next h0 e e2) p2 (by omega) _ fun vs H3 hvs p3 e3 => q (v :: vs) H3 ⟨v, vs, rfl, hv, hvs⟩ (by rw [← Nat.add_assoc]; exact p3) (hm_trans e2 e3)
theorem epa_pure {v : V} (h0 : H0 p = none) (h : Ev te σ H0 v) (hr : EvPA p k2 tr σ H0 B) : EvPA p (0 + k2) (tCons te tr) σ H0 (fun vs => ∃ x r, vs = x :: r ∧ x = v ∧ B r) := epa_cons (A := fun x => x = v) h0 (ep_ev h) hr
theorem ep_lst (h : EvPA p k tr σ H0 C) (hs : ∀ vs, C vs → vs.length ≤ 100000) : EvP p k (tLst tr) σ H0 (fun x H => ∃ l vs, l ≠ p ∧ x = .ref l ∧ H l = some (.lst vs) ∧ C vs) := fun n H1 e hp hn Q q =>
  h n H1 e hp hn _ fun vs H2 c p2 e2 => ⟨sz_of (hs vs c), fun l hl => q _ _ ⟨l, vs, p2.ne hl, rfl, upd_same, c⟩ (p2.ex (Ex.new hl)) (hm_trans e2 (hm_of (Ex.new hl)))⟩
theorem stb_lst : Stb p (fun x H => ∃ l vs, l ≠ p ∧ x = .ref l ∧ H l = some (.lst vs) ∧ C vs) := fun v H H' ⟨l, vs, ne, e, h, c⟩ s => ⟨l, vs, ne, e, hm_at s ne h, c⟩
theorem ep_ix (h0 : H0 p = none) {ix : V → Prop} (ha : EvP p k1 (tLst tr) σ H0 (fun x H => ∃ l vs, l ≠ p ∧ x = .ref l ∧ H l = some (.lst vs) ∧ C vs)) (hb : EvP p k2 tb σ H0 (fun v _ => ix v)) (hat : ∀ vs v, C vs → ix v → ∃ i z, v = .int i ∧ atI vs i = some z ∧ A z) :
    EvP p (k1 + k2) (tOp (rIxL K) (tLst tr) tb) σ H0 (fun v _ => A v) := ep_op h0 ha hb stb_lst stb_c fun x y H hx hy => by
  obtain ⟨l, vs, ne, rfl, hl, c⟩ := hx
  obtain ⟨i, z, rfl, hz, az⟩ := hat vs y c hy
  exact ⟨z, az, rv_ixL (sq_of hl) hz⟩
theorem ep_isZ (h0 : H0 p = none) (h : EvP p k te σ H0 (fun v _ => ∃ r, v = .int r ∧ 0 ≤ r)) : EvP p (k + 0) (tCB rIntB (tCons (tOp rEq te (tC (.int 0))) tNil)) σ H0 (fun v _ => v = .int 0 ∨ v = .int 1) := fun n H1 e hp hn Q q =>
  (ep_op (k1 := k) (k2 := 0) (R := fun v _ => ∃ b, v = .bl b) h0 h (ep_ev (v := .int 0) ev_c) stb_c stb_c fun x y H ⟨r, e1, _⟩ e2 => ⟨.bl (decide (x = y)), ⟨_, rfl⟩, by
    subst e1
    subst e2
    exact rv_eq rfl⟩) n H1 e hp hn _ fun v H2 ⟨b, hb⟩ p2 e2 => ⟨b, by rw [hb], q _ H2 (by cases b <;> simp) p2 e2⟩
theorem pq_parL {n i j : Nat} {D : Ends} {tz : TS} {ys : List V} (h : EvP p k ta σ H0 R) (e : Ex H0 H) (hp : Po p n H) (hn : n + k ≤ 1000000000) (hb : ∀ H1, EvL tb σ H1 ys) (q : ∀ v l H2 H3, R v H2 → H2 l = none → Ex H2 H3 → H3 l = some (.lst ys) → Po p (n + k) H3 → Ex (Hm p H) H2 → tz D ((σ.set i (some v)).set j (some (.ref l))) H3) :
    tSeq (tPar i j (tCons ta (tCons tb tNil))) tz D σ H := h n H e hp hn _ fun v H2 hv p2 e2 => hb H2 H2 (Ex.refl _) _ fun l H3 hl e3 h3 => ⟨_, _, rfl, q v l H2 H3 hv hl e3 h3 (p2.ex e3) e2⟩
end
def sp_law_entries : Sp := fun vs H Q _ => ∃ (p : Addr) (n m : Nat), vs = [.ref p, .int (m : Int)] ∧ Po p n H ∧ n + 3 * m + 1 < 1000000000 ∧ m ≤ 20 ∧
  ∀ l f H', H l = none → H' l = some (.lst (nv f)) → f.length = m → (∀ (i x : Nat), f[i]? = some x → x ≤ i) → Po p (n + 3 * m + 1) H' → Ex (Hm p H) H' → Q (.ref l) H'
section
variable {P : Program} {w : World} {K : PySem.W.Frag} {mg : Str → Option Value} {base : Heap}
theorem ok_law_entries (T : Tx K mg) : FnOk P w K mg base CX0 2 T.f_law_entries T.d_law_entries ["pouch", "many"] sp_law_entries := by
  refine T.F_law_entries.ok sc_law_entries (fun vs H Q E h => ?_) (fun cdv A outer s H vs Q E hr h => ?_)
  · obtain ⟨p, n, m, rfl, _⟩ := h
    rfl
  · obtain ⟨p, n, m, rfl, hpo, hn, hm, k⟩ := h
    refine ⟨_, (pss_cons (ps_par (i := 2) (j := 3) (by rfl) sc_law_entries.nd rfl rfl (by decide) rfl rfl (pa_cons (pe_call (ok_law_dip T) (hr.mono (by decide)) (by rfl) T.g_law_dip T.F_law_dip.kp T.b_law_dip .nil pass0 (pa_cons (pv 0) (pa_cons pe_int pa_nil))) (pa_cons (pe_lst pa_nil) pa_nil)) (by rfl))
      (pss_cons (ps_for PassesOwn.never rfl (pi_range1 (by rfl) T.m_range (pa_cons (pv 1) pa_nil)) (pg_name (i := 4) sc_law_entries.nd rfl (Or.inl rfl)) (pss_cons (ps_set (i := 5) sc_law_entries.nd rfl (Or.inl rfl) (pe_lst (pa_cons (pv 4) (pa_cons pe_int (pa_cons (pe_call (ok_law_dip T) (hr.mono (by decide)) (by rfl) T.g_law_dip T.F_law_dip.kp T.b_law_dip .nil pass0 (pa_cons (pv 0) (pa_cons (pe_op op_add (pv 4) pe_int) pa_nil))) (pa_cons (pe_callB (call_maxR rfl) (by rfl) T.m_max (by decide +kernel) (pa_cons pe_int (pa_cons (pe_op op_sub (pv 4) pe_int) pa_nil))) pa_nil))))))
      (pss_cons (ps_set (i := 6) sc_law_entries.nd rfl (Or.inl rfl) (pe_ix ix_list (pe_lst (pa_cons (pe_call (ok_law_dip T) (hr.mono (by decide)) (by rfl) T.g_law_dip T.F_law_dip.kp T.b_law_dip .nil pass0 (pa_cons (pv 0) (pa_cons pe_int pa_nil))) (pa_cons pe_int (pa_cons pe_int (pa_cons pe_int (pa_cons pe_int (pa_cons (pe_ix ix_list (pe_lst (pa_cons pe_int (pa_cons pe_int pa_nil))) (pe_callTy call_intB (by rfl) T.m_int (by decide +kernel) (pa_cons (pe_cmpR op_eq (pe_call (ok_law_dip T) (hr.mono (by decide)) (by rfl) T.g_law_dip T.F_law_dip.kp T.b_law_dip .nil pass0 (pa_cons (pv 0) (pa_cons pe_int pa_nil))) pe_int (nomark _)) pa_nil)) (fun _ _ => rfl)) pa_nil))))))) (pv 2) (fun _ _ => rfl)))
      (pss_one (ps_expr (pe_bm PySem.F.plainAttrs_list PySem.F.slot_list_append PySem.F.type_list_append mt_append (pv 3) (pa_cons (pe_ix ix_list (pv 5) (pv 6) (fun _ _ => rfl)) pa_nil)))))))
      (pss_one (ps_ret (pv 3))))), ?_⟩
    have hp0 : Hm p H p = none := hm_p
    refine pq_parL (p := p) (k := 1) (H0 := Hm p H) (ys := []) (ep_dipI (w := 6) hm_p (ev_var rfl) ev_c (by decide) (by decide)) hm_sub hpo (by omega) (fun H1 => el_lst ea_nil (Nat.le_of_ble_eq_true rfl)) ?_
    rintro v b H1 H2 ⟨st, rfl, s0, s1⟩ hb1 e2 hb2 p2 e1
    have hbp : b ≠ p := fun z => by
      subst z
      obtain ⟨x, y, z, q, _⟩ := p2
      rw [hb2] at q
      cases q
    have hb : H b = none := by
      have := fresh_back e1 hb1
      unfold Hm at this
      rw [if_neg hbp] at this
      exact this
    have e02 : Ex (Hm p H) H2 := e1.trans e2
    refine q_forR1 (n := (m : Int)) (by walk_at "ea") (by omega) (fun i σ' H' => ∃ (F : List Nat) (y4 y5 y6 : Option V), σ' = [some (.ref p), some (.int m), some (.int st), some (.ref b), y4, y5, y6] ∧ H' b = some (.lst (nv F)) ∧ F.length = i ∧ (∀ (j x : Nat), F[j]? = some x → x ≤ j) ∧ Po p (n + 3 * i + 1) H' ∧ Ex (Hm p H) H')
      (fun H3 e3 => ⟨[], none, none, none, rfl, e3 b _ hb2, rfl, by simp, p2.ex e3, hm_trans e02 (hm_of e3)⟩) ?_ ?_
    · rintro i σ' H' hi ⟨F, y4, y5, y6, rfl, hF, hFl, hFx, p3, e3⟩
      have him : i < m := by omega
      refine pq_asg (p := p) (k := 0 + (0 + (1 + (0 + 0)))) (H0 := Hm p H') (R := fun x H => ∃ l vs, l ≠ p ∧ x = .ref l ∧ H l = some (.lst vs) ∧ ∃ c d : Nat, vs = [.int (i : Nat), .int 0, .int c, .int d] ∧ c ≤ i ∧ d ≤ i) (ep_is (ep_lst (epa_pure (v := .int (i : Nat)) hm_p (ev_var rfl) (epa_pure hm_p ev_c (epa_cons (A := fun v => ∃ c : Nat, v = .int c ∧ c ≤ i) hm_p (ep_is (ep_dipI (w := (i : Int) + 1) hm_p (ev_var rfl) (by walk_at "ev") (by omega) (by omega)) ?_) (epa_pure (v := .int ((i - 1 : Nat) : Int)) hm_p ?_ epa_nil)))) ?_) ?_) hm_sub p3 (by omega) ?_
      · rintro v _ ⟨r, rfl, r0, r1⟩
        exact ⟨r.toNat, by congr 1; omega, by omega⟩
      · refine ev_is (ev_max2 (i := 0) (j := (i : Int) - 1) ev_c (by walk_at "ev")) ?_
        congr 1
        split <;> omega
      · rintro vs ⟨_, _, rfl, _, _, _, rfl, _, _, _, rfl, _, _, _, rfl, _, rfl⟩
        exact Nat.le_of_ble_eq_true rfl
      · rintro v H4 ⟨l, vs, ne, rfl, hl, _, _, rfl, rfl, _, _, rfl, rfl, _, _, rfl, ⟨c, rfl, hc⟩, _, _, rfl, rfl, rfl⟩
        exact ⟨l, _, ne, rfl, hl, c, i - 1, rfl, hc, by omega⟩
      rintro v H4 ⟨l, vs, lp, rfl, hl, c, d, rfl, hc, hd⟩ p4 e4
      refine pq_asg (p := p) (k := (1 + (0 + (0 + (0 + (0 + ((0 + (0 + 0)) + (1 + 0) + 0)))))) + 0) (H0 := Hm p H4) (R := fun v _ => ∃ r : Nat, v = .int r ∧ r < 4) (ep_ix (ix := fun v => v = .int st) (C := fun vs => ∃ a b : Nat, vs = [.int a, .int 2, .int 0, .int 1, .int 3, .int b] ∧ a < 4 ∧ b < 4) hm_p (ep_is (ep_lst (epa_cons (A := fun v => ∃ c : Nat, v = .int c ∧ c < 4) hm_p (ep_is (ep_dipI (w := 4) hm_p (ev_var rfl) ev_c (by decide) (by decide)) ?_) (epa_pure hm_p ev_c (epa_pure hm_p ev_c (epa_pure hm_p ev_c (epa_pure hm_p ev_c (epa_cons (A := fun v => ∃ c : Nat, v = .int c ∧ c < 4) hm_p (ep_ix (ix := fun v => v = .int 0 ∨ v = .int 1) hm_p (ep_lst (epa_pure hm_p ev_c (epa_pure hm_p ev_c epa_nil)) ?_) (ep_isZ hm_p (ep_is (ep_dipI (w := 3) hm_p (ev_var rfl) ev_c (by decide) (by decide)) ?_)) ?_) epa_nil)))))) ?_) ?_) (ep_ev (ev_var rfl)) ?_) hm_sub p4 (by omega) ?_
      · rintro v _ ⟨r, rfl, r0, r1⟩
        exact ⟨r.toNat, by congr 1; omega, by omega⟩
      · rintro vs ⟨_, _, rfl, _, _, _, rfl, _, rfl⟩
        exact Nat.le_of_ble_eq_true rfl
      · rintro v _ ⟨r, rfl, r0, r1⟩
        exact ⟨r, rfl, r0⟩
      · rintro vs v ⟨_, _, rfl, rfl, _, _, rfl, rfl, rfl⟩ (rfl | rfl)
        · exact ⟨0, .int 2, rfl, rfl, 2, rfl, by decide⟩
        · exact ⟨1, .int 0, rfl, rfl, 0, rfl, by decide⟩
      · rintro vs ⟨_, _, rfl, _, _, _, rfl, _, _, _, rfl, _, _, _, rfl, _, _, _, rfl, _, _, _, rfl, _, rfl⟩
        exact Nat.le_of_ble_eq_true rfl
      · rintro v H5 ⟨l, vs, ne, rfl, hl, _, _, rfl, ⟨a, rfl, ha⟩, _, _, rfl, rfl, _, _, rfl, rfl, _, _, rfl, rfl, _, _, rfl, rfl, _, _, rfl, ⟨b, rfl, hb⟩, rfl⟩
        exact ⟨l, _, ne, rfl, hl, a, b, rfl, ha, hb⟩
      · rintro vs v ⟨a, b, rfl, ha, hb⟩ rfl
        have : st = 0 ∨ st = 1 ∨ st = 2 ∨ st = 3 ∨ st = 4 ∨ st = 5 := by omega
        rcases this with rfl | rfl | rfl | rfl | rfl | rfl
        · exact ⟨0, .int a, rfl, rfl, a, rfl, ha⟩
        · exact ⟨1, .int 2, rfl, rfl, 2, rfl, by decide⟩
        · exact ⟨2, .int 0, rfl, rfl, 0, rfl, by decide⟩
        · exact ⟨3, .int 1, rfl, rfl, 1, rfl, by decide⟩
        · exact ⟨4, .int 3, rfl, rfl, 3, rfl, by decide⟩
        · exact ⟨5, .int b, rfl, rfl, b, rfl, hb⟩
      rintro v H5 ⟨r, rfl, hr4⟩ p5 e5
      have hl5 := hm_at e5 lp hl
      have hF5 := hm_at e5 hbp (hm_at e4 hbp hF)
      obtain ⟨x, hx, hxi⟩ : ∃ x : Nat, atI [V.int (i : Nat), .int 0, .int c, .int d] (r : Int) = some (.int x) ∧ x ≤ i := by
        have : r = 0 ∨ r = 1 ∨ r = 2 ∨ r = 3 := by omega
        rcases this with rfl | rfl | rfl | rfl
        · exact ⟨i, rfl, Nat.le_refl _⟩
        · exact ⟨0, rfl, Nat.zero_le _⟩
        · exact ⟨c, rfl, hc⟩
        · exact ⟨d, rfl, hd⟩
      refine s_app hF5 (ev_var rfl) (ev_op (ev_var rfl) (ev_var rfl) (rv_ixL (K := K) (sq_of hl5) hx)) (by rw [nv_len]; omega) fun H6 e6 => ?_
      have e36 := hm_trans (hm_trans (hm_trans e3 e4) e5) (hm_of e6)
      refine ⟨F ++ [x], _, _, _, rfl, by rw [upd_same, nv_app]; rfl, by simp [hFl], fun j y hy => ?_, ?_, Ex.mut e36 (by unfold Hm; rw [if_neg hbp]; exact hb)⟩
      · by_cases hj : j < F.length
        · rw [List.getElem?_append_left hj] at hy
          exact hFx j y hy
        · rw [List.getElem?_append_right (by omega)] at hy
          have : j - F.length = 0 := by
            have := (List.getElem?_eq_some_iff.mp hy).1
            simp at this
            omega
          rw [this] at hy
          have : x = y := Option.some.inj hy
          omega
      · obtain ⟨x, y, z, q1, q2⟩ := (p5.ex e6).mono (m := n + 3 * (i + 1) + 1) (by omega)
        exact ⟨x, y, z, by rw [upd_ne (Ne.symm hbp)]; exact q1, q2⟩
    · rintro σ' H' ⟨F, y4, y5, y6, rfl, hF, hFl, hFx, p3, e3⟩
      have em : ((m : Int)).toNat = m := Int.toNat_natCast m
      rw [em] at hFl p3
      exact s_ret (ev_var (i := 3) rfl) fun H4 e4 => k b F H4 hb (e4 b _ hF) hFl hFx (p3.ex e4) (hm_trans e3 (hm_of e4))
end

theorem mid_at {α : Type} (g : α → α) (l : List α) {j : Nat} {x : α} (h : l[j]? = some x) : ((l.take j).map g ++ l.drop j)[j]? = some x := by
  have hj := (List.getElem?_eq_some_iff.mp h).1
  rw [List.getElem?_append_right (by simp; omega)]
  simp [List.length_take, Nat.min_eq_left (Nat.le_of_lt hj), h]
theorem mid_set {α : Type} (g : α → α) (l : List α) {j : Nat} {x : α} (h : l[j]? = some x) : ((l.take j).map g ++ l.drop j).set j (g x) = (l.take (j + 1)).map g ++ l.drop (j + 1) := by
  obtain ⟨hj, e⟩ := List.getElem?_eq_some_iff.mp h
  rw [List.set_append_right _ _ (by simp; omega), take_next h, List.map_append, List.drop_eq_getElem_cons hj, e]
  simp [List.length_take, Nat.min_eq_left (Nat.le_of_lt hj)]
theorem set_same {α : Type} {l : List α} {j : Nat} {x : α} (h : l[j]? = some x) : l.set j x = l := by
  refine List.ext_getElem? fun i => ?_
  by_cases e : i = j
  · subst e
    rw [List.getElem?_set_self (List.getElem?_eq_some_iff.mp h).1, h]
  · rw [List.getElem?_set_ne (Ne.symm e)]
theorem mid_same {α : Type} (g : α → α) (l : List α) {j : Nat} {x : α} (h : l[j]? = some x) (e : g x = x) : (l.take j).map g ++ l.drop j = (l.take (j + 1)).map g ++ l.drop (j + 1) := by
  have := mid_set g l h
  rw [e] at this
  rw [← this]
  exact (set_same (mid_at g l h)).symm
def sp_law_rings : Sp := fun vs H Q _ => ∃ (a : Addr) (e : List Nat), vs = [.ref a] ∧ H a = some (.lst (nv e)) ∧ e.length ≤ 20 ∧ (∀ (i x : Nat), e[i]? = some x → x ≤ i) ∧
  ∀ l bs H', LL H l H' bs (ringsTo e e.length) → Ex H H' → Q (.ref l) H'
section
variable {P : Program} {w : World} {K : PySem.W.Frag} {mg : Str → Option Value} {base : Heap}
theorem ok_law_rings (T : Tx K mg) : FnOk P w K mg base CX0 1 T.f_law_rings T.d_law_rings ["entries"] sp_law_rings := by
  refine T.F_law_rings.ok sc_law_rings (fun vs H Q E h => ?_) (fun cdv A outer s H vs Q E hr h => ?_)
  · obtain ⟨a, e, rfl, _⟩ := h
    rfl
  · obtain ⟨a, f, rfl, ha, hn, hx, k⟩ := h
    refine ⟨_, (pss_cons (ps_set (i := 1) sc_law_rings.nd rfl (Or.inl rfl) (pe_lst pa_nil))
      (pss_cons (ps_for PassesOwn.never rfl (pi_enum (by rfl) T.m_enumerate (pa_cons (pv 0) pa_nil)) (pg_tup rfl (pgs_cons (pg_name (i := 2) sc_law_rings.nd rfl (Or.inl rfl)) (pgs_cons (pg_name (i := 3) sc_law_rings.nd rfl (Or.inl rfl)) pgs_nil))) (pss_cons (ps_if (pt_cmpR op_eq (pv 2) (pv 3) (nomark _)) (pss_one (ps_expr (pe_bm PySem.F.plainAttrs_list PySem.F.slot_list_append PySem.F.type_list_append mt_append (pv 1) (pa_cons (pe_lst (pa_cons (pv 2) pa_nil)) pa_nil)))) pss_nil)
      (pss_one (ps_for PassesOwn.never rfl (pi_list (pv 1)) (pg_name (i := 4) sc_law_rings.nd rfl (Or.inl rfl)) (pss_one (ps_if (PW.pt (pw_and (pt_cmpR op_in_seq (pv 3) (pv 4) (by rfl)) (pw_and1 (pt_cmpR op_ne (pv 3) (pv 2) (nomark _))))) (pss_one (ps_expr (pe_bm PySem.F.plainAttrs_list PySem.F.slot_list_insert PySem.F.type_list_insert mt_insert (pv 4) (pa_cons (pe_op op_add (pe_bm PySem.F.plainAttrs_list PySem.F.slot_list_index PySem.F.type_list_index mt_index (pv 4) (pa_cons (pv 3) pa_nil)) pe_int) (pa_cons (pv 2) pa_nil))))) pss_nil))))))
      (pss_one (ps_ret (pv 1))))), ?_⟩
    refine q_asgL (xs := []) (el_lst ea_nil (Nat.le_of_ble_eq_true rfl)) fun p H1 hp e1 h1 => ?_
    refine q_forEn (xs := nv f) (K := K) (by walk_at "ea") (sq_of (e1 a _ ha)) (fun m σ' H' => ∃ (bs : List Addr) (y2 y3 y4 : Option V), σ' = [some (.ref a), some (.ref p), y2, y3, y4] ∧ Ex H H' ∧ LL H p H' bs (ringsTo f m))
      (fun H2 e2 => ⟨[], none, none, none, rfl, e1.trans e2, LL.nil (e2 p _ h1) hp⟩) (fun m σ' H' _ ⟨_, _, _, _, _, e, _⟩ => sq_of (e a _ ha)) ?_ ?_
    · rintro m v σ' H' H2 hv ⟨bs, y2, y3, y4, rfl, e, L⟩ e2
      have hml : m < f.length := by
        have := (List.getElem?_eq_some_iff.mp hv).1
        rw [nv_len] at this
        exact this
      obtain ⟨x, hfx⟩ : ∃ x, f[m]? = some x := ⟨f[m], List.getElem?_eq_getElem hml⟩
      have ev : v = .int (x : Int) := by
        have := nv_get hfx
        rw [hv] at this
        exact Option.some.inj this
      subst ev
      have gx : f.getD m 0 = x := by
        rw [List.getD_eq_getElem?_getD, hfx]
        rfl
      have hxm := hx m x hfx
      have R := ringsTo_ok hx m (by omega)
      have L2 := L.ex e2
      have hz : (ringsTo f m).length ≤ m := by
        have : ∀ l : List (List Nat), (∀ r ∈ l, 0 < r.length) → l.length ≤ l.flatten.length := fun l => by
          induction l with
          | nil => intro _; simp
          | cons r l ih =>
            intro hl
            have := ih fun x hx => hl x (by simp [hx])
            have := hl r (by simp)
            rw [List.flatten_cons, List.length_append, List.length_cons]
            omega
        have h2 := this _ R.ne
        rw [R.all.length_eq, List.length_range] at h2
        exact h2
      have short : ∀ r ∈ ringsTo f m, r.length ≤ m := fun r hr => by
        have := List.Sublist.length_le (List.sublist_flatten_of_mem hr)
        rw [R.all.length_eq, List.length_range] at this
        exact this
      -- what is left: the inner loop
      have inner : ∀ (rs1 : List (List Nat)) (bs1 : List Addr) (H3 : Hp) (D : Ends), rs1 = (if m = x then ringsTo f m ++ [[m]] else ringsTo f m) → Ex H H3 → LL H p H3 bs1 rs1 → (∀ r ∈ rs1, r.length ≤ 20) → rs1.length ≤ 21 →
          (∀ σ4 H4, (∃ (bs : List Addr) (y2 y3 y4 : Option V), σ4 = [some (.ref a), some (.ref p), y2, y3, y4] ∧ Ex H H4 ∧ LL H p H4 bs (ringsTo f (m + 1))) → D.nx σ4 H4) →
          tFor (iList K (tVar 1)) (gName 4) (tIfS (tAnd (tTest (tOp (rIn K false) (tVar 3) (tVar 4))) (tTest (tOp rNe (tVar 3) (tVar 2)))) (tDrop (tBM K "list" (fun x vs H Q => ∃ (l : Addr) (xs : List V) (i : Int) (y : V), x = .ref l ∧ vs = [.int i, y] ∧ H l = some (.lst xs) ∧ xs.length < sizeLine ∧ 0 ≤ i ∧ i < 2 ^ 63 ∧
    Q .non (upd H l (.lst (xs.take i.toNat ++ [y] ++ xs.drop i.toNat)))) (tVar 4) (tCons (tOp (rI0 fun i j => .int (i + j)) (tBM K "list" (rIndex K) (tVar 4) (tCons (tVar 3) tNil)) (tC (.int 1))) (tCons (tVar 2) tNil)))) tNext) D [some (.ref a), some (.ref p), some (.int (m : Int)), some (.int (x : Int)), y4] H3 := fun rs1 bs1 H3 D hr1 e3 L3 sh1 sl1 hD => by
        have hbl : bs1.length = rs1.length := L3.len
        refine s_forLn (xs := bs1.map V.ref) (K := K) (ev_var rfl) (sq_of L3.self) (fun j σ' H' => ∃ (y4 : Option V), σ' = [some (.ref a), some (.ref p), some (.int (m : Int)), some (.int (x : Int)), y4] ∧ Ex H H' ∧ LL H p H' bs1 ((rs1.take j).map (insr x m) ++ rs1.drop j))
          (fun H4 e4 => ⟨y4, rfl, e3.trans e4, by simpa using L3.ex e4⟩) (fun j σ' H' _ ⟨_, _, _, L⟩ => sq_of L.self) ?_ ?_
        · rintro j v σ' H4 hv ⟨y4, rfl, e4, L4⟩
          rw [List.getElem?_map] at hv
          obtain ⟨b, hb, rfl⟩ := Option.map_eq_some_iff.mp hv
          have hj : j < rs1.length := by
            have := (List.getElem?_eq_some_iff.mp hb).1
            omega
          obtain ⟨r, hr⟩ : ∃ r, rs1[j]? = some r := ⟨rs1[j], List.getElem?_eq_getElem hj⟩
          have hrb := L4.at_ j b r hb (mid_at _ _ hr)
          have hb0 : H b = none := L4.fr b (List.mem_of_getElem? hb)
          have shr := sh1 r (List.mem_of_getElem? hr)
          refine s_if (b := decide (x ∈ r) && !decide (V.int (x : Int) = V.int (m : Int))) (et_and (et_test (ev_is (ev_op (ev_var rfl) (ev_var rfl) (rv_isL (K := K) (sq_of hrb) rfl (nv_flat r))) (by rw [nv_in]))) fun _ => et_test (ev_op (ev_var rfl) (ev_var rfl) (rv_ne rfl))) (fun hc H5 e5 => ?_) (fun hc H5 e5 => ?_)
          · rw [Bool.and_eq_true, decide_eq_true_iff] at hc
            have hne : x ≠ m := fun z => by
              rw [z] at hc
              simp at hc
            have hr5 := e5 b _ hrb
            refine s_dropBM hr5 (ev_var rfl) fun H6 e6 => ?_
            have hr6 := e6 b _ hr5
            refine (ea_cons (ev_op (ev_index (K := K) (ta := tVar 4) (te := tVar 3) (σ := [some (.ref a), some (.ref p), some (.int (m : Int)), some (.int (x : Int)), some (.ref b)]) hr6 (ev_var rfl) (ev_var rfl) hc.1) (ev_c (v := .int 1)) (rv_I0 (g := fun i j => .int (i + j)))) (ea_cons (ev_var (i := 2) rfl) ea_nil)) H6 (Ex.refl _) _ fun H7 e7 => ?_
            refine ⟨b, nv r, _, _, rfl, rfl, e7 b _ hr6, sz_lt (by rw [nv_len]; omega), by omega, by
              have := List.idxOf_lt_length_of_mem hc.1
              omega, ?_⟩
            have L7 := ((L4.ex e5).ex e6).ex e7
            refine ⟨_, rfl, Ex.mut (e4.trans (e5.trans (e6.trans e7))) hb0, ?_⟩
            have g := L7.put (r := insr x m r) hb
            rw [mid_set _ _ hr] at g
            have ei : nv (insr x m r) = (nv r).take ((r.idxOf x : Int) + 1).toNat ++ [.int (m : Int)] ++ (nv r).drop ((r.idxOf x : Int) + 1).toNat := by
              unfold insr
              rw [if_pos ⟨hc.1, hne⟩, nv_app, nv_app]
              have : ((r.idxOf x : Int) + 1).toNat = r.idxOf x + 1 := by omega
              rw [this]
              rw [nv_eq, nv_eq, nv_eq, nv_eq, List.map_take, List.map_drop]
              rfl
            rw [← ei]
            exact g
          · have same : insr x m r = r := by
              unfold insr
              refine if_neg fun q => ?_
              rw [decide_eq_true q.1] at hc
              have : V.int (x : Int) ≠ V.int (m : Int) := fun z => q.2 (by
                have := V.int.inj z
                omega)
              rw [decide_eq_false this] at hc
              exact Bool.noConfusion hc
            refine ⟨_, rfl, e4.trans e5, ?_⟩
            rw [← mid_same _ _ hr same]
            exact L4.ex e5
        · rintro σ' H4 ⟨y4, rfl, e4, L4⟩
          refine hD _ _ ⟨bs1, _, _, _, rfl, e4, ?_⟩
          rw [List.length_map, hbl, List.take_of_length_le (Nat.le_refl _), List.drop_of_length_le (Nat.le_refl _), List.append_nil] at L4
          show LL H p H4 bs1 (rstep (ringsTo f m) m (f.getD m 0))
          rw [gx]
          unfold rstep
          rw [← hr1]
          exact L4
      refine q_when (b := decide (V.int (m : Int) = V.int (x : Int))) (et_test (ev_op (ev_var rfl) (ev_var rfl) (rv_eq rfl))) (fun hc H3 e3 => ?_) (fun hc H3 e3 => ?_)
      · have hmx : m = x := by
          have := V.int.inj (of_decide_eq_true hc)
          omega
        refine s_appL (e3 p _ L2.self) (ev_var rfl) (by walk_at "el") (by rw [List.length_map, L2.len]; omega) fun q H4 hq e4 h4 => ?_
        refine inner (ringsTo f m ++ [[m]]) (bs ++ [q]) _ _ (by rw [if_pos hmx]) (Ex.mut ((e.trans e2).trans (e3.trans e4)) hp) ((L2.ex e3).push ((e.trans e2).trans e3) e4 hq h4) (fun r hr => ?_) (by simp; omega) (fun _ _ q => q)
        rcases List.mem_append.mp hr with z | z
        · have := short r z
          omega
        · rw [List.mem_singleton.mp z]; simp
      · have hmx : ¬ m = x := fun z => by
          rw [z] at hc
          simp at hc
        exact inner (ringsTo f m) bs _ _ (by rw [if_neg hmx]) ((e.trans e2).trans e3) (L2.ex e3) (fun r hr => by have := short r hr; omega) (by omega) (fun _ _ q => q)
    · rintro σ' H' ⟨bs, y2, y3, y4, rfl, e, L⟩
      rw [nv_len] at L
      exact s_ret (ev_var rfl) fun H2 e2 => k p bs H2 (L.ex e2) (e.trans e2)
end

/-! ### _law_seat -/
def rLenK : List V → Hp → VK → Prop := fun xs H Q => ∃ a kvs, xs = [V.ref a] ∧ H a = some (.dK kvs) ∧ Q (.int kvs.length) H
theorem call_lenK {X : Cx} : CallR X (.builtin "len") rLenK := call_lenD
section
variable {K : PySem.W.Frag} {σ : L2.St} {H : Hp} {ta tb te : TE} {D : Ends} {tz : TS}
theorem ev_lenK {a : Addr} {kvs : List (Key × V)} (h : Ev ta σ H (.ref a)) (ha : H a = some (.dK kvs)) : Ev (tCB rLenK (tCons ta tNil)) σ H (.int (kvs.length : Int)) := fun H1 e Q q => h H1 e _ fun H2 e2 => ⟨a, kvs, rfl, e2 a _ (e a _ ha), q H2 e2⟩
theorem ev_dgetI {a : Addr} {kvs : List (Key × V)} {x : Int} {v : V} (h : Ev ta σ H (.ref a)) (hx : Ev tb σ H (.int x)) (ha : H a = some (.dK kvs)) (hv : valV kvs (.inl x) = some v) : Ev (tDGet ta tb) σ H v := fun H1 e Q q =>
  h H1 e _ fun H2 e2 => hx H2 (e.trans e2) _ fun H3 e3 => ⟨a, v, rfl, by
    have := DGet.k (k := .inl x) (e3 a _ (e2 a _ (e a _ ha)))
    rw [hv] at this
    exact this, q H3 (e2.trans e3)⟩
theorem s_dputI {a : Addr} {kvs : List (Key × V)} {x : Int} {v : V} (h : Ev ta σ H (.ref a)) (hx : Ev tb σ H (.int x)) (hv : Ev te σ H v) (ha : H a = some (.dK kvs)) (hl : kvs.length < 100000) (k : ∀ H1, Ex H H1 → D.nx σ (upd H1 a (.dK (putK kvs (.inl x) v)))) : sDPut ta tb te D σ H :=
  hv H (Ex.refl _) _ fun H1 e1 => h H1 e1 _ fun H2 e2 => hx H2 (e1.trans e2) _ fun H3 e3 => ⟨a, _, rfl, DPut.k (k := .inl x) (e3 a _ (e2 a _ (e1 a _ ha))) (sz_lt hl), k H3 (e1.trans (e2.trans e3))⟩
theorem q_dnewK {i : Nat} (k : ∀ p H1, H p = none → Ex H H1 → H1 p = some (.dK []) → tz D (σ.set i (some (.ref p))) H1) : tSeq (tAsg tDNewK (gName i)) tz D σ H := fun p hp => k p _ hp (Ex.new hp) upd_same
end
/-- a list at b -/
def Lb (H : Hp) (v : V) (r : List Nat) : Prop := ∃ b, v = .ref b ∧ H b = some (.lst (nv r))
theorem Lb.ex {H H' : Hp} {v : V} {r : List Nat} (e : Ex H H') (h : Lb H v r) : Lb H' v r := by
  obtain ⟨b, rfl, h⟩ := h
  exact ⟨b, rfl, e b _ h⟩
def prev (r : List Nat) (j : Nat) : Nat := r.getD ((j + (r.length - 1)) % r.length) 0
theorem prev_at {r : List Nat} {k : Nat} (h : k < r.length) : atI (nv r) ((k : Int) - 1) = some (.int (prev r k : Nat)) ∧ prev r k ∈ r ∧ r[(k + (r.length - 1)) % r.length]? = some (prev r k) := by
  have hm := Nat.mod_lt (k + (r.length - 1)) (show r.length > 0 by omega)
  have e : r[(k + (r.length - 1)) % r.length]? = some (prev r k) := by
    unfold prev
    rw [List.getD_eq_getElem?_getD, List.getElem?_eq_getElem hm]
    rfl
  refine ⟨?_, List.mem_of_getElem? e, e⟩
  cases k with
  | zero =>
    rcases list_end r with z | ⟨i, x, z⟩
    · rw [z] at h; simp at h
    · have : (0 + (r.length - 1)) % r.length = i.length := by
        rw [Nat.zero_add, Nat.mod_eq_of_lt (by omega), z]
        simp
      rw [this, z] at e
      simp at e
      rw [z, ← e, nv_app]
      exact atI_last _ _
  | succ k =>
    have : (k + 1 + (r.length - 1)) % r.length = k := by
      rw [show k + 1 + (r.length - 1) = k + r.length by omega, Nat.add_mod_right, Nat.mod_eq_of_lt (by omega)]
    rw [this] at e
    have e2 : (((k + 1 : Nat) : Int) - 1) = (k : Int) := by omega
    rw [e2]
    exact atI_nat (nv_get e)
theorem prev_inj {r : List Nat} (nd : r.Nodup) {j k : Nat} (hj : j < r.length) (hk : k < r.length) (h : prev r j = prev r k) : j = k := by
  have h1 := (prev_at hj).2.2
  have h2 := (prev_at hk).2.2
  rw [← h] at h2
  have := nd_ix nd h1 h2
  by_cases a : j = 0
  · by_cases b : k = 0
    · omega
    · rw [show k + (r.length - 1) = (k - 1) + r.length by omega, Nat.add_mod_right, Nat.mod_eq_of_lt (show k - 1 < r.length by omega), a, Nat.zero_add, Nat.mod_eq_of_lt (show r.length - 1 < r.length by omega)] at this
      omega
  · rw [show j + (r.length - 1) = (j - 1) + r.length by omega, Nat.add_mod_right, Nat.mod_eq_of_lt (show j - 1 < r.length by omega)] at this
    by_cases b : k = 0
    · rw [b, Nat.zero_add, Nat.mod_eq_of_lt (show r.length - 1 < r.length by omega)] at this
      omega
    · rw [show k + (r.length - 1) = (k - 1) + r.length by omega, Nat.add_mod_right, Nat.mod_eq_of_lt (show k - 1 < r.length by omega)] at this
      omega
theorem prev_all {r : List Nat} {x : Nat} (h : x ∈ r) : ∃ j, j < r.length ∧ prev r j = x := by
  obtain ⟨i, hi⟩ := List.mem_iff_getElem?.mp h
  have hl := (List.getElem?_eq_some_iff.mp hi).1
  have hm := Nat.mod_lt (i + 1) (show r.length > 0 by omega)
  refine ⟨(i + 1) % r.length, hm, ?_⟩
  have e := (prev_at hm).2.2
  have : ((i + 1) % r.length + (r.length - 1)) % r.length = i := by
    rw [Nat.mod_add_mod, show i + 1 + (r.length - 1) = i + r.length by omega, Nat.add_mod_right, Nat.mod_eq_of_lt hl]
  rw [this, hi] at e
  exact (Option.some.inj e).symm
def dones (r : List Nat) (k : Nat) : List Nat := (List.range k).map (prev r)
theorem dones_next (r : List Nat) (k : Nat) : dones r (k + 1) = dones r k ++ [prev r k] := by
  unfold dones
  rw [List.range_succ, List.map_append]
  rfl
theorem dones_mem {r : List Nat} {k x : Nat} : x ∈ dones r k ↔ ∃ j, j < k ∧ prev r j = x := by
  unfold dones
  rw [List.mem_map]
  constructor
  · rintro ⟨j, hj, e⟩
    exact ⟨j, List.mem_range.mp hj, e⟩
  · rintro ⟨j, hj, e⟩
    exact ⟨j, List.mem_range.mpr hj, e⟩
theorem dones_all {r : List Nat} {x : Nat} : x ∈ dones r r.length ↔ x ∈ r := by
  rw [dones_mem]
  constructor
  · rintro ⟨j, hj, rfl⟩
    exact (prev_at hj).2.1
  · exact prev_all
theorem succ_prev {rs : List (List Nat)} (nd : rs.flatten.Nodup) {r : List Nat} (hr : r ∈ rs) {k : Nat} (hk : k < r.length) : r[k]? = some (succ rs (prev r k)) := by
  rw [succ_at nd hr (prev_at hk).2.2, Nat.mod_add_mod, show k + (r.length - 1) + 1 = k + r.length by omega, Nat.add_mod_right, Nat.mod_eq_of_lt hk, List.getD_eq_getElem?_getD, List.getElem?_eq_getElem hk]
  rfl
/-- the dict: of the guests in l their left neighbours -/
def Near (rs : List (List Nat)) (kvs : List (Key × V)) (l : List Nat) : Prop := kvs.length = l.length ∧ ∀ x : Nat, valV kvs (.inl (x : Int)) = if x ∈ l then some (.int (succ rs x : Nat)) else none
theorem Near.put {rs : List (List Nat)} {kvs : List (Key × V)} {l : List Nat} (N : Near rs kvs l) {x : Nat} (h : x ∉ l) : Near rs (putK kvs (.inl (x : Int)) (.int (succ rs x : Nat))) (l ++ [x]) := by
  have hv := N.2 x
  rw [if_neg h] at hv
  refine ⟨by rw [putK_new _ hv, List.length_append, List.length_append, N.1]; rfl, fun y => ?_⟩
  rw [valV_put]
  by_cases e : y = x
  · subst e
    rw [if_pos rfl, if_pos (by simp)]
  · rw [if_neg (fun z => e (by
      have := Sum.inl.inj z
      omega)), N.2 y]
    simp [e]
def sp_law_seat : Sp := fun vs H Q _ => ∃ (a : Addr) (ws : List V) (rs : List (List Nat)) (n : Nat), vs = [.ref a] ∧ H a = some (.lst ws) ∧ Paired (Lb H) ws rs ∧ rs.flatten.Perm (List.range n) ∧ n ≤ 20 ∧ RetL (nv (seat rs n)) H Q
theorem sl_seat {H : Hp} {a : Addr} {ws : List V} {rs : List (List Nat)} {n : Nat} (ha : H a = some (.lst ws)) (ht : Paired (Lb H) ws rs) (hp : rs.flatten.Perm (List.range n)) (hn : n ≤ 20) : SpL sp_law_seat ([.ref a] ++ []) H (nv (seat rs n)) := fun H1 e Q q E =>
  ⟨a, ws, rs, n, rfl, e a _ ha, paired_imp (fun _ _ x => Lb.ex e x) ht, hp, hn, q⟩
section
variable {P : Program} {w : World} {K : PySem.W.Frag} {mg : Str → Option Value} {base : Heap}
theorem ok_law_seat (T : Tx K mg) : FnOk P w K mg base CX0 1 T.f_law_seat T.d_law_seat ["rings"] sp_law_seat := by
  refine T.F_law_seat.ok sc_law_seat (fun vs H Q E h => ?_) (fun cdv A outer s H vs Q E hr h => ?_)
  · obtain ⟨a, ws, rs, n, rfl, _⟩ := h
    rfl
  · obtain ⟨a, ws, rs, n, rfl, ha, ht, hp, hn, k⟩ := h
    refine ⟨_, (pss_cons (ps_set (i := 1) sc_law_seat.nd rfl (Or.inr rfl) pe_dnewK)
      (pss_cons (ps_for PassesOwn.never rfl (pi_list (pv 0)) (pg_name (i := 2) sc_law_seat.nd rfl (Or.inl rfl)) (pss_one (ps_for PassesOwn.never rfl (pi_range1 (by rfl) T.m_range (pa_cons (pe_callB call_lenR (by rfl) T.m_len (by decide +kernel) (pa_cons (pv 2) pa_nil)) pa_nil)) (pg_name (i := 3) sc_law_seat.nd rfl (Or.inl rfl)) (pss_one (ps_dput (hu_of hr) (pv 1) (pe_ix ix_list (pv 2) (pe_op op_sub (pv 3) pe_int) (fun _ _ => rfl)) (pe_ix ix_list (pv 2) (pv 3) (fun _ _ => rfl)) rfl)))))
      (pss_one (ps_ret (pe_lc (own := [("one", 4)]) (g := (gName 4)) (tt := tYes) rfl sc_law_seat.nd (pi_range1 (by rfl) T.m_range (pa_cons (pe_callB (id := "len") (r := rLenK) call_lenK (by rfl) T.m_len (by decide +kernel) (pa_cons (pv 1) pa_nil)) pa_nil)) (blkOk_by (own := [("one", 4)]) (N := n_law_seat) (sc := defScope s_law_seat) (by decide +kernel)) (fun _ _ _ _ _ => (pg_name (i := 4) sc_law_seat.nd rfl (Or.inl rfl))) (fun _ _ _ _ _ => pts_nil) (fun _ _ _ _ _ => (pe_dget (hu_of hr) (pv 1) (pv 4) (fun _ _ => rfl)))))))), ?_⟩
    have nd : rs.flatten.Nodup := hp.nodup_iff.mpr List.nodup_range
    have hfl : rs.flatten.length = n := by rw [hp.length_eq, List.length_range]
    have hlen : ws.length = rs.length := Paired.length ht
    refine q_dnewK fun p H1 hp1 e1 h1 => ?_
    refine q_forLn (xs := ws) (K := K) (ev_var rfl) (sq_of (e1 a _ ha)) (fun i σ' H' => ∃ (kvs : List (Key × V)) (y2 y3 : Option V), σ' = [some (.ref a), some (.ref p), y2, y3, none] ∧ Ex H H' ∧ H' p = some (.dK kvs) ∧ Near rs kvs (rs.take i).flatten)
      (fun H2 e2 => ⟨[], none, none, rfl, e1.trans e2, e2 p _ h1, rfl, fun x => by simp [valV_nil]⟩) (fun i σ' H' _ ⟨_, _, _, _, e, _⟩ => sq_of (e a _ ha)) ?_ ?_
    · rintro i v σ' H' hv ⟨kvs, y2, y3, rfl, e, hk, N⟩
      obtain ⟨r, hr, b, rfl, hb⟩ := paired_get ht hv
      have hrm := List.mem_of_getElem? hr
      have ndr : r.Nodup := List.Pairwise.sublist (List.sublist_flatten_of_mem hrm) nd
      have hfn := flat_next hr
      have hsub : (rs.take (i + 1)).flatten.Nodup := by
        refine List.Pairwise.sublist ?_ nd
        conv => rhs; rw [← List.take_append_drop (i + 1) rs, List.flatten_append]
        exact List.sublist_append_left _ _
      rw [hfn, List.nodup_append] at hsub
      have hle : (rs.take i).flatten.length + r.length ≤ n := by
        rw [← List.length_append, ← hfn, ← hfl]
        conv => rhs; rw [← List.take_append_drop (i + 1) rs, List.flatten_append, List.length_append]
        omega
      refine s_forR1 (n := (r.length : Int)) (ea_cons (by
        have := ev_len (K := K) (ta := tVar 2) (σ := [some (V.ref a), some (.ref p), some (.ref b), y3, none]) (ev_var (i := 2) rfl) (sq_of (e b _ hb))
        rw [nv_len] at this
        exact this) ea_nil) (by omega) (fun j σ' H' => ∃ (kvs : List (Key × V)) (y3 : Option V), σ' = [some (.ref a), some (.ref p), some (.ref b), y3, none] ∧ Ex H H' ∧ H' p = some (.dK kvs) ∧ Near rs kvs ((rs.take i).flatten ++ dones r j))
        (fun H2 e2 => ⟨kvs, y3, rfl, e.trans e2, e2 p _ hk, by simpa [dones] using N⟩) ?_ ?_
      · rintro j σ' H2 hj ⟨kvs, y3, rfl, e2, hk2, N2⟩
        have hjl : j < r.length := by omega
        obtain ⟨p1, p2, p3⟩ := prev_at hjl
        have hb2 := e2 b _ hb
        have new : prev r j ∉ (rs.take i).flatten ++ dones r j := fun hm => by
          rcases List.mem_append.mp hm with z | z
          · exact hsub.2.2 _ z _ p2 rfl
          · obtain ⟨m, hm1, hm2⟩ := dones_mem.mp z
            have := prev_inj ndr (by omega) hjl hm2
            omega
        have kl := N2.1
        have kl2 : ((rs.take i).flatten ++ dones r j).length ≤ 20 := by
          rw [List.length_append]
          unfold dones
          rw [List.length_map, List.length_range]
          omega
        refine s_dputI (ev_var rfl) (ev_op (ev_var rfl) (ev_op (ev_var rfl) ev_c rv_I0) (rv_ixL (K := K) (sq_of hb2) p1)) (ev_op (ev_var rfl) (ev_var rfl) (rv_ixL (K := K) (sq_of hb2) (atI_nat (nv_get (succ_prev nd hrm hjl))))) hk2 (by omega) fun H3 e3 => ?_
        refine ⟨_, _, rfl, Ex.mut (e2.trans e3) hp1, upd_same, ?_⟩
        rw [dones_next, ← List.append_assoc]
        exact N2.put new
      · rintro σ' H2 ⟨kvs, y3, rfl, e2, hk2, N2⟩
        rw [Int.toNat_natCast] at N2
        refine ⟨kvs, _, _, rfl, e2, hk2, ?_, fun x => ?_⟩
        · rw [N2.1, hfn, List.length_append, List.length_append]
          unfold dones
          rw [List.length_map, List.length_range]
        · rw [N2.2 x, hfn]
          congr 1
          rw [List.mem_append, List.mem_append, dones_all]
    · rintro σ' H' ⟨kvs, y2, y3, rfl, e, hk, N⟩
      rw [hlen, List.take_of_length_le (Nat.le_refl _)] at N
      have kl : kvs.length = n := by rw [N.1, hfl]
      refine s_retL (xs := nv (seat rs n)) ?_ fun q H2 hq e2 h2 => k q H2 (fresh_back e hq) (e.trans e2) h2
      have el : nv (seat rs n) = given ((n : Int)).toNat (fun _ => true) (fun i => V.int (succ rs i : Nat)) := by
        rw [given_at, Int.toNat_natCast, nv_eq]
        unfold seat
        rw [List.map_map]
        rfl
      rw [el]
      refine el_lcR1 (n := (n : Int)) _ _ (ea_cons (by
        have := ev_lenK (ta := tVar 1) (σ := [some (V.ref a), some (.ref p), y2, y3, none]) (ev_var (i := 1) rfl) hk
        rw [kl] at this
        exact this) ea_nil) (by omega) (fun _ => rfl) (fun _ _ _ _ => et_yes) fun i H2 e2 hi _ => ?_
      have hx := N.2 i
      rw [if_pos (hp.mem_iff.mpr (List.mem_range.mpr (by omega)))] at hx
      exact ev_dgetI (ev_var rfl) (ev_var rfl) (e2 p _ hk) hx
end


local macro_rules | `(tactic| walk_at "call") => `(tactic| (with_reducible exact sv_whole))
local macro_rules | `(tactic| walk_at "call") => `(tactic| ((with_reducible refine' sv_order ?c1 ?c2); (case c1 => assumption); (case c2 => assumption)))
local macro_rules | `(tactic| walk_at "call") => `(tactic| ((with_reducible refine' sv_ord ?c1 ?c2); (case c1 => assumption); (case c2 => assumption)))

local macro_rules | `(tactic| walk_at "call") => `(tactic| (with_reducible exact sv_between))

/-! ### _law_cut -/
def EvLB (te : TE) (σ : L2.St) (H : Hp) (rs : List (List Nat)) : Prop := ∀ H1, Ex H H1 → ∀ Q : VK, (∀ p vs H2, H1 p = none → Ex H1 H2 → H2 p = some (.lst vs) → Paired (Lb H2) vs rs → Q (.ref p) H2) → te σ H1 Q
theorem s_retLB {te : TE} {σ : L2.St} {H : Hp} {D : Ends} {rs : List (List Nat)} (h : EvLB te σ H rs) (k : ∀ p vs H1, H p = none → Ex H H1 → H1 p = some (.lst vs) → Paired (Lb H1) vs rs → D.rt (.ref p) H1) : tRet te D σ H := h H (Ex.refl H) _ k
def Lc (Dl : Addr) (H : Hp) (v : V) (r : List Nat) : Prop := ∃ b, v = .ref b ∧ b ≠ Dl ∧ H b = some (.lst (nv r))
theorem Lc.ex {Dl : Addr} {H H' : Hp} {v : V} {r : List Nat} (e : Ex H H') (h : Lc Dl H v r) : Lc Dl H' v r := by
  obtain ⟨b, rfl, n, h⟩ := h
  exact ⟨b, rfl, n, e b _ h⟩
theorem Lc.upd {Dl : Addr} {H : Hp} {o : HO} {v : V} {r : List Nat} (h : Lc Dl H v r) : Lc Dl (upd H Dl o) v r := by
  obtain ⟨b, rfl, n, h⟩ := h
  exact ⟨b, rfl, n, by rw [upd_ne n]; exact h⟩
theorem Lc.lb {Dl : Addr} {H : Hp} {v : V} {r : List Nat} (h : Lc Dl H v r) : Lb H v r := by
  obtain ⟨b, rfl, n, h⟩ := h
  exact ⟨b, rfl, h⟩

/-! ### _law_right: rules -/
theorem LL.lb {H0 H : Hp} {p : Addr} {bs : List Addr} {rs : List (List Nat)} (L : LL H0 p H bs rs) : Paired (Lb H) (bs.map V.ref) rs := by
  have : ∀ (bs : List Addr) (rs : List (List Nat)), bs.length = rs.length → (∀ (i : Nat) (b : Addr) (r : List Nat), bs[i]? = some b → rs[i]? = some r → H b = some (.lst (nv r))) → Paired (Lb H) (bs.map V.ref) rs := fun bs => by
    induction bs with
    | nil =>
      intro rs hl _
      cases rs with
      | nil => exact .nil
      | cons r l => simp at hl
    | cons b bs ih =>
      intro rs hl ha
      cases rs with
      | nil => simp at hl
      | cons r l => exact .cons ⟨b, rfl, ha 0 b r rfl rfl⟩ (ih l (by simpa using hl) fun i c s h1 h2 => ha (i + 1) c s (by simpa using h1) (by simpa using h2))
  exact this bs rs L.len L.at_
theorem LL.weak {H0 H1 H : Hp} {p : Addr} {bs : List Addr} {rs : List (List Nat)} (L : LL H1 p H bs rs) (e : Ex H0 H1) : LL H0 p H bs rs := ⟨L.self, L.nd, L.np, fresh_back e L.fp, fun b hb => fresh_back e (L.fr b hb), L.len, L.at_⟩
def di (r : List Nat) : PyData := .list ((iz r).map PyData.int)
def dt (r : List Nat) : PyData := .tuple ((iz r).map PyData.int)
theorem canLay_ints : ∀ ms : List Int, PyData.canLayAll0 (ms.map PyData.int) = true
  | [] => rfl
  | m :: r => by simp [PyData.canLayAll0, PyData.canLay0, canLay_ints r]
theorem depth_ints : ∀ ms : List Int, PyData.depthAll (ms.map PyData.int) = 0
  | [] => rfl
  | m :: r => by simp [PyData.depthAll, PyData.depth, depth_ints r]
theorem canLay_dts : ∀ rs : List (List Nat), PyData.canLayAll0 (rs.map dt) = true
  | [] => rfl
  | m :: r => by simp [PyData.canLayAll0, PyData.canLay0, dt, canLay_ints, canLay_dts r]
theorem depth_dts : ∀ rs : List (List Nat), PyData.depthAll (rs.map dt) ≤ 1
  | [] => by simp [PyData.depthAll]
  | m :: r => by
    have := depth_dts r
    simp [PyData.depthAll, PyData.depth, dt, depth_ints]
    omega
theorem shaped_two (r s : List Nat) : SeqAt.shaped (.list [di r, di s]) = true := by
  simp [SeqAt.shaped, PyData.canLay0, PyData.canLayAll0, di, canLay_ints, PyData.depth, PyData.depthAll, depth_ints]
theorem shaped_kept (r : List Nat) (rs : List (List Nat)) : SeqAt.shaped (.list [di r, .list (rs.map dt)]) = true := by
  have := depth_dts rs
  simp [SeqAt.shaped, PyData.canLay0, PyData.canLayAll0, di, canLay_ints, canLay_dts, PyData.depth, PyData.depthAll, depth_ints]
  omega
theorem shaped_di (r : List Nat) : SeqAt.shaped (di r) = true := shaped_ints _
section
variable {K : PySem.W.Frag} {σ : L2.St} {H H' : Hp} {ta tb te : TE} {D : Ends} {tz : TS}
theorem dpa_nv (r : List Nat) : DpAll K H (nv r) ((iz r).map PyData.int) := dpa_ints _
theorem dpa_TL : ∀ {ws : List V} {rs : List (List Nat)}, TL H ws (rs.map nv) → DpAll K H ws (rs.map dt)
  | [], [], _ => .nil
  | _ :: _, r :: _, .cons ⟨b, e, h⟩ t => by
    subst e
    exact .cons (.tup (st_of h) (dpa_nv r)) (dpa_TL t)
theorem dp_L {a : Addr} {r : List Nat} (h : H a = some (.lst (nv r))) : Dp K H (.ref a) (di r) := .lst (sq_of h) (dpa_nv r)
theorem ed_L {r : List Nat} (h : EvL te σ H (nv r)) : EvD K te σ H (di r) := ed_ofL h (dpa_nv r)
theorem ed_two {r s : List Nat} (h : EvD K ta σ H (di r)) (h2 : EvD K tb σ H (di s)) : EvD K (tLst (tCons ta (tCons tb tNil))) σ H (.list [di r, di s]) := ed_lst (eda_cons h (eda_cons h2 eda_nil)) (Nat.le_of_ble_eq_true rfl)
theorem el_callK {sp : Sp} {gV : List V → List V → List V} {E : XK} {t tk : TA} {vs zs xs : List V} (h : EvA t σ H vs) (hk : EvA tk σ H zs) (hs : SpL sp (gV vs zs) H xs) : EvL (tCallK sp gV E t tk) σ H xs := fun H1 e Q q =>
  h H1 e _ fun H2 e2 => hk H2 (e.trans e2) _ fun H3 e3 => hs H3 ((e.trans e2).trans e3) Q (fun l H4 hl e4 h4 => q l H4 (fresh_back (e2.trans e3) hl) ((e2.trans e3).trans e4) h4) E
theorem el_catV {a b : Addr} {xs ys : List V} (h : Ev ta σ H (.ref a)) (h2 : Ev tb σ H (.ref b)) (ha : H a = some (.lst xs)) (hb : H b = some (.lst ys)) (hl : xs.length + ys.length ≤ 100000) : EvL (tOp rCat ta tb) σ H (xs ++ ys) := fun H1 e Q q =>
  h H1 e _ fun H2 e2 => h2 H2 (e.trans e2) _ fun H3 e3 => ⟨a, b, xs, ys, rfl, rfl, e3 a _ (e2 a _ (e a _ ha)), e3 b _ (e2 b _ (e b _ hb)), sz_of hl, fun l hl => q l _ (fresh_back (e2.trans e3) hl) ((e2.trans e3).trans (Ex.new hl)) upd_same⟩
theorem q_parLLT {i j : Nat} {xs : List V} {rs : List (List V)} (h : EvL ta σ H xs) (h2 : EvLT tb σ H rs) (k : ∀ p q ws H1, H p = none → H q = none → Ex H H1 → H1 p = some (.lst xs) → H1 q = some (.lst ws) → TL H1 ws rs → tz D ((σ.set i (some (.ref p))).set j (some (.ref q))) H1) :
    tSeq (tPar i j (tCons ta (tCons tb tNil))) tz D σ H := h H (Ex.refl H) _ fun p H1 hp e1 h1 => h2 H1 e1 _ fun q ws H2 hq e2 h3 ht => ⟨_, _, rfl, k p q ws H2 hp (fresh_back e1 hq) (e1.trans e2) (e2 p _ h1) h3 ht⟩
theorem q_parDL {i j : Nat} {d : PyData} {ys : List V} (h : EvD K ta σ H d) (h2 : EvL tb σ H ys) (k : ∀ v q H1, H q = none → Ex H H1 → Dp K H1 v d → H1 q = some (.lst ys) → tz D ((σ.set i (some v)).set j (some (.ref q))) H1) :
    tSeq (tPar i j (tCons ta (tCons tb tNil))) tz D σ H := h H (Ex.refl H) _ fun v H1 e1 h1 => h2 H1 e1 _ fun q H2 hq e2 h3 => ⟨_, _, rfl, k v q H2 (fresh_back e1 hq) (e1.trans e2) (Dp.ex e2 d v h1) h3⟩
theorem q_rings {i n m : Nat} {p : Addr} {E E' : XK} {t : TA} (h : EvA t σ H [.ref p, .int (m : Int)]) (hp : Po p n H) (hn : n + 3 * m + 1 < 1000000000) (hm : m ≤ 20)
    (k : ∀ l bs rs H1, RI m rs → LL (Hm p H) l H1 bs rs → l ≠ p → (∀ b ∈ bs, b ≠ p) → Po p (n + 3 * m + 1) H1 → Ex (Hm p H) H1 → tz D (σ.set i (some (.ref l))) H1) : tSeq (tAsg (tCall sp_law_rings [] E (tCons (tCall sp_law_entries [] E' t) tNil)) (gName i)) tz D σ H :=
  h H (Ex.refl H) _ fun H1 e1 => ⟨p, n, m, rfl, hp.ex e1, hn, hm, fun l f H2 hl h2 hlen hx p2 e2 => ⟨l, f, rfl, h2, by omega, hx, fun q bs H3 L e3 => by
    have R := ringsTo_ok hx f.length (Nat.le_refl _)
    have e12 := hm_trans (hm_of e1) e2
    refine k q bs _ H3 (hlen ▸ R) (L.weak e12) (p2.ne L.fp) (fun b hb => p2.ne (L.fr b hb)) (p2.ex e3) (hm_trans e12 (hm_of e3))⟩⟩
/-- a call whose argument is a new list of new lists -/
theorem el_call1LB {sp : Sp} {dvs ys : List V} {rs : List (List Nat)} {E : XK} (h : EvLB te σ H rs) (hs : ∀ p ws H1, Ex H H1 → H1 p = some (.lst ws) → Paired (Lb H1) ws rs → SpL sp ([.ref p] ++ dvs) H1 ys) : EvL (tCall sp dvs E (tCons te tNil)) σ H ys := fun H1 e Q q =>
  h H1 e _ fun p ws H2 _ e2 h2 hw => hs p ws H2 (e.trans e2) h2 hw H2 (Ex.refl _) Q (fun l H3 hl e3 h3 => q l H3 (fresh_back e2 hl) (e2.trans e3) h3) E
/-- [[..] for r in rs], rs an old list of lists -/
theorem elb_map {a : Addr} {ws : List V} {rs : List (List Nat)} {j : Nat} {vs : List Nat} (F : List Nat → List Nat) (h : Ev ta σ H (.ref a)) (ha : H a = some (.lst ws)) (hr : Paired (Lb H) ws rs) (hz : ws.length ≤ 40000) (hw : ∀ x, wipe ((wipe σ vs).set j (some x)) vs = wipe σ vs)
    (he : ∀ (b : Addr) (r : List Nat) H1, Ex H H1 → r ∈ rs → H1 b = some (.lst (nv r)) → EvL te ((wipe σ vs).set j (some (.ref b))) H1 (nv (F r))) : EvLB (tLc (iList K ta) (gName j) tYes te vs) σ H (rs.map F) := fun H0 e Q q => h H0 e _ fun H1 e1 => ⟨a, rfl, ⟨ws, sq_of (e1 a _ (e a _ ha))⟩, fun Dl hD =>
  lc_list (xs := ws) (fun i H' => Ex H1 H' ∧ ∃ us, H' Dl = some (.lst us) ∧ Paired (Lc Dl H') us ((rs.map F).take i)) ⟨Ex.new hD, [], upd_same, .nil⟩ (fun i H' _ p => sq_of (p.1 a _ (e1 a _ (e a _ ha)))) (fun i x H' hi p => by
    obtain ⟨p1, us, p2, p3⟩ := p
    obtain ⟨r, hr1, b, rfl, hb⟩ := paired_get hr hi
    have hl := Paired.length hr
    have hil := (List.getElem?_eq_some_iff.mp hi).1
    have ul : us.length = i := by
      have := Paired.length p3
      rw [List.length_take, List.length_map] at this
      omega
    show wipe ((wipe σ vs).set j (some (.ref b))) vs = wipe σ vs ∧ te ((wipe σ vs).set j (some (.ref b))) H' fun y H4 => ∃ acc, H4 Dl = some (.lst acc) ∧ acc.length < sizeLine ∧ _
    refine ⟨hw _, he b r H1 (e.trans e1) (List.mem_of_getElem? hr1) (e1 b _ (e b _ hb)) H' p1 _ fun l H4 hl4 e4 h4 => ?_⟩
    have lD : l ≠ Dl := fun z => by
      subst z
      rw [hl4] at p2
      cases p2
    refine ⟨us, e4 Dl _ p2, sz_lt (by omega), Ex.mut (p1.trans e4) hD, _, upd_same, ?_⟩
    have gz : (rs.map F)[i]? = some (F r) := by rw [List.getElem?_map, hr1]; rfl
    rw [List.take_add_one, gz]
    exact Paired.snoc (paired_imp (fun _ _ z => (z.ex e4).upd) p3) ⟨l, rfl, lD, by rw [upd_ne lD]; exact h4⟩) (fun H' p => by
      obtain ⟨p1, us, p2, p3⟩ := p
      rw [List.take_of_length_le (by rw [List.length_map]; have := Paired.length hr; omega)] at p3
      exact q Dl us H' (fresh_back e1 hD) (e1.trans p1) p2 (paired_imp (fun _ _ z => z.lb) p3))⟩
end


local macro_rules | `(tactic| walk_at "call") => `(tactic| (with_reducible exact sv_whole))
local macro_rules | `(tactic| walk_at "call") => `(tactic| ((with_reducible refine' sv_order ?c1 ?c2); (case c1 => assumption); (case c2 => assumption)))
local macro_rules | `(tactic| walk_at "call") => `(tactic| ((with_reducible refine' sv_ord ?c1 ?c2); (case c1 => assumption); (case c2 => assumption)))

local macro_rules | `(tactic| walk_at "call") => `(tactic| (with_reducible exact sv_whole))
local macro_rules | `(tactic| walk_at "call") => `(tactic| ((with_reducible refine' sv_ord ?c1 ?c2); (case c1 => assumption); (case c2 => assumption)))

local macro_rules | `(tactic| walk_at "call") => `(tactic| ((with_reducible refine' sv_pow ?c1 ?c2 ?c3); (case c1 => walk_at "side"); (case c2 => walk_at "side"); (case c3 => walk_at "side")))
local macro_rules | `(tactic| walk_at "call") => `(tactic| ((with_reducible refine' sv_rise ?c1 ?c2); (case c1 => walk_at "side"); (case c2 => walk_at "side")))
local macro_rules | `(tactic| walk_at "call") => `(tactic| (with_reducible exact sv_between))
local macro_rules | `(tactic| walk_at "call") => `(tactic| ((with_reducible refine' sv_check1 ?c1 ?c2); (case c1 => walk_at "side"); (case c2 => walk_at "side")))
local macro_rules | `(tactic| walk_at "call") => `(tactic| ((with_reducible refine' sv_check_number ?c1 ?c2); (case c1 => walk_at "side"); (case c2 => walk_at "side")))
local macro_rules | `(tactic| walk_at "callU") => `(tactic| ((with_reducible refine' su_fraction ?c1 ?c2); (case c1 => walk_at "side"); (case c2 => walk_at "side")))

def sp_law_heavy : Sp := fun vs H Q _ => ∃ (p : Addr) (n : Nat), vs = [.ref p] ∧ Po p n H ∧ n + 3 < 1000000000 ∧ ∀ (w : Int) H', 1 ≤ w → w ≤ 1000000000000 → Po p (n + 3) H' → Ex (Hm p H) H' → Q (.int w) H'
theorem p_ret {σ : L2.St} {H0 H : Hp} {p : Addr} {k n : Nat} {te : TE} {R : V → Hp → Prop} {D : Ends} (h : EvP p k te σ H0 R) (e : Ex H0 H) (hp : Po p n H) (hn : n + k ≤ 1000000000) (q : ∀ v H2, R v H2 → Po p (n + k) H2 → Ex (Hm p H) H2 → D.rt v H2) : tRet te D σ H := h n H e hp hn _ q
section
variable {P : Program} {w : World} {K : PySem.W.Frag} {mg : Str → Option Value} {base : Heap}
theorem ok_law_heavy (T : Tx K mg) : FnOk P w K mg base CX0 2 T.f_law_heavy T.d_law_heavy ["pouch"] sp_law_heavy := by
  refine T.F_law_heavy.ok sc_law_heavy (fun vs H Q E h => ?_) (fun cdv A outer s H vs Q E hr h => ?_)
  · obtain ⟨p, n, rfl, _⟩ := h
    rfl
  · obtain ⟨p, n, rfl, hpo, hn, k⟩ := h
    refine ⟨_, (pss_one (ps_ret (pe_ix ix_list (pe_lst (pa_cons pe_int (pa_cons pe_int (pa_cons (pe_op op_add pe_int (pe_call (ok_law_dip T) (hr.mono (by decide)) (by rfl) T.g_law_dip T.F_law_dip.kp T.b_law_dip .nil pass0 (pa_cons (pv 0) (pa_cons pe_int pa_nil)))) (pa_cons (pe_op op_add pe_int (pe_call (ok_law_dip T) (hr.mono (by decide)) (by rfl) T.g_law_dip T.F_law_dip.kp T.b_law_dip .nil pass0 (pa_cons (pv 0) (pa_cons (pe_op op_powX pe_int pe_int) pa_nil)))) (pa_cons (pe_op op_powX pe_int pe_int) pa_nil)))))) (pe_call (ok_law_dip T) (hr.mono (by decide)) (by rfl) T.g_law_dip T.F_law_dip.kp T.b_law_dip .nil pass0 (pa_cons (pv 0) (pa_cons pe_int pa_nil))) (fun _ _ => rfl)))), ?_⟩
    have ten : Ev (tOp (rI CPowX fun i j => .int (i ^ j.toNat)) (tC (.int 10)) (tC (.int 12))) (start n_law_heavy [.ref p]) (Hm p H) (.int ((10 : Int) ^ (12 : Int).toNat)) := ev_op ev_c ev_c (rv_I (by constructor <;> decide +kernel))
    refine p_ret (p := p) (k := ((0 + (0 + ((0 + 1) + ((0 + 1) + (0 + 0)))))) + 1) (H0 := Hm p H) (R := fun v _ => ∃ w : Int, v = .int w ∧ 1 ≤ w ∧ w ≤ 1000000000000) (ep_ix (A := fun v => ∃ w : Int, v = .int w ∧ 1 ≤ w ∧ w ≤ 1000000000000) (ix := fun v => ∃ r, v = .int r ∧ 0 ≤ r ∧ r < 5) (C := fun vs => ∃ a b : Int, vs = [.int 1, .int 2, .int (1 + a), .int (1 + b), .int ((10 : Int) ^ (12 : Int).toNat)] ∧ (0 ≤ a ∧ a < 9) ∧ (0 ≤ b ∧ b < 10 ^ 12)) hm_p
        (ep_is (ep_lst (epa_pure hm_p ev_c (epa_pure hm_p ev_c (epa_cons (A := fun v => ∃ a : Int, v = .int (1 + a) ∧ (0 ≤ a ∧ a < 9)) hm_p (ep_add (C := fun r => 0 ≤ r ∧ r < 9) hm_p ev_c (ep_dipI (w := 9) hm_p (ev_var rfl) ev_c (by decide) (by decide))) (epa_cons (A := fun v => ∃ a : Int, v = .int (1 + a) ∧ (0 ≤ a ∧ a < 10 ^ 12)) hm_p (ep_add (C := fun r => 0 ≤ r ∧ r < 10 ^ 12) hm_p ev_c (ep_dipI (w := (10 : Int) ^ (12 : Int).toNat) hm_p (ev_var rfl) ten (by decide) (by decide))) (epa_pure hm_p ten epa_nil))))) ?_) ?_) (ep_dipI (w := 5) hm_p (ev_var rfl) ev_c (by decide) (by decide)) ?_) hm_sub hpo (by omega) ?_
    · rintro vs ⟨_, _, rfl, _, _, _, rfl, _, _, _, rfl, _, _, _, rfl, _, _, _, rfl, _, rfl⟩
      exact Nat.le_of_ble_eq_true rfl
    · rintro v H4 ⟨l, vs, ne, rfl, hl, _, _, rfl, rfl, _, _, rfl, rfl, _, _, rfl, ⟨a, rfl, ha⟩, _, _, rfl, ⟨b, rfl, hb⟩, _, _, rfl, rfl, rfl⟩
      exact ⟨l, _, ne, rfl, hl, a, b, rfl, ha, hb⟩
    · rintro vs v ⟨a, b, rfl, ⟨a0, a1⟩, ⟨b0, b1⟩⟩ ⟨i, rfl, i0, i1⟩
      have : i = 0 ∨ i = 1 ∨ i = 2 ∨ i = 3 ∨ i = 4 := by omega
      rcases this with rfl | rfl | rfl | rfl | rfl
      · exact ⟨0, .int 1, rfl, rfl, 1, rfl, by decide, by decide⟩
      · exact ⟨1, .int 2, rfl, rfl, 2, rfl, by decide, by decide⟩
      · exact ⟨2, .int (1 + a), rfl, rfl, _, rfl, by omega, by omega⟩
      · exact ⟨3, .int (1 + b), rfl, rfl, _, rfl, by omega, by omega⟩
      · exact ⟨4, _, rfl, rfl, _, rfl, by decide, by decide⟩
    · rintro v H2 ⟨x, rfl, x0, x1⟩ p2 e2
      exact k x H2 x0 x1 (p2.mono (by omega)) e2
end


local macro_rules | `(tactic| walk_at "call") => `(tactic| (with_reducible exact sv_whole))
local macro_rules | `(tactic| walk_at "call") => `(tactic| ((with_reducible refine' sv_order ?c1 ?c2); (case c1 => assumption); (case c2 => assumption)))
local macro_rules | `(tactic| walk_at "call") => `(tactic| ((with_reducible refine' sv_ord ?c1 ?c2); (case c1 => assumption); (case c2 => assumption)))

local macro_rules | `(tactic| walk_at "call") => `(tactic| (with_reducible exact sv_whole))
local macro_rules | `(tactic| walk_at "call") => `(tactic| ((with_reducible refine' sv_ord ?c1 ?c2); (case c1 => assumption); (case c2 => assumption)))

local macro_rules | `(tactic| walk_at "call") => `(tactic| ((with_reducible refine' sv_pow ?c1 ?c2 ?c3); (case c1 => walk_at "side"); (case c2 => walk_at "side"); (case c3 => walk_at "side")))
local macro_rules | `(tactic| walk_at "call") => `(tactic| ((with_reducible refine' sv_rise ?c1 ?c2); (case c1 => walk_at "side"); (case c2 => walk_at "side")))
local macro_rules | `(tactic| walk_at "call") => `(tactic| (with_reducible exact sv_between))
local macro_rules | `(tactic| walk_at "call") => `(tactic| ((with_reducible refine' sv_check1 ?c1 ?c2); (case c1 => walk_at "side"); (case c2 => walk_at "side")))
local macro_rules | `(tactic| walk_at "call") => `(tactic| ((with_reducible refine' sv_check_number ?c1 ?c2); (case c1 => walk_at "side"); (case c2 => walk_at "side")))
local macro_rules | `(tactic| walk_at "callU") => `(tactic| ((with_reducible refine' su_fraction ?c1 ?c2); (case c1 => walk_at "side"); (case c2 => walk_at "side")))

/-! ### sizes -/
theorem iz_sum : ∀ s : List Nat, (iz s).sum = (s.sum : Int)
  | [] => rfl
  | x :: r => by
    show (x : Int) + (iz r).sum = ((x + r.sum : Nat) : Int)
    rw [iz_sum r]
    omega
theorem sum_ge : ∀ {s : List Nat}, (∀ x ∈ s, 1 ≤ x) → s.length ≤ s.sum
  | [], _ => Nat.le_refl _
  | x :: r, h => by
    have := sum_ge (s := r) fun y hy => h y (List.mem_cons_of_mem _ hy)
    have := h x List.mem_cons_self
    rw [List.length_cons, List.sum_cons]
    omega
section
variable {K : PySem.W.Frag} {σ : L2.St} {H : Hp} {ta te : TE}
theorem ev_countFL {ys : List V} {y : V} (h : EvL ta σ H ys) (he : ∀ H1, Ex H H1 → Ev te σ H1 y) (fy : flatV y = true) (fys : ys.all flatV = true) : Ev (tBM K "list" (rCntF K) ta (tCons te tNil)) σ H (.int ((ys.countP fun z => eqV z y : Nat) : Int)) := fun H1 e Q q =>
  h H1 e _ fun p H2 _ e2 h2 => ⟨.inl ⟨rfl, _, sq_of h2⟩, he H2 (e.trans e2) H2 (Ex.refl _) _ fun H3 e3 => ⟨p, ys, y, rfl, rfl, sq_of (e3 p _ h2), fy, fys, q H3 (e2.trans e3)⟩⟩
theorem count_nv (x : Nat) : ∀ s : List Nat, (nv s).countP (fun z => eqV z (.int (x : Int))) = s.count x
  | [] => rfl
  | y :: r => by
    have ih := count_nv x r
    show (V.int (y : Int) :: nv r).countP _ = _
    rw [List.countP_cons, ih, List.count_cons]
    congr 1
    show (if eqV (.int (y : Int)) (.int (x : Int)) = true then 1 else 0) = _
    have : eqV (.int (y : Int)) (.int (x : Int)) = (y == x) := by
      show decide (_ = _) = _
      rw [Bool.eq_iff_iff]
      simp
      omega
    rw [this]
theorem cut_to {f : List Nat} {hi : Nat} (h : hi ≤ f.length) : cutV (nv f) none (some (hi : Int)) = nv (f.take hi) := by
  unfold cutV
  rw [HT.sIx_none, HT.sIx_nat, nv_len, Nat.min_eq_left h, Nat.sub_zero, List.drop_zero, nv_eq, nv_eq, List.map_take]
end
/-- the product that ways_with_sizes divides by -/
def botTo (s : List Nat) : Nat → Nat
  | 0 => 1
  | i + 1 => botTo s i * s.getD i 0 * (s.take (i + 1)).count (s.getD i 0)
theorem le_sum {s : List Nat} {x : Nat} (h : x ∈ s) : x ≤ s.sum := by
  induction s with
  | nil => cases h
  | cons y r ih =>
    rw [List.sum_cons]
    rcases List.mem_cons.mp h with e | h
    · omega
    · have := ih h
      omega
/-- a list of sizes -/
def Szs (s : List Nat) : Prop := (∀ x ∈ s, 1 ≤ x) ∧ 1 ≤ s.sum ∧ s.sum ≤ 20
/-- a list of sizes, perhaps none -/
def Sz0 (s : List Nat) : Prop := (∀ x ∈ s, 1 ≤ x) ∧ s.sum ≤ 20
theorem Szs.z {s : List Nat} (o : Szs s) : Sz0 s := ⟨o.1, o.2.2⟩
theorem botTo_bd {s : List Nat} (o : Sz0 s) : ∀ i, i ≤ s.length → 1 ≤ botTo s i ∧ botTo s i ≤ 400 ^ i
  | 0, _ => ⟨Nat.le_refl _, Nat.le_refl _⟩
  | i + 1, h => by
    obtain ⟨a, b⟩ := botTo_bd o i (by omega)
    have hx : s[i]? = some (s.getD i 0) := by
      rw [List.getD_eq_getElem?_getD, List.getElem?_eq_getElem (by omega)]
      rfl
    have hm := List.mem_of_getElem? hx
    have x1 := o.1 _ hm
    have x2 : s.getD i 0 ≤ 20 := Nat.le_trans (le_sum hm) o.2
    have c1 : 1 ≤ (s.take (i + 1)).count (s.getD i 0) := by
      refine List.count_pos_iff.mpr ?_
      rw [take_next hx]
      simp
    have c2 : (s.take (i + 1)).count (s.getD i 0) ≤ 20 := by
      have := List.count_le_length (a := s.getD i 0) (l := s.take (i + 1))
      rw [List.length_take] at this
      have := sum_ge o.1
      have := o.2
      omega
    show 1 ≤ botTo s i * s.getD i 0 * (s.take (i + 1)).count (s.getD i 0) ∧ botTo s i * s.getD i 0 * (s.take (i + 1)).count (s.getD i 0) ≤ 400 ^ (i + 1)
    refine ⟨Nat.mul_pos (Nat.mul_pos a x1) c1, ?_⟩
    rw [Nat.pow_succ, Nat.mul_assoc]
    exact Nat.mul_le_mul b (Nat.mul_le_mul x2 c2)
def wws (s : List Nat) : Nat := fac s.sum / botTo s s.length
def sp_ways_with_sizes : Sp := fun vs H Q _ => ∃ (a : Addr) (s : List Nat), vs = [.ref a] ∧ H a = some (.lst (nv s)) ∧ Sz0 s ∧ RetV (.int (wws s : Nat)) H Q
theorem sv_wws {H : Hp} {a : Addr} {s : List Nat} (ha : H a = some (.lst (nv s))) (o : Szs s) : SpV sp_ways_with_sizes ([.ref a] ++ []) H (.int (wws s : Nat)) := fun H1 e Q q E => ⟨a, s, rfl, e a _ ha, o.z, q⟩
theorem sv_wws0 {H : Hp} {a : Addr} {s : List Nat} (ha : H a = some (.lst (nv s))) (o : Sz0 s) : SpV sp_ways_with_sizes ([.ref a] ++ []) H (.int (wws s : Nat)) := fun H1 e Q q E => ⟨a, s, rfl, e a _ ha, o, q⟩
section
variable {P : Program} {w : World} {K : PySem.W.Frag} {mg : Str → Option Value} {base : Heap}
theorem ok_ways_with_sizes (T : Tx K mg) : FnOk P w K mg base CX0 1 T.f_ways_with_sizes T.d_ways_with_sizes ["sizes"] sp_ways_with_sizes := by
  refine T.F_ways_with_sizes.ok sc_ways_with_sizes (fun vs H Q E h => ?_) (fun cdv A outer s H vs Q E hr h => ?_)
  · obtain ⟨a, s, rfl, _⟩ := h
    rfl
  · obtain ⟨a, z, rfl, ha, o, k⟩ := h
    refine ⟨_, (pss_cons (ps_set (i := 1) sc_ways_with_sizes.nd rfl (Or.inl rfl) pe_int)
      (pss_cons (ps_for PassesOwn.never rfl (pi_enum (by rfl) T.m_enumerate (pa_cons (pv 0) pa_nil)) (pg_tup rfl (pgs_cons (pg_name (i := 2) sc_ways_with_sizes.nd rfl (Or.inl rfl)) (pgs_cons (pg_name (i := 3) sc_ways_with_sizes.nd rfl (Or.inl rfl)) pgs_nil))) (pss_one (ps_set (i := 1) sc_ways_with_sizes.nd rfl (Or.inl rfl) (pe_op op_mulX (pe_op op_mulX (pv 1) (pv 3)) (pe_bm PySem.F.plainAttrs_list PySem.F.slot_list_count PySem.F.type_list_count Kit.mt_countF (pe_slice sl_list (pv 0) po_none (po_some (pe_op op_add (pv 2) pe_int))) (pa_cons (pv 3) pa_nil))))))
      (pss_one (ps_ret (pe_op op_fdivW (pe_callBfun cr_factorial (by rfl) T.i_factorial (pa_cons (pe_callB (cr_sum rfl) (by rfl) T.m_sum (by decide +kernel) (pa_cons (pv 0) pa_nil)) pa_nil)) (pv 1)))))), ?_⟩
    have zl := sum_ge o.1
    have z20 := o.2
    refine q_asg (v := .int ((botTo z 0 : Nat) : Int)) ev_c fun H1 e1 => ?_
    have ha1 := e1 a _ ha
    refine q_forEn (xs := nv z) (K := K) (ea_cons (ev_var rfl) ea_nil) (sq_of ha1) (fun m σ' H' => ∃ (y3 y4 : Option V), σ' = [some (.ref a), some (.int ((botTo z m : Nat) : Int)), y3, y4] ∧ Ex H1 H')
      (fun H5 e5 => ⟨none, none, rfl, e5⟩) (fun m σ' H' _ ⟨_, _, _, e⟩ => sq_of (e a _ ha1)) ?_ ?_
    · rintro m v σ' H5 H6 hv ⟨y3, y4, rfl, e5⟩ e6
      have hml : m < z.length := by
        have := (List.getElem?_eq_some_iff.mp hv).1
        rw [nv_len] at this
        exact this
      have hx : z[m]? = some (z.getD m 0) := by
        rw [List.getD_eq_getElem?_getD, List.getElem?_eq_getElem hml]
        rfl
      have ev : v = .int (z.getD m 0 : Nat) := by
        have := nv_get hx
        rw [hv] at this
        exact Option.some.inj this
      subst ev
      have e06 := e5.trans e6
      have ha6 := e06 a _ ha1
      have xm : z.getD m 0 ≤ 20 := Nat.le_trans (le_sum (List.mem_of_getElem? hx)) z20
      have bd := (botTo_bd o m (by omega)).2
      have bd2 : botTo z m < 2 ^ 200 := Nat.lt_of_le_of_lt bd (Nat.lt_of_le_of_lt (Nat.pow_le_pow_right (by decide) (show m ≤ 20 by omega)) (by decide))
      have c2 : (z.take (m + 1)).count (z.getD m 0) ≤ 20 := by
        have := List.count_le_length (a := z.getD m 0) (l := z.take (m + 1))
        rw [List.length_take] at this
        omega
      have m1 : CMulX ((botTo z m : Nat) : Int) (z.getD m 0 : Nat) := mulx_ok (a := 250) (b := 64) (by rw [Int.natAbs_natCast]; exact Nat.lt_of_lt_of_le bd2 (Nat.pow_le_pow_right (by decide) (by decide))) (by omega) (by decide)
      have m2 : CMulX (((botTo z m : Nat) : Int) * (z.getD m 0 : Nat)) (((z.take (m + 1)).count (z.getD m 0) : Nat) : Int) := mulx_ok (a := 300) (b := 64) (by
        rw [← Int.natCast_mul, Int.natAbs_natCast]
        exact Nat.lt_of_lt_of_le (Nat.mul_lt_mul_of_lt_of_le bd2 (show z.getD m 0 ≤ 32 by omega) (by decide)) (by decide)) (by omega) (by decide)
      have g := el_sl (K := K) (te := tVar 0) (σ := [some (.ref a), some (.int ((botTo z m : Nat) : Int)), some (.int (m : Int)), some (.int (z.getD m 0 : Nat))]) (H := H6) (lo := none) (hi := some ((m : Int) + 1)) (tl := tNoPart) (th := tPart (tOp (rI0 fun i j => .int (i + j)) (tVar 2) (tC (.int 1)))) (ev_var rfl) eo_none (eo_some (ev_op (ev_var rfl) ev_c rv_I0)) (sq_of ha6)
      rw [show (m : Int) + 1 = ((m + 1 : Nat) : Int) by omega, cut_to (by omega)] at g
      have cnt := ev_countFL (K := K) (te := tVar 3) (y := .int (z.getD m 0 : Nat)) g (fun H7 e7 => ev_var rfl) rfl (nv_flat _)
      rw [count_nv] at cnt
      refine s_asg (v := .int ((botTo z (m + 1) : Nat) : Int)) (ev_is (ev_op (ev_op (ev_var rfl) (ev_var rfl) (rv_I m1)) cnt (rv_I m2)) ?_) fun H7 e7 => ⟨_, _, rfl, e06.trans e7⟩
      show V.int (((botTo z m : Nat) : Int) * (z.getD m 0 : Nat) * (((z.take (m + 1)).count (z.getD m 0) : Nat) : Int)) = V.int ((botTo z m * z.getD m 0 * (z.take (m + 1)).count (z.getD m 0) : Nat) : Int)
      rw [Int.natCast_mul, Int.natCast_mul]
    · rintro σ' H' ⟨y3, y4, rfl, e⟩
      rw [nv_len]
      have bd := botTo_bd o z.length (Nat.le_refl _)
      have bd2 : botTo z z.length < 2 ^ 200 := Nat.lt_of_le_of_lt bd.2 (Nat.lt_of_le_of_lt (Nat.pow_le_pow_right (by decide) (show z.length ≤ 20 by omega)) (by decide))
      have sm : Ev (tCB (rSum K) (tCons (tVar 0) tNil)) [some (.ref a), some (.int ((botTo z z.length : Nat) : Int)), y3, y4] H' (.int (z.sum : Int)) := fun H1 e' Q q => ev_var (i := 0) (v := .ref a) rfl H1 e' _ fun H2 e2 => ⟨a, iz z, rfl, sq_of (e2 a _ (e' a _ (e a _ ha1))), by rw [iz_sum]; exact q H2 e2⟩
      have dv : CDivW ((fac z.sum : Nat) : Int) ((botTo z z.length : Nat) : Int) := divw_ok (by omega) (by omega)
      exact s_ret (ev_is (ev_op (ev_fac sm (by omega)) (ev_var rfl) (rv_I dv)) (congrArg V.int (Int.natCast_ediv _ _).symm)) fun H2 e2 => k _ (e1.trans (e.trans e2))
end

theorem prm_bd : ∀ n : Nat, n < 20 → ∀ k : Nat, k < 20 → (prm n k).natAbs < 2 ^ 64 := by decide +kernel
/-! ### ways with sizes, told by the first table -/
def botP : List Nat → Nat
  | [] => 1
  | x :: r => x * (r.count x + 1) * botP r
theorem botP_perm {a b : List Nat} (h : a.Perm b) : botP a = botP b := by
  induction h with
  | nil => rfl
  | cons x h ih =>
    show x * (_ + 1) * botP _ = x * (_ + 1) * botP _
    rw [h.count_eq, ih]
  | swap x y l =>
    show y * ((x :: l).count y + 1) * (x * (l.count x + 1) * botP l) = x * ((y :: l).count x + 1) * (y * (l.count y + 1) * botP l)
    by_cases e : x = y
    · subst e
      rfl
    · rw [List.count_cons_of_ne e, List.count_cons_of_ne (Ne.symm e)]
      generalize l.count x + 1 = A
      generalize l.count y + 1 = B
      generalize botP l = C
      simp only [Nat.mul_assoc, Nat.mul_left_comm, Nat.mul_comm]
  | trans _ _ a b => exact a.trans b
theorem botTo_P (s : List Nat) : ∀ i, i ≤ s.length → botTo s i = botP (s.take i).reverse
  | 0, _ => by simp [botTo, botP]
  | i + 1, h => by
    have ih := botTo_P s i (by omega)
    have hx : s[i]? = some (s.getD i 0) := by
      rw [List.getD_eq_getElem?_getD, List.getElem?_eq_getElem (by omega)]
      rfl
    show botTo s i * s.getD i 0 * (s.take (i + 1)).count (s.getD i 0) = _
    rw [take_next hx, List.reverse_append, ih, List.count_append]
    show _ = s.getD i 0 * ((s.take i).reverse.count (s.getD i 0) + 1) * botP (s.take i).reverse
    rw [List.count_reverse]
    have : [s.getD i 0].count (s.getD i 0) = 1 := by simp
    rw [this]
    generalize botP (s.take i).reverse = C
    generalize (s.take i).count (s.getD i 0) + 1 = B
    simp only [Nat.mul_assoc, Nat.mul_left_comm, Nat.mul_comm]
theorem wws_P (s : List Nat) : wws s = fac s.sum / botP s := by
  unfold wws
  rw [botTo_P s s.length (Nat.le_refl _), List.take_length, botP_perm (List.reverse_perm s)]
theorem psumN {a b : List Nat} (h : a.Perm b) : a.sum = b.sum := by
  induction h with
  | nil => rfl
  | cons x _ ih => rw [List.sum_cons, List.sum_cons, ih]
  | swap x y l => simp only [List.sum_cons]; omega
  | trans _ _ a b => exact a.trans b
theorem wws_perm {a b : List Nat} (h : a.Perm b) : wws a = wws b := by rw [wws_P, wws_P, botP_perm h, psumN h]
theorem erase_sum {s : List Nat} {x : Nat} (h : x ∈ s) : x + (s.erase x).sum = s.sum := by
  have := psumN (List.perm_cons_erase h)
  rw [List.sum_cons] at this
  omega
theorem botP_take {s : List Nat} {x : Nat} (h : x ∈ s) : botP s = x * s.count x * botP (s.erase x) := by
  rw [botP_perm (List.perm_cons_erase h)]
  show x * ((s.erase x).count x + 1) * botP (s.erase x) = _
  have c := List.count_pos_iff.mpr h
  rw [List.count_erase_self, show s.count x - 1 + 1 = s.count x by omega]
theorem botP_pos {s : List Nat} (h : ∀ x ∈ s, 1 ≤ x) : 1 ≤ botP s := by
  induction s with
  | nil => exact Nat.le_refl _
  | cons x r ih => exact Nat.mul_pos (Nat.mul_pos (h x List.mem_cons_self) (Nat.succ_pos _)) (ih fun y hy => h y (List.mem_cons_of_mem _ hy))
theorem keys_of (s : List Nat) : ∃ K : List Nat, K.Nodup ∧ ∀ x, x ∈ K ↔ x ∈ s := by
  induction s with
  | nil => exact ⟨[], List.nodup_nil, fun x => Iff.rfl⟩
  | cons y r ih =>
    obtain ⟨K, nd, h⟩ := ih
    by_cases e : y ∈ K
    · refine ⟨K, nd, fun x => ?_⟩
      rw [List.mem_cons, ← h]
      exact ⟨.inr, fun q => q.elim (fun z => z ▸ e) id⟩
    · refine ⟨y :: K, List.nodup_cons.mpr ⟨e, nd⟩, fun x => ?_⟩
      rw [List.mem_cons, List.mem_cons, h]
theorem one_key {K : List Nat} (nd : K.Nodup) {y : Nat} (h : y ∈ K) : (K.map fun x => if x = y then y else 0).sum = y := by
  induction K with
  | nil => cases h
  | cons z r ih =>
    have hn := List.nodup_cons.mp nd
    rw [List.map_cons, List.sum_cons]
    by_cases e : z = y
    · have : (r.map fun x => if x = y then y else 0) = r.map fun _ => 0 := List.map_congr_left fun x hx => if_neg fun (q : x = y) => hn.1 (by rw [e, ← q]; exact hx)
      rw [if_pos e, this]
      have : ∀ l : List Nat, (l.map fun _ => 0).sum = 0 := fun l => by
        induction l with
        | nil => rfl
        | cons _ _ ih => rw [List.map_cons, List.sum_cons, ih]
      rw [this]
      rfl
    · rw [if_neg e, ih hn.2 ((List.mem_cons.mp h).resolve_left fun q => e q.symm)]
      omega
theorem add_map {α : Type} (f g : α → Nat) (l : List α) : (l.map fun x => f x + g x).sum = (l.map f).sum + (l.map g).sum := by
  induction l with
  | nil => rfl
  | cons x r ih => simp only [List.map_cons, List.sum_cons, ih]; omega
theorem sum_count {K : List Nat} (nd : K.Nodup) : ∀ {s : List Nat}, (∀ x ∈ s, x ∈ K) → (K.map fun x => x * s.count x).sum = s.sum
  | [], _ => by
    have : (K.map fun x => x * ([] : List Nat).count x) = K.map fun _ => 0 := List.map_congr_left fun x _ => by simp
    rw [this]
    have z : ∀ l : List Nat, (l.map fun _ => 0).sum = 0 := fun l => by
      induction l with
      | nil => rfl
      | cons _ _ ih => rw [List.map_cons, List.sum_cons, ih]
    rw [z]
    rfl
  | y :: r, h => by
    have ih := sum_count nd (s := r) fun x hx => h x (List.mem_cons_of_mem _ hx)
    have : (K.map fun x => x * (y :: r).count x) = K.map fun x => x * r.count x + if x = y then y else 0 := List.map_congr_left fun x _ => by
      rw [List.count_cons]
      by_cases e : x = y
      · subst e
        simp [Nat.mul_add]
      · rw [if_neg e, if_neg (by simpa using fun q : y = x => e q.symm)]
        rfl
    rw [this, add_map, ih, one_key nd (h y List.mem_cons_self), List.sum_cons]
    omega
theorem mul_mapI {α : Type} (a : Int) (f : α → Int) (l : List α) : a * (l.map f).sum = (l.map fun x => a * f x).sum := by
  induction l with
  | nil => simp
  | cons x r ih => rw [List.map_cons, List.sum_cons, Int.mul_add, ih, List.map_cons, List.sum_cons]
theorem sum_castN {α : Type} (f : α → Nat) (l : List α) : (((l.map f).sum : Nat) : Int) = (l.map fun x => (f x : Int)).sum := by
  induction l with
  | nil => rfl
  | cons x r ih => rw [List.map_cons, List.sum_cons, List.map_cons, List.sum_cons, ← ih, Int.natCast_add]
/-- all seatings with these sizes, by the size of the first one's table -/
theorem wws_step {s K : List Nat} (pos : ∀ x ∈ s, 1 ≤ x) (ne : s ≠ []) (nd : K.Nodup) (hm : ∀ x, x ∈ K ↔ x ∈ s) (ih : ∀ x ∈ s, botP (s.erase x) * wws (s.erase x) = fac (s.erase x).sum) :
    botP s * wws s = fac s.sum ∧ (wws s : Int) = (K.map fun x => prm (s.sum - 1) (x - 1) * (wws (s.erase x) : Int)).sum := by
  have n1 : 1 ≤ s.sum := by
    cases s with
    | nil => exact absurd rfl ne
    | cons y r =>
      have := pos y List.mem_cons_self
      rw [List.sum_cons]
      omega
  have bp := botP_pos pos
  have key : (botP s : Int) * (K.map fun x => prm (s.sum - 1) (x - 1) * (wws (s.erase x) : Int)).sum = (fac s.sum : Int) := by
    rw [mul_mapI]
    have e : (K.map fun x => (botP s : Int) * (prm (s.sum - 1) (x - 1) * (wws (s.erase x) : Int))) = K.map fun x => (fac (s.sum - 1) : Int) * ((x * s.count x : Nat) : Int) := List.map_congr_left fun x hx => by
      have hx := (hm x).mp hx
      have x1 := pos x hx
      have es := erase_sum hx
      have pf := prm_fac (n := s.sum - 1) (k := x - 1) (by omega)
      rw [show s.sum - 1 - (x - 1) = (s.erase x).sum by omega] at pf
      have hi := congrArg (Nat.cast : Nat → Int) (ih x hx)
      rw [← pf, ← hi, botP_take hx]
      push_cast
      generalize (wws (s.erase x) : Int) = A
      generalize (botP (s.erase x) : Int) = B
      generalize prm (s.sum - 1) (x - 1) = C
      generalize (x : Int) = D
      generalize (s.count x : Int) = F
      grind
    rw [e, ← mul_mapI, ← sum_castN, sum_count nd fun x hx => (hm x).mpr hx, ← Int.natCast_mul]
    have := fac_succ (s.sum - 1)
    rw [show s.sum - 1 + 1 = s.sum by omega] at this
    rw [this]
  have e2 : (wws s : Int) = (K.map fun x => prm (s.sum - 1) (x - 1) * (wws (s.erase x) : Int)).sum := by
    rw [wws_P, Int.natCast_ediv, ← key, Int.mul_ediv_cancel_left _ (by omega)]
  refine ⟨?_, e2⟩
  rw [← e2, ← Int.natCast_mul] at key
  exact Int.ofNat_inj.mp key
theorem wws_ok : ∀ (n : Nat) (s : List Nat), s.length = n → (∀ x ∈ s, 1 ≤ x) → botP s * wws s = fac s.sum
  | 0, s, h, _ => by
    rw [List.length_eq_zero_iff.mp h]
    decide
  | n + 1, s, h, pos => by
    obtain ⟨K, nd, hm⟩ := keys_of s
    refine (wws_step pos (fun e => by rw [e] at h; cases h) nd hm fun x hx => wws_ok n _ ?_ fun y hy => pos y (List.mem_of_mem_erase hy)).1
    rw [List.length_erase_of_mem hx]
    omega
theorem wws_by {s K : List Nat} (pos : ∀ x ∈ s, 1 ≤ x) (ne : s ≠ []) (nd : K.Nodup) (hm : ∀ x, x ∈ K ↔ x ∈ s) : (wws s : Int) = (K.map fun x => prm (s.sum - 1) (x - 1) * (wws (s.erase x) : Int)).sum :=
  (wws_step pos ne nd hm fun x _ => wws_ok _ _ rfl fun y hy => pos y (List.mem_of_mem_erase hy)).2
theorem prm_none (n : Nat) : prm n 0 = 1 := by
  have h := prm_fac (Nat.zero_le n)
  have p := fac_pos n
  rw [Nat.sub_zero] at h
  exact Int.eq_of_mul_eq_mul_right (a := (fac n : Int)) (by omega) (by rw [h, Int.one_mul])
theorem prm_gt {n k : Nat} (h : n < k) : prm n k = 0 := PySem.W.mcPerm_above (by omega)
theorem prm_up {n k : Nat} : prm (n + 1) (k + 1) = ((n : Int) + 1) * prm n k := by
  by_cases h : k ≤ n
  · have a := prm_fac (n := n) (k := k) h
    have b := prm_fac (n := n + 1) (k := k + 1) (by omega)
    have p := fac_pos (n - k)
    rw [show n + 1 - (k + 1) = n - k by omega, fac_succ] at b
    refine Int.eq_of_mul_eq_mul_right (a := (fac (n - k) : Int)) (by omega) ?_
    rw [b, Int.mul_assoc, a]
    push_cast
    rw [Int.mul_comm]
  · rw [prm_gt (by omega), prm_gt (by omega), Int.mul_zero]
theorem prm_nn (n k : Nat) : 0 ≤ prm n k := by
  by_cases h : k ≤ n
  · have := prm_pos h
    omega
  · rw [prm_gt (by omega)]
    exact Int.le_refl _
/-- what goes on from a table of L guests, with m others about: those that end with it or later -/
def goS (ps : List (Int × Int)) (L m : Nat) : Int := (ps.map fun p => if (L : Int) ≤ p.1 then prm m (p.1 - (L : Int)).toNat * p.2 else 0).sum
theorem add_mapI {α : Type} (f g : α → Int) (l : List α) : (l.map fun x => f x + g x).sum = (l.map f).sum + (l.map g).sum := by
  induction l with
  | nil => rfl
  | cons x r ih => simp only [List.map_cons, List.sum_cons, ih]; omega
theorem goS_step {ps : List (Int × Int)} (nd : (ps.map (·.1)).Nodup) (L m : Nat) : goS ps L (m + 1) = gI ps (L : Int) + ((m : Int) + 1) * goS ps (L + 1) m := by
  unfold goS
  rw [mul_mapI, ← gI_sum (L : Int) nd, ← add_mapI]
  congr 1
  refine List.map_congr_left fun p _ => ?_
  by_cases a : p.1 = (L : Int)
  · rw [if_pos (by omega), if_pos a, if_neg (by omega), show (p.1 - (L : Int)).toNat = 0 by omega, prm_none]
    omega
  · rw [if_neg a]
    by_cases b : (L : Int) ≤ p.1
    · obtain ⟨k, hk⟩ : ∃ k : Nat, p.1 = (L : Int) + (k : Int) + 1 := ⟨(p.1 - L - 1).toNat, by omega⟩
      rw [if_pos b, if_pos (by omega), show (p.1 - (L : Int)).toNat = k + 1 by omega, show (p.1 - ((L + 1 : Nat) : Int)).toNat = k by omega, prm_up, Int.mul_assoc]
      omega
    · rw [if_neg b, if_neg (by omega), Int.mul_zero]
      omega
theorem goS_end {ps : List (Int × Int)} (nd : (ps.map (·.1)).Nodup) (L : Nat) : goS ps L 0 = gI ps (L : Int) := by
  unfold goS
  rw [← gI_sum (L : Int) nd]
  congr 1
  refine List.map_congr_left fun p _ => ?_
  by_cases a : p.1 = (L : Int)
  · rw [if_pos (by omega), if_pos a, show (p.1 - (L : Int)).toNat = 0 by omega, prm_none, Int.one_mul]
  · rw [if_neg a]
    split
    · rw [prm_gt (by omega), Int.zero_mul]
    · rfl
/-- sizes and the ways behind each of them -/
structure Beh (ps : List (Int × Int)) : Prop where
  nd : (ps.map (·.1)).Nodup
  rg : ∀ p ∈ ps, 1 ≤ p.1 ∧ p.1 ≤ 20
  bd : ∀ p ∈ ps, 0 ≤ p.2 ∧ p.2 < 2 ^ 64
  len : ps.length ≤ 20
theorem gI_mem {ps : List (Int × Int)} {x : Int} (h : gI ps x ≠ 0) : ∃ v, (x, v) ∈ ps ∧ gI ps x = v := by
  unfold gI at h ⊢
  cases e : ps.find? fun p => decide (p.1 = x) with
  | none => rw [e] at h; exact absurd rfl h
  | some p =>
    have h0 := List.find?_some e
    have : p.1 = x := by simpa using h0
    exact ⟨p.2, by rw [← this]; exact List.mem_of_find?_eq_some e, rfl⟩
theorem Beh.get {ps : List (Int × Int)} (B : Beh ps) (x : Int) : 0 ≤ gI ps x ∧ gI ps x < 2 ^ 64 := by
  by_cases h : gI ps x = 0
  · rw [h]
    decide
  · obtain ⟨v, hv, e⟩ := gI_mem h
    rw [e]
    exact B.bd _ hv
theorem goS_bd {ps : List (Int × Int)} (B : Beh ps) {L m : Nat} (hm : m < 20) (hL : 1 ≤ L) : 0 ≤ goS ps L m ∧ goS ps L m ≤ 20 * (2 ^ 64 * 2 ^ 64) := by
  have one : ∀ p ∈ ps, 0 ≤ (if (L : Int) ≤ p.1 then prm m (p.1 - (L : Int)).toNat * p.2 else 0) ∧ (if (L : Int) ≤ p.1 then prm m (p.1 - (L : Int)).toNat * p.2 else 0) ≤ 2 ^ 64 * 2 ^ 64 := fun p hp => by
    have a := B.bd p hp
    have r := B.rg p hp
    split
    · have n0 := prm_nn m (p.1 - (L : Int)).toNat
      have b := prm_bd m hm (p.1 - (L : Int)).toNat (by omega)
      refine ⟨Int.mul_nonneg n0 a.1, Int.mul_le_mul (by omega) (by omega) a.1 (by decide)⟩
    · exact ⟨Int.le_refl _, by decide⟩
  have len := B.len
  have gen : ∀ l : List (Int × Int), (∀ p ∈ l, p ∈ ps) → 0 ≤ goS l L m ∧ goS l L m ≤ l.length * (2 ^ 64 * 2 ^ 64) := fun l => by
    induction l with
    | nil => intro _; exact ⟨Int.le_refl _, by simp [goS]⟩
    | cons p r ih =>
      intro h
      obtain ⟨i1, i2⟩ := ih fun q hq => h q (List.mem_cons_of_mem _ hq)
      obtain ⟨o1, o2⟩ := one p (h p List.mem_cons_self)
      unfold goS at i1 i2 ⊢
      rw [List.map_cons, List.sum_cons, List.length_cons]
      omega
  obtain ⟨g1, g2⟩ := gen ps fun p hp => hp
  refine ⟨g1, Int.le_trans g2 ?_⟩
  exact Int.mul_le_mul_of_nonneg_right (by omega) (by decide)



local macro_rules | `(tactic| walk_at "call") => `(tactic| (with_reducible exact sv_whole))
local macro_rules | `(tactic| walk_at "call") => `(tactic| ((with_reducible refine' sv_order ?c1 ?c2); (case c1 => assumption); (case c2 => assumption)))
local macro_rules | `(tactic| walk_at "call") => `(tactic| ((with_reducible refine' sv_ord ?c1 ?c2); (case c1 => assumption); (case c2 => assumption)))

local macro_rules | `(tactic| walk_at "call") => `(tactic| (with_reducible exact sv_whole))
local macro_rules | `(tactic| walk_at "call") => `(tactic| ((with_reducible refine' sv_ord ?c1 ?c2); (case c1 => assumption); (case c2 => assumption)))

local macro_rules | `(tactic| walk_at "call") => `(tactic| ((with_reducible refine' sv_pow ?c1 ?c2 ?c3); (case c1 => walk_at "side"); (case c2 => walk_at "side"); (case c3 => walk_at "side")))
local macro_rules | `(tactic| walk_at "call") => `(tactic| ((with_reducible refine' sv_rise ?c1 ?c2); (case c1 => walk_at "side"); (case c2 => walk_at "side")))
local macro_rules | `(tactic| walk_at "call") => `(tactic| (with_reducible exact sv_between))
local macro_rules | `(tactic| walk_at "call") => `(tactic| ((with_reducible refine' sv_check1 ?c1 ?c2); (case c1 => walk_at "side"); (case c2 => walk_at "side")))
local macro_rules | `(tactic| walk_at "call") => `(tactic| ((with_reducible refine' sv_check_number ?c1 ?c2); (case c1 => walk_at "side"); (case c2 => walk_at "side")))
local macro_rules | `(tactic| walk_at "callU") => `(tactic| ((with_reducible refine' su_fraction ?c1 ?c2); (case c1 => walk_at "side"); (case c2 => walk_at "side")))

/-! ### ways_behind_sizes, ways_to_go_on -/
section
variable {K : PySem.W.Frag} {σ : L2.St} {H : Hp} {td te : TE} {t : TT}
/-- [e for x, y in d.items() if t], what is told and asked is of x and y alone -/
theorem el_itemsI {d : Addr} {ps : List (Int × Int)} {i j : Nat} {vs : List Nat} (f : Nat → Bool) (v : Nat → V) (h : ∀ H1, Ev td σ H1 (.ref d)) (hd : H d = some (.dK (enc ps))) (hz : ps.length ≤ 40000) (hw : ∀ x y, wipe (((wipe σ vs).set i (some x)).set j (some y)) vs = wipe σ vs)
    (ht : ∀ (n : Nat) a b H1, ps[n]? = some (a, b) → EvT t (((wipe σ vs).set i (some (.int a))).set j (some (.int b))) H1 (f n))
    (he : ∀ (n : Nat) a b H1, ps[n]? = some (a, b) → f n = true → Ev te (((wipe σ vs).set i (some (.int a))).set j (some (.int b))) H1 (v n)) :
    EvL (tLockE (tLc (iItems td) (gTup K 2 (gCons (gName i) (gCons (gName j) gNil))) t te vs)) σ H (given ps.length f v) := fun H0 e Q q => ⟨d, .dK (enc ps), e d _ hd, True.intro, fun o => h _ _ (Ex.refl _) _ fun H1 e1 => ⟨d, o, enc ps, rfl, e1 d _ upd_same, fun Dl hD => by
  have le : (enc ps).length = ps.length := List.length_map ..
  have hd1 := e1 d _ upd_same
  have nd : Dl ≠ d := fun z => by rw [z, hd1] at hD; cases hD
  refine lc_it walk_items (Cw H1 f v Dl) ⟨hD, Ex.new hD, upd_same⟩ (fun n H' _ p => p.2.1 d _ hd1) ?_ fun H' p => ?_
  · rintro n w Hh H' hn p ⟨T, x, y, rfl, nT, rfl, g1, g2⟩
    have eT : Ex Hh (upd Hh T (.tup [x, y])) := Ex.new nT
    obtain ⟨q1, hq1, eq1⟩ := Option.map_eq_some_iff.mp g1
    obtain ⟨q2, hq2, eq2⟩ := Option.map_eq_some_iff.mp g2
    rw [hq1] at hq2
    cases hq2
    unfold enc at hq1
    rw [List.getElem?_map] at hq1
    obtain ⟨p0, hp0, ep0⟩ := Option.map_eq_some_iff.mp hq1
    subst ep0
    obtain ⟨a, b⟩ := p0
    subst eq1 eq2
    rw [le] at hn
    refine ⟨T, [.int a, .int b], rfl, st_of upd_same, rfl, _, [.int b], rfl, .int b, [], rfl, rfl, hw _ _, ?_⟩
    exact cw_turn (H := H1) ⟨p.1, p.2.1.trans eT, eT Dl _ p.2.2⟩ (by omega) (ht n a b H1 hp0) fun hf => he n a b H1 hp0 hf
  · rw [le] at p
    refine ⟨p.2.1 d _ hd1, q Dl _ ?_ (fun b u hb => ?_) (by rw [upd_ne nd]; exact p.2.2)⟩
    · have := fresh_back e1 hD
      rw [upd_ne nd] at this
      exact this
    · by_cases z : b = d
      · rw [z, e d _ hd] at hb
        cases hb
        rw [z, upd_same]
      · rw [upd_ne z]
        exact p.2.1 b _ (e1 b _ (by rw [upd_ne z]; exact hb))⟩⟩
end
theorem sum_filt {α : Type} (f : α → Bool) (g : α → Int) (l : List α) : ((l.filter f).map g).sum = (l.map fun x => if f x = true then g x else 0).sum := by
  induction l with
  | nil => rfl
  | cons x r ih =>
    rw [List.map_cons, List.sum_cons, List.filter_cons]
    by_cases h : f x = true
    · rw [if_pos h, if_pos h, List.map_cons, List.sum_cons, ih]
    · rw [if_neg h, if_neg h, ih, Int.zero_add]
/-- how ways_to_go_on adds up -/
def goL (ps : List (Int × Int)) (L m : Nat) : List Int := ((List.range ps.length).filter fun i => decide ((L : Int) < (ps.getD i (0, 0)).1)).map fun i => prm m ((ps.getD i (0, 0)).1 - (L : Int) - 1).toNat * (ps.getD i (0, 0)).2
theorem goL_sum (ps : List (Int × Int)) (L m : Nat) : (goL ps L m).sum = goS ps (L + 1) m := by
  unfold goL goS
  rw [sum_filt]
  conv => rhs; rw [range_get ps (0, 0)]
  rw [List.map_map]
  congr 1
  refine List.map_congr_left fun i _ => ?_
  simp only [Function.comp]
  generalize ps.getD i (0, 0) = p
  by_cases h : (L : Int) < p.1
  · rw [if_pos (by simpa using h), if_pos (by omega), show (p.1 - ((L + 1 : Nat) : Int)).toNat = (p.1 - (L : Int) - 1).toNat by omega]
  · rw [if_neg (by simpa using h), if_neg (by omega)]
def sp_go_on : Sp := fun vs H Q _ => ∃ (L m : Nat) (d : Addr) (ps : List (Int × Int)), vs = [.int (L : Int), .int ((m + 1 : Nat) : Int), .ref d] ∧ m < 20 ∧ H d = some (.dK (enc ps)) ∧ Beh ps ∧ RetV (.int (goS ps (L + 1) m)) H Q
theorem sv_go_on {H : Hp} {L m : Nat} {d : Addr} {ps : List (Int × Int)} (hm : m < 20) (hd : H d = some (.dK (enc ps))) (B : Beh ps) : SpV sp_go_on ([.int (L : Int), .int ((m + 1 : Nat) : Int), .ref d] ++ []) H (.int (goS ps (L + 1) m)) := fun H1 e Q q E => ⟨L, m, d, ps, rfl, hm, e d _ hd, B, q⟩
section
variable {P : Program} {w : World} {K : PySem.W.Frag} {mg : Str → Option Value} {base : Heap}
theorem ok_ways_to_go_on (T : Tx K mg) : FnOk P w K mg base CX0 1 T.f_ways_to_go_on T.d_ways_to_go_on ["length", "many", "behind"] sp_go_on := by
  refine T.F_ways_to_go_on.ok sc_ways_to_go_on (fun vs H Q E h => ?_) (fun cdv A outer s H vs Q E hr h => ?_)
  · obtain ⟨L, m, d, ps, rfl, _⟩ := h
    rfl
  · obtain ⟨L, m, d, ps, rfl, hm, hd, B, k⟩ := h
    refine ⟨_, (pss_one (ps_ret (pe_callB (cr_sum rfl) (by rfl) T.m_sum (by decide +kernel) (pa_cons (pe_lock (pe_lc (own := [("size", 3), ("ways", 4)]) (g := (gTup _ 2 (gCons (gName 3) (gCons (gName 4) gNil)))) rfl sc_ways_to_go_on.nd (pi_items (pv 2)) (blkOk_by (own := [("size", 3), ("ways", 4)]) (N := n_ways_to_go_on) (sc := defScope s_ways_to_go_on) (by decide +kernel)) (fun _ _ _ _ _ => (pg_tup rfl (pgs_cons (pg_name (i := 3) sc_ways_to_go_on.nd rfl (Or.inl rfl)) (pgs_cons (pg_name (i := 4) sc_ways_to_go_on.nd rfl (Or.inl rfl)) pgs_nil)))) (fun _ _ _ _ _ => (pts_one (pt_cmpR op_gt (pv 3) (pv 0) (nomark _)))) (fun _ _ _ _ _ => (pe_op op_mulX (pe_callBfun cr_perm (by rfl) T.i_perm (pa_cons (pe_op op_sub (pv 1) pe_int) (pa_cons (pe_op op_sub (pe_op op_sub (pv 3) (pv 0)) pe_int) pa_nil))) (pv 4))))) pa_nil)))), ?_⟩
    have bl := B.len
    rw [← goL_sum] at k
    refine s_ret (ev_sumN (ns := goL ps L m) ?_) fun H1 e1 => k H1 e1
    have eg : (goL ps L m).map V.int = given ps.length (fun i => decide ((L : Int) < (ps.getD i (0, 0)).1)) (fun i => V.int (prm m ((ps.getD i (0, 0)).1 - (L : Int) - 1).toNat * (ps.getD i (0, 0)).2)) := by
      unfold goL given
      rw [List.map_map]
      rfl
    rw [eg]
    refine el_itemsI _ _ (fun H1 => ev_var rfl) hd (by omega) (fun _ _ => rfl) (fun n a b H1 hn => ?_) fun n a b H1 hn hf => ?_
    · have : ps.getD n (0, 0) = (a, b) := by rw [List.getD_eq_getElem?_getD, hn]; rfl
      rw [this]
      exact et_is (et_test (ev_op (ev_var rfl) (ev_var rfl) rv_I0)) (by simp)
    · have e0 : ps.getD n (0, 0) = (a, b) := by rw [List.getD_eq_getElem?_getD, hn]; rfl
      rw [e0] at hf ⊢
      have hf := of_decide_eq_true hf
      have r := B.rg _ (List.mem_of_getElem? hn)
      have bd := B.bd _ (List.mem_of_getElem? hn)
      have ra : 1 ≤ a ∧ a ≤ 20 := r
      have hf : (L : Int) < a := hf
      have ba : 0 ≤ b ∧ b < 2 ^ 64 := bd
      exact ev_op (ev_perm (n := m) (k := (a - (L : Int) - 1).toNat) (ev_is (ev_op (ev_var rfl) ev_c rv_I0) (congrArg V.int (by omega))) (ev_is (ev_op (ev_op (ev_var rfl) (ev_var rfl) rv_I0) ev_c rv_I0) (congrArg V.int (by omega))) (by omega) (by omega)) (ev_var rfl) (rv_I (mulx_ok (a := 64) (b := 64) (prm_bd _ hm _ (by omega)) (by omega) (by decide)))
end

theorem idx_before : ∀ {F : List Nat} {g m : Nat}, m < F.idxOf g → F[m]? ≠ some g
  | [], _, _, _, e => by simp at e
  | x :: l, g, m, h, e => by
    rw [List.idxOf_cons] at h
    by_cases z : x = g
    · rw [z] at h
      simp at h
    · have zb : (x == g) = false := by simpa using z
      rw [zb] at h
      cases m with
      | zero => exact z (Option.some.inj e)
      | succ m => exact idx_before (F := l) (g := g) (m := m) (Nat.lt_of_succ_lt_succ h) e
theorem erase_idx : ∀ (F : List Nat) (g : Nat), F.eraseIdx (F.idxOf g) = F.erase g
  | [], _ => rfl
  | x :: l, g => by
    rw [List.idxOf_cons, List.erase_cons]
    by_cases z : x = g
    · have zb : (x == g) = true := by simpa using z
      rw [zb]
      rfl
    · have zb : (x == g) = false := by simpa using z
      rw [zb]
      show x :: l.eraseIdx (l.idxOf g) = x :: l.erase g
      rw [erase_idx l g]
theorem q_remI {K : PySem.W.Frag} {σ : L2.St} {H : Hp} {ta te : TE} {D : Ends} {tz : TS} {l : Addr} {F : List Nat} {g : Nat} (hl : H l = some (.lst (nv F))) (hg : g ∈ F) (ha : Ev ta σ H (.ref l)) (he : Ev te σ H (.int (g : Int))) (k : ∀ H1, Ex H H1 → tz D σ (upd H1 l (.lst (nv (F.erase g))))) : tSeq (tDrop (tBM K "list" rRemI ta (tCons te tNil))) tz D σ H :=
  ha H (Ex.refl H) _ fun H1 e1 => ⟨Or.inl ⟨rfl, nv F, sq_of (e1 l _ hl)⟩, he H1 e1 _ fun H2 e2 => by
    have ig := List.idxOf_lt_length_of_mem hg
    refine ⟨l, iz F, (g : Int), F.idxOf g, rfl, rfl, e2 l _ (e1 l _ hl), ?_, fun m hm e => ?_, ?_⟩
    · unfold iz
      rw [List.getElem?_map, List.getElem?_eq_getElem ig, List.getElem_idxOf ig]
      rfl
    · unfold iz at e
      rw [List.getElem?_map] at e
      obtain ⟨y, hy, e⟩ := Option.map_eq_some_iff.mp e
      have : y = g := by omega
      subst this
      exact idx_before hm hy
    · have e : ((iz F).eraseIdx (F.idxOf g)).map V.int = nv (F.erase g) := by
        rw [← erase_idx, ← nv_erase]
        unfold nv
        rw [List.eraseIdx_eq_take_drop_succ, List.eraseIdx_eq_take_drop_succ, List.map_append, List.map_take, List.map_drop]
      rw [e]
      exact k H2 (e1.trans e2)⟩

/-! ### ways_behind_sizes, table_at -/
def wbTo (s : List Nat) : Nat → List (Int × Int)
  | 0 => []
  | i + 1 => putI (wbTo s i) (s.getD i 0 : Nat) (wws (s.erase (s.getD i 0)) : Nat)
def wbS (s : List Nat) : List (Int × Int) := wbTo s s.length
theorem wbTo_nd (s : List Nat) : ∀ i, ((wbTo s i).map (·.1)).Nodup
  | 0 => List.nodup_nil
  | i + 1 => put_nodup (wbTo_nd s i) _ _
theorem wbTo_len (s : List Nat) : ∀ i, (wbTo s i).length ≤ i
  | 0 => Nat.le_refl _
  | i + 1 => by
    have := put_len (wbTo s i) (s.getD i 0 : Nat) (wws (s.erase (s.getD i 0)) : Nat)
    have := wbTo_len s i
    show (putI _ _ _).length ≤ _
    omega
theorem wbTo_mem {s : List Nat} : ∀ i, i ≤ s.length → ∀ p ∈ wbTo s i, ∃ x ∈ s, p = (((x : Nat) : Int), ((wws (s.erase x) : Nat) : Int))
  | 0, _, p, h => by cases h
  | i + 1, hi, p, h => by
    have hx : s[i]? = some (s.getD i 0) := by
      rw [List.getD_eq_getElem?_getD, List.getElem?_eq_getElem (by omega)]
      rfl
    have hm := List.mem_of_getElem? hx
    have h : p ∈ putI (wbTo s i) (s.getD i 0 : Nat) (wws (s.erase (s.getD i 0)) : Nat) := h
    unfold putI at h
    split at h
    · obtain ⟨q, hq, e⟩ := List.mem_map.mp h
      split at e
      · rename_i z
        exact ⟨_, hm, by rw [← e, z]⟩
      · rw [← e]
        exact wbTo_mem i (by omega) q hq
    · rcases List.mem_append.mp h with z | z
      · exact wbTo_mem i (by omega) p z
      · exact ⟨_, hm, List.mem_singleton.mp z⟩
theorem wbTo_key (s : List Nat) : ∀ i, ∀ j, j < i → ((s.getD j 0 : Nat) : Int) ∈ (wbTo s i).map (·.1)
  | 0, j, h => by omega
  | i + 1, j, h => by
    show _ ∈ (putI _ _ _).map (·.1)
    rw [put_keys]
    by_cases e : j = i
    · subst e
      split
      · assumption
      · exact List.mem_append_right _ (List.mem_singleton.mpr rfl)
    · have ih := wbTo_key s i j (by omega)
      split
      · exact ih
      · exact List.mem_append_left _ ih
theorem wws_lt {s : List Nat} (o : s.sum ≤ 20) : wws s < 2 ^ 64 := Nat.lt_of_le_of_lt (Nat.div_le_self _ _) (Nat.lt_of_le_of_lt (fac_mono o) fac20)
theorem sz0_len {s : List Nat} (o : Sz0 s) : s.length ≤ 20 := Nat.le_trans (sum_ge o.1) o.2
theorem wbTo_beh {s : List Nat} (o : Sz0 s) {i : Nat} (hi : i ≤ s.length) : Beh (wbTo s i) := by
  have sl := sz0_len o
  refine ⟨wbTo_nd s i, fun p hp => ?_, fun p hp => ?_, Nat.le_trans (wbTo_len s i) (by omega)⟩
  · obtain ⟨x, hx, rfl⟩ := wbTo_mem i hi p hp
    have a := o.1 x hx
    have b := Nat.le_trans (le_sum hx) o.2
    show 1 ≤ (x : Int) ∧ (x : Int) ≤ 20
    omega
  · obtain ⟨x, hx, rfl⟩ := wbTo_mem i hi p hp
    have e := erase_sum hx
    have l := wws_lt (s := s.erase x) (by have := o.2; omega)
    show 0 ≤ ((wws (s.erase x) : Nat) : Int) ∧ ((wws (s.erase x) : Nat) : Int) < 2 ^ 64
    omega
theorem wbS_get {s : List Nat} {L : Nat} (h : gI (wbS s) (L : Int) ≠ 0) : L ∈ s ∧ gI (wbS s) (L : Int) = (wws (s.erase L) : Nat) := by
  obtain ⟨v, hv, e⟩ := gI_mem h
  obtain ⟨x, hx, ep⟩ := wbTo_mem s.length (Nat.le_refl _) _ hv
  have h1 : (L : Int) = (x : Int) := congrArg Prod.fst ep
  have h2 : v = (wws (s.erase x) : Nat) := congrArg Prod.snd ep
  have : L = x := by omega
  subst this
  exact ⟨hx, by rw [e, h2]⟩
theorem wbS_go {s : List Nat} (o : Sz0 s) (ne : s ≠ []) : (wws s : Int) = goS (wbS s) 1 (s.sum - 1) := by
  have B := wbTo_beh o (Nat.le_refl s.length)
  have nd : ((wbS s).map fun p => p.1.toNat).Nodup := by
    have h := B.nd
    have e : ((wbS s).map fun p => p.1.toNat) = ((wbS s).map (·.1)).map Int.toNat := by rw [List.map_map]; rfl
    rw [e]
    have pos : ∀ k ∈ (wbS s).map (·.1), 1 ≤ k := fun k hk => by
      obtain ⟨p, hp, rfl⟩ := List.mem_map.mp hk
      exact (B.rg p hp).1
    have gen : ∀ l : List Int, l.Nodup → (∀ k ∈ l, 1 ≤ k) → (l.map Int.toNat).Nodup := fun l => by
      induction l with
      | nil => intro _ _; exact List.nodup_nil
      | cons k r ih =>
        intro nd pos
        have nd := List.nodup_cons.mp nd
        refine List.nodup_cons.mpr ⟨fun z => ?_, ih nd.2 fun q hq => pos q (List.mem_cons_of_mem _ hq)⟩
        obtain ⟨q, hq, e⟩ := List.mem_map.mp z
        have a := pos q (List.mem_cons_of_mem _ hq)
        have b := pos k List.mem_cons_self
        have : q = k := by omega
        exact nd.1 (this ▸ hq)
    exact gen _ h pos
  have hm : ∀ x, x ∈ (wbS s).map (fun p => p.1.toNat) ↔ x ∈ s := fun x => by
    constructor
    · intro h
      obtain ⟨p, hp, rfl⟩ := List.mem_map.mp h
      obtain ⟨y, hy, rfl⟩ := wbTo_mem s.length (Nat.le_refl _) p hp
      exact hy
    · intro h
      obtain ⟨j, hj⟩ := List.getElem?_of_mem h
      have jl := (List.getElem?_eq_some_iff.mp hj).1
      have := wbTo_key s s.length j jl
      have ex : s.getD j 0 = x := by rw [List.getD_eq_getElem?_getD, hj]; rfl
      rw [ex] at this
      obtain ⟨p, hp, e⟩ := List.mem_map.mp this
      exact List.mem_map.mpr ⟨p, hp, by rw [e]; rfl⟩
  rw [wws_by o.1 ne nd hm]
  unfold goS
  rw [List.map_map]
  congr 1
  refine List.map_congr_left fun p hp => ?_
  obtain ⟨x, hx, rfl⟩ := wbTo_mem s.length (Nat.le_refl _) p hp
  have x1 := o.1 x hx
  show prm (s.sum - 1) ((x : Int).toNat - 1) * ((wws (s.erase (x : Int).toNat) : Nat) : Int) = if ((1 : Nat) : Int) ≤ (x : Int) then prm (s.sum - 1) ((x : Int) - ((1 : Nat) : Int)).toNat * ((wws (s.erase x) : Nat) : Int) else 0
  rw [if_pos (by omega), Int.toNat_natCast, show ((x : Int) - ((1 : Nat) : Int)).toNat = x - 1 by omega]
def sp_wbs : Sp := fun vs H Q _ => ∃ (a : Addr) (s : List Nat), vs = [.ref a] ∧ H a = some (.lst (nv s)) ∧ Sz0 s ∧ ∀ p H2, H p = none → Ex H H2 → H2 p = some (.dK (enc (wbS s))) → Q (.ref p) H2
/-- the first table of a seating, and the index behind it -/
structure TabA (F : List Nat) (ps : List (Int × Int)) (t : List Nat) (i : Nat) : Prop where
  hd : t[0]? = F[0]?
  pm : ∃ o, (t ++ o).Perm F
  lt : (i : Int) < gI ps (t.length : Int)
  ne : 1 ≤ t.length
theorem cut_from {f : List Nat} {lo : Nat} (h : lo ≤ f.length) : cutV (nv f) (some (lo : Int)) none = nv (f.drop lo) := by
  unfold cutV
  rw [HT.sIx_none, HT.sIx_nat, nv_len, Nat.min_eq_left h, nv_eq, nv_eq, List.map_drop]
  exact List.take_of_length_le (by simp)
section
variable {P : Program} {w : World} {K : PySem.W.Frag} {mg : Str → Option Value} {base : Heap}
theorem ok_ways_behind_sizes (T : Tx K mg) : FnOk P w K mg base CX0 2 T.f_ways_behind_sizes T.d_ways_behind_sizes ["sizes"] sp_wbs := by
  refine T.F_ways_behind_sizes.ok sc_ways_behind_sizes (fun vs H Q E h => ?_) (fun cdv A outer s H vs Q E hr h => ?_)
  · obtain ⟨a, s, rfl, _⟩ := h
    rfl
  · obtain ⟨a, z, rfl, ha, o, k⟩ := h
    refine ⟨_, (pss_cons (ps_set (i := 1) sc_ways_behind_sizes.nd rfl (Or.inl rfl) pe_dnewK)
      (pss_cons (ps_for PassesOwn.never rfl (pi_list (pv 0)) (pg_name (i := 2) sc_ways_behind_sizes.nd rfl (Or.inl rfl)) (pss_cons (ps_set (i := 3) sc_ways_behind_sizes.nd rfl (Or.inl rfl) (pe_callTy call_listR (by rfl) T.m_list (by decide +kernel) (pa_cons (pv 0) pa_nil)))
      (pss_cons (ps_expr (pe_bm PySem.F.plainAttrs_list PySem.F.slot_list_remove PySem.F.type_list_remove mt_remove (pv 3) (pa_cons (pv 2) pa_nil)))
      (pss_one (ps_dput (hu_of hr) (pv 1) (pv 2) (pe_call (ok_ways_with_sizes T) (hr.mono (by decide)) (by rfl) T.g_ways_with_sizes T.F_ways_with_sizes.kp T.b_ways_with_sizes .nil pass0 (pa_cons (pv 3) pa_nil)) rfl)))))
      (pss_one (ps_ret (pv 1))))), ?_⟩
    have zl := sz0_len o
    refine q_dnewI fun d H1 nd e1 hd => ?_
    have had : a ≠ d := ne_of_none ha nd
    refine q_forLn (xs := nv z) (K := K) (ev_var rfl) (sq_of (e1 a _ ha)) (fun m σ' H' => ∃ (y2 y3 : Option V), σ' = [some (.ref a), some (.ref d), y2, y3] ∧ Ex H H' ∧ H' d = some (.dK (enc (wbTo z m))))
      (fun H5 e5 => ⟨none, none, rfl, e1.trans e5, e5 d _ hd⟩) (fun m σ' H' _ ⟨_, _, _, e, _⟩ => sq_of (e a _ ha)) ?_ ?_
    · rintro m v σ' H5 hv ⟨y2, y3, rfl, e5, hd5⟩
      have hml : m < z.length := by
        have := (List.getElem?_eq_some_iff.mp hv).1
        rw [nv_len] at this
        exact this
      have hx : z[m]? = some (z.getD m 0) := by
        rw [List.getD_eq_getElem?_getD, List.getElem?_eq_getElem hml]
        rfl
      have ev : v = .int (z.getD m 0 : Nat) := by
        have := nv_get hx
        rw [hv] at this
        exact Option.some.inj this
      subst ev
      have hm := List.mem_of_getElem? hx
      have ha5 := e5 a _ ha
      refine q_asgL (el_list (ev_var rfl) (sq_of ha5)) fun r H6 nr e6 hr6 => ?_
      have drn : d ≠ r := ne_of_none hd5 nr
      refine q_remI (K := K) hr6 hm (ev_var rfl) (ev_var rfl) fun H7 e7 => ?_
      have hd7 : upd H7 r (.lst (nv (z.erase (z.getD m 0)))) d = some (.dK (enc (wbTo z m))) := by
        rw [upd_ne drn]
        exact e7 d _ (e6 d _ hd5)
      have oe : Sz0 (z.erase (z.getD m 0)) := ⟨fun x hx => o.1 x (List.mem_of_mem_erase hx), by have := erase_sum hm; have := o.2; omega⟩
      have e57 : Ex H5 (upd H7 r (.lst (nv (z.erase (z.getD m 0))))) := Ex.mut (e6.trans e7) nr
      have wl := wbTo_len z m
      refine s_putI (ps := wbTo z m) (ev_var rfl) (ev_var rfl) (ev_call (ea_cons (ev_var rfl) ea_nil) (sv_wws0 upd_same oe)) hd7 (by omega) fun H8 e8 => ⟨_, _, rfl, Ex.mut (e5.trans (e57.trans e8)) nd, upd_same⟩
    · rintro σ' H' ⟨y2, y3, rfl, e, hd'⟩
      rw [nv_len] at hd'
      exact s_ret (ev_var rfl) fun H2 e2 => k d H2 nd (e.trans e2) (e2 d _ hd')
end



local macro_rules | `(tactic| walk_at "call") => `(tactic| (with_reducible exact sv_whole))
local macro_rules | `(tactic| walk_at "call") => `(tactic| ((with_reducible refine' sv_order ?c1 ?c2); (case c1 => assumption); (case c2 => assumption)))
local macro_rules | `(tactic| walk_at "call") => `(tactic| ((with_reducible refine' sv_ord ?c1 ?c2); (case c1 => assumption); (case c2 => assumption)))

local macro_rules | `(tactic| walk_at "call") => `(tactic| (with_reducible exact sv_whole))
local macro_rules | `(tactic| walk_at "call") => `(tactic| ((with_reducible refine' sv_ord ?c1 ?c2); (case c1 => assumption); (case c2 => assumption)))

local macro_rules | `(tactic| walk_at "call") => `(tactic| ((with_reducible refine' sv_pow ?c1 ?c2 ?c3); (case c1 => walk_at "side"); (case c2 => walk_at "side"); (case c3 => walk_at "side")))
local macro_rules | `(tactic| walk_at "call") => `(tactic| ((with_reducible refine' sv_rise ?c1 ?c2); (case c1 => walk_at "side"); (case c2 => walk_at "side")))
local macro_rules | `(tactic| walk_at "call") => `(tactic| (with_reducible exact sv_between))
local macro_rules | `(tactic| walk_at "call") => `(tactic| ((with_reducible refine' sv_check1 ?c1 ?c2); (case c1 => walk_at "side"); (case c2 => walk_at "side")))
local macro_rules | `(tactic| walk_at "call") => `(tactic| ((with_reducible refine' sv_check_number ?c1 ?c2); (case c1 => walk_at "side"); (case c2 => walk_at "side")))
local macro_rules | `(tactic| walk_at "callU") => `(tactic| ((with_reducible refine' su_fraction ?c1 ?c2); (case c1 => walk_at "side"); (case c2 => walk_at "side")))

/-! ### checks and shares of sizes -/
theorem ev_sumV {K : PySem.W.Frag} {σ : L2.St} {H : Hp} {i : Nat} {a : Addr} {s : List Nat} (h : σ[i]? = some (some (.ref a))) (ha : H a = some (.lst (nv s))) : Ev (tCB (rSum K) (tCons (tVar i) tNil)) σ H (.int (s.sum : Int)) := fun H1 e Q q => ev_var (i := i) (v := .ref a) h H1 e _ fun H2 e2 => ⟨a, iz s, rfl, sq_of (e2 a _ (e a _ ha)), by rw [iz_sum]; exact q H2 e2⟩
def sp_szs (v : V) : Sp := fun vs H Q _ => ∃ (a : Addr) (s : List Nat), vs = [.ref a] ∧ H a = some (.lst (nv s)) ∧ Szs s ∧ RetV v H Q
theorem sv_szs {H : Hp} {v : V} {a : Addr} {s : List Nat} (ha : H a = some (.lst (nv s))) (o : Szs s) : SpV (sp_szs v) ([.ref a] ++ []) H v := fun H1 e Q q E => ⟨a, s, rfl, e a _ ha, o, q⟩
section
variable {P : Program} {w : World} {K : PySem.W.Frag} {mg : Str → Option Value} {base : Heap}
theorem ok_are_sizes (T : Tx K mg) : FnOk P w K mg base CX0 3 T.f_are_sizes T.d_are_sizes ["thing"] (sp_szs (.bl true)) := by
  refine T.F_are_sizes.ok sc_are_sizes (fun vs H Q E h => ?_) (fun cdv A outer s H vs Q E hr h => ?_)
  · obtain ⟨a, h, rfl, _⟩ := h
    rfl
  · obtain ⟨a, h, rfl, ha, o, k⟩ := h
    refine ⟨_, (pss_cons (ps_if (PW.pt (pw_or (pt_cmpR (op_neTyS (hu_of hr)) (pe_typeOf (by rfl) T.m_type (pv 0)) (pe_bltn (v := .ty "list") (by rfl) T.m_list (by decide +kernel) rfl) (nomark _)) (pw_or1 (pt_not (pt_val (pe_callB (cr_all rfl) (by rfl) T.m_all (by decide +kernel) (pa_cons (pe_lc (own := [("item", 1)]) (g := (gName 1)) (tt := tYes) rfl sc_are_sizes.nd (pi_list (pv 0)) (blkOk_by (own := [("item", 1)]) (N := n_are_sizes) (sc := defScope s_are_sizes) (by decide +kernel)) (fun _ _ _ _ _ => (pg_name (i := 1) sc_are_sizes.nd rfl (Or.inl rfl))) (fun _ _ _ _ _ => pts_nil) (fun _ _ _ _ _ => (pe_and (pe_call (ok_is_whole T) (hr.mono (by decide)) (by rfl) T.g_is_whole T.F_is_whole.kp T.b_is_whole .nil pass0 (pa_cons (pv 1) pa_nil)) (pe_one (pe_cmpR op_ge (pv 1) pe_int (nomark _)))))) pa_nil))))))) (pss_one (ps_ret pe_bl)) pss_nil)
      (pss_one (ps_ret (pe_call (ok_is_within T) (hr.mono (by decide)) (by rfl) T.g_is_within T.F_is_within.kp T.b_is_within .nil pass0 (pa_cons (pe_callB (cr_sum rfl) (by rfl) T.m_sum (by decide +kernel) (pa_cons (pv 0) pa_nil)) (pa_cons pe_int (pa_cons (pe_gc (by rfl) T.c_MOST_GUESTS) pa_nil))))))), ?_⟩
    have hl := nv_len h
    have l20 : h.length ≤ 20 := Nat.le_trans (sum_ge o.1) o.2.2
    have hm : (nv h).map (fun _ => V.bl true) = (List.replicate h.length true).map V.bl := by
      rw [nv_eq, List.map_map, List.map_replicate]
      exact List.map_const' ..
    refine q_when (b := false) (et_is (et_or (et_test (ev_op (ev_typeL (ev_var rfl) ha) ev_c (rv_neTyS PySem.TypeEq.meta_list))) fun _ => et_not (et_B (ev_allN (bs := List.replicate h.length true) ?_))) (by simp)) (fun hb => Bool.noConfusion hb) fun _ H1 e1 => ?_
    · rw [← hm]
      refine el_map (fun _ => V.bl true) (ev_var rfl) (sq_of ha) (by omega) (fun _ => rfl) fun i x H2 e2 hx => ?_
      rw [nv_eq, List.getElem?_map] at hx
      obtain ⟨z, hz, rfl⟩ := Option.map_eq_some_iff.mp hx
      have := o.1 z (List.mem_of_getElem? hz)
      refine ev_is (by walk_at "ev") ?_
      rw [decide_eq_true (show (1 : Int) ≤ (z : Int) by omega)]
      rfl
    · have h1 := e1 a _ ha
      have sm := ev_sumV (K := K) (i := 0) (σ := start n_are_sizes [.ref a]) (s := h) rfl h1
      have p := o.2.1
      have q := o.2.2
      refine s_ret (v := .bl true) (ev_is (ev_call (ea_cons sm (ea_cons ev_c (ea_cons (by walk_at "ev") ea_nil))) sv_between) ?_) fun H2 e2 => k _ (e1.trans e2)
      rw [decide_eq_true (show (1 : Int) ≤ (h.sum : Int) by omega), decide_eq_true (show (h.sum : Int) ≤ 20 by omega)]
      rfl
theorem ok_check_sizes (T : Tx K mg) : FnOk P w K mg base CX0 4 T.f_check_sizes T.d_check_sizes ["sizes"] (sp_szs .non) := by
  refine T.F_check_sizes.ok sc_check_sizes (fun vs H Q E h => ?_) (fun cdv A outer s H vs Q E hr h => ?_)
  · obtain ⟨a, h, rfl, _⟩ := h
    rfl
  · obtain ⟨a, h, rfl, ha, o, k⟩ := h
    refine ⟨_, (pss_one (ps_if (pt_not (pt_val (pe_call (ok_are_sizes T) (hr.mono (by decide)) (by rfl) T.g_are_sizes T.F_are_sizes.kp T.b_are_sizes .nil pass0 (pa_cons (pv 0) pa_nil)))) (pss_one ps_never) pss_nil)), ?_⟩
    exact s_when (b := false) (et_is (et_not (et_B (ev_call (ea_cons (ev_var rfl) ea_nil) (sv_szs ha o)))) (by rfl)) (fun hb => Bool.noConfusion hb) fun _ H1 e1 => k _ e1
end
theorem wws_le {s : List Nat} (o : Szs s) : wws s < 2 ^ 64 := Nat.lt_of_le_of_lt (Nat.div_le_self _ _) (Nat.lt_of_le_of_lt (fac_mono o.2.2) fac20)
def sp_share_of_ways : Sp := fun vs H Q _ => ∃ (W : Nat) (a : Addr) (s : List Nat) (x : Int), vs = [.int (W : Int), .ref a, .int x] ∧ W < 2 ^ 64 ∧ H a = some (.lst (nv s)) ∧ Szs s ∧ (1 ≤ x ∧ x ≤ 1000000000000) ∧ RetU (frac ((W : Int) * x ^ s.length) (rise x s.sum)) H Q
theorem su_share_of_ways {H : Hp} {W : Nat} {a : Addr} {s : List Nat} {x : Int} (hW : W < 2 ^ 64) (ha : H a = some (.lst (nv s))) (o : Szs s) (hx : 1 ≤ x ∧ x ≤ 1000000000000) : SpU sp_share_of_ways ([.int (W : Int), .ref a, .int x] ++ []) H (frac ((W : Int) * x ^ s.length) (rise x s.sum)) := fun H1 e Q q E => ⟨W, a, s, x, rfl, hW, e a _ ha, o, hx, q⟩
def sp_cnts : Sp := fun vs H Q _ => ∃ (a : Addr) (s : List Nat), vs = [.ref a] ∧ H a = some (.lst (nv s)) ∧ Szs s ∧ RetV (.int (wws s : Nat)) H Q
theorem sv_cnts {H : Hp} {a : Addr} {s : List Nat} (ha : H a = some (.lst (nv s))) (o : Szs s) : SpV sp_cnts ([.ref a] ++ []) H (.int (wws s : Nat)) := fun H1 e Q q E => ⟨a, s, rfl, e a _ ha, o, q⟩
def sp_szsh : Sp := fun vs H Q _ => ∃ (a : Addr) (s : List Nat) (x : Int), vs = [.ref a, .int x] ∧ H a = some (.lst (nv s)) ∧ Szs s ∧ (1 ≤ x ∧ x ≤ 1000000000000) ∧ RetU (frac ((wws s : Nat) * x ^ s.length) (rise x s.sum)) H Q
theorem su_szsh {H : Hp} {a : Addr} {s : List Nat} {x : Int} (ha : H a = some (.lst (nv s))) (o : Szs s) (hx : 1 ≤ x ∧ x ≤ 1000000000000) : SpU sp_szsh ([.ref a, .int x] ++ []) H (frac ((wws s : Nat) * x ^ s.length) (rise x s.sum)) := fun H1 e Q q E => ⟨a, s, x, rfl, e a _ ha, o, hx, q⟩
section
variable {P : Program} {w : World} {K : PySem.W.Frag} {mg : Str → Option Value} {base : Heap}
theorem ok_share_of_ways (T : Tx K mg) : FnOk P w K mg base CX0 2 T.f_share_of_ways T.d_share_of_ways ["ways", "sizes", "weight"] sp_share_of_ways := by
  refine T.F_share_of_ways.ok sc_share_of_ways (fun vs H Q E h => ?_) (fun cdv A outer s H vs Q E hr h => ?_)
  · obtain ⟨W, a, s, x, rfl, _⟩ := h
    rfl
  · obtain ⟨W, a, z, x, rfl, hW, ha, o, hx, k⟩ := h
    refine ⟨_, (pss_one (ps_ret (pe_call (ok_fraction T) (hr.mono (by decide)) (by rfl) T.g_fraction T.F_fraction.kp T.b_fraction .nil pass0 (pa_cons (pe_op op_mulX (pv 0) (pe_call (ok_raised T) (hr.mono (by decide)) (by rfl) T.g_raised T.F_raised.kp T.b_raised .nil pass0 (pa_cons (pv 2) (pa_cons (pe_callB call_lenR (by rfl) T.m_len (by decide +kernel) (pa_cons (pv 1) pa_nil)) pa_nil)))) (pa_cons (pe_call (ok_rising T) (hr.mono (by decide)) (by rfl) T.g_rising T.F_rising.kp T.b_rising .nil pass0 (pa_cons (pv 2) (pa_cons (pe_callB (cr_sum rfl) (by rfl) T.m_sum (by decide +kernel) (pa_cons (pv 1) pa_nil)) pa_nil))) pa_nil))))), ?_⟩
    have zl := sum_ge o.1
    have z20 := o.2.2
    have hb : x.natAbs < 2 ^ 130 := by omega
    have l1 := ev_lenH (K := K) (σ := start n_share_of_ways [.int (W : Int), .ref a, .int x]) (i := 1) rfl ha
    have pw := ev_call (E := E0) (ea_cons (ev_var (i := 2) (v := .int x) (σ := start n_share_of_ways [.int (W : Int), .ref a, .int x]) rfl) (ea_cons l1 ea_nil)) (sv_pow hb (by omega) (by omega))
    rw [Int.toNat_natCast] at pw
    have hm : CMulX (W : Int) (x ^ z.length) := mulx_ok (a := 64) (by omega) (lt_of_le2 (natAbs_pow_le hb z.length)) (by omega)
    refine s_retU (eu_call (ea_cons (ev_op (ev_var rfl) pw (rv_I hm)) (ea_cons (ev_call (ea_cons (ev_var rfl) (ea_cons (ev_sumV rfl ha) ea_nil)) (sv_rise hb (by omega))) ea_nil)) (su_fraction (rise_pos hx.1 _) (lt2_mono (lt_of_le2 (rise_le hb _ (by omega))) (by omega)))) fun p H3 hp e3 h3 => k p H3 hp e3 h3

theorem ok_count_sizes (T : Tx K mg) : FnOk P w K mg base CX0 5 T.f_count_sizes T.d_count_sizes ["sizes"] sp_cnts := by
  refine T.F_count_sizes.ok sc_count_sizes (fun vs H Q E h => ?_) (fun cdv A outer s H vs Q E hr h => ?_)
  · obtain ⟨a, s, rfl, _⟩ := h
    rfl
  · obtain ⟨a, z, rfl, ha, o, k⟩ := h
    refine ⟨_, (pss_cons (ps_expr (pe_call (ok_check_sizes T) (hr.mono (by decide)) (by rfl) T.g_check_sizes T.F_check_sizes.kp T.b_check_sizes .nil pass0 (pa_cons (pv 0) pa_nil)))
      (pss_one (ps_ret (pe_call (ok_ways_with_sizes T) (hr.mono (by decide)) (by rfl) T.g_ways_with_sizes T.F_ways_with_sizes.kp T.b_ways_with_sizes .nil pass0 (pa_cons (pv 0) pa_nil))))), ?_⟩
    refine q_drop (ev_call (ea_cons (ev_var rfl) ea_nil) (sv_szs ha o)) fun H1 e1 => ?_
    exact s_ret (ev_call (ea_cons (ev_var rfl) ea_nil) (sv_wws (e1 a _ ha) o)) fun H2 e2 => k _ (e1.trans e2)
theorem ok_sizes_share (T : Tx K mg) : FnOk P w K mg base CX0 5 T.f_sizes_share T.d_sizes_share ["sizes", "weight"] sp_szsh := by
  refine T.F_sizes_share.ok sc_sizes_share (fun vs H Q E h => ?_) (fun cdv A outer s H vs Q E hr h => ?_)
  · obtain ⟨a, s, x, rfl, _⟩ := h
    rfl
  · obtain ⟨a, z, x, rfl, ha, o, hx, k⟩ := h
    refine ⟨_, (pss_cons (ps_expr (pe_call (ok_check_sizes T) (hr.mono (by decide)) (by rfl) T.g_check_sizes T.F_check_sizes.kp T.b_check_sizes .nil pass0 (pa_cons (pv 0) pa_nil)))
      (pss_cons (ps_expr (pe_call (ok_check_weight T) (hr.mono (by decide)) (by rfl) T.g_check_weight T.F_check_weight.kp T.b_check_weight .nil pass0 (pa_cons (pv 1) pa_nil)))
      (pss_one (ps_ret (pe_call (ok_share_of_ways T) (hr.mono (by decide)) (by rfl) T.g_share_of_ways T.F_share_of_ways.kp T.b_share_of_ways .nil pass0 (pa_cons (pe_call (ok_ways_with_sizes T) (hr.mono (by decide)) (by rfl) T.g_ways_with_sizes T.F_ways_with_sizes.kp T.b_ways_with_sizes .nil pass0 (pa_cons (pv 0) pa_nil)) (pa_cons (pv 0) (pa_cons (pv 1) pa_nil)))))))), ?_⟩
    refine q_drop (ev_call (ea_cons (ev_var rfl) ea_nil) (sv_szs ha o)) fun H1 e1 => ?_
    refine q_drop (ev_call (ea_cons (ev_var rfl) ea_nil) (sv_check1 hx.1 hx.2)) fun H2 e2 => ?_
    have ha2 := e2 a _ (e1 a _ ha)
    exact s_retU (eu_call (ea_cons (ev_call (ea_cons (ev_var rfl) ea_nil) (sv_wws ha2 o)) (ea_cons (ev_var rfl) (ea_cons (ev_var rfl) ea_nil))) (su_share_of_ways (wws_le o) ha2 o hx)) fun p H3 hp e3 h3 => k p H3 (fresh_back (e1.trans e2) hp) (e1.trans (e2.trans e3)) h3
end


local macro_rules | `(tactic| walk_at "call") => `(tactic| (with_reducible exact sv_whole))
local macro_rules | `(tactic| walk_at "call") => `(tactic| ((with_reducible refine' sv_order ?c1 ?c2); (case c1 => assumption); (case c2 => assumption)))
local macro_rules | `(tactic| walk_at "call") => `(tactic| ((with_reducible refine' sv_ord ?c1 ?c2); (case c1 => assumption); (case c2 => assumption)))

local macro_rules | `(tactic| walk_at "call") => `(tactic| (with_reducible exact sv_whole))
local macro_rules | `(tactic| walk_at "call") => `(tactic| ((with_reducible refine' sv_ord ?c1 ?c2); (case c1 => assumption); (case c2 => assumption)))

local macro_rules | `(tactic| walk_at "call") => `(tactic| ((with_reducible refine' sv_pow ?c1 ?c2 ?c3); (case c1 => walk_at "side"); (case c2 => walk_at "side"); (case c3 => walk_at "side")))
local macro_rules | `(tactic| walk_at "call") => `(tactic| ((with_reducible refine' sv_rise ?c1 ?c2); (case c1 => walk_at "side"); (case c2 => walk_at "side")))
local macro_rules | `(tactic| walk_at "call") => `(tactic| (with_reducible exact sv_between))
local macro_rules | `(tactic| walk_at "call") => `(tactic| ((with_reducible refine' sv_check1 ?c1 ?c2); (case c1 => walk_at "side"); (case c2 => walk_at "side")))
local macro_rules | `(tactic| walk_at "call") => `(tactic| ((with_reducible refine' sv_check_number ?c1 ?c2); (case c1 => walk_at "side"); (case c2 => walk_at "side")))
local macro_rules | `(tactic| walk_at "callU") => `(tactic| ((with_reducible refine' su_fraction ?c1 ?c2); (case c1 => walk_at "side"); (case c2 => walk_at "side")))

theorem many {h : List Nat} {rs : List (List Nat)} (R : Rings h rs) : rs.length ≤ h.length := by
  have : ∀ l : List (List Nat), (∀ r ∈ l, 0 < r.length) → l.length ≤ l.flatten.length := fun l => by
    induction l with
    | nil => intro _; simp
    | cons r l ih =>
      intro hl
      have := ih fun x hx => hl x (by simp [hx])
      have := hl r (by simp)
      rw [List.flatten_cons, List.length_append, List.length_cons]
      omega
  have t := this rs fun r hr => (R.rg r hr).ne
  have hfl : rs.flatten.length = h.length := by rw [R.all.length_eq, List.length_range]
  omega
theorem left_perm {F t o : List Nat} (nd : F.Nodup) (pm : (t ++ o).Perm F) : (F.filter fun y => !decide (y ∈ t)).Perm o := by
  have nd2 := pm.nodup_iff.mpr nd
  have a := pm.symm.filter fun y => !decide (y ∈ t)
  rw [List.filter_append] at a
  have e1 : (t.filter fun y => !decide (y ∈ t)) = [] := List.filter_eq_nil_iff.mpr fun y hy => by simp [hy]
  have e2 : (o.filter fun y => !decide (y ∈ t)) = o := List.filter_eq_self.mpr fun y hy => by
    have := (List.nodup_append.mp nd2).2.2
    simp only [Bool.not_eq_true', decide_eq_false_iff_not]
    exact fun z => this y z y hy rfl
  rw [e1, e2] at a
  exact a
theorem given_left (F t : List Nat) : nv (F.filter fun y => !decide (y ∈ t)) = given (nv F).length (fun i => !decide (F.getD i 0 ∈ t)) (fun i => V.int (F.getD i 0 : Nat)) := by
  unfold given
  rw [nv_len, nv_eq]
  conv => lhs; rw [range_get F 0]
  rw [List.filter_map, List.map_map]
  rfl
theorem el_left {K : PySem.W.Frag} {σ : L2.St} {H : Hp} {tl tt : TE} {f q : Addr} {F t : List Nat} {j : Nat} {vs : List Nat} (h : Ev tl σ H (.ref f)) (hf : H f = some (.lst (nv F))) (hl : F.length ≤ 20) (hw : ∀ x, wipe ((wipe σ vs).set j (some x)) vs = wipe σ vs) (hj : ∀ x, ((wipe σ vs).set j (some x))[j]? = some (some x)) (ht : ∀ x H1, Ev tt ((wipe σ vs).set j (some x)) H1 (.ref q)) (hq : H q = some (.tup (nv t))) :
    EvL (tLc (iList K tl) (gName j) (tTest (tOp (rIn K true) (tVar j) tt)) (tVar j) vs) σ H (nv (F.filter fun y => !decide (y ∈ t))) := by
  rw [given_left]
  have at0 : ∀ {i : Nat} {x : V}, (nv F)[i]? = some x → x = .int (F.getD i 0 : Nat) := fun {i x} hx => by
    have il := (List.getElem?_eq_some_iff.mp hx).1
    rw [nv_len] at il
    have := nv_at il
    rw [hx] at this
    exact Option.some.inj this
  refine el_lcL _ _ h (sq_of hf) (by rw [nv_len]; omega) hw (fun i x H1 e1 hx => ?_) fun i x H1 e1 hx hb => ?_
  · rw [at0 hx]
    refine et_is (et_test (ev_op (ev_var (hj _)) (ht _ _) (rv_niT (st_of (e1 q _ hq)) rfl (nv_flat t)))) ?_
    rw [nv_in]
  · rw [at0 hx]
    exact ev_var (hj _)
/-! ### index_of_table, index_with_sizes -/
theorem go_ge {ps : List (Int × Int)} (B : Beh ps) {L m : Nat} (hL : 1 ≤ L) (hm : m ≤ 20) : gI ps (L : Int) ≤ goS ps L m := by
  cases m with
  | zero =>
    rw [goS_end B.nd]
    exact Int.le_refl _
  | succ m =>
    have := (goS_bd B (L := L + 1) (m := m) (by omega) (by omega)).1
    have := Int.mul_nonneg (show (0 : Int) ≤ (m : Int) + 1 by omega) this
    rw [goS_step B.nd]
    omega
theorem wbS_at {s : List Nat} {L : Nat} (h : L ∈ s) : gI (wbS s) (L : Int) = (wws (s.erase L) : Nat) := by
  obtain ⟨j, hj, e⟩ := List.mem_iff_getElem.mp h
  have k := wbTo_key s s.length j hj
  have gj : s.getD j 0 = L := by
    rw [List.getD_eq_getElem?_getD, List.getElem?_eq_getElem hj]
    exact e
  rw [gj] at k
  obtain ⟨p, hp, ep⟩ := List.mem_map.mp k
  unfold gI wbS
  cases hf : (wbTo s s.length).find? (fun p => decide (p.1 = (L : Int))) with
  | none =>
    have := List.find?_eq_none.mp hf p hp
    simp [ep] at this
  | some q =>
    have q1 := List.mem_of_find?_eq_some hf
    have q2 : q.1 = (L : Int) := by simpa using List.find?_some hf
    obtain ⟨x, hx, eq⟩ := wbTo_mem s.length (Nat.le_refl _) q q1
    subst eq
    have : x = L := by
      have q2 : (x : Int) = (L : Int) := q2
      omega
    rw [this]
    rfl
def sp_ixt : Sp := fun vs H Q _ => ∃ (f d q : Addr) (F : List Nat) (ps : List (Int × Int)) (t : List Nat), vs = [.ref f, .ref d, .ref q] ∧ H f = some (.lst (nv F)) ∧ H d = some (.dK (enc ps)) ∧ H q = some (.tup (nv t)) ∧ Beh ps ∧ (∃ o, (t ++ o).Perm F) ∧ t[0]? = F[0]? ∧ (1 ≤ F.length ∧ F.length ≤ 20) ∧ ∀ (n : Int) H2, 0 ≤ n → n + gI ps (t.length : Int) ≤ goS ps 1 (F.length - 1) → Ex H H2 → Q (.int n) H2
theorem drop_one {F : List Nat} {x : Nat} (h : F[0]? = some x) : F = x :: F.drop 1 := by
  cases F with
  | nil => cases h
  | cons y r => rw [show y = x from Option.some.inj h]; rfl
theorem s_popAt {K : PySem.W.Frag} {σ : L2.St} {H : Hp} {ta te : TE} {D : Ends} {l : Addr} {xs : List V} {j : Nat} (hl : H l = some (.lst xs)) (ha : Ev ta σ H (.ref l)) (he : Ev te σ H (.int (j : Int))) (hj : j < xs.length) (h63 : j < 1000) (k : ∀ H1, Ex H H1 → D.nx σ (upd H1 l (.lst (xs.eraseIdx j)))) : tDrop (tBM K "list" rPopAt ta (tCons te tNil)) D σ H :=
  ha H (Ex.refl H) _ fun H1 e1 => ⟨Or.inl ⟨rfl, xs, sq_of (e1 l _ hl)⟩, he H1 e1 _ fun H2 e2 => ⟨l, xs, (j : Int), j, xs[j], rfl, rfl, e2 l _ (e1 l _ hl), by omega, by omega, seq_at hj, List.getElem?_eq_getElem hj, k H2 (e1.trans e2)⟩⟩
section
variable {P : Program} {w : World} {K : PySem.W.Frag} {mg : Str → Option Value} {base : Heap}
theorem ok_index_of_table (T : Tx K mg) : FnOk P w K mg base CX0 2 T.f_index_of_table T.d_index_of_table ["free", "behind", "table"] sp_ixt := by
  refine T.F_index_of_table.ok sc_index_of_table (fun vs H Q E h => ?_) (fun cdv A outer s H vs Q E hr h => ?_)
  · obtain ⟨f, d, q, F, ps, t, rfl, _⟩ := h
    rfl
  · obtain ⟨f, d, q, F, ps, t, rfl, hf, hd, hq, B, ⟨o, pm⟩, h0, hl, k⟩ := h
    refine ⟨_, (pss_cons (ps_set (i := 3) sc_index_of_table.nd rfl (Or.inl rfl) (pe_slice sl_list (pv 0) (po_some pe_int) po_none))
      (pss_cons (ps_set (i := 4) sc_index_of_table.nd rfl (Or.inl rfl) pe_int)
      (pss_cons (ps_for PassesOwn.never rfl (pi_range2 (by rfl) T.m_range (pa_cons pe_int (pa_cons (pe_callB call_lenR (by rfl) T.m_len (by decide +kernel) (pa_cons (pv 2) pa_nil)) pa_nil))) (pg_name (i := 5) sc_index_of_table.nd rfl (Or.inl rfl)) (pss_cons (ps_set (i := 6) sc_index_of_table.nd rfl (Or.inl rfl) (pe_bm PySem.F.plainAttrs_list PySem.F.slot_list_index PySem.F.type_list_index mt_index (pv 3) (pa_cons (pe_ix ix_tup (pv 2) (pv 5) (fun _ _ => rfl)) pa_nil)))
      (pss_cons (ps_aug (i := 4) sc_index_of_table.nd rfl (Or.inl rfl) (pe_op op_add (pe_dget2 (hu_of hr) (pv 1) (pv 5) pe_int ⟨by rfl, by rfl, by rfl, by rfl⟩) (pe_op op_mulX (pv 6) (pe_call (ok_ways_to_go_on T) (hr.mono (by decide)) (by rfl) T.g_ways_to_go_on T.F_ways_to_go_on.kp T.b_ways_to_go_on .nil pass0 (pa_cons (pv 5) (pa_cons (pe_callB call_lenR (by rfl) T.m_len (by decide +kernel) (pa_cons (pv 3) pa_nil)) (pa_cons (pv 1) pa_nil)))))) ip_add)
      (pss_one (ps_expr (pe_bm PySem.F.plainAttrs_list PySem.F.slot_list_pop PySem.F.type_list_pop mt_popAt (pv 3) (pa_cons (pv 6) pa_nil)))))))
      (pss_one (ps_ret (pv 4)))))), ?_⟩
    have hF0 : F[0]? = some (F.getD 0 0) := by
      rw [List.getD_eq_getElem?_getD, List.getElem?_eq_getElem (by omega)]
      rfl
    have fe := drop_one hF0
    have te := drop_one (h0.trans hF0)
    have tl : 1 ≤ t.length := by rw [te, List.length_cons]; omega
    have pl := pm.length_eq
    rw [List.length_append] at pl
    have pm1 : (t.drop 1 ++ o).Perm (F.drop 1) := by
      rw [te, fe] at pm
      exact (List.perm_cons _).mp pm
    have sl := el_sl (K := K) (te := tVar 0) (σ := [some (.ref f), some (.ref d), some (.ref q), none, none, none, none]) (H := H) (lo := some 1) (hi := none) (tl := tPart (tC (.int 1))) (th := tNoPart) (ev_var rfl) (eo_some ev_c) eo_none (sq_of hf)
    rw [show (1 : Int) = ((1 : Nat) : Int) from rfl, cut_from hl.1] at sl
    refine q_asgL (xs := nv (F.drop 1)) sl fun po H1 no e1 ho => ?_
    refine q_asg (v := .int 0) ev_c fun H2 e2 => ?_
    have e02 := e1.trans e2
    have lt := ev_lenT (K := K) (ta := tVar 2) (σ := [some (.ref f), some (.ref d), some (.ref q), some (.ref po), some (.int 0), none, none]) (H := H2) (ev_var (i := 2) rfl) (st_of (e02 q _ hq))
    rw [nv_len] at lt
    refine q_forR2 (lo := 1) (n := (t.length : Int)) (ea_cons ev_c (ea_cons lt ea_nil)) (by omega) (fun i σ' H' => ∃ (g : List Nat) (n : Int) (y5 y6 : Option V), σ' = [some (.ref f), some (.ref d), some (.ref q), some (.ref po), some (.int n), y5, y6] ∧ Ex H H' ∧ H' po = some (.lst (nv g)) ∧ (t.drop (1 + i) ++ o).Perm g ∧ 0 ≤ n ∧ n + goS ps (1 + i) g.length ≤ goS ps 1 (F.length - 1))
      (fun H3 e3 => ⟨F.drop 1, 0, none, none, rfl, e02.trans e3, e3 po _ (e2 po _ ho), pm1, Int.le_refl _, by rw [List.length_drop]; show 0 + goS ps 1 (F.length - 1) ≤ _; omega⟩) ?_ ?_
    · rintro i σ' H' hi ⟨g, n, y5, y6, rfl, e, hg, pg, n0, nb⟩
      have il : 1 + i < t.length := by omega
      have hz : t[1 + i]? = some (t.getD (1 + i) 0) := by
        rw [List.getD_eq_getElem?_getD, List.getElem?_eq_getElem il]
        rfl
      have td : t.drop (1 + i) = t.getD (1 + i) 0 :: t.drop (1 + (i + 1)) := by
        rw [List.drop_eq_getElem_cons il, List.getD_eq_getElem?_getD, List.getElem?_eq_getElem il]
        rfl
      generalize hzz : t.getD (1 + i) 0 = z at hz td
      rw [td] at pg
      have zm : z ∈ g := pg.mem_iff.mp List.mem_cons_self
      have gl := pg.length_eq
      rw [List.length_append, List.length_cons, List.length_drop] at gl
      have ix := List.idxOf_lt_length_of_mem zm
      have ev1 : (1 : Int) + (i : Int) = ((1 + i : Nat) : Int) := by omega
      rw [ev1]
      have hd' := e d _ hd
      have hq' := e q _ hq
      refine q_asg (v := .int (g.idxOf z : Nat)) (ev_index (K := K) hg (ev_var rfl) (ev_op (ev_var rfl) (ev_var rfl) (rv_ixT (K := K) (st_of hq') (atI_nat (nv_get hz)))) zm) fun H3 e3 => ?_
      obtain ⟨m', hm'⟩ : ∃ m', g.length = m' + 1 := ⟨g.length - 1, by omega⟩
      have wb := goS_bd B (L := (1 + i) + 1) (m := m') (by omega) (by omega)
      have gw := ev_call (E := E0) (dvs := []) (ta := tCons (tVar 5) (tCons (tCB (rLenS K) (tCons (tVar 3) tNil)) (tCons (tVar 1) tNil))) (ea_cons (ev_var (i := 5) (v := .int ((1 + i : Nat) : Int)) (σ := [some (.ref f), some (.ref d), some (.ref q), some (.ref po), some (.int n), some (.int ((1 + i : Nat) : Int)), some (.int (g.idxOf z : Nat))]) rfl) (ea_cons (ev_is (ev_lenH (K := K) (i := 3) rfl (e3 po _ hg)) (congrArg (fun n : Nat => V.int (n : Int)) hm')) (ea_cons (ev_var (i := 1) rfl) ea_nil))) (sv_go_on (L := 1 + i) (show m' < 20 by omega) (e3 d _ hd') B)
      refine q_aug (a := n) rfl (ev_op (ev_getI (ev_var rfl) (ev_var rfl) ev_c (e3 d _ hd')) (ev_op (ev_var rfl) gw (rv_I (mulx_ok (a := 64) (b := 140) (by omega) (by omega) (by decide)))) rv_I0) fun H4 e4 => ?_
      refine s_popAt (e4 po _ (e3 po _ hg)) (ev_var rfl) (ev_var rfl) (by rw [nv_len]; exact ix) (by omega) fun H5 e5 => ?_
      refine ⟨g.eraseIdx (g.idxOf z), _, _, _, rfl, Ex.mut (e.trans (e3.trans (e4.trans e5))) no, ?_, ?_, ?_, ?_⟩
      · rw [upd_same, nv_erase]
      · have pe := erase_perm ix
        rw [List.getElem_idxOf ix] at pe
        exact (List.perm_cons z).mp (pg.trans pe.symm)
      · have gB := B.get ((1 + i : Nat) : Int)
        have := Int.mul_nonneg (show (0 : Int) ≤ ((g.idxOf z : Nat) : Int) by omega) wb.1
        omega
      · have gl2 : (g.eraseIdx (g.idxOf z)).length = m' := by rw [List.length_eraseIdx_of_lt ix]; omega
        rw [gl2, show 1 + (i + 1) = 1 + i + 1 by omega]
        rw [hm', goS_step B.nd (1 + i) m'] at nb
        have le := Int.mul_le_mul_of_nonneg_right (show ((g.idxOf z : Nat) : Int) ≤ (m' : Int) by omega) wb.1
        rw [Int.add_mul, Int.one_mul] at nb
        omega
    · rintro σ' H' ⟨g, n, y5, y6, rfl, e, hg, pg, n0, nb⟩
      have il : 1 + (((t.length : Int) - 1).toNat) = t.length := by omega
      have gl := pg.length_eq
      rw [il] at nb gl
      rw [List.length_append, List.length_drop] at gl
      have gle := go_ge B (L := t.length) (m := g.length) tl (by omega)
      exact s_ret (ev_var rfl) fun H3 e3 => k n H3 n0 (by omega) (e.trans e3)
end
theorem q_augIx {σ : L2.St} {H : Hp} {D : Ends} {tz : TS} {f r q : Addr} {F R t : List Nat} {i j l a : Nat} {n : Int} {E E' : XK} (hi : σ[i]? = some (some (.ref f))) (hj : σ[j]? = some (some (.ref r))) (hk : σ[l]? = some (some (.ref q))) (hn : σ[a]? = some (some (.int n))) (hf : H f = some (.lst (nv F))) (hr : H r = some (.lst (nv R))) (hq : H q = some (.tup (nv t)))
    (o : Sz0 R) (pm : ∃ o, (t ++ o).Perm F) (h0 : t[0]? = F[0]?) (hF : 1 ≤ F.length ∧ F.length ≤ 20) (hs : F.length = R.sum) (ht : t.length ∈ R)
    (go : ∀ (m : Int) H1, 0 ≤ m → m + (wws (R.erase t.length) : Nat) ≤ (wws R : Nat) → Ex H H1 → tz D (σ.set a (some (.int (n + m)))) H1) :
    tSeq (tAug a (tCall sp_ixt [] E (tCons (tVar i) (tCons (tCall sp_wbs [] E' (tCons (tVar j) tNil)) (tCons (tVar l) tNil)))) (ipI fun i j => i + j)) tz D σ H := by
  refine ⟨.int n, hn, ?_⟩
  unfold tCall
  show tVar i σ H _
  refine (ev_var hi) H (Ex.refl _) _ fun H1 e1 => ?_
  show tVar j σ H1 _
  refine (ev_var hj) H1 (Ex.refl _) _ fun H2 e2 => ?_
  refine ⟨r, R, rfl, e2 r _ (e1 r _ hr), o, fun d H3 nd e3 hd => ?_⟩
  show tVar l σ H3 _
  refine (ev_var hk) H3 (Ex.refl _) _ fun H4 e4 => ?_
  have e04 := e1.trans (e2.trans (e3.trans e4))
  exact ⟨f, d, q, F, wbS R, t, rfl, e04 f _ hf, e4 d _ hd, e04 q _ hq, wbTo_beh o (Nat.le_refl _), pm, h0, hF, fun m H5 m0 mb e5 => ⟨n, m, rfl, rfl, go m H5 m0 (by rw [hs, ← wbS_go o (List.ne_nil_of_mem ht)] at mb; have wa := wbS_at ht; unfold wbS at mb wa; rw [wa] at mb; exact mb) (e04.trans e5)⟩⟩
theorem asc_head {F r : List Nat} {l : List (List Nat)} (so : F.Pairwise (· < ·)) (pm : F.Perm (r :: l).flatten) (ne : 0 < r.length) (low : ∀ r' ∈ r :: l, ∀ x ∈ r', r'.headD 0 ≤ x) (asc : ((r :: l).map (·.headD 0)).Pairwise (· < ·)) : r[0]? = F[0]? := by
  cases F with
  | nil =>
    have := pm.length_eq
    rw [List.flatten_cons, List.length_append, List.length_nil] at this
    omega
  | cons f F' =>
    have hm := head_mem ne
    have hf : r.headD 0 ∈ f :: F' := pm.mem_iff.mpr (by rw [List.flatten_cons]; exact List.mem_append_left _ hm)
    have a : f ≤ r.headD 0 := by
      rcases List.mem_cons.mp hf with z | z
      · omega
      · exact Nat.le_of_lt ((List.pairwise_cons.mp so).1 _ z)
    have b : r.headD 0 ≤ f := by
      have := pm.mem_iff.mp (List.mem_cons_self (a := f) (l := F'))
      obtain ⟨r', hr', hx⟩ := List.mem_flatten.mp this
      have h1 := low r' hr' f hx
      rcases List.mem_cons.mp hr' with z | z
      · rw [z] at h1
        exact h1
      · have := (List.pairwise_cons.mp (by rw [List.map_cons] at asc; exact asc)).1 _ (List.mem_map.mpr ⟨r', z, rfl⟩)
        omega
    cases r with
    | nil => cases ne
    | cons x r0 =>
      have : x = f := by
        have a : f ≤ x := a
        have b : x ≤ f := b
        omega
      rw [this]
      rfl
def sp_iw : Sp := fun vs H Q _ => ∃ (a : Addr) (h : List Nat) (rs : List (List Nat)), vs = [.ref a] ∧ H a = some (.lst (nv h)) ∧ Ord h ∧ Rings h rs ∧ ∀ (n : Int) H2, 0 ≤ n → n < (wws (rs.map List.length) : Nat) → Ex H H2 → Q (.int n) H2
section
variable {P : Program} {w : World} {K : PySem.W.Frag} {mg : Str → Option Value} {base : Heap}
theorem ok_index_with_sizes (T : Tx K mg) : FnOk P w K mg base CX0 6 T.f_index_with_sizes T.d_index_with_sizes ["seating"] sp_iw := by
  refine T.F_index_with_sizes.ok sc_index_with_sizes (fun vs H Q E h => ?_) (fun cdv A outer s H vs Q E hr h => ?_)
  · obtain ⟨a, h, rs, rfl, _⟩ := h
    rfl
  · obtain ⟨a, h, rs, rfl, ha, oh, R, k⟩ := h
    refine ⟨_, (pss_cons (ps_set (i := 1) sc_index_with_sizes.nd rfl (Or.inl rfl) (pe_call (ok_tables_of T) (hr.mono (by decide)) (by rfl) T.g_tables_of T.F_tables_of.kp T.b_tables_of .nil pass0 (pa_cons (pv 0) pa_nil)))
      (pss_cons (ps_setLc (i := 3) (own := [("table", 2)]) (g := (gName 2)) (tt := tYes) rfl sc_index_with_sizes.nd rfl rfl (sw_true rfl rfl rfl (by decide +kernel)) (pi_list (pv 1)) (blkOk_by (own := [("table", 2)]) (N := n_index_with_sizes) (sc := defScope s_index_with_sizes) (by decide +kernel)) (fun _ _ _ _ _ => (pg_name (i := 2) sc_index_with_sizes.nd rfl (Or.inl rfl))) (fun _ _ _ _ _ => pts_nil) (fun _ _ _ _ _ => (pe_callB (id := "len") (r := rLenS K) call_lenR (by rfl) T.m_len (by decide +kernel) (pa_cons (pv 2) pa_nil))))
      (pss_cons (ps_set (i := 4) sc_index_with_sizes.nd rfl (Or.inl rfl) (pe_listRg rfl (by rfl) T.m_list (prg_1 (by rfl) T.m_range (pe_callB call_lenR (by rfl) T.m_len (by decide +kernel) (pa_cons (pv 0) pa_nil)))))
      (pss_cons (ps_set (i := 5) sc_index_with_sizes.nd rfl (Or.inl rfl) pe_int)
      (pss_cons (ps_for PassesOwn.never rfl (pi_list (pv 1)) (pg_name (i := 2) sc_index_with_sizes.nd rfl (Or.inr rfl)) (pss_cons (ps_aug (i := 5) sc_index_with_sizes.nd rfl (Or.inl rfl) (pe_call (ok_index_of_table T) (hr.mono (by decide)) (by rfl) T.g_index_of_table T.F_index_of_table.kp T.b_index_of_table .nil pass0 (pa_cons (pv 4) (pa_cons (pe_call (ok_ways_behind_sizes T) (hr.mono (by decide)) (by rfl) T.g_ways_behind_sizes T.F_ways_behind_sizes.kp T.b_ways_behind_sizes .nil pass0 (pa_cons (pv 3) pa_nil)) (pa_cons (pv 2) pa_nil)))) ip_add)
      (pss_cons (ps_expr (pe_bm PySem.F.plainAttrs_list PySem.F.slot_list_remove PySem.F.type_list_remove mt_remove (pv 3) (pa_cons (pe_callB call_lenR (by rfl) T.m_len (by decide +kernel) (pa_cons (pv 2) pa_nil)) pa_nil)))
      (pss_one (ps_setLc (i := 4) (own := [("guest", 6)]) (g := (gName 6)) rfl sc_index_with_sizes.nd rfl rfl (sw_true rfl rfl rfl (by decide +kernel)) (pi_list (pv 4)) (blkOk_by (own := [("guest", 6)]) (N := n_index_with_sizes) (sc := defScope s_index_with_sizes) (by decide +kernel)) (fun _ _ _ _ _ => (pg_name (i := 6) sc_index_with_sizes.nd rfl (Or.inl rfl))) (fun _ _ _ _ _ => (pts_one (pt_cmpR (r := rIn K true) op_notIn_seq (pv 6) (pv 2) (by rfl)))) (fun _ _ _ _ _ => (pv 6)))))))
      (pss_one (ps_ret (pv 5)))))))), ?_⟩
    refine q_asgLT (rs := rs.map nv) (elt_tables (ev_var rfl) ha oh R) fun pt ws H2 npt e02 hpt tl => ?_
    have ha2 := e02 a _ ha
    have hn := oh.2
    have rl := many R
    have l1 := TL.len tl
    rw [List.length_map] at l1
    have e0 : nv (rs.map List.length) = (List.range ws.length).map fun i => V.int ((rs.getD i []).length : Int) := by
      rw [nv_eq, List.map_map, l1]
      conv => lhs; rw [range_get rs []]
      rw [List.map_map]
      rfl
    refine q_asgL (xs := nv (rs.map List.length)) ?_ fun pr H3 nr e3 hr3 => ?_
    · rw [e0]
      refine el_mapI _ (ev_var rfl) (sq_of hpt) (by omega) (fun _ => rfl) fun i x H3 e3 hx => ?_
      obtain ⟨b, r, rfl, hb, hr⟩ := TL.get tl hx
      rw [List.getElem?_map] at hr
      obtain ⟨r0, hr0, rfl⟩ := Option.map_eq_some_iff.mp hr
      have g : rs.getD i [] = r0 := by rw [List.getD_eq_getElem?_getD, hr0] <;> rfl
      rw [g, ← nv_len r0]
      exact ev_lenT (K := K) (ev_var rfl) (st_of (e3 b _ hb))
    have rg := el_rg1 (σ := [some (.ref a), some (.ref pt), none, some (.ref pr), none, none, none]) (ev_lenH (K := K) (i := 0) rfl (e3 a _ ha2)) (RgOk.of_le (by decide) (by omega) (by decide) (by omega))
    rw [range_iz] at rg
    refine q_asgL rg fun pf H4 nf e4 hf4 => ?_
    refine q_asg (v := .int 0) ev_c fun H5 e5 => ?_
    have e25 := e3.trans (e4.trans e5)
    have hpt5 := e25 pt _ hpt
    have rt : pr ≠ pt := (ne_of_none hpt nr).symm
    have rf : pf ≠ pr := (ne_of_none hr3 nf).symm
    refine q_forLn (xs := ws) (K := K) (ev_var rfl) (sq_of hpt5) (fun m σ' H' => ∃ (F : List Nat) (pf : Addr) (n : Int) (y2 : Option V), σ' = [some (.ref a), some (.ref pt), y2, some (.ref pr), some (.ref pf), some (.int n), none] ∧ Ex H2 H' ∧ H' pr = some (.lst (nv ((rs.drop m).map List.length))) ∧ H' pf = some (.lst (nv F)) ∧ pf ≠ pr ∧ F.Perm (rs.drop m).flatten ∧ F.Pairwise (· < ·) ∧ 0 ≤ n ∧ n + (wws ((rs.drop m).map List.length) : Nat) ≤ (wws (rs.map List.length) : Nat))
      (fun H6 e6 => ⟨List.range h.length, pf, 0, none, rfl, e25.trans e6, e6 pr _ (e5 pr _ (e4 pr _ hr3)), e6 pf _ (e5 pf _ hf4), rf, R.all.symm, List.pairwise_lt_range, Int.le_refl _, by rw [List.drop_zero]; omega⟩) (fun m σ' H' _ ⟨_, _, _, _, _, e, _⟩ => sq_of (e pt _ hpt)) ?_ ?_
    · rintro m v σ' H6 hv ⟨F, pf, n, y2, rfl, e, hr, hf, rf, pm, so, n0, nb⟩
      obtain ⟨b, r', rfl, hb, hr0⟩ := TL.get tl hv
      rw [List.getElem?_map] at hr0
      obtain ⟨r, hr1, rfl⟩ := Option.map_eq_some_iff.mp hr0
      have hml := (List.getElem?_eq_some_iff.mp hr1).1
      have hrm : r ∈ rs := List.mem_of_getElem? hr1
      have dr : rs.drop m = r :: rs.drop (m + 1) := by
        rw [List.drop_eq_getElem_cons hml, (List.getElem?_eq_some_iff.mp hr1).2]
      rw [dr] at pm hr nb
      have rne := (R.rg r hrm).ne
      have sub : ∀ r' ∈ r :: rs.drop (m + 1), r' ∈ rs := fun r' h => by
        rw [← dr] at h
        exact List.mem_of_mem_drop h
      have h0 := asc_head so pm rne (fun r' h => R.low r' (sub r' h)) (by
        have := R.asc.sublist ((List.drop_sublist m rs).map _)
        rw [dr] at this
        exact this)
      have hb6 := e b _ hb
      have fl := pm.length_eq
      rw [List.flatten_cons, List.length_append] at fl
      have dl : (rs.drop m).flatten.length ≤ h.length := by
        have := R.all.length_eq
        rw [List.length_range] at this
        rw [← this]
        conv => rhs; rw [← List.take_append_drop m rs, List.flatten_append, List.length_append]
        omega
      rw [dr, List.flatten_cons, List.length_append] at dl
      have oR : Sz0 ((r :: rs.drop (m + 1)).map List.length) := ⟨fun x hx => by
        obtain ⟨r', h, rfl⟩ := List.mem_map.mp hx
        exact (R.rg r' (sub r' h)).ne, by
        rw [← List.length_flatten, List.flatten_cons, List.length_append]
        omega⟩
      have po : (r ++ (rs.drop (m + 1)).flatten).Perm F := by
        rw [List.flatten_cons] at pm
        exact pm.symm
      refine q_augIx (σ := [some (.ref a), some (.ref pt), some (.ref b), some (.ref pr), some (.ref pf), some (.int n), none]) (i := 4) (j := 3) (l := 2) (a := 5) (n := n) rfl rfl rfl rfl hf hr hb6 oR ⟨_, po⟩ h0 ⟨by omega, by omega⟩ (by rw [← List.length_flatten]; exact pm.length_eq) List.mem_cons_self fun d2 H7 d0 db e7 => ?_
      have hb7 := e7 b _ hb6
      have lt := ev_lenT (K := K) (ta := tVar 2) (σ := [some (.ref a), some (.ref pt), some (.ref b), some (.ref pr), some (.ref pf), some (.int (n + d2)), none]) (H := H7) (ev_var (i := 2) rfl) (st_of hb7)
      rw [nv_len] at lt
      have br : b ≠ pr := fun z => by rw [z, e7 pr _ hr] at hb7; cases hb7
      refine q_remI (K := K) (e7 pr _ hr) List.mem_cons_self (ev_var rfl) lt fun H8 e8 => ?_
      have er : ((r :: rs.drop (m + 1)).map List.length).erase r.length = (rs.drop (m + 1)).map List.length := by rw [List.map_cons, List.erase_cons_head]
      rw [er] at db ⊢
      have hf8 : upd H8 pr (.lst (nv ((rs.drop (m + 1)).map List.length))) pf = some (.lst (nv F)) := by rw [upd_ne rf]; exact e8 pf _ (e7 pf _ hf)
      have hb8 : upd H8 pr (.lst (nv ((rs.drop (m + 1)).map List.length))) b = some (.tup (nv r)) := by rw [upd_ne br]; exact e8 b _ hb7
      refine s_asgL (el_left (K := K) (F := F) (t := r) (q := b) (ev_var rfl) hf8 (by omega) (fun _ => rfl) (fun _ => rfl) (fun _ _ => ev_var rfl) hb8) fun pf2 H9 nf9 e9 hf9 => ?_
      have f2r : pf2 ≠ pr := fun z => by rw [z, upd_same] at nf9; cases nf9
      refine ⟨F.filter fun y => !decide (y ∈ r), pf2, n + d2, _, rfl, Ex.trans (Ex.mut (e.trans (e7.trans e8)) nr) e9, e9 pr _ upd_same, hf9, f2r, left_perm (so.imp fun h => Nat.ne_of_lt h) po, so.filter _, by omega, by omega⟩
    · rintro σ' H' ⟨F, pf, n, y2, rfl, e, _, _, _, _, _, n0, nb⟩
      rw [List.drop_eq_nil_of_le (by rw [l1]; exact Nat.le_refl _)] at nb
      have w1 : wws (([] : List (List Nat)).map List.length) = 1 := by decide +kernel
      rw [w1] at nb
      exact s_ret (ev_var rfl) fun H3 e3 => k n H3 n0 (by omega) (e02.trans (e.trans e3))
end


local macro_rules | `(tactic| walk_at "call") => `(tactic| (with_reducible exact sv_whole))
local macro_rules | `(tactic| walk_at "call") => `(tactic| ((with_reducible refine' sv_order ?c1 ?c2); (case c1 => assumption); (case c2 => assumption)))
local macro_rules | `(tactic| walk_at "call") => `(tactic| ((with_reducible refine' sv_ord ?c1 ?c2); (case c1 => assumption); (case c2 => assumption)))

/-! ### steps, mirrors and names: the mathematics -/
theorem emod_rot {w j : Nat} (hj : j < w) (z : Int) : ((z % (w : Int)).toNat + j) % w = (((j : Int) + z) % (w : Int)).toNat := by
  have h0 : (0 : Int) < (w : Int) := by omega
  have l0 := Int.emod_nonneg z (show (w : Int) ≠ 0 by omega)
  have l1 := Int.emod_lt_of_pos z h0
  have m0 := Int.emod_nonneg ((j : Int) + z) (show (w : Int) ≠ 0 by omega)
  have e : ((((z % (w : Int)).toNat + j) % w : Nat) : Int) = ((j : Int) + z) % (w : Int) := by
    rw [Int.natCast_emod, Int.natCast_add, Int.toNat_of_nonneg l0, Int.add_comm, Int.add_emod_emod]
  omega
theorem emod_lt {w : Nat} (h : 0 < w) (z : Int) : (z % (w : Int)).toNat < w := by
  have l0 := Int.emod_nonneg z (show (w : Int) ≠ 0 by omega)
  have l1 := Int.emod_lt_of_pos z (show (0 : Int) < (w : Int) by omega)
  omega
theorem mirr_len (h : List Nat) : (mirr h).length = h.length := by simp [mirr]
theorem mirr_get {h : List Nat} (o : Ord h) {x y : Nat} (e : h[x]? = some y) : (mirr h)[y]? = some x := by
  have hy := o.at_ e
  unfold mirr
  rw [List.getElem?_map, List.getElem?_range hy]
  exact congrArg some (idx_at o.nd e)
theorem Ord.some {h : List Nat} (o : Ord h) {y : Nat} (hy : y < h.length) : ∃ x : Nat, h[x]? = some y := by
  obtain ⟨x, hx⟩ := List.mem_iff_getElem?.mp (o.mem.mpr hy)
  exact ⟨x, hx⟩
theorem mirr_mem {h : List Nat} (o : Ord h) {x : Nat} (hx : x < h.length) : x ∈ mirr h := by
  obtain ⟨y, hy⟩ : ∃ y, h[x]? = some y := ⟨h[x], List.getElem?_eq_getElem hx⟩
  exact List.mem_of_getElem? (mirr_get o hy)
theorem mirr_nd {h : List Nat} (o : Ord h) : (mirr h).Nodup := by
  unfold mirr
  show List.Pairwise _ _
  rw [List.pairwise_map]
  refine List.Pairwise.imp_of_mem ?_ List.nodup_range
  intro a b ha hb ne e
  refine ne ?_
  have ha := o.mem.mpr (List.mem_range.mp ha)
  have hb := o.mem.mpr (List.mem_range.mp hb)
  have h1 : h[h.idxOf a]? = some a := by rw [List.getElem?_eq_getElem (List.idxOf_lt_length_of_mem ha), List.getElem_idxOf]
  have h2 : h[h.idxOf b]? = some b := by rw [List.getElem?_eq_getElem (List.idxOf_lt_length_of_mem hb), List.getElem_idxOf]
  rw [e, h2] at h1
  exact (Option.some.inj h1).symm
theorem mirr_ord {h : List Nat} (o : Ord h) : Ord (mirr h) := by
  refine ⟨?_, by rw [mirr_len]; exact o.2⟩
  rw [mirr_len]
  refine (List.perm_ext_iff_of_nodup (mirr_nd o) List.nodup_range).mpr fun x => ?_
  rw [List.mem_range]
  constructor
  · intro hx
    unfold mirr at hx
    obtain ⟨g, hg, rfl⟩ := List.mem_map.mp hx
    exact List.idxOf_lt_length_of_mem (o.mem.mpr (List.mem_range.mp hg))
  · exact mirr_mem o
theorem mirr_mirr {h : List Nat} (o : Ord h) : mirr (mirr h) = h := by
  refine List.ext_getElem? fun x => ?_
  by_cases hx : x < h.length
  · obtain ⟨y, hy⟩ : ∃ y, h[x]? = some y := ⟨h[x], List.getElem?_eq_getElem hx⟩
    rw [hy]
    exact mirr_get (mirr_ord o) (mirr_get o hy)
  · rw [List.getElem?_eq_none (by rw [mirr_len, mirr_len]; omega), List.getElem?_eq_none (by omega)]
theorem rg_step {h r s : List Nat} (R : Rg h r) (S : Rg h s) (h0 : r[0]? = s[0]?) : ∀ i, i < r.length → i < s.length → r[i]? = s[i]?
  | 0, _, _ => h0
  | i + 1, h1, h2 => by
    have ih := rg_step R S h0 i (by omega) (by omega)
    obtain ⟨x, y, a1, a2, a3⟩ := R.st i (by omega)
    obtain ⟨x', y', b1, b2, b3⟩ := S.st i (by omega)
    rw [Nat.mod_eq_of_lt h1] at a2
    rw [Nat.mod_eq_of_lt h2] at b2
    rw [a1, b1] at ih
    cases ih
    rw [a2, b2, ← a3, ← b3]
theorem rg_len {h r s : List Nat} (R : Rg h r) (S : Rg h s) (h0 : r[0]? = s[0]?) : s.length ≤ r.length := by
  refine Nat.le_of_not_lt fun hl => ?_
  have rn := R.ne
  obtain ⟨x, y, a1, a2, a3⟩ := R.st (r.length - 1) (by omega)
  obtain ⟨x', y', b1, b2, b3⟩ := S.st (r.length - 1) (by omega)
  have e := rg_step R S h0 (r.length - 1) (by omega) (by omega)
  rw [a1, b1] at e
  cases e
  rw [show r.length - 1 + 1 = r.length by omega, Nat.mod_self] at a2
  rw [show r.length - 1 + 1 = r.length by omega, Nat.mod_eq_of_lt hl] at b2
  have : y = y' := Option.some.inj (a3.symm.trans b3)
  subst this
  rw [h0] at a2
  have := nd_ix S.nd a2 b2
  omega
theorem rg_eq {h r s : List Nat} (R : Rg h r) (S : Rg h s) (h0 : r[0]? = s[0]?) : r = s := by
  have l : r.length = s.length := Nat.le_antisymm (rg_len S R h0.symm) (rg_len R S h0)
  refine List.ext_getElem? fun i => ?_
  by_cases hi : i < r.length
  · exact rg_step R S h0 i hi (by omega)
  · rw [List.getElem?_eq_none (by omega), List.getElem?_eq_none (by omega)]
theorem Rg.lt {h r : List Nat} (R : Rg h r) {i x : Nat} (hx : r[i]? = some x) : x < h.length := by
  have hl := (List.getElem?_eq_some_iff.mp hx).1
  obtain ⟨a, b, h1, _, h3⟩ := R.st i hl
  rw [h1] at hx
  cases hx
  exact (List.getElem?_eq_some_iff.mp h3).1
theorem gst_any {h : List Nat} (o : Ord h) {g : Nat} (hg : g < h.length) : ∃ r, Gst h r g := by
  obtain ⟨rs, R, _⟩ := ord_rings o
  obtain ⟨_, r, hr, k, hk, rfl⟩ := R.turn hg
  have hl := (List.getElem?_eq_some_iff.mp hk).1
  have sh := R.short hr
  have o2 := o.2.2
  refine ⟨rot r k, o, (R.rg r hr).rot hl, ?_, hg, by rw [rot_len (by omega)]; omega⟩
  rw [rot_get hl (by omega), Nat.zero_add, Nat.mod_eq_of_lt hl]
  exact hk
/-- y sits z places to the left of g -/
def Stp (h : List Nat) (g : Nat) (z : Int) (y : Nat) : Prop := ∃ r, Gst h r g ∧ r[(z % (r.length : Int)).toNat]? = some y
theorem stp_in {h r : List Nat} {g y : Nat} {z : Int} (s : Stp h g z y) (G : Gst h r g) : r[(z % (r.length : Int)).toNat]? = some y := by
  obtain ⟨r', G', e⟩ := s
  have : r' = r := rg_eq G'.2.1 G.2.1 (G'.2.2.1.trans G.2.2.1.symm)
  rw [← this]
  exact e
theorem stp_ex {h : List Nat} (o : Ord h) {g : Nat} (hg : g < h.length) (z : Int) : ∃ y, y < h.length ∧ Stp h g z y := by
  obtain ⟨r, G⟩ := gst_any o hg
  have l := emod_lt (w := r.length) G.2.1.ne z
  exact ⟨_, G.2.1.lt (List.getElem?_eq_getElem l), r, G, List.getElem?_eq_getElem l⟩
theorem stp_uniq {h : List Nat} {g y w : Nat} {z : Int} (a : Stp h g z y) (b : Stp h g z w) : y = w := by
  obtain ⟨r, G, e⟩ := b
  have := stp_in a G
  rw [e] at this
  exact (Option.some.inj this).symm
theorem stp_add {h : List Nat} {g y w : Nat} {a b : Int} (s : Stp h g a y) (t : Stp h y b w) : Stp h g (a + b) w := by
  obtain ⟨r, G, hy⟩ := s
  have rn := G.2.1.ne
  have hl := emod_lt (w := r.length) rn a
  have G' : Gst h (rot r (a % (r.length : Int)).toNat) y := ⟨G.1, G.2.1.rot hl, by rw [rot_get hl rn, Nat.zero_add, Nat.mod_eq_of_lt hl]; exact hy, G.2.1.lt hy, by rw [rot_len (by omega)]; exact G.2.2.2.2⟩
  have e := stp_in t G'
  rw [rot_len (by omega), rot_get hl (emod_lt rn b), emod_rot hl, Int.toNat_of_nonneg (Int.emod_nonneg _ (by omega)), Int.emod_add_emod] at e
  exact ⟨r, G, e⟩
theorem neg_idx {n : Nat} (h : 0 < n) (a : Int) : n - 1 - ((((-a) % (n : Int)).toNat + (n - 1)) % n) = (a % (n : Int)).toNat := by
  have e : (-a) % (n : Int) = (-(a % (n : Int))) % (n : Int) := by
    have d := Int.emod_add_mul_ediv a (n : Int)
    have : -a = -(a % (n : Int)) + (n : Int) * (-(a / (n : Int))) := by
      rw [Int.mul_neg]
      omega
    conv => lhs; rw [this]
    rw [Int.add_mul_emod_self_left]
  have l0 := Int.emod_nonneg a (show (n : Int) ≠ 0 by omega)
  have l1 := Int.emod_lt_of_pos a (show (0 : Int) < (n : Int) by omega)
  rw [e]
  generalize a % (n : Int) = A at l0 l1 ⊢
  by_cases z : A = 0
  · subst z
    rw [Int.neg_zero, Int.zero_emod, Int.toNat_zero, Nat.zero_add, Nat.mod_eq_of_lt (by omega)]
    omega
  · have e2 : (-A) % (n : Int) = (n : Int) - A := by
      rw [← Int.add_emod_right, Int.emod_eq_of_lt (by omega) (by omega)]
      omega
    rw [e2, show ((n : Int) - A).toNat + (n - 1) = (n - 1 - A.toNat) + n by omega, Nat.add_mod_right, Nat.mod_eq_of_lt (by omega)]
    omega
theorem rg_rev {h r : List Nat} (o : Ord h) (R : Rg h r) : Rg (mirr h) r.reverse := by
  have rn := R.ne
  refine ⟨by rw [List.length_reverse]; exact rn, (List.reverse_perm r).nodup_iff.mpr R.nd, fun i hi => ?_⟩
  rw [List.length_reverse] at hi ⊢
  have ml := Nat.mod_lt (i + 1) rn
  obtain ⟨x, y, h1, h2, h3⟩ := R.st (r.length - 1 - (i + 1) % r.length) (by omega)
  refine ⟨y, x, ?_, ?_, mirr_get o h3⟩
  · rw [List.getElem?_reverse hi, ← h2]
    congr 1
    rcases Nat.lt_or_ge (i + 1) r.length with q | q
    · rw [Nat.mod_eq_of_lt q, Nat.mod_eq_of_lt (by omega)]
      omega
    · have : i + 1 = r.length := by omega
      rw [this, Nat.mod_self, Nat.sub_zero, show r.length - 1 + 1 = r.length by omega, Nat.mod_self]
      omega
  · rw [List.getElem?_reverse ml, ← h1]
/-- a ring the other way round, from the same guest on -/
def mring (r : List Nat) : List Nat := rot r.reverse (r.length - 1)
theorem mring_perm (r : List Nat) : (mring r).Perm r := (rot_perm _ _).trans (List.reverse_perm r)
theorem mring_len (r : List Nat) : (mring r).length = r.length := (mring_perm r).length_eq
theorem mring_rg {h r : List Nat} (o : Ord h) (R : Rg h r) : Rg (mirr h) (mring r) := (rg_rev o R).rot (by rw [List.length_reverse]; have := R.ne; omega)
theorem mring_at {r : List Nat} (rn : 0 < r.length) (a : Int) : (mring r)[((-a) % (r.length : Int)).toNat]? = r[(a % (r.length : Int)).toNat]? := by
  have hl := emod_lt (w := r.length) rn (-a)
  have rl : r.reverse.length = r.length := List.length_reverse
  have ml : (((-a) % (r.length : Int)).toNat + (r.length - 1)) % r.length < r.length := Nat.mod_lt _ rn
  unfold mring
  rw [rot_get (by omega) (by omega), rl, List.getElem?_reverse ml, neg_idx rn]
theorem mring_zero {r : List Nat} (rn : 0 < r.length) : (mring r)[0]? = r[0]? := by
  have := mring_at rn 0
  simpa using this
theorem stp_mirr {h : List Nat} {g y : Nat} {a : Int} (s : Stp h g a y) : Stp (mirr h) g (-a) y := by
  obtain ⟨r, G, e⟩ := s
  have rn := G.2.1.ne
  refine ⟨mring r, ⟨mirr_ord G.1, mring_rg G.1 G.2.1, (mring_zero rn).trans G.2.2.1, by rw [mirr_len]; exact G.2.2.2.1, by rw [mring_len]; exact G.2.2.2.2⟩, ?_⟩
  rw [mring_len, mring_at rn]
  exact e
theorem stp_one {h : List Nat} (o : Ord h) {g y : Nat} (e : h[g]? = some y) : Stp h g 1 y := by
  obtain ⟨r, G⟩ := gst_any o (List.getElem?_eq_some_iff.mp e).1
  refine ⟨r, G, ?_⟩
  obtain ⟨a, b, h1, h2, h3⟩ := G.2.1.st 0 G.2.1.ne
  rw [G.2.2.1] at h1
  cases h1
  rw [e] at h3
  cases h3
  have : ((1 : Int) % (r.length : Int)).toNat = (0 + 1) % r.length := by
    have : (1 : Int) % (r.length : Int) = ((1 % r.length : Nat) : Int) := rfl
    rw [this, Int.toNat_natCast, Nat.zero_add]
  rw [this]
  exact h2
/-! renamed -/
def Ren (h f t : List Nat) : Prop := t.length = h.length ∧ ∀ (g x : Nat), h[g]? = some x → ∃ y z, f[g]? = some y ∧ f[x]? = some z ∧ t[y]? = some z
def ren (h f : List Nat) : List Nat := (List.range h.length).map fun y => f.getD (h.getD ((mirr f).getD y 0) 0) 0
theorem get_at {l : List Nat} {i : Nat} (h : i < l.length) : l[i]? = some (l.getD i 0) := by
  rw [List.getD_eq_getElem?_getD, List.getElem?_eq_getElem h]
  rfl
theorem ren_ok {h f : List Nat} (o : Ord h) (o' : Ord f) (l : f.length = h.length) : Ren h f (ren h f) := by
  refine ⟨by simp [ren], fun g x e => ?_⟩
  have gl := (List.getElem?_eq_some_iff.mp e).1
  have xl := o.at_ e
  have e1 := get_at (l := f) (i := g) (by omega)
  have e2 := get_at (l := f) (i := x) (by omega)
  refine ⟨_, _, e1, e2, ?_⟩
  have yl := o'.at_ e1
  unfold ren
  rw [List.getElem?_map, List.getElem?_range (by omega)]
  have m := mirr_get o' e1
  show some (f.getD (h.getD ((mirr f).getD (f.getD g 0) 0) 0) 0) = _
  rw [getD_of m, getD_of e]
theorem ren_uniq {h f t u : List Nat} (o' : Ord f) (l : f.length = h.length) (a : Ren h f t) (b : Ren h f u) : t = u := by
  refine List.ext_getElem? fun y => ?_
  by_cases hy : y < h.length
  · obtain ⟨g, hg⟩ := o'.some (y := y) (by omega)
    have gl := (List.getElem?_eq_some_iff.mp hg).1
    have e := get_at (l := h) (i := g) (by omega)
    obtain ⟨y1, z1, a1, a2, a3⟩ := a.2 g _ e
    obtain ⟨y2, z2, b1, b2, b3⟩ := b.2 g _ e
    rw [hg] at a1 b1
    cases a1
    cases b1
    rw [a2] at b2
    cases b2
    rw [a3, b3]
  · rw [List.getElem?_eq_none (by rw [a.1]; omega), List.getElem?_eq_none (by rw [b.1]; omega)]
theorem ren_ord {h f t : List Nat} (o : Ord h) (o' : Ord f) (l : f.length = h.length) (a : Ren h f t) : Ord t := by
  have at_ : ∀ {y z : Nat}, t[y]? = some z → ∃ g x, f[g]? = some y ∧ h[g]? = some x ∧ f[x]? = some z := fun {y z} e => by
    have yl := (List.getElem?_eq_some_iff.mp e).1
    rw [a.1] at yl
    obtain ⟨g, hg⟩ := o'.some (y := y) (by omega)
    have gl := (List.getElem?_eq_some_iff.mp hg).1
    have e1 := get_at (l := h) (i := g) (by omega)
    obtain ⟨y1, z1, a1, a2, a3⟩ := a.2 g _ e1
    rw [hg] at a1
    cases a1
    rw [e] at a3
    cases a3
    exact ⟨g, _, hg, e1, a2⟩
  have o2 := o.2
  refine ⟨?_, by rw [a.1]; exact o2.1, by rw [a.1]; exact o2.2⟩
  rw [a.1]
  refine (List.perm_ext_iff_of_nodup ?_ List.nodup_range).mpr fun z => ?_
  · refine List.pairwise_iff_getElem.mpr fun i j hi hj ij e => ?_
    obtain ⟨g, x, c1, c2, c3⟩ := at_ (List.getElem?_eq_getElem hi)
    obtain ⟨g', x', d1, d2, d3⟩ := at_ (List.getElem?_eq_getElem hj)
    rw [e] at c3
    have ex : x = x' := nd_ix o'.nd c3 d3
    rw [ex] at c2
    have eg : g = g' := nd_ix o.nd c2 d2
    rw [eg, d1] at c1
    have := Option.some.inj c1
    omega
  · rw [List.mem_range]
    constructor
    · intro hz
      obtain ⟨y, hy⟩ := List.mem_iff_getElem?.mp hz
      obtain ⟨g, x, _, _, c3⟩ := at_ hy
      have := o'.at_ c3
      omega
    · intro hz
      obtain ⟨x, hx⟩ := o'.some (y := z) (by omega)
      have xl := (List.getElem?_eq_some_iff.mp hx).1
      obtain ⟨g, hg⟩ := o.some (y := x) (by omega)
      obtain ⟨y, z', _, a2, a3⟩ := a.2 g x hg
      rw [hx] at a2
      cases a2
      exact List.mem_of_getElem? a3
theorem ren_rg {h f t r : List Nat} (o' : Ord f) (l : f.length = h.length) (a : Ren h f t) (R : Rg h r) : Rg t (r.map fun x => f.getD x 0) := by
  refine ⟨by rw [List.length_map]; exact R.ne, ?_, fun i hi => ?_⟩
  · refine List.pairwise_map.mpr (R.nd.imp_of_mem fun {x y} hx hy ne e => ne ?_)
    obtain ⟨i, hi⟩ := List.mem_iff_getElem?.mp hx
    obtain ⟨j, hj⟩ := List.mem_iff_getElem?.mp hy
    have xl := R.lt hi
    have yl := R.lt hj
    have e1 := get_at (l := f) (i := x) (by omega)
    rw [e] at e1
    exact nd_ix o'.nd e1 (get_at (by omega))
  · rw [List.length_map] at hi ⊢
    obtain ⟨x, y, h1, h2, h3⟩ := R.st i hi
    obtain ⟨y', z', a1, a2, a3⟩ := a.2 x y h3
    refine ⟨y', z', ?_, ?_, a3⟩
    · rw [List.getElem?_map, h1]
      show some (f.getD x 0) = _
      rw [getD_of a1]
    · rw [List.getElem?_map, h2]
      show some (f.getD y 0) = _
      rw [getD_of a2]
theorem ren_gst {h f t r : List Nat} {g g' : Nat} (o' : Ord f) (l : f.length = h.length) (a : Ren h f t) (G : Gst h r g) (e : f[g]? = some g') : Gst t (r.map fun x => f.getD x 0) g' := by
  refine ⟨ren_ord G.1 o' l a, ren_rg o' l a G.2.1, ?_, by rw [a.1, ← l]; exact o'.at_ e, by rw [List.length_map]; exact G.2.2.2.2⟩
  rw [List.getElem?_map, G.2.2.1]
  show some (f.getD g 0) = _
  rw [getD_of e]
theorem stp_ren {h f t : List Nat} {g g' y y' : Nat} {z : Int} (o' : Ord f) (l : f.length = h.length) (a : Ren h f t) (s : Stp h g z y) (e : f[g]? = some g') (e' : f[y]? = some y') : Stp t g' z y' := by
  obtain ⟨r, G, hy⟩ := s
  refine ⟨_, ren_gst o' l a G e, ?_⟩
  rw [List.length_map, List.getElem?_map, hy]
  show some (f.getD y 0) = _
  rw [getD_of e']
theorem ren_back {h f t : List Nat} (o' : Ord f) (l : f.length = h.length) (a : Ren h f t) : Ren t (mirr f) h := by
  refine ⟨a.1.symm, fun g x e => ?_⟩
  have gl := (List.getElem?_eq_some_iff.mp e).1
  rw [a.1] at gl
  obtain ⟨i, hi⟩ := o'.some (y := g) (by omega)
  have il := (List.getElem?_eq_some_iff.mp hi).1
  have e1 := get_at (l := h) (i := i) (by omega)
  obtain ⟨y1, z1, a1, a2, a3⟩ := a.2 i _ e1
  rw [hi] at a1
  cases a1
  rw [e] at a3
  cases a3
  exact ⟨i, _, mirr_get o' hi, mirr_get o' a2, e1⟩
theorem ren_mirr {h f t : List Nat} (o : Ord h) (o' : Ord f) (l : f.length = h.length) (a : Ren h f t) : Ren (mirr h) f (mirr t) := by
  refine ⟨by rw [mirr_len, mirr_len]; exact a.1, fun g x e => ?_⟩
  have e1 := mirr_get (mirr_ord o) e
  rw [mirr_mirr o] at e1
  obtain ⟨y, z, a1, a2, a3⟩ := a.2 x g e1
  exact ⟨z, y, a2, a1, mirr_get (ren_ord o o' l a) a3⟩
theorem ren_ren {h f t m u : List Nat} (a : Ren h f t) (b : Ren t m u) : Ren h (f.map fun x => m.getD x 0) u := by
  refine ⟨b.1.trans a.1, fun g x e => ?_⟩
  obtain ⟨y, z, a1, a2, a3⟩ := a.2 g x e
  obtain ⟨y2, z2, b1, b2, b3⟩ := b.2 y z a3
  refine ⟨y2, z2, ?_, ?_, b3⟩
  · rw [List.getElem?_map, a1]
    show some (m.getD y 0) = _
    rw [getD_of b1]
  · rw [List.getElem?_map, a2]
    show some (m.getD z 0) = _
    rw [getD_of b2]
theorem ord_map {f m : List Nat} (o : Ord f) (o' : Ord m) (l : m.length = f.length) : Ord (f.map fun x => m.getD x 0) := by
  refine ⟨?_, by rw [List.length_map]; exact o.2.1, by rw [List.length_map]; exact o.2.2⟩
  rw [List.length_map]
  have e : ((List.range f.length).map fun x => m.getD x 0) = m := by
    rw [← l]
    exact (range_get m 0).symm
  have p := o.1.map fun x => m.getD x 0
  rw [e] at p
  have q := o'.1
  rw [l] at q
  exact p.trans q
/-! tables as sets -/
def srt (r : List Nat) : List Nat := r.mergeSort fun a b => decide (a ≤ b)
theorem srt_perm (r : List Nat) : (srt r).Perm r := List.mergeSort_perm _ _
theorem srt_up (r : List Nat) : (srt r).Pairwise (· ≤ ·) := by
  have := List.pairwise_mergeSort (le := fun a b : Nat => decide (a ≤ b)) (fun a b c h1 h2 => by simp at *; omega) (fun a b => by simp; omega) r
  exact this.imp fun h => of_decide_eq_true h
theorem srt_eq {r s : List Nat} (h : r.Perm s) : srt r = srt s := List.Perm.eq_of_pairwise (le := fun a b : Nat => a ≤ b) (fun a b _ _ h1 h2 => Nat.le_antisymm h1 h2) (srt_up r) (srt_up s) ((srt_perm r).trans (h.trans (srt_perm s).symm))
theorem srt_back {r s : List Nat} (h : srt r = srt s) : r.Perm s := (srt_perm r).symm.trans (h ▸ srt_perm s)
theorem sets_nodup {rs : List (List Nat)} (nd : rs.flatten.Nodup) (ne : ∀ r ∈ rs, 0 < r.length) : (rs.map srt).Nodup := by
  refine List.pairwise_map.mpr ?_
  have := (List.pairwise_flatten.mp nd).2
  refine List.Pairwise.imp_of_mem (fun {a b} ha hb h e => ?_) this
  have an := ne a ha
  obtain ⟨x, hx⟩ : ∃ x, x ∈ a := ⟨a[0], List.getElem_mem an⟩
  exact h x hx x ((srt_back e).mem_iff.mp hx) rfl
theorem rings_same {t : List Nat} {ts us : List (List Nat)} (S : Rings t ts) (rg : ∀ r ∈ us, Rg t r) (all : us.flatten.Perm (List.range t.length)) : (ts.map srt).Perm (us.map srt) := by
  have n1 := S.all.nodup_iff.mpr List.nodup_range
  have n2 := all.nodup_iff.mpr List.nodup_range
  refine (List.perm_ext_iff_of_nodup (sets_nodup n1 fun r hr => (S.rg r hr).ne) (sets_nodup n2 fun r hr => (rg r hr).ne)).mpr fun s => ?_
  -- two rings with a guest in common
  have one : ∀ {a b : List Nat} {x : Nat}, Rg t a → Rg t b → x ∈ a → x ∈ b → srt a = srt b := fun {a b x} A B xa xb => by
    obtain ⟨i, hi⟩ := List.mem_iff_getElem?.mp xa
    obtain ⟨j, hj⟩ := List.mem_iff_getElem?.mp xb
    have il := (List.getElem?_eq_some_iff.mp hi).1
    have jl := (List.getElem?_eq_some_iff.mp hj).1
    have e : rot a i = rot b j := rg_eq (A.rot il) (B.rot jl) (by rw [rot_get il A.ne, rot_get jl B.ne, Nat.zero_add, Nat.zero_add, Nat.mod_eq_of_lt il, Nat.mod_eq_of_lt jl, hi, hj])
    exact srt_eq ((rot_perm a i).symm.trans (e ▸ rot_perm b j))
  have go : ∀ {as bs : List (List Nat)}, (∀ r ∈ as, Rg t r) → (∀ r ∈ bs, Rg t r) → bs.flatten.Perm (List.range t.length) → s ∈ as.map srt → s ∈ bs.map srt := fun {as bs} ra rb al hs => by
    obtain ⟨a, ha, rfl⟩ := List.mem_map.mp hs
    have A := ra a ha
    have h0 := List.getElem?_eq_getElem A.ne
    have xb : a[0]'A.ne ∈ bs.flatten := al.mem_iff.mpr (List.mem_range.mpr (A.lt h0))
    obtain ⟨b, hb, hx⟩ := List.mem_flatten.mp xb
    exact List.mem_map.mpr ⟨b, hb, (one A (rb b hb) (List.getElem_mem A.ne) hx).symm⟩
  exact ⟨go S.rg rg all, go rg S.rg S.all⟩
theorem rings_mirr {h : List Nat} {rs : List (List Nat)} (o : Ord h) (R : Rings h rs) : Rings (mirr h) (rs.map mring) := by
  have hd : ∀ r ∈ rs, (mring r).headD 0 = r.headD 0 := fun r hr => by
    have := mring_zero (R.rg r hr).ne
    rw [List.headD_eq_head?_getD, List.headD_eq_head?_getD, List.head?_eq_getElem?, List.head?_eq_getElem?, this]
  have hm : (rs.map mring).map (·.headD 0) = rs.map (·.headD 0) := by
    rw [List.map_map]
    exact List.map_congr_left hd
  refine ⟨fun r hr => ?_, fun r hr x hx => ?_, by rw [hm]; exact R.asc, ?_⟩
  · obtain ⟨r0, h0, rfl⟩ := List.mem_map.mp hr
    exact mring_rg o (R.rg r0 h0)
  · obtain ⟨r0, h0, rfl⟩ := List.mem_map.mp hr
    rw [hd r0 h0]
    exact R.low r0 h0 x ((mring_perm r0).mem_iff.mp hx)
  · rw [mirr_len]
    refine List.Perm.trans ?_ R.all
    clear hd hm R
    induction rs with
    | nil => exact List.Perm.refl _
    | cons a l ih =>
      rw [List.map_cons, List.flatten_cons, List.flatten_cons]
      exact (mring_perm a).append ih
theorem ren_flat (f : List Nat) (rs : List (List Nat)) : (rs.map fun r => r.map fun x => f.getD x 0).flatten = rs.flatten.map fun x => f.getD x 0 := (List.map_flatten ..).symm
theorem sets_ren {h f t : List Nat} {rs ts : List (List Nat)} (o : Ord h) (o' : Ord f) (l : f.length = h.length) (a : Ren h f t) (R : Rings h rs) (S : Rings t ts) : (ts.map srt).Perm ((rs.map fun r => r.map fun x => f.getD x 0).map srt) := by
  refine rings_same S (fun r hr => ?_) ?_
  · obtain ⟨r0, h0, rfl⟩ := List.mem_map.mp hr
    exact ren_rg o' l a (R.rg r0 h0)
  · rw [ren_flat, a.1]
    refine (R.all.map _).trans ?_
    rw [← l, ← range_get f 0]
    exact o'.1


local macro_rules | `(tactic| walk_at "call") => `(tactic| (with_reducible exact sv_whole))
local macro_rules | `(tactic| walk_at "call") => `(tactic| ((with_reducible refine' sv_order ?c1 ?c2); (case c1 => assumption); (case c2 => assumption)))
local macro_rules | `(tactic| walk_at "call") => `(tactic| ((with_reducible refine' sv_ord ?c1 ?c2); (case c1 => assumption); (case c2 => assumption)))

local macro_rules | `(tactic| walk_at "call") => `(tactic| (with_reducible exact sv_whole))
local macro_rules | `(tactic| walk_at "call") => `(tactic| ((with_reducible refine' sv_ord ?c1 ?c2); (case c1 => assumption); (case c2 => assumption)))

local macro_rules | `(tactic| walk_at "call") => `(tactic| ((with_reducible refine' sv_pow ?c1 ?c2 ?c3); (case c1 => walk_at "side"); (case c2 => walk_at "side"); (case c3 => walk_at "side")))
local macro_rules | `(tactic| walk_at "call") => `(tactic| ((with_reducible refine' sv_rise ?c1 ?c2); (case c1 => walk_at "side"); (case c2 => walk_at "side")))
local macro_rules | `(tactic| walk_at "call") => `(tactic| (with_reducible exact sv_between))
local macro_rules | `(tactic| walk_at "call") => `(tactic| ((with_reducible refine' sv_check1 ?c1 ?c2); (case c1 => walk_at "side"); (case c2 => walk_at "side")))
local macro_rules | `(tactic| walk_at "call") => `(tactic| ((with_reducible refine' sv_check_number ?c1 ?c2); (case c1 => walk_at "side"); (case c2 => walk_at "side")))
local macro_rules | `(tactic| walk_at "callU") => `(tactic| ((with_reducible refine' su_fraction ?c1 ?c2); (case c1 => walk_at "side"); (case c2 => walk_at "side")))

structure Falls (rs : List (List Nat)) : Prop where
  ne : ∀ r ∈ rs, 0 < r.length
  low : ∀ r ∈ rs, ∀ x ∈ r, r.headD 0 ≤ x
  desc : (rs.map (·.headD 0)).Pairwise (· > ·)
theorem head_app {r : List Nat} (h : 0 < r.length) (x : Nat) : (r ++ [x]).headD 0 = r.headD 0 := by
  cases r with
  | nil => simp at h
  | cons c l => rfl
theorem Falls.step {ts : List (List Nat)} (F : Falls ts) (g : Nat) : Falls (cstep ts g) := by
  rcases list_end ts with e | ⟨ini, r, e⟩
  · subst e
    rw [cstep_nil]
    exact ⟨by simp, by simp, by simp⟩
  · subst e
    rw [cstep_end]
    have hr := F.ne r (by simp)
    by_cases q : g < r.headD 0
    · rw [if_pos q]
      refine ⟨cstep_ne g F.ne |> fun h => by rw [cstep_end, if_pos q] at h; exact h, fun s hs => ?_, ?_⟩
      · rcases List.mem_append.mp hs with z | z
        · exact F.low s z
        · rw [List.mem_singleton.mp z]; simp
      · rw [List.map_append, List.pairwise_append]
        refine ⟨F.desc, by simp, fun a ha b hb => ?_⟩
        simp only [List.map_cons, List.map_nil, List.mem_singleton] at hb
        have hb' : b = g := hb
        have hd := F.desc
        rw [List.map_append, List.pairwise_append] at hd
        rw [List.map_append] at ha
        rcases List.mem_append.mp ha with z | z
        · have := hd.2.2 a z (r.headD 0) (by simp)
          omega
        · have : a = r.headD 0 := by simpa using z
          omega
    · rw [if_neg q]
      refine ⟨cstep_ne g F.ne |> fun h => by rw [cstep_end, if_neg q] at h; exact h, fun s hs x hx => ?_, ?_⟩
      · rcases List.mem_append.mp hs with z | z
        · exact F.low s (by simp [z]) x hx
        · rw [List.mem_singleton.mp z] at hx ⊢
          rw [head_app hr]
          rcases List.mem_append.mp hx with y | y
          · exact F.low r (by simp) x y
          · rw [List.mem_singleton.mp y]
            omega
      · have hd := F.desc
        rw [List.map_append] at hd ⊢
        have : [r ++ [g]].map (·.headD 0) = [r].map (·.headD 0) := by
          simp only [List.map_cons, List.map_nil]
          rw [head_app hr]
        rw [this]
        exact hd
theorem falls_fold (f : List Nat) : ∀ ts, Falls ts → Falls (f.foldl cstep ts) := by
  induction f with
  | nil => exact fun ts h => h
  | cons x l ih => exact fun ts h => ih _ (h.step x)
theorem cuts_falls (f : List Nat) : Falls (cuts f) := falls_fold f [] ⟨by simp, by simp, by simp⟩
/-- the items of a table behind its first one stay at it -/
theorem fold_rest (ts : List (List Nat)) : ∀ (l r : List Nat), 0 < r.length → (∀ x ∈ l, r.headD 0 ≤ x) → l.foldl cstep (ts ++ [r]) = ts ++ [r ++ l]
  | [], r, _, _ => by simp
  | x :: l, r, hr, h => by
    rw [List.foldl_cons, cstep_end, if_neg (by have := h x (by simp); omega), fold_rest ts l (r ++ [x]) (by simp) (fun y hy => by
      rw [head_app hr]
      exact h y (by simp [hy]))]
    simp
theorem fold_ring {ts : List (List Nat)} {r : List Nat} (hr : 0 < r.length) (lo : ∀ x ∈ r, r.headD 0 ≤ x) (hd : ∀ s, ts.getLast? = some s → r.headD 0 < s.headD 0) : r.foldl cstep ts = ts ++ [r] := by
  cases r with
  | nil => simp at hr
  | cons c l =>
    have e : cstep ts c = ts ++ [[c]] := by
      rcases list_end ts with e | ⟨ini, s, e⟩
      · subst e
        rfl
      · subst e
        have lt : c < s.headD 0 := hd s (by simp)
        rw [cstep_end, if_pos lt]
    rw [List.foldl_cons, e, fold_rest ts l [c] (by simp) (fun x hx => lo x (by simp [hx]))]
    rfl
theorem cuts_flatten_go : ∀ (rs ts : List (List Nat)), Falls (ts ++ rs) → rs.flatten.foldl cstep ts = ts ++ rs
  | [], ts, _ => by simp
  | r :: rs, ts, F => by
    rw [List.flatten_cons, List.foldl_append, fold_ring (F.ne r (by simp)) (F.low r (by simp)) fun s hs => ?_, cuts_flatten_go rs (ts ++ [r]) (by simpa using F)]
    · simp
    · rcases list_end ts with e | ⟨ini, s', e⟩
      · subst e
        simp at hs
      · subst e
        have : s' = s := by simpa using hs
        subst this
        have hd := F.desc
        rw [List.map_append, List.pairwise_append] at hd
        exact hd.2.2 (s'.headD 0) (by simp) (r.headD 0) (by simp)
theorem cuts_flatten {rs : List (List Nat)} (F : Falls rs) : cuts rs.flatten = rs := cuts_flatten_go rs [] F
theorem Rings.falls {h : List Nat} {rs : List (List Nat)} (R : Rings h rs) : Falls rs.reverse :=
  ⟨fun r hr => (R.rg r (List.mem_reverse.mp hr)).ne, fun r hr => R.low r (List.mem_reverse.mp hr), by
    rw [List.map_reverse, List.pairwise_reverse]
    exact R.asc⟩

theorem dpa_frac {K : PySem.W.Frag} {H : Hp} (a b : Int) : DpAll K H (frac a b) [.int (a / cd a b), .int (b / cd a b)] := .cons (.int _) (.cons (.int _) .nil)
theorem iz_len0 (r : List Nat) : (iz r).length = r.length := by simp [iz]
theorem gl0 {xs : List V} {v : V} (h : xs[xs.length - 1]? = some v) : atI xs (-1) = some v := by
  rcases list_end xs with e | ⟨i, y, e⟩
  · subst e
    simp at h
  · subst e
    rw [List.length_append, List.length_singleton, Nat.add_sub_cancel, List.getElem?_append_right (Nat.le_refl _), Nat.sub_self] at h
    rw [← Option.some.inj h]
    exact atI_last _ _
/-- a share as data -/
def frD (a b : Int) : PyData := .tuple [.int (a / cd a b), .int (b / cd a b)]
theorem shaped_frD (a b : Int) : SeqAt.shaped (frD a b) = true := by
  simp [frD, SeqAt.shaped, PyData.canLay0, PyData.canLayAll0, PyData.depth, PyData.depthAll]
section
variable {K : PySem.W.Frag} {σ : L2.St} {H : Hp} {ta tb tc te : TE} {t : TA} {E : XK}
theorem ed_share {a : Addr} {h : List Nat} {rs : List (List Nat)} {x : Int} (hv : Ev ta σ H (.ref a)) (hx : Ev tb σ H (.int x)) (ha : H a = some (.lst (nv h))) (o : Ord h) (R : Rings h rs) (x0 : 1 ≤ x) (x1 : x ≤ 1000000000000) : EvD K (tCall sp_seating_share [] E (tCons ta (tCons tb tNil))) σ H (frD (x ^ rs.length) (rise x h.length)) :=
  ed_ofU (eu_call (ea_cons hv (ea_cons hx ea_nil)) (su_seating_share ha o R (by have := many R; have := o.2.2; omega) x0 x1)) (dpa_frac _ _)
theorem ev_opL1 {r : R2} {xs : List V} {y z : V} (ha : EvL ta σ H xs) (hb : ∀ H1, Ex H H1 → Ev tb σ H1 y) (hr : ∀ p H1, H1 p = some (.lst xs) → Ex H H1 → RV r (.ref p) y H1 z) : Ev (tOp r ta tb) σ H z := fun H1 e Q q =>
  ha H1 e _ fun p H2 _ e2 h2 => hb H2 (e.trans e2) H2 (Ex.refl _) _ fun H3 e3 => hr p H3 (e3 p _ h2) (e.trans (e2.trans e3)) H3 (Ex.refl _) Q fun H4 e4 => q H4 (e2.trans (e3.trans e4))
theorem ed_sortedL {ns ms : List Int} (h : EvL ta σ H (ns.map V.int)) (hl : ns.length < 64) (hm : ms.Perm ns) (hs : ms.Pairwise (· ≤ ·)) : EvD K (tCB (rSorted K) (tCons ta tNil)) σ H (.list (ms.map PyData.int)) := fun H1 e Q q => h H1 e _ fun p H2 _ e2 h2 =>
  ⟨p, ns, rfl, sq_of h2, hl, fun ns' l pm so new => by
    have eq : ns' = ms := List.Perm.eq_of_pairwise (le := fun a b : Int => a ≤ b) (fun a b _ _ h1 h2 => Int.le_antisymm h1 h2) so hs (pm.trans hm.symm)
    subst eq
    exact q _ _ (e2.trans (Ex.new new)) (.lst (sq_of upd_same) (dpa_ints _))⟩
/-- 0 <= index_with_sizes(hall) < the count -/
theorem ev_idxIn {a : Addr} {h : List Nat} {rs : List (List Nat)} (hv : Ev ta σ H (.ref a)) (ha : H a = some (.lst (nv h))) (o : Ord h) (R : Rings h rs) (hc : Ev tc σ H (.int ((wws (rs.map List.length) : Nat) : Int))) :
    Ev (tChain (rI0 fun i j => .bl (decide (i ≤ j))) (rI0 fun i j => .bl (decide (i < j))) (tC (.int 0)) (tCall sp_iw [] E (tCons ta tNil)) tc) σ H (.bl true) := fun H1 e Q q =>
  (ev_c (v := .int 0)) H1 e _ fun H2 e2 => hv H2 (e.trans e2) _ fun H3 e3 => ⟨a, h, rs, rfl, e3 a _ (e2 a _ (e a _ ha)), o, R, fun n H4 n0 n1 e4 => ⟨0, n, rfl, rfl, decide (0 ≤ n), rfl, by
    rw [decide_eq_true n0, if_pos rfl]
    refine hc H4 (e.trans (e2.trans (e3.trans e4))) _ fun H5 e5 => ⟨n, _, rfl, rfl, ?_⟩
    show Q (.bl (decide (n < _))) H5
    rw [decide_eq_true n1]
    exact q H5 (e2.trans (e3.trans (e4.trans e5)))⟩⟩
end
theorem shares_eq {A C R : Int} (hR : 0 < R) : A / cd A R * C * (R / cd (C * A) R) = C * A / cd (C * A) R * (R / cd A R) := by
  have p1 := cd_pos (a := A) hR
  have p2 := cd_pos (a := C * A) hR
  obtain ⟨a, ha⟩ := cd_dvd1 (a := A) (b := R)
  obtain ⟨r1, hr1⟩ := cd_dvd2 (a := A) (b := R)
  obtain ⟨c, hc⟩ := cd_dvd1 (a := C * A) (b := R)
  obtain ⟨r2, hr2⟩ := cd_dvd2 (a := C * A) (b := R)
  generalize cd A R = g at p1 ha hr1
  generalize cd (C * A) R = k at p2 hc hr2
  have e1 : A / g = a := by rw [ha, Int.mul_ediv_cancel_left _ (by omega)]
  have e2 : R / k = r2 := by rw [hr2, Int.mul_ediv_cancel_left _ (by omega)]
  have e3 : C * A / k = c := by rw [hc, Int.mul_ediv_cancel_left _ (by omega)]
  have e4 : R / g = r1 := by rw [hr1, Int.mul_ediv_cancel_left _ (by omega)]
  rw [e1, e2, e3, e4]
  have gk : g * k ≠ 0 := Int.mul_ne_zero (by omega) (by omega)
  refine Int.eq_of_mul_eq_mul_left gk ?_
  have l : g * k * (a * C * r2) = (g * a) * C * (k * r2) := by
    simp only [Int.mul_assoc, Int.mul_comm, Int.mul_left_comm]
  have r : g * k * (c * r1) = (k * c) * (g * r1) := by
    simp only [Int.mul_assoc, Int.mul_comm, Int.mul_left_comm]
  rw [l, r, ← ha, ← hr2, ← hc, ← hr1, Int.mul_comm A C]
def sp_law_inverse : Sp := fun vs H Q _ => ∃ (a : Addr) (h : List Nat), vs = [.ref a] ∧ H a = some (.lst (nv h)) ∧ Ord h ∧ RetL (nv (mirr h)) H Q
theorem sl_inverse {H : Hp} {a : Addr} {h : List Nat} (ha : H a = some (.lst (nv h))) (o : Ord h) : SpL sp_law_inverse ([.ref a] ++ []) H (nv (mirr h)) := fun H1 e Q q E => ⟨a, h, rfl, e a _ ha, o, q⟩
def sp_lists : Sp := fun vs H Q _ => ∃ (a : Addr) (h : List Nat) (rs : List (List Nat)) (x : Int), vs = [.ref a, .int x] ∧ H a = some (.lst (nv h)) ∧ Ord h ∧ Rings h rs ∧ 1 ≤ x ∧ x ≤ 1000000000000 ∧ RetV (.bl true) H Q
theorem sv_lists {H : Hp} {a : Addr} {h : List Nat} {rs : List (List Nat)} {x : Int} (ha : H a = some (.lst (nv h))) (o : Ord h) (R : Rings h rs) (x0 : 1 ≤ x) (x1 : x ≤ 1000000000000) : SpV sp_lists ([.ref a, .int x] ++ []) H (.bl true) := fun H1 e Q q E => ⟨a, h, rs, x, rfl, e a _ ha, o, R, x0, x1, q⟩
theorem record_ord {h : List Nat} {rs : List (List Nat)} (o : Ord h) (R : Rings h rs) : Ord rs.reverse.flatten ∧ rs.reverse.flatten.length = h.length := by
  have p : rs.reverse.flatten.Perm (List.range h.length) := ((List.reverse_perm rs).flatten).trans R.all
  have l : rs.reverse.flatten.length = h.length := by rw [p.length_eq, List.length_range]
  exact ⟨⟨by rw [l]; exact p, by rw [l]; exact o.2.1, by rw [l]; exact o.2.2⟩, l⟩
theorem rings_szs {h : List Nat} {rs : List (List Nat)} (o : Ord h) (R : Rings h rs) : Szs (rs.map List.length) ∧ (rs.map List.length).sum = h.length := by
  have s : (rs.map List.length).sum = h.length := by rw [← List.length_flatten, R.all.length_eq, List.length_range]
  exact ⟨⟨fun x hx => by
    obtain ⟨r, hr, rfl⟩ := List.mem_map.mp hx
    exact (R.rg r hr).ne, by rw [s]; exact o.2.1, by rw [s]; exact o.2.2⟩, s⟩
section
variable {P : Program} {w : World} {K : PySem.W.Frag} {mg : Str → Option Value} {base : Heap}
theorem ok_law_inverse (T : Tx K mg) : FnOk P w K mg base CX0 1 T.f_law_inverse T.d_law_inverse ["row"] sp_law_inverse := by
  refine T.F_law_inverse.ok sc_law_inverse (fun vs H Q E h => ?_) (fun cdv A outer s H vs Q E hr h => ?_)
  · obtain ⟨a, h, rfl, _⟩ := h
    rfl
  · obtain ⟨a, h, rfl, ha, o, k⟩ := h
    refine ⟨_, (pss_one (ps_ret (pe_lc (own := [("one", 1)]) (g := (gName 1)) (tt := tYes) rfl sc_law_inverse.nd (pi_range1 (by rfl) T.m_range (pa_cons (pe_callB (id := "len") (r := rLenS K) call_lenR (by rfl) T.m_len (by decide +kernel) (pa_cons (pv 0) pa_nil)) pa_nil)) (blkOk_by (own := [("one", 1)]) (N := n_law_inverse) (sc := defScope s_law_inverse) (by decide +kernel)) (fun _ _ _ _ _ => (pg_name (i := 1) sc_law_inverse.nd rfl (Or.inl rfl))) (fun _ _ _ _ _ => pts_nil) (fun _ _ _ _ _ => (pe_indexK (K := K) rfl (pv 0) (pv 1)))))), ?_⟩
    have ho := o.2
    refine s_retL (xs := nv (mirr h)) ?_ fun p H2 hp e2 h2 => k p H2 hp e2 h2
    have el : nv (mirr h) = given ((h.length : Int)).toNat (fun _ => true) (fun i => V.int (h.idxOf i : Nat)) := by
      unfold given mirr
      rw [List.filter_eq_self.mpr (fun _ _ => rfl), Int.toNat_natCast, nv_eq, List.map_map]
      rfl
    rw [el]
    refine el_lcR1 (n := (h.length : Int)) _ _ (ea_cons (ev_lenH rfl ha) ea_nil) (by omega) (fun _ => rfl) (fun _ _ _ _ => et_yes) fun i H2 e2 hi _ => ?_
    exact ev_index (K := K) (ta := tVar 0) (te := tVar 1) (e2 a _ ha) (ev_var (i := 0) rfl) (ev_var (i := 1) rfl) (o.mem.mpr (by omega))
theorem ok_law_lists_right (T : Tx K mg) : FnOk P w K mg base CX0 8 T.f_law_lists_right T.d_law_lists_right ["hall", "heavy"] sp_lists := by
  refine T.F_law_lists_right.ok sc_law_lists_right (fun vs H Q E h => ?_) (fun cdv A outer s H vs Q E hr h => ?_)
  · obtain ⟨a, h, rs, x, rfl, _⟩ := h
    rfl
  · obtain ⟨a, h, rs, x, rfl, ha, o, R, x0, x1, k⟩ := h
    refine ⟨_, (pss_cons (ps_set (i := 2) sc_law_lists_right.nd rfl (Or.inl rfl) (pe_call (ok_tables_of T) (hr.mono (by decide)) (by rfl) T.g_tables_of T.F_tables_of.kp T.b_tables_of .nil pass0 (pa_cons (pv 0) pa_nil)))
      (pss_cons (ps_setLc (i := 4) (own := [("ring", 3)]) (g := (gName 3)) (tt := tYes) rfl sc_law_lists_right.nd rfl rfl (sw_true rfl rfl rfl (by decide +kernel)) (pi_list (pv 2)) (blkOk_by (own := [("ring", 3)]) (N := n_law_lists_right) (sc := defScope s_law_lists_right) (by decide +kernel)) (fun _ _ _ _ _ => (pg_name (i := 3) sc_law_lists_right.nd rfl (Or.inl rfl))) (fun _ _ _ _ _ => pts_nil) (fun _ _ _ _ _ => (pe_callB (id := "len") (r := rLenS K) call_lenR (by rfl) T.m_len (by decide +kernel) (pa_cons (pv 3) pa_nil))))
      (pss_cons (ps_if (PW.pt (pw_or (pt_cmpR (op_neD hr.units) (pe_call (ok_seating_of T) (hr.mono (by decide)) (by rfl) T.g_seating_of T.F_seating_of.kp T.b_seating_of .nil pass0 (pa_cons (pv 2) pa_nil)) (pv 0) (nomark _)) (pw_or1 (pt_cmpR (op_neD hr.units) (pe_call (ok_seating_of_records T) (hr.mono (by decide)) (by rfl) T.g_seating_of_records T.F_seating_of_records.kp T.b_seating_of_records .nil pass0 (pa_cons (pe_call (ok_record_list T) (hr.mono (by decide)) (by rfl) T.g_record_list T.F_record_list.kp T.b_record_list .nil pass0 (pa_cons (pv 0) pa_nil)) pa_nil)) (pv 0) (nomark _))))) (pss_one (ps_ret pe_bl)) pss_nil)
      (pss_cons (ps_if (PW.pt (pw_or (pt_cmpR (op_neD hr.units) (pe_callB cr_sorted (by rfl) T.m_sorted (by decide +kernel) (pa_cons (pe_call (ok_record_list T) (hr.mono (by decide)) (by rfl) T.g_record_list T.F_record_list.kp T.b_record_list .nil pass0 (pa_cons (pv 0) pa_nil)) pa_nil)) (pe_listRg rfl (by rfl) T.m_list (prg_1 (by rfl) T.m_range (pe_callB call_lenR (by rfl) T.m_len (by decide +kernel) (pa_cons (pv 0) pa_nil)))) (nomark _)) (pw_or1 (pt_cmpR op_ne (pe_ix ix_list (pe_call (ok_record_list T) (hr.mono (by decide)) (by rfl) T.g_record_list T.F_record_list.kp T.b_record_list .nil pass0 (pa_cons (pv 0) pa_nil)) pe_int (fun _ _ => rfl)) (pe_ix ix_tup (pe_ix ix_list (pv 2) (pe_un un_neg pe_int) (fun _ _ => rfl)) pe_int (fun _ _ => rfl)) (nomark _))))) (pss_one (ps_ret pe_bl)) pss_nil)
      (pss_cons (ps_if (PW.pt (pw_or (pt_not (pt_chain op_le op_lt pe_int (pe_call (ok_index_with_sizes T) (hr.mono (by decide)) (by rfl) T.g_index_with_sizes T.F_index_with_sizes.kp T.b_index_with_sizes .nil pass0 (pa_cons (pv 0) pa_nil)) (pe_call (ok_count_sizes T) (hr.mono (by decide)) (by rfl) T.g_count_sizes T.F_count_sizes.kp T.b_count_sizes .nil pass0 (pa_cons (pv 4) pa_nil)))) (pw_or1 (pt_cmpR (op_neD hr.units) (pe_call (ok_nth_seating T) (hr.mono (by decide)) (by rfl) T.g_nth_seating T.F_nth_seating.kp T.b_nth_seating .nil pass0 (pa_cons (pe_callB call_lenR (by rfl) T.m_len (by decide +kernel) (pa_cons (pv 0) pa_nil)) (pa_cons (pe_call (ok_seating_index T) (hr.mono (by decide)) (by rfl) T.g_seating_index T.F_seating_index.kp T.b_seating_index .nil pass0 (pa_cons (pv 0) pa_nil)) pa_nil))) (pv 0) (nomark _))))) (pss_one (ps_ret pe_bl)) pss_nil)
      (pss_cons (ps_asg (pe_call (ok_seating_share T) (hr.mono (by decide)) (by rfl) T.g_seating_share T.F_seating_share.kp T.b_seating_share .nil pass0 (pa_cons (pv 0) (pa_cons (pv 1) pa_nil))) (pg_tup rfl (pgs_cons (pg_name (i := 5) sc_law_lists_right.nd rfl (Or.inl rfl)) (pgs_cons (pg_name (i := 6) sc_law_lists_right.nd rfl (Or.inl rfl)) pgs_nil))))
      (pss_cons (ps_asg (pe_call (ok_sizes_share T) (hr.mono (by decide)) (by rfl) T.g_sizes_share T.F_sizes_share.kp T.b_sizes_share .nil pass0 (pa_cons (pv 4) (pa_cons (pv 1) pa_nil))) (pg_tup rfl (pgs_cons (pg_name (i := 7) sc_law_lists_right.nd rfl (Or.inl rfl)) (pgs_cons (pg_name (i := 8) sc_law_lists_right.nd rfl (Or.inl rfl)) pgs_nil))))
      (pss_one (ps_ret (pe_cmpR op_eq (pe_op op_mulX (pe_op op_mulX (pv 5) (pe_call (ok_count_sizes T) (hr.mono (by decide)) (by rfl) T.g_count_sizes T.F_count_sizes.kp T.b_count_sizes .nil pass0 (pa_cons (pv 4) pa_nil))) (pv 8)) (pe_op op_mulX (pv 7) (pv 6)) (nomark _))))))))))), ?_⟩
    have o2 := o.2
    have rl := many R
    obtain ⟨zs, zsum⟩ := rings_szs o R
    obtain ⟨ro, rlen⟩ := record_ord o R
    refine q_asgLT (rs := rs.map nv) (elt_tables (ev_var rfl) ha o R) fun d ws H1 nd e1 hd tl => ?_
    have l1 := TL.len tl
    rw [List.length_map] at l1
    have e0 : nv (rs.map List.length) = (List.range ws.length).map fun i => V.int ((rs.getD i []).length : Int) := by
      rw [nv_eq, List.map_map, l1]
      conv => lhs; rw [range_get rs []]
      rw [List.map_map]
      rfl
    refine q_asgL (xs := nv (rs.map List.length)) ?_ fun c H2 nc e2 hc => ?_
    · rw [e0]
      refine el_mapI _ (ev_var rfl) (sq_of hd) (by omega) (fun _ => rfl) fun i x H3 e3 hx => ?_
      obtain ⟨b, r, rfl, hb, hr⟩ := TL.get tl hx
      rw [List.getElem?_map] at hr
      obtain ⟨r0, hr0, rfl⟩ := Option.map_eq_some_iff.mp hr
      have g : rs.getD i [] = r0 := by rw [List.getD_eq_getElem?_getD, hr0] <;> rfl
      rw [g, ← nv_len r0]
      exact ev_lenT (K := K) (ev_var rfl) (st_of (e3 b _ hb))
    have ha2 := e2 a _ (e1 a _ ha)
    have hd2 := e2 d _ hd
    have tl2 := tl.ex e2
    have rcd : ∀ (σ : L2.St) (H' : Hp), σ[0]? = some (some (.ref a)) → H' a = some (.lst (nv h)) → EvL (tCall sp_record_list [] E0 (tCons (tVar 0) tNil)) σ H' (nv rs.reverse.flatten) := fun σ H' hv hl => el_call (ea_cons (ev_var hv) ea_nil) (sl_record hl o R)
    refine q_when (b := false) (et_is (et_or (et_test (ev_neD (d := di h) (e := di h) (ed_L (el_call (ea_cons (ev_var rfl) ea_nil) (sl_seating_of hd2 tl2 R o))) (ed_of (ev_var rfl) (dp_L ha2)) (shaped_di _) (shaped_di _))) fun _ => et_test (ev_neD (d := di h) (e := di h) (ed_L (el_call1L (rcd _ _ rfl ha2) fun p H3 e3 hp => sl_of_records hp ro rlen.symm fun r hr => by
      rw [cuts_flatten R.falls] at hr
      exact R.rg r (List.mem_reverse.mp hr))) (ed_of (ev_var rfl) (dp_L ha2)) (shaped_di _) (shaped_di _))) (by rw [eqv_same (shaped_di _)]; rfl)) (fun hb => Bool.noConfusion hb) fun _ H3 e3 => ?_
    have ha3 := e3 a _ ha2
    have hd3 := e3 d _ hd2
    have hc3 := e3 c _ hc
    have tl3 := tl2.ex e3
    obtain ⟨ini, r, er⟩ : ∃ ini r, rs = ini ++ [r] := by
      rcases list_end rs with z | z
      · rw [z] at zsum
        simp at zsum
        omega
      · exact z
    have rr : r ∈ rs := by rw [er]; simp
    have rn := (R.rg r rr).ne
    have gl : ws[ws.length - 1]? = some (ws.getD (ws.length - 1) .non) := by
      have : 0 < ws.length := by
        rw [l1, er]
        simp
      rw [List.getD_eq_getElem?_getD, List.getElem?_eq_getElem (by omega)]
      rfl
    obtain ⟨b, r', eb, hb, hr'⟩ := TL.get tl3 gl
    have er' : r' = nv r := by
      rw [l1, List.getElem?_map, er, List.length_append, List.length_singleton, Nat.add_sub_cancel, List.getElem?_append_right (Nat.le_refl _), Nat.sub_self] at hr'
      exact (Option.some.inj hr').symm
    subst er'
    have g0 : r[0]? = some (r.getD 0 0) := get_at rn
    have g1 : (nv rs.reverse.flatten)[0]? = some (.int (r.getD 0 0 : Nat)) := by
      refine nv_get ?_
      rw [er, List.reverse_append, List.flatten_append, List.reverse_singleton]
      show ((r ++ []) ++ _)[0]? = _
      rw [List.append_nil, List.getElem?_append_left rn]
      exact g0
    have wl : atI ws (-1) = some (.ref b) := by
      rw [← eb]
      exact gl0 gl
    refine q_when (b := false) (et_is (et_or (et_test (ev_neD (d := di (List.range h.length)) (e := di (List.range h.length)) (ed_sortedL (ns := iz rs.reverse.flatten) (rcd _ _ rfl ha3) (by rw [iz_len0, rlen]; omega) (by rw [show iz (List.range h.length) = (List.range h.length).map (fun y : Nat => (y : Int)) from rfl]; have := ro.1; rw [rlen] at this; exact this.symm.map _) (by unfold iz; rw [List.pairwise_map]; exact List.pairwise_lt_range.imp fun h => by omega)) (ed_L (by have := el_rg1 (σ := [some (.ref a), some (.int x), some (.ref d), none, some (.ref c), none, none, none, none]) (H := H3) (ev_lenH (K := K) (i := 0) rfl ha3) (RgOk.of_le (by decide) (by omega) (by decide) (by omega)); rw [range_iz] at this; exact this)) (shaped_di _) (shaped_di _))) fun _ => et_test (ev_op (ev_opL1 (rcd _ _ rfl ha3) (fun H4 e4 => ev_c) fun p H4 hp e4 => rv_ixL (K := K) (sq_of hp) (atI_nat g1)) (ev_op (ev_op (ev_var rfl) (ev_un ev_c ru_neg) (rv_ixL (K := K) (sq_of hd3) wl)) ev_c (rv_ixT (K := K) (st_of hb) (atI_nat (nv_get g0)))) (rv_ne rfl))) (by rw [eqv_same (shaped_di _)]; simp)) (fun hb => Bool.noConfusion hb) fun _ H4 e4 => ?_
    have ha4 := e4 a _ ha3
    have hc4 := e4 c _ hc3
    have cnt : ∀ (σ : L2.St) (H' : Hp), σ[4]? = some (some (.ref c)) → H' c = some (.lst (nv (rs.map List.length))) → Ev (tCall sp_cnts [] E0 (tCons (tVar 4) tNil)) σ H' (.int ((wws (rs.map List.length) : Nat) : Int)) := fun σ H' hv hl => ev_call (ea_cons (ev_var hv) ea_nil) (sv_cnts hl zs)
    have sif := si_fac o (Nat.le_refl h.length)
    have nsi := nthS_si o
    refine q_when (b := false) (et_is (et_or (et_not (et_test (ev_idxIn (ev_var rfl) ha4 o R (cnt _ _ rfl hc4)))) fun _ => et_test (ev_neD (d := di h) (e := di h) (ed_L (by
      have := el_call (E := E0) (ea_cons (ev_lenH (K := K) (i := 0) (σ := [some (.ref a), some (.int x), some (.ref d), none, some (.ref c), none, none, none, none]) rfl ha4) (ea_cons (ev_call (E := E0) (ea_cons (ev_var (i := 0) rfl) ea_nil) (sv_seating_index ha4 o)) ea_nil)) (sl_nth_seating (g := h.length) (i := si h h.length) o2.1 o2.2 sif)
      rw [nsi] at this
      exact this)) (ed_of (ev_var rfl) (dp_L ha4)) (shaped_di _) (shaped_di _))) (by rw [eqv_same (shaped_di _)]; rfl)) (fun hb => Bool.noConfusion hb) fun _ H5 e5 => ?_
    have ha5 := e5 a _ ha4
    have hc5 := e5 c _ hc4
    refine q_tup2U (eu_call (ea_cons (ev_var rfl) (ea_cons (ev_var rfl) ea_nil)) (su_seating_share ha5 o R (by omega) x0 x1)) fun H6 e6 => ?_
    have hc6 := e6 c _ hc5
    refine q_tup2U (eu_call (ea_cons (ev_var rfl) (ea_cons (ev_var rfl) ea_nil)) (su_szsh hc6 zs ⟨x0, x1⟩)) fun H7 e7 => ?_
    have hc7 := e7 c _ hc6
    have rp := rise_pos x0 h.length
    have eq := shares_eq (A := x ^ rs.length) (C := ((wws (rs.map List.length) : Nat) : Int)) rp
    rw [List.length_map, zsum]
    have hx : x.natAbs < 2 ^ 130 := by omega
    have b1 : (x ^ rs.length).natAbs < 2 ^ 3000 := lt2_mono (lt_of_le2 (natAbs_pow_le hx rs.length)) (by omega)
    have b2 : (rise x h.length).natAbs < 2 ^ 3000 := lt2_mono (lt_of_le2 (rise_le hx h.length (by omega))) (by omega)
    have b3 := wws_le zs
    have b4 : (((wws (rs.map List.length) : Nat) : Int)).natAbs < 2 ^ 64 := by rw [Int.natAbs_natCast]; exact b3
    have b5 := natAbs_mul_lt b4 b1
    have dl : ∀ (z g : Int) (k : Nat), z.natAbs < 2 ^ k → (z / g).natAbs < 2 ^ k := fun z g k h => Nat.lt_of_le_of_lt (Int.natAbs_ediv_le_natAbs _ _) h
    generalize ((wws (rs.map List.length) : Nat) : Int) = C at eq b4 b5 cnt ⊢
    have c1 := dl _ (cd (x ^ rs.length) (rise x h.length)) _ b1
    have c2 := dl _ (cd (x ^ rs.length) (rise x h.length)) _ b2
    have c3 := dl _ (cd (C * x ^ rs.length) (rise x h.length)) _ b2
    have c4 := dl _ (cd (C * x ^ rs.length) (rise x h.length)) _ b5
    have m1 : CMulX (x ^ rs.length / cd (x ^ rs.length) (rise x h.length)) C := mulx_ok c1 b4 (by decide)
    have m2 := mulx_ok (natAbs_mul_lt c1 b4) c3 (by decide)
    have m3 := mulx_ok c4 c2 (by decide)
    exact s_ret (v := .bl true) (ev_is (ev_op (ev_op (ev_op (ev_var rfl) (cnt _ _ rfl hc7) (rv_I m1)) (ev_var rfl) (rv_I m2)) (ev_op (ev_var rfl) (ev_var rfl) (rv_I m3)) (rv_eq rfl)) (by rw [eq]; simp)) fun H8 e8 => k _ (e1.trans (e2.trans (e3.trans (e4.trans (e5.trans (e6.trans (e7.trans e8)))))))
end


local macro_rules | `(tactic| walk_at "call") => `(tactic| (with_reducible exact sv_whole))
local macro_rules | `(tactic| walk_at "call") => `(tactic| ((with_reducible refine' sv_order ?c1 ?c2); (case c1 => assumption); (case c2 => assumption)))
local macro_rules | `(tactic| walk_at "call") => `(tactic| ((with_reducible refine' sv_ord ?c1 ?c2); (case c1 => assumption); (case c2 => assumption)))

local macro_rules | `(tactic| walk_at "call") => `(tactic| (with_reducible exact sv_whole))
local macro_rules | `(tactic| walk_at "call") => `(tactic| ((with_reducible refine' sv_ord ?c1 ?c2); (case c1 => assumption); (case c2 => assumption)))

local macro_rules | `(tactic| walk_at "call") => `(tactic| ((with_reducible refine' sv_pow ?c1 ?c2 ?c3); (case c1 => walk_at "side"); (case c2 => walk_at "side"); (case c3 => walk_at "side")))
local macro_rules | `(tactic| walk_at "call") => `(tactic| ((with_reducible refine' sv_rise ?c1 ?c2); (case c1 => walk_at "side"); (case c2 => walk_at "side")))
local macro_rules | `(tactic| walk_at "call") => `(tactic| (with_reducible exact sv_between))
local macro_rules | `(tactic| walk_at "call") => `(tactic| ((with_reducible refine' sv_check1 ?c1 ?c2); (case c1 => walk_at "side"); (case c2 => walk_at "side")))
local macro_rules | `(tactic| walk_at "call") => `(tactic| ((with_reducible refine' sv_check_number ?c1 ?c2); (case c1 => walk_at "side"); (case c2 => walk_at "side")))
local macro_rules | `(tactic| walk_at "callU") => `(tactic| ((with_reducible refine' su_fraction ?c1 ?c2); (case c1 => walk_at "side"); (case c2 => walk_at "side")))

theorem canLay_dis : ∀ rs : List (List Nat), PyData.canLayAll0 (rs.map di) = true
  | [] => rfl
  | m :: r => by simp [PyData.canLayAll0, PyData.canLay0, di, canLay_ints, canLay_dis r]
theorem depth_dis : ∀ rs : List (List Nat), PyData.depthAll (rs.map di) ≤ 1
  | [] => by simp [PyData.depthAll]
  | m :: r => by
    have := depth_dis r
    simp [PyData.depthAll, PyData.depth, di, depth_ints]
    omega
theorem shaped_dis (rs : List (List Nat)) : SeqAt.shaped (.list (rs.map di)) = true := by
  have := depth_dis rs
  simp [SeqAt.shaped, PyData.canLay0, canLay_dis, PyData.depth]
  omega
section
variable {K : PySem.W.Frag} {σ : L2.St} {H : Hp} {te : TE} {rs : List (List Nat)}
theorem dp_LB : ∀ {vs : List V} {rs : List (List Nat)}, Paired (Lb H) vs rs → DpAll K H vs (rs.map di)
  | _, _, .nil => .nil
  | _, _, .cons ⟨b, e, h⟩ t => by
    subst e
    exact .cons (dp_L h) (dp_LB t)
theorem ed_LB (h : EvLB te σ H rs) : EvD K te σ H (.list (rs.map di)) := fun H1 e Q q => h H1 e Q fun p vs H2 _ e2 h2 hv => q _ H2 e2 (.lst (sq_of h2) (dp_LB hv))
end
section
variable {K : PySem.W.Frag} {σ : L2.St} {H H0 : Hp} {ta tb tc tl te : TE} {D : Ends} {tz : TS} {p : Addr} {k1 k2 : Nat}
/-- [e for x in a new list of tuples] -/
theorem el_mapLT {j : Nat} {vs : List Nat} {rs : List (List V)} (f : List V → V) (h : EvLT tl σ H rs) (hz : rs.length ≤ 40000) (hw : ∀ x, wipe ((wipe σ vs).set j (some x)) vs = wipe σ vs)
    (he : ∀ (b : Addr) (r : List V) H1, Ex H H1 → H1 b = some (.tup r) → r ∈ rs → Ev te ((wipe σ vs).set j (some (.ref b))) H1 (f r)) : EvL (tLc (iList K tl) (gName j) tYes te vs) σ H (rs.map f) := fun H0 e Q q =>
  h H0 e _ fun p ws H1 np e1 hp t => by
    have tl1 := t.len
    have g := el_mapI (K := K) (te := te) (tl := fun _ H' Q => Q (.ref p) H') (σ := σ) (H := H1) (a := p) (xs := ws) (j := j) (vs := vs) (fun i => f (rs.getD i [])) (fun H2 _ Q q => q H2 (Ex.refl _)) (sq_of hp) (by omega) hw fun i x H2 e2 hx => by
      obtain ⟨b, r, rfl, hb, hr⟩ := t.get hx
      have er : rs.getD i [] = r := by
        rw [List.getD_eq_getElem?_getD, hr]
        rfl
      rw [er]
      exact he b r H2 (e.trans (e1.trans e2)) (e2 b _ hb) (List.mem_of_getElem? hr)
    have em : (List.range ws.length).map (fun i => f (rs.getD i [])) = rs.map f := by
      rw [tl1]
      conv => rhs; rw [range_get rs []]
      rw [List.map_map]
      rfl
    rw [em] at g
    exact g H1 (Ex.refl _) Q fun r H2 nr e2 hr => q r H2 (fresh_back e1 nr) (e1.trans e2) hr
theorem q_parIL {i j : Nat} {x : V} {ys : List V} (h1 : Ev ta σ H x) (h2 : EvL tb σ H ys) (k : ∀ q H1, H q = none → Ex H H1 → H1 q = some (.lst ys) → tz D ((σ.set i (some x)).set j (some (.ref q))) H1) : tSeq (tPar i j (tCons ta (tCons tb tNil))) tz D σ H :=
  h1 H (Ex.refl H) _ fun H1 e1 => h2 H1 e1 _ fun q H2 nq e2 hq => ⟨x, .ref q, rfl, k q H2 (fresh_back e1 nq) (e1.trans e2) hq⟩
/-- [[..] for r in a new list of tuples] -/
theorem elb_mapT {rs : List (List Nat)} {j : Nat} {vs : List Nat} (F : List Nat → List Nat) (h : EvLT tl σ H (rs.map nv)) (hz : rs.length ≤ 40000) (hw : ∀ x, wipe ((wipe σ vs).set j (some x)) vs = wipe σ vs)
    (he : ∀ (b : Addr) (r : List Nat) H1, Ex H H1 → r ∈ rs → H1 b = some (.tup (nv r)) → EvL te ((wipe σ vs).set j (some (.ref b))) H1 (nv (F r))) : EvLB (tLc (iList K tl) (gName j) tYes te vs) σ H (rs.map F) := fun H0 e Q q => h H0 e _ fun a ws H1 na e1 ha tl => by
  have l1 := TL.len tl
  rw [List.length_map] at l1
  exact ⟨a, rfl, ⟨ws, sq_of ha⟩, fun Dl hD =>
  lc_list (xs := ws) (fun i H' => Ex H1 H' ∧ ∃ us, H' Dl = some (.lst us) ∧ Paired (Lc Dl H') us ((rs.map F).take i)) ⟨Ex.new hD, [], upd_same, .nil⟩ (fun i H' _ p => sq_of (p.1 a _ ha)) (fun i x H' hi p => by
    obtain ⟨p1, us, p2, p3⟩ := p
    obtain ⟨b, r', rfl, hb, hr'⟩ := TL.get tl hi
    rw [List.getElem?_map] at hr'
    obtain ⟨r, hr1, rfl⟩ := Option.map_eq_some_iff.mp hr'
    have hil := (List.getElem?_eq_some_iff.mp hi).1
    have ul : us.length = i := by
      have := Paired.length p3
      rw [List.length_take, List.length_map] at this
      omega
    show wipe ((wipe σ vs).set j (some (.ref b))) vs = wipe σ vs ∧ te ((wipe σ vs).set j (some (.ref b))) H' fun y H4 => ∃ acc, H4 Dl = some (.lst acc) ∧ acc.length < sizeLine ∧ _
    refine ⟨hw _, he b r H1 (e.trans e1) (List.mem_of_getElem? hr1) hb H' p1 _ fun l H4 hl4 e4 h4 => ?_⟩
    have lD : l ≠ Dl := fun z => by
      subst z
      rw [hl4] at p2
      cases p2
    refine ⟨us, e4 Dl _ p2, sz_lt (by omega), Ex.mut (p1.trans e4) hD, _, upd_same, ?_⟩
    have gz : (rs.map F)[i]? = some (F r) := by rw [List.getElem?_map, hr1]; rfl
    rw [List.take_add_one, gz]
    exact Paired.snoc (paired_imp (fun _ _ z => (z.ex e4).upd) p3) ⟨l, rfl, lD, by rw [upd_ne lD]; exact h4⟩) (fun H' p => by
      obtain ⟨p1, us, p2, p3⟩ := p
      rw [List.take_of_length_le (by rw [List.length_map]; omega)] at p3
      exact q Dl us H' (fresh_back e1 hD) (e1.trans p1) p2 (paired_imp (fun _ _ z => z.lb) p3))⟩
/-- [ring[0] for ring in tables] -/
theorem el_heads {rs : List (List Nat)} {j : Nat} {vs : List Nat} (h : EvLT tl σ H (rs.map nv)) (hz : rs.length ≤ 40000) (hw : ∀ x, wipe ((wipe σ vs).set j (some x)) vs = wipe σ vs) (hv : ∀ x, ((wipe σ vs).set j (some x))[j]? = some (some x)) (ne : ∀ r ∈ rs, 0 < r.length) :
    EvL (tLc (iList K tl) (gName j) tYes (tOp (rIxT K) (tVar j) (tC (.int 0))) vs) σ H (nv (rs.map (·.headD 0))) := by
  have g := el_mapLT (K := K) (te := tOp (rIxT K) (tVar j) (tC (.int 0))) (tl := tl) (j := j) (vs := vs) (fun r => r.getD 0 .non) h (by rw [List.length_map]; exact hz) hw fun b r H5 e5 hb hr => ?_
  · have e : (rs.map nv).map (fun r => r.getD 0 .non) = nv (rs.map (·.headD 0)) := by
      rw [nv_eq, List.map_map, List.map_map]
      refine List.map_congr_left fun r hr => ?_
      have := ne r hr
      cases r with
      | nil => simp at this
      | cons x l => rfl
    rw [e] at g
    exact g
  · obtain ⟨r0, hr0, rfl⟩ := List.mem_map.mp hr
    have := ne r0 hr0
    cases r0 with
    | nil => simp at this
    | cons x l => exact ev_op (ev_var (hv _)) ev_c (rv_ixT (st_of hb) (atI_nat (j := 0) rfl))
/-- [sorted(ring) for ring in tables] -/
theorem elb_sets {rs : List (List Nat)} {j : Nat} {vs : List Nat} (h : EvLT tl σ H (rs.map nv)) (hz : rs.length ≤ 40000) (hw : ∀ x, wipe ((wipe σ vs).set j (some x)) vs = wipe σ vs) (hv : ∀ x, ((wipe σ vs).set j (some x))[j]? = some (some x)) :
    EvLB (tLc (iList K tl) (gName j) tYes (tCB (Kit.rSortedTu K) (tCons (tVar j) tNil)) vs) σ H (rs.map srt) :=
  elb_mapT srt h hz hw fun b r H1 e1 hr hb => Kit.el_sortedTu (ns := iz r) (ms := iz (srt r)) (ev_var (hv _)) hb ((srt_perm r).map _) (by
    unfold iz
    rw [List.pairwise_map]
    exact (srt_up r).imp fun h => by omega)
theorem ev_steps {E : XK} {a : Addr} {h : List Nat} {g y : Nat} {z : Int} (hv : Ev ta σ H (.ref a)) (hg : Ev tb σ H (.int (g : Int))) (hz : Ev tc σ H (.int z)) (ha : H a = some (.lst (nv h))) (s : Stp h g z y) : Ev (tCall sp_steps_left [] E (tCons ta (tCons tb (tCons tc tNil)))) σ H (.int (y : Int)) := by
  obtain ⟨r, G, hy⟩ := s
  exact ev_call (ea_cons hv (ea_cons hg (ea_cons hz ea_nil))) (sv_steps_left ha G hy)
theorem pq_parP {n i j : Nat} {C1 C2 : Int → Prop} (h0 : H0 p = none) (h1 : EvP p k1 ta σ H0 (fun v _ => ∃ r, v = .int r ∧ C1 r)) (h2 : EvP p k2 tb σ H0 (fun v _ => ∃ r, v = .int r ∧ C2 r)) (e : Ex H0 H) (hp : Po p n H) (hn : n + (k1 + k2) ≤ 1000000000)
    (q : ∀ (x y : Int) H2, C1 x → C2 y → Po p (n + (k1 + k2)) H2 → Ex (Hm p H) H2 → tz D ((σ.set i (some (.int x))).set j (some (.int y))) H2) : tSeq (tPar i j (tCons ta (tCons tb tNil))) tz D σ H :=
  h1 n H e hp (by omega) _ fun v H1 hv p1 e1 => h2 (n + k1) H1 (hm_next h0 e e1) p1 (by omega) _ fun w H2 hw p2 e2 => by
    obtain ⟨x, rfl, c1⟩ := hv
    obtain ⟨y, rfl, c2⟩ := hw
    exact ⟨_, _, rfl, q x y H2 c1 c2 (by rw [← Nat.add_assoc]; exact p2) (hm_trans e1 e2)⟩
end
def sp_turned : Sp := fun vs H Q _ => ∃ (p : Addr) (n : Nat) (a : Addr) (h : List Nat) (rs : List (List Nat)) (x : Int), vs = [.ref p, .ref a, .int x] ∧ Po p n H ∧ n + 2 * h.length < 1000000000 ∧ a ≠ p ∧ H a = some (.lst (nv h)) ∧ Ord h ∧ Rings h rs ∧ 1 ≤ x ∧ x ≤ 1000000000000 ∧ ∀ H', Po p (n + 2 * h.length) H' → Ex (Hm p H) H' → Q (.bl true) H'
section
variable {P : Program} {w : World} {K : PySem.W.Frag} {mg : Str → Option Value} {base : Heap}
theorem ok_law_turned_right (T : Tx K mg) : FnOk P w K mg base CX0 8 T.f_law_turned_right T.d_law_turned_right ["pouch", "hall", "heavy"] sp_turned := by
  refine T.F_law_turned_right.ok sc_law_turned_right (fun vs H Q E h => ?_) (fun cdv A outer s H vs Q E hr h => ?_)
  · obtain ⟨p, n, a, h, rs, x, rfl, _⟩ := h
    rfl
  · obtain ⟨p, n, a, h, rs, x, rfl, hpo, hn, ne, ha, o, R, x0, x1, k⟩ := h
    refine ⟨_, (pss_cons (ps_par (i := 3) (j := 4) (by rfl) sc_law_turned_right.nd rfl rfl (by decide) rfl rfl (pa_cons (pe_callB call_lenR (by rfl) T.m_len (by decide +kernel) (pa_cons (pv 1) pa_nil)) (pa_cons (pe_call (ok_mirrored T) (hr.mono (by decide)) (by rfl) T.g_mirrored T.F_mirrored.kp T.b_mirrored .nil pass0 (pa_cons (pv 1) pa_nil)) pa_nil)) (by rfl))
      (pss_cons (ps_if (PW.pt (pw_or (pt_cmpR (op_neD hr.units) (pe_call (ok_mirrored T) (hr.mono (by decide)) (by rfl) T.g_mirrored T.F_mirrored.kp T.b_mirrored .nil pass0 (pa_cons (pv 4) pa_nil)) (pv 1) (nomark _)) (pw_or1 (pt_cmpR (op_neD hr.units) (pe_call (ok_seating_share T) (hr.mono (by decide)) (by rfl) T.g_seating_share T.F_seating_share.kp T.b_seating_share .nil pass0 (pa_cons (pv 4) (pa_cons (pv 2) pa_nil))) (pe_call (ok_seating_share T) (hr.mono (by decide)) (by rfl) T.g_seating_share T.F_seating_share.kp T.b_seating_share .nil pass0 (pa_cons (pv 1) (pa_cons (pv 2) pa_nil))) (nomark _))))) (pss_one (ps_ret pe_bl)) pss_nil)
      (pss_cons (ps_if (pt_cmpR (op_neD hr.units) (pe_lc (own := [("ring", 5)]) (g := (gName 5)) (tt := tYes) rfl sc_law_turned_right.nd (pi_list (pe_call (ok_tables_of T) (hr.mono (by decide)) (by rfl) T.g_tables_of T.F_tables_of.kp T.b_tables_of .nil pass0 (pa_cons (pv 4) pa_nil))) (blkOk_by (own := [("ring", 5)]) (N := n_law_turned_right) (sc := defScope s_law_turned_right) (by decide +kernel)) (fun _ _ _ _ _ => (pg_name (i := 5) sc_law_turned_right.nd rfl (Or.inl rfl))) (fun _ _ _ _ _ => pts_nil) (fun _ _ _ _ _ => (pe_ix (r := rIxT K) ix_tup (pv 5) pe_int (fun _ _ => rfl)))) (pe_lc (own := [("ring", 5)]) (g := (gName 5)) (tt := tYes) rfl sc_law_turned_right.nd (pi_list (pe_call (ok_tables_of T) (hr.mono (by decide)) (by rfl) T.g_tables_of T.F_tables_of.kp T.b_tables_of .nil pass0 (pa_cons (pv 1) pa_nil))) (blkOk_by (own := [("ring", 5)]) (N := n_law_turned_right) (sc := defScope s_law_turned_right) (by decide +kernel)) (fun _ _ _ _ _ => (pg_name (i := 5) sc_law_turned_right.nd rfl (Or.inl rfl))) (fun _ _ _ _ _ => pts_nil) (fun _ _ _ _ _ => (pe_ix (r := rIxT K) ix_tup (pv 5) pe_int (fun _ _ => rfl)))) (nomark _)) (pss_one (ps_ret pe_bl)) pss_nil)
      (pss_cons (ps_if (pt_cmpR (op_neD hr.units) (pe_lc (own := [("ring", 5)]) (g := (gName 5)) (tt := tYes) rfl sc_law_turned_right.nd (pi_list (pe_call (ok_tables_of T) (hr.mono (by decide)) (by rfl) T.g_tables_of T.F_tables_of.kp T.b_tables_of .nil pass0 (pa_cons (pv 4) pa_nil))) (blkOk_by (own := [("ring", 5)]) (N := n_law_turned_right) (sc := defScope s_law_turned_right) (by decide +kernel)) (fun _ _ _ _ _ => (pg_name (i := 5) sc_law_turned_right.nd rfl (Or.inl rfl))) (fun _ _ _ _ _ => pts_nil) (fun _ _ _ _ _ => (pe_callB (id := "sorted") (r := Kit.rSortedTu K) Kit.cr_sortedTu (by rfl) T.m_sorted (by decide +kernel) (pa_cons (pv 5) pa_nil)))) (pe_lc (own := [("ring", 5)]) (g := (gName 5)) (tt := tYes) rfl sc_law_turned_right.nd (pi_list (pe_call (ok_tables_of T) (hr.mono (by decide)) (by rfl) T.g_tables_of T.F_tables_of.kp T.b_tables_of .nil pass0 (pa_cons (pv 1) pa_nil))) (blkOk_by (own := [("ring", 5)]) (N := n_law_turned_right) (sc := defScope s_law_turned_right) (by decide +kernel)) (fun _ _ _ _ _ => (pg_name (i := 5) sc_law_turned_right.nd rfl (Or.inl rfl))) (fun _ _ _ _ _ => pts_nil) (fun _ _ _ _ _ => (pe_callB (id := "sorted") (r := Kit.rSortedTu K) Kit.cr_sortedTu (by rfl) T.m_sorted (by decide +kernel) (pa_cons (pv 5) pa_nil)))) (nomark _)) (pss_one (ps_ret pe_bl)) pss_nil)
      (pss_cons (ps_for PassesOwn.never rfl (pi_range1 (by rfl) T.m_range (pa_cons (pv 3) pa_nil)) (pg_name (i := 6) sc_law_turned_right.nd rfl (Or.inl rfl)) (pss_cons (ps_par (i := 7) (j := 8) (by rfl) sc_law_turned_right.nd rfl rfl (by decide) rfl rfl (pa_cons (pe_op op_sub (pe_call (ok_law_dip T) (hr.mono (by decide)) (by rfl) T.g_law_dip T.F_law_dip.kp T.b_law_dip .nil pass0 (pa_cons (pv 0) (pa_cons pe_int pa_nil))) pe_int) (pa_cons (pe_call (ok_law_dip T) (hr.mono (by decide)) (by rfl) T.g_law_dip T.F_law_dip.kp T.b_law_dip .nil pass0 (pa_cons (pv 0) (pa_cons (pe_op op_powX pe_int pe_int) pa_nil))) pa_nil)) (by rfl))
      (pss_cons (ps_if (pt_cmpR op_ne (pe_call (ok_steps_left T) (hr.mono (by decide)) (by rfl) T.g_steps_left T.F_steps_left.kp T.b_steps_left .nil pass0 (pa_cons (pv 1) (pa_cons (pe_call (ok_steps_left T) (hr.mono (by decide)) (by rfl) T.g_steps_left T.F_steps_left.kp T.b_steps_left .nil pass0 (pa_cons (pv 1) (pa_cons (pv 6) (pa_cons (pv 7) pa_nil)))) (pa_cons (pv 8) pa_nil)))) (pe_call (ok_steps_left T) (hr.mono (by decide)) (by rfl) T.g_steps_left T.F_steps_left.kp T.b_steps_left .nil pass0 (pa_cons (pv 1) (pa_cons (pv 6) (pa_cons (pe_op op_add (pv 7) (pv 8)) pa_nil)))) (nomark _)) (pss_one (ps_ret pe_bl)) pss_nil)
      (pss_cons (ps_if (PW.pt (pw_or (pt_cmpR op_ne (pe_call (ok_steps_left T) (hr.mono (by decide)) (by rfl) T.g_steps_left T.F_steps_left.kp T.b_steps_left .nil pass0 (pa_cons (pv 4) (pa_cons (pv 6) (pa_cons (pv 7) pa_nil)))) (pe_call (ok_steps_left T) (hr.mono (by decide)) (by rfl) T.g_steps_left T.F_steps_left.kp T.b_steps_left .nil pass0 (pa_cons (pv 1) (pa_cons (pv 6) (pa_cons (pe_op op_sub pe_int (pv 7)) pa_nil)))) (nomark _)) (pw_or1 (pt_cmpR op_ne (pe_call (ok_right_of T) (hr.mono (by decide)) (by rfl) T.g_right_of T.F_right_of.kp T.b_right_of .nil pass0 (pa_cons (pv 1) (pa_cons (pv 6) pa_nil))) (pe_ix ix_list (pv 4) (pv 6) (fun _ _ => rfl)) (nomark _))))) (pss_one (ps_ret pe_bl)) pss_nil)
      (pss_one (ps_if (PW.pt (pw_or (pt_cmpR op_ne (pe_ix ix_list (pv 1) (pv 6) (fun _ _ => rfl)) (pe_call (ok_steps_left T) (hr.mono (by decide)) (by rfl) T.g_steps_left T.F_steps_left.kp T.b_steps_left .nil pass0 (pa_cons (pv 1) (pa_cons (pv 6) (pa_cons pe_int pa_nil)))) (nomark _)) (pw_or1 (pt_cmpR op_ne (pe_call (ok_right_of T) (hr.mono (by decide)) (by rfl) T.g_right_of T.F_right_of.kp T.b_right_of .nil pass0 (pa_cons (pv 1) (pa_cons (pe_ix ix_list (pv 1) (pv 6) (fun _ _ => rfl)) pa_nil))) (pv 6) (nomark _))))) (pss_one (ps_ret pe_bl)) pss_nil))))))
      (pss_one (ps_ret pe_bl))))))), ?_⟩
    have o2 := o.2
    have rl := many R
    have mo := mirr_ord o
    have ml := mirr_len h
    have MR := rings_mirr o R
    have rne : ∀ r ∈ rs, 0 < r.length := fun r hr => (R.rg r hr).ne
    have mne : ∀ r ∈ rs.map mring, 0 < r.length := fun r hr => (MR.rg r hr).ne
    refine q_parIL (ev_lenH rfl ha) (el_call (ea_cons (ev_var rfl) ea_nil) (sl_mirrored ha o)) fun c H1 nc e1 hc => ?_
    have cp := hpo.ne nc
    have ha1 := e1 a _ ha
    have sh := ed_share (K := K) (E := E0) (σ := [some (.ref p), some (.ref a), some (.int x), some (.int (h.length : Int)), some (.ref c), none, none, none, none]) (ev_var (i := 4) rfl) (ev_var (i := 2) rfl) hc mo MR x0 x1
    rw [List.length_map, ml] at sh
    refine q_when (b := false) (et_is (et_or (et_test (ev_neD (d := di h) (e := di h) (ed_L (by have := el_call (E := E0) (ea_cons (ev_var (i := 4) (σ := [some (.ref p), some (.ref a), some (.int x), some (.int (h.length : Int)), some (.ref c), none, none, none, none]) rfl) ea_nil) (sl_mirrored hc mo); rw [mirr_mirr o] at this; exact this)) (ed_of (ev_var rfl) (dp_L ha1)) (shaped_di _) (shaped_di _))) fun _ => et_test (ev_neD sh (ed_share (ev_var rfl) (ev_var rfl) ha1 o R x0 x1) (shaped_frD _ _) (shaped_frD _ _))) (by rw [eqv_same (shaped_di _), eqv_same (shaped_frD _ _)]; rfl)) (fun hb => Bool.noConfusion hb) fun _ H2 e2 => ?_
    have ha2 := e2 a _ ha1
    have hc2 := e2 c _ hc
    have hdm : (rs.map mring).map (fun r : List Nat => r.headD 0) = rs.map (fun r : List Nat => r.headD 0) := by
      rw [List.map_map]
      refine List.map_congr_left fun r hr => ?_
      have := mring_zero (rne r hr)
      show (mring r).headD 0 = r.headD 0
      rw [List.headD_eq_head?_getD, List.headD_eq_head?_getD, List.head?_eq_getElem?, List.head?_eq_getElem?, this]
    have h1 := el_heads (K := K) (j := 5) (vs := [5]) (elt_tables (E := E0) (ev_var (i := 4) (σ := [some (.ref p), some (.ref a), some (.int x), some (.int (h.length : Int)), some (.ref c), none, none, none, none]) rfl) hc2 mo MR) (by rw [List.length_map]; omega) (fun _ => rfl) (fun _ => rfl) mne
    rw [hdm] at h1
    refine q_when (b := false) (et_is (et_test (ev_neD (d := di (rs.map fun r : List Nat => r.headD 0)) (e := di (rs.map fun r : List Nat => r.headD 0)) (ed_L h1) (ed_L (el_heads (K := K) (j := 5) (vs := [5]) (elt_tables (ev_var rfl) ha2 o R) (by omega) (fun _ => rfl) (fun _ => rfl) rne)) (shaped_di _) (shaped_di _))) (by rw [eqv_same (shaped_di _)]; rfl)) (fun hb => Bool.noConfusion hb) fun _ H3 e3 => ?_
    have ha3 := e3 a _ ha2
    have hc3 := e3 c _ hc2
    have sm : (rs.map mring).map srt = rs.map srt := by
      rw [List.map_map]
      exact List.map_congr_left fun r _ => srt_eq (mring_perm r)
    have h2 := elb_sets (K := K) (j := 5) (vs := [5]) (elt_tables (E := E0) (ev_var (i := 4) (σ := [some (.ref p), some (.ref a), some (.int x), some (.int (h.length : Int)), some (.ref c), none, none, none, none]) rfl) hc3 mo MR) (by rw [List.length_map]; omega) (fun _ => rfl) (fun _ => rfl)
    rw [sm] at h2
    refine q_when (b := false) (et_is (et_test (ev_neD (d := .list ((rs.map srt).map di)) (e := .list ((rs.map srt).map di)) (ed_LB h2) (ed_LB (elb_sets (K := K) (j := 5) (vs := [5]) (elt_tables (ev_var rfl) ha3 o R) (by omega) (fun _ => rfl) (fun _ => rfl))) (shaped_dis _) (shaped_dis _))) (by rw [eqv_same (shaped_dis _)]; rfl)) (fun hb => Bool.noConfusion hb) fun _ H4 e4 => ?_
    have e14 := e1.trans (e2.trans (e3.trans e4))
    have ha4 := e4 a _ ha3
    have hc4 := e4 c _ hc3
    refine q_forR1 (n := (h.length : Int)) (ea_cons (ev_var rfl) ea_nil) ⟨by omega, by omega⟩ (fun i σ' H' => ∃ y6 y7 y8, σ' = [some (.ref p), some (.ref a), some (.int x), some (.int (h.length : Int)), some (.ref c), none, y6, y7, y8] ∧ Po p (n + 2 * i) H' ∧ Ex (Hm p H4) H') (fun H5 e5 => ⟨none, none, none, rfl, hpo.ex (e14.trans e5), hm_of e5⟩) ?_ ?_
    · rintro i σ' H5 hi ⟨y6, y7, y8, rfl, p5, e5⟩
      have hi : i < h.length := by omega
      have w20 : CPowX 10 20 := ⟨by decide, by decide +kernel⟩
      refine pq_parP (p := p) (k1 := 0 + 1 + 0) (k2 := 1) (H0 := Hm p H5) (C1 := fun _ => True) (C2 := fun _ => True) hm_p (ep_is (ep_op hm_p (ep_dipI (w := 41) hm_p (ev_var rfl) ev_c (by decide) (by decide)) (ep_ev ev_c) stb_c stb_c (R := fun v _ => ∃ r, v = .int r) fun u v Hh hu hv => ?_) fun v _ hv => ?_) (ep_is (ep_dipI (w := (10 : Int) ^ (20 : Int).toNat) hm_p (ev_var rfl) (ev_op ev_c ev_c (rv_I w20)) (by decide) (by decide)) fun v _ ⟨r, e, _, _⟩ => ⟨r, e, trivial⟩) hm_sub p5 (by omega) ?_
      · obtain ⟨r, rfl, _, _⟩ := hu
        subst hv
        exact ⟨_, ⟨_, rfl⟩, rv_I0⟩
      · obtain ⟨r, rfl⟩ := hv
        exact ⟨r, rfl, trivial⟩
      · rintro low high H6 _ _ p6 e6
        have e46 := hm_trans e5 e6
        have ha6 := hm_at e46 ne ha4
        have hc6 := hm_at e46 cp hc4
        obtain ⟨y, yl, sy⟩ := stp_ex o hi low
        obtain ⟨z, zl, sz⟩ := stp_ex o yl high
        have syz := stp_add sy sz
        obtain ⟨u, ul, su⟩ := stp_ex o hi (0 - low)
        have sm' := stp_mirr su
        rw [show -(0 - low) = low by omega] at sm'
        obtain ⟨q, hq⟩ := o.some (y := i) hi
        have hgi := get_at (l := h) (i := i) hi
        have s1 := stp_one o hgi
        refine q_when (b := false) (et_is (et_test (ev_op (ev_steps (ev_var rfl) (ev_steps (ev_var rfl) (ev_var rfl) (ev_var rfl) ha6 sy) (ev_var rfl) ha6 sz) (ev_steps (ev_var rfl) (ev_var rfl) (ev_op (ev_var rfl) (ev_var rfl) rv_I0) ha6 syz) (rv_ne rfl))) (by simp)) (fun hb => Bool.noConfusion hb) fun _ H7 e7 => ?_
        have ha7 := e7 a _ ha6
        have hc7 := e7 c _ hc6
        refine q_when (b := false) (et_is (et_or (et_test (ev_op (ev_steps (ev_var rfl) (ev_var rfl) (ev_var rfl) hc7 sm') (ev_steps (ev_var rfl) (ev_var rfl) (ev_op ev_c (ev_var rfl) rv_I0) ha7 su) (rv_ne rfl))) fun _ => et_test (ev_op (ev_call (ea_cons (ev_var rfl) (ea_cons (ev_var rfl) ea_nil)) (sv_right_of ha7 o hq)) (ev_op (ev_var rfl) (ev_var rfl) (rv_ixL (K := K) (sq_of hc7) (atI_nat (nv_get (mirr_get o hq))))) (rv_ne rfl))) (by simp)) (fun hb => Bool.noConfusion hb) fun _ H8 e8 => ?_
        have ha8 := e8 a _ ha7
        have ix : Ev (tOp (rIxL K) (tVar 1) (tVar 6)) [some (.ref p), some (.ref a), some (.int x), some (.int (h.length : Int)), some (.ref c), none, some (.int (i : Int)), some (.int low), some (.int high)] H8 (.int (h.getD i 0 : Nat)) := ev_op (ev_var rfl) (ev_var rfl) (rv_ixL (K := K) (sq_of ha8) (atI_nat (nv_get hgi)))
        refine s_when (b := false) (et_is (et_or (et_test (ev_op ix (ev_steps (ev_var rfl) (ev_var rfl) ev_c ha8 s1) (rv_ne rfl))) fun _ => et_test (ev_op (ev_call (ea_cons (ev_var rfl) (ea_cons ix ea_nil)) (sv_right_of ha8 o hgi)) (ev_var rfl) (rv_ne rfl))) (by simp)) (fun hb => Bool.noConfusion hb) fun _ H9 e9 => ⟨_, _, _, rfl, (p6.ex (e7.trans (e8.trans e9))).mono (by omega), hm_trans e46 (hm_of (e7.trans (e8.trans e9)))⟩
    · rintro σ' H5 ⟨y6, y7, y8, rfl, p5, e5⟩
      rw [Int.toNat_natCast] at p5
      exact s_ret ev_c fun H6 e6 => k H6 (p5.ex e6) (hm_trans (hm_of e14) (hm_trans e5 (hm_of e6)))
end


local macro_rules | `(tactic| walk_at "call") => `(tactic| (with_reducible exact sv_whole))
local macro_rules | `(tactic| walk_at "call") => `(tactic| ((with_reducible refine' sv_order ?c1 ?c2); (case c1 => assumption); (case c2 => assumption)))
local macro_rules | `(tactic| walk_at "call") => `(tactic| ((with_reducible refine' sv_ord ?c1 ?c2); (case c1 => assumption); (case c2 => assumption)))

local macro_rules | `(tactic| walk_at "call") => `(tactic| (with_reducible exact sv_whole))
local macro_rules | `(tactic| walk_at "call") => `(tactic| ((with_reducible refine' sv_ord ?c1 ?c2); (case c1 => assumption); (case c2 => assumption)))

local macro_rules | `(tactic| walk_at "call") => `(tactic| ((with_reducible refine' sv_pow ?c1 ?c2 ?c3); (case c1 => walk_at "side"); (case c2 => walk_at "side"); (case c3 => walk_at "side")))
local macro_rules | `(tactic| walk_at "call") => `(tactic| ((with_reducible refine' sv_rise ?c1 ?c2); (case c1 => walk_at "side"); (case c2 => walk_at "side")))
local macro_rules | `(tactic| walk_at "call") => `(tactic| (with_reducible exact sv_between))
local macro_rules | `(tactic| walk_at "call") => `(tactic| ((with_reducible refine' sv_check1 ?c1 ?c2); (case c1 => walk_at "side"); (case c2 => walk_at "side")))
local macro_rules | `(tactic| walk_at "call") => `(tactic| ((with_reducible refine' sv_check_number ?c1 ?c2); (case c1 => walk_at "side"); (case c2 => walk_at "side")))
local macro_rules | `(tactic| walk_at "callU") => `(tactic| ((with_reducible refine' su_fraction ?c1 ?c2); (case c1 => walk_at "side"); (case c2 => walk_at "side")))

theorem shaped_dt (r : List Nat) : SeqAt.shaped (dt r) = true := by
  simp [SeqAt.shaped, PyData.canLay0, dt, canLay_ints, PyData.depth, depth_ints]
theorem depthA_ints : ∀ l : List Int, (PyData.depthAll (l.map PyData.int)) ≤ 1
  | [] => Nat.zero_le _
  | x :: l => by
    have := depthA_ints l
    simp only [List.map_cons, PyData.depthAll, PyData.depth]
    omega
theorem zip_lb {H : Hp} : ∀ {ws : List V} {hs : List (List Nat)}, Paired (Lb H) ws hs → ∀ z ∈ ws.zip (hs.map iz), ∃ r, z.2 = iz r ∧ Lb H z.1 r
  | _, _, .nil, z, hz => by cases hz
  | _, _, .cons a t, z, hz => by
    rcases List.mem_cons.mp hz with e | q
    · subst e
      exact ⟨_, rfl, a⟩
    · exact zip_lb t z q
theorem zip_dp {K : PySem.W.Frag} {H : Hp} : ∀ (l : List (V × List Int)), (∀ z ∈ l, ∃ r, z.2 = iz r ∧ Lb H z.1 r) → DpAll K H ((l.map fun z => (z.1, PyData.list (z.2.map PyData.int))).map (·.1)) ((l.map (·.2)).map fun z => PyData.list (z.map PyData.int))
  | [], _ => .nil
  | z :: l, h => by
    obtain ⟨r, e, b, eb, hb⟩ := h z List.mem_cons_self
    refine .cons ?_ (zip_dp l fun y hy => h y (List.mem_cons_of_mem _ hy))
    show Dp K H z.1 (PyData.list (z.2.map PyData.int))
    rw [e, eb]
    exact dp_L hb
theorem ed_sortedLB {K : PySem.W.Frag} {σ : L2.St} {H : Hp} {ta : TE} {a : Addr} {ws : List V} {hs rs : List (List Nat)} (h : Ev ta σ H (.ref a)) (ha : H a = some (.lst ws)) (hw : Paired (Lb H) ws hs) (e : (hs.map iz).mergeSort (fun x y => decide (x ≤ y)) = rs.map iz) :
    EvD K (tCB (Kit.rSortedD K) (tCons ta tNil)) σ H (.list (rs.map di)) := by
  have hl := Paired.length hw
  have l1 : (ws.zip (hs.map iz)).map (·.1) = ws := List.map_fst_zip (by rw [List.length_map]; omega)
  have l2 : (ws.zip (hs.map iz)).map (·.2) = hs.map iz := List.map_snd_zip (by rw [List.length_map]; omega)
  have hz := zip_lb hw
  generalize ws.zip (hs.map iz) = z0 at l1 l2 hz
  have f1 : (z0.map fun z => (z.1, PyData.list (z.2.map PyData.int))).map (·.1) = ws := by
    rw [List.map_map]
    exact l1
  have g := Kit.el_sortedD (K := K) (zs := z0.map fun z => (z.1, PyData.list (z.2.map PyData.int))) h (by rw [f1]; exact sq_of ha) (fun z hz' => by
    obtain ⟨y, hy, rfl⟩ := List.mem_map.mp hz'
    obtain ⟨r, e1, b, e2, hb⟩ := hz y hy
    show Dp K H y.1 (PyData.list (y.2.map PyData.int))
    rw [e1, e2]
    exact dp_L hb) (Kit.rows_alike z0) (Kit.rows_sortable z0) (fun z hz' => by
    obtain ⟨y, hy, rfl⟩ := List.mem_map.mp hz'
    have := depthA_ints y.2
    show PyData.depth (PyData.list (y.2.map PyData.int)) ≤ 60
    simp only [PyData.depth]
    omega)
  rw [Kit.sorted_rows] at g
  have s2 : (z0.mergeSort fun x y => decide (x.2 ≤ y.2)).map (·.2) = rs.map iz := by
    rw [← e, ← l2]
    exact PySem.W.sort_maps (r := fun x y : V × List Int => decide (x.2 ≤ y.2)) (s := fun x y => decide (x ≤ y)) (fun z => z.2) fun _ _ _ _ => rfl
  have d := zip_dp (K := K) (z0.mergeSort fun x y => decide (x.2 ≤ y.2)) fun z hz' => hz z ((List.mergeSort_perm _ _).mem_iff.mp hz')
  have er : (rs.map iz).map (fun z => PyData.list (z.map PyData.int)) = rs.map di := List.map_map
  rw [s2, er] at d
  exact ed_ofL g d
theorem rise_one : ∀ m : Nat, rise 1 m = ((fac m : Nat) : Int)
  | 0 => rfl
  | m + 1 => by
    show rise 1 m * (1 + (m : Int)) = _
    rw [rise_one m, fac_succ, Int.natCast_mul]
    congr 1
    omega
def sortN (hs : List (List Nat)) : List (List Nat) := hs.mergeSort fun x y => decide (iz x ≤ iz y)
theorem sortN_iz (hs : List (List Nat)) : (hs.map iz).mergeSort (fun x y => decide (x ≤ y)) = (sortN hs).map iz :=
  (PySem.W.sort_maps (r := fun x y : List Nat => decide (iz x ≤ iz y)) (s := fun x y => decide (x ≤ y)) iz fun _ _ _ _ => rfl).symm
theorem sortN_perm {hs gs : List (List Nat)} (h : hs.Perm gs) : (sortN hs).map di = (sortN gs).map di := by
  have tr : ∀ x y z : List Int, decide (x ≤ y) = true → decide (y ≤ z) = true → decide (x ≤ z) = true := fun x y z h1 h2 => by
    rw [decide_eq_true_iff] at h1 h2 ⊢
    exact List.le_trans h1 h2
  have to : ∀ x y : List Int, (decide (x ≤ y) || decide (y ≤ x)) = true := fun x y => by simpa using List.le_total x y
  have e : (gs.map iz).mergeSort (fun x y => decide (x ≤ y)) = (hs.map iz).mergeSort (fun x y => decide (x ≤ y)) :=
    PySem.W.Srt.the_of_perm _ tr to (fun x y h1 h2 => by
      rw [decide_eq_true_iff] at h1 h2
      exact List.le_antisymm h1 h2) ((List.mergeSort_perm _ _).trans (h.symm.map iz)) (List.pairwise_mergeSort tr to _)
  rw [sortN_iz, sortN_iz] at e
  have d : ∀ l : List (List Nat), l.map di = (l.map iz).map fun z => PyData.list (z.map PyData.int) := fun l => by
    rw [List.map_map]
    rfl
  rw [d, d, e]
section
variable {K : PySem.W.Frag} {σ : L2.St} {H H0 : Hp} {ta tb tc tl te : TE} {D : Ends} {tz : TS} {p : Addr} {k k1 k2 : Nat}
theorem eu_tupOfN {xs : List V} (h : EvL te σ H xs) : EvU (tCB (rTupS K) (tCons te tNil)) σ H xs := fun H1 e Q q => h H1 e _ fun p H2 _ e2 h2 =>
  ⟨p, xs, rfl, sq_of h2, fun l hl => q l _ (fresh_back e2 hl) (e2.trans (Ex.new hl)) upd_same⟩
/-- row = nth_seating(many, a drawn number) -/
theorem ep_nth {E : XK} {m : Nat} (h1 : 1 ≤ m) (h2 : m ≤ 20) (ha : Ev ta σ H0 (.int (m : Int))) (hm : EvP p k te σ H0 (fun v _ => ∃ i : Nat, v = .int (i : Int) ∧ i < fac m)) : EvP p k (tCall sp_nth_seating [] E (tCons ta (tCons te tNil))) σ H0 (fun v H => ∃ l f, l ≠ p ∧ v = .ref l ∧ H l = some (.lst (nv f)) ∧ Ord f ∧ f.length = m) := fun n H1 e hp hn Q q =>
  ha H1 e _ fun H2 e2 => hm n H2 (e.trans e2) (hp.ex e2) hn _ fun v H3 hv p3 e3 => by
    obtain ⟨i, rfl, hi⟩ := hv
    exact ⟨m, i, rfl, h1, h2, hi, fun l H4 nl e4 h4 => q (.ref l) H4 ⟨l, _, p3.ne nl, rfl, h4, ord_nthS h1 h2 hi, nthS_len _ _ _⟩ (p3.ex e4) (hm_trans (hm_of e2) (hm_trans e3 (hm_of e4)))⟩
theorem el_call2R {sp : Sp} {dvs xs ys : List V} {a : Addr} {E : XK} (h : Ev ta σ H (.ref a)) (h2 : EvL tb σ H xs) (hs : ∀ q H1, Ex H H1 → H1 q = some (.lst xs) → SpL sp ([.ref a, .ref q] ++ dvs) H1 ys) : EvL (tCall sp dvs E (tCons ta (tCons tb tNil))) σ H ys := fun H1 e Q q =>
  h H1 e _ fun H2 e2 => h2 H2 (e.trans e2) _ fun y H3 _ e3 hy => hs y H3 ((e.trans e2).trans e3) hy H3 (Ex.refl _) Q (fun l H4 hl e4 h4 => q l H4 (fresh_back (e2.trans e3) hl) ((e2.trans e3).trans e4) h4) E
theorem el_call2L {sp : Sp} {dvs xs ys : List V} {b : Addr} {E : XK} (h : EvL ta σ H xs) (h2 : Ev tb σ H (.ref b)) (hs : ∀ q H1, Ex H H1 → H1 q = some (.lst xs) → SpL sp ([.ref q, .ref b] ++ dvs) H1 ys) : EvL (tCall sp dvs E (tCons ta (tCons tb tNil))) σ H ys := fun H1 e Q q =>
  h H1 e _ fun y H2 _ e2 hy => h2 H2 (e.trans e2) _ fun H3 e3 => hs y H3 ((e.trans e2).trans e3) (e3 y _ hy) H3 (Ex.refl _) Q (fun l H4 hl e4 h4 => q l H4 (fresh_back (e2.trans e3) hl) ((e2.trans e3).trans e4) h4) E
theorem ed_sortedN {hs : List (List Nat)} (h : EvLB ta σ H hs) : EvD K (tCB (Kit.rSortedD K) (tCons ta tNil)) σ H (.list ((sortN hs).map di)) := fun H1 e1 Q q => h H1 e1 _ fun p vs H2 np e2 h2 hv =>
  ed_sortedLB (K := K) (ta := fun _ H Q => Q (.ref p) H) (σ := σ) (H := H2) (hs := hs) (rs := sortN hs) (fun H3 e Q q => q H3 (Ex.refl _)) h2 hv (sortN_iz hs) H2 (Ex.refl _) Q fun v H3 e3 d3 => q v H3 (e2.trans e3) d3
theorem el_sortedLN {r : List Nat} (h : EvL ta σ H (nv r)) (hl : r.length < 64) : EvL (tCB (rSorted K) (tCons ta tNil)) σ H (nv (srt r)) := fun H1 e Q q => h H1 e _ fun b H2 nb e2 hb =>
  ⟨b, iz r, rfl, sq_of hb, by rw [iz_len0]; exact hl, fun ns' l pm so new => by
    have so2 : (iz (srt r)).Pairwise (· ≤ ·) := by
      unfold iz
      rw [List.pairwise_map]
      exact (srt_up r).imp fun h => by omega
    have eq : ns' = iz (srt r) := List.Perm.eq_of_pairwise (le := fun a b : Int => a ≤ b) (fun a b _ _ h1 h2 => Int.le_antisymm h1 h2) so so2 (pm.trans ((srt_perm r).map _).symm)
    subst eq
    exact q l _ (fresh_back e2 new) (e2.trans (Ex.new new)) upd_same⟩
/-- [e for x in a tuple] -/
theorem el_mapTu {b : Addr} {r : List Nat} {j : Nat} {vs : List Nat} (F : Nat → Nat) (h : Ev tl σ H (.ref b)) (hb : H b = some (.tup (nv r))) (hz : r.length ≤ 40000) (hw : ∀ x, wipe ((wipe σ vs).set j (some x)) vs = wipe σ vs)
    (he : ∀ (x : Nat) H1, Ex H H1 → x ∈ r → Ev te ((wipe σ vs).set j (some (.int (x : Int)))) H1 (.int (F x : Nat))) : EvL (tLc (iTup K tl) (gName j) tYes te vs) σ H (nv (r.map F)) := by
  have g := el_lcT (K := K) (te := te) (t := tYes) (j := j) (vs := vs) (fun _ => true) (fun i => V.int (F (r.getD i 0) : Nat)) h (st_of hb) (by rw [nv_len]; exact hz) hw (fun _ _ _ _ _ => et_yes) fun i x H1 e1 hx _ => ?_
  · have e : given (nv r).length (fun _ => true) (fun i => V.int (F (r.getD i 0) : Nat)) = nv (r.map F) := by
      rw [given_at, nv_len, nv_eq, List.map_map]
      conv => rhs; rw [range_get r 0]
      rw [List.map_map]
      rfl
    rw [e] at g
    exact g
  · have il := (List.getElem?_eq_some_iff.mp hx).1
    rw [nv_len] at il
    have hr := get_at il
    rw [nv_get hr] at hx
    cases hx
    exact he _ H1 e1 (List.mem_of_getElem? hr)
theorem el_mapTuN {r : List Nat} {j : Nat} {vs : List Nat} (F : Nat → Nat) (h : EvU tl σ H (nv r)) (hz : r.length ≤ 40000) (hw : ∀ x, wipe ((wipe σ vs).set j (some x)) vs = wipe σ vs)
    (he : ∀ (x : Nat) H1, Ex H H1 → x ∈ r → Ev te ((wipe σ vs).set j (some (.int (x : Int)))) H1 (.int (F x : Nat))) : EvL (tLc (iTup K tl) (gName j) tYes te vs) σ H (nv (r.map F)) := fun H0 e Q q =>
  h H0 e _ fun b H1 nb e1 hb => by
    have g := el_mapTu (K := K) (te := te) (tl := fun _ H' Q => Q (.ref b) H') (σ := σ) (H := H1) (j := j) (vs := vs) F (fun H2 _ Q q => q H2 (Ex.refl _)) hb hz hw fun x H2 e2 hx => he x H2 (e.trans (e1.trans e2)) hx
    exact g H1 (Ex.refl _) Q fun l H2 nl e2 hl => q l H2 (fresh_back e1 nl) (e1.trans e2) hl
theorem ev_pick {i j b : Nat} {a : Addr} {f : List Nat} {x : Nat} (hi : σ[i]? = some (some (.ref a))) (hj : σ[j]? = some (some (.int (x : Int)))) (ha : H a = some (.lst (nv f))) (hx : x < f.length) : Ev (tOp (rIxL K) (tVar i) (tVar j)) σ H (.int (f.getD x 0 : Nat)) :=
  ev_op (ev_var hi) (ev_var hj) (rv_ixL (K := K) (sq_of ha) (atI_nat (nv_get (get_at hx))))
end
def sp_named : Sp := fun vs H Q _ => ∃ (p : Addr) (n : Nat) (a b : Addr) (h f : List Nat) (rs : List (List Nat)) (x : Int), vs = [.ref p, .ref a, .ref b, .int x] ∧ Po p n H ∧ n + 20 < 1000000000 ∧ a ≠ p ∧ b ≠ p ∧ H a = some (.lst (nv h)) ∧ H b = some (.lst (nv f)) ∧ Ord h ∧ Ord f ∧ f.length = h.length ∧ Rings h rs ∧ 1 ≤ x ∧ x ≤ 1000000000000 ∧ ∀ H', Po p (n + 20) H' → Ex (Hm p H) H' → Q (.bl true) H'
section
variable {P : Program} {w : World} {K : PySem.W.Frag} {mg : Str → Option Value} {base : Heap}
theorem ok_law_named_right (T : Tx K mg) : FnOk P w K mg base CX0 8 T.f_law_named_right T.d_law_named_right ["pouch", "hall", "fresh", "heavy"] sp_named := by
  refine T.F_law_named_right.ok sc_law_named_right (fun vs H Q E h => ?_) (fun cdv A outer s H vs Q E hr h => ?_)
  · obtain ⟨p, n, a, b, h, f, rs, x, rfl, _⟩ := h
    rfl
  · obtain ⟨p, n, a, b, h, f, rs, x, rfl, hpo, hn, ap, bp, ha, hb, o, o', fl, R, x0, x1, k⟩ := h
    refine ⟨_, (pss_cons (ps_set (i := 4) sc_law_named_right.nd rfl (Or.inl rfl) (pe_callB call_lenR (by rfl) T.m_len (by decide +kernel) (pa_cons (pv 1) pa_nil)))
      (pss_cons (ps_set (i := 5) sc_law_named_right.nd rfl (Or.inl rfl) (pe_call (ok_renamed T) (hr.mono (by decide)) (by rfl) T.g_renamed T.F_renamed.kp T.b_renamed .nil pass0 (pa_cons (pv 1) (pa_cons (pv 2) pa_nil))))
      (pss_cons (ps_set (i := 6) sc_law_named_right.nd rfl (Or.inl rfl) (pe_call (ok_law_inverse T) (hr.mono (by decide)) (by rfl) T.g_law_inverse T.F_law_inverse.kp T.b_law_inverse .nil pass0 (pa_cons (pv 2) pa_nil)))
      (pss_cons (ps_if (PW.pt (pw_or (pt_cmpR (op_neD hr.units) (pe_call (ok_renamed T) (hr.mono (by decide)) (by rfl) T.g_renamed T.F_renamed.kp T.b_renamed .nil pass0 (pa_cons (pv 5) (pa_cons (pv 6) pa_nil))) (pv 1) (nomark _)) (pw_or1 (pt_cmpR (op_neD hr.units) (pe_call (ok_seating_share T) (hr.mono (by decide)) (by rfl) T.g_seating_share T.F_seating_share.kp T.b_seating_share .nil pass0 (pa_cons (pv 5) (pa_cons (pv 3) pa_nil))) (pe_call (ok_seating_share T) (hr.mono (by decide)) (by rfl) T.g_seating_share T.F_seating_share.kp T.b_seating_share .nil pass0 (pa_cons (pv 1) (pa_cons (pv 3) pa_nil))) (nomark _))))) (pss_one (ps_ret pe_bl)) pss_nil)
      (pss_cons (ps_set (i := 9) sc_law_named_right.nd rfl (Or.inl rfl) (pe_callB (id := "sorted") (r := Kit.rSortedD K) (Kit.cr_sortedD hr.units) (by rfl) T.m_sorted (by decide +kernel) (pa_cons (pe_lc (own := [("ring", 8)]) (g := (gName 8)) (tt := tYes) rfl sc_law_named_right.nd (pi_list (pe_call (ok_tables_of T) (hr.mono (by decide)) (by rfl) T.g_tables_of T.F_tables_of.kp T.b_tables_of .nil pass0 (pa_cons (pv 1) pa_nil))) (blkOk_by (own := [("ring", 8)]) (N := n_law_named_right) (sc := defScope s_law_named_right) (by decide +kernel)) (fun _ _ _ _ _ => (pg_name (i := 8) sc_law_named_right.nd rfl (Or.inl rfl))) (fun _ _ _ _ _ => pts_nil) (fun _ _ _ _ _ => (pe_callB (id := "sorted") (r := rSorted K) cr_sorted (by rfl) T.m_sorted (by decide +kernel) (pa_cons (pe_lc (wi := iTup K (tVar 8)) (own := [("one", 7)]) (g := (gName 7)) (tt := tYes) rfl sc_law_named_right.nd (pi_tup (pv 8)) (blkOk_by (own := [("one", 7)]) (N := n_law_named_right) (sc := { kind := .function, names := [((".0" : Str), NameKind.local), (("ring" : Str), NameKind.local), (("sorted" : Str), NameKind.globalImplicit), (("fresh" : Str), NameKind.cell)], isGenerator := false, isCoroutine := false }) (by decide +kernel)) (fun _ _ _ _ _ => (pg_name (i := 7) sc_law_named_right.nd rfl (Or.inl rfl))) (fun _ _ _ _ _ => pts_nil) (fun _ _ _ _ _ => (pe_ix (r := rIxL K) ix_list (pv 2) (pv 7) (fun _ _ => rfl)))) pa_nil)))) pa_nil)))
      (pss_cons (ps_if (pt_cmpR (op_neD hr.units) (pe_callB (id := "sorted") (r := Kit.rSortedD K) (Kit.cr_sortedD hr.units) (by rfl) T.m_sorted (by decide +kernel) (pa_cons (pe_lc (own := [("ring", 8)]) (g := (gName 8)) (tt := tYes) rfl sc_law_named_right.nd (pi_list (pe_call (ok_tables_of T) (hr.mono (by decide)) (by rfl) T.g_tables_of T.F_tables_of.kp T.b_tables_of .nil pass0 (pa_cons (pv 5) pa_nil))) (blkOk_by (own := [("ring", 8)]) (N := n_law_named_right) (sc := defScope s_law_named_right) (by decide +kernel)) (fun _ _ _ _ _ => (pg_name (i := 8) sc_law_named_right.nd rfl (Or.inl rfl))) (fun _ _ _ _ _ => pts_nil) (fun _ _ _ _ _ => (pe_callB (id := "sorted") (r := Kit.rSortedTu K) Kit.cr_sortedTu (by rfl) T.m_sorted (by decide +kernel) (pa_cons (pv 8) pa_nil)))) pa_nil)) (pv 9) (nomark _)) (pss_one (ps_ret pe_bl)) pss_nil)
      (pss_cons (ps_for PassesOwn.never rfl (pi_range1 (by rfl) T.m_range (pa_cons pe_int pa_nil)) (pg_name (i := 10) sc_law_named_right.nd rfl (Or.inl rfl)) (pss_cons (ps_par (i := 7) (j := 11) (by rfl) sc_law_named_right.nd rfl rfl (by decide) rfl rfl (pa_cons (pe_call (ok_law_dip T) (hr.mono (by decide)) (by rfl) T.g_law_dip T.F_law_dip.kp T.b_law_dip .nil pass0 (pa_cons (pv 0) (pa_cons (pv 4) pa_nil))) (pa_cons (pe_op op_sub (pe_call (ok_law_dip T) (hr.mono (by decide)) (by rfl) T.g_law_dip T.F_law_dip.kp T.b_law_dip .nil pass0 (pa_cons (pv 0) (pa_cons pe_int pa_nil))) pe_int) pa_nil)) (by rfl))
      (pss_cons (ps_if (pt_cmpR op_ne (pe_call (ok_steps_left T) (hr.mono (by decide)) (by rfl) T.g_steps_left T.F_steps_left.kp T.b_steps_left .nil pass0 (pa_cons (pv 5) (pa_cons (pe_ix ix_list (pv 2) (pv 7) (fun _ _ => rfl)) (pa_cons (pv 11) pa_nil)))) (pe_ix ix_list (pv 2) (pe_call (ok_steps_left T) (hr.mono (by decide)) (by rfl) T.g_steps_left T.F_steps_left.kp T.b_steps_left .nil pass0 (pa_cons (pv 1) (pa_cons (pv 7) (pa_cons (pv 11) pa_nil)))) (fun _ _ => rfl)) (nomark _)) (pss_one (ps_ret pe_bl)) pss_nil)
      (pss_cons (ps_if (pt_cmpR (op_neD hr.units) (pe_call (ok_table_from T) (hr.mono (by decide)) (by rfl) T.g_table_from T.F_table_from.kp T.b_table_from .nil pass0 (pa_cons (pv 5) (pa_cons (pe_ix ix_list (pv 2) (pv 7) (fun _ _ => rfl)) pa_nil))) (pe_callTy call_tupR (by rfl) T.m_tuple (by decide +kernel) (pa_cons (pe_lc (own := [("pal", 12)]) (g := (gName 12)) (tt := tYes) rfl sc_law_named_right.nd (pi_tup (pe_call (ok_table_from T) (hr.mono (by decide)) (by rfl) T.g_table_from T.F_table_from.kp T.b_table_from .nil pass0 (pa_cons (pv 1) (pa_cons (pv 7) pa_nil)))) (blkOk_by (own := [("pal", 12)]) (N := n_law_named_right) (sc := defScope s_law_named_right) (by decide +kernel)) (fun _ _ _ _ _ => (pg_name (i := 12) sc_law_named_right.nd rfl (Or.inl rfl))) (fun _ _ _ _ _ => pts_nil) (fun _ _ _ _ _ => (pe_ix (r := rIxL K) ix_list (pv 2) (pv 12) (fun _ _ => rfl)))) pa_nil)) (nomark _)) (pss_one (ps_ret pe_bl)) pss_nil)
      (pss_cons (ps_set (i := 12) sc_law_named_right.nd rfl (Or.inl rfl) (pe_call (ok_law_dip T) (hr.mono (by decide)) (by rfl) T.g_law_dip T.F_law_dip.kp T.b_law_dip .nil pass0 (pa_cons (pv 0) (pa_cons (pv 4) pa_nil))))
      (pss_one (ps_if (pt_cmpR op_ne (pe_call (ok_are_together T) (hr.mono (by decide)) (by rfl) T.g_are_together T.F_are_together.kp T.b_are_together .nil pass0 (pa_cons (pv 5) (pa_cons (pe_ix ix_list (pv 2) (pv 7) (fun _ _ => rfl)) (pa_cons (pe_ix ix_list (pv 2) (pv 12) (fun _ _ => rfl)) pa_nil)))) (pe_call (ok_are_together T) (hr.mono (by decide)) (by rfl) T.g_are_together T.F_are_together.kp T.b_are_together .nil pass0 (pa_cons (pv 1) (pa_cons (pv 7) (pa_cons (pv 12) pa_nil)))) (nomark _)) (pss_one (ps_ret pe_bl)) pss_nil)))))))
      (pss_cons (ps_set (i := 13) sc_law_named_right.nd rfl (Or.inr rfl) (pe_call (ok_nth_seating T) (hr.mono (by decide)) (by rfl) T.g_nth_seating T.F_nth_seating.kp T.b_nth_seating .nil pass0 (pa_cons (pv 4) (pa_cons (pe_call (ok_law_dip T) (hr.mono (by decide)) (by rfl) T.g_law_dip T.F_law_dip.kp T.b_law_dip .nil pass0 (pa_cons (pv 0) (pa_cons (pe_call (ok_law_rise T) (hr.mono (by decide)) (by rfl) T.g_law_rise T.F_law_rise.kp T.b_law_rise .nil pass0 (pa_cons pe_int (pa_cons (pv 4) pa_nil))) pa_nil))) pa_nil))))
      (pss_cons (ps_if (pt_cmpR (op_neD hr.units) (pe_call (ok_renamed T) (hr.mono (by decide)) (by rfl) T.g_renamed T.F_renamed.kp T.b_renamed .nil pass0 (pa_cons (pv 5) (pa_cons (pv 13) pa_nil))) (pe_call (ok_renamed T) (hr.mono (by decide)) (by rfl) T.g_renamed T.F_renamed.kp T.b_renamed .nil pass0 (pa_cons (pv 1) (pa_cons (pe_lc (own := [("one", 7)]) (g := (gName 7)) (tt := tYes) rfl sc_law_named_right.nd (pi_list (pv 2)) (blkOk_by (own := [("one", 7)]) (N := n_law_named_right) (sc := defScope s_law_named_right) (by decide +kernel)) (fun _ _ _ _ _ => (pg_name (i := 7) sc_law_named_right.nd rfl (Or.inl rfl))) (fun _ _ _ _ _ => pts_nil) (fun _ _ _ _ _ => (pe_ix (r := rIxL K) ix_list (pv 13) (pv 7) (fun _ _ => rfl)))) pa_nil))) (nomark _)) (pss_one (ps_ret pe_bl)) pss_nil)
      (pss_one (ps_ret (pe_cmpR (op_eqD hr.units) (pe_call (ok_mirrored T) (hr.mono (by decide)) (by rfl) T.g_mirrored T.F_mirrored.kp T.b_mirrored .nil pass0 (pa_cons (pv 5) pa_nil)) (pe_call (ok_renamed T) (hr.mono (by decide)) (by rfl) T.g_renamed T.F_renamed.kp T.b_renamed .nil pass0 (pa_cons (pe_call (ok_mirrored T) (hr.mono (by decide)) (by rfl) T.g_mirrored T.F_mirrored.kp T.b_mirrored .nil pass0 (pa_cons (pv 1) pa_nil)) (pa_cons (pv 2) pa_nil))) (nomark _))))))))))))), ?_⟩
    have o2 := o.2
    have rl := many R
    have rn := ren_ok o o' fl
    have ot := ren_ord o o' fl rn
    generalize ren h f = t at rn ot
    obtain ⟨ts, S, _⟩ := ord_rings ot
    have sets := sets_ren o o' fl rn R S
    have tsl : ts.length = rs.length := by
      have := sets.length_eq
      rw [List.length_map, List.length_map, List.length_map] at this
      exact this
    have rsh : ∀ r ∈ rs, r.length ≤ 20 := fun r hr => by have := R.short hr; omega
    refine q_asg (ev_lenH rfl ha) fun H1 e1 => ?_
    have ha1 := e1 a _ ha
    have hb1 := e1 b _ hb
    refine q_asgL (xs := nv t) (el_call (ea_cons (ev_var rfl) (ea_cons (ev_var rfl) ea_nil)) (sl_renamed ha1 hb1 o o' fl rn.1 rn.2)) fun c H2 nc e2 hc => ?_
    have cp := (hpo.ex e1).ne nc
    refine q_asgL (xs := nv (mirr f)) (el_call (ea_cons (ev_var rfl) ea_nil) (sl_inverse (e2 b _ hb1) o')) fun d H3 nd e3 hd => ?_
    have ha3 := e3 a _ (e2 a _ ha1)
    have hb3 := e3 b _ (e2 b _ hb1)
    have hc3 := e3 c _ hc
    have bk := ren_back o' fl rn
    have sh := ed_share (K := K) (E := E0) (σ := [some (.ref p), some (.ref a), some (.ref b), some (.int x), some (.int (h.length : Int)), some (.ref c), some (.ref d), none, none, none, none, none, none, none]) (ev_var (i := 5) rfl) (ev_var (i := 3) rfl) hc3 ot S x0 x1
    rw [tsl, rn.1] at sh
    refine q_when (b := false) (et_is (et_or (et_test (ev_neD (d := di h) (e := di h) (ed_L (el_call (ea_cons (ev_var rfl) (ea_cons (ev_var rfl) ea_nil)) (sl_renamed hc3 hd ot (mirr_ord o') (by rw [mirr_len, fl, rn.1]) bk.1 bk.2))) (ed_of (ev_var rfl) (dp_L ha3)) (shaped_di _) (shaped_di _))) fun _ => et_test (ev_neD sh (ed_share (ev_var rfl) (ev_var rfl) ha3 o R x0 x1) (shaped_frD _ _) (shaped_frD _ _))) (by rw [eqv_same (shaped_di _), eqv_same (shaped_frD _ _)]; rfl)) (fun hb => Bool.noConfusion hb) fun _ H4 e4 => ?_
    have ha4 := e4 a _ ha3
    have hb4 := e4 b _ hb3
    have hc4 := e4 c _ hc3
    have s4 := elb_mapT (K := K) (te := tCB (rSorted K) (tCons (tLc (iTup K (tVar 8)) (gName 7) tYes (tOp (rIxL K) (tVar 2) (tVar 7)) [7]) tNil)) (j := 8) (vs := [8]) (fun r => srt (r.map fun x => f.getD x 0)) (elt_tables (E := E0) (ev_var (i := 1) (σ := [some (.ref p), some (.ref a), some (.ref b), some (.int x), some (.int (h.length : Int)), some (.ref c), some (.ref d), none, none, none, none, none, none, none]) rfl) ha4 o R) (by omega) (fun _ => rfl) fun b' r H5 e5 hr hb' => by
      refine el_sortedLN (K := K) (el_mapTu (K := K) (vs := [7]) (j := 7) (fun x => f.getD x 0) (ev_var (i := 8) rfl) hb' (by have := rsh r hr; omega) (fun _ => rfl) fun y H6 e6 hy => ev_pick (i := 2) (j := 7) (b := 0) rfl rfl (e6 b _ (e5 b _ hb4)) ?_) (by rw [List.length_map]; have := rsh r hr; omega)
      obtain ⟨i, hi⟩ := List.mem_iff_getElem?.mp hy
      have := (R.rg r hr).lt hi
      omega
    refine q_asgD (ed_sortedN s4) fun v9 H5 e5 d9 => ?_
    have ha5 := e5 a _ ha4
    have hb5 := e5 b _ hb4
    have hc5 := e5 c _ hc4
    have ss : (sortN (ts.map srt)).map di = (sortN (rs.map fun r : List Nat => srt (r.map fun x => f.getD x 0))).map di := by
      rw [List.map_map] at sets
      exact sortN_perm sets
    have s5 := ed_sortedN (K := K) (elb_sets (K := K) (j := 8) (vs := [8]) (elt_tables (E := E0) (ev_var (i := 5) (σ := [some (.ref p), some (.ref a), some (.ref b), some (.int x), some (.int (h.length : Int)), some (.ref c), some (.ref d), none, none, some v9, none, none, none, none]) rfl) hc5 ot S) (by omega) (fun _ => rfl) (fun _ => rfl))
    rw [ss] at s5
    refine q_when (b := false) (et_is (et_test (ev_neD s5 (ed_of (ev_var rfl) d9) (shaped_dis _) (shaped_dis _))) (by rw [eqv_same (shaped_dis _)]; rfl)) (fun hb => Bool.noConfusion hb) fun _ H6 e6 => ?_
    have e16 := e1.trans (e2.trans (e3.trans (e4.trans (e5.trans e6))))
    have ha6 := e6 a _ ha5
    have hb6 := e6 b _ hb5
    have hc6 := e6 c _ hc5
    refine q_forR1 (n := 6) (ea_cons ev_c ea_nil) (by decide) (fun i σ' H' => ∃ y7 y10 y11 y12, σ' = [some (.ref p), some (.ref a), some (.ref b), some (.int x), some (.int (h.length : Int)), some (.ref c), some (.ref d), y7, none, some v9, y10, y11, y12, none] ∧ Po p (n + 3 * i) H' ∧ Ex (Hm p H6) H') (fun H7 e7 => ⟨none, none, none, none, rfl, hpo.ex (e16.trans e7), hm_of e7⟩) ?_ ?_
    · rintro i σ' H7 hi ⟨y7, y10, y11, y12, rfl, p7, e7⟩
      refine pq_parP (p := p) (k1 := 1) (k2 := 0 + 1 + 0) (H0 := Hm p H7) (C1 := fun r => 0 ≤ r ∧ r < (h.length : Int)) (C2 := fun _ => True) hm_p (ep_dipI (w := (h.length : Int)) hm_p (ev_var rfl) (ev_var rfl) (by omega) (by omega)) (ep_is (ep_op hm_p (ep_dipI (w := 61) hm_p (ev_var rfl) ev_c (by decide) (by decide)) (ep_ev ev_c) stb_c stb_c (R := fun v _ => ∃ r, v = .int r) fun u v Hh hu hv => ?_) fun v _ hv => ?_) hm_sub p7 (by omega) ?_
      · obtain ⟨r, rfl, _, _⟩ := hu
        subst hv
        exact ⟨_, ⟨_, rfl⟩, rv_I0⟩
      · obtain ⟨r, rfl⟩ := hv
        exact ⟨r, rfl, trivial⟩
      · rintro one far H8 ⟨c0, c1⟩ _ p8 e8
        obtain ⟨g, rfl⟩ : ∃ g : Nat, one = g := ⟨one.toNat, by omega⟩
        have gl : g < h.length := by omega
        have e68 := hm_trans e7 e8
        have ha8 := hm_at e68 ap ha6
        have hb8 := hm_at e68 bp hb6
        have hc8 := hm_at e68 cp hc6
        have fg := get_at (l := f) (i := g) (by omega)
        obtain ⟨y, yl, sy⟩ := stp_ex o gl far
        have fy := get_at (l := f) (i := y) (by omega)
        have st := stp_ren o' fl rn sy fg fy
        obtain ⟨r, G⟩ := gst_any o gl
        have Gt := ren_gst o' fl rn G fg
        refine q_when (b := false) (et_is (et_test (ev_op (ev_steps (ev_var rfl) (ev_pick (b := 0) rfl rfl hb8 (by omega)) (ev_var rfl) hc8 st) (ev_op (ev_var rfl) (ev_steps (ev_var rfl) (ev_var rfl) (ev_var rfl) ha8 sy) (rv_ixL (K := K) (sq_of hb8) (atI_nat (nv_get fy)))) (rv_ne rfl))) (by simp)) (fun hb => Bool.noConfusion hb) fun _ H9 e9 => ?_
        have ha9 := e9 a _ ha8
        have hb9 := e9 b _ hb8
        have hc9 := e9 c _ hc8
        refine q_when (b := false) (et_is (et_test (ev_neD (d := dt (r.map fun x => f.getD x 0)) (e := dt (r.map fun x => f.getD x 0)) (ed_ofU (eu_call (ea_cons (ev_var rfl) (ea_cons (ev_pick (b := 0) rfl rfl hb9 (by omega)) ea_nil)) (su_table_from hc9 Gt)) (dpa_nv _)) (ed_ofU (eu_tupOfN (el_mapTuN (K := K) (fun x => f.getD x 0) (eu_call (ea_cons (ev_var rfl) (ea_cons (ev_var rfl) ea_nil)) (su_table_from ha9 G)) (by have := G.2.2.2.2; omega) (fun _ => rfl) fun z H10 e10 hz => ev_pick (b := 0) rfl rfl (e10 b _ hb9) ?_)) (dpa_nv _)) (shaped_dt _) (shaped_dt _))) (by rw [eqv_same (shaped_dt _)]; rfl)) (fun hb => Bool.noConfusion hb) fun _ H10 e10 => ?_
        · obtain ⟨i, hi⟩ := List.mem_iff_getElem?.mp hz
          have := G.2.1.lt hi
          omega
        have ha10 := e10 a _ ha9
        have hb10 := e10 b _ hb9
        have hc10 := e10 c _ hc9
        refine pq_asg (p := p) (k := 1) (H0 := Hm p H10) (ep_dipI (w := (h.length : Int)) hm_p (ev_var rfl) (ev_var rfl) (by omega) (by omega)) hm_sub (p8.ex (e9.trans e10)) (by omega) fun v H11 hv p11 e11 => ?_
        obtain ⟨q, rfl, q0, q1⟩ := hv
        obtain ⟨m, rfl⟩ : ∃ m : Nat, q = m := ⟨q.toNat, by omega⟩
        have ml : m < h.length := by omega
        have ha11 := hm_at e11 ap ha10
        have hb11 := hm_at e11 bp hb10
        have hc11 := hm_at e11 cp hc10
        have fm := get_at (l := f) (i := m) (by omega)
        have mm : decide (f.getD m 0 ∈ r.map fun x => f.getD x 0) = decide (m ∈ r) := by
          refine decide_eq_decide.mpr ⟨fun hh => ?_, fun hh => List.mem_map.mpr ⟨m, hh, rfl⟩⟩
          obtain ⟨z, hz, ez⟩ := List.mem_map.mp hh
          obtain ⟨i, hi⟩ := List.mem_iff_getElem?.mp hz
          have zl := G.2.1.lt hi
          have fz := get_at (l := f) (i := z) (by omega)
          rw [ez] at fz
          rw [← nd_ix o'.nd fz fm]
          exact hz
        have tg := ev_call (E := E0) (ea_cons (ev_var (i := 5) (σ := [some (.ref p), some (.ref a), some (.ref b), some (.int x), some (.int (h.length : Int)), some (.ref c), some (.ref d), some (.int (g : Int)), none, some v9, some (.int (i : Int)), some (.int far), some (.int (m : Int)), none]) rfl) (ea_cons (ev_pick (K := K) (b := 0) (i := 2) (j := 7) rfl rfl hb11 (by omega)) (ea_cons (ev_pick (K := K) (b := 0) (i := 2) (j := 12) rfl rfl hb11 (by omega)) ea_nil))) (sv_are_together hc11 Gt (by rw [rn.1, ← fl]; exact o'.at_ fm))
        rw [mm] at tg
        refine s_when (b := false) (et_is (et_test (ev_op tg (ev_call (ea_cons (ev_var rfl) (ea_cons (ev_var rfl) (ea_cons (ev_var rfl) ea_nil))) (sv_are_together ha11 G ml)) (rv_ne rfl))) (by simp)) (fun hb => Bool.noConfusion hb) fun _ H12 e12 => ⟨_, _, _, _, rfl, (p11.ex e12).mono (by omega), hm_trans e68 (hm_trans (hm_of (e9.trans e10)) (hm_trans e11 (hm_of e12)))⟩
    · rintro σ' H7 ⟨y7, y10, y11, y12, rfl, p7, e7⟩
      have p7 : Po p (n + 3 * 6) H7 := p7
      have fm : (fac h.length : Nat) < 2 ^ 64 := fac_le20 (by omega)
      have fp : 0 < fac h.length := fac_pos h.length
      have ha7 := hm_at e7 ap ha6
      have hb7 := hm_at e7 bp hb6
      have hc7 := hm_at e7 cp hc6
      refine pq_asg (p := p) (k := 1) (H0 := Hm p H7) (ep_nth (m := h.length) o2.1 (by omega) (ev_var rfl) (ep_is (ep_dipI (w := ((fac h.length : Nat) : Int)) hm_p (ev_var rfl) (ev_is (ev_call (ea_cons ev_c (ea_cons (ev_var rfl) ea_nil)) (sv_rise (b := 1) (n := h.length) (by decide) (by omega))) (by rw [rise_one])) (by omega) (by omega)) fun v _ ⟨r, e, r0, r1⟩ => ⟨r.toNat, by rw [e]; congr 1; omega, by omega⟩)) hm_sub p7 (by omega) fun v H8 hv p8 e8 => ?_
      obtain ⟨l, m, lp, rfl, hm, om, ml⟩ := hv
      have ha8 := hm_at e8 ap ha7
      have hb8 := hm_at e8 bp hb7
      have hc8 := hm_at e8 cp hc7
      have ru := ren_ok ot om (by rw [ml, rn.1])
      generalize ren t m = u at ru
      have rr := ren_ren rn ru
      have fo : Ord (f.map fun x => m.getD x 0) := ord_map o' om (by omega)
      have pk : EvL (tLc (iList K (tVar 2)) (gName 7) tYes (tOp (rIxL K) (tVar 13) (tVar 7)) [7]) [some (.ref p), some (.ref a), some (.ref b), some (.int x), some (.int (h.length : Int)), some (.ref c), some (.ref d), y7, none, some v9, y10, y11, y12, some (.ref l)] H8 (nv (f.map fun x => m.getD x 0)) := by
        have g := el_mapI (K := K) (te := tOp (rIxL K) (tVar 13) (tVar 7)) (tl := tVar 2) (j := 7) (vs := [7]) (σ := [some (.ref p), some (.ref a), some (.ref b), some (.int x), some (.int (h.length : Int)), some (.ref c), some (.ref d), y7, none, some v9, y10, y11, y12, some (.ref l)]) (H := H8) (fun i => V.int (m.getD (f.getD i 0) 0 : Nat)) (ev_var rfl) (sq_of hb8) (by rw [nv_len]; omega) (fun _ => rfl) fun i y H9 e9 hy => ?_
        · have e : (List.range (nv f).length).map (fun i => V.int (m.getD (f.getD i 0) 0 : Nat)) = nv (f.map fun x => m.getD x 0) := by
            rw [nv_len, nv_eq, List.map_map]
            conv => rhs; rw [range_get f 0]
            rw [List.map_map]
            rfl
          rw [e] at g
          exact g
        · have il := (List.getElem?_eq_some_iff.mp hy).1
          rw [nv_len] at il
          have hr := get_at il
          rw [nv_get hr] at hy
          cases hy
          exact ev_pick (b := 0) rfl rfl (e9 l _ hm) (by have := o'.at_ hr; omega)
      have rm := ren_mirr o o' fl rn
      refine q_when (b := false) (et_is (et_test (ev_neD (d := di u) (e := di u) (ed_L (el_call (ea_cons (ev_var rfl) (ea_cons (ev_var rfl) ea_nil)) (sl_renamed hc8 hm ot om (by rw [ml, rn.1]) ru.1 ru.2))) (ed_L (el_call2R (ev_var rfl) pk fun y H9 e9 hy => sl_renamed (e9 a _ ha8) hy o fo (by rw [List.length_map]; exact fl) rr.1 rr.2)) (shaped_di _) (shaped_di _))) (by rw [eqv_same (shaped_di _)]; rfl)) (fun hb => Bool.noConfusion hb) fun _ H9 e9 => ?_
      have ha9 := e9 a _ ha8
      have hb9 := e9 b _ hb8
      have hc9 := e9 c _ hc8
      refine s_ret (v := .bl true) (ev_is (ev_eqD (d := di (mirr t)) (e := di (mirr t)) (ed_L (el_call (ea_cons (ev_var rfl) ea_nil) (sl_mirrored hc9 ot))) (ed_L (el_call2L (el_call (ea_cons (ev_var rfl) ea_nil) (sl_mirrored ha9 o)) (ev_var rfl) fun y H10 e10 hy => sl_renamed hy (e10 b _ hb9) (mirr_ord o) o' (by rw [mirr_len]; exact fl) rm.1 rm.2)) (shaped_di _) (shaped_di _)) (by rw [eqv_same (shaped_di _)])) fun H10 e10 => k H10 ((p8.ex (e9.trans e10)).mono (by omega)) ?_
      exact hm_trans (hm_of e16) (hm_trans e7 (hm_trans e8 (hm_of (e9.trans e10))))
end


local macro_rules | `(tactic| walk_at "call") => `(tactic| (with_reducible exact sv_whole))
local macro_rules | `(tactic| walk_at "call") => `(tactic| ((with_reducible refine' sv_order ?c1 ?c2); (case c1 => assumption); (case c2 => assumption)))
local macro_rules | `(tactic| walk_at "call") => `(tactic| ((with_reducible refine' sv_ord ?c1 ?c2); (case c1 => assumption); (case c2 => assumption)))

local macro_rules | `(tactic| walk_at "call") => `(tactic| (with_reducible exact sv_whole))
local macro_rules | `(tactic| walk_at "call") => `(tactic| ((with_reducible refine' sv_ord ?c1 ?c2); (case c1 => assumption); (case c2 => assumption)))

local macro_rules | `(tactic| walk_at "call") => `(tactic| ((with_reducible refine' sv_pow ?c1 ?c2 ?c3); (case c1 => walk_at "side"); (case c2 => walk_at "side"); (case c3 => walk_at "side")))
local macro_rules | `(tactic| walk_at "call") => `(tactic| ((with_reducible refine' sv_rise ?c1 ?c2); (case c1 => walk_at "side"); (case c2 => walk_at "side")))
local macro_rules | `(tactic| walk_at "call") => `(tactic| (with_reducible exact sv_between))
local macro_rules | `(tactic| walk_at "call") => `(tactic| ((with_reducible refine' sv_check1 ?c1 ?c2); (case c1 => walk_at "side"); (case c2 => walk_at "side")))
local macro_rules | `(tactic| walk_at "call") => `(tactic| ((with_reducible refine' sv_check_number ?c1 ?c2); (case c1 => walk_at "side"); (case c2 => walk_at "side")))
local macro_rules | `(tactic| walk_at "callU") => `(tactic| ((with_reducible refine' su_fraction ?c1 ?c2); (case c1 => walk_at "side"); (case c2 => walk_at "side")))

local macro_rules | `(tactic| walk_at "call") => `(tactic| (with_reducible exact sv_whole))
local macro_rules | `(tactic| walk_at "call") => `(tactic| ((with_reducible refine' sv_ord ?c1 ?c2); (case c1 => assumption); (case c2 => assumption)))

local macro_rules | `(tactic| walk_at "call") => `(tactic| ((with_reducible refine' sv_pow ?c1 ?c2 ?c3); (case c1 => walk_at "side"); (case c2 => walk_at "side"); (case c3 => walk_at "side")))
local macro_rules | `(tactic| walk_at "call") => `(tactic| ((with_reducible refine' sv_rise ?c1 ?c2); (case c1 => walk_at "side"); (case c2 => walk_at "side")))
local macro_rules | `(tactic| walk_at "call") => `(tactic| (with_reducible exact sv_between))
local macro_rules | `(tactic| walk_at "call") => `(tactic| ((with_reducible refine' sv_check1 ?c1 ?c2); (case c1 => walk_at "side"); (case c2 => walk_at "side")))
local macro_rules | `(tactic| walk_at "call") => `(tactic| ((with_reducible refine' sv_check_number ?c1 ?c2); (case c1 => walk_at "side"); (case c2 => walk_at "side")))
local macro_rules | `(tactic| walk_at "callU") => `(tactic| ((with_reducible refine' su_fraction ?c1 ?c2); (case c1 => walk_at "side"); (case c2 => walk_at "side")))

/-! ### the law -/
section
variable {K : PySem.W.Frag} {σ : L2.St} {H H0 : Hp} {ta tb tc te : TE} {tr tl t : TA} {p : Addr} {k k1 k2 : Nat} {D : Ends} {tu tz : TS}
/-- for x in (a drawn tuple of numbers), each turn with its draws -/
theorem pq_forTupP {n j c : Nat} {C : List V → Prop} {S : L2.St → Prop} (h : EvPA p k tl σ H0 C) (e : Ex H0 H) (hp : Po p n H) (hn : n + k ≤ 1000000000) (hC : ∀ vs, C vs → vs.length = 2 ∧ ∀ v ∈ vs, ∃ w : Nat, v = .int (w : Int) ∧ 1 ≤ w ∧ w ≤ 20) (h0 : S σ)
    (hs : ∀ (i w : Nat) σ' H', i < 2 → 1 ≤ w → w ≤ 20 → S σ' → Po p (n + k + c * i) H' → Ex (Hm p H) H' → ∀ N : L2.St → Hp → Prop, (∀ s G, S s → Po p (n + k + c * (i + 1)) G → Ex (Hm p H') G → N s G) → tu { D with nx := N, ct := N, bk := tz D } (σ'.set j (some (.int (w : Int)))) H')
    (hd : ∀ σ' H', S σ' → Po p (n + k + c * 2) H' → Ex (Hm p H) H' → tz D σ' H') : tSeq (tFor (iTup K (tTup tl)) (gName j) tu) tz D σ H := by
  refine h n H e hp hn _ fun vs H1 hc p1 e1 => ⟨sz_of (by have := (hC vs hc).1; omega), fun q hq => ?_⟩
  have qp := p1.ne hq
  have l2 := (hC vs hc).1
  have ev0 : Ex (Hm p H) (upd H1 q (.tup vs)) := hm_trans e1 (hm_of (Ex.new hq))
  refine ⟨q, rfl, ⟨vs, st_of upd_same⟩, for_tup (fun i σ' H' => S σ' ∧ Po p (n + k + c * i) H' ∧ Ex (Hm p H) H' ∧ H' q = some (.tup vs)) ⟨h0, p1.ex (Ex.new hq), ev0, upd_same⟩ (fun i σ' H' _ z => st_of z.2.2.2) (fun i x σ' H' hx z => ?_) fun σ' H' z => hd σ' H' z.1 (by have := z.2.1; rw [l2] at this; exact this) z.2.2.1⟩
  obtain ⟨w, rfl, w1, w20⟩ := (hC vs hc).2 x (List.mem_of_getElem? hx)
  have il := (List.getElem?_eq_some_iff.mp hx).1
  exact hs i w σ' H' (by omega) w1 w20 z.1 z.2.1 z.2.2.1 _ fun s G h1 h2 h3 => ⟨h1, h2, hm_trans z.2.2.1 h3, hm_at h3 qp z.2.2.2⟩
theorem ps_of {a : TS} (h : tSeq a (fun D' => D'.nx) D σ H) : a D σ H := h
theorem pq_hall {i j b n m : Nat} {E1 E2 E3 E4 : XK} (h : EvA t σ H [.ref p, .int (m : Int)]) (hv : σ[b]? = some (some (.ref p))) (hp : Po p n H) (hn : n + 100 < 1000000000) (hm1 : 1 ≤ m) (hm : m ≤ 20)
    (q : ∀ (l : Addr) (f : List Nat) (rs : List (List Nat)) (x : Int) H1, l ≠ p → H1 l = some (.lst (nv f)) → Ord f → Rings f rs → f.length = m → 1 ≤ x → x ≤ 1000000000000 → Po p (n + 100) H1 → Ex (Hm p H) H1 → tz D ((σ.set i (some (.ref l))).set j (some (.int x))) H1) :
    tSeq (tPar i j (tCons (tCall sp_law_seat [] E1 (tCons (tCall sp_law_rings [] E2 (tCons (tCall sp_law_entries [] E3 t) tNil)) tNil)) (tCons (tCall sp_law_heavy [] E4 (tCons (tVar b) tNil)) tNil))) tz D σ H :=
  h H (Ex.refl H) _ fun H1 e1 => ⟨p, n, m, rfl, hp.ex e1, by omega, hm, fun l f H2 hl h2 hlen hx p2 e2 => ⟨l, f, rfl, h2, by omega, hx, fun c bs H3 L e3 => by
    have R := ringsTo_ok hx f.length (Nat.le_refl _)
    rw [hlen] at R L
    refine ⟨c, bs.map V.ref, _, m, rfl, L.self, L.lb, R.all, hm, fun a H4 hl4 e4 h4 => ?_⟩
    have p4 := (p2.ex e3).ex e4
    have ap := (p2.ex e3).ne hl4
    exact (ev_var (H := H4) hv) H4 (Ex.refl _) _ fun H5 e5 => ⟨p, n + 3 * m + 1, rfl, p4.ex e5, by omega, fun x H6 x0 x1 p6 e6 => ⟨_, _, rfl, q a (seat (ringsTo f m) m) (ringsTo f m) x H6 ap (hm_at e6 ap (e5 a _ h4)) (seat_ord R.all R.ne hm1 hm) R.rings (seat_len _ _) x0 x1 (p6.mono (by omega)) (hm_trans (hm_trans (hm_of e1) e2) (hm_trans (hm_of (e3.trans (e4.trans e5))) e6))⟩⟩⟩⟩
theorem ep_named {E : XK} {a b : Addr} {h f : List Nat} {rs : List (List Nat)} {x : Int} (e0 : EvA t σ H0 [.ref p, .ref a, .ref b, .int x]) (ap : a ≠ p) (bp : b ≠ p) (ha : H0 a = some (.lst (nv h))) (hb : H0 b = some (.lst (nv f))) (o : Ord h) (o' : Ord f) (fl : f.length = h.length) (R : Rings h rs) (x0 : 1 ≤ x) (x1 : x ≤ 1000000000000) : EvP p 21 (tCall sp_named [] E t) σ H0 (fun v _ => v = .bl true) := fun n H1 e hpo hn Q q =>
  e0 H1 e _ fun H2 e2 => ⟨p, n, a, b, h, f, rs, x, rfl, hpo.ex e2, by omega, ap, bp, e2 a _ (e a _ ha), e2 b _ (e b _ hb), o, o', fl, R, x0, x1, fun H3 p3 e3 => q _ H3 rfl (p3.mono (by omega)) (hm_trans (hm_of e2) e3)⟩
theorem ep_turned {E : XK} {a : Addr} {h : List Nat} {rs : List (List Nat)} {x : Int} (e0 : EvA t σ H0 [.ref p, .ref a, .int x]) (ap : a ≠ p) (ha : H0 a = some (.lst (nv h))) (o : Ord h) (R : Rings h rs) (x0 : 1 ≤ x) (x1 : x ≤ 1000000000000) : EvP p 41 (tCall sp_turned [] E t) σ H0 (fun v _ => v = .bl true) := fun n H1 e hpo hn Q q =>
  e0 H1 e _ fun H2 e2 => ⟨p, n, a, h, rs, x, rfl, hpo.ex e2, by have := o.2.2; omega, ap, e2 a _ (e a _ ha), o, R, x0, x1, fun H3 p3 e3 => q _ H3 rfl (p3.mono (by have := o.2.2; omega)) (hm_trans (hm_of e2) e3)⟩
end
theorem max_min5 {m : Int} (h0 : 0 ≤ m) : 0 ≤ (if (if m < 5 then m else 5) > 1 then (if m < 5 then m else 5) else 1) ∧ (if (if m < 5 then m else 5) > 1 then (if m < 5 then m else 5) else 1) ≤ (5 : Int) := by
  split <;> split <;> omega
def sp_law (K : PySem.W.Frag) : Sp := fun vs H Q _ => ∃ (a : Addr) (ns : List Int), vs = [.ref a] ∧ SqL K H a (ns.map V.int) ∧ ns.length ≤ 63 ∧ ∀ H', Q (.bl true) H'
section
variable {P : Program} {w : World} {K : PySem.W.Frag} {mg : Str → Option Value} {base : Heap}
theorem ok_law (T : Tx K mg) : FnOk P w K mg base CX0 9 T.f_law T.d_law ["script"] (sp_law K) := by
  refine T.F_law.ok sc_law (fun vs H Q E h => ?_) (fun cdv A outer s H vs Q E hr h => ?_)
  · obtain ⟨a, ns, rfl, _⟩ := h
    rfl
  · obtain ⟨a, ns, rfl, hs, hl, k⟩ := h
    refine ⟨_, (pss_cons (ps_for PassesOwn.never rfl (pi_range1 (by rfl) T.m_range (pa_cons (pe_callB (call_maxR rfl) (by rfl) T.m_max (by decide +kernel) (pa_cons pe_int (pa_cons (pe_callB (call_minR rfl) (by rfl) T.m_min (by decide +kernel) (pa_cons pe_int (pa_cons (pe_callB call_lenR (by rfl) T.m_len (by decide +kernel) (pa_cons (pv 0) pa_nil)) pa_nil))) pa_nil))) pa_nil)) (pg_name (i := 1) sc_law.nd rfl (Or.inl rfl)) (pss_cons (ps_set (i := 2) sc_law.nd rfl (Or.inl rfl) (pe_call (ok_law_pouch T) (hr.mono (by decide)) (by rfl) T.g_law_pouch T.F_law_pouch.kp T.b_law_pouch .nil pass0 (pa_cons (pv 0) (pa_cons (pv 1) pa_nil))))
      (pss_one (ps_for PassesOwn.never rfl (pi_tup (pe_tup (pa_cons (pe_op op_add pe_int (pe_call (ok_law_dip T) (hr.mono (by decide)) (by rfl) T.g_law_dip T.F_law_dip.kp T.b_law_dip .nil pass0 (pa_cons (pv 2) (pa_cons pe_int pa_nil)))) (pa_cons (pe_ix ix_list (pe_lst (pa_cons pe_int (pa_cons pe_int (pa_cons pe_int pa_nil)))) (pe_call (ok_law_dip T) (hr.mono (by decide)) (by rfl) T.g_law_dip T.F_law_dip.kp T.b_law_dip .nil pass0 (pa_cons (pv 2) (pa_cons pe_int pa_nil))) (fun _ _ => rfl)) pa_nil)))) (pg_name (i := 3) sc_law.nd rfl (Or.inl rfl)) (pss_cons (ps_par (i := 4) (j := 5) (by rfl) sc_law.nd rfl rfl (by decide) rfl rfl (pa_cons (pe_call (ok_law_seat T) (hr.mono (by decide)) (by rfl) T.g_law_seat T.F_law_seat.kp T.b_law_seat .nil pass0 (pa_cons (pe_call (ok_law_rings T) (hr.mono (by decide)) (by rfl) T.g_law_rings T.F_law_rings.kp T.b_law_rings .nil pass0 (pa_cons (pe_call (ok_law_entries T) (hr.mono (by decide)) (by rfl) T.g_law_entries T.F_law_entries.kp T.b_law_entries .nil pass0 (pa_cons (pv 2) (pa_cons (pv 3) pa_nil))) pa_nil)) pa_nil)) (pa_cons (pe_call (ok_law_heavy T) (hr.mono (by decide)) (by rfl) T.g_law_heavy T.F_law_heavy.kp T.b_law_heavy .nil pass0 (pa_cons (pv 2) pa_nil)) pa_nil)) (by rfl))
      (pss_cons (ps_set (i := 6) sc_law.nd rfl (Or.inl rfl) (pe_call (ok_nth_seating T) (hr.mono (by decide)) (by rfl) T.g_nth_seating T.F_nth_seating.kp T.b_nth_seating .nil pass0 (pa_cons (pv 3) (pa_cons (pe_call (ok_law_dip T) (hr.mono (by decide)) (by rfl) T.g_law_dip T.F_law_dip.kp T.b_law_dip .nil pass0 (pa_cons (pv 2) (pa_cons (pe_call (ok_law_rise T) (hr.mono (by decide)) (by rfl) T.g_law_rise T.F_law_rise.kp T.b_law_rise .nil pass0 (pa_cons pe_int (pa_cons (pv 3) pa_nil))) pa_nil))) pa_nil))))
      (pss_cons (ps_set (i := 7) sc_law.nd rfl (Or.inl rfl) (pe_callTy call_listR (by rfl) T.m_list (by decide +kernel) (pa_cons (pv 4) pa_nil)))
      (pss_cons (ps_if (PW.pt (pw_or (pt_not (pt_val (pe_call (ok_law_named_right T) (hr.mono (by decide)) (by rfl) T.g_law_named_right T.F_law_named_right.kp T.b_law_named_right .nil pass0 (pa_cons (pv 2) (pa_cons (pv 4) (pa_cons (pv 6) (pa_cons (pv 5) pa_nil))))))) (pw_or1 (pt_not (pt_val (pe_call (ok_law_turned_right T) (hr.mono (by decide)) (by rfl) T.g_law_turned_right T.F_law_turned_right.kp T.b_law_turned_right .nil pass0 (pa_cons (pv 2) (pa_cons (pv 4) (pa_cons (pv 5) pa_nil))))))))) (pss_one (ps_ret pe_bl)) pss_nil)
      (pss_one (ps_if (PW.pt (pw_or (pt_not (pt_val (pe_call (ok_law_lists_right T) (hr.mono (by decide)) (by rfl) T.g_law_lists_right T.F_law_lists_right.kp T.b_law_lists_right .nil pass0 (pa_cons (pv 4) (pa_cons (pv 5) pa_nil))))) (pw_or1 (pt_cmpR (op_neD hr.units) (pv 4) (pv 7) (nomark _))))) (pss_one (ps_ret pe_bl)) pss_nil))))))))))
      (pss_one (ps_ret pe_bl))), ?_⟩
    have mm := max_min5 (m := ((ns.map V.int).length : Int)) (by omega)
    refine q_forR1 (by walk_at "ea") ⟨mm.1, Int.le_trans mm.2 (by decide)⟩ (fun i σ' H' => ∃ y1 y2 y3 y4 y5 y6 y7, σ' = [some (.ref a), y1, y2, y3, y4, y5, y6, y7] ∧ Ex H H') (fun H1 e1 => ⟨none, none, none, none, none, none, none, rfl, e1⟩) ?_ ?_
    · rintro i σ' H' hi ⟨y1, y2, y3, y4, y5, y6, y7, rfl, e⟩
      have hi5 : (i : Int) < 5 := Int.lt_of_lt_of_le hi mm.2
      refine pq_pouch (by walk_at "ea") (ex_l e hs) (by omega) fun p H1 hp e1 hpo => ?_
      have A5 : EvP p ((0 + (0 + (0 + 0))) + 1) (tOp (rIxL K) (tLst (tCons (tC (.int 20)) (tCons (tC (.int 1)) (tCons (tC (.int 2)) tNil)))) (tCall sp_law_dip [] E0 (tCons (tVar 2) (tCons (tC (.int 3)) tNil)))) [some (.ref a), some (.int (i : Int)), some (.ref p), y3, y4, y5, y6, y7] (Hm p H1) (fun v _ => ∃ x : Nat, v = .int (x : Int) ∧ 1 ≤ x ∧ x ≤ 20) := by
        refine ep_ix (A := fun v => ∃ x : Nat, v = .int (x : Int) ∧ 1 ≤ x ∧ x ≤ 20) (ix := fun v => ∃ r, v = .int r ∧ 0 ≤ r ∧ r < 3) (C := fun vs => vs = [.int 20, .int 1, .int 2]) hm_p (ep_is (ep_lst (epa_pure (v := .int 20) hm_p ev_c (epa_pure (v := .int 1) hm_p ev_c (epa_pure (v := .int 2) hm_p ev_c epa_nil))) ?_) ?_) (ep_dipI (w := 3) hm_p (ev_var rfl) ev_c (by decide) (by decide)) ?_
        · rintro vs ⟨x, r, rfl, rfl, y, r2, rfl, rfl, z, r3, rfl, rfl, rfl⟩
          decide
        · rintro v H' ⟨l, vs, ne, e, hl, x, r, rfl, rfl, y, r2, rfl, rfl, z, r3, rfl, rfl, rfl⟩
          exact ⟨l, _, ne, e, hl, rfl⟩
        · rintro vs v rfl ⟨r, rfl, r0, r1⟩
          obtain rfl | rfl | rfl : r = 0 ∨ r = 1 ∨ r = 2 := by omega
          · exact ⟨0, _, rfl, rfl, 20, rfl, by decide, by decide⟩
          · exact ⟨1, _, rfl, rfl, 1, rfl, by decide, by decide⟩
          · exact ⟨2, _, rfl, rfl, 2, rfl, by decide, by decide⟩
      refine ps_of (pq_forTupP (p := p) (k := (0 + 1) + (((0 + (0 + (0 + 0))) + 1) + 0)) (c := 200) (H0 := Hm p H1) (C := fun vs => ∃ x y : Nat, vs = [.int (x : Int), .int (y : Int)] ∧ (1 ≤ x ∧ x ≤ 20) ∧ 1 ≤ y ∧ y ≤ 20) (S := fun σ' => ∃ y3 y4 y5 y6 y7, σ' = [some (.ref a), some (.int (i : Int)), some (.ref p), y3, y4, y5, y6, y7]) ?_ hm_sub hpo (by decide) ?_ ⟨_, _, _, _, _, rfl⟩ ?_ ?_)
      · intro n G1 eg hg hn Q q
        refine epa_cons (A := fun v => ∃ x : Nat, v = .int (x : Int) ∧ 1 ≤ x ∧ x ≤ 20) hm_p (ep_is (ep_add (C := fun r => 0 ≤ r ∧ r < 20) hm_p ev_c (ep_dipI (w := 20) hm_p (ev_var rfl) ev_c (by decide) (by decide))) fun v _ ⟨r, e, r0, r1⟩ => ⟨(1 + r).toNat, by rw [e]; congr 1; omega, by omega, by omega⟩) (epa_cons (A := fun v => ∃ x : Nat, v = .int (x : Int) ∧ 1 ≤ x ∧ x ≤ 20) hm_p A5 epa_nil) n G1 eg hg hn Q fun vs G2 hv => q vs G2 ?_
        obtain ⟨v1, r1, rfl, ⟨x, rfl, hx⟩, v2, r2, rfl, ⟨y, rfl, hy⟩, rfl⟩ := hv
        exact ⟨x, y, rfl, hx, hy⟩
      · rintro vs ⟨x, y, rfl, hx, hy⟩
        refine ⟨rfl, fun v hv => ?_⟩
        simp only [List.mem_cons, List.not_mem_nil, or_false] at hv
        rcases hv with rfl | rfl
        · exact ⟨x, rfl, hx.1, hx.2⟩
        · exact ⟨y, rfl, hy.1, hy.2⟩
      · rintro t m σ' H2 ht m0 m1 ⟨y3, y4, y5, y6, y7, rfl⟩ p2 e2 N hN
        have fm : (fac m : Nat) < 2 ^ 64 := fac_le20 m1
        have fp : 0 < fac m := fac_pos m
        refine pq_hall (b := 2) (m := m) (ea_cons (ev_var rfl) (ea_cons (ev_var rfl) ea_nil)) rfl p2 (by omega) m0 m1 fun l h rs x H3 lp hl3 o R hlen x0 x1 p3 e3 => ?_
        refine pq_asg (p := p) (k := 1) (H0 := Hm p H3) (ep_nth m0 m1 (ev_var rfl) (ep_is (ep_dipI (w := ((fac m : Nat) : Int)) hm_p (ev_var rfl) (ev_is (ev_call (ea_cons ev_c (ea_cons (ev_var rfl) ea_nil)) (sv_rise (b := 1) (n := m) (by decide) (by omega))) (by rw [rise_one])) (by omega) (by omega)) fun v _ ⟨r, e, r0, r1⟩ => ⟨r.toNat, by rw [e]; congr 1; omega, by omega⟩)) hm_sub p3 (by omega) fun v H4 hv p4 e4 => ?_
        obtain ⟨b, f, bp, rfl, hf, o', fl⟩ := hv
        have hl4 := hm_at e4 lp hl3
        refine q_asgL (xs := nv h) (el_list (K := K) (ev_var rfl) (sq_of hl4)) fun c H5 nc e5 hc => ?_
        have cp := p4.ne nc
        have hl5 := e5 l _ hl4
        have hf5 := e5 b _ hf
        have inl : (Hm p H5) l = some (.lst (nv h)) := by unfold Hm; rw [if_neg lp]; exact hl5
        have inb : (Hm p H5) b = some (.lst (nv f)) := by unfold Hm; rw [if_neg bp]; exact hf5
        refine pq_no (p := p) (k := 21 + 41) (H0 := Hm p H5) (tp_or hm_p (tp_is (b := !true) (tp_not (tp_B (ep_named (a := l) (b := b) (h := h) (f := f) (rs := rs) (x := x) (ea_cons (ev_var rfl) (ea_cons (ev_var rfl) (ea_cons (ev_var rfl) (ea_cons (ev_var rfl) ea_nil)))) lp bp inl inb o o' (by omega) R x0 x1))) rfl) (tp_is (b := !true) (tp_not (tp_B (ep_turned (a := l) (h := h) (rs := rs) (x := x) (ea_cons (ev_var rfl) (ea_cons (ev_var rfl) (ea_cons (ev_var rfl) ea_nil))) lp inl o R x0 x1))) rfl)) hm_sub (p4.ex e5) (by omega) fun H6 p6 e6 => ?_
        have hl6 := hm_at e6 lp hl5
        have hc6 := hm_at e6 cp hc
        exact s_when (b := false) (et_is (et_or (et_not (et_B (ev_call (ea_cons (ev_var rfl) (ea_cons (ev_var rfl) ea_nil)) (sv_lists hl6 o R x0 x1)))) fun _ => et_test (ev_neD (d := di h) (e := di h) (ed_of (ev_var rfl) (dp_L hl6)) (ed_of (ev_var rfl) (dp_L hc6)) (shaped_di _) (shaped_di _))) (by rw [eqv_same (shaped_di _)]; rfl)) (fun hb => Bool.noConfusion hb) fun _ H7 e7 => hN _ _ ⟨_, _, _, _, _, rfl⟩ ((p6.ex e7).mono (by omega)) (hm_trans e3 (hm_trans e4 (hm_trans (hm_of e5) (hm_trans e6 (hm_of e7)))))
      · rintro σ' H2 ⟨y3, y4, y5, y6, y7, rfl⟩ p2 e2
        exact ⟨_, _, _, _, _, _, _, rfl, e.trans (hm_next hp e1 e2)⟩
    · rintro σ' H' ⟨y1, y2, y3, y4, y5, y6, y7, rfl, e⟩
      exact s_ret ev_c fun H1 e1 => k _
end


theorem all_mk {l : PySem.W.OpenLaw} {w : World} {K : PySem.W.Frag} {h : Heap} {mg : Str → Option Value} {fa : Addr} (X : K.In h) (G : h.Ns mainGlobals mg) (hfa : mg "law" = some (.ref fa))
    {f1 : Addr} {od1 an1 : Option Addr} {sl1 : Array (Option Value)} {oc1 kV1 dc1 pm1 cd1 ct1 : Value}
    {f2 : Addr} {od2 an2 : Option Addr} {sl2 : Array (Option Value)} {oc2 kV2 dc2 pm2 cd2 ct2 : Value}
    {f3 : Addr} {od3 an3 : Option Addr} {sl3 : Array (Option Value)} {oc3 kV3 dc3 pm3 cd3 ct3 : Value}
    {f4 : Addr} {od4 an4 : Option Addr} {sl4 : Array (Option Value)} {oc4 kV4 dc4 pm4 cd4 ct4 : Value}
    {f5 : Addr} {od5 an5 : Option Addr} {sl5 : Array (Option Value)} {oc5 kV5 dc5 pm5 cd5 ct5 : Value}
    {f6 : Addr} {od6 an6 : Option Addr} {sl6 : Array (Option Value)} {oc6 kV6 dc6 pm6 cd6 ct6 : Value}
    {f7 : Addr} {od7 an7 : Option Addr} {sl7 : Array (Option Value)} {oc7 kV7 dc7 pm7 cd7 ct7 : Value}
    {f8 : Addr} {od8 an8 : Option Addr} {sl8 : Array (Option Value)} {oc8 kV8 dc8 pm8 cd8 ct8 : Value}
    {f9 : Addr} {od9 an9 : Option Addr} {sl9 : Array (Option Value)} {oc9 kV9 dc9 pm9 cd9 ct9 : Value}
    {f10 : Addr} {od10 an10 : Option Addr} {sl10 : Array (Option Value)} {oc10 kV10 dc10 pm10 cd10 ct10 : Value}
    {f11 : Addr} {od11 an11 : Option Addr} {sl11 : Array (Option Value)} {oc11 kV11 dc11 pm11 cd11 ct11 : Value}
    {f12 : Addr} {od12 an12 : Option Addr} {sl12 : Array (Option Value)} {oc12 kV12 dc12 pm12 cd12 ct12 : Value}
    {f13 : Addr} {od13 an13 : Option Addr} {sl13 : Array (Option Value)} {oc13 kV13 dc13 pm13 cd13 ct13 : Value}
    {f14 : Addr} {od14 an14 : Option Addr} {sl14 : Array (Option Value)} {oc14 kV14 dc14 pm14 cd14 ct14 : Value}
    {f15 : Addr} {od15 an15 : Option Addr} {sl15 : Array (Option Value)} {oc15 kV15 dc15 pm15 cd15 ct15 : Value}
    {f16 : Addr} {od16 an16 : Option Addr} {sl16 : Array (Option Value)} {oc16 kV16 dc16 pm16 cd16 ct16 : Value}
    {f17 : Addr} {od17 an17 : Option Addr} {sl17 : Array (Option Value)} {oc17 kV17 dc17 pm17 cd17 ct17 : Value}
    {f18 : Addr} {od18 an18 : Option Addr} {sl18 : Array (Option Value)} {oc18 kV18 dc18 pm18 cd18 ct18 : Value}
    {f19 : Addr} {od19 an19 : Option Addr} {sl19 : Array (Option Value)} {oc19 kV19 dc19 pm19 cd19 ct19 : Value}
    {f20 : Addr} {od20 an20 : Option Addr} {sl20 : Array (Option Value)} {oc20 kV20 dc20 pm20 cd20 ct20 : Value}
    {f21 : Addr} {od21 an21 : Option Addr} {sl21 : Array (Option Value)} {oc21 kV21 dc21 pm21 cd21 ct21 : Value}
    {f22 : Addr} {od22 an22 : Option Addr} {sl22 : Array (Option Value)} {oc22 kV22 dc22 pm22 cd22 ct22 : Value}
    {f23 : Addr} {od23 an23 : Option Addr} {sl23 : Array (Option Value)} {oc23 kV23 dc23 pm23 cd23 ct23 : Value}
    {f24 : Addr} {od24 an24 : Option Addr} {sl24 : Array (Option Value)} {oc24 kV24 dc24 pm24 cd24 ct24 : Value}
    {f25 : Addr} {od25 an25 : Option Addr} {sl25 : Array (Option Value)} {oc25 kV25 dc25 pm25 cd25 ct25 : Value}
    {f26 : Addr} {od26 an26 : Option Addr} {sl26 : Array (Option Value)} {oc26 kV26 dc26 pm26 cd26 ct26 : Value}
    {f27 : Addr} {od27 an27 : Option Addr} {sl27 : Array (Option Value)} {oc27 kV27 dc27 pm27 cd27 ct27 : Value}
    {f28 : Addr} {od28 an28 : Option Addr} {sl28 : Array (Option Value)} {oc28 kV28 dc28 pm28 cd28 ct28 : Value}
    {f29 : Addr} {od29 an29 : Option Addr} {sl29 : Array (Option Value)} {oc29 kV29 dc29 pm29 cd29 ct29 : Value}
    {f30 : Addr} {od30 an30 : Option Addr} {sl30 : Array (Option Value)} {oc30 kV30 dc30 pm30 cd30 ct30 : Value}
    {f31 : Addr} {od31 an31 : Option Addr} {sl31 : Array (Option Value)} {oc31 kV31 dc31 pm31 cd31 ct31 : Value}
    {f32 : Addr} {od32 an32 : Option Addr} {sl32 : Array (Option Value)} {oc32 kV32 dc32 pm32 cd32 ct32 : Value}
    {f33 : Addr} {od33 an33 : Option Addr} {sl33 : Array (Option Value)} {oc33 kV33 dc33 pm33 cd33 ct33 : Value}
    {f34 : Addr} {od34 an34 : Option Addr} {sl34 : Array (Option Value)} {oc34 kV34 dc34 pm34 cd34 ct34 : Value}
    {f35 : Addr} {od35 an35 : Option Addr} {sl35 : Array (Option Value)} {oc35 kV35 dc35 pm35 cd35 ct35 : Value}
    {f36 : Addr} {od36 an36 : Option Addr} {sl36 : Array (Option Value)} {oc36 kV36 dc36 pm36 cd36 ct36 : Value}
    {f37 : Addr} {od37 an37 : Option Addr} {sl37 : Array (Option Value)} {oc37 kV37 dc37 pm37 cd37 ct37 : Value}
    {f38 : Addr} {od38 an38 : Option Addr} {sl38 : Array (Option Value)} {oc38 kV38 dc38 pm38 cd38 ct38 : Value}
    {f39 : Addr} {od39 an39 : Option Addr} {sl39 : Array (Option Value)} {oc39 kV39 dc39 pm39 cd39 ct39 : Value}
    {f40 : Addr} {od40 an40 : Option Addr} {sl40 : Array (Option Value)} {oc40 kV40 dc40 pm40 cd40 ct40 : Value}
    {f41 : Addr} {od41 an41 : Option Addr} {sl41 : Array (Option Value)} {oc41 kV41 dc41 pm41 cd41 ct41 : Value}
    {f42 : Addr} {od42 an42 : Option Addr} {sl42 : Array (Option Value)} {oc42 kV42 dc42 pm42 cd42 ct42 : Value}
    {f43 : Addr} {od43 an43 : Option Addr} {sl43 : Array (Option Value)} {oc43 kV43 dc43 pm43 cd43 ct43 : Value}
    {f44 : Addr} {od44 an44 : Option Addr} {sl44 : Array (Option Value)} {oc44 kV44 dc44 pm44 cd44 ct44 : Value}
    {f45 : Addr} {od45 an45 : Option Addr} {sl45 : Array (Option Value)} {oc45 kV45 dc45 pm45 cd45 ct45 : Value}
    {f46 : Addr} {od46 an46 : Option Addr} {sl46 : Array (Option Value)} {oc46 kV46 dc46 pm46 cd46 ct46 : Value}
    {f47 : Addr} {od47 an47 : Option Addr} {sl47 : Array (Option Value)} {oc47 kV47 dc47 pm47 cd47 ct47 : Value}
    {f48 : Addr} {od48 an48 : Option Addr} {sl48 : Array (Option Value)} {oc48 kV48 dc48 pm48 cd48 ct48 : Value}
    {f49 : Addr} {od49 an49 : Option Addr} {sl49 : Array (Option Value)} {oc49 kV49 dc49 pm49 cd49 ct49 : Value}
    {f50 : Addr} {od50 an50 : Option Addr} {sl50 : Array (Option Value)} {oc50 kV50 dc50 pm50 cd50 ct50 : Value}
    {f51 : Addr} {od51 an51 : Option Addr} {sl51 : Array (Option Value)} {oc51 kV51 dc51 pm51 cd51 ct51 : Value}
    {f52 : Addr} {od52 an52 : Option Addr} {sl52 : Array (Option Value)} {oc52 kV52 dc52 pm52 cd52 ct52 : Value}
    {f53 : Addr} {od53 an53 : Option Addr} {sl53 : Array (Option Value)} {oc53 kV53 dc53 pm53 cd53 ct53 : Value}
    {f54 : Addr} {od54 an54 : Option Addr} {sl54 : Array (Option Value)} {oc54 kV54 dc54 pm54 cd54 ct54 : Value}
    {t_MOST_GUESTS : Tok}
    {t_MOST_WEIGHT : Tok}
    (a1 : PySem.W.nsIn K mainGlobals "is_whole" = some (some (.ref f1))) (l1 : K.lookup f1 = some ⟨oc1, od1, .func (PySem.W.fnOf "is_whole" "is_whole" (defArgs s_is_whole) (defBody s_is_whole) (defScope s_is_whole) .none kV1 dc1 pm1 an1 cd1 ct1), sl1⟩) (c1 : PySem.W.codeIn K cd1 "is_whole" = true) (k1 : PySem.W.keepIn K (.ref f1) = true)
    (a2 : PySem.W.nsIn K mainGlobals "is_within" = some (some (.ref f2))) (l2 : K.lookup f2 = some ⟨oc2, od2, .func (PySem.W.fnOf "is_within" "is_within" (defArgs s_is_within) (defBody s_is_within) (defScope s_is_within) .none kV2 dc2 pm2 an2 cd2 ct2), sl2⟩) (c2 : PySem.W.codeIn K cd2 "is_within" = true) (k2 : PySem.W.keepIn K (.ref f2) = true)
    (a3 : PySem.W.nsIn K mainGlobals "is_order" = some (some (.ref f3))) (l3 : K.lookup f3 = some ⟨oc3, od3, .func (PySem.W.fnOf "is_order" "is_order" (defArgs s_is_order) (defBody s_is_order) (defScope s_is_order) .none kV3 dc3 pm3 an3 cd3 ct3), sl3⟩) (c3 : PySem.W.codeIn K cd3 "is_order" = true) (k3 : PySem.W.keepIn K (.ref f3) = true)
    (a4 : PySem.W.nsIn K mainGlobals "check_guests" = some (some (.ref f4))) (l4 : K.lookup f4 = some ⟨oc4, od4, .func (PySem.W.fnOf "check_guests" "check_guests" (defArgs s_check_guests) (defBody s_check_guests) (defScope s_check_guests) .none kV4 dc4 pm4 an4 cd4 ct4), sl4⟩) (c4 : PySem.W.codeIn K cd4 "check_guests" = true) (k4 : PySem.W.keepIn K (.ref f4) = true)
    (a5 : PySem.W.nsIn K mainGlobals "check_weight" = some (some (.ref f5))) (l5 : K.lookup f5 = some ⟨oc5, od5, .func (PySem.W.fnOf "check_weight" "check_weight" (defArgs s_check_weight) (defBody s_check_weight) (defScope s_check_weight) .none kV5 dc5 pm5 an5 cd5 ct5), sl5⟩) (c5 : PySem.W.codeIn K cd5 "check_weight" = true) (k5 : PySem.W.keepIn K (.ref f5) = true)
    (a6 : PySem.W.nsIn K mainGlobals "check_guest" = some (some (.ref f6))) (l6 : K.lookup f6 = some ⟨oc6, od6, .func (PySem.W.fnOf "check_guest" "check_guest" (defArgs s_check_guest) (defBody s_check_guest) (defScope s_check_guest) .none kV6 dc6 pm6 an6 cd6 ct6), sl6⟩) (c6 : PySem.W.codeIn K cd6 "check_guest" = true) (k6 : PySem.W.keepIn K (.ref f6) = true)
    (a7 : PySem.W.nsIn K mainGlobals "check_any_number" = some (some (.ref f7))) (l7 : K.lookup f7 = some ⟨oc7, od7, .func (PySem.W.fnOf "check_any_number" "check_any_number" (defArgs s_check_any_number) (defBody s_check_any_number) (defScope s_check_any_number) .none kV7 dc7 pm7 an7 cd7 ct7), sl7⟩) (c7 : PySem.W.codeIn K cd7 "check_any_number" = true) (k7 : PySem.W.keepIn K (.ref f7) = true)
    (a8 : PySem.W.nsIn K mainGlobals "check_index" = some (some (.ref f8))) (l8 : K.lookup f8 = some ⟨oc8, od8, .func (PySem.W.fnOf "check_index" "check_index" (defArgs s_check_index) (defBody s_check_index) (defScope s_check_index) .none kV8 dc8 pm8 an8 cd8 ct8), sl8⟩) (c8 : PySem.W.codeIn K cd8 "check_index" = true) (k8 : PySem.W.keepIn K (.ref f8) = true)
    (a9 : PySem.W.nsIn K mainGlobals "raised" = some (some (.ref f9))) (l9 : K.lookup f9 = some ⟨oc9, od9, .func (PySem.W.fnOf "raised" "raised" (defArgs s_raised) (defBody s_raised) (defScope s_raised) .none kV9 dc9 pm9 an9 cd9 ct9), sl9⟩) (c9 : PySem.W.codeIn K cd9 "raised" = true) (k9 : PySem.W.keepIn K (.ref f9) = true)
    (a10 : PySem.W.nsIn K mainGlobals "rising" = some (some (.ref f10))) (l10 : K.lookup f10 = some ⟨oc10, od10, .func (PySem.W.fnOf "rising" "rising" (defArgs s_rising) (defBody s_rising) (defScope s_rising) .none kV10 dc10 pm10 an10 cd10 ct10), sl10⟩) (c10 : PySem.W.codeIn K cd10 "rising" = true) (k10 : PySem.W.keepIn K (.ref f10) = true)
    (a11 : PySem.W.nsIn K mainGlobals "fraction" = some (some (.ref f11))) (l11 : K.lookup f11 = some ⟨oc11, od11, .func (PySem.W.fnOf "fraction" "fraction" (defArgs s_fraction) (defBody s_fraction) (defScope s_fraction) .none kV11 dc11 pm11 an11 cd11 ct11), sl11⟩) (c11 : PySem.W.codeIn K cd11 "fraction" = true) (k11 : PySem.W.keepIn K (.ref f11) = true)
    (a12 : PySem.W.nsIn K mainGlobals "is_seating" = some (some (.ref f12))) (l12 : K.lookup f12 = some ⟨oc12, od12, .func (PySem.W.fnOf "is_seating" "is_seating" (defArgs s_is_seating) (defBody s_is_seating) (defScope s_is_seating) .none kV12 dc12 pm12 an12 cd12 ct12), sl12⟩) (c12 : PySem.W.codeIn K cd12 "is_seating" = true) (k12 : PySem.W.keepIn K (.ref f12) = true)
    (a13 : PySem.W.nsIn K mainGlobals "tables_of" = some (some (.ref f13))) (l13 : K.lookup f13 = some ⟨oc13, od13, .func (PySem.W.fnOf "tables_of" "tables_of" (defArgs s_tables_of) (defBody s_tables_of) (defScope s_tables_of) .none kV13 dc13 pm13 an13 cd13 ct13), sl13⟩) (c13 : PySem.W.codeIn K cd13 "tables_of" = true) (k13 : PySem.W.keepIn K (.ref f13) = true)
    (a14 : PySem.W.nsIn K mainGlobals "seating_of" = some (some (.ref f14))) (l14 : K.lookup f14 = some ⟨oc14, od14, .func (PySem.W.fnOf "seating_of" "seating_of" (defArgs s_seating_of) (defBody s_seating_of) (defScope s_seating_of) .none kV14 dc14 pm14 an14 cd14 ct14), sl14⟩) (c14 : PySem.W.codeIn K cd14 "seating_of" = true) (k14 : PySem.W.keepIn K (.ref f14) = true)
    (a15 : PySem.W.nsIn K mainGlobals "table_from" = some (some (.ref f15))) (l15 : K.lookup f15 = some ⟨oc15, od15, .func (PySem.W.fnOf "table_from" "table_from" (defArgs s_table_from) (defBody s_table_from) (defScope s_table_from) .none kV15 dc15 pm15 an15 cd15 ct15), sl15⟩) (c15 : PySem.W.codeIn K cd15 "table_from" = true) (k15 : PySem.W.keepIn K (.ref f15) = true)
    (a16 : PySem.W.nsIn K mainGlobals "right_of" = some (some (.ref f16))) (l16 : K.lookup f16 = some ⟨oc16, od16, .func (PySem.W.fnOf "right_of" "right_of" (defArgs s_right_of) (defBody s_right_of) (defScope s_right_of) .none kV16 dc16 pm16 an16 cd16 ct16), sl16⟩) (c16 : PySem.W.codeIn K cd16 "right_of" = true) (k16 : PySem.W.keepIn K (.ref f16) = true)
    (a17 : PySem.W.nsIn K mainGlobals "steps_left" = some (some (.ref f17))) (l17 : K.lookup f17 = some ⟨oc17, od17, .func (PySem.W.fnOf "steps_left" "steps_left" (defArgs s_steps_left) (defBody s_steps_left) (defScope s_steps_left) .none kV17 dc17 pm17 an17 cd17 ct17), sl17⟩) (c17 : PySem.W.codeIn K cd17 "steps_left" = true) (k17 : PySem.W.keepIn K (.ref f17) = true)
    (a18 : PySem.W.nsIn K mainGlobals "are_together" = some (some (.ref f18))) (l18 : K.lookup f18 = some ⟨oc18, od18, .func (PySem.W.fnOf "are_together" "are_together" (defArgs s_are_together) (defBody s_are_together) (defScope s_are_together) .none kV18 dc18 pm18 an18 cd18 ct18), sl18⟩) (c18 : PySem.W.codeIn K cd18 "are_together" = true) (k18 : PySem.W.keepIn K (.ref f18) = true)
    (a19 : PySem.W.nsIn K mainGlobals "mirrored" = some (some (.ref f19))) (l19 : K.lookup f19 = some ⟨oc19, od19, .func (PySem.W.fnOf "mirrored" "mirrored" (defArgs s_mirrored) (defBody s_mirrored) (defScope s_mirrored) .none kV19 dc19 pm19 an19 cd19 ct19), sl19⟩) (c19 : PySem.W.codeIn K cd19 "mirrored" = true) (k19 : PySem.W.keepIn K (.ref f19) = true)
    (a20 : PySem.W.nsIn K mainGlobals "renamed" = some (some (.ref f20))) (l20 : K.lookup f20 = some ⟨oc20, od20, .func (PySem.W.fnOf "renamed" "renamed" (defArgs s_renamed) (defBody s_renamed) (defScope s_renamed) .none kV20 dc20 pm20 an20 cd20 ct20), sl20⟩) (c20 : PySem.W.codeIn K cd20 "renamed" = true) (k20 : PySem.W.keepIn K (.ref f20) = true)
    (a21 : PySem.W.nsIn K mainGlobals "record_list" = some (some (.ref f21))) (l21 : K.lookup f21 = some ⟨oc21, od21, .func (PySem.W.fnOf "record_list" "record_list" (defArgs s_record_list) (defBody s_record_list) (defScope s_record_list) .none kV21 dc21 pm21 an21 cd21 ct21), sl21⟩) (c21 : PySem.W.codeIn K cd21 "record_list" = true) (k21 : PySem.W.keepIn K (.ref f21) = true)
    (a22 : PySem.W.nsIn K mainGlobals "seating_of_records" = some (some (.ref f22))) (l22 : K.lookup f22 = some ⟨oc22, od22, .func (PySem.W.fnOf "seating_of_records" "seating_of_records" (defArgs s_seating_of_records) (defBody s_seating_of_records) (defScope s_seating_of_records) .none kV22 dc22 pm22 an22 cd22 ct22), sl22⟩) (c22 : PySem.W.codeIn K cd22 "seating_of_records" = true) (k22 : PySem.W.keepIn K (.ref f22) = true)
    (a23 : PySem.W.nsIn K mainGlobals "check_seating" = some (some (.ref f23))) (l23 : K.lookup f23 = some ⟨oc23, od23, .func (PySem.W.fnOf "check_seating" "check_seating" (defArgs s_check_seating) (defBody s_check_seating) (defScope s_check_seating) .none kV23 dc23 pm23 an23 cd23 ct23), sl23⟩) (c23 : PySem.W.codeIn K cd23 "check_seating" = true) (k23 : PySem.W.keepIn K (.ref f23) = true)
    (a24 : PySem.W.nsIn K mainGlobals "check_names" = some (some (.ref f24))) (l24 : K.lookup f24 = some ⟨oc24, od24, .func (PySem.W.fnOf "check_names" "check_names" (defArgs s_check_names) (defBody s_check_names) (defScope s_check_names) .none kV24 dc24 pm24 an24 cd24 ct24), sl24⟩) (c24 : PySem.W.codeIn K cd24 "check_names" = true) (k24 : PySem.W.keepIn K (.ref f24) = true)
    (a25 : PySem.W.nsIn K mainGlobals "are_tables" = some (some (.ref f25))) (l25 : K.lookup f25 = some ⟨oc25, od25, .func (PySem.W.fnOf "are_tables" "are_tables" (defArgs s_are_tables) (defBody s_are_tables) (defScope s_are_tables) .none kV25 dc25 pm25 an25 cd25 ct25), sl25⟩) (c25 : PySem.W.codeIn K cd25 "are_tables" = true) (k25 : PySem.W.keepIn K (.ref f25) = true)
    (a26 : PySem.W.nsIn K mainGlobals "is_table" = some (some (.ref f26))) (l26 : K.lookup f26 = some ⟨oc26, od26, .func (PySem.W.fnOf "is_table" "is_table" (defArgs s_is_table) (defBody s_is_table) (defScope s_is_table) .none kV26 dc26 pm26 an26 cd26 ct26), sl26⟩) (c26 : PySem.W.codeIn K cd26 "is_table" = true) (k26 : PySem.W.keepIn K (.ref f26) = true)
    (a27 : PySem.W.nsIn K mainGlobals "walk_left" = some (some (.ref f27))) (l27 : K.lookup f27 = some ⟨oc27, od27, .func (PySem.W.fnOf "walk_left" "walk_left" (defArgs s_walk_left) (defBody s_walk_left) (defScope s_walk_left) .none kV27 dc27 pm27 an27 cd27 ct27), sl27⟩) (c27 : PySem.W.codeIn K cd27 "walk_left" = true) (k27 : PySem.W.keepIn K (.ref f27) = true)
    (a28 : PySem.W.nsIn K mainGlobals "tables_among" = some (some (.ref f28))) (l28 : K.lookup f28 = some ⟨oc28, od28, .func (PySem.W.fnOf "tables_among" "tables_among" (defArgs s_tables_among) (defBody s_tables_among) (defScope s_tables_among) .none kV28 dc28 pm28 an28 cd28 ct28), sl28⟩) (c28 : PySem.W.codeIn K cd28 "tables_among" = true) (k28 : PySem.W.keepIn K (.ref f28) = true)
    (a29 : PySem.W.nsIn K mainGlobals "seating_with" = some (some (.ref f29))) (l29 : K.lookup f29 = some ⟨oc29, od29, .func (PySem.W.fnOf "seating_with" "seating_with" (defArgs s_seating_with) (defBody s_seating_with) (defScope s_seating_with) .none kV29 dc29 pm29 an29 cd29 ct29), sl29⟩) (c29 : PySem.W.codeIn K cd29 "seating_with" = true) (k29 : PySem.W.keepIn K (.ref f29) = true)
    (a30 : PySem.W.nsIn K mainGlobals "seating_share" = some (some (.ref f30))) (l30 : K.lookup f30 = some ⟨oc30, od30, .func (PySem.W.fnOf "seating_share" "seating_share" (defArgs s_seating_share) (defBody s_seating_share) (defScope s_seating_share) .none kV30 dc30 pm30 an30 cd30 ct30), sl30⟩) (c30 : PySem.W.codeIn K cd30 "seating_share" = true) (k30 : PySem.W.keepIn K (.ref f30) = true)
    (a31 : PySem.W.nsIn K mainGlobals "nth_seating" = some (some (.ref f31))) (l31 : K.lookup f31 = some ⟨oc31, od31, .func (PySem.W.fnOf "nth_seating" "nth_seating" (defArgs s_nth_seating) (defBody s_nth_seating) (defScope s_nth_seating) .none kV31 dc31 pm31 an31 cd31 ct31), sl31⟩) (c31 : PySem.W.codeIn K cd31 "nth_seating" = true) (k31 : PySem.W.keepIn K (.ref f31) = true)
    (a32 : PySem.W.nsIn K mainGlobals "seating_index" = some (some (.ref f32))) (l32 : K.lookup f32 = some ⟨oc32, od32, .func (PySem.W.fnOf "seating_index" "seating_index" (defArgs s_seating_index) (defBody s_seating_index) (defScope s_seating_index) .none kV32 dc32 pm32 an32 cd32 ct32), sl32⟩) (c32 : PySem.W.codeIn K cd32 "seating_index" = true) (k32 : PySem.W.keepIn K (.ref f32) = true)
    (a33 : PySem.W.nsIn K mainGlobals "count_sizes" = some (some (.ref f33))) (l33 : K.lookup f33 = some ⟨oc33, od33, .func (PySem.W.fnOf "count_sizes" "count_sizes" (defArgs s_count_sizes) (defBody s_count_sizes) (defScope s_count_sizes) .none kV33 dc33 pm33 an33 cd33 ct33), sl33⟩) (c33 : PySem.W.codeIn K cd33 "count_sizes" = true) (k33 : PySem.W.keepIn K (.ref f33) = true)
    (a34 : PySem.W.nsIn K mainGlobals "sizes_share" = some (some (.ref f34))) (l34 : K.lookup f34 = some ⟨oc34, od34, .func (PySem.W.fnOf "sizes_share" "sizes_share" (defArgs s_sizes_share) (defBody s_sizes_share) (defScope s_sizes_share) .none kV34 dc34 pm34 an34 cd34 ct34), sl34⟩) (c34 : PySem.W.codeIn K cd34 "sizes_share" = true) (k34 : PySem.W.keepIn K (.ref f34) = true)
    (a35 : PySem.W.nsIn K mainGlobals "index_with_sizes" = some (some (.ref f35))) (l35 : K.lookup f35 = some ⟨oc35, od35, .func (PySem.W.fnOf "index_with_sizes" "index_with_sizes" (defArgs s_index_with_sizes) (defBody s_index_with_sizes) (defScope s_index_with_sizes) .none kV35 dc35 pm35 an35 cd35 ct35), sl35⟩) (c35 : PySem.W.codeIn K cd35 "index_with_sizes" = true) (k35 : PySem.W.keepIn K (.ref f35) = true)
    (a36 : PySem.W.nsIn K mainGlobals "check_sizes" = some (some (.ref f36))) (l36 : K.lookup f36 = some ⟨oc36, od36, .func (PySem.W.fnOf "check_sizes" "check_sizes" (defArgs s_check_sizes) (defBody s_check_sizes) (defScope s_check_sizes) .none kV36 dc36 pm36 an36 cd36 ct36), sl36⟩) (c36 : PySem.W.codeIn K cd36 "check_sizes" = true) (k36 : PySem.W.keepIn K (.ref f36) = true)
    (a37 : PySem.W.nsIn K mainGlobals "are_sizes" = some (some (.ref f37))) (l37 : K.lookup f37 = some ⟨oc37, od37, .func (PySem.W.fnOf "are_sizes" "are_sizes" (defArgs s_are_sizes) (defBody s_are_sizes) (defScope s_are_sizes) .none kV37 dc37 pm37 an37 cd37 ct37), sl37⟩) (c37 : PySem.W.codeIn K cd37 "are_sizes" = true) (k37 : PySem.W.keepIn K (.ref f37) = true)
    (a38 : PySem.W.nsIn K mainGlobals "ways_with_sizes" = some (some (.ref f38))) (l38 : K.lookup f38 = some ⟨oc38, od38, .func (PySem.W.fnOf "ways_with_sizes" "ways_with_sizes" (defArgs s_ways_with_sizes) (defBody s_ways_with_sizes) (defScope s_ways_with_sizes) .none kV38 dc38 pm38 an38 cd38 ct38), sl38⟩) (c38 : PySem.W.codeIn K cd38 "ways_with_sizes" = true) (k38 : PySem.W.keepIn K (.ref f38) = true)
    (a39 : PySem.W.nsIn K mainGlobals "share_of_ways" = some (some (.ref f39))) (l39 : K.lookup f39 = some ⟨oc39, od39, .func (PySem.W.fnOf "share_of_ways" "share_of_ways" (defArgs s_share_of_ways) (defBody s_share_of_ways) (defScope s_share_of_ways) .none kV39 dc39 pm39 an39 cd39 ct39), sl39⟩) (c39 : PySem.W.codeIn K cd39 "share_of_ways" = true) (k39 : PySem.W.keepIn K (.ref f39) = true)
    (a40 : PySem.W.nsIn K mainGlobals "ways_behind_sizes" = some (some (.ref f40))) (l40 : K.lookup f40 = some ⟨oc40, od40, .func (PySem.W.fnOf "ways_behind_sizes" "ways_behind_sizes" (defArgs s_ways_behind_sizes) (defBody s_ways_behind_sizes) (defScope s_ways_behind_sizes) .none kV40 dc40 pm40 an40 cd40 ct40), sl40⟩) (c40 : PySem.W.codeIn K cd40 "ways_behind_sizes" = true) (k40 : PySem.W.keepIn K (.ref f40) = true)
    (a41 : PySem.W.nsIn K mainGlobals "index_of_table" = some (some (.ref f41))) (l41 : K.lookup f41 = some ⟨oc41, od41, .func (PySem.W.fnOf "index_of_table" "index_of_table" (defArgs s_index_of_table) (defBody s_index_of_table) (defScope s_index_of_table) .none kV41 dc41 pm41 an41 cd41 ct41), sl41⟩) (c41 : PySem.W.codeIn K cd41 "index_of_table" = true) (k41 : PySem.W.keepIn K (.ref f41) = true)
    (a42 : PySem.W.nsIn K mainGlobals "ways_to_go_on" = some (some (.ref f42))) (l42 : K.lookup f42 = some ⟨oc42, od42, .func (PySem.W.fnOf "ways_to_go_on" "ways_to_go_on" (defArgs s_ways_to_go_on) (defBody s_ways_to_go_on) (defScope s_ways_to_go_on) .none kV42 dc42 pm42 an42 cd42 ct42), sl42⟩) (c42 : PySem.W.codeIn K cd42 "ways_to_go_on" = true) (k42 : PySem.W.keepIn K (.ref f42) = true)
    (a43 : PySem.W.nsIn K mainGlobals "_law_pouch" = some (some (.ref f43))) (l43 : K.lookup f43 = some ⟨oc43, od43, .func (PySem.W.fnOf "_law_pouch" "_law_pouch" (defArgs s_law_pouch) (defBody s_law_pouch) (defScope s_law_pouch) .none kV43 dc43 pm43 an43 cd43 ct43), sl43⟩) (c43 : PySem.W.codeIn K cd43 "_law_pouch" = true) (k43 : PySem.W.keepIn K (.ref f43) = true)
    (a44 : PySem.W.nsIn K mainGlobals "_law_dip" = some (some (.ref f44))) (l44 : K.lookup f44 = some ⟨oc44, od44, .func (PySem.W.fnOf "_law_dip" "_law_dip" (defArgs s_law_dip) (defBody s_law_dip) (defScope s_law_dip) .none kV44 dc44 pm44 an44 cd44 ct44), sl44⟩) (c44 : PySem.W.codeIn K cd44 "_law_dip" = true) (k44 : PySem.W.keepIn K (.ref f44) = true)
    (a45 : PySem.W.nsIn K mainGlobals "_law_entries" = some (some (.ref f45))) (l45 : K.lookup f45 = some ⟨oc45, od45, .func (PySem.W.fnOf "_law_entries" "_law_entries" (defArgs s_law_entries) (defBody s_law_entries) (defScope s_law_entries) .none kV45 dc45 pm45 an45 cd45 ct45), sl45⟩) (c45 : PySem.W.codeIn K cd45 "_law_entries" = true) (k45 : PySem.W.keepIn K (.ref f45) = true)
    (a46 : PySem.W.nsIn K mainGlobals "_law_rings" = some (some (.ref f46))) (l46 : K.lookup f46 = some ⟨oc46, od46, .func (PySem.W.fnOf "_law_rings" "_law_rings" (defArgs s_law_rings) (defBody s_law_rings) (defScope s_law_rings) .none kV46 dc46 pm46 an46 cd46 ct46), sl46⟩) (c46 : PySem.W.codeIn K cd46 "_law_rings" = true) (k46 : PySem.W.keepIn K (.ref f46) = true)
    (a47 : PySem.W.nsIn K mainGlobals "_law_seat" = some (some (.ref f47))) (l47 : K.lookup f47 = some ⟨oc47, od47, .func (PySem.W.fnOf "_law_seat" "_law_seat" (defArgs s_law_seat) (defBody s_law_seat) (defScope s_law_seat) .none kV47 dc47 pm47 an47 cd47 ct47), sl47⟩) (c47 : PySem.W.codeIn K cd47 "_law_seat" = true) (k47 : PySem.W.keepIn K (.ref f47) = true)
    (a48 : PySem.W.nsIn K mainGlobals "_law_heavy" = some (some (.ref f48))) (l48 : K.lookup f48 = some ⟨oc48, od48, .func (PySem.W.fnOf "_law_heavy" "_law_heavy" (defArgs s_law_heavy) (defBody s_law_heavy) (defScope s_law_heavy) .none kV48 dc48 pm48 an48 cd48 ct48), sl48⟩) (c48 : PySem.W.codeIn K cd48 "_law_heavy" = true) (k48 : PySem.W.keepIn K (.ref f48) = true)
    (a49 : PySem.W.nsIn K mainGlobals "_law_rise" = some (some (.ref f49))) (l49 : K.lookup f49 = some ⟨oc49, od49, .func (PySem.W.fnOf "_law_rise" "_law_rise" (defArgs s_law_rise) (defBody s_law_rise) (defScope s_law_rise) .none kV49 dc49 pm49 an49 cd49 ct49), sl49⟩) (c49 : PySem.W.codeIn K cd49 "_law_rise" = true) (k49 : PySem.W.keepIn K (.ref f49) = true)
    (a50 : PySem.W.nsIn K mainGlobals "_law_inverse" = some (some (.ref f50))) (l50 : K.lookup f50 = some ⟨oc50, od50, .func (PySem.W.fnOf "_law_inverse" "_law_inverse" (defArgs s_law_inverse) (defBody s_law_inverse) (defScope s_law_inverse) .none kV50 dc50 pm50 an50 cd50 ct50), sl50⟩) (c50 : PySem.W.codeIn K cd50 "_law_inverse" = true) (k50 : PySem.W.keepIn K (.ref f50) = true)
    (a51 : PySem.W.nsIn K mainGlobals "_law_named_right" = some (some (.ref f51))) (l51 : K.lookup f51 = some ⟨oc51, od51, .func (PySem.W.fnOf "_law_named_right" "_law_named_right" (defArgs s_law_named_right) (defBody s_law_named_right) (defScope s_law_named_right) .none kV51 dc51 pm51 an51 cd51 ct51), sl51⟩) (c51 : PySem.W.codeIn K cd51 "_law_named_right" = true) (k51 : PySem.W.keepIn K (.ref f51) = true)
    (a52 : PySem.W.nsIn K mainGlobals "_law_turned_right" = some (some (.ref f52))) (l52 : K.lookup f52 = some ⟨oc52, od52, .func (PySem.W.fnOf "_law_turned_right" "_law_turned_right" (defArgs s_law_turned_right) (defBody s_law_turned_right) (defScope s_law_turned_right) .none kV52 dc52 pm52 an52 cd52 ct52), sl52⟩) (c52 : PySem.W.codeIn K cd52 "_law_turned_right" = true) (k52 : PySem.W.keepIn K (.ref f52) = true)
    (a53 : PySem.W.nsIn K mainGlobals "_law_lists_right" = some (some (.ref f53))) (l53 : K.lookup f53 = some ⟨oc53, od53, .func (PySem.W.fnOf "_law_lists_right" "_law_lists_right" (defArgs s_law_lists_right) (defBody s_law_lists_right) (defScope s_law_lists_right) .none kV53 dc53 pm53 an53 cd53 ct53), sl53⟩) (c53 : PySem.W.codeIn K cd53 "_law_lists_right" = true) (k53 : PySem.W.keepIn K (.ref f53) = true)
    (a54 : PySem.W.nsIn K mainGlobals "law" = some (some (.ref f54))) (l54 : K.lookup f54 = some ⟨oc54, od54, .func (PySem.W.fnOf "law" "law" (defArgs s_law) (defBody s_law) (defScope s_law) .none kV54 dc54 pm54 an54 cd54 ct54), sl54⟩) (c54 : PySem.W.codeIn K cd54 "law" = true) (k54 : PySem.W.keepIn K (.ref f54) = true)
    (z_abs : PySem.W.nsIn K mainGlobals "abs" = some none)
    (z_all : PySem.W.nsIn K mainGlobals "all" = some none)
    (z_divmod : PySem.W.nsIn K mainGlobals "divmod" = some none)
    (z_enumerate : PySem.W.nsIn K mainGlobals "enumerate" = some none)
    (z_int : PySem.W.nsIn K mainGlobals "int" = some none)
    (z_len : PySem.W.nsIn K mainGlobals "len" = some none)
    (z_list : PySem.W.nsIn K mainGlobals "list" = some none)
    (z_max : PySem.W.nsIn K mainGlobals "max" = some none)
    (z_min : PySem.W.nsIn K mainGlobals "min" = some none)
    (z_range : PySem.W.nsIn K mainGlobals "range" = some none)
    (z_sorted : PySem.W.nsIn K mainGlobals "sorted" = some none)
    (z_sum : PySem.W.nsIn K mainGlobals "sum" = some none)
    (z_tuple : PySem.W.nsIn K mainGlobals "tuple" = some none)
    (z_type : PySem.W.nsIn K mainGlobals "type" = some none)
    (y_MOST_GUESTS : PySem.W.nsIn K mainGlobals "MOST_GUESTS" = some (some (.int 20 t_MOST_GUESTS)))
    (y_MOST_WEIGHT : PySem.W.nsIn K mainGlobals "MOST_WEIGHT" = some (some (.int 1000000000000 t_MOST_WEIGHT)))
    (x_factorial : PySem.W.nsIn K mainGlobals "factorial" = some (some (.builtin "math.factorial")))
    (x_gcd : PySem.W.nsIn K mainGlobals "gcd" = some (some (.builtin "math.gcd")))
    (x_perm : PySem.W.nsIn K mainGlobals "perm" = some (some (.builtin "math.perm")))
    : ∃ fd : FuncData, (∀ (s : Shared) (v : Value), BindsTo s fd ⟨[v], []⟩ [("script", v)]) ∧ ∀ base : Heap, K.In base → base.Ns mainGlobals mg → FnOk l.prog w K mg base CX0 9 fa fd ["script"] (sp_law K) := by
  have e := hfa.symm.trans (PySem.W.mg_of X G a54)
  cases e
  have F1 := fun_mk (st := s_is_whole) l1 c1 k1
  have F2 := fun_mk (st := s_is_within) l2 c2 k2
  have F3 := fun_mk (st := s_is_order) l3 c3 k3
  have F4 := fun_mk (st := s_check_guests) l4 c4 k4
  have F5 := fun_mk (st := s_check_weight) l5 c5 k5
  have F6 := fun_mk (st := s_check_guest) l6 c6 k6
  have F7 := fun_mk (st := s_check_any_number) l7 c7 k7
  have F8 := fun_mk (st := s_check_index) l8 c8 k8
  have F9 := fun_mk (st := s_raised) l9 c9 k9
  have F10 := fun_mk (st := s_rising) l10 c10 k10
  have F11 := fun_mk (st := s_fraction) l11 c11 k11
  have F12 := fun_mk (st := s_is_seating) l12 c12 k12
  have F13 := fun_mk (st := s_tables_of) l13 c13 k13
  have F14 := fun_mk (st := s_seating_of) l14 c14 k14
  have F15 := fun_mk (st := s_table_from) l15 c15 k15
  have F16 := fun_mk (st := s_right_of) l16 c16 k16
  have F17 := fun_mk (st := s_steps_left) l17 c17 k17
  have F18 := fun_mk (st := s_are_together) l18 c18 k18
  have F19 := fun_mk (st := s_mirrored) l19 c19 k19
  have F20 := fun_mk (st := s_renamed) l20 c20 k20
  have F21 := fun_mk (st := s_record_list) l21 c21 k21
  have F22 := fun_mk (st := s_seating_of_records) l22 c22 k22
  have F23 := fun_mk (st := s_check_seating) l23 c23 k23
  have F24 := fun_mk (st := s_check_names) l24 c24 k24
  have F25 := fun_mk (st := s_are_tables) l25 c25 k25
  have F26 := fun_mk (st := s_is_table) l26 c26 k26
  have F27 := fun_mk (st := s_walk_left) l27 c27 k27
  have F28 := fun_mk (st := s_tables_among) l28 c28 k28
  have F29 := fun_mk (st := s_seating_with) l29 c29 k29
  have F30 := fun_mk (st := s_seating_share) l30 c30 k30
  have F31 := fun_mk (st := s_nth_seating) l31 c31 k31
  have F32 := fun_mk (st := s_seating_index) l32 c32 k32
  have F33 := fun_mk (st := s_count_sizes) l33 c33 k33
  have F34 := fun_mk (st := s_sizes_share) l34 c34 k34
  have F35 := fun_mk (st := s_index_with_sizes) l35 c35 k35
  have F36 := fun_mk (st := s_check_sizes) l36 c36 k36
  have F37 := fun_mk (st := s_are_sizes) l37 c37 k37
  have F38 := fun_mk (st := s_ways_with_sizes) l38 c38 k38
  have F39 := fun_mk (st := s_share_of_ways) l39 c39 k39
  have F40 := fun_mk (st := s_ways_behind_sizes) l40 c40 k40
  have F41 := fun_mk (st := s_index_of_table) l41 c41 k41
  have F42 := fun_mk (st := s_ways_to_go_on) l42 c42 k42
  have F43 := fun_mk (st := s_law_pouch) l43 c43 k43
  have F44 := fun_mk (st := s_law_dip) l44 c44 k44
  have F45 := fun_mk (st := s_law_entries) l45 c45 k45
  have F46 := fun_mk (st := s_law_rings) l46 c46 k46
  have F47 := fun_mk (st := s_law_seat) l47 c47 k47
  have F48 := fun_mk (st := s_law_heavy) l48 c48 k48
  have F49 := fun_mk (st := s_law_rise) l49 c49 k49
  have F50 := fun_mk (st := s_law_inverse) l50 c50 k50
  have F51 := fun_mk (st := s_law_named_right) l51 c51 k51
  have F52 := fun_mk (st := s_law_turned_right) l52 c52 k52
  have F53 := fun_mk (st := s_law_lists_right) l53 c53 k53
  have F54 := fun_mk (st := s_law) l54 c54 k54
  let T : Tx K mg :=
    { f_is_whole := f1, d_is_whole := _, F_is_whole := F1, g_is_whole := PySem.W.mg_of X G a1, b_is_whole := F1.binds (ps := ["thing"]) fun _ _ _ _ _ _ us hl => match us, hl with | [_], _ => rfl,
      f_is_within := f2, d_is_within := _, F_is_within := F2, g_is_within := PySem.W.mg_of X G a2, b_is_within := F2.binds (ps := ["thing", "least", "most"]) fun _ _ _ _ _ _ us hl => match us, hl with | [_, _, _], _ => rfl,
      f_is_order := f3, d_is_order := _, F_is_order := F3, g_is_order := PySem.W.mg_of X G a3, b_is_order := F3.binds (ps := ["thing"]) fun _ _ _ _ _ _ us hl => match us, hl with | [_], _ => rfl,
      f_check_guests := f4, d_check_guests := _, F_check_guests := F4, g_check_guests := PySem.W.mg_of X G a4, b_check_guests := F4.binds (ps := ["guests"]) fun _ _ _ _ _ _ us hl => match us, hl with | [_], _ => rfl,
      f_check_weight := f5, d_check_weight := _, F_check_weight := F5, g_check_weight := PySem.W.mg_of X G a5, b_check_weight := F5.binds (ps := ["weight"]) fun _ _ _ _ _ _ us hl => match us, hl with | [_], _ => rfl,
      f_check_guest := f6, d_check_guest := _, F_check_guest := F6, g_check_guest := PySem.W.mg_of X G a6, b_check_guest := F6.binds (ps := ["guest", "guests"]) fun _ _ _ _ _ _ us hl => match us, hl with | [_, _], _ => rfl,
      f_check_any_number := f7, d_check_any_number := _, F_check_any_number := F7, g_check_any_number := PySem.W.mg_of X G a7, b_check_any_number := F7.binds (ps := ["number"]) fun _ _ _ _ _ _ us hl => match us, hl with | [_], _ => rfl,
      f_check_index := f8, d_check_index := _, F_check_index := F8, g_check_index := PySem.W.mg_of X G a8, b_check_index := F8.binds (ps := ["index", "many"]) fun _ _ _ _ _ _ us hl => match us, hl with | [_, _], _ => rfl,
      f_raised := f9, d_raised := _, F_raised := F9, g_raised := PySem.W.mg_of X G a9, b_raised := F9.binds (ps := ["base", "times"]) fun _ _ _ _ _ _ us hl => match us, hl with | [_, _], _ => rfl,
      f_rising := f10, d_rising := _, F_rising := F10, g_rising := PySem.W.mg_of X G a10, b_rising := F10.binds (ps := ["weight", "guests"]) fun _ _ _ _ _ _ us hl => match us, hl with | [_, _], _ => rfl,
      f_fraction := f11, d_fraction := _, F_fraction := F11, g_fraction := PySem.W.mg_of X G a11, b_fraction := F11.binds (ps := ["top", "bottom"]) fun _ _ _ _ _ _ us hl => match us, hl with | [_, _], _ => rfl,
      f_is_seating := f12, d_is_seating := _, F_is_seating := F12, g_is_seating := PySem.W.mg_of X G a12, b_is_seating := F12.binds (ps := ["thing"]) fun _ _ _ _ _ _ us hl => match us, hl with | [_], _ => rfl,
      f_tables_of := f13, d_tables_of := _, F_tables_of := F13, g_tables_of := PySem.W.mg_of X G a13, b_tables_of := F13.binds (ps := ["seating"]) fun _ _ _ _ _ _ us hl => match us, hl with | [_], _ => rfl,
      f_seating_of := f14, d_seating_of := _, F_seating_of := F14, g_seating_of := PySem.W.mg_of X G a14, b_seating_of := F14.binds (ps := ["tables"]) fun _ _ _ _ _ _ us hl => match us, hl with | [_], _ => rfl,
      f_table_from := f15, d_table_from := _, F_table_from := F15, g_table_from := PySem.W.mg_of X G a15, b_table_from := F15.binds (ps := ["seating", "guest"]) fun _ _ _ _ _ _ us hl => match us, hl with | [_, _], _ => rfl,
      f_right_of := f16, d_right_of := _, F_right_of := F16, g_right_of := PySem.W.mg_of X G a16, b_right_of := F16.binds (ps := ["seating", "guest"]) fun _ _ _ _ _ _ us hl => match us, hl with | [_, _], _ => rfl,
      f_steps_left := f17, d_steps_left := _, F_steps_left := F17, g_steps_left := PySem.W.mg_of X G a17, b_steps_left := F17.binds (ps := ["seating", "guest", "number"]) fun _ _ _ _ _ _ us hl => match us, hl with | [_, _, _], _ => rfl,
      f_are_together := f18, d_are_together := _, F_are_together := F18, g_are_together := PySem.W.mg_of X G a18, b_are_together := F18.binds (ps := ["seating", "guest", "mate"]) fun _ _ _ _ _ _ us hl => match us, hl with | [_, _, _], _ => rfl,
      f_mirrored := f19, d_mirrored := _, F_mirrored := F19, g_mirrored := PySem.W.mg_of X G a19, b_mirrored := F19.binds (ps := ["seating"]) fun _ _ _ _ _ _ us hl => match us, hl with | [_], _ => rfl,
      f_renamed := f20, d_renamed := _, F_renamed := F20, g_renamed := PySem.W.mg_of X G a20, b_renamed := F20.binds (ps := ["seating", "names"]) fun _ _ _ _ _ _ us hl => match us, hl with | [_, _], _ => rfl,
      f_record_list := f21, d_record_list := _, F_record_list := F21, g_record_list := PySem.W.mg_of X G a21, b_record_list := F21.binds (ps := ["seating"]) fun _ _ _ _ _ _ us hl => match us, hl with | [_], _ => rfl,
      f_seating_of_records := f22, d_seating_of_records := _, F_seating_of_records := F22, g_seating_of_records := PySem.W.mg_of X G a22, b_seating_of_records := F22.binds (ps := ["names"]) fun _ _ _ _ _ _ us hl => match us, hl with | [_], _ => rfl,
      f_check_seating := f23, d_check_seating := _, F_check_seating := F23, g_check_seating := PySem.W.mg_of X G a23, b_check_seating := F23.binds (ps := ["seating"]) fun _ _ _ _ _ _ us hl => match us, hl with | [_], _ => rfl,
      f_check_names := f24, d_check_names := _, F_check_names := F24, g_check_names := PySem.W.mg_of X G a24, b_check_names := F24.binds (ps := ["names"]) fun _ _ _ _ _ _ us hl => match us, hl with | [_], _ => rfl,
      f_are_tables := f25, d_are_tables := _, F_are_tables := F25, g_are_tables := PySem.W.mg_of X G a25, b_are_tables := F25.binds (ps := ["thing"]) fun _ _ _ _ _ _ us hl => match us, hl with | [_], _ => rfl,
      f_is_table := f26, d_is_table := _, F_is_table := F26, g_is_table := PySem.W.mg_of X G a26, b_is_table := F26.binds (ps := ["thing"]) fun _ _ _ _ _ _ us hl => match us, hl with | [_], _ => rfl,
      f_walk_left := f27, d_walk_left := _, F_walk_left := F27, g_walk_left := PySem.W.mg_of X G a27, b_walk_left := F27.binds (ps := ["lefts", "guest"]) fun _ _ _ _ _ _ us hl => match us, hl with | [_, _], _ => rfl,
      f_tables_among := f28, d_tables_among := _, F_tables_among := F28, g_tables_among := PySem.W.mg_of X G a28, b_tables_among := F28.binds (ps := ["lefts", "guests"]) fun _ _ _ _ _ _ us hl => match us, hl with | [_, _], _ => rfl,
      f_seating_with := f29, d_seating_with := _, F_seating_with := F29, g_seating_with := PySem.W.mg_of X G a29, b_seating_with := F29.binds (ps := ["tables"]) fun _ _ _ _ _ _ us hl => match us, hl with | [_], _ => rfl,
      f_seating_share := f30, d_seating_share := _, F_seating_share := F30, g_seating_share := PySem.W.mg_of X G a30, b_seating_share := F30.binds (ps := ["seating", "weight"]) fun _ _ _ _ _ _ us hl => match us, hl with | [_, _], _ => rfl,
      f_nth_seating := f31, d_nth_seating := _, F_nth_seating := F31, g_nth_seating := PySem.W.mg_of X G a31, b_nth_seating := F31.binds (ps := ["guests", "index"]) fun _ _ _ _ _ _ us hl => match us, hl with | [_, _], _ => rfl,
      f_seating_index := f32, d_seating_index := _, F_seating_index := F32, g_seating_index := PySem.W.mg_of X G a32, b_seating_index := F32.binds (ps := ["seating"]) fun _ _ _ _ _ _ us hl => match us, hl with | [_], _ => rfl,
      f_count_sizes := f33, d_count_sizes := _, F_count_sizes := F33, g_count_sizes := PySem.W.mg_of X G a33, b_count_sizes := F33.binds (ps := ["sizes"]) fun _ _ _ _ _ _ us hl => match us, hl with | [_], _ => rfl,
      f_sizes_share := f34, d_sizes_share := _, F_sizes_share := F34, g_sizes_share := PySem.W.mg_of X G a34, b_sizes_share := F34.binds (ps := ["sizes", "weight"]) fun _ _ _ _ _ _ us hl => match us, hl with | [_, _], _ => rfl,
      f_index_with_sizes := f35, d_index_with_sizes := _, F_index_with_sizes := F35, g_index_with_sizes := PySem.W.mg_of X G a35, b_index_with_sizes := F35.binds (ps := ["seating"]) fun _ _ _ _ _ _ us hl => match us, hl with | [_], _ => rfl,
      f_check_sizes := f36, d_check_sizes := _, F_check_sizes := F36, g_check_sizes := PySem.W.mg_of X G a36, b_check_sizes := F36.binds (ps := ["sizes"]) fun _ _ _ _ _ _ us hl => match us, hl with | [_], _ => rfl,
      f_are_sizes := f37, d_are_sizes := _, F_are_sizes := F37, g_are_sizes := PySem.W.mg_of X G a37, b_are_sizes := F37.binds (ps := ["thing"]) fun _ _ _ _ _ _ us hl => match us, hl with | [_], _ => rfl,
      f_ways_with_sizes := f38, d_ways_with_sizes := _, F_ways_with_sizes := F38, g_ways_with_sizes := PySem.W.mg_of X G a38, b_ways_with_sizes := F38.binds (ps := ["sizes"]) fun _ _ _ _ _ _ us hl => match us, hl with | [_], _ => rfl,
      f_share_of_ways := f39, d_share_of_ways := _, F_share_of_ways := F39, g_share_of_ways := PySem.W.mg_of X G a39, b_share_of_ways := F39.binds (ps := ["ways", "sizes", "weight"]) fun _ _ _ _ _ _ us hl => match us, hl with | [_, _, _], _ => rfl,
      f_ways_behind_sizes := f40, d_ways_behind_sizes := _, F_ways_behind_sizes := F40, g_ways_behind_sizes := PySem.W.mg_of X G a40, b_ways_behind_sizes := F40.binds (ps := ["sizes"]) fun _ _ _ _ _ _ us hl => match us, hl with | [_], _ => rfl,
      f_index_of_table := f41, d_index_of_table := _, F_index_of_table := F41, g_index_of_table := PySem.W.mg_of X G a41, b_index_of_table := F41.binds (ps := ["free", "behind", "table"]) fun _ _ _ _ _ _ us hl => match us, hl with | [_, _, _], _ => rfl,
      f_ways_to_go_on := f42, d_ways_to_go_on := _, F_ways_to_go_on := F42, g_ways_to_go_on := PySem.W.mg_of X G a42, b_ways_to_go_on := F42.binds (ps := ["length", "many", "behind"]) fun _ _ _ _ _ _ us hl => match us, hl with | [_, _, _], _ => rfl,
      f_law_pouch := f43, d_law_pouch := _, F_law_pouch := F43, g_law_pouch := PySem.W.mg_of X G a43, b_law_pouch := F43.binds (ps := ["script", "at"]) fun _ _ _ _ _ _ us hl => match us, hl with | [_, _], _ => rfl,
      f_law_dip := f44, d_law_dip := _, F_law_dip := F44, g_law_dip := PySem.W.mg_of X G a44, b_law_dip := F44.binds (ps := ["pouch", "wide"]) fun _ _ _ _ _ _ us hl => match us, hl with | [_, _], _ => rfl,
      f_law_entries := f45, d_law_entries := _, F_law_entries := F45, g_law_entries := PySem.W.mg_of X G a45, b_law_entries := F45.binds (ps := ["pouch", "many"]) fun _ _ _ _ _ _ us hl => match us, hl with | [_, _], _ => rfl,
      f_law_rings := f46, d_law_rings := _, F_law_rings := F46, g_law_rings := PySem.W.mg_of X G a46, b_law_rings := F46.binds (ps := ["entries"]) fun _ _ _ _ _ _ us hl => match us, hl with | [_], _ => rfl,
      f_law_seat := f47, d_law_seat := _, F_law_seat := F47, g_law_seat := PySem.W.mg_of X G a47, b_law_seat := F47.binds (ps := ["rings"]) fun _ _ _ _ _ _ us hl => match us, hl with | [_], _ => rfl,
      f_law_heavy := f48, d_law_heavy := _, F_law_heavy := F48, g_law_heavy := PySem.W.mg_of X G a48, b_law_heavy := F48.binds (ps := ["pouch"]) fun _ _ _ _ _ _ us hl => match us, hl with | [_], _ => rfl,
      f_law_rise := f49, d_law_rise := _, F_law_rise := F49, g_law_rise := PySem.W.mg_of X G a49, b_law_rise := F49.binds (ps := ["heavy", "many"]) fun _ _ _ _ _ _ us hl => match us, hl with | [_, _], _ => rfl,
      f_law_inverse := f50, d_law_inverse := _, F_law_inverse := F50, g_law_inverse := PySem.W.mg_of X G a50, b_law_inverse := F50.binds (ps := ["row"]) fun _ _ _ _ _ _ us hl => match us, hl with | [_], _ => rfl,
      f_law_named_right := f51, d_law_named_right := _, F_law_named_right := F51, g_law_named_right := PySem.W.mg_of X G a51, b_law_named_right := F51.binds (ps := ["pouch", "hall", "fresh", "heavy"]) fun _ _ _ _ _ _ us hl => match us, hl with | [_, _, _, _], _ => rfl,
      f_law_turned_right := f52, d_law_turned_right := _, F_law_turned_right := F52, g_law_turned_right := PySem.W.mg_of X G a52, b_law_turned_right := F52.binds (ps := ["pouch", "hall", "heavy"]) fun _ _ _ _ _ _ us hl => match us, hl with | [_, _, _], _ => rfl,
      f_law_lists_right := f53, d_law_lists_right := _, F_law_lists_right := F53, g_law_lists_right := PySem.W.mg_of X G a53, b_law_lists_right := F53.binds (ps := ["hall", "heavy"]) fun _ _ _ _ _ _ us hl => match us, hl with | [_, _], _ => rfl,
      f_law := fa, d_law := _, F_law := F54, g_law := PySem.W.mg_of X G a54, b_law := F54.binds (ps := ["script"]) fun _ _ _ _ _ _ us hl => match us, hl with | [_], _ => rfl,
      m_abs := PySem.W.mg_none_of X G z_abs,
      m_all := PySem.W.mg_none_of X G z_all,
      m_divmod := PySem.W.mg_none_of X G z_divmod,
      m_enumerate := PySem.W.mg_none_of X G z_enumerate,
      m_int := PySem.W.mg_none_of X G z_int,
      m_len := PySem.W.mg_none_of X G z_len,
      m_list := PySem.W.mg_none_of X G z_list,
      m_max := PySem.W.mg_none_of X G z_max,
      m_min := PySem.W.mg_none_of X G z_min,
      m_range := PySem.W.mg_none_of X G z_range,
      m_sorted := PySem.W.mg_none_of X G z_sorted,
      m_sum := PySem.W.mg_none_of X G z_sum,
      m_tuple := PySem.W.mg_none_of X G z_tuple,
      m_type := PySem.W.mg_none_of X G z_type,
      c_MOST_GUESTS := ⟨_, PySem.W.mg_of X G y_MOST_GUESTS, ⟨_, rfl⟩⟩,
      c_MOST_WEIGHT := ⟨_, PySem.W.mg_of X G y_MOST_WEIGHT, ⟨_, rfl⟩⟩,
      i_factorial := PySem.W.mg_of X G x_factorial,
      i_gcd := PySem.W.mg_of X G x_gcd,
      i_perm := PySem.W.mg_of X G x_perm }
  exact ⟨PySem.W.fnOf "law" "law" (defArgs s_law) (defBody s_law) (defScope s_law) .none kV54 dc54 pm54 an54 cd54 ct54, fun s v => .of_eq rfl, fun base _ _ => ok_law T⟩
end K17
open PySem PySem.W PyProof.Rows
set_option maxRecDepth 100000 in
set_option maxHeartbeats 0 in
theorem PySem.Challenge.cw_newtables_k17_whole_renamed_and_turned_holds : PySem.Challenge.rw_newtables_k17_whole_renamed_and_turned.Holds := by
  w_on; o_law; k_head; (case hw => w_witness2)
  k_fill
  refine L2.walk_of (l := PySem.Challenge.rw_newtables_k17_whole_renamed_and_turned) (n := 63) (k := 9) (x := "script") (CX := fun _ => L2.CX0) (sp := fun w => K17.sp_law _) rfl (by decide) rfl ⟨rfl, by decide, by decide⟩ (fun w h Y => PySem.W.kIn_of Y) ?F (fun _ _ a ns hl _ hS => ⟨a, ns, rfl, hS, hl, fun _ => rfl⟩) (fun _ _ _ _ _ h => h)
  case F =>
    intro w mg fa h KX G hmg
    refine' K17.all_mk KX G hmg ?a1 ?l1 ?c1 ?k1 ?a2 ?l2 ?c2 ?k2 ?a3 ?l3 ?c3 ?k3 ?a4 ?l4 ?c4 ?k4 ?a5 ?l5 ?c5 ?k5 ?a6 ?l6 ?c6 ?k6 ?a7 ?l7 ?c7 ?k7 ?a8 ?l8 ?c8 ?k8 ?a9 ?l9 ?c9 ?k9 ?a10 ?l10 ?c10 ?k10 ?a11 ?l11 ?c11 ?k11 ?a12 ?l12 ?c12 ?k12 ?a13 ?l13 ?c13 ?k13 ?a14 ?l14 ?c14 ?k14 ?a15 ?l15 ?c15 ?k15 ?a16 ?l16 ?c16 ?k16 ?a17 ?l17 ?c17 ?k17 ?a18 ?l18 ?c18 ?k18 ?a19 ?l19 ?c19 ?k19 ?a20 ?l20 ?c20 ?k20 ?a21 ?l21 ?c21 ?k21 ?a22 ?l22 ?c22 ?k22 ?a23 ?l23 ?c23 ?k23 ?a24 ?l24 ?c24 ?k24 ?a25 ?l25 ?c25 ?k25 ?a26 ?l26 ?c26 ?k26 ?a27 ?l27 ?c27 ?k27 ?a28 ?l28 ?c28 ?k28 ?a29 ?l29 ?c29 ?k29 ?a30 ?l30 ?c30 ?k30 ?a31 ?l31 ?c31 ?k31 ?a32 ?l32 ?c32 ?k32 ?a33 ?l33 ?c33 ?k33 ?a34 ?l34 ?c34 ?k34 ?a35 ?l35 ?c35 ?k35 ?a36 ?l36 ?c36 ?k36 ?a37 ?l37 ?c37 ?k37 ?a38 ?l38 ?c38 ?k38 ?a39 ?l39 ?c39 ?k39 ?a40 ?l40 ?c40 ?k40 ?a41 ?l41 ?c41 ?k41 ?a42 ?l42 ?c42 ?k42 ?a43 ?l43 ?c43 ?k43 ?a44 ?l44 ?c44 ?k44 ?a45 ?l45 ?c45 ?k45 ?a46 ?l46 ?c46 ?k46 ?a47 ?l47 ?c47 ?k47 ?a48 ?l48 ?c48 ?k48 ?a49 ?l49 ?c49 ?k49 ?a50 ?l50 ?c50 ?k50 ?a51 ?l51 ?c51 ?k51 ?a52 ?l52 ?c52 ?k52 ?a53 ?l53 ?c53 ?k53 ?a54 ?l54 ?c54 ?k54 ?z_abs ?z_all ?z_divmod ?z_enumerate ?z_int ?z_len ?z_list ?z_max ?z_min ?z_range ?z_sorted ?z_sum ?z_tuple ?z_type ?y_MOST_GUESTS ?y_MOST_WEIGHT ?x_factorial ?x_gcd ?x_perm
    (case a1 => k_is); (case l1 => k_is); (case c1 => k_is); (case k1 => k_is); (case a2 => k_is); (case l2 => k_is)
    (case c2 => k_is); (case k2 => k_is); (case a3 => k_is); (case l3 => k_is); (case c3 => k_is); (case k3 => k_is)
    (case a4 => k_is); (case l4 => k_is); (case c4 => k_is); (case k4 => k_is); (case a5 => k_is); (case l5 => k_is)
    (case c5 => k_is); (case k5 => k_is); (case a6 => k_is); (case l6 => k_is); (case c6 => k_is); (case k6 => k_is)
    (case a7 => k_is); (case l7 => k_is); (case c7 => k_is); (case k7 => k_is); (case a8 => k_is); (case l8 => k_is)
    (case c8 => k_is); (case k8 => k_is); (case a9 => k_is); (case l9 => k_is); (case c9 => k_is); (case k9 => k_is)
    (case a10 => k_is); (case l10 => k_is); (case c10 => k_is); (case k10 => k_is); (case a11 => k_is); (case l11 => k_is)
    (case c11 => k_is); (case k11 => k_is); (case a12 => k_is); (case l12 => k_is); (case c12 => k_is); (case k12 => k_is)
    (case a13 => k_is); (case l13 => k_is); (case c13 => k_is); (case k13 => k_is); (case a14 => k_is); (case l14 => k_is)
    (case c14 => k_is); (case k14 => k_is); (case a15 => k_is); (case l15 => k_is); (case c15 => k_is); (case k15 => k_is)
    (case a16 => k_is); (case l16 => k_is); (case c16 => k_is); (case k16 => k_is); (case a17 => k_is); (case l17 => k_is)
    (case c17 => k_is); (case k17 => k_is); (case a18 => k_is); (case l18 => k_is); (case c18 => k_is); (case k18 => k_is)
    (case a19 => k_is); (case l19 => k_is); (case c19 => k_is); (case k19 => k_is); (case a20 => k_is); (case l20 => k_is)
    (case c20 => k_is); (case k20 => k_is); (case a21 => k_is); (case l21 => k_is); (case c21 => k_is); (case k21 => k_is)
    (case a22 => k_is); (case l22 => k_is); (case c22 => k_is); (case k22 => k_is); (case a23 => k_is); (case l23 => k_is)
    (case c23 => k_is); (case k23 => k_is); (case a24 => k_is); (case l24 => k_is); (case c24 => k_is); (case k24 => k_is)
    (case a25 => k_is); (case l25 => k_is); (case c25 => k_is); (case k25 => k_is); (case a26 => k_is); (case l26 => k_is)
    (case c26 => k_is); (case k26 => k_is); (case a27 => k_is); (case l27 => k_is); (case c27 => k_is); (case k27 => k_is)
    (case a28 => k_is); (case l28 => k_is); (case c28 => k_is); (case k28 => k_is); (case a29 => k_is); (case l29 => k_is)
    (case c29 => k_is); (case k29 => k_is); (case a30 => k_is); (case l30 => k_is); (case c30 => k_is); (case k30 => k_is)
    (case a31 => k_is); (case l31 => k_is); (case c31 => k_is); (case k31 => k_is); (case a32 => k_is); (case l32 => k_is)
    (case c32 => k_is); (case k32 => k_is); (case a33 => k_is); (case l33 => k_is); (case c33 => k_is); (case k33 => k_is)
    (case a34 => k_is); (case l34 => k_is); (case c34 => k_is); (case k34 => k_is); (case a35 => k_is); (case l35 => k_is)
    (case c35 => k_is); (case k35 => k_is); (case a36 => k_is); (case l36 => k_is); (case c36 => k_is); (case k36 => k_is)
    (case a37 => k_is); (case l37 => k_is); (case c37 => k_is); (case k37 => k_is); (case a38 => k_is); (case l38 => k_is)
    (case c38 => k_is); (case k38 => k_is); (case a39 => k_is); (case l39 => k_is); (case c39 => k_is); (case k39 => k_is)
    (case a40 => k_is); (case l40 => k_is); (case c40 => k_is); (case k40 => k_is); (case a41 => k_is); (case l41 => k_is)
    (case c41 => k_is); (case k41 => k_is); (case a42 => k_is); (case l42 => k_is); (case c42 => k_is); (case k42 => k_is)
    (case a43 => k_is); (case l43 => k_is); (case c43 => k_is); (case k43 => k_is); (case a44 => k_is); (case l44 => k_is)
    (case c44 => k_is); (case k44 => k_is); (case a45 => k_is); (case l45 => k_is); (case c45 => k_is); (case k45 => k_is)
    (case a46 => k_is); (case l46 => k_is); (case c46 => k_is); (case k46 => k_is); (case a47 => k_is); (case l47 => k_is)
    (case c47 => k_is); (case k47 => k_is); (case a48 => k_is); (case l48 => k_is); (case c48 => k_is); (case k48 => k_is)
    (case a49 => k_is); (case l49 => k_is); (case c49 => k_is); (case k49 => k_is); (case a50 => k_is); (case l50 => k_is)
    (case c50 => k_is); (case k50 => k_is); (case a51 => k_is); (case l51 => k_is); (case c51 => k_is); (case k51 => k_is)
    (case a52 => k_is); (case l52 => k_is); (case c52 => k_is); (case k52 => k_is); (case a53 => k_is); (case l53 => k_is)
    (case c53 => k_is); (case k53 => k_is); (case a54 => k_is); (case l54 => k_is); (case c54 => k_is); (case k54 => k_is)
    (case z_abs => k_is); (case z_all => k_is); (case z_divmod => k_is); (case z_enumerate => k_is); (case z_int => k_is); (case z_len => k_is)
    (case z_list => k_is); (case z_max => k_is); (case z_min => k_is); (case z_range => k_is); (case z_sorted => k_is); (case z_sum => k_is)
    (case z_tuple => k_is); (case z_type => k_is); (case y_MOST_GUESTS => k_is); (case y_MOST_WEIGHT => k_is); (case x_factorial => k_is); (case x_gcd => k_is)
    (case x_perm => k_is)