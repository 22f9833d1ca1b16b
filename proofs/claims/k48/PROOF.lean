import PyProof.Rows.All
import Wide.All
import OpenK.AllK
import Wide.FinOn
import PyProof.TypeEq
import HandS.ForMost
import HandS.Evl
import HandS.Wide
import HandS.WideBits
import HandS.Gcd
import HandS.Codes
import HandS.Conv
import HandS.IsInst
import HandS.More
import HandS.Walk
import HandS.Style
import PyProof.InstEq
import HandS.Sort
import KE.DataMinMax
import PyProof.ReprLen
import PyProof.Rows.RegStrFacts
import KE.KMathGC
import HandS.RevRange
import HandS.Deep
import KE.GoesEnum
import KE.GoesMore
import HandS.Iter
import HandS.WordsDict
import HandS.DictTup
import HandS.ListItems
import HandS.SortOrd
import HandS.SortRule
import KE.KItemsList
import HandS.Exc
import HandS.ExcOwn
import HandS.ExcCtx
import HandS.HotCalls
import HandS.ExcIs
import HandS.FStr
import HandS.RaiseMore
import HandS.Strs
import HandS.SetFor
import PySem.Challenge.RW_newtables_k48_periods
set_option Elab.async false
set_option linter.all false
set_option maxRecDepth 100000
set_option maxHeartbeats 4000000
namespace Kit
open PySem PySem.Spec PyProof.Rows L2 Evl
/-! rules that the layer lacks -/
section
variable {X : Cx} {a b c d : Expr} {ta tb tc td : TE} {pos : Pos}
def CPowX (i j : Int) : Prop := 0 ≤ j ∧ (Builtin.Int.intBits i : Int) * j ≤ 2 ^ 27
theorem op_powX : OpR X (binaryOp .Pow) (rI CPowX fun i j => .int (i ^ j.toNat)) := opI fun _ _ _ _ _ _ _ hc q => pow_int hc.1 hc.2 q
/-- the types that are compared by == -/
def Meta (n : String) : Prop := ∀ s : Shared, s.TypeIs (.type n) "type"
def rEqTy : R2 := fun x y H Q => ∃ m n, x = .ty m ∧ y = .ty n ∧ Meta m ∧ Meta n ∧ Q (.bl (decide (m = n))) H
theorem op_eqTy : OpR X (compareOp .Eq) rEqTy := by
  intro pins s σ H x y v u Q I rx ry h
  obtain ⟨m, n, rfl, rfl, hm, hn, q⟩ := h
  cases (show v = Value.type m from rx)
  cases (show u = Value.type n from ry)
  by_cases e : m = n
  · subst e
    exact PySem.TypeEq.eq_type_same hm ⟨.bl true, H, I, rfl, by simpa using q⟩
  · exact PySem.TypeEq.eq_type_other hm hn (by rw [beq_eq_false_iff_ne]; exact fun z => e (Value.type.inj z)) ⟨.bl false, H, I, rfl, by simpa [e] using q⟩
/-- a op b op c op d -/
def tChain3 (r r' r'' : R2) (ta tb tc td : TE) : TE := fun σ H Q => ta σ H fun x H1 => tb σ H1 fun y H2 => r x y H2 fun z H3 => ∃ k, z = .bl k ∧
  (if k = true then tc σ H3 fun w' H4 => r' y w' H4 fun z' H5 => ∃ k', z' = .bl k' ∧ (if k' = true then td σ H5 fun w'' H6 => r'' w' w'' H6 Q else Q (.bl false) H5) else Q (.bl false) H3)
theorem pe_chain3 {op op' op'' : CmpOp} {r r' r'' : R2} (ho : OpR X (compareOp op) r) (ho' : OpR X (compareOp op') r') (ho'' : OpR X (compareOp op'') r'') (ha : PE X a ta) (hb : PE X b tb) (hc : PE X c tc) (hd : PE X d td)
    (hm : lastMarks [op, op', op''] [b, c, d] = false := by with_unfolding_all rfl) : PE X (.Compare a [op, op', op''] [b, c, d] pos) (tChain3 r r' r'' ta tb tc td) := by
  refine ⟨fun pins s σ H Q I h => ?_⟩
  refine Compare_chain (thn (ha.run pins s σ H _ I h) fun v s1 ⟨x, H1, I1, r1, q1⟩ => chain_link (thn (hb.run pins s1 σ H1 _ I1 q1) fun u s2 ⟨y, H2, I2, r2, q2⟩ =>
    thn (ho pins s2 σ H2 x y v u _ I2 r1 r2 q2) fun d s3 ⟨z, H3, I3, r3, k, e, q3⟩ => ?_)) hm
  subst e
  cases r3
  refine wpAny_truthy_bool ?_
  cases k with
  | false => exact ite_ff ⟨.bl false, H3, I3, rfl, q3⟩
  | true =>
    refine ite_tt (chain_link (thn (hc.run pins s3 σ H3 _ I3 q3) fun w' s4 ⟨z', H4, I4, r4, q4⟩ => thn (ho' pins s4 σ H4 y z' u w' _ I4 r2 r4 q4) fun d' s5 ⟨z5, H5, I5, r5, k5, e5, q5⟩ => ?_))
    subst e5
    cases r5
    refine wpAny_truthy_bool ?_
    cases k5 with
    | false => exact ite_ff ⟨.bl false, H5, I5, rfl, q5⟩
    | true => exact ite_tt (chain_last (thn (hd.run pins s5 σ H5 _ I5 q5) fun w6 s6 ⟨z6, H6, I6, r6, q6⟩ => ho'' pins s6 σ H6 z' z6 w' w6 Q I6 r4 r6 q6))
theorem pt_chain3 {op op' op'' : CmpOp} {r r' r'' : R2} (ho : OpR X (compareOp op) r) (ho' : OpR X (compareOp op') r') (ho'' : OpR X (compareOp op'') r'') (ha : PE X a ta) (hb : PE X b tb) (hc : PE X c tc) (hd : PE X d td)
    (hm : lastMarks [op, op', op''] [b, c, d] = false := by with_unfolding_all rfl) : PT X (.Compare a [op, op', op''] [b, c, d] pos) (tTest (tChain3 r r' r'' ta tb tc td)) := by
  refine ⟨fun pins s σ H Q I h => ?_⟩
  refine isTrue_chain (thn (ha.run pins s σ H _ I h) fun v s1 ⟨x, H1, I1, r1, q1⟩ => test_link (thn (hb.run pins s1 σ H1 _ I1 q1) fun u s2 ⟨y, H2, I2, r2, q2⟩ =>
    thn (ho pins s2 σ H2 x y v u _ I2 r1 r2 q2) fun d s3 ⟨z, H3, I3, r3, k, e, q3⟩ => ?_)) hm
  subst e
  cases r3
  refine wpAny_truthy_bool ?_
  cases k with
  | false =>
    obtain ⟨k', e', q'⟩ := q3
    cases e'
    exact ite_ff ⟨H3, I3, q'⟩
  | true =>
    refine ite_tt (test_link (thn (hc.run pins s3 σ H3 _ I3 q3) fun w' s4 ⟨z', H4, I4, r4, q4⟩ => thn (ho' pins s4 σ H4 y z' u w' _ I4 r2 r4 q4) fun d' s5 ⟨z5, H5, I5, r5, k5, e5, q5⟩ => ?_))
    subst e5
    cases r5
    refine wpAny_truthy_bool ?_
    cases k5 with
    | false =>
      obtain ⟨k', e', q'⟩ := q5
      cases e'
      exact ite_ff ⟨H5, I5, q'⟩
    | true =>
      refine ite_tt (test_last (thn (hd.run pins s5 σ H5 _ I5 q5) fun w6 s6 ⟨z6, H6, I6, r6, q6⟩ => thn (ho'' pins s6 σ H6 z' z6 w' w6 _ I6 r4 r6 q6) fun d7 s7 ⟨z7, H7, I7, r7, k7, e7, q7⟩ => ?_))
      subst e7
      cases r7
      exact wpAny_truthy_bool ⟨H7, I7, q7⟩
end
/-! f(k = v, ..): keywords alone -/
section
variable {X : Cx} {CX : CXT} {k : Nat} {f C : Addr} {fd : FuncData} {ps ks : List Str} {sp : Sp} {E : XK} {x m : Str} {p pos apos kpos : Pos} {kws : List Keyword} {tk : TA}
variable {g : List Value → List Value → List Value} {gV : List V → List V → List V}
theorem pe_callK0 (F : FnOk X.prog X.w X.K X.mg X.base CX k f fd ps sp) (hr : Room k X.A) (hg : Gl X x) (hm : X.mg x = some (.ref f)) (hk : PySem.W.keepIn X.K (.ref f) = true) (hb : KBinds X.K fd ps ks g gV) (hx : Passes CX X E)
    (hkw : PK X kws tk) (hall : (backToKw pos (keywordEach kws X.env)).all (·.1.isSome) = true := by rfl) (hks : (backToKw pos (keywordEach kws X.env)).filterMap (·.1) = ks := by rfl)
    (hdb : (x == ("__debug__" : Str)) = false := by decide)
    (hpl : ((backTo pos (starEach [] X.env)).any (·.1) || (backToKw pos (keywordEach kws X.env)).any (·.1.isNone)) = false := by rfl) :
    PE X (.Call (.Name x p) [] kws pos) (tCallK sp gV E tNil tk) := by
  refine ⟨fun pins s σ H Q I h => ?_⟩
  refine wpAny_Call_Name_kw (ld_glob I hg hm ?_ hdb)
  refine PySem.W.callWith_KW0 (h₀ := X.base) I.ok.mod.kin hk hall ?_ hpl
  refine thn (hkw.run pos pins s σ H _ I h) fun ws s2 ⟨zs, H2, I2, rz, q2⟩ => ⟨I2.kIn, ?_⟩
  rw [hks]
  exact run_fnk F hr hb hx I2 (us := []) (vs := []) .nil rz q2
end
theorem pe_gc {X : Cx} {x : Str} {pos : Pos} {v : V} (hg : Gl X x) (h : ∃ u, X.mg x = some u ∧ RelV v u) (hd : (x == ("__debug__" : Str)) = false := by decide) : PE X (.Name x pos) (tC v) := by
  obtain ⟨u, hm, r⟩ := h
  exact pe_glob hg hm r hd
/-! built-ins by name, with readings that have names -/
section
variable {X : Cx}
def rAbs : List V → Hp → VK → Prop := fun xs H Q => ∃ i, xs = [.int i] ∧ Q (.int (if i < 0 then -i else i)) H
def rMin2 : List V → Hp → VK → Prop := fun xs H Q => ∃ i j, xs = [.int i, .int j] ∧ Q (.int (if j < i then j else i)) H
def rIntI : List V → Hp → VK → Prop := fun xs H Q => ∃ i, xs = [.int i] ∧ Q (.int i) H
def rIntB : List V → Hp → VK → Prop := fun xs H Q => ∃ b, xs = [.bl b] ∧ Q (.int (if b then 1 else 0)) H
theorem call_absR : CallR X (.builtin "abs") rAbs := call_abs
theorem call_maxR (hc : X.calm = true) : CallR X (.builtin "max") rMax2 := call_max2 hc
theorem call_minR (hc : X.calm = true) : CallR X (.builtin "min") rMin2 := call_min2 hc
theorem call_intI : CallR X (.type "int") rIntI := by
  intro pins s σ H xs us Q I r h
  obtain ⟨i, e, q⟩ := h
  exact call_int1 pins s σ H xs us Q I r (.inl ⟨i, e, q⟩)
theorem call_intB : CallR X (.type "int") rIntB := by
  intro pins s σ H xs us Q I r h
  obtain ⟨i, e, q⟩ := h
  exact call_int1 pins s σ H xs us Q I r (.inr ⟨i, e, q⟩)
theorem call_lenR : CallR X (.builtin "len") (rLenS X.K) := call_len_seq
theorem call_listR : CallR X (.type "list") (rListS X.K) := call_list_of
def rTupS (K : PySem.W.Frag) : List V → Hp → VK → Prop := fun xs H Q => ∃ p ys, xs = [.ref p] ∧ SqL K H p ys ∧ ∀ l, H l = none → Q (.ref l) (upd H l (.tup ys))
theorem call_tupR : CallR X (.type "tuple") (rTupS X.K) := by
  intro pins s σ H xs us Q I r h
  obtain ⟨p, ys, e, hs, q⟩ := h
  exact call_tuple_of pins s σ H xs us Q I r ⟨p, ys, e, .inl ⟨hs, q⟩⟩
def rIsN1 : R2 := fun x y H Q => y = .non ∧ Q (.bl (decide (x = .non))) H
def rNotN1 : R2 := fun x y H Q => y = .non ∧ Q (.bl (!decide (x = .non))) H
theorem op_isNR : OpR X (compareOp .Is) rIsN1 := op_isN
theorem op_notNR : OpR X (compareOp .IsNot) rNotN1 := op_notN
end
/-! evaluations of these -/
section
variable {K : PySem.W.Frag} {σ : L2.St} {H H' : Hp} {ta tb tc td te : TE} {x y z v : V} {r : R2} {i j : Int}
theorem ev_abs (h : Ev ta σ H (.int i)) : Ev (tCB rAbs (tCons ta tNil)) σ H (.int (if i < 0 then -i else i)) := fun H1 e Q q => h H1 e _ fun H2 e2 => ⟨i, rfl, q H2 e2⟩
theorem ev_min2 (ha : Ev ta σ H (.int i)) (hb : Ev tb σ H (.int j)) : Ev (tCB rMin2 (tCons ta (tCons tb tNil))) σ H (.int (if j < i then j else i)) := fun H1 e Q q =>
  ha H1 e _ fun H2 e2 => hb H2 (e.trans e2) _ fun H3 e3 => ⟨i, j, rfl, q H3 (e2.trans e3)⟩
theorem ev_intI (h : Ev ta σ H (.int i)) : Ev (tCB rIntI (tCons ta tNil)) σ H (.int i) := fun H1 e Q q => h H1 e _ fun H2 e2 => ⟨i, rfl, q H2 e2⟩
theorem ev_intB {b : Bool} (h : Ev ta σ H (.bl b)) : Ev (tCB rIntB (tCons ta tNil)) σ H (.int (if b then 1 else 0)) := fun H1 e Q q => h H1 e _ fun H2 e2 => ⟨b, rfl, q H2 e2⟩
theorem rv_isN : RV rIsN1 x .non H (.bl (decide (x = .non))) := fun H1 _ _ q => ⟨rfl, q H1 (Ex.refl H1)⟩
theorem rv_notN : RV rNotN1 x .non H (.bl (!decide (x = .non))) := fun H1 _ _ q => ⟨rfl, q H1 (Ex.refl H1)⟩
theorem ev_chain {r r' : R2} {k : Bool} {k' : Bool} (ha : Ev ta σ H x) (hb : Ev tb σ H y) (hr : RV r x y H (.bl k)) (hc : k = true → ∃ z, Ev tc σ H z ∧ RV r' y z H (.bl k')) : Ev (tChain r r' ta tb tc) σ H (.bl (k && k')) := fun H1 e Q q =>
  ha H1 e _ fun H2 e2 => hb H2 (e.trans e2) _ fun H3 e3 => hr H3 ((e.trans e2).trans e3) _ fun H4 e4 => ⟨k, rfl, by
    cases k with
    | true =>
      obtain ⟨z, h1, h2⟩ := hc rfl
      exact h1 H4 (((e.trans e2).trans e3).trans e4) _ fun H5 e5 => h2 H5 ((((e.trans e2).trans e3).trans e4).trans e5) _ fun H6 e6 => q H6 ((((e2.trans e3).trans e4).trans e5).trans e6)
    | false => exact q H4 ((e2.trans e3).trans e4)⟩
theorem ev_chainI {C C' : Int → Int → Bool} {i j l : Int} (ha : Ev ta σ H (.int i)) (hb : Ev tb σ H (.int j)) (hc : Ev tc σ H (.int l)) :
    Ev (tChain (rI0 fun i j => .bl (C i j)) (rI0 fun i j => .bl (C' i j)) ta tb tc) σ H (.bl (C i j && C' j l)) := ev_chain ha hb rv_I0 fun _ => ⟨_, hc, rv_I0⟩
theorem ev_chain3I {C C' C'' : Int → Int → Bool} {i j l m : Int} (ha : Ev ta σ H (.int i)) (hb : Ev tb σ H (.int j)) (hc : Ev tc σ H (.int l)) (hd : Ev td σ H (.int m)) :
    Ev (tChain3 (rI0 fun i j => .bl (C i j)) (rI0 fun i j => .bl (C' i j)) (rI0 fun i j => .bl (C'' i j)) ta tb tc td) σ H (.bl (C i j && (C' j l && C'' l m))) := fun H1 e Q q =>
  ha H1 e _ fun H2 e2 => hb H2 (e.trans e2) _ fun H3 e3 => ⟨i, j, rfl, rfl, C i j, rfl, by
    have e23 := e2.trans e3
    generalize C i j = k1 at q ⊢
    cases k1 with
    | false => exact q H3 e23
    | true =>
      refine hc H3 (e.trans e23) _ fun H4 e4 => ⟨j, l, rfl, rfl, C' j l, rfl, ?_⟩
      generalize C' j l = k2 at q ⊢
      cases k2 with
      | false => exact q H4 (e23.trans e4)
      | true => exact hd H4 ((e.trans e23).trans e4) _ fun H5 e5 => ⟨l, m, rfl, rfl, q H5 ((e23.trans e4).trans e5)⟩⟩
theorem rv_eqTy {m n : String} (hm : Meta m) (hn : Meta n) : RV rEqTy (.ty m) (.ty n) H (.bl (decide (m = n))) := fun H1 _ _ q => ⟨m, n, rfl, rfl, hm, hn, q H1 (Ex.refl H1)⟩
theorem ev_typeI (h : Ev ta σ H (.int i)) : Ev (tThenZ ta kTyp) σ H (.ty "int") := fun H1 e Q q => h H1 e _ fun H2 e2 => ⟨"int", rfl, q H2 e2⟩
/-- a tuple that was made is read as two names -/
theorem s_tup2 {D : Ends} {i j : Nat} {p : Addr} (ha : Ev ta σ H (.ref p)) (hp : SqT K H p [x, y]) (k : ∀ H1, Ex H H1 → D.nx ((σ.set i (some x)).set j (some y)) H1) : tAsg ta (gTup K 2 (gCons (gName i) (gCons (gName j) gNil))) D σ H :=
  ha H (Ex.refl H) _ fun H1 e => ⟨p, [x, y], rfl, ex_t e hp, rfl, x, [y], rfl, y, [], rfl, rfl, k H1 e⟩
end
/-- a new tuple that is handed back -/
def RetU (xs : List V) (H : Hp) (Q : VK) : Prop := ∀ p H2, H p = none → Ex H H2 → H2 p = some (.tup xs) → Q (.ref p) H2
def SpU (sp : Sp) (vs : List V) (H : Hp) (xs : List V) : Prop := ∀ H1, Ex H H1 → ∀ Q : VK, (∀ p H2, H1 p = none → Ex H1 H2 → H2 p = some (.tup xs) → Q (.ref p) H2) → ∀ E : XK, sp vs H1 Q E
section
variable {K : PySem.W.Frag} {σ : L2.St} {H : Hp}
theorem eu_call {sp : Sp} {dvs vs xs : List V} {E : XK} {ta : TA} (h : EvA ta σ H vs) (hs : SpU sp (vs ++ dvs) H xs) : EvU (tCall sp dvs E ta) σ H xs := fun H1 e Q q =>
  h H1 e _ fun H2 e2 => hs H2 (e.trans e2) Q (fun p H3 hp e3 h3 => q p H3 (fresh_back e2 hp) (e2.trans e3) h3) E
/-- a, b = f(..), f's answer a new tuple -/
theorem s_tup2U {te : TE} {D : Ends} {i j : Nat} {x y : V} (ha : EvU te σ H [x, y]) (k : ∀ H1, Ex H H1 → D.nx ((σ.set i (some x)).set j (some y)) H1) : tAsg te (gTup K 2 (gCons (gName i) (gCons (gName j) gNil))) D σ H :=
  ha H (Ex.refl H) _ fun p H1 _ e h1 => ⟨p, [x, y], rfl, st_of h1, rfl, x, [y], rfl, y, [], rfl, rfl, k H1 e⟩
theorem q_tup2U {te : TE} {tz : TS} {D : Ends} {i j : Nat} {x y : V} (ha : EvU te σ H [x, y]) (k : ∀ H1, Ex H H1 → tz D ((σ.set i (some x)).set j (some y)) H1) : tSeq (tAsg te (gTup K 2 (gCons (gName i) (gCons (gName j) gNil)))) tz D σ H := s_tup2U (D := { D with nx := tz D }) ha k
theorem q_tup2 {ta : TE} {tz : TS} {D : Ends} {i j : Nat} {p : Addr} {x y : V} (ha : Ev ta σ H (.ref p)) (hp : SqT K H p [x, y]) (k : ∀ H1, Ex H H1 → tz D ((σ.set i (some x)).set j (some y)) H1) : tSeq (tAsg ta (gTup K 2 (gCons (gName i) (gCons (gName j) gNil)))) tz D σ H := s_tup2 (D := { D with nx := tz D }) ha hp k
/-- a, b = x, y -/
theorem s_par {ta : TA} {D : Ends} {i j : Nat} {x y : V} (ha : EvA ta σ H [x, y]) (k : ∀ H1, Ex H H1 → D.nx ((σ.set i (some x)).set j (some y)) H1) : tPar i j ta D σ H := ha H (Ex.refl H) _ fun H1 e => ⟨x, y, rfl, k H1 e⟩
theorem q_par {ta : TA} {tz : TS} {D : Ends} {i j : Nat} {x y : V} (ha : EvA ta σ H [x, y]) (k : ∀ H1, Ex H H1 → tz D ((σ.set i (some x)).set j (some y)) H1) : tSeq (tPar i j ta) tz D σ H := s_par (D := { D with nx := tz D }) ha k
end
theorem natAbs_pow_le {b : Int} {k : Nat} (h : b.natAbs < 2 ^ k) (n : Nat) : (b ^ n).natAbs ≤ 2 ^ (k * n) := by
  rw [Int.natAbs_pow, Nat.pow_mul]
  exact Nat.pow_le_pow_left (Nat.le_of_lt h) n
theorem lt_of_le2 {x k : Nat} (h : x ≤ 2 ^ k) : x < 2 ^ (k + 1) := Nat.lt_of_le_of_lt h (Nat.pow_lt_pow_right (by decide) (Nat.lt_succ_self k))
theorem lt2_mono {x k m : Nat} (h : x < 2 ^ k) (e : k ≤ m) : x < 2 ^ m := Nat.lt_of_lt_of_le h (Nat.pow_le_pow_right (by decide) e)
theorem natAbs_mul_lt {a b : Int} {k m : Nat} (ha : a.natAbs < 2 ^ k) (hb : b.natAbs < 2 ^ m) : (a * b).natAbs < 2 ^ (k + m) := wide_lt ha hb
/-! comprehensions -/
section
variable {K : PySem.W.Frag} {σ : L2.St} {H : Hp} {te tl : TE} {t : TT}
theorem et_yes : EvT tYes σ H true := fun H1 _ _ q => q H1 (Ex.refl H1)
theorem given_map {xs : List V} {F : V → V} : given xs.length (fun _ => true) (fun i => F (xs.getD i .non)) = xs.map F := by
  unfold given
  rw [List.filter_eq_self.mpr (fun _ _ => rfl)]
  refine List.ext_getElem (by simp) fun i h1 h2 => ?_
  simp at h1
  simp [h1]
/-- [e for x in xs] -/
theorem el_map {a : Addr} {xs : List V} {j : Nat} {vs : List Nat} (F : V → V) (h : Ev tl σ H (.ref a)) (hx : SqL K H a xs) (hz : xs.length ≤ 40000) (hw : ∀ x, wipe ((wipe σ vs).set j (some x)) vs = wipe σ vs)
    (he : ∀ (i : Nat) (x : V) H1, Ex H H1 → xs[i]? = some x → Ev te ((wipe σ vs).set j (some x)) H1 (F x)) : EvL (tLc (iList K tl) (gName j) tYes te vs) σ H (xs.map F) := by
  rw [← given_map]
  refine el_lcL _ _ h hx hz hw (fun _ _ _ _ _ => et_yes) fun i x H1 e hi _ => ?_
  have q := he i x H1 e hi
  have g : xs.getD i .non = x := by rw [List.getD_eq_getElem?_getD, hi] <;> rfl
  show Ev _ _ _ (F (xs.getD i .non))
  rw [g]
  exact q
theorem el_mapN {xs : List V} {j : Nat} {vs : List Nat} (F : V → V) (h : EvL tl σ H xs) (hz : xs.length ≤ 40000) (hw : ∀ x, wipe ((wipe σ vs).set j (some x)) vs = wipe σ vs)
    (he : ∀ (i : Nat) (x : V) H1, Ex H H1 → xs[i]? = some x → Ev te ((wipe σ vs).set j (some x)) H1 (F x)) : EvL (tLc (iList K tl) (gName j) tYes te vs) σ H (xs.map F) := by
  rw [← given_map]
  refine el_lcNL _ _ h hz hw (fun _ _ _ _ _ => et_yes) fun i x H1 e hi _ => ?_
  have q := he i x H1 e hi
  have g : xs.getD i .non = x := by rw [List.getD_eq_getElem?_getD, hi] <;> rfl
  show Ev _ _ _ (F (xs.getD i .non))
  rw [g]
  exact q
/-- [e for x in range(lo, hi) if t] -/
theorem el_lcR2 {ta : TA} {j : Nat} {vs : List Nat} {lo n : Int} (f : Nat → Bool) (v : Nat → V) (h : EvA ta σ H [.int lo, .int n]) (hn : 0 ≤ lo ∧ lo ≤ 40000 ∧ -40000 ≤ n ∧ n ≤ 40000) (hw : ∀ x, wipe ((wipe σ vs).set j (some x)) vs = wipe σ vs)
    (ht : ∀ (i : Nat) H1, Ex H H1 → lo + (i : Int) < n → EvT t ((wipe σ vs).set j (some (.int (lo + (i : Int))))) H1 (f i)) (he : ∀ (i : Nat) H1, Ex H H1 → lo + (i : Int) < n → f i = true → Ev te ((wipe σ vs).set j (some (.int (lo + (i : Int))))) H1 (v i)) :
    EvL (tLc (iRng2 ta) (gName j) t te vs) σ H (given (n - lo).toNat f v) := fun H0 e Q q => h H0 e _ fun H1 e1 => ⟨lo, n, rfl, ⟨by omega, by omega, by omega, by omega⟩, fun Dl hD =>
  lc_range (lo := lo) (n := (n - lo).toNat) (Cw H1 f v Dl) ⟨hD, Ex.new hD, upd_same⟩ (fun i H' hi p =>
    ⟨hw _, cw_turn p (by omega) (ht i H1 (e.trans e1) (by omega)) (fun hf => he i H1 (e.trans e1) (by omega) hf)⟩) (fun H' p => q Dl H' (fresh_back e1 p.1) (e1.trans p.2.1) p.2.2)⟩
theorem given_none {n : Nat} {f : Nat → Bool} {v : Nat → V} (h : ∀ i, i < n → f i = false) : given n f v = [] := by
  unfold given
  rw [List.filter_eq_nil_iff.mpr (fun i hi => by simp [h i (List.mem_range.mp hi)])]
  rfl
/-- xs + ys, both new -/
theorem el_cat {ta tb : TE} {xs ys : List V} (ha : EvL ta σ H xs) (hb : EvL tb σ H ys) (hl : xs.length + ys.length ≤ 100000) : EvL (tOp rCat ta tb) σ H (xs ++ ys) := fun H1 e Q q =>
  ha H1 e _ fun p H2 hp e2 h2 => hb H2 (e.trans e2) _ fun p' H3 hp' e3 h3 =>
    ⟨p, p', xs, ys, rfl, rfl, e3 p _ h2, h3, sz_of hl, fun l hl' => q l _ (fresh_back (e2.trans e3) hl') ((e2.trans e3).trans (Ex.new hl')) upd_same⟩
/-- [e for x, y in zip(xs, ys)] -/
theorem el_zip {ta : TA} {i j : Nat} {vs : List Nat} {a b : Addr} {xs ys : List V} (F : V → V → V) (h : EvA ta σ H [.ref a, .ref b]) (hx : SqL K H a xs) (hy : SqL K H b ys) (hl : xs.length = ys.length) (hz : xs.length ≤ 40000)
    (hw : ∀ x y, wipe (((wipe σ vs).set i (some x)).set j (some y)) vs = wipe σ vs)
    (he : ∀ (n : Nat) x y H1, Ex H H1 → xs[n]? = some x → ys[n]? = some y → Ev te (((wipe σ vs).set i (some x)).set j (some y)) H1 (F x y)) :
    EvL (tLc (iZip K ta) (gTup K 2 (gCons (gName i) (gCons (gName j) gNil))) tYes te vs) σ H (List.zipWith F xs ys) := fun H0 e Q q => h H0 e _ fun H1 e1 => ⟨a, b, xs, ys, rfl, ex_l (e.trans e1) hx, ex_l (e.trans e1) hy, fun Dl hD => by
  refine lc_it (walk_zip (n := xs.length) (by omega)) (fun n H' => Ex H1 H' ∧ H' Dl = some (.lst ((List.zipWith F xs ys).take n))) ⟨Ex.new hD, upd_same⟩ (fun n H' _ p => ⟨ex_l ((e.trans e1).trans p.1) hx, ex_l ((e.trans e1).trans p.1) hy⟩) ?_ fun H' p => ?_
  · rintro n v Hh H' hn ⟨p1, p2⟩ ⟨T, x, y, rfl, nT, rfl, g1, g2⟩
    have eT : Ex Hh (upd Hh T (.tup [x, y])) := Ex.new nT
    refine ⟨T, [x, y], rfl, st_of upd_same, rfl, x, [y], rfl, y, [], rfl, rfl, hw x y, ?_⟩
    show te _ _ _
    refine he n x y H1 (e.trans e1) g1 g2 _ (p1.trans eT) _ fun H4 e4 => ?_
    have k2 := e4 Dl _ (eT Dl _ p2)
    refine ⟨_, k2, sz_lt (by rw [List.length_take]; omega), Ex.mut (p1.trans (eT.trans e4)) hD, ?_⟩
    rw [upd_same]
    have gz : (List.zipWith F xs ys)[n]? = some (F x y) := by
      rw [List.getElem?_zipWith, show xs[n]? = some x from g1, show ys[n]? = some y from g2]
    rw [List.take_add_one, gz]
    rfl
  · obtain ⟨p1, p2⟩ := p
    rw [List.take_of_length_le (by rw [List.length_zipWith]; omega)] at p2
    exact q Dl H' (fresh_back e1 hD) (e1.trans p1) p2⟩
theorem ev_gcd {ta tb : TE} {a b : Int} (ha : Ev ta σ H (.int a)) (hb : Ev tb σ H (.int b)) : Ev (tCB rGcd (tCons ta (tCons tb tNil))) σ H (.int ((Nat.gcd a.natAbs b.natAbs : Nat) : Int)) := fun H1 e Q q =>
  ha H1 e _ fun H2 e2 => hb H2 (e.trans e2) _ fun H3 e3 => ⟨a, b, rfl, q H3 (e2.trans e3)⟩
end
/-! data, compared by == -/
section
variable {K : PySem.W.Frag} {σ : L2.St} {H H' : Hp}
mutual
theorem Dp.ex (e : Ex H H') : ∀ (d : PyData) (v : V), Dp K H v d → Dp K H' v d
  | .none, _, h => by cases h; exact .non
  | .bool _, _, h => by cases h; exact .bl _
  | .int _, _, h => by cases h; exact .int _
  | .str _, _, h => by cases h; exact .str _
  | .list ds, _, h => by
    cases h with
    | lst hs ha => exact .lst (ex_l e hs) (DpAll.ex e ds _ ha)
  | .tuple ds, _, h => by
    cases h with
    | tup hs ha => exact .tup (ex_t e hs) (DpAll.ex e ds _ ha)
  | .dict _, _, h => by cases h
theorem DpAll.ex (e : Ex H H') : ∀ (ds : List PyData) (vs : List V), DpAll K H vs ds → DpAll K H' vs ds
  | [], _, h => by cases h; exact .nil
  | d :: ds, _, h => by
    cases h with
    | cons h1 h2 => exact .cons (Dp.ex e d _ h1) (DpAll.ex e ds _ h2)
end
theorem DpAll.len : ∀ {ds : List PyData} {vs : List V}, DpAll K H vs ds → vs.length = ds.length
  | [], _, h => by cases h; rfl
  | d :: ds, _, h => by
    cases h with
    | cons h1 h2 => simp [DpAll.len h2]
def EvD (K : PySem.W.Frag) (te : TE) (σ : L2.St) (H : Hp) (d : PyData) : Prop := ∀ H1, Ex H H1 → ∀ Q : VK, (∀ v H2, Ex H1 H2 → Dp K H2 v d → Q v H2) → te σ H1 Q
def EvDA (K : PySem.W.Frag) (ta : TA) (σ : L2.St) (H : Hp) (ds : List PyData) : Prop := ∀ H1, Ex H H1 → ∀ Q : List V → Hp → Prop, (∀ vs H2, Ex H1 H2 → DpAll K H2 vs ds → Q vs H2) → ta σ H1 Q
variable {te ta tb : TE} {d e : PyData} {ds : List PyData}
theorem ed_of {v : V} (h : Ev te σ H v) (k : Dp K H v d) : EvD K te σ H d := fun H1 e1 Q q => h H1 e1 Q fun H2 e2 => q v H2 e2 (Dp.ex (e1.trans e2) d v k)
theorem ed_int {i : Int} (h : Ev te σ H (.int i)) : EvD K te σ H (.int i) := ed_of h (.int i)
theorem ed_bl {i : Bool} (h : Ev te σ H (.bl i)) : EvD K te σ H (.bool i) := ed_of h (.bl i)
theorem ed_non (h : Ev te σ H .non) : EvD K te σ H .none := ed_of h .non
theorem ed_str {i : Str} (h : Ev te σ H (.str i)) : EvD K te σ H (.str i) := ed_of h (.str i)
theorem eda_nil : EvDA K tNil σ H [] := fun H1 _ _ q => q [] H1 (Ex.refl H1) .nil
theorem eda_cons {tr : TA} (h : EvD K te σ H d) (hr : EvDA K tr σ H ds) : EvDA K (tCons te tr) σ H (d :: ds) := fun H1 e _ q =>
  h H1 e _ fun v H2 e2 dv => hr H2 (e.trans e2) _ fun vs H3 e3 dvs => q (v :: vs) H3 (e2.trans e3) (.cons (Dp.ex e3 d v dv) dvs)
theorem ed_lst {t : TA} (h : EvDA K t σ H ds) (hl : ds.length ≤ 100000) : EvD K (tLst t) σ H (.list ds) := fun H1 e _ q =>
  h H1 e _ fun vs H2 e2 dv => ⟨sz_of (by rw [DpAll.len dv]; exact hl), fun p hp => q _ _ (e2.trans (Ex.new hp)) (.lst (sq_of upd_same) (DpAll.ex (Ex.new hp) ds vs dv))⟩
theorem ed_tup {t : TA} (h : EvDA K t σ H ds) (hl : ds.length ≤ 100000) : EvD K (tTup t) σ H (.tuple ds) := fun H1 e _ q =>
  h H1 e _ fun vs H2 e2 dv => ⟨sz_of (by rw [DpAll.len dv]; exact hl), fun p hp => q _ _ (e2.trans (Ex.new hp)) (.tup (st_of upd_same) (DpAll.ex (Ex.new hp) ds vs dv))⟩
theorem ed_ofL {xs : List V} (h : EvL te σ H xs) (k : DpAll K H xs ds) : EvD K te σ H (.list ds) := fun H1 e1 Q q => h H1 e1 Q fun p H2 _ e2 h2 => q _ H2 e2 (.lst (sq_of h2) (DpAll.ex (e1.trans e2) ds xs k))
theorem ed_ofU {xs : List V} (h : EvU te σ H xs) (k : DpAll K H xs ds) : EvD K te σ H (.tuple ds) := fun H1 e1 Q q => h H1 e1 Q fun p H2 _ e2 h2 => q _ H2 e2 (.tup (st_of h2) (DpAll.ex (e1.trans e2) ds xs k))
theorem dpa_ints : ∀ ns : List Int, DpAll K H (ns.map V.int) (ns.map PyData.int)
  | [] => .nil
  | n :: r => .cons (.int n) (dpa_ints r)
theorem ev_eqD (ha : EvD K ta σ H d) (hb : EvD K tb σ H e) (sd : SeqAt.shaped d = true) (se : SeqAt.shaped e = true) : Ev (tOp (rEqD K) ta tb) σ H (.bl (PyData.eqv d e)) := fun H1 e1 Q q =>
  ha H1 e1 _ fun v H2 e2 dv => hb H2 (e1.trans e2) _ fun u H3 e3 du => ⟨d, e, Dp.ex e3 d v dv, du, sd, se, q H3 (e2.trans e3)⟩
theorem ev_neD (ha : EvD K ta σ H d) (hb : EvD K tb σ H e) (sd : SeqAt.shaped d = true) (se : SeqAt.shaped e = true) : Ev (tOp (rNeD K) ta tb) σ H (.bl (!PyData.eqv d e)) := fun H1 e1 Q q =>
  ha H1 e1 _ fun v H2 e2 dv => hb H2 (e1.trans e2) _ fun u H3 e3 du => ⟨d, e, Dp.ex e3 d v dv, du, sd, se, q H3 (e2.trans e3)⟩
theorem shaped_ints : ∀ ns : List Int, SeqAt.shaped (.list (ns.map PyData.int)) = true := fun ns => by
  have h1 : ∀ ms : List Int, PyData.canLayAll0 (ms.map PyData.int) = true := fun ms => by
    induction ms with
    | nil => rfl
    | cons m r ih => simp [PyData.canLayAll0, PyData.canLay0, ih]
  have h2 : ∀ ms : List Int, PyData.depthAll (ms.map PyData.int) = 0 := fun ms => by
    induction ms with
    | nil => rfl
    | cons m r ih => simp [PyData.depthAll, PyData.depth, ih]
  simp [SeqAt.shaped, PyData.canLay0, h1, PyData.depth, h2]
theorem eqv_same {d : PyData} (h : SeqAt.shaped d = true) : PyData.eqv d d = true := by
  have h1 : PyData.canLay0 d = true := (Bool.and_eq_true_iff.mp h).1
  first
    | exact PySem.P3.eqv_refl d h1
    | exact PyData.eqv_refl d h1
    | exact PySem.SeqAt.eqv_refl d h1
/-- f(k = v): a new tuple back -/
theorem eu_callK {sp : Sp} {gV : List V → List V → List V} {E : XK} {t tk : TA} {vs zs xs : List V} (h : EvA t σ H vs) (hk : EvA tk σ H zs) (hs : SpU sp (gV vs zs) H xs) : EvU (tCallK sp gV E t tk) σ H xs := fun H1 e Q q =>
  h H1 e _ fun H2 e2 => hk H2 (e.trans e2) _ fun H3 e3 => hs H3 ((e.trans e2).trans e3) Q (fun p H4 hp e4 h4 => q p H4 (fresh_back (e2.trans e3) hp) ((e2.trans e3).trans e4) h4) E
theorem ev_callK {sp : Sp} {gV : List V → List V → List V} {E : XK} {t tk : TA} {vs zs : List V} {z : V} (h : EvA t σ H vs) (hk : EvA tk σ H zs) (hs : SpV sp (gV vs zs) H z) : Ev (tCallK sp gV E t tk) σ H z := fun H1 e Q q =>
  h H1 e _ fun H2 e2 => hk H2 (e.trans e2) _ fun H3 e3 => hs H3 ((e.trans e2).trans e3) Q (fun H4 e4 => q H4 ((e2.trans e3).trans e4)) E
/-- isinstance(x, tuple) of a tuple; len of a tuple -/
theorem ev_isT {p : Addr} {xs : List V} {n : String} {b : Bool} (h : Ev ta σ H (.ref p)) (hp : H p = some (.tup xs)) (hk : PySem.W.kitOne K (.type "tuple") (.type n) = some b) : Ev (tCB (rIsi K) (tCons ta (tCons (tC (.ty n)) tNil))) σ H (.bl b) := fun H1 e Q q =>
  h H1 e _ fun H2 e2 => ⟨.ref p, .ty n, .type "tuple", .type n, b, rfl, .ty n, .base (.tup (e2 p _ (e p _ hp))), hk, q H2 e2⟩
theorem ev_lenT {p : Addr} {xs : List V} (ha : Ev ta σ H (.ref p)) (h : SqT K H p xs) : Ev (tCB (rLenS K) (tCons ta tNil)) σ H (.int (xs.length : Int)) := fun H1 e Q q =>
  ha H1 e _ fun H2 e2 => ⟨p, xs, rfl, Or.inr (ex_t (e.trans e2) h), q H2 e2⟩
/-- list(range(a, b)) -/
theorem el_rg2 {a b : Int} (ha : Ev ta σ H (.int a)) (hb : Ev tb σ H (.int b)) (h : RgOk a b) : EvL (tLstRg (tRg2 ta tb)) σ H (rgV a b) := fun H1 e Q q =>
  ha H1 e _ fun H2 e2 => hb H2 (e.trans e2) _ fun H3 e3 => ⟨a, b, rfl, rfl, h, fun p hp => q p _ (fresh_back (e2.trans e3) hp) ((e2.trans e3).trans (Ex.new hp)) upd_same⟩
theorem el_rg1 {b : Int} (hb : Ev tb σ H (.int b)) (h : RgOk 0 b) : EvL (tLstRg (tRg1 tb)) σ H (rgV 0 b) := fun H1 e Q q =>
  hb H1 e _ fun H3 e3 => ⟨b, rfl, h, fun p hp => q p _ (fresh_back e3 hp) (e3.trans (Ex.new hp)) upd_same⟩
end
/-! more statements -/
section
variable {K : PySem.W.Frag} {σ : L2.St} {H H' : Hp} {te tl : TE} {t : TT} {D : Ends} {tu tz : TS} {g : TG}
/-- a comprehension over range(lo, n) that keeps nothing -/
theorem el_noneR2 {ta : TA} {j : Nat} {vs : List Nat} {lo n : Int} (h : EvA ta σ H [.int lo, .int n]) (hn : 0 ≤ lo ∧ lo ≤ 40000 ∧ -40000 ≤ n ∧ n ≤ 40000) (hw : ∀ x, wipe ((wipe σ vs).set j (some x)) vs = wipe σ vs)
    (ht : ∀ (i : Nat) H1, Ex H H1 → lo + (i : Int) < n → EvT t ((wipe σ vs).set j (some (.int (lo + (i : Int))))) H1 false) : EvL (tLc (iRng2 ta) (gName j) t te vs) σ H [] := by
  have q := el_lcR2 (te := te) (fun _ => false) (fun _ => .non) h hn hw ht (fun _ _ _ _ hf => Bool.noConfusion hf)
  rw [given_none (fun _ _ => rfl)] at q
  exact q
/-- a for over a new tuple -/
theorem s_forNU {xs : List V} (h : EvU tl σ H xs) (Pv : Addr → Nat → L2.St → Hp → Prop) (h0 : ∀ p H1, H p = none → Ex H H1 → H1 p = some (.tup xs) → Pv p 0 σ H1) (hl : ∀ p i σ' H', i ≤ xs.length → Pv p i σ' H' → SqT K H' p xs)
    (hs : ∀ p i x σ' H', xs[i]? = some x → Pv p i σ' H' → g x σ' H' fun σ2 H2 => tu { D with nx := Pv p (i + 1), ct := Pv p (i + 1), bk := D.nx } σ2 H2) (hd : ∀ p σ' H', Pv p xs.length σ' H' → D.nx σ' H') : tFor (iTup K tl) g tu D σ H :=
  h H (Ex.refl H) _ fun p H1 hp e h1 => ⟨p, rfl, ⟨xs, st_of h1⟩, for_tup (Pv p) (h0 p H1 hp e h1) (hl p) (hs p) (hd p)⟩
theorem q_forNU {xs : List V} (h : EvU tl σ H xs) (Pv : Addr → Nat → L2.St → Hp → Prop) (h0 : ∀ p H1, H p = none → Ex H H1 → H1 p = some (.tup xs) → Pv p 0 σ H1) (hl : ∀ p i σ' H', i ≤ xs.length → Pv p i σ' H' → SqT K H' p xs)
    (hs : ∀ p i x σ' H', xs[i]? = some x → Pv p i σ' H' → g x σ' H' fun σ2 H2 => tu { D with nx := Pv p (i + 1), ct := Pv p (i + 1), bk := tz D } σ2 H2) (hd : ∀ p σ' H', Pv p xs.length σ' H' → tz D σ' H') : tSeq (tFor (iTup K tl) g tu) tz D σ H :=
  s_forNU (D := { D with nx := tz D }) h Pv h0 hl hs hd
theorem s_asgD {i : Nat} {d : PyData} (h : EvD K te σ H d) (k : ∀ v H1, Ex H H1 → Dp K H1 v d → D.nx (σ.set i (some v)) H1) : tAsg te (gName i) D σ H := h H (Ex.refl H) _ fun v H1 e dv => k v H1 e dv
theorem q_asgD {i : Nat} {d : PyData} (h : EvD K te σ H d) (k : ∀ v H1, Ex H H1 → Dp K H1 v d → tz D (σ.set i (some v)) H1) : tSeq (tAsg te (gName i)) tz D σ H := s_asgD (D := { D with nx := tz D }) h k
end
end Kit

set_option Elab.async false
set_option linter.all false
set_option maxRecDepth 100000
set_option maxHeartbeats 4000000
namespace Kit
open PySem PySem.Spec PyProof.Rows L2 Evl
theorem slot_type_ne : Slot "type" (cmpInfo .NotEq).2.1 "object.__ne__" :=
  .of (owner := "object") (n := "__ne__") (by rw [typeLookup_type, builtinLookup_eq_fast]; kernel_rfl) (by decide +kernel) (by decide +kernel) (by decide +kernel)
    (by first | exact .inl (by decide +kernel) | exact .inr (by decide +kernel)) (by rw [isSubtype_type]; kernel_rfl)
theorem slot_type_eqN : Slot "type" "__eq__" "object.__eq__" :=
  .of (owner := "object") (n := "__eq__") (by rw [typeLookup_type, builtinLookup_eq_fast]; kernel_rfl) (by decide +kernel) (by decide +kernel) (by decide +kernel)
    (by first | exact .inl (by decide +kernel) | exact .inr (by decide +kernel)) (by rw [isSubtype_type]; kernel_rfl)
section
variable {prog : Program} {w : World} {A : Around} {E : Value → Shared → Prop} {s : Shared} {Q : Value → Shared → Prop}
theorem ne_type_same {X : String} (hX : ∀ s' : Shared, s'.TypeIs (.type X) "type") (hu : A.units + 1 < cLine) (h : Q (.bool false) s) : wpAny (model prog w) A (compareOp .NotEq (.type X) (.type X)) Q E s := by
  show wpAny _ A (richCompare .NotEq _ _) Q E s
  refine wpAny_richCompare_same (T := "type") (hX s) (hX s) slot_type_ne ?_
  refine wpAny_call_entry slot_type_ne (hX s) PySem.F.cmpEntry_ne ?_ (PySem.F.cmpArgs_ne _ _)
  unfold Builtin.«object.__ne__»
  have key : wpAny (model prog w) A.in1 (call (.builtin "object.__eq__") [.type X, .type X]) (fun v s' => v = .bool true ∧ s' = s) E s :=
    call_gives slot_type_eqN (hX s) F.entry_object_eq (F.args_object_eq_2 _ _) (PySem.TypeEq.object_eq_same rfl (by simp)) ⟨rfl, rfl⟩
  repeat (first
    | with_reducible refine wpAny_cRoomFor (by show A.units + 1 < cLine; exact hu) ?_
    | (refine wpAny_bind (m := callSpecialIfBound? (.type X) (Str.ofString "__eq__") [.type X])
        (wpAny_callSpecialIfBound?_slot (hX _) slot_type_eqN (wpAny_mono key (fun r s' hr => by
          obtain ⟨rfl, rfl⟩ := hr
          have hq : Q (.bool false) s' := h
          repeat (first | exact ⟨_, rfl, (by intro e; cases e), hq⟩ | exact wpAny_pure ⟨_, rfl, (by intro e; cases e), hq⟩ | (refine wpAny_bind (m := truthy (.bool _)) (wpAny_truthy_bool ?_)) | wp_step)) fun _ _ e => e)))
    | wp_step)
end
end Kit

set_option Elab.async false
set_option linter.all false
set_option maxRecDepth 100000
set_option maxHeartbeats 4000000
namespace Kit
open PySem PySem.Spec PyProof.Rows L2 Evl
section
variable {X : Cx}
def rNeTyS : R2 := fun x y H Q => ∃ m, x = .ty m ∧ y = .ty m ∧ Meta m ∧ Q (.bl false) H
theorem op_neTyS (hu : X.A.units + 1 < cLine) : OpR X (compareOp .NotEq) rNeTyS := by
  intro pins s σ H x y v u Q I rx ry h
  obtain ⟨m, rfl, rfl, hm, q⟩ := h
  cases (show v = Value.type m from rx)
  cases (show u = Value.type m from ry)
  exact ne_type_same hm hu ⟨.bl false, H, I, rfl, q⟩
/-- min of a tuple of ints -/
def rMinT (K : PySem.W.Frag) : List V → Hp → VK → Prop := fun vs H Q => ∃ (a : Addr) (n : Int) (ns : List Int), vs = [V.ref a] ∧ SqT K H a ((n :: ns).map V.int) ∧ Q (.int (ns.foldl min n)) H
theorem alike_ints (ns : List Int) : PySem.W.AlikeAll (ns.map PyData.int) := by
  refine ⟨fun x hx y hy => ?_, fun x hx => ?_⟩
  · obtain ⟨a, _, rfl⟩ := List.mem_map.mp hx
    obtain ⟨b, _, rfl⟩ := List.mem_map.mp hy
    rfl
  · obtain ⟨a, _, rfl⟩ := List.mem_map.mp hx
    exact fun z => by cases z
theorem depth_ints : ∀ ms : List Int, PyData.depthAll (ms.map PyData.int) = 0
  | [] => rfl
  | m :: r => by simp [PyData.depthAll, PyData.depth, depth_ints r]
theorem cr_minT (hc : X.calm = true) (hu : X.A.units + 1 < cLine) : CallR X (.builtin "min") (rMinT X.K) := by
  intro pins s σ H vs us Q I r h
  obtain ⟨a, n, ns, rfl, hs, q⟩ := h
  obtain ⟨its, rv, hl, _⟩ := I.tuple hs
  rw [Vals.ref1 r]
  obtain ⟨as, rd⟩ := Dp.readsAll I (PyData.int n :: ns.map PyData.int) _ its (dpa_ints (n :: ns)) rv
  refine PySem.W.min_tuple_data (I.ok.hd hc) (show s.heap.IsTuple a its.toArray from hl) (by simpa using rd) (alike_ints (n :: ns)) ?_ fun i v h' tk bs hv hr hk => ?_
  · have := depth_ints (n :: ns)
    rw [List.map_cons] at this
    rw [this]
    exact hu
  · rw [PySem.W.minD_ints] at hr
    cases hr with
    | int _ t => exact ⟨.int (ns.foldl min n), H, I.kept (t' := tk) hk, ⟨_, rfl⟩, q⟩
theorem foldl_min_spec : ∀ (ns : List Int) (n : Int), ns.foldl min n ∈ n :: ns ∧ ∀ y ∈ n :: ns, ns.foldl min n ≤ y
  | [], n => ⟨by simp, by simp⟩
  | k :: r, n => by
    obtain ⟨h1, h2⟩ := foldl_min_spec r (min n k)
    refine ⟨?_, fun y hy => ?_⟩
    · rcases List.mem_cons.mp h1 with e | e
      · rw [List.foldl_cons, e]
        rcases Int.le_total n k with h | h
        · rw [Int.min_eq_left h]; simp
        · rw [Int.min_eq_right h]; simp
      · simp [List.foldl_cons, e]
    · have h3 := h2 (min n k) (by simp)
      rw [List.foldl_cons]
      rcases List.mem_cons.mp hy with e | hy
      · omega
      · rcases List.mem_cons.mp hy with e | hy
        · omega
        · exact h2 y (by simp [hy])
end
/-! readings of these -/
section
variable {K : PySem.W.Frag} {σ : L2.St} {H H' : Hp} {ta tb te tl : TE} {D : Ends} {tu tz : TS} {t : TT}
theorem ev_typeL {p : Addr} {xs : List V} (h : Ev ta σ H (.ref p)) (hp : H p = some (.lst xs)) : Ev (tThenZ ta kTyp) σ H (.ty "list") := fun H1 e Q q => h H1 e _ fun H2 e2 => ⟨"list", by
  have := e2 p _ (e p _ hp)
  simp [zTyV, this], q H2 e2⟩
theorem ev_typeT {p : Addr} {xs : List V} (h : Ev ta σ H (.ref p)) (hp : H p = some (.tup xs)) : Ev (tThenZ ta kTyp) σ H (.ty "tuple") := fun H1 e Q q => h H1 e _ fun H2 e2 => ⟨"tuple", by
  have := e2 p _ (e p _ hp)
  simp [zTyV, this], q H2 e2⟩
theorem rv_neTyS {m : String} (hm : Meta m) : RV rNeTyS (.ty m) (.ty m) H (.bl false) := fun H1 _ _ q => ⟨m, rfl, rfl, hm, q H1 (Ex.refl H1)⟩
theorem ev_sumN {ns : List Int} (h : EvL ta σ H (ns.map V.int)) : Ev (tCB (rSum K) (tCons ta tNil)) σ H (.int ns.sum) := fun H1 e Q q => h H1 e _ fun p H2 _ e2 h2 => ⟨p, ns, rfl, sq_of h2, q H2 e2⟩
theorem ev_allN {bs : List Bool} (h : EvL ta σ H (bs.map V.bl)) : Ev (tCB (rAll K) (tCons ta tNil)) σ H (.bl (bs.all id)) := fun H1 e Q q => h H1 e _ fun p H2 _ e2 h2 => ⟨p, bs, rfl, sq_of h2, q H2 e2⟩
theorem ev_minT {p : Addr} {n : Int} {ns : List Int} (h : Ev ta σ H (.ref p)) (hp : SqT K H p ((n :: ns).map V.int)) : Ev (tCB (rMinT K) (tCons ta tNil)) σ H (.int (ns.foldl min n)) := fun H1 e Q q => h H1 e _ fun H2 e2 => ⟨p, n, ns, rfl, ex_t (e.trans e2) hp, q H2 e2⟩
/-- sorted(xs), told by what it is -/
theorem ed_sorted {p : Addr} {ns ms : List Int} (h : Ev ta σ H (.ref p)) (hp : SqL K H p (ns.map V.int)) (hl : ns.length < 64) (hm : ms.Perm ns) (hs : ms.Pairwise (· ≤ ·)) : EvD K (tCB (rSorted K) (tCons ta tNil)) σ H (.list (ms.map PyData.int)) := fun H1 e Q q => h H1 e _ fun H2 e2 =>
  ⟨p, ns, rfl, ex_l (e.trans e2) hp, hl, fun ns' l pm so new => by
    have eq : ns' = ms := by
      exact List.Perm.eq_of_pairwise (le := fun a b : Int => a ≤ b) (fun a b _ _ h1 h2 => Int.le_antisymm h1 h2) so hs (pm.trans hm.symm)
    subst eq
    exact q _ _ (e2.trans (Ex.new new)) (.lst (sq_of upd_same) (dpa_ints _))⟩
/-- a new tuple of a list's items -/
theorem eu_tupOf {p : Addr} {xs : List V} (h : Ev ta σ H (.ref p)) (hp : SqL K H p xs) : EvU (tCB (rTupS K) (tCons ta tNil)) σ H xs := fun H1 e Q q => h H1 e _ fun H2 e2 =>
  ⟨p, xs, rfl, ex_l (e.trans e2) hp, fun l hl => q l _ (fresh_back e2 hl) (e2.trans (Ex.new hl)) upd_same⟩
/-- [0] * n -/
theorem el_rep {xs : List V} {k : Int} (ha : EvL ta σ H xs) (hb : Ev tb σ H (.int k)) (h0 : 0 ≤ k) (h1 : k ≤ 1000) (hx : xs.length ≤ 50) : EvL (tOp rRep ta tb) σ H (List.replicate k.toNat xs).flatten := fun H1 e Q q =>
  ha H1 e _ fun p H2 hp e2 h2 => hb H2 (e.trans e2) _ fun H3 e3 => ⟨p, k, xs, rfl, rfl, e3 p _ h2, by omega, by omega, sz_of (by
    have : xs.length * k.toNat ≤ 50 * 1000 := Nat.mul_le_mul hx (by omega)
    omega), fun l hl => q l _ (fresh_back (e2.trans e3) hl) ((e2.trans e3).trans (Ex.new hl)) upd_same⟩
/-- xs[::-1] -/
theorem el_rev {p : Addr} {xs : List V} (h : Ev ta σ H (.ref p)) (hp : SqL K H p xs) : EvL (tRevL K ta) σ H xs.reverse := fun H1 e Q q => h H1 e _ fun H2 e2 =>
  ⟨p, xs, rfl, ex_l (e.trans e2) hp, fun l hl => q l _ (fresh_back e2 hl) (e2.trans (Ex.new hl)) upd_same⟩
theorem el_revN {xs : List V} (h : EvL ta σ H xs) : EvL (tRevL K ta) σ H xs.reverse := fun H1 e Q q => h H1 e _ fun p H2 _ e2 h2 =>
  ⟨p, xs, rfl, sq_of h2, fun l hl => q l _ (fresh_back e2 hl) (e2.trans (Ex.new hl)) upd_same⟩
/-- for i, x in enumerate(xs): the pair is a new tuple -/
theorem s_forEn {ta : TA} {i j : Nat} {a : Addr} {xs : List V} (h : EvA ta σ H [.ref a]) (hx : SqL K H a xs) (Pv : Nat → L2.St → Hp → Prop) (h0 : ∀ H1, Ex H H1 → Pv 0 σ H1) (hl : ∀ n σ' H', n ≤ xs.length → Pv n σ' H' → SqL K H' a xs)
    (hs : ∀ n x σ' H' H2, xs[n]? = some x → Pv n σ' H' → Ex H' H2 → tu { D with nx := Pv (n + 1), ct := Pv (n + 1), bk := D.nx } ((σ'.set i (some (.int (n : Int)))).set j (some x)) H2) (hd : ∀ σ' H', Pv xs.length σ' H' → D.nx σ' H') :
    tFor (iEnum K ta) (gTup K 2 (gCons (gName i) (gCons (gName j) gNil))) tu D σ H := h H (Ex.refl H) _ fun H1 e => ⟨a, xs, rfl, ex_l e hx, by
  refine for_it walk_enum Pv (h0 H1 e) (fun n σ' H' hn p => hl n σ' H' hn p) ?_ hd
  rintro n v σ' Hh H2 hn p ⟨T, x, y, rfl, nT, rfl, g1, g2⟩
  have ex : V.int (n : Nat) = x := Option.some.inj g1
  subst ex
  exact ⟨T, [.int (n : Nat), y], rfl, st_of upd_same, rfl, _, [y], rfl, y, [], rfl, rfl, hs n y σ' Hh _ g2 p (Ex.new nT)⟩⟩
theorem q_forEn {ta : TA} {i j : Nat} {a : Addr} {xs : List V} (h : EvA ta σ H [.ref a]) (hx : SqL K H a xs) (Pv : Nat → L2.St → Hp → Prop) (h0 : ∀ H1, Ex H H1 → Pv 0 σ H1) (hl : ∀ n σ' H', n ≤ xs.length → Pv n σ' H' → SqL K H' a xs)
    (hs : ∀ n x σ' H' H2, xs[n]? = some x → Pv n σ' H' → Ex H' H2 → tu { D with nx := Pv (n + 1), ct := Pv (n + 1), bk := tz D } ((σ'.set i (some (.int (n : Int)))).set j (some x)) H2) (hd : ∀ σ' H', Pv xs.length σ' H' → tz D σ' H') :
    tSeq (tFor (iEnum K ta) (gTup K 2 (gCons (gName i) (gCons (gName j) gNil))) tu) tz D σ H := s_forEn (D := { D with nx := tz D }) h hx Pv h0 hl hs hd
end
end Kit

set_option Elab.async false
set_option linter.all false
set_option maxRecDepth 100000
set_option maxHeartbeats 4000000
namespace Kit
open PySem PySem.Spec PyProof.Rows L2 Evl
/-! ### new lists of new tuples -/
def TL (H : Hp) (vs : List V) (rs : List (List V)) : Prop := Paired (fun v r => ∃ a, v = .ref a ∧ H a = some (.tup r)) vs rs
theorem TL.imp {H H' : Hp} (f : ∀ a r, H a = some (.tup r) → H' a = some (.tup r)) : ∀ {vs : List V} {rs : List (List V)}, TL H vs rs → TL H' vs rs
  | _, _, .nil => .nil
  | _, _, .cons ⟨a, e, h⟩ t => .cons ⟨a, e, f a _ h⟩ (TL.imp f t)
theorem TL.ex {H H' : Hp} {vs : List V} {rs : List (List V)} (e : Ex H H') (h : TL H vs rs) : TL H' vs rs := h.imp fun a r x => e a _ x
theorem TL.upd {H : Hp} {l : Addr} {xs : List V} {o : HO} {vs : List V} {rs : List (List V)} (hl : H l = some (.lst xs)) (h : TL H vs rs) : TL (upd H l o) vs rs := h.imp fun a r x => by
  rw [upd_ne (ne_of x hl (by intro z; cases z))]
  exact x
theorem TL.len {H : Hp} : ∀ {vs : List V} {rs : List (List V)}, TL H vs rs → vs.length = rs.length
  | _, _, .nil => rfl
  | _, _, .cons _ t => by rw [List.length_cons, List.length_cons, TL.len t]
theorem TL.app {H : Hp} {v : V} {r : List V} (hv : ∃ a, v = .ref a ∧ H a = some (.tup r)) : ∀ {vs : List V} {rs : List (List V)}, TL H vs rs → TL H (vs ++ [v]) (rs ++ [r])
  | _, _, .nil => .cons hv .nil
  | _, _, .cons q t => .cons q (TL.app hv t)
theorem TL.get {H : Hp} : ∀ {vs : List V} {rs : List (List V)} {i : Nat} {v : V}, TL H vs rs → vs[i]? = some v → ∃ a r, v = .ref a ∧ H a = some (.tup r) ∧ rs[i]? = some r
  | _, _, 0, v, .cons ⟨a, e, h⟩ t, hv => ⟨a, _, (Option.some.inj (by simpa using hv)).symm.trans e, h, rfl⟩
  | _, _, i + 1, v, .cons _ t, hv => by
    obtain ⟨a, r, h1, h2, h3⟩ := TL.get (i := i) t (by simpa using hv)
    exact ⟨a, r, h1, h2, by simpa using h3⟩
  | _, _, 0, v, .nil, hv => by simp at hv
  | _, _, i + 1, v, .nil, hv => by simp at hv
theorem TL.rev {H : Hp} : ∀ {vs : List V} {rs : List (List V)}, TL H vs rs → TL H vs.reverse rs.reverse
  | _, _, .nil => .nil
  | _, _, .cons q t => by
    rw [List.reverse_cons, List.reverse_cons]
    exact TL.app q (TL.rev t)
def EvLT (te : TE) (σ : L2.St) (H : Hp) (rs : List (List V)) : Prop := ∀ H1, Ex H H1 → ∀ Q : VK, (∀ p vs H2, H1 p = none → Ex H1 H2 → H2 p = some (.lst vs) → TL H2 vs rs → Q (.ref p) H2) → te σ H1 Q
section
variable {K : PySem.W.Frag} {σ : L2.St} {H H' : Hp} {te tl : TE} {D : Ends} {tz : TS} {t : TT}
/-- [a new tuple for i in range(n)] -/
theorem elt_R1 {ta : TA} {j : Nat} {vs : List Nat} {n : Int} (f : Nat → List V) (h : EvA ta σ H [.int n]) (hn : 0 ≤ n ∧ n ≤ 40000) (hw : ∀ x, wipe ((wipe σ vs).set j (some x)) vs = wipe σ vs)
    (he : ∀ (i : Nat) H1, Ex H H1 → (i : Int) < n → EvU te ((wipe σ vs).set j (some (.int (i : Int)))) H1 (f i)) : EvLT (tLc (iRng1 ta) (gName j) tYes te vs) σ H ((List.range n.toNat).map f) := fun H0 e Q q => h H0 e _ fun H1 e1 => ⟨n, rfl, by omega, by omega, fun Dl hD =>
  lc_range (lo := 0) (n := n.toNat) (fun i H' => Ex H1 H' ∧ ∃ ws, H' Dl = some (.lst ws) ∧ TL H' ws ((List.range i).map f)) ⟨Ex.new hD, [], upd_same, .nil⟩ (fun i H' hi p => by
    obtain ⟨p1, ws, p2, p3⟩ := p
    have e0 : (0 : Int) + (i : Int) = (i : Int) := Int.zero_add _
    show wipe ((wipe σ vs).set j (some (.int ((0 : Int) + (i : Int))))) vs = wipe σ vs ∧ te ((wipe σ vs).set j (some (.int ((0 : Int) + (i : Int))))) H' fun y H4 => ∃ acc, H4 Dl = some (.lst acc) ∧ acc.length < sizeLine ∧ _
    rw [e0]
    refine ⟨hw _, he i H1 (e.trans e1) (by omega) H' p1 _ fun p H4 hp e4 h4 => ⟨ws, e4 Dl _ p2, sz_lt (by
      have := p3.len
      simp at this
      omega), Ex.mut (p1.trans e4) hD, ws ++ [.ref p], upd_same, ?_⟩⟩
    rw [List.range_succ, List.map_append]
    exact ((p3.ex e4).app ⟨p, rfl, h4⟩).upd (e4 Dl _ p2)) (fun H' p => by
      obtain ⟨p1, ws, p2, p3⟩ := p
      exact q Dl ws H' (fresh_back e1 hD) (e1.trans p1) p2 p3)⟩
/-- [a new tuple for x in xs] -/
theorem elt_map {a : Addr} {xs : List V} {j : Nat} {vs : List Nat} (f : Nat → List V) (h : Ev tl σ H (.ref a)) (hx : SqL K H a xs) (hz : xs.length ≤ 40000) (hw : ∀ x, wipe ((wipe σ vs).set j (some x)) vs = wipe σ vs)
    (he : ∀ (i : Nat) (x : V) H1, Ex H H1 → xs[i]? = some x → EvU te ((wipe σ vs).set j (some x)) H1 (f i)) : EvLT (tLc (iList K tl) (gName j) tYes te vs) σ H ((List.range xs.length).map f) := fun H0 e Q q => h H0 e _ fun H1 e1 => ⟨a, rfl, ⟨xs, ex_l (e.trans e1) hx⟩, fun Dl hD =>
  lc_list (xs := xs) (fun i H' => Ex H1 H' ∧ ∃ ws, H' Dl = some (.lst ws) ∧ TL H' ws ((List.range i).map f)) ⟨Ex.new hD, [], upd_same, .nil⟩ (fun i H' _ p => ex_l ((e.trans e1).trans p.1) hx) (fun i x H' hi p => by
    obtain ⟨p1, ws, p2, p3⟩ := p
    show wipe ((wipe σ vs).set j (some x)) vs = wipe σ vs ∧ te ((wipe σ vs).set j (some x)) H' fun y H4 => ∃ acc, H4 Dl = some (.lst acc) ∧ acc.length < sizeLine ∧ _
    refine ⟨hw _, he i x H1 (e.trans e1) hi H' p1 _ fun p H4 hp e4 h4 => ⟨ws, e4 Dl _ p2, sz_lt (by
      have := p3.len
      have := (List.getElem?_eq_some_iff.mp hi).1
      simp at *
      omega), Ex.mut (p1.trans e4) hD, ws ++ [.ref p], upd_same, ?_⟩⟩
    rw [List.range_succ, List.map_append]
    exact ((p3.ex e4).app ⟨p, rfl, h4⟩).upd (e4 Dl _ p2)) (fun H' p => by
      obtain ⟨p1, ws, p2, p3⟩ := p
      exact q Dl ws H' (fresh_back e1 hD) (e1.trans p1) p2 p3)⟩
theorem range_get {α : Type} (rs : List α) (d : α) : rs = (List.range rs.length).map fun i => rs.getD i d := by
  refine List.ext_getElem (by simp) fun i h1 h2 => ?_
  simp [h1]
theorem paired_map {α β γ : Type} {F : β → γ → Prop} (f : α → β) (g : α → γ) : ∀ l : List α, (∀ x ∈ l, F (f x) (g x)) → Paired F (l.map f) (l.map g)
  | [], _ => .nil
  | x :: r, h => .cons (h x (by simp)) (paired_map f g r fun y hy => h y (by simp [hy]))
/-- [x for x in xs if test(x)], xs a list of tuples, the test P of the tuple's items -/
theorem elt_filter {a : Addr} {xs : List V} {rs : List (List V)} {j : Nat} {vs : List Nat} (P : List V → Bool) (h : Ev tl σ H (.ref a)) (hx : SqL K H a xs) (ht : TL H xs rs) (hz : xs.length ≤ 40000) (hw : ∀ x, wipe ((wipe σ vs).set j (some x)) vs = wipe σ vs) (hj : ∀ x, ((wipe σ vs).set j (some x))[j]? = some (some x))
    (he : ∀ (b : Addr) (r : List V) H1, Ex H H1 → r ∈ rs → H1 b = some (.tup r) → EvT t ((wipe σ vs).set j (some (.ref b))) H1 (P r)) : EvLT (tLc (iList K tl) (gName j) t (tVar j) vs) σ H (rs.filter P) := fun H0 e Q q => by
  refine el_lcL (K := K) (f := fun i => P (rs.getD i [])) (v := fun i => xs.getD i .non) h hx hz hw (fun i x H1 e1 hi => ?_) (fun i x H1 e1 hi hf => ?_) H0 e Q fun p H2 hp e2 h2 => ?_
  · obtain ⟨b, r, rfl, hb, hr⟩ := ht.get hi
    have g : rs.getD i [] = r := by rw [List.getD_eq_getElem?_getD, hr] <;> rfl
    show EvT _ _ _ (P (rs.getD i []))
    rw [g]
    exact he b r H1 e1 (List.mem_of_getElem? hr) (e1 b _ hb)
  · have g : xs.getD i .non = x := by rw [List.getD_eq_getElem?_getD, hi] <;> rfl
    show Ev _ _ _ (xs.getD i .non)
    rw [g]
    exact ev_var (hj x)
  · refine q p _ H2 hp e2 h2 ?_
    have e3 : rs.filter P = ((List.range rs.length).filter fun i => P (rs.getD i [])).map fun i => rs.getD i [] := by
      conv => lhs; rw [range_get rs [], List.filter_map]
      rfl
    unfold given
    rw [e3, ht.len]
    refine paired_map _ _ _ fun i hi => ?_
    have hi := List.mem_range.mp (List.mem_filter.mp hi).1
    have hlx : i < xs.length := by rw [ht.len]; exact hi
    obtain ⟨b, r, h1, h2', h3⟩ := ht.get (List.getElem?_eq_getElem hlx)
    refine ⟨b, ?_, ?_⟩
    · rw [List.getD_eq_getElem?_getD, List.getElem?_eq_getElem hlx, h1]
      rfl
    · rw [List.getD_eq_getElem?_getD, h3]
      exact (e.trans e2) b _ h2'
theorem q_asgLT {i : Nat} {rs : List (List V)} (h : EvLT te σ H rs) (k : ∀ p vs H1, H p = none → Ex H H1 → H1 p = some (.lst vs) → TL H1 vs rs → tz D (σ.set i (some (.ref p))) H1) : tSeq (tAsg te (gName i)) tz D σ H := h H (Ex.refl H) _ fun p vs H1 hp e h1 h2 => k p vs H1 hp e h1 h2
theorem s_retLT {rs : List (List V)} (h : EvLT te σ H rs) (k : ∀ p vs H1, H p = none → Ex H H1 → H1 p = some (.lst vs) → TL H1 vs rs → D.rt (.ref p) H1) : tRet te D σ H := h H (Ex.refl H) _ k
end
end Kit

set_option Elab.async false
set_option linter.all false
set_option maxRecDepth 100000
set_option maxHeartbeats 4000000
namespace Kit
open PySem PySem.Spec PyProof.Rows L2 Evl
/-! ### a promise of a def that shows data (repr): no repr may be under way around it -/
structure FnOkG (P : Program) (w : World) (K : PySem.W.Frag) (mg : Str → Option Value) (base : Heap) (n : Nat) (f : Addr) (fd : FuncData) (names : List Str) (want : Sp) : Prop where
  many : ∀ xs H Q E, want xs H Q E → xs.length = names.length
  go : ∀ (A : Around) (frames : List Env) (st : Shared) (H : Hp) (given : Args) (us : List Value) (xs : List V) (Q : VK) (E : XK), A.guards = some [] → Room n A → Env0 P w K mg base A frames st H →
    BindsTo st fd given (names.zip us) → Vals xs us → want xs H Q E → codeAny (model P w) A (.call (.ref f) given) (CR CX0 frames P w H st Q E) st
section
variable {P : Program} {w : World} {K : PySem.W.Frag} {mg : Str → Option Value} {base : Heap}
theorem FnOkG.mono {j n : Nat} {f : Addr} {fd : FuncData} {names : List Str} {want : Sp} (F : FnOkG P w K mg base j f fd names want) (h : j ≤ n) : FnOkG P w K mg base n f fd names want :=
  ⟨F.many, fun A fr st H g us xs Q E hg r => F.go A fr st H g us xs Q E hg (r.mono h)⟩
/-- the rule for such a def -/
theorem funG {x qual : Str} {d : Stmt} {f : Addr} {fd : FuncData} {N names : List Str} {n : Nat} {want : Sp} (F : Fun K x qual d f fd) (S : FnScope N names (defScope d)) (many : ∀ xs H Q E, want xs H Q E → xs.length = names.length)
    (body : ∀ (cv : Value) (A : Around) (frames : List Env) (st : Shared) (H : Hp) (xs : List V) (Q : VK) (E : XK), A.guards = some [] → Room n (A.deeper (envOfC qual (defScope d) st.heap.objs.size f cv)) → want xs H Q E →
      ∃ t, PSs (cxOf CX0 P w K mg base N qual (defScope d) f cv A frames st H E).nox (defBody d) t ∧ t { nx := fun _ H' => Q .non H', rt := Q } (start N xs) H) : FnOkG P w K mg base (n + 1) f fd names want := by
  obtain ⟨o1, o2, v1, v2, v3, an, cv, ct, sl, rfl, look, code⟩ := F.ex
  refine ⟨many, fun A frames st H given us xs Q E hg room en bind vals hw => ?_⟩
  have size := many _ _ _ _ hw
  have inK : K.In st.heap := en.mod.kin.keeps fun b o q => (en.bs b o q).1
  have noLim : st.heap.NoLimit := en.mod.nolimit.keeps fun b o q => (en.bs b o q).1
  have kinds : ∀ y ∈ names.zip us, (defScope d).names.lookup y.1 = some .local ∨ ((defScope d).names.lookup y.1 = some .cell ∧ ((cellsFrom (st.heap.objs.size + 1) (defScope d).names []).lookup y.1).isSome = true) := by
    rintro ⟨a, b⟩ hy
    exact (S.par a (List.of_mem_zip hy).1).elim .inl fun q => .inr ⟨q, PySem.W.cellsFrom_some _ _ _ (.inl q)⟩
  refine codeAny_call_function room.depth (inK _ _ look) rfl S.co S.gen rfl (PySem.W.codeRec_of inK code) (bind _ _ _ _ (wpAny_newFunctionEnv_cells S.kind kinds fun env eq st1 made => ?_))
  cases eq
  refine ⟨noLim.keeps made.toInCall.keep, codeAny_func ?_⟩
  obtain ⟨t, rule, done⟩ := body cv A frames st H xs Q E hg (room.deeper _) hw
  have J : Inv (cxOf CX0 P w K mg base N qual (defScope d) f cv A frames st H E) [] (start N xs) H st1 := inv_start S room.hd en size vals made
  have back : ∀ {σ' : L2.St} {H' : Hp} {v : V} {u : Value} {st2 : Shared}, Inv (cxOf CX0 P w K mg base N qual (defScope d) f cv A frames st H E) [] σ' H' st2 → RelV v u → Q v H' → CE frames P w H st Q u st2 := fun J2 rv q => ⟨_, _, J2.os, J2.bare, J2.base, J2.hok, rv, q⟩
  refine wpAny_mono (rule.nox.run [] st1 (start N xs) H _ J done) (fun r st2 hs => ?_) fun _ _ hs => hs
  match r, hs with
  | .ret u, ⟨v, σ2, H2, J2, rv, q⟩ => exact back J2 rv q
  | .next, ⟨σ2, H2, J2, q⟩ => exact back (v := V.non) (u := Value.none) J2 rfl q
  | .brk, ⟨_, _, _, q⟩ => exact False.elim q
  | .cont, ⟨_, _, _, q⟩ => exact False.elim q
end
/-- such a def is called -/
theorem pe_callG {X : Cx} {n : Nat} {f : Addr} {fd : FuncData} {names : List Str} {want : Sp} {x : Str} {p pos : Pos} {e : Expr} {es : List Expr} {t : TA} (F : FnOkG X.prog X.w X.K X.mg X.base n f fd names want) (hg : X.A.guards = some []) (room : Room n X.A) (gl : Gl X x)
    (at_ : X.mg x = some (.ref f)) (keep : PySem.W.keepIn X.K (.ref f) = true) (bind : Binds X.K fd names []) (ha : PA X (e :: es) t) (nd : (x == ("__debug__" : Str)) = false := by decide)
    (one : starEach (e :: es) X.env = (false, eval e X.env) :: starEach es X.env := by rfl) (plain : (backTo pos (starEach es X.env)).any (·.1) = false := by rfl) : PE X (.Call (.Name x p) (e :: es) [] pos) (tCall want [] E0 t) := by
  refine ⟨fun pins st σ H Q J h => wpAny_Call_Name_kw (ld_glob J gl at_ ?_ nd)⟩
  refine PySem.W.callWith_K (h₀ := X.base) J.ok.mod.kin keep (thn (ha.run pos pins st σ H _ J h) fun us st1 ⟨vs, H1, J1, r, q⟩ => ⟨J1.kIn, ?_⟩) one plain
  have q : want vs H1 Q E0 := by
    have q' : want (vs ++ []) H1 Q E0 := q
    rwa [List.append_nil] at q'
  have size : us.length = names.length := r.length.symm.trans (F.many _ _ _ _ q)
  have bd := bind st1 us J1.kIn (by rw [List.append_nil]; exact size)
  rw [List.append_nil] at bd
  refine wpAny_call (codeAny_mono (F.go X.A X.stack st1 H1 ⟨us, []⟩ us vs Q E0 hg room J1.env0 bd r q) fun res st2 hq => ?_)
  match res, hq with
  | .error _, hq => exact False.elim hq
  | .ok (.ret _), hq => exact J1.after hq
  | .ok .next, hq => exact False.elim hq
  | .ok .brk, hq => exact False.elim hq
  | .ok .cont, hq => exact False.elim hq
/-- the law's promise, at the heap behind the top -/
theorem headG {P : Program} {w : World} {K : PySem.W.Frag} {mg mb : Str → Option Value} {n : Nat} {fa a : Addr} {fd : FuncData} {x : Str} {want : Sp} {st : Shared} {us : List Value} {ns : List Int}
    (inK : K.In st.heap) (glob : st.heap.Ns mainGlobals mg) (blt : st.heap.Ns builtinsNs mb) (boot : ∀ x : Str, x ≠ "__name__" → mb x = bootBuiltins x) (noLim : st.heap.NoLimit) (gens : st.gens = #[])
    (obj : st.heap.get? a = some { cls := .type "list", data := .seq us.toArray }) (allInt : IntsAre us ns) (short : ns.length ≤ sizeLine) (room : Room n callerA)
    (F : ∀ base : Heap, K.In base → base.Ns mainGlobals mg → FnOkG P w K mg base n fa fd [x] want) (bind : ∀ (s : Shared) (u : Value), BindsTo s fd ⟨[u], []⟩ [(x, u)])
    (ask : ∀ H : Hp, Only H → SqL K H a (ns.map V.int) → want [.ref a] H (fun v _ => v = .bl true) fun _ _ _ => False) :
    codeAny (model P w) callerA (.call (.ref fa) ⟨[.ref a], []⟩) (fun r s' => r = .ok (.ret (.bool true)) ∧ OldK st.heap s'.heap ∧ s'.os = st.os ∧ AllBare s'.gens) st := by
  have vals := vals_ints allInt
  have size := allInt.length
  have main : ∀ H : Hp, Only H → SqL K H a (ns.map V.int) → HOk P w H st.heap → (∀ b, H b ≠ none → b = a) → (H a ≠ none → K.lookup a = none) →
      codeAny (model P w) callerA (.call (.ref fa) ⟨[.ref a], []⟩) (fun r s' => r = .ok (.ret (.bool true)) ∧ OldK st.heap s'.heap ∧ s'.os = st.os ∧ AllBare s'.gens) st := by
    intro H only sq ok one not
    have stay : ∀ {b : Addr} {o : Obj}, st.heap.get? b = some o → H b = none → (hidT st.heap H).get? b = some o := fun q z => hidT_get q z
    have free : ∀ {b : Addr}, (b = a → False) → H b = none := fun {b} ne => by
      cases q : H b with
      | none => rfl
      | some u => exact (ne (one b (by rw [q]; exact Option.some_ne_none u))).elim
    have space : ∀ {b : Addr} {m : Str → Option Value}, st.heap.Ns b m → (hidT st.heap H).Ns b m := fun {b m} ⟨o, es, ep, q, d, r⟩ => ⟨o, es, ep, stay q (free fun z => by
      subst z
      rw [obj] at q
      cases q
      exact Data.noConfusion (show Data.seq us.toArray _ = Data.dict es ep from d)), d, r⟩
    have kin : K.In (hidT st.heap H) := fun b o q => stay (inK b o q) (by
      cases z : H b with
      | none => rfl
      | some u =>
        have ne : H b ≠ none := by rw [z]; exact Option.some_ne_none u
        have ba := one b ne
        subst ba
        rw [not ne] at q
        cases q)
    obtain ⟨mc, l1, l2⟩ := noLim
    have md : Mod K mg (hidT st.heap H) := ⟨kin, space glob, ⟨mb, space blt, boot⟩, ⟨mc, space l1, l2⟩⟩
    have en : Env0 P w K mg (hidT st.heap H) callerA [] st H := ⟨rfl, md, fun b o q => of_hidT q, Nat.le_of_eq (hidT_size _ _), trivial, fun b hb => absurd (show b ∈ ([] : List Addr) from hb) (by simp), ok, .of_eq gens⟩
    refine codeAny_mono ((F _ kin (space glob)).go callerA [] st H ⟨[.ref a], []⟩ [.ref a] [.ref a] _ _ rfl room en (bind st (.ref a)) (.cons rfl .nil) (ask H only sq)) fun r s' h => ?_
    match r, h with
    | .error _, h => exact False.elim h
    | .ok .next, h => exact False.elim h
    | .ok .brk, h => exact False.elim h
    | .ok .cont, h => exact False.elim h
    | .ok (.ret u), ⟨v, H', os, bare, un, ok', rel, q⟩ =>
      have q2 : v = .bl true := q
      cases q2
      have r2 : u = Value.bool true := rel
      cases r2
      refine ⟨rfl, OldK.of_keep fun b o e => ?_, os, bare⟩
      rcases only b with z | ⟨ob, xs, z⟩
      · exact un.keep b o e z (fun t => absurd (show b ∈ ([] : List Addr) from t) (by simp)) (by simp)
      · have z2 := un.frzs b ob _ z
        obtain ⟨g1, _⟩ := ok b _ z
        obtain ⟨g2, _⟩ := ok' b _ z2
        rw [e] at g1
        cases g1
        exact g2
  cases own : K.lookup a with
  | some o =>
    have e := inK a o own
    rw [obj] at e
    cases e
    exact main (fun _ => none) (fun _ => .inl rfl) (.inr ⟨_, us.toArray, _, own, rfl, rfl, rfl, by rw [List.size_toArray, size]; exact short, by simpa using vals⟩) (fun b u z => by have y : (none : Option HO) = some u := z; cases y) (fun b z => absurd rfl z) fun z => absurd rfl z
  | none =>
    have yes : (fun b => if b = a then some (HO.frz { cls := .type "list", data := .seq us.toArray } (.lst (ns.map V.int))) else none) a = some (HO.frz { cls := .type "list", data := .seq us.toArray } (.lst (ns.map V.int))) := if_pos rfl
    have no : ∀ b, b ≠ a → (fun b => if b = a then some (HO.frz { cls := .type "list", data := .seq us.toArray } (.lst (ns.map V.int))) else none) b = none := fun b ne => if_neg ne
    generalize (fun b => if b = a then some (HO.frz { cls := .type "list", data := .seq us.toArray } (.lst (ns.map V.int))) else none) = G at yes no
    refine main G (fun b => ?_) (.inl (.inr ⟨_, yes⟩)) (fun b u z => ?_) (fun b z => ?_) fun _ => own
    · by_cases hb : b = a
      · subst hb
        exact .inr ⟨_, _, yes⟩
      · exact .inl (no b hb)
    · by_cases hb : b = a
      · subst hb
        rw [yes] at z
        cases z
        exact ⟨obj, by rw [List.length_map]; exact short, us, _, vals, obj⟩
      · rw [no b hb] at z
        cases z
    · by_cases hb : b = a
      · exact hb
      · exact absurd (no b hb) z
theorem walk_G {l : PySem.W.OpenLaw} {m n : Nat} {q : Program} {loose : List Str} {XP : (Str → Option Value) → Heap → Prop} {YP : World → Heap → Prop} {d : DefRec} {K : Params → PySem.W.Frag} {want : World → Sp} {x : Str}
    (most : l.most = some m) (most2 : m ≤ sizeLine) (noDef : d.params.defaults = []) (room : Room n callerA) (inK : ∀ (w : World) (h : Heap), YP w h → (K w.params).In h)
    (F : ∀ (w : World) (mg : Str → Option Value) (fa : Addr) (h : Heap), (K w.params).In h → h.Ns mainGlobals mg → mg d.name = some (.ref fa) →
      ∃ fd : FuncData, (∀ (s : Shared) (u : Value), BindsTo s fd ⟨[u], []⟩ [(x, u)]) ∧ ∀ base : Heap, (K w.params).In base → base.Ns mainGlobals mg → FnOkG l.prog w (K w.params) mg base n fa fd [x] (want w))
    (ask : ∀ (w : World) (H : Hp) (a : Addr) (ns : List Int), ns.length ≤ m → Only H → SqL (K w.params) H a (ns.map V.int) → want w [.ref a] H (fun v _ => v = .bl true) fun _ _ _ => False) :
    PySem.W.WalkO q loose XP YP l.row.toRowW d [] (fun f vs => PySem.call f vs) :=
  Att.attach_call most noDef fun w s₀ st mg mb fa o pm cd doc a us ns G Y ho hd hcd named obj allInt short gens => by
    have kin := inK w _ Y
    obtain ⟨fd, bind, FF⟩ := F w mg fa _ kin G.T.g named
    exact headG kin G.T.g G.T.b G.T.builtins G.T.nolimit gens obj allInt (Nat.le_trans short most2) room FF bind fun H only sq => ask w H a ns short only sq
/-! ### repr of data -/
def rRepr (K : PySem.W.Frag) : List V → Hp → VK → Prop := fun xs H Q => ∃ p d, xs = [.ref p] ∧ Dp K H (.ref p) d ∧ d.showable = true ∧ d.hasDict = false ∧ d.depth ≤ 50 ∧ d.shown.length ≤ sizeLine ∧ Q (.str d.shown) H
theorem call_reprD {X : Cx} (hg : X.A.guards = some []) (hu : X.A.units + 64 < cLine) : CallR X (.builtin "repr") (rRepr X.K) := by
  intro pins st σ H xs us Q J r h
  obtain ⟨p, d, rfl, dp, hs, hd, hdp, hz, q⟩ := h
  obtain ⟨u, rfl, hu2⟩ : ∃ u, us = [u] ∧ RelV (.ref p) u := by
    cases r with
    | cons a b =>
      cases b
      exact ⟨_, rfl, a⟩
  have e : u = Value.ref p := hu2
  subst e
  obtain ⟨as, rd⟩ := Dp.reads J d _ _ dp hu2
  refine repr_of_reads' rd hs (fun z => by rw [hd] at z; cases z) hg (by omega) (fun _ _ e => e) (fun h' u tk keep => ?_) hz
  exact ⟨.str d.shown, H, J.turnedL (ch := []) (fun b o _ e => keep b o e) (fun b hb => absurd hb (by simp)), ⟨_, rfl⟩, q⟩
section
variable {K : PySem.W.Frag} {σ : L2.St} {H : Hp} {te : TE}
theorem ev_repr {d : PyData} (h : EvD K te σ H d) (hl : isDisplay d = true) (hs : d.showable = true) (hd : d.hasDict = false) (hdp : d.depth ≤ 50) (hz : d.shown.length ≤ sizeLine) : Ev (tCB (rRepr K) (tCons te tNil)) σ H (.str d.shown) := fun H1 e Q q =>
  h H1 e _ fun v H2 e2 dv => by
    have hp : ∃ p, v = .ref p := by
      cases dv with
      | lst _ _ => exact ⟨_, rfl⟩
      | tup _ _ => exact ⟨_, rfl⟩
      | non => cases hl
      | bl _ => cases hl
      | int _ => cases hl
      | str _ => cases hl
    obtain ⟨p, rfl⟩ := hp
    exact ⟨p, d, rfl, dv, hs, hd, hdp, hz, q H2 e2⟩
end
end Kit

set_option Elab.async false
set_option linter.all false
set_option maxRecDepth 100000
set_option maxHeartbeats 4000000
namespace Kit
open PySem PySem.Spec PyProof.Rows L2 Evl
/-! ### data that repr shows, with long ints: at most n signs -/
structure ShN (d : PyData) (n : Nat) : Prop where
  shw : d.showable = true
  nod : d.hasDict = false
  len : d.shown.length ≤ n
  dep : d.depth ≤ 20
theorem shn_int {i : Int} (h : i.natAbs.log2 < 1920) : ShN (.int i) 1921 := ⟨decide_eq_true h, rfl, int_text_len_1921 h, Nat.zero_le _⟩
theorem shn_int2 {i : Int} (h : i.natAbs < 2 ^ 1900) : ShN (.int i) 1921 := shn_int (by
  by_cases z : i.natAbs = 0
  · rw [z]
    decide
  · exact Nat.lt_of_lt_of_le ((Nat.log2_lt z).mpr h) (by decide))
theorem shn_all {n : Nat} : ∀ {ds : List PyData}, (∀ d ∈ ds, ShN d n ∧ d.depth ≤ 19) → PyData.showableAll ds = true ∧ PyData.hasDictAll ds = false ∧ ((PyData.shownAll ds).map (·.length)).sum ≤ n * ds.length ∧ (PyData.shownAll ds).length = ds.length ∧ PyData.depthAll ds ≤ 19
  | [], _ => ⟨rfl, rfl, Nat.zero_le _, rfl, Nat.zero_le _⟩
  | d :: r, h => by
    obtain ⟨a, b, c, e, f⟩ := shn_all fun x hx => h x (List.mem_cons_of_mem _ hx)
    obtain ⟨⟨p, q, s, _⟩, t⟩ := h d List.mem_cons_self
    refine ⟨by simp [PyData.showableAll, a, p], by simp [PyData.hasDictAll, b, q], ?_, by simp [PyData.shownAll, e], by simp only [PyData.depthAll]; omega⟩
    simp only [PyData.shownAll, List.map_cons, List.sum_cons, List.length_cons, Nat.mul_succ]
    omega
theorem shn_list {ds : List PyData} {n : Nat} (h : ∀ d ∈ ds, ShN d n ∧ d.depth ≤ 19) : ShN (.list ds) ((n + 2) * ds.length + 3) := by
  obtain ⟨a, b, c, e, f⟩ := shn_all h
  refine ⟨by simpa [PyData.showable] using a, by simpa [PyData.hasDict] using b, ?_, by simp only [PyData.depth]; omega⟩
  have := listText_len_le (PyData.shownAll ds)
  show (listText (PyData.shownAll ds)).length ≤ _
  rw [e] at this
  rw [Nat.add_mul]
  omega
theorem shn_tup {ds : List PyData} {n : Nat} (h : ∀ d ∈ ds, ShN d n ∧ d.depth ≤ 19) : ShN (.tuple ds) ((n + 2) * ds.length + 3) := by
  obtain ⟨a, b, c, e, f⟩ := shn_all h
  refine ⟨by simpa [PyData.showable] using a, by simpa [PyData.hasDict] using b, ?_, by simp only [PyData.depth]; omega⟩
  have := tupleText_len_le (PyData.shownAll ds)
  show (tupleText (PyData.shownAll ds)).length ≤ _
  rw [e] at this
  rw [Nat.add_mul]
  omega
section
variable {K : PySem.W.Frag} {σ : L2.St} {H : Hp} {te : TE}
theorem ev_reprN {d : PyData} {n : Nat} (h : EvD K te σ H d) (hl : isDisplay d = true) (s : ShN d n) (hn : n ≤ 1000000) : Ev (tCB (rRepr K) (tCons te tNil)) σ H (.str d.shown) :=
  ev_repr h hl s.shw s.nod (by have := s.dep; omega) (Nat.le_trans s.len (Nat.le_trans hn (by rw [sizeLine_eq]; decide)))
end
end Kit

set_option Elab.async false
set_option linter.all false
set_option maxRecDepth 100000
set_option maxHeartbeats 4000000
namespace Kit
open PySem PySem.Spec PyProof.Rows L2 Evl
section
variable {K : PySem.W.Frag} {σ : L2.St} {H : Hp} {ta tb te : TE} {t : TT}
/-- max(xs), told by what it is -/
theorem ev_maxV {a : Addr} {ns : List Int} {m : Int} (h : Ev ta σ H (.ref a)) (ha : SqL K H a (ns.map V.int)) (hm : m ∈ ns) (hl : ∀ y ∈ ns, y ≤ m) : Ev (tCB (rMax K) (tCons ta tNil)) σ H (.int m) := fun H1 e Q q =>
  h H1 e _ fun H2 e2 => ⟨a, ns, rfl, ex_l (e.trans e2) ha, List.length_pos_of_mem hm, fun m' hm' hl' => by
    have h1 := hl m' hm'
    have h2 := hl' m hm
    have : m' = m := by omega
    rw [this]
    exact q H2 e2⟩
/-- [e for i, x in enumerate(xs) if t] -/
theorem el_en {ta : TA} {i j : Nat} {vs : List Nat} {a : Addr} {xs : List V} (f : Nat → Bool) (v : Nat → V) (h : EvA ta σ H [.ref a]) (hx : SqL K H a xs) (hz : xs.length ≤ 40000) (hw : ∀ x y, wipe (((wipe σ vs).set i (some x)).set j (some y)) vs = wipe σ vs)
    (ht : ∀ (n : Nat) x H1, Ex H H1 → xs[n]? = some x → EvT t (((wipe σ vs).set i (some (.int (n : Int)))).set j (some x)) H1 (f n))
    (he : ∀ (n : Nat) x H1, Ex H H1 → xs[n]? = some x → f n = true → Ev te (((wipe σ vs).set i (some (.int (n : Int)))).set j (some x)) H1 (v n)) :
    EvL (tLc (iEnum K ta) (gTup K 2 (gCons (gName i) (gCons (gName j) gNil))) t te vs) σ H (given xs.length f v) := fun H0 e Q q => h H0 e _ fun H1 e1 => ⟨a, xs, rfl, ex_l (e.trans e1) hx, fun Dl hD => by
  refine lc_it walk_enum (Cw H1 f v Dl) ⟨hD, Ex.new hD, upd_same⟩ (fun n H' _ p => ex_l ((e.trans e1).trans p.2.1) hx) ?_ fun H' p => q Dl H' (fresh_back e1 p.1) (e1.trans p.2.1) p.2.2
  rintro n w Hh H' hn p ⟨T, x, y, rfl, nT, rfl, g1, g2⟩
  have ex : V.int (n : Nat) = x := Option.some.inj g1
  subst ex
  have eT : Ex Hh (upd Hh T (.tup [.int (n : Nat), y])) := Ex.new nT
  refine ⟨T, [.int (n : Nat), y], rfl, st_of upd_same, rfl, _, [y], rfl, y, [], rfl, rfl, hw _ y, ?_⟩
  exact cw_turn (H := H1) ⟨p.1, p.2.1.trans eT, eT Dl _ p.2.2⟩ (by omega) (ht n y H1 (e.trans e1) g2) fun hf => he n y H1 (e.trans e1) g2 hf⟩
/-- [e for x, y in zip(xs, ys)], both new lists -/
theorem el_zipN {i j : Nat} {vs : List Nat} {xs ys : List V} (F : V → V → V) (h : EvL ta σ H xs) (h2 : EvL tb σ H ys) (hl : xs.length = ys.length) (hz : xs.length ≤ 40000) (hw : ∀ x y, wipe (((wipe σ vs).set i (some x)).set j (some y)) vs = wipe σ vs)
    (he : ∀ (n : Nat) x y H1, Ex H H1 → xs[n]? = some x → ys[n]? = some y → Ev te (((wipe σ vs).set i (some x)).set j (some y)) H1 (F x y)) :
    EvL (tLc (iZip K (tCons ta (tCons tb tNil))) (gTup K 2 (gCons (gName i) (gCons (gName j) gNil))) tYes te vs) σ H (List.zipWith F xs ys) := fun H0 e Q q =>
  h H0 e _ fun a H1 na e1 ha => h2 H1 (e.trans e1) _ fun b H2 nb e2 hb => by
    have := el_zip (K := K) (H := H2) (ta := fun _ H' R => R [.ref a, .ref b] H') (te := te) (vs := vs) F (fun H3 _ Q q => q H3 (Ex.refl _)) (sq_of (e2 a _ ha)) (sq_of hb) hl hz hw fun n x y H3 e3 g1 g2 => he n x y H3 (e.trans (e1.trans (e2.trans e3))) g1 g2
    exact this H2 (Ex.refl _) Q fun p H3 hp e3 h3 => q p H3 (fresh_back (e1.trans e2) hp) (e1.trans (e2.trans e3)) h3
/-- xs + y, y an old list; x + ys, x an old list -/
theorem el_catR {a : Addr} {xs ys : List V} (h : EvL ta σ H xs) (h2 : Ev tb σ H (.ref a)) (ha : H a = some (.lst ys)) (hz : xs.length + ys.length ≤ 1000) : EvL (tOp rCat ta tb) σ H (xs ++ ys) := fun H1 e Q q =>
  h H1 e _ fun p H2 _ e2 h3 => h2 H2 (e.trans e2) _ fun H3 e3 => ⟨p, a, xs, ys, rfl, rfl, e3 p _ h3, e3 a _ (e2 a _ (e a _ ha)), sz_of (by omega), fun l hl => q l _ (fresh_back (e2.trans e3) hl) ((e2.trans e3).trans (Ex.new hl)) upd_same⟩
theorem el_catL {a : Addr} {xs ys : List V} (h : Ev ta σ H (.ref a)) (ha : H a = some (.lst xs)) (h2 : EvL tb σ H ys) (hz : xs.length + ys.length ≤ 1000) : EvL (tOp rCat ta tb) σ H (xs ++ ys) := fun H1 e Q q =>
  h H1 e _ fun H2 e2 => h2 H2 (e.trans e2) _ fun p H3 _ e3 h3 => ⟨a, p, xs, ys, rfl, rfl, e3 a _ (e2 a _ (e a _ ha)), h3, sz_of (by omega), fun l hl => q l _ (fresh_back (e2.trans e3) hl) ((e2.trans e3).trans (Ex.new hl)) upd_same⟩
end
end Kit

set_option Elab.async false
set_option linter.all false
set_option maxRecDepth 100000
namespace Kit
open PySem PySem.Spec PyProof.Rows L2 Evl
def fac (n : Nat) : Nat := Builtin.Math.factorialNat n
theorem fac_succ (n : Nat) : fac (n + 1) = fac n * (n + 1) := PySem.W.mc_fac_succ n
theorem fac_pos (n : Nat) : 1 ≤ fac n := PySem.W.mc_fac_pos n
theorem fac_mono : ∀ {m n : Nat}, m ≤ n → fac m ≤ fac n := fun {m n} h => by
  induction h with
  | refl => exact Nat.le_refl _
  | step _ ih =>
    rw [Nat.succ_eq_add_one, fac_succ]
    exact Nat.le_trans ih (Nat.le_mul_of_pos_right _ (Nat.succ_pos _))
theorem fac20 : fac 20 < 2 ^ 64 := by decide +kernel
def rFac : List V → Hp → VK → Prop := fun vs H Q => ∃ n : Nat, vs = [.int (n : Int)] ∧ n ≤ 20000 ∧ Q (.int ((fac n : Nat) : Int)) H
section
variable {X : Cx}
theorem cr_factorial : CallR X (.builtin "math.factorial") rFac := by
  intro pins s σ H vs us Q I r h
  obtain ⟨n, rfl, hn, q⟩ := h
  cases r with
  | cons ru rt =>
    cases rt
    obtain ⟨t, rfl⟩ := ru
    refine PySem.W.mc_factorial (Int.natCast_nonneg n) (by omega) fun _ => ?_
    rw [Int.toNat_natCast]
    exact ⟨.int _, H, I.tok _, ⟨_, rfl⟩, q⟩
def rDivmod : List V → Hp → VK → Prop := fun xs H Q => ∃ i j, xs = [.int i, .int j] ∧ CDivP i j ∧ ∀ p, H p = none → Q (.ref p) (upd H p (.tup [.int (i / j), .int (i % j)]))
theorem call_divmodR : CallR X (.builtin "divmod") rDivmod := call_divmodW
end
section
variable {K : PySem.W.Frag} {σ : L2.St} {H : Hp} {ta tb te tl : TE} {D : Ends} {tu tz : TS}
theorem ev_fac {n : Nat} (h : Ev ta σ H (.int (n : Int))) (hn : n ≤ 20000) : Ev (tCB rFac (tCons ta tNil)) σ H (.int ((fac n : Nat) : Int)) := fun H1 e Q q => h H1 e _ fun H2 e2 => ⟨n, rfl, hn, q H2 e2⟩
theorem divp_small {i j : Int} (h : 0 < j) (hj : j.natAbs < 2 ^ 8000) : CDivP i j := ⟨h, PyProof.noPylong_of_log2 (by
  have h2 := (Nat.log2_lt (n := j.natAbs) (k := 8000) (by omega)).mpr hj
  omega)⟩
theorem eu_divmod {a b : Nat} (h : Ev ta σ H (.int (a : Int))) (h2 : Ev tb σ H (.int (b : Int))) (hb : 0 < b) (hb2 : b < 2 ^ 8000) : EvU (tCB rDivmod (tCons ta (tCons tb tNil))) σ H [.int ((a / b : Nat) : Int), .int ((a % b : Nat) : Int)] := fun H1 e Q q =>
  h H1 e _ fun H2 e2 => h2 H2 (e.trans e2) _ fun H3 e3 => ⟨a, b, rfl, divp_small (by omega) (by rw [Int.natAbs_natCast]; exact hb2), fun p hp => q p _ (fresh_back (e2.trans e3) hp) ((e2.trans e3).trans (Ex.new hp)) (by rw [upd_same, Int.natCast_ediv, Int.natCast_emod])⟩
end
end Kit

set_option Elab.async false
set_option linter.all false
set_option maxRecDepth 100000
set_option maxHeartbeats 4000000
namespace Kit
open PySem PySem.Spec PyProof.Rows L2 Evl
section
variable {K : PySem.W.Frag} {σ : L2.St} {H : Hp} {ta tb te tl : TE} {D : Ends} {tu tz : TS} {t : TT}
/-- for i in reversed(range(n)) -/
theorem s_forRev {j n : Nat} (h : Ev ta σ H (.int (n : Int))) (hn : n ≤ 40000) (Pv : Nat → L2.St → Hp → Prop) (h0 : ∀ H1, Ex H H1 → Pv 0 σ H1)
    (hs : ∀ (i : Nat) σ' H', i < n → Pv i σ' H' → tu { D with nx := Pv (i + 1), ct := Pv (i + 1), bk := D.nx } (σ'.set j (some (.int ((n - 1 - i : Nat) : Int)))) H') (hd : ∀ σ' H', Pv n σ' H' → D.nx σ' H') : tFor (iRevR (tRg1 ta)) (gName j) tu D σ H :=
  h H (Ex.refl H) _ fun H1 e => ⟨n, rfl, by
    have e0 : ((n : Int) - 0).toNat = n := by omega
    refine ⟨by omega, by omega, by omega, by omega, ?_⟩
    rw [e0]
    exact for_rangeC Pv (h0 H1 e) (fun i σ' H' hi p => by
      have e1 : (0 : Int) + (n : Int) - 1 + (i : Nat) * (-1) = ((n - 1 - i : Nat) : Int) := by omega
      rw [e1]
      exact hs i σ' H' hi p) hd⟩
theorem q_forRev {j n : Nat} (h : Ev ta σ H (.int (n : Int))) (hn : n ≤ 40000) (Pv : Nat → L2.St → Hp → Prop) (h0 : ∀ H1, Ex H H1 → Pv 0 σ H1)
    (hs : ∀ (i : Nat) σ' H', i < n → Pv i σ' H' → tu { D with nx := Pv (i + 1), ct := Pv (i + 1), bk := tz D } (σ'.set j (some (.int ((n - 1 - i : Nat) : Int)))) H') (hd : ∀ σ' H', Pv n σ' H' → tz D σ' H') : tSeq (tFor (iRevR (tRg1 ta)) (gName j) tu) tz D σ H := s_forRev (D := { D with nx := tz D }) h hn Pv h0 hs hd
/-- [a new tuple for i in range(lo, n)] -/
theorem elt_R2 {ta : TA} {j : Nat} {vs : List Nat} {lo n : Int} (f : Nat → List V) (h : EvA ta σ H [.int lo, .int n]) (hn : 0 ≤ lo ∧ lo ≤ 40000 ∧ -40000 ≤ n ∧ n ≤ 40000) (hw : ∀ x, wipe ((wipe σ vs).set j (some x)) vs = wipe σ vs)
    (he : ∀ (i : Nat) H1, Ex H H1 → lo + (i : Int) < n → EvU te ((wipe σ vs).set j (some (.int (lo + (i : Int))))) H1 (f i)) : EvLT (tLc (iRng2 ta) (gName j) tYes te vs) σ H ((List.range (n - lo).toNat).map f) := fun H0 e Q q => h H0 e _ fun H1 e1 => ⟨lo, n, rfl, ⟨by omega, by omega, by omega, by omega⟩, fun Dl hD =>
  lc_range (lo := lo) (n := (n - lo).toNat) (fun i H' => Ex H1 H' ∧ ∃ ws, H' Dl = some (.lst ws) ∧ TL H' ws ((List.range i).map f)) ⟨Ex.new hD, [], upd_same, .nil⟩ (fun i H' hi p => by
    obtain ⟨p1, ws, p2, p3⟩ := p
    show wipe ((wipe σ vs).set j (some (.int (lo + (i : Int))))) vs = wipe σ vs ∧ te ((wipe σ vs).set j (some (.int (lo + (i : Int))))) H' fun y H4 => ∃ acc, H4 Dl = some (.lst acc) ∧ acc.length < sizeLine ∧ _
    refine ⟨hw _, he i H1 (e.trans e1) (by omega) H' p1 _ fun p H4 hp e4 h4 => ⟨ws, e4 Dl _ p2, sz_lt (by
      have := p3.len
      simp at this
      omega), Ex.mut (p1.trans e4) hD, ws ++ [.ref p], upd_same, ?_⟩⟩
    rw [List.range_succ, List.map_append]
    exact ((p3.ex e4).app ⟨p, rfl, h4⟩).upd (e4 Dl _ p2)) (fun H' p => by
      obtain ⟨p1, ws, p2, p3⟩ := p
      exact q Dl ws H' (fresh_back e1 hD) (e1.trans p1) p2 p3)⟩
end
end Kit

set_option Elab.async false
set_option linter.all false
set_option maxRecDepth 100000
set_option maxHeartbeats 4000000
namespace Kit
open PySem PySem.Spec PyProof.Rows L2 Evl
/-! ### choosing -/
def cho : Nat → Nat → Nat
  | _, 0 => 1
  | 0, _ + 1 => 0
  | n + 1, k + 1 => cho n k + cho n (k + 1)
theorem fac_zero : fac 0 = 1 := rfl
theorem cho_zero (n : Nat) : cho n 0 = 1 := by cases n <;> rfl
theorem cho_gt : ∀ {n k : Nat}, n < k → cho n k = 0
  | 0, _ + 1, _ => rfl
  | n + 1, k + 1, h => by
    show cho n k + cho n (k + 1) = 0
    rw [cho_gt (by omega : n < k), cho_gt (by omega : n < k + 1)]
theorem cho_self : ∀ n : Nat, cho n n = 1
  | 0 => rfl
  | n + 1 => by
    show cho n n + cho n (n + 1) = 1
    rw [cho_self n, cho_gt (Nat.lt_succ_self n)]
theorem cho_next : ∀ n k : Nat, cho n (k + 1) * (k + 1) = cho n k * (n - k)
  | 0, k => by
    rw [Nat.zero_sub, Nat.mul_zero]
    show 0 * (k + 1) = 0
    rw [Nat.zero_mul]
  | n + 1, 0 => by
    have a := cho_next n 0
    show (cho n 0 + cho n 1) * (0 + 1) = cho (n + 1) 0 * (n + 1 - 0)
    rw [cho_zero, cho_zero] at *
    simp only [Nat.zero_add, Nat.mul_one, Nat.sub_zero, Nat.one_mul] at *
    omega
  | n + 1, k + 1 => by
    have a := cho_next n (k + 1)
    have b := cho_next n k
    show (cho n (k + 1) + cho n (k + 2)) * (k + 1 + 1) = (cho n k + cho n (k + 1)) * (n + 1 - (k + 1))
    rcases Nat.lt_or_ge k n with h | h
    · obtain ⟨d, rfl⟩ : ∃ d, n = k + 1 + d := ⟨n - (k + 1), by omega⟩
      rw [show k + 1 + d - (k + 1) = d by omega] at a
      rw [show k + 1 + d - k = d + 1 by omega] at b
      rw [show k + 1 + d + 1 - (k + 1) = d + 1 by omega]
      generalize cho (k + 1 + d) (k + 1) = x at *
      generalize cho (k + 1 + d) k = y at *
      generalize cho (k + 1 + d) (k + 1 + 1) = z at *
      grind
    · rw [show n + 1 - (k + 1) = 0 by omega, cho_gt (by omega : n < k + 1), cho_gt (by omega : n < k + 2)]
      simp
/-- k of n: n! = C(n, k) k! (n - k)! -/
theorem cho_fac : ∀ {n k : Nat}, k ≤ n → cho n k * (fac k * fac (n - k)) = fac n
  | n, 0, _ => by
    rw [cho_zero, Nat.sub_zero]
    rw [fac_zero]
    omega
  | n, k + 1, h => by
    have ih := cho_fac (n := n) (k := k) (by omega)
    have a := cho_next n k
    rw [show n - k = (n - (k + 1)) + 1 by omega, fac_succ] at ih
    rw [show n - k = n - (k + 1) + 1 by omega] at a
    rw [fac_succ]
    generalize fac (n - (k + 1)) = y at *
    generalize fac n = v at *
    generalize cho n (k + 1) = z at *
    generalize cho n k = x at *
    generalize fac k = u at *
    generalize n - (k + 1) = d at *
    have e : z * (u * (k + 1) * y) = z * (k + 1) * (u * y) := by grind
    rw [e, a, ← ih]
    grind
theorem cho_pos {n k : Nat} (h : k ≤ n) : 1 ≤ cho n k := by
  have a := cho_fac h
  have b := fac_pos n
  rcases Nat.eq_zero_or_pos (cho n k) with z | z
  · rw [z, Nat.zero_mul] at a
    omega
  · exact z
theorem cho_le : ∀ n k : Nat, cho n k ≤ 2 ^ n
  | n, 0 => by rw [cho_zero]; exact Nat.one_le_two_pow
  | 0, _ + 1 => Nat.zero_le _
  | n + 1, k + 1 => by
    have a := cho_le n k
    have b := cho_le n (k + 1)
    rw [Nat.pow_succ]
    show cho n k + cho n (k + 1) ≤ _
    omega
theorem fp_fac (n : Nat) : ∀ k : Nat, k ≤ n → Builtin.Math.fallingProduct (n : Int) k * (fac (n - k) : Int) = (fac n : Int)
  | 0, _ => by
    rw [PySem.W.mc_fp_zero, Nat.sub_zero, Int.one_mul]
  | k + 1, h => by
    have ih := fp_fac n k (by omega)
    rw [show n - k = n - (k + 1) + 1 by omega, fac_succ] at ih
    rw [PySem.W.mc_fp_succ, ← ih, show (n : Int) - (k : Int) = ((n - (k + 1) + 1 : Nat) : Int) by omega]
    push_cast
    generalize (fac (n - (k + 1)) : Int) = x
    generalize Builtin.Math.fallingProduct (n : Int) k = y
    grind
theorem fp_self (n : Nat) : Builtin.Math.fallingProduct (n : Int) n = (fac n : Int) := by
  have := fp_fac n n (Nat.le_refl _)
  rw [Nat.sub_self, fac_zero] at this
  simpa using this
theorem cho_sym {n k : Nat} (h : k ≤ n) : cho n k = cho n (n - k) := by
  have a := cho_fac h
  have b := cho_fac (n := n) (k := n - k) (by omega)
  rw [show n - (n - k) = k by omega, Nat.mul_comm (fac (n - k))] at b
  have p : 0 < fac k * fac (n - k) := Nat.mul_pos (fac_pos _) (fac_pos _)
  exact Nat.eq_of_mul_eq_mul_right p (a.trans b.symm)
theorem comb_cho (n k : Nat) : PySem.W.mcComb (n : Int) (k : Int) = (cho n k : Int) := by
  by_cases h : k ≤ n
  · have key : ∀ m : Nat, m ≤ n → Builtin.Math.fallingProduct (n : Int) m / Builtin.Math.fallingProduct (m : Int) m = (cho n m : Int) := fun m hm => by
      have a := fp_fac n m hm
      have b := cho_fac hm
      have f := fac_pos m
      have g := fac_pos (n - m)
      rw [fp_self]
      have e : Builtin.Math.fallingProduct (n : Int) m = (cho n m : Int) * (fac m : Int) := by
        refine Int.eq_of_mul_eq_mul_right (a := (fac (n - m) : Int)) (by omega) ?_
        rw [a, ← b]
        push_cast
        grind
      rw [e]
      exact Int.mul_ediv_cancel _ (by omega)
    rw [PySem.W.mcComb_at (m := ((min k (n - k) : Nat) : Int)) (by omega) (by omega) (by omega), Int.toNat_natCast, key _ (by omega)]
    rcases Nat.le_total k (n - k) with q | q
    · rw [Nat.min_eq_left q]
    · rw [Nat.min_eq_right q, ← cho_sym h]
  · rw [PySem.W.mcComb_above (by omega), cho_gt (by omega)]
    rfl
def prm (n k : Nat) : Int := PySem.W.mcPerm (n : Int) (k : Int)
theorem prm_fac {n k : Nat} (h : k ≤ n) : prm n k * (fac (n - k) : Int) = (fac n : Int) := by
  unfold prm
  rw [PySem.W.mcPerm_at (by omega), Int.toNat_natCast]
  exact fp_fac n k h
theorem prm_pos {n k : Nat} (h : k ≤ n) : 1 ≤ prm n k := PySem.W.mcPerm_pos (by omega) (by omega)
def rComb : List V → Hp → VK → Prop := fun vs H Q => ∃ n k : Nat, vs = [.int (n : Int), .int (k : Int)] ∧ n ≤ 10000 ∧ Q (.int (cho n k : Int)) H
def rPerm : List V → Hp → VK → Prop := fun vs H Q => ∃ n k : Nat, vs = [.int (n : Int), .int (k : Int)] ∧ n ≤ 10000 ∧ k ≤ 10000 ∧ Q (.int (prm n k)) H
section
variable {X : Cx}
theorem cr_comb : CallR X (.builtin "math.comb") rComb := by
  intro pins s σ H vs us Q I r h
  obtain ⟨n, k, rfl, hn, q⟩ := h
  cases r with
  | cons ru r2 =>
    cases r2 with
    | cons rv rt =>
      cases rt
      obtain ⟨t, rfl⟩ := ru
      obtain ⟨u, rfl⟩ := rv
      refine PySem.W.mc_comb_v (Int.natCast_nonneg n) (Int.natCast_nonneg k) (by omega) (by omega) (comb_cho n k) ?_
      exact ⟨.int _, H, I.tok _, ⟨_, rfl⟩, q⟩
theorem cr_perm : CallR X (.builtin "math.perm") rPerm := by
  intro pins s σ H vs us Q I r h
  obtain ⟨n, k, rfl, hn, hk, q⟩ := h
  cases r with
  | cons ru r2 =>
    cases r2 with
    | cons rv rt =>
      cases rt
      obtain ⟨t, rfl⟩ := ru
      obtain ⟨u, rfl⟩ := rv
      refine PySem.W.mc_perm_v (Int.natCast_nonneg n) (Int.natCast_nonneg k) (by omega) (by omega) rfl ?_
      exact ⟨.int _, H, I.tok _, ⟨_, rfl⟩, q⟩
end
section
variable {K : PySem.W.Frag} {σ : L2.St} {H : Hp} {ta tb te tl : TE} {D : Ends} {tu tz : TS}
theorem ev_comb {n k : Nat} (h : Ev ta σ H (.int (n : Int))) (h2 : Ev tb σ H (.int (k : Int))) (hn : n ≤ 10000) : Ev (tCB rComb (tCons ta (tCons tb tNil))) σ H (.int (cho n k : Int)) := fun H1 e Q q => h H1 e _ fun H2 e2 => h2 H2 (e.trans e2) _ fun H3 e3 => ⟨n, k, rfl, hn, q H3 (e2.trans e3)⟩
theorem ev_perm {n k : Nat} (h : Ev ta σ H (.int (n : Int))) (h2 : Ev tb σ H (.int (k : Int))) (hn : n ≤ 10000) (hk : k ≤ 10000) : Ev (tCB rPerm (tCons ta (tCons tb tNil))) σ H (.int (prm n k)) := fun H1 e Q q => h H1 e _ fun H2 e2 => h2 H2 (e.trans e2) _ fun H3 e3 => ⟨n, k, rfl, hn, hk, q H3 (e2.trans e3)⟩
/-- for x, y in zip(xs, ys): the pair is a new tuple -/
theorem s_forZip {ta : TA} {i j n : Nat} {a b : Addr} {xs ys : List V} (h : EvA ta σ H [.ref a, .ref b]) (hx : SqL K H a xs) (hy : SqL K H b ys) (hn : n = min xs.length ys.length) (Pv : Nat → L2.St → Hp → Prop) (h0 : ∀ H1, Ex H H1 → Pv 0 σ H1) (hl : ∀ k σ' H', k ≤ n → Pv k σ' H' → SqL K H' a xs ∧ SqL K H' b ys)
    (hs : ∀ k x y σ' H' H2, xs[k]? = some x → ys[k]? = some y → Pv k σ' H' → Ex H' H2 → tu { D with nx := Pv (k + 1), ct := Pv (k + 1), bk := D.nx } ((σ'.set i (some x)).set j (some y)) H2) (hd : ∀ σ' H', Pv n σ' H' → D.nx σ' H') :
    tFor (iZip K ta) (gTup K 2 (gCons (gName i) (gCons (gName j) gNil))) tu D σ H := h H (Ex.refl H) _ fun H1 e => ⟨a, b, xs, ys, rfl, ex_l e hx, ex_l e hy, by
  refine for_it (walk_zip (n := n) hn) Pv (h0 H1 e) (fun k σ' H' hk p => hl k σ' H' hk p) ?_ hd
  rintro k v σ' Hh H2 hk p ⟨T, x, y, rfl, nT, rfl, g1, g2⟩
  exact ⟨T, [x, y], rfl, st_of upd_same, rfl, x, [y], rfl, y, [], rfl, rfl, hs k x y σ' Hh _ g1 g2 p (Ex.new nT)⟩⟩
theorem q_forZip {ta : TA} {i j n : Nat} {a b : Addr} {xs ys : List V} (h : EvA ta σ H [.ref a, .ref b]) (hx : SqL K H a xs) (hy : SqL K H b ys) (hn : n = min xs.length ys.length) (Pv : Nat → L2.St → Hp → Prop) (h0 : ∀ H1, Ex H H1 → Pv 0 σ H1) (hl : ∀ k σ' H', k ≤ n → Pv k σ' H' → SqL K H' a xs ∧ SqL K H' b ys)
    (hs : ∀ k x y σ' H' H2, xs[k]? = some x → ys[k]? = some y → Pv k σ' H' → Ex H' H2 → tu { D with nx := Pv (k + 1), ct := Pv (k + 1), bk := tz D } ((σ'.set i (some x)).set j (some y)) H2) (hd : ∀ σ' H', Pv n σ' H' → tz D σ' H') :
    tSeq (tFor (iZip K ta) (gTup K 2 (gCons (gName i) (gCons (gName j) gNil))) tu) tz D σ H := s_forZip (D := { D with nx := tz D }) h hx hy hn Pv h0 hl hs hd
/-- [e for x, y in zip(xs, ys)], xs an old list, ys a new one -/
theorem el_zipO {i j : Nat} {vs : List Nat} {a : Addr} {xs ys : List V} (F : V → V → V) (h : Ev ta σ H (.ref a)) (hx : SqL K H a xs) (h2 : EvL tb σ H ys) (hl : xs.length = ys.length) (hz : xs.length ≤ 40000) (hw : ∀ x y, wipe (((wipe σ vs).set i (some x)).set j (some y)) vs = wipe σ vs)
    (he : ∀ (n : Nat) x y H1, Ex H H1 → xs[n]? = some x → ys[n]? = some y → Ev te (((wipe σ vs).set i (some x)).set j (some y)) H1 (F x y)) :
    EvL (tLc (iZip K (tCons ta (tCons tb tNil))) (gTup K 2 (gCons (gName i) (gCons (gName j) gNil))) tYes te vs) σ H (List.zipWith F xs ys) := fun H0 e Q q =>
  h H0 e _ fun H1 e1 => h2 H1 (e.trans e1) _ fun b H2 nb e2 hb => by
    have := el_zip (K := K) (H := H2) (ta := fun _ H' R => R [.ref a, .ref b] H') (te := te) (vs := vs) F (fun H3 _ Q q => q H3 (Ex.refl _)) (ex_l (e.trans (e1.trans e2)) hx) (sq_of hb) hl hz hw fun n x y H3 e3 g1 g2 => he n x y H3 (e.trans (e1.trans (e2.trans e3))) g1 g2
    exact this H2 (Ex.refl _) Q fun p H3 hp e3 h3 => q p H3 (fresh_back (e1.trans e2) hp) (e1.trans (e2.trans e3)) h3
end
end Kit

set_option Elab.async false
set_option linter.all false
set_option maxRecDepth 100000
set_option maxHeartbeats 4000000
namespace Kit
open PySem PySem.Spec PyProof.Rows L2 Evl
/-! ### dicts of whole numbers by whole numbers -/
def enc (ps : List (Int × Int)) : List (Key × V) := ps.map fun p => (.inl p.1, .int p.2)
def gI (ps : List (Int × Int)) (x : Int) : Int := ((ps.find? fun p => decide (p.1 = x)).map (·.2)).getD 0
def putI (ps : List (Int × Int)) (x v : Int) : List (Int × Int) := if ps.any (fun p => decide (p.1 = x)) then ps.map (fun p => if p.1 = x then (p.1, v) else p) else ps ++ [(x, v)]
theorem inl_eq (a x : Int) : decide ((Sum.inl a : Key) = .inl x) = decide (a = x) := by
  rw [Bool.eq_iff_iff, decide_eq_true_iff, decide_eq_true_iff]
  exact ⟨fun h => Sum.inl.inj h, fun h => by rw [h]⟩
theorem enc_val : ∀ (ps : List (Int × Int)) (x : Int), valV (enc ps) (.inl x) = ((ps.find? fun p => decide (p.1 = x)).map (·.2)).map V.int
  | [], _ => rfl
  | p :: r, x => by
    have ih := enc_val r x
    by_cases h : p.1 = x
    · rw [List.find?_cons_of_pos (by simpa using h)]
      exact valV_pos (by show (Sum.inl p.1 : Key) = .inl x; rw [h])
    · rw [List.find?_cons_of_neg (by simpa using h), ← ih]
      exact valV_neg fun z => h (Sum.inl.inj z)
theorem enc_get (ps : List (Int × Int)) (x : Int) : (valV (enc ps) (.inl x)).getD (.int 0) = .int (gI ps x) := by
  rw [enc_val]
  unfold gI
  cases (ps.find? fun p => decide (p.1 = x)).map (·.2) <;> rfl
theorem enc_put (ps : List (Int × Int)) (x v : Int) : putK (enc ps) (.inl x) (.int v) = enc (putI ps x v) := by
  have ea : ((enc ps).any fun kv => decide (kv.1 = .inl x)) = ps.any fun p => decide (p.1 = x) := by
    unfold enc
    rw [List.any_map]
    congr 1
    funext p
    exact inl_eq p.1 x
  unfold putK putI
  rw [ea]
  split
  · unfold enc
    rw [List.map_map, List.map_map]
    refine List.map_congr_left fun p _ => ?_
    show (if (Sum.inl p.1 : Key) = .inl x then _ else _) = _
    by_cases h : p.1 = x
    · rw [if_pos (by rw [h])]
      show _ = (Sum.inl (if p.1 = x then (p.1, v) else p).1, V.int (if p.1 = x then (p.1, v) else p).2)
      rw [if_pos h]
    · rw [if_neg fun z => h (Sum.inl.inj z)]
      show _ = (Sum.inl (if p.1 = x then (p.1, v) else p).1, V.int (if p.1 = x then (p.1, v) else p).2)
      rw [if_neg h]
  · unfold enc
    rw [List.map_append]
    rfl
theorem put_keys (ps : List (Int × Int)) (x v : Int) : (putI ps x v).map (·.1) = if x ∈ ps.map (·.1) then ps.map (·.1) else ps.map (·.1) ++ [x] := by
  have hm : (ps.any fun p => decide (p.1 = x)) = true ↔ x ∈ ps.map (·.1) := by
    rw [List.any_eq_true, List.mem_map]
    exact ⟨fun ⟨p, h, e⟩ => ⟨p, h, of_decide_eq_true e⟩, fun ⟨p, h, e⟩ => ⟨p, h, decide_eq_true e⟩⟩
  unfold putI
  by_cases h : x ∈ ps.map (·.1)
  · rw [if_pos h, if_pos (hm.mpr h), List.map_map]
    refine List.map_congr_left fun p _ => ?_
    show (if p.1 = x then (p.1, v) else p).1 = p.1
    split <;> rfl
  · rw [if_neg h, if_neg fun z => h (hm.mp z), List.map_append]
    rfl
theorem put_nodup {ps : List (Int × Int)} (h : (ps.map (·.1)).Nodup) (x v : Int) : ((putI ps x v).map (·.1)).Nodup := by
  rw [put_keys]
  split
  · exact h
  · rename_i n
    exact List.nodup_append.mpr ⟨h, by simp, fun a ha b hb => by
      rw [List.mem_singleton.mp hb]
      intro z
      exact n (z ▸ ha)⟩
theorem put_len (ps : List (Int × Int)) (x v : Int) : (putI ps x v).length ≤ ps.length + 1 := by
  unfold putI
  split
  · rw [List.length_map]
    omega
  · simp
theorem gI_nil (x : Int) : gI [] x = 0 := rfl
theorem gI_eq {ps : List (Int × Int)} {x : Int} : V.int (gI ps x) = (valV (enc ps) (.inl x)).getD (.int 0) := (enc_get ps x).symm
theorem gI_put (ps : List (Int × Int)) (x v y : Int) : gI (putI ps x v) y = if y = x then v else gI ps y := by
  have h := enc_get (putI ps x v) y
  rw [← enc_put, valV_put] at h
  have e : V.int (gI (putI ps x v) y) = V.int (if y = x then v else gI ps y) := by
    rw [← h]
    by_cases z : y = x
    · rw [if_pos (by rw [z]), if_pos z]
      rfl
    · rw [if_neg fun w => z (Sum.inl.inj w), if_neg z, enc_get]
  exact V.int.inj e
theorem gI_no {ps : List (Int × Int)} {x : Int} (h : x ∉ ps.map (·.1)) : gI ps x = 0 := by
  unfold gI
  have : (ps.find? fun p => decide (p.1 = x)) = none := List.find?_eq_none.mpr fun p hp z => h (List.mem_map.mpr ⟨p, hp, of_decide_eq_true z⟩)
  rw [this]
  rfl
theorem gI_sum : ∀ {ps : List (Int × Int)} (s : Int), (ps.map (·.1)).Nodup → (ps.map fun p => if p.1 = s then p.2 else 0).sum = gI ps s
  | [], _, _ => rfl
  | p :: r, s, h => by
    rw [List.map_cons, List.nodup_cons] at h
    rw [List.map_cons, List.sum_cons, gI_sum s h.2]
    by_cases z : p.1 = s
    · rw [if_pos z, gI_no (z ▸ h.1)]
      unfold gI
      rw [List.find?_cons_of_pos (by simpa using z)]
      show p.2 + 0 = p.2
      omega
    · rw [if_neg z]
      unfold gI
      rw [List.find?_cons_of_neg (by simpa using z)]
      omega
theorem val_at {ps : List (Int × Int)} {i : Nat} {a v : Int} (h : ps[i]? = some (a, v)) (nd : (ps.map (·.1)).Nodup) : valV (enc ps) (.inl a) = some (.int v) := by
  rw [enc_val]
  have : (ps.find? fun p => decide (p.1 = a)) = some (a, v) := by
    induction ps generalizing i with
    | nil => simp at h
    | cons p r ih =>
      rw [List.map_cons, List.nodup_cons] at nd
      cases i with
      | zero =>
        have : p = (a, v) := by simpa using h
        subst this
        exact List.find?_cons_of_pos (by simp)
      | succ i =>
        have h' : r[i]? = some (a, v) := by simpa using h
        have : p.1 ≠ a := fun z => nd.1 (z ▸ List.mem_map.mpr ⟨(a, v), List.mem_of_getElem? h', rfl⟩)
        rw [List.find?_cons_of_neg (by simpa using this)]
        exact ih h' nd.2
  rw [this]
  rfl
section
variable {K : PySem.W.Frag} {σ : L2.St} {H : Hp} {ta tb tc te td : TE} {D : Ends} {tu tz : TS} {ps : List (Int × Int)} {x v : Int}
theorem ev_getI {a : Addr} (h : Ev ta σ H (.ref a)) (hx : Ev tb σ H (.int x)) (h0 : Ev tc σ H (.int 0)) (ha : H a = some (.dK (enc ps))) : Ev (tDGet2 ta tb tc) σ H (.int (gI ps x)) := fun H1 e Q q =>
  h H1 e _ fun H2 e2 => ⟨a, rfl, .inl ⟨_, .inl (e2 a _ (e a _ ha))⟩, hx H2 (e.trans e2) _ fun H3 e3 => h0 H3 (e.trans (e2.trans e3)) _ fun H4 e4 => ⟨_, DGet.k (k := .inl x) (e4 a _ (e3 a _ (e2 a _ (e a _ ha)))), by
    rw [enc_get]
    exact q H4 (e2.trans (e3.trans e4))⟩⟩
theorem s_putI {a : Addr} (h : Ev ta σ H (.ref a)) (hx : Ev tb σ H (.int x)) (hv : Ev te σ H (.int v)) (ha : H a = some (.dK (enc ps))) (hl : ps.length < 10000) (k : ∀ H1, Ex H H1 → D.nx σ (upd H1 a (.dK (enc (putI ps x v))))) : sDPut ta tb te D σ H :=
  hv H (Ex.refl _) _ fun H1 e1 => h H1 e1 _ fun H2 e2 => hx H2 (e1.trans e2) _ fun H3 e3 => ⟨a, _, rfl, DPut.k (k := .inl x) (e3 a _ (e2 a _ (e1 a _ ha))) (sz_lt (by unfold enc; rw [List.length_map]; omega)), by
    rw [enc_put]
    exact k H3 (e1.trans (e2.trans e3))⟩
theorem q_putI {a : Addr} (h : Ev ta σ H (.ref a)) (hx : Ev tb σ H (.int x)) (hv : Ev te σ H (.int v)) (ha : H a = some (.dK (enc ps))) (hl : ps.length < 10000) (k : ∀ H1, Ex H H1 → tz D σ (upd H1 a (.dK (enc (putI ps x v))))) : tSeq (sDPut ta tb te) tz D σ H := s_putI (D := { D with nx := tz D }) h hx hv ha hl k
theorem q_dnewI {i : Nat} (k : ∀ p H1, H p = none → Ex H H1 → H1 p = some (.dK (enc [])) → tz D (σ.set i (some (.ref p))) H1) : tSeq (tAsg tDNewK (gName i)) tz D σ H := fun p hp => k p _ hp (Ex.new hp) upd_same
theorem q_dispI {i : Nat} (hk : Ev ta σ H (.int x)) (hv : Ev tb σ H (.int v)) (k : ∀ p H1, H p = none → Ex H H1 → H1 p = some (.dK (enc [(x, v)])) → tz D (σ.set i (some (.ref p))) H1) : tSeq (tAsg (tDisp [(ta, tb)]) (gName i)) tz D σ H := fun p hp => hk _ (Ex.new hp) _ fun H1 e1 => hv H1 ((Ex.new hp).trans e1) _ fun H2 e2 =>
  ⟨e2 p _ (e1 p _ upd_same), [(.inl x, .int v)], rfl, Nat.le_of_ble_eq_true rfl, k p _ hp (Ex.mut ((Ex.new hp).trans (e1.trans e2)) hp) upd_same⟩
theorem ev_dgetL {a : Addr} {o : Obj} {i : Nat} (h : Ev ta σ H (.ref a)) (hx : Ev tb σ H (.int x)) (ha : H a = some (.frz o (.dK (enc ps)))) (hi : ps[i]? = some (x, v)) (nd : (ps.map (·.1)).Nodup) : Ev (tDGet ta tb) σ H (.int v) := fun H1 e Q q =>
  h H1 e _ fun H2 e2 => hx H2 (e.trans e2) _ fun H3 e3 => ⟨a, .int v, rfl, .inl ⟨enc ps, .inl x, .inr ⟨o, e3 a _ (e2 a _ (e a _ ha))⟩, rfl, (val_at hi nd).symm⟩, q H3 (e2.trans e3)⟩
/-- for x in a dict -/
theorem s_forKeys {j : Nat} {d : Addr} (h : ∀ H1, Ev td σ H1 (.ref d)) (hd : H d = some (.dK (enc ps))) (Pv : Obj → Nat → L2.St → Hp → Prop) (h0 : ∀ o H1, Ex (upd H d (.frz o (.dK (enc ps)))) H1 → Pv o 0 σ H1) (hl : ∀ o k σ' H', k ≤ ps.length → Pv o k σ' H' → H' d = some (.frz o (.dK (enc ps))))
    (hs : ∀ o k a v σ' H', ps[k]? = some (a, v) → Pv o k σ' H' → tu { nx := Pv o (k + 1), ct := Pv o (k + 1), bk := fun σ' H' => H' d = some (.frz o (.dK (enc ps))) ∧ D.nx σ' (upd H' d (.dK (enc ps))), rt := fun v H' => H' d = some (.frz o (.dK (enc ps))) ∧ D.rt v (upd H' d (.dK (enc ps))) } (σ'.set j (some (.int a))) H')
    (he : ∀ o σ' H', Pv o ps.length σ' H' → D.nx σ' (upd H' d (.dK (enc ps)))) : tLock (tFor (iKeys td) (gName j) tu) D σ H := ⟨d, .dK (enc ps), hd, True.intro, fun o => h _ _ (Ex.refl _) _ fun H1 e => ⟨d, o, rfl, .inl ⟨enc ps, e d _ upd_same, by
  have le : (enc ps).length = ps.length := List.length_map ..
  refine for_it walk_keys (Pv o) (h0 o H1 e) (fun k σ' H' hk p => hl o k σ' H' (by omega) p) ?_ (fun σ' H' p => by
    rw [le] at p
    exact ⟨hl o _ σ' H' (Nat.le_refl _) p, he o σ' H' p⟩)
  rintro k v σ' Hh H2 hk p ⟨rfl, key, x, g1, rfl⟩
  unfold enc at g1
  rw [List.getElem?_map] at g1
  obtain ⟨q, hq, eq⟩ := Option.map_eq_some_iff.mp g1
  cases eq
  exact hs o k q.1 q.2 σ' _ hq p⟩⟩⟩
theorem q_forKeys {j : Nat} {d : Addr} (h : ∀ H1, Ev td σ H1 (.ref d)) (hd : H d = some (.dK (enc ps))) (Pv : Obj → Nat → L2.St → Hp → Prop) (h0 : ∀ o H1, Ex (upd H d (.frz o (.dK (enc ps)))) H1 → Pv o 0 σ H1) (hl : ∀ o k σ' H', k ≤ ps.length → Pv o k σ' H' → H' d = some (.frz o (.dK (enc ps))))
    (hs : ∀ o k a v σ' H', ps[k]? = some (a, v) → Pv o k σ' H' → tu { nx := Pv o (k + 1), ct := Pv o (k + 1), bk := fun σ' H' => H' d = some (.frz o (.dK (enc ps))) ∧ tz D σ' (upd H' d (.dK (enc ps))), rt := fun v H' => H' d = some (.frz o (.dK (enc ps))) ∧ D.rt v (upd H' d (.dK (enc ps))) } (σ'.set j (some (.int a))) H')
    (he : ∀ o σ' H', Pv o ps.length σ' H' → tz D σ' (upd H' d (.dK (enc ps)))) : tSeq (tLock (tFor (iKeys td) (gName j) tu)) tz D σ H := s_forKeys (D := { D with nx := tz D }) h hd Pv h0 hl hs he
end
end Kit

set_option Elab.async false
set_option linter.all false
set_option maxRecDepth 100000
set_option maxHeartbeats 4000000
namespace Kit
open PySem PySem.Spec PyProof.Rows L2 Evl
theorem slot_type_neR : Slot "type" (cmpInfo .NotEq).2.2 "object.__ne__" :=
  .of (owner := "object") (n := "__ne__") (by rw [typeLookup_type, builtinLookup_eq_fast]; kernel_rfl) (by decide +kernel) (by decide +kernel) (by decide +kernel)
    (by first | exact .inl (by decide +kernel) | exact .inr (by decide +kernel)) (by rw [isSubtype_type]; kernel_rfl)
section
variable {M : Model} {A : Around} {E : Value → Shared → Prop} {s : Shared}
theorem ne_decline {a b : Value} {T id : String} {k : Bool} {Q : Value → Shared → Prop} (ta : ∀ s' : Shared, s'.TypeIs a T) (tb : ∀ s' : Shared, s'.TypeIs b T) (l1 : Slot T (cmpInfo .NotEq).2.1 id) (l2 : Slot T (cmpInfo .NotEq).2.2 id)
    (nh : [a, b].any Value.onHeap = false) (same : isSame a b = pure k) (go : wpAny M A (call (.builtin id) [a, b]) (fun v t => v = .notImplemented ∧ wpAny M A (call (.builtin id) [b, a]) (fun v t2 => v = .notImplemented ∧ Q (.bool (!k)) t2) E t) E s) :
    wpAny M A (richCompare .NotEq a b) Q E s := by
  rcases eq : cmpInfo CmpOp.NotEq with ⟨n1, n2, n3⟩
  rw [eq] at l1 l2
  simp only [richCompare, eq, (ta s).oneThing_none]
  try with_reducible refine wpAny_holding ?_
  refine wpAny_bind (wpAny_cRoomFor_or (.inl nh) (wpAny_bind (wpAny_typeOf (ta s) (wpAny_bind (wpAny_typeOf (tb s) ?_)))))
  simp only [bne_self_eq_false, Bool.false_eq_true, if_false, pure_bind, Bool.not_false, if_true]
  refine wpAny_bind (m := tryCompare a _ b) (wpAny_tryCompare_declines (ta s) l1 (wpAny_mono go (fun v t z => ⟨z.1, ?_⟩) fun _ _ x => x))
  refine wpAny_bind (m := tryCompare b _ a) (wpAny_tryCompare_declines (tb t) l2 (wpAny_mono z.2 (fun v t2 z2 => ⟨z2.1, ?_⟩) fun _ _ x => x))
  refine wpAny_bind (wpAny_rule (wpAny_bind (wpAny_of_eq same (wpAny_pure z2.2))))
end
section
variable {prog : Program} {w : World} {A : Around} {E : Value → Shared → Prop} {s : Shared} {Q : Value → Shared → Prop}
theorem obj_ne_other {X Y : String} (hX : ∀ s' : Shared, s'.TypeIs (.type X) "type") (ne : (Value.type X == Value.type Y) = false) (hu : A.units + 1 < cLine) (h : Q .notImplemented s) : wpAny (model prog w) A (call (.builtin "object.__ne__") [.type X, .type Y]) Q E s := by
  refine wpAny_call_entry slot_type_ne (hX s) PySem.F.cmpEntry_ne ?_ (PySem.F.cmpArgs_ne _ _)
  unfold Builtin.«object.__ne__»
  have key : wpAny (model prog w) A.in1 (call (.builtin "object.__eq__") [.type X, .type Y]) (fun v s' => v = .notImplemented ∧ s' = s) E s :=
    call_gives slot_type_eqN (hX s) F.entry_object_eq (F.args_object_eq_2 _ _) (PySem.TypeEq.object_eq_other rfl ne) ⟨rfl, rfl⟩
  repeat (first
    | with_reducible refine wpAny_cRoomFor (by show A.units + 1 < cLine; exact hu) ?_
    | (refine wpAny_bind (m := callSpecialIfBound? (.type X) (Str.ofString "__eq__") [.type Y])
        (wpAny_callSpecialIfBound?_slot (hX _) slot_type_eqN (wpAny_mono key (fun r s' hr => by
          obtain ⟨rfl, rfl⟩ := hr
          have hq : Q .notImplemented s' := h
          repeat (first | exact hq | exact ⟨_, rfl, hq⟩ | exact wpAny_pure hq | wp_step)) fun _ _ e => e)))
    | wp_step)
theorem ne_type_other {X Y : String} (hX : ∀ s' : Shared, s'.TypeIs (.type X) "type") (hY : ∀ s' : Shared, s'.TypeIs (.type Y) "type") (ne : (Value.type X == Value.type Y) = false) (hu : A.units + 1 < cLine) (h : Q (.bool true) s) : wpAny (model prog w) A (compareOp .NotEq (.type X) (.type Y)) Q E s := by
  have ne' : (Value.type Y == Value.type X) = false := by
    rw [beq_eq_false_iff_ne] at ne ⊢
    exact fun z => ne z.symm
  show wpAny _ A (richCompare .NotEq _ _) Q E s
  exact ne_decline (T := "type") (k := false) hX hY slot_type_ne slot_type_neR rfl (by rw [isSame_plain rfl, ne]) (obj_ne_other hX ne hu ⟨rfl, obj_ne_other hY ne' hu ⟨rfl, h⟩⟩)
end
end Kit

set_option Elab.async false
set_option linter.all false
set_option maxRecDepth 100000
set_option maxHeartbeats 4000000
namespace Kit
open PySem PySem.Spec PyProof.Rows L2 Evl
theorem meets_enum_new1 {v : Value} {o : Obj} {H : Heap → Prop} (B : Begins v o H) :
    Meets (Builtin.«enumerate.__new__» ⟨[.type "enumerate", v], []⟩) (fun _ R s => H s.heap ∧
      R (.ok (.ret (.ref (s.heap.push o).objs.size))) { s with heap := (s.heap.push o).push { cls := .type "enumerate", data := .fields #[.none, .bool false, .ref s.heap.objs.size, rawInt 0, .none, .none] } }) :=
  .of_wp fun prog w A R s h => by
    obtain ⟨hp, g, d, tk, os⟩ := s; obtain ⟨h1, h⟩ := h
    have hsub := sub_enumerate
    have q1 : ∀ {A' : Around} {E : Value → Shared → Prop} {Q : Value → Shared → Prop}, Q (.ref hp.objs.size) ⟨hp.push o, g, d, tk, os⟩ → wpAny (model prog w) A' (pyIter v) Q E ⟨hp, g, d, tk, os⟩ :=
      fun q => B.iter prog w _ _ ⟨hp, g, d, tk, os⟩ _ h1 q
    wp_walk using q1
    refine wpAny_stack_any fun st => wpAny_pure ?_
    split
    · rename_i c _ _ _ _ _
      cases (c == Value.type "enumerate")
      · wp_walk using q1
        exact ⟨_, rfl, h⟩
      · wp_walk using q1
        exact ⟨_, rfl, h⟩
    · wp_walk using q1
      exact ⟨_, rfl, h⟩
section
variable {prog : Program} {w : World} {A : Around} {E : Value → Shared → Prop} {s : Shared}
theorem enum_begins1 {v : Value} {o : Obj} {H : Heap → Prop} {Q : Value → Shared → Prop} (B : Begins v o H) (h1 : H s.heap)
    (h : ∀ h', IsEnum h' (s.heap.objs.size + 1) s.heap.objs.size 0 .none → h'.get? s.heap.objs.size = some o → h'.objs.size = s.heap.objs.size + 2 →
      (∀ b o, s.heap.get? b = some o → h'.get? b = some o) → Q (.ref (s.heap.objs.size + 1)) { s with heap := h' }) :
    wpAny (model prog w) A (call (.type "enumerate") [v]) Q E s := by
  refine callType_new F.called_enumerate (by decide) (F.typeCall_enumerate_1 _) (F.newCall_enumerate_1 _) (fun obj => F.args_object_init_2 obj _) F.entry_enumerate_new
    (meets_enum_new1 B) ⟨h1, ?_⟩
  have hz : (s.heap.push o).objs.size = s.heap.objs.size + 1 := Heap.size_push ..
  show _ ∧ _
  rw [hz]
  have he : IsEnum ((s.heap.push o).push { cls := .type "enumerate", data := .fields #[.none, .bool false, .ref s.heap.objs.size, rawInt 0, .none, .none] }) (s.heap.objs.size + 1) s.heap.objs.size 0 .none := by
    have := Heap.get?_push_size (s.heap.push o) (o := { cls := .type "enumerate", data := .fields #[.none, .bool false, .ref s.heap.objs.size, rawInt 0, .none, .none] }) rfl
    rw [hz] at this; exact this
  refine ⟨⟨_, he, rfl⟩, h _ he (Heap.get?_push_of_some _ (Heap.get?_push_size _ B.free)) (by rw [Heap.size_push, hz]) fun b o x => Heap.get?_push_of_some _ (Heap.get?_push_of_some _ x)⟩
end
end Kit

set_option Elab.async false
set_option linter.all false
set_option maxRecDepth 100000
set_option maxHeartbeats 4000000
namespace Kit
open PySem PySem.Spec PyProof.Rows L2 Evl
/-- the tuple at a, each item in a new pair -/
def IteT (K : PySem.W.Frag) (a : Addr) : It :=
  ⟨fun i H => ∃ (xs : List V) (x : V), SqT K H a xs ∧ xs[i]? = some x, fun i H v H' => ∃ T x, v = .ref T ∧ H T = none ∧ H' = upd H T (.tup [.int (i : Nat), x]) ∧ ∀ xs, SqT K H a xs → xs[i]? = some x, fun i H => ∃ xs : List V, SqT K H a xs ∧ xs.length = i⟩
theorem enum_ne {h : Heap} {e it t : Addr} {i : Int} {old : Value} {vs : Array Value} (he : IsEnum h e it i old) (ht : h.IsTuple t vs) : e ≠ t := fun z => by
  subst z
  obtain ⟨o, ho, hc, _⟩ := ht
  have he' : h.get? e = _ := he
  rw [he'] at ho
  cases ho
  exact absurd hc (by show ¬ (Value.type "enumerate" = Value.type "tuple"); decide +kernel)
theorem turn_enumT {P : Program} {w : World} {K : PySem.W.Frag} {elts : List Expr} {kk : Nat} {tpos : Pos} (a e it : Addr) :
    Turn P w K (.Tuple elts kk tpos) (IteT K a) [e, it] e (fun i h => (∃ old, IsEnum h e it ((i : Nat) : Int) old) ∧ h.IsTupleIter it a i ∧ e ≠ it) where
  mem := by simp
  obj := fun i h st b hb => by
    obtain ⟨⟨old, he⟩, ⟨o, ho, hc, hd⟩, _⟩ := st
    have e' : b = e ∨ b = it := by simpa using hb
    rcases e' with z | z
    · rw [z]; exact ⟨_, he, fun v q => nomatch q⟩
    · rw [z]; exact ⟨o, ho, fun v q => by rw [hd] at q; cases q⟩
  keep := fun i h h' st k => by
    obtain ⟨⟨old, he⟩, ⟨o, ho, hr⟩, hne⟩ := st
    exact ⟨⟨old, k e (by simp) _ he⟩, ⟨o, k it (by simp) o ho, hr⟩, hne⟩
  item := by
    intro X hP hw hK hc i pins s σ H E I hf st hg
    subst hP hw hK
    obtain ⟨⟨old, he⟩, hit, hne⟩ := st
    obtain ⟨xs, x, hq, hx⟩ := hg
    obtain ⟨its, rv, p, hz⟩ := I.tuple hq
    obtain ⟨u, hu, ru⟩ := rv.get hx
    have hel : e < s.heap.objs.size := Heap.lt_size he
    have hil : it < s.heap.objs.size := by obtain ⟨_, q, _⟩ := hit; exact Heap.lt_size q
    have pT : s.heap.IsTuple a its.toArray := p
    have nea : e ≠ a := enum_ne he pT
    have nit : a ≠ it := fun z => by
      subst z
      obtain ⟨o, ho, hc', _⟩ := pT
      obtain ⟨o', ho', hc'', _⟩ := hit
      rw [ho] at ho'
      cases ho'
      rw [hc'] at hc''
      exact absurd hc'' (by decide +kernel)
    have hlt : i < its.toArray.size := by
      have := (List.getElem?_eq_some_iff.mp hu).1
      simpa using this
    refine wpAny_pyNext_enum_itemD (Draws.tuple (by exact I.ok.hd hc) it a nit its.toArray) he ⟨hit, pT⟩ hlt hne (by simp [hne, nea]) fun x' h' tk hx' ho hst' hT hsz hk => ?_
    have eu : u = x' := by
      have : its[i]? = some x' := by simpa using hx'
      rw [hu] at this
      exact Option.some.inj this
    subst eu
    refine ⟨_, rfl, wpAny_letOwnedTupleGo_enum (s := { s with heap := h', toks := tk + 1 }) ho fun h'' he' sb => ?_⟩
    have hT2 : h''.get? s.heap.objs.size = some { cls := .type "tuple", data := .seq #[.int i tk, u] } := (sb.2 _ (Nat.ne_of_gt hel)).trans hT
    have new : ObjOk X.prog X.w (upd H s.heap.objs.size (.tup [.int (i : Nat), x])) h'' s.heap.objs.size (.tup [.int (i : Nat), x]) :=
      ⟨by show 2 ≤ sizeLine; decide, [.int i tk, u], .cons ⟨_, rfl⟩ (.cons ru .nil), ⟨_, hT2, rfl, _, rfl⟩⟩
    have I1 : Inv X pins σ (upd H s.heap.objs.size (.tup [.int (i : Nat), x])) { s with heap := h'', toks := tk + 1 } :=
      I.turnedNew (ch := [e, it]) (fun b ob hb q => (sb.2 b (fun z => hb (by simp [z]))).trans (hk b ob (fun z => hb (by simp [z])) (fun z => hb (by simp [z])) q)) hf (Nat.le_refl _) new
    refine ⟨.ref s.heap.objs.size, _, I1, rfl, ⟨_, x, rfl, I.hok.fresh (Nat.le_refl _), rfl, fun ys hy => by rw [I.tuple_inj hy hq]; exact hx⟩, ⟨⟨u, ?_⟩, ?_, hne⟩, fun b hb => ?_⟩
    · have e1 : ((i + 1 : Nat) : Int) = (i : Int) + 1 := by omega
      rw [e1]; exact he'
    · obtain ⟨o, q, r⟩ := hst'.1
      exact ⟨o, (sb.2 it (Ne.symm hne)).trans q, r⟩
    · have hb' : b < s.heap.objs.size := by
        have e' : b = e ∨ b = it := by simpa using hb
        rcases e' with z | z
        · rw [z]; exact hel
        · rw [z]; exact hil
      rw [upd_ne (Nat.ne_of_lt hb')]
      exact (hf b hb).1
  done := by
    intro X hP hw hK hc i pins s σ H E I hf st hg
    subst hP hw hK
    obtain ⟨⟨old, he⟩, hit, hne⟩ := st
    obtain ⟨xs, hq, hx⟩ := hg
    obtain ⟨its, rv, p, hz⟩ := I.tuple hq
    obtain ⟨f0, f1, f2, f3, f4, f5⟩ := hf it (by simp)
    have hl := rv.length
    have pT : s.heap.IsTuple a its.toArray := p
    have nit : a ≠ it := fun z => by
      subst z
      obtain ⟨o, ho, hc', _⟩ := pT
      obtain ⟨o', ho', hc'', _⟩ := hit
      rw [ho] at ho'
      cases ho'
      rw [hc'] at hc''
      exact absurd hc'' (by decide +kernel)
    have hn : its.toArray.size = i := by
      rw [← hx, hl]
      simp
    subst hn
    exact wpAny_pyNext_enum_endD (Draws.tuple (by exact I.ok.hd hc) it a nit its.toArray) he ⟨hit, pT⟩ fun h' eb => ⟨rfl, I.turned (t' := s.toks) (fun b o hb q => eb b o hb q) f0 f1 f3 f4 f5⟩
  self := fun A i s Q E st h => let ⟨⟨_, he⟩, _⟩ := st; wpAny_pyIter_enum he h
def iEnumS (K : PySem.W.Frag) (ta : TA) : TI := fun σ H R => ta σ H fun vs H1 => ∃ a xs, vs = [.ref a] ∧ ((SqL K H1 a xs ∧ R (Ite K a) H1) ∨ (SqT K H1 a xs ∧ R (IteT K a) H1))
theorem pi_enumS {X : Cx} {e : Expr} {ta : TA} {p pos tpos : Pos} {elts : List Expr} {kk : Nat} (hg : Gl X "enumerate") (hm : X.mg "enumerate" = none) (ha : PA X [e] ta) (hs : starEach [e] X.env = [(false, eval e X.env)] := by rfl) :
    PI X (.Tuple elts kk tpos) (.Call (.Name "enumerate" p) [e] [] pos) (iEnumS X.K ta) := by
  refine ⟨fun pins s σ H R I h => ?_⟩
  refine Call_ (ld_blt I hg hm boot_enumerate (PyProof.Rows.callWith_type1 (thn (ha.run pos pins s σ H _ I h) fun us s1 ⟨vs, H1, I1, r1, q1⟩ => ?_) hs rfl))
  obtain ⟨a, xs, ex, q1⟩ := q1
  subst ex
  cases r1 with
  | cons r rr =>
    cases rr
    cases r
    have fin : ∀ (h' : Heap) (itx : Addr), itx = s1.heap.objs.size → (∀ b o, s1.heap.get? b = some o → h'.get? b = some o) → ∀ b ∈ [s1.heap.objs.size + 1, itx], FpOk X pins H1 b := fun h' itx ei hk b hb => by
      have hle : s1.heap.objs.size ≤ b := by
        have e' : b = s1.heap.objs.size + 1 ∨ b = itx := by simpa using hb
        rcases e' with z | z
        · rw [z]; exact Nat.le_add_right _ _
        · rw [z, ei]; exact Nat.le_refl _
      exact I1.fpOk hle (I1.hok.fresh hle)
    rcases q1 with ⟨hq, q⟩ | ⟨hq, q⟩
    · obtain ⟨its, rv, p', hz⟩ := I1.list hq
      refine call_enumerate_list p'.isList fun h' he hit hsz hk => wpAny_pyIter_enum he ?_
      have I2 : Inv X pins σ H1 { s1 with heap := h' } := I1.kept (t' := s1.toks) hk
      exact ⟨s1.heap.objs.size + 1, [s1.heap.objs.size + 1, s1.heap.objs.size], _, _, H1, rfl, I2, turn_enum a (s1.heap.objs.size + 1) s1.heap.objs.size, ⟨⟨.none, he⟩, hit, Nat.succ_ne_self _⟩, fin h' _ rfl hk, q⟩
    · obtain ⟨its, rv, p', hz⟩ := I1.tuple hq
      refine enum_begins1 (begins_tuple a its.toArray) (show s1.heap.IsTuple a its.toArray from p') fun h' he hit hsz hk => wpAny_pyIter_enum he ?_
      have I2 : Inv X pins σ H1 { s1 with heap := h' } := I1.kept (t' := s1.toks) hk
      exact ⟨s1.heap.objs.size + 1, [s1.heap.objs.size + 1, s1.heap.objs.size], _, _, H1, rfl, I2, turn_enumT a (s1.heap.objs.size + 1) s1.heap.objs.size, ⟨⟨.none, he⟩, ⟨_, hit, rfl, rfl⟩, Nat.succ_ne_self _⟩, fin h' _ rfl hk, q⟩
theorem walk_enumT {K : PySem.W.Frag} {a : Addr} {xs : List V} : Walk (IteT K a) xs.length (fun H => SqT K H a xs) (YPair (fun i => some (.int (i : Nat))) (fun i => xs[i]?)) := by
  refine ⟨fun i _ hi q => ⟨xs, xs[i], q, by simp [hi]⟩, fun _ q => ⟨xs, q, rfl⟩, fun i H v H' _ q y => ?_⟩
  obtain ⟨T, x, h1, h2, h3, h4⟩ := y
  exact ⟨T, .int (i : Nat), x, h1, h2, h3, rfl, h4 xs q⟩
section
variable {K : PySem.W.Frag} {σ : L2.St} {H H' : Hp} {D : Ends} {tu tz : TS}
/-- for i, x in enumerate(xs), xs a list or a tuple -/
theorem s_forEnS {ta : TA} {i j : Nat} {a : Addr} {xs : List V} (h : EvA ta σ H [.ref a]) (G : Hp → Prop) (hG : (∀ H, G H → SqL K H a xs) ∨ (∀ H, G H → SqT K H a xs)) (hx : ∀ H1, Ex H H1 → G H1) (Pv : Nat → L2.St → Hp → Prop) (h0 : ∀ H1, Ex H H1 → Pv 0 σ H1) (hl : ∀ n σ' H', n ≤ xs.length → Pv n σ' H' → G H')
    (hs : ∀ n x σ' H' H2, xs[n]? = some x → Pv n σ' H' → Ex H' H2 → tu { D with nx := Pv (n + 1), ct := Pv (n + 1), bk := D.nx } ((σ'.set i (some (.int (n : Int)))).set j (some x)) H2) (hd : ∀ σ' H', Pv xs.length σ' H' → D.nx σ' H') :
    tFor (iEnumS K ta) (gTup K 2 (gCons (gName i) (gCons (gName j) gNil))) tu D σ H := h H (Ex.refl H) _ fun H1 e => by
  have turn : ∀ n v σ' Hh H2, n < xs.length → Pv n σ' Hh → YPair (fun i => some (.int (i : Nat))) (fun i => xs[i]?) n Hh v H2 → gTup K 2 (gCons (gName i) (gCons (gName j) gNil)) v σ' H2 fun σ2 H3 => tu { D with nx := Pv (n + 1), ct := Pv (n + 1), bk := D.nx } σ2 H3 := by
    rintro n v σ' Hh H2 hn p ⟨T, x, y, rfl, nT, rfl, g1, g2⟩
    have ex : V.int (n : Nat) = x := Option.some.inj g1
    subst ex
    exact ⟨T, [.int (n : Nat), y], rfl, st_of upd_same, rfl, _, [y], rfl, y, [], rfl, rfl, hs n y σ' Hh _ g2 p (Ex.new nT)⟩
  rcases hG with hG | hG
  · exact ⟨a, xs, rfl, .inl ⟨hG _ (hx H1 e), for_it walk_enum Pv (h0 H1 e) (fun n σ' H' hn p => hG _ (hl n σ' H' hn p)) (fun n v σ' Hh H2 => turn n v σ' Hh H2) hd⟩⟩
  · exact ⟨a, xs, rfl, .inr ⟨hG _ (hx H1 e), for_it walk_enumT Pv (h0 H1 e) (fun n σ' H' hn p => hG _ (hl n σ' H' hn p)) (fun n v σ' Hh H2 => turn n v σ' Hh H2) hd⟩⟩
end
end Kit

set_option Elab.async false
set_option linter.all false
set_option maxRecDepth 100000
set_option maxHeartbeats 4000000
namespace Kit
open PySem PySem.Spec PyProof.Rows L2 Evl
/-! list(range(a, b, c)) -/
def rgC (i c : Int) (n : Nat) : List V := (List.range n).map fun k => V.int (i + (k : Nat) * c)
def PRgC (X : Cx) (e : Expr) (t : L2.St → Hp → (Int → Int → Int → Hp → Prop) → Prop) : Prop :=
  ∀ (pins : List (Addr × Obj)) (s : Shared) (σ : L2.St) (H : Hp) (Q : Int → Int → Int → Hp → Prop), Inv X pins σ H s → t σ H Q →
    wpAny (model X.prog X.w) X.A (eval e X.env) (fun x s' => ∃ r a b c t u v H', x = .ref r ∧ IsRange s'.heap r a b c t u v ∧ Inv X pins σ H' s' ∧ Q a b c H') X.xe s
def tRg3 (ta : TA) : L2.St → Hp → (Int → Int → Int → Hp → Prop) → Prop := fun σ H Q => ta σ H fun vs H1 => ∃ i j c, vs = [.int i, .int j, .int c] ∧ (c ≠ 0 ∧ c.natAbs < 1073741824) ∧ Q i j c H1
section
variable {X : Cx}
theorem prg_3 {a b c : Expr} {ta : TA} {p pos : Pos} (hg : Gl X "range") (hm : X.mg "range" = none) (ha : PA X [a, b, c] ta)
    (hs : starEach [a, b, c] X.env = (false, eval a X.env) :: starEach [b, c] X.env := by rfl) (hpl : (backTo pos (starEach [b, c] X.env)).any (·.1) = false := by rfl) : PRgC X (.Call (.Name "range" p) [a, b, c] [] pos) (tRg3 ta) := by
  intro pins s σ H Q I h
  refine Call_ (ld_blt I hg hm boot_range (PyProof.Rows.callWith_type1 (thn (ha.run pos pins s σ H _ I h) fun us s1 ⟨vs, H1, I1, r1, q1⟩ => ?_) hs hpl))
  obtain ⟨i, j, k, e, ⟨c0, c1⟩, q⟩ := q1
  subst e
  cases r1 with
  | cons r rr =>
    cases rr with
    | cons r' rr =>
      cases rr with
      | cons r'' rr =>
        cases rr
        obtain ⟨t, rfl⟩ := r
        obtain ⟨t', rfl⟩ := r'
        obtain ⟨t'', rfl⟩ := r''
        exact call_range_3 c0 ⟨_, i, j, k, _, _, _, H1, rfl, IsRange.new _ _ _ _ _ _ _, I1.kept fun b u e => Heap.get?_push_of_some _ e, q⟩ (.inl (PyProof.noPylong_small c1))
theorem vals_rgC {a c : Int} {n : Nat} {acc : Array Value} (h : ItemsOf (fun i v => ∃ t, v = .int (a + i * c) t) acc n) : Vals (rgC a c n) acc.toList := by
  have e : acc.toList.length = n := by rw [Array.length_toList]; exact h.1
  unfold rgC
  rw [← e]
  refine vals_of_get acc.toList _ fun j u hj => ?_
  obtain ⟨t, rfl⟩ := h.2 j u (by rw [← hj, Array.getElem?_toList])
  exact ⟨t, rfl⟩
def tLstRgC (te : L2.St → Hp → (Int → Int → Int → Hp → Prop) → Prop) : TE := fun σ H Q => te σ H fun a b c H1 => ∃ n : Nat, (Builtin.Range.small a b c = true ∧ Builtin.Range.rangeSize a b c = n ∧ n ≤ 2 ^ 24) ∧ ∀ q, H1 q = none → Q (.ref q) (upd H1 q (.lst (rgC a c n)))
theorem pe_listRgC {e : Expr} {te : L2.St → Hp → (Int → Int → Int → Hp → Prop) → Prop} {p pos : Pos} (hc : X.calm = true) (hg : Gl X "list") (hm : X.mg "list" = none) (he : PRgC X e te) (na : starEach [e] X.env = (false, eval e X.env) :: starEach [] X.env := by rfl) : PE X (.Call (.Name "list" p) [e] [] pos) (tLstRgC te) := by
  refine ⟨fun pins s σ H Q I h => ?_⟩
  refine Call_ (ld_blt I hg hm boot_list (PyProof.Rows.callWith_type1 (args_cons (thn (he pins s σ H _ I h) fun x s1 ⟨r, a, b, c, t, u, v, H1, ex, hr, I1, n, ⟨ok1, ok2, ok3⟩, q⟩ => args_nil ?_) na) na))
  subst ex
  refine call_list_range (n := n) (I1.ok.hd hc) hr ok1 ok2 ok3 fun h' tk acc c' hk e' hi => ?_
  refine ⟨.ref s1.heap.objs.size, upd H1 s1.heap.objs.size (.lst (rgC a c n)), I1.laid hk (Nat.le_refl _) (show ObjOk X.prog X.w _ _ _ (.lst (rgC a c n)) from ⟨?_, acc.toList, c', vals_rgC hi, ?_⟩), rfl, q _ (I1.hok.fresh (Nat.le_refl _))⟩
  · unfold rgC
    rw [List.length_map, List.length_range, sizeLine_eq]
    omega
  · rw [Array.toArray_toList]; exact e'
end
theorem el_down {σ : L2.St} {H : Hp} {ta : TA} {i j : Int} (h : EvA ta σ H [.int i, .int j, .int (-1)]) (hi : 0 ≤ i ∧ i ≤ 1000) (hj : -1 ≤ j ∧ j ≤ 1000) : EvL (tLstRgC (tRg3 ta)) σ H (rgC i (-1) (i - j).toNat) := fun H1 e Q q =>
  h H1 e _ fun H2 e2 => ⟨i, j, -1, rfl, ⟨by decide, by decide⟩, (i - j).toNat, ⟨(RgC.neg (by omega) (by omega) (by omega) (by omega)).2.2.1, (RgC.neg (by omega) (by omega) (by omega) (by omega)).2.2.2, by omega⟩, fun l hl => q l _ (fresh_back e2 hl) (e2.trans (Ex.new hl)) upd_same⟩
end Kit

set_option Elab.async false
set_option linter.all false
set_option maxRecDepth 100000
set_option maxHeartbeats 4000000
namespace Kit
open PySem PySem.Spec PyProof.Rows L2 Evl
/-! ### any thing: none, bools, ints, texts, tuples, dicts, lists of data -/
inductive It (K : PySem.W.Frag) (H : Hp) : V → PyData → Prop
  | non : It K H .non .none
  | bl (b : Bool) : It K H (.bl b) (.bool b)
  | int (i : Int) : It K H (.int i) (.int i)
  | str (x : Str) : It K H (.str x) (.str x)
  | lst {a : Addr} {xs : List V} {ds : List PyData} (h : H a = some (.lst xs)) (hd : DpAll K H xs ds) : It K H (.ref a) (.list ds)
theorem It.ex {K : PySem.W.Frag} {H H' : Hp} {v : V} {d : PyData} (e : Ex H H') (h : It K H v d) : It K H' v d := by
  cases h with
  | non => exact .non
  | bl b => exact .bl b
  | int i => exact .int i
  | str x => exact .str x
  | lst h hd => exact .lst (e _ _ h) (DpAll.ex e _ _ hd)
theorem It.dp {K : PySem.W.Frag} {H : Hp} {v : V} {d : PyData} (h : It K H v d) : Dp K H v d := by
  cases h with
  | non => exact .non
  | bl b => exact .bl b
  | int i => exact .int i
  | str x => exact .str x
  | lst h hd => exact .lst (sq_of h) hd
def ItAll (K : PySem.W.Frag) (H : Hp) (vs : List V) (ds : List PyData) : Prop := Paired (It K H) vs ds
theorem ItAll.ex {K : PySem.W.Frag} {H H' : Hp} (e : Ex H H') : ∀ {vs : List V} {ds : List PyData}, ItAll K H vs ds → ItAll K H' vs ds
  | _, _, .nil => .nil
  | _, _, .cons h t => .cons (h.ex e) (ItAll.ex e t)
theorem ItAll.dp {K : PySem.W.Frag} {H : Hp} : ∀ {vs : List V} {ds : List PyData}, ItAll K H vs ds → DpAll K H vs ds
  | _, _, .nil => .nil
  | _, _, .cons h t => .cons h.dp (ItAll.dp t)
theorem ItAll.app {K : PySem.W.Frag} {H : Hp} : ∀ {vs ws : List V} {ds es : List PyData}, ItAll K H vs ds → ItAll K H ws es → ItAll K H (vs ++ ws) (ds ++ es)
  | _, _, _, _, .nil, q => q
  | _, _, _, _, .cons h t, q => .cons h (ItAll.app t q)
theorem ItAll.len {K : PySem.W.Frag} {H : Hp} {vs : List V} {ds : List PyData} (h : ItAll K H vs ds) : vs.length = ds.length := Paired.length h
theorem ita_ints {K : PySem.W.Frag} {H : Hp} : ∀ ns : List Int, ItAll K H (ns.map V.int) (ns.map PyData.int)
  | [] => .nil
  | n :: r => .cons (.int n) (ita_ints r)
def Fine (ds : List PyData) : Prop := ∀ d ∈ ds, d.canLay0 = true ∧ d.depth ≤ 5
theorem fine_nil : Fine [] := fun d h => by cases h
theorem fine_cons {d : PyData} {ds : List PyData} (h : d.canLay0 = true) (h2 : d.depth ≤ 5) (t : Fine ds) : Fine (d :: ds) := fun x hx => by
  rcases List.mem_cons.mp hx with e | e
  · rw [e]
    exact ⟨h, h2⟩
  · exact t x e
theorem fine_app {ds es : List PyData} (h : Fine ds) (h2 : Fine es) : Fine (ds ++ es) := fun x hx => (List.mem_append.mp hx).elim (h x) (h2 x)
theorem fine_ints : ∀ ns : List Int, Fine (ns.map PyData.int)
  | [] => fine_nil
  | n :: r => fine_cons rfl (Nat.zero_le _) (fine_ints r)
theorem Fine.sub {ds es : List PyData} (h : Fine ds) (s : ∀ x ∈ es, x ∈ ds) : Fine es := fun x hx => h x (s x hx)
theorem Fine.shaped {ds : List PyData} (h : Fine ds) : SeqAt.shaped (.list ds) = true := by
  have : PyData.canLayAll0 ds = true ∧ PyData.depthAll ds ≤ 5 := by
    induction ds with
    | nil => exact ⟨rfl, Nat.zero_le _⟩
    | cons d r ih =>
      obtain ⟨a, b⟩ := ih fun x hx => h x (List.mem_cons_of_mem _ hx)
      obtain ⟨c, e⟩ := h d List.mem_cons_self
      refine ⟨by simp [PyData.canLayAll0, a, c], ?_⟩
      simp [PyData.depthAll]
      omega
  simp [SeqAt.shaped, PyData.canLay0, this.1, PyData.depth]
  omega
inductive Th (K : PySem.W.Frag) (H : Hp) : V → Option (List PyData) → Prop
  | non : Th K H .non none
  | bl (b : Bool) : Th K H (.bl b) none
  | int (i : Int) : Th K H (.int i) none
  | str (x : Str) : Th K H (.str x) none
  | tup {a : Addr} {xs : List V} (h : H a = some (.tup xs)) : Th K H (.ref a) none
  | dct {a : Addr} {kvs : List (Key × V)} (h : H a = some (.dK kvs)) : Th K H (.ref a) none
  | lst {a : Addr} {xs : List V} {ds : List PyData} (h : H a = some (.lst xs)) (hd : ItAll K H xs ds) (hf : Fine ds) : Th K H (.ref a) (some ds)
def AT (K : PySem.W.Frag) (H : Hp) (v : V) : Prop := ∃ o, Th K H v o
section
variable {K : PySem.W.Frag} {σ : L2.St} {H H' : Hp} {te ta tb : TE} {t tr : TA}
theorem Th.ex {v : V} {o : Option (List PyData)} (e : Ex H H') (h : Th K H v o) : Th K H' v o := by
  cases h with
  | non => exact .non
  | bl b => exact .bl b
  | int i => exact .int i
  | str x => exact .str x
  | tup h => exact .tup (e _ _ h)
  | dct h => exact .dct (e _ _ h)
  | lst h hd hf => exact .lst (e _ _ h) (hd.ex e) hf
theorem AT.ex {v : V} (e : Ex H H') (h : AT K H v) : AT K H' v := h.imp fun _ x => x.ex e
def EvTh (K : PySem.W.Frag) (te : TE) (σ : L2.St) (H : Hp) : Prop := ∀ H1, Ex H H1 → ∀ Q : VK, (∀ v H2, Ex H1 H2 → AT K H2 v → Q v H2) → te σ H1 Q
def EvThA (K : PySem.W.Frag) (ta : TA) (σ : L2.St) (H : Hp) (n : Nat) : Prop := ∀ H1, Ex H H1 → ∀ Q : List V → Hp → Prop, (∀ vs H2, Ex H1 H2 → vs.length = n → (∀ v ∈ vs, AT K H2 v) → Q vs H2) → ta σ H1 Q
theorem tha_nil : EvThA K tNil σ H 0 := fun H1 _ _ q => q [] H1 (Ex.refl H1) rfl (by simp)
theorem tha_cons {n : Nat} (h : EvTh K te σ H) (hr : EvThA K tr σ H n) : EvThA K (tCons te tr) σ H (n + 1) := fun H1 e _ q =>
  h H1 e _ fun v H2 e2 hv => hr H2 (e.trans e2) _ fun vs H3 e3 hl hvs => q (v :: vs) H3 (e2.trans e3) (by simp [hl]) fun x hx => by
    rcases List.mem_cons.mp hx with z | z
    · rw [z]
      exact hv.ex e3
    · exact hvs x z
theorem th_non (h : Ev te σ H .non) : EvTh K te σ H := fun H1 e Q q => h H1 e Q fun H2 e2 => q _ H2 e2 ⟨_, .non⟩
theorem th_bl {b : Bool} (h : Ev te σ H (.bl b)) : EvTh K te σ H := fun H1 e Q q => h H1 e Q fun H2 e2 => q _ H2 e2 ⟨_, .bl b⟩
theorem th_int {i : Int} (h : Ev te σ H (.int i)) : EvTh K te σ H := fun H1 e Q q => h H1 e Q fun H2 e2 => q _ H2 e2 ⟨_, .int i⟩
theorem th_str {x : Str} (h : Ev te σ H (.str x)) : EvTh K te σ H := fun H1 e Q q => h H1 e Q fun H2 e2 => q _ H2 e2 ⟨_, .str x⟩
theorem th_U {xs : List V} (h : EvU te σ H xs) : EvTh K te σ H := fun H1 e Q q => h H1 e Q fun p H2 _ e2 h2 => q _ H2 e2 ⟨_, .tup h2⟩
theorem th_L {xs : List V} (h : EvL te σ H xs) (hd : ∃ ds, ItAll K H xs ds ∧ Fine ds) : EvTh K te σ H := fun H1 e Q q => h H1 e Q fun p H2 _ e2 h2 => q _ H2 e2 (by
  obtain ⟨ds, d, f⟩ := hd
  exact ⟨_, .lst h2 (d.ex (e.trans e2)) f⟩)
def EvIA (K : PySem.W.Frag) (ta : TA) (σ : L2.St) (H : Hp) (ds : List PyData) : Prop := ∀ H1, Ex H H1 → ∀ Q : List V → Hp → Prop, (∀ vs H2, Ex H1 H2 → ItAll K H2 vs ds → Q vs H2) → ta σ H1 Q
def EvI (K : PySem.W.Frag) (te : TE) (σ : L2.St) (H : Hp) (d : PyData) : Prop := ∀ H1, Ex H H1 → ∀ Q : VK, (∀ v H2, Ex H1 H2 → It K H2 v d → Q v H2) → te σ H1 Q
theorem ia_nil : EvIA K tNil σ H [] := fun H1 _ _ q => q [] H1 (Ex.refl H1) .nil
theorem ia_cons {d : PyData} {ds : List PyData} (h : EvI K te σ H d) (hr : EvIA K tr σ H ds) : EvIA K (tCons te tr) σ H (d :: ds) := fun H1 e _ q =>
  h H1 e _ fun v H2 e2 dv => hr H2 (e.trans e2) _ fun vs H3 e3 dvs => q (v :: vs) H3 (e2.trans e3) (.cons (dv.ex e3) dvs)
theorem it_of {v : V} {d : PyData} (h : Ev te σ H v) (k : It K H v d) : EvI K te σ H d := fun H1 e Q q => h H1 e Q fun H2 e2 => q v H2 e2 (k.ex (e.trans e2))
theorem it_D {ds : List PyData} (h : EvDA K t σ H ds) (hl : ds.length ≤ 100000) : EvI K (tLst t) σ H (.list ds) := fun H1 e Q q =>
  h H1 e _ fun vs H2 e2 dv => ⟨sz_of (by rw [DpAll.len dv]; exact hl), fun p hp => q _ _ (e2.trans (Ex.new hp)) (.lst upd_same (DpAll.ex (Ex.new hp) ds vs dv))⟩
theorem th_D {ds : List PyData} (h : EvIA K t σ H ds) (hf : Fine ds) (hl : ds.length ≤ 100000) : EvTh K (tLst t) σ H := fun H1 e Q q =>
  h H1 e _ fun vs H2 e2 dv => ⟨sz_of (by rw [dv.len]; exact hl), fun p hp => q _ _ (e2.trans (Ex.new hp)) ⟨_, .lst upd_same (dv.ex (Ex.new hp)) hf⟩⟩
theorem th_var {i : Nat} {v : V} (h : σ[i]? = some (some v)) (hv : AT K H v) : EvTh K (tVar i) σ H := fun H1 e Q q => ⟨v, h, q v H1 (Ex.refl _) (hv.ex e)⟩
theorem th_dnew : EvTh K tDNewK σ H := fun H1 e Q q p hp => q _ _ (Ex.new hp) ⟨_, .dct upd_same⟩
theorem th_disp {x : Str} {i : Int} : EvTh K (tDisp [(tC (.str x), tC (.int i))]) σ H := fun H1 e Q q p hp =>
  ⟨upd_same, [(.inr x, .int i)], rfl, Nat.le_of_ble_eq_true rfl, q _ _ (Ex.mut (Ex.new hp) hp) ⟨_, .dct upd_same⟩⟩
/-- [.., ..] of things: a new list -/
def EvTL (K : PySem.W.Frag) (te : TE) (σ : L2.St) (H : Hp) (n : Nat) : Prop := ∀ H1, Ex H H1 → ∀ Q : VK, (∀ p vs H2, H1 p = none → Ex H1 H2 → H2 p = some (.lst vs) → vs.length = n → (∀ v ∈ vs, AT K H2 v) → Q (.ref p) H2) → te σ H1 Q
theorem tl_lst {n : Nat} (h : EvThA K t σ H n) (hn : n ≤ 100000) : EvTL K (tLst t) σ H n := fun H1 e Q q =>
  h H1 e _ fun vs H2 e2 hl hv => ⟨sz_of (by omega), fun p hp => q p vs _ (fresh_back e2 hp) (e2.trans (Ex.new hp)) upd_same hl fun v z => (hv v z).ex (Ex.new hp)⟩
theorem tl_cat {a : Addr} {xs : List V} {n : Nat} (h : Ev ta σ H (.ref a)) (ha : H a = some (.lst xs)) (hx : ∀ v ∈ xs, AT K H v) (h2 : EvTL K tb σ H n) (hz : xs.length + n ≤ 1000) : EvTL K (tOp rCat ta tb) σ H (xs.length + n) := fun H1 e Q q =>
  h H1 e _ fun H2 e2 => h2 H2 (e.trans e2) _ fun p vs H3 _ e3 h3 hl hv =>
    ⟨a, p, xs, vs, rfl, rfl, e3 a _ (e2 a _ (e a _ ha)), h3, sz_of (by omega), fun l hl' => q l _ _ (fresh_back (e2.trans e3) hl') ((e2.trans e3).trans (Ex.new hl')) upd_same (by rw [List.length_append, hl]) fun v z => by
      rcases List.mem_append.mp z with z | z
      · exact (hx v z).ex (e.trans (e2.trans (e3.trans (Ex.new hl'))))
      · exact (hv v z).ex (Ex.new hl')⟩
/-- x + ys, x an old list -/
theorem el_catO {a : Addr} {xs ys : List V} (h : Ev ta σ H (.ref a)) (ha : H a = some (.lst xs)) (h2 : EvL tb σ H ys) (hz : xs.length + ys.length ≤ 1000) : EvL (tOp rCat ta tb) σ H (xs ++ ys) := fun H1 e Q q =>
  h H1 e _ fun H2 e2 => h2 H2 (e.trans e2) _ fun p H3 _ e3 h3 =>
    ⟨a, p, xs, ys, rfl, rfl, e3 a _ (e2 a _ (e a _ ha)), h3, sz_of (by omega), fun l hl' => q l _ (fresh_back (e2.trans e3) hl') ((e2.trans e3).trans (Ex.new hl')) upd_same⟩
end
/-! ### the type of any thing -/
def kTyp2 (x : V) (H : Hp) (Q : VK) : Prop := ∃ n, (zTyV x H = some n ∨ (n = "dict" ∧ ∃ a kvs, x = .ref a ∧ H a = some (.dK kvs))) ∧ Q (.ty n) H
def rNeTyG : R2 := fun x y H Q => ∃ m n, x = .ty m ∧ y = .ty n ∧ Meta m ∧ Meta n ∧ Q (.bl (!decide (m = n))) H
section
variable {X : Cx} {ta : TE} {a : Expr}
theorem rl_type2 (pins : List (Addr × Obj)) (st : Shared) (σ : L2.St) (H : Hp) (x : V) (u : Value) (Q : VK) (J : Inv X pins σ H st) (r : RelV x u) (h : kTyp2 x H Q) :
    wpAny (model X.prog X.w) X.A (call (.type "type") [u]) (EP X pins σ Q) X.xe st := by
  obtain ⟨n, e | ⟨rfl, a, kvs, rfl, ha⟩, q⟩ := h
  · exact rl_type pins st σ H x u Q J r ⟨n, e, q⟩
  · cases (show u = Value.ref a from r)
    obtain ⟨_, _, vs, _, o, es, ep, h1, h2, _⟩ := (show ObjOk X.prog X.w H st.heap a (.dK kvs) from J.hok a _ ha)
    exact call_type_of (Tx := "dict") ⟨o, h1, h2.1⟩ (by decide +kernel) ⟨.ty "dict", H, J, rfl, q⟩
theorem pe_typeOf2 {p pos : Pos} (hg : Gl X "type") (hm : X.mg "type" = none) (ha : PE X a ta) (na : starEach [a] X.env = (false, eval a X.env) :: starEach [] X.env := by rfl) :
    PE X (.Call (.Name "type" p) [a] [] pos) (tThenZ ta kTyp2) := pe_callTy (call_r1 rl_type2) hg hm (by decide +kernel) (pa_cons ha pa_nil na) (he := na)
theorem op_neTyG (hu : X.A.units + 1 < cLine) : OpR X (compareOp .NotEq) rNeTyG := by
  intro pins st σ H x y v u Q J rx ry h
  obtain ⟨m, n, rfl, rfl, hm, hn, q⟩ := h
  cases (show v = Value.type m from rx)
  cases (show u = Value.type n from ry)
  by_cases e : m = n
  · subst e
    exact ne_type_same hm hu ⟨.bl false, H, J, rfl, by simpa using q⟩
  · exact ne_type_other hm hn (by rw [beq_eq_false_iff_ne]; exact fun z => e (Value.type.inj z)) hu ⟨.bl true, H, J, rfl, by simpa [e] using q⟩
end
section
variable {K : PySem.W.Frag} {σ : L2.St} {H : Hp} {ta tb : TE}
/-- the name of a thing's type -/
theorem th_type {v : V} {o : Option (List PyData)} (h : Th K H v o) : ∃ n, (zTyV v H = some n ∨ (n = "dict" ∧ ∃ a kvs, v = .ref a ∧ H a = some (.dK kvs))) ∧ Meta n ∧ (n = "list" ↔ o.isSome = true) := by
  cases h with
  | non => exact ⟨"NoneType", .inl rfl, PySem.TypeEq.meta_NoneType, by simp⟩
  | bl b => exact ⟨"bool", .inl rfl, PySem.TypeEq.meta_bool, by simp⟩
  | int i => exact ⟨"int", .inl rfl, PySem.TypeEq.meta_int, by simp⟩
  | str x => exact ⟨"str", .inl rfl, PySem.TypeEq.meta_str, by simp⟩
  | tup h => exact ⟨"tuple", .inl (by simp [zTyV, h]), PySem.TypeEq.meta_tuple, by simp⟩
  | dct h => exact ⟨"dict", .inr ⟨rfl, _, _, rfl, h⟩, PySem.TypeEq.meta_dict, by simp⟩
  | lst h _ _ => exact ⟨"list", .inl (by simp [zTyV, h]), PySem.TypeEq.meta_list, by simp⟩
/-- type(v) != list -/
theorem ev_noList {v : V} {o : Option (List PyData)} (h : Ev ta σ H v) (hv : Th K H v o) : Ev (tOp rNeTyG (tThenZ ta kTyp2) (tC (.ty "list"))) σ H (.bl (!o.isSome)) := fun H1 e Q q => h H1 e _ fun H2 e2 => by
  obtain ⟨n, hn, mt, iff⟩ := th_type (hv.ex (e.trans e2))
  refine ⟨n, hn, n, "list", rfl, rfl, mt, PySem.TypeEq.meta_list, ?_⟩
  have : decide (n = "list") = o.isSome := by
    rw [Bool.eq_iff_iff, decide_eq_true_iff]
    exact iff
  rw [this]
  exact q H2 e2
theorem th_is {v : V} {o : Option (List PyData)} (h : Th K H v o) : ∃ n, TyX K H v (.type n) ∧ PySem.W.kitOne K (.type n) (.type "list") = some o.isSome := by
  cases h with
  | non => exact ⟨_, .base .non, rfl⟩
  | bl b => exact ⟨_, .base (.bl b), rfl⟩
  | int i => exact ⟨_, .base (.int i), rfl⟩
  | str x => exact ⟨_, .base (.str x), rfl⟩
  | tup h => exact ⟨_, .base (.tup h), rfl⟩
  | dct h => exact ⟨_, .base (.dK h), rfl⟩
  | lst h _ _ => exact ⟨_, .base (.lst h), rfl⟩
/-- isinstance(v, list) -/
theorem ev_isList {v : V} {o : Option (List PyData)} (h : Ev ta σ H v) (hv : Th K H v o) : Ev (tCB (rIsi K) (tCons ta (tCons (tC (.ty "list")) tNil))) σ H (.bl o.isSome) := fun H1 e Q q => h H1 e _ fun H2 e2 => by
  obtain ⟨n, ht, hk⟩ := th_is (hv.ex (e.trans e2))
  exact ⟨v, .ty "list", .type n, .type "list", o.isSome, rfl, .ty "list", ht, hk, q H2 e2⟩
def isI : PyData → Bool
  | .int _ => true
  | _ => false
theorem it_type {v : V} {d : PyData} (h : It K H v d) : ∃ n, zTyV v H = some n ∧ Meta n ∧ decide (n = "int") = isI d := by
  cases h with
  | non => exact ⟨"NoneType", rfl, PySem.TypeEq.meta_NoneType, by simp [isI]⟩
  | bl b => exact ⟨"bool", rfl, PySem.TypeEq.meta_bool, by simp [isI]⟩
  | int i => exact ⟨"int", rfl, PySem.TypeEq.meta_int, by simp [isI]⟩
  | str x => exact ⟨"str", rfl, PySem.TypeEq.meta_str, by simp [isI]⟩
  | lst h _ => exact ⟨"list", by simp [zTyV, h], PySem.TypeEq.meta_list, by simp [isI]⟩
/-- type(v) == int -/
theorem ev_isWhole {v : V} {d : PyData} (h : Ev ta σ H v) (hv : It K H v d) : Ev (tOp rEqTy (tThenZ ta kTyp) (tC (.ty "int"))) σ H (.bl (isI d)) := fun H1 e Q q => h H1 e _ fun H2 e2 => by
  obtain ⟨n, hn, mt, iff⟩ := it_type (hv.ex (e.trans e2))
  refine ⟨n, hn, n, "int", rfl, rfl, mt, PySem.TypeEq.meta_int, ?_⟩
  rw [iff]
  exact q H2 e2
def isB : PyData → Bool
  | .bool _ => true
  | _ => false
theorem it_isB {v : V} {d : PyData} (h : It K H v d) : ∃ n, TyX K H v (.type n) ∧ PySem.W.kitOne K (.type n) (.type "bool") = some (isB d) := by
  cases h with
  | non => exact ⟨_, .base .non, rfl⟩
  | bl b => exact ⟨_, .base (.bl b), rfl⟩
  | int i => exact ⟨_, .base (.int i), rfl⟩
  | str x => exact ⟨_, .base (.str x), rfl⟩
  | lst h _ => exact ⟨_, .base (.lst h), rfl⟩
theorem it_isI {v : V} {d : PyData} (h : It K H v d) : ∃ n, TyX K H v (.type n) ∧ PySem.W.kitOne K (.type n) (.type "int") = some (isI d || isB d) := by
  cases h with
  | non => exact ⟨_, .base .non, rfl⟩
  | bl b => exact ⟨_, .base (.bl b), rfl⟩
  | int i => exact ⟨_, .base (.int i), rfl⟩
  | str x => exact ⟨_, .base (.str x), rfl⟩
  | lst h _ => exact ⟨_, .base (.lst h), rfl⟩
/-- isinstance(v, bool) or not isinstance(v, int) -/
theorem et_noInt {v : V} {d : PyData} (h : Ev ta σ H v) (hv : It K H v d) : EvT (tOr (tB (tCB (rIsi K) (tCons ta (tCons (tC (.ty "bool")) tNil)))) (tNot (tB (tCB (rIsi K) (tCons ta (tCons (tC (.ty "int")) tNil)))))) σ H (!isI d) := by
  have one : Ev (tCB (rIsi K) (tCons ta (tCons (tC (.ty "bool")) tNil))) σ H (.bl (isB d)) := fun H1 e Q q => h H1 e _ fun H2 e2 => by
    obtain ⟨n, ht, hb⟩ := it_isB (hv.ex (e.trans e2))
    exact ⟨v, .ty "bool", _, .type "bool", _, rfl, .ty "bool", ht, hb, q H2 e2⟩
  have two : Ev (tCB (rIsi K) (tCons ta (tCons (tC (.ty "int")) tNil))) σ H (.bl (isI d || isB d)) := fun H1 e Q q => h H1 e _ fun H2 e2 => by
    obtain ⟨n, ht, hb⟩ := it_isI (hv.ex (e.trans e2))
    exact ⟨v, .ty "int", _, .type "int", _, rfl, .ty "int", ht, hb, q H2 e2⟩
  refine et_is (et_or (et_B one) fun _ => et_not (et_B two)) ?_
  cases d <;> rfl
end
/-! tuple(range(a, b, c)) -/
def tTupRgC (te : L2.St → Hp → (Int → Int → Int → Hp → Prop) → Prop) : TE := fun σ H Q => te σ H fun a b c H1 => ∃ n : Nat, (Builtin.Range.small a b c = true ∧ Builtin.Range.rangeSize a b c = n ∧ n ≤ 2 ^ 24) ∧ ∀ q, H1 q = none → Q (.ref q) (upd H1 q (.tup (rgC a c n)))
theorem pe_tupRgC {X : Cx} {e : Expr} {te : L2.St → Hp → (Int → Int → Int → Hp → Prop) → Prop} {p pos : Pos} (calm : X.calm = true) (hg : Gl X "tuple") (hm : X.mg "tuple" = none) (he : PRgC X e te) (na : starEach [e] X.env = (false, eval e X.env) :: starEach [] X.env := by rfl) : PE X (.Call (.Name "tuple" p) [e] [] pos) (tTupRgC te) := by
  refine ⟨fun pins st σ H Q J h => ?_⟩
  refine Call_ (ld_blt J hg hm boot_tuple (PyProof.Rows.callWith_type1 (args_cons (thn (he pins st σ H _ J h) fun x s1 ⟨r, a, b, c, t, u, v, H1, ex, hr, J1, n, ⟨o1, o2, o3⟩, q⟩ => args_nil ?_) na) na))
  subst ex
  refine call_tuple_range (n := n) (J1.ok.hd calm) hr o1 o2 o3 fun h' tk acc keep its => ?_
  have J2 : Inv X pins σ H1 { s1 with heap := h', toks := tk } := J1.kept keep
  refine ⟨.ref h'.objs.size, upd H1 h'.objs.size (.tup (rgC a c n)), J2.laid (t' := tk) (fun z o e => Heap.get?_push_of_some _ e) (Nat.le_refl _) (show ObjOk X.prog X.w _ _ _ (.tup (rgC a c n)) from ⟨?_, acc.toList, vals_rgC its, ?_⟩), rfl, q _ (J2.hok.fresh (Nat.le_refl _))⟩
  · unfold rgC
    rw [List.length_map, List.length_range, sizeLine_eq]
    omega
  · rw [Array.toArray_toList]
    exact IsTup.new _ _
theorem eu_down {σ : L2.St} {H : Hp} {ta : TA} {i j : Int} (h : EvA ta σ H [.int i, .int j, .int (-1)]) (hi : 0 ≤ i ∧ i ≤ 1000) (hj : -1 ≤ j ∧ j ≤ 1000) : EvU (tTupRgC (tRg3 ta)) σ H (rgC i (-1) (i - j).toNat) := fun H1 e Q q =>
  h H1 e _ fun H2 e2 => ⟨i, j, -1, rfl, ⟨by decide, by decide⟩, (i - j).toNat, ⟨(RgC.neg (by omega) (by omega) (by omega) (by omega)).2.2.1, (RgC.neg (by omega) (by omega) (by omega) (by omega)).2.2.2, by omega⟩, fun l hl => q l _ (fresh_back e2 hl) (e2.trans (Ex.new hl)) upd_same⟩
/-! xs.index(x) where the written part must be said -/
theorem pe_indexK {X : Cx} {K : PySem.W.Frag} {o e : Expr} {to te : TE} {apos cpos : Pos} (hK : X.K = K) (ho : PE X o to) (he : PE X e te) (b : attributeBase o "index" X.env (eval o X.env) = eval o X.env := by rfl)
    (few : ((backTo cpos (starEach [e] X.env)).all (fun x => !x.1) && (backToKw cpos (keywordEach [] X.env)).all (fun x => x.1.isSome) && decide ([e].length + ([] : List Keyword).length + (if ([] : List Keyword).isEmpty then 0 else 1) < 30)) = true := by rfl)
    (line : (apos.endLine == cpos.line) = true := by rfl) (st : starEach [e] X.env = (false, eval e X.env) :: starEach [] X.env := by rfl) (pl : (backTo cpos (starEach [] X.env)).any (·.1) = false := by rfl) :
    PE X (.Call (.Attribute o "index" apos) [e] [] cpos) (tBM K "list" (rIndex K) to (tCons te tNil)) := by
  subst hK
  exact pe_bm PySem.F.plainAttrs_list PySem.F.slot_list_index PySem.F.type_list_index mt_index ho (pa_cons he pa_nil st) b few line st pl
theorem pe_revLK {X : Cx} {K : PySem.W.Frag} {e : Expr} {te : TE} {k : Nat} {p1 p2 p3 pos : Pos} (hK : X.K = K) (he : PE X e te) : PE X (.Subscript e (.Slice none none (some (.UnaryOp .USub (.Constant (.int 1) k p1) p2)) p3) pos) (tRevL K te) := by
  subst hK
  exact pe_revL he
end Kit

set_option Elab.async false
set_option linter.all false
set_option maxRecDepth 100000
set_option maxHeartbeats 4000000
namespace Kit
open PySem PySem.Spec PyProof.Rows L2 Evl
/-! ### data that is laid in the heap, by its depth -/
inductive Flat : V → PyData → Prop
  | non : Flat .non .none
  | bl (b : Bool) : Flat (.bl b) (.bool b)
  | int (i : Int) : Flat (.int i) (.int i)
  | str (x : Str) (ok : PyData.strOk x = true) : Flat (.str x) (.str x)
def Tk : Nat → Hp → V → PyData → Prop
  | 0, _, v, d => Flat v d
  | n + 1, H, v, d => Flat v d ∨ (∃ a xs ds, v = .ref a ∧ d = .list ds ∧ H a = some (.lst xs) ∧ xs.length ≤ 40000 ∧ Paired (Tk n H) xs ds) ∨ (∃ a xs ds, v = .ref a ∧ d = .tuple ds ∧ H a = some (.tup xs) ∧ xs.length ≤ 40000 ∧ Paired (Tk n H) xs ds)
theorem Tk.flat {v : V} {d : PyData} (h : Flat v d) : ∀ {n : Nat} {H : Hp}, Tk n H v d
  | 0, _ => h
  | _ + 1, _ => .inl h
theorem tk_imp {A B : V → PyData → Prop} (f : ∀ v d, A v d → B v d) : ∀ {xs : List V} {ds : List PyData}, Paired A xs ds → Paired B xs ds
  | _, _, .nil => .nil
  | _, _, .cons h t => .cons (f _ _ h) (tk_imp f t)
theorem Tk.ex {H H' : Hp} (e : Ex H H') : ∀ {n : Nat} {v : V} {d : PyData}, Tk n H v d → Tk n H' v d
  | 0, _, _, h => h
  | _ + 1, _, _, .inl h => .inl h
  | _ + 1, _, _, .inr (.inl ⟨a, xs, ds, h1, h2, h3, hz, h4⟩) => .inr (.inl ⟨a, xs, ds, h1, h2, e a _ h3, hz, tk_imp (fun _ _ => Tk.ex e) h4⟩)
  | _ + 1, _, _, .inr (.inr ⟨a, xs, ds, h1, h2, h3, hz, h4⟩) => .inr (.inr ⟨a, xs, ds, h1, h2, e a _ h3, hz, tk_imp (fun _ _ => Tk.ex e) h4⟩)
theorem Tk.mono {H : Hp} : ∀ {n m : Nat} {v : V} {d : PyData}, n ≤ m → Tk n H v d → Tk m H v d
  | 0, _, _, _, _, h => Tk.flat h
  | _ + 1, 0, _, _, e, _ => absurd e (by omega)
  | _ + 1, _ + 1, _, _, _, .inl h => .inl h
  | _ + 1, _ + 1, _, _, e, .inr (.inl ⟨a, xs, ds, h1, h2, h3, hz, h4⟩) => .inr (.inl ⟨a, xs, ds, h1, h2, h3, hz, tk_imp (fun _ _ => Tk.mono (by omega)) h4⟩)
  | _ + 1, _ + 1, _, _, e, .inr (.inr ⟨a, xs, ds, h1, h2, h3, hz, h4⟩) => .inr (.inr ⟨a, xs, ds, h1, h2, h3, hz, tk_imp (fun _ _ => Tk.mono (by omega)) h4⟩)
theorem tk_int {n : Nat} {H : Hp} (i : Int) : Tk n H (.int i) (.int i) := .flat (.int i)
theorem tk_ints {n : Nat} {H : Hp} : ∀ ns : List Int, Paired (Tk n H) (ns.map V.int) (ns.map PyData.int)
  | [] => .nil
  | i :: r => .cons (tk_int i) (tk_ints r)
theorem tk_lst {n : Nat} {H : Hp} {a : Addr} {xs : List V} {ds : List PyData} (h : H a = some (.lst xs)) (hd : Paired (Tk n H) xs ds) (hz : ds.length ≤ 40000) : Tk (n + 1) H (.ref a) (.list ds) := .inr (.inl ⟨a, xs, ds, rfl, rfl, h, by rw [Paired.length hd]; exact hz, hd⟩)
theorem tk_tup {n : Nat} {H : Hp} {a : Addr} {xs : List V} {ds : List PyData} (h : H a = some (.tup xs)) (hd : Paired (Tk n H) xs ds) (hz : ds.length ≤ 40000) : Tk (n + 1) H (.ref a) (.tuple ds) := .inr (.inr ⟨a, xs, ds, rfl, rfl, h, by rw [Paired.length hd]; exact hz, hd⟩)
theorem flat_dp {K : PySem.W.Frag} {H : Hp} {v : V} {d : PyData} (h : Flat v d) : Dp K H v d := by
  cases h with
  | non => exact .non
  | bl b => exact .bl b
  | int i => exact .int i
  | str x _ => exact .str x
def isSeq : PyData → Bool
  | .list _ => true
  | .tuple _ => true
  | _ => false
def isLs : PyData → Bool
  | .list _ => true
  | _ => false
def isIt : PyData → Bool
  | .int _ => true
  | .bool _ => true
  | _ => false
def isBo : PyData → Bool
  | .bool _ => true
  | _ => false
def isSt : PyData → Bool
  | .str _ => true
  | _ => false
section
variable {K : PySem.W.Frag} {σ : L2.St} {H H' : Hp} {ta tb te : TE} {n : Nat} {v : V} {d : PyData}
theorem tk_kind {f : PyData → Bool} {g : Value → Option Bool} (h : Tk n H v d) (non : g (.type "NoneType") = some (f .none)) (bl : ∀ b, g (.type "bool") = some (f (.bool b))) (it : ∀ i, g (.type "int") = some (f (.int i))) (st : ∀ i, g (.type "str") = some (f (.str i)))
    (ls : ∀ ds, g (.type "list") = some (f (.list ds))) (tu : ∀ ds, g (.type "tuple") = some (f (.tuple ds))) : ∃ t, TyX K H v t ∧ g t = some (f d) := by
  have fl : Flat v d → ∃ t, TyX K H v t ∧ g t = some (f d) := fun h => by
    cases h with
    | non => exact ⟨_, .base .non, non⟩
    | bl b => exact ⟨_, .base (.bl b), bl b⟩
    | int i => exact ⟨_, .base (.int i), it i⟩
    | str x _ => exact ⟨_, .base (.str x), st x⟩
  match n, h with
  | 0, h => exact fl h
  | _ + 1, .inl h => exact fl h
  | _ + 1, .inr (.inl ⟨a, xs, ds, h1, h2, h3, hz, h4⟩) =>
    subst h1 h2
    exact ⟨_, .base (.lst h3), ls ds⟩
  | _ + 1, .inr (.inr ⟨a, xs, ds, h1, h2, h3, hz, h4⟩) =>
    subst h1 h2
    exact ⟨_, .base (.tup h3), tu ds⟩
theorem ev_isOne {T : String} {f : PyData → Bool} (h : Ev ta σ H v) (hv : Tk n H v d) (non : PySem.W.kitOne K (.type "NoneType") (.type T) = some (f .none)) (bl : ∀ b, PySem.W.kitOne K (.type "bool") (.type T) = some (f (.bool b))) (it : ∀ i, PySem.W.kitOne K (.type "int") (.type T) = some (f (.int i))) (st : ∀ i, PySem.W.kitOne K (.type "str") (.type T) = some (f (.str i)))
    (ls : ∀ ds, PySem.W.kitOne K (.type "list") (.type T) = some (f (.list ds))) (tu : ∀ ds, PySem.W.kitOne K (.type "tuple") (.type T) = some (f (.tuple ds))) : Ev (tCB (rIsi K) (tCons ta (tCons (tC (.ty T)) tNil))) σ H (.bl (f d)) := fun H1 e Q q => h H1 e _ fun H2 e2 => by
  obtain ⟨t, ty, k⟩ := tk_kind (K := K) (f := f) (g := fun t => PySem.W.kitOne K t (.type T)) (hv.ex (e.trans e2)) non bl it st ls tu
  exact ⟨v, .ty T, t, .type T, _, rfl, .ty T, ty, k, q H2 e2⟩
theorem ev_isLs (h : Ev ta σ H v) (hv : Tk n H v d) : Ev (tCB (rIsi K) (tCons ta (tCons (tC (.ty "list")) tNil))) σ H (.bl (isLs d)) := ev_isOne (f := isLs) h hv rfl (fun _ => rfl) (fun _ => rfl) (fun _ => rfl) (fun _ => rfl) (fun _ => rfl)
theorem ev_isIt (h : Ev ta σ H v) (hv : Tk n H v d) : Ev (tCB (rIsi K) (tCons ta (tCons (tC (.ty "int")) tNil))) σ H (.bl (isIt d)) := ev_isOne (f := isIt) h hv rfl (fun _ => rfl) (fun _ => rfl) (fun _ => rfl) (fun _ => rfl) (fun _ => rfl)
theorem ev_isBo (h : Ev ta σ H v) (hv : Tk n H v d) : Ev (tCB (rIsi K) (tCons ta (tCons (tC (.ty "bool")) tNil))) σ H (.bl (isBo d)) := ev_isOne (f := isBo) h hv rfl (fun _ => rfl) (fun _ => rfl) (fun _ => rfl) (fun _ => rfl) (fun _ => rfl)
theorem ev_isSt (h : Ev ta σ H v) (hv : Tk n H v d) : Ev (tCB (rIsi K) (tCons ta (tCons (tC (.ty "str")) tNil))) σ H (.bl (isSt d)) := ev_isOne (f := isSt) h hv rfl (fun _ => rfl) (fun _ => rfl) (fun _ => rfl) (fun _ => rfl) (fun _ => rfl)
theorem ev_isSeq (h : Ev ta σ H v) (hv : Tk n H v d) : Ev (tCB (rIsiT K) (tCons ta (tCons (tTup (tCons (tC (.ty "list")) (tCons (tC (.ty "tuple")) tNil))) tNil))) σ H (.bl (isSeq d)) := fun H1 e Q q => h H1 e _ fun H2 e2 =>
  (eu_tup (ea_cons (x := .ty "list") ev_c (ea_cons (x := .ty "tuple") ev_c ea_nil)) (Nat.le_of_ble_eq_true rfl)) H2 (Ex.refl _) _ fun p H3 _ e3 h3 => by
    obtain ⟨t, ty, k⟩ := tk_kind (K := K) (f := isSeq) (g := fun t => PySem.W.kitAny K t [.type "list", .type "tuple"]) (hv.ex (e.trans (e2.trans e3))) rfl (fun _ => rfl) (fun _ => rfl) (fun _ => rfl) (fun _ => rfl) (fun _ => rfl)
    exact ⟨v, p, _, t, [.type "list", .type "tuple"], _, rfl, h3, .cons (.ty _) (.cons (.ty _) .nil), ty, k, q H3 (e2.trans e3)⟩
theorem tk_flat (h : Tk n H v d) (hs : isSeq d = false) : Flat v d := by
  match n, h with
  | 0, h => exact h
  | _ + 1, .inl h => exact h
  | _ + 1, .inr (.inl ⟨_, _, _, _, h2, _⟩) =>
    subst h2
    cases hs
  | _ + 1, .inr (.inr ⟨_, _, _, _, h2, _⟩) =>
    subst h2
    cases hs
theorem tk_seq (h : Tk n H v d) (hs : isSeq d = true) : ∃ m, n = m + 1 ∧ ((∃ a xs ds, v = .ref a ∧ d = .list ds ∧ H a = some (.lst xs) ∧ xs.length ≤ 40000 ∧ Paired (Tk m H) xs ds) ∨ (∃ a xs ds, v = .ref a ∧ d = .tuple ds ∧ H a = some (.tup xs) ∧ xs.length ≤ 40000 ∧ Paired (Tk m H) xs ds)) := by
  have no : Flat v d → False := fun f => by cases f <;> cases hs
  match n, h with
  | 0, h => exact (no h).elim
  | _ + 1, .inl h => exact (no h).elim
  | m + 1, .inr h => exact ⟨m, rfl, h⟩
theorem rv_ixQL {a : Addr} {xs : List V} {i : Int} {x : V} (s : SqL K H a xs) (h : atI xs i = some x) : RV (rIx K) (.ref a) (.int i) H x := fun H1 e Q q => .inl (rv_ixL s h H1 e Q q)
theorem rv_ixQT {a : Addr} {xs : List V} {i : Int} {x : V} (s : SqT K H a xs) (h : atI xs i = some x) : RV (rIx K) (.ref a) (.int i) H x := fun H1 e Q q => .inr (.inl (rv_ixT s h H1 e Q q))
/-! ### expressions that give such data -/
def EvK (n : Nat) (te : TE) (σ : L2.St) (H : Hp) (d : PyData) : Prop := ∀ H1, Ex H H1 → ∀ Q : VK, (∀ v H2, Ex H1 H2 → Tk n H2 v d → Q v H2) → te σ H1 Q
def EvKA (n : Nat) (ta : TA) (σ : L2.St) (H : Hp) (ds : List PyData) : Prop := ∀ H1, Ex H H1 → ∀ Q : List V → Hp → Prop, (∀ vs H2, Ex H1 H2 → Paired (Tk n H2) vs ds → Q vs H2) → ta σ H1 Q
variable {t tr : TA} {ds : List PyData}
theorem ek_of (h : Ev te σ H v) (k : Tk n H v d) : EvK n te σ H d := fun H1 e Q q => h H1 e Q fun H2 e2 => q v H2 e2 (k.ex (e.trans e2))
theorem ek_int {i : Int} (h : Ev te σ H (.int i)) : EvK n te σ H (.int i) := ek_of h (tk_int i)
theorem ek_bl {b : Bool} (h : Ev te σ H (.bl b)) : EvK n te σ H (.bool b) := ek_of h (.flat (.bl b))
theorem ek_non (h : Ev te σ H .non) : EvK n te σ H .none := ek_of h (.flat .non)
theorem ek_str {x : Str} (h : Ev te σ H (.str x)) (ok : PyData.strOk x = true) : EvK n te σ H (.str x) := ek_of h (.flat (.str x ok))
theorem ek_mono {m : Nat} (h : EvK n te σ H d) (e : n ≤ m) : EvK m te σ H d := fun H1 a Q q => h H1 a Q fun v H2 e2 k => q v H2 e2 (k.mono e)
theorem ek_is {e : PyData} (h : EvK n te σ H d) (q : d = e) : EvK n te σ H e := q ▸ h
theorem paired_len {A : V → PyData → Prop} {xs : List V} (h : Paired A xs ds) : xs.length = ds.length := Paired.length h
theorem eka_nil : EvKA n tNil σ H [] := fun H1 _ _ q => q [] H1 (Ex.refl H1) .nil
theorem eka_cons (h : EvK n te σ H d) (hr : EvKA n tr σ H ds) : EvKA n (tCons te tr) σ H (d :: ds) := fun H1 e _ q =>
  h H1 e _ fun v H2 e2 dv => hr H2 (e.trans e2) _ fun vs H3 e3 dvs => q (v :: vs) H3 (e2.trans e3) (.cons (dv.ex e3) dvs)
theorem ek_lst (h : EvKA n t σ H ds) (hl : ds.length ≤ 40000) : EvK (n + 1) (tLst t) σ H (.list ds) := fun H1 e Q q =>
  h H1 e _ fun vs H2 e2 dv => ⟨sz_of (by rw [paired_len dv]; omega), fun p hp => q _ _ (e2.trans (Ex.new hp)) (tk_lst upd_same (tk_imp (fun _ _ => Tk.ex (Ex.new hp)) dv) hl)⟩
theorem ek_tup (h : EvKA n t σ H ds) (hl : ds.length ≤ 40000) : EvK (n + 1) (tTup t) σ H (.tuple ds) := fun H1 e Q q =>
  h H1 e _ fun vs H2 e2 dv => ⟨sz_of (by rw [paired_len dv]; omega), fun p hp => q _ _ (e2.trans (Ex.new hp)) (tk_tup upd_same (tk_imp (fun _ _ => Tk.ex (Ex.new hp)) dv) hl)⟩
theorem ek_L {xs : List V} (h : EvL te σ H xs) (k : Paired (Tk n H) xs ds) (hz : ds.length ≤ 40000) : EvK (n + 1) te σ H (.list ds) := fun H1 e Q q => h H1 e Q fun p H2 _ e2 h2 => q _ H2 e2 (tk_lst h2 (tk_imp (fun _ _ => Tk.ex (e.trans e2)) k) hz)
theorem ek_U {xs : List V} (h : EvU te σ H xs) (k : Paired (Tk n H) xs ds) (hz : ds.length ≤ 40000) : EvK (n + 1) te σ H (.tuple ds) := fun H1 e Q q => h H1 e Q fun p H2 _ e2 h2 => q _ H2 e2 (tk_tup h2 (tk_imp (fun _ _ => Tk.ex (e.trans e2)) k) hz)
theorem ek_LI {ns : List Int} (h : EvL te σ H (ns.map V.int)) (hz : ns.length ≤ 40000) : EvK (n + 1) te σ H (.list (ns.map PyData.int)) := ek_L h (tk_ints ns) (by simpa using hz)
theorem ek_UI {ns : List Int} (h : EvU te σ H (ns.map V.int)) (hz : ns.length ≤ 40000) : EvK (n + 1) te σ H (.tuple (ns.map PyData.int)) := ek_U h (tk_ints ns) (by simpa using hz)
theorem s_asgK {D : Ends} {i : Nat} (h : EvK n te σ H d) (k : ∀ v H1, Ex H H1 → Tk n H1 v d → D.nx (σ.set i (some v)) H1) : tAsg te (gName i) D σ H := h H (Ex.refl H) _ k
theorem q_asgK {D : Ends} {tz : TS} {i : Nat} (h : EvK n te σ H d) (k : ∀ v H1, Ex H H1 → Tk n H1 v d → tz D (σ.set i (some v)) H1) : tSeq (tAsg te (gName i)) tz D σ H := h H (Ex.refl H) _ k
end
end Kit

set_option Elab.async false
set_option linter.all false
set_option maxRecDepth 100000
set_option maxHeartbeats 4000000
namespace Kit
open PySem PySem.Spec PyProof.Rows L2 Evl
/-! ### math.lcm -/
def rLcm : List V → Hp → VK → Prop := fun vs H Q => ∃ a b : Nat, vs = [.int (a : Int), .int (b : Int)] ∧ a < 2 ^ 60 ∧ b < 2 ^ 60 ∧ Q (.int ((Nat.lcm a b : Nat) : Int)) H
theorem cr_lcm {X : Cx} : CallR X (.builtin "math.lcm") rLcm := by
  intro pins s σ H vs us Q I r h
  obtain ⟨a, b, rfl, ha, hb, q⟩ := h
  obtain ⟨t, u, rfl⟩ := Vals.int2 r
  exact PySem.W.mc_lcm (by omega) (by omega) fun _ => ⟨.int _, H, I.tok _, ⟨_, rfl⟩, q⟩
section
variable {σ : L2.St} {H : Hp} {ta tb : TE} {a b : Nat}
theorem ev_lcm (ha : Ev ta σ H (.int (a : Int))) (hb : Ev tb σ H (.int (b : Int))) (h1 : a < 2 ^ 60) (h2 : b < 2 ^ 60) : Ev (tCB rLcm (tCons ta (tCons tb tNil))) σ H (.int ((Nat.lcm a b : Nat) : Int)) := fun H1 e Q q =>
  ha H1 e _ fun H2 e2 => hb H2 (e.trans e2) _ fun H3 e3 => ⟨a, b, rfl, h1, h2, q H3 (e2.trans e3)⟩
end
end Kit

set_option Elab.async false
set_option linter.all false
set_option maxRecDepth 100000
set_option maxHeartbeats 4000000
namespace Kit
open PySem PySem.Spec PyProof.Rows L2 Evl L2.DX
/-! ### sorted(d.items()), the dict int to int -/
section
variable {X : Cx}
def rItemsK : V → List V → Hp → VK → Prop := fun x xs H Q => ∃ (a : Addr) (kvs : List (Key × V)), x = .ref a ∧ xs = [] ∧ H a = some (.dK kvs) ∧ ∀ p, H p = none → Q (.ref p) (upd H p (itemsO p a))
theorem mt_itemsK : MtR X "dict.items" rItemsK := by
  intro pins s σ H x xs v us Q I rx rxs h
  obtain ⟨a, kvs, rfl, rfl, ha, q⟩ := h
  cases rx
  cases rxs
  obtain ⟨hz, hs0, vs, kv, hdo⟩ := I.hok a _ ha
  have hf : H s.heap.objs.size = none := I.hok.fresh (Nat.le_refl _)
  exact call_meetsIn PySem.F.slot_dict_items hdo.typeIs PySem.F.entry_dict_items (PySem.F.args_dict_items_1 _) (meets_dict_items (mixKind X.prog X.w) a hs0) ⟨⟨vs, hdo⟩, .ref s.heap.objs.size, upd H s.heap.objs.size (itemsO s.heap.objs.size a), I.laid (t' := s.toks) (fun b u e => Heap.get?_push_of_some _ e) (Nat.le_refl _) (itemsO_ok (Heap.get?_push_size _ rfl)), rfl, q _ hf⟩
end
section
variable {prog : Program} {w : World} {κ : Type} [DecidableEq κ] {knd : KeyKind prog w κ} {A : Around} {E : Value → Shared → Prop} {s : Shared} {r d : Addr} {kvs : List (κ × Value)} {ep : Nat}
theorem sortedK {Q : Value → Shared → Prop} (hh : A.handled = none) (hv : s.heap.IsItemsView r d) (hm : s.heap.DictAt knd d kvs ep) (hn : kvs.length ≤ sizeLine)
    (h : ∀ (h' : Heap) (tk : Nat) (as : List Addr), (∀ b o, s.heap.get? b = some o → h'.get? b = some o) → as.length = kvs.length → PySem.W.KdxG knd kvs s.heap.objs.size h' as →
      wpAny (model prog w) A.in1 (call (.builtin "list.sort") [.ref h'.objs.size]) (fun _ s' => Q (.ref h'.objs.size) s') E { s with heap := h'.push { cls := .type "list", data := .seq (as.map Value.ref).toArray }, toks := tk }) :
    wpAny (model prog w) A (call (.builtin "sorted") [.ref r]) Q E s := by
  refine Calls.call_function_entry kind_sorted plain_sorted entry_sorted (args_sorted1 _) ?_
  unfold Builtin.«sorted»
  refine wpAny_bind (m := checkCount "sorted" 1 1 _) (wpAny_pure ?_)
  refine wpAny_bind (PySem.W.kdx_collect (A := A.in1) (knd := knd) (kvs := kvs) (ep := ep) hh hv hm hn fun h' tk as hk hl hG => ?_)
  refine wpAny_bind (wpAny_newList ?_ (by rw [List.length_map, hl]; exact hn))
  have hg := h h' tk as hk hl hG
  refine wpAny_bind (wpAny_holding (wpAny_mono hg (fun _ s' x => ?_) fun _ _ e => e))
  exact wpAny_pure ⟨_, rfl, x⟩
end
def kA : List Addr → List (Int × Int) → Addr → Int × Int
  | a :: as, p :: ps, b => if b = a then p else kA as ps b
  | _, _, _ => (0, 0)
theorem kA_at : ∀ {as : List Addr} {ps : List (Int × Int)} {j : Nat} {b : Addr} {p : Int × Int}, as.Nodup → as[j]? = some b → ps[j]? = some p → kA as ps b = p
  | [], _, _, _, _, _, h, _ => by simp at h
  | _ :: _, [], _, _, _, _, _, h => by simp at h
  | a :: as, q :: ps, 0, b, p, _, h1, h2 => by
    have e1 : a = b := by simpa using h1
    have e2 : q = p := by simpa using h2
    subst e1 e2
    exact if_pos rfl
  | a :: as, q :: ps, j + 1, b, p, nd, h1, h2 => by
    have h1' : as[j]? = some b := by simpa using h1
    have h2' : ps[j]? = some p := by simpa using h2
    rw [List.nodup_cons] at nd
    have ne : b ≠ a := fun z => nd.1 (z ▸ List.mem_of_getElem? h1')
    show (if b = a then q else kA as ps b) = p
    rw [if_neg ne]
    exact kA_at nd.2 h1' h2'
theorem kA_map {as : List Addr} {ps : List (Int × Int)} (nd : as.Nodup) (hl : as.length = ps.length) : as.map (kA as ps) = ps := by
  refine List.ext_getElem? fun j => ?_
  rw [List.getElem?_map]
  cases h : as[j]? with
  | none =>
    have := List.getElem?_eq_none_iff.mp h
    exact (List.getElem?_eq_none_iff.mpr (by omega)).symm
  | some b =>
    have hj := (List.getElem?_eq_some_iff.mp h).1
    have hp : ps[j]? = some (ps[j]'(by omega)) := List.getElem?_eq_getElem _
    rw [hp]
    show some (kA as ps b) = _
    rw [kA_at nd h hp]
def aV : Value → Addr
  | .ref a => a
  | _ => 0
/-- sorted(view): a new list of new pairs, sorted by the key, then by what it leads to -/
def rSortItK : List V → Hp → VK → Prop := fun vs H Q => ∃ (p a : Addr) (ps : List (Int × Int)), vs = [.ref p] ∧ H p = some (itemsO p a) ∧ H a = some (.dK (enc ps)) ∧ ps ≠ [] ∧
  ∀ (H' : Hp) (l : Addr) (zs : List (Addr × Int × Int)), (∀ b o, H b = some o → H' b = some o) → H l = none → (zs.map (·.2)).Perm ps → (zs.map (·.2)).Pairwise (fun x y => SrtO.lexB y x = false) → H' l = some (.lst (zs.map fun z => V.ref z.1)) →
    (∀ z ∈ zs, H z.1 = none ∧ z.1 ≠ l ∧ H' z.1 = some (.tup [.int z.2.1, .int z.2.2])) → Q (.ref l) H'
section
variable {X : Cx}
theorem cr_sortItK (hc : X.calm = true) : CallR X (.builtin "sorted") rSortItK := by
  intro pins s σ H xs us Q I r h
  obtain ⟨p, a, ps, rfl, hp, ha, hne, q⟩ := h
  obtain rfl := Vals.ref1 r
  have view : s.heap.IsItemsView p a := (show ObjOk X.prog X.w H s.heap p (itemsO p a) from I.hok p _ hp).1
  obtain ⟨hz, hs0, vs, kv, hdo⟩ := I.hok a _ ha
  obtain ⟨ep, hat⟩ := hdo.dictAt
  have lk : (enc ps).length = vs.length := Paired.length kv
  have lp : (enc ps).length = ps.length := by unfold enc; rw [List.length_map]
  refine sortedK (knd := mixKind X.prog X.w) (kvs := vs) (ep := ep) (I.ok.hd hc) view hat (by rw [← lk]; exact hz) fun h' tk as hk hl hG => ?_
  have nd : as.Nodup := List.Pairwise.imp (fun {a b} (h : a < b) => Nat.ne_of_lt h) hG.rise
  have lap : as.length = ps.length := by omega
  have sle : s.heap.objs.size ≤ h'.objs.size := by
    have hp0 : 0 < ps.length := List.length_pos_iff.mpr hne
    have h0 : as[0]? = some (as[0]'(by omega)) := List.getElem?_eq_getElem _
    have a1 := hG.above _ (List.mem_of_getElem? h0)
    have a2 := hG.there (List.mem_of_getElem? h0)
    exact Nat.le_of_lt (Nat.lt_trans a1 a2)
  -- the pairs that were made
  have pr : ∀ (j : Nat) (b : Addr), as[j]? = some b → ∃ (pq : Int × Int) (t u : Tok), ps[j]? = some pq ∧ h'.get? b = some { cls := .type "tuple", data := .seq #[Value.int pq.1 t, Value.int pq.2 u] } := by
    intro j b hj
    obtain ⟨key, k, x, f1, f2, f3⟩ := hG.pairs j b hj
    obtain ⟨e0, he0, g2, g3⟩ := pget kv f1
    unfold enc at he0
    rw [List.getElem?_map] at he0
    cases hpj : ps[j]? with
    | none =>
      rw [hpj] at he0
      cases he0
    | some pq =>
      rw [hpj] at he0
      cases he0
      have rk : RelV (kV (.inl pq.1)) key := by
        have : k = .inl pq.1 := g2.symm
        rw [← this]
        exact relV_key (show keyIs k key = true from f2)
      obtain ⟨t, rfl⟩ := rk
      obtain ⟨u, rfl⟩ := g3
      exact ⟨pq, t, u, rfl, f3⟩
  have hob : (h'.push { cls := .type "list", data := .seq (as.map Value.ref).toArray }).get? h'.objs.size = some (seqObj "list" (as.map Value.ref).toArray 0) := Heap.get?_push_size _ rfl
  have ne0 : ∀ b o, h'.get? b = some o → b ≠ h'.objs.size := fun b o e => Nat.ne_of_lt (Heap.lt_size e)
  generalize hh2 : h'.push { cls := .type "list", data := .seq (as.map Value.ref).toArray } = h2 at hob ⊢
  have ka : ∀ b o, h'.get? b = some o → h2.get? b = some o := fun b o e => by rw [← hh2]; exact Heap.get?_push_of_some _ e
  have hpair : ∀ v ∈ as.map Value.ref, Srt.IsPair h2 v (kA as ps (aV v)).1 (kA as ps (aV v)).2 := by
    intro v hv
    obtain ⟨b, hb, rfl⟩ := List.mem_map.mp hv
    obtain ⟨j, hj⟩ := List.mem_iff_getElem?.mp hb
    obtain ⟨pq, t, u, h1, h2'⟩ := pr j b hj
    have e : kA as ps (aV (.ref b)) = pq := kA_at nd hj h1
    rw [e]
    exact ⟨b, _, t, u, 0, rfl, ka _ _ h2', rfl, rfl⟩
  refine wpAny_call_entry PyProof.Rows.slot_list_sort ⟨_, hob, rfl⟩ PyProof.Rows.entry_list_sort
    (SrtO.list_sort_ord (s := { s with heap := h2, toks := tk }) (SrtO.swo_lex fun u => kA as ps (aV u)) hob (by rw [List.length_map]; omega) (fun h2' => SrtO.pairs_sortableO (s := { s with heap := h2, toks := tk }) (by omega) hpair fun o e => ?_) fun out h1 h2' => ⟨.none, rfl, ?_⟩) (PyProof.Rows.args_list_sort _)
  · have e' : some o = some (seqObj "list" (as.map Value.ref).toArray 0) := e.symm.trans hob
    cases e'
    intro c
    exact absurd (Value.type.inj c) (by decide)
  · show EP X pins σ Q (.ref h'.objs.size) { s with heap := sortedHeap h2 h'.objs.size (as.map Value.ref) out.toArray, toks := tk }
    have back : out = (out.map aV).map Value.ref := by
      rw [List.map_map]
      refine (List.map_id _).symm.trans (List.map_congr_left fun u hu => ?_)
      obtain ⟨b, _, rfl⟩ := List.mem_map.mp (h2'.perm.mem_iff.mp hu)
      rfl
    have po : (out.map aV).Perm as := by
      have e := h2'.perm.map aV
      rw [List.map_map] at e
      exact e.trans (List.Perm.of_eq (List.map_id as))
    generalize ho : out.map aV = os at back po
    subst back
    have kF : ∀ b o, b ≠ h'.objs.size → h2.get? b = some o → (sortedHeap h2 h'.objs.size (as.map Value.ref) (os.map Value.ref).toArray).get? b = some o := fun b o hb e => (PyProof.Rows.sortedHeap_old hb (Heap.lt_size e)).trans e
    have kS : ∀ b o, s.heap.get? b = some o → (sortedHeap h2 h'.objs.size (as.map Value.ref) (os.map Value.ref).toArray).get? b = some o := fun b o e => kF b o (ne0 _ _ (hk b o e)) (ka _ _ (hk b o e))
    obtain ⟨eF, heF⟩ := PyProof.Rows.sortedHeap_at (vs := as.map Value.ref) (out := (os.map Value.ref).toArray) hob
    generalize hh3 : sortedHeap h2 h'.objs.size (as.map Value.ref) (os.map Value.ref).toArray = h3 at kF kS heF ⊢
    have I1 : Inv X pins σ H { s with heap := h3, toks := tk } := I.kept (t' := tk) kS
    have hn0 : H h'.objs.size = none := I.hok.fresh sle
    have I2 : Inv X pins σ (upd H h'.objs.size (.lst (os.map V.ref))) { s with heap := h3, toks := tk } :=
      I1.take (h' := h3) (t' := tk) (fun b ob _ e => e) (I.fpOk sle hn0) ⟨by
        rw [List.length_map, po.length_eq]
        omega, os.map Value.ref, eF, LiI.vals_refs os, heF⟩
    obtain ⟨H2, I3, g, qt⟩ := takeT (P := fun b vs => vs = [.int (kA as ps b).1, .int (kA as ps b).2]) I as _ I2 nd fun b hb => by
      obtain ⟨j, hj⟩ := List.mem_iff_getElem?.mp hb
      obtain ⟨pq, t, u, h1', h2''⟩ := pr j b hj
      have hbl : s.heap.objs.size ≤ b := Nat.le_of_lt (hG.above b hb)
      refine ⟨hbl, ?_, _, rfl, fun H3 => ⟨(by rw [sizeLine_eq]; show 2 ≤ 16777216; omega), [Value.int pq.1 t, Value.int pq.2 u], ?_, ⟨_, kF _ _ (ne0 _ _ h2'') (ka _ _ h2''), rfl, 0, rfl⟩⟩⟩
      · rw [upd_ne (ne0 _ _ h2'')]
        exact I.hok.fresh hbl
      · rw [kA_at nd hj h1']
        exact .cons ⟨t, rfl⟩ (.cons ⟨u, rfl⟩ .nil)
    have gr : ∀ b o, H b = some o → H2 b = some o := fun b o e => g b o (by rw [upd_ne (ne_of_none e hn0)]; exact e)
    have em : (os.map fun b => (b, kA as ps b)).map (·.2) = os.map (kA as ps) := by
      rw [List.map_map]
      exact List.map_congr_left fun _ _ => rfl
    refine ⟨.ref h'.objs.size, H2, I3, rfl, q H2 h'.objs.size (os.map fun b => (b, kA as ps b)) gr hn0 ?_ ?_ ?_ fun z hz' => ?_⟩
    · rw [em]
      have e := po.map (kA as ps)
      rw [kA_map nd lap] at e
      exact e
    · rw [em]
      have e : SrtO.Srtd (fun v u => SrtO.lexB (kA as ps (aV v)) (kA as ps (aV u))) (os.map Value.ref) := h1
      exact List.pairwise_map.mpr (List.pairwise_map.mp e)
    · have e : (os.map fun b => (b, kA as ps b)).map (fun z => V.ref z.1) = os.map V.ref := by
        rw [List.map_map]
        exact List.map_congr_left fun _ _ => rfl
      rw [e]
      exact g _ _ upd_same
    · obtain ⟨b, hb, rfl⟩ := List.mem_map.mp hz'
      have hb' := po.mem_iff.mp hb
      obtain ⟨vs', ev, hH⟩ := qt b hb'
      obtain ⟨j, hj⟩ := List.mem_iff_getElem?.mp hb'
      obtain ⟨pq, t, u, h1', h2''⟩ := pr j b hj
      subst ev
      exact ⟨I.hok.fresh (Nat.le_of_lt (hG.above b hb')), ne0 _ _ h2'', hH⟩
end
section
variable {K : PySem.W.Frag} {σ : L2.St} {H : Hp} {ta tb tc td te : TE} {D : Ends} {tu : TS} {tz : TS} {ps : List (Int × Int)}
/-- for k, v in d.items() -/
theorem s_forItI {i j : Nat} {d : Addr} (hd : H d = some (.dK (enc ps))) (h : ∀ o, Ev td σ (upd H d (.frz o (.dK (enc ps)))) (.ref d)) (Pv : Obj → Nat → L2.St → Hp → Prop) (h0 : ∀ o H1, Ex (upd H d (.frz o (.dK (enc ps)))) H1 → Pv o 0 σ H1) (hl : ∀ o k σ' H', k ≤ ps.length → Pv o k σ' H' → H' d = some (.frz o (.dK (enc ps))))
    (hs : ∀ o k a v σ' H' H2, ps[k]? = some (a, v) → Pv o k σ' H' → Ex H' H2 → tu { nx := Pv o (k + 1), ct := Pv o (k + 1), bk := fun σ' H' => H' d = some (.frz o (.dK (enc ps))) ∧ D.nx σ' (upd H' d (.dK (enc ps))), rt := fun v H' => H' d = some (.frz o (.dK (enc ps))) ∧ D.rt v (upd H' d (.dK (enc ps))) } ((σ'.set i (some (.int a))).set j (some (.int v))) H2)
    (he : ∀ o σ' H', Pv o ps.length σ' H' → D.nx σ' (upd H' d (.dK (enc ps)))) : tLock (tFor (iItems td) (gTup K 2 (gCons (gName i) (gCons (gName j) gNil))) tu) D σ H := ⟨d, .dK (enc ps), hd, True.intro, fun o => h o _ (Ex.refl _) _ fun H1 e => ⟨d, o, enc ps, rfl, e d _ upd_same, by
  have le : (enc ps).length = ps.length := List.length_map ..
  refine for_it walk_items (Pv o) (h0 o H1 e) (fun k σ' H' hk p => hl o k σ' H' (by omega) p) ?_ (fun σ' H' p => by
    rw [le] at p
    exact ⟨hl o _ σ' H' (Nat.le_refl _) p, he o σ' H' p⟩)
  rintro k v σ' Hh H2 hk p ⟨T, x, y, rfl, nT, rfl, g1, g2⟩
  have hk' : k < ps.length := by omega
  have e0 : (enc ps)[k]? = some (.inl ps[k].1, .int ps[k].2) := by
    unfold enc
    rw [List.getElem?_map, List.getElem?_eq_getElem hk']
    rfl
  have g1 : (enc ps)[k]?.map (fun kv => kV kv.1) = some x := g1
  have g2 : (enc ps)[k]?.map Prod.snd = some y := g2
  rw [e0] at g1 g2
  cases g1
  cases g2
  exact ⟨T, [.int ps[k].1, .int ps[k].2], rfl, st_of upd_same, rfl, .int ps[k].1, [.int ps[k].2], rfl, .int ps[k].2, [], rfl, rfl, hs o k ps[k].1 ps[k].2 σ' Hh _ (List.getElem?_eq_getElem hk') p (Ex.new nT)⟩⟩⟩
theorem q_forItI {i j : Nat} {d : Addr} (hd : H d = some (.dK (enc ps))) (h : ∀ o, Ev td σ (upd H d (.frz o (.dK (enc ps)))) (.ref d)) (Pv : Obj → Nat → L2.St → Hp → Prop) (h0 : ∀ o H1, Ex (upd H d (.frz o (.dK (enc ps)))) H1 → Pv o 0 σ H1) (hl : ∀ o k σ' H', k ≤ ps.length → Pv o k σ' H' → H' d = some (.frz o (.dK (enc ps))))
    (hs : ∀ o k a v σ' H' H2, ps[k]? = some (a, v) → Pv o k σ' H' → Ex H' H2 → tu { nx := Pv o (k + 1), ct := Pv o (k + 1), bk := fun σ' H' => H' d = some (.frz o (.dK (enc ps))) ∧ tz D σ' (upd H' d (.dK (enc ps))), rt := fun v H' => H' d = some (.frz o (.dK (enc ps))) ∧ D.rt v (upd H' d (.dK (enc ps))) } ((σ'.set i (some (.int a))).set j (some (.int v))) H2)
    (he : ∀ o σ' H', Pv o ps.length σ' H' → tz D σ' (upd H' d (.dK (enc ps)))) : tSeq (tLock (tFor (iItems td) (gTup K 2 (gCons (gName i) (gCons (gName j) gNil))) tu)) tz D σ H := s_forItI (D := { D with nx := tz D }) hd h Pv h0 hl hs he
/-- [{k: v}] -/
theorem q_asgD1 {i : Nat} {x v : Int} (hk : ∀ H1, Ev ta σ H1 (.int x)) (hv : ∀ H1, Ev tb σ H1 (.int v)) (k : ∀ p q H1, H p = none → H q = none → p ≠ q → Ex H H1 → H1 p = some (.dK (enc [(x, v)])) → H1 q = some (.lst [.ref p]) → tz D (σ.set i (some (.ref q))) H1) : tSeq (tAsg (tLst (tCons (tDisp [(ta, tb)]) tNil)) (gName i)) tz D σ H := fun p hp => hk _ _ (Ex.refl _) _ fun H1 e1 => hv _ _ (Ex.refl _) _ fun H2 e2 =>
  ⟨e2 p _ (e1 p _ upd_same), [(.inl x, .int v)], rfl, Nat.le_of_ble_eq_true rfl, Nat.le_of_ble_eq_true rfl, fun q hq => by
    have np : q ≠ p := fun z => by
      rw [z, upd_same] at hq
      cases hq
    have hq2 : H2 q = none := by
      rw [upd_ne np] at hq
      exact hq
    have eb : Ex H (upd H2 p (.dK (mergeK [] [(Sum.inl x, V.int v)]))) := Ex.mut ((Ex.new hp).trans (e1.trans e2)) hp
    refine k p q _ hp ?_ np.symm (eb.trans (Ex.new hq)) ?_ upd_same
    · cases hh : H q with
      | none => rfl
      | some o =>
        have := eb q o hh
        rw [this] at hq
        cases hq
    · rw [upd_ne np.symm]
      exact upd_same⟩
theorem s_retSI {a : Addr} (h : Ev ta σ H (.ref a)) (ha : H a = some (.dK (enc ps))) (hne : ps ≠ []) (k : ∀ (H' : Hp) (l : Addr) (zs : List (Addr × Int × Int)), Ex H H' → H l = none → (zs.map (·.2)).Perm ps → (zs.map (·.2)).Pairwise (fun x y => SrtO.lexB y x = false) → H' l = some (.lst (zs.map fun z => V.ref z.1)) →
    (∀ z ∈ zs, H z.1 = none ∧ z.1 ≠ l ∧ H' z.1 = some (.tup [.int z.2.1, .int z.2.2])) → D.rt (.ref l) H') : tRet (tCB rSortItK (tCons (tBM0 K "dict" rItemsK ta) tNil)) D σ H := h H (Ex.refl H) _ fun H1 e1 =>
  ⟨.inr (.inr (.inl ⟨rfl, .inl ⟨_, e1 a _ ha⟩⟩)), a, _, rfl, rfl, e1 a _ ha, fun p hp => ⟨p, a, ps, rfl, upd_same, by
    rw [upd_ne (ne_of_none (e1 a _ ha) hp)]
    exact e1 a _ ha, hne, fun H' l zs g nl k1 k2 k3 k4 => by
    have back : ∀ c, upd H1 p (itemsO p a) c = none → H c = none := fun c hc => by
      cases hh : H c with
      | none => rfl
      | some o =>
        have e := e1.trans (Ex.new (o := itemsO p a) hp) c o hh
        rw [hc] at e
        cases e
    exact k H' l zs ((e1.trans (Ex.new hp)).trans g) (back l nl) k1 k2 k3 fun z hz => ⟨back _ (k4 z hz).1, (k4 z hz).2⟩⟩⟩
end
end Kit

set_option Elab.async false
set_option linter.all false
set_option maxRecDepth 100000
set_option maxHeartbeats 4000000
namespace Kit
open PySem PySem.Spec PyProof.Rows L2 Evl
/-! ### xs[i] += e -/
section
variable {X : Cx}
theorem get_listR : PGet X (rIxL X.K) := by
  intro pins s σ H o i ov iv Q I ro ri h
  obtain ⟨p, xs, k, z, rfl, rfl, hq, he, q⟩ := h
  cases ro
  obtain ⟨t, rfl⟩ := ri
  obtain ⟨its, r, pl, hz⟩ := I.list hq
  obtain ⟨j, h1, h2, h3, h4, h5⟩ := atI_get he
  obtain ⟨w, ew, rw'⟩ := r.get h2
  have hl := r.length
  have hn := line63
  have fin : EP X pins σ Q w s := ⟨z, H, I, rw', q⟩
  by_cases h0 : 0 ≤ k
  · have hj : k.toNat = j := by
      rw [seqIndex_of h0 h5] at h1
      exact Option.some.inj h1
    exact wpAny_getItem_list pl.isList h0 (by omega) (by rw [hj]; simpa using ew) fin
  · have hj : (k + (its.toArray.size : Int)).toNat = j := by
      rw [seqIndex_neg (by omega) h4] at h1
      rw [List.size_toArray, ← hl]
      exact Option.some.inj h1
    exact wpAny_getItem_list_neg pl.isList (by omega) (by rw [List.size_toArray] <;> omega) (by omega) (by rw [hj]; simpa using ew) fin
end
section
variable {K : PySem.W.Frag} {σ : L2.St} {H : Hp} {ta tb te : TE} {D : Ends} {tz : TS}
theorem s_augL {f : Int → Int → Int} {l : Addr} {xs : List V} {j : Nat} {a b : Int} (hl : H l = some (.lst xs)) (ho : Ev ta σ H (.ref l)) (hi : Ev tb σ H (.int (j : Int))) (hx : xs[j]? = some (.int a)) (he : Ev te σ H (.int b)) (k : ∀ H1, Ex H H1 → D.nx σ (upd H1 l (.lst (xs.set j (.int (f a b)))))) :
    tAugS ta tb te (rIxL K) (ipI f) rSetL D σ H := ho H (Ex.refl H) _ fun H1 e1 => hi H1 e1 _ fun H2 e2 => ⟨l, xs, (j : Int), .int a, rfl, rfl, sq_of (e2 l _ (e1 l _ hl)), atI_nat hx, he H2 (e1.trans e2) _ fun H3 e3 =>
  ⟨a, b, rfl, rfl, l, xs, (j : Int), j, rfl, rfl, e3 l _ (e2 l _ (e1 l _ hl)), ixN_nat (List.getElem?_eq_some_iff.mp hx).1, k H3 (e1.trans (e2.trans e3))⟩⟩
theorem q_augL {f : Int → Int → Int} {l : Addr} {xs : List V} {j : Nat} {a b : Int} (hl : H l = some (.lst xs)) (ho : Ev ta σ H (.ref l)) (hi : Ev tb σ H (.int (j : Int))) (hx : xs[j]? = some (.int a)) (he : Ev te σ H (.int b)) (k : ∀ H1, Ex H H1 → tz D σ (upd H1 l (.lst (xs.set j (.int (f a b)))))) :
    tSeq (tAugS ta tb te (rIxL K) (ipI f) rSetL) tz D σ H := s_augL (D := { D with nx := tz D }) hl ho hi hx he k
end
end Kit

set_option Elab.async false
set_option linter.all false
set_option maxRecDepth 100000
set_option maxHeartbeats 4000000
namespace Kit
open PySem PySem.Spec PyProof.Rows L2 Evl
/-! ### defs that may raise -/
section
variable {P : Program} {w : World} {K : PySem.W.Frag} {mg : Str → Option Value} {base : Heap}
theorem okN {x qual : Str} {d : Stmt} {f : Addr} {fd : FuncData} {N names : List Str} {n : Nat} {want : Sp} (F : Fun K x qual d f fd) (S : FnScope N names (defScope d)) (many : ∀ xs H Q E, want xs H Q E → xs.length = names.length)
    (body : ∀ (cv : Value) (A : Around) (frames : List Env) (st : Shared) (H : Hp) (xs : List V) (Q : VK) (E : XK), Room n (A.deeper (envOfC qual (defScope d) st.heap.objs.size f cv)) → want xs H Q E →
      ∃ t, PSs (cxOf (L2N.CX P w) P w K mg base N qual (defScope d) f cv A frames st H E) (defBody d) t ∧ t { nx := fun _ H' => Q .non H', rt := Q } (start N xs) H) : FnOk P w K mg base (L2N.CX P w) (n + 1) f fd names want := by
  obtain ⟨oc, od, kV, doc, pm, an, cdv, ct, osl, rfl, lk, hcd⟩ := F.ex
  exact fn_of lk hcd S many fun A outer s H vs Q E hr hsp => body cdv A outer s H vs Q E hr hsp
theorem passN {N : List Str} {qual : Str} {sc : Scope} {f : Addr} {cv : Value} {A : Around} {frames : List Env} {st : Shared} {H : Hp} {E : XK} :
    Passes (L2N.CX P w) (cxOf (L2N.CX P w) P w K mg base N qual sc f cv A frames st H E) E := L2N.passes_call (W := fun cls d _ H => E cls d H) (L2N.takes_of rfl rfl rfl rfl) fun _ _ _ _ h => h
theorem passE0 {X : Cx} : Passes (L2N.CX X.prog X.w) X E0 := fun _ _ _ _ _ _ _ h => by
  obtain ⟨_, _, _, _, _, _, _, _, _, _, _, _, z⟩ := h
  exact z.elim
theorem takesN {N : List Str} {qual : Str} {sc : Scope} {f : Addr} {cv : Value} {A : Around} {frames : List Env} {st : Shared} {H : Hp} {E : XK} :
    L2N.Takes (cxOf (L2N.CX P w) P w K mg base N qual sc f cv A frames st H E) (fun cls d _ H => E cls d H) := L2N.takes_of rfl rfl rfl rfl
end
theorem takes0N {X : Cx} : L2N.Takes X.nox (fun _ _ _ _ => False) := fun _ _ x => by
  obtain ⟨_, _, _, _, _, _, _, _, _, _, _, _, _, _, _, _, z⟩ := x
  exact z.elim
/-! ### exceptions made: X(e) -/
theorem pmk1N {X : Cx} {C : Addr} {bmB : List Value} {B newId initId : String} {x : Str} {e : Expr} {ta : TE} {p pos : Pos} (F : ExcBaseFacts B newId initId bmB) (q : PySem.W.excIn X.K C bmB newId = true) (gC : X.mg x = some (.ref C)) (kC : PySem.W.keepIn X.K (.ref C) = true) (r : Raises X (.ref C)) (hg : Gl X x)
    (he : PE X e ta) (hs : starEach [e] X.env = (false, eval e X.env) :: starEach [] X.env := by rfl) (hdb : (x == ("__debug__" : Str)) = false := by decide) :
    L2N.PMk X (.Call (.Name x p) [e] [] pos) (fun σ H Q => ta σ H fun _ H1 => Q (.ref C) none H1) := by
  intro pins st σ H Q J h
  refine wpAny_Call_Name_kw (ld_glob J hg gC (PySem.W.callWith_K (h₀ := X.base) J.ok.mod.kin kC ?_ hs (by rfl)) hdb)
  rw [hs]
  show wpAny _ _ (spliced ((false, eval e X.env) :: backTo pos (starEach [] X.env))) _ _ st
  refine Calls.spliced_cons (thn (he.run pins st σ H _ J h) fun u st1 ⟨v, H1, J1, rv, want⟩ => Calls.spliced_nil ⟨J1.kIn, ?_⟩)
  show wpAny _ _ (call (.ref C) [u]) _ _ _
  obtain ⟨_, _, _, _, _, _, _, _, _, _, _, _, _, _, _, _, _, cls, ns, no, tail⟩ := exc_obj J1.kIn q
  exact wpAny_call_exc_subT F tail cls ns no (fun h2 a made => L2N.mk_of J1 made r want (J1.hok.gone made.new)) (by show 1 ≤ sizeLine; rw [sizeLine_eq]; omega)
/-- what an own class of errors must be -/
def excB (K : PySem.W.Frag) (C : Addr) : Bool := PySem.W.excIn K C [.type "ValueError", .type "Exception", .type "BaseException", .type "object"] "ValueError.__new__" && (PySem.W.keepIn K (.ref C) &&
  (decide (PySem.W.subIn K (.ref C) (.type "BaseException") = some true) && (decide (PySem.W.typeIn K (.ref C) = some (.type "type")) &&
  (decide (PySem.W.findIn K (.ref C) "__getattribute__" = some (some (.builtin "BaseException.__getattribute__"))) && (decide (PySem.W.findIn K (.ref C) "__getattr__" = some none) &&
  (PySem.W.hasDictIn K C && (decide (PySem.W.findIn K (.ref C) "__class__" = some (some (.builtin "object.__class__"))) && (decide (PySem.W.specialIn K (.builtin "object.__class__") "__get__" = some (some (.builtin "getset_descriptor.__get__"))) &&
  (decide (PySem.W.takesIn K (.builtin "object.__class__") = some true) && decide (PySem.W.mroIn K C (.type "object") = some true))))))))))
structure ExcD (K : PySem.W.Frag) (C : Addr) : Prop where
  ein : PySem.W.excIn K C [.type "ValueError", .type "Exception", .type "BaseException", .type "object"] "ValueError.__new__" = true
  kp : PySem.W.keepIn K (.ref C) = true
  sb : PySem.W.subIn K (.ref C) (.type "BaseException") = some true
  ty : PySem.W.typeIn K (.ref C) = some (.type "type")
  is : ExcC K C
theorem excD_of {K : PySem.W.Frag} {C : Addr} (h : excB K C = true) : ExcD K C := by
  obtain ⟨h1, h⟩ := Bool.and_eq_true_iff.mp h
  obtain ⟨h2, h⟩ := Bool.and_eq_true_iff.mp h
  obtain ⟨h3, h⟩ := Bool.and_eq_true_iff.mp h
  obtain ⟨h4, h⟩ := Bool.and_eq_true_iff.mp h
  obtain ⟨h5, h⟩ := Bool.and_eq_true_iff.mp h
  obtain ⟨h6, h⟩ := Bool.and_eq_true_iff.mp h
  obtain ⟨h7, h⟩ := Bool.and_eq_true_iff.mp h
  obtain ⟨h8, h⟩ := Bool.and_eq_true_iff.mp h
  obtain ⟨h9, h⟩ := Bool.and_eq_true_iff.mp h
  obtain ⟨h10, h11⟩ := Bool.and_eq_true_iff.mp h
  exact ⟨h1, h2, of_decide_eq_true h3, of_decide_eq_true h4, ⟨of_decide_eq_true h5, of_decide_eq_true h6, of_decide_eq_true h3, h7, of_decide_eq_true h8, of_decide_eq_true h9, of_decide_eq_true h10, of_decide_eq_true h11⟩⟩
/-- what isinstance says of an error of the class C, class by class -/
def isRow (K : PySem.W.Frag) (C : Addr) (l : List (Value × Bool)) : Bool := l.all fun x => decide (PySem.W.kitOne K (.ref C) x.1 = some x.2)
theorem isRow_at {K : PySem.W.Frag} {C : Addr} {l : List (Value × Bool)} (h : isRow K C l = true) {v : Value} {b : Bool} (m : (v, b) ∈ l) : PySem.W.kitOne K (.ref C) v = some b := of_decide_eq_true (List.all_eq_true.mp h _ m)
/-- raise X(e) -/
theorem ps_raiseN {X : Cx} {C : Addr} {W : WX} {x : Str} {e : Expr} {ta : TE} {p pos pos2 : Pos} (hc : X.calm = true) (tk : L2N.Takes X W) (D : ExcD X.K C) (gC : X.mg x = some (.ref C)) (hg : Gl X x)
    (he : PE X e ta) (hs : starEach [e] X.env = (false, eval e X.env) :: starEach [] X.env := by rfl) (hdb : (x == ("__debug__" : Str)) = false := by decide) :
    PS X (.Raise (some (.Call (.Name x p) [e] [] pos)) none pos2) (fun _ σ H => ta σ H fun _ H1 => W (.ref C) none σ H1) :=
  L2N.ps_raise hc tk (pmk1N PySem.F.excBase_ValueError D.ein gC D.kp (raises_own D.sb D.ty) hg he hs hdb)
/-! ### calls within the suite, the exception handed on -/
structure FnP (P : Program) (w : World) (K : PySem.W.Frag) (mg : Str → Option Value) (base : Heap) (CX : CXT) (k : Nat) (f : Addr) (fd : FuncData) (ps : List Str) (sp : Addr → Value → Option Addr → Sp) : Prop where
  len : ∀ a cls d vs H Q E, sp a cls d vs H Q E → vs.length = ps.length
  run : ∀ (A : Around) (outer : List Env) (s : Shared) (H : Hp) (args : Args) (us : List Value) (vs : List V) (Q : VK) (E : XK) (p : Addr × Obj) (cls : Value) (d : Option Addr), L2H.RoomH k A → L2H.Hot1 A p → Zc cls d p.2 → L2H.PinOk outer H s p → Env0 P w K mg base A outer s H → BindsTo s fd args (ps.zip us) → Vals vs us → sp p.1 cls d vs H Q E →
    codeAny (model P w) A (.call (.ref f) args) (CR CX outer P w H s Q E) s
theorem okP {CX : CXT} {P : Program} {w : World} {K : PySem.W.Frag} {mg : Str → Option Value} {base : Heap} {k : Nat} {f : Addr} {x qual : Str} {d : Stmt} {fd : FuncData} {N ps : List Str} {sp : Addr → Value → Option Addr → Sp} (F : Fun K x qual d f fd) (S : FnScope N ps (defScope d))
    (len : ∀ a cls d vs H Q E, sp a cls d vs H Q E → vs.length = ps.length)
    (hbody : ∀ (cdv : Value) (A : Around) (outer : List Env) (s : Shared) (H : Hp) (vs : List V) (Q : VK) (E : XK) (p : Addr × Obj) (cls : Value) (dd : Option Addr), L2H.Hot1 A p → Zc cls dd p.2 → L2H.RoomH k (A.deeper (envOfC qual (defScope d) s.heap.objs.size f cdv)) → sp p.1 cls dd vs H Q E →
      ∃ t, PSs (L2H.cxH CX P w K mg base N qual (defScope d) f cdv A outer s H E p) (defBody d) t ∧ t { nx := fun _ H' => Q .non H', rt := Q } (L2.start N vs) H) :
    FnP P w K mg base CX (k + 1) f fd ps sp := by
  obtain ⟨oc, od, kV, doc, pm, an, cdv, ct, osl, rfl, lk, hcd⟩ := F.ex
  refine ⟨len, fun A outer s H args us vs Q E p cls dd hr hot hz hpin e0 hb r hsp => ?_⟩
  have size := len _ _ _ _ _ _ _ hsp
  have inK : K.In s.heap := e0.mod.kin.keeps fun b o q => (e0.bs b o q).1
  have noLim : s.heap.NoLimit := e0.mod.nolimit.keeps fun b o q => (e0.bs b o q).1
  have kinds : ∀ y ∈ ps.zip us, (defScope d).names.lookup y.1 = some .local ∨ ((defScope d).names.lookup y.1 = some .cell ∧ ((cellsFrom (s.heap.objs.size + 1) (defScope d).names []).lookup y.1).isSome = true) := by
    rintro ⟨a, b⟩ hy
    exact (S.par a (List.of_mem_zip hy).1).elim .inl fun q => .inr ⟨q, PySem.W.cellsFrom_some _ _ _ (.inl q)⟩
  refine codeAny_call_function hr.depth (inK _ _ lk) rfl S.co S.gen rfl (PySem.W.codeRec_of inK hcd) (hb _ _ _ _ (wpAny_newFunctionEnv_cells S.kind kinds fun env eq st1 made => ?_))
  cases eq
  refine ⟨noLim.keeps made.toInCall.keep, codeAny_func ?_⟩
  obtain ⟨t, rule, done⟩ := hbody cdv A outer s H vs Q E p cls dd hot hz (hr.deeper _) hsp
  have J : Inv (L2H.cxH CX P w K mg base N qual (defScope d) f cdv A outer s H E p) [] (L2.start N vs) H st1 := L2H.inv_startH S hpin e0 size r made
  have back : ∀ {σ' : L2.St} {H' : Hp} {v : V} {u : Value} {st2 : Shared}, Inv (L2H.cxH CX P w K mg base N qual (defScope d) f cdv A outer s H E p) [] σ' H' st2 → RelV v u → Q v H' → CE outer P w H s Q u st2 := fun J2 rv q => ⟨_, _, J2.os, J2.bare, J2.base, J2.hok, rv, q⟩
  refine wpAny_mono (rule.run [] st1 (L2.start N vs) H _ J done) (fun z st2 hs => ?_) fun _ _ hs => hs
  match z, hs with
  | .ret u, ⟨v, σ2, H2, J2, rv, q⟩ => exact back J2 rv q
  | .next, ⟨σ2, H2, J2, q⟩ => exact back (v := V.non) (u := Value.none) J2 rfl q
  | .brk, ⟨_, _, _, q⟩ => exact False.elim q
  | .cont, ⟨_, _, _, q⟩ => exact False.elim q
def tCallP (sp : Addr → Value → Option Addr → Sp) (a : Addr) (cls : Value) (d : Option Addr) (t : TA) : TE := fun σ H Q => t σ H fun vs H1 => sp a cls d vs H1 Q E0
/-- f(e, ..) in the suite of the exception p -/
theorem pe_callP {X : Cx} {k : Nat} {f : Addr} {fd : FuncData} {ps : List Str} {sp : Addr → Value → Option Addr → Sp} {x : Str} {q pos : Pos} {e : Expr} {es : List Expr} {t : TA} {p : Addr × Obj} {cls : Value} {d : Option Addr} (F : FnP X.prog X.w X.K X.mg X.base CX0 k f fd ps sp) (room : L2H.RoomH k X.A) (hot : L2H.Hot1 X.A p) (hz : Zc cls d p.2) (hp : p ∈ X.pn)
    (gl : Gl X x) (at_ : X.mg x = some (.ref f)) (keep : PySem.W.keepIn X.K (.ref f) = true) (bind : Binds X.K fd ps []) (ha : PA X (e :: es) t) (nd : (x == ("__debug__" : Str)) = false := by decide)
    (one : starEach (e :: es) X.env = (false, eval e X.env) :: starEach es X.env := by rfl) (plain : (backTo pos (starEach es X.env)).any (·.1) = false := by rfl) : PE X (.Call (.Name x q) (e :: es) [] pos) (tCallP sp p.1 cls d t) := by
  refine ⟨fun pins st σ H Q J h => wpAny_Call_Name_kw (ld_glob J gl at_ ?_ nd)⟩
  refine PySem.W.callWith_K (h₀ := X.base) J.ok.mod.kin keep (thn (ha.run pos pins st σ H _ J h) fun us st1 ⟨vs, H1, J1, r, want⟩ => ⟨J1.kIn, ?_⟩) one plain
  have size : us.length = ps.length := r.length.symm.trans (F.len _ _ _ _ _ _ _ want)
  have bd := bind st1 us J1.kIn (by rw [List.append_nil]; exact size)
  rw [List.append_nil] at bd
  have P1 := J1.pin p (List.mem_append_left _ hp)
  have pin : L2H.PinOk X.stack H1 st1 p := ⟨P1.1, P1.2.1, fun hm => (List.mem_cons.mp (J1.stkSub p.1 hm)).elim P1.2.2.1 P1.2.2.2.1, P1.2.2.2.2⟩
  refine wpAny_call (codeAny_mono (F.run X.A X.stack st1 H1 ⟨us, []⟩ us vs Q E0 p cls d room hot hz pin J1.env0 bd r want) fun res st2 hq => ?_)
  match res, hq with
  | .error _, hq => exact False.elim hq
  | .ok (.ret _), hq => exact J1.after hq
  | .ok .next, hq => exact False.elim hq
  | .ok .brk, hq => exact False.elim hq
  | .ok .cont, hq => exact False.elim hq
theorem hot_suite {A : Around} {a : Addr} {oe : Obj} {cls : Value} {d : Option Addr} (hz : L2N.Zn cls d oe) (hf : ∃ vs, oe.data = .fields vs) : L2H.Hot1 (A.mark (some (.ref a))) (a, oe) :=
  ⟨rfl, hf.imp fun vs e => ⟨e, hz.2.2 vs e⟩⟩
theorem roomS {A : Around} {x : Option Value} {k : Nat} (r : Room k A) : L2H.RoomH k (A.mark x) := ⟨r.dp, r.un⟩
/-- isinstance(e, c), e the exception p -/
theorem call_isP {X : Cx} {p : Addr × Obj} {D : Addr} (C : ExcD X.K D) (hp : p ∈ X.pn) (hz : Zc (.ref D) none p.2) (hf : ∃ vs, p.2.data = .fields vs) : CallR X (.builtin "isinstance") (rIsE X.K D p.1) := by
  intro pins st σ H xs us Q J r h
  obtain ⟨c, cv, b, rfl, same, e, q⟩ := h
  cases r with
  | cons ra rest =>
    cases rest with
    | cons rc rest =>
      cases rest
      cases ra
      have ec := same _ rc
      subst ec
      obtain ⟨there, _⟩ := J.pin p (List.mem_append_left _ hp)
      obtain ⟨vs, hv⟩ := hf
      have inst : PySem.W.InstAt st.heap p.1 p.2 D none := ⟨there, hz.1, by unfold PySem.W.notCls; rw [hv] <;> rfl, by rw [hz.2]; trivial⟩
      have Z := PySem.W.handS_kitx_exc (x := p.1) (ox := p.2) C.is.hg C.is.hk C.is.hs C.is.hd C.is.ha C.is.hn C.is.ht C.is.hm
      exact PySem.W.kia_one Z J.kIn inst e (fun z => nomatch z) fun tk => ⟨.bl b, H, J.kept (t' := tk) fun _ _ z => z, rfl, q⟩
/-! ### readings -/
/-- what is due: nothing, or an error -/
structure Out (due : Option Addr) (H : Hp) (Q : VK) (E : XK) : Prop where
  no : due = none → ∀ v H1, Ex H H1 → Q v H1
  yes : ∀ C, due = some C → ∀ H1, Ex H H1 → E (.ref C) none H1
section
variable {K : PySem.W.Frag} {σ : L2.St} {H H' : Hp} {ta : TA} {tz : TS} {D : Ends} {E : XK} {sp : Sp} {vs dvs : List V} {te tf : TE}
theorem ev_isP {a C : Addr} {c : V} {cv : Value} {b : Bool} (h0 : Ev te σ H (.ref a)) (h1 : Ev tf σ H c) (hc : ∀ u, RelV c u → u = cv) (hk : PySem.W.kitOne K (.ref C) cv = some b) : Ev (tCB (rIsE K C a) (tCons te (tCons tf tNil))) σ H (.bl b) := fun H1 e Q q =>
  h0 H1 e _ fun H2 e2 => h1 H2 (e.trans e2) _ fun H3 e3 => ⟨c, cv, b, rfl, hc, hk, q H3 (e2.trans e3)⟩
def SpO (sp : Sp) (vs : List V) (H : Hp) (due : Option Addr) : Prop := ∀ H1, Ex H H1 → ∀ (Q : VK) (E : XK), Out due H1 Q E → sp vs H1 Q E
theorem Out.mono {due : Option Addr} {Q : VK} {E : XK} (e : Ex H H') (h : Out due H Q E) : Out due H' Q E := ⟨fun z v H1 e1 => h.no z v H1 (e.trans e1), fun C z H1 e1 => h.yes C z H1 (e.trans e1)⟩
/-- f(..) that raises what is due, and the rest -/
theorem q_chk {due : Option Addr} (ha : EvA ta σ H vs) (hs : SpO sp (vs ++ dvs) H due) (k : due = none → ∀ H1, Ex H H1 → tz D σ H1) (ke : ∀ C, due = some C → ∀ H1, Ex H H1 → E (.ref C) none H1) : tSeq (tDrop (tCall sp dvs E ta)) tz D σ H :=
  ha H (Ex.refl H) _ fun H1 e1 => hs H1 e1 _ _ ⟨fun z v H2 e2 => k z H2 (e1.trans e2), fun C z H2 e2 => ke C z H2 (e1.trans e2)⟩
theorem unseq {t : TS} (h : t { D with nx := tz D } σ H) : tSeq t tz D σ H := h
/-- x = f(..), whatever f promises -/
theorem q_asgCall {i : Nat} (ha : EvA ta σ H vs) (k : ∀ H1, Ex H H1 → sp (vs ++ dvs) H1 (fun v H2 => tz D (σ.set i (some v)) H2) E) : tSeq (tAsg (tCall sp dvs E ta) (gName i)) tz D σ H := ha H (Ex.refl H) _ fun H1 e1 => k H1 e1
theorem s_retCall (ha : EvA ta σ H vs) (k : ∀ H1, Ex H H1 → sp (vs ++ dvs) H1 D.rt E) : tRet (tCall sp dvs E ta) D σ H := ha H (Ex.refl H) _ fun H1 e1 => k H1 e1
/-- the same as one of the ways of a try -/
theorem s_chkS {due : Option Addr} {W : WX} (ha : EvA ta σ H vs) (hs : SpO sp vs H due) (k : due = none → ∀ H1, Ex H H1 → D.nx σ H1) (ke : ∀ C, due = some C → ∀ H1, Ex H H1 → W (.ref C) none σ H1) : tDrop (tCallS sp (WE W) ta) D σ H :=
  ha H (Ex.refl H) _ fun H1 e1 => hs H1 e1 _ _ ⟨fun z v H2 e2 => k z H2 (e1.trans e2), fun C z H2 e2 => ke C z H2 (e1.trans e2)⟩
/-- [e for x in f(..)] -/
theorem lc_call {K : PySem.W.Frag} {g : TG} {t : TT} {te : TE} {ns : List Nat} {Q : VK} (ha : EvA ta σ H vs) (k : ∀ H1, Ex H H1 → sp (vs ++ dvs) H1 (fun x H2 => tLc (iList K fun _ H' Q' => Q' x H') g t te ns σ H2 Q) E) : tLc (iList K (tCall sp dvs E ta)) g t te ns σ H Q := ha H (Ex.refl H) _ fun H1 e1 => k H1 e1
/-- what a walk over a list wants of it -/
def ForQ (K : PySem.W.Frag) (g : TG) (tu : TS) (D : Ends) (σ : L2.St) : VK := fun x H1 => ∃ a, x = .ref a ∧ (∃ xs, SqL K H1 a xs) ∧ ∃ W : Nat → Nat → L2.St → Hp → Prop, (∃ m, W 0 m σ H1) ∧ ∀ i m σ H, W i m σ H →
  ((Itl K a).stop i H ∧ D.nx σ H) ∨ ((Itl K a).go i H ∧ ∃ N : L2.St → Hp → Prop, (∀ σ' H', N σ' H' → ∃ m', m' < m ∧ W (i + 1) m' σ' H') ∧ ∀ x H', (Itl K a).yld i H x H' → g x σ H' fun σ2 H2 => tu { D with nx := N, ct := N, bk := D.nx } σ2 H2)
theorem forQ_of {K : PySem.W.Frag} {g : TG} {tu : TS} {a : Addr} {xs : List V} (Pv : Nat → L2.St → Hp → Prop) (h0 : Pv 0 σ H) (hl : ∀ i σ' H', i ≤ xs.length → Pv i σ' H' → SqL K H' a xs)
    (hs : ∀ i x σ' H', xs[i]? = some x → Pv i σ' H' → g x σ' H' fun σ2 H2 => tu { D with nx := Pv (i + 1), ct := Pv (i + 1), bk := D.nx } σ2 H2) (hd : ∀ σ' H', Pv xs.length σ' H' → D.nx σ' H') : ForQ K g tu D σ (.ref a) H :=
  ⟨a, rfl, ⟨xs, hl 0 σ H (Nat.zero_le _) h0⟩, for_list Pv h0 hl hs hd⟩
/-- for x in f(..) -/
theorem q_forCall {K : PySem.W.Frag} {g : TG} {tu : TS} (ha : EvA ta σ H vs) (k : ∀ H1, Ex H H1 → sp (vs ++ dvs) H1 (ForQ K g tu { D with nx := tz D } σ) E) : tSeq (tFor (iList K (tCall sp dvs E ta)) g tu) tz D σ H := ha H (Ex.refl H) _ fun H1 e1 => k H1 e1
theorem s_forCall {K : PySem.W.Frag} {g : TG} {tu : TS} (ha : EvA ta σ H vs) (k : ∀ H1, Ex H H1 → sp (vs ++ dvs) H1 (ForQ K g tu D σ) E) : tFor (iList K (tCall sp dvs E ta)) g tu D σ H := ha H (Ex.refl H) _ fun H1 e1 => k H1 e1
end
/-! ### xs.count(x) of flat values -/
def rCntF (K : PySem.W.Frag) : V → List V → Hp → VK → Prop := fun x xs H Q => ∃ (p : Addr) (ys : List V) (y : V), x = .ref p ∧ xs = [y] ∧ SqL K H p ys ∧ flatV y = true ∧ ys.all flatV = true ∧ Q (.int ((ys.countP fun z => eqV z y : Nat) : Int)) H
theorem countP_eqU {y : V} : ∀ {ys : List V} {us : List Value}, Vals ys us → ys.all flatV = true → us.countP (eqU y) = ys.countP fun z => eqV z y
  | _, _, .nil, _ => rfl
  | _, _, .cons r t, f => by
    rw [List.all_cons, Bool.and_eq_true] at f
    have ih := countP_eqU (y := y) t f.2
    rw [List.countP_cons, List.countP_cons, ih, eqU_of r f.1]
theorem mt_countF {X : Cx} : MtR X "list.count" (rCntF X.K) := by
  intro pins st σ H x xs v us Q J rx rxs h
  obtain ⟨p, ys, y, rfl, rfl, sq, fy, fys, q⟩ := h
  cases rx
  cases rxs with
  | cons ry rest =>
    rename_i uy ut
    cases rest
    obtain ⟨its, rv, ⟨⟨c, dd, dat, sl⟩, n, there, isL, _, isS⟩, _⟩ := J.list sq
    simp only at isL isS
    subst isL isS
    have ec : its.toArray.toList.countP (eqU y) = ys.countP fun z => eqV z y := countP_eqU rv fys
    exact call_meets PySem.F.slot_list_count ⟨_, there, rfl⟩ PySem.F.entry_list_count (PySem.F.args_list_count_2 _ _) (SeqAt.list_countAt p its.toArray n dd sl uy (eqU y))
      ⟨there, fun z hz => mem_eqAt ry fy rv fys z (by simpa using hz), .int ((ys.countP fun z => eqV z y : Nat) : Int), H, J.tok _, ⟨st.toks, by rw [ec]⟩, q⟩
theorem ev_countF {K : PySem.W.Frag} {σ : L2.St} {H : Hp} {ta te : TE} {p : Addr} {ys : List V} {y : V} (ha : Ev ta σ H (.ref p)) (sq : H p = some (.lst ys)) (he : Ev te σ H y) (fy : flatV y = true) (fys : ys.all flatV = true) : Ev (tBM K "list" (rCntF K) ta (tCons te tNil)) σ H (.int ((ys.countP fun z => eqV z y : Nat) : Int)) := fun H1 e Q q =>
  ha H1 e _ fun H2 e2 => ⟨.inl ⟨rfl, _, sq_of (e2 p _ (e p _ sq))⟩, he H2 (e.trans e2) _ fun H3 e3 => ⟨p, ys, y, rfl, rfl, sq_of (e3 p _ (e2 p _ (e p _ sq))), fy, fys, q H3 (e2.trans e3)⟩⟩
/-- xs.index(x), by its number -/
theorem ev_indexF {K : PySem.W.Frag} {σ : L2.St} {H : Hp} {ta te : TE} {p : Addr} {ys : List V} {y : V} (j : Nat) (ha : Ev ta σ H (.ref p)) (sq : H p = some (.lst ys)) (he : Ev te σ H y) (fy : flatV y = true) (fys : ys.all flatV = true) (hj : ∃ z, ys[j]? = some z ∧ eqV z y = true) (hno : ∀ (m : Nat) (z : V), m < j → ys[m]? = some z → eqV z y = false) :
    Ev (tBM K "list" (rIndex K) ta (tCons te tNil)) σ H (.int (j : Int)) := fun H1 e Q q =>
  ha H1 e _ fun H2 e2 => ⟨.inl ⟨rfl, _, sq_of (e2 p _ (e p _ sq))⟩, he H2 (e.trans e2) _ fun H3 e3 => by
    obtain ⟨z, hz, ez⟩ := hj
    exact ⟨p, ys, y, j, z, rfl, rfl, sq_of (e3 p _ (e2 p _ (e p _ sq))), fy, fys, hz, ez, hno, q H3 (e2.trans e3)⟩⟩
end Kit

set_option Elab.async false
set_option linter.all false
set_option maxRecDepth 100000
namespace Kit
open PySem PySem.Spec PyProof.Rows L2 Evl
/-! ### set(a list of ints), sorted(set(a list of ints)) -/
/-- a new empty set behind a heap -/
abbrev emptyI (led : Bool) : Obj := { cls := .type "set", dict := none, data := .set #[] 0 (.fresh 0 0 led) }
section
variable {prog : Program} {w : World} {A : Around} {E : Value → Shared → Prop} {s : Shared}
set_option maxHeartbeats 3200000 in
theorem set_of_ints {l : Addr} {items : Array Value} {xs : List Int} {Q : Value → Shared → Prop}
    (hand : A.handled = none) (isl : s.heap.IsList l items)
    (are : IntsAre items.toList xs) (room : xs.length + 1 < scanBound)
    (fin : ∀ (h' : Heap) (tk c : Nat),
      SetR w h' s.heap.objs.size (fun j => decide (j ∈ xs)) c → c ≤ xs.length →
      (∀ b o, s.heap.get? b = some o → h'.get? b = some o) →
      Q (.ref s.heap.objs.size) { s with heap := h', toks := tk }) :
    wpAny (model prog w) A (call (.type "set") [.ref l]) Q E s := by
  generalize hled : (!w.params.followText "set-order") = led
  obtain ⟨c, tl, mro⟩ := PySem.F.called_set.mro
  have made := PySem.F.called_set.made
  have subt := PySem.F.called_set.sub
  refine wpAny_call (codeAny_of_tree ?_)
  show wpAny _ _ (callAny (.type "set") _) _ _ _
  refine wpAny_pure ⟨Code.quiet_builtin _ (by decide +kernel),
    codeAny_builtin PySem.F.entry_type_call ?_⟩
  rw [Around.under_plain (weight_type_call_type "set" [.ref l] []) rfl]
  have no1 := PySem.F.called_set.notType
  have no2 := PySem.F.called_set.canCreate
  have tc := PySem.F.typeCall_set_1 (.ref l)
  repeat (any_goals (first | assumption | wp_step))
  refine codeAny_mono (code_set_led1 (.ref l) (E := E) (Q₁ := fun obj s₁ =>
    obj = .ref s.heap.objs.size ∧ s₁ = { s with heap := s.heap.push (emptyI led) })
    (by rw [hled]; exact ⟨rfl, rfl⟩)) fun r s₁ hr => ?_
  cases r with
  | error e => exact hr
  | ok fl =>
    cases fl with
    | ret obj =>
      obtain ⟨rfl, rfl⟩ := hr
      have atS : (s.heap.push (emptyI led)).get? s.heap.objs.size = some (emptyI led) :=
        Heap.get?_push_size _ rfl
      have tyS : Shared.TypeIs { s with heap := s.heap.push (emptyI led) } (.ref s.heap.objs.size) "set" :=
        ⟨_, atS, rfl⟩
      have lk := PySem.F.called_set.init.lookup
      have bd := PySem.F.called_set.init.bind (.ref s.heap.objs.size)
      repeat (any_goals (first | assumption | wp_step))
      refine codeAny_mono (codeAny_call_builtin (R := wants (fun r s₂ => r = .none ∧ ∃ h' tk c,
          s₂ = { s with heap := h', toks := tk } ∧
          SetR w h' s.heap.objs.size (fun j => decide (j ∈ xs)) c ∧ c ≤ xs.length ∧
          (∀ b o, s.heap.get? b = some o → h'.get? b = some o)) E)
        PySem.F.called_set.init.plain PySem.F.entry_set_init (check_set_init_1 tyS ?_)) fun r₂ s₂ hr₂ => ?_
      · obtain ⟨ol, hol, hc, nl, hd⟩ := isl
        obtain ⟨oc, odic, odat, oslo⟩ := ol
        simp only at hc hd
        subst hc
        subst hd
        have hol2 : (s.heap.push (emptyI led)).get? l
            = some { cls := .type "list", dict := odic, data := .seq items nl, slots := oslo } :=
          Heap.get?_push_of_some _ hol
        have sl1 := PySem.F.sub_list_set
        have sl2 := PySem.F.sub_list_frozenset
        have nod : (Value.type "list" == Value.type "dict") = false := by decide
        have isl2 : (s.heap.push (emptyI led)).IsList l items := ⟨_, hol2, rfl, nl, rfl⟩
        unfold Builtin.«set.__init__» noKeywords Builtin.Frozenset.updateFrom
        generalize hgen : pyIter = PI
        wp_walk
        subst hgen
        refine wpAny_pyIter_list isl2 ?_
        refine wpAny_bind (wpAny_runValue ?_)
        have lS : l < s.heap.objs.size := Heap.lt_size hol
        have h3 : A.in1.in1.in1.handled = none := by simp [hand]
        have neI : l ≠ (s.heap.push (emptyI led)).objs.size := by
          rw [Heap.size_push]
          exact Nat.ne_of_lt (Nat.lt_succ_of_lt lS)
        have outS : s.heap.objs.size ∉ [(s.heap.push (emptyI led)).objs.size, l] := by
          rw [Heap.size_push]
          intro q
          rcases List.mem_cons.mp q with q | q
          · exact absurd q (Nat.ne_of_lt (Nat.lt_succ_self _))
          · exact absurd (List.mem_singleton.mp q) (Nat.ne_of_gt lS)
        have szx : items.size = xs.length := by
          have q := IntsAre.length are
          rw [Array.length_toList] at q
          exact q
        have vals : ∀ (i : Nat) (v : Value), items[i]? = some v → ∃ k t, xs[i]? = some k ∧ v = .int k t := fun i v hv => by
          have hi : i < xs.length := by rw [← szx]; exact (Array.getElem?_eq_some_iff.mp hv).1
          obtain ⟨t, e⟩ := PyProof.Rows.IntsAre.int_at are i v (by rw [Array.getElem?_toList]; exact hv)
          exact ⟨xs[i], t, List.getElem?_eq_getElem hi, by rw [e, List.getD_eq_getElem?_getD, List.getElem?_eq_getElem hi]; rfl⟩
        refine set_update_ints ((Walks.list h3 _ l neI items).toS) s.heap.objs.size outS xs szx room vals
          (items.size - 0) 0 _ (by omega) (Nat.zero_le _)
          ⟨⟨_, Heap.get?_push_size _ rfl, rfl, rfl⟩, (isl2.push _)⟩ ?_ ?_
        · have at2 : ((s.heap.push (emptyI led)).push
              { cls := .type "list_iterator", data := .fields #[.ref l, .int 0 0] }).get? s.heap.objs.size
              = some (emptyI led) := Heap.get?_push_of_some _ atS
          refine ⟨0, Nat.le_refl 0, setR_new_at (w := w) (ns := xs) ?_⟩
          rw [hled]
          exact at2
        · intro s2 c2 mv hc2 set2
          obtain ⟨h2, g2, d2, tk2, os2⟩ := s2
          obtain rfl : g2 = s.gens := mv.gens
          obtain rfl : d2 = s.drawn := mv.drawn
          obtain rfl : os2 = s.os := mv.os
          show wpAny _ _ _ _ _ _
          refine wpAny_pure ?_
          show wpAny _ _ (ret Value.none) _ _ _
          refine wpAny_pure ⟨rfl, h2, tk2, c2, rfl, set2, by omega, fun b o e => ?_⟩
          have hb := Heap.lt_size e
          refine mv.heap b o (fun q => ?_) (Heap.get?_push_of_some _ (Heap.get?_push_of_some _ e))
          rcases List.mem_cons.mp q with q | q
          · exact absurd q (Nat.ne_of_lt hb)
          · rcases List.mem_cons.mp q with q | q
            · rw [Heap.size_push] at q
              exact absurd q (Nat.ne_of_lt (Nat.lt_succ_of_lt hb))
            · cases q
      · cases r₂ with
        | error e => exact hr₂
        | ok fl₂ =>
          cases fl₂ with
          | ret r =>
            obtain ⟨rfl, h2, tk2, c2, rfl, set2, hc2, keep2⟩ := hr₂
            repeat (any_goals (first | assumption | wp_step))
            exact fin _ _ _ set2 hc2 keep2
          | _ => exact hr₂.elim
    | _ => exact hr.elim
end
section
variable {X : Cx}
def rSetI (K : PySem.W.Frag) (w : World) : List V → Hp → VK → Prop := fun vs H Q => ∃ (l : Addr) (ns : List Int), vs = [V.ref l] ∧ SqL K H l (ns.map V.int) ∧ ns.length ≤ 4000 ∧ ∀ p c, H p = none → c ≤ ns.length → Q (.ref p) (upd H p (SetO w p (fun j => decide (j ∈ ns)) c))
theorem cr_setI (hc : X.calm = true) : CallR X (.type "set") (rSetI X.K X.w) := by
  intro pins s σ H vs us Q I r h
  obtain ⟨l, ns, rfl, hs, hn, q⟩ := h
  obtain ⟨its, rv, pl, _⟩ := I.list hs
  rw [Vals.ref1 r]
  refine set_of_ints (I.ok.hd hc) pl.isList (by simpa using rv.ints) (by unfold scanBound; omega) fun h' tk c set1 hc1 keep => ?_
  have hf : H s.heap.objs.size = none := I.hok.fresh (Nat.le_refl _)
  exact ⟨.ref s.heap.objs.size, _, I.laid (t' := tk) keep (Nat.le_refl _) (setO_new set1), rfl, q _ c hf hc1⟩
end
section
variable {K : PySem.W.Frag} {w : World} {σ : L2.St} {H : Hp} {ta : TE}
/-- sorted(set(xs)), xs an old list of ints -/
theorem el_sortSet {l : Addr} {ns zs : List Int} (h : Ev ta σ H (.ref l)) (hl : SqL K H l (ns.map V.int)) (h64 : ns.length < 64) (hz : zs.Pairwise (· < ·)) (hm : ∀ k : Int, k ∈ zs ↔ k ∈ ns) : EvL (tCB (rSortedSet w) (tCons (tCB (rSetI K w) (tCons ta tNil)) tNil)) σ H (zs.map V.int) := fun H1 e Q q =>
  h H1 e _ fun H2 e2 => ⟨l, ns, rfl, ex_l (e.trans e2) hl, by omega, fun p c hp hc => ⟨p, _, c, rfl, upd_same, by omega, fun ms r hms hmm _ hr => by
    have : ms = zs := by
      refine List.Perm.eq_of_pairwise (le := fun a b : Int => a < b) (fun a b _ _ h1 h2 => by omega) hms hz ?_
      refine (List.perm_ext_iff_of_nodup (hms.imp fun z => Int.ne_of_lt z) (hz.imp fun z => Int.ne_of_lt z)).mpr fun k => ?_
      rw [hmm k, hm k]
      simp
    subst this
    exact q r _ (fresh_back (e2.trans (Ex.new hp)) hr) ((e2.trans (Ex.new hp)).trans (Ex.new hr)) upd_same⟩⟩
/-- sorted(set(xs)), xs a new list of ints -/
theorem el_sortSetN {ns zs : List Int} (h : EvL ta σ H (ns.map V.int)) (h64 : ns.length < 64) (hz : zs.Pairwise (· < ·)) (hm : ∀ k : Int, k ∈ zs ↔ k ∈ ns) : EvL (tCB (rSortedSet w) (tCons (tCB (rSetI K w) (tCons ta tNil)) tNil)) σ H (zs.map V.int) := fun H1 e Q q =>
  h H1 e _ fun l H2 nl e2 h2 => el_sortSet (K := K) (w := w) (σ := σ) (H := H2) (ta := fun _ H' R => R (.ref l) H') (l := l) (ns := ns) (fun H3 _ Q q => q H3 (Ex.refl _)) (sq_of h2) h64 hz hm H2 (Ex.refl _) Q fun p H3 hp e3 h3 => q p H3 (fresh_back e2 hp) (e2.trans e3) h3
end
end Kit

set_option Elab.async false
set_option linter.all false
set_option maxRecDepth 100000
set_option maxHeartbeats 4000000
namespace Kit
open PySem PySem.Spec PyProof.Rows L2 Evl
/-! ### isinstance(e, (A, B, ..)), e the caught exception; lists of new tuples -/
def rIsET (K : PySem.W.Frag) (D a : Addr) : List V → Hp → VK → Prop := fun xs H Q => ∃ (q : Addr) (cs : List Addr) (b : Bool), xs = [.ref a, .ref q] ∧ H q = some (.tup (cs.map V.ref)) ∧ PySem.W.kitAny K (.ref D) (cs.map Value.ref) = some b ∧ Q (.bl b) H
theorem vals_refs : ∀ {cs : List Addr} {its : List Value}, Vals (cs.map V.ref) its → its = cs.map Value.ref
  | [], _, .nil => rfl
  | c :: r, _, .cons h t => by
    have e : _ = Value.ref c := h
    rw [e, vals_refs t]
    rfl
theorem call_isPT {X : Cx} {p : Addr × Obj} {D : Addr} (C : ExcD X.K D) (hp : p ∈ X.pn) (hz : Zc (.ref D) none p.2) (hf : ∃ vs, p.2.data = .fields vs) : CallR X (.builtin "isinstance") (rIsET X.K D p.1) := by
  intro pins st σ H xs us Q J r h
  obtain ⟨q0, cs, b, rfl, hq, e, q⟩ := h
  cases r with
  | cons ra rest =>
    cases rest with
    | cons rc rest =>
      cases rest
      cases ra
      have ec : _ = Value.ref q0 := rc
      subst ec
      obtain ⟨_, its, rel, tup⟩ := (show ObjOk X.prog X.w H st.heap q0 (.tup (cs.map V.ref)) from J.hok q0 _ hq)
      obtain ⟨o, ho, hc, n, hd⟩ := tup
      obtain ⟨cl, dd, dat, sl⟩ := o
      have hc : cl = .type "tuple" := hc
      have hd : dat = .seq its.toArray n := hd
      subst hc hd
      rw [vals_refs rel] at ho
      obtain ⟨there, _⟩ := J.pin p (List.mem_append_left _ hp)
      obtain ⟨vs, hv⟩ := hf
      have inst : PySem.W.InstAt st.heap p.1 p.2 D none := ⟨there, hz.1, by unfold PySem.W.notCls; rw [hv] <;> rfl, by rw [hz.2]; trivial⟩
      have Z := PySem.W.handS_kitx_exc (x := p.1) (ox := p.2) C.is.hg C.is.hk C.is.hs C.is.hd C.is.ha C.is.hn C.is.ht C.is.hm
      exact PySem.W.kia_tup Z J.kIn inst ho e (fun z => nomatch z) fun tk => ⟨.bl b, H, J.kept (t' := tk) fun _ _ z => z, rfl, q⟩
section
variable {K : PySem.W.Frag} {σ : L2.St} {H : Hp} {ta tb te tf tl : TE} {tr t : TA} {D : Ends} {tz : TS} {tt : TT}
theorem ev_isPT {a C : Addr} {cs : List Addr} {b : Bool} (h0 : Ev te σ H (.ref a)) (h1 : EvU tf σ H (cs.map V.ref)) (hk : PySem.W.kitAny K (.ref C) (cs.map Value.ref) = some b) : Ev (tCB (rIsET K C a) (tCons te (tCons tf tNil))) σ H (.bl b) := fun H1 e Q q =>
  h0 H1 e _ fun H2 e2 => h1 H2 (e.trans e2) _ fun p H3 _ e3 hp => ⟨p, cs, b, rfl, hp, hk, q H3 (e2.trans e3)⟩
def EaT (ta : TA) (σ : L2.St) (H : Hp) (rs : List (List V)) : Prop := ∀ H1, Ex H H1 → ∀ Q : List V → Hp → Prop, (∀ vs H2, Ex H1 H2 → TL H2 vs rs → Q vs H2) → ta σ H1 Q
theorem eat_nil : EaT tNil σ H [] := fun H1 _ Q q => q [] H1 (Ex.refl _) .nil
theorem eat_cons {xs : List V} {rs : List (List V)} (h : EvU te σ H xs) (hr : EaT tr σ H rs) : EaT (tCons te tr) σ H (xs :: rs) := fun H1 e Q q =>
  h H1 e _ fun p H2 _ e2 hp => hr H2 (e.trans e2) _ fun vs H3 e3 tl => q (.ref p :: vs) H3 (e2.trans e3) (.cons ⟨p, rfl, e3 p _ hp⟩ tl)
theorem elt_lst {rs : List (List V)} (h : EaT t σ H rs) (hl : rs.length ≤ 100000) : EvLT (tLst t) σ H rs := fun H1 e Q q =>
  h H1 e _ fun vs H2 e2 tl => ⟨sz_of (by rw [tl.len]; exact hl), fun p hp => q p vs _ (fresh_back e2 hp) (e2.trans (Ex.new hp)) upd_same (tl.ex (Ex.new hp))⟩
theorem tl_app {H : Hp} : ∀ {vs ws : List V} {rs ss : List (List V)}, TL H vs rs → TL H ws ss → TL H (vs ++ ws) (rs ++ ss)
  | [], _, [], _, .nil, h => h
  | _, _, _, _, .cons x t, h => .cons x (tl_app t h)
/-- found + [..] -/
theorem elt_catL {a : Addr} {vs : List V} {rs ss : List (List V)} (h : Ev ta σ H (.ref a)) (ha : H a = some (.lst vs)) (tl : TL H vs rs) (h2 : EvLT tb σ H ss) (hz : rs.length + ss.length ≤ 1000) : EvLT (tOp rCat ta tb) σ H (rs ++ ss) := fun H1 e Q q =>
  h H1 e _ fun H2 e2 => h2 H2 (e.trans e2) _ fun p ws H3 _ e3 hp tw => ⟨a, p, vs, ws, rfl, rfl, e3 a _ (e2 a _ (e a _ ha)), hp, sz_of (by rw [tl.len, tw.len]; omega), fun l hl =>
    q l _ _ (fresh_back (e2.trans e3) hl) ((e2.trans e3).trans (Ex.new hl)) upd_same (tl_app (tl.ex (e.trans (e2.trans (e3.trans (Ex.new hl))))) (tw.ex (Ex.new hl)))⟩
/-- [e for x, y in a list of pairs if t] -/
theorem el_lcTL {a : Addr} {ws : List V} {rs : List (List V)} {i j : Nat} {vs : List Nat} (x y : Nat → V) (f : Nat → Bool) (v : Nat → V) (h : Ev tl σ H (.ref a)) (ha : H a = some (.lst ws)) (hl : TL H ws rs) (hz : rs.length ≤ 1000) (hr : ∀ (n : Nat) r, rs[n]? = some r → r = [x n, y n])
    (hw : ∀ x y, wipe (((wipe σ vs).set i (some x)).set j (some y)) vs = wipe σ vs)
    (ht : ∀ (n : Nat) H1, n < rs.length → EvT tt (((wipe σ vs).set i (some (x n))).set j (some (y n))) H1 (f n))
    (he : ∀ (n : Nat) H1, n < rs.length → f n = true → Ev te (((wipe σ vs).set i (some (x n))).set j (some (y n))) H1 (v n)) :
    EvL (tLc (iList K tl) (gTup K 2 (gCons (gName i) (gCons (gName j) gNil))) tt te vs) σ H (given rs.length f v) := fun H0 e Q q => h H0 e _ fun H1 e1 => ⟨a, rfl, ⟨ws, sq_of (e1 a _ (e a _ ha))⟩, fun Dl hD => by
  have le := hl.len
  refine lc_list (xs := ws) (Cw H1 f v Dl) ⟨hD, Ex.new hD, upd_same⟩ (fun n G _ p => sq_of (p.2.1 a _ (e1 a _ (e a _ ha)))) (fun n w G hn p => ?_) fun G p => q Dl G (fresh_back e1 p.1) (e1.trans p.2.1) (by have := p.2.2; rw [le] at this; exact this)
  have nl := (List.getElem?_eq_some_iff.mp hn).1
  obtain ⟨b, r, rfl, hb, hr0⟩ := hl.get hn
  have er := hr n r hr0
  subst er
  refine ⟨b, [x n, y n], rfl, st_of (p.2.1 b _ (e1 b _ (e b _ hb))), rfl, x n, [y n], rfl, y n, [], rfl, rfl, hw _ _, ?_⟩
  exact cw_turn (H := H1) p (by omega) (ht n H1 (by omega)) fun hf => he n H1 (by omega) hf⟩
end
end Kit

namespace K48
open PySem PySem.Spec PyProof.Rows L2 Evl Kit
def topS (i : Nat) : Stmt := PySem.Challenge.pw_newtables_k48_periods.main.body.getD i (.Pass ⟨0, 0, 0, 0⟩)
abbrev s_is_whole : Stmt := topS 8
abbrev n_is_whole : List Str := ["thing"]
theorem sc_is_whole : FnScope n_is_whole ["thing"] (defScope s_is_whole) := ⟨rfl, rfl, rfl, by decide +kernel, rfl, by decide +kernel, by decide +kernel⟩
abbrev s_is_within : Stmt := topS 9
abbrev n_is_within : List Str := ["thing", "least", "most"]
theorem sc_is_within : FnScope n_is_within ["thing", "least", "most"] (defScope s_is_within) := ⟨rfl, rfl, rfl, by decide +kernel, rfl, by decide +kernel, by decide +kernel⟩
abbrev s_is_order : Stmt := topS 10
abbrev n_is_order : List Str := ["thing", "item"]
theorem sc_is_order : FnScope n_is_order ["thing"] (defScope s_is_order) := ⟨rfl, rfl, rfl, by decide +kernel, rfl, by decide +kernel, by decide +kernel⟩
abbrev s_check_guests : Stmt := topS 11
abbrev n_check_guests : List Str := ["guests"]
theorem sc_check_guests : FnScope n_check_guests ["guests"] (defScope s_check_guests) := ⟨rfl, rfl, rfl, by decide +kernel, rfl, by decide +kernel, by decide +kernel⟩
abbrev s_check_number : Stmt := topS 12
abbrev n_check_number : List Str := ["number", "least", "most"]
theorem sc_check_number : FnScope n_check_number ["number", "least", "most"] (defScope s_check_number) := ⟨rfl, rfl, rfl, by decide +kernel, rfl, by decide +kernel, by decide +kernel⟩
abbrev s_check_any_number : Stmt := topS 13
abbrev n_check_any_number : List Str := ["number"]
theorem sc_check_any_number : FnScope n_check_any_number ["number"] (defScope s_check_any_number) := ⟨rfl, rfl, rfl, by decide +kernel, rfl, by decide +kernel, by decide +kernel⟩
abbrev s_is_seating : Stmt := topS 15
abbrev n_is_seating : List Str := ["thing"]
theorem sc_is_seating : FnScope n_is_seating ["thing"] (defScope s_is_seating) := ⟨rfl, rfl, rfl, by decide +kernel, rfl, by decide +kernel, by decide +kernel⟩
abbrev s_tables_of : Stmt := topS 16
abbrev n_tables_of : List Str := ["seating"]
theorem sc_tables_of : FnScope n_tables_of ["seating"] (defScope s_tables_of) := ⟨rfl, rfl, rfl, by decide +kernel, rfl, by decide +kernel, by decide +kernel⟩
abbrev s_check_seating : Stmt := topS 17
abbrev n_check_seating : List Str := ["seating"]
theorem sc_check_seating : FnScope n_check_seating ["seating"] (defScope s_check_seating) := ⟨rfl, rfl, rfl, by decide +kernel, rfl, by decide +kernel, by decide +kernel⟩
abbrev s_walk_left : Stmt := topS 18
abbrev n_walk_left : List Str := ["lefts", "guest", "walk"]
theorem sc_walk_left : FnScope n_walk_left ["lefts", "guest"] (defScope s_walk_left) := ⟨rfl, rfl, rfl, by decide +kernel, rfl, by decide +kernel, by decide +kernel⟩
abbrev s_tables_among : Stmt := topS 19
abbrev n_tables_among : List Str := ["lefts", "guests", "guest", "walks", "walk"]
theorem sc_tables_among : FnScope n_tables_among ["lefts", "guests"] (defScope s_tables_among) := ⟨rfl, rfl, rfl, by decide +kernel, rfl, by decide +kernel, by decide +kernel⟩
abbrev s_power : Stmt := topS 22
abbrev n_power : List Str := ["seating", "number", "powered", "table", "at", "guest"]
theorem sc_power : FnScope n_power ["seating", "number"] (defScope s_power) := ⟨rfl, rfl, rfl, by decide +kernel, rfl, by decide +kernel, by decide +kernel⟩
abbrev s_period_of : Stmt := topS 23
abbrev n_period_of : List Str := ["seating", "period", "table"]
theorem sc_period_of : FnScope n_period_of ["seating"] (defScope s_period_of) := ⟨rfl, rfl, rfl, by decide +kernel, rfl, by decide +kernel, by decide +kernel⟩
abbrev s_period_counts : Stmt := topS 24
abbrev n_period_counts : List Str := ["guests", "ways", "many", "found", "size", "tables", "former", "part", "period"]
theorem sc_period_counts : FnScope n_period_counts ["guests"] (defScope s_period_counts) := ⟨rfl, rfl, rfl, by decide +kernel, rfl, by decide +kernel, by decide +kernel⟩
abbrev s_least_guests : Stmt := topS 25
abbrev n_least_guests : List Str := ["period"]
theorem sc_least_guests : FnScope n_least_guests ["period"] (defScope s_least_guests) := ⟨rfl, rfl, rfl, by decide +kernel, rfl, by decide +kernel, by decide +kernel⟩
abbrev s_prime_powers : Stmt := topS 26
abbrev n_prime_powers : List Str := ["number", "parts", "rest", "prime", "part"]
theorem sc_prime_powers : FnScope n_prime_powers ["number"] (defScope s_prime_powers) := ⟨rfl, rfl, rfl, by decide +kernel, rfl, by decide +kernel, by decide +kernel⟩
abbrev s_law_bag : Stmt := topS 28
abbrev n_law_bag : List Str := ["script", "stir", "cell"]
theorem sc_law_bag : FnScope n_law_bag ["script"] (defScope s_law_bag) := ⟨rfl, rfl, rfl, by decide +kernel, rfl, by decide +kernel, by decide +kernel⟩
abbrev s_law_stirred : Stmt := topS 29
abbrev n_law_stirred : List Str := ["bag", "wide", "found", "k", "mixed"]
theorem sc_law_stirred : FnScope n_law_stirred ["bag", "wide"] (defScope s_law_stirred) := ⟨rfl, rfl, rfl, by decide +kernel, rfl, by decide +kernel, by decide +kernel⟩
abbrev s_law_draw : Stmt := topS 30
abbrev n_law_draw : List Str := ["bag", "wide", "found"]
theorem sc_law_draw : FnScope n_law_draw ["bag", "wide"] (defScope s_law_draw) := ⟨rfl, rfl, rfl, by decide +kernel, rfl, by decide +kernel, by decide +kernel⟩
abbrev s_law_alike : Stmt := topS 31
abbrev n_law_alike : List Str := ["found", "due", "k"]
theorem sc_law_alike : FnScope n_law_alike ["found", "due"] (defScope s_law_alike) := ⟨rfl, rfl, rfl, by decide +kernel, rfl, by decide +kernel, by decide +kernel⟩
abbrev s_law_seating : Stmt := topS 32
abbrev n_law_seating : List Str := ["bag", "wide", "bent", "found", "k", "often", "c"]
theorem sc_law_seating : FnScope n_law_seating ["bag", "wide"] (defScope s_law_seating) := ⟨rfl, rfl, rfl, by decide +kernel, rfl, by decide +kernel, by decide +kernel⟩
abbrev s_law_tables : Stmt := topS 33
abbrev n_law_tables : List Str := ["some", "seen", "found", "k", "table", "x"]
theorem sc_law_tables : FnScope n_law_tables ["some"] (defScope s_law_tables) := ⟨rfl, rfl, rfl, by decide +kernel, rfl, by decide +kernel, by decide +kernel⟩
abbrev s_law_multiple : Stmt := topS 34
abbrev n_law_multiple : List Str := ["row", "found", "one", "a", "b"]
theorem sc_law_multiple : FnScope n_law_multiple ["row"] (defScope s_law_multiple) := ⟨rfl, rfl, rfl, by decide +kernel, rfl, by decide +kernel, by decide +kernel⟩
abbrev s_law_parts : Stmt := topS 35
abbrev n_law_parts : List Str := ["left", "most", "found", "size", "rest"]
theorem sc_law_parts : FnScope n_law_parts ["left", "most"] (defScope s_law_parts) := ⟨rfl, rfl, rfl, by decide +kernel, rfl, by decide +kernel, by decide +kernel⟩
abbrev s_law_ways : Stmt := topS 36
abbrev n_law_ways : List Str := ["row", "whole", "k", "size"]
theorem sc_law_ways : FnScope n_law_ways ["row"] (defScope s_law_ways) := ⟨rfl, rfl, rfl, by decide +kernel, rfl, by decide +kernel, by decide +kernel⟩
abbrev s_law_least : Stmt := topS 37
abbrev n_law_least : List Str := ["period_here", "found", "left", "prime", "size"]
theorem sc_law_least : FnScope n_law_least ["period_here"] (defScope s_law_least) := ⟨rfl, rfl, rfl, by decide +kernel, rfl, by decide +kernel, by decide +kernel⟩
abbrev s_law : Stmt := topS 38
abbrev n_law : List Str := ["script", "bag", "wide", "found", "whole", "row", "far", "told", "k", "size", "turn", "some", "table"]
theorem sc_law : FnScope n_law ["script"] (defScope s_law) := ⟨rfl, rfl, rfl, by decide +kernel, rfl, by decide +kernel, by decide +kernel⟩
def g_K48_kb_least_guests_0_period : List Value → List Value → List Value := fun us ws => match us, ws with
  | [], [b0] => [b0]
  | _, _ => []
def v_K48_kb_least_guests_0_period : List V → List V → List V := fun us ws => match us, ws with
  | [], [b0] => [b0]
  | _, _ => []
def g_K48_kb_period_counts_0_guests : List Value → List Value → List Value := fun us ws => match us, ws with
  | [], [b0] => [b0]
  | _, _ => []
def v_K48_kb_period_counts_0_guests : List V → List V → List V := fun us ws => match us, ws with
  | [], [b0] => [b0]
  | _, _ => []
/-! what the top has written -/
structure Tx (K : PySem.W.Frag) (mg : Str → Option Value) where
  f_is_whole : Addr
  d_is_whole : FuncData
  F_is_whole : Fun K "is_whole" "is_whole" s_is_whole f_is_whole d_is_whole
  g_is_whole : mg "is_whole" = some (.ref f_is_whole)
  b_is_whole : Binds K d_is_whole ["thing"] []
  f_is_within : Addr
  d_is_within : FuncData
  F_is_within : Fun K "is_within" "is_within" s_is_within f_is_within d_is_within
  g_is_within : mg "is_within" = some (.ref f_is_within)
  b_is_within : Binds K d_is_within ["thing", "least", "most"] []
  f_is_order : Addr
  d_is_order : FuncData
  F_is_order : Fun K "is_order" "is_order" s_is_order f_is_order d_is_order
  g_is_order : mg "is_order" = some (.ref f_is_order)
  b_is_order : Binds K d_is_order ["thing"] []
  f_check_guests : Addr
  d_check_guests : FuncData
  F_check_guests : Fun K "check_guests" "check_guests" s_check_guests f_check_guests d_check_guests
  g_check_guests : mg "check_guests" = some (.ref f_check_guests)
  b_check_guests : Binds K d_check_guests ["guests"] []
  f_check_number : Addr
  d_check_number : FuncData
  F_check_number : Fun K "check_number" "check_number" s_check_number f_check_number d_check_number
  g_check_number : mg "check_number" = some (.ref f_check_number)
  b_check_number : Binds K d_check_number ["number", "least", "most"] []
  f_check_any_number : Addr
  d_check_any_number : FuncData
  F_check_any_number : Fun K "check_any_number" "check_any_number" s_check_any_number f_check_any_number d_check_any_number
  g_check_any_number : mg "check_any_number" = some (.ref f_check_any_number)
  b_check_any_number : Binds K d_check_any_number ["number"] []
  f_is_seating : Addr
  d_is_seating : FuncData
  F_is_seating : Fun K "is_seating" "is_seating" s_is_seating f_is_seating d_is_seating
  g_is_seating : mg "is_seating" = some (.ref f_is_seating)
  b_is_seating : Binds K d_is_seating ["thing"] []
  f_tables_of : Addr
  d_tables_of : FuncData
  F_tables_of : Fun K "tables_of" "tables_of" s_tables_of f_tables_of d_tables_of
  g_tables_of : mg "tables_of" = some (.ref f_tables_of)
  b_tables_of : Binds K d_tables_of ["seating"] []
  f_check_seating : Addr
  d_check_seating : FuncData
  F_check_seating : Fun K "check_seating" "check_seating" s_check_seating f_check_seating d_check_seating
  g_check_seating : mg "check_seating" = some (.ref f_check_seating)
  b_check_seating : Binds K d_check_seating ["seating"] []
  f_walk_left : Addr
  d_walk_left : FuncData
  F_walk_left : Fun K "walk_left" "walk_left" s_walk_left f_walk_left d_walk_left
  g_walk_left : mg "walk_left" = some (.ref f_walk_left)
  b_walk_left : Binds K d_walk_left ["lefts", "guest"] []
  f_tables_among : Addr
  d_tables_among : FuncData
  F_tables_among : Fun K "tables_among" "tables_among" s_tables_among f_tables_among d_tables_among
  g_tables_among : mg "tables_among" = some (.ref f_tables_among)
  b_tables_among : Binds K d_tables_among ["lefts", "guests"] []
  f_power : Addr
  d_power : FuncData
  F_power : Fun K "power" "power" s_power f_power d_power
  g_power : mg "power" = some (.ref f_power)
  b_power : Binds K d_power ["seating", "number"] []
  f_period_of : Addr
  d_period_of : FuncData
  F_period_of : Fun K "period_of" "period_of" s_period_of f_period_of d_period_of
  g_period_of : mg "period_of" = some (.ref f_period_of)
  b_period_of : Binds K d_period_of ["seating"] []
  f_period_counts : Addr
  d_period_counts : FuncData
  F_period_counts : Fun K "period_counts" "period_counts" s_period_counts f_period_counts d_period_counts
  g_period_counts : mg "period_counts" = some (.ref f_period_counts)
  b_period_counts : Binds K d_period_counts ["guests"] []
  f_least_guests : Addr
  d_least_guests : FuncData
  F_least_guests : Fun K "least_guests" "least_guests" s_least_guests f_least_guests d_least_guests
  g_least_guests : mg "least_guests" = some (.ref f_least_guests)
  b_least_guests : Binds K d_least_guests ["period"] []
  f_prime_powers : Addr
  d_prime_powers : FuncData
  F_prime_powers : Fun K "prime_powers" "prime_powers" s_prime_powers f_prime_powers d_prime_powers
  g_prime_powers : mg "prime_powers" = some (.ref f_prime_powers)
  b_prime_powers : Binds K d_prime_powers ["number"] []
  f_law_bag : Addr
  d_law_bag : FuncData
  F_law_bag : Fun K "_law_bag" "_law_bag" s_law_bag f_law_bag d_law_bag
  g_law_bag : mg "_law_bag" = some (.ref f_law_bag)
  b_law_bag : Binds K d_law_bag ["script"] []
  f_law_stirred : Addr
  d_law_stirred : FuncData
  F_law_stirred : Fun K "_law_stirred" "_law_stirred" s_law_stirred f_law_stirred d_law_stirred
  g_law_stirred : mg "_law_stirred" = some (.ref f_law_stirred)
  b_law_stirred : Binds K d_law_stirred ["bag", "wide"] []
  f_law_draw : Addr
  d_law_draw : FuncData
  F_law_draw : Fun K "_law_draw" "_law_draw" s_law_draw f_law_draw d_law_draw
  g_law_draw : mg "_law_draw" = some (.ref f_law_draw)
  b_law_draw : Binds K d_law_draw ["bag", "wide"] []
  f_law_alike : Addr
  d_law_alike : FuncData
  F_law_alike : Fun K "_law_alike" "_law_alike" s_law_alike f_law_alike d_law_alike
  g_law_alike : mg "_law_alike" = some (.ref f_law_alike)
  b_law_alike : Binds K d_law_alike ["found", "due"] []
  f_law_seating : Addr
  d_law_seating : FuncData
  F_law_seating : Fun K "_law_seating" "_law_seating" s_law_seating f_law_seating d_law_seating
  g_law_seating : mg "_law_seating" = some (.ref f_law_seating)
  b_law_seating : Binds K d_law_seating ["bag", "wide"] []
  f_law_tables : Addr
  d_law_tables : FuncData
  F_law_tables : Fun K "_law_tables" "_law_tables" s_law_tables f_law_tables d_law_tables
  g_law_tables : mg "_law_tables" = some (.ref f_law_tables)
  b_law_tables : Binds K d_law_tables ["some"] []
  f_law_multiple : Addr
  d_law_multiple : FuncData
  F_law_multiple : Fun K "_law_multiple" "_law_multiple" s_law_multiple f_law_multiple d_law_multiple
  g_law_multiple : mg "_law_multiple" = some (.ref f_law_multiple)
  b_law_multiple : Binds K d_law_multiple ["row"] []
  f_law_parts : Addr
  d_law_parts : FuncData
  F_law_parts : Fun K "_law_parts" "_law_parts" s_law_parts f_law_parts d_law_parts
  g_law_parts : mg "_law_parts" = some (.ref f_law_parts)
  b_law_parts : Binds K d_law_parts ["left", "most"] []
  f_law_ways : Addr
  d_law_ways : FuncData
  F_law_ways : Fun K "_law_ways" "_law_ways" s_law_ways f_law_ways d_law_ways
  g_law_ways : mg "_law_ways" = some (.ref f_law_ways)
  b_law_ways : Binds K d_law_ways ["row"] []
  f_law_least : Addr
  d_law_least : FuncData
  F_law_least : Fun K "_law_least" "_law_least" s_law_least f_law_least d_law_least
  g_law_least : mg "_law_least" = some (.ref f_law_least)
  b_law_least : Binds K d_law_least ["period_here"] []
  f_law : Addr
  d_law : FuncData
  F_law : Fun K "law" "law" s_law f_law d_law
  g_law : mg "law" = some (.ref f_law)
  b_law : Binds K d_law ["script"] []
  m_abs : mg "abs" = none
  m_all : mg "all" = none
  m_bool : mg "bool" = none
  m_enumerate : mg "enumerate" = none
  m_int : mg "int" = none
  m_isinstance : mg "isinstance" = none
  m_len : mg "len" = none
  m_list : mg "list" = none
  m_max : mg "max" = none
  m_min : mg "min" = none
  m_range : mg "range" = none
  m_set : mg "set" = none
  m_sorted : mg "sorted" = none
  m_str : mg "str" = none
  m_sum : mg "sum" = none
  m_tuple : mg "tuple" = none
  m_type : mg "type" = none
  c_MOST_GUESTS : ∃ u, mg "MOST_GUESTS" = some u ∧ RelV (.int 20) u
  c_MOST_PERIOD : ∃ u, mg "MOST_PERIOD" = some u ∧ RelV (.int 1000000000) u
  i_lcm : mg "lcm" = some (.builtin "math.lcm")
  i_perm : mg "perm" = some (.builtin "math.perm")
  kb_least_guests_0_period : KBinds K d_least_guests ["period"] ["period"] g_K48_kb_least_guests_0_period v_K48_kb_least_guests_0_period
  kb_period_counts_0_guests : KBinds K d_period_counts ["guests"] ["guests"] g_K48_kb_period_counts_0_guests v_K48_kb_period_counts_0_guests
/-! readings that go by themselves -/
local macro_rules | `(tactic| walk_at "side") => `(tactic| first | with_reducible assumption | with_reducible rfl | omega | decide | (constructor <;> first | assumption | omega | decide))
local macro_rules | `(tactic| walk_at "ev") => `(tactic| first
  | ((with_reducible refine' ev_var ?e1); (case e1 => rfl))
  | (with_reducible exact ev_c)
  | ((with_reducible refine' ev_op ?e1 ?e2 rv_I0); (case e1 => walk_at "ev"); (case e2 => walk_at "ev"))
  | ((with_reducible refine' ev_op ?e1 ?e2 (rv_I ?e3)); (case e1 => walk_at "ev"); (case e2 => walk_at "ev"); (case e3 => walk_at "side"))
  | ((with_reducible refine' ev_op ?e1 ?e2 (rv_eq ?e3)); (case e1 => walk_at "ev"); (case e2 => walk_at "ev"); (case e3 => rfl))
  | ((with_reducible refine' ev_op ?e1 ?e2 (rv_ne ?e3)); (case e1 => walk_at "ev"); (case e2 => walk_at "ev"); (case e3 => rfl))
  | ((with_reducible refine' ev_op ?e1 ?e2 (rv_ixL ?e3 ?e4)); (case e1 => walk_at "ev"); (case e2 => walk_at "ev"); (case e3 => walk_at "sq"); (case e4 => walk_at "at"))
  | ((with_reducible refine' ev_op ?e1 ?e2 (rv_ixT ?e3 ?e4)); (case e1 => walk_at "ev"); (case e2 => walk_at "ev"); (case e3 => walk_at "sq"); (case e4 => walk_at "at"))
  | ((with_reducible refine' ev_op ?e1 ?e2 rv_isN); (case e1 => walk_at "ev"); (case e2 => walk_at "ev"))
  | ((with_reducible refine' ev_op ?e1 ?e2 rv_notN); (case e1 => walk_at "ev"); (case e2 => walk_at "ev"))
  | ((with_reducible refine' ev_op ?e1 ?e2 (rv_eqTy ?e3 ?e4)); (case e1 => walk_at "ev"); (case e2 => walk_at "ev"); (case e3 => exact PySem.TypeEq.meta_int); (case e4 => exact PySem.TypeEq.meta_int))
  | ((with_reducible refine' ev_un ?e1 ru_neg); (case e1 => walk_at "ev"))
  | ((with_reducible refine' ev_intI ?e1); (case e1 => walk_at "ev"))
  | ((with_reducible refine' ev_intB ?e1); (case e1 => walk_at "ev"))
  | ((with_reducible refine' ev_typeI ?e1); (case e1 => walk_at "ev"))
  | ((with_reducible refine' ev_abs ?e1); (case e1 => walk_at "ev"))
  | ((with_reducible refine' ev_max2 ?e1 ?e2); (case e1 => walk_at "ev"); (case e2 => walk_at "ev"))
  | ((with_reducible refine' ev_min2 ?e1 ?e2); (case e1 => walk_at "ev"); (case e2 => walk_at "ev"))
  | ((with_reducible refine' ev_gcd ?e1 ?e2); (case e1 => walk_at "ev"); (case e2 => walk_at "ev"))
  | ((with_reducible refine' ev_len ?e1 ?e2); (case e1 => walk_at "ev"); (case e2 => walk_at "sq"))
  | ((with_reducible refine' ev_chainI ?e1 ?e2 ?e3); (case e1 => walk_at "ev"); (case e2 => walk_at "ev"); (case e3 => walk_at "ev"))
  | ((with_reducible refine' ev_chain3I ?e1 ?e2 ?e3 ?e4); (case e1 => walk_at "ev"); (case e2 => walk_at "ev"); (case e3 => walk_at "ev"); (case e4 => walk_at "ev"))
  | ((with_reducible refine' ev_notV ?e1); (case e1 => walk_at "ev"))
  | ((with_reducible refine' ev_andV ?e1 ?e2); (case e1 => walk_at "ev"); (case e2 => (intro _; walk_at "ev")))
  | ((with_reducible refine' ev_orV ?e1 ?e2); (case e1 => walk_at "ev"); (case e2 => (intro _; walk_at "ev")))
  | ((with_reducible refine' ev_if ?e1 ?e2 ?e3); (case e1 => walk_at "et"); (case e2 => (intro _; walk_at "ev")); (case e3 => (intro _; walk_at "ev")))
  | ((with_reducible refine' ev_call ?e1 ?e2); (case e1 => walk_at "ea"); (case e2 => walk_at "call")))
local macro_rules | `(tactic| walk_at "ea") => `(tactic| first
  | (with_reducible exact ea_nil)
  | ((with_reducible refine' ea_cons ?e1 ?e2); (case e1 => walk_at "ev"); (case e2 => walk_at "ea")))
local macro_rules | `(tactic| walk_at "et") => `(tactic| first
  | ((with_reducible refine' et_test ?e1); (case e1 => walk_at "ev"))
  | ((with_reducible refine' et_B ?e1); (case e1 => walk_at "ev"))
  | ((with_reducible refine' et_not ?e1); (case e1 => walk_at "et"))
  | ((with_reducible refine' et_and ?e1 ?e2); (case e1 => walk_at "et"); (case e2 => (intro _; walk_at "et")))
  | ((with_reducible refine' et_or ?e1 ?e2); (case e1 => walk_at "et"); (case e2 => (intro _; walk_at "et"))))
local macro_rules | `(tactic| walk_at "eu") => `(tactic| first
  | ((with_reducible refine' eu_tup ?e1 ?e2); (case e1 => walk_at "ea"); (case e2 => exact Nat.le_of_ble_eq_true rfl))
  | ((with_reducible refine' eu_call ?e1 ?e2); (case e1 => walk_at "ea"); (case e2 => walk_at "callU")))
local macro_rules | `(tactic| walk_at "el") => `(tactic| first
  | ((with_reducible refine' el_call ?e1 ?e2); (case e1 => walk_at "ea"); (case e2 => walk_at "callL"))
  | ((with_reducible refine' el_lst ?e1 ?e2); (case e1 => walk_at "ea"); (case e2 => exact Nat.le_of_ble_eq_true rfl)))
local macro_rules | `(tactic| walk_at "sq") => `(tactic| first | assumption | exact sq_of (by assumption) | exact st_of (by assumption))
local macro_rules | `(tactic| walk_at "at") => `(tactic| first | assumption | rfl | (apply atI_nat; rfl))
local macro_rules | `(tactic| walk_at "call") => `(tactic| assumption)

/-! ### _law_alike -/
def sp_law_alike (n : Nat) : Sp := fun vs H Q _ => ∃ (v w : V) (d : PyData), vs = [v, w] ∧ Tk n H v d ∧ Tk n H w d ∧ RetV (.bl true) H Q
def sp_alikeB : Nat → Sp
  | 0 => fun _ _ _ _ => False
  | n + 1 => sp_law_alike n
theorem sv_alike {n : Nat} {H : Hp} {v w : V} {d : PyData} (hv : Tk n H v d) (hw : Tk n H w d) : SpV (sp_law_alike n) ([v, w] ++ []) H (.bl true) := fun H1 e Q q E => ⟨v, w, d, rfl, hv.ex e, hw.ex e, q⟩
theorem given_true (n : Nat) : given n (fun _ => true) (fun _ => V.bl true) = (List.replicate n true).map V.bl := by
  unfold given
  rw [List.filter_eq_self.mpr (fun _ _ => rfl), List.map_replicate]
  refine List.ext_getElem? fun i => ?_
  rw [List.getElem?_map, List.getElem?_replicate]
  by_cases h : i < n
  · rw [List.getElem?_range h, if_pos h]
    rfl
  · rw [List.getElem?_eq_none (by simpa using h), if_neg h]
    rfl
theorem all_true (n : Nat) : (List.replicate n true).all id = true := by
  rw [List.all_eq_true]
  intro x hx
  rw [(List.mem_replicate.mp hx).2]
  rfl
section
variable {P : Program} {w : World} {K : PySem.W.Frag} {mg : Str → Option Value} {base : Heap}
theorem alike_step (T : Tx K mg) (n k : Nat) (ih : FnOk P w K mg base CX0 k T.f_law_alike T.d_law_alike ["found", "due"] (sp_alikeB n)) : FnOk P w K mg base CX0 (k + 1) T.f_law_alike T.d_law_alike ["found", "due"] (sp_law_alike n) := by
  refine T.F_law_alike.ok sc_law_alike (fun vs H Q E h => ?_) (fun cdv A outer s H vs Q E hr h => ?_)
  · obtain ⟨v, w, d, rfl, _⟩ := h
    rfl
  · obtain ⟨v, u, d, rfl, hv, hu, kk⟩ := h
    refine ⟨_, (pss_cons (ps_if (pt_val (pe_callB call_isiT (by rfl) T.m_isinstance (by decide +kernel) (pa_cons (pv 1) (pa_cons (pe_tup (pa_cons (pe_bltn (v := .ty "list") (by rfl) T.m_list (by decide +kernel) rfl) (pa_cons (pe_bltn (v := .ty "tuple") (by rfl) T.m_tuple (by decide +kernel) rfl) pa_nil))) pa_nil)))) (pss_cons (ps_if (PW.pt (pw_or (pt_not (pt_val (pe_callB call_isiT (by rfl) T.m_isinstance (by decide +kernel) (pa_cons (pv 0) (pa_cons (pe_tup (pa_cons (pe_bltn (v := .ty "list") (by rfl) T.m_list (by decide +kernel) rfl) (pa_cons (pe_bltn (v := .ty "tuple") (by rfl) T.m_tuple (by decide +kernel) rfl) pa_nil))) pa_nil))))) (pw_or1 (pt_cmpR op_ne (pe_callB call_isi (by rfl) T.m_isinstance (by decide +kernel) (pa_cons (pv 0) (pa_cons (pe_bltn (v := .ty "list") (by rfl) T.m_list (by decide +kernel) rfl) pa_nil))) (pe_callB call_isi (by rfl) T.m_isinstance (by decide +kernel) (pa_cons (pv 1) (pa_cons (pe_bltn (v := .ty "list") (by rfl) T.m_list (by decide +kernel) rfl) pa_nil))) (nomark _))))) (pss_one (ps_ret pe_bl)) pss_nil)
      (pss_cons (ps_if (pt_cmpR op_ne (pe_callB call_lenR (by rfl) T.m_len (by decide +kernel) (pa_cons (pv 0) pa_nil)) (pe_callB call_lenR (by rfl) T.m_len (by decide +kernel) (pa_cons (pv 1) pa_nil)) (nomark _)) (pss_one (ps_ret pe_bl)) pss_nil)
      (pss_one (ps_ret (pe_callB (cr_all rfl) (by rfl) T.m_all (by decide +kernel) (pa_cons (pe_lc (own := [("k", 2)]) (g := (gName 2)) (tt := tYes) rfl sc_law_alike.nd (pi_range1 (by rfl) T.m_range (pa_cons (pe_callB (id := "len") (r := rLenS K) call_lenR (by rfl) T.m_len (by decide +kernel) (pa_cons (pv 1) pa_nil)) pa_nil)) (blkOk_by (own := [("k", 2)]) (N := n_law_alike) (sc := defScope s_law_alike) (by decide +kernel)) (fun _ _ _ _ _ => (pg_name (i := 2) sc_law_alike.nd rfl (Or.inl rfl))) (fun _ _ _ _ _ => pts_nil) (fun _ _ _ _ _ => (pe_call ih hr (by rfl) T.g_law_alike T.F_law_alike.kp T.b_law_alike .nil pass0 (pa_cons (pe_ix (r := rIx K) ix_seq (pv 0) (pv 2) (fun _ _ => rfl)) (pa_cons (pe_ix (r := rIx K) ix_seq (pv 1) (pv 2) (fun _ _ => rfl)) pa_nil))))) pa_nil)))))) pss_nil)
      (pss_cons (ps_if (PW.pt (pw_or (pt_cmpR op_ne (pe_callB call_isi (by rfl) T.m_isinstance (by decide +kernel) (pa_cons (pv 0) (pa_cons (pe_bltn (v := .ty "bool") (by rfl) T.m_bool (by decide +kernel) rfl) pa_nil))) (pe_callB call_isi (by rfl) T.m_isinstance (by decide +kernel) (pa_cons (pv 1) (pa_cons (pe_bltn (v := .ty "bool") (by rfl) T.m_bool (by decide +kernel) rfl) pa_nil))) (nomark _)) (pw_or1 (pt_cmpR op_ne (pe_callB call_isi (by rfl) T.m_isinstance (by decide +kernel) (pa_cons (pv 0) (pa_cons (pe_bltn (v := .ty "int") (by rfl) T.m_int (by decide +kernel) rfl) pa_nil))) (pe_callB call_isi (by rfl) T.m_isinstance (by decide +kernel) (pa_cons (pv 1) (pa_cons (pe_bltn (v := .ty "int") (by rfl) T.m_int (by decide +kernel) rfl) pa_nil))) (nomark _))))) (pss_one (ps_ret pe_bl)) pss_nil)
      (pss_one (ps_ret (pe_and (pe_cmpR op_eq (pe_callB call_isi (by rfl) T.m_isinstance (by decide +kernel) (pa_cons (pv 0) (pa_cons (pe_bltn (v := .ty "str") (by rfl) T.m_str (by decide +kernel) rfl) pa_nil))) (pe_callB call_isi (by rfl) T.m_isinstance (by decide +kernel) (pa_cons (pv 1) (pa_cons (pe_bltn (v := .ty "str") (by rfl) T.m_str (by decide +kernel) rfl) pa_nil))) (nomark _)) (pe_one (pe_cmpR (op_eqD hr.units) (pv 0) (pv 1) (nomark _)))))))), ?_⟩
    have seqs : ∀ {xs ys : List V} {ds : List PyData} {m : Nat}, n = m + 1 → Paired (Tk m H) xs ds → Paired (Tk m H) ys ds → xs.length ≤ 40000 → ∀ (ta tb : TE) (σ : L2.St) (H1 : Hp) (hw : ∀ x, wipe ((wipe σ [2]).set 2 (some x)) [2] = wipe σ [2]), Ex H H1 → Ev (tCB (rLenS K) (tCons (tVar 1) tNil)) σ H1 (.int (ds.length : Int)) →
        (∀ (i : Nat) (x y : V) (H2 : Hp), Ex H1 H2 → xs[i]? = some x → ys[i]? = some y → Ev ta ((wipe σ [2]).set 2 (some (.int (i : Int)))) H2 x ∧ Ev tb ((wipe σ [2]).set 2 (some (.int (i : Int)))) H2 y) →
        Ev (tCB (rAll K) (tCons (tLc (iRng1 (tCons (tCB (rLenS K) (tCons (tVar 1) tNil)) tNil)) (gName 2) tYes (tCall (sp_alikeB n) [] E0 (tCons ta (tCons tb tNil))) [2]) tNil)) σ H1 (.bl true) := by
      intro xs ys ds m en hx hy hz ta tb σ H1 hw e1 hlen hit
      have xl : xs.length = ds.length := Paired.length hx
      have yl : ys.length = ds.length := Paired.length hy
      have el := el_lcR1 (te := tCall (sp_alikeB n) [] E0 (tCons ta (tCons tb tNil))) (t := tYes) (j := 2) (vs := [2]) (σ := σ) (H := H1) (n := (ds.length : Int)) (fun _ => true) (fun _ => .bl true) (ea_cons hlen ea_nil) (by omega) hw (fun _ _ _ _ => et_yes) fun i H2 e2 hi _ => ?_
      · rw [Int.toNat_natCast, given_true] at el
        exact ev_is (ev_allN el) (by rw [all_true])
      · have hi' : i < ds.length := by omega
        obtain ⟨a, ha⟩ : ∃ a, xs[i]? = some a := ⟨_, List.getElem?_eq_getElem (by omega)⟩
        obtain ⟨b, hb⟩ : ∃ b, ys[i]? = some b := ⟨_, List.getElem?_eq_getElem (by omega)⟩
        obtain ⟨c, hc, pa⟩ := paired_get hx ha
        obtain ⟨c', hc', pb⟩ := paired_get hy hb
        rw [hc] at hc'
        cases hc'
        obtain ⟨e3, e4⟩ := hit i a b H2 e2 ha hb
        refine ev_call (ea_cons e3 (ea_cons e4 ea_nil)) ?_
        rw [en]
        exact sv_alike (pa.ex (e1.trans e2)) (pb.ex (e1.trans e2))
    cases hs : isSeq d with
    | false =>
      have fv := tk_flat hv hs
      have fu := tk_flat hu hs
      have sd : SeqAt.shaped d = true := by cases fv <;> simp [SeqAt.shaped, PyData.canLay0, PyData.depth, *]
      refine q_when (b := false) (et_is (et_B (ev_isSeq (ev_var rfl) hu)) hs) (fun hb => Bool.noConfusion hb) fun _ H1 e1 => ?_
      refine q_when (b := false) (et_is (et_or (et_test (ev_op (ev_isBo (ev_var rfl) (hv.ex e1)) (ev_isBo (ev_var rfl) (hu.ex e1)) (rv_ne rfl))) fun _ => et_test (ev_op (ev_isIt (ev_var rfl) (hv.ex e1)) (ev_isIt (ev_var rfl) (hu.ex e1)) (rv_ne rfl))) (by simp)) (fun hb => Bool.noConfusion hb) fun _ H2 e2 => ?_
      have e12 := e1.trans e2
      exact s_ret (v := .bl true) (ev_is (ev_andV (ev_op (ev_isSt (ev_var rfl) (hv.ex e12)) (ev_isSt (ev_var rfl) (hu.ex e12)) (rv_eq rfl)) fun _ => ev_eqD (K := K) (ed_of (ev_var rfl) (flat_dp fv)) (ed_of (ev_var rfl) (flat_dp fu)) sd sd) (by rw [eqv_same sd]; simp)) fun H3 e3 => kk H3 (e12.trans e3)
    | true =>
      refine q_when (b := true) (et_is (et_B (ev_isSeq (ev_var rfl) hu)) hs) (fun _ H1 e1 => ?_) fun hb => Bool.noConfusion hb
      refine q_when (b := false) (et_is (et_or (et_is (et_not (et_B (ev_isSeq (ev_var rfl) (hv.ex e1)))) (show (!isSeq d) = false by rw [hs]; rfl)) fun _ => et_test (ev_op (ev_isLs (ev_var rfl) (hv.ex e1)) (ev_isLs (ev_var rfl) (hu.ex e1)) (rv_ne rfl))) (by simp)) (fun hb => Bool.noConfusion hb) fun _ H2 e2 => ?_
      have e12 := e1.trans e2
      obtain ⟨m, en, hv'⟩ := tk_seq hv hs
      obtain ⟨m', en', hu'⟩ := tk_seq hu hs
      obtain rfl : m' = m := by omega
      rcases hv' with ⟨a, xs, ds, rfl, rfl, ha, hz, hx⟩ | ⟨a, xs, ds, rfl, rfl, ha, hz, hx⟩
      · rcases hu' with ⟨b, ys, ds', rfl, ed, hb, hzb, hy⟩ | ⟨b, ys, ds', rfl, ed, hb, hzb, hy⟩
        · cases ed
          have xl : xs.length = ds.length := Paired.length hx
          have yl : ys.length = ds.length := Paired.length hy
          have lv : ∀ H3, Ex H H3 → Ev (tCB (rLenS K) (tCons (tVar 0) tNil)) (start n_law_alike [.ref a, .ref b]) H3 (.int (ds.length : Int)) := fun H3 e => ev_is (ev_len (K := K) (ev_var (i := 0) rfl) (sq_of (e a _ ha))) (by rw [xl])
          have lu : ∀ H3, Ex H H3 → Ev (tCB (rLenS K) (tCons (tVar 1) tNil)) (start n_law_alike [.ref a, .ref b]) H3 (.int (ds.length : Int)) := fun H3 e => ev_is (ev_len (K := K) (ev_var (i := 1) rfl) (sq_of (e b _ hb))) (by rw [yl])
          refine q_when (b := false) (et_is (et_test (ev_op (lv H2 e12) (lu H2 e12) (rv_ne rfl))) (by simp)) (fun hb => Bool.noConfusion hb) fun _ H3 e3 => ?_
          have e13 := e12.trans e3
          refine s_ret (v := .bl true) (seqs en hx hy hz _ _ _ H3 (fun _ => rfl) e13 (lu H3 e13) fun i x y H4 e4 hxi hyi => ⟨ev_op (ev_var rfl) (ev_var rfl) (rv_ixQL (sq_of ((e13.trans e4) a _ ha)) (atI_nat hxi)), ev_op (ev_var rfl) (ev_var rfl) (rv_ixQL (sq_of ((e13.trans e4) b _ hb)) (atI_nat hyi))⟩) fun H4 e4 => kk H4 (e13.trans e4)
        · cases ed
      · rcases hu' with ⟨b, ys, ds', rfl, ed, hb, hzb, hy⟩ | ⟨b, ys, ds', rfl, ed, hb, hzb, hy⟩
        · cases ed
        · cases ed
          have xl : xs.length = ds.length := Paired.length hx
          have yl : ys.length = ds.length := Paired.length hy
          have lv : ∀ H3, Ex H H3 → Ev (tCB (rLenS K) (tCons (tVar 0) tNil)) (start n_law_alike [.ref a, .ref b]) H3 (.int (ds.length : Int)) := fun H3 e => ev_is (ev_lenT (K := K) (ev_var (i := 0) rfl) (st_of (e a _ ha))) (by rw [xl])
          have lu : ∀ H3, Ex H H3 → Ev (tCB (rLenS K) (tCons (tVar 1) tNil)) (start n_law_alike [.ref a, .ref b]) H3 (.int (ds.length : Int)) := fun H3 e => ev_is (ev_lenT (K := K) (ev_var (i := 1) rfl) (st_of (e b _ hb))) (by rw [yl])
          refine q_when (b := false) (et_is (et_test (ev_op (lv H2 e12) (lu H2 e12) (rv_ne rfl))) (by simp)) (fun hb => Bool.noConfusion hb) fun _ H3 e3 => ?_
          have e13 := e12.trans e3
          refine s_ret (v := .bl true) (seqs en hx hy hz _ _ _ H3 (fun _ => rfl) e13 (lu H3 e13) fun i x y H4 e4 hxi hyi => ⟨ev_op (ev_var rfl) (ev_var rfl) (rv_ixQT (st_of ((e13.trans e4) a _ ha)) (atI_nat hxi)), ev_op (ev_var rfl) (ev_var rfl) (rv_ixQT (st_of ((e13.trans e4) b _ hb)) (atI_nat hyi))⟩) fun H4 e4 => kk H4 (e13.trans e4)
theorem alike_at (T : Tx K mg) : ∀ n, FnOk P w K mg base CX0 (n + 1) T.f_law_alike T.d_law_alike ["found", "due"] (sp_law_alike n)
  | 0 => alike_step T 0 0 ⟨fun _ _ _ _ h => h.elim, fun _ _ _ _ _ _ _ _ _ _ _ _ _ h => h.elim⟩
  | n + 1 => alike_step T (n + 1) (n + 1) (alike_at T n)
theorem ok_law_alike (T : Tx K mg) : FnOk P w K mg base CX0 5 T.f_law_alike T.d_law_alike ["found", "due"] (sp_law_alike 4) := alike_at T 4
end
section
variable {σ : L2.St} {H : Hp} {ta tb : TE}
theorem ev_alike {n : Nat} {E : XK} {d e : PyData} (h : EvK n ta σ H d) (h2 : EvK n tb σ H e) (q : d = e) : Ev (tCall (sp_law_alike n) [] E (tCons ta (tCons tb tNil))) σ H (.bl true) := fun H1 e1 Q k => h H1 e1 _ fun v H2 e2 hv => h2 H2 (e1.trans e2) _ fun w H3 e3 hw => by
  subst q
  exact ⟨v, w, d, rfl, hv.ex e3, hw, fun H4 e4 => k H4 (e2.trans (e3.trans e4))⟩
end


/-! ### the bag -/
/-- H without p -/
def Hm (p : Addr) (H : Hp) : Hp := fun b => if b = p then none else H b
theorem hm_p {p : Addr} {H : Hp} : Hm p H p = none := if_pos rfl
theorem hm_sub {p : Addr} {H : Hp} : Ex (Hm p H) H := fun a o h => by
  unfold Hm at h
  split at h
  · cases h
  · exact h
theorem hm_mono {p : Addr} {H H' : Hp} (e : Ex H H') : Ex (Hm p H) (Hm p H') := fun a o h => by
  unfold Hm at h ⊢
  split at h
  · cases h
  · rename_i ne
    rw [if_neg ne]
    exact e a o h
theorem ex_hm {p : Addr} {H0 H : Hp} (e : Ex H0 H) (h : H0 p = none) : Ex H0 (Hm p H) := fun a o ha => by
  unfold Hm
  rw [if_neg (ne_of_none ha h)]
  exact e a o ha
/-- a bag after at most n draws -/
def Po (p l : Addr) (n : Nat) (H : Hp) : Prop := ∃ (ns : List Int) (i c s t : Int), H p = some (.lst [.ref l, .int i, .int c, .int s, .int t]) ∧ H l = some (.lst (ns.map V.int)) ∧ l ≠ p ∧ (0 ≤ i ∧ (∀ z ∈ ns, 0 ≤ z) ∧ 0 ≤ c) ∧ (0 ≤ s ∧ s < 2147483647) ∧ 0 ≤ t ∧ t ≤ 10 * n
theorem Po.ex {p l : Addr} {n : Nat} {H H' : Hp} (h : Po p l n H) (e : Ex H H') : Po p l n H' := by
  obtain ⟨ns, i, c, s, t, h1, h2, h3⟩ := h
  exact ⟨ns, i, c, s, t, e p _ h1, e l _ h2, h3⟩
theorem Po.mono {p l : Addr} {n m : Nat} {H : Hp} (h : Po p l n H) (e : n ≤ m) : Po p l m H := by
  obtain ⟨ns, i, c, s, t, h1, h2, h3, h4, h5, h6, h7⟩ := h
  exact ⟨ns, i, c, s, t, h1, h2, h3, h4, h5, h6, by omega⟩
theorem ev_bits {σ : L2.St} {H : Hp} {ta : TE} {i : Int} (h : Ev ta σ H (.int i)) : Ev (tBits ta) σ H (.int ((Builtin.Int.intBits i : Nat) : Int)) := fun H1 e Q q => h H1 e _ fun H2 e2 => ⟨i, rfl, q H2 e2⟩
def fI (f : Int → Int) : V → V
  | .int c => .int (f c)
  | _ => .non
theorem map_fI (f : Int → Int) (ns : List Int) : (ns.map V.int).map (fI f) = (ns.map f).map V.int := by
  rw [List.map_map, List.map_map]
  rfl
theorem s_retC {σ : L2.St} {H : Hp} {t : TA} {sp : Sp} {E : XK} {D : Ends} {vs : List V} (h : EvA t σ H vs) (k : ∀ H1, Ex H H1 → sp (vs ++ []) H1 D.rt E) : tRet (tCall sp [] E t) D σ H := h H (Ex.refl H) _ k
theorem s_retLL {σ : L2.St} {H : Hp} {te : TE} {tr : TA} {D : Ends} {xs ys : List V} (h : EvL te σ H xs) (hr : ∀ H1, Ex H H1 → EvA tr σ H1 ys) (hz : ys.length < 1000) (k : ∀ p l H1, H p = none → H l = none → l ≠ p → Ex H H1 → H1 l = some (.lst xs) → H1 p = some (.lst (.ref l :: ys)) → D.rt (.ref p) H1) : tRet (tLst (tCons te tr)) D σ H :=
  h H (Ex.refl H) _ fun l H1 nl e1 hl => hr H1 e1 H1 (Ex.refl _) _ fun H2 e2 => ⟨sz_of (by rw [List.length_cons]; omega), fun p hp =>
    k p l _ (fresh_back (e1.trans e2) hp) nl (fun z => by
      rw [← z, e2 l _ hl] at hp
      cases hp) ((e1.trans e2).trans (Ex.new hp)) (Ex.new hp l _ (e2 l _ hl)) upd_same⟩
theorem pow3_ok {i : Int} (h : i.natAbs < 2 ^ 250) : CPowX i 3 := by
  have := PyProof.Rows.intBits_le h
  unfold CPowX
  omega
theorem divw_ok {i j : Int} (h : 0 < j) (hb : j < 2 ^ 200) : CDivW i j := wide_div (b := 200) h (by omega) (by decide) (by decide)
theorem mulk_ok {i j : Int} (h : i.natAbs < 2 ^ 100000) (hb : j.natAbs < 2 ^ 100000) : CMulX i j := mulx_ok h hb (by decide)
def sp_law_bag (K : PySem.W.Frag) : Sp := fun vs H Q _ => ∃ (s : Addr) (ns : List Int), vs = [.ref s] ∧ SqL K H s (ns.map V.int) ∧ ns.length ≤ 63 ∧ ∀ p l H', H p = none → H l = none → Ex H H' → Po p l 0 H' → Q (.ref p) H'
def sp_law_stirred : Sp := fun vs H Q _ => ∃ (p l : Addr) (n : Nat) (w : Int), vs = [.ref p, .int w] ∧ Po p l n H ∧ n < 1000000000 ∧ 0 < w ∧ w < 2 ^ 200 ∧
  ∀ r H', 0 ≤ r → r < w → Po p l (n + 1) H' → Ex (Hm p H) H' → Q (.int r) H'
def sp_law_draw : Sp := fun vs H Q _ => ∃ (p l : Addr) (n : Nat) (w : Int), vs = [.ref p, .int w] ∧ Po p l n H ∧ n < 1000000000 ∧ 0 < w ∧ w < 2 ^ 200 ∧
  ∀ r H', 0 ≤ r → r < w → Po p l (n + 1) H' → Ex (Hm p H) H' → Q (.int r) H'
section
variable {P : Program} {w : World} {K : PySem.W.Frag} {mg : Str → Option Value} {base : Heap}
theorem ok_law_bag (T : Tx K mg) : FnOk P w K mg base CX0 1 T.f_law_bag T.d_law_bag ["script"] (sp_law_bag K) := by
  refine T.F_law_bag.ok sc_law_bag (fun vs H Q E h => ?_) (fun cdv A outer s H vs Q E hr h => ?_)
  · obtain ⟨a, ns, rfl, _⟩ := h
    rfl
  · obtain ⟨a, ns, rfl, hs, hn, k⟩ := h
    refine ⟨_, (pss_cons (ps_set (i := 1) sc_law_bag.nd rfl (Or.inl rfl) pe_int)
      (pss_cons (ps_for PassesOwn.never rfl (pi_list (pe_slice sl_list (pv 0) po_none (po_some pe_int))) (pg_name (i := 2) sc_law_bag.nd rfl (Or.inl rfl)) (pss_one (ps_set (i := 1) sc_law_bag.nd rfl (Or.inl rfl) (pe_op op_mod (pe_callTy call_intI (by rfl) T.m_int (by decide +kernel) (pa_cons (pe_op op_add (pe_op op_add (pe_op op_mulX (pv 1) pe_int) (pe_op op_mod (pe_callTy call_intI (by rfl) T.m_int (by decide +kernel) (pa_cons (pv 2) pa_nil)) pe_int)) pe_int) pa_nil)) pe_int))))
      (pss_one (ps_ret (pe_lst (pa_cons (pe_lc (own := [("cell", 2)]) (g := (gName 2)) (tt := tYes) rfl sc_law_bag.nd (pi_list (pe_slice (r := rSlL K) sl_list (pv 0) po_none (po_some pe_int))) (blkOk_by (own := [("cell", 2)]) (N := n_law_bag) (sc := defScope s_law_bag) (by decide +kernel)) (fun _ _ _ _ _ => (pg_name (i := 2) sc_law_bag.nd rfl (Or.inl rfl))) (fun _ _ _ _ _ => pts_nil) (fun _ _ _ _ _ => (pe_op op_mod (pe_callTy call_intI (by rfl) T.m_int (by decide +kernel) (pa_cons (pe_callB call_absR (by rfl) T.m_abs (by decide +kernel) (pa_cons (pv 2) pa_nil)) pa_nil)) (pe_op op_powX (pe_op op_powX pe_int pe_int) pe_int)))) (pa_cons pe_int (pa_cons pe_int (pa_cons (pv 1) (pa_cons pe_int pa_nil)))))))))), ?_⟩
    have hlen : (ns.map V.int).length = ns.length := List.length_map ..
    have cutA : cutV (ns.map V.int) none (some 63) = ns.map V.int := by
      unfold cutV
      rw [HT.sIx_none, show (63 : Int) = ((63 : Nat) : Int) from rfl, HT.sIx_nat, List.drop_zero]
      exact List.take_of_length_le (by omega)
    refine q_asg (v := .int 223) ev_c fun H1 e1 => ?_
    have hs1 := ex_l e1 hs
    have slc : ∀ (σ : L2.St) (H' : Hp), σ[0]? = some (some (.ref a)) → Ex H1 H' → EvL (tSl (rSlL K) (tVar 0) tNoPart (tPart (tC (.int 63)))) σ H' (ns.map V.int) := fun σ H' h0 e' => by
      have := el_sl (K := K) (te := tVar 0) (tl := tNoPart) (th := tPart (tC (.int 63))) (σ := σ) (H := H') (ev_var (i := 0) h0) eo_none (eo_some (ev_c (v := .int 63))) (ex_l e' hs1)
      rw [cutA] at this
      exact this
    have mod0 : (0 : Int) < (10 ^ (60 : Int).toNat) ^ (10 : Int).toNat := Int.pow_pos (Int.pow_pos (by decide))
    have pw1 : CPowX 10 60 := by constructor <;> decide +kernel
    have pw2 : CPowX (10 ^ (60 : Int).toNat) 10 := by constructor <;> decide +kernel
    refine q_forNL (xs := ns.map V.int) (slc _ H1 rfl (Ex.refl _)) (fun q i σ' H' => ∃ (st : Int) (y : Option V), σ' = [some (.ref a), some (.int st), y] ∧ Ex H1 H' ∧ 0 ≤ st ∧ st < 2147483647 ∧ H' q = some (.lst (ns.map V.int))) (fun q H2 _ e2 hq => ⟨223, none, rfl, e2, by decide, by decide, hq⟩) (fun q i σ' H' _ ⟨_, _, _, _, _, _, hq⟩ => sq_of hq) ?_ ?_
    · rintro q i v σ' H' hv ⟨st, y, rfl, e, s0, s1, hq⟩
      rw [List.getElem?_map] at hv
      obtain ⟨c, _, rfl⟩ := Option.map_eq_some_iff.mp hv
      have m1 : CMulX st 48271 := mulx_ok (a := 64) (b := 64) (by omega) (by decide) (by decide)
      exact s_asg (v := .int ((st * 48271 + c % 2147483629 + 1) % 2147483647)) (ev_op (ev_intI (ev_op (ev_op (ev_op (ev_var rfl) ev_c (rv_I m1)) (ev_op (ev_intI (ev_var rfl)) ev_c (rv_I (by decide))) rv_I0) ev_c rv_I0)) ev_c (rv_I (by decide))) fun H2 e2 => ⟨_, _, rfl, e.trans e2, Int.emod_nonneg _ (by decide), Int.emod_lt_of_pos _ (by decide), e2 q _ hq⟩
    · rintro q σ' H' ⟨st, y, rfl, e, s0, s1, hq⟩
      have el := el_mapN (K := K) (te := tOp (rI (fun _ j => 0 < j) fun i j => .int (i % j)) (tCB rIntI (tCons (tCB rAbs (tCons (tVar 2) tNil)) tNil)) (tOp (rI CPowX fun i j => .int (i ^ j.toNat)) (tOp (rI CPowX fun i j => .int (i ^ j.toNat)) (tC (.int 10)) (tC (.int 60))) (tC (.int 10)))) (j := 2) (vs := [2]) (fI fun c => (if c < 0 then -c else c) % (10 ^ (60 : Int).toNat) ^ (10 : Int).toNat) (slc [some (.ref a), some (.int st), y] H' rfl e) (by rw [List.length_map]; omega) (fun _ => rfl) fun i v H2 e2 hv => ?_
      · rw [map_fI] at el
        refine s_retLL el (fun H2 e2 => ea_cons ev_c (ea_cons ev_c (ea_cons (ev_var rfl) (ea_cons ev_c ea_nil)))) (by simp) fun p l H2 hp hl0 lp e2 hl2 hp2 => ?_
        refine k p l H2 (fresh_back (e1.trans e) hp) (fresh_back (e1.trans e) hl0) (e1.trans (e.trans e2)) ⟨_, 0, 0, st, 0, hp2, hl2, lp, ⟨by decide, fun z hz => ?_, by decide⟩, ⟨s0, s1⟩, by decide, by decide⟩
        obtain ⟨c, _, rfl⟩ := List.mem_map.mp hz
        exact Int.emod_nonneg _ (by omega)
      · rw [List.getElem?_map] at hv
        obtain ⟨c, _, rfl⟩ := Option.map_eq_some_iff.mp hv
        exact ev_op (ev_intI (ev_abs (ev_var rfl))) (ev_op (ev_op ev_c ev_c (rv_I pw1)) ev_c (rv_I pw2)) (rv_I mod0)
theorem ok_law_stirred (T : Tx K mg) : FnOk P w K mg base CX0 1 T.f_law_stirred T.d_law_stirred ["bag", "wide"] sp_law_stirred := by
  refine T.F_law_stirred.ok sc_law_stirred (fun vs H Q E h => ?_) (fun cdv A outer s H vs Q E hr h => ?_)
  · obtain ⟨p, l, n, w, rfl, _⟩ := h
    rfl
  · obtain ⟨p, l, n, w, rfl, ⟨ns, i, c, s0, t, hp, hl, lp, ⟨hi, hns, hc⟩, ⟨hs0, hs1⟩, ht0, ht1⟩, hn, hw0, hw1, k⟩ := h
    refine ⟨_, (pss_cons (ps_set (i := 2) sc_law_stirred.nd rfl (Or.inl rfl) pe_int)
      (pss_cons (ps_for PassesOwn.never rfl (pi_range1 (by rfl) T.m_range (pa_cons (pe_op op_add pe_int (pe_op op_fdivW (pe_bits (pv 1)) pe_int)) pa_nil)) (pg_name (i := 3) sc_law_stirred.nd rfl (Or.inl rfl)) (pss_cons (ps_asg (pe_op op_add (pe_ix ix_list (pv 0) pe_int (fun _ _ => rfl)) pe_int) (pg_sub (pv 0) pe_int set_list))
      (pss_cons (ps_set (i := 4) sc_law_stirred.nd rfl (Or.inl rfl) (pe_op op_add (pe_op op_add (pe_op op_add (pe_op op_powX (pe_ix ix_list (pv 0) pe_int (fun _ _ => rfl)) pe_int) (pe_op op_mulX pe_int (pe_ix ix_list (pv 0) pe_int (fun _ _ => rfl)))) (pe_op op_mulX pe_int (pe_ix ix_list (pv 0) pe_int (fun _ _ => rfl)))) pe_int))
      (pss_cons (ps_asg (pe_op op_mod (pe_callTy call_intI (by rfl) T.m_int (by decide +kernel) (pa_cons (pv 4) pa_nil)) pe_int) (pg_sub (pv 0) pe_int set_list))
      (pss_one (ps_set (i := 2) sc_law_stirred.nd rfl (Or.inl rfl) (pe_op op_add (pe_op op_mulX (pv 2) pe_int) (pe_op op_fdivW (pe_ix ix_list (pv 0) pe_int (fun _ _ => rfl)) pe_int))))))))
      (pss_one (ps_ret (pe_op op_mod (pe_callTy call_intI (by rfl) T.m_int (by decide +kernel) (pa_cons (pv 2) pa_nil)) (pv 1)))))), ?_⟩
    have hp0 : Hm p H p = none := hm_p
    have hlm : Hm p H l = some (.lst (ns.map V.int)) := by
      unfold Hm
      rw [if_neg lp]
      exact hl
    have bits : Builtin.Int.intBits w ≤ 200 := PyProof.Rows.intBits_le (by omega)
    refine q_asg (v := .int 0) ev_c fun H1 e1 => ?_
    have d27 : CDivW ((Builtin.Int.intBits w : Nat) : Int) 27 := divw_ok (by decide) (by decide)
    refine q_forR1 (n := 1 + ((Builtin.Int.intBits w : Nat) : Int) / 27) (ea_cons (ev_op ev_c (ev_op (ev_bits (ev_var rfl)) ev_c (rv_I d27)) rv_I0) ea_nil) ⟨by omega, by omega⟩ (fun j σ' H' => ∃ (f s' : Int) (y z : Option V), σ' = [some (.ref p), some (.int w), some (.int f), y, z] ∧ H' p = some (.lst [.ref l, .int i, .int c, .int s', .int (t + j)]) ∧ Ex (Hm p H) H' ∧ 0 ≤ f ∧ f.natAbs < 2 ^ (28 * j + 1) ∧ 0 ≤ s' ∧ s' < 2147483647) (fun H2 e2 => ⟨0, s0, none, none, rfl, by
      rw [show t + ((0 : Nat) : Int) = t by omega]
      exact e2 p _ (e1 p _ hp), hm_sub.trans (e1.trans e2), by decide, by decide, hs0, hs1⟩) ?_ ?_
    · rintro j σ' H' hj ⟨f, s', y, z, rfl, hp', e', hf0, hf1, hs0', hs1'⟩
      have j8 : j < 9 := by omega
      refine q_setL (j := 4) hp' (by walk_at "ev") (by walk_at "ev") ev_c (by show 4 < 5; decide) fun H2 e2 => ?_
      have hp2 : ∀ H3, Ex (upd H2 p (.lst ([V.ref l, .int i, .int c, .int s', .int (t + j)].set 4 (.int (t + j + 1))))) H3 → H3 p = some (.lst [.ref l, .int i, .int c, .int s', .int (t + j + 1)]) := fun H3 e => e p _ upd_same
      have hq := hp2 _ (Ex.refl _)
      have m1 : CMulX 69621 s' := mulx_ok (a := 64) (b := 64) (by decide) (by omega) (by decide)
      have m2 : CMulX 1031 (t + j + 1) := mulx_ok (a := 64) (b := 64) (by decide) (by omega) (by decide)
      have p3 : CPowX s' 3 := pow3_ok (by omega)
      refine q_asg (by walk_at "ev") fun H3 e3 => ?_
      have hq3 := hp2 _ e3
      generalize hx : s' ^ (3 : Int).toNat + 69621 * s' + 1031 * (t + (j : Int) + 1) + 1 = x
      refine q_setL (j := 3) hq3 (by walk_at "ev") (by walk_at "ev") ev_c (by show 3 < 5; decide) fun H4 e4 => ?_
      have r0 := Int.emod_nonneg x (show (2147483647 : Int) ≠ 0 by decide)
      have r1 := Int.emod_lt_of_pos x (show (0 : Int) < 2147483647 by decide)
      generalize x % 2147483647 = s2 at r0 r1 ⊢
      have hp4 : ∀ H5, Ex (upd H4 p (.lst ([V.ref l, .int i, .int c, .int s', .int (t + j + 1)].set 3 (.int s2)))) H5 → H5 p = some (.lst [.ref l, .int i, .int c, .int s2, .int (t + j + 1)]) := fun H5 e => e p _ upd_same
      have hq4 := hp4 _ (Ex.refl _)
      have d16 : CDivW s2 16 := divw_ok (by decide) (by decide)
      have m3 : CMulX f 134217728 := mulx_ok (a := 300) (b := 64) (lt2_mono hf1 (by omega)) (by decide) (by decide)
      have f2 : (f * 134217728 + s2 / 16).natAbs < 2 ^ (28 * (j + 1) + 1) := by
        have a1 : (f * 134217728).natAbs < 2 ^ (28 * j + 1) * 134217728 := by
          rw [Int.natAbs_mul]
          exact Nat.mul_lt_mul_of_pos_right hf1 (by decide)
        have a2 : 2 ^ (28 * (j + 1) + 1) = 2 ^ (28 * j + 1) * 268435456 := by
          rw [show 28 * (j + 1) + 1 = 28 * j + 1 + 28 by omega, Nat.pow_add]
        have a3 : 1 ≤ 2 ^ (28 * j + 1) := Nat.one_le_two_pow
        omega
      refine s_asg (by walk_at "ev") fun H5 e5 => ⟨_, s2, _, _, rfl, ?_, ?_, ?_, f2, r0, r1⟩
      · rw [show t + ((j + 1 : Nat) : Int) = t + j + 1 by omega]
        exact hp4 _ e5
      · exact (Ex.mut ((Ex.mut (e'.trans e2) hp0).trans (e3.trans e4)) hp0).trans e5
      · have := Int.mul_nonneg hf0 (show (0 : Int) ≤ 134217728 by decide)
        omega
    · rintro σ' H' ⟨f, s', y, z, rfl, hp', e', hf0, hf1, hs0', hs1'⟩
      refine s_ret (by walk_at "ev") fun H2 e2 => ?_
      refine k _ _ (Int.emod_nonneg _ (by omega)) (Int.emod_lt_of_pos _ hw0) ⟨ns, i, c, s', _, e2 p _ hp', (e'.trans e2) l _ hlm, lp, ⟨hi, hns, hc⟩, ⟨hs0', hs1'⟩, by omega, ?_⟩ (e'.trans e2)
      omega
theorem ok_law_draw (T : Tx K mg) : FnOk P w K mg base CX0 2 T.f_law_draw T.d_law_draw ["bag", "wide"] sp_law_draw := by
  refine T.F_law_draw.ok sc_law_draw (fun vs H Q E h => ?_) (fun cdv A outer s H vs Q E hr h => ?_)
  · obtain ⟨p, l, n, w, rfl, _⟩ := h
    rfl
  · obtain ⟨p, l, n, w, rfl, hpo, hn, hw0, hw1, k⟩ := h
    refine ⟨_, (pss_cons (ps_if (PW.pt (pw_and (pt_cmpR op_eq (pe_ix ix_list (pv 0) pe_int (fun _ _ => rfl)) pe_int (nomark _)) (pw_and1 (pt_cmpR op_lt (pe_ix ix_list (pv 0) pe_int (fun _ _ => rfl)) (pe_callB call_lenR (by rfl) T.m_len (by decide +kernel) (pa_cons (pe_ix ix_list (pv 0) pe_int (fun _ _ => rfl)) pa_nil)) (nomark _))))) (pss_cons (ps_asg (pe_ix ix_list (pe_ix ix_list (pv 0) pe_int (fun _ _ => rfl)) (pe_ix ix_list (pv 0) pe_int (fun _ _ => rfl)) (fun _ _ => rfl)) (pg_sub (pv 0) pe_int set_list))
      (pss_one (ps_asg (pe_op op_add (pe_ix ix_list (pv 0) pe_int (fun _ _ => rfl)) pe_int) (pg_sub (pv 0) pe_int set_list)))) (pss_one (ps_if (pt_cmpR op_eq (pe_ix ix_list (pv 0) pe_int (fun _ _ => rfl)) pe_int (nomark _)) (pss_one (ps_ret (pe_call (ok_law_stirred T) (hr.mono (by decide)) (by rfl) T.g_law_stirred T.F_law_stirred.kp T.b_law_stirred .nil pass0 (pa_cons (pv 0) (pa_cons (pv 1) pa_nil))))) pss_nil)))
      (pss_cons (ps_set (i := 2) sc_law_draw.nd rfl (Or.inl rfl) (pe_op op_mod (pe_callTy call_intI (by rfl) T.m_int (by decide +kernel) (pa_cons (pe_ix ix_list (pv 0) pe_int (fun _ _ => rfl)) pa_nil)) (pv 1)))
      (pss_cons (ps_asg (pe_op op_fdivW (pe_ix ix_list (pv 0) pe_int (fun _ _ => rfl)) (pv 1)) (pg_sub (pv 0) pe_int set_list))
      (pss_one (ps_ret (pv 2)))))), ?_⟩
    obtain ⟨ns, i, c, s0, t, hp, hl, lp, ⟨hi, hns, hc⟩, ⟨hs0, hs1⟩, ht0, ht1⟩ := hpo
    have hp0 : Hm p H p = none := hm_p
    have hlm : Hm p H l = some (.lst (ns.map V.int)) := by
      unfold Hm
      rw [if_neg lp]
      exact hl
    obtain ⟨i, rfl⟩ : ∃ z : Nat, i = z := ⟨i.toNat, by omega⟩
    have ix : ∀ {σ : L2.St} {H' : Hp} {i c s t : Int} (j : Nat) {v : V}, σ[0]? = some (some (.ref p)) → H' p = some (.lst [.ref l, .int i, .int c, .int s, .int t]) → [V.ref l, .int i, .int c, .int s, .int t][j]? = some v → Ev (tOp (rIxL K) (tVar 0) (tC (.int (j : Int)))) σ H' v := fun j v h0 h1 h2 => ev_op (ev_var h0) ev_c (rv_ixL (K := K) (sq_of h1) (atI_nat h2))
    have tail : ∀ (H' : Hp) (i' : Nat) (c' : Int), 0 ≤ c' → H' p = some (.lst [.ref l, .int (i' : Int), .int c', .int s0, .int t]) → Ex (Hm p H) H' →
        tSeq (tAsg (tOp (rI (fun _ j => 0 < j) fun i j => .int (i % j)) (tCB rIntI (tCons (tOp (rIxL K) (tVar 0) (tC (.int 2))) tNil)) (tVar 1)) (gName 2)) (tSeq (tAsg (tOp (rI CDivW fun i j => .int (i / j)) (tOp (rIxL K) (tVar 0) (tC (.int 2))) (tVar 1)) (gSub (tVar 0) (tC (.int 2)) rSetL)) (tRet (tVar 2))) { nx := fun _ H' => Q .non H', rt := Q } [some (.ref p), some (.int w), none] H' := fun H' i' c' c0 hq e => by
      refine q_asg (v := .int (c' % w)) (ev_op (ev_intI (ix 2 rfl hq rfl)) (ev_var rfl) (rv_I hw0)) fun H2 e2 => ?_
      have hq2 := e2 p _ hq
      refine q_setL (j := 2) hq2 (v := .int (c' / w)) (ev_op (ix 2 rfl hq2 rfl) (ev_var rfl) (rv_I (divw_ok hw0 hw1))) (ev_var rfl) ev_c (by show 2 < 5; decide) fun H3 e3 => ?_
      refine s_ret (v := .int (c' % w)) (ev_var rfl) fun H4 e4 => k _ _ (Int.emod_nonneg _ (by omega)) (Int.emod_lt_of_pos _ hw0) ?_ ?_
      · refine ⟨ns, i', c' / w, s0, t, e4 p _ upd_same, e4 l _ (by rw [upd_ne lp]; exact (e.trans (e2.trans e3)) l _ hlm), lp, ⟨by omega, hns, Int.ediv_nonneg c0 (by omega)⟩, ⟨hs0, hs1⟩, ht0, by omega⟩
      · exact (Ex.mut (e.trans (e2.trans e3)) hp0).trans e4
    refine q_if (b := decide (V.int c = V.int 0) && decide (((i : Nat) : Int) < ((ns.map V.int).length : Int))) (et_and (et_test (ev_op (ix 2 rfl hp rfl) ev_c (rv_eq rfl))) fun _ => et_test (ev_op (ix 1 rfl hp rfl) (ev_len (ix 0 rfl hp rfl) (sq_of hl)) rv_I0)) (fun hb H1 e1 => ?_) fun hb H1 e1 => ?_
    · rw [Bool.and_eq_true, decide_eq_true_iff, decide_eq_true_iff, List.length_map] at hb
      have hp1 := e1 p _ hp
      have hil : i < ns.length := by omega
      obtain ⟨z, hz⟩ : ∃ z, ns[i]? = some z := ⟨_, List.getElem?_eq_getElem hil⟩
      refine q_setL (j := 2) hp1 (v := .int z) (ev_op (ix 0 rfl hp1 rfl) (ix 1 rfl hp1 rfl) (rv_ixL (K := K) (sq_of (e1 l _ hl)) (atI_nat (j := i) (by rw [List.getElem?_map, hz]; rfl)))) (ev_var rfl) ev_c (by show 2 < 5; decide) fun H2 e2 => ?_
      refine s_setL (j := 1) (xs := [.ref l, .int (i : Int), .int z, .int s0, .int t]) (v := .int ((i + 1 : Nat) : Int)) upd_same (ev_is (ev_op (ix 1 rfl upd_same rfl) ev_c rv_I0) (by congr 1)) (ev_var rfl) ev_c (by show 1 < 5; decide) fun H3 e3 => ?_
      exact tail _ (i + 1) z (hns z (List.mem_of_getElem? hz)) upd_same (Ex.mut ((Ex.mut (hm_sub.trans (e1.trans e2)) hp0).trans e3) hp0)
    · refine s_when (b := decide (V.int c = V.int 0)) (et_test (ev_op (ix 2 rfl (e1 p _ hp) rfl) ev_c (rv_eq rfl))) (fun hb2 H2 e2 => ?_) fun hb2 H2 e2 => ?_
      · have ee := e1.trans e2
        refine s_retC (vs := [.ref p, .int w]) (ea_cons (ev_var rfl) (ea_cons (ev_var rfl) ea_nil)) fun H3 e3 => ?_
        have e13 := ee.trans e3
        exact ⟨p, l, n, w, rfl, ⟨ns, i, c, s0, t, e13 p _ hp, e13 l _ hl, lp, ⟨by omega, hns, hc⟩, ⟨hs0, hs1⟩, ht0, ht1⟩, hn, hw0, hw1, fun r H4 r0 r1 p4 e4 => k r H4 r0 r1 p4 ((hm_mono e13).trans e4)⟩
      · exact tail H2 i c hc ((e1.trans e2) p _ hp) (hm_sub.trans (e1.trans e2))
end
/-! ### expressions that draw -/
theorem hm_trans {p : Addr} {H H1 H2 : Hp} (a : Ex (Hm p H) H1) (b : Ex (Hm p H1) H2) : Ex (Hm p H) H2 := fun x o h => by
  have ne : x ≠ p := fun z => by
    subst z
    rw [hm_p] at h
    cases h
  have h1 := a x o h
  refine b x o ?_
  unfold Hm
  rw [if_neg ne]
  exact h1
theorem hm_next {p : Addr} {H0 H H1 : Hp} (h0 : H0 p = none) (e : Ex H0 H) (s : Ex (Hm p H) H1) : Ex H0 H1 := (ex_hm e h0).trans s
theorem hm_of {p : Addr} {H H1 : Hp} (e : Ex H H1) : Ex (Hm p H) H1 := hm_sub.trans e
theorem hm_at {p a : Addr} {H H1 : Hp} {o : HO} (s : Ex (Hm p H) H1) (ne : a ≠ p) (h : H a = some o) : H1 a = some o := s a o (by
  unfold Hm
  rw [if_neg ne]
  exact h)
theorem Po.ne {p l b : Addr} {n : Nat} {H : Hp} (h : Po p l n H) (hb : H b = none) : b ≠ p := fun z => by
  subst z
  obtain ⟨_, _, _, _, _, h1, _⟩ := h
  rw [hb] at h1
  cases h1
theorem Po.nl {p l b : Addr} {n : Nat} {H : Hp} (h : Po p l n H) (hb : H b = none) : b ≠ l := fun z => by
  subst z
  obtain ⟨_, _, _, _, _, _, h1, _⟩ := h
  rw [hb] at h1
  cases h1
theorem Po.upd {p l b : Addr} {n : Nat} {H : Hp} {o : HO} (h : Po p l n H) (ne : b ≠ p) (nl : b ≠ l) : Po p l n (upd H b o) := by
  obtain ⟨ns, i, c, s, t, h1, h2, h3⟩ := h
  exact ⟨ns, i, c, s, t, by rw [upd_ne (Ne.symm ne)]; exact h1, by rw [upd_ne (Ne.symm nl)]; exact h2, h3⟩
def EvP (p L : Addr) (k : Nat) (te : TE) (σ : L2.St) (H0 : Hp) (R : V → Hp → Prop) : Prop := ∀ n H1, Ex H0 H1 → Po p L n H1 → n + k ≤ 1000000000 →
  ∀ Q : VK, (∀ v H2, R v H2 → Po p L (n + k) H2 → Ex (Hm p H1) H2 → Q v H2) → te σ H1 Q
def Stb (p : Addr) (R : V → Hp → Prop) : Prop := ∀ v H H', R v H → Ex (Hm p H) H' → R v H'
section
variable {K : PySem.W.Frag} {σ : L2.St} {H0 H : Hp} {p L : Addr} {k k1 k2 : Nat} {te ta tb : TE} {R Ra Rb : V → Hp → Prop}
theorem ep_ev {v : V} (h : Ev te σ H0 v) : EvP p L 0 te σ H0 (fun x _ => x = v) := fun n H1 e hp _ Q q => h H1 e Q fun H2 e2 => q v H2 rfl (hp.ex e2) (hm_of e2)
theorem ep_L {xs : List V} (h : EvL te σ H0 xs) : EvP p L 0 te σ H0 (fun x H => ∃ l, l ≠ p ∧ x = .ref l ∧ H l = some (.lst xs)) := fun n H1 e hp _ Q q => h H1 e Q fun l H2 hl e2 h2 => q _ H2 ⟨l, hp.ne hl, rfl, h2⟩ (hp.ex e2) (hm_of e2)
theorem stb_L {xs : List V} : Stb p (fun x H => ∃ l, l ≠ p ∧ x = .ref l ∧ H l = some (.lst xs)) := fun v H H' ⟨l, ne, e, h⟩ s => ⟨l, ne, e, hm_at s ne h⟩
theorem stb_c {C : V → Prop} : Stb p (fun x _ => C x) := fun _ _ _ h _ => h
theorem ep_op {r : R2} (h0 : H0 p = none) (ha : EvP p L k1 ta σ H0 Ra) (hb : EvP p L k2 tb σ H0 Rb) (s1 : Stb p Ra) (s : Stb p R) (hr : ∀ x y H, Ra x H → Rb y H → ∃ z, R z H ∧ RV r x y H z) : EvP p L (k1 + k2) (tOp r ta tb) σ H0 R :=
  fun n H1 e hp hn Q q => ha n H1 e hp (by omega) _ fun x H2 hx p2 e2 => hb (n + k1) H2 (hm_next h0 e e2) p2 (by omega) _ fun y H3 hy p3 e3 => by
    obtain ⟨z, hz, hv⟩ := hr x y H3 (s1 x H2 H3 hx e3) hy
    refine hv H3 (Ex.refl H3) Q fun H4 e4 => q z H4 (s z H3 H4 hz (hm_of e4)) ?_ (hm_trans (hm_trans e2 e3) (hm_of e4))
    rw [← Nat.add_assoc]
    exact p3.ex e4
theorem ep_dip {tw : TE} {E : XK} {C : Int → Prop} (h0 : H0 p = none) (hp : Ev ta σ H0 (.ref p)) (hw : EvP p L k tw σ H0 (fun v _ => ∃ w, v = .int w ∧ 0 < w ∧ w < 2 ^ 200 ∧ C w)) :
    EvP p L (k + 1) (tCall sp_law_draw [] E (tCons ta (tCons tw tNil))) σ H0 (fun v _ => ∃ r w, v = .int r ∧ 0 ≤ r ∧ r < w ∧ C w) :=
  fun n H1 e hpo hn Q q => hp H1 e _ fun H2 e2 => hw n H2 (e.trans e2) (hpo.ex e2) (by omega) _ fun y H3 hy p3 e3 => by
    obtain ⟨w, rfl, w0, w1, c⟩ := hy
    exact ⟨p, L, n + k, w, rfl, p3, by omega, w0, w1, fun r H' r0 r1 p4 e4 => q _ H' ⟨r, w, rfl, r0, r1, c⟩ p4 (hm_trans (hm_trans (hm_of e2) e3) e4)⟩
theorem ep_is {R' : V → Hp → Prop} (h : EvP p L k te σ H0 R) (e : ∀ v H, R v H → R' v H) : EvP p L k te σ H0 R' := fun n H1 a b c Q q => h n H1 a b c Q fun v H2 hv => q v H2 (e v H2 hv)
/-- the width is a pure int -/
theorem ep_dipI {tw : TE} {E : XK} {w : Int} (h0 : H0 p = none) (hp : Ev ta σ H0 (.ref p)) (hw : Ev tw σ H0 (.int w)) (w0 : 0 < w) (w1 : w < 2 ^ 200) :
    EvP p L 1 (tCall sp_law_draw [] E (tCons ta (tCons tw tNil))) σ H0 (fun v _ => ∃ r, v = .int r ∧ 0 ≤ r ∧ r < w) :=
  ep_is (ep_dip (k := 0) (C := fun z => z = w) h0 hp (ep_is (ep_ev hw) fun v H e => ⟨w, e, w0, w1, rfl⟩)) fun v H ⟨r, z, e, r0, r1, e2⟩ => ⟨r, e, r0, e2 ▸ r1⟩
/-- a + b, b drawn -/
theorem ep_add {a : Int} {C : Int → Prop} (h0 : H0 p = none) (ha : Ev ta σ H0 (.int a)) (hb : EvP p L k tb σ H0 (fun v _ => ∃ r, v = .int r ∧ C r)) : EvP p L (0 + k) (tOp (rI0 fun i j => .int (i + j)) ta tb) σ H0 (fun v _ => ∃ r, v = .int (a + r) ∧ C r) :=
  ep_op h0 (ep_ev ha) hb stb_c stb_c fun x y H e ⟨r, e2, c⟩ => ⟨.int (a + r), ⟨r, rfl, c⟩, by
    subst e
    subst e2
    exact rv_I0⟩
theorem p_asg {i n : Nat} {D : Ends} (h : EvP p L k te σ H0 R) (e : Ex H0 H) (hp : Po p L n H) (hn : n + k ≤ 1000000000) (q : ∀ v H2, R v H2 → Po p L (n + k) H2 → Ex (Hm p H) H2 → D.nx (σ.set i (some v)) H2) : tAsg te (gName i) D σ H := h n H e hp hn _ q
theorem pq_asg {i n : Nat} {D : Ends} {tz : TS} (h : EvP p L k te σ H0 R) (e : Ex H0 H) (hp : Po p L n H) (hn : n + k ≤ 1000000000) (q : ∀ v H2, R v H2 → Po p L (n + k) H2 → Ex (Hm p H) H2 → tz D (σ.set i (some v)) H2) : tSeq (tAsg te (gName i)) tz D σ H := h n H e hp hn _ q
/-- tests that draw -/
def EtP (p L : Addr) (k : Nat) (t : TT) (σ : L2.St) (H0 : Hp) (b : Bool) : Prop := ∀ n H1, Ex H0 H1 → Po p L n H1 → n + k ≤ 1000000000 →
  ∀ Q : Bool → Hp → Prop, (∀ H2, Po p L (n + k) H2 → Ex (Hm p H1) H2 → Q b H2) → t σ H1 Q
variable {t u : TT} {b c : Bool}
theorem tp_B (h : EvP p L k te σ H0 (fun v _ => v = .bl b)) : EtP p L k (tB te) σ H0 b := fun n H1 e hp hn Q q => h n H1 e hp hn _ fun v H2 hv p2 e2 => ⟨b, hv, q H2 p2 e2⟩
theorem tp_not (h : EtP p L k t σ H0 b) : EtP p L k (tNot t) σ H0 (!b) := fun n H1 e hp hn Q q => h n H1 e hp hn _ fun H2 p2 e2 => q H2 p2 e2
theorem tp_is (h : EtP p L k t σ H0 b) (e : b = c) : EtP p L k t σ H0 c := e ▸ h
theorem tp_or (h0 : H0 p = none) (h : EtP p L k1 t σ H0 false) (h' : EtP p L k2 u σ H0 b) : EtP p L (k1 + k2) (tOr t u) σ H0 b := fun n H1 e hp hn Q q => h n H1 e hp (by omega) _ fun H2 p2 e2 => by
  show u σ H2 Q
  refine h' (n + k1) H2 (hm_next h0 e e2) p2 (by omega) Q fun H3 p3 e3 => q H3 ?_ (hm_trans e2 e3)
  rw [← Nat.add_assoc]
  exact p3
theorem tp_et (h : EvT t σ H0 b) : EtP p L 0 t σ H0 b := fun n H1 e hp _ Q q => h H1 e Q fun H2 e2 => q H2 (hp.ex e2) (hm_of e2)
/-- a test that is false: what follows -/
theorem pq_no {n : Nat} {D : Ends} {tu tz : TS} (h : EtP p L k t σ H0 false) (e : Ex H0 H) (hp : Po p L n H) (hn : n + k ≤ 1000000000) (q : ∀ H2, Po p L (n + k) H2 → Ex (Hm p H) H2 → tz D σ H2) : tSeq (tIfS t tu tNext) tz D σ H := h n H e hp hn _ q
theorem ps_no {n : Nat} {D : Ends} {tu : TS} (h : EtP p L k t σ H0 false) (e : Ex H0 H) (hp : Po p L n H) (hn : n + k ≤ 1000000000) (q : ∀ H2, Po p L (n + k) H2 → Ex (Hm p H) H2 → D.nx σ H2) : tIfS t tu tNext D σ H := h n H e hp hn _ q
end


/-! ### lists of guests -/
def iz (xs : List Nat) : List Int := xs.map fun x : Nat => (x : Int)
def nv (xs : List Nat) : List V := (iz xs).map V.int
theorem nv_len (xs : List Nat) : (nv xs).length = xs.length := by simp [nv, iz]
theorem nv_get {xs : List Nat} {i x : Nat} (h : xs[i]? = some x) : (nv xs)[i]? = some (.int x) := by simp [nv, iz, h]
theorem nv_app (xs ys : List Nat) : nv (xs ++ ys) = nv xs ++ nv ys := by simp [nv, iz]
theorem nv_eq (xs : List Nat) : nv xs = xs.map fun x : Nat => V.int (x : Int) := by simp [nv, iz]
def Ord (h : List Nat) : Prop := h.Perm (List.range h.length) ∧ 1 ≤ h.length ∧ h.length ≤ 20
theorem el_mapI {K : PySem.W.Frag} {σ : L2.St} {H : Hp} {te tl : TE} {a : Addr} {xs : List V} {j : Nat} {vs : List Nat} (f : Nat → V) (h : Ev tl σ H (.ref a)) (hx : SqL K H a xs) (hz : xs.length ≤ 40000) (hw : ∀ x, wipe ((wipe σ vs).set j (some x)) vs = wipe σ vs)
    (he : ∀ (i : Nat) (x : V) H1, Ex H H1 → xs[i]? = some x → Ev te ((wipe σ vs).set j (some x)) H1 (f i)) : EvL (tLc (iList K tl) (gName j) tYes te vs) σ H ((List.range xs.length).map f) := by
  have e : (List.range xs.length).map f = given xs.length (fun _ => true) f := by
    unfold given
    rw [List.filter_eq_self.mpr (fun _ _ => rfl)]
  rw [e]
  exact el_lcL _ _ h hx hz hw (fun _ _ _ _ _ => et_yes) fun i x H1 e hi _ => he i x H1 e hi
def sp_is_whole (K : PySem.W.Frag) : Sp := fun vs H Q _ => ∃ (v : V) (d : PyData), vs = [v] ∧ It K H v d ∧ RetV (.bl (isI d)) H Q
theorem sv_whole {K : PySem.W.Frag} {H : Hp} {x : Int} : SpV (sp_is_whole K) ([.int x] ++ []) H (.bl true) := fun H1 _ Q q E => ⟨.int x, .int x, rfl, .int x, q⟩
theorem sv_wholeD {K : PySem.W.Frag} {H : Hp} {v : V} {d : PyData} (h : It K H v d) : SpV (sp_is_whole K) ([v] ++ []) H (.bl (isI d)) := fun H1 e Q q E => ⟨v, d, rfl, h.ex e, q⟩
local macro_rules | `(tactic| walk_at "call") => `(tactic| (with_reducible exact sv_whole))
def sp_ord (v : V) : Sp := fun vs H Q _ => ∃ (a : Addr) (h : List Nat), vs = [.ref a] ∧ H a = some (.lst (nv h)) ∧ Ord h ∧ RetV v H Q
theorem sv_ord {H : Hp} {v : V} {a : Addr} {h : List Nat} (ha : H a = some (.lst (nv h))) (o : Ord h) : SpV (sp_ord v) ([.ref a] ++ []) H v := fun H1 e Q q E => ⟨a, h, rfl, e a _ ha, o, q⟩
section
variable {P : Program} {w : World} {K : PySem.W.Frag} {mg : Str → Option Value} {base : Heap}
theorem ok_is_whole (T : Tx K mg) : FnOk P w K mg base CX0 1 T.f_is_whole T.d_is_whole ["thing"] (sp_is_whole K) := by
  refine T.F_is_whole.ok sc_is_whole (fun vs H Q E h => ?_) (fun cdv A outer s H vs Q E hr h => ?_)
  · obtain ⟨v, d, rfl, _⟩ := h
    rfl
  · obtain ⟨v, d, rfl, hv, k⟩ := h
    refine ⟨_, (pss_one (ps_ret (pe_cmpR op_eqTy (pe_typeOf (by rfl) T.m_type (pv 0)) (pe_bltn (v := .ty "int") (by rfl) T.m_int (by decide +kernel) rfl) (nomark _)))), ?_⟩
    exact s_ret (ev_isWhole (ev_var rfl) hv) fun H1 e1 => k _ e1
theorem range_iz (n : Nat) : rgV 0 (n : Int) = nv (List.range n) := by
  rw [nv_eq]
  unfold rgV
  simp
/-- the ints of data -/
def intsOf (ds : List PyData) : List Int := ds.map fun
  | .int i => i
  | _ => 0
def sortI (ns : List Int) : List Int := ns.mergeSort fun a b => decide (a ≤ b)
theorem sortI_perm (ns : List Int) : (sortI ns).Perm ns := List.mergeSort_perm ns _
theorem sortI_sorted (ns : List Int) : (sortI ns).Pairwise (· ≤ ·) := by
  have := List.pairwise_mergeSort (le := fun a b : Int => decide (a ≤ b)) (fun a b c h1 h2 => by
    have h1 := of_decide_eq_true h1
    have h2 := of_decide_eq_true h2
    exact decide_eq_true (by omega)) (fun a b => by
    rw [Bool.or_eq_true, decide_eq_true_iff, decide_eq_true_iff]
    omega) ns
  exact this.imp fun h => of_decide_eq_true h
theorem ints_of {K : PySem.W.Frag} {H : Hp} : ∀ {xs : List V} {ds : List PyData}, ItAll K H xs ds → ds.all isI = true → xs = (intsOf ds).map V.int
  | _, _, .nil, _ => rfl
  | _, _, .cons h t, ha => by
    rw [List.all_cons, Bool.and_eq_true] at ha
    have := ints_of t ha.2
    cases h with
    | int i =>
      rw [this]
      rfl
    | non => exact Bool.noConfusion ha.1
    | bl b => exact Bool.noConfusion ha.1
    | str x => exact Bool.noConfusion ha.1
    | lst _ _ => exact Bool.noConfusion ha.1
theorem ita_get {K : PySem.W.Frag} {H : Hp} : ∀ {xs : List V} {ds : List PyData} {i : Nat} {x : V}, ItAll K H xs ds → xs[i]? = some x → ∃ d, ds[i]? = some d ∧ It K H x d
  | _, _, 0, x, .cons h t, e => ⟨_, rfl, (Option.some.inj (show some _ = some x from e)) ▸ h⟩
  | _, _, i + 1, x, .cons h t, e => ita_get (i := i) t e
  | _, _, 0, x, .nil, e => by simp at e
  | _, _, i + 1, x, .nil, e => by simp at e
def lenOk (n : Nat) : Bool := decide ((1 : Int) ≤ (n : Int)) && decide ((n : Int) ≤ 20)
def sorts (ds : List PyData) : Bool := PyData.eqv (.list ((sortI (intsOf ds)).map PyData.int)) (.list ((iz (List.range ds.length)).map PyData.int))
/-- whether a thing is a list with 0, 1, .. once each -/
def judge : Option (List PyData) → Bool
  | none => false
  | some ds => lenOk ds.length && (ds.all isI && sorts ds)
def sp_any (K : PySem.W.Frag) : Sp := fun vs H Q _ => ∃ (v : V) (o : Option (List PyData)), vs = [v] ∧ Th K H v o ∧ RetV (.bl (judge o)) H Q
def sp_is_order (K : PySem.W.Frag) : Sp := fun vs H Q E => sp_ord (.bl true) vs H Q E ∨ sp_any K vs H Q E
theorem sv_order {K : PySem.W.Frag} {H : Hp} {a : Addr} {h : List Nat} (ha : H a = some (.lst (nv h))) (o : Ord h) : SpV (sp_is_order K) ([.ref a] ++ []) H (.bl true) := fun H1 e Q q E => .inl (sv_ord ha o H1 e Q q E)
theorem sv_any {K : PySem.W.Frag} {H : Hp} {v : V} {o : Option (List PyData)} (hv : Th K H v o) : SpV (sp_is_order K) ([v] ++ []) H (.bl (judge o)) := fun H1 e Q q E => .inr ⟨v, o, rfl, hv.ex e, q⟩
theorem judge_ord {h : List Nat} (o : Ord h) : judge (some ((iz h).map PyData.int)) = true := by
  have e : intsOf ((iz h).map PyData.int) = iz h := by
    unfold intsOf
    rw [List.map_map]
    exact List.map_id _
  have el : ((iz h).map PyData.int).length = h.length := by simp [iz]
  have s : sortI (iz h) = iz (List.range h.length) := List.Perm.eq_of_pairwise (le := fun a b : Int => a ≤ b) (fun a b _ _ h1 h2 => by omega) (sortI_sorted _) (by
    unfold iz
    rw [List.pairwise_map]
    exact List.Pairwise.imp (fun {a b} h => by omega) List.pairwise_lt_range) ((sortI_perm _).trans (o.1.map (fun x : Nat => (x : Int))))
  unfold judge sorts lenOk
  simp only
  rw [e, el, s, eqv_same (shaped_ints _)]
  have hl := o.2
  have : ((iz h).map PyData.int).all isI = true := by
    rw [List.all_map, List.all_eq_true]
    intro x _
    rfl
  rw [this]
  simp
  omega
theorem Ord.th {K : PySem.W.Frag} {H : Hp} {a : Addr} {h : List Nat} (ha : H a = some (.lst (nv h))) : Th K H (.ref a) (some ((iz h).map PyData.int)) := .lst ha (ita_ints _) (fine_ints _)
theorem ok_is_order (T : Tx K mg) : FnOk P w K mg base CX0 2 T.f_is_order T.d_is_order ["thing"] (sp_is_order K) := by
  refine FnOk.imp (sp := sp_any K) ?_ (fun vs H Q E h => ?_)
  · refine T.F_is_order.ok sc_is_order (fun vs H Q E h => ?_) (fun cdv A outer s H vs Q E hr h => ?_)
    · obtain ⟨v, o, rfl, _⟩ := h
      rfl
    · obtain ⟨v, o, rfl, hv, k⟩ := h
      refine ⟨_, (pss_cons (ps_if (PW.pt (pw_or (pt_cmpR (op_neTyG (hu_of hr)) (pe_typeOf2 (by rfl) T.m_type (pv 0)) (pe_bltn (v := .ty "list") (by rfl) T.m_list (by decide +kernel) rfl) (nomark _)) (pw_or1 (pt_not (pt_chain op_le op_le pe_int (pe_callB call_lenR (by rfl) T.m_len (by decide +kernel) (pa_cons (pv 0) pa_nil)) (pe_gc (by rfl) T.c_MOST_GUESTS)))))) (pss_one (ps_ret pe_bl)) pss_nil)
      (pss_cons (ps_if (pt_not (pt_val (pe_callB (cr_all rfl) (by rfl) T.m_all (by decide +kernel) (pa_cons (pe_lc (own := [("item", 1)]) (g := (gName 1)) (tt := tYes) rfl sc_is_order.nd (pi_list (pv 0)) (blkOk_by (own := [("item", 1)]) (N := n_is_order) (sc := defScope s_is_order) (by decide +kernel)) (fun _ _ _ _ _ => (pg_name (i := 1) sc_is_order.nd rfl (Or.inl rfl))) (fun _ _ _ _ _ => pts_nil) (fun _ _ _ _ _ => (pe_call (ok_is_whole T) (hr.mono (by decide)) (by rfl) T.g_is_whole T.F_is_whole.kp T.b_is_whole .nil pass0 (pa_cons (pv 1) pa_nil)))) pa_nil)))) (pss_one (ps_ret pe_bl)) pss_nil)
      (pss_one (ps_ret (pe_cmpR (op_eqD hr.units) (pe_callB cr_sorted (by rfl) T.m_sorted (by decide +kernel) (pa_cons (pv 0) pa_nil)) (pe_listRg rfl (by rfl) T.m_list (prg_1 (by rfl) T.m_range (pe_callB call_lenR (by rfl) T.m_len (by decide +kernel) (pa_cons (pv 0) pa_nil)))) (nomark _)))))), ?_⟩
      cases o with
      | none =>
        refine q_when (b := true) (et_is (et_or (b := false) (et_test (ev_noList (ev_var rfl) hv)) fun z => Bool.noConfusion z) rfl) (fun _ H1 e1 => ?_) fun hb => Bool.noConfusion hb
        exact s_ret ev_c fun H2 e2 => k _ (e1.trans e2)
      | some ds =>
        have hv0 := hv
        cases hv with
        | @lst a xs _ ha hd hf =>
          have hl : xs.length = ds.length := hd.len
          refine q_when (b := !lenOk ds.length) (et_is (et_or (et_test (ev_noList (ev_var rfl) hv0)) fun _ => et_not (et_test (ev_chainI ev_c (ev_len (ev_var rfl) (sq_of ha)) ev_c))) (by rw [hl]; rfl)) (fun hb H1 e1 => ?_) fun hb H1 e1 => ?_
          · have hb : lenOk ds.length = false := by simpa using hb
            have ej : judge (some ds) = false := by
              unfold judge
              simp only
              rw [hb]
              rfl
            rw [ej] at k
            exact s_ret ev_c fun H2 e2 => k _ (e1.trans e2)
          · have hb : lenOk ds.length = true := by simpa using hb
            have hn : 1 ≤ ds.length ∧ ds.length ≤ 20 := by
              unfold lenOk at hb
              simp at hb
              omega
            have h1 := e1 a _ ha
            refine q_when (b := !(ds.all isI)) (et_is (et_not (et_B (ev_allN (bs := ds.map isI) ?_))) (by rw [List.all_map]; rfl)) (fun hb2 H2 e2 => ?_) fun hb2 H2 e2 => ?_
            · have g := el_mapI (K := K) (te := tCall (sp_is_whole K) [] E0 (tCons (tVar 1) tNil)) (j := 1) (vs := [1]) (σ := start n_is_order [.ref a]) (H := H1) (fun i => V.bl (isI (ds.getD i .none))) (ev_var (i := 0) rfl) (sq_of h1) (by omega) (fun _ => rfl) fun i x H2 e2 hx => ?_
              · have e : (List.range xs.length).map (fun i => V.bl (isI (ds.getD i .none))) = (ds.map isI).map V.bl := by
                  rw [hl]
                  conv => rhs; rw [range_get ds .none]
                  rw [List.map_map, List.map_map]
                  rfl
                rw [e] at g
                exact g
              · obtain ⟨d, hd1, hd2⟩ := ita_get hd hx
                have gd : ds.getD i .none = d := by rw [List.getD_eq_getElem?_getD, hd1] <;> rfl
                show Ev _ _ _ (V.bl (isI (ds.getD i .none)))
                rw [gd]
                exact ev_call (ea_cons (ev_var rfl) ea_nil) (sv_wholeD (hd2.ex (e1.trans e2)))
            · have hb2 : ds.all isI = false := by simpa using hb2
              have ej : judge (some ds) = false := by
                unfold judge
                simp only
                rw [hb2, Bool.false_and, Bool.and_false]
              rw [ej] at k
              exact s_ret ev_c fun H3 e3 => k _ (e1.trans (e2.trans e3))
            · have hb2 : ds.all isI = true := by simpa using hb2
              have ex := ints_of hd hb2
              have il : (intsOf ds).length = ds.length := by simp [intsOf]
              have h2 := e2 a _ h1
              have sr : EvD K (tCB (rSorted K) (tCons (tVar 0) tNil)) (start n_is_order [.ref a]) H2 (.list ((sortI (intsOf ds)).map PyData.int)) :=
                ed_sorted (ns := intsOf ds) (ev_var rfl) (sq_of (by rw [← ex]; exact h2)) (by omega) (sortI_perm _) (sortI_sorted _)
              have rg : EvD K (tLstRg (tRg1 (tCB (rLenS K) (tCons (tVar 0) tNil)))) (start n_is_order [.ref a]) H2 (.list ((iz (List.range ds.length)).map PyData.int)) :=
                ed_ofL (xs := nv (List.range ds.length)) (by
                  have g := el_rg1 (σ := start n_is_order [.ref a]) (ev_len (K := K) (ta := tVar 0) (ev_var (i := 0) (v := .ref a) rfl) (sq_of h2)) (RgOk.of_le (by decide) (by omega) (by decide) (by omega))
                  rw [hl, range_iz] at g
                  exact g) (dpa_ints _)
              have ej : judge (some ds) = sorts ds := by
                unfold judge
                simp only
                rw [hb, hb2, Bool.true_and, Bool.true_and]
              rw [ej] at k
              exact s_ret (ev_eqD sr rg (shaped_ints _) (shaped_ints _)) fun H3 e3 => k _ (e1.trans (e2.trans e3))
  · rcases h with ⟨a, g, rfl, ha, o, k⟩ | h
    · refine ⟨.ref a, _, rfl, Ord.th ha, ?_⟩
      rw [judge_ord o]
      exact k
    · exact h
local macro_rules | `(tactic| walk_at "call") => `(tactic| ((with_reducible refine' sv_order ?c1 ?c2); (case c1 => assumption); (case c2 => assumption)))
theorem ok_is_seating (T : Tx K mg) : FnOk P w K mg base CX0 3 T.f_is_seating T.d_is_seating ["thing"] (sp_is_order K) := by
  refine T.F_is_seating.ok sc_is_seating (fun vs H Q E h => ?_) (fun cdv A outer s H vs Q E hr h => ?_)
  · rcases h with ⟨a, g, rfl, _⟩ | ⟨v, o, rfl, _⟩
    · rfl
    · rfl
  · rcases h with ⟨a, g, rfl, ha, o, k⟩ | ⟨v, o, rfl, hv, k⟩
    · refine ⟨_, (pss_one (ps_ret (pe_call (ok_is_order T) (hr.mono (by decide)) (by rfl) T.g_is_order T.F_is_order.kp T.b_is_order .nil pass0 (pa_cons (pv 0) pa_nil)))), ?_⟩
      exact s_ret (by walk_at "ev") fun H1 e1 => k _ e1
    · refine ⟨_, (pss_one (ps_ret (pe_call (ok_is_order T) (hr.mono (by decide)) (by rfl) T.g_is_order T.F_is_order.kp T.b_is_order .nil pass0 (pa_cons (pv 0) pa_nil)))), ?_⟩
      exact s_ret (ev_call (ea_cons (ev_var rfl) ea_nil) (sv_any hv)) fun H1 e1 => k _ e1
theorem ok_check_seating (T : Tx K mg) : FnOk P w K mg base CX0 4 T.f_check_seating T.d_check_seating ["seating"] (sp_ord .non) := by
  refine T.F_check_seating.ok sc_check_seating (fun vs H Q E h => ?_) (fun cdv A outer s H vs Q E hr h => ?_)
  · obtain ⟨a, h, rfl, _⟩ := h
    rfl
  · obtain ⟨a, h, rfl, ha, o, k⟩ := h
    refine ⟨_, (pss_one (ps_if (pt_not (pt_val (pe_call (ok_is_seating T) (hr.mono (by decide)) (by rfl) T.g_is_seating T.F_is_seating.kp T.b_is_seating .nil pass0 (pa_cons (pv 0) pa_nil)))) (pss_one ps_never) pss_nil)), ?_⟩
    exact s_when (b := false) (et_is (by walk_at "et") (by rfl)) (fun hb => Bool.noConfusion hb) fun _ H1 e1 => k _ e1
end
local macro_rules | `(tactic| walk_at "call") => `(tactic| (with_reducible exact sv_whole))
local macro_rules | `(tactic| walk_at "call") => `(tactic| ((with_reducible refine' sv_order ?c1 ?c2); (case c1 => assumption); (case c2 => assumption)))
local macro_rules | `(tactic| walk_at "call") => `(tactic| ((with_reducible refine' sv_ord ?c1 ?c2); (case c1 => assumption); (case c2 => assumption)))


local macro_rules | `(tactic| walk_at "call") => `(tactic| (with_reducible exact sv_whole))
local macro_rules | `(tactic| walk_at "call") => `(tactic| ((with_reducible refine' sv_order ?c1 ?c2); (case c1 => assumption); (case c2 => assumption)))
local macro_rules | `(tactic| walk_at "call") => `(tactic| ((with_reducible refine' sv_ord ?c1 ?c2); (case c1 => assumption); (case c2 => assumption)))

/-! ### rings: the mathematics -/
/-- r is a whole table of the seating h, from its first guest on to the left -/
structure Rg (h r : List Nat) : Prop where
  ne : 0 < r.length
  nd : r.Nodup
  st : ∀ i, i < r.length → ∃ x y, r[i]? = some x ∧ r[(i + 1) % r.length]? = some y ∧ h[x]? = some y
def rot (r : List Nat) (k : Nat) : List Nat := r.drop k ++ r.take k
theorem rot_len {r : List Nat} {k : Nat} (hk : k ≤ r.length) : (rot r k).length = r.length := by
  unfold rot
  rw [List.length_append, List.length_drop, List.length_take]
  omega
theorem rot_get {r : List Nat} {k i : Nat} (hk : k < r.length) (hi : i < r.length) : (rot r k)[i]? = r[(i + k) % r.length]? := by
  unfold rot
  by_cases h : i < r.length - k
  · rw [List.getElem?_append_left (by rw [List.length_drop]; exact h), List.getElem?_drop, Nat.mod_eq_of_lt (by omega), Nat.add_comm]
  · rw [List.getElem?_append_right (by rw [List.length_drop]; omega), List.length_drop, List.getElem?_take_of_lt (by omega)]
    have e : (i + k) % r.length = i - (r.length - k) := by
      rw [Nat.mod_eq_sub_mod (by omega), Nat.mod_eq_of_lt (by omega)]
      omega
    rw [e]
theorem rot_perm (r : List Nat) (k : Nat) : (rot r k).Perm r := by
  unfold rot
  exact List.perm_append_comm.trans (List.Perm.of_eq (List.take_append_drop k r))
theorem Rg.rot {h r : List Nat} (R : Rg h r) {k : Nat} (hk : k < r.length) : Rg h (rot r k) := by
  have hl := rot_len (r := r) (k := k) (by omega)
  refine ⟨by have := R.ne; omega, (rot_perm r k).nodup_iff.mpr R.nd, fun i hi => ?_⟩
  rw [hl] at hi ⊢
  obtain ⟨x, y, h1, h2, h3⟩ := R.st ((i + k) % r.length) (Nat.mod_lt _ R.ne)
  refine ⟨x, y, by rw [rot_get hk hi]; exact h1, ?_, h3⟩
  rw [rot_get hk (Nat.mod_lt _ R.ne), ← h2, Nat.mod_add_mod, Nat.mod_add_mod]
  congr 2
  omega
structure Rings (h : List Nat) (rs : List (List Nat)) : Prop where
  rg : ∀ r ∈ rs, Rg h r
  low : ∀ r ∈ rs, ∀ x ∈ r, r.headD 0 ≤ x
  asc : (rs.map (·.headD 0)).Pairwise (· < ·)
  all : rs.flatten.Perm (List.range h.length)
def leads (r : List Nat) : Bool := decide (∀ x ∈ r, r.headD 0 ≤ x)
theorem Rings.turn {h : List Nat} {rs : List (List Nat)} (R : Rings h rs) {g : Nat} (hg : g < h.length) : ∃ w : List Nat, (∃ r ∈ rs, ∃ k, r[k]? = some g ∧ w = rot r k) := by
  have hm : g ∈ rs.flatten := R.all.mem_iff.mpr (List.mem_range.mpr hg)
  obtain ⟨r, hr, hgr⟩ := List.mem_flatten.mp hm
  obtain ⟨k, hk⟩ := List.mem_iff_getElem?.mp hgr
  exact ⟨rot r k, r, hr, k, hk, rfl⟩
theorem Rings.walks {h : List Nat} {rs : List (List Nat)} (R : Rings h rs) : ∃ f : Nat → List Nat, ∀ g, g < h.length → ∃ r ∈ rs, ∃ k, r[k]? = some g ∧ f g = rot r k :=
  ⟨fun g => if hg : g < h.length then Classical.choose (R.turn hg) else [], fun g hg => by
    have := Classical.choose_spec (R.turn hg)
    simp only [dif_pos hg]
    exact this⟩
theorem head_rot {r : List Nat} {k g : Nat} (hk : r[k]? = some g) : (rot r k).headD 0 = g := by
  obtain ⟨hl, e⟩ := List.getElem?_eq_some_iff.mp hk
  unfold rot
  rw [List.drop_eq_getElem_cons hl]
  exact e
theorem leads_rot {r : List Nat} {k g : Nat} (hk : r[k]? = some g) (lo : ∀ x ∈ r, r.headD 0 ≤ x) (ne : 0 < r.length) : leads (rot r k) = decide (g = r.headD 0) := by
  unfold leads
  rw [head_rot hk]
  have hmem : ∀ x, x ∈ rot r k ↔ x ∈ r := fun x => (rot_perm r k).mem_iff
  have h0 : r.headD 0 ∈ r := by
    cases r with
    | nil => simp at ne
    | cons a l => simp
  have hg : g ∈ r := List.mem_of_getElem? hk
  apply decide_eq_decide.mpr
  constructor
  · intro a
    have := a _ ((hmem _).mpr h0)
    have := lo g hg
    omega
  · intro a x hx
    rw [a]
    exact lo x ((hmem x).mp hx)
theorem rot_zero (r : List Nat) : rot r 0 = r := by
  unfold rot
  simp
theorem nodup_flat {rs : List (List Nat)} (h : rs.flatten.Nodup) {r r' : List Nat} {x : Nat} (hr : r ∈ rs) (hr' : r' ∈ rs) (hx : x ∈ r) (hx' : x ∈ r') : r = r' := by
  induction rs with
  | nil => cases hr
  | cons a l ih =>
    rw [List.flatten_cons, List.nodup_append] at h
    obtain ⟨h1, h2, h3⟩ := h
    rcases List.mem_cons.mp hr with e | q
    · rcases List.mem_cons.mp hr' with e' | q'
      · rw [e, e']
      · exact absurd rfl (h3 x (e ▸ hx) x (List.mem_flatten.mpr ⟨r', q', hx'⟩))
    · rcases List.mem_cons.mp hr' with e' | q'
      · exact absurd rfl (h3 x (e' ▸ hx') x (List.mem_flatten.mpr ⟨r, q, hx⟩))
      · exact ih h2 q q'
theorem Rings.nodup {h : List Nat} {rs : List (List Nat)} (R : Rings h rs) : rs.flatten.Nodup := R.all.nodup_iff.mpr List.nodup_range
/-- the walks that begin with their least guest are the rings -/
theorem Rings.lead {h : List Nat} {rs : List (List Nat)} (R : Rings h rs) {f : Nat → List Nat} (hf : ∀ g, g < h.length → ∃ r ∈ rs, ∃ k, r[k]? = some g ∧ f g = rot r k) : ((List.range h.length).map f).filter leads = rs := by
  rw [List.filter_map]
  have hd : ∀ g, g < h.length → leads (f g) = decide (g ∈ rs.map (·.headD 0)) := fun g hg => by
    obtain ⟨r, hr, k, hk, e⟩ := hf g hg
    rw [e, leads_rot hk (R.low r hr) (R.rg r hr).ne]
    apply decide_eq_decide.mpr
    constructor
    · intro a
      exact List.mem_map.mpr ⟨r, hr, a.symm⟩
    · intro a
      obtain ⟨r', hr', e'⟩ := List.mem_map.mp a
      have h0 : g ∈ r' := by
        have := (R.rg r' hr').ne
        cases r' with
        | nil => simp at this
        | cons b l => simp at e'; simp [e']
      have := nodup_flat R.nodup hr hr' (List.mem_of_getElem? hk) h0
      rw [this]
      exact e'.symm
  have hs : (List.range h.length).filter (leads ∘ f) = rs.map (·.headD 0) := by
    have e : (List.range h.length).filter (leads ∘ f) = (List.range h.length).filter (fun g => decide (g ∈ rs.map (·.headD 0))) := List.filter_congr fun g hg => hd g (List.mem_range.mp hg)
    rw [e]
    refine List.Perm.eq_of_pairwise (le := fun a b : Nat => a < b) (fun a b _ _ h1 h2 => by omega) (List.Pairwise.filter _ List.pairwise_lt_range) R.asc ?_
    refine (List.perm_ext_iff_of_nodup (List.Pairwise.filter _ List.nodup_range) (R.asc.imp fun h => Nat.ne_of_lt h)).mpr fun g => ?_
    rw [List.mem_filter]
    constructor
    · intro a
      exact of_decide_eq_true a.2
    · intro a
      refine ⟨?_, decide_eq_true a⟩
      obtain ⟨r', hr', e'⟩ := List.mem_map.mp a
      refine R.all.mem_iff.mp (List.mem_flatten.mpr ⟨r', hr', ?_⟩)
      have := (R.rg r' hr').ne
      cases r' with
      | nil => simp at this
      | cons b l => simp at e'; simp [e']
  rw [hs, List.map_map]
  refine (List.map_congr_left fun r hr => ?_).trans (List.map_id _)
  have ne := (R.rg r hr).ne
  have hm : r.headD 0 < h.length := List.mem_range.mp (R.all.mem_iff.mp (List.mem_flatten.mpr ⟨r, hr, by
    cases r with
    | nil => simp at ne
    | cons b l => simp⟩))
  obtain ⟨r', hr', k, hk, e⟩ := hf (r.headD 0) hm
  have e2 := nodup_flat R.nodup hr' hr (List.mem_of_getElem? hk) (by
    cases r with
    | nil => simp at ne
    | cons b l => simp)
  subst e2
  have k0 : k = 0 := by
    have h0 : r'[0]? = some (r'.headD 0) := by
      cases r' with
      | nil => simp at ne
      | cons b l => simp
    exact nd_ix (R.rg r' hr').nd hk h0
  show f (r'.headD 0) = r'
  rw [e, k0, rot_zero]

/-! ### walk_left, tables_of -/
def sp_walk_left : Sp := fun vs H Q _ => ∃ (a : Addr) (h r : List Nat) (g : Nat), vs = [.ref a, .int g] ∧ H a = some (.lst (nv h)) ∧ Rg h r ∧ r[0]? = some g ∧ r.length ≤ 20 ∧ RetU (nv r) H Q
theorem su_walk {H : Hp} {a : Addr} {h r : List Nat} {g : Nat} (ha : H a = some (.lst (nv h))) (R : Rg h r) (h0 : r[0]? = some g) (hl : r.length ≤ 20) : SpU sp_walk_left ([.ref a, .int (g : Int)] ++ []) H (nv r) := fun H1 e Q q E => ⟨a, h, r, g, rfl, e a _ ha, R, h0, hl, q⟩
theorem take_next {α : Type} {l : List α} {i : Nat} {x : α} (h : l[i]? = some x) : l.take (i + 1) = l.take i ++ [x] := by
  rw [List.take_add_one, h]
  rfl
section
variable {P : Program} {w : World} {K : PySem.W.Frag} {mg : Str → Option Value} {base : Heap}
theorem ok_walk_left (T : Tx K mg) : FnOk P w K mg base CX0 1 T.f_walk_left T.d_walk_left ["lefts", "guest"] sp_walk_left := by
  refine T.F_walk_left.ok sc_walk_left (fun vs H Q E h => ?_) (fun cdv A outer s H vs Q E hr h => ?_)
  · obtain ⟨a, h, r, g, rfl, _⟩ := h
    rfl
  · obtain ⟨a, h, r, g, rfl, ha, R, h0, hl, k⟩ := h
    refine ⟨_, (pss_cons (ps_set (i := 2) sc_walk_left.nd rfl (Or.inl rfl) (pe_lst (pa_cons (pv 1) pa_nil)))
      (pss_cons (ps_while PassesOwn.never (pt_cmpR op_ne (pe_ix ix_list (pv 0) (pe_ix ix_list (pv 2) (pe_un un_neg pe_int) (fun _ _ => rfl)) (fun _ _ => rfl)) (pv 1) (nomark _)) (pss_one (ps_expr (pe_bm PySem.F.plainAttrs_list PySem.F.slot_list_append PySem.F.type_list_append mt_append (pv 2) (pa_cons (pe_ix ix_list (pv 0) (pe_ix ix_list (pv 2) (pe_un un_neg pe_int) (fun _ _ => rfl)) (fun _ _ => rfl)) pa_nil)))))
      (pss_one (ps_ret (pe_callTy call_tupR (by rfl) T.m_tuple (by decide +kernel) (pa_cons (pv 2) pa_nil)))))), ?_⟩
    refine q_asgL (by walk_at "el") fun p H1 hp e1 h1 => ?_
    refine q_while (fun m σ' H' => ∃ i, σ' = [some (.ref a), some (.int g), some (.ref p)] ∧ i < r.length ∧ Ex H H' ∧ H' p = some (.lst (nv (r.take (i + 1)))) ∧ m = r.length - i) r.length ⟨0, rfl, R.ne, e1, ?_, by omega⟩ ?_
    · rw [h1, take_next h0]
      rfl
    · rintro m σ' H' ⟨i, rfl, hi, e, hl', rfl⟩
      obtain ⟨x, y, hx, hy, hxy⟩ := R.st i hi
      have hlast : atI (nv (r.take (i + 1))) (-1) = some (.int (x : Int)) := by
        rw [take_next hx, nv_app]
        exact atI_last _ _
      have hax := e a _ ha
      have evx : ∀ H2, Ex H' H2 → Ev (tOp (rIxL K) (tVar 0) (tOp (rIxL K) (tVar 2) (tUn (rU fun i => .int (-i)) (tC (.int 1))))) [some (.ref a), some (.int g), some (.ref p)] H2 (.int (y : Int)) := fun H2 e2 =>
        ev_op (ev_var rfl) (ev_op (ev_var rfl) (ev_un ev_c ru_neg) (rv_ixL (sq_of (e2 p _ hl')) hlast)) (rv_ixL (sq_of (e2 a _ hax)) (atI_nat (nv_get hxy)))
      refine ⟨decide (i + 1 < r.length), et_is (et_test (ev_op (evx H' (Ex.refl _)) (ev_var rfl) (rv_ne rfl))) ?_, fun hb H2 e2 => ?_, fun hb H2 e2 => ?_⟩
      · rw [dec_int]
        by_cases hn : i + 1 < r.length
        · rw [Nat.mod_eq_of_lt hn] at hy
          have ne : y ≠ g := fun z => by
            subst z
            have := nd_ix R.nd hy h0
            omega
          have : ((y : Int) == (g : Int)) = false := by
            rw [beq_eq_false_iff_ne]
            omega
          rw [this]
          simp [hn]
        · have e0 : i + 1 = r.length := by omega
          rw [e0, Nat.mod_self, h0] at hy
          have : y = g := (Option.some.inj hy).symm
          subst this
          simp [hn]
      · have hn := of_decide_eq_true hb
        rw [Nat.mod_eq_of_lt hn] at hy
        have hl2 := e2 p _ hl'
        refine ⟨fun σ2 H3 => σ2 = [some (.ref a), some (.int g), some (.ref p)] ∧ Ex H H3 ∧ H3 p = some (.lst (nv (r.take (i + 1 + 1)))), fun σ2 H3 ⟨h1, h2, h3⟩ => ⟨r.length - (i + 1), by omega, i + 1, h1, hn, h2, h3, rfl⟩, ?_⟩
        refine s_app hl2 (ev_var rfl) (evx H2 e2) (by rw [nv_len, List.length_take]; omega) fun H3 e3 => ⟨rfl, Ex.mut (e.trans (e2.trans e3)) hp, ?_⟩
        rw [upd_same, take_next hy, nv_app]
        rfl
      · have hn := of_decide_eq_false hb
        have ht : r.take (i + 1) = r := List.take_of_length_le (by omega)
        rw [ht] at hl'
        exact s_retU (eu_tupOf (ev_var rfl) (sq_of (e2 p _ hl'))) fun q H3 hq e3 h3 => k q H3 (fresh_back (e.trans e2) hq) (e.trans (e2.trans e3)) h3
def sp_tables_of : Sp := fun vs H Q _ => ∃ (a : Addr) (h : List Nat) (rs : List (List Nat)), vs = [.ref a] ∧ H a = some (.lst (nv h)) ∧ Ord h ∧ Rings h rs ∧ (∀ p ws H2, H p = none → Ex H H2 → H2 p = some (.lst ws) → TL H2 ws (rs.map nv) → Q (.ref p) H2)
theorem Rings.short {h : List Nat} {rs : List (List Nat)} (R : Rings h rs) {r : List Nat} (hr : r ∈ rs) : r.length ≤ h.length := by
  have := List.Sublist.length_le (List.sublist_flatten_of_mem hr)
  rw [R.all.length_eq, List.length_range] at this
  exact this
theorem lead_val {r : List Nat} (ne : 0 < r.length) : ∃ (x : Nat) (l : List Int), iz r = (x : Int) :: l ∧ r[0]? = some x ∧ decide (V.int (x : Int) = V.int (l.foldl min (x : Int))) = leads r := by
  cases r with
  | nil => simp at ne
  | cons x l =>
    refine ⟨x, iz l, rfl, rfl, ?_⟩
    obtain ⟨h1, h2⟩ := foldl_min_spec (iz l) (x : Int)
    rw [dec_int]
    unfold leads
    rw [Bool.eq_iff_iff]
    simp only [beq_iff_eq, decide_eq_true_eq]
    constructor
    · intro e y hy
      show x ≤ y
      have := h2 (y : Int) (by
        rcases List.mem_cons.mp hy with q | q
        · rw [q]; simp
        · exact List.mem_cons_of_mem _ (List.mem_map.mpr ⟨y, q, rfl⟩))
      omega
    · intro hle
      have a := h2 (x : Int) (by simp)
      have b : ∀ z ∈ (x : Int) :: iz l, (x : Int) ≤ z := fun z hz => by
        rcases List.mem_cons.mp hz with q | q
        · omega
        · obtain ⟨y, hy, rfl⟩ := List.mem_map.mp q
          have : x ≤ y := hle y (by simp [hy])
          omega
      have := b _ h1
      omega
/-- tables_among: of all guests of a seating -/
def sp_tables_among : Sp := fun vs H Q _ => ∃ (a b : Addr) (h : List Nat) (rs : List (List Nat)), vs = [.ref a, .ref b] ∧ H a = some (.lst (nv h)) ∧ H b = some (.lst (nv (List.range h.length))) ∧ Ord h ∧ Rings h rs ∧ (∀ p ws H2, H p = none → Ex H H2 → H2 p = some (.lst ws) → TL H2 ws (rs.map nv) → Q (.ref p) H2)
theorem ok_tables_among (T : Tx K mg) : FnOk P w K mg base CX0 2 T.f_tables_among T.d_tables_among ["lefts", "guests"] sp_tables_among := by
  refine T.F_tables_among.ok sc_tables_among (fun vs H Q E h => ?_) (fun cdv A outer s H vs Q E hr h => ?_)
  · obtain ⟨a, b, h, rs, rfl, _⟩ := h
    rfl
  · obtain ⟨a, b, h, rs, rfl, ha, hb0, o, R, k⟩ := h
    refine ⟨_, (pss_cons (ps_setLc (i := 3) (own := [("guest", 2)]) (g := (gName 2)) (tt := tYes) rfl sc_tables_among.nd rfl rfl (sw_true rfl rfl rfl (by decide +kernel)) (pi_list (pv 1)) (blkOk_by (own := [("guest", 2)]) (N := n_tables_among) (sc := defScope s_tables_among) (by decide +kernel)) (fun _ _ _ _ _ => (pg_name (i := 2) sc_tables_among.nd rfl (Or.inl rfl))) (fun _ _ _ _ _ => pts_nil) (fun _ _ _ _ _ => (pe_call (ok_walk_left T) (hr.mono (by decide)) (by rfl) T.g_walk_left T.F_walk_left.kp T.b_walk_left .nil pass0 (pa_cons (pv 0) (pa_cons (pv 2) pa_nil)))))
      (pss_one (ps_ret (pe_lc (own := [("walk", 4)]) (g := (gName 4)) rfl sc_tables_among.nd (pi_list (pv 3)) (blkOk_by (own := [("walk", 4)]) (N := n_tables_among) (sc := defScope s_tables_among) (by decide +kernel)) (fun _ _ _ _ _ => (pg_name (i := 4) sc_tables_among.nd rfl (Or.inl rfl))) (fun _ _ _ _ _ => (pts_one (pt_cmpR op_eq (pe_ix (r := rIxT K) ix_tup (pv 4) pe_int (fun _ _ => rfl)) (pe_callB (id := "min") (r := rMinT K) (cr_minT rfl (hu_of hr)) (by rfl) T.m_min (by decide +kernel) (pa_cons (pv 4) pa_nil)) (nomark _)))) (fun _ _ _ _ _ => (pv 4)))))), ?_⟩
    obtain ⟨f, hf⟩ := R.walks
    have ho := o.2
    have e1 := Ex.refl H
    have h1 := ha
    refine q_asgLT (rs := (List.range h.length).map fun g => nv (f g)) ?_ fun p ws H2 hp e2 h2 ht => ?_
    · have g := elt_map (K := K) (te := tCall sp_walk_left [] E0 (tCons (tVar 0) (tCons (tVar 2) tNil))) (tl := tVar 1) (σ := [some (.ref a), some (.ref b), none, none, none]) (H := H) (j := 2) (vs := [2]) (xs := nv (List.range h.length)) (fun g => nv (f g)) (ev_var rfl) (sq_of hb0) (by rw [nv_len, List.length_range]; omega) (fun _ => rfl) fun i x H2 e2 hi0 => ?_
      · rw [nv_len, List.length_range] at g
        exact g
      · have hi : i < h.length := by
          have := (List.getElem?_eq_some_iff.mp hi0).1
          rw [nv_len, List.length_range] at this
          exact this
        have hx : x = .int (i : Int) := by
          have := nv_get (xs := List.range h.length) (i := i) (x := i) (by rw [List.getElem?_range hi])
          rw [this] at hi0
          exact (Option.some.inj hi0).symm
        subst hx
        obtain ⟨r, hr, kk, hk, e⟩ := hf i (by omega)
        have hkl := (List.getElem?_eq_some_iff.mp hk).1
        have hrs := R.short hr
        refine eu_call (by walk_at "ea") ?_
        have := su_walk (a := a) (g := i) (e2 a _ h1) ((R.rg r hr).rot hkl) (by rw [rot_get hkl (R.rg r hr).ne, Nat.zero_add, Nat.mod_eq_of_lt hkl]; exact hk) (by rw [rot_len (by omega)]; omega)
        rw [← e] at this
        exact this
    · have hlen := ht.len
      simp at hlen
      refine s_retLT (rs := rs.map nv) ?_ fun q vs H3 hq e3 h3 ht3 => k q vs H3 (fresh_back (e1.trans e2) hq) (e1.trans (e2.trans e3)) h3 ht3
      have g := elt_filter (K := K) (σ := [some (.ref a), some (.ref b), none, some (.ref p), none]) (H := H2) (tl := tVar 3) (j := 4) (vs := [4]) (t := tTest (tOp rEq (tOp (rIxT K) (tVar 4) (tC (.int 0))) (tCB (rMinT K) (tCons (tVar 4) tNil)))) (xs := ws) (rs := (List.range h.length).map fun g => nv (f g))
        (fun r => leads (r.map fun v => match v with | .int z => z.toNat | _ => 0)) (ev_var rfl) (sq_of h2) ht (by omega) (fun _ => rfl) (fun _ => rfl) fun b r H3 e3 hr hb => ?_
      · have e : ((List.range h.length).map fun g => nv (f g)).filter (fun r => leads (r.map fun v => match v with | .int z => z.toNat | _ => 0)) = rs.map nv := by
          rw [show ((List.range h.length).map fun g => nv (f g)) = ((List.range h.length).map f).map nv by rw [List.map_map]; rfl, List.filter_map]
          congr 1
          have : ((fun r : List V => leads (r.map fun v => match v with | .int z => z.toNat | _ => 0)) ∘ nv) = leads := by
            funext r
            show leads ((nv r).map _) = leads r
            rw [nv_eq, List.map_map]
            congr 1
            refine (List.map_congr_left fun x _ => ?_).trans (List.map_id _)
            simp
          rw [this]
          exact R.lead hf
        rw [e] at g
        exact g
      · obtain ⟨g, hg, rfl⟩ := List.mem_map.mp hr
        obtain ⟨r, hr, kk, hk, e⟩ := hf g (List.mem_range.mp hg)
        have hkl := (List.getElem?_eq_some_iff.mp hk).1
        have ne : 0 < (f g).length := by rw [e, rot_len (by omega)]; exact (R.rg r hr).ne
        obtain ⟨x, l, i1, i2, i3⟩ := lead_val ne
        have e5 : leads ((nv (f g)).map fun v => match v with | .int z => z.toNat | _ => 0) = leads (f g) := by
          rw [nv_eq, List.map_map]
          congr 1
          refine (List.map_congr_left fun x _ => ?_).trans (List.map_id _)
          simp
        rw [e5, ← i3]
        have hb2 : SqT K H3 b (((x : Int) :: l).map V.int) := st_of (by rw [hb]; unfold nv; rw [i1])
        exact et_test (ev_op (ev_op (ev_var rfl) ev_c (rv_ixT (st_of hb) (atI_nat (j := 0) (nv_get i2)))) (ev_minT (ev_var rfl) hb2) (rv_eq rfl))
theorem elt_among {H : Hp} {a : Addr} {h : List Nat} {rs : List (List Nat)} {σ : L2.St} {ta tb : TE} {E : XK} (h1 : Ev ta σ H (.ref a)) (h2 : EvL tb σ H (nv (List.range h.length))) (ha : H a = some (.lst (nv h))) (o : Ord h) (R : Rings h rs) : EvLT (tCall sp_tables_among [] E (tCons ta (tCons tb tNil))) σ H (rs.map nv) := fun H1 e Q q => h1 H1 e _ fun H2 e2 => h2 H2 (e.trans e2) _ fun b H3 nb e3 hb => ⟨a, b, h, rs, rfl, (e.trans (e2.trans e3)) a _ ha, hb, o, R, fun p ws H4 hp e4 h4 t => q p ws H4 (fresh_back (e2.trans e3) hp) ((e2.trans e3).trans e4) h4 t⟩
theorem ok_tables_of (T : Tx K mg) : FnOk P w K mg base CX0 5 T.f_tables_of T.d_tables_of ["seating"] sp_tables_of := by
  refine T.F_tables_of.ok sc_tables_of (fun vs H Q E h => ?_) (fun cdv A outer s H vs Q E hr h => ?_)
  · obtain ⟨a, h, rs, rfl, _⟩ := h
    rfl
  · obtain ⟨a, h, rs, rfl, ha, o, R, k⟩ := h
    refine ⟨_, (pss_cons (ps_expr (pe_call (ok_check_seating T) (hr.mono (by decide)) (by rfl) T.g_check_seating T.F_check_seating.kp T.b_check_seating .nil pass0 (pa_cons (pv 0) pa_nil)))
      (pss_one (ps_ret (pe_call (ok_tables_among T) (hr.mono (by decide)) (by rfl) T.g_tables_among T.F_tables_among.kp T.b_tables_among .nil pass0 (pa_cons (pv 0) (pa_cons (pe_listRg rfl (by rfl) T.m_list (prg_1 (by rfl) T.m_range (pe_callB call_lenR (by rfl) T.m_len (by decide +kernel) (pa_cons (pv 0) pa_nil)))) pa_nil)))))), ?_⟩
    have ho := o.2
    refine q_drop (by walk_at "ev") fun H1 e1 => ?_
    have h1 := e1 a _ ha
    refine s_retLT (rs := rs.map nv) (elt_among (ev_var rfl) ?_ h1 o R) fun q vs H3 hq e3 h3 ht3 => k q vs H3 (fresh_back e1 hq) (e1.trans e3) h3 ht3
    have g := el_rg1 (σ := start n_tables_of [.ref a]) (ev_len (K := K) (ta := tVar 0) (ev_var (i := 0) (v := .ref a) rfl) (sq_of h1)) (RgOk.of_le (by decide) (by rw [nv_len]; omega) (by decide) (by rw [nv_len]; omega))
    rw [nv_len, range_iz] at g
    exact g
end


local macro_rules | `(tactic| walk_at "call") => `(tactic| (with_reducible exact sv_whole))
local macro_rules | `(tactic| walk_at "call") => `(tactic| ((with_reducible refine' sv_order ?c1 ?c2); (case c1 => assumption); (case c2 => assumption)))
local macro_rules | `(tactic| walk_at "call") => `(tactic| ((with_reducible refine' sv_ord ?c1 ?c2); (case c1 => assumption); (case c2 => assumption)))

/-! ### rings by entries: the mathematics -/
def insr (pal one : Nat) (r : List Nat) : List Nat := if pal ∈ r ∧ pal ≠ one then r.take (r.idxOf pal + 1) ++ [one] ++ r.drop (r.idxOf pal + 1) else r
def rstep (rs : List (List Nat)) (one pal : Nat) : List (List Nat) := (if one = pal then rs ++ [[one]] else rs).map (insr pal one)
def ringsTo (e : List Nat) : Nat → List (List Nat)
  | 0 => []
  | i + 1 => rstep (ringsTo e i) i (e.getD i 0)
structure RI (m : Nat) (rs : List (List Nat)) : Prop where
  all : rs.flatten.Perm (List.range m)
  ne : ∀ r ∈ rs, 0 < r.length
  low : ∀ r ∈ rs, ∀ x ∈ r, r.headD 0 ≤ x
  asc : (rs.map (·.headD 0)).Pairwise (· < ·)
theorem insr_perm {pal one : Nat} {r : List Nat} (h : pal ∈ r) (ne : pal ≠ one) : (insr pal one r).Perm (one :: r) := by
  unfold insr
  rw [if_pos ⟨h, ne⟩, List.append_assoc]
  refine (List.Perm.append_left _ List.perm_append_comm).trans ?_
  rw [← List.append_assoc, List.take_append_drop]
  exact List.perm_append_comm
theorem insr_no {pal one : Nat} {r : List Nat} (h : pal ∉ r) : insr pal one r = r := if_neg fun q => h q.1
theorem insr_same {pal one : Nat} {r : List Nat} (h : pal = one) : insr pal one r = r := if_neg fun q => q.2 h
theorem insr_head {pal one : Nat} {r : List Nat} : (insr pal one r).headD 0 = r.headD 0 := by
  by_cases h : pal ∈ r ∧ pal ≠ one
  · unfold insr
    rw [if_pos h]
    cases r with
    | nil => simp at h
    | cons x l => simp
  · unfold insr
    rw [if_neg h]
theorem insr_len {pal one : Nat} {r : List Nat} (h : 0 < r.length) : 0 < (insr pal one r).length := by
  unfold insr
  split
  · simp
    omega
  · exact h
theorem insr_mem {pal one x : Nat} {r : List Nat} (h : x ∈ insr pal one r) : x ∈ r ∨ x = one := by
  by_cases q : pal ∈ r ∧ pal ≠ one
  · have := (insr_perm q.1 q.2).mem_iff.mp h
    rcases List.mem_cons.mp this with z | z
    · exact .inr z
    · exact .inl z
  · unfold insr at h
    rw [if_neg q] at h
    exact .inl h
theorem insr_all {pal one : Nat} (ne : pal ≠ one) : ∀ {rs : List (List Nat)}, rs.flatten.Nodup → pal ∈ rs.flatten → (rs.map (insr pal one)).flatten.Perm (one :: rs.flatten)
  | [], _, h => by simp at h
  | r :: l, nd, h => by
    rw [List.flatten_cons, List.nodup_append] at nd
    rw [List.map_cons, List.flatten_cons, List.flatten_cons]
    by_cases q : pal ∈ r
    · have hn : ∀ s ∈ l, pal ∉ s := fun s hs z => absurd rfl (nd.2.2 pal q pal (List.mem_flatten.mpr ⟨s, hs, z⟩))
      have e : l.map (insr pal one) = l := (List.map_congr_left fun s hs => insr_no (hn s hs)).trans (List.map_id _)
      rw [e]
      exact (List.Perm.append_right _ (insr_perm q ne))
    · rw [insr_no q]
      have h' : pal ∈ l.flatten := by
        rw [List.flatten_cons] at h
        rcases List.mem_append.mp h with z | z
        · exact absurd z q
        · exact z
      refine (List.Perm.append_left _ (insr_all ne nd.2.1 h')).trans ?_
      exact List.perm_middle
theorem RI.nd {m : Nat} {rs : List (List Nat)} (R : RI m rs) : rs.flatten.Nodup := R.all.nodup_iff.mpr List.nodup_range
theorem RI.mem {m x : Nat} {rs : List (List Nat)} (R : RI m rs) {r : List Nat} (hr : r ∈ rs) (hx : x ∈ r) : x < m := List.mem_range.mp (R.all.mem_iff.mp (List.mem_flatten.mpr ⟨r, hr, hx⟩))
theorem head_mem {r : List Nat} (h : 0 < r.length) : r.headD 0 ∈ r := by
  cases r with
  | nil => simp at h
  | cons x l => simp
theorem RI.step {one pal : Nat} {rs : List (List Nat)} (R : RI one rs) (h : pal ≤ one) : RI (one + 1) (rstep rs one pal) := by
  unfold rstep
  by_cases q : one = pal
  · rw [if_pos q]
    have e : (rs ++ [[one]]).map (insr pal one) = rs ++ [[one]] := (List.map_congr_left fun s _ => insr_same q.symm).trans (List.map_id _)
    rw [e]
    refine ⟨?_, ?_, ?_, ?_⟩
    · rw [List.flatten_append, List.range_succ]
      exact List.Perm.append_right _ R.all
    · intro r hr
      rcases List.mem_append.mp hr with z | z
      · exact R.ne r z
      · rw [List.mem_singleton.mp z]; simp
    · intro r hr
      rcases List.mem_append.mp hr with z | z
      · exact R.low r z
      · rw [List.mem_singleton.mp z]; simp
    · rw [List.map_append, List.pairwise_append]
      refine ⟨R.asc, by simp, fun a ha b hb => ?_⟩
      obtain ⟨r, hr, rfl⟩ := List.mem_map.mp ha
      have := R.mem hr (head_mem (R.ne r hr))
      simp at hb
      omega
  · rw [if_neg q]
    have hp : pal ∈ rs.flatten := R.all.mem_iff.mpr (List.mem_range.mpr (by omega))
    have eh : (rs.map (insr pal one)).map (·.headD 0) = rs.map (·.headD 0) := by
      rw [List.map_map]
      exact List.map_congr_left fun r _ => insr_head
    refine ⟨?_, ?_, ?_, ?_⟩
    · refine (insr_all (Ne.symm q) R.nd hp).trans ?_
      rw [List.range_succ]
      exact (List.Perm.cons _ R.all).trans (List.perm_append_comm (l₁ := [one]))
    · intro r hr
      obtain ⟨s, hs, rfl⟩ := List.mem_map.mp hr
      exact insr_len (R.ne s hs)
    · intro r hr x hx
      obtain ⟨s, hs, rfl⟩ := List.mem_map.mp hr
      rw [insr_head]
      rcases insr_mem hx with z | z
      · exact R.low s hs x z
      · have := R.mem hs (head_mem (R.ne s hs))
        omega
    · rw [eh]
      exact R.asc
theorem ringsTo_ok {e : List Nat} (h : ∀ (i x : Nat), e[i]? = some x → x ≤ i) : ∀ m, m ≤ e.length → RI m (ringsTo e m)
  | 0, _ => ⟨List.Perm.refl _, by simp [ringsTo], by simp [ringsTo], by simp [ringsTo]⟩
  | m + 1, hm => by
    have ih := ringsTo_ok h m (by omega)
    refine ih.step ?_
    have : e[m]? = some (e.getD m 0) := by
      rw [List.getD_eq_getElem?_getD, List.getElem?_eq_getElem (by omega)]
      rfl
    exact h m _ this
/-! the seating of rings -/
def succ (rs : List (List Nat)) (x : Nat) : Nat := match rs.find? (fun r => decide (x ∈ r)) with
  | some r => r.getD ((r.idxOf x + 1) % r.length) 0
  | none => 0
theorem succ_at {rs : List (List Nat)} (nd : rs.flatten.Nodup) {r : List Nat} (hr : r ∈ rs) {i x : Nat} (hx : r[i]? = some x) : succ rs x = r.getD ((i + 1) % r.length) 0 := by
  have hm := List.mem_of_getElem? hx
  have hf : rs.find? (fun r => decide (x ∈ r)) = some r := by
    cases hq : rs.find? (fun r => decide (x ∈ r)) with
    | none => exact absurd (decide_eq_true hm) (by simpa using List.find?_eq_none.mp hq r hr)
    | some s =>
      have h1 := List.mem_of_find?_eq_some hq
      have h2 := List.find?_some hq
      rw [nodup_flat nd h1 hr (of_decide_eq_true h2) hm]
  have ndr : r.Nodup := List.Pairwise.sublist (List.sublist_flatten_of_mem hr) nd
  have hi : r.idxOf x = i := by
    have hl := List.idxOf_lt_length_of_mem hm
    have := List.getElem_idxOf hl
    have h1 : r[r.idxOf x]? = some x := by rw [List.getElem?_eq_getElem hl, this]
    exact nd_ix ndr h1 hx
  unfold succ
  rw [hf]
  show r.getD ((r.idxOf x + 1) % r.length) 0 = _
  rw [hi]
def seat (rs : List (List Nat)) (n : Nat) : List Nat := (List.range n).map (succ rs)
theorem seat_rg {rs : List (List Nat)} {n : Nat} (hp : rs.flatten.Perm (List.range n)) {r : List Nat} (hr : r ∈ rs) (ne : 0 < r.length) : Rg (seat rs n) r := by
  have nd : rs.flatten.Nodup := hp.nodup_iff.mpr List.nodup_range
  refine ⟨ne, List.Pairwise.sublist (List.sublist_flatten_of_mem hr) nd, fun i hi => ?_⟩
  have hx : r[i]? = some r[i] := List.getElem?_eq_getElem hi
  have hm := Nat.mod_lt (i + 1) ne
  refine ⟨r[i], r[(i + 1) % r.length], hx, List.getElem?_eq_getElem hm, ?_⟩
  have hn : r[i] < n := List.mem_range.mp (hp.mem_iff.mp (List.mem_flatten.mpr ⟨r, hr, List.getElem_mem hi⟩))
  unfold seat
  rw [List.getElem?_map, List.getElem?_range hn]
  show some (succ rs r[i]) = _
  rw [succ_at nd hr hx, List.getD_eq_getElem?_getD, List.getElem?_eq_getElem hm]
  rfl
theorem seat_len (rs : List (List Nat)) (n : Nat) : (seat rs n).length = n := by simp [seat]
theorem map_rot {rs : List (List Nat)} (nd : rs.flatten.Nodup) {r : List Nat} (hr : r ∈ rs) (ne : 0 < r.length) : r.map (succ rs) = rot r (1 % r.length) := by
  have hk := Nat.mod_lt 1 ne
  refine List.ext_getElem? fun i => ?_
  by_cases hi : i < r.length
  · have hx : r[i]? = some r[i] := List.getElem?_eq_getElem hi
    have hm := Nat.mod_lt (i + 1) ne
    rw [List.getElem?_map, hx, rot_get hk hi, Nat.add_mod_mod]
    show some (succ rs r[i]) = _
    rw [succ_at nd hr hx, List.getD_eq_getElem?_getD, List.getElem?_eq_getElem hm]
    rfl
  · rw [List.getElem?_eq_none (by simp; omega), List.getElem?_eq_none (by rw [rot_len (by omega)]; omega)]
theorem flat_map_perm {g : Nat → Nat} : ∀ {rs : List (List Nat)}, (∀ r ∈ rs, (r.map g).Perm r) → (rs.flatten.map g).Perm rs.flatten
  | [], _ => List.Perm.refl _
  | r :: l, h => by
    rw [List.flatten_cons, List.map_append]
    exact List.Perm.append (h r (by simp)) (flat_map_perm fun s hs => h s (by simp [hs]))
theorem seat_perm {rs : List (List Nat)} {n : Nat} (hp : rs.flatten.Perm (List.range n)) (hne : ∀ r ∈ rs, 0 < r.length) : (seat rs n).Perm (List.range n) := by
  have nd : rs.flatten.Nodup := hp.nodup_iff.mpr List.nodup_range
  unfold seat
  refine ((hp.symm.map (succ rs)).trans (flat_map_perm fun r hr => ?_)).trans hp
  rw [map_rot nd hr (hne r hr)]
  exact rot_perm r _
theorem RI.rings {m : Nat} {rs : List (List Nat)} (R : RI m rs) : Rings (seat rs m) rs := ⟨fun r hr => seat_rg R.all hr (R.ne r hr), R.low, R.asc, by rw [seat_len]; exact R.all⟩
theorem seat_ord {rs : List (List Nat)} {n : Nat} (hp : rs.flatten.Perm (List.range n)) (hne : ∀ r ∈ rs, 0 < r.length) (h1 : 1 ≤ n) (h2 : n ≤ 20) : Ord (seat rs n) := by
  unfold Ord
  rw [seat_len]
  exact ⟨seat_perm hp hne, h1, h2⟩

/-! ### coming lists: the mathematics -/
def Cm (c : List Nat) : Prop := 1 ≤ c.length ∧ c.length ≤ 20 ∧ ∀ (i x : Nat), c[i]? = some x → x ≤ i
theorem Cm.get {c : List Nat} (h : Cm c) (k : Nat) : c.getD k 0 ≤ k := by
  rw [List.getD_eq_getElem?_getD]
  cases e : c[k]? with
  | none => exact Nat.zero_le _
  | some x => exact h.2.2 k x e
/-- one more guest at the left of x, or alone -/
def sits (h : List Nat) (k x : Nat) : List Nat := if x = k then h ++ [k] else ((h ++ [k]).set k (h.getD x 0)).set x k
def sby (c : List Nat) : Nat → List Nat
  | 0 => []
  | k + 1 => sits (sby c k) k (c.getD k 0)
theorem sits_len {h : List Nat} {k x : Nat} : (sits h k x).length = h.length + 1 := by
  unfold sits
  split <;> simp
theorem sby_len (c : List Nat) : ∀ k, (sby c k).length = k
  | 0 => rfl
  | k + 1 => by
    show (sits _ _ _).length = _
    rw [sits_len, sby_len c k]
theorem sby_take (c : List Nat) {w : Nat} (hw : w ≤ c.length) : ∀ k, k ≤ w → sby (c.take w) k = sby c k
  | 0, _ => rfl
  | k + 1, h => by
    show sits (sby (c.take w) k) k _ = sits (sby c k) k _
    rw [sby_take c hw k (by omega)]
    congr 1
    rw [List.getD_eq_getElem?_getD, List.getD_eq_getElem?_getD, List.getElem?_take]
    rw [if_pos (by omega)]
theorem insr_at {pal one : Nat} {r : List Nat} {j : Nat} (nd : r.Nodup) (hj : r[j]? = some pal) (ne : pal ≠ one) : insr pal one r = r.take (j + 1) ++ [one] ++ r.drop (j + 1) := by
  have hm := List.mem_of_getElem? hj
  have e : r.idxOf pal = j := by
    have hl := List.idxOf_lt_length_of_mem hm
    have h1 : r[r.idxOf pal]? = some pal := by rw [List.getElem?_eq_getElem hl, List.getElem_idxOf hl]
    exact nd_ix nd h1 hj
  unfold insr
  rw [if_pos ⟨hm, ne⟩, e]
theorem ins_get {r : List Nat} {j one t : Nat} (hj : j < r.length) : (r.take (j + 1) ++ [one] ++ r.drop (j + 1))[t]? = if t ≤ j then r[t]? else if t = j + 1 then some one else r[t - 1]? := by
  have l1 : (r.take (j + 1)).length = j + 1 := by rw [List.length_take]; omega
  split
  · rename_i h
    rw [List.getElem?_append_left (by simp; omega), List.getElem?_append_left (by omega), List.getElem?_take, if_pos (by omega)]
  · split
    · rename_i h1 h2
      subst h2
      rw [List.getElem?_append_left (by simp; omega), List.getElem?_append_right (by omega), l1, Nat.sub_self]
      rfl
    · rename_i h1 h2
      rw [List.getElem?_append_right (by simp; omega), List.getElem?_drop]
      congr 1
      simp
      omega
theorem ins_len {r : List Nat} {j one : Nat} (hj : j < r.length) : (r.take (j + 1) ++ [one] ++ r.drop (j + 1)).length = r.length + 1 := by
  simp
  omega
theorem mod_next {i L : Nat} (h : i < L) : (i + 1) % L = if i + 1 = L then 0 else i + 1 := by
  split
  · rename_i e
    rw [e, Nat.mod_self]
  · exact Nat.mod_eq_of_lt (by omega)
theorem getD_of {r : List Nat} {i x : Nat} (h : r[i]? = some x) : r.getD i 0 = x := by
  rw [List.getD_eq_getElem?_getD, h]
  rfl
/-- the left neighbours when one more guest has sat down -/
theorem succ_step {one pal : Nat} {rs : List (List Nat)} (R : RI one rs) (lt : pal < one) : succ (rstep rs one pal) pal = one ∧ succ (rstep rs one pal) one = succ rs pal ∧ ∀ x, x < one → x ≠ pal → succ (rstep rs one pal) x = succ rs x := by
  have ne : pal ≠ one := by omega
  have R2 := R.step (pal := pal) (by omega)
  have nd2 := R2.nd
  have nd := R.nd
  have e : rstep rs one pal = rs.map (insr pal one) := by
    unfold rstep
    rw [if_neg (by omega)]
  have hp : pal ∈ rs.flatten := R.all.mem_iff.mpr (List.mem_range.mpr lt)
  obtain ⟨r, hr, hpr⟩ := List.mem_flatten.mp hp
  obtain ⟨j, hj⟩ := List.mem_iff_getElem?.mp hpr
  have jl := (List.getElem?_eq_some_iff.mp hj).1
  have ndr : r.Nodup := List.Pairwise.sublist (List.sublist_flatten_of_mem hr) nd
  have ei := insr_at (one := one) ndr hj ne
  have mem2 : r.take (j + 1) ++ [one] ++ r.drop (j + 1) ∈ rstep rs one pal := by
    rw [e, ← ei]
    exact List.mem_map.mpr ⟨r, hr, rfl⟩
  have L := ins_len (one := one) jl
  have G := fun t => ins_get (one := one) (t := t) jl
  generalize hq : r.take (j + 1) ++ [one] ++ r.drop (j + 1) = q at *
  have atj : q[j]? = some pal := by rw [G, if_pos (Nat.le_refl _)]; exact hj
  have atj1 : q[j + 1]? = some one := by rw [G, if_neg (by omega), if_pos rfl]
  have s1 := succ_at nd2 mem2 atj
  have s2 := succ_at nd2 mem2 atj1
  have s0 := succ_at nd hr hj
  refine ⟨?_, ?_, ?_⟩
  · rw [s1, L, mod_next (by omega), if_neg (by omega)]
    exact getD_of atj1
  · rw [s2, L, s0, mod_next (by omega), mod_next jl]
    by_cases z : j + 1 = r.length
    · rw [if_pos (by omega), if_pos z, List.getD_eq_getElem?_getD, List.getD_eq_getElem?_getD, G, if_pos (by omega)]
    · rw [if_neg (by omega), if_neg z, List.getD_eq_getElem?_getD, List.getD_eq_getElem?_getD, G, if_neg (by omega), if_neg (by omega)]
      rfl
  · intro x hx nx
    have hxm : x ∈ rs.flatten := R.all.mem_iff.mpr (List.mem_range.mpr hx)
    obtain ⟨s, hs, hxs⟩ := List.mem_flatten.mp hxm
    obtain ⟨i, hi⟩ := List.mem_iff_getElem?.mp hxs
    have il := (List.getElem?_eq_some_iff.mp hi).1
    have t0 := succ_at nd hs hi
    by_cases hps : pal ∈ s
    · have : s = r := nodup_flat nd hs hr hps hpr
      subst this
      rw [t0, mod_next il]
      rcases Nat.lt_trichotomy i j with h | h | h
      · have t1 := succ_at nd2 mem2 (i := i) (x := x) (by rw [G, if_pos (by omega)]; exact hi)
        rw [t1, L, mod_next (by omega), if_neg (by omega), if_neg (by omega), List.getD_eq_getElem?_getD, List.getD_eq_getElem?_getD, G, if_pos (by omega)]
      · subst h
        rw [hj] at hi
        exact absurd (Option.some.inj hi).symm nx
      · have t1 := succ_at nd2 mem2 (i := i + 1) (x := x) (by
          rw [G, if_neg (by omega), if_neg (by omega)]
          exact hi)
        rw [t1, L, mod_next (by omega)]
        by_cases z : i + 1 = s.length
        · rw [if_pos (by omega), if_pos z, List.getD_eq_getElem?_getD, List.getD_eq_getElem?_getD, G, if_pos (by omega)]
        · rw [if_neg (by omega), if_neg z, List.getD_eq_getElem?_getD, List.getD_eq_getElem?_getD, G, if_neg (by omega), if_neg (by omega)]
          rfl
    · have mem3 : s ∈ rstep rs one pal := by
        rw [e]
        exact List.mem_map.mpr ⟨s, hs, insr_no hps⟩
      rw [succ_at nd2 mem3 hi, t0]
theorem succ_open {one : Nat} {rs : List (List Nat)} (R : RI one rs) : succ (rstep rs one one) one = one ∧ ∀ x, x < one → succ (rstep rs one one) x = succ rs x := by
  have R2 := R.step (pal := one) (Nat.le_refl _)
  have nd2 := R2.nd
  have nd := R.nd
  have e : rstep rs one one = rs ++ [[one]] := by
    unfold rstep
    rw [if_pos rfl]
    exact (List.map_congr_left fun s _ => insr_same rfl).trans (List.map_id _)
  refine ⟨?_, fun x hx => ?_⟩
  · have := succ_at nd2 (r := [one]) (by rw [e]; simp) (i := 0) (x := one) rfl
    rw [this]
    simp
  · have hxm : x ∈ rs.flatten := R.all.mem_iff.mpr (List.mem_range.mpr hx)
    obtain ⟨s, hs, hxs⟩ := List.mem_flatten.mp hxm
    obtain ⟨i, hi⟩ := List.mem_iff_getElem?.mp hxs
    rw [succ_at nd2 (r := s) (by rw [e]; simp [hs]) hi, succ_at nd hs hi]
theorem sby_seat {c : List Nat} (h : ∀ (i x : Nat), c[i]? = some x → x ≤ i) : ∀ k, k ≤ c.length → sby c k = seat (ringsTo c k) k
  | 0, _ => rfl
  | k + 1, hk => by
    have ih := sby_seat h k (by omega)
    have R := ringsTo_ok h k (by omega)
    have hx : c.getD k 0 ≤ k := by
      have : c[k]? = some (c.getD k 0) := by
        rw [List.getD_eq_getElem?_getD, List.getElem?_eq_getElem (by omega)]
        rfl
      exact h k _ this
    show sits (sby c k) k (c.getD k 0) = (List.range (k + 1)).map (succ (rstep (ringsTo c k) k (c.getD k 0)))
    rw [ih]
    generalize c.getD k 0 = x at *
    generalize ringsTo c k = rs at *
    have sl := seat_len rs k
    refine List.ext_getElem? fun i => ?_
    rw [List.getElem?_map]
    unfold sits
    by_cases hxk : x = k
    · subst hxk
      obtain ⟨s1, s2⟩ := succ_open R
      rw [if_pos rfl]
      rcases Nat.lt_trichotomy i x with q | q | q
      · rw [List.getElem?_append_left (by omega), List.getElem?_range (by omega)]
        unfold seat
        rw [List.getElem?_map, List.getElem?_range q]
        show some _ = some _
        rw [s2 i q]
      · subst q
        rw [List.getElem?_append_right (by omega), sl, Nat.sub_self, List.getElem?_range (by omega)]
        show some i = some _
        rw [s1]
      · rw [List.getElem?_eq_none (by simp [sl]; omega), List.getElem?_eq_none (by simp; omega)]
        rfl
    · have xl : x < k := by omega
      obtain ⟨s1, s2, s3⟩ := succ_step R xl
      rw [if_neg hxk]
      have hgx : (seat rs k).getD x 0 = succ rs x := by
        refine getD_of ?_
        unfold seat
        rw [List.getElem?_map, List.getElem?_range xl]
        rfl
      rw [hgx, List.getElem?_set, List.getElem?_set]
      by_cases q1 : x = i
      · subst q1
        rw [if_pos rfl, if_pos (by simp [sl]; omega), List.getElem?_range (by omega)]
        show some k = some _
        rw [s1]
      · rw [if_neg q1]
        rcases Nat.lt_trichotomy i k with q | q | q
        · rw [if_neg (by omega), List.getElem?_append_left (by omega), List.getElem?_range (by omega)]
          unfold seat
          rw [List.getElem?_map, List.getElem?_range q]
          show some _ = some _
          rw [s3 i q (fun z => q1 z.symm)]
        · subst q
          rw [if_pos rfl, if_pos (by simp [sl]), List.getElem?_range (by omega)]
          show some _ = some _
          rw [s2]
        · rw [if_neg (by omega), List.getElem?_eq_none (by simp [sl]; omega), List.getElem?_eq_none (by simp; omega)]
          rfl
theorem sby_lt {c : List Nat} (h : ∀ (i x : Nat), c[i]? = some x → x ≤ i) {k : Nat} (hk : k ≤ c.length) {y : Nat} (hy : y ∈ sby c k) : y < k := by
  rw [sby_seat h k hk] at hy
  have R := ringsTo_ok h k hk
  have := (seat_perm R.all R.ne).mem_iff.mp hy
  exact List.mem_range.mp this
/-- the last guest's right neighbour, and the others without it -/
theorem sits_last {h : List Nat} {k x : Nat} (hl : h.length = k) (hlt : ∀ y ∈ h, y < k) (hx : x ≤ k) :
    (sits h k x)[x]? = some k ∧ (∀ m, m < x → (sits h k x)[m]? ≠ some k) ∧ ((sits h k x).set x ((sits h k x).getD k 0)).dropLast = h := by
  have at' : ∀ (m y : Nat), h[m]? = some y → y < k := fun m y hy => hlt y (List.mem_of_getElem? hy)
  unfold sits
  by_cases hxk : x = k
  · subst hxk
    rw [if_pos rfl]
    have g : (h ++ [x])[x]? = some x := by
      rw [List.getElem?_append_right (by omega), hl, Nat.sub_self]
      rfl
    refine ⟨g, fun m hm z => ?_, ?_⟩
    · rw [List.getElem?_append_left (by omega)] at z
      have := at' m x z
      omega
    · rw [getD_of g, List.set_append_right _ _ (by omega), hl, Nat.sub_self]
      simp
  · have xl : x < k := by omega
    rw [if_neg hxk]
    have l1 : ((h ++ [k]).set k (h.getD x 0)).length = k + 1 := by simp [hl]
    refine ⟨by rw [List.getElem?_set, if_pos rfl, if_pos (by omega)], fun m hm z => ?_, ?_⟩
    · rw [List.getElem?_set, if_neg (by omega), List.getElem?_set, if_neg (by omega), List.getElem?_append_left (by omega)] at z
      have := at' m k z
      omega
    · have g : (((h ++ [k]).set k (h.getD x 0)).set x k).getD k 0 = h.getD x 0 := by
        refine getD_of ?_
        rw [List.getElem?_set, if_neg (by omega), List.getElem?_set, if_pos rfl, if_pos (by simp [hl])]
      rw [g, List.set_set]
      have e1 : (h ++ [k]).set k (h.getD x 0) = h ++ [h.getD x 0] := by
        rw [List.set_append_right _ _ (by omega), hl, Nat.sub_self]
        rfl
      rw [e1, List.set_append_left _ _ (by omega), List.dropLast_concat]
      refine List.ext_getElem (by simp) fun i h1 h2 => ?_
      rw [List.getElem_set]
      split
      · rename_i q
        subst q
        exact getD_of (List.getElem?_eq_getElem h2)
      · rfl
/-- who opened the tables -/
theorem rings_heads (c : List Nat) : ∀ k, (ringsTo c k).map (·.headD 0) = (List.range k).filter fun i => decide (c.getD i 0 = i)
  | 0 => rfl
  | k + 1 => by
    have ih := rings_heads c k
    rw [List.range_succ, List.filter_append, ← ih]
    show (rstep (ringsTo c k) k (c.getD k 0)).map (·.headD 0) = _
    have eh : ∀ rs : List (List Nat), (rs.map (insr (c.getD k 0) k)).map (·.headD 0) = rs.map (·.headD 0) := fun rs => by
      rw [List.map_map]
      exact List.map_congr_left fun r _ => insr_head
    unfold rstep
    rw [eh]
    by_cases h : c.getD k 0 = k
    · have q : decide (c.getD k 0 = k) = true := decide_eq_true h
      rw [if_pos h.symm, List.map_append, List.filter_cons, q]
      rfl
    · have q : decide (c.getD k 0 = k) = false := decide_eq_false h
      rw [if_neg (fun z => h z.symm), List.filter_cons, q]
      simp


local macro_rules | `(tactic| walk_at "call") => `(tactic| (with_reducible exact sv_whole))
local macro_rules | `(tactic| walk_at "call") => `(tactic| ((with_reducible refine' sv_order ?c1 ?c2); (case c1 => assumption); (case c2 => assumption)))
local macro_rules | `(tactic| walk_at "call") => `(tactic| ((with_reducible refine' sv_ord ?c1 ?c2); (case c1 => assumption); (case c2 => assumption)))

/-! ### drawn lists -/
def EvPA (p L : Addr) (k : Nat) (ta : TA) (σ : L2.St) (H0 : Hp) (C : List V → Prop) : Prop := ∀ n H1, Ex H0 H1 → Po p L n H1 → n + k ≤ 1000000000 →
  ∀ Q : List V → Hp → Prop, (∀ vs H2, C vs → Po p L (n + k) H2 → Ex (Hm p H1) H2 → Q vs H2) → ta σ H1 Q
section
variable {K : PySem.W.Frag} {σ : L2.St} {H0 H : Hp} {p L : Addr} {k k1 k2 : Nat} {te ta tb : TE} {R Ra Rb : V → Hp → Prop} {tr : TA} {A : V → Prop} {B C : List V → Prop}
theorem epa_nil : EvPA p L 0 tNil σ H0 (fun vs => vs = []) := fun n H1 e hp _ Q q => q [] H1 rfl hp (hm_of (Ex.refl _))
theorem epa_cons (h0 : H0 p = none) (h : EvP p L k1 te σ H0 (fun v _ => A v)) (hr : EvPA p L k2 tr σ H0 B) : EvPA p L (k1 + k2) (tCons te tr) σ H0 (fun vs => ∃ v r, vs = v :: r ∧ A v ∧ B r) := fun n H1 e hp hn Q q =>
  h n H1 e hp (by omega) _ fun v H2 hv p2 e2 => hr (n + k1) H2 (hm_next h0 e e2) p2 (by omega) _ fun vs H3 hvs p3 e3 => q (v :: vs) H3 ⟨v, vs, rfl, hv, hvs⟩ (by rw [← Nat.add_assoc]; exact p3) (hm_trans e2 e3)
theorem epa_pure {v : V} (h0 : H0 p = none) (h : Ev te σ H0 v) (hr : EvPA p L k2 tr σ H0 B) : EvPA p L (0 + k2) (tCons te tr) σ H0 (fun vs => ∃ x r, vs = x :: r ∧ x = v ∧ B r) := epa_cons (A := fun x => x = v) h0 (ep_ev h) hr
theorem ep_lst (h : EvPA p L k tr σ H0 C) (hs : ∀ vs, C vs → vs.length ≤ 100000) : EvP p L k (tLst tr) σ H0 (fun x H => ∃ l vs, l ≠ p ∧ x = .ref l ∧ H l = some (.lst vs) ∧ C vs) := fun n H1 e hp hn Q q =>
  h n H1 e hp hn _ fun vs H2 c p2 e2 => ⟨sz_of (hs vs c), fun l hl => q _ _ ⟨l, vs, p2.ne hl, rfl, upd_same, c⟩ (p2.ex (Ex.new hl)) (hm_trans e2 (hm_of (Ex.new hl)))⟩
theorem stb_lst : Stb p (fun x H => ∃ l vs, l ≠ p ∧ x = .ref l ∧ H l = some (.lst vs) ∧ C vs) := fun v H H' ⟨l, vs, ne, e, h, c⟩ s => ⟨l, vs, ne, e, hm_at s ne h, c⟩
theorem ep_ix (h0 : H0 p = none) {ix : V → Prop} (ha : EvP p L k1 (tLst tr) σ H0 (fun x H => ∃ l vs, l ≠ p ∧ x = .ref l ∧ H l = some (.lst vs) ∧ C vs)) (hb : EvP p L k2 tb σ H0 (fun v _ => ix v)) (hat : ∀ vs v, C vs → ix v → ∃ i z, v = .int i ∧ atI vs i = some z ∧ A z) :
    EvP p L (k1 + k2) (tOp (rIxL K) (tLst tr) tb) σ H0 (fun v _ => A v) := ep_op h0 ha hb stb_lst stb_c fun x y H hx hy => by
  obtain ⟨l, vs, ne, rfl, hl, c⟩ := hx
  obtain ⟨i, z, rfl, hz, az⟩ := hat vs y c hy
  exact ⟨z, az, rv_ixL (sq_of hl) hz⟩
theorem ep_isZ (h0 : H0 p = none) (h : EvP p L k te σ H0 (fun v _ => ∃ r, v = .int r ∧ 0 ≤ r)) : EvP p L (k + 0) (tCB rIntB (tCons (tOp rEq te (tC (.int 0))) tNil)) σ H0 (fun v _ => v = .int 0 ∨ v = .int 1) := fun n H1 e hp hn Q q =>
  (ep_op (k1 := k) (k2 := 0) (R := fun v _ => ∃ b, v = .bl b) h0 h (ep_ev (v := .int 0) ev_c) stb_c stb_c fun x y H ⟨r, e1, _⟩ e2 => ⟨.bl (decide (x = y)), ⟨_, rfl⟩, by
    subst e1
    subst e2
    exact rv_eq rfl⟩) n H1 e hp hn _ fun v H2 ⟨b, hb⟩ p2 e2 => ⟨b, by rw [hb], q _ H2 (by cases b <;> simp) p2 e2⟩
theorem pq_parL {n i j : Nat} {D : Ends} {tz : TS} {ys : List V} (h : EvP p L k ta σ H0 R) (e : Ex H0 H) (hp : Po p L n H) (hn : n + k ≤ 1000000000) (hb : ∀ H1, EvL tb σ H1 ys) (q : ∀ v l H2 H3, R v H2 → (H2 l = none ∧ l ≠ p ∧ l ≠ L) → Ex H2 H3 → H3 l = some (.lst ys) → Po p L (n + k) H3 → Ex (Hm p H) H2 → tz D ((σ.set i (some v)).set j (some (.ref l))) H3) :
    tSeq (tPar i j (tCons ta (tCons tb tNil))) tz D σ H := h n H e hp hn _ fun v H2 hv p2 e2 => hb H2 H2 (Ex.refl _) _ fun l H3 hl e3 h3 => ⟨_, _, rfl, q v l H2 H3 hv ⟨hl, p2.ne hl, p2.nl hl⟩ e3 h3 (p2.ex e3) e2⟩
end

/-! ### _law_seating, _law_coming -/
theorem sby_ext {c : List Nat} {x : Nat} : sby (c ++ [x]) c.length = sby c c.length ∧ sby (c ++ [x]) (c.length + 1) = sits (sby c c.length) c.length x := by
  have h := sby_take (c ++ [x]) (w := c.length) (by simp) c.length (Nat.le_refl _)
  rw [List.take_append_of_le_length (Nat.le_refl _), List.take_length] at h
  refine ⟨h.symm, ?_⟩
  show sits (sby (c ++ [x]) c.length) c.length ((c ++ [x]).getD c.length 0) = _
  rw [← h, List.getD_eq_getElem?_getD, List.getElem?_append_right (Nat.le_refl _), Nat.sub_self]
  rfl
theorem sits_app {h : List Nat} {k x : Nat} (hl : h.length = k) (ne : x ≠ k) : sits h k x = (h ++ [h.getD x 0]).set x k := by
  unfold sits
  rw [if_neg ne]
  congr 1
  rw [List.set_append_right _ _ (by omega), hl, Nat.sub_self]
  rfl
def sp_law_seating : Sp := fun vs H Q _ => ∃ (p L : Addr) (n m : Nat), vs = [.ref p, .int (m : Int)] ∧ Po p L n H ∧ n + 200 < 1000000000 ∧ m ≤ 20 ∧
  ∀ l c H', H l = none → H' l = some (.lst (nv (sby c m))) → c.length = m → (∀ (i x : Nat), c[i]? = some x → x ≤ i) → Po p L (n + 100) H' → Ex (Hm p H) H' → Q (.ref l) H'
section
variable {P : Program} {w : World} {K : PySem.W.Frag} {mg : Str → Option Value} {base : Heap}
theorem ok_law_seating (T : Tx K mg) : FnOk P w K mg base CX0 3 T.f_law_seating T.d_law_seating ["bag", "wide"] sp_law_seating := by
  refine T.F_law_seating.ok sc_law_seating (fun vs H Q E h => ?_) (fun cdv A outer s H vs Q E hr h => ?_)
  · obtain ⟨p, L, n, m, rfl, _⟩ := h
    rfl
  · obtain ⟨p, L, n, m, rfl, hpo, hn, hm, k⟩ := h
    refine ⟨_, (pss_cons (ps_par (i := 2) (j := 3) (by rfl) sc_law_seating.nd rfl rfl (by decide) rfl rfl (pa_cons (pe_call (ok_law_draw T) (hr.mono (by decide)) (by rfl) T.g_law_draw T.F_law_draw.kp T.b_law_draw .nil pass0 (pa_cons (pv 0) (pa_cons pe_int pa_nil))) (pa_cons (pe_lst pa_nil) pa_nil)) (by rfl))
      (pss_cons (ps_for PassesOwn.never rfl (pi_range1 (by rfl) T.m_range (pa_cons (pv 1) pa_nil)) (pg_name (i := 4) sc_law_seating.nd rfl (Or.inl rfl)) (pss_cons (ps_set (i := 5) sc_law_seating.nd rfl (Or.inl rfl) (pe_ix ix_list (pe_lst (pa_cons (pv 4) (pa_cons (pe_call (ok_law_draw T) (hr.mono (by decide)) (by rfl) T.g_law_draw T.F_law_draw.kp T.b_law_draw .nil pass0 (pa_cons (pv 0) (pa_cons (pe_op op_add (pv 4) pe_int) pa_nil))) pa_nil))) (pe_call (ok_law_draw T) (hr.mono (by decide)) (by rfl) T.g_law_draw T.F_law_draw.kp T.b_law_draw .nil pass0 (pa_cons (pv 0) (pa_cons pe_int pa_nil))) (fun _ _ => rfl)))
      (pss_cons (ps_set (i := 6) sc_law_seating.nd rfl (Or.inl rfl) (pe_ix ix_list (pe_lst (pa_cons (pe_call (ok_law_draw T) (hr.mono (by decide)) (by rfl) T.g_law_draw T.F_law_draw.kp T.b_law_draw .nil pass0 (pa_cons (pv 0) (pa_cons (pe_op op_add (pv 4) pe_int) pa_nil))) (pa_cons (pv 5) (pa_cons (pe_call (ok_law_draw T) (hr.mono (by decide)) (by rfl) T.g_law_draw T.F_law_draw.kp T.b_law_draw .nil pass0 (pa_cons (pv 0) (pa_cons (pe_callB (call_maxR rfl) (by rfl) T.m_max (by decide +kernel) (pa_cons pe_int (pa_cons (pv 4) pa_nil))) pa_nil))) (pa_cons (pv 4) (pa_cons pe_int pa_nil)))))) (pv 2) (fun _ _ => rfl)))
      (pss_one (ps_if (pt_cmpR op_eq (pv 6) (pv 4) (nomark _)) (pss_one (ps_expr (pe_bm PySem.F.plainAttrs_list PySem.F.slot_list_append PySem.F.type_list_append mt_append (pv 3) (pa_cons (pv 4) pa_nil)))) (pss_cons (ps_expr (pe_bm PySem.F.plainAttrs_list PySem.F.slot_list_append PySem.F.type_list_append mt_append (pv 3) (pa_cons (pe_ix ix_list (pv 3) (pv 6) (fun _ _ => rfl)) pa_nil)))
      (pss_one (ps_asg (pv 4) (pg_sub (pv 3) (pv 6) set_list)))))))))
      (pss_one (ps_ret (pv 3))))), ?_⟩
    refine pq_parL (p := p) (L := L) (k := 1) (H0 := Hm p H) (ys := []) (ep_dipI (w := 5) hm_p (ev_var rfl) ev_c (by decide) (by decide)) hm_sub hpo (by omega) (fun H1 => el_lst ea_nil (Nat.le_of_ble_eq_true rfl)) ?_
    rintro v b H1 H2 ⟨st, rfl, s0, s1⟩ hb1 e2 hb2 p2 e1
    obtain ⟨st, rfl⟩ : ∃ z : Nat, st = z := ⟨st.toNat, by omega⟩
    have hbp : b ≠ p := hb1.2.1
    have hbl : b ≠ L := hb1.2.2
    have nb : H b = none := by
      have := fresh_back e1 hb1.1
      unfold Hm at this
      rw [if_neg hbp] at this
      exact this
    refine q_forR1 (n := (m : Int)) (ea_cons (ev_var rfl) ea_nil) ⟨by omega, by omega⟩ (fun i σ' H' => ∃ (c : List Nat) (y4 y5 y6 : Option V), σ' = [some (.ref p), some (.int (m : Int)), some (.int (st : Int)), some (.ref b), y4, y5, y6] ∧ H' b = some (.lst (nv (sby c i))) ∧ c.length = i ∧ (∀ (i x : Nat), c[i]? = some x → x ≤ i) ∧ Po p L (n + 1 + 4 * i) H' ∧ Ex (Hm p H) H')
      (fun H3 e3 => ⟨[], none, none, none, rfl, e3 b _ hb2, rfl, fun i x h => by simp at h, p2.ex e3, e1.trans (e2.trans e3)⟩) ?_ ?_
    · rintro i σ' H' hi ⟨c, y4, y5, y6, rfl, hb, cl, cm, p', e'⟩
      have i20 : i < 20 := by omega
      refine pq_asg (p := p) (L := L) (k := (0 + (1 + 0)) + 1) (H0 := Hm p H') (R := fun v _ => ∃ r : Nat, v = .int (r : Int) ∧ r ≤ i) (ep_ix (A := fun v => ∃ r : Nat, v = .int (r : Int) ∧ r ≤ i) (ix := fun v => ∃ r, v = .int r ∧ 0 ≤ r ∧ r < 2) (C := fun vs => ∃ r : Nat, vs = [.int (i : Int), .int (r : Int)] ∧ r ≤ i) hm_p
          (ep_is (ep_lst (epa_pure (v := .int (i : Int)) hm_p (ev_var rfl) (epa_cons (A := fun v => ∃ r : Nat, v = .int (r : Int) ∧ r ≤ i) hm_p (ep_is (ep_dipI (w := (i : Int) + 1) hm_p (ev_var rfl) (ev_op (ev_var rfl) ev_c rv_I0) (by omega) (by omega)) ?_) epa_nil)) ?_) ?_) (ep_dipI (w := 2) hm_p (ev_var rfl) ev_c (by decide) (by decide)) ?_) hm_sub p' (by omega) ?_
      · rintro v _ ⟨r, rfl, r0, r1⟩
        exact ⟨r.toNat, by congr 1; omega, by omega⟩
      · rintro vs ⟨_, _, rfl, _, _, _, rfl, _, rfl⟩
        exact Nat.le_of_ble_eq_true rfl
      · rintro v H4 ⟨l, vs, ne, rfl, hl, _, _, rfl, rfl, _, _, rfl, ⟨r, rfl, hr⟩, rfl⟩
        exact ⟨l, _, ne, rfl, hl, r, rfl, hr⟩
      · rintro vs v ⟨r, rfl, hr⟩ ⟨j, rfl, j0, j1⟩
        have : j = 0 ∨ j = 1 := by omega
        rcases this with rfl | rfl
        · exact ⟨0, _, rfl, rfl, i, rfl, Nat.le_refl _⟩
        · exact ⟨1, _, rfl, rfl, r, rfl, hr⟩
      rintro _ H4 ⟨o, rfl, ho⟩ p4 e4
      have mx : Ev (tCB rMax2 (tCons (tC (.int 1)) (tCons (tVar 4) tNil))) [some (.ref p), some (.int (m : Int)), some (.int (st : Int)), some (.ref b), some (.int (i : Int)), some (.int (o : Int)), y6] (Hm p H4) (.int (if (i : Int) > 1 then (i : Int) else 1)) := ev_max2 ev_c (ev_var rfl)
      refine pq_asg (p := p) (L := L) (k := (1 + (0 + (1 + (0 + (0 + 0))))) + 0) (H0 := Hm p H4) (R := fun v _ => ∃ r : Nat, v = .int (r : Int) ∧ r ≤ i) (ep_ix (A := fun v => ∃ r : Nat, v = .int (r : Int) ∧ r ≤ i) (ix := fun v => v = .int (st : Int)) (C := fun vs => ∃ r r2 : Nat, vs = [.int (r : Int), .int (o : Int), .int (r2 : Int), .int (i : Int), .int 0] ∧ r ≤ i ∧ r2 ≤ i) hm_p
          (ep_is (ep_lst (epa_cons (A := fun v => ∃ r : Nat, v = .int (r : Int) ∧ r ≤ i) hm_p (ep_is (ep_dipI (w := (i : Int) + 1) hm_p (ev_var rfl) (ev_op (ev_var rfl) ev_c rv_I0) (by omega) (by omega)) ?_) (epa_pure (v := .int (o : Int)) hm_p (ev_var rfl) (epa_cons (A := fun v => ∃ r : Nat, v = .int (r : Int) ∧ r ≤ i) hm_p (ep_is (ep_dipI hm_p (ev_var rfl) mx (by split <;> omega) (by split <;> omega)) ?_) (epa_pure (v := .int (i : Int)) hm_p (ev_var rfl) (epa_pure (v := .int 0) hm_p ev_c epa_nil))))) ?_) ?_) (ep_ev (ev_var rfl)) ?_) hm_sub p4 (by omega) ?_
      · rintro v _ ⟨r, rfl, r0, r1⟩
        exact ⟨r.toNat, by congr 1; omega, by omega⟩
      · rintro v _ ⟨r, rfl, r0, r1⟩
        exact ⟨r.toNat, by congr 1; omega, by split at r1 <;> omega⟩
      · rintro vs ⟨_, _, rfl, _, _, _, rfl, _, _, _, rfl, _, _, _, rfl, _, _, _, rfl, _, rfl⟩
        exact Nat.le_of_ble_eq_true rfl
      · rintro v H4 ⟨l, vs, ne, rfl, hl, _, _, rfl, ⟨r, rfl, hr⟩, _, _, rfl, rfl, _, _, rfl, ⟨r2, rfl, hr2⟩, _, _, rfl, rfl, _, _, rfl, rfl, rfl⟩
        exact ⟨l, _, ne, rfl, hl, r, r2, rfl, hr, hr2⟩
      · rintro vs v ⟨r, r2, rfl, hr, hr2⟩ rfl
        have : st = 0 ∨ st = 1 ∨ st = 2 ∨ st = 3 ∨ st = 4 := by omega
        rcases this with rfl | rfl | rfl | rfl | rfl
        · exact ⟨0, _, rfl, rfl, r, rfl, hr⟩
        · exact ⟨1, _, rfl, rfl, o, rfl, ho⟩
        · exact ⟨2, _, rfl, rfl, r2, rfl, hr2⟩
        · exact ⟨3, _, rfl, rfl, i, rfl, Nat.le_refl _⟩
        · exact ⟨4, _, rfl, rfl, 0, rfl, Nat.zero_le _⟩
      rintro _ H5 ⟨x, rfl, hx⟩ p5 e5
      have eA : Ex (Hm p H') H5 := hm_trans e4 e5
      have hb5 := hm_at eA hbp hb
      have sl := sby_len c i
      have ext := sby_ext (c := c) (x := x)
      rw [cl] at ext
      have nbm : Hm p H b = none := by
        unfold Hm
        rw [if_neg hbp]
        exact nb
      have cm' : ∀ (j y : Nat), (c ++ [x])[j]? = some y → y ≤ j := fun j y hy => by
        rw [List.getElem?_append] at hy
        split at hy
        · exact cm j y hy
        · have hj : j - c.length = 0 := by
            have := (List.getElem?_eq_some_iff.mp hy).1
            simpa using this
          rw [hj] at hy
          have : x = y := by simpa using hy
          omega
      refine s_if (b := decide (x = i)) (et_is (et_test (ev_op (ev_var rfl) (ev_var rfl) (rv_eq rfl))) ?_) (fun hb6 H6 e6 => ?_) fun hb6 H6 e6 => ?_
      · rw [Bool.eq_iff_iff, decide_eq_true_iff, decide_eq_true_iff]
        exact ⟨fun z => by have := V.int.inj z; omega, fun z => by rw [z]⟩
      · have xe := of_decide_eq_true hb6
        refine s_app (xs := nv (sby c i)) (e6 b _ hb5) (ev_var rfl) (ev_var rfl) (by rw [nv_len]; omega) fun H7 e7 => ?_
        refine ⟨c ++ [x], _, _, _, rfl, ?_, by simp [cl], cm', ?_, Ex.mut (hm_trans e' (hm_trans eA (hm_of (e6.trans e7)))) nbm⟩
        · rw [upd_same, ext.2]
          unfold sits
          rw [if_pos xe, nv_app]
          rfl
        · exact (((p5.ex (e6.trans e7)).upd hbp hbl).mono (by omega))
      · have xne := of_decide_eq_false hb6
        have xi : x < i := by omega
        refine q_app (xs := nv (sby c i)) (v := .int (((sby c i).getD x 0 : Nat) : Int)) (e6 b _ hb5) (ev_var rfl) (ev_op (ev_var rfl) (ev_var rfl) (rv_ixL (K := K) (sq_of (e6 b _ hb5)) (atI_nat (nv_get (i := x) ?_)))) (by rw [nv_len]; omega) fun H7 e7 => ?_
        · rw [List.getD_eq_getElem?_getD, List.getElem?_eq_getElem (by omega)]
          rfl
        refine s_setL (j := x) upd_same (v := .int (i : Int)) (ev_var rfl) (ev_var rfl) (ev_var rfl) (by rw [List.length_append, nv_len]; omega) fun H8 e8 => ?_
        refine ⟨c ++ [x], _, _, _, rfl, ?_, by simp [cl], cm', ?_, Ex.mut ((Ex.mut (hm_trans e' (hm_trans eA (hm_of (e6.trans e7)))) nbm).trans e8) nbm⟩
        · rw [upd_same, ext.2, sits_app sl xne, nv_eq ((sby c i ++ [(sby c i).getD x 0]).set x i), List.map_set, ← nv_eq, nv_app]
          rfl
        · exact (((((p5.ex (e6.trans e7)).upd hbp hbl).ex e8).upd hbp hbl).mono (by omega))
    · rintro σ' H' ⟨c, y4, y5, y6, rfl, hb, cl, cm, p', e'⟩
      rw [Int.toNat_natCast] at hb cl p'
      exact s_ret (ev_var rfl) fun H3 e3 => k b c H3 nb (e3 b _ hb) cl cm ((p'.ex e3).mono (by omega)) (hm_trans e' (hm_of e3))
end


local macro_rules | `(tactic| walk_at "call") => `(tactic| (with_reducible exact sv_whole))
local macro_rules | `(tactic| walk_at "call") => `(tactic| ((with_reducible refine' sv_order ?c1 ?c2); (case c1 => assumption); (case c2 => assumption)))
local macro_rules | `(tactic| walk_at "call") => `(tactic| ((with_reducible refine' sv_ord ?c1 ?c2); (case c1 => assumption); (case c2 => assumption)))

theorem given_at {n : Nat} (v : Nat → V) : given n (fun _ => true) v = (List.range n).map v := by
  unfold given
  rw [List.filter_eq_self.mpr fun _ _ => rfl]
theorem et_tru {K : PySem.W.Frag} {σ : L2.St} {H : Hp} {ta : TE} {a : Addr} {xs : List V} (h : Ev ta σ H (.ref a)) (hx : SqL K H a xs) : EvT (fun σ H Q => ta σ H fun x H' => ∃ k, TruV K x H' k ∧ Q k H') σ H (!xs.isEmpty) := fun H1 e Q q => h H1 e _ fun H2 e2 => ⟨_, .inl ⟨xs, ex_l (e.trans e2) hx, rfl⟩, q H2 e2⟩
section
variable {K : PySem.W.Frag} {σ : L2.St} {H : Hp} {ta te : TE} {tr : TA} {D : Ends}
theorem nv_flat (r : List Nat) : (nv r).all flatV = true := by
  rw [nv_eq, List.all_map, List.all_eq_true]
  intro x _
  rfl
theorem nv_in (r : List Nat) (x : Nat) : inV (.int x) (nv r) = decide (x ∈ r) := by
  unfold inV
  rw [nv_eq, List.any_map, Bool.eq_iff_iff, List.any_eq_true, decide_eq_true_iff]
  constructor
  · rintro ⟨y, hy, e⟩
    have : ((y : Int) == (x : Int)) = true := e
    have := eq_of_beq this
    have : y = x := by omega
    exact this ▸ hy
  · intro h
    exact ⟨x, h, beq_self_eq_true _⟩
theorem s_dropBM {r : V → List V → Hp → VK → Prop} {l : Addr} {xs : List V} (hl : H l = some (.lst xs)) (ha : Ev ta σ H (.ref l)) (k : ∀ H1, Ex H H1 → tr σ H1 fun vs H2 => r (.ref l) vs H2 fun _ H3 => D.nx σ H3) : tDrop (tBM K "list" r ta tr) D σ H :=
  ha H (Ex.refl H) _ fun H1 e1 => ⟨Or.inl ⟨rfl, xs, sq_of (e1 l _ hl)⟩, k H1 e1⟩
theorem ev_index {l : Addr} {r : List Nat} {x : Nat} (hl : H l = some (.lst (nv r))) (ha : Ev ta σ H (.ref l)) (he : Ev te σ H (.int (x : Int))) (hx : x ∈ r) : Ev (tBM K "list" (rIndex K) ta (tCons te tNil)) σ H (.int (r.idxOf x : Nat)) := fun H1 e Q q =>
  ha H1 e _ fun H2 e2 => ⟨Or.inl ⟨rfl, _, sq_of (e2 l _ (e l _ hl))⟩, he H2 (e.trans e2) _ fun H3 e3 => by
    have hlt := List.idxOf_lt_length_of_mem hx
    refine ⟨l, nv r, .int x, r.idxOf x, .int x, rfl, rfl, sq_of (e3 l _ (e2 l _ (e l _ hl))), rfl, nv_flat r, nv_get (by rw [List.getElem?_eq_getElem hlt, List.getElem_idxOf hlt]), beq_self_eq_true _, fun m z hm hz => ?_, q H3 (e2.trans e3)⟩
    have hml : m < r.length := by omega
    have := nv_get (List.getElem?_eq_getElem hml)
    rw [hz] at this
    have ez := Option.some.inj this
    subst ez
    show ((r[m] : Int) == (x : Int)) = false
    rw [beq_eq_false_iff_ne]
    intro ee
    have ee' : r[m] = x := by omega
    have h1 : r.idxOf x ≤ m := by
      have hh : r.findIdx (· == x) ≤ m := by
        refine Nat.le_of_not_lt fun hlt2 => ?_
        have := List.not_of_lt_findIdx hlt2
        rw [ee'] at this
        simp at this
      exact hh
    omega⟩
end

theorem nv_at {l : List Nat} {i : Nat} (h : i < l.length) : (nv l)[i]? = some (.int ((l.getD i 0 : Nat) : Int)) := nv_get (by
  rw [List.getD_eq_getElem?_getD, List.getElem?_eq_getElem h]
  rfl)

def sp_check_any : Sp := fun vs H Q _ => ∃ z : Int, vs = [.int z] ∧ RetV .non H Q
theorem sv_check_any {H : Hp} {z : Int} : SpV sp_check_any ([.int z] ++ []) H .non := fun H1 _ Q q E => ⟨z, rfl, q⟩
section
variable {P : Program} {w : World} {K : PySem.W.Frag} {mg : Str → Option Value} {base : Heap}
theorem ok_check_any_number (T : Tx K mg) : FnOk P w K mg base CX0 2 T.f_check_any_number T.d_check_any_number ["number"] sp_check_any := by
  refine T.F_check_any_number.ok sc_check_any_number (fun vs H Q E h => ?_) (fun cdv A outer s H vs Q E hr h => ?_)
  · obtain ⟨z, rfl, _⟩ := h
    rfl
  · obtain ⟨z, rfl, k⟩ := h
    refine ⟨_, (pss_one (ps_if (pt_not (pt_val (pe_call (ok_is_whole T) (hr.mono (by decide)) (by rfl) T.g_is_whole T.F_is_whole.kp T.b_is_whole .nil pass0 (pa_cons (pv 0) pa_nil)))) (pss_one ps_never) pss_nil)), ?_⟩
    exact s_when (b := false) (et_is (by walk_at "et") (by rfl)) (fun hb => Bool.noConfusion hb) fun _ H1 e1 => k _ e1
end
theorem elt_tables {σ : L2.St} {H : Hp} {ta : TE} {E : XK} {a : Addr} {h : List Nat} {rs : List (List Nat)} (hv : Ev ta σ H (.ref a)) (ha : H a = some (.lst (nv h))) (o : Ord h) (R : Rings h rs) : EvLT (tCall sp_tables_of [] E (tCons ta tNil)) σ H (rs.map nv) := fun H1 e Q q =>
  hv H1 e _ fun H2 e2 => ⟨a, h, rs, rfl, e2 a _ (e a _ ha), o, R, fun p ws H3 hp e3 h3 ht => q p ws H3 (fresh_back e2 hp) (e2.trans e3) h3 ht⟩
theorem q_forLT {K : PySem.W.Frag} {σ : L2.St} {H : Hp} {tl : TE} {g : TG} {tu tz : TS} {D : Ends} {rs : List (List V)} (h : EvLT tl σ H rs) (k : ∀ p vs H1, H p = none → Ex H H1 → H1 p = some (.lst vs) → TL H1 vs rs → tSeq (tFor (iList K (tC (.ref p))) g tu) tz D σ H1) : tSeq (tFor (iList K tl) g tu) tz D σ H :=
  h H (Ex.refl H) _ fun p vs H1 np e hp t => k p vs H1 np e hp t
theorem nv_set {c : List Nat} {x y : Nat} : (nv c).set x (.int y) = nv (c.set x y) := by
  rw [nv_eq, nv_eq, List.map_set]
theorem paired_get {α β : Type} {F : α → β → Prop} : ∀ {l : List α} {m : List β} {i : Nat} {x : α}, Paired F l m → l[i]? = some x → ∃ y, m[i]? = some y ∧ F x y
  | _, _, 0, x, .cons h t, hx => ⟨_, rfl, (Option.some.inj (by simpa using hx)) ▸ h⟩
  | _, _, i + 1, x, .cons h t, hx => by
    obtain ⟨y, h1, h2⟩ := paired_get (i := i) t (by simpa using hx)
    exact ⟨y, by simpa using h1, h2⟩
  | _, _, 0, x, .nil, hx => by simp at hx
  | _, _, i + 1, x, .nil, hx => by simp at hx
theorem flat_next {rs : List (List Nat)} {i : Nat} {r : List Nat} (h : rs[i]? = some r) : (rs.take (i + 1)).flatten = (rs.take i).flatten ++ r := by
  rw [take_next h, List.flatten_append]
  simp
theorem TL.mut {H : Hp} {p : Addr} {l : List V} {o : HO} (hp : H p = some (.lst l)) : ∀ {ws : List V} {rs : List (List V)}, TL H ws rs → TL (upd H p o) ws rs
  | [], [], _ => .nil
  | _ :: _, _ :: _, .cons ⟨b, e, h⟩ t => .cons ⟨b, e, by
    rw [upd_ne (fun z => by
      rw [z, hp] at h
      cases h)]
    exact h⟩ (TL.mut hp t)
def sp_power : Sp := fun vs H Q _ => ∃ (a : Addr) (h : List Nat) (rs : List (List Nat)) (z : Int) (t : List Nat), vs = [.ref a, .int z] ∧ H a = some (.lst (nv h)) ∧ Ord h ∧ Rings h rs ∧ t.length = h.length ∧ (∀ r ∈ rs, ∀ (i x : Nat), r[i]? = some x → t[x]? = r[(((i : Int) + z) % (r.length : Int)).toNat]?) ∧ RetL (nv t) H Q
section
variable {P : Program} {w : World} {K : PySem.W.Frag} {mg : Str → Option Value} {base : Heap}
theorem ok_power (T : Tx K mg) : FnOk P w K mg base CX0 6 T.f_power T.d_power ["seating", "number"] sp_power := by
  refine T.F_power.ok sc_power (fun vs H Q E h => ?_) (fun cdv A outer s0 H vs Q E hr h => ?_)
  · obtain ⟨a, h, rs, z, t, rfl, _⟩ := h
    rfl
  · obtain ⟨a, h, rs, z, t, rfl, ha, o, R, tl, ht, k⟩ := h
    refine ⟨_, (pss_cons (ps_expr (pe_call (ok_check_seating T) (hr.mono (by decide)) (by rfl) T.g_check_seating T.F_check_seating.kp T.b_check_seating .nil pass0 (pa_cons (pv 0) pa_nil)))
      (pss_cons (ps_expr (pe_call (ok_check_any_number T) (hr.mono (by decide)) (by rfl) T.g_check_any_number T.F_check_any_number.kp T.b_check_any_number .nil pass0 (pa_cons (pv 1) pa_nil)))
      (pss_cons (ps_set (i := 2) sc_power.nd rfl (Or.inl rfl) (pe_op op_rep (pe_lst (pa_cons pe_int pa_nil)) (pe_callB call_lenR (by rfl) T.m_len (by decide +kernel) (pa_cons (pv 0) pa_nil))))
      (pss_cons (ps_for PassesOwn.never rfl (pi_list (pe_call (ok_tables_of T) (hr.mono (by decide)) (by rfl) T.g_tables_of T.F_tables_of.kp T.b_tables_of .nil pass0 (pa_cons (pv 0) pa_nil))) (pg_name (i := 3) sc_power.nd rfl (Or.inl rfl)) (pss_one (ps_for PassesOwn.never rfl (pi_enumS (by rfl) T.m_enumerate (pa_cons (pv 3) pa_nil)) (pg_tup rfl (pgs_cons (pg_name (i := 4) sc_power.nd rfl (Or.inl rfl)) (pgs_cons (pg_name (i := 5) sc_power.nd rfl (Or.inl rfl)) pgs_nil))) (pss_one (ps_asg (pe_ix ix_tup (pv 3) (pe_op op_mod (pe_op op_add (pv 4) (pv 1)) (pe_callB call_lenR (by rfl) T.m_len (by decide +kernel) (pa_cons (pv 3) pa_nil))) (fun _ _ => rfl)) (pg_sub (pv 2) (pv 5) set_list))))))
      (pss_one (ps_ret (pv 2))))))), ?_⟩
    have o2 := o.2
    have hp := R.all
    have hfl : rs.flatten.length = h.length := by rw [hp.length_eq, List.length_range]
    refine q_drop (ev_call (z := .non) (ea_cons (ev_var rfl) ea_nil) (sv_ord ha o)) fun H1 e1 => ?_
    refine q_drop (ev_call (z := .non) (ea_cons (ev_var rfl) ea_nil) sv_check_any) fun H2 e2 => ?_
    have ha2 := e2 a _ (e1 a _ ha)
    have lenA : ∀ {σ : L2.St}, σ[0]? = some (some (.ref a)) → Ev (tCB (rLenS K) (tCons (tVar 0) tNil)) σ H2 (.int (h.length : Int)) := fun h0 => ev_is (ev_len (K := K) (ev_var h0) (sq_of ha2)) (by rw [nv_len])
    refine q_asgL (xs := nv (List.replicate h.length 0)) ?_ fun p H3 np e3 hpp => ?_
    · have := el_rep (ta := tLst (tCons (tC (.int 0)) tNil)) (tb := tCB (rLenS K) (tCons (tVar 0) tNil)) (σ := [some (.ref a), some (.int z), none, none, none, none]) (H := H2) (xs := [.int 0]) (k := (h.length : Int)) (el_lst (ea_cons ev_c ea_nil) (Nat.le_of_ble_eq_true rfl)) (lenA rfl) (by omega) (by omega) (by decide)
      rw [Int.toNat_natCast] at this
      have e : (List.replicate h.length [V.int 0]).flatten = nv (List.replicate h.length 0) := by
        rw [nv_eq, List.map_replicate]
        generalize h.length = m
        induction m with
        | zero => rfl
        | succ m ih =>
          rw [List.replicate_succ, List.flatten_cons, ih, List.replicate_succ]
          rfl
      rw [e] at this
      exact this
    have np0 := fresh_back (e1.trans e2) np
    refine q_forLT (K := K) (elt_tables (ev_var rfl) (e3 a _ ha2) o R) fun q ws H4 nq e4 hq tq => ?_
    have wl := tq.len
    rw [List.length_map] at wl
    have hpp4 := e4 p _ hpp
    have e04 := e1.trans (e2.trans (e3.trans e4))
    have qp : q ≠ p := fun z => by
      rw [z, hpp] at nq
      cases nq
    refine q_forL (K := K) (a := q) (xs := ws) ev_c (sq_of hq) (fun i σ' H' => ∃ (c : List Nat) (y3 y4 y5 : Option V), σ' = [some (.ref a), some (.int z), some (.ref p), y3, y4, y5] ∧ Ex H H' ∧ H' p = some (.lst (nv c)) ∧ c.length = h.length ∧ (∀ x ∈ (rs.take i).flatten, c[x]? = t[x]?) ∧ H' q = some (.lst ws) ∧ TL H' ws (rs.map nv)) (fun H5 e5 => ⟨List.replicate h.length 0, _, _, _, rfl, e04.trans e5, e5 p _ hpp4, by simp, by simp, e5 q _ hq, tq.ex e5⟩) (fun i σ' H' _ ⟨_, _, _, _, _, _, _, _, _, z, _⟩ => sq_of z) ?_ ?_
    · rintro i v σ' H5 hv ⟨c, y3, y4, y5, rfl, e5, hc, hcl, hd, hq5, tq5⟩
      obtain ⟨y, hy, b, rfl, hb⟩ := paired_get tq5 hv
      rw [List.getElem?_map] at hy
      obtain ⟨r, hr, rfl⟩ := Option.map_eq_some_iff.mp hy
      have hrm := List.mem_of_getElem? hr
      have Rr := R.rg r hrm
      have rl : r.length ≤ h.length := by
        have := (List.sublist_flatten_of_mem hrm).length_le
        omega
      have bp : b ≠ p := fun z => by
        rw [z, hc] at hb
        cases hb
      refine s_forEnS (K := K) (i := 4) (j := 5) (xs := nv r) (ea_cons (ev_var rfl) ea_nil) (fun H => H b = some (.tup (nv r))) (.inr fun H g => st_of g) (fun H1 e1 => e1 b _ hb) (fun m σ' H2 => ∃ (c : List Nat) (y4 y5 : Option V), σ' = [some (.ref a), some (.int z), some (.ref p), some (.ref b), y4, y5] ∧ Ex H H2 ∧ H2 p = some (.lst (nv c)) ∧ c.length = h.length ∧ (∀ x ∈ (rs.take i).flatten ++ r.take m, c[x]? = t[x]?) ∧ H2 q = some (.lst ws) ∧ TL H2 ws (rs.map nv) ∧ H2 b = some (.tup (nv r))) (fun H6 e6 => ⟨c, _, _, rfl, e5.trans e6, e6 p _ hc, hcl, by simpa using hd, e6 q _ hq5, tq5.ex e6, e6 b _ hb⟩) (fun m σ' H2 _ ⟨_, _, _, _, _, _, _, _, _, _, z⟩ => z) ?_ ?_
      · rintro m x σ' H6 H7 hx ⟨c, y4, y5, rfl, e6, hc6, hcl6, hd6, hq6, tq6, hb6⟩ e7
        have hml : m < r.length := by
          have := (List.getElem?_eq_some_iff.mp hx).1
          rwa [nv_len] at this
        rw [nv_at hml] at hx
        cases hx
        have hx0 : r[m]? = some (r.getD m 0) := by
          rw [List.getD_eq_getElem?_getD, List.getElem?_eq_getElem hml]
          rfl
        have xm : r.getD m 0 ∈ rs.flatten := List.mem_flatten.mpr ⟨r, hrm, List.mem_of_getElem? hx0⟩
        have x0l := List.mem_range.mp (hp.mem_iff.mp xm)
        have rpos : (0 : Int) < (r.length : Int) := by omega
        have m0 := Int.emod_nonneg ((m : Int) + z) (show (r.length : Int) ≠ 0 by omega)
        have m1 := Int.emod_lt_of_pos ((m : Int) + z) rpos
        obtain ⟨j, hj⟩ : ∃ j : Nat, ((m : Int) + z) % (r.length : Int) = (j : Int) := ⟨_, (Int.toNat_of_nonneg m0).symm⟩
        have jl : j < r.length := by omega
        have tx := ht r hrm m _ hx0
        rw [hj, Int.toNat_natCast] at tx
        have hjr : r[j]? = some (r.getD j 0) := by
          rw [List.getD_eq_getElem?_getD, List.getElem?_eq_getElem jl]
          rfl
        rw [hjr] at tx
        have hb7 := e7 b _ hb6
        have hc7 := e7 p _ hc6
        refine s_setL (j := r.getD m 0) (v := .int ((r.getD j 0 : Nat) : Int)) hc7 (ev_op (ev_var rfl) (ev_is (ev_op (ev_op (ev_var rfl) (ev_var rfl) rv_I0) (ev_is (ev_lenT (K := K) (ev_var rfl) (st_of hb7)) (by rw [nv_len])) (rv_I rpos)) (by rw [hj])) (rv_ixT (K := K) (st_of hb7) (atI_nat (nv_get hjr)))) (ev_var rfl) (ev_var rfl) (by rw [nv_len]; omega) fun H8 e8 => ?_
        refine ⟨c.set (r.getD m 0) (r.getD j 0), _, _, rfl, Ex.mut (e6.trans (e7.trans e8)) np0, ?_, by simp [hcl6], ?_, ?_, TL.mut (e8 p _ hc7) (tq6.ex (e7.trans e8)), ?_⟩
        · rw [upd_same, nv_set]
        · intro w hw
          by_cases ez : w = r.getD m 0
          · rw [ez, List.getElem?_set_self (by omega)]
            exact tx.symm
          · rw [List.getElem?_set_ne (Ne.symm ez)]
            refine hd6 w ?_
            rw [take_next hx0] at hw
            rcases List.mem_append.mp hw with h1 | h1
            · exact List.mem_append_left _ h1
            · rcases List.mem_append.mp h1 with h2 | h2
              · exact List.mem_append_right _ h2
              · exact absurd (List.mem_singleton.mp h2) ez
        · rw [upd_ne qp]
          exact (e7.trans e8) q _ hq6
        · rw [upd_ne bp]
          exact (e7.trans e8) b _ hb6
      · rintro σ' H6 ⟨c, y4, y5, rfl, e6, hc6, hcl6, hd6, hq6, tq6, hb6⟩
        rw [nv_len, List.take_length] at hd6
        refine ⟨c, _, _, _, rfl, e6, hc6, hcl6, ?_, hq6, tq6⟩
        rw [flat_next hr]
        exact hd6
    · rintro σ' H5 ⟨c, y3, y4, y5, rfl, e5, hc, hcl, hdone, _, _⟩
      rw [wl, List.take_length] at hdone
      have eq : c = t := by
        refine List.ext_getElem? fun x => ?_
        by_cases hx : x < h.length
        · exact hdone x (hp.mem_iff.mpr (List.mem_range.mpr hx))
        · rw [List.getElem?_eq_none (by omega), List.getElem?_eq_none (by omega)]
      subst eq
      exact s_ret (ev_var rfl) fun H6 e6 => k p H6 np0 (e5.trans e6) (e6 p _ hc)
end


local macro_rules | `(tactic| walk_at "call") => `(tactic| (with_reducible exact sv_whole))
local macro_rules | `(tactic| walk_at "call") => `(tactic| ((with_reducible refine' sv_order ?c1 ?c2); (case c1 => assumption); (case c2 => assumption)))
local macro_rules | `(tactic| walk_at "call") => `(tactic| ((with_reducible refine' sv_ord ?c1 ?c2); (case c1 => assumption); (case c2 => assumption)))

/-! ### the period -/
def lcmL (ns : List Nat) : Nat := ns.foldl Nat.lcm 1
theorem lcm_le {a b : Nat} : Nat.lcm a b ≤ a * b := by
  unfold Nat.lcm
  exact Nat.div_le_self _ _
theorem lcmL_bd {ns : List Nat} : ∀ (m : Nat), (∀ x ∈ ns, x ≤ 20) → ns.foldl Nat.lcm m ≤ m * 20 ^ ns.length := by
  induction ns with
  | nil => intro m _; simp
  | cons x l ih =>
    intro m h
    have a := ih (Nat.lcm m x) fun y hy => h y (List.mem_cons_of_mem _ hy)
    have b := h x List.mem_cons_self
    rw [List.foldl_cons, List.length_cons, Nat.pow_succ]
    refine Nat.le_trans a ?_
    rw [← Nat.mul_assoc, Nat.mul_right_comm]
    exact Nat.mul_le_mul_right _ (Nat.le_trans lcm_le (Nat.mul_le_mul_left _ b))
theorem two_pow_ge (x : Nat) : x ≤ 2 ^ x := Nat.le_of_lt Nat.lt_two_pow_self
theorem lcmL_pow : ∀ (ns : List Nat) (m : Nat), ns.foldl Nat.lcm m ≤ m * 2 ^ ns.sum
  | [], m => by simp
  | x :: l, m => by
    have a := lcmL_pow l (Nat.lcm m x)
    rw [List.foldl_cons, List.sum_cons, Nat.pow_add, ← Nat.mul_assoc]
    exact Nat.le_trans a (Nat.mul_le_mul_right _ (Nat.le_trans lcm_le (Nat.mul_le_mul_left _ (two_pow_ge x))))
def perR (rs : List (List Nat)) : Nat := lcmL (rs.map (·.length))
theorem perR_next {rs : List (List Nat)} {i : Nat} {r : List Nat} (h : rs[i]? = some r) : perR (rs.take (i + 1)) = Nat.lcm (perR (rs.take i)) r.length := by
  unfold perR lcmL
  rw [take_next h, List.map_append, List.foldl_append]
  rfl
theorem sum_flat : ∀ rs : List (List Nat), (rs.map (·.length)).sum = rs.flatten.length
  | [] => rfl
  | r :: l => by rw [List.map_cons, List.sum_cons, sum_flat l, List.flatten_cons, List.length_append]
theorem perR_bd {h : List Nat} {rs : List (List Nat)} (R : Rings h rs) (o : Ord h) (i : Nat) : perR (rs.take i) < 2 ^ 60 := by
  have a := lcmL_pow ((rs.take i).map (·.length)) 1
  rw [sum_flat, Nat.one_mul] at a
  have b : (rs.take i).flatten.length ≤ rs.flatten.length := by
    have : rs.flatten = (rs.take i).flatten ++ (rs.drop i).flatten := by rw [← List.flatten_append, List.take_append_drop]
    rw [this, List.length_append]
    omega
  have c : rs.flatten.length = h.length := by rw [R.all.length_eq, List.length_range]
  have o2 := o.2
  refine Nat.lt_of_le_of_lt (Nat.le_trans a (Nat.pow_le_pow_right (by decide) (show (rs.take i).flatten.length ≤ 20 by omega))) (by decide)
def sp_period : Sp := fun vs H Q _ => ∃ (a : Addr) (h : List Nat) (rs : List (List Nat)), vs = [.ref a] ∧ H a = some (.lst (nv h)) ∧ Ord h ∧ Rings h rs ∧ RetV (.int ((perR rs : Nat) : Int)) H Q
section
variable {P : Program} {w : World} {K : PySem.W.Frag} {mg : Str → Option Value} {base : Heap}
theorem ok_period_of (T : Tx K mg) : FnOk P w K mg base CX0 6 T.f_period_of T.d_period_of ["seating"] sp_period := by
  refine T.F_period_of.ok sc_period_of (fun vs H Q E h => ?_) (fun cdv A outer s0 H vs Q E hr h => ?_)
  · obtain ⟨a, h, rs, rfl, _⟩ := h
    rfl
  · obtain ⟨a, h, rs, rfl, ha, o, R, k⟩ := h
    refine ⟨_, (pss_cons (ps_set (i := 1) sc_period_of.nd rfl (Or.inl rfl) pe_int)
      (pss_cons (ps_for PassesOwn.never rfl (pi_list (pe_call (ok_tables_of T) (hr.mono (by decide)) (by rfl) T.g_tables_of T.F_tables_of.kp T.b_tables_of .nil pass0 (pa_cons (pv 0) pa_nil))) (pg_name (i := 2) sc_period_of.nd rfl (Or.inl rfl)) (pss_one (ps_set (i := 1) sc_period_of.nd rfl (Or.inl rfl) (pe_callBfun cr_lcm (by rfl) T.i_lcm (pa_cons (pv 1) (pa_cons (pe_callB call_lenR (by rfl) T.m_len (by decide +kernel) (pa_cons (pv 2) pa_nil)) pa_nil))))))
      (pss_one (ps_ret (pv 1))))), ?_⟩
    have o2 := o.2
    have hfl : rs.flatten.length = h.length := by rw [R.all.length_eq, List.length_range]
    refine q_asg (v := .int 1) ev_c fun H1 e1 => ?_
    refine q_forLT (K := K) (elt_tables (ev_var rfl) (e1 a _ ha) o R) fun q ws H2 nq e2 hq tq => ?_
    have wl := tq.len
    rw [List.length_map] at wl
    refine q_forL (K := K) (a := q) (xs := ws) ev_c (sq_of hq) (fun i σ' H' => ∃ y2, σ' = [some (.ref a), some (.int ((perR (rs.take i) : Nat) : Int)), y2] ∧ Ex H2 H') (fun H3 e3 => ⟨_, rfl, e3⟩) (fun i σ' H' _ ⟨_, _, e⟩ => sq_of (e q _ hq)) ?_ ?_
    · rintro i v σ' H3 hv ⟨y2, rfl, e3⟩
      obtain ⟨y, hy, b, rfl, hbb⟩ := paired_get (tq.ex e3) hv
      rw [List.getElem?_map] at hy
      obtain ⟨r, hr, rfl⟩ := Option.map_eq_some_iff.mp hy
      have hrm := List.mem_of_getElem? hr
      have rl : r.length ≤ h.length := by
        have := (List.sublist_flatten_of_mem hrm).length_le
        omega
      have il := (List.getElem?_eq_some_iff.mp hr).1
      exact s_asg (v := .int ((perR (rs.take (i + 1)) : Nat) : Int)) (ev_is (ev_lcm (ev_var rfl) (ev_is (ev_lenT (K := K) (ev_var rfl) (st_of hbb)) (by rw [nv_len])) (perR_bd R o i) (Nat.lt_of_le_of_lt (show r.length ≤ 20 by omega) (by decide))) (by rw [perR_next hr])) fun H4 e4 => ⟨_, rfl, e3.trans e4⟩
    · rintro σ' H3 ⟨y2, rfl, e3⟩
      rw [wl, List.take_length]
      exact s_ret (ev_var rfl) fun H4 e4 => k H4 (e1.trans (e2.trans (e3.trans e4)))
end


local macro_rules | `(tactic| walk_at "call") => `(tactic| (with_reducible exact sv_whole))
local macro_rules | `(tactic| walk_at "call") => `(tactic| ((with_reducible refine' sv_order ?c1 ?c2); (case c1 => assumption); (case c2 => assumption)))
local macro_rules | `(tactic| walk_at "call") => `(tactic| ((with_reducible refine' sv_ord ?c1 ?c2); (case c1 => assumption); (case c2 => assumption)))

section
variable {K : PySem.W.Frag} {σ : L2.St} {H : Hp} {ta te : TE} {D : Ends} {tz : TS}
theorem q_parL2 {i j : Nat} {xs ys : List V} {tb : TE} (ha : EvL ta σ H xs) (hb : EvL tb σ H ys) (k : ∀ p q H1, H p = none → H q = none → p ≠ q → Ex H H1 → H1 p = some (.lst xs) → H1 q = some (.lst ys) → tz D ((σ.set i (some (.ref p))).set j (some (.ref q))) H1) :
    tSeq (tPar i j (tCons ta (tCons tb tNil))) tz D σ H := ha H (Ex.refl H) _ fun p H1 hp e1 h1 => hb H1 e1 _ fun q H2 hq e2 h2 => ⟨_, _, rfl, k p q H2 hp (fresh_back e1 hq) (ne_of_none h1 hq) (e1.trans e2) (e2 p _ h1) h2⟩
end

/-! ### _law_tables -/
def Fh (rs : List (List Nat)) (i : Nat) : List (List Nat) := rs.filter fun r => decide (r.headD 0 < i)
theorem fh_same {rs : List (List Nat)} {i : Nat} (h : ∀ r ∈ rs, r.headD 0 ≠ i) : Fh rs (i + 1) = Fh rs i := by
  unfold Fh
  refine List.filter_congr fun r hr => ?_
  have := h r hr
  rw [Bool.eq_iff_iff, decide_eq_true_iff, decide_eq_true_iff]
  omega
theorem fh_next : ∀ {rs : List (List Nat)} {r : List Nat}, (rs.map (·.headD 0)).Pairwise (· < ·) → r ∈ rs → Fh rs (r.headD 0 + 1) = Fh rs (r.headD 0) ++ [r]
  | s :: l, r, h, hr => by
    rw [List.map_cons, List.pairwise_cons] at h
    rcases List.mem_cons.mp hr with rfl | hr
    · have no : ∀ x ∈ l, r.headD 0 < x.headD 0 := fun x hx => h.1 _ (List.mem_map.mpr ⟨x, hx, rfl⟩)
      unfold Fh
      rw [List.filter_cons, if_pos (by rw [decide_eq_true_iff]; omega), List.filter_cons, if_neg (by rw [decide_eq_true_iff]; omega)]
      rw [List.filter_eq_nil_iff.mpr fun x hx => by have := no x hx; rw [decide_eq_true_iff]; omega, List.filter_eq_nil_iff.mpr fun x hx => by have := no x hx; rw [decide_eq_true_iff]; omega]
      rfl
    · have lt : s.headD 0 < r.headD 0 := h.1 _ (List.mem_map.mpr ⟨r, hr, rfl⟩)
      have ih := fh_next h.2 hr
      unfold Fh at ih ⊢
      rw [List.filter_cons, if_pos (by rw [decide_eq_true_iff]; omega), List.filter_cons, if_pos (by rw [decide_eq_true_iff]; omega), ih]
      rfl
theorem fh_all {rs : List (List Nat)} {n : Nat} (h : ∀ r ∈ rs, r.headD 0 < n) : Fh rs n = rs := List.filter_eq_self.mpr fun r hr => by rw [decide_eq_true_iff]; exact h r hr
theorem fh_zero (rs : List (List Nat)) : Fh rs 0 = [] := List.filter_eq_nil_iff.mpr fun r _ => by rw [decide_eq_true_iff]; omega
theorem Rings.head_lt {h : List Nat} {rs : List (List Nat)} (R : Rings h rs) {r : List Nat} (hr : r ∈ rs) : r.headD 0 < h.length := by
  have := head_mem (R.rg r hr).ne
  exact List.mem_range.mp (R.all.mem_iff.mp (List.mem_flatten.mpr ⟨r, hr, this⟩))
theorem Rings.seen {h : List Nat} {rs : List (List Nat)} (R : Rings h rs) {i : Nat} (hi : i < h.length) : (i ∈ (Fh rs i).flatten ∧ ∀ r ∈ rs, r.headD 0 ≠ i) ∨ (i ∉ (Fh rs i).flatten ∧ ∃ r ∈ rs, r.headD 0 = i) := by
  obtain ⟨r, hr, hx⟩ := List.mem_flatten.mp (R.all.mem_iff.mpr (List.mem_range.mpr hi))
  have lo := R.low r hr i hx
  rcases Nat.lt_or_ge (r.headD 0) i with lt | ge
  · refine .inl ⟨List.mem_flatten.mpr ⟨r, List.mem_filter.mpr ⟨hr, by rw [decide_eq_true_iff]; exact lt⟩, hx⟩, fun s hs e => ?_⟩
    have sm : i ∈ s := by
      rw [← e]
      exact head_mem (R.rg s hs).ne
    have := nodup_flat R.nodup hr hs hx sm
    subst this
    omega
  · refine .inr ⟨fun z => ?_, r, hr, by omega⟩
    obtain ⟨s, hs, hs2⟩ := List.mem_flatten.mp z
    obtain ⟨hs1, hs3⟩ := List.mem_filter.mp hs
    have := nodup_flat R.nodup hr hs1 hx hs2
    subst this
    rw [decide_eq_true_iff] at hs3
    omega
theorem el_cat2 {K : PySem.W.Frag} {σ : L2.St} {H : Hp} {ta tb : TE} {a b : Addr} {xs ys : List V} (ha : Ev ta σ H (.ref a)) (hb : Ev tb σ H (.ref b)) (hx : H a = some (.lst xs)) (hy : H b = some (.lst ys)) (hl : xs.length + ys.length ≤ 100000) : EvL (tOp rCat ta tb) σ H (xs ++ ys) := fun H1 e Q q =>
  ha H1 e _ fun H2 e2 => hb H2 (e.trans e2) _ fun H3 e3 =>
    ⟨a, b, xs, ys, rfl, rfl, (e.trans (e2.trans e3)) a _ hx, (e.trans (e2.trans e3)) b _ hy, sz_of hl, fun l hl' => q l _ (fresh_back (e2.trans e3) hl') ((e2.trans e3).trans (Ex.new hl')) upd_same⟩
theorem sub_flat {s l : List (List Nat)} (h : s.Sublist l) : s.flatten.length ≤ l.flatten.length := by
  induction h with
  | slnil => exact Nat.le_refl _
  | cons a _ ih => rw [List.flatten_cons, List.length_append]; omega
  | cons_cons a _ ih => rw [List.flatten_cons, List.flatten_cons, List.length_append, List.length_append]; omega
theorem fh_len {h : List Nat} {rs : List (List Nat)} (R : Rings h rs) (i : Nat) : (Fh rs i).flatten.length ≤ h.length := by
  have s : (Fh rs i).Sublist rs := List.filter_sublist
  have := sub_flat s
  have e := R.all.length_eq
  rw [List.length_range] at e
  omega
theorem fh_num {h : List Nat} {rs : List (List Nat)} (R : Rings h rs) (i : Nat) : (Fh rs i).length ≤ h.length := by
  have s : (Fh rs i).Sublist rs := List.filter_sublist
  have l1 := s.length_le
  have e := R.all.length_eq
  rw [List.length_range] at e
  have : rs.length ≤ rs.flatten.length := by
    have ne : ∀ r ∈ rs, 1 ≤ r.length := fun r hr => (R.rg r hr).ne
    clear R e l1 s
    induction rs with
    | nil => exact Nat.le_refl _
    | cons x l ih =>
      have a := ih fun r hr => ne r (by simp [hr])
      have b := ne x (by simp)
      rw [List.flatten_cons, List.length_append, List.length_cons]
      omega
  omega
theorem q_parL1 {σ : L2.St} {H : Hp} {ta tb : TE} {D : Ends} {tz : TS} {i j : Nat} {xs : List V} {y : V} (ha : EvL ta σ H xs) (hb : ∀ H1, Ex H H1 → Ev tb σ H1 y) (k : ∀ p H1, H p = none → Ex H H1 → H1 p = some (.lst xs) → tz D ((σ.set i (some (.ref p))).set j (some y)) H1) :
    tSeq (tPar i j (tCons ta (tCons tb tNil))) tz D σ H := ha H (Ex.refl H) _ fun p H1 hp e1 h1 => hb H1 e1 H1 (Ex.refl _) _ fun H2 e2 => ⟨_, _, rfl, k p H2 hp (e1.trans e2) (e2 p _ h1)⟩
def sp_law_tables : Sp := fun vs H Q _ => ∃ (a : Addr) (h : List Nat) (rs : List (List Nat)), vs = [.ref a] ∧ H a = some (.lst (nv h)) ∧ h.length ≤ 20 ∧ Rings h rs ∧ (∀ p ws H2, H p = none → Ex H H2 → H2 p = some (.lst ws) → TL H2 ws (rs.map nv) → Q (.ref p) H2)
theorem elt_law_tables {σ : L2.St} {H : Hp} {ta : TE} {E : XK} {a : Addr} {h : List Nat} {rs : List (List Nat)} (ea : Ev ta σ H (.ref a)) (ha : H a = some (.lst (nv h))) (hl : h.length ≤ 20) (R : Rings h rs) : EvLT (tCall sp_law_tables [] E (tCons ta tNil)) σ H (rs.map nv) := fun H1 e Q q =>
  ea H1 e _ fun H2 e2 => ⟨a, h, rs, rfl, (e.trans e2) a _ ha, hl, R, fun p ws H3 np e3 hp t => q p ws H3 (fresh_back e2 np) (e2.trans e3) hp t⟩
section
variable {P : Program} {w : World} {K : PySem.W.Frag} {mg : Str → Option Value} {base : Heap}
theorem ok_law_tables (T : Tx K mg) : FnOk P w K mg base CX0 1 T.f_law_tables T.d_law_tables ["some"] sp_law_tables := by
  refine T.F_law_tables.ok sc_law_tables (fun vs H Q E h => ?_) (fun cdv A outer s H vs Q E hr h => ?_)
  · obtain ⟨a, h, rs, rfl, _⟩ := h
    rfl
  · obtain ⟨a, h, rs, rfl, ha, h20, R, k⟩ := h
    refine ⟨_, (pss_cons (ps_par (i := 1) (j := 2) (by rfl) sc_law_tables.nd rfl rfl (by decide) rfl rfl (pa_cons (pe_lst pa_nil) (pa_cons (pe_lst pa_nil) pa_nil)) (by rfl))
      (pss_cons (ps_for PassesOwn.never rfl (pi_range1 (by rfl) T.m_range (pa_cons (pe_callB call_lenR (by rfl) T.m_len (by decide +kernel) (pa_cons (pv 0) pa_nil)) pa_nil)) (pg_name (i := 3) sc_law_tables.nd rfl (Or.inl rfl)) (pss_one (ps_if (pt_cmpR op_notIn_seq (pv 3) (pv 1) (by rfl)) (pss_cons (ps_par (i := 4) (j := 5) (by rfl) sc_law_tables.nd rfl rfl (by decide) rfl rfl (pa_cons (pe_lst (pa_cons (pv 3) pa_nil)) (pa_cons (pe_ix ix_list (pv 0) (pv 3) (fun _ _ => rfl)) pa_nil)) (by rfl))
      (pss_cons (ps_while PassesOwn.never (pt_cmpR op_ne (pv 5) (pv 3) (nomark _)) (pss_cons (ps_expr (pe_bm PySem.F.plainAttrs_list PySem.F.slot_list_append PySem.F.type_list_append mt_append (pv 4) (pa_cons (pv 5) pa_nil)))
      (pss_one (ps_set (i := 5) sc_law_tables.nd rfl (Or.inl rfl) (pe_ix ix_list (pv 0) (pv 5) (fun _ _ => rfl))))))
      (pss_cons (ps_set (i := 1) sc_law_tables.nd rfl (Or.inl rfl) (pe_op op_cat (pv 1) (pv 4)))
      (pss_one (ps_expr (pe_bm PySem.F.plainAttrs_list PySem.F.slot_list_append PySem.F.type_list_append mt_append (pv 2) (pa_cons (pe_callTy call_tupR (by rfl) T.m_tuple (by decide +kernel) (pa_cons (pv 4) pa_nil)) pa_nil))))))) pss_nil)))
      (pss_one (ps_ret (pv 2))))), ?_⟩
    refine q_parL2 (xs := nv []) (ys := []) (el_lst ea_nil (Nat.le_of_ble_eq_true rfl)) (el_lst ea_nil (Nat.le_of_ble_eq_true rfl)) fun s0 f H1 fs0 ff sf e1 hs0 hf => ?_
    have sa : s0 ≠ a := fun z => by
      rw [z, ha] at fs0
      cases fs0
    have fa : f ≠ a := fun z => by
      rw [z, ha] at ff
      cases ff
    have len : Ev (tCB (rLenS K) (tCons (tVar 0) tNil)) [some (.ref a), some (.ref s0), some (.ref f), none, none, none] H1 (.int (h.length : Int)) := ev_is (ev_len (K := K) (ev_var (i := 0) rfl) (sq_of (e1 a _ ha))) (by rw [nv_len])
    refine q_forR1 (n := (h.length : Int)) (ea_cons len ea_nil) ⟨by omega, by omega⟩ (fun i σ' H' => ∃ (s : Addr) (ws : List V) (y3 y4 y5 : Option V), σ' = [some (.ref a), some (.ref s), some (.ref f), y3, y4, y5] ∧ Ex H H' ∧ s ≠ f ∧ H' s = some (.lst (nv (Fh rs i).flatten)) ∧ H' f = some (.lst ws) ∧ TL (Hm f H') ws ((Fh rs i).map nv))
      (fun H2 e2 => ⟨s0, [], none, none, none, rfl, e1.trans e2, sf, by rw [fh_zero]; exact e2 s0 _ hs0, e2 f _ hf, by rw [fh_zero]; exact .nil⟩) ?_ ?_
    · rintro i σ' H' hi ⟨s, ws, y3, y4, y5, rfl, e, nsf, hs, hf', ht⟩
      have hi' : i < h.length := by omega
      have fl := fh_len R i
      have fn := fh_num R i
      have wl : ws.length = (Fh rs i).length := by rw [ht.len, List.length_map]
      refine s_when (b := decide (i ∉ (Fh rs i).flatten)) (et_is (et_test (ev_op (ev_var rfl) (ev_var rfl) (rv_niL (K := K) (sq_of hs) rfl (nv_flat _)))) (by rw [nv_in, Bool.eq_iff_iff, Bool.not_eq_true', decide_eq_false_iff_not, decide_eq_true_iff])) (fun hb H2 e2 => ?_) fun hb H2 e2 => ?_
      · have hb := of_decide_eq_true hb
        obtain ⟨r, hr, hd⟩ : ∃ r ∈ rs, r.headD 0 = i := by
          rcases R.seen hi' with z | z
          · exact absurd z.1 hb
          · exact z.2
        have G := R.rg r hr
        have rl : r.length ≤ h.length := R.short hr
        have r0 : r[0]? = some i := by
          have ne := G.ne
          cases r with
          | nil => simp at ne
          | cons x l => rw [← hd]; rfl
        have hat : ∀ t, t < r.length → ∃ x y, r[t]? = some x ∧ r[(t + 1) % r.length]? = some y ∧ h[x]? = some y := G.st
        obtain ⟨x0, y0, hx0, hy0, hh0⟩ := hat 0 G.ne
        rw [r0] at hx0
        cases hx0
        refine q_parL1 (xs := nv [i]) (y := .int (y0 : Int)) (el_lst (ea_cons (ev_var rfl) ea_nil) (Nat.le_of_ble_eq_true rfl)) (fun H3 e3 => ev_op (ev_var rfl) (ev_var rfl) (rv_ixL (K := K) (sq_of ((e.trans (e2.trans e3)) a _ ha)) (atI_nat (nv_get hh0)))) fun tb H3 ntb e3 htb => ?_
        have e23 := e2.trans e3
        have ta' : tb ≠ a := fun z => by
          rw [z, e2 a _ (e a _ ha)] at ntb
          cases ntb
        have tbs : tb ≠ s := fun z => by
          rw [z, e2 s _ hs] at ntb
          cases ntb
        have tbf : tb ≠ f := fun z => by
          rw [z, e2 f _ hf'] at ntb
          cases ntb
        have ntb' := fresh_back e2 ntb
        refine q_while (fun mm σ' H4 => ∃ (t : Nat) (x : Nat), σ' = [some (.ref a), some (.ref s), some (.ref f), some (.int (i : Int)), some (.ref tb), some (.int (x : Int))] ∧ 1 ≤ t ∧ t ≤ r.length ∧ r[t % r.length]? = some x ∧ Ex H' H4 ∧ H4 tb = some (.lst (nv (r.take t))) ∧ mm = r.length - t) (r.length - 1) ⟨1, y0, rfl, Nat.le_refl _, G.ne, by simpa using hy0, e23, by
          have : r.take 1 = [i] := by
            rw [List.take_add_one, r0]
            rfl
          rw [this]
          exact htb, rfl⟩ ?_
        rintro mm σ' H4 ⟨t, x, rfl, t1, tl, hx, e4, htb4, rfl⟩
        have stop : x = i ↔ t = r.length := by
          constructor
          · intro z
            rcases Nat.lt_or_ge t r.length with lt | ge
            · rw [Nat.mod_eq_of_lt lt, z] at hx
              have ee : r[t]? = r[0]? := hx.trans r0.symm
              have := (List.getElem?_inj lt G.nd).mp ee
              omega
            · omega
          · intro z
            rw [z, Nat.mod_self, r0] at hx
            exact (Option.some.inj hx).symm
        refine ⟨decide (x ≠ i), et_is (et_test (ev_op (ev_var rfl) (ev_var rfl) (rv_ne rfl))) ?_, fun hb2 H5 e5 => ?_, fun hb2 H5 e5 => ?_⟩
        · rw [Bool.eq_iff_iff]
          simp only [Bool.not_eq_true', decide_eq_false_iff_not, decide_eq_true_eq]
          exact ⟨fun h1 h2 => h1 (by rw [h2]), fun h1 h2 => h1 (by have := V.int.inj h2; omega)⟩
        · have ne := of_decide_eq_true hb2
          have lt : t < r.length := by
            rcases Nat.lt_or_ge t r.length with lt | ge
            · exact lt
            · exact absurd (stop.mpr (by omega)) ne
          rw [Nat.mod_eq_of_lt lt] at hx
          obtain ⟨x1, y1, hx1, hy1, hh1⟩ := hat t lt
          rw [hx] at hx1
          cases hx1
          refine ⟨fun σ2 H6 => σ2 = [some (.ref a), some (.ref s), some (.ref f), some (.int (i : Int)), some (.ref tb), some (.int (y1 : Int))] ∧ Ex H' H6 ∧ H6 tb = some (.lst (nv (r.take (t + 1)))), fun σ2 H6 ⟨q1, q2, q3⟩ => ⟨r.length - (t + 1), by omega, t + 1, y1, q1, by omega, lt, hy1, q2, q3, rfl⟩, ?_⟩
          refine q_app (xs := nv (r.take t)) (e5 tb _ htb4) (ev_var rfl) (ev_var rfl) (by rw [nv_len, List.length_take]; omega) fun H6 e6 => ?_
          have eX : Ex H' (upd H6 tb (.lst (nv (r.take t) ++ [.int (x : Int)]))) := Ex.mut (e4.trans (e5.trans e6)) ntb'
          refine s_asg (v := .int (y1 : Int)) (ev_op (ev_var rfl) (ev_var rfl) (rv_ixL (K := K) (sq_of (eX a _ (e a _ ha))) (atI_nat (nv_get hh1)))) fun H7 e7 => ⟨rfl, eX.trans e7, e7 tb _ ?_⟩
          rw [upd_same, take_next hx, nv_app]
          rfl
        · have eq : t = r.length := stop.mp (by simpa using hb2)
          rw [eq, List.take_of_length_le (Nat.le_refl _)] at htb4
          have e45 := e4.trans e5
          have es : nv ((Fh rs i).flatten) ++ nv r = nv (Fh rs (i + 1)).flatten := by
            rw [← hd, fh_next R.asc hr, List.flatten_append, nv_app]
            simp
          have fl2 := fh_len R (i + 1)
          have nl := congrArg List.length es
          rw [List.length_append, nv_len, nv_len, nv_len] at nl
          have cc := el_cat2 (K := K) (σ := [some (.ref a), some (.ref s), some (.ref f), some (.int (i : Int)), some (.ref tb), some (.int (x : Int))]) (H := H5) (ta := tVar 1) (tb := tVar 4) (a := s) (b := tb) (ev_var (i := 1) rfl) (ev_var (i := 4) rfl) (e45 s _ hs) (e5 tb _ htb4) (by rw [nv_len, nv_len]; omega)
          rw [es] at cc
          refine q_asgL cc fun s2 H6 ns2 e6 hs2 => ?_
          have hf6 := (e45.trans e6) f _ hf'
          have s2f : s2 ≠ f := fun z => by
            rw [z, e45 f _ hf'] at ns2
            cases ns2
          refine s_appU (xs := ws) (ys := nv r) hf6 (ev_var rfl) (eu_tupOf (ev_var rfl) (sq_of ((e5.trans e6) tb _ htb4))) (by omega) fun c H7 nc e7 hc => ?_
          have cf : c ≠ f := fun z => by
            rw [z, hf6] at nc
            cases nc
          refine ⟨s2, ws ++ [.ref c], _, _, _, rfl, Ex.mut (e.trans (e45.trans (e6.trans e7))) ff, s2f, ?_, upd_same, ?_⟩
          · rw [upd_ne s2f]
            exact e7 s2 _ hs2
          · rw [← hd, fh_next R.asc hr, List.map_append, hd]
            refine TL.app ⟨c, rfl, ?_⟩ (TL.ex (fun y o hy => ?_) ht)
            · unfold Hm
              rw [if_neg cf, upd_ne cf]
              exact hc
            · unfold Hm at hy ⊢
              split at hy
              · cases hy
              · rename_i ne
                rw [if_neg ne, upd_ne ne]
                exact e7 y _ (e6 y _ (e45 y _ hy))
      · have hb : i ∈ (Fh rs i).flatten := by simpa using hb
        have no : ∀ r ∈ rs, r.headD 0 ≠ i := by
          rcases R.seen hi' with z | z
          · exact z.2
          · exact absurd hb z.1
        refine ⟨s, ws, _, _, _, rfl, e.trans e2, nsf, ?_, e2 f _ hf', ?_⟩
        · rw [fh_same no]
          exact e2 s _ hs
        · rw [fh_same no]
          exact TL.ex (hm_mono e2) ht
    · rintro σ' H' ⟨s, ws, y3, y4, y5, rfl, e, nsf, hs, hf', ht⟩
      rw [Int.toNat_natCast, fh_all fun r hr => R.head_lt hr] at ht
      exact s_ret (ev_var rfl) fun H2 e2 => k f ws H2 ff (e.trans e2) (e2 f _ hf') (TL.ex (hm_sub.trans e2) ht)
end


local macro_rules | `(tactic| walk_at "call") => `(tactic| (with_reducible exact sv_whole))
local macro_rules | `(tactic| walk_at "call") => `(tactic| ((with_reducible refine' sv_order ?c1 ?c2); (case c1 => assumption); (case c2 => assumption)))
local macro_rules | `(tactic| walk_at "call") => `(tactic| ((with_reducible refine' sv_ord ?c1 ?c2); (case c1 => assumption); (case c2 => assumption)))

/-! ### _law_multiple -/
theorem lcm_eq {a b : Nat} (ha : 0 < a) : a / Nat.gcd a b * b = Nat.lcm a b := by
  unfold Nat.lcm
  rw [Nat.div_mul_right_comm (Nat.gcd_dvd_left a b)]
theorem lcmL_next {ns : List Nat} {i x : Nat} (h : ns[i]? = some x) : lcmL (ns.take (i + 1)) = Nat.lcm (lcmL (ns.take i)) x := by
  unfold lcmL
  rw [take_next h, List.foldl_append]
  rfl
theorem lcmL_pos : ∀ (ns : List Nat) (m : Nat), 0 < m → (∀ x ∈ ns, 0 < x) → 0 < ns.foldl Nat.lcm m
  | [], _, h, _ => h
  | x :: l, m, h, p => lcmL_pos l _ (Nat.lcm_pos h (p x List.mem_cons_self)) fun y hy => p y (List.mem_cons_of_mem _ hy)
def sp_multiple : Sp := fun vs H Q _ => ∃ (a : Addr) (ns : List Nat), vs = [.ref a] ∧ H a = some (.lst (nv ns)) ∧ (∀ x ∈ ns, 0 < x) ∧ ns.sum ≤ 20 ∧ RetV (.int ((lcmL ns : Nat) : Int)) H Q
theorem sum_take_le (ns : List Nat) (i : Nat) : (ns.take i).sum ≤ ns.sum := by
  have : ns.sum = (ns.take i).sum + (ns.drop i).sum := by rw [← List.sum_append, List.take_append_drop]
  omega
section
variable {P : Program} {w : World} {K : PySem.W.Frag} {mg : Str → Option Value} {base : Heap}
theorem ok_law_multiple (T : Tx K mg) : FnOk P w K mg base CX0 1 T.f_law_multiple T.d_law_multiple ["row"] sp_multiple := by
  refine T.F_law_multiple.ok sc_law_multiple (fun vs H Q E h => ?_) (fun cdv A outer s0 H vs Q E hr h => ?_)
  · obtain ⟨a, ns, rfl, _⟩ := h
    rfl
  · obtain ⟨a, ns, rfl, ha, hpos, h20, k⟩ := h
    refine ⟨_, (pss_cons (ps_set (i := 1) sc_law_multiple.nd rfl (Or.inl rfl) pe_int)
      (pss_cons (ps_for PassesOwn.never rfl (pi_list (pv 0)) (pg_name (i := 2) sc_law_multiple.nd rfl (Or.inl rfl)) (pss_cons (ps_par (i := 3) (j := 4) (by rfl) sc_law_multiple.nd rfl rfl (by decide) rfl rfl (pa_cons (pv 1) (pa_cons (pv 2) pa_nil)) (by rfl))
      (pss_cons (ps_while PassesOwn.never (pt_cmpR op_ne (pv 4) pe_int (nomark _)) (pss_one (ps_par (i := 3) (j := 4) (by rfl) sc_law_multiple.nd rfl rfl (by decide) rfl rfl (pa_cons (pv 4) (pa_cons (pe_op op_mod (pe_callTy call_intI (by rfl) T.m_int (by decide +kernel) (pa_cons (pv 3) pa_nil)) (pv 4)) pa_nil)) (by rfl))))
      (pss_one (ps_set (i := 1) sc_law_multiple.nd rfl (Or.inl rfl) (pe_op op_mulX (pe_op op_fdivW (pv 1) (pv 3)) (pv 2)))))))
      (pss_one (ps_ret (pv 1))))), ?_⟩
    refine q_asg (v := .int 1) ev_c fun H1 e1 => ?_
    refine q_forL (K := K) (a := a) (xs := nv ns) (ev_var rfl) (sq_of (e1 a _ ha)) (fun i σ' H' => ∃ y2 y3 y4, σ' = [some (.ref a), some (.int ((lcmL (ns.take i) : Nat) : Int)), y2, y3, y4] ∧ Ex H H') (fun H3 e3 => ⟨_, _, _, rfl, e1.trans e3⟩) (fun i σ' H' _ ⟨_, _, _, _, e⟩ => sq_of (e a _ ha)) ?_ ?_
    · rintro i v σ' H3 hv ⟨y2, y3, y4, rfl, e3⟩
      have hil := (List.getElem?_eq_some_iff.mp hv).1
      rw [nv_len] at hil
      rw [nv_at hil] at hv
      cases hv
      have hx : ns[i]? = some (ns.getD i 0) := by
        rw [List.getD_eq_getElem?_getD, List.getElem?_eq_getElem hil]
        rfl
      have xp := hpos _ (List.mem_of_getElem? hx)
      have lp : 0 < lcmL (ns.take i) := lcmL_pos _ 1 (by decide) fun y hy => hpos y (List.mem_of_mem_take hy)
      have lb : lcmL (ns.take i) ≤ 2 ^ 20 := by
        have := lcmL_pow (ns.take i) 1
        rw [Nat.one_mul] at this
        exact Nat.le_trans this (Nat.pow_le_pow_right (by decide) (Nat.le_trans (sum_take_le ns i) h20))
      obtain ⟨A, hA⟩ : ∃ A, A = lcmL (ns.take i) := ⟨_, rfl⟩
      obtain ⟨B, hB⟩ : ∃ B, B = ns.getD i 0 := ⟨_, rfl⟩
      rw [← hA, ← hB]
      rw [← hA] at lp lb
      rw [← hB] at xp
      refine q_par (ea_cons (ev_var rfl) (ea_cons (ev_var rfl) ea_nil)) fun H4 e4 => ?_
      refine q_while (fun m σ' H' => ∃ x y : Nat, σ' = [some (.ref a), some (.int (A : Int)), some (.int (B : Int)), some (.int (x : Int)), some (.int (y : Int))] ∧ Ex H H' ∧ Nat.gcd x y = Nat.gcd A B ∧ 0 < x ∧ m = y) B ⟨A, B, rfl, e3.trans e4, rfl, lp, rfl⟩ ?_
      rintro m σ' H5 ⟨x, y, rfl, e, g, hx0, hm⟩
      refine ⟨decide (y ≠ 0), et_is (et_test (ev_op (ev_var rfl) ev_c (rv_ne rfl))) ?_, fun hb2 H6 e6 => ?_, fun hb2 H6 e6 => ?_⟩
      · by_cases z : y = 0
        · subst z
          simp
        · have : V.int (y : Int) ≠ .int 0 := fun q => z (by
            have := V.int.inj q
            omega)
          simp [z, this]
      · have hy := of_decide_eq_true hb2
        refine ⟨fun σ2 H7 => σ2 = [some (.ref a), some (.int (A : Int)), some (.int (B : Int)), some (.int (y : Int)), some (.int ((x % y : Nat) : Int))] ∧ Ex H H7, fun σ2 H7 ⟨q1, q2⟩ => ⟨x % y, by rw [hm]; exact Nat.mod_lt _ (by omega), y, x % y, q1, q2, ?_, by omega, rfl⟩, ?_⟩
        · rw [Nat.gcd_comm, ← Nat.gcd_rec, Nat.gcd_comm]
          exact g
        · refine s_par (ea_cons (ev_var rfl) (ea_cons (ev_op (ev_intI (ev_var rfl)) (ev_var rfl) (rv_I (by omega))) ea_nil)) fun H7 e7 => ⟨?_, e.trans (e6.trans e7)⟩
          rw [Int.natCast_emod]
          rfl
      · have hy : y = 0 := by simpa using hb2
        subst hy
        rw [Nat.gcd_zero_right] at g
        subst g
        have gp := Nat.gcd_pos_of_pos_left B lp
        have d1 : A / Nat.gcd A B ≤ A := Nat.div_le_self _ _
        have bl : B ≤ 20 := by
          have e : ns.sum = (ns.take i).sum + (ns.drop i).sum := by rw [← List.sum_append, List.take_append_drop]
          rw [List.drop_eq_getElem_cons hil, List.sum_cons] at e
          rw [hB, List.getD_eq_getElem?_getD, List.getElem?_eq_getElem hil]
          show ns[i] ≤ 20
          omega
        obtain ⟨D, hD⟩ : ∃ D, D = A / Nat.gcd A B := ⟨_, rfl⟩
        have mm : CMulX (D : Int) (B : Int) := mulx_ok (a := 64) (b := 64) (by omega) (by omega) (by decide)
        have gl : Nat.gcd A B ≤ A := Nat.gcd_le_left B lp
        have dv : Ev (tOp (rI CDivW fun i j => .int (i / j)) (tVar 1) (tVar 3)) [some (.ref a), some (.int (A : Int)), some (.int (B : Int)), some (.int ((Nat.gcd A B : Nat) : Int)), some (.int ((0 : Nat) : Int))] H6 (.int (D : Int)) :=
          ev_is (ev_op (ev_var rfl) (ev_var rfl) (rv_I (divw_ok (by omega) (by omega)))) (by rw [hD, Int.natCast_ediv])
        refine s_asg (v := .int ((lcmL (ns.take (i + 1)) : Nat) : Int)) (ev_is (ev_op dv (ev_var rfl) (rv_I mm)) ?_) fun H7 e7 => ⟨_, _, _, rfl, e.trans (e6.trans e7)⟩
        rw [lcmL_next hx, ← hA, ← hB, ← lcm_eq lp, Int.natCast_mul, ← hD]
    · rintro σ' H3 ⟨y2, y3, y4, rfl, e3⟩
      rw [nv_len, List.take_length]
      exact s_ret (ev_var rfl) fun H4 e4 => k H4 (e3.trans e4)
end


local macro_rules | `(tactic| walk_at "call") => `(tactic| (with_reducible exact sv_whole))
local macro_rules | `(tactic| walk_at "call") => `(tactic| ((with_reducible refine' sv_order ?c1 ?c2); (case c1 => assumption); (case c2 => assumption)))
local macro_rules | `(tactic| walk_at "call") => `(tactic| ((with_reducible refine' sv_ord ?c1 ?c2); (case c1 => assumption); (case c2 => assumption)))

/-! ### how many seatings have which period: the mathematics -/
def pstep (tb : Int) (size : Nat) (acc : List (Int × Int)) (p : Int × Int) : List (Int × Int) := putI acc ((Nat.lcm p.1.toNat size : Nat) : Int) (gI acc ((Nat.lcm p.1.toNat size : Nat) : Int) + p.2 * tb)
def prow (W : List (List (Int × Int))) (many : Nat) (acc : List (Int × Int)) (size : Nat) : List (Int × Int) := (W.getD (many - size) []).foldl (pstep (prm (many - 1) (size - 1)) size) acc
def pnewTo (W : List (List (Int × Int))) (many i : Nat) : List (Int × Int) := (List.range i).foldl (fun acc j => prow W many acc (j + 1)) []
def pcs : Nat → List (List (Int × Int))
  | 0 => [[(1, 1)]]
  | m + 1 => pcs m ++ [pnewTo (pcs m) (m + 1) (m + 1)]
def okP (r : List (Int × Int)) : Bool := decide (0 < r.length) && decide (r.length ≤ 100) && r.all fun p => decide (1 ≤ p.1) && decide (p.1 < 2 ^ 40) && decide (0 ≤ p.2) && decide (p.2 < 2 ^ 64)
theorem pcs_all : (pcs 20).all okP = true := by decide +kernel
theorem pcs_len : ∀ m, (pcs m).length = m + 1
  | 0 => rfl
  | m + 1 => by
    show (pcs m ++ [_]).length = _
    rw [List.length_append, pcs_len m]
    rfl
theorem pcs_pre : ∀ {m n : Nat}, m ≤ n → ∃ t, pcs n = pcs m ++ t
  | m, 0, h => by
    obtain rfl : m = 0 := by omega
    exact ⟨[], (List.append_nil _).symm⟩
  | m, n + 1, h => by
    by_cases e : m = n + 1
    · subst e
      exact ⟨[], (List.append_nil _).symm⟩
    · obtain ⟨t, ht⟩ := pcs_pre (m := m) (n := n) (by omega)
      refine ⟨t ++ [pnewTo (pcs n) (n + 1) (n + 1)], ?_⟩
      show pcs n ++ [pnewTo (pcs n) (n + 1) (n + 1)] = _
      rw [ht, List.append_assoc]
theorem pcs_ok {m : Nat} (hm : m ≤ 20) {r : List (Int × Int)} (hr : r ∈ pcs m) : 0 < r.length ∧ r.length ≤ 100 ∧ ∀ p ∈ r, 1 ≤ p.1 ∧ p.1 < 2 ^ 40 ∧ 0 ≤ p.2 ∧ p.2 < 2 ^ 64 := by
  obtain ⟨t, ht⟩ := pcs_pre hm
  have h := List.all_eq_true.mp pcs_all r (by rw [ht]; exact List.mem_append_left _ hr)
  unfold okP at h
  rw [Bool.and_eq_true, Bool.and_eq_true] at h
  refine ⟨of_decide_eq_true h.1.1, of_decide_eq_true h.1.2, fun p hp => ?_⟩
  have := List.all_eq_true.mp h.2 p hp
  rw [Bool.and_eq_true, Bool.and_eq_true, Bool.and_eq_true] at this
  exact ⟨of_decide_eq_true this.1.1.1, of_decide_eq_true this.1.1.2, of_decide_eq_true this.1.2, of_decide_eq_true this.2⟩
theorem prm_small : ∀ a < 20, ∀ b < 20, 0 ≤ prm a b ∧ prm a b < 2 ^ 60 := by decide +kernel
theorem pstep_len (tb : Int) (size : Nat) : ∀ (r acc : List (Int × Int)), (r.foldl (pstep tb size) acc).length ≤ acc.length + r.length
  | [], acc => Nat.le_refl _
  | p :: r, acc => by
    have a := pstep_len tb size r (pstep tb size acc p)
    have b : (pstep tb size acc p).length ≤ acc.length + 1 := put_len ..
    rw [List.foldl_cons, List.length_cons]
    omega
theorem getD_mem {α : Type} {l : List α} {i : Nat} {d : α} (h : i < l.length) : l.getD i d ∈ l := by
  rw [List.getD_eq_getElem?_getD, List.getElem?_eq_getElem h]
  exact List.getElem_mem h
theorem pnew_next (W : List (List (Int × Int))) (many i : Nat) : pnewTo W many (i + 1) = prow W many (pnewTo W many i) (i + 1) := by
  unfold pnewTo
  rw [List.range_succ, List.foldl_append]
  rfl
theorem pnew_len {m : Nat} (hm : m + 1 ≤ 20) : ∀ i, i ≤ m + 1 → (pnewTo (pcs m) (m + 1) i).length ≤ 100 * i
  | 0, _ => Nat.zero_le _
  | i + 1, h => by
    have a := pnew_len hm i (by omega)
    have b := (pcs_ok (m := m) (by omega) (getD_mem (l := pcs m) (i := m + 1 - (i + 1)) (d := []) (by rw [pcs_len]; omega))).2.1
    rw [pnew_next]
    unfold prow
    have c := pstep_len (prm (m + 1 - 1) (i + 1 - 1)) (i + 1) ((pcs m).getD (m + 1 - (i + 1)) []) (pnewTo (pcs m) (m + 1) i)
    omega


local macro_rules | `(tactic| walk_at "call") => `(tactic| (with_reducible exact sv_whole))
local macro_rules | `(tactic| walk_at "call") => `(tactic| ((with_reducible refine' sv_order ?c1 ?c2); (case c1 => assumption); (case c2 => assumption)))
local macro_rules | `(tactic| walk_at "call") => `(tactic| ((with_reducible refine' sv_ord ?c1 ?c2); (case c1 => assumption); (case c2 => assumption)))

theorem paired_imp {α β : Type} {F G : α → β → Prop} (f : ∀ a b, F a b → G a b) : ∀ {l : List α} {m : List β}, Paired F l m → Paired G l m
  | _, _, .nil => .nil
  | _, _, .cons h t => .cons (f _ _ h) (paired_imp f t)
theorem paired_app {α β : Type} {F : α → β → Prop} : ∀ {l l' : List α} {m m' : List β}, Paired F l m → Paired F l' m' → Paired F (l ++ l') (m ++ m')
  | _, _, _, _, .nil, h => h
  | _, _, _, _, .cons a t, h => .cons a (paired_app t h)

section
variable {P : Program} {w : World} {K : PySem.W.Frag} {mg : Str → Option Value} {base : Heap}
local macro_rules | `(tactic| walk_at "call") => `(tactic| (with_reducible exact sv_whole))
def sp_is_within : Sp := fun vs H Q _ => ∃ x l m : Int, vs = [.int x, .int l, .int m] ∧ RetV (.bl (decide (l ≤ x) && decide (x ≤ m))) H Q
theorem sv_between {H : Hp} {x l m : Int} : SpV sp_is_within ([.int x, .int l, .int m] ++ []) H (.bl (decide (l ≤ x) && decide (x ≤ m))) := fun H1 _ Q q E => ⟨x, l, m, rfl, q⟩
theorem ok_is_within (T : Tx K mg) : FnOk P w K mg base CX0 2 T.f_is_within T.d_is_within ["thing", "least", "most"] sp_is_within := by
  refine T.F_is_within.ok sc_is_within (fun vs H Q E h => ?_) (fun cdv A outer s H vs Q E hr h => ?_)
  · obtain ⟨x, l, m, rfl, _⟩ := h
    rfl
  · obtain ⟨x, l, m, rfl, k⟩ := h
    refine ⟨_, (pss_one (ps_ret (pe_and (pe_call (ok_is_whole T) (hr.mono (by decide)) (by rfl) T.g_is_whole T.F_is_whole.kp T.b_is_whole .nil pass0 (pa_cons (pv 0) pa_nil)) (pe_one (pe_chain op_le op_le (pv 1) (pv 0) (pv 2)))))), ?_⟩
    refine s_ret (by walk_at "ev") fun H1 e1 => ?_
    exact k _ e1
local macro_rules | `(tactic| walk_at "call") => `(tactic| (with_reducible exact sv_between))
def sp_check1 (lo hi : Int) : Sp := fun vs H Q _ => ∃ x : Int, vs = [.int x] ∧ lo ≤ x ∧ x ≤ hi ∧ RetV .non H Q
theorem sv_check1 {H : Hp} {lo hi x : Int} (h0 : lo ≤ x) (h1 : x ≤ hi) : SpV (sp_check1 lo hi) ([.int x] ++ []) H .non := fun H1 _ Q q E => ⟨x, rfl, h0, h1, q⟩
theorem ok_check_guests (T : Tx K mg) : FnOk P w K mg base CX0 3 T.f_check_guests T.d_check_guests ["guests"] (sp_check1 1 20) := by
  refine T.F_check_guests.ok sc_check_guests (fun vs H Q E h => ?_) (fun cdv A outer s H vs Q E hr h => ?_)
  · obtain ⟨x, rfl, _⟩ := h
    rfl
  · obtain ⟨x, rfl, h0, h1, k⟩ := h
    refine ⟨_, (pss_one (ps_if (pt_not (pt_val (pe_call (ok_is_within T) (hr.mono (by decide)) (by rfl) T.g_is_within T.F_is_within.kp T.b_is_within .nil pass0 (pa_cons (pv 0) (pa_cons pe_int (pa_cons (pe_gc (by rfl) T.c_MOST_GUESTS) pa_nil)))))) (pss_one ps_never) pss_nil)), ?_⟩
    refine s_when (by walk_at "et") (fun hb H1 e1 => ?_) fun hb H1 e1 => k _ e1
    rw [decide_eq_true h0, decide_eq_true h1] at hb
    cases hb
def sp_check_number : Sp := fun vs H Q _ => ∃ x lo hi : Int, vs = [.int x, .int lo, .int hi] ∧ lo ≤ x ∧ x ≤ hi ∧ RetV .non H Q
theorem sv_check_number {H : Hp} {lo hi x : Int} (h0 : lo ≤ x) (h1 : x ≤ hi) : SpV sp_check_number ([.int x, .int lo, .int hi] ++ []) H .non := fun H1 _ Q q E => ⟨x, lo, hi, rfl, h0, h1, q⟩
theorem ok_check_number (T : Tx K mg) : FnOk P w K mg base CX0 3 T.f_check_number T.d_check_number ["number", "least", "most"] sp_check_number := by
  refine T.F_check_number.ok sc_check_number (fun vs H Q E h => ?_) (fun cdv A outer s H vs Q E hr h => ?_)
  · obtain ⟨x, lo, hi, rfl, _⟩ := h
    rfl
  · obtain ⟨x, lo, hi, rfl, h0, h1, k⟩ := h
    refine ⟨_, (pss_one (ps_if (pt_not (pt_val (pe_call (ok_is_within T) (hr.mono (by decide)) (by rfl) T.g_is_within T.F_is_within.kp T.b_is_within .nil pass0 (pa_cons (pv 0) (pa_cons (pv 1) (pa_cons (pv 2) pa_nil)))))) (pss_one ps_never) pss_nil)), ?_⟩
    refine s_when (by walk_at "et") (fun hb H1 e1 => ?_) fun hb H1 e1 => k _ e1
    rw [decide_eq_true h0, decide_eq_true h1] at hb
    cases hb
end
/-! ### period_counts -/
def DW (H : Hp) (x : V) (r : List (Int × Int)) : Prop := ∃ q, x = V.ref q ∧ H q = some (.dK (enc r))
theorem DW.ex {H H' : Hp} (e : Ex H H') {x : V} {r : List (Int × Int)} : DW H x r → DW H' x r := fun ⟨q, e1, h⟩ => ⟨q, e1, e q _ h⟩
theorem dw_ex {H H' : Hp} (e : Ex H H') {xs : List V} {rs : List (List (Int × Int))} (h : Paired (DW H) xs rs) : Paired (DW H') xs rs := paired_imp (fun _ _ x => DW.ex e x) h
def sp_pcounts : Sp := fun vs H Q _ => ∃ g : Nat, vs = [.int (g : Int)] ∧ 1 ≤ g ∧ g ≤ 20 ∧ ∀ (H' : Hp) (l : Addr) (zs : List (Addr × Int × Int)), Ex H H' → H l = none → (zs.map (·.2)).Perm ((pcs g).getD g []) → (zs.map (·.2)).Pairwise (fun x y => SrtO.lexB y x = false) → H' l = some (.lst (zs.map fun z => V.ref z.1)) →
    (∀ z ∈ zs, H z.1 = none ∧ z.1 ≠ l ∧ H' z.1 = some (.tup [.int z.2.1, .int z.2.2])) → Q (.ref l) H'
section
variable {P : Program} {w : World} {K : PySem.W.Frag} {mg : Str → Option Value} {base : Heap}
theorem ok_period_counts (T : Tx K mg) : FnOk P w K mg base CX0 4 T.f_period_counts T.d_period_counts ["guests"] sp_pcounts := by
  refine T.F_period_counts.ok sc_period_counts (fun vs H Q E h => ?_) (fun cdv A outer s0 H vs Q E hr h => ?_)
  · obtain ⟨g, rfl, _⟩ := h
    rfl
  · obtain ⟨g, rfl, g1, g20, k⟩ := h
    refine ⟨_, (pss_cons (ps_expr (pe_call (ok_check_guests T) (hr.mono (by decide)) (by rfl) T.g_check_guests T.F_check_guests.kp T.b_check_guests .nil pass0 (pa_cons (pv 0) pa_nil)))
      (pss_cons (ps_set (i := 1) sc_period_counts.nd rfl (Or.inl rfl) (pe_lst (pa_cons (pe_disp (pps_cons pe_int pe_int pps_nil) rfl rfl (by simp) (by decide)) pa_nil)))
      (pss_cons (ps_for PassesOwn.never rfl (pi_range2 (by rfl) T.m_range (pa_cons pe_int (pa_cons (pe_op op_add (pv 0) pe_int) pa_nil))) (pg_name (i := 2) sc_period_counts.nd rfl (Or.inl rfl)) (pss_cons (ps_set (i := 3) sc_period_counts.nd rfl (Or.inl rfl) pe_dnewK)
      (pss_cons (ps_for PassesOwn.never rfl (pi_range2 (by rfl) T.m_range (pa_cons pe_int (pa_cons (pe_op op_add (pv 2) pe_int) pa_nil))) (pg_name (i := 4) sc_period_counts.nd rfl (Or.inl rfl)) (pss_cons (ps_set (i := 5) sc_period_counts.nd rfl (Or.inl rfl) (pe_callBfun cr_perm (by rfl) T.i_perm (pa_cons (pe_op op_sub (pv 2) pe_int) (pa_cons (pe_op op_sub (pv 4) pe_int) pa_nil))))
      (pss_one (ps_lock (ps_for PassesOwn.never rfl (pi_items (pe_ix ix_list (pv 1) (pe_op op_sub (pv 2) (pv 4)) (fun _ _ => rfl))) (pg_tup rfl (pgs_cons (pg_name (i := 6) sc_period_counts.nd rfl (Or.inl rfl)) (pgs_cons (pg_name (i := 7) sc_period_counts.nd rfl (Or.inl rfl)) pgs_nil))) (pss_cons (ps_set (i := 8) sc_period_counts.nd rfl (Or.inl rfl) (pe_callBfun cr_lcm (by rfl) T.i_lcm (pa_cons (pv 6) (pa_cons (pv 4) pa_nil))))
      (pss_one (ps_dput (hu_of hr) (pv 3) (pv 8) (pe_op op_add (pe_dget2 (hu_of hr) (pv 3) (pv 8) pe_int ⟨by rfl, by rfl, by rfl, by rfl⟩) (pe_op op_mulX (pv 7) (pv 5))) rfl))))))))
      (pss_one (ps_expr (pe_bm PySem.F.plainAttrs_list PySem.F.slot_list_append PySem.F.type_list_append mt_append (pv 1) (pa_cons (pv 3) pa_nil)))))))
      (pss_one (ps_ret (pe_callB (id := "sorted") (r := rSortItK) (cr_sortItK rfl) (by rfl) T.m_sorted (by decide +kernel) (pa_cons (pe_bm0 PySem.F.plainAttrs_dict PySem.F.slot_dict_items PySem.F.type_dict_items mt_itemsK (pe_ix ix_list (pv 1) (pv 0) (fun _ _ => rfl))) pa_nil))))))), ?_⟩
    refine q_drop (ev_call (z := .non) (ea_cons (ev_var rfl) ea_nil) (sv_check1 (by omega) (by omega))) fun H1 e1 => ?_
    refine q_asgD1 (x := 1) (v := 1) (fun _ => ev_c) (fun _ => ev_c) fun p0 q H2 np0 nq npq e2 hp0 hq => ?_
    refine q_forR2 (lo := 1) (n := (g : Int) + 1) (ea_cons ev_c (ea_cons (ev_op (ev_var rfl) ev_c rv_I0) ea_nil)) ⟨by decide, by decide, by omega, by omega⟩
      (fun m σ' H' => ∃ (ws : List V) (y2 y3 y4 y5 y6 y7 y8 : Option V), σ' = [some (.int (g : Int)), some (.ref q), y2, y3, y4, y5, y6, y7, y8] ∧ Ex H1 H' ∧ H' q = some (.lst ws) ∧ Paired (DW H') ws (pcs m))
      (fun H3 e3 => ⟨[.ref p0], none, none, none, none, none, none, none, rfl, e2.trans e3, e3 q _ hq, .cons ⟨p0, rfl, e3 p0 _ hp0⟩ .nil⟩) ?_ ?_
    · rintro m σ' H3 hm ⟨ws, y2, y3, y4, y5, y6, y7, y8, rfl, e3, hq3, hw⟩
      have hm20 : m + 1 ≤ 20 := by omega
      have wl := Paired.length hw
      rw [pcs_len] at wl
      refine q_dnewI fun f H4 nf e4 hf => ?_
      have nfq : f ≠ q := fun z => by
        rw [z, hq3] at nf
        cases nf
      have hq4 := e4 q _ hq3
      have hw4 := dw_ex e4 hw
      refine q_forR2 (lo := 1) (n := 1 + (m : Int) + 1) (ea_cons ev_c (ea_cons (ev_op (ev_var rfl) ev_c rv_I0) ea_nil)) ⟨by decide, by decide, by omega, by omega⟩
        (fun i σ' H' => ∃ (y4 y5 y6 y7 y8 : Option V), σ' = [some (.int (g : Int)), some (.ref q), some (.int (1 + (m : Int))), some (.ref f), y4, y5, y6, y7, y8] ∧ Ex H3 H' ∧ H' f = some (.dK (enc (pnewTo (pcs m) (m + 1) i))))
        (fun H5 e5 => ⟨_, _, _, _, _, rfl, e4.trans e5, e5 f _ hf⟩) ?_ ?_
      · rintro i σ' H5 hi ⟨y4, y5, y6, y7, y8, rfl, e5, hf5⟩
        have hi' : i < m + 1 := by omega
        refine q_asg (v := .int (prm (m + 1 - 1) (i + 1 - 1))) (ev_perm (n := m + 1 - 1) (k := i + 1 - 1) (ev_is (ev_op (ev_var rfl) ev_c rv_I0) (by congr 1; omega)) (ev_is (ev_op (ev_var rfl) ev_c rv_I0) (by congr 1; omega)) (by omega) (by omega)) fun H6 e6 => ?_
        -- the row that is walked
        have jl : m - i < ws.length := by omega
        obtain ⟨r, hr, d, ed, hd⟩ := paired_get hw (List.getElem?_eq_getElem jl)
        have hrD : (pcs m).getD (m + 1 - (i + 1)) [] = r := by
          rw [List.getD_eq_getElem?_getD, show m + 1 - (i + 1) = m - i by omega, hr]
          rfl
        have rok := pcs_ok (m := m) (by omega) (List.mem_of_getElem? hr)
        have hd6 := (e5.trans e6) d _ hd
        have nfd : f ≠ d := fun z => by
          rw [z, hd] at nf
          cases nf
        have hq6 := (e5.trans e6) q _ hq3
        have ndq : d ≠ q := fun z => by
          rw [z, hq3] at hd
          cases hd
        obtain ⟨tb, htb⟩ : ∃ tb, tb = prm (m + 1 - 1) (i + 1 - 1) := ⟨_, rfl⟩
        have tbs := prm_small (m + 1 - 1) (by omega) (i + 1 - 1) (by omega)
        rw [← htb] at tbs ⊢
        obtain ⟨A, hA⟩ : ∃ A, A = pnewTo (pcs m) (m + 1) i := ⟨_, rfl⟩
        have hAl := pnew_len hm20 i (by omega)
        rw [← hA] at hf5 hAl
        have hnx : pnewTo (pcs m) (m + 1) (i + 1) = r.foldl (pstep tb (i + 1)) A := by
          rw [pnew_next, hA, htb]
          unfold prow
          rw [hrD]
        rw [hnx]
        refine s_forItI (d := d) (ps := r) hd6 (fun o => ?_) (fun o j σ' H' => ∃ (y6 y7 y8 : Option V), σ' = [some (.int (g : Int)), some (.ref q), some (.int (1 + (m : Int))), some (.ref f), some (.int (1 + (i : Int))), some (.int tb), y6, y7, y8] ∧ Ex (upd H3 d (.frz o (.dK (enc r)))) H' ∧ H' f = some (.dK (enc ((r.take j).foldl (pstep tb (i + 1)) A)))) ?_ ?_ ?_ ?_
        · refine ev_op (ev_var rfl) (ev_is (ev_op (ev_var rfl) (ev_var rfl) rv_I0) (show V.int (1 + (m : Int) - (1 + (i : Int))) = V.int ((m - i : Nat) : Int) by congr 1; omega)) (rv_ixL (K := K) (sq_of (by rw [upd_ne ndq.symm]; exact hq6)) ?_)
          have := atI_nat (List.getElem?_eq_getElem jl)
          rw [ed] at this
          exact this
        · intro o H7 e7
          refine ⟨y6, y7, y8, rfl, fun b ob eb => e7 b ob ?_, e7 f _ ?_⟩
          · by_cases z : b = d
            · subst z
              rw [upd_same] at eb
              rw [upd_same]
              exact eb
            · rw [upd_ne z] at eb
              rw [upd_ne z]
              exact (e5.trans e6) b ob eb
          · rw [upd_ne nfd]
            exact e6 f _ hf5
        · rintro o j σ' H7 hj ⟨z6, z7, z8, rfl, e7, hf7⟩
          exact e7 d _ upd_same
        · rintro o j a v σ' H7 H8 hj ⟨z6, z7, z8, rfl, e7, hf7⟩ e8
          have jl2 := (List.getElem?_eq_some_iff.mp hj).1
          obtain ⟨b1, b2, b3, b4⟩ := rok.2.2 _ (List.mem_of_getElem? hj)
          have b1 : 1 ≤ a := b1
          have b2 : a < 2 ^ 40 := b2
          have b3 : 0 ≤ v := b3
          have b4 : v < 2 ^ 64 := b4
          obtain ⟨B, hB⟩ : ∃ B, B = (r.take j).foldl (pstep tb (i + 1)) A := ⟨_, rfl⟩
          have hBl : B.length < 10000 := by
            have := pstep_len tb (i + 1) (r.take j) A
            rw [← hB, List.length_take] at this
            omega
          rw [← hB] at hf7
          have nB : (r.take (j + 1)).foldl (pstep tb (i + 1)) A = pstep tb (i + 1) B (a, v) := by
            rw [take_next hj, List.foldl_append, ← hB]
            rfl
          rw [nB]
          have mm : CMulX v tb := mulx_ok (a := 64) (b := 60) (by omega) (by omega) (by decide)
          refine q_asg (v := .int ((Nat.lcm a.toNat (i + 1) : Nat) : Int)) (ev_lcm (ev_is (ev_var rfl) (by congr 1; omega)) (ev_is (ev_var rfl) (by congr 1; omega)) (by omega) (by omega)) fun H9 e9 => ?_
          have hf9 := (e8.trans e9) f _ hf7
          refine s_putI (ps := B) (ev_var rfl) (ev_var rfl) (ev_op (ev_getI (ps := B) (ev_var rfl) (ev_var rfl) ev_c hf9) (ev_op (ev_var rfl) (ev_var rfl) (rv_I mm)) rv_I0) hf9 hBl fun H10 e10 => ⟨_, _, _, rfl, ?_, upd_same⟩
          exact Ex.mut (e7.trans (e8.trans (e9.trans e10))) (by rw [upd_ne nfd]; exact nf)
        · rintro o σ' H7 ⟨z6, z7, z8, rfl, e7, hf7⟩
          rw [List.take_length] at hf7
          refine ⟨_, _, _, _, _, rfl, fun b ob eb => ?_, by rw [upd_ne nfd]; exact hf7⟩
          by_cases z : b = d
          · subst z
            rw [hd] at eb
            rw [upd_same]
            exact eb
          · rw [upd_ne z]
            exact e7 b ob (by rw [upd_ne z]; exact eb)
      · rintro σ' H5 ⟨y4, y5, y6, y7, y8, rfl, e5, hf5⟩
        have en : (1 + (m : Int) + 1 - 1).toNat = m + 1 := by omega
        rw [en] at hf5
        have hq5 := e5 q _ hq3
        refine s_app hq5 (ev_var rfl) (ev_var rfl) (by omega) fun H6 e6 => ⟨ws ++ [.ref f], _, _, _, _, _, _, _, rfl, ?_, upd_same, ?_⟩
        · refine Ex.mut (e3.trans (e5.trans e6)) ?_
          cases hh : H1 q with
          | none => rfl
          | some o =>
            have := e2 q o hh
            have nq' : H1 q = none := nq
            rw [nq'] at hh
            cases hh
        · have nqd : ∀ x r, DW H6 x r → DW (upd H6 q (.lst (ws ++ [.ref f]))) x r := fun x r ⟨c, ec, hc⟩ => ⟨c, ec, by
            have : c ≠ q := fun z => by
              rw [z, e6 q _ hq5] at hc
              cases hc
            rw [upd_ne this]
            exact hc⟩
          exact paired_app (paired_imp nqd (dw_ex (e5.trans e6) hw)) (.cons (nqd _ _ ⟨f, rfl, e6 f _ hf5⟩) .nil)
    · rintro σ' H3 ⟨ws, y2, y3, y4, y5, y6, y7, y8, rfl, e3, hq3, hw⟩
      have en : ((g : Int) + 1 - 1).toNat = g := by omega
      rw [en] at hw
      have wl := Paired.length hw
      rw [pcs_len] at wl
      have gl : g < ws.length := by omega
      obtain ⟨r, hr, d, ed, hd⟩ := paired_get hw (List.getElem?_eq_getElem gl)
      have hrD : (pcs g).getD g [] = r := by
        rw [List.getD_eq_getElem?_getD, hr]
        rfl
      have rok := pcs_ok (m := g) g20 (List.mem_of_getElem? hr)
      have back : ∀ c, H3 c = none → H c = none := fun c hc => by
        cases hh : H c with
        | none => rfl
        | some o =>
          have := (e1.trans e3) c o hh
          rw [hc] at this
          cases this
      refine s_retSI (ps := r) (a := d) (ev_op (ev_var rfl) (ev_var rfl) (rv_ixL (K := K) (sq_of hq3) ?_)) hd (fun z => by rw [z] at rok; exact absurd rok.1 (Nat.lt_irrefl _)) fun H' l zs x1 x2 x3 x4 x5 x6 => ?_
      · have := atI_nat (List.getElem?_eq_getElem gl)
        rw [ed] at this
        exact this
      · exact k H' l zs (e1.trans (e3.trans x1)) (back l x2) (by rw [hrD]; exact x3) x4 x5 fun z hz => ⟨back _ (x6 z hz).1, (x6 z hz).2⟩
end


local macro_rules | `(tactic| walk_at "call") => `(tactic| (with_reducible exact sv_whole))
local macro_rules | `(tactic| walk_at "call") => `(tactic| ((with_reducible refine' sv_order ?c1 ?c2); (case c1 => assumption); (case c2 => assumption)))
local macro_rules | `(tactic| walk_at "call") => `(tactic| ((with_reducible refine' sv_ord ?c1 ?c2); (case c1 => assumption); (case c2 => assumption)))

section
variable {σ : L2.St} {H : Hp} {tu : TS} {tz : TS} {D : Ends}
theorem q_whenM {tt : TT} {b : Bool} (M : L2.St → Hp → Prop) (h : EvT tt σ H b) (h1 : b = true → ∀ H1, Ex H H1 → ∀ N : L2.St → Hp → Prop, (∀ σ' H', M σ' H' → N σ' H') → tu { D with nx := N } σ H1) (h2 : b = false → ∀ H1, Ex H H1 → M σ H1) (k : ∀ σ' H', M σ' H' → tz D σ' H') : tSeq (tIfS tt tu tNext) tz D σ H :=
  q_when h (fun hb H1 e => h1 hb H1 e (tz D) k) (fun hb H1 e => k σ H1 (h2 hb H1 e))
end

/-! ### the prime powers of a number: the mathematics -/
def outR : Nat → Nat → Nat → Nat
  | 0, _, r => r
  | f + 1, p, r => if r % p = 0 then outR f p (r / p) else r
def outQ : Nat → Nat → Nat → Nat
  | 0, _, _ => 1
  | f + 1, p, r => if r % p = 0 then p * outQ f p (r / p) else 1
def ppF : Nat → Nat → Nat → List Nat
  | 0, _, r => if 1 < r then [r] else []
  | f + 1, p, r => if p * p ≤ r then (if 1 < outQ 64 p r then [outQ 64 p r] else []) ++ ppF f (p + 1) (outR 64 p r) else if 1 < r then [r] else []
def ppL (n : Nat) : List Nat := ppF 40000 2 n
theorem div_pos2 {p r : Nat} (hr : 0 < r) (h : r % p = 0) : 0 < r / p := by
  have e := Nat.div_add_mod r p
  rw [h, Nat.add_zero] at e
  refine Nat.pos_of_ne_zero fun z => ?_
  rw [z, Nat.mul_zero] at e
  omega
theorem div_half {p r f : Nat} (hp : 2 ≤ p) (h : r < 2 ^ (f + 1)) : r / p < 2 ^ f := by
  have a : r / p ≤ r / 2 := Nat.div_le_div_left hp (by decide)
  rw [Nat.pow_succ] at h
  omega
theorem out_mul : ∀ (f p r : Nat), outQ f p r * outR f p r = r
  | 0, p, r => Nat.one_mul r
  | f + 1, p, r => by
    unfold outQ outR
    by_cases h : r % p = 0
    · rw [if_pos h, if_pos h, Nat.mul_assoc, out_mul f p (r / p), Nat.mul_comm]
      exact Nat.div_mul_cancel (Nat.dvd_of_mod_eq_zero h)
    · rw [if_neg h, if_neg h, Nat.one_mul]
theorem outR_le (f p r : Nat) (hr : 0 < r) : 0 < outR f p r ∧ outR f p r ≤ r ∧ 0 < outQ f p r ∧ outQ f p r ≤ r := by
  have h := out_mul f p r
  have a : 0 < outQ f p r := Nat.pos_of_ne_zero fun z => by
    rw [z, Nat.zero_mul] at h
    omega
  have b : 0 < outR f p r := Nat.pos_of_ne_zero fun z => by
    rw [z, Nat.mul_zero] at h
    omega
  have c := Nat.le_mul_of_pos_left (outR f p r) a
  have d := Nat.le_mul_of_pos_right (outQ f p r) b
  exact ⟨b, by omega, a, by omega⟩

/-! ### prime_powers, least_guests -/
def sp_ppow : Sp := fun vs H Q _ => ∃ n : Nat, vs = [.int (n : Int)] ∧ 1 ≤ n ∧ n ≤ 10 ^ 9 ∧ RetL (nv (ppL n)) H Q
def leastN (n : Nat) : Nat := if n = 1 then 1 else (ppL n).sum
def sp_least : Sp := fun vs H Q _ => ∃ n : Nat, vs = [.int (n : Int)] ∧ 1 ≤ n ∧ n ≤ 10 ^ 9 ∧ RetV (.int (leastN n : Int)) H Q
theorem sl_ppow {H : Hp} {n : Nat} (h1 : 1 ≤ n) (h2 : n ≤ 10 ^ 9) : SpL sp_ppow ([.int (n : Int)] ++ []) H (nv (ppL n)) := fun H1 e Q q E => ⟨n, rfl, h1, h2, q⟩
theorem sv_least {H : Hp} {n : Nat} (h1 : 1 ≤ n) (h2 : n ≤ 10 ^ 9) : SpV sp_least ([.int (n : Int)] ++ []) H (.int (leastN n : Int)) := fun H1 e Q q E => ⟨n, rfl, h1, h2, q⟩
section
variable {P : Program} {w : World} {K : PySem.W.Frag} {mg : Str → Option Value} {base : Heap}
theorem ok_prime_powers (T : Tx K mg) : FnOk P w K mg base CX0 1 T.f_prime_powers T.d_prime_powers ["number"] sp_ppow := by
  refine T.F_prime_powers.ok sc_prime_powers (fun vs H Q E h => ?_) (fun cdv A outer s0 H vs Q E hr h => ?_)
  · obtain ⟨n, rfl, _⟩ := h
    rfl
  · obtain ⟨n, rfl, n1, n9, k⟩ := h
    refine ⟨_, (pss_cons (ps_set (i := 1) sc_prime_powers.nd rfl (Or.inl rfl) (pe_lst pa_nil))
      (pss_cons (ps_set (i := 2) sc_prime_powers.nd rfl (Or.inl rfl) (pv 0))
      (pss_cons (ps_set (i := 3) sc_prime_powers.nd rfl (Or.inl rfl) pe_int)
      (pss_cons (ps_while PassesOwn.never (pt_cmpR op_le (pe_op op_mulX (pv 3) (pv 3)) (pv 2) (nomark _)) (pss_cons (ps_set (i := 4) sc_prime_powers.nd rfl (Or.inl rfl) pe_int)
      (pss_cons (ps_while PassesOwn.never (pt_cmpR op_eq (pe_op op_mod (pv 2) (pv 3)) pe_int (nomark _)) (pss_cons (ps_set (i := 2) sc_prime_powers.nd rfl (Or.inl rfl) (pe_op op_fdivW (pv 2) (pv 3)))
      (pss_one (ps_set (i := 4) sc_prime_powers.nd rfl (Or.inl rfl) (pe_op op_mulX (pv 4) (pv 3))))))
      (pss_cons (ps_if (pt_cmpR op_gt (pv 4) pe_int (nomark _)) (pss_one (ps_expr (pe_bm PySem.F.plainAttrs_list PySem.F.slot_list_append PySem.F.type_list_append mt_append (pv 1) (pa_cons (pv 4) pa_nil)))) pss_nil)
      (pss_one (ps_aug (i := 3) sc_prime_powers.nd rfl (Or.inl rfl) pe_int ip_add))))))
      (pss_one (ps_ret (pe_ifExp (pt_cmpR op_gt (pv 2) pe_int (nomark _)) (pe_op op_cat (pv 1) (pe_lst (pa_cons (pv 2) pa_nil))) (pv 1)))))))), ?_⟩
    refine q_asgL (xs := []) (el_lst ea_nil (Nat.zero_le _)) fun q H1 nq e1 hq => ?_
    refine q_asg (v := .int (n : Int)) (ev_var rfl) fun H2 e2 => ?_
    refine q_asg (v := .int 2) ev_c fun H3 e3 => ?_
    refine q_while (fun m σ' H' => ∃ (r p : Nat) (y4 : Option V) (L : List Nat), σ' = [some (.int (n : Int)), some (.ref q), some (.int (r : Int)), some (.int (p : Int)), y4] ∧ Ex H H' ∧ H' q = some (.lst (nv L)) ∧ L ++ ppF m p r = ppL n ∧ 0 < r ∧ r < (p + m) * (p + m) ∧ 2 ≤ p ∧ p + m ≤ 40002 ∧ 2 ^ L.length * r ≤ 10 ^ 9) 40000
      ⟨n, 2, none, [], rfl, e1.trans (e2.trans e3), (e2.trans e3) q _ hq, rfl, by omega, by omega, Nat.le_refl _, Nat.le_refl _, by simpa using n9⟩ ?_
    rintro m σ' H4 ⟨r, p, y4, L, rfl, e4, hq4, hL, hr0, hrm, hp2, hpm, hLr⟩
    have r9 : r ≤ 10 ^ 9 := Nat.le_trans (Nat.le_mul_of_pos_left r (Nat.pow_pos (by decide))) hLr
    have mm : CMulX (p : Int) (p : Int) := mulx_ok (a := 32) (b := 32) (by omega) (by omega) (by decide)
    refine ⟨decide (p * p ≤ r), et_is (et_test (ev_op (ev_op (ev_var rfl) (ev_var rfl) (rv_I mm)) (ev_var rfl) rv_I0)) ?_, fun hb H5 e5 => ?_, fun hb H5 e5 => ?_⟩
    · refine decide_eq_decide.mpr ?_
      rw [← Int.natCast_mul]
      exact Int.ofNat_le
    · have hb := of_decide_eq_true hb
      cases m with
      | zero =>
        rw [Nat.add_zero] at hrm
        omega
      | succ m =>
        have hF : ppF (m + 1) p r = (if 1 < outQ 64 p r then [outQ 64 p r] else []) ++ ppF m (p + 1) (outR 64 p r) := by
          rw [ppF, if_pos hb]
        rw [hF] at hL
        obtain ⟨o1, o2, o3, o4⟩ := outR_le 64 p r hr0
        have om := out_mul 64 p r
        obtain ⟨R0, hR0⟩ : ∃ R0, R0 = outR 64 p r := ⟨_, rfl⟩
        obtain ⟨Q0, hQ0⟩ : ∃ Q0, Q0 = outQ 64 p r := ⟨_, rfl⟩
        rw [← hR0] at o1 o2 om hL
        rw [← hQ0] at o3 o4 om hL
        refine ⟨fun σ' H' => ∃ L' : List Nat, σ' = [some (.int (n : Int)), some (.ref q), some (.int (R0 : Int)), some (.int ((p + 1 : Nat) : Int)), some (.int (Q0 : Int))] ∧ Ex H H' ∧ H' q = some (.lst (nv L')) ∧ L' = L ++ (if 1 < Q0 then [Q0] else []), ?_, ?_⟩
        · rintro σ2 H6 ⟨L', rfl, e6, hq6, hL'⟩
          refine ⟨m, Nat.lt_succ_self m, R0, p + 1, _, L', rfl, e6, hq6, ?_, o1, ?_, by omega, by omega, ?_⟩
          · rw [hL', List.append_assoc]
            exact hL
          · have : p + 1 + m = p + (m + 1) := by omega
            rw [this]
            exact Nat.lt_of_le_of_lt o2 hrm
          · rw [hL', List.length_append]
            by_cases hq1 : 1 < Q0
            · rw [if_pos hq1]
              show 2 ^ (L.length + 1) * R0 ≤ _
              rw [Nat.pow_succ, Nat.mul_assoc]
              refine Nat.le_trans (Nat.mul_le_mul_left _ ?_) hLr
              rw [← om]
              exact Nat.mul_le_mul_right _ hq1
            · rw [if_neg hq1]
              exact Nat.le_trans (Nat.mul_le_mul_left _ o2) hLr
        · refine q_asg (v := .int 1) ev_c fun H6 e6 => ?_
          have hq6 := (e5.trans e6) q _ hq4
          refine q_while (fun f σ' H' => ∃ (x y : Nat), σ' = [some (.int (n : Int)), some (.ref q), some (.int (x : Int)), some (.int (p : Int)), some (.int (y : Int))] ∧ Ex H4 H' ∧ outR f p x = R0 ∧ y * outQ f p x = Q0 ∧ 0 < x ∧ x < 2 ^ f ∧ y * x ≤ r ∧ 0 < y) 64
            ⟨r, 1, rfl, e5.trans e6, hR0.symm, by rw [Nat.one_mul]; exact hQ0.symm, hr0, Nat.lt_of_le_of_lt r9 (by decide), by rw [Nat.one_mul]; exact Nat.le_refl _, by decide⟩ ?_
          rintro f σ' H7 ⟨x, y, rfl, e7, hx, hy, x0, xf, yx, y0⟩
          have xr : x ≤ r := Nat.le_trans (Nat.le_mul_of_pos_left x y0) yx
          have yr : y ≤ r := Nat.le_trans (Nat.le_mul_of_pos_right y x0) yx
          refine ⟨decide (x % p = 0), et_is (et_test (ev_op (ev_op (ev_var rfl) (ev_var rfl) (rv_I (by omega))) ev_c (rv_eq rfl))) ?_, fun hz H8 e8 => ?_, fun hz H8 e8 => ?_⟩
          · refine decide_eq_decide.mpr ⟨fun z => ?_, fun z => ?_⟩
            · have := V.int.inj z
              omega
            · refine congrArg V.int ?_
              omega
          · have hz := of_decide_eq_true hz
            cases f with
            | zero => omega
            | succ f =>
              rw [outR, if_pos hz] at hx
              rw [outQ, if_pos hz] at hy
              have xd := Nat.div_mul_cancel (Nat.dvd_of_mod_eq_zero hz)
              have xp : p ≤ x := Nat.le_of_dvd x0 (Nat.dvd_of_mod_eq_zero hz)
              have m2 : CMulX (y : Int) (p : Int) := mulx_ok (a := 32) (b := 32) (by omega) (by omega) (by decide)
              refine ⟨fun σ' H' => σ' = [some (.int (n : Int)), some (.ref q), some (.int ((x / p : Nat) : Int)), some (.int (p : Int)), some (.int ((y * p : Nat) : Int))] ∧ Ex H4 H', ?_, ?_⟩
              · rintro σ2 H9 ⟨rfl, e9⟩
                refine ⟨f, Nat.lt_succ_self f, x / p, y * p, rfl, e9, hx, ?_, div_pos2 x0 hz, div_half hp2 xf, ?_, Nat.mul_pos y0 (by omega)⟩
                · rw [Nat.mul_assoc]
                  exact hy
                · rw [Nat.mul_assoc, Nat.mul_comm p, xd]
                  exact yx
              · refine q_asg (v := .int ((x / p : Nat) : Int)) (ev_is (ev_op (ev_var rfl) (ev_var rfl) (rv_I (divw_ok (by omega) (by omega)))) (by rw [Int.natCast_ediv])) fun H9 e9 => ?_
                refine s_asg (v := .int ((y * p : Nat) : Int)) (ev_is (ev_op (ev_var rfl) (ev_var rfl) (rv_I m2)) (by rw [Int.natCast_mul])) fun H10 e10 => ⟨rfl, e7.trans (e8.trans (e9.trans e10))⟩
          · have hz : ¬ x % p = 0 := of_decide_eq_false hz
            have hx : x = R0 := by
              cases f with
              | zero => exact hx
              | succ f =>
                rw [outR, if_neg hz] at hx
                exact hx
            have hy : y = Q0 := by
              cases f with
              | zero =>
                rw [← hy]
                exact (Nat.mul_one y).symm
              | succ f =>
                rw [outQ, if_neg hz, Nat.mul_one] at hy
                exact hy
            subst hx hy
            have hq8 := (e7.trans e8) q _ hq4
            have ll : L.length < 100000 := by
              have a : L.length < 2 ^ L.length := Nat.lt_two_pow_self
              have b : 2 ^ L.length ≤ 2 ^ L.length * r := Nat.le_mul_of_pos_right _ hr0
              have c : 2 ^ L.length < 2 ^ 30 := Nat.lt_of_le_of_lt (Nat.le_trans b hLr) (by decide)
              have := (Nat.pow_lt_pow_iff_right (a := 2) (by decide)).mp c
              omega
            refine q_whenM (b := decide (1 < y)) (fun σ' H' => ∃ L' : List Nat, σ' = [some (.int (n : Int)), some (.ref q), some (.int (x : Int)), some (.int (p : Int)), some (.int (y : Int))] ∧ Ex H H' ∧ H' q = some (.lst (nv L')) ∧ L' = L ++ (if 1 < y then [y] else [])) (et_is (et_test (ev_op (ev_var rfl) ev_c rv_I0)) ?_) (fun hy1 H9 e9 N hN => ?_) (fun hy1 H9 e9 => ?_) ?_
            · refine decide_eq_decide.mpr ?_
              omega
            · have hy1 := of_decide_eq_true hy1
              refine s_app (e9 q _ hq8) (ev_var rfl) (ev_var rfl) (by rw [nv_len]; exact ll) fun H10 e10 => hN _ _ ⟨L ++ [y], rfl, Ex.mut (e4.trans (e7.trans (e8.trans (e9.trans e10)))) nq, ?_, by rw [if_pos hy1]⟩
              rw [upd_same, nv_app]
              rfl
            · have hy1 : ¬ 1 < y := of_decide_eq_false hy1
              exact ⟨L, rfl, e4.trans (e7.trans (e8.trans e9)), e9 q _ hq8, by rw [if_neg hy1, List.append_nil]⟩
            · rintro σ' H9 ⟨L', rfl, e9, hq9, hL'⟩
              exact s_aug rfl ev_c fun H10 e10 => ⟨L', by rw [Int.natCast_add]; rfl, e9.trans e10, e10 q _ hq9, hL'⟩
    · have hb : ¬ p * p ≤ r := of_decide_eq_false hb
      have hF : ppF m p r = if 1 < r then [r] else [] := by
        cases m with
        | zero => rfl
        | succ m => rw [ppF, if_neg hb]
      rw [hF] at hL
      have hq5 := e5 q _ hq4
      have ll : L.length ≤ 30 := by
        have b : 2 ^ L.length ≤ 2 ^ L.length * r := Nat.le_mul_of_pos_right _ hr0
        have c : 2 ^ L.length < 2 ^ 30 := Nat.lt_of_le_of_lt (Nat.le_trans b hLr) (by decide)
        exact Nat.le_of_lt ((Nat.pow_lt_pow_iff_right (a := 2) (by decide)).mp c)
      have et : EvT _ _ H5 (decide (1 < r)) := et_is (et_test (ev_op (ta := tVar 2) (tb := tC (.int 1)) (σ := [some (.int (n : Int)), some (.ref q), some (.int (r : Int)), some (.int (p : Int)), y4]) (ev_var rfl) ev_c (rv_I0 (g := fun i j => .bl (decide (i > j)))))) (decide_eq_decide.mpr (by omega))
      refine et _ (Ex.refl _) _ fun H6 e6 => ?_
      by_cases hr1 : 1 < r
      · rw [if_pos hr1] at hL
        rw [if_pos (decide_eq_true hr1)]
        refine el_catL (xs := nv L) (ys := [.int (r : Int)]) (ev_var rfl) (e6 q _ hq5) (el_lst (ea_cons (ev_var rfl) ea_nil) (Nat.le_of_ble_eq_true rfl)) (by rw [nv_len]; show L.length + 1 ≤ 1000; omega) H6 (Ex.refl _) _ fun z H7 nz e7 hz => ?_
        refine k z H7 ?_ (e4.trans (e5.trans (e6.trans e7))) ?_
        · cases hh : H z with
          | none => rfl
          | some o =>
            have := (e4.trans (e5.trans e6)) z o hh
            rw [nz] at this
            cases this
        · rw [hz, ← hL, nv_app]
          rfl
      · rw [if_neg hr1, List.append_nil] at hL
        rw [if_neg (by simpa using hr1)]
        refine (ev_var rfl : Ev (tVar 1) _ H6 (.ref q)) H6 (Ex.refl _) _ fun H7 e7 => ?_
        exact k q H7 nq (e4.trans (e5.trans (e6.trans e7))) (by rw [← hL]; exact (e6.trans e7) q _ hq5)
end


local macro_rules | `(tactic| walk_at "call") => `(tactic| (with_reducible exact sv_whole))
local macro_rules | `(tactic| walk_at "call") => `(tactic| ((with_reducible refine' sv_order ?c1 ?c2); (case c1 => assumption); (case c2 => assumption)))
local macro_rules | `(tactic| walk_at "call") => `(tactic| ((with_reducible refine' sv_ord ?c1 ?c2); (case c1 => assumption); (case c2 => assumption)))

/-! ### the least number of guests, as the law reckons it: the mathematics -/
theorem out_self {r : Nat} (h : 1 < r) : outR 64 r r = 1 ∧ outQ 64 r r = r := by
  have h1 : r / r = 1 := Nat.div_self (by omega)
  have h2 : 1 % r = 1 := Nat.mod_eq_of_lt h
  constructor
  · rw [outR, if_pos (Nat.mod_self r), h1, outR, if_neg (by rw [h2]; decide)]
  · rw [outQ, if_pos (Nat.mod_self r), h1, outQ, if_neg (by rw [h2]; decide), Nat.mul_one]
theorem outR_dvd (f p r : Nat) : outR f p r ∣ r := ⟨outQ f p r, by rw [Nat.mul_comm]; exact (out_mul f p r).symm⟩
theorem outR_not : ∀ (f p r : Nat), 2 ≤ p → 0 < r → r < 2 ^ f → ¬ p ∣ outR f p r
  | 0, p, r, _, h0, h => by
    have : r < 1 := h
    omega
  | f + 1, p, r, hp, h0, h => by
    unfold outR
    by_cases hz : r % p = 0
    · rw [if_pos hz]
      exact outR_not f p (r / p) hp (div_pos2 h0 hz) (div_half hp h)
    · rw [if_neg hz]
      exact fun d => hz (Nat.mod_eq_zero_of_dvd d)
theorem ppF_pos : ∀ (m p r : Nat), 1 < r → 0 < (ppF m p r).sum
  | 0, p, r, h => by
    rw [ppF, if_pos h]
    simp
    omega
  | m + 1, p, r, h => by
    rw [ppF]
    by_cases hp : p * p ≤ r
    · rw [if_pos hp, List.sum_append]
      obtain ⟨o1, o2, o3, o4⟩ := outR_le 64 p r (by omega)
      have om := out_mul 64 p r
      by_cases hq : 1 < outQ 64 p r
      · rw [if_pos hq]
        simp
        omega
      · have e : outQ 64 p r = 1 := by omega
        rw [e, Nat.one_mul] at om
        have := ppF_pos m (p + 1) (outR 64 p r) (by omega)
        omega
    · rw [if_neg hp, if_pos h]
      simp
      omega
theorem ppF_one (m p : Nat) (hp : 2 ≤ p) : ppF m p 1 = [] := by
  have h4 := Nat.mul_le_mul hp hp
  cases m with
  | zero => rfl
  | succ m => rw [ppF, if_neg (by omega), if_neg (by decide)]
def LI (n M F r p : Nat) : Prop := 0 < r ∧ r ≤ 10 ^ 9 ∧ 2 ≤ p ∧ p ≤ 10 ^ 9 ∧ ((r = 1 ∧ F = (ppL n).sum) ∨ (M = 1 ∧ p = r ∧ 1 < r ∧ F + r = (ppL n).sum) ∨ ∃ m, M = m + 2 ∧ F + (ppF m p r).sum = (ppL n).sum ∧ r < (p + m) * (p + m) ∧ p + m ≤ 40002 ∧ ∀ d, 2 ≤ d → d < p → ¬ d ∣ r)
theorem LI_start {n : Nat} (h1 : 1 ≤ n) (h9 : n ≤ 10 ^ 9) : LI n 40002 0 n 2 := ⟨h1, h9, by decide, by decide, .inr (.inr ⟨40000, rfl, Nat.zero_add _, by omega, by decide, fun d h2 h3 => by omega⟩)⟩
theorem LI_end {n M F r p : Nat} (h : LI n M F r p) (h1 : ¬ 1 < r) : F = (ppL n).sum := by
  obtain ⟨r0, r9, p2, p9, h⟩ := h
  have e : r = 1 := by omega
  subst e
  rcases h with ⟨_, h⟩ | ⟨_, _, h, _⟩ | ⟨m, _, h, _⟩
  · exact h
  · omega
  · rw [ppF_one m p p2] at h
    simpa using h
theorem LI_next {n M F r p : Nat} (h : LI n M F r p) (h1 : 1 < r) : ∃ M', M' < M ∧ LI n M' (F + if 1 < outQ 64 p r then outQ 64 p r else 0) (outR 64 p r) (if p * p ≤ outR 64 p r then p + 1 else max (outR 64 p r) 2) := by
  obtain ⟨r0, r9, p2, p9, h⟩ := h
  rcases h with ⟨h, _⟩ | ⟨hM, hp, _, hF⟩ | ⟨m, hM, hF, hrm, hpm, hd⟩
  · omega
  · subst hp
    obtain ⟨s1, s2⟩ := out_self h1
    have pp : ¬ p * p ≤ 1 := by
      have := Nat.mul_le_mul p2 p2
      omega
    rw [s1, s2, if_pos h1, if_neg pp]
    exact ⟨0, by omega, by decide, by decide, by decide, by decide, .inl ⟨rfl, hF⟩⟩
  · obtain ⟨o1, o2, o3, o4⟩ := outR_le 64 p r r0
    have om := out_mul 64 p r
    have od := outR_dvd 64 p r
    have on := outR_not 64 p r p2 r0 (Nat.lt_of_le_of_lt r9 (by decide))
    have h4 := Nat.mul_le_mul p2 p2
    by_cases hp : p * p ≤ r
    · cases m with
      | zero =>
        rw [Nat.add_zero] at hrm
        omega
      | succ m =>
        have hFs : F + (if 1 < outQ 64 p r then outQ 64 p r else 0) + (ppF m (p + 1) (outR 64 p r)).sum = (ppL n).sum := by
          rw [← hF, ppF, if_pos hp, List.sum_append]
          by_cases hq : 1 < outQ 64 p r
          · rw [if_pos hq, if_pos hq]
            simp
            omega
          · rw [if_neg hq, if_neg hq]
            simp
        by_cases hpR : p * p ≤ outR 64 p r
        · rw [if_pos hpR]
          refine ⟨m + 2, by omega, o1, by omega, by omega, by omega, .inr (.inr ⟨m, rfl, hFs, ?_, by omega, fun d h2 h3 hdv => ?_⟩)⟩
          · have : p + 1 + m = p + (m + 1) := by omega
            rw [this]
            exact Nat.lt_of_le_of_lt o2 hrm
          · by_cases e : d = p
            · rw [e] at hdv
              exact on hdv
            · exact hd d h2 (by omega) (Nat.dvd_trans hdv od)
        · rw [if_neg hpR]
          have h5 : ¬ (p + 1) * (p + 1) ≤ outR 64 p r := by
            have : p * p ≤ (p + 1) * (p + 1) := Nat.mul_le_mul (by omega) (by omega)
            omega
          have e : ppF m (p + 1) (outR 64 p r) = if 1 < outR 64 p r then [outR 64 p r] else [] := by
            cases m with
            | zero => rfl
            | succ m => rw [ppF, if_neg h5]
          rw [e] at hFs
          by_cases hR : 1 < outR 64 p r
          · rw [if_pos hR] at hFs
            have em : max (outR 64 p r) 2 = outR 64 p r := by omega
            rw [em]
            refine ⟨1, by omega, o1, by omega, by omega, by omega, .inr (.inl ⟨rfl, rfl, hR, ?_⟩)⟩
            simpa using hFs
          · rw [if_neg hR] at hFs
            refine ⟨0, by omega, o1, by omega, by omega, by omega, .inl ⟨by omega, ?_⟩⟩
            simpa using hFs
    · have e : ppF m p r = [r] := by
        cases m with
        | zero => rw [ppF, if_pos h1]
        | succ m => rw [ppF, if_neg hp, if_pos h1]
      rw [e] at hF
      have hF : F + r = (ppL n).sum := by simpa using hF
      by_cases hz : p ∣ r
      · obtain ⟨q, hq⟩ := hz
        have q1 : q = 1 := by
          by_cases hq2 : 2 ≤ q
          · have ql : q < p := by
              refine Nat.lt_of_not_le fun z => hp ?_
              rw [hq]
              exact Nat.mul_le_mul_left p z
            exact absurd ⟨p, by rw [hq, Nat.mul_comm]⟩ (hd q hq2 ql)
          · have : q ≠ 0 := fun z => by
              rw [z, Nat.mul_zero] at hq
              omega
            omega
        rw [q1, Nat.mul_one] at hq
        subst hq
        obtain ⟨s1, s2⟩ := out_self h1
        have pp : ¬ r * r ≤ 1 := by omega
        rw [s1, s2, if_pos h1, if_neg pp]
        exact ⟨0, by omega, by decide, by decide, by decide, by decide, .inl ⟨rfl, hF⟩⟩
      · have s1 : outR 64 p r = r := by rw [outR, if_neg fun z => hz (Nat.dvd_of_mod_eq_zero z)]
        have s2 : outQ 64 p r = 1 := by rw [outQ, if_neg fun z => hz (Nat.dvd_of_mod_eq_zero z)]
        rw [s1, s2, if_neg (by decide), if_neg hp]
        have em : max r 2 = r := by omega
        rw [em]
        exact ⟨1, by omega, r0, r9, by omega, r9, .inr (.inl ⟨rfl, rfl, h1, hF⟩)⟩

/-! ### least_guests, _law_least -/
theorem sv_ll {H : Hp} {n : Nat} (h1 : 1 ≤ n) (h2 : n ≤ 10 ^ 9) : SpV sp_least ([.int (n : Int)] ++ []) H (.int (leastN n : Int)) := sv_least h1 h2
theorem ev_sumL {K : PySem.W.Frag} {σ : L2.St} {H : Hp} {te : TE} {ns : List Int} (h : EvL te σ H (ns.map V.int)) : Ev (tCB (rSum K) (tCons te tNil)) σ H (.int ns.sum) := fun H1 e Q q => h H1 e _ fun p H2 np e2 hp => ⟨p, ns, rfl, sq_of hp, q H2 e2⟩
theorem leastN_max {n : Nat} (h1 : 1 ≤ n) : leastN n = max 1 (ppL n).sum := by
  unfold leastN
  by_cases e : n = 1
  · subst e
    rw [if_pos rfl]
    have : ppL 1 = [] := ppF_one 40000 2 (by decide)
    rw [this]
    rfl
  · rw [if_neg e]
    have : 0 < (ppL n).sum := ppF_pos 40000 2 n (by omega)
    omega
section
variable {P : Program} {w : World} {K : PySem.W.Frag} {mg : Str → Option Value} {base : Heap}
theorem ok_least_guests (T : Tx K mg) : FnOk P w K mg base CX0 4 T.f_least_guests T.d_least_guests ["period"] sp_least := by
  refine T.F_least_guests.ok sc_least_guests (fun vs H Q E h => ?_) (fun cdv A outer s0 H vs Q E hr h => ?_)
  · obtain ⟨n, rfl, _⟩ := h
    rfl
  · obtain ⟨n, rfl, n1, n9, k⟩ := h
    refine ⟨_, (pss_cons (ps_expr (pe_call (ok_check_number T) (hr.mono (by decide)) (by rfl) T.g_check_number T.F_check_number.kp T.b_check_number .nil pass0 (pa_cons (pv 0) (pa_cons pe_int (pa_cons (pe_gc (by rfl) T.c_MOST_PERIOD) pa_nil)))))
      (pss_cons (ps_if (pt_cmpR op_eq (pv 0) pe_int (nomark _)) (pss_one (ps_ret pe_int)) pss_nil)
      (pss_one (ps_ret (pe_callB (cr_sum rfl) (by rfl) T.m_sum (by decide +kernel) (pa_cons (pe_call (ok_prime_powers T) (hr.mono (by decide)) (by rfl) T.g_prime_powers T.F_prime_powers.kp T.b_prime_powers .nil pass0 (pa_cons (pv 0) pa_nil)) pa_nil)))))), ?_⟩
    refine q_drop (ev_call (z := .non) (ea_cons (ev_var rfl) (ea_cons ev_c (ea_cons ev_c ea_nil))) (sv_check_number (by omega) (by omega))) fun H1 e1 => ?_
    refine q_when (b := decide (n = 1)) (et_is (et_test (ev_op (ev_var rfl) ev_c (rv_eq rfl))) ?_) (fun hb H2 e2 => ?_) fun hb H2 e2 => ?_
    · refine decide_eq_decide.mpr ⟨fun z => ?_, fun z => ?_⟩
      · have := V.int.inj z
        omega
      · exact congrArg V.int (by omega)
    · have hb := of_decide_eq_true hb
      have e : leastN n = 1 := if_pos hb
      exact s_ret ev_c fun H3 e3 => by
        have := k H3 (e1.trans (e2.trans e3))
        rw [e] at this
        exact this
    · have hb : ¬ n = 1 := of_decide_eq_false hb
      have e : leastN n = (ppL n).sum := if_neg hb
      refine s_ret (v := .int (leastN n : Int)) (ev_is (ev_sumL (ns := (ppL n).map fun x : Nat => (x : Int)) ?_) ?_) fun H3 e3 => k H3 (e1.trans (e2.trans e3))
      · have := el_call (E := E) (ea_cons (ev_var (i := 0) (σ := [some (.int (n : Int))]) (H := H2) rfl) ea_nil) (sl_ppow (H := H2) n1 n9)
        rw [nv_eq] at this
        rw [List.map_map]
        exact this
      · rw [e]
        congr 1
        generalize ppL n = L
        induction L with
        | nil => rfl
        | cons x l ih => rw [List.map_cons, List.sum_cons, List.sum_cons, ih, Int.natCast_add]
end


local macro_rules | `(tactic| walk_at "call") => `(tactic| (with_reducible exact sv_whole))
local macro_rules | `(tactic| walk_at "call") => `(tactic| ((with_reducible refine' sv_order ?c1 ?c2); (case c1 => assumption); (case c2 => assumption)))
local macro_rules | `(tactic| walk_at "call") => `(tactic| ((with_reducible refine' sv_ord ?c1 ?c2); (case c1 => assumption); (case c2 => assumption)))

/-! ### _law_least -/
theorem q_par3 {ta : TA} {tz : TS} {σ : L2.St} {H : Hp} {D : Ends} {i j l : Nat} {x y z : V} (ha : EvA ta σ H [x, y, z]) (k : ∀ H1, Ex H H1 → tz D (((σ.set i (some x)).set j (some y)).set l (some z)) H1) : tSeq (tPar3 i j l ta) tz D σ H := ha H (Ex.refl H) _ fun H1 e => ⟨x, y, z, rfl, k H1 e⟩
section
variable {P : Program} {w : World} {K : PySem.W.Frag} {mg : Str → Option Value} {base : Heap}
theorem ok_law_least (T : Tx K mg) : FnOk P w K mg base CX0 1 T.f_law_least T.d_law_least ["period_here"] sp_least := by
  refine T.F_law_least.ok sc_law_least (fun vs H Q E h => ?_) (fun cdv A outer s0 H vs Q E hr h => ?_)
  · obtain ⟨n, rfl, _⟩ := h
    rfl
  · obtain ⟨n, rfl, n1, n9, k⟩ := h
    refine ⟨_, (pss_cons (ps_par3 (i := 1) (j := 2) (l := 3) (by rfl) sc_law_least.nd rfl rfl rfl (by decide) (by decide) (by decide) rfl rfl rfl (pa_cons pe_int (pa_cons (pv 0) (pa_cons pe_int pa_nil))) (by rfl))
      (pss_cons (ps_while PassesOwn.never (pt_cmpR op_gt (pv 2) pe_int (nomark _)) (pss_cons (ps_set (i := 4) sc_law_least.nd rfl (Or.inl rfl) pe_int)
      (pss_cons (ps_while PassesOwn.never (pt_cmpR op_eq (pe_op op_mod (pe_callTy call_intI (by rfl) T.m_int (by decide +kernel) (pa_cons (pv 2) pa_nil)) (pv 3)) pe_int (nomark _)) (pss_one (ps_par (i := 2) (j := 4) (by rfl) sc_law_least.nd rfl rfl (by decide) rfl rfl (pa_cons (pe_op op_fdivW (pv 2) (pv 3)) (pa_cons (pe_op op_mulX (pv 4) (pv 3)) pa_nil)) (by rfl))))
      (pss_cons (ps_set (i := 1) sc_law_least.nd rfl (Or.inl rfl) (pe_op op_add (pv 1) (pe_op op_mulX (pv 4) (pe_callTy call_intB (by rfl) T.m_int (by decide +kernel) (pa_cons (pe_cmpR op_gt (pv 4) pe_int (nomark _)) pa_nil)))))
      (pss_one (ps_set (i := 3) sc_law_least.nd rfl (Or.inl rfl) (pe_ifExp (pt_cmpR op_le (pe_op op_mulX (pv 3) (pv 3)) (pv 2) (nomark _)) (pe_op op_add (pv 3) pe_int) (pe_callB (call_maxR rfl) (by rfl) T.m_max (by decide +kernel) (pa_cons (pv 2) (pa_cons pe_int pa_nil))))))))))
      (pss_one (ps_ret (pe_callB (call_maxR rfl) (by rfl) T.m_max (by decide +kernel) (pa_cons pe_int (pa_cons (pv 1) pa_nil))))))), ?_⟩
    refine q_par3 (ea_cons ev_c (ea_cons (ev_var rfl) (ea_cons ev_c ea_nil))) fun H1 e1 => ?_
    refine q_while (fun M σ' H' => ∃ (F r p : Nat) (y4 : Option V), σ' = [some (.int (n : Int)), some (.int (F : Int)), some (.int (r : Int)), some (.int (p : Int)), y4] ∧ Ex H H' ∧ LI n M F r p) 40002 ⟨0, n, 2, none, rfl, e1, LI_start n1 n9⟩ ?_
    rintro M σ' H2 ⟨F, r, p, y4, rfl, e2, hI⟩
    have r0 : 0 < r := hI.1
    have r9 : r ≤ 10 ^ 9 := hI.2.1
    have p2 : 2 ≤ p := hI.2.2.1
    have p9 : p ≤ 10 ^ 9 := hI.2.2.2.1
    refine ⟨decide (1 < r), et_is (et_test (ev_op (ev_var rfl) ev_c rv_I0)) (decide_eq_decide.mpr (by omega)), fun hb H3 e3 => ?_, fun hb H3 e3 => ?_⟩
    · have hb := of_decide_eq_true hb
      obtain ⟨M', hM, hI'⟩ := LI_next hI hb
      obtain ⟨o1, o2, o3, o4⟩ := outR_le 64 p r r0
      obtain ⟨R0, hR0⟩ : ∃ R0, R0 = outR 64 p r := ⟨_, rfl⟩
      obtain ⟨Q0, hQ0⟩ : ∃ Q0, Q0 = outQ 64 p r := ⟨_, rfl⟩
      rw [← hR0] at o1 o2 hI'
      rw [← hQ0] at o3 o4 hI'
      refine ⟨fun σ' H' => σ' = [some (.int (n : Int)), some (.int ((F + (if 1 < Q0 then Q0 else 0) : Nat) : Int)), some (.int (R0 : Int)), some (.int ((if p * p ≤ R0 then p + 1 else max R0 2 : Nat) : Int)), some (.int (Q0 : Int))] ∧ Ex H H', ?_, ?_⟩
      · rintro σ2 H4 ⟨rfl, e4⟩
        exact ⟨M', hM, _, _, _, _, rfl, e4, hI'⟩
      · refine q_asg (v := .int 1) ev_c fun H6 e6 => ?_
        refine q_while (fun f σ' H' => ∃ (x y : Nat), σ' = [some (.int (n : Int)), some (.int (F : Int)), some (.int (x : Int)), some (.int (p : Int)), some (.int (y : Int))] ∧ Ex H2 H' ∧ outR f p x = R0 ∧ y * outQ f p x = Q0 ∧ 0 < x ∧ x < 2 ^ f ∧ y * x ≤ r ∧ 0 < y) 64
          ⟨r, 1, rfl, e3.trans e6, hR0.symm, by rw [Nat.one_mul]; exact hQ0.symm, r0, Nat.lt_of_le_of_lt r9 (by decide), by rw [Nat.one_mul]; exact Nat.le_refl _, by decide⟩ ?_
        rintro f σ' H7 ⟨x, y, rfl, e7, hx, hy, x0, xf, yx, y0⟩
        have xr : x ≤ r := Nat.le_trans (Nat.le_mul_of_pos_left x y0) yx
        have yr : y ≤ r := Nat.le_trans (Nat.le_mul_of_pos_right y x0) yx
        refine ⟨decide (x % p = 0), et_is (et_test (ev_op (ev_op (ev_intI (ev_var rfl)) (ev_var rfl) (rv_I (by omega))) ev_c (rv_eq rfl))) ?_, fun hz H8 e8 => ?_, fun hz H8 e8 => ?_⟩
        · refine decide_eq_decide.mpr ⟨fun z => ?_, fun z => ?_⟩
          · have := V.int.inj z
            omega
          · refine congrArg V.int ?_
            omega
        · have hz := of_decide_eq_true hz
          cases f with
          | zero => omega
          | succ f =>
            rw [outR, if_pos hz] at hx
            rw [outQ, if_pos hz] at hy
            have xd := Nat.div_mul_cancel (Nat.dvd_of_mod_eq_zero hz)
            have xp : p ≤ x := Nat.le_of_dvd x0 (Nat.dvd_of_mod_eq_zero hz)
            have m2 : CMulX (y : Int) (p : Int) := mulx_ok (a := 32) (b := 32) (by omega) (by omega) (by decide)
            refine ⟨fun σ' H' => σ' = [some (.int (n : Int)), some (.int (F : Int)), some (.int ((x / p : Nat) : Int)), some (.int (p : Int)), some (.int ((y * p : Nat) : Int))] ∧ Ex H2 H', ?_, ?_⟩
            · rintro σ2 H9 ⟨rfl, e9⟩
              refine ⟨f, Nat.lt_succ_self f, x / p, y * p, rfl, e9, hx, ?_, div_pos2 x0 hz, div_half p2 xf, ?_, Nat.mul_pos y0 (by omega)⟩
              · rw [Nat.mul_assoc]
                exact hy
              · rw [Nat.mul_assoc, Nat.mul_comm p, xd]
                exact yx
            · refine s_par (ea_cons (ev_is (w := .int ((x / p : Nat) : Int)) (ev_op (ev_var rfl) (ev_var rfl) (rv_I (divw_ok (by omega) (by omega)))) (by rw [Int.natCast_ediv])) (ea_cons (ev_is (w := .int ((y * p : Nat) : Int)) (ev_op (ev_var rfl) (ev_var rfl) (rv_I m2)) (by rw [Int.natCast_mul])) ea_nil)) fun H10 e10 => ⟨rfl, e7.trans (e8.trans e10)⟩
        · have hz : ¬ x % p = 0 := of_decide_eq_false hz
          have hx : x = R0 := by
            cases f with
            | zero => exact hx
            | succ f =>
              rw [outR, if_neg hz] at hx
              exact hx
          have hy : y = Q0 := by
            cases f with
            | zero =>
              rw [← hy]
              exact (Nat.mul_one y).symm
            | succ f =>
              rw [outQ, if_neg hz, Nat.mul_one] at hy
              exact hy
          subst hx hy
          have ml : ∀ t : Int, 0 ≤ t → t ≤ 1 → CMulX (y : Int) t := fun t t0 t1 => mulx_ok (a := 32) (b := 32) (by omega) (by omega) (by decide)
          have mm : CMulX (p : Int) (p : Int) := mulx_ok (a := 32) (b := 32) (by omega) (by omega) (by decide)
          refine q_asg (v := .int ((F + (if 1 < y then y else 0) : Nat) : Int)) (ev_is (ev_op (ev_var rfl) (ev_op (ev_var rfl) (ev_intB (ev_op (ev_var rfl) ev_c rv_I0)) (rv_I (ml _ ?_ ?_))) rv_I0) ?_) fun H9 e9 => ?_
          · split <;> decide
          · split <;> decide
          · congr 1
            by_cases hy1 : 1 < y
            · rw [if_pos hy1]
              have : decide ((y : Int) > 1) = true := decide_eq_true (by omega)
              rw [this]
              simp
            · rw [if_neg hy1]
              have : decide ((y : Int) > 1) = false := decide_eq_false (by omega)
              rw [this]
              simp
          · refine s_asg (v := .int ((if p * p ≤ x then p + 1 else max x 2 : Nat) : Int)) (ev_if (b := decide (p * p ≤ x)) (et_is (et_test (ev_op (ev_op (ev_var rfl) (ev_var rfl) (rv_I mm)) (ev_var rfl) rv_I0)) ?_) (fun hb2 => ?_) fun hb2 => ?_) fun H10 e10 => ⟨rfl, e2.trans (e7.trans (e8.trans (e9.trans e10)))⟩
            · refine decide_eq_decide.mpr ?_
              rw [← Int.natCast_mul]
              exact Int.ofNat_le
            · rw [if_pos (of_decide_eq_true hb2)]
              exact ev_is (ev_op (ev_var rfl) ev_c rv_I0) (by rw [Int.natCast_add]; rfl)
            · rw [if_neg (of_decide_eq_false hb2)]
              exact ev_is (ev_max2 (ev_var rfl) ev_c) (congrArg V.int (by omega))
    · have hb : ¬ 1 < r := of_decide_eq_false hb
      have hF := LI_end hI hb
      refine s_ret (v := .int (leastN n : Int)) (ev_is (ev_max2 ev_c (ev_var rfl)) (congrArg V.int ?_)) fun H4 e4 => k H4 (e2.trans (e3.trans e4))
      rw [leastN_max n1, hF]
      omega
end


local macro_rules | `(tactic| walk_at "call") => `(tactic| (with_reducible exact sv_whole))
local macro_rules | `(tactic| walk_at "call") => `(tactic| ((with_reducible refine' sv_order ?c1 ?c2); (case c1 => assumption); (case c2 => assumption)))
local macro_rules | `(tactic| walk_at "call") => `(tactic| ((with_reducible refine' sv_ord ?c1 ?c2); (case c1 => assumption); (case c2 => assumption)))

def Lb (H : Hp) (v : V) (r : List Nat) : Prop := ∃ b, v = .ref b ∧ H b = some (.lst (nv r))
theorem Lb.ex {H H' : Hp} {v : V} {r : List Nat} (e : Ex H H') (h : Lb H v r) : Lb H' v r := by
  obtain ⟨b, rfl, h⟩ := h
  exact ⟨b, rfl, e b _ h⟩

/-! ### a new list of new lists -/
def EvLB (te : TE) (σ : L2.St) (H : Hp) (rs : List (List Nat)) : Prop := ∀ H1, Ex H H1 → ∀ Q : VK, (∀ p vs H2, H1 p = none → Ex H1 H2 → H2 p = some (.lst vs) → Paired (Lb H2) vs rs → Q (.ref p) H2) → te σ H1 Q
theorem s_retLB {te : TE} {σ : L2.St} {H : Hp} {D : Ends} {rs : List (List Nat)} (h : EvLB te σ H rs) (k : ∀ p vs H1, H p = none → Ex H H1 → H1 p = some (.lst vs) → Paired (Lb H1) vs rs → D.rt (.ref p) H1) : tRet te D σ H := h H (Ex.refl H) _ k
def Lc (Dl : Addr) (H : Hp) (v : V) (r : List Nat) : Prop := ∃ b, v = .ref b ∧ b ≠ Dl ∧ H b = some (.lst (nv r))
theorem Lc.ex {Dl : Addr} {H H' : Hp} {v : V} {r : List Nat} (e : Ex H H') (h : Lc Dl H v r) : Lc Dl H' v r := by
  obtain ⟨b, rfl, n, h⟩ := h
  exact ⟨b, rfl, n, e b _ h⟩
theorem Lc.upd {Dl : Addr} {H : Hp} {o : HO} {v : V} {r : List Nat} (h : Lc Dl H v r) : Lc Dl (upd H Dl o) v r := by
  obtain ⟨b, rfl, n, h⟩ := h
  exact ⟨b, rfl, n, by rw [upd_ne n]; exact h⟩
theorem Lc.lb {Dl : Addr} {H : Hp} {v : V} {r : List Nat} (h : Lc Dl H v r) : Lb H v r := by
  obtain ⟨b, rfl, n, h⟩ := h
  exact ⟨b, rfl, h⟩
section
variable {K : PySem.W.Frag} {σ : L2.St} {H : Hp} {ta tb te : TE} {t : TT} {D : Ends} {tz : TS}
/-- [a new list for i in range(n) if t] -/
theorem elb_R1f {tn : TA} {j : Nat} {vs : List Nat} {n : Int} (f : Nat → Bool) (F : Nat → List Nat) (h : EvA tn σ H [.int n]) (hn : 0 ≤ n ∧ n ≤ 40000) (hw : ∀ x, wipe ((wipe σ vs).set j (some x)) vs = wipe σ vs)
    (ht : ∀ (i : Nat) H1, Ex H H1 → (i : Int) < n → EvT t ((wipe σ vs).set j (some (.int (i : Int)))) H1 (f i)) (he : ∀ (i : Nat) H1, Ex H H1 → (i : Int) < n → f i = true → EvL te ((wipe σ vs).set j (some (.int (i : Int)))) H1 (nv (F i))) :
    EvLB (tLc (iRng1 tn) (gName j) t te vs) σ H (((List.range n.toNat).filter f).map F) := fun H0 e Q q => h H0 e _ fun H1 e1 => ⟨n, rfl, by omega, by omega, fun Dl hD =>
  lc_range (lo := 0) (n := n.toNat) (fun i H' => Ex H1 H' ∧ ∃ us, H' Dl = some (.lst us) ∧ Paired (Lc Dl H') us (((List.range i).filter f).map F)) ⟨Ex.new hD, [], upd_same, .nil⟩ (fun i H' hi p => by
    obtain ⟨p1, us, p2, p3⟩ := p
    have e0 : (0 : Int) + (i : Int) = (i : Int) := Int.zero_add _
    have ul : us.length ≤ i := by
      have := Paired.length p3
      rw [List.length_map] at this
      have := List.length_filter_le f (List.range i)
      rw [List.length_range] at this
      omega
    show wipe ((wipe σ vs).set j (some (.int ((0 : Int) + (i : Int))))) vs = wipe σ vs ∧ t ((wipe σ vs).set j (some (.int ((0 : Int) + (i : Int))))) H' fun b H3 => if b = true then te ((wipe σ vs).set j (some (.int ((0 : Int) + (i : Int))))) H3 fun y H4 => ∃ acc, H4 Dl = some (.lst acc) ∧ acc.length < sizeLine ∧ (Ex H1 (upd H4 Dl (.lst (acc ++ [y]))) ∧ ∃ us, (upd H4 Dl (.lst (acc ++ [y]))) Dl = some (.lst us) ∧ Paired (Lc Dl (upd H4 Dl (.lst (acc ++ [y])))) us (((List.range (i + 1)).filter f).map F)) else (Ex H1 H3 ∧ ∃ us, H3 Dl = some (.lst us) ∧ Paired (Lc Dl H3) us (((List.range (i + 1)).filter f).map F))
    rw [e0]
    refine ⟨hw _, ht i H1 (e.trans e1) (by omega) H' p1 _ fun H3 e3 => ?_⟩
    have nx : ((List.range (i + 1)).filter f).map F = ((List.range i).filter f).map F ++ (([i].filter f).map F) := by rw [List.range_succ, List.filter_append, List.map_append]
    rw [nx]
    cases hf : f i with
    | true =>
      rw [if_pos rfl]
      refine he i H1 (e.trans e1) (by omega) hf H3 (p1.trans e3) _ fun l H4 hl4 e4 h4 => ?_
      have lD : l ≠ Dl := fun z => by
        subst z
        rw [e3 l _ p2] at hl4
        cases hl4
      refine ⟨us, e4 Dl _ (e3 Dl _ p2), sz_lt (by omega), Ex.mut (p1.trans (e3.trans e4)) hD, _, upd_same, ?_⟩
      have : [i].filter f = [i] := by simp [hf]
      rw [this]
      exact Paired.snoc (paired_imp (fun _ _ z => (z.ex (e3.trans e4)).upd) p3) ⟨l, rfl, lD, by rw [upd_ne lD]; exact h4⟩
    | false =>
      rw [if_neg (by simp)]
      refine ⟨p1.trans e3, us, e3 Dl _ p2, ?_⟩
      have : [i].filter f = [] := by simp [hf]
      rw [this, List.map_nil, List.append_nil]
      exact paired_imp (fun _ _ z => z.ex e3) p3) (fun H' p => by
      obtain ⟨p1, us, p2, p3⟩ := p
      exact q Dl us H' (fresh_back e1 hD) (e1.trans p1) p2 (paired_imp (fun _ _ z => z.lb) p3))⟩
end

section
variable {K : PySem.W.Frag} {σ : L2.St} {H H' : Hp} {ta tb tc te : TE} {tr : TA} {D : Ends} {tz : TS} {r : List Nat} {rs ss : List (List Nat)}
def EvLBA (ta : TA) (σ : L2.St) (H : Hp) (rs : List (List Nat)) : Prop := ∀ H1, Ex H H1 → ∀ Q : List V → Hp → Prop, (∀ vs H2, Ex H1 H2 → Paired (Lb H2) vs rs → Q vs H2) → ta σ H1 Q
theorem lba_nil : EvLBA tNil σ H [] := fun H1 _ _ q => q [] H1 (Ex.refl _) .nil
theorem lba_cons (h : EvL te σ H (nv r)) (hr : EvLBA tr σ H rs) : EvLBA (tCons te tr) σ H (r :: rs) := fun H1 e _ q => h H1 e _ fun p H2 _ e2 h2 => hr H2 (e.trans e2) _ fun vs H3 e3 hv => q _ H3 (e2.trans e3) (.cons ⟨p, rfl, e3 p _ h2⟩ hv)
theorem elb_lst (h : EvLBA tr σ H rs) (hl : rs.length ≤ 1000) : EvLB (tLst tr) σ H rs := fun H1 e Q q => h H1 e _ fun vs H2 e2 hv => ⟨sz_of (by have := Paired.length hv; omega), fun l hl => q l vs _ (fresh_back e2 hl) (e2.trans (Ex.new hl)) upd_same (paired_imp (fun _ _ x => Lb.ex (Ex.new hl) x) hv)⟩
theorem elb_map {a : Addr} {ws : List V} {rs : List (List Nat)} {j : Nat} {vs : List Nat} (F : List Nat → List Nat) (h : Ev ta σ H (.ref a)) (ha : H a = some (.lst ws)) (hr : Paired (Lb H) ws rs) (hz : ws.length ≤ 40000) (hw : ∀ x, wipe ((wipe σ vs).set j (some x)) vs = wipe σ vs)
    (he : ∀ (b : Addr) (r : List Nat) H1, Ex H H1 → r ∈ rs → H1 b = some (.lst (nv r)) → EvL te ((wipe σ vs).set j (some (.ref b))) H1 (nv (F r))) : EvLB (tLc (iList K ta) (gName j) tYes te vs) σ H (rs.map F) := fun H0 e Q q => h H0 e _ fun H1 e1 => ⟨a, rfl, ⟨ws, sq_of (e1 a _ (e a _ ha))⟩, fun Dl hD =>
  lc_list (xs := ws) (fun i H' => Ex H1 H' ∧ ∃ us, H' Dl = some (.lst us) ∧ Paired (Lc Dl H') us ((rs.map F).take i)) ⟨Ex.new hD, [], upd_same, .nil⟩ (fun i H' _ p => sq_of (p.1 a _ (e1 a _ (e a _ ha)))) (fun i x H' hi p => by
    obtain ⟨p1, us, p2, p3⟩ := p
    obtain ⟨r, hr1, b, rfl, hb⟩ := paired_get hr hi
    have hl := Paired.length hr
    have hil := (List.getElem?_eq_some_iff.mp hi).1
    have ul : us.length = i := by
      have := Paired.length p3
      rw [List.length_take, List.length_map] at this
      omega
    show wipe ((wipe σ vs).set j (some (.ref b))) vs = wipe σ vs ∧ te ((wipe σ vs).set j (some (.ref b))) H' fun y H4 => ∃ acc, H4 Dl = some (.lst acc) ∧ acc.length < sizeLine ∧ _
    refine ⟨hw _, he b r H1 (e.trans e1) (List.mem_of_getElem? hr1) (e1 b _ (e b _ hb)) H' p1 _ fun l H4 hl4 e4 h4 => ?_⟩
    have lD : l ≠ Dl := fun z => by
      subst z
      rw [hl4] at p2
      cases p2
    refine ⟨us, e4 Dl _ p2, sz_lt (by omega), Ex.mut (p1.trans e4) hD, _, upd_same, ?_⟩
    have gz : (rs.map F)[i]? = some (F r) := by rw [List.getElem?_map, hr1]; rfl
    rw [List.take_add_one, gz]
    exact Paired.snoc (paired_imp (fun _ _ z => (z.ex e4).upd) p3) ⟨l, rfl, lD, by rw [upd_ne lD]; exact h4⟩) (fun H' p => by
      obtain ⟨p1, us, p2, p3⟩ := p
      rw [List.take_of_length_le (by rw [List.length_map]; have := Paired.length hr; omega)] at p3
      exact q Dl us H' (fresh_back e1 hD) (e1.trans p1) p2 (paired_imp (fun _ _ z => z.lb) p3))⟩
end
theorem lb_lc {g : Addr} {H : Hp} {us : List V} {rows : List (List Nat)} (hu : H g = some (.lst us)) (hp : Paired (Lc g H) us rows) {v : V} {r : List Nat} (h : Lb H v r) (ne : r ≠ []) : Lc g H v r := by
  obtain ⟨b, rfl, hb⟩ := h
  refine ⟨b, rfl, fun z => ?_, hb⟩
  subst z
  rw [hu] at hb
  have e : us = nv r := by
    have := Option.some.inj hb
    injection this
  cases r with
  | nil => exact ne rfl
  | cons x l =>
    cases hp with
    | nil => simp [nv, iz] at e
    | cons a _ =>
      obtain ⟨c, rfl, _⟩ := a
      have := (List.cons.inj e).1
      cases this

/-! ### partitions: the mathematics -/
def partsF : Nat → Nat → Nat → List (List Nat)
  | 0, l, _ => if l = 0 then [[]] else []
  | f + 1, l, m => if l = 0 then [[]] else (List.range (min l m)).flatMap fun i => (partsF f (l - (i + 1)) (i + 1)).map fun r => (i + 1) :: r
def partsN (l m : Nat) : List (List Nat) := partsF l l m
theorem flatMap_eq {α β : Type} {f g : α → List β} : ∀ {l : List α}, (∀ x ∈ l, f x = g x) → l.flatMap f = l.flatMap g
  | [], _ => rfl
  | x :: l, h => by
    rw [List.flatMap_cons, List.flatMap_cons, h x List.mem_cons_self, flatMap_eq fun y hy => h y (List.mem_cons_of_mem _ hy)]
theorem partsF_next : ∀ (f l m : Nat), l ≤ f → partsF (f + 1) l m = partsF f l m
  | 0, l, m, h => by
    obtain rfl : l = 0 := by omega
    rfl
  | f + 1, l, m, h => by
    by_cases e : l = 0
    · subst e
      rfl
    · rw [partsF, partsF, if_neg e, if_neg e]
      refine flatMap_eq fun i _ => ?_
      rw [partsF_next f (l - (i + 1)) (i + 1) (by omega)]
theorem partsF_fuel : ∀ (k l m : Nat), partsF (l + k) l m = partsN l m
  | 0, l, m => rfl
  | k + 1, l, m => by
    rw [← Nat.add_assoc, partsF_next (l + k) l m (by omega), partsF_fuel k l m]
def pTo (l i : Nat) : List (List Nat) := (List.range i).flatMap fun j => (partsN (l - (j + 1)) (j + 1)).map fun r => (j + 1) :: r
theorem partsN_eq {l m : Nat} (h : l ≠ 0) : partsN l m = pTo l (min l m) := by
  obtain ⟨k, rfl⟩ : ∃ k, l = k + 1 := ⟨l - 1, by omega⟩
  unfold partsN
  rw [partsF, if_neg h]
  unfold pTo
  refine flatMap_eq fun i hi => ?_
  have hi := List.mem_range.mp hi
  have : partsF k (k + 1 - (i + 1)) (i + 1) = partsN (k + 1 - (i + 1)) (i + 1) := by
    have e := partsF_fuel i (k + 1 - (i + 1)) (i + 1)
    rw [show k + 1 - (i + 1) + i = k by omega] at e
    exact e
  rw [this]
theorem pTo_next (l i : Nat) : pTo l (i + 1) = pTo l i ++ (partsN (l - (i + 1)) (i + 1)).map fun r => (i + 1) :: r := by
  unfold pTo
  rw [List.range_succ, List.flatMap_append]
  simp
theorem pTo_mono (l : Nat) {i j : Nat} (h : i ≤ j) : (pTo l i).length ≤ (pTo l j).length := by
  induction j with
  | zero =>
    obtain rfl : i = 0 := by omega
    exact Nat.le_refl _
  | succ j ih =>
    by_cases e : i = j + 1
    · rw [e]
      exact Nat.le_refl _
    · rw [pTo_next, List.length_append]
      have := ih (by omega)
      omega
theorem partsN_small : ∀ l < 21, ∀ m < 21, (partsN l m).length ≤ 700 := by decide +kernel
theorem partsF_row : ∀ (f l m : Nat) (r : List Nat), r ∈ partsF f l m → r.sum = l ∧ ∀ x ∈ r, 0 < x
  | 0, l, m, r, h => by
    rw [partsF] at h
    by_cases e : l = 0
    · rw [if_pos e] at h
      have := List.mem_singleton.mp h
      subst this
      exact ⟨by simp [e], fun x hx => nomatch hx⟩
    · rw [if_neg e] at h
      exact nomatch h
  | f + 1, l, m, r, h => by
    rw [partsF] at h
    by_cases e : l = 0
    · rw [if_pos e] at h
      have := List.mem_singleton.mp h
      subst this
      exact ⟨by simp [e], fun x hx => nomatch hx⟩
    · rw [if_neg e] at h
      obtain ⟨i, hi, hr⟩ := List.mem_flatMap.mp h
      have hi := List.mem_range.mp hi
      obtain ⟨q, hq, rfl⟩ := List.mem_map.mp hr
      obtain ⟨a, b⟩ := partsF_row f _ _ q hq
      refine ⟨by rw [List.sum_cons, a]; omega, fun x hx => ?_⟩
      rcases List.mem_cons.mp hx with rfl | hx
      · omega
      · exact b x hx
theorem sum_ge_len : ∀ (r : List Nat), (∀ x ∈ r, 0 < x) → r.length ≤ r.sum
  | [], _ => Nat.le_refl _
  | x :: l, h => by
    have a := sum_ge_len l fun y hy => h y (List.mem_cons_of_mem _ hy)
    have b := h x List.mem_cons_self
    rw [List.length_cons, List.sum_cons]
    omega
theorem partsN_row {l m : Nat} {r : List Nat} (h : r ∈ partsN l m) : r.sum = l ∧ (∀ x ∈ r, 0 < x) ∧ r.length ≤ l := by
  obtain ⟨a, b⟩ := partsF_row l l m r h
  have := sum_ge_len r b
  exact ⟨a, b, by omega⟩

/-! ### _law_parts -/
def sp_parts (d : Nat) : Sp := fun vs H Q _ => ∃ l m : Nat, vs = [.int (l : Int), .int (m : Int)] ∧ l < d ∧ l ≤ 20 ∧ m ≤ 20 ∧ ∀ p ws H', H p = none → Ex H H' → H' p = some (.lst ws) → Paired (Lb H') ws (partsN l m) → Q (.ref p) H'
section
variable {P : Program} {w : World} {K : PySem.W.Frag} {mg : Str → Option Value} {base : Heap}
theorem elb_parts {σ : L2.St} {H : Hp} {t : TA} {d l m : Nat} {E : XK} (h : EvA t σ H [.int (l : Int), .int (m : Int)]) (hd : l < d) (hl : l ≤ 20) (hm : m ≤ 20) : EvLB (tCall (sp_parts d) [] E t) σ H (partsN l m) := fun H1 e Q q => h H1 e _ fun H2 e2 => ⟨l, m, rfl, hd, hl, hm, fun p ws H3 hp e3 h3 w => q p ws H3 (fresh_back e2 hp) (e2.trans e3) h3 w⟩
/-- [.. for r in rs], rs new -/
theorem elb_mapN {σ : L2.St} {H : Hp} {tl te : TE} {rs : List (List Nat)} {j : Nat} {vs : List Nat} (F : List Nat → List Nat) (h : EvLB tl σ H rs) (hz : rs.length ≤ 40000) (hw : ∀ x, wipe ((wipe σ vs).set j (some x)) vs = wipe σ vs)
    (he : ∀ (b : Addr) (r : List Nat) H1, Ex H H1 → r ∈ rs → H1 b = some (.lst (nv r)) → EvL te ((wipe σ vs).set j (some (.ref b))) H1 (nv (F r))) : EvLB (tLc (iList K tl) (gName j) tYes te vs) σ H (rs.map F) := fun H1 e Q q => h H1 e _ fun p ws H2 np e2 hp hpw =>
  (elb_map (K := K) (ta := tC (.ref p)) (a := p) (ws := ws) (rs := rs) (H := H2) F ev_c hp hpw (by rw [Paired.length hpw]; exact hz) hw fun b r H3 e3 hr hb => he b r H3 (e.trans (e2.trans e3)) hr hb) H2 (Ex.refl _) _ fun q' vs' H3 nq' e3 hq' hv' => q q' vs' H3 (fresh_back e2 nq') (e2.trans e3) hq' hv'
theorem parts_step (T : Tx K mg) (n : Nat) (ih : FnOk P w K mg base CX0 n T.f_law_parts T.d_law_parts ["left", "most"] (sp_parts n)) : FnOk P w K mg base CX0 (n + 1) T.f_law_parts T.d_law_parts ["left", "most"] (sp_parts (n + 1)) := by
  refine T.F_law_parts.ok sc_law_parts (fun vs H Q E h => ?_) (fun cdv A outer s0 H vs Q E hr h => ?_)
  · obtain ⟨l, m, rfl, _⟩ := h
    rfl
  · obtain ⟨l, m, rfl, hl, l20, m20, k⟩ := h
    refine ⟨_, (pss_cons (ps_if (pt_cmpR op_eq (pv 0) pe_int (nomark _)) (pss_one (ps_ret (pe_lst (pa_cons (pe_lst pa_nil) pa_nil)))) pss_nil)
      (pss_cons (ps_set (i := 2) sc_law_parts.nd rfl (Or.inl rfl) (pe_lst pa_nil))
      (pss_cons (ps_for PassesOwn.never rfl (pi_range2 (by rfl) T.m_range (pa_cons pe_int (pa_cons (pe_op op_add (pe_callB (call_minR rfl) (by rfl) T.m_min (by decide +kernel) (pa_cons (pv 0) (pa_cons (pv 1) pa_nil))) pe_int) pa_nil))) (pg_name (i := 3) sc_law_parts.nd rfl (Or.inr rfl)) (pss_one (ps_expr (pe_bm PySem.F.plainAttrs_list PySem.F.slot_list_extend PySem.F.type_list_extend mt_extend (pv 2) (pa_cons (pe_lc (own := [("rest", 4)]) (g := (gName 4)) (tt := tYes) rfl sc_law_parts.nd (pi_list (pe_call ih hr (by rfl) T.g_law_parts T.F_law_parts.kp T.b_law_parts .nil pass0 (pa_cons (pe_op op_sub (pv 0) (pv 3)) (pa_cons (pv 3) pa_nil)))) (blkOk_by (own := [("rest", 4)]) (N := n_law_parts) (sc := defScope s_law_parts) (by decide +kernel)) (fun _ _ _ _ _ => (pg_name (i := 4) sc_law_parts.nd rfl (Or.inl rfl))) (fun _ _ _ _ _ => pts_nil) (fun _ _ _ _ _ => (pe_op op_cat (pe_lst (pa_cons (pv 3) pa_nil)) (pv 4)))) pa_nil)))))
      (pss_one (ps_ret (pv 2)))))), ?_⟩
    refine q_when (b := decide (l = 0)) (et_is (et_test (ev_op (ev_var rfl) ev_c (rv_eq rfl))) ?_) (fun hb H2 e2 => ?_) fun hb H2 e2 => ?_
    · refine decide_eq_decide.mpr ⟨fun z => ?_, fun z => ?_⟩
      · have := V.int.inj z
        omega
      · exact congrArg V.int (by omega)
    · have hb := of_decide_eq_true hb
      subst hb
      refine s_retLB (rs := [[]]) (elb_lst (lba_cons (r := []) (el_lst ea_nil (Nat.zero_le _)) lba_nil) (by decide)) fun p ws H3 np e3 hp hw => k p ws H3 (fresh_back e2 np) (e2.trans e3) hp hw
    · have hb : ¬ l = 0 := of_decide_eq_false hb
      have hN : partsN l m = pTo l (min l m) := partsN_eq hb
      have hN7 := partsN_small l (by omega) m (by omega)
      refine q_asgL (xs := []) (el_lst ea_nil (Nat.zero_le _)) fun g H3 ng e3 hg => ?_
      refine q_forR2 (lo := 1) (n := ((min l m : Nat) : Int) + 1) (ea_cons ev_c (ea_cons (ev_is (ev_op (ev_min2 (ev_var rfl) (ev_var rfl)) ev_c rv_I0) ?_) ea_nil)) ⟨by decide, by decide, by omega, by omega⟩
        (fun i σ' H' => ∃ (us : List V) (y3 : Option V), σ' = [some (.int (l : Int)), some (.int (m : Int)), some (.ref g), y3, none] ∧ Ex H2 H' ∧ H' g = some (.lst us) ∧ Paired (Lc g H') us (pTo l i))
        (fun H4 e4 => ⟨[], _, rfl, e3.trans e4, e4 g _ hg, .nil⟩) ?_ ?_
      · congr 1
        by_cases z : m < l
        · have e1 : min l m = m := by omega
          rw [e1]
          first
            | rw [if_pos (by omega)]
            | rw [if_neg (by omega)]
        · have e1 : min l m = l := by omega
          rw [e1]
          first
            | rw [if_neg (by omega)]
            | rw [if_pos (by omega)]
      · rintro i σ' H4 hi ⟨us, y3, rfl, e4, hg4, hu⟩
        have hi' : i < min l m := by omega
        have ul := Paired.length hu
        refine s_dropBM hg4 (ev_var rfl) fun H5 e5 => ?_
        have hg5 := e5 g _ hg4
        have comp : EvLB (tLc (iList K (tCall (sp_parts n) [] E (tCons (tOp (rI0 fun i j => V.int (i - j)) (tVar 0) (tVar 3)) (tCons (tVar 3) tNil)))) (gName 4) tYes (tOp rCat (tLst (tCons (tVar 3) tNil)) (tVar 4)) [4]) [some (.int (l : Int)), some (.int (m : Int)), some (.ref g), some (.int (1 + (i : Int))), none] H5 ((partsN (l - (i + 1)) (i + 1)).map fun r => (i + 1) :: r) := by
          have sm := partsN_small (l - (i + 1)) (by omega) (i + 1) (by omega)
          refine elb_mapN (fun r => (i + 1) :: r) (elb_parts (l := l - (i + 1)) (m := i + 1) (ea_cons (ev_is (ev_op (ev_var rfl) (ev_var rfl) rv_I0) (show V.int ((l : Int) - (1 + (i : Int))) = _ by congr 1; omega)) (ea_cons (ev_is (ev_var rfl) (show V.int (1 + (i : Int)) = _ by congr 1; omega)) ea_nil)) (by omega) (by omega) (by omega)) (by omega) (fun _ => rfl) fun b r H6 e6 hr6 hb6 => ?_
          have rl := (partsN_row hr6).2.2
          have eN : nv ((i + 1) :: r) = [V.int (1 + (i : Int))] ++ nv r := by
            rw [nv_eq, nv_eq, List.map_cons]
            show V.int _ :: _ = V.int _ :: _
            congr 2
            omega
          rw [eN]
          exact el_catR (el_lst (ea_cons (ev_var rfl) ea_nil) (Nat.le_of_ble_eq_true rfl)) (ev_var rfl) hb6 (by rw [nv_len]; show 1 + r.length ≤ 1000; omega)
        refine comp H5 (Ex.refl _) _ fun l' vs H6 hl' e6 h6 hw6 => ?_
        have vl := Paired.length hw6
        have hg6 := e6 g _ hg5
        have hu6 : Paired (Lc g H6) us (pTo l i) := paired_imp (fun _ _ z => z.ex (e5.trans e6)) hu
        have ne : ∀ x ∈ (partsN (l - (i + 1)) (i + 1)).map (fun r => (i + 1) :: r), x ≠ [] := fun x hx => by
          obtain ⟨o, _, rfl⟩ := List.mem_map.mp hx
          simp
        have vc : Paired (Lc g H6) vs ((partsN (l - (i + 1)) (i + 1)).map fun r => (i + 1) :: r) := by
          have : ∀ {l : List V} {q : List (List Nat)}, Paired (Lb H6) l q → (∀ x ∈ q, x ≠ []) → Paired (Lc g H6) l q := fun {l q} h => by
            induction h with
            | nil => intro _; exact .nil
            | cons a t ih => intro hx; exact .cons (lb_lc hg6 hu6 a (hx _ List.mem_cons_self)) (ih fun x z => hx x (List.mem_cons_of_mem _ z))
          exact this hw6 ne
        have tot : us.length + vs.length ≤ 700 := by
          have a := pTo_mono l (show i + 1 ≤ min l m by omega)
          rw [pTo_next, List.length_append, ← hN] at a
          omega
        refine ⟨g, l', us, vs, rfl, rfl, hg6, h6, sz_of (by omega), ?_⟩
        refine ⟨us ++ vs, _, rfl, Ex.mut (e4.trans (e5.trans e6)) ng, upd_same, ?_⟩
        rw [pTo_next]
        exact paired_imp (fun _ _ z => z.upd) (paired_app hu6 vc)
      · rintro σ' H4 ⟨us, y3, rfl, e4, hg4, hu⟩
        rw [show (((min l m : Nat) : Int) + 1 - 1).toNat = min l m by omega, ← hN] at hu
        exact s_ret (ev_var rfl) fun H5 e5 => k g us H5 (fresh_back e2 ng) (e2.trans (e4.trans e5)) (e5 g _ hg4) (paired_imp (fun _ _ z => Lb.ex e5 z.lb) hu)
theorem parts_at (T : Tx K mg) : ∀ n, FnOk P w K mg base CX0 n T.f_law_parts T.d_law_parts ["left", "most"] (sp_parts n)
  | 0 => ⟨fun _ _ _ _ h => absurd h.choose_spec.choose_spec.2.1 (Nat.not_lt_zero _), fun _ _ _ _ _ _ _ _ _ _ _ _ _ h => absurd h.choose_spec.choose_spec.2.1 (Nat.not_lt_zero _)⟩
  | n + 1 => parts_step T n (parts_at T n)
theorem ok_law_parts (T : Tx K mg) : FnOk P w K mg base CX0 21 T.f_law_parts T.d_law_parts ["left", "most"] (sp_parts 21) := parts_at T 21
end


local macro_rules | `(tactic| walk_at "call") => `(tactic| (with_reducible exact sv_whole))
local macro_rules | `(tactic| walk_at "call") => `(tactic| ((with_reducible refine' sv_order ?c1 ?c2); (case c1 => assumption); (case c2 => assumption)))
local macro_rules | `(tactic| walk_at "call") => `(tactic| ((with_reducible refine' sv_ord ?c1 ?c2); (case c1 => assumption); (case c2 => assumption)))

/-! ### _law_ways -/
def wayS (row : List Nat) (W s : Nat) : Nat := (List.range (row.count s)).foldl (fun w k => w / (s * (k + 1))) W
def sset (row : List Nat) : List Nat := (List.range 21).filter fun s => decide (s ∈ row)
def waysR (row : List Nat) : Nat := (sset row).foldl (wayS row) (fac row.sum)
theorem sset_up (row : List Nat) : (sset row).Pairwise (· < ·) := List.Pairwise.filter _ (List.pairwise_lt_range)
theorem sset_mem {row : List Nat} (h : ∀ x ∈ row, x ≤ 20) (x : Nat) : x ∈ sset row ↔ x ∈ row := by
  unfold sset
  rw [List.mem_filter, List.mem_range, decide_eq_true_iff]
  exact ⟨fun z => z.2, fun z => ⟨by have := h x z; omega, z⟩⟩
theorem divs_le (s : Nat) : ∀ (n W : Nat), (List.range n).foldl (fun w k => w / (s * (k + 1))) W ≤ W
  | 0, W => Nat.le_refl _
  | n + 1, W => by
    rw [List.range_succ, List.foldl_append]
    exact Nat.le_trans (Nat.div_le_self _ _) (divs_le s n W)
theorem wayS_le (row : List Nat) : ∀ (l : List Nat) (W : Nat), l.foldl (wayS row) W ≤ W
  | [], W => Nat.le_refl _
  | s :: l, W => Nat.le_trans (wayS_le row l _) (divs_le s _ W)
theorem countP_nv (s : Nat) : ∀ row : List Nat, (nv row).countP (fun z => eqV z (.int (s : Int))) = row.count s
  | [] => rfl
  | x :: l => by
    have ih := countP_nv s l
    have e : nv (x :: l) = V.int (x : Int) :: nv l := by
      rw [nv_eq, nv_eq]
      rfl
    rw [e, List.countP_cons, List.count_cons, ih]
    have : eqV (V.int (x : Int)) (V.int (s : Int)) = (x == s) := by
      show ((x : Int) == (s : Int)) = (x == s)
      rw [Bool.eq_iff_iff, beq_iff_eq, beq_iff_eq]
      omega
    rw [this]
def sp_ways : Sp := fun vs H Q _ => ∃ (a : Addr) (row : List Nat), vs = [.ref a] ∧ H a = some (.lst (nv row)) ∧ 1 ≤ row.sum ∧ row.sum ≤ 20 ∧ (∀ x ∈ row, 0 < x) ∧ RetV (.int ((waysR row : Nat) : Int)) H Q
theorem mem_le_sum : ∀ {row : List Nat} {x : Nat}, x ∈ row → x ≤ row.sum
  | y :: l, x, h => by
    rw [List.sum_cons]
    rcases List.mem_cons.mp h with rfl | h
    · omega
    · have := mem_le_sum h
      omega
theorem fac20 : fac 20 < 2 ^ 62 := by decide +kernel
section
variable {P : Program} {w : World} {K : PySem.W.Frag} {mg : Str → Option Value} {base : Heap}
theorem ok_law_ways (T : Tx K mg) : FnOk P w K mg base CX0 1 T.f_law_ways T.d_law_ways ["row"] sp_ways := by
  refine T.F_law_ways.ok sc_law_ways (fun vs H Q E h => ?_) (fun cdv A outer s0 H vs Q E hr h => ?_)
  · obtain ⟨a, row, rfl, _⟩ := h
    rfl
  · obtain ⟨a, row, rfl, ha, s1, s20, pos, k⟩ := h
    refine ⟨_, (pss_cons (ps_set (i := 1) sc_law_ways.nd rfl (Or.inl rfl) pe_int)
      (pss_cons (ps_for PassesOwn.never rfl (pi_range2 (by rfl) T.m_range (pa_cons pe_int (pa_cons (pe_op op_add (pe_callB (cr_sum rfl) (by rfl) T.m_sum (by decide +kernel) (pa_cons (pv 0) pa_nil)) pe_int) pa_nil))) (pg_name (i := 2) sc_law_ways.nd rfl (Or.inl rfl)) (pss_one (ps_set (i := 1) sc_law_ways.nd rfl (Or.inl rfl) (pe_op op_mulX (pv 1) (pv 2)))))
      (pss_cons (ps_for PassesOwn.never rfl (pi_list (pe_callB (id := "sorted") (r := rSortedSet _) (cr_sortedSet rfl) (by rfl) T.m_sorted (by decide +kernel) (pa_cons (pe_callTy (r := rSetI _ _) (cr_setI rfl) (by rfl) T.m_set (by decide +kernel) (pa_cons (pv 0) pa_nil)) pa_nil))) (pg_name (i := 3) sc_law_ways.nd rfl (Or.inl rfl)) (pss_one (ps_for PassesOwn.never rfl (pi_range2 (by rfl) T.m_range (pa_cons pe_int (pa_cons (pe_op op_add (pe_bm PySem.F.plainAttrs_list PySem.F.slot_list_count PySem.F.type_list_count Kit.mt_countF (pv 0) (pa_cons (pv 3) pa_nil)) pe_int) pa_nil))) (pg_name (i := 2) sc_law_ways.nd rfl (Or.inl rfl)) (pss_one (ps_set (i := 1) sc_law_ways.nd rfl (Or.inl rfl) (pe_op op_fdivW (pv 1) (pe_op op_mulX (pv 3) (pv 2))))))))
      (pss_one (ps_ret (pv 1)))))), ?_⟩
    have le20 : ∀ x ∈ row, x ≤ 20 := fun x hx => Nat.le_trans (mem_le_sum hx) s20
    have rl := sum_ge_len row pos
    have f20 := fac20
    have fS : fac row.sum ≤ fac 20 := fac_mono s20
    refine q_asg (v := .int 1) ev_c fun H1 e1 => ?_
    have hsum : (row.map fun x : Nat => (x : Int)).sum = (row.sum : Int) := by
      clear s1 s20 pos k le20 rl fS ha
      induction row with
      | nil => rfl
      | cons x l ih => rw [List.map_cons, List.sum_cons, List.sum_cons, ih, Int.natCast_add]
    have ha' : SqL K H1 a ((row.map fun x : Nat => (x : Int)).map V.int) := by
      have : nv row = (row.map fun x : Nat => (x : Int)).map V.int := by
        rw [nv_eq, List.map_map]
        rfl
      rw [← this]
      exact sq_of (e1 a _ ha)
    refine q_forR2 (lo := 2) (n := (row.sum : Int) + 1) (ea_cons ev_c (ea_cons (ev_op (ev_is (fun H2 e Q q => (ev_var rfl : Ev (tVar 0) _ H1 (.ref a)) H2 e _ fun H3 e3 => ⟨a, _, rfl, ex_l (e.trans e3) ha', q H3 e3⟩) (by rw [hsum])) ev_c rv_I0) ea_nil)) ⟨by decide, by decide, by omega, by omega⟩
      (fun i σ' H' => ∃ y2 : Option V, σ' = [some (.ref a), some (.int ((fac (i + 1) : Nat) : Int)), y2, none] ∧ Ex H H') (fun H2 e2 => ⟨_, rfl, e1.trans e2⟩) ?_ ?_
    · rintro i σ' H2 hi ⟨y2, rfl, e2⟩
      have fi : fac (i + 1) ≤ fac 20 := fac_mono (by omega)
      have mm : CMulX ((fac (i + 1) : Nat) : Int) (2 + (i : Int)) := mulx_ok (a := 62) (b := 5) (by omega) (by omega) (by decide)
      refine s_asg (v := .int ((fac (i + 1 + 1) : Nat) : Int)) (ev_is (ev_op (ev_var rfl) (ev_var rfl) (rv_I mm)) ?_) fun H3 e3 => ⟨_, rfl, e2.trans e3⟩
      rw [fac_succ (i + 1), Int.natCast_mul]
      congr 2
      omega
    · rintro σ' H2 ⟨y2, rfl, e2⟩
      have e0 : fac (((row.sum : Int) + 1 - 2).toNat + 1) = fac row.sum := by
        congr 1
        omega
      rw [e0]
      have ha2 := e2 a _ ha
      have hn : nv row = (row.map fun x : Nat => (x : Int)).map V.int := by
        rw [nv_eq, List.map_map]
        rfl
      have hz : nv (sset row) = ((sset row).map fun x : Nat => (x : Int)).map V.int := by
        rw [nv_eq, List.map_map]
        rfl
      have srt : EvL (tCB (rSortedSet w) (tCons (tCB (rSetI K w) (tCons (tVar 0) tNil)) tNil)) [some (.ref a), some (.int ((fac row.sum : Nat) : Int)), y2, none] H2 (nv (sset row)) := by
        rw [hz]
        refine el_sortSet (K := K) (l := a) (ns := row.map fun x : Nat => (x : Int)) (ev_var rfl) (by rw [← hn]; exact sq_of ha2) (by rw [List.length_map]; omega) ?_ fun k => ?_
        · exact List.pairwise_map.mpr ((sset_up row).imp fun z => by omega)
        · rw [List.mem_map, List.mem_map]
          exact ⟨fun ⟨x, hx, e⟩ => ⟨x, (sset_mem le20 x).mp hx, e⟩, fun ⟨x, hx, e⟩ => ⟨x, (sset_mem le20 x).mpr hx, e⟩⟩
      refine q_forNLn (K := K) (xs := nv (sset row)) srt (fun p i σ' H' => ∃ y2 y3 : Option V, σ' = [some (.ref a), some (.int ((((sset row).take i).foldl (wayS row) (fac row.sum) : Nat) : Int)), y2, y3] ∧ Ex H2 H' ∧ H' p = some (.lst (nv (sset row)))) (fun p H3 np e3 hp => ⟨_, _, rfl, e3, hp⟩) (fun p i σ' H' _ ⟨_, _, _, _, hp⟩ => sq_of hp) ?_ ?_
      · rintro p i v σ' H3 hv ⟨z2, z3, rfl, e3, hp⟩
        have hil := (List.getElem?_eq_some_iff.mp hv).1
        rw [nv_len] at hil
        rw [nv_at hil] at hv
        cases hv
        have hx : (sset row)[i]? = some ((sset row).getD i 0) := by
          rw [List.getD_eq_getElem?_getD, List.getElem?_eq_getElem hil]
          rfl
        obtain ⟨s, hs⟩ : ∃ s, s = (sset row).getD i 0 := ⟨_, rfl⟩
        rw [← hs] at hx ⊢
        have sm : s ∈ row := (sset_mem le20 s).mp (List.mem_of_getElem? hx)
        have sp := pos s sm
        have sl := le20 s sm
        have cl : row.count s ≤ row.length := List.count_le_length
        have hnx : ((sset row).take (i + 1)).foldl (wayS row) (fac row.sum) = wayS row (((sset row).take i).foldl (wayS row) (fac row.sum)) s := by
          rw [take_next hx, List.foldl_append]
          rfl
        rw [hnx]
        obtain ⟨W, hW⟩ : ∃ W, W = ((sset row).take i).foldl (wayS row) (fac row.sum) := ⟨_, rfl⟩
        rw [← hW]
        have ha3 := e3 a _ ha2
        refine s_forR2 (lo := 1) (n := (row.count s : Int) + 1) (ea_cons ev_c (ea_cons (ev_op (ev_is (ev_countF (K := K) (ys := nv row) (y := .int (s : Int)) (ev_var rfl) ha3 (ev_var rfl) rfl (nv_flat row)) (by rw [countP_nv])) ev_c rv_I0) ea_nil)) ⟨by decide, by decide, by omega, by omega⟩
          (fun j σ' H' => ∃ y2 : Option V, σ' = [some (.ref a), some (.int (((List.range j).foldl (fun w k => w / (s * (k + 1))) W : Nat) : Int)), y2, some (.int (s : Int))] ∧ Ex H3 H') (fun H4 e4 => ⟨_, rfl, e4⟩) ?_ ?_
        · rintro j σ' H4 hj ⟨y2, rfl, e4⟩
          have mm : CMulX (s : Int) (1 + (j : Int)) := mulx_ok (a := 32) (b := 32) (by omega) (by omega) (by decide)
          refine s_asg (v := .int (((List.range (j + 1)).foldl (fun w k => w / (s * (k + 1))) W : Nat) : Int)) (ev_is (ev_op (ev_var rfl) (ev_op (ev_var rfl) (ev_var rfl) (rv_I mm)) (rv_I (divw_ok ?_ ?_))) ?_) fun H5 e5 => ⟨_, rfl, e4.trans e5⟩
          · exact Int.mul_pos (by omega) (by omega)
          · have : (s : Int) * (1 + (j : Int)) ≤ 20 * 21 := Int.mul_le_mul (by omega) (by omega) (by omega) (by omega)
            omega
          · rw [List.range_succ, List.foldl_append]
            show V.int _ = V.int (((((List.range j).foldl (fun w k => w / (s * (k + 1))) W) / (s * (j + 1)) : Nat) : Int))
            rw [Int.natCast_ediv, Int.natCast_mul]
            congr 3
            omega
        · rintro σ' H4 ⟨y2, rfl, e4⟩
          have en : ((row.count s : Int) + 1 - 1).toNat = row.count s := by omega
          rw [en]
          exact ⟨_, _, rfl, e3.trans e4, e4 p _ hp⟩
      · rintro p σ' H3 ⟨z2, z3, rfl, e3, hp⟩
        rw [nv_len, List.take_length]
        exact s_ret (ev_var rfl) fun H4 e4 => k H4 (e2.trans (e3.trans e4))
end


/-! ### the tables for one to twenty guests -/
def founds (w : Nat) : List (Int × Int) := (partsN w w).foldl (fun acc row => putI acc ((lcmL row : Nat) : Int) (gI acc ((lcmL row : Nat) : Int) + ((waysR row : Nat) : Int))) []
def ptab : List (List (Int × Int)) := [
  [(1, 1)],
  [(1, 1)],
  [(1, 1), (2, 1)],
  [(1, 1), (2, 3), (3, 2)],
  [(1, 1), (2, 9), (3, 8), (4, 6)],
  [(1, 1), (2, 25), (3, 20), (4, 30), (6, 20), (5, 24)],
  [(1, 1), (2, 75), (3, 80), (4, 180), (6, 240), (5, 144)],
  [(1, 1), (2, 231), (3, 350), (4, 840), (6, 1470), (5, 504), (10, 504), (12, 420), (7, 720)],
  [(1, 1), (2, 763), (3, 1232), (4, 5460), (6, 10640), (5, 1344), (10, 4032), (12, 3360), (7, 5760), (15, 2688), (8, 5040)],
  [(1, 1), (2, 2619), (3, 5768), (4, 30996), (6, 83160), (5, 3024), (10, 27216), (12, 30240), (7, 25920), (15, 24192), (8, 45360), (14, 25920), (20, 18144), (9, 40320)],
  [(1, 1), (2, 9495), (3, 31040), (4, 209160), (6, 584640), (5, 78624), (10, 514080), (12, 403200), (7, 86400), (15, 120960), (8, 453600), (14, 259200), (20, 181440), (9, 403200), (30, 120960), (21, 172800)],
  [(1, 1), (2, 35695), (3, 142010), (4, 1290960), (6, 4496030), (5, 809424), (10, 4823280), (12, 4019400), (7, 237600), (15, 887040), (8, 3326400), (14, 2138400), (20, 1995840), (9, 2217600), (30, 2661120), (21, 1900800), (18, 2217600), (24, 1663200), (28, 1425600), (11, 3628800)],
  [(1, 1), (2, 140151), (3, 776600), (4, 9753480), (6, 42658440), (5, 4809024), (10, 57081024), (12, 80166240), (7, 570240), (15, 6652800), (8, 39916800), (14, 14256000), (20, 15966720), (9, 26611200), (30, 27941760), (21, 11404800), (18, 26611200), (24, 19958400), (28, 17107200), (11, 43545600), (42, 11404800), (60, 7983360), (35, 13685760)],
  [(1, 1), (2, 568503), (3, 4874012), (4, 69618120), (6, 371762820), (5, 20787624), (10, 500972472), (12, 965284320), (7, 1235520), (15, 79567488), (8, 363242880), (14, 92664000), (20, 168648480), (9, 259459200), (30, 536215680), (21, 98841600), (18, 259459200), (24, 259459200), (28, 222393600), (11, 283046400), (42, 296524800), (60, 103783680), (35, 177914880), (22, 283046400), (36, 172972800), (40, 155675520), (13, 479001600)],
  [(1, 1), (2, 2390479), (3, 27027728), (4, 571627056), (6, 3594871280), (5, 72696624), (10, 4412103696), (12, 12173441280), (7, 892045440), (15, 858329472), (8, 3874590720), (14, 6797831040), (20, 4104644544), (9, 1695133440), (30, 6901614720), (21, 864864000), (18, 3632428800), (24, 4843238400), (28, 2075673600), (11, 1320883200), (42, 3632428800), (60, 1452971520), (35, 1245404160), (22, 3962649600), (36, 2421619200), (40, 2179457280), (13, 6706022400), (70, 1245404160), (84, 1037836800), (33, 2641766400), (45, 1937295360)],
  [(1, 1), (2, 10349535), (3, 168369110), (4, 4443697440), (6, 38650622010), (5, 1961583624), (10, 60619398840), (12, 162850287600), (7, 13348249200), (15, 93774320640), (8, 34767532800), (14, 96940443600), (20, 54304810560), (9, 16345929600), (30, 90084234240), (21, 5708102400), (18, 63567504000), (24, 72648576000), (28, 25297272000), (11, 4953312000), (42, 49297248000), (60, 29059430400), (35, 6227020800), (22, 44579808000), (36, 36324288000), (40, 32691859200), (13, 50295168000), (70, 18681062400), (84, 15567552000), (33, 39626496000), (45, 29059430400), (26, 50295168000), (105, 12454041600), (44, 29719872000), (56, 23351328000)],
  [(1, 1), (2, 46206735), (3, 1191911840), (4, 40027718640), (6, 396457108320), (5, 28478346624), (10, 686638592640), (12, 2428557331200), (7, 106757164800), (15, 1456234940160), (8, 567177811200), (14, 1622806099200), (20, 763017615360), (9, 161902540800), (30, 1540714855680), (21, 47509862400), (18, 784604620800), (24, 988020633600), (28, 255307852800), (11, 15850598400), (42, 684972288000), (60, 421361740800), (35, 24908083200), (22, 396264960000), (36, 581188608000), (40, 348713164800), (13, 268240896000), (70, 224172748800), (84, 249080832000), (33, 317011968000), (45, 232475443200), (26, 804722688000), (105, 199264665600), (44, 475517952000), (56, 373621248000), (66, 317011968000), (90, 232475443200), (120, 174356582400), (39, 536481792000), (140, 149448499200), (55, 380414361600), (63, 332107776000), (16, 1307674368000)],
  [(1, 1), (2, 211799311), (3, 7678566800), (4, 346953934320), (6, 4330689250160), (5, 238536558624), (10, 9335025764064), (12, 32123543612160), (7, 604924594560), (15, 12465592339200), (8, 6897521030400), (14, 18885182659200), (20, 8562257383680), (9, 1208560953600), (30, 33110649411840), (21, 1644460646400), (18, 11176983417600), (24, 14600749363200), (28, 2928775449600), (11, 44910028800), (42, 16655204966400), (60, 15462522915840), (35, 1100937277440), (22, 3368252160000), (36, 8645180544000), (40, 5928123801600), (13, 1140023808000), (70, 7198436044800), (84, 5645832192000), (33, 3592802304000), (45, 3952082534400), (26, 10260214272000), (105, 1693749657600), (44, 8083805184000), (56, 6351561216000), (66, 10778406912000), (90, 3952082534400), (120, 2964061900800), (39, 9120190464000), (140, 2540624486400), (55, 6467044147200), (63, 5645832192000), (16, 22230464256000), (210, 1693749657600), (52, 6840142848000), (72, 4940103168000), (17, 20922789888000)],
  [(1, 1), (2, 997313823), (3, 53474964992), (4, 3369416698080), (6, 53963701424640), (5, 1425925698624), (10, 104304736815552), (12, 534678700308480), (7, 2722120577280), (15, 221172770827008), (8, 98241008785920), (14, 215863604985600), (20, 118354285969920), (9, 50830132953600), (30, 554845922991360), (21, 25030696204800), (18, 523845011289600), (24, 224704121241600), (28, 160240815820800), (11, 115482931200), (42, 255456263462400), (60, 262517082347520), (35, 18546558750720), (22, 26676557107200), (36, 120044506982400), (40, 170729965486080), (13, 4104085708800), (70, 110517165158400), (84, 92097637632000), (33, 40419025920000), (45, 53353114214400), (26, 102602142720000), (105, 20324995891200), (44, 97005662208000), (56, 76218734592000), (66, 169759908864000), (90, 53353114214400), (120, 53353114214400), (39, 82081714176000), (140, 45731240755200), (55, 58203397324800), (63, 50812489728000), (16, 400148356608000), (210, 60974987673600), (52, 123122571264000), (72, 88921857024000), (17, 376610217984000), (78, 82081714176000), (110, 58203397324800), (126, 50812489728000), (132, 48502831104000), (168, 38109367296000), (180, 35568742809600), (65, 98498057011200), (77, 83147710464000)],
  [(1, 1), (2, 4809701439), (3, 418199988338), (4, 31421601510336), (6, 641211774798510), (5, 6764765838624), (10, 1180585704051936), (12, 8126981741380320), (7, 10344007402560), (15, 3141405808998912), (8, 1138935652807680), (14, 2146286611085760), (20, 2055161253809664), (9, 866513503215360), (30, 8393918663370240), (21, 235053973440000), (18, 8971024455993600), (24, 3614691131251200), (28, 2836403081740800), (11, 274271961600), (42, 4650812238758400), (60, 6641135949127680), (35, 422723619901440), (22, 209269506700800), (36, 2280845632665600), (40, 2905966287544320), (13, 12996271411200), (70, 3808650167562240), (84, 2908379880806400), (33, 337903056691200), (45, 743386724720640), (26, 974720355840000), (105, 241359326208000), (44, 1497524910336000), (56, 1448155957248000), (66, 2918253671424000), (90, 2365321396838400), (120, 1351612226764800), (39, 1039701712896000), (140, 579262382899200), (55, 368621516390400), (63, 965437304832000), (16, 5068545850368000), (210, 1013709170073600), (52, 2339328854016000), (72, 1689515283456000), (17, 3577797070848000), (78, 3119105138688000), (110, 1105864549171200), (126, 965437304832000), (132, 921553790976000), (168, 724077978624000), (180, 675806113382400), (65, 1871463083212800), (77, 1579806498816000), (34, 3577797070848000), (420, 289631191449600), (165, 737243032780800), (48, 2534272925184000), (88, 1382330686464000), (19, 6402373705728000)],
  [(1, 1), (2, 23758664095), (3, 3044269834280), (4, 328430320909920), (6, 8205894865096280), (5, 189239120970624), (10, 29016515871665280), (12, 128338880777251200), (7, 34479959558400), (15, 61842055316670720), (8, 18952720774041600), (14, 20961032226451200), (20, 153101632051630080), (9, 8470676211379200), (30, 141081442901118720), (21, 3030432354892800), (18, 173359688261760000), (24, 84808750650624000), (28, 53536754988288000), (11, 609493248000), (42, 106259880025728000), (60, 133583000860108800), (35, 6125354900121600), (22, 1596262816512000), (36, 35962539604992000), (40, 49430390007398400), (13, 37132204032000), (70, 62717220915148800), (84, 53876765150208000), (33, 3515557054464000), (45, 11488703927500800), (26, 8577539131392000), (105, 4441011602227200), (44, 18891852715008000), (56, 20274183401472000), (66, 50685458503680000), (90, 50685458503680000), (120, 27032244535296000), (39, 12996271411200000), (140, 9413013722112000), (55, 1843107581952000), (63, 14481559572480000), (16, 101370917007360000), (210, 29928556449792000), (52, 31191051386880000), (72, 33790305669120000), (17, 23851980472320000), (78, 54584339927040000), (110, 16587968237568000), (126, 14481559572480000), (132, 18431075819520000), (168, 14481559572480000), (180, 13516122267648000), (65, 18714630832128000), (77, 15798064988160000), (34, 71555941416960000), (420, 5792623828992000), (165, 14744860655616000), (48, 50685458503680000), (88, 27646613729280000), (19, 128047474114560000), (130, 18714630832128000), (154, 15798064988160000), (156, 15595525693440000), (51, 47703960944640000), (220, 11058645491712000), (252, 9654373048320000), (280, 8688935743488000), (91, 26735186903040000), (99, 24574767759360000)]]
def ftab : List (List (Int × Int)) := [
  [(1, 1)],
  [(1, 1), (2, 1)],
  [(1, 1), (2, 3), (3, 2)],
  [(1, 1), (2, 9), (3, 8), (4, 6)],
  [(1, 1), (2, 25), (3, 20), (6, 20), (4, 30), (5, 24)],
  [(1, 1), (2, 75), (3, 80), (6, 240), (4, 180), (5, 144)],
  [(1, 1), (2, 231), (3, 350), (6, 1470), (4, 840), (12, 420), (5, 504), (10, 504), (7, 720)],
  [(1, 1), (2, 763), (3, 1232), (6, 10640), (4, 5460), (12, 3360), (5, 1344), (10, 4032), (15, 2688), (7, 5760), (8, 5040)],
  [(1, 1), (2, 2619), (3, 5768), (6, 83160), (4, 30996), (12, 30240), (5, 3024), (10, 27216), (15, 24192), (20, 18144), (7, 25920), (14, 25920), (8, 45360), (9, 40320)],
  [(1, 1), (2, 9495), (3, 31040), (6, 584640), (4, 209160), (12, 403200), (5, 78624), (10, 514080), (15, 120960), (30, 120960), (20, 181440), (7, 86400), (14, 259200), (21, 172800), (8, 453600), (9, 403200)],
  [(1, 1), (2, 35695), (3, 142010), (6, 4496030), (4, 1290960), (12, 4019400), (5, 809424), (10, 4823280), (15, 887040), (30, 2661120), (20, 1995840), (7, 237600), (14, 2138400), (21, 1900800), (28, 1425600), (8, 3326400), (24, 1663200), (9, 2217600), (18, 2217600), (11, 3628800)],
  [(1, 1), (2, 140151), (3, 776600), (6, 42658440), (4, 9753480), (12, 80166240), (5, 4809024), (10, 57081024), (15, 6652800), (30, 27941760), (20, 15966720), (60, 7983360), (7, 570240), (14, 14256000), (21, 11404800), (42, 11404800), (28, 17107200), (35, 13685760), (8, 39916800), (24, 19958400), (9, 26611200), (18, 26611200), (11, 43545600)],
  [(1, 1), (2, 568503), (3, 4874012), (6, 371762820), (4, 69618120), (12, 965284320), (5, 20787624), (10, 500972472), (15, 79567488), (30, 536215680), (20, 168648480), (60, 103783680), (7, 1235520), (14, 92664000), (21, 98841600), (42, 296524800), (28, 222393600), (35, 177914880), (8, 363242880), (24, 259459200), (40, 155675520), (9, 259459200), (18, 259459200), (36, 172972800), (11, 283046400), (22, 283046400), (13, 479001600)],
  [(1, 1), (2, 2390479), (3, 27027728), (6, 3594871280), (4, 571627056), (12, 12173441280), (5, 72696624), (10, 4412103696), (15, 858329472), (30, 6901614720), (20, 4104644544), (60, 1452971520), (7, 892045440), (14, 6797831040), (21, 864864000), (42, 3632428800), (28, 2075673600), (84, 1037836800), (35, 1245404160), (70, 1245404160), (8, 3874590720), (24, 4843238400), (40, 2179457280), (9, 1695133440), (18, 3632428800), (36, 2421619200), (45, 1937295360), (11, 1320883200), (22, 3962649600), (33, 2641766400), (13, 6706022400)],
  [(1, 1), (2, 10349535), (3, 168369110), (6, 38650622010), (4, 4443697440), (12, 162850287600), (5, 1961583624), (10, 60619398840), (15, 93774320640), (30, 90084234240), (20, 54304810560), (60, 29059430400), (7, 13348249200), (14, 96940443600), (21, 5708102400), (42, 49297248000), (28, 25297272000), (84, 15567552000), (35, 6227020800), (70, 18681062400), (105, 12454041600), (8, 34767532800), (24, 72648576000), (40, 32691859200), (56, 23351328000), (9, 16345929600), (18, 63567504000), (36, 36324288000), (45, 29059430400), (11, 4953312000), (22, 44579808000), (33, 39626496000), (44, 29719872000), (13, 50295168000), (26, 50295168000)],
  [(1, 1), (2, 46206735), (3, 1191911840), (6, 396457108320), (4, 40027718640), (12, 2428557331200), (5, 28478346624), (10, 686638592640), (15, 1456234940160), (30, 1540714855680), (20, 763017615360), (60, 421361740800), (7, 106757164800), (14, 1622806099200), (21, 47509862400), (42, 684972288000), (28, 255307852800), (84, 249080832000), (35, 24908083200), (70, 224172748800), (105, 199264665600), (140, 149448499200), (8, 567177811200), (24, 988020633600), (40, 348713164800), (120, 174356582400), (56, 373621248000), (9, 161902540800), (18, 784604620800), (36, 581188608000), (45, 232475443200), (90, 232475443200), (63, 332107776000), (11, 15850598400), (22, 396264960000), (33, 317011968000), (66, 317011968000), (44, 475517952000), (55, 380414361600), (13, 268240896000), (26, 804722688000), (39, 536481792000), (16, 1307674368000)],
  [(1, 1), (2, 211799311), (3, 7678566800), (6, 4330689250160), (4, 346953934320), (12, 32123543612160), (5, 238536558624), (10, 9335025764064), (15, 12465592339200), (30, 33110649411840), (20, 8562257383680), (60, 15462522915840), (7, 604924594560), (14, 18885182659200), (21, 1644460646400), (42, 16655204966400), (28, 2928775449600), (84, 5645832192000), (35, 1100937277440), (70, 7198436044800), (105, 1693749657600), (210, 1693749657600), (140, 2540624486400), (8, 6897521030400), (24, 14600749363200), (40, 5928123801600), (120, 2964061900800), (56, 6351561216000), (9, 1208560953600), (18, 11176983417600), (36, 8645180544000), (45, 3952082534400), (90, 3952082534400), (63, 5645832192000), (72, 4940103168000), (11, 44910028800), (22, 3368252160000), (33, 3592802304000), (66, 10778406912000), (44, 8083805184000), (55, 6467044147200), (13, 1140023808000), (26, 10260214272000), (39, 9120190464000), (52, 6840142848000), (16, 22230464256000), (17, 20922789888000)],
  [(1, 1), (2, 997313823), (3, 53474964992), (6, 53963701424640), (4, 3369416698080), (12, 534678700308480), (5, 1425925698624), (10, 104304736815552), (15, 221172770827008), (30, 554845922991360), (20, 118354285969920), (60, 262517082347520), (7, 2722120577280), (14, 215863604985600), (21, 25030696204800), (42, 255456263462400), (28, 160240815820800), (84, 92097637632000), (35, 18546558750720), (70, 110517165158400), (105, 20324995891200), (210, 60974987673600), (140, 45731240755200), (8, 98241008785920), (24, 224704121241600), (40, 170729965486080), (120, 53353114214400), (56, 76218734592000), (168, 38109367296000), (9, 50830132953600), (18, 523845011289600), (36, 120044506982400), (45, 53353114214400), (90, 53353114214400), (180, 35568742809600), (63, 50812489728000), (126, 50812489728000), (72, 88921857024000), (11, 115482931200), (22, 26676557107200), (33, 40419025920000), (66, 169759908864000), (44, 97005662208000), (132, 48502831104000), (55, 58203397324800), (110, 58203397324800), (77, 83147710464000), (13, 4104085708800), (26, 102602142720000), (39, 82081714176000), (78, 82081714176000), (52, 123122571264000), (65, 98498057011200), (16, 400148356608000), (17, 376610217984000)],
  [(1, 1), (2, 4809701439), (3, 418199988338), (6, 641211774798510), (4, 31421601510336), (12, 8126981741380320), (5, 6764765838624), (10, 1180585704051936), (15, 3141405808998912), (30, 8393918663370240), (20, 2055161253809664), (60, 6641135949127680), (7, 10344007402560), (14, 2146286611085760), (21, 235053973440000), (42, 4650812238758400), (28, 2836403081740800), (84, 2908379880806400), (35, 422723619901440), (70, 3808650167562240), (105, 241359326208000), (210, 1013709170073600), (140, 579262382899200), (420, 289631191449600), (8, 1138935652807680), (24, 3614691131251200), (40, 2905966287544320), (120, 1351612226764800), (56, 1448155957248000), (168, 724077978624000), (9, 866513503215360), (18, 8971024455993600), (36, 2280845632665600), (45, 743386724720640), (90, 2365321396838400), (180, 675806113382400), (63, 965437304832000), (126, 965437304832000), (72, 1689515283456000), (11, 274271961600), (22, 209269506700800), (33, 337903056691200), (66, 2918253671424000), (44, 1497524910336000), (132, 921553790976000), (55, 368621516390400), (110, 1105864549171200), (165, 737243032780800), (77, 1579806498816000), (88, 1382330686464000), (13, 12996271411200), (26, 974720355840000), (39, 1039701712896000), (78, 3119105138688000), (52, 2339328854016000), (65, 1871463083212800), (16, 5068545850368000), (48, 2534272925184000), (17, 3577797070848000), (34, 3577797070848000), (19, 6402373705728000)],
  [(1, 1), (2, 23758664095), (3, 3044269834280), (6, 8205894865096280), (4, 328430320909920), (12, 128338880777251200), (5, 189239120970624), (10, 29016515871665280), (15, 61842055316670720), (30, 141081442901118720), (20, 153101632051630080), (60, 133583000860108800), (7, 34479959558400), (14, 20961032226451200), (21, 3030432354892800), (42, 106259880025728000), (28, 53536754988288000), (84, 53876765150208000), (35, 6125354900121600), (70, 62717220915148800), (105, 4441011602227200), (210, 29928556449792000), (140, 9413013722112000), (420, 5792623828992000), (8, 18952720774041600), (24, 84808750650624000), (40, 49430390007398400), (120, 27032244535296000), (56, 20274183401472000), (168, 14481559572480000), (280, 8688935743488000), (9, 8470676211379200), (18, 173359688261760000), (36, 35962539604992000), (45, 11488703927500800), (90, 50685458503680000), (180, 13516122267648000), (63, 14481559572480000), (126, 14481559572480000), (252, 9654373048320000), (72, 33790305669120000), (11, 609493248000), (22, 1596262816512000), (33, 3515557054464000), (66, 50685458503680000), (44, 18891852715008000), (132, 18431075819520000), (55, 1843107581952000), (110, 16587968237568000), (165, 14744860655616000), (220, 11058645491712000), (77, 15798064988160000), (154, 15798064988160000), (88, 27646613729280000), (99, 24574767759360000), (13, 37132204032000), (26, 8577539131392000), (39, 12996271411200000), (78, 54584339927040000), (52, 31191051386880000), (156, 15595525693440000), (65, 18714630832128000), (130, 18714630832128000), (91, 26735186903040000), (16, 101370917007360000), (48, 50685458503680000), (17, 23851980472320000), (34, 71555941416960000), (51, 47703960944640000), (19, 128047474114560000)]]
theorem pcs_tab : pcs 20 = ptab := by decide +kernel
theorem founds_tab : (List.range 20).map (fun w => founds (w + 1)) = ftab := by decide +kernel


theorem tabs_perm : ∀ i < 20, ((ftab.getD i []).isPerm (ptab.getD (i + 1) [])) = true := by decide +kernel
theorem tabs_sum : ∀ i < 20, ((ptab.getD (i + 1) []).map (·.2)).sum = ((fac (i + 1) : Nat) : Int) := by decide +kernel
theorem tabs_least : ∀ i < 20, ((ftab.getD i []).all fun p => decide (1 ≤ p.1) && decide (p.1 ≤ 1000) && decide (leastN p.1.toNat ≤ i + 1)) = true := by decide +kernel
theorem tabs_in : ∀ i < 20, ∀ j < 89, decide (leastN (j + 1) ≤ i + 1) = decide (((j + 1 : Nat) : Int) ∈ (ftab.getD i []).map (·.1)) := by decide +kernel


local macro_rules | `(tactic| walk_at "call") => `(tactic| (with_reducible exact sv_whole))
local macro_rules | `(tactic| walk_at "call") => `(tactic| ((with_reducible refine' sv_order ?c1 ?c2); (case c1 => assumption); (case c2 => assumption)))
local macro_rules | `(tactic| walk_at "call") => `(tactic| ((with_reducible refine' sv_ord ?c1 ?c2); (case c1 => assumption); (case c2 => assumption)))

/-! ### for the law: sorted pairs; periods are among the keys -/
def Lex (l : List (Int × Int)) : Prop := l.Pairwise fun x y => SrtO.lexB y x = false
theorem lex_uniq {l m : List (Int × Int)} (hp : l.Perm m) (hl : Lex l) (hm : Lex m) : l = m := by
  refine List.Perm.eq_of_pairwise (le := fun x y : Int × Int => SrtO.lexB y x = false) (fun a b _ _ h1 h2 => ?_) hl hm hp
  have h1 := SrtO.lexB_no.mp h1
  have h2 := SrtO.lexB_no.mp h2
  refine Prod.ext ?_ ?_ <;> omega
def pd (zs : List (Int × Int)) : PyData := .list (zs.map fun p => .tuple [.int p.1, .int p.2])
theorem tk_pairs {H : Hp} {l : Addr} {zs : List (Addr × Int × Int)} (hl : H l = some (.lst (zs.map fun z => V.ref z.1))) (hz : ∀ z ∈ zs, H z.1 = some (.tup [.int z.2.1, .int z.2.2])) (h4 : zs.length ≤ 40000) : Tk 2 H (.ref l) (pd (zs.map (·.2))) := by
  unfold pd
  refine tk_lst hl ?_ (by rw [List.length_map, List.length_map]; exact h4)
  rw [List.map_map]
  clear hl h4
  induction zs with
  | nil => exact .nil
  | cons z r ih =>
    refine .cons ?_ (ih fun y hy => hz y (List.mem_cons_of_mem _ hy))
    exact tk_tup (hz z List.mem_cons_self) (.cons (tk_int _) (.cons (tk_int _) .nil)) (Nat.le_of_ble_eq_true rfl)
/-- sorted(d.items()), by its data -/
theorem ek_sortIt {K : PySem.W.Frag} {σ : L2.St} {H : Hp} {ta : TE} {a : Addr} {ps srt : List (Int × Int)} (h : Ev ta σ H (.ref a)) (ha : H a = some (.dK (enc ps))) (hne : ps ≠ []) (hp : srt.Perm ps) (hs : Lex srt) (h4 : ps.length ≤ 40000) : EvK 2 (tCB rSortItK (tCons (tBM0 K "dict" rItemsK ta) tNil)) σ H (pd srt) := fun H1 e Q q =>
  s_retSI (K := K) (D := { nx := fun _ _ => False, rt := Q, bk := fun _ _ => False, ct := fun _ _ => False }) (h := fun H2 e2 => h H2 (e.trans e2)) (e a _ ha) hne fun H' l zs x1 x2 x3 x4 x5 x6 => by
    have e1 : zs.map (·.2) = srt := lex_uniq (x3.trans hp.symm) x4 hs
    have hl : zs.length ≤ 40000 := by
      have := x3.length_eq
      rw [List.length_map] at this
      omega
    have := tk_pairs x5 (fun z hz => (x6 z hz).2.2) hl
    rw [e1] at this
    exact q _ H' x1 this
/-! ### the keys -/
def PC (n : Nat) : List (Int × Int) := (pcs n).getD n []
theorem pcs_at : ∀ {n m : Nat}, m ≤ n → (pcs n).getD m [] = PC m
  | n, m, h => by
    obtain ⟨t, ht⟩ := pcs_pre h
    unfold PC
    rw [ht, List.getD_eq_getElem?_getD, List.getD_eq_getElem?_getD, List.getElem?_append_left (by rw [pcs_len]; omega)]
theorem PC_succ (n : Nat) : PC (n + 1) = pnewTo (pcs n) (n + 1) (n + 1) := by
  unfold PC
  show (pcs n ++ [pnewTo (pcs n) (n + 1) (n + 1)]).getD (n + 1) [] = _
  rw [List.getD_eq_getElem?_getD, List.getElem?_append_right (by rw [pcs_len]; exact Nat.le_refl _), pcs_len, Nat.sub_self]
  rfl
theorem put_sub {ps : List (Int × Int)} {x v y : Int} (h : y ∈ ps.map (·.1)) : y ∈ (putI ps x v).map (·.1) := by
  rw [put_keys]
  split
  · exact h
  · exact List.mem_append_left _ h
theorem put_in {ps : List (Int × Int)} {x v : Int} : x ∈ (putI ps x v).map (·.1) := by
  rw [put_keys]
  by_cases h : x ∈ ps.map (·.1)
  · rw [if_pos h]
    exact h
  · rw [if_neg h]
    exact List.mem_append_right _ (List.mem_singleton.mpr rfl)
theorem fold_sub {tb : Int} {size : Nat} {y : Int} : ∀ {r acc : List (Int × Int)}, y ∈ acc.map (·.1) → y ∈ (r.foldl (pstep tb size) acc).map (·.1)
  | [], _, h => h
  | p :: r, acc, h => fold_sub (r := r) (put_sub h)
theorem fold_in {tb : Int} {size : Nat} {p : Int × Int} : ∀ {r acc : List (Int × Int)}, p ∈ r → ((Nat.lcm p.1.toNat size : Nat) : Int) ∈ (r.foldl (pstep tb size) acc).map (·.1)
  | q :: r, acc, h => by
    rcases List.mem_cons.mp h with rfl | h
    · exact fold_sub (r := r) put_in
    · exact fold_in (r := r) h
theorem new_in {W : List (List (Int × Int))} {many i : Nat} {p : Int × Int} (hp : p ∈ W.getD (many - (i + 1)) []) : ∀ {j : Nat}, i < j → ((Nat.lcm p.1.toNat (i + 1) : Nat) : Int) ∈ (pnewTo W many j).map (·.1)
  | 0, h => absurd h (Nat.not_lt_zero _)
  | j + 1, h => by
    rw [pnew_next]
    unfold prow
    by_cases e : i = j
    · subst e
      exact fold_in hp
    · exact fold_sub (new_in hp (by omega))
theorem lcm_key : ∀ (k : Nat) (ns : List Nat), ns.length = k → (∀ x ∈ ns, 0 < x) → ((lcmL ns : Nat) : Int) ∈ (PC ns.sum).map (·.1)
  | 0, ns, hl, _ => by
    have : ns = [] := List.length_eq_zero_iff.mp hl
    subst this
    decide
  | k + 1, ns, hl, hp => by
    have hne : ns ≠ [] := fun z => by
      rw [z] at hl
      cases hl
    obtain ⟨l, x, rfl⟩ : ∃ l x, ns = l ++ [x] := ⟨ns.dropLast, ns.getLast hne, (List.dropLast_concat_getLast hne).symm⟩
    have ll : l.length = k := by
      rw [List.length_append] at hl
      simpa using hl
    have xp := hp x (List.mem_append_right _ (List.mem_singleton.mpr rfl))
    have ih := lcm_key k l ll fun y hy => hp y (List.mem_append_left _ hy)
    obtain ⟨p, hpm, hpe⟩ := List.mem_map.mp ih
    have hs : (l ++ [x]).sum = l.sum + (x - 1) + 1 := by
      rw [List.sum_append]
      simp
      omega
    rw [hs, PC_succ]
    have hpm' : p ∈ (pcs (l.sum + (x - 1))).getD (l.sum + (x - 1) + 1 - (x - 1 + 1)) [] := by
      rw [show l.sum + (x - 1) + 1 - (x - 1 + 1) = l.sum by omega, pcs_at (by omega)]
      exact hpm
    have := new_in (W := pcs (l.sum + (x - 1))) (many := l.sum + (x - 1) + 1) (i := x - 1) hpm' (j := l.sum + (x - 1) + 1) (by omega)
    have e : Nat.lcm p.1.toNat (x - 1 + 1) = lcmL (l ++ [x]) := by
      unfold lcmL
      rw [List.foldl_append]
      have : p.1.toNat = lcmL l := by
        rw [hpe]
        exact Int.toNat_natCast _
      rw [this, show x - 1 + 1 = x by omega]
      rfl
    rw [e] at this
    exact this
/-- what the law asks of the tables -/
theorem PC_tab {w : Nat} (h1 : 1 ≤ w) (h2 : w ≤ 20) : PC w = ptab.getD w [] := by
  rw [← pcs_tab]
  exact (pcs_at h2).symm
theorem founds_at {w : Nat} (h1 : 1 ≤ w) (h2 : w ≤ 20) : founds w = ftab.getD (w - 1) [] := by
  rw [← founds_tab, List.getD_eq_getElem?_getD, List.getElem?_map, List.getElem?_range (by omega)]
  show founds w = founds (w - 1 + 1)
  rw [show w - 1 + 1 = w by omega]
theorem founds_perm {w : Nat} (h1 : 1 ≤ w) (h2 : w ≤ 20) : (founds w).Perm (PC w) := by
  have := tabs_perm (w - 1) (by omega)
  rw [show w - 1 + 1 = w by omega] at this
  rw [PC_tab h1 h2, founds_at h1 h2]
  exact List.isPerm_iff.mp this
theorem founds_least {w : Nat} (h1 : 1 ≤ w) (h2 : w ≤ 20) {p : Int × Int} (hp : p ∈ founds w) : 1 ≤ p.1 ∧ p.1 ≤ 1000 ∧ leastN p.1.toNat ≤ w := by
  rw [founds_at h1 h2] at hp
  have := List.all_eq_true.mp (tabs_least (w - 1) (by omega)) p hp
  rw [Bool.and_eq_true, Bool.and_eq_true] at this
  rw [show w - 1 + 1 = w by omega] at this
  exact ⟨of_decide_eq_true this.1.1, of_decide_eq_true this.1.2, of_decide_eq_true this.2⟩
theorem founds_in {w j : Nat} (h1 : 1 ≤ w) (h2 : w ≤ 20) (hj : j < 89) : decide (leastN (j + 1) ≤ w) = decide (((j + 1 : Nat) : Int) ∈ (founds w).map (·.1)) := by
  have := tabs_in (w - 1) (by omega) j hj
  rw [show w - 1 + 1 = w by omega] at this
  rw [founds_at h1 h2]
  exact this
theorem PC_sum {w : Nat} (h1 : 1 ≤ w) (h2 : w ≤ 20) : ((PC w).map (·.2)).sum = ((fac w : Nat) : Int) := by
  have := tabs_sum (w - 1) (by omega)
  rw [show w - 1 + 1 = w by omega] at this
  rw [PC_tab h1 h2]
  exact this
/-- the period of a seating of n asks for no more than n guests -/
theorem lcm_least {ns : List Nat} (hp : ∀ x ∈ ns, 0 < x) (h1 : 1 ≤ ns.sum) (h2 : ns.sum ≤ 20) : 1 ≤ lcmL ns ∧ lcmL ns ≤ 1000 ∧ leastN (lcmL ns) ≤ ns.sum := by
  obtain ⟨p, hpm, hpe⟩ := List.mem_map.mp (lcm_key ns.length ns rfl hp)
  have := founds_least h1 h2 ((founds_perm h1 h2).mem_iff.mpr hpm)
  rw [hpe, Int.toNat_natCast] at this
  omega


local macro_rules | `(tactic| walk_at "call") => `(tactic| (with_reducible exact sv_whole))
local macro_rules | `(tactic| walk_at "call") => `(tactic| ((with_reducible refine' sv_order ?c1 ?c2); (case c1 => assumption); (case c2 => assumption)))
local macro_rules | `(tactic| walk_at "call") => `(tactic| ((with_reducible refine' sv_ord ?c1 ?c2); (case c1 => assumption); (case c2 => assumption)))

/-! ### for the law -/
theorem sum_perm {l m : List Int} (h : l.Perm m) : l.sum = m.sum := by
  induction h with
  | nil => rfl
  | cons x _ ih => rw [List.sum_cons, List.sum_cons, ih]
  | swap x y l => rw [List.sum_cons, List.sum_cons, List.sum_cons, List.sum_cons]; omega
  | trans _ _ a b => rw [a, b]
def rLenK : List V → Hp → VK → Prop := fun xs H Q => ∃ a kvs, xs = [V.ref a] ∧ H a = some (.dK kvs) ∧ Q (.int kvs.length) H
theorem call_lenK {X : Cx} : CallR X (.builtin "len") rLenK := call_lenD
section
variable {K : PySem.W.Frag} {σ : L2.St} {H : Hp} {ta tb tc td te tl : TE} {t : TT} {tk : TA} {tu tz : TS} {D : Ends} {g : TG} {E : XK}
theorem q_tupDI {i j : Nat} {v : V} (hb : ∀ H1, Ev tb σ H1 v) (k : ∀ p H1, H p = none → Ex H H1 → H1 p = some (.dK (enc [])) → tz D ((σ.set i (some (.ref p))).set j (some v)) H1) : tSeq (tAsg (tTup (tCons tDNewK (tCons tb tNil))) (gTup K 2 (gCons (gName i) (gCons (gName j) gNil)))) tz D σ H := fun p hp => hb _ _ (Ex.refl _) _ fun H2 e2 =>
  ⟨sz_of (by show 2 ≤ 100000; decide), fun t ht => ⟨t, [.ref p, v], rfl, st_of upd_same, rfl, .ref p, [v], rfl, v, [], rfl, rfl, k p _ hp (((Ex.new hp).trans e2).trans (Ex.new ht)) (Ex.new ht p _ (e2 p _ upd_same))⟩⟩
theorem q_forLB {rs : List (List Nat)} (h : EvLB tl σ H rs) (k : ∀ p ws H1, H p = none → Ex H H1 → H1 p = some (.lst ws) → Paired (Lb H1) ws rs → tSeq (tFor (iList K (tC (.ref p))) g tu) tz D σ H1) : tSeq (tFor (iList K tl) g tu) tz D σ H := h H (Ex.refl _) _ fun p ws H1 np e1 h1 hw => k p ws H1 np e1 h1 hw
/-- what a call of period_counts gives -/
theorem run_pc {w : Nat} {H : Hp} {Q : VK} (w1 : 1 ≤ w) (w20 : w ≤ 20) (k : ∀ l xs S H1, H l = none → Ex H H1 → H1 l = some (.lst xs) → TL H1 xs (S.map fun p : Int × Int => [V.int p.1, V.int p.2]) → S.Perm (PC w) → Lex S → Tk 2 H1 (.ref l) (pd S) → Q (.ref l) H1) : sp_pcounts [.int (w : Int)] H Q E := ⟨w, rfl, w1, w20, fun H' l zs x1 x2 x3 x4 x5 x6 => by
  have hl : zs.length ≤ 40000 := by
    have h1 := x3.length_eq
    rw [List.length_map] at h1
    have h2 := (pcs_ok (m := w) w20 (getD_mem (l := pcs w) (i := w) (d := []) (by rw [pcs_len]; omega))).2.1
    omega
  refine k l _ (zs.map fun z : Addr × Int × Int => z.2) H' x2 x1 x5 ?_ x3 x4 (tk_pairs x5 (fun z hz => (x6 z hz).2.2) hl)
  clear x3 x4 x5 hl k
  induction zs with
  | nil => exact .nil
  | cons z r ih => exact .cons ⟨z.1, rfl, (x6 z List.mem_cons_self).2.2⟩ (ih fun y hy => x6 y (List.mem_cons_of_mem _ hy))⟩
theorem q_asgPK {i w : Nat} {gV : List V → List V → List V} (hg : gV [] [.int (w : Int)] = [.int (w : Int)]) (ha : EvA tk σ H [.int (w : Int)]) (w1 : 1 ≤ w) (w20 : w ≤ 20) (k : ∀ l xs S H1, H l = none → Ex H H1 → H1 l = some (.lst xs) → xs.length ≤ 1000 → S.Perm (PC w) → Lex S → Tk 2 H1 (.ref l) (pd S) → tz D (σ.set i (some (.ref l))) H1) : tSeq (tAsg (tCallK sp_pcounts gV E tNil tk) (gName i)) tz D σ H := ha H (Ex.refl _) _ fun H1 e1 => by
  show sp_pcounts (gV [] [.int (w : Int)]) H1 _ E
  rw [hg]
  refine run_pc w1 w20 fun l xs S H2 nl e2 hl ht hp hs hk => k l xs S H2 (fresh_back e1 nl) (e1.trans e2) hl ?_ hp hs hk
  have h1 := hp.length_eq
  have h2 := (pcs_ok (m := w) w20 (getD_mem (l := pcs w) (i := w) (d := []) (by rw [pcs_len]; omega))).2.1
  have h3 := ht.len
  rw [List.length_map] at h3
  have h4 : (PC w).length = ((pcs w).getD w []).length := rfl
  omega
theorem ev_lenPC {ta : TA} {w : Nat} (ha : EvA ta σ H [.int (w : Int)]) (w1 : 1 ≤ w) (w20 : w ≤ 20) : Ev (tCB (rLenS K) (tCons (tCall sp_pcounts [] E ta) tNil)) σ H (.int ((PC w).length : Int)) := fun H1 e Q q => ha H1 e _ fun H2 e2 => by
  refine run_pc w1 w20 fun l xs S H3 nl e3 hl ht hp hs hk => ⟨l, xs, rfl, .inl (sq_of hl), ?_⟩
  have h3 := ht.len
  rw [List.length_map, hp.length_eq] at h3
  rw [h3]
  exact q H3 (e2.trans e3)
/-- [e for x in d if t]: none -/
theorem el_keysNo {d : Addr} {ps : List (Int × Int)} {j : Nat} {vs : List Nat} (h : ∀ H1, Ev td σ H1 (.ref d)) (hd : H d = some (.dK (enc ps))) (hw : ∀ x, wipe ((wipe σ vs).set j (some x)) vs = wipe σ vs)
    (ht : ∀ a b H1, (a, b) ∈ ps → EvT t ((wipe σ vs).set j (some (.int a))) H1 false) : EvL (tLockE (tLc (iKeys td) (gName j) t te vs)) σ H [] := fun H0 e Q q => ⟨d, .dK (enc ps), e d _ hd, True.intro, fun o => h _ _ (Ex.refl _) _ fun H1 e1 => ⟨d, o, rfl, .inl ⟨enc ps, e1 d _ upd_same, fun Dl hD => by
  have le : (enc ps).length = ps.length := List.length_map ..
  have hd1 := e1 d _ upd_same
  have nd : Dl ≠ d := fun z => by rw [z, hd1] at hD; cases hD
  refine lc_it walk_keys (fun _ H' => Ex H1 H' ∧ H' Dl = some (.lst [])) ⟨Ex.new hD, upd_same⟩ (fun n H' _ p => p.1 d _ hd1) ?_ fun H' p => ?_
  · rintro n x Hh H' hn p ⟨rfl, k, v, g1, rfl⟩
    unfold enc at g1
    rw [List.getElem?_map] at g1
    obtain ⟨p0, hp0, ep0⟩ := Option.map_eq_some_iff.mp g1
    cases ep0
    refine ⟨hw _, ht p0.1 p0.2 H' (List.mem_of_getElem? hp0) H' (Ex.refl _) _ fun H3 e3 => ?_⟩
    rw [if_neg (by decide)]
    exact ⟨p.1.trans e3, e3 Dl _ p.2⟩
  · refine ⟨p.1 d _ hd1, q Dl _ ?_ (fun b u hb => ?_) (by rw [upd_ne nd]; exact p.2)⟩
    · have := fresh_back e1 hD
      rw [upd_ne nd] at this
      exact this
    · by_cases z : b = d
      · rw [z, e d _ hd] at hb
        cases hb
        rw [z, upd_same]
      · rw [upd_ne z]
        exact p.1 b _ (e1 b _ (by rw [upd_ne z]; exact hb))⟩⟩⟩
theorem given_all {S : List (Int × Int)} : given S.length (fun _ => true) (fun n => V.int (S.getD n (0, 0)).2) = (S.map (·.2)).map V.int := by
  unfold given
  rw [List.filter_eq_self.mpr fun _ _ => rfl]
  refine List.ext_getElem? fun n => ?_
  rw [List.getElem?_map, List.getElem?_map, List.getElem?_map]
  by_cases h : n < S.length
  · rw [List.getElem?_range h, List.getElem?_eq_getElem h]
    show some (V.int (S.getD n (0, 0)).2) = _
    rw [List.getD_eq_getElem?_getD, List.getElem?_eq_getElem h]
    rfl
  · rw [List.getElem?_eq_none (by rw [List.length_range]; omega), List.getElem?_eq_none (by omega)]
    rfl
theorem ev_sumPC {ta : TA} {w i j : Nat} {vs : List Nat} (ij : i ≠ j) (hj : j < (wipe σ vs).length) (ha : EvA ta σ H [.int (w : Int)]) (w1 : 1 ≤ w) (w20 : w ≤ 20) (hw : ∀ x y, wipe (((wipe σ vs).set i (some x)).set j (some y)) vs = wipe σ vs) :
    Ev (tCB (rSum K) (tCons (tLc (iList K (tCall sp_pcounts [] E ta)) (gTup K 2 (gCons (gName i) (gCons (gName j) gNil))) tYes (tVar j) vs) tNil)) σ H (.int ((fac w : Nat) : Int)) := fun H1 e Q q => ha H1 e _ fun H2 e2 => by
  refine run_pc w1 w20 fun l xs S H3 nl e3 hl ht hp hs hk => ?_
  have hS : S.length ≤ 1000 := by
    have h1 := hp.length_eq
    have h2 := (pcs_ok (m := w) w20 (getD_mem (l := pcs w) (i := w) (d := []) (by rw [pcs_len]; omega))).2.1
    have h4 : (PC w).length = ((pcs w).getD w []).length := rfl
    omega
  have comp := el_lcTL (K := K) (tl := tC (.ref l)) (te := tVar j) (tt := tYes) (σ := σ) (H := H3) (a := l) (ws := xs) (rs := S.map fun p : Int × Int => [V.int p.1, V.int p.2]) (i := i) (j := j) (vs := vs) (fun n => V.int (S.getD n (0, 0)).1) (fun n => V.int (S.getD n (0, 0)).2) (fun _ => true) (fun n => V.int (S.getD n (0, 0)).2) ev_c hl ht (by rw [List.length_map]; exact hS) (fun n r hr => by
    rw [List.getElem?_map] at hr
    obtain ⟨p, hp, rfl⟩ := Option.map_eq_some_iff.mp hr
    rw [List.getD_eq_getElem?_getD, hp]
    rfl) hw (fun _ _ _ => fun H1 _ _ q => q H1 (Ex.refl _)) fun n H1 _ _ => ev_var (by
      rw [List.getElem?_set_self (by rw [List.length_set]; exact hj)])
  rw [List.length_map, given_all] at comp
  refine ev_sumL (K := K) comp H3 (Ex.refl _) _ fun H4 e4 => ?_
  have es : (S.map (·.2)).sum = ((fac w : Nat) : Int) := by
    rw [← PC_sum w1 w20]
    exact sum_perm (hp.map (·.2))
  rw [es]
  exact q H4 (e2.trans (e3.trans e4))
end


local macro_rules | `(tactic| walk_at "call") => `(tactic| (with_reducible exact sv_whole))
local macro_rules | `(tactic| walk_at "call") => `(tactic| ((with_reducible refine' sv_order ?c1 ?c2); (case c1 => assumption); (case c2 => assumption)))
local macro_rules | `(tactic| walk_at "call") => `(tactic| ((with_reducible refine' sv_ord ?c1 ?c2); (case c1 => assumption); (case c2 => assumption)))

theorem Cm.ord {c : List Nat} (o : Cm c) : Ord (sby c c.length) := by
  rw [sby_seat o.2.2 _ (Nat.le_refl _)]
  have R := ringsTo_ok o.2.2 c.length (Nat.le_refl _)
  exact seat_ord R.all R.ne o.1 o.2.1
theorem Cm.rings {c : List Nat} (o : Cm c) : Rings (sby c c.length) (ringsTo c c.length) := by
  rw [sby_seat o.2.2 _ (Nat.le_refl _)]
  exact (ringsTo_ok o.2.2 c.length (Nat.le_refl _)).rings

/-! ### for the turns of the law -/
theorem dvd_lcmL : ∀ (ns : List Nat) (m : Nat), m ∣ ns.foldl Nat.lcm m ∧ ∀ x ∈ ns, x ∣ ns.foldl Nat.lcm m
  | [], m => ⟨Nat.dvd_refl _, fun x hx => nomatch hx⟩
  | y :: l, m => by
    obtain ⟨a, b⟩ := dvd_lcmL l (Nat.lcm m y)
    refine ⟨Nat.dvd_trans (Nat.dvd_lcm_left m y) a, fun x hx => ?_⟩
    rcases List.mem_cons.mp hx with rfl | hx
    · exact Nat.dvd_trans (Nat.dvd_lcm_right m x) a
    · exact b x hx
theorem dvd_per {rs : List (List Nat)} {r : List Nat} (hr : r ∈ rs) : r.length ∣ perR rs := (dvd_lcmL (rs.map (·.length)) 1).2 _ (List.mem_map.mpr ⟨r, hr, rfl⟩)
theorem ring_pos {h : List Nat} {rs : List (List Nat)} (R : Rings h rs) {r : List Nat} (hr : r ∈ rs) : 0 < r.length := (R.rg r hr).ne
theorem mod_per {i l z : Nat} (hi : i < l) (hd : l ∣ z) : (((i : Int) + (z : Int)) % (l : Int)).toNat = i := by
  obtain ⟨q, rfl⟩ := hd
  rw [Int.natCast_mul, Int.add_mul_emod_self_left]
  rw [Int.emod_eq_of_lt (by omega) (by omega)]
  exact Int.toNat_natCast _
theorem mod_per1 {i l z : Nat} (hl : 0 < l) (hd : l ∣ z) : (((i : Int) + ((z : Int) + 1)) % (l : Int)).toNat = (i + 1) % l := by
  obtain ⟨q, rfl⟩ := hd
  have e : (i : Int) + (((l * q : Nat) : Int) + 1) = ((i + 1 : Nat) : Int) + (l : Int) * (q : Int) := by
    rw [Int.natCast_mul]
    omega
  rw [e, Int.add_mul_emod_self_left, ← Int.natCast_emod]
  exact Int.toNat_natCast _
theorem sl_power0 {H : Hp} {a : Addr} {h : List Nat} {rs : List (List Nat)} (ha : H a = some (.lst (nv h))) (o : Ord h) (R : Rings h rs) : SpL sp_power ([.ref a, .int ((perR rs : Nat) : Int)] ++ []) H (nv (List.range h.length)) := fun H1 e Q q E => ⟨a, h, rs, _, List.range h.length, rfl, e a _ ha, o, R, List.length_range, fun r hr i x hx => by
  have il := (List.getElem?_eq_some_iff.mp hx).1
  rw [mod_per il (dvd_per hr), hx]
  have : x < h.length := List.mem_range.mp (R.all.mem_iff.mp (List.mem_flatten.mpr ⟨r, hr, List.mem_of_getElem? hx⟩))
  exact List.getElem?_range this, q⟩
theorem sl_power1 {H : Hp} {a : Addr} {h : List Nat} {rs : List (List Nat)} (ha : H a = some (.lst (nv h))) (o : Ord h) (R : Rings h rs) : SpL sp_power ([.ref a, .int (((perR rs : Nat) : Int) + 1)] ++ []) H (nv h) := fun H1 e Q q E => ⟨a, h, rs, _, h, rfl, e a _ ha, o, R, rfl, fun r hr i x hx => by
  have il := (List.getElem?_eq_some_iff.mp hx).1
  rw [mod_per1 (ring_pos R hr) (dvd_per hr)]
  obtain ⟨x', y, h1, h2, h3⟩ := (R.rg r hr).st i il
  rw [hx] at h1
  cases h1
  rw [h2, h3], q⟩
theorem per_least {h : List Nat} {rs : List (List Nat)} (o : Ord h) (R : Rings h rs) : 1 ≤ perR rs ∧ perR rs ≤ 1000 ∧ leastN (perR rs) ≤ h.length := by
  have e : (rs.map (·.length)).sum = h.length := by
    rw [sum_flat, R.all.length_eq, List.length_range]
  have := lcm_least (ns := rs.map (·.length)) (fun x hx => by
    obtain ⟨r, hr, rfl⟩ := List.mem_map.mp hx
    exact ring_pos R hr) (by rw [e]; exact o.2.1) (by rw [e]; exact o.2.2)
  rw [e] at this
  exact this
theorem ev_perMul {K : PySem.W.Frag} {σ : L2.St} {H : Hp} {ta : TE} {E E' : XK} {a : Addr} {j : Nat} {vs : List Nat} {h : List Nat} {rs : List (List Nat)} (hj : j < (wipe σ vs).length) (hv : Ev ta σ H (.ref a)) (ha : H a = some (.lst (nv h))) (o : Ord h) (R : Rings h rs) (hw : ∀ x, wipe ((wipe σ vs).set j (some x)) vs = wipe σ vs) :
    Ev (tCall sp_multiple [] E' (tCons (tLc (iList K (tCall sp_law_tables [] E (tCons ta tNil))) (gName j) tYes (tCB (rLenS K) (tCons (tVar j) tNil)) vs) tNil)) σ H (.int ((perR rs : Nat) : Int)) := fun H1 e Q q =>
  elt_law_tables hv ha o.2.2 R H1 e _ fun p ws H2 np e2 hp ht => by
    have wl := ht.len
    rw [List.length_map] at wl
    have e0 : (rs.map (·.length)).sum = h.length := by rw [sum_flat, R.all.length_eq, List.length_range]
    have o2 := o.2
    have rl : rs.length ≤ 20 := by
      have := sum_ge_len (rs.map (·.length)) fun x hx => by
        obtain ⟨r, hr, rfl⟩ := List.mem_map.mp hx
        exact ring_pos R hr
      rw [List.length_map] at this
      omega
    have comp := el_lcL (K := K) (tl := tC (.ref p)) (te := tCB (rLenS K) (tCons (tVar j) tNil)) (t := tYes) (σ := σ) (H := H2) (a := p) (xs := ws) (j := j) (vs := vs) (fun _ => true) (fun n => V.int (((rs.map (·.length)).getD n 0 : Nat) : Int)) ev_c (sq_of hp) (by omega) hw (fun _ _ _ _ _ => et_yes) fun n x H3 e3 hx _ => by
      obtain ⟨y, hy, b, rfl, hb⟩ := paired_get (ht.ex e3) hx
      rw [List.getElem?_map] at hy
      obtain ⟨r, hr, rfl⟩ := Option.map_eq_some_iff.mp hy
      refine ev_is (ev_lenT (K := K) (ev_var (by rw [List.getElem?_set_self hj])) (st_of hb)) ?_
      rw [nv_len, List.getD_eq_getElem?_getD, List.getElem?_map, hr]
      rfl
    have eg : given ws.length (fun _ => true) (fun n => V.int (((rs.map (·.length)).getD n 0 : Nat) : Int)) = nv (rs.map (·.length)) := by
      unfold given
      rw [List.filter_eq_self.mpr fun _ _ => rfl, nv_eq]
      refine List.ext_getElem? fun n => ?_
      rw [List.getElem?_map, List.getElem?_map]
      by_cases hn : n < ws.length
      · rw [List.getElem?_range hn, List.getElem?_eq_getElem (by rw [List.length_map]; omega)]
        show some (V.int (((rs.map (·.length)).getD n 0 : Nat) : Int)) = _
        rw [List.getD_eq_getElem?_getD, List.getElem?_eq_getElem (by rw [List.length_map]; omega)]
        rfl
      · rw [List.getElem?_eq_none (by rw [List.length_range]; omega), List.getElem?_eq_none (by rw [List.length_map]; omega)]
        rfl
    rw [eg] at comp
    show tLc (iList K (tC (.ref p))) (gName j) tYes (tCB (rLenS K) (tCons (tVar j) tNil)) vs σ H2 (fun x H3 => tNil σ H3 fun xs H4 => sp_multiple ((x :: xs) ++ []) H4 Q E')
    refine comp H2 (Ex.refl _) _ fun l H3 nl e3 hl => ⟨l, rs.map (fun r : List Nat => r.length), rfl, hl, fun x hx => ?_, by omega, fun H4 e4 => q H4 (e2.trans (e3.trans e4))⟩
    obtain ⟨r, hr, rfl⟩ := List.mem_map.mp hx
    exact ring_pos R hr
theorem sv_per {H : Hp} {a : Addr} {h : List Nat} {rs : List (List Nat)} (ha : H a = some (.lst (nv h))) (o : Ord h) (R : Rings h rs) : SpV sp_period ([.ref a] ++ []) H (.int ((perR rs : Nat) : Int)) := fun H1 e Q q E => ⟨a, h, rs, rfl, e a _ ha, o, R, q⟩


local macro_rules | `(tactic| walk_at "call") => `(tactic| (with_reducible exact sv_whole))
local macro_rules | `(tactic| walk_at "call") => `(tactic| ((with_reducible refine' sv_order ?c1 ?c2); (case c1 => assumption); (case c2 => assumption)))
local macro_rules | `(tactic| walk_at "call") => `(tactic| ((with_reducible refine' sv_ord ?c1 ?c2); (case c1 => assumption); (case c2 => assumption)))

/-! ### data -/
def di (r : List Nat) : PyData := .list ((iz r).map PyData.int)
theorem shaped_di (r : List Nat) : SeqAt.shaped (di r) = true := shaped_ints _
section
variable {K : PySem.W.Frag} {σ : L2.St} {H : Hp} {te : TE}
theorem dpa_nv (r : List Nat) : DpAll K H (nv r) ((iz r).map PyData.int) := dpa_ints _
theorem dp_L {a : Addr} {r : List Nat} (h : H a = some (.lst (nv r))) : Dp K H (.ref a) (di r) := .lst (sq_of h) (dpa_nv r)
theorem ed_L {r : List Nat} (h : EvL te σ H (nv r)) : EvD K te σ H (di r) := ed_ofL h (dpa_nv r)
end

/-! ### the law -/
section
variable {K : PySem.W.Frag} {σ : L2.St} {H0 H : Hp} {p L : Addr} {k k1 k2 : Nat} {ta tb tc te tm : TE} {Ra Rb : V → Hp → Prop} {D : Ends} {tz : TS} {t : TA}
theorem pq_bag {ta : TA} {E : XK} {j : Nat} {s : Addr} {ns : List Int} (h : EvA ta σ H [.ref s]) (hs : SqL K H s (ns.map V.int)) (hl : ns.length ≤ 63) (q : ∀ p L H2, H p = none → H L = none → Ex H H2 → Po p L 0 H2 → tz D (σ.set j (some (.ref p))) H2) :
    tSeq (tAsg (tCall (sp_law_bag K) [] E ta) (gName j)) tz D σ H := h H (Ex.refl H) _ fun H1 e1 => ⟨s, ns, rfl, ex_l e1 hs, hl, fun p L H2 np nl e2 po => q p L H2 (fresh_back e1 np) (fresh_back e1 nl) (e1.trans e2) po⟩
end

section
variable {K : PySem.W.Frag} {σ : L2.St} {H0 H : Hp} {p L : Addr} {k : Nat} {ta : TA} {D : Ends} {tu tz : TS}
theorem pq_forTup {n j : Nat} {C : List V → Prop} {S : L2.St → Prop} (h : EvPA p L k ta σ H0 C) (e : Ex H0 H) (hp : Po p L n H) (hn : n + k ≤ 1000000000) (hC : ∀ vs, C vs → vs.length ≤ 1000 ∧ ∀ v ∈ vs, ∃ w : Nat, v = .int (w : Int) ∧ 1 ≤ w ∧ w ≤ 20) (h0 : S σ)
    (hs : ∀ (w : Nat) σ' H', 1 ≤ w → w ≤ 20 → S σ' → Po p L (n + k) H' → ∀ N : L2.St → Hp → Prop, (∀ s G, S s → Ex H' G → N s G) → tu { D with nx := N, ct := N, bk := tz D } (σ'.set j (some (.int (w : Int)))) H')
    (hd : ∀ σ' H', S σ' → Po p L (n + k) H' → Ex (Hm p H) H' → tz D σ' H') : tSeq (tFor (iTup K (tTup ta)) (gName j) tu) tz D σ H := by
  refine h n H e hp hn _ fun vs H1 c p1 e1 => ⟨sz_of (by have := (hC vs c).1; omega), fun q hq => ?_⟩
  refine ⟨q, rfl, ⟨vs, st_of upd_same⟩, for_tup (fun i σ' H' => S σ' ∧ Ex (upd H1 q (.tup vs)) H') ⟨h0, Ex.refl _⟩ (fun i σ' H' _ z => ex_t z.2 (st_of upd_same)) (fun i x σ' H' hx z => ?_) fun σ' H' z => hd σ' H' z.1 ((p1.ex (Ex.new hq)).ex z.2) (hm_trans e1 (hm_of ((Ex.new hq).trans z.2)))⟩
  obtain ⟨w, rfl, w1, w20⟩ := (hC vs c).2 x (List.mem_of_getElem? hx)
  exact hs w σ' H' w1 w20 z.1 ((p1.ex (Ex.new hq)).ex z.2) _ fun s G h1 h2 => ⟨h1, z.2.trans h2⟩
end
theorem sv_mul {H : Hp} {a : Addr} {ns : List Nat} (ha : H a = some (.lst (nv ns))) (hp : ∀ x ∈ ns, 0 < x) (h20 : ns.sum ≤ 20) : SpV sp_multiple ([.ref a] ++ []) H (.int ((lcmL ns : Nat) : Int)) := fun H1 e Q q E => ⟨a, ns, rfl, e a _ ha, hp, h20, q⟩
theorem sv_ways {H : Hp} {a : Addr} {ns : List Nat} (ha : H a = some (.lst (nv ns))) (h1 : 1 ≤ ns.sum) (h20 : ns.sum ≤ 20) (hp : ∀ x ∈ ns, 0 < x) : SpV sp_ways ([.ref a] ++ []) H (.int ((waysR ns : Nat) : Int)) := fun H1 e Q q E => ⟨a, ns, rfl, e a _ ha, h1, h20, hp, q⟩
def fstep (acc : List (Int × Int)) (row : List Nat) : List (Int × Int) := putI acc ((lcmL row : Nat) : Int) (gI acc ((lcmL row : Nat) : Int) + ((waysR row : Nat) : Int))
theorem fstep_len : ∀ (rs : List (List Nat)) (acc : List (Int × Int)), (rs.foldl fstep acc).length ≤ acc.length + rs.length
  | [], acc => Nat.le_refl _
  | r :: l, acc => by
    have a := fstep_len l (fstep acc r)
    have b : (fstep acc r).length ≤ acc.length + 1 := put_len ..
    rw [List.foldl_cons, List.length_cons]
    omega
theorem founds_eq (w : Nat) : founds w = (partsN w w).foldl fstep [] := rfl
theorem ev_leastK {σ : L2.St} {H : Hp} {tk : TA} {E : XK} {gV : List V → List V → List V} {n : Nat} (hg : ∀ x, gV [] [x] = [x]) (ha : EvA tk σ H [.int (n : Int)]) (h1 : 1 ≤ n) (h2 : n ≤ 10 ^ 9) : Ev (tCallK sp_least gV E tNil tk) σ H (.int (leastN n : Int)) := fun H1 e Q q => ha H1 e _ fun H2 e2 => by
  show sp_least (gV [] [.int (n : Int)]) H2 Q E
  rw [hg]
  exact ⟨n, rfl, h1, h2, fun H3 e3 => q H3 (e2.trans e3)⟩
theorem ev_din {σ : L2.St} {H : Hp} {ty td : TE} {a : Addr} {ps : List (Int × Int)} {x : Int} (hx : Ev ty σ H (.int x)) (hd : Ev td σ H (.ref a)) (ha : H a = some (.dK (enc ps))) : Ev (tDIn ty td) σ H (.bl (decide (x ∈ ps.map (·.1)))) := fun H1 e Q q => hx H1 e _ fun H2 e2 => hd H2 (e.trans e2) _ fun H3 e3 => ⟨a, valV (enc ps) (.inl x), rfl, .inl ⟨enc ps, .inl x, .inl (e3 a _ (e2 a _ (e a _ ha))), rfl, rfl⟩, by
  have : (valV (enc ps) (.inl x)).isSome = decide (x ∈ ps.map (·.1)) := by
    rw [enc_val, Option.isSome_map, Option.isSome_map, Bool.eq_iff_iff, List.find?_isSome, decide_eq_true_iff, List.mem_map]
    exact ⟨fun ⟨p, hp, e⟩ => ⟨p, hp, of_decide_eq_true e⟩, fun ⟨p, hp, e⟩ => ⟨p, hp, decide_eq_true e⟩⟩
  rw [this]
  exact q H3 (e2.trans e3)⟩
theorem ev_lenF {σ : L2.St} {H : Hp} {td : TE} {a : Addr} {ps : List (Int × Int)} (hd : Ev td σ H (.ref a)) (ha : H a = some (.dK (enc ps))) : Ev (tCB rLenK (tCons td tNil)) σ H (.int (ps.length : Int)) := fun H1 e Q q => hd H1 e _ fun H2 e2 => ⟨a, enc ps, rfl, e2 a _ (e a _ ha), by
  have : (enc ps).length = ps.length := List.length_map ..
  rw [this]
  exact q H2 e2⟩
section
variable {K : PySem.W.Frag} {σ : L2.St} {H0 H : Hp} {p L : Addr} {k : Nat} {ta tb tm : TE} {D : Ends}
theorem ep_seating {E : XK} (h0 : H0 p = none) (ha : Ev ta σ H0 (.ref p)) (hm : EvP p L k tm σ H0 (fun v _ => ∃ m : Nat, v = .int (m : Int) ∧ 1 ≤ m ∧ m ≤ 20)) : EvP p L (k + 201) (tCall sp_law_seating [] E (tCons ta (tCons tm tNil))) σ H0 (fun v H' => ∃ s c, v = .ref s ∧ s ≠ p ∧ H' s = some (.lst (nv (sby c c.length))) ∧ Cm c) := fun n H1 e hp hn Q q =>
  ha H1 e _ fun H2 e2 => hm n H2 (e.trans e2) (hp.ex e2) (by omega) _ fun v H3 ⟨m, ev, m1, m20⟩ p3 e3 => by
    subst ev
    exact ⟨p, L, n + k, m, rfl, p3, by omega, m20, fun l c H4 nl hl cl cm p4 e4 => q _ H4 ⟨l, c, rfl, p3.ne nl, by rw [cl]; exact hl, by omega, by omega, cm⟩ (p4.mono (by omega)) (hm_trans (hm_of e2) (hm_trans e3 e4))⟩
end
def lastL : List Nat := [1, 2, 5, 7, 512 + 1953125, 10]
theorem last_ok : [leastN 1, leastN 2, leastN 6, leastN 12, leastN (10 ^ 9), leastN 30] = lastL := by decide +kernel
theorem rgV_range (n : Nat) : rgV 0 (n : Int) = nv (List.range n) := by
  unfold rgV
  rw [nv_eq, Int.sub_zero, Int.toNat_natCast]
  exact List.map_congr_left fun i _ => by rw [Int.zero_add]
def sp_law (K : PySem.W.Frag) : Sp := fun vs H Q _ => ∃ (a : Addr) (ns : List Int), vs = [.ref a] ∧ SqL K H a (ns.map V.int) ∧ ns.length ≤ 63 ∧ ∀ H', Q (.bl true) H'
section
variable {P : Program} {w : World} {K : PySem.W.Frag} {mg : Str → Option Value} {base : Heap}
theorem ok_law (T : Tx K mg) : FnOk P w K mg base CX0 30 T.f_law T.d_law ["script"] (sp_law K) := by
  refine T.F_law.ok sc_law (fun vs H Q E h => ?_) (fun cdv A outer s0 H vs Q E hr h => ?_)
  · obtain ⟨a, ns, rfl, _⟩ := h
    rfl
  · obtain ⟨a, ns, rfl, hs, hl, kk⟩ := h
    refine ⟨_, (pss_cons (ps_set (i := 1) sc_law.nd rfl (Or.inl rfl) (pe_call (ok_law_bag T) (hr.mono (by decide)) (by rfl) T.g_law_bag T.F_law_bag.kp T.b_law_bag .nil pass0 (pa_cons (pv 0) pa_nil)))
      (pss_cons (ps_for PassesOwn.never rfl (pi_tup (pe_tup (pa_cons pe_int (pa_cons pe_int (pa_cons pe_int (pa_cons (pe_op op_add pe_int (pe_call (ok_law_draw T) (hr.mono (by decide)) (by rfl) T.g_law_draw T.F_law_draw.kp T.b_law_draw .nil pass0 (pa_cons (pv 1) (pa_cons pe_int pa_nil)))) (pa_cons (pe_ix ix_list (pe_lst (pa_cons pe_int (pa_cons pe_int (pa_cons pe_int pa_nil)))) (pe_call (ok_law_draw T) (hr.mono (by decide)) (by rfl) T.g_law_draw T.F_law_draw.kp T.b_law_draw .nil pass0 (pa_cons (pv 1) (pa_cons pe_int pa_nil))) (fun _ _ => rfl)) pa_nil))))))) (pg_name (i := 2) sc_law.nd rfl (Or.inr rfl)) (pss_cons (ps_asg (pe_tup (pa_cons pe_dnewK (pa_cons pe_int pa_nil))) (pg_tup rfl (pgs_cons (pg_name (i := 3) sc_law.nd rfl (Or.inr rfl)) (pgs_cons (pg_name (i := 4) sc_law.nd rfl (Or.inl rfl)) pgs_nil))))
      (pss_cons (ps_for PassesOwn.never rfl (pi_list (pe_call (ok_law_parts T) (hr.mono (by decide)) (by rfl) T.g_law_parts T.F_law_parts.kp T.b_law_parts .nil pass0 (pa_cons (pv 2) (pa_cons (pv 2) pa_nil)))) (pg_name (i := 5) sc_law.nd rfl (Or.inl rfl)) (pss_cons (ps_set (i := 6) sc_law.nd rfl (Or.inl rfl) (pe_call (ok_law_multiple T) (hr.mono (by decide)) (by rfl) T.g_law_multiple T.F_law_multiple.kp T.b_law_multiple .nil pass0 (pa_cons (pv 5) pa_nil)))
      (pss_one (ps_dput (hu_of hr) (pv 3) (pv 6) (pe_op op_add (pe_dget2 (hu_of hr) (pv 3) (pv 6) pe_int ⟨by rfl, by rfl, by rfl, by rfl⟩) (pe_call (ok_law_ways T) (hr.mono (by decide)) (by rfl) T.g_law_ways T.F_law_ways.kp T.b_law_ways .nil pass0 (pa_cons (pv 5) pa_nil))) rfl))))
      (pss_cons (ps_set (i := 7) sc_law.nd rfl (Or.inl rfl) (pe_callK0 (ok_period_counts T) (hr.mono (by decide)) (by rfl) T.g_period_counts T.F_period_counts.kp T.kb_period_counts_0_guests pass0 (pk_cons (pv 2) pk_nil)))
      (pss_cons (ps_if (pt_not (pt_val (pe_call (ok_law_alike T) (hr.mono (by decide)) (by rfl) T.g_law_alike T.F_law_alike.kp T.b_law_alike .nil pass0 (pa_cons (pv 7) (pa_cons (pe_callB (id := "sorted") (r := rSortItK) (cr_sortItK rfl) (by rfl) T.m_sorted (by decide +kernel) (pa_cons (pe_bm0 PySem.F.plainAttrs_dict PySem.F.slot_dict_items PySem.F.type_dict_items mt_itemsK (pv 3)) pa_nil)) pa_nil))))) (pss_one (ps_ret pe_bl)) pss_nil)
      (pss_cons (ps_expr (pe_bm PySem.F.plainAttrs_list PySem.F.slot_list_append PySem.F.type_list_append mt_append (pv 7) (pa_cons pe_non pa_nil)))
      (pss_cons (ps_for PassesOwn.never rfl (pi_range2 (by rfl) T.m_range (pa_cons pe_int (pa_cons (pe_op op_add (pv 2) pe_int) pa_nil))) (pg_name (i := 8) sc_law.nd rfl (Or.inl rfl)) (pss_one (ps_set (i := 4) sc_law.nd rfl (Or.inl rfl) (pe_op op_mulX (pv 4) (pv 8)))))
      (pss_cons (ps_if (PW.pt (pw_or (pt_cmpR op_ne (pe_callB call_lenR (by rfl) T.m_len (by decide +kernel) (pa_cons (pe_call (ok_period_counts T) (hr.mono (by decide)) (by rfl) T.g_period_counts T.F_period_counts.kp T.b_period_counts .nil pass0 (pa_cons (pv 2) pa_nil)) pa_nil)) (pe_callB (id := "len") (r := rLenK) call_lenK (by rfl) T.m_len (by decide +kernel) (pa_cons (pv 3) pa_nil)) (nomark _)) (pw_or1 (pt_cmpR op_ne (pe_callB (cr_sum rfl) (by rfl) T.m_sum (by decide +kernel) (pa_cons (pe_lc (own := [("far", 6), ("size", 9)]) (g := (gTup _ 2 (gCons (gName 6) (gCons (gName 9) gNil)))) (tt := tYes) rfl sc_law.nd (pi_list (pe_call (ok_period_counts T) (hr.mono (by decide)) (by rfl) T.g_period_counts T.F_period_counts.kp T.b_period_counts .nil pass0 (pa_cons (pv 2) pa_nil))) (blkOk_by (own := [("far", 6), ("size", 9)]) (N := n_law) (sc := defScope s_law) (by decide +kernel)) (fun _ _ _ _ _ => (pg_tup rfl (pgs_cons (pg_name (i := 6) sc_law.nd rfl (Or.inl rfl)) (pgs_cons (pg_name (i := 9) sc_law.nd rfl (Or.inl rfl)) pgs_nil)))) (fun _ _ _ _ _ => pts_nil) (fun _ _ _ _ _ => (pv 9))) pa_nil)) (pv 4) (nomark _))))) (pss_one (ps_ret pe_bl)) pss_nil)
      (pss_cons (ps_if (pt_cmpR (op_neD hr.units) (pe_lock (pe_lc (own := [("far", 6)]) (g := (gName 6)) rfl sc_law.nd (pi_keys (pv 3)) (blkOk_by (own := [("far", 6)]) (N := n_law) (sc := defScope s_law) (by decide +kernel)) (fun _ _ _ _ _ => (pg_name (i := 6) sc_law.nd rfl (Or.inl rfl))) (fun _ _ _ _ _ => (pts_one (pt_cmpR op_gt (pe_callK0 (ok_least_guests T) (hr.mono (by decide)) (by rfl) T.g_least_guests T.F_least_guests.kp T.kb_least_guests_0_period pass0 (pk_cons (pv 6) pk_nil)) (pv 2) (nomark _)))) (fun _ _ _ _ _ => (pv 6)))) (pe_lst pa_nil) (nomark _)) (pss_one (ps_ret pe_bl)) pss_nil)
      (pss_one (ps_if (pt_cmpR (op_neD hr.units) (pe_lc (own := [("far", 6)]) (g := (gName 6)) rfl sc_law.nd (pi_range2 (by rfl) T.m_range (pa_cons pe_int (pa_cons pe_int pa_nil))) (blkOk_by (own := [("far", 6)]) (N := n_law) (sc := defScope s_law) (by decide +kernel)) (fun _ _ _ _ _ => (pg_name (i := 6) sc_law.nd rfl (Or.inl rfl))) (fun _ _ _ _ _ => (pts_one (pt_cmpR op_ne (pe_cmpR op_le (pe_call (ok_least_guests T) (hr.mono (by decide)) (by rfl) T.g_least_guests T.F_least_guests.kp T.b_least_guests .nil pass0 (pa_cons (pv 6) pa_nil)) (pv 2) (nomark _)) (pe_cmp (pc_din (hu_of hr) (pv 6) (pv 3))) (nomark _)))) (fun _ _ _ _ _ => (pv 6))) (pe_lst pa_nil) (nomark _)) (pss_one (ps_ret pe_bl)) pss_nil)))))))))))
      (pss_cons (ps_for PassesOwn.never rfl (pi_range1 (by rfl) T.m_range (pa_cons pe_int pa_nil)) (pg_name (i := 10) sc_law.nd rfl (Or.inl rfl)) (pss_cons (ps_set (i := 11) sc_law.nd rfl (Or.inl rfl) (pe_call (ok_law_seating T) (hr.mono (by decide)) (by rfl) T.g_law_seating T.F_law_seating.kp T.b_law_seating .nil pass0 (pa_cons (pv 1) (pa_cons (pe_op op_add pe_int (pe_call (ok_law_draw T) (hr.mono (by decide)) (by rfl) T.g_law_draw T.F_law_draw.kp T.b_law_draw .nil pass0 (pa_cons (pv 1) (pa_cons pe_int pa_nil)))) pa_nil))))
      (pss_cons (ps_set (i := 6) sc_law.nd rfl (Or.inl rfl) (pe_call (ok_period_of T) (hr.mono (by decide)) (by rfl) T.g_period_of T.F_period_of.kp T.b_period_of .nil pass0 (pa_cons (pv 11) pa_nil)))
      (pss_cons (ps_if (pt_cmpR op_ne (pv 6) (pe_call (ok_law_multiple T) (hr.mono (by decide)) (by rfl) T.g_law_multiple T.F_law_multiple.kp T.b_law_multiple .nil pass0 (pa_cons (pe_lc (own := [("table", 12)]) (g := (gName 12)) (tt := tYes) rfl sc_law.nd (pi_list (pe_call (ok_law_tables T) (hr.mono (by decide)) (by rfl) T.g_law_tables T.F_law_tables.kp T.b_law_tables .nil pass0 (pa_cons (pv 11) pa_nil))) (blkOk_by (own := [("table", 12)]) (N := n_law) (sc := defScope s_law) (by decide +kernel)) (fun _ _ _ _ _ => (pg_name (i := 12) sc_law.nd rfl (Or.inl rfl))) (fun _ _ _ _ _ => pts_nil) (fun _ _ _ _ _ => (pe_callB (id := "len") (r := rLenS K) call_lenR (by rfl) T.m_len (by decide +kernel) (pa_cons (pv 12) pa_nil)))) pa_nil)) (nomark _)) (pss_one (ps_ret pe_bl)) pss_nil)
      (pss_cons (ps_if (pt_cmpR (op_neD hr.units) (pe_call (ok_power T) (hr.mono (by decide)) (by rfl) T.g_power T.F_power.kp T.b_power .nil pass0 (pa_cons (pv 11) (pa_cons (pv 6) pa_nil))) (pe_listRg rfl (by rfl) T.m_list (prg_1 (by rfl) T.m_range (pe_callB call_lenR (by rfl) T.m_len (by decide +kernel) (pa_cons (pv 11) pa_nil)))) (nomark _)) (pss_one (ps_ret pe_bl)) pss_nil)
      (pss_cons (ps_if (PW.pt (pw_or (pt_cmpR op_gt (pe_call (ok_least_guests T) (hr.mono (by decide)) (by rfl) T.g_least_guests T.F_least_guests.kp T.b_least_guests .nil pass0 (pa_cons (pv 6) pa_nil)) (pe_callB call_lenR (by rfl) T.m_len (by decide +kernel) (pa_cons (pv 11) pa_nil)) (nomark _)) (pw_or1 (pt_cmpR (op_neD hr.units) (pe_call (ok_power T) (hr.mono (by decide)) (by rfl) T.g_power T.F_power.kp T.b_power .nil pass0 (pa_cons (pv 11) (pa_cons (pe_op op_add (pv 6) pe_int) pa_nil))) (pv 11) (nomark _))))) (pss_one (ps_ret pe_bl)) pss_nil)
      (pss_cons (ps_set (i := 6) sc_law.nd rfl (Or.inl rfl) (pe_ix ix_list (pe_lst (pa_cons (pe_op op_add pe_int (pe_call (ok_law_draw T) (hr.mono (by decide)) (by rfl) T.g_law_draw T.F_law_draw.kp T.b_law_draw .nil pass0 (pa_cons (pv 1) (pa_cons (pe_op op_powX pe_int pe_int) pa_nil)))) (pa_cons (pe_op op_powX pe_int pe_int) (pa_cons pe_int (pa_cons pe_int (pa_cons (pe_op op_add pe_int (pe_call (ok_law_draw T) (hr.mono (by decide)) (by rfl) T.g_law_draw T.F_law_draw.kp T.b_law_draw .nil pass0 (pa_cons (pv 1) (pa_cons pe_int pa_nil)))) pa_nil)))))) (pe_call (ok_law_draw T) (hr.mono (by decide)) (by rfl) T.g_law_draw T.F_law_draw.kp T.b_law_draw .nil pass0 (pa_cons (pv 1) (pa_cons pe_int pa_nil))) (fun _ _ => rfl)))
      (pss_one (ps_if (pt_not (pt_val (pe_call (ok_law_alike T) (hr.mono (by decide)) (by rfl) T.g_law_alike T.F_law_alike.kp T.b_law_alike .nil pass0 (pa_cons (pe_call (ok_least_guests T) (hr.mono (by decide)) (by rfl) T.g_least_guests T.F_least_guests.kp T.b_least_guests .nil pass0 (pa_cons (pv 6) pa_nil)) (pa_cons (pe_call (ok_law_least T) (hr.mono (by decide)) (by rfl) T.g_law_least T.F_law_least.kp T.b_law_least .nil pass0 (pa_cons (pv 6) pa_nil)) pa_nil))))) (pss_one (ps_ret pe_bl)) pss_nil)))))))))
      (pss_cons (ps_set (i := 7) sc_law.nd rfl (Or.inl rfl) (pe_lst (pa_cons (pe_call (ok_least_guests T) (hr.mono (by decide)) (by rfl) T.g_least_guests T.F_least_guests.kp T.b_least_guests .nil pass0 (pa_cons pe_int pa_nil)) (pa_cons (pe_call (ok_least_guests T) (hr.mono (by decide)) (by rfl) T.g_least_guests T.F_least_guests.kp T.b_least_guests .nil pass0 (pa_cons pe_int pa_nil)) (pa_cons (pe_call (ok_least_guests T) (hr.mono (by decide)) (by rfl) T.g_least_guests T.F_least_guests.kp T.b_least_guests .nil pass0 (pa_cons pe_int pa_nil)) (pa_cons (pe_call (ok_least_guests T) (hr.mono (by decide)) (by rfl) T.g_least_guests T.F_least_guests.kp T.b_least_guests .nil pass0 (pa_cons pe_int pa_nil)) pa_nil))))))
      (pss_cons (ps_set (i := 7) sc_law.nd rfl (Or.inl rfl) (pe_op op_cat (pv 7) (pe_lst (pa_cons (pe_call (ok_least_guests T) (hr.mono (by decide)) (by rfl) T.g_least_guests T.F_least_guests.kp T.b_least_guests .nil pass0 (pa_cons (pe_op op_powX pe_int pe_int) pa_nil)) (pa_cons (pe_call (ok_least_guests T) (hr.mono (by decide)) (by rfl) T.g_least_guests T.F_least_guests.kp T.b_least_guests .nil pass0 (pa_cons pe_int pa_nil)) pa_nil)))))
      (pss_one (ps_ret (pe_call (ok_law_alike T) (hr.mono (by decide)) (by rfl) T.g_law_alike T.F_law_alike.kp T.b_law_alike .nil pass0 (pa_cons (pv 7) (pa_cons (pe_lst (pa_cons pe_int (pa_cons pe_int (pa_cons pe_int (pa_cons pe_int (pa_cons (pe_op op_add pe_int pe_int) (pa_cons pe_int pa_nil))))))) pa_nil)))))))))), ?_⟩
    refine pq_bag (ea_cons (ev_var rfl) ea_nil) hs hl fun p L H1 hp hL e1 hpo => ?_
    refine pq_forTup (p := p) (L := L) (k := 0 + (0 + (0 + ((0 + 1) + (((0 + (0 + (0 + 0))) + 1) + 0))))) (H0 := Hm p H1) (C := fun vs => ∃ x y : Nat, vs = [.int 1, .int 2, .int 3, .int (x : Int), .int (y : Int)] ∧ (1 ≤ x ∧ x ≤ 20) ∧ 1 ≤ y ∧ y ≤ 20)
      (S := fun σ' => ∃ y2 y3 y4 y5 y6 y7 y8 y9 y10 y11 y12, σ' = [some (.ref a), some (.ref p), y2, y3, y4, y5, y6, y7, y8, y9, y10, y11, y12]) ?_ hm_sub hpo (by decide) (fun vs ⟨x, y, e, hx, hy⟩ => ?_) ⟨_, _, _, _, _, _, _, _, _, _, _, rfl⟩ ?_ ?_
    · have A4 : EvP p L (0 + 1) (tOp (rI0 fun i j => .int (i + j)) (tC (.int 1)) (tCall sp_law_draw [] E (tCons (tVar 1) (tCons (tC (.int 14)) tNil)))) [some (.ref a), some (.ref p), none, none, none, none, none, none, none, none, none, none, none] (Hm p H1) (fun v _ => ∃ x : Nat, v = .int (x : Int) ∧ 1 ≤ x ∧ x ≤ 20) := ep_is (ep_add (C := fun r => 0 ≤ r ∧ r < 14) hm_p ev_c (ep_dipI (w := 14) hm_p (ev_var rfl) ev_c (by decide) (by decide))) fun v _ ⟨r, e, r0, r1⟩ => ⟨(1 + r).toNat, by rw [e]; congr 1; omega, by omega, by omega⟩
      have A5 : EvP p L ((0 + (0 + (0 + 0))) + 1) (tOp (rIxL K) (tLst (tCons (tC (.int 20)) (tCons (tC (.int 15)) (tCons (tC (.int 18)) tNil)))) (tCall sp_law_draw [] E (tCons (tVar 1) (tCons (tC (.int 3)) tNil)))) [some (.ref a), some (.ref p), none, none, none, none, none, none, none, none, none, none, none] (Hm p H1) (fun v _ => ∃ x : Nat, v = .int (x : Int) ∧ 1 ≤ x ∧ x ≤ 20) := by
        refine ep_ix (A := fun v => ∃ x : Nat, v = .int (x : Int) ∧ 1 ≤ x ∧ x ≤ 20) (ix := fun v => ∃ r, v = .int r ∧ 0 ≤ r ∧ r < 3) (C := fun vs => vs = [.int 20, .int 15, .int 18]) hm_p (ep_is (ep_lst (epa_pure (v := .int 20) hm_p ev_c (epa_pure (v := .int 15) hm_p ev_c (epa_pure (v := .int 18) hm_p ev_c epa_nil))) ?_) ?_) (ep_dipI (w := 3) hm_p (ev_var rfl) ev_c (by decide) (by decide)) ?_
        · rintro vs ⟨x, r, rfl, rfl, y, r2, rfl, rfl, z, r3, rfl, rfl, rfl⟩
          decide
        · rintro v H' ⟨l, vs, ne, e, hl, x, r, rfl, rfl, y, r2, rfl, rfl, z, r3, rfl, rfl, rfl⟩
          exact ⟨l, _, ne, e, hl, rfl⟩
        · rintro vs v rfl ⟨r, rfl, r0, r1⟩
          obtain rfl | rfl | rfl : r = 0 ∨ r = 1 ∨ r = 2 := by omega
          · exact ⟨0, _, rfl, rfl, 20, rfl, by decide, by decide⟩
          · exact ⟨1, _, rfl, rfl, 15, rfl, by decide, by decide⟩
          · exact ⟨2, _, rfl, rfl, 18, rfl, by decide, by decide⟩
      intro n G1 eg hg hn Q q
      refine epa_pure (v := .int 1) hm_p ev_c (epa_pure (v := .int 2) hm_p ev_c (epa_pure (v := .int 3) hm_p ev_c (epa_cons (A := fun v => ∃ x : Nat, v = .int (x : Int) ∧ 1 ≤ x ∧ x ≤ 20) hm_p A4 (epa_cons (A := fun v => ∃ x : Nat, v = .int (x : Int) ∧ 1 ≤ x ∧ x ≤ 20) hm_p A5 epa_nil)))) n G1 eg hg hn Q fun vs G2 hv => q vs G2 ?_
      obtain ⟨v1, r1, rfl, rfl, v2, r2, rfl, rfl, v3, r3, rfl, rfl, v4, r4, rfl, ⟨x, rfl, hx⟩, v5, r5, rfl, ⟨y, rfl, hy⟩, rfl⟩ := hv
      exact ⟨x, y, rfl, hx, hy⟩
    · subst e
      refine ⟨(by decide : 5 ≤ 1000), fun v hv => ?_⟩
      simp only [List.mem_cons, List.not_mem_nil, or_false] at hv
      rcases hv with rfl | rfl | rfl | rfl | rfl
      · exact ⟨1, rfl, by decide, by decide⟩
      · exact ⟨2, rfl, by decide, by decide⟩
      · exact ⟨3, rfl, by decide, by decide⟩
      · exact ⟨x, rfl, hx.1, hx.2⟩
      · exact ⟨y, rfl, hy.1, hy.2⟩
    · rintro m σ' H2 m1 m20 ⟨y2, y3, y4, y5, y6, y7, y8, y9, y10, y11, y12, rfl⟩ p2 N hN
      refine q_tupDI (v := .int 1) (fun _ => ev_c) fun f H3 nf e3 hf => ?_
      refine q_forLB (elb_parts (l := m) (m := m) (ea_cons (ev_var rfl) (ea_cons (ev_var rfl) ea_nil)) (by omega) m20 m20) fun q ws H4 nq e4 hq hw => ?_
      have hf4 := e4 f _ hf
      have qf : q ≠ f := fun z => by
        rw [z, hf] at nq
        cases nq
      have pl := partsN_small m (by omega) m (by omega)
      have wl := Paired.length hw
      refine q_forLn (xs := ws) (K := K) (ev_c) (sq_of hq) (fun i σ' H' => ∃ z5 z6, σ' = [some (.ref a), some (.ref p), some (.int (m : Int)), some (.ref f), some (.int 1), z5, z6, y7, y8, y9, y10, y11, y12] ∧ Ex (Hm f H4) H' ∧ H' f = some (.dK (enc (((partsN m m).take i).foldl fstep []))))
        (fun H5 e5 => ⟨_, _, rfl, hm_of e5, e5 f _ hf4⟩) (fun i σ' H' _ ⟨_, _, _, e, _⟩ => sq_of (hm_at e qf hq)) ?_ ?_
      · rintro i v σ' H5 hv ⟨z5, z6, rfl, e5, hf5⟩
        obtain ⟨r, hr, b, rfl, hb⟩ := paired_get hw hv
        have bf : b ≠ f := fun z => by
          rw [z, hf4] at hb
          cases hb
        have hb5 := hm_at e5 bf hb
        obtain ⟨rs, rp, rl⟩ := partsN_row (List.mem_of_getElem? hr)
        refine q_asg (v := .int ((lcmL r : Nat) : Int)) (ev_call (ea_cons (ev_var rfl) ea_nil) (sv_mul hb5 rp (by omega))) fun H6 e6 => ?_
        have hf6 := e6 f _ hf5
        have nx : ((partsN m m).take (i + 1)).foldl fstep [] = fstep (((partsN m m).take i).foldl fstep []) r := by
          rw [take_next hr, List.foldl_append]
          rfl
        have fl := fstep_len ((partsN m m).take i) []
        rw [List.length_take] at fl
        refine s_putI (ps := ((partsN m m).take i).foldl fstep []) (ev_var rfl) (ev_var rfl) (ev_op (ev_getI (ps := ((partsN m m).take i).foldl fstep []) (ev_var rfl) (ev_var rfl) ev_c hf6) (ev_call (ea_cons (ev_var rfl) ea_nil) (sv_ways (e6 b _ hb5) (by omega) (by omega) rp)) rv_I0) hf6 (by have : ([] : List (Int × Int)).length = 0 := rfl; omega) fun H7 e7 => ⟨_, _, rfl, ?_, ?_⟩
        · exact Ex.mut (e5.trans (e6.trans e7)) hm_p
        · rw [nx]
          exact upd_same
      · rintro σ' H5 ⟨z5, z6, rfl, e5, hf5⟩
        rw [wl, List.take_of_length_le (Nat.le_refl _), ← founds_eq] at hf5
        -- from here on the dict does not change
        have e25 : Ex H2 H5 := fun c o hc => hm_at e5 (fun z => by
          rw [z, nf] at hc
          cases hc) ((e3.trans e4) c o hc)
        have fp := founds_perm m1 m20
        refine q_asgPK (w := m) rfl (ea_cons (ev_var rfl) ea_nil) m1 m20 fun l xs S H6 nl e6 hlx xl hS hLx hTk => ?_
        have hf6 := e6 f _ hf5
        have fne : founds m ≠ [] := fun z => by
          have h1 := fp.length_eq
          have h2 := (pcs_ok (m := m) m20 (getD_mem (l := pcs m) (i := m) (d := []) (by rw [pcs_len]; omega))).1
          rw [z] at h1
          have : (PC m).length = ((pcs m).getD m []).length := rfl
          simp at h1
          omega
        have flen : (founds m).length ≤ 40000 := by
          have h1 := fp.length_eq
          have h2 := (pcs_ok (m := m) m20 (getD_mem (l := pcs m) (i := m) (d := []) (by rw [pcs_len]; omega))).2.1
          have : (PC m).length = ((pcs m).getD m []).length := rfl
          omega
        refine q_when (b := false) (et_is (et_not (et_B (ev_alike (n := 4) (ek_of (ev_var rfl) (hTk.mono (by decide))) (ek_mono (ek_sortIt (K := K) (a := f) (srt := S) (ev_var rfl) hf6 fne (hS.trans fp.symm) hLx flen) (by decide)) rfl))) rfl) (fun hb => Bool.noConfusion hb) fun _ H7 e7 => ?_
        refine q_app (e7 l _ hlx) (ev_var rfl) ev_c (by omega) fun H8 e8 => ?_
        have lf : l ≠ f := fun z => by
          rw [z, hf5] at nl
          cases nl
        have hfG : (upd H8 l (.lst (xs ++ [.non]))) f = some (.dK (enc (founds m))) := by
          rw [upd_ne lf.symm]
          exact (e7.trans e8) f _ hf6
        have e2G : Ex H2 (upd H8 l (.lst (xs ++ [.non]))) := Ex.mut (e25.trans (e6.trans (e7.trans e8))) (fresh_back e25 nl)
        generalize upd H8 l (.lst (xs ++ [.non])) = G at hfG e2G ⊢
        have f20 := fac20
        refine q_forR2 (lo := 2) (n := (m : Int) + 1) (ea_cons ev_c (ea_cons (ev_op (ev_var rfl) ev_c rv_I0) ea_nil)) ⟨by decide, by decide, by omega, by omega⟩
          (fun i σ' H' => ∃ z8, σ' = [some (.ref a), some (.ref p), some (.int (m : Int)), some (.ref f), some (.int ((fac (i + 1) : Nat) : Int)), z5, z6, some (.ref l), z8, y9, y10, y11, y12] ∧ Ex G H') (fun H9 e9 => ⟨_, rfl, e9⟩) ?_ ?_
        · rintro i σ' H9 hi ⟨z8, rfl, e9⟩
          have fi : fac (i + 1) ≤ fac 20 := fac_mono (by omega)
          have mm : CMulX ((fac (i + 1) : Nat) : Int) (2 + (i : Int)) := mulx_ok (a := 62) (b := 5) (by omega) (by omega) (by decide)
          refine s_asg (v := .int ((fac (i + 1 + 1) : Nat) : Int)) (ev_is (ev_op (ev_var rfl) (ev_var rfl) (rv_I mm)) ?_) fun H10 e10 => ⟨_, rfl, e9.trans e10⟩
          rw [fac_succ (i + 1), Int.natCast_mul]
          congr 2
          omega
        · rintro σ' H9 ⟨z8, rfl, e9⟩
          have e0 : fac (((m : Int) + 1 - 2).toNat + 1) = fac m := by
            congr 1
            omega
          rw [e0]
          have hf9 := e9 f _ hfG
          refine q_when (b := false) (et_is (et_or (et_test (ev_op (ev_lenPC (K := K) (ea_cons (ev_var rfl) ea_nil) m1 m20) (ev_lenF (ev_var rfl) hf9) (rv_ne rfl))) fun _ => et_test (ev_op (ev_sumPC (K := K) (i := 6) (j := 9) (by decide) (by show 9 < 13; decide) (ea_cons (ev_var rfl) ea_nil) m1 m20 (fun _ _ => rfl)) (ev_var rfl) (rv_ne rfl))) ?_) (fun hb => Bool.noConfusion hb) fun _ H10 e10 => ?_
          · rw [fp.length_eq]
            simp
          have hf10 := e10 f _ hf9
          refine q_when (b := false) (et_is (et_test (ev_neD (K := K) (d := .list []) (e := .list []) (ed_ofL (el_keysNo (d := f) (ps := founds m) (j := 6) (vs := [6]) (fun _ => ev_var rfl) hf10 (fun _ => rfl) fun a b H1 hab => ?_) .nil) (ed_lst eda_nil (by decide)) rfl rfl)) rfl) (fun hb => Bool.noConfusion hb) fun _ H11 e11 => ?_
          · obtain ⟨a1, a2, a3⟩ := founds_least m1 m20 hab
            have a1 : 1 ≤ a := a1
            have a2 : a ≤ 1000 := a2
            have a3 : leastN a.toNat ≤ m := a3
            refine et_is (et_test (ev_op (ev_leastK (n := a.toNat) (fun _ => rfl) (ea_cons (ev_is (ev_var rfl) (show V.int a = _ by congr 1; omega)) ea_nil) (by omega) (by omega)) (ev_var rfl) rv_I0)) (decide_eq_false (by omega))
          have hf11 := e11 f _ hf10
          refine s_when (b := false) (et_is (et_test (ev_neD (K := K) (d := .list []) (e := .list []) (ed_ofL (el_noneR2 (lo := 1) (n := 90) (j := 6) (vs := [6]) (ea_cons ev_c (ea_cons ev_c ea_nil)) (by decide) (fun _ => rfl) fun i H1 ee hi => ?_) .nil) (ed_lst eda_nil (by decide)) rfl rfl)) rfl) (fun hb => Bool.noConfusion hb) fun _ H12 e12 => hN _ _ ⟨_, _, _, _, _, _, _, _, _, _, _, rfl⟩ (e2G.trans (e9.trans (e10.trans (e11.trans e12))))
          have fi := founds_in m1 m20 (j := i) (by omega)
          have ei : (1 : Int) + (i : Int) = ((i + 1 : Nat) : Int) := by omega
          refine et_is (et_test (ev_op (ev_op (ev_call (z := .int (leastN (i + 1) : Int)) (ea_cons (ev_is (ev_var rfl) (show V.int (1 + (i : Int)) = V.int ((i + 1 : Nat) : Int) by rw [ei])) ea_nil) (sv_least (by omega) (by omega))) (ev_var rfl) rv_I0) (ev_din (ps := founds m) (ev_var rfl) (ev_var rfl) (ee f _ hf11)) (rv_ne rfl))) ?_
          rw [ei, ← fi]
          have : decide ((leastN (i + 1) : Int) ≤ (m : Int)) = decide (leastN (i + 1) ≤ m) := decide_eq_decide.mpr (by omega)
          rw [this]
          simp
    · rintro σ' H2 ⟨y2, y3, y4, y5, y6, y7, y8, y9, y10, y11, y12, rfl⟩ p2 e2
      refine q_forR1 (n := 6) (ea_cons ev_c ea_nil) (by decide) (fun i σ' H' => ∃ z6 z7 z10 z11, σ' = [some (.ref a), some (.ref p), y2, y3, y4, y5, z6, z7, y8, y9, z10, z11, y12] ∧ Po p L (100 + i * 1000) H') (fun H3 e3 => ⟨_, _, _, _, rfl, (p2.ex e3).mono (by decide)⟩) ?_ ?_
      · rintro i σ' H3 hi ⟨z6, z7, z10, z11, rfl, p3⟩
        have hi6 : i < 6 := by omega
        refine pq_asg (p := p) (L := L) (k := (0 + 1) + 201) (H0 := Hm p H3) (ep_seating hm_p (ev_var rfl) (ep_is (ep_add (C := fun r => 0 ≤ r ∧ r < 20) hm_p ev_c (ep_dipI (w := 20) hm_p (ev_var rfl) ev_c (by decide) (by decide))) fun v _ ⟨r, e, r0, r1⟩ => ⟨(1 + r).toNat, by rw [e]; congr 1; omega, by omega, by omega⟩)) hm_sub p3 (by omega) ?_
        rintro v H4 ⟨s, c, rfl, sp', hs4, cm⟩ p4 e4
        have o := cm.ord
        have R := cm.rings
        obtain ⟨h, hh⟩ : ∃ h, h = sby c c.length := ⟨_, rfl⟩
        obtain ⟨rs, hrs⟩ : ∃ rs, rs = ringsTo c c.length := ⟨_, rfl⟩
        rw [← hh] at hs4 o R
        rw [← hrs] at R
        have o2 := o.2
        obtain ⟨pl1, pl2, pl3⟩ := per_least o R
        refine q_asg (v := .int ((perR rs : Nat) : Int)) (ev_call (ea_cons (ev_var rfl) ea_nil) (sv_per hs4 o R)) fun H5 e5 => ?_
        have hs5 := e5 s _ hs4
        refine q_when (b := false) (et_is (et_test (ev_op (ev_var rfl) (ev_perMul (K := K) (j := 12) (by show 12 < 13; decide) (ev_var rfl) hs5 o R (fun _ => rfl)) (rv_ne rfl))) (by simp)) (fun hb => Bool.noConfusion hb) fun _ H6 e6 => ?_
        have hs6 := e6 s _ hs5
        have rg : EvL (tLstRg (tRg1 (tCB (rLenS K) (tCons (tVar 11) tNil)))) [some (.ref a), some (.ref p), y2, y3, y4, y5, some (.int ((perR rs : Nat) : Int)), z7, y8, y9, z10, some (.ref s), y12] H6 (nv (List.range h.length)) := by
          have := el_rg1 (tb := tCB (rLenS K) (tCons (tVar 11) tNil)) (σ := [some (.ref a), some (.ref p), y2, y3, y4, y5, some (.int ((perR rs : Nat) : Int)), z7, y8, y9, z10, some (.ref s), y12]) (H := H6) (ev_len (K := K) (ev_var rfl) (sq_of hs6)) (RgOk.of_le (by decide) (by rw [nv_len]; omega) (by decide) (by rw [nv_len]; omega))
          rw [nv_len, rgV_range] at this
          exact this
        refine q_when (b := false) (et_is (et_test (ev_neD (K := K) (ed_L (el_call (ea_cons (ev_var rfl) (ea_cons (ev_var rfl) ea_nil)) (sl_power0 hs6 o R))) (ed_L rg) (shaped_di _) (shaped_di _))) (by rw [eqv_same (shaped_di _)]; simp)) (fun hb => Bool.noConfusion hb) fun _ H7 e7 => ?_
        have hs7 := e7 s _ hs6
        refine q_when (b := false) (et_is (et_or (et_test (ev_op (ev_call (z := .int (leastN (perR rs) : Int)) (ea_cons (ev_var rfl) ea_nil) (sv_least pl1 (by omega))) (ev_len (K := K) (ev_var rfl) (sq_of hs7)) rv_I0)) fun _ => et_test (ev_neD (K := K) (ed_L (el_call (ea_cons (ev_var rfl) (ea_cons (ev_op (ev_var rfl) ev_c rv_I0) ea_nil)) (sl_power1 hs7 o R))) (ed_of (ev_var rfl) (dp_L hs7)) (shaped_di _) (shaped_di _))) ?_) (fun hb => Bool.noConfusion hb) fun _ H8 e8 => ?_
        · rw [nv_len, eqv_same (shaped_di _), decide_eq_false (by omega)]
          simp
        · have e48 : Ex H4 H8 := e5.trans (e6.trans (e7.trans e8))
          have p8 := p4.ex e48
          have D1 : EvP p L (0 + 1) (tOp (rI0 fun i j => .int (i + j)) (tC (.int 1)) (tCall sp_law_draw [] E (tCons (tVar 1) (tCons (tOp (rI CPowX fun i j => .int (i ^ j.toNat)) (tC (.int 10)) (tC (.int 9))) tNil)))) [some (.ref a), some (.ref p), y2, y3, y4, y5, some (.int ((perR rs : Nat) : Int)), z7, y8, y9, z10, some (.ref s), y12] (Hm p H8) (fun v _ => ∃ x : Nat, v = .int (x : Int) ∧ 1 ≤ x ∧ x ≤ 10 ^ 9) := ep_is (ep_add (C := fun r => 0 ≤ r ∧ r < 10 ^ 9) hm_p ev_c (ep_dipI (w := 10 ^ 9) hm_p (ev_var rfl) (ev_op ev_c ev_c (rv_I (by constructor <;> decide +kernel))) (by decide) (by decide))) fun v _ ⟨r, e, r0, r1⟩ => ⟨(1 + r).toNat, by rw [e]; congr 1; omega, by omega, by omega⟩
          have D2 : EvP p L (0 + 1) (tOp (rI0 fun i j => .int (i + j)) (tC (.int 1)) (tCall sp_law_draw [] E (tCons (tVar 1) (tCons (tC (.int 1000)) tNil)))) [some (.ref a), some (.ref p), y2, y3, y4, y5, some (.int ((perR rs : Nat) : Int)), z7, y8, y9, z10, some (.ref s), y12] (Hm p H8) (fun v _ => ∃ x : Nat, v = .int (x : Int) ∧ 1 ≤ x ∧ x ≤ 10 ^ 9) := ep_is (ep_add (C := fun r => 0 ≤ r ∧ r < 1000) hm_p ev_c (ep_dipI (w := 1000) hm_p (ev_var rfl) ev_c (by decide) (by decide))) fun v _ ⟨r, e, r0, r1⟩ => ⟨(1 + r).toNat, by rw [e]; congr 1; omega, by omega, by omega⟩
          refine pq_asg (p := p) (L := L) (k := ((0 + 1) + (0 + (0 + (0 + ((0 + 1) + 0))))) + 1) (H0 := Hm p H8) (R := fun v _ => ∃ x : Nat, v = .int (x : Int) ∧ 1 ≤ x ∧ x ≤ 10 ^ 9) (ep_ix (A := fun v => ∃ x : Nat, v = .int (x : Int) ∧ 1 ≤ x ∧ x ≤ 10 ^ 9) (ix := fun v => ∃ r, v = .int r ∧ 0 ≤ r ∧ r < 5) (C := fun vs => ∃ x y : Nat, vs = [.int (x : Int), .int (2 ^ 29), .int 999999937, .int 223092870, .int (y : Int)] ∧ (1 ≤ x ∧ x ≤ 10 ^ 9) ∧ 1 ≤ y ∧ y ≤ 10 ^ 9) hm_p (ep_is (ep_lst (epa_cons (A := fun v => ∃ x : Nat, v = .int (x : Int) ∧ 1 ≤ x ∧ x ≤ 10 ^ 9) hm_p D1 (epa_pure (v := .int (2 ^ 29)) hm_p (ev_op ev_c ev_c (rv_I (by constructor <;> decide +kernel))) (epa_pure (v := .int 999999937) hm_p ev_c (epa_pure (v := .int 223092870) hm_p ev_c (epa_cons (A := fun v => ∃ x : Nat, v = .int (x : Int) ∧ 1 ≤ x ∧ x ≤ 10 ^ 9) hm_p D2 epa_nil))))) ?_) ?_) (ep_dipI (w := 5) hm_p (ev_var rfl) ev_c (by decide) (by decide)) ?_) hm_sub p8 (by omega) ?_
          · rintro vs ⟨v1, r1, rfl, ⟨x, rfl, hx⟩, v2, r2, rfl, rfl, v3, r3, rfl, rfl, v4, r4, rfl, rfl, v5, r5, rfl, ⟨y, rfl, hy⟩, rfl⟩
            exact Nat.le_of_ble_eq_true rfl
          · rintro v H' ⟨l, vs, ne, e, hl, v1, r1, rfl, ⟨x, rfl, hx⟩, v2, r2, rfl, rfl, v3, r3, rfl, rfl, v4, r4, rfl, rfl, v5, r5, rfl, ⟨y, rfl, hy⟩, rfl⟩
            exact ⟨l, _, ne, e, hl, x, y, rfl, hx, hy⟩
          · rintro vs v ⟨x, y, rfl, hx, hy⟩ ⟨r, rfl, r0, r1⟩
            obtain rfl | rfl | rfl | rfl | rfl : r = 0 ∨ r = 1 ∨ r = 2 ∨ r = 3 ∨ r = 4 := by omega
            · exact ⟨0, _, rfl, rfl, x, rfl, hx⟩
            · exact ⟨1, _, rfl, rfl, 2 ^ 29, rfl, by decide, by decide⟩
            · exact ⟨2, _, rfl, rfl, 999999937, rfl, by decide, by decide⟩
            · exact ⟨3, _, rfl, rfl, 223092870, rfl, by decide, by decide⟩
            · exact ⟨4, _, rfl, rfl, y, rfl, hy⟩
          · rintro v H9 ⟨x, rfl, x1, x9⟩ p9 e9
            refine s_when (b := false) (et_is (et_not (et_B (ev_alike (n := 4) (ek_int (ev_call (z := .int (leastN x : Int)) (ea_cons (ev_var rfl) ea_nil) (sv_least x1 x9))) (ek_int (ev_call (z := .int (leastN x : Int)) (ea_cons (ev_var rfl) ea_nil) (sv_least x1 x9))) rfl))) rfl) (fun hb => Bool.noConfusion hb) fun _ H10 e10 => ⟨_, _, _, _, rfl, (p9.ex e10).mono (by omega)⟩
      · rintro σ' H3 ⟨z6, z7, z10, z11, rfl, p3⟩
        have lg : ∀ {σ : L2.St} {G : Hp} {ta : TE} (n : Nat), Ev ta σ G (.int (n : Int)) → 1 ≤ n → n ≤ 10 ^ 9 → Ev (tCall sp_least [] E (tCons ta tNil)) σ G (.int (leastN n : Int)) := fun n h h1 h2 => ev_call (ea_cons h ea_nil) (sv_least h1 h2)
        refine q_asgL (xs := nv [leastN 1, leastN 2, leastN 6, leastN 12]) (el_lst (ea_cons (lg 1 ev_c (by decide) (by decide)) (ea_cons (lg 2 ev_c (by decide) (by decide)) (ea_cons (lg 6 ev_c (by decide) (by decide)) (ea_cons (lg 12 ev_c (by decide) (by decide)) ea_nil)))) (Nat.le_of_ble_eq_true rfl)) fun l H4 nl e4 hl4 => ?_
        refine q_asgL (xs := nv [leastN 1, leastN 2, leastN 6, leastN 12] ++ nv [leastN (10 ^ 9), leastN 30]) (el_catL (ev_var rfl) hl4 (el_lst (ea_cons (lg (10 ^ 9) (ev_op ev_c ev_c (rv_I (by constructor <;> decide +kernel))) (by decide) (by decide)) (ea_cons (lg 30 ev_c (by decide) (by decide)) ea_nil)) (Nat.le_of_ble_eq_true rfl)) (Nat.le_of_ble_eq_true rfl)) fun l2 H5 nl2 e5 hl5 => ?_
        have e6 : nv [leastN 1, leastN 2, leastN 6, leastN 12] ++ nv [leastN (10 ^ 9), leastN 30] = (iz lastL).map V.int := by
          rw [← nv_app]
          show nv [leastN 1, leastN 2, leastN 6, leastN 12, leastN (10 ^ 9), leastN 30] = nv lastL
          rw [last_ok]
        rw [e6] at hl5
        refine s_ret (v := .bl true) (ev_alike (n := 4) (d := .list ((iz lastL).map PyData.int)) (e := .list ((iz lastL).map PyData.int)) (ek_of (ev_var rfl) (tk_lst (n := 3) hl5 (tk_ints (iz lastL)) (by decide))) (ek_lst (n := 3) (eka_cons (ek_int ev_c) (eka_cons (ek_int ev_c) (eka_cons (ek_int ev_c) (eka_cons (ek_int ev_c) (eka_cons (ek_int (ev_op ev_c ev_c rv_I0)) (eka_cons (ek_int ev_c) eka_nil)))))) (by decide)) rfl) fun H6 e6 => kk H6
end


theorem all_mk {l : PySem.W.OpenLaw} {w : World} {K : PySem.W.Frag} {h : Heap} {mg : Str → Option Value} {fa : Addr} (X : K.In h) (G : h.Ns mainGlobals mg) (hfa : mg "law" = some (.ref fa))
    {f1 : Addr} {od1 an1 : Option Addr} {sl1 : Array (Option Value)} {oc1 kV1 dc1 pm1 cd1 ct1 : Value}
    {f2 : Addr} {od2 an2 : Option Addr} {sl2 : Array (Option Value)} {oc2 kV2 dc2 pm2 cd2 ct2 : Value}
    {f3 : Addr} {od3 an3 : Option Addr} {sl3 : Array (Option Value)} {oc3 kV3 dc3 pm3 cd3 ct3 : Value}
    {f4 : Addr} {od4 an4 : Option Addr} {sl4 : Array (Option Value)} {oc4 kV4 dc4 pm4 cd4 ct4 : Value}
    {f5 : Addr} {od5 an5 : Option Addr} {sl5 : Array (Option Value)} {oc5 kV5 dc5 pm5 cd5 ct5 : Value}
    {f6 : Addr} {od6 an6 : Option Addr} {sl6 : Array (Option Value)} {oc6 kV6 dc6 pm6 cd6 ct6 : Value}
    {f7 : Addr} {od7 an7 : Option Addr} {sl7 : Array (Option Value)} {oc7 kV7 dc7 pm7 cd7 ct7 : Value}
    {f8 : Addr} {od8 an8 : Option Addr} {sl8 : Array (Option Value)} {oc8 kV8 dc8 pm8 cd8 ct8 : Value}
    {f9 : Addr} {od9 an9 : Option Addr} {sl9 : Array (Option Value)} {oc9 kV9 dc9 pm9 cd9 ct9 : Value}
    {f10 : Addr} {od10 an10 : Option Addr} {sl10 : Array (Option Value)} {oc10 kV10 dc10 pm10 cd10 ct10 : Value}
    {f11 : Addr} {od11 an11 : Option Addr} {sl11 : Array (Option Value)} {oc11 kV11 dc11 pm11 cd11 ct11 : Value}
    {f12 : Addr} {od12 an12 : Option Addr} {sl12 : Array (Option Value)} {oc12 kV12 dc12 pm12 cd12 ct12 : Value}
    {f13 : Addr} {od13 an13 : Option Addr} {sl13 : Array (Option Value)} {oc13 kV13 dc13 pm13 cd13 ct13 : Value}
    {f14 : Addr} {od14 an14 : Option Addr} {sl14 : Array (Option Value)} {oc14 kV14 dc14 pm14 cd14 ct14 : Value}
    {f15 : Addr} {od15 an15 : Option Addr} {sl15 : Array (Option Value)} {oc15 kV15 dc15 pm15 cd15 ct15 : Value}
    {f16 : Addr} {od16 an16 : Option Addr} {sl16 : Array (Option Value)} {oc16 kV16 dc16 pm16 cd16 ct16 : Value}
    {f17 : Addr} {od17 an17 : Option Addr} {sl17 : Array (Option Value)} {oc17 kV17 dc17 pm17 cd17 ct17 : Value}
    {f18 : Addr} {od18 an18 : Option Addr} {sl18 : Array (Option Value)} {oc18 kV18 dc18 pm18 cd18 ct18 : Value}
    {f19 : Addr} {od19 an19 : Option Addr} {sl19 : Array (Option Value)} {oc19 kV19 dc19 pm19 cd19 ct19 : Value}
    {f20 : Addr} {od20 an20 : Option Addr} {sl20 : Array (Option Value)} {oc20 kV20 dc20 pm20 cd20 ct20 : Value}
    {f21 : Addr} {od21 an21 : Option Addr} {sl21 : Array (Option Value)} {oc21 kV21 dc21 pm21 cd21 ct21 : Value}
    {f22 : Addr} {od22 an22 : Option Addr} {sl22 : Array (Option Value)} {oc22 kV22 dc22 pm22 cd22 ct22 : Value}
    {f23 : Addr} {od23 an23 : Option Addr} {sl23 : Array (Option Value)} {oc23 kV23 dc23 pm23 cd23 ct23 : Value}
    {f24 : Addr} {od24 an24 : Option Addr} {sl24 : Array (Option Value)} {oc24 kV24 dc24 pm24 cd24 ct24 : Value}
    {f25 : Addr} {od25 an25 : Option Addr} {sl25 : Array (Option Value)} {oc25 kV25 dc25 pm25 cd25 ct25 : Value}
    {f26 : Addr} {od26 an26 : Option Addr} {sl26 : Array (Option Value)} {oc26 kV26 dc26 pm26 cd26 ct26 : Value}
    {f27 : Addr} {od27 an27 : Option Addr} {sl27 : Array (Option Value)} {oc27 kV27 dc27 pm27 cd27 ct27 : Value}
    {t_MOST_GUESTS : Tok}
    {t_MOST_PERIOD : Tok}
    (a1 : PySem.W.nsIn K mainGlobals "is_whole" = some (some (.ref f1))) (l1 : K.lookup f1 = some ⟨oc1, od1, .func (PySem.W.fnOf "is_whole" "is_whole" (defArgs s_is_whole) (defBody s_is_whole) (defScope s_is_whole) .none kV1 dc1 pm1 an1 cd1 ct1), sl1⟩) (c1 : PySem.W.codeIn K cd1 "is_whole" = true) (k1 : PySem.W.keepIn K (.ref f1) = true)
    (a2 : PySem.W.nsIn K mainGlobals "is_within" = some (some (.ref f2))) (l2 : K.lookup f2 = some ⟨oc2, od2, .func (PySem.W.fnOf "is_within" "is_within" (defArgs s_is_within) (defBody s_is_within) (defScope s_is_within) .none kV2 dc2 pm2 an2 cd2 ct2), sl2⟩) (c2 : PySem.W.codeIn K cd2 "is_within" = true) (k2 : PySem.W.keepIn K (.ref f2) = true)
    (a3 : PySem.W.nsIn K mainGlobals "is_order" = some (some (.ref f3))) (l3 : K.lookup f3 = some ⟨oc3, od3, .func (PySem.W.fnOf "is_order" "is_order" (defArgs s_is_order) (defBody s_is_order) (defScope s_is_order) .none kV3 dc3 pm3 an3 cd3 ct3), sl3⟩) (c3 : PySem.W.codeIn K cd3 "is_order" = true) (k3 : PySem.W.keepIn K (.ref f3) = true)
    (a4 : PySem.W.nsIn K mainGlobals "check_guests" = some (some (.ref f4))) (l4 : K.lookup f4 = some ⟨oc4, od4, .func (PySem.W.fnOf "check_guests" "check_guests" (defArgs s_check_guests) (defBody s_check_guests) (defScope s_check_guests) .none kV4 dc4 pm4 an4 cd4 ct4), sl4⟩) (c4 : PySem.W.codeIn K cd4 "check_guests" = true) (k4 : PySem.W.keepIn K (.ref f4) = true)
    (a5 : PySem.W.nsIn K mainGlobals "check_number" = some (some (.ref f5))) (l5 : K.lookup f5 = some ⟨oc5, od5, .func (PySem.W.fnOf "check_number" "check_number" (defArgs s_check_number) (defBody s_check_number) (defScope s_check_number) .none kV5 dc5 pm5 an5 cd5 ct5), sl5⟩) (c5 : PySem.W.codeIn K cd5 "check_number" = true) (k5 : PySem.W.keepIn K (.ref f5) = true)
    (a6 : PySem.W.nsIn K mainGlobals "check_any_number" = some (some (.ref f6))) (l6 : K.lookup f6 = some ⟨oc6, od6, .func (PySem.W.fnOf "check_any_number" "check_any_number" (defArgs s_check_any_number) (defBody s_check_any_number) (defScope s_check_any_number) .none kV6 dc6 pm6 an6 cd6 ct6), sl6⟩) (c6 : PySem.W.codeIn K cd6 "check_any_number" = true) (k6 : PySem.W.keepIn K (.ref f6) = true)
    (a7 : PySem.W.nsIn K mainGlobals "is_seating" = some (some (.ref f7))) (l7 : K.lookup f7 = some ⟨oc7, od7, .func (PySem.W.fnOf "is_seating" "is_seating" (defArgs s_is_seating) (defBody s_is_seating) (defScope s_is_seating) .none kV7 dc7 pm7 an7 cd7 ct7), sl7⟩) (c7 : PySem.W.codeIn K cd7 "is_seating" = true) (k7 : PySem.W.keepIn K (.ref f7) = true)
    (a8 : PySem.W.nsIn K mainGlobals "tables_of" = some (some (.ref f8))) (l8 : K.lookup f8 = some ⟨oc8, od8, .func (PySem.W.fnOf "tables_of" "tables_of" (defArgs s_tables_of) (defBody s_tables_of) (defScope s_tables_of) .none kV8 dc8 pm8 an8 cd8 ct8), sl8⟩) (c8 : PySem.W.codeIn K cd8 "tables_of" = true) (k8 : PySem.W.keepIn K (.ref f8) = true)
    (a9 : PySem.W.nsIn K mainGlobals "check_seating" = some (some (.ref f9))) (l9 : K.lookup f9 = some ⟨oc9, od9, .func (PySem.W.fnOf "check_seating" "check_seating" (defArgs s_check_seating) (defBody s_check_seating) (defScope s_check_seating) .none kV9 dc9 pm9 an9 cd9 ct9), sl9⟩) (c9 : PySem.W.codeIn K cd9 "check_seating" = true) (k9 : PySem.W.keepIn K (.ref f9) = true)
    (a10 : PySem.W.nsIn K mainGlobals "walk_left" = some (some (.ref f10))) (l10 : K.lookup f10 = some ⟨oc10, od10, .func (PySem.W.fnOf "walk_left" "walk_left" (defArgs s_walk_left) (defBody s_walk_left) (defScope s_walk_left) .none kV10 dc10 pm10 an10 cd10 ct10), sl10⟩) (c10 : PySem.W.codeIn K cd10 "walk_left" = true) (k10 : PySem.W.keepIn K (.ref f10) = true)
    (a11 : PySem.W.nsIn K mainGlobals "tables_among" = some (some (.ref f11))) (l11 : K.lookup f11 = some ⟨oc11, od11, .func (PySem.W.fnOf "tables_among" "tables_among" (defArgs s_tables_among) (defBody s_tables_among) (defScope s_tables_among) .none kV11 dc11 pm11 an11 cd11 ct11), sl11⟩) (c11 : PySem.W.codeIn K cd11 "tables_among" = true) (k11 : PySem.W.keepIn K (.ref f11) = true)
    (a12 : PySem.W.nsIn K mainGlobals "power" = some (some (.ref f12))) (l12 : K.lookup f12 = some ⟨oc12, od12, .func (PySem.W.fnOf "power" "power" (defArgs s_power) (defBody s_power) (defScope s_power) .none kV12 dc12 pm12 an12 cd12 ct12), sl12⟩) (c12 : PySem.W.codeIn K cd12 "power" = true) (k12 : PySem.W.keepIn K (.ref f12) = true)
    (a13 : PySem.W.nsIn K mainGlobals "period_of" = some (some (.ref f13))) (l13 : K.lookup f13 = some ⟨oc13, od13, .func (PySem.W.fnOf "period_of" "period_of" (defArgs s_period_of) (defBody s_period_of) (defScope s_period_of) .none kV13 dc13 pm13 an13 cd13 ct13), sl13⟩) (c13 : PySem.W.codeIn K cd13 "period_of" = true) (k13 : PySem.W.keepIn K (.ref f13) = true)
    (a14 : PySem.W.nsIn K mainGlobals "period_counts" = some (some (.ref f14))) (l14 : K.lookup f14 = some ⟨oc14, od14, .func (PySem.W.fnOf "period_counts" "period_counts" (defArgs s_period_counts) (defBody s_period_counts) (defScope s_period_counts) .none kV14 dc14 pm14 an14 cd14 ct14), sl14⟩) (c14 : PySem.W.codeIn K cd14 "period_counts" = true) (k14 : PySem.W.keepIn K (.ref f14) = true)
    (a15 : PySem.W.nsIn K mainGlobals "least_guests" = some (some (.ref f15))) (l15 : K.lookup f15 = some ⟨oc15, od15, .func (PySem.W.fnOf "least_guests" "least_guests" (defArgs s_least_guests) (defBody s_least_guests) (defScope s_least_guests) .none kV15 dc15 pm15 an15 cd15 ct15), sl15⟩) (c15 : PySem.W.codeIn K cd15 "least_guests" = true) (k15 : PySem.W.keepIn K (.ref f15) = true)
    (a16 : PySem.W.nsIn K mainGlobals "prime_powers" = some (some (.ref f16))) (l16 : K.lookup f16 = some ⟨oc16, od16, .func (PySem.W.fnOf "prime_powers" "prime_powers" (defArgs s_prime_powers) (defBody s_prime_powers) (defScope s_prime_powers) .none kV16 dc16 pm16 an16 cd16 ct16), sl16⟩) (c16 : PySem.W.codeIn K cd16 "prime_powers" = true) (k16 : PySem.W.keepIn K (.ref f16) = true)
    (a17 : PySem.W.nsIn K mainGlobals "_law_bag" = some (some (.ref f17))) (l17 : K.lookup f17 = some ⟨oc17, od17, .func (PySem.W.fnOf "_law_bag" "_law_bag" (defArgs s_law_bag) (defBody s_law_bag) (defScope s_law_bag) .none kV17 dc17 pm17 an17 cd17 ct17), sl17⟩) (c17 : PySem.W.codeIn K cd17 "_law_bag" = true) (k17 : PySem.W.keepIn K (.ref f17) = true)
    (a18 : PySem.W.nsIn K mainGlobals "_law_stirred" = some (some (.ref f18))) (l18 : K.lookup f18 = some ⟨oc18, od18, .func (PySem.W.fnOf "_law_stirred" "_law_stirred" (defArgs s_law_stirred) (defBody s_law_stirred) (defScope s_law_stirred) .none kV18 dc18 pm18 an18 cd18 ct18), sl18⟩) (c18 : PySem.W.codeIn K cd18 "_law_stirred" = true) (k18 : PySem.W.keepIn K (.ref f18) = true)
    (a19 : PySem.W.nsIn K mainGlobals "_law_draw" = some (some (.ref f19))) (l19 : K.lookup f19 = some ⟨oc19, od19, .func (PySem.W.fnOf "_law_draw" "_law_draw" (defArgs s_law_draw) (defBody s_law_draw) (defScope s_law_draw) .none kV19 dc19 pm19 an19 cd19 ct19), sl19⟩) (c19 : PySem.W.codeIn K cd19 "_law_draw" = true) (k19 : PySem.W.keepIn K (.ref f19) = true)
    (a20 : PySem.W.nsIn K mainGlobals "_law_alike" = some (some (.ref f20))) (l20 : K.lookup f20 = some ⟨oc20, od20, .func (PySem.W.fnOf "_law_alike" "_law_alike" (defArgs s_law_alike) (defBody s_law_alike) (defScope s_law_alike) .none kV20 dc20 pm20 an20 cd20 ct20), sl20⟩) (c20 : PySem.W.codeIn K cd20 "_law_alike" = true) (k20 : PySem.W.keepIn K (.ref f20) = true)
    (a21 : PySem.W.nsIn K mainGlobals "_law_seating" = some (some (.ref f21))) (l21 : K.lookup f21 = some ⟨oc21, od21, .func (PySem.W.fnOf "_law_seating" "_law_seating" (defArgs s_law_seating) (defBody s_law_seating) (defScope s_law_seating) .none kV21 dc21 pm21 an21 cd21 ct21), sl21⟩) (c21 : PySem.W.codeIn K cd21 "_law_seating" = true) (k21 : PySem.W.keepIn K (.ref f21) = true)
    (a22 : PySem.W.nsIn K mainGlobals "_law_tables" = some (some (.ref f22))) (l22 : K.lookup f22 = some ⟨oc22, od22, .func (PySem.W.fnOf "_law_tables" "_law_tables" (defArgs s_law_tables) (defBody s_law_tables) (defScope s_law_tables) .none kV22 dc22 pm22 an22 cd22 ct22), sl22⟩) (c22 : PySem.W.codeIn K cd22 "_law_tables" = true) (k22 : PySem.W.keepIn K (.ref f22) = true)
    (a23 : PySem.W.nsIn K mainGlobals "_law_multiple" = some (some (.ref f23))) (l23 : K.lookup f23 = some ⟨oc23, od23, .func (PySem.W.fnOf "_law_multiple" "_law_multiple" (defArgs s_law_multiple) (defBody s_law_multiple) (defScope s_law_multiple) .none kV23 dc23 pm23 an23 cd23 ct23), sl23⟩) (c23 : PySem.W.codeIn K cd23 "_law_multiple" = true) (k23 : PySem.W.keepIn K (.ref f23) = true)
    (a24 : PySem.W.nsIn K mainGlobals "_law_parts" = some (some (.ref f24))) (l24 : K.lookup f24 = some ⟨oc24, od24, .func (PySem.W.fnOf "_law_parts" "_law_parts" (defArgs s_law_parts) (defBody s_law_parts) (defScope s_law_parts) .none kV24 dc24 pm24 an24 cd24 ct24), sl24⟩) (c24 : PySem.W.codeIn K cd24 "_law_parts" = true) (k24 : PySem.W.keepIn K (.ref f24) = true)
    (a25 : PySem.W.nsIn K mainGlobals "_law_ways" = some (some (.ref f25))) (l25 : K.lookup f25 = some ⟨oc25, od25, .func (PySem.W.fnOf "_law_ways" "_law_ways" (defArgs s_law_ways) (defBody s_law_ways) (defScope s_law_ways) .none kV25 dc25 pm25 an25 cd25 ct25), sl25⟩) (c25 : PySem.W.codeIn K cd25 "_law_ways" = true) (k25 : PySem.W.keepIn K (.ref f25) = true)
    (a26 : PySem.W.nsIn K mainGlobals "_law_least" = some (some (.ref f26))) (l26 : K.lookup f26 = some ⟨oc26, od26, .func (PySem.W.fnOf "_law_least" "_law_least" (defArgs s_law_least) (defBody s_law_least) (defScope s_law_least) .none kV26 dc26 pm26 an26 cd26 ct26), sl26⟩) (c26 : PySem.W.codeIn K cd26 "_law_least" = true) (k26 : PySem.W.keepIn K (.ref f26) = true)
    (a27 : PySem.W.nsIn K mainGlobals "law" = some (some (.ref f27))) (l27 : K.lookup f27 = some ⟨oc27, od27, .func (PySem.W.fnOf "law" "law" (defArgs s_law) (defBody s_law) (defScope s_law) .none kV27 dc27 pm27 an27 cd27 ct27), sl27⟩) (c27 : PySem.W.codeIn K cd27 "law" = true) (k27 : PySem.W.keepIn K (.ref f27) = true)
    (z_abs : PySem.W.nsIn K mainGlobals "abs" = some none)
    (z_all : PySem.W.nsIn K mainGlobals "all" = some none)
    (z_bool : PySem.W.nsIn K mainGlobals "bool" = some none)
    (z_enumerate : PySem.W.nsIn K mainGlobals "enumerate" = some none)
    (z_int : PySem.W.nsIn K mainGlobals "int" = some none)
    (z_isinstance : PySem.W.nsIn K mainGlobals "isinstance" = some none)
    (z_len : PySem.W.nsIn K mainGlobals "len" = some none)
    (z_list : PySem.W.nsIn K mainGlobals "list" = some none)
    (z_max : PySem.W.nsIn K mainGlobals "max" = some none)
    (z_min : PySem.W.nsIn K mainGlobals "min" = some none)
    (z_range : PySem.W.nsIn K mainGlobals "range" = some none)
    (z_set : PySem.W.nsIn K mainGlobals "set" = some none)
    (z_sorted : PySem.W.nsIn K mainGlobals "sorted" = some none)
    (z_str : PySem.W.nsIn K mainGlobals "str" = some none)
    (z_sum : PySem.W.nsIn K mainGlobals "sum" = some none)
    (z_tuple : PySem.W.nsIn K mainGlobals "tuple" = some none)
    (z_type : PySem.W.nsIn K mainGlobals "type" = some none)
    (y_MOST_GUESTS : PySem.W.nsIn K mainGlobals "MOST_GUESTS" = some (some (.int 20 t_MOST_GUESTS)))
    (y_MOST_PERIOD : PySem.W.nsIn K mainGlobals "MOST_PERIOD" = some (some (.int 1000000000 t_MOST_PERIOD)))
    (x_lcm : PySem.W.nsIn K mainGlobals "lcm" = some (some (.builtin "math.lcm")))
    (x_perm : PySem.W.nsIn K mainGlobals "perm" = some (some (.builtin "math.perm")))
    : ∃ fd : FuncData, (∀ (s : Shared) (v : Value), BindsTo s fd ⟨[v], []⟩ [("script", v)]) ∧ ∀ base : Heap, K.In base → base.Ns mainGlobals mg → FnOk l.prog w K mg base CX0 30 fa fd ["script"] (sp_law K) := by
  have e := hfa.symm.trans (PySem.W.mg_of X G a27)
  cases e
  have F1 := fun_mk (st := s_is_whole) l1 c1 k1
  have F2 := fun_mk (st := s_is_within) l2 c2 k2
  have F3 := fun_mk (st := s_is_order) l3 c3 k3
  have F4 := fun_mk (st := s_check_guests) l4 c4 k4
  have F5 := fun_mk (st := s_check_number) l5 c5 k5
  have F6 := fun_mk (st := s_check_any_number) l6 c6 k6
  have F7 := fun_mk (st := s_is_seating) l7 c7 k7
  have F8 := fun_mk (st := s_tables_of) l8 c8 k8
  have F9 := fun_mk (st := s_check_seating) l9 c9 k9
  have F10 := fun_mk (st := s_walk_left) l10 c10 k10
  have F11 := fun_mk (st := s_tables_among) l11 c11 k11
  have F12 := fun_mk (st := s_power) l12 c12 k12
  have F13 := fun_mk (st := s_period_of) l13 c13 k13
  have F14 := fun_mk (st := s_period_counts) l14 c14 k14
  have F15 := fun_mk (st := s_least_guests) l15 c15 k15
  have F16 := fun_mk (st := s_prime_powers) l16 c16 k16
  have F17 := fun_mk (st := s_law_bag) l17 c17 k17
  have F18 := fun_mk (st := s_law_stirred) l18 c18 k18
  have F19 := fun_mk (st := s_law_draw) l19 c19 k19
  have F20 := fun_mk (st := s_law_alike) l20 c20 k20
  have F21 := fun_mk (st := s_law_seating) l21 c21 k21
  have F22 := fun_mk (st := s_law_tables) l22 c22 k22
  have F23 := fun_mk (st := s_law_multiple) l23 c23 k23
  have F24 := fun_mk (st := s_law_parts) l24 c24 k24
  have F25 := fun_mk (st := s_law_ways) l25 c25 k25
  have F26 := fun_mk (st := s_law_least) l26 c26 k26
  have F27 := fun_mk (st := s_law) l27 c27 k27
  let T : Tx K mg :=
    { f_is_whole := f1, d_is_whole := _, F_is_whole := F1, g_is_whole := PySem.W.mg_of X G a1, b_is_whole := F1.binds (ps := ["thing"]) fun _ _ _ _ _ _ us hl => match us, hl with | [_], _ => rfl,
      f_is_within := f2, d_is_within := _, F_is_within := F2, g_is_within := PySem.W.mg_of X G a2, b_is_within := F2.binds (ps := ["thing", "least", "most"]) fun _ _ _ _ _ _ us hl => match us, hl with | [_, _, _], _ => rfl,
      f_is_order := f3, d_is_order := _, F_is_order := F3, g_is_order := PySem.W.mg_of X G a3, b_is_order := F3.binds (ps := ["thing"]) fun _ _ _ _ _ _ us hl => match us, hl with | [_], _ => rfl,
      f_check_guests := f4, d_check_guests := _, F_check_guests := F4, g_check_guests := PySem.W.mg_of X G a4, b_check_guests := F4.binds (ps := ["guests"]) fun _ _ _ _ _ _ us hl => match us, hl with | [_], _ => rfl,
      f_check_number := f5, d_check_number := _, F_check_number := F5, g_check_number := PySem.W.mg_of X G a5, b_check_number := F5.binds (ps := ["number", "least", "most"]) fun _ _ _ _ _ _ us hl => match us, hl with | [_, _, _], _ => rfl,
      f_check_any_number := f6, d_check_any_number := _, F_check_any_number := F6, g_check_any_number := PySem.W.mg_of X G a6, b_check_any_number := F6.binds (ps := ["number"]) fun _ _ _ _ _ _ us hl => match us, hl with | [_], _ => rfl,
      f_is_seating := f7, d_is_seating := _, F_is_seating := F7, g_is_seating := PySem.W.mg_of X G a7, b_is_seating := F7.binds (ps := ["thing"]) fun _ _ _ _ _ _ us hl => match us, hl with | [_], _ => rfl,
      f_tables_of := f8, d_tables_of := _, F_tables_of := F8, g_tables_of := PySem.W.mg_of X G a8, b_tables_of := F8.binds (ps := ["seating"]) fun _ _ _ _ _ _ us hl => match us, hl with | [_], _ => rfl,
      f_check_seating := f9, d_check_seating := _, F_check_seating := F9, g_check_seating := PySem.W.mg_of X G a9, b_check_seating := F9.binds (ps := ["seating"]) fun _ _ _ _ _ _ us hl => match us, hl with | [_], _ => rfl,
      f_walk_left := f10, d_walk_left := _, F_walk_left := F10, g_walk_left := PySem.W.mg_of X G a10, b_walk_left := F10.binds (ps := ["lefts", "guest"]) fun _ _ _ _ _ _ us hl => match us, hl with | [_, _], _ => rfl,
      f_tables_among := f11, d_tables_among := _, F_tables_among := F11, g_tables_among := PySem.W.mg_of X G a11, b_tables_among := F11.binds (ps := ["lefts", "guests"]) fun _ _ _ _ _ _ us hl => match us, hl with | [_, _], _ => rfl,
      f_power := f12, d_power := _, F_power := F12, g_power := PySem.W.mg_of X G a12, b_power := F12.binds (ps := ["seating", "number"]) fun _ _ _ _ _ _ us hl => match us, hl with | [_, _], _ => rfl,
      f_period_of := f13, d_period_of := _, F_period_of := F13, g_period_of := PySem.W.mg_of X G a13, b_period_of := F13.binds (ps := ["seating"]) fun _ _ _ _ _ _ us hl => match us, hl with | [_], _ => rfl,
      f_period_counts := f14, d_period_counts := _, F_period_counts := F14, g_period_counts := PySem.W.mg_of X G a14, b_period_counts := F14.binds (ps := ["guests"]) fun _ _ _ _ _ _ us hl => match us, hl with | [_], _ => rfl,
      f_least_guests := f15, d_least_guests := _, F_least_guests := F15, g_least_guests := PySem.W.mg_of X G a15, b_least_guests := F15.binds (ps := ["period"]) fun _ _ _ _ _ _ us hl => match us, hl with | [_], _ => rfl,
      f_prime_powers := f16, d_prime_powers := _, F_prime_powers := F16, g_prime_powers := PySem.W.mg_of X G a16, b_prime_powers := F16.binds (ps := ["number"]) fun _ _ _ _ _ _ us hl => match us, hl with | [_], _ => rfl,
      f_law_bag := f17, d_law_bag := _, F_law_bag := F17, g_law_bag := PySem.W.mg_of X G a17, b_law_bag := F17.binds (ps := ["script"]) fun _ _ _ _ _ _ us hl => match us, hl with | [_], _ => rfl,
      f_law_stirred := f18, d_law_stirred := _, F_law_stirred := F18, g_law_stirred := PySem.W.mg_of X G a18, b_law_stirred := F18.binds (ps := ["bag", "wide"]) fun _ _ _ _ _ _ us hl => match us, hl with | [_, _], _ => rfl,
      f_law_draw := f19, d_law_draw := _, F_law_draw := F19, g_law_draw := PySem.W.mg_of X G a19, b_law_draw := F19.binds (ps := ["bag", "wide"]) fun _ _ _ _ _ _ us hl => match us, hl with | [_, _], _ => rfl,
      f_law_alike := f20, d_law_alike := _, F_law_alike := F20, g_law_alike := PySem.W.mg_of X G a20, b_law_alike := F20.binds (ps := ["found", "due"]) fun _ _ _ _ _ _ us hl => match us, hl with | [_, _], _ => rfl,
      f_law_seating := f21, d_law_seating := _, F_law_seating := F21, g_law_seating := PySem.W.mg_of X G a21, b_law_seating := F21.binds (ps := ["bag", "wide"]) fun _ _ _ _ _ _ us hl => match us, hl with | [_, _], _ => rfl,
      f_law_tables := f22, d_law_tables := _, F_law_tables := F22, g_law_tables := PySem.W.mg_of X G a22, b_law_tables := F22.binds (ps := ["some"]) fun _ _ _ _ _ _ us hl => match us, hl with | [_], _ => rfl,
      f_law_multiple := f23, d_law_multiple := _, F_law_multiple := F23, g_law_multiple := PySem.W.mg_of X G a23, b_law_multiple := F23.binds (ps := ["row"]) fun _ _ _ _ _ _ us hl => match us, hl with | [_], _ => rfl,
      f_law_parts := f24, d_law_parts := _, F_law_parts := F24, g_law_parts := PySem.W.mg_of X G a24, b_law_parts := F24.binds (ps := ["left", "most"]) fun _ _ _ _ _ _ us hl => match us, hl with | [_, _], _ => rfl,
      f_law_ways := f25, d_law_ways := _, F_law_ways := F25, g_law_ways := PySem.W.mg_of X G a25, b_law_ways := F25.binds (ps := ["row"]) fun _ _ _ _ _ _ us hl => match us, hl with | [_], _ => rfl,
      f_law_least := f26, d_law_least := _, F_law_least := F26, g_law_least := PySem.W.mg_of X G a26, b_law_least := F26.binds (ps := ["period_here"]) fun _ _ _ _ _ _ us hl => match us, hl with | [_], _ => rfl,
      f_law := fa, d_law := _, F_law := F27, g_law := PySem.W.mg_of X G a27, b_law := F27.binds (ps := ["script"]) fun _ _ _ _ _ _ us hl => match us, hl with | [_], _ => rfl,
      m_abs := PySem.W.mg_none_of X G z_abs,
      m_all := PySem.W.mg_none_of X G z_all,
      m_bool := PySem.W.mg_none_of X G z_bool,
      m_enumerate := PySem.W.mg_none_of X G z_enumerate,
      m_int := PySem.W.mg_none_of X G z_int,
      m_isinstance := PySem.W.mg_none_of X G z_isinstance,
      m_len := PySem.W.mg_none_of X G z_len,
      m_list := PySem.W.mg_none_of X G z_list,
      m_max := PySem.W.mg_none_of X G z_max,
      m_min := PySem.W.mg_none_of X G z_min,
      m_range := PySem.W.mg_none_of X G z_range,
      m_set := PySem.W.mg_none_of X G z_set,
      m_sorted := PySem.W.mg_none_of X G z_sorted,
      m_str := PySem.W.mg_none_of X G z_str,
      m_sum := PySem.W.mg_none_of X G z_sum,
      m_tuple := PySem.W.mg_none_of X G z_tuple,
      m_type := PySem.W.mg_none_of X G z_type,
      c_MOST_GUESTS := ⟨_, PySem.W.mg_of X G y_MOST_GUESTS, ⟨_, rfl⟩⟩,
      c_MOST_PERIOD := ⟨_, PySem.W.mg_of X G y_MOST_PERIOD, ⟨_, rfl⟩⟩,
      i_lcm := PySem.W.mg_of X G x_lcm,
      i_perm := PySem.W.mg_of X G x_perm,
      kb_least_guests_0_period := ⟨(fun s us ws _ hl => match us, ws, hl with | [], [_], _ => .of_eq rfl | (_ :: _), _, hl => absurd (show (0 : Nat) = 1 from hl) (by decide) | [], [], hl => absurd (show (0 : Nat) = 1 from hl) (by decide) | [], (_ :: (_ :: _)), hl => absurd (show (0 : Nat) = 1 from hl) (by decide)), (fun {vs us zs ws} r z => match r, z with | .nil, (.cons b0 .nil) => (.cons b0 .nil) | (.cons _ _), _ => .nil | .nil, .nil => .nil | .nil, (.cons _ (.cons _ _)) => .nil)⟩,
      kb_period_counts_0_guests := ⟨(fun s us ws _ hl => match us, ws, hl with | [], [_], _ => .of_eq rfl | (_ :: _), _, hl => absurd (show (0 : Nat) = 1 from hl) (by decide) | [], [], hl => absurd (show (0 : Nat) = 1 from hl) (by decide) | [], (_ :: (_ :: _)), hl => absurd (show (0 : Nat) = 1 from hl) (by decide)), (fun {vs us zs ws} r z => match r, z with | .nil, (.cons b0 .nil) => (.cons b0 .nil) | (.cons _ _), _ => .nil | .nil, .nil => .nil | .nil, (.cons _ (.cons _ _)) => .nil)⟩ }
  exact ⟨PySem.W.fnOf "law" "law" (defArgs s_law) (defBody s_law) (defScope s_law) .none kV27 dc27 pm27 an27 cd27 ct27, fun s v => .of_eq rfl, fun base _ _ => ok_law T⟩
end K48
open PySem PySem.W PyProof.Rows
set_option maxRecDepth 100000 in
set_option maxHeartbeats 0 in
theorem PySem.Challenge.cw_newtables_k48_periods_holds : PySem.Challenge.rw_newtables_k48_periods.Holds := by
  w_on; o_law; k_head; (case hw => w_witness2)
  k_fill
  refine L2.walk_of (l := PySem.Challenge.rw_newtables_k48_periods) (n := 63) (k := 30) (x := "script") (CX := fun _ => L2.CX0) (sp := fun w => K48.sp_law _) rfl (by decide) rfl ⟨rfl, by decide, by decide⟩ (fun w h Y => PySem.W.kIn_of Y) ?F (fun _ _ a ns hl _ hS => ⟨a, ns, rfl, hS, hl, fun _ => rfl⟩) (fun _ _ _ _ _ h => h)
  case F =>
    intro w mg fa h KX G hmg
    refine' K48.all_mk KX G hmg ?a1 ?l1 ?c1 ?k1 ?a2 ?l2 ?c2 ?k2 ?a3 ?l3 ?c3 ?k3 ?a4 ?l4 ?c4 ?k4 ?a5 ?l5 ?c5 ?k5 ?a6 ?l6 ?c6 ?k6 ?a7 ?l7 ?c7 ?k7 ?a8 ?l8 ?c8 ?k8 ?a9 ?l9 ?c9 ?k9 ?a10 ?l10 ?c10 ?k10 ?a11 ?l11 ?c11 ?k11 ?a12 ?l12 ?c12 ?k12 ?a13 ?l13 ?c13 ?k13 ?a14 ?l14 ?c14 ?k14 ?a15 ?l15 ?c15 ?k15 ?a16 ?l16 ?c16 ?k16 ?a17 ?l17 ?c17 ?k17 ?a18 ?l18 ?c18 ?k18 ?a19 ?l19 ?c19 ?k19 ?a20 ?l20 ?c20 ?k20 ?a21 ?l21 ?c21 ?k21 ?a22 ?l22 ?c22 ?k22 ?a23 ?l23 ?c23 ?k23 ?a24 ?l24 ?c24 ?k24 ?a25 ?l25 ?c25 ?k25 ?a26 ?l26 ?c26 ?k26 ?a27 ?l27 ?c27 ?k27 ?z_abs ?z_all ?z_bool ?z_enumerate ?z_int ?z_isinstance ?z_len ?z_list ?z_max ?z_min ?z_range ?z_set ?z_sorted ?z_str ?z_sum ?z_tuple ?z_type ?y_MOST_GUESTS ?y_MOST_PERIOD ?x_lcm ?x_perm
    (case a1 => k_is); (case l1 => k_is); (case c1 => k_is); (case k1 => k_is); (case a2 => k_is); (case l2 => k_is)
    (case c2 => k_is); (case k2 => k_is); (case a3 => k_is); (case l3 => k_is); (case c3 => k_is); (case k3 => k_is)
    (case a4 => k_is); (case l4 => k_is); (case c4 => k_is); (case k4 => k_is); (case a5 => k_is); (case l5 => k_is)
    (case c5 => k_is); (case k5 => k_is); (case a6 => k_is); (case l6 => k_is); (case c6 => k_is); (case k6 => k_is)
    (case a7 => k_is); (case l7 => k_is); (case c7 => k_is); (case k7 => k_is); (case a8 => k_is); (case l8 => k_is)
    (case c8 => k_is); (case k8 => k_is); (case a9 => k_is); (case l9 => k_is); (case c9 => k_is); (case k9 => k_is)
    (case a10 => k_is); (case l10 => k_is); (case c10 => k_is); (case k10 => k_is); (case a11 => k_is); (case l11 => k_is)
    (case c11 => k_is); (case k11 => k_is); (case a12 => k_is); (case l12 => k_is); (case c12 => k_is); (case k12 => k_is)
    (case a13 => k_is); (case l13 => k_is); (case c13 => k_is); (case k13 => k_is); (case a14 => k_is); (case l14 => k_is)
    (case c14 => k_is); (case k14 => k_is); (case a15 => k_is); (case l15 => k_is); (case c15 => k_is); (case k15 => k_is)
    (case a16 => k_is); (case l16 => k_is); (case c16 => k_is); (case k16 => k_is); (case a17 => k_is); (case l17 => k_is)
    (case c17 => k_is); (case k17 => k_is); (case a18 => k_is); (case l18 => k_is); (case c18 => k_is); (case k18 => k_is)
    (case a19 => k_is); (case l19 => k_is); (case c19 => k_is); (case k19 => k_is); (case a20 => k_is); (case l20 => k_is)
    (case c20 => k_is); (case k20 => k_is); (case a21 => k_is); (case l21 => k_is); (case c21 => k_is); (case k21 => k_is)
    (case a22 => k_is); (case l22 => k_is); (case c22 => k_is); (case k22 => k_is); (case a23 => k_is); (case l23 => k_is)
    (case c23 => k_is); (case k23 => k_is); (case a24 => k_is); (case l24 => k_is); (case c24 => k_is); (case k24 => k_is)
    (case a25 => k_is); (case l25 => k_is); (case c25 => k_is); (case k25 => k_is); (case a26 => k_is); (case l26 => k_is)
    (case c26 => k_is); (case k26 => k_is); (case a27 => k_is); (case l27 => k_is); (case c27 => k_is); (case k27 => k_is)
    (case z_abs => k_is); (case z_all => k_is); (case z_bool => k_is); (case z_enumerate => k_is); (case z_int => k_is); (case z_isinstance => k_is)
    (case z_len => k_is); (case z_list => k_is); (case z_max => k_is); (case z_min => k_is); (case z_range => k_is); (case z_set => k_is)
    (case z_sorted => k_is); (case z_str => k_is); (case z_sum => k_is); (case z_tuple => k_is); (case z_type => k_is); (case y_MOST_GUESTS => k_is)
    (case y_MOST_PERIOD => k_is); (case x_lcm => k_is); (case x_perm => k_is)