import PyProof.Rows.All
import Wide.All
import OpenK.AllK
import Wide.FinOn
import PyProof.TypeEq
import HandS.ForMost
import HandS.Evl
import HandS.Wide
import HandS.WideBits
import HandS.Gcd
import HandS.Codes
import HandS.Conv
import HandS.IsInst
import HandS.More
import HandS.Walk
import HandS.Style
import PyProof.InstEq
import HandS.Sort
import KE.DataMinMax
import KE.GoesEnum
import KE.GoesMore
import HandS.Iter
import HandS.WordsDict
import PyProof.ReprLen
import PyProof.Rows.RegStrFacts
import KE.KMathGC
import HandS.RevRange
import HandS.Deep
import HandS.Exc
import HandS.ExcOwn
import HandS.ExcCtx
import HandS.HotCalls
import HandS.ExcIs
import HandS.FStr
import HandS.RaiseMore
import HandS.Defaults
import HandS.CallSlots
import PySem.Challenge.RW_newtables_k45_errors_of_leaving
set_option Elab.async false
set_option linter.all false
set_option maxRecDepth 100000
set_option maxHeartbeats 4000000
namespace Kit
open PySem PySem.Spec PyProof.Rows L2 Evl
/-! rules that the layer lacks -/
section
variable {X : Cx} {a b c d : Expr} {ta tb tc td : TE} {pos : Pos}
def CPowX (i j : Int) : Prop := 0 ≤ j ∧ (Builtin.Int.intBits i : Int) * j ≤ 2 ^ 27
theorem op_powX : OpR X (binaryOp .Pow) (rI CPowX fun i j => .int (i ^ j.toNat)) := opI fun _ _ _ _ _ _ _ hc q => pow_int hc.1 hc.2 q
/-- the types that are compared by == -/
def Meta (n : String) : Prop := ∀ s : Shared, s.TypeIs (.type n) "type"
def rEqTy : R2 := fun x y H Q => ∃ m n, x = .ty m ∧ y = .ty n ∧ Meta m ∧ Meta n ∧ Q (.bl (decide (m = n))) H
theorem op_eqTy : OpR X (compareOp .Eq) rEqTy := by
  intro pins s σ H x y v u Q I rx ry h
  obtain ⟨m, n, rfl, rfl, hm, hn, q⟩ := h
  cases (show v = Value.type m from rx)
  cases (show u = Value.type n from ry)
  by_cases e : m = n
  · subst e
    exact PySem.TypeEq.eq_type_same hm ⟨.bl true, H, I, rfl, by simpa using q⟩
  · exact PySem.TypeEq.eq_type_other hm hn (by rw [beq_eq_false_iff_ne]; exact fun z => e (Value.type.inj z)) ⟨.bl false, H, I, rfl, by simpa [e] using q⟩
/-- a op b op c op d -/
def tChain3 (r r' r'' : R2) (ta tb tc td : TE) : TE := fun σ H Q => ta σ H fun x H1 => tb σ H1 fun y H2 => r x y H2 fun z H3 => ∃ k, z = .bl k ∧
  (if k = true then tc σ H3 fun w' H4 => r' y w' H4 fun z' H5 => ∃ k', z' = .bl k' ∧ (if k' = true then td σ H5 fun w'' H6 => r'' w' w'' H6 Q else Q (.bl false) H5) else Q (.bl false) H3)
theorem pe_chain3 {op op' op'' : CmpOp} {r r' r'' : R2} (ho : OpR X (compareOp op) r) (ho' : OpR X (compareOp op') r') (ho'' : OpR X (compareOp op'') r'') (ha : PE X a ta) (hb : PE X b tb) (hc : PE X c tc) (hd : PE X d td)
    (hm : lastMarks [op, op', op''] [b, c, d] = false := by with_unfolding_all rfl) : PE X (.Compare a [op, op', op''] [b, c, d] pos) (tChain3 r r' r'' ta tb tc td) := by
  refine ⟨fun pins s σ H Q I h => ?_⟩
  refine Compare_chain (thn (ha.run pins s σ H _ I h) fun v s1 ⟨x, H1, I1, r1, q1⟩ => chain_link (thn (hb.run pins s1 σ H1 _ I1 q1) fun u s2 ⟨y, H2, I2, r2, q2⟩ =>
    thn (ho pins s2 σ H2 x y v u _ I2 r1 r2 q2) fun d s3 ⟨z, H3, I3, r3, k, e, q3⟩ => ?_)) hm
  subst e
  cases r3
  refine wpAny_truthy_bool ?_
  cases k with
  | false => exact ite_ff ⟨.bl false, H3, I3, rfl, q3⟩
  | true =>
    refine ite_tt (chain_link (thn (hc.run pins s3 σ H3 _ I3 q3) fun w' s4 ⟨z', H4, I4, r4, q4⟩ => thn (ho' pins s4 σ H4 y z' u w' _ I4 r2 r4 q4) fun d' s5 ⟨z5, H5, I5, r5, k5, e5, q5⟩ => ?_))
    subst e5
    cases r5
    refine wpAny_truthy_bool ?_
    cases k5 with
    | false => exact ite_ff ⟨.bl false, H5, I5, rfl, q5⟩
    | true => exact ite_tt (chain_last (thn (hd.run pins s5 σ H5 _ I5 q5) fun w6 s6 ⟨z6, H6, I6, r6, q6⟩ => ho'' pins s6 σ H6 z' z6 w' w6 Q I6 r4 r6 q6))
theorem pt_chain3 {op op' op'' : CmpOp} {r r' r'' : R2} (ho : OpR X (compareOp op) r) (ho' : OpR X (compareOp op') r') (ho'' : OpR X (compareOp op'') r'') (ha : PE X a ta) (hb : PE X b tb) (hc : PE X c tc) (hd : PE X d td)
    (hm : lastMarks [op, op', op''] [b, c, d] = false := by with_unfolding_all rfl) : PT X (.Compare a [op, op', op''] [b, c, d] pos) (tTest (tChain3 r r' r'' ta tb tc td)) := by
  refine ⟨fun pins s σ H Q I h => ?_⟩
  refine isTrue_chain (thn (ha.run pins s σ H _ I h) fun v s1 ⟨x, H1, I1, r1, q1⟩ => test_link (thn (hb.run pins s1 σ H1 _ I1 q1) fun u s2 ⟨y, H2, I2, r2, q2⟩ =>
    thn (ho pins s2 σ H2 x y v u _ I2 r1 r2 q2) fun d s3 ⟨z, H3, I3, r3, k, e, q3⟩ => ?_)) hm
  subst e
  cases r3
  refine wpAny_truthy_bool ?_
  cases k with
  | false =>
    obtain ⟨k', e', q'⟩ := q3
    cases e'
    exact ite_ff ⟨H3, I3, q'⟩
  | true =>
    refine ite_tt (test_link (thn (hc.run pins s3 σ H3 _ I3 q3) fun w' s4 ⟨z', H4, I4, r4, q4⟩ => thn (ho' pins s4 σ H4 y z' u w' _ I4 r2 r4 q4) fun d' s5 ⟨z5, H5, I5, r5, k5, e5, q5⟩ => ?_))
    subst e5
    cases r5
    refine wpAny_truthy_bool ?_
    cases k5 with
    | false =>
      obtain ⟨k', e', q'⟩ := q5
      cases e'
      exact ite_ff ⟨H5, I5, q'⟩
    | true =>
      refine ite_tt (test_last (thn (hd.run pins s5 σ H5 _ I5 q5) fun w6 s6 ⟨z6, H6, I6, r6, q6⟩ => thn (ho'' pins s6 σ H6 z' z6 w' w6 _ I6 r4 r6 q6) fun d7 s7 ⟨z7, H7, I7, r7, k7, e7, q7⟩ => ?_))
      subst e7
      cases r7
      exact wpAny_truthy_bool ⟨H7, I7, q7⟩
end
/-! f(k = v, ..): keywords alone -/
section
variable {X : Cx} {CX : CXT} {k : Nat} {f C : Addr} {fd : FuncData} {ps ks : List Str} {sp : Sp} {E : XK} {x m : Str} {p pos apos kpos : Pos} {kws : List Keyword} {tk : TA}
variable {g : List Value → List Value → List Value} {gV : List V → List V → List V}
theorem pe_callK0 (F : FnOk X.prog X.w X.K X.mg X.base CX k f fd ps sp) (hr : Room k X.A) (hg : Gl X x) (hm : X.mg x = some (.ref f)) (hk : PySem.W.keepIn X.K (.ref f) = true) (hb : KBinds X.K fd ps ks g gV) (hx : Passes CX X E)
    (hkw : PK X kws tk) (hall : (backToKw pos (keywordEach kws X.env)).all (·.1.isSome) = true := by rfl) (hks : (backToKw pos (keywordEach kws X.env)).filterMap (·.1) = ks := by rfl)
    (hdb : (x == ("__debug__" : Str)) = false := by decide)
    (hpl : ((backTo pos (starEach [] X.env)).any (·.1) || (backToKw pos (keywordEach kws X.env)).any (·.1.isNone)) = false := by rfl) :
    PE X (.Call (.Name x p) [] kws pos) (tCallK sp gV E tNil tk) := by
  refine ⟨fun pins s σ H Q I h => ?_⟩
  refine wpAny_Call_Name_kw (ld_glob I hg hm ?_ hdb)
  refine PySem.W.callWith_KW0 (h₀ := X.base) I.ok.mod.kin hk hall ?_ hpl
  refine thn (hkw.run pos pins s σ H _ I h) fun ws s2 ⟨zs, H2, I2, rz, q2⟩ => ⟨I2.kIn, ?_⟩
  rw [hks]
  exact run_fnk F hr hb hx I2 (us := []) (vs := []) .nil rz q2
end
theorem pe_gc {X : Cx} {x : Str} {pos : Pos} {v : V} (hg : Gl X x) (h : ∃ u, X.mg x = some u ∧ RelV v u) (hd : (x == ("__debug__" : Str)) = false := by decide) : PE X (.Name x pos) (tC v) := by
  obtain ⟨u, hm, r⟩ := h
  exact pe_glob hg hm r hd
/-! built-ins by name, with readings that have names -/
section
variable {X : Cx}
def rAbs : List V → Hp → VK → Prop := fun xs H Q => ∃ i, xs = [.int i] ∧ Q (.int (if i < 0 then -i else i)) H
def rMin2 : List V → Hp → VK → Prop := fun xs H Q => ∃ i j, xs = [.int i, .int j] ∧ Q (.int (if j < i then j else i)) H
def rIntI : List V → Hp → VK → Prop := fun xs H Q => ∃ i, xs = [.int i] ∧ Q (.int i) H
def rIntB : List V → Hp → VK → Prop := fun xs H Q => ∃ b, xs = [.bl b] ∧ Q (.int (if b then 1 else 0)) H
theorem call_absR : CallR X (.builtin "abs") rAbs := call_abs
theorem call_maxR (hc : X.calm = true) : CallR X (.builtin "max") rMax2 := call_max2 hc
theorem call_minR (hc : X.calm = true) : CallR X (.builtin "min") rMin2 := call_min2 hc
theorem call_intI : CallR X (.type "int") rIntI := by
  intro pins s σ H xs us Q I r h
  obtain ⟨i, e, q⟩ := h
  exact call_int1 pins s σ H xs us Q I r (.inl ⟨i, e, q⟩)
theorem call_intB : CallR X (.type "int") rIntB := by
  intro pins s σ H xs us Q I r h
  obtain ⟨i, e, q⟩ := h
  exact call_int1 pins s σ H xs us Q I r (.inr ⟨i, e, q⟩)
theorem call_lenR : CallR X (.builtin "len") (rLenS X.K) := call_len_seq
theorem call_listR : CallR X (.type "list") (rListS X.K) := call_list_of
def rTupS (K : PySem.W.Frag) : List V → Hp → VK → Prop := fun xs H Q => ∃ p ys, xs = [.ref p] ∧ SqL K H p ys ∧ ∀ l, H l = none → Q (.ref l) (upd H l (.tup ys))
theorem call_tupR : CallR X (.type "tuple") (rTupS X.K) := by
  intro pins s σ H xs us Q I r h
  obtain ⟨p, ys, e, hs, q⟩ := h
  exact call_tuple_of pins s σ H xs us Q I r ⟨p, ys, e, .inl ⟨hs, q⟩⟩
def rIsN1 : R2 := fun x y H Q => y = .non ∧ Q (.bl (decide (x = .non))) H
def rNotN1 : R2 := fun x y H Q => y = .non ∧ Q (.bl (!decide (x = .non))) H
theorem op_isNR : OpR X (compareOp .Is) rIsN1 := op_isN
theorem op_notNR : OpR X (compareOp .IsNot) rNotN1 := op_notN
end
/-! evaluations of these -/
section
variable {K : PySem.W.Frag} {σ : L2.St} {H H' : Hp} {ta tb tc td te : TE} {x y z v : V} {r : R2} {i j : Int}
theorem ev_abs (h : Ev ta σ H (.int i)) : Ev (tCB rAbs (tCons ta tNil)) σ H (.int (if i < 0 then -i else i)) := fun H1 e Q q => h H1 e _ fun H2 e2 => ⟨i, rfl, q H2 e2⟩
theorem ev_min2 (ha : Ev ta σ H (.int i)) (hb : Ev tb σ H (.int j)) : Ev (tCB rMin2 (tCons ta (tCons tb tNil))) σ H (.int (if j < i then j else i)) := fun H1 e Q q =>
  ha H1 e _ fun H2 e2 => hb H2 (e.trans e2) _ fun H3 e3 => ⟨i, j, rfl, q H3 (e2.trans e3)⟩
theorem ev_intI (h : Ev ta σ H (.int i)) : Ev (tCB rIntI (tCons ta tNil)) σ H (.int i) := fun H1 e Q q => h H1 e _ fun H2 e2 => ⟨i, rfl, q H2 e2⟩
theorem ev_intB {b : Bool} (h : Ev ta σ H (.bl b)) : Ev (tCB rIntB (tCons ta tNil)) σ H (.int (if b then 1 else 0)) := fun H1 e Q q => h H1 e _ fun H2 e2 => ⟨b, rfl, q H2 e2⟩
theorem rv_isN : RV rIsN1 x .non H (.bl (decide (x = .non))) := fun H1 _ _ q => ⟨rfl, q H1 (Ex.refl H1)⟩
theorem rv_notN : RV rNotN1 x .non H (.bl (!decide (x = .non))) := fun H1 _ _ q => ⟨rfl, q H1 (Ex.refl H1)⟩
theorem ev_chain {r r' : R2} {k : Bool} {k' : Bool} (ha : Ev ta σ H x) (hb : Ev tb σ H y) (hr : RV r x y H (.bl k)) (hc : k = true → ∃ z, Ev tc σ H z ∧ RV r' y z H (.bl k')) : Ev (tChain r r' ta tb tc) σ H (.bl (k && k')) := fun H1 e Q q =>
  ha H1 e _ fun H2 e2 => hb H2 (e.trans e2) _ fun H3 e3 => hr H3 ((e.trans e2).trans e3) _ fun H4 e4 => ⟨k, rfl, by
    cases k with
    | true =>
      obtain ⟨z, h1, h2⟩ := hc rfl
      exact h1 H4 (((e.trans e2).trans e3).trans e4) _ fun H5 e5 => h2 H5 ((((e.trans e2).trans e3).trans e4).trans e5) _ fun H6 e6 => q H6 ((((e2.trans e3).trans e4).trans e5).trans e6)
    | false => exact q H4 ((e2.trans e3).trans e4)⟩
theorem ev_chainI {C C' : Int → Int → Bool} {i j l : Int} (ha : Ev ta σ H (.int i)) (hb : Ev tb σ H (.int j)) (hc : Ev tc σ H (.int l)) :
    Ev (tChain (rI0 fun i j => .bl (C i j)) (rI0 fun i j => .bl (C' i j)) ta tb tc) σ H (.bl (C i j && C' j l)) := ev_chain ha hb rv_I0 fun _ => ⟨_, hc, rv_I0⟩
theorem ev_chain3I {C C' C'' : Int → Int → Bool} {i j l m : Int} (ha : Ev ta σ H (.int i)) (hb : Ev tb σ H (.int j)) (hc : Ev tc σ H (.int l)) (hd : Ev td σ H (.int m)) :
    Ev (tChain3 (rI0 fun i j => .bl (C i j)) (rI0 fun i j => .bl (C' i j)) (rI0 fun i j => .bl (C'' i j)) ta tb tc td) σ H (.bl (C i j && (C' j l && C'' l m))) := fun H1 e Q q =>
  ha H1 e _ fun H2 e2 => hb H2 (e.trans e2) _ fun H3 e3 => ⟨i, j, rfl, rfl, C i j, rfl, by
    have e23 := e2.trans e3
    generalize C i j = k1 at q ⊢
    cases k1 with
    | false => exact q H3 e23
    | true =>
      refine hc H3 (e.trans e23) _ fun H4 e4 => ⟨j, l, rfl, rfl, C' j l, rfl, ?_⟩
      generalize C' j l = k2 at q ⊢
      cases k2 with
      | false => exact q H4 (e23.trans e4)
      | true => exact hd H4 ((e.trans e23).trans e4) _ fun H5 e5 => ⟨l, m, rfl, rfl, q H5 ((e23.trans e4).trans e5)⟩⟩
theorem rv_eqTy {m n : String} (hm : Meta m) (hn : Meta n) : RV rEqTy (.ty m) (.ty n) H (.bl (decide (m = n))) := fun H1 _ _ q => ⟨m, n, rfl, rfl, hm, hn, q H1 (Ex.refl H1)⟩
theorem ev_typeI (h : Ev ta σ H (.int i)) : Ev (tThenZ ta kTyp) σ H (.ty "int") := fun H1 e Q q => h H1 e _ fun H2 e2 => ⟨"int", rfl, q H2 e2⟩
/-- a tuple that was made is read as two names -/
theorem s_tup2 {D : Ends} {i j : Nat} {p : Addr} (ha : Ev ta σ H (.ref p)) (hp : SqT K H p [x, y]) (k : ∀ H1, Ex H H1 → D.nx ((σ.set i (some x)).set j (some y)) H1) : tAsg ta (gTup K 2 (gCons (gName i) (gCons (gName j) gNil))) D σ H :=
  ha H (Ex.refl H) _ fun H1 e => ⟨p, [x, y], rfl, ex_t e hp, rfl, x, [y], rfl, y, [], rfl, rfl, k H1 e⟩
end
/-- a new tuple that is handed back -/
def RetU (xs : List V) (H : Hp) (Q : VK) : Prop := ∀ p H2, H p = none → Ex H H2 → H2 p = some (.tup xs) → Q (.ref p) H2
def SpU (sp : Sp) (vs : List V) (H : Hp) (xs : List V) : Prop := ∀ H1, Ex H H1 → ∀ Q : VK, (∀ p H2, H1 p = none → Ex H1 H2 → H2 p = some (.tup xs) → Q (.ref p) H2) → ∀ E : XK, sp vs H1 Q E
section
variable {K : PySem.W.Frag} {σ : L2.St} {H : Hp}
theorem eu_call {sp : Sp} {dvs vs xs : List V} {E : XK} {ta : TA} (h : EvA ta σ H vs) (hs : SpU sp (vs ++ dvs) H xs) : EvU (tCall sp dvs E ta) σ H xs := fun H1 e Q q =>
  h H1 e _ fun H2 e2 => hs H2 (e.trans e2) Q (fun p H3 hp e3 h3 => q p H3 (fresh_back e2 hp) (e2.trans e3) h3) E
/-- a, b = f(..), f's answer a new tuple -/
theorem s_tup2U {te : TE} {D : Ends} {i j : Nat} {x y : V} (ha : EvU te σ H [x, y]) (k : ∀ H1, Ex H H1 → D.nx ((σ.set i (some x)).set j (some y)) H1) : tAsg te (gTup K 2 (gCons (gName i) (gCons (gName j) gNil))) D σ H :=
  ha H (Ex.refl H) _ fun p H1 _ e h1 => ⟨p, [x, y], rfl, st_of h1, rfl, x, [y], rfl, y, [], rfl, rfl, k H1 e⟩
theorem q_tup2U {te : TE} {tz : TS} {D : Ends} {i j : Nat} {x y : V} (ha : EvU te σ H [x, y]) (k : ∀ H1, Ex H H1 → tz D ((σ.set i (some x)).set j (some y)) H1) : tSeq (tAsg te (gTup K 2 (gCons (gName i) (gCons (gName j) gNil)))) tz D σ H := s_tup2U (D := { D with nx := tz D }) ha k
theorem q_tup2 {ta : TE} {tz : TS} {D : Ends} {i j : Nat} {p : Addr} {x y : V} (ha : Ev ta σ H (.ref p)) (hp : SqT K H p [x, y]) (k : ∀ H1, Ex H H1 → tz D ((σ.set i (some x)).set j (some y)) H1) : tSeq (tAsg ta (gTup K 2 (gCons (gName i) (gCons (gName j) gNil)))) tz D σ H := s_tup2 (D := { D with nx := tz D }) ha hp k
/-- a, b = x, y -/
theorem s_par {ta : TA} {D : Ends} {i j : Nat} {x y : V} (ha : EvA ta σ H [x, y]) (k : ∀ H1, Ex H H1 → D.nx ((σ.set i (some x)).set j (some y)) H1) : tPar i j ta D σ H := ha H (Ex.refl H) _ fun H1 e => ⟨x, y, rfl, k H1 e⟩
theorem q_par {ta : TA} {tz : TS} {D : Ends} {i j : Nat} {x y : V} (ha : EvA ta σ H [x, y]) (k : ∀ H1, Ex H H1 → tz D ((σ.set i (some x)).set j (some y)) H1) : tSeq (tPar i j ta) tz D σ H := s_par (D := { D with nx := tz D }) ha k
end
theorem natAbs_pow_le {b : Int} {k : Nat} (h : b.natAbs < 2 ^ k) (n : Nat) : (b ^ n).natAbs ≤ 2 ^ (k * n) := by
  rw [Int.natAbs_pow, Nat.pow_mul]
  exact Nat.pow_le_pow_left (Nat.le_of_lt h) n
theorem lt_of_le2 {x k : Nat} (h : x ≤ 2 ^ k) : x < 2 ^ (k + 1) := Nat.lt_of_le_of_lt h (Nat.pow_lt_pow_right (by decide) (Nat.lt_succ_self k))
theorem lt2_mono {x k m : Nat} (h : x < 2 ^ k) (e : k ≤ m) : x < 2 ^ m := Nat.lt_of_lt_of_le h (Nat.pow_le_pow_right (by decide) e)
theorem natAbs_mul_lt {a b : Int} {k m : Nat} (ha : a.natAbs < 2 ^ k) (hb : b.natAbs < 2 ^ m) : (a * b).natAbs < 2 ^ (k + m) := wide_lt ha hb
/-! comprehensions -/
section
variable {K : PySem.W.Frag} {σ : L2.St} {H : Hp} {te tl : TE} {t : TT}
theorem et_yes : EvT tYes σ H true := fun H1 _ _ q => q H1 (Ex.refl H1)
theorem given_map {xs : List V} {F : V → V} : given xs.length (fun _ => true) (fun i => F (xs.getD i .non)) = xs.map F := by
  unfold given
  rw [List.filter_eq_self.mpr (fun _ _ => rfl)]
  refine List.ext_getElem (by simp) fun i h1 h2 => ?_
  simp at h1
  simp [h1]
/-- [e for x in xs] -/
theorem el_map {a : Addr} {xs : List V} {j : Nat} {vs : List Nat} (F : V → V) (h : Ev tl σ H (.ref a)) (hx : SqL K H a xs) (hz : xs.length ≤ 40000) (hw : ∀ x, wipe ((wipe σ vs).set j (some x)) vs = wipe σ vs)
    (he : ∀ (i : Nat) (x : V) H1, Ex H H1 → xs[i]? = some x → Ev te ((wipe σ vs).set j (some x)) H1 (F x)) : EvL (tLc (iList K tl) (gName j) tYes te vs) σ H (xs.map F) := by
  rw [← given_map]
  refine el_lcL _ _ h hx hz hw (fun _ _ _ _ _ => et_yes) fun i x H1 e hi _ => ?_
  have q := he i x H1 e hi
  have g : xs.getD i .non = x := by rw [List.getD_eq_getElem?_getD, hi] <;> rfl
  show Ev _ _ _ (F (xs.getD i .non))
  rw [g]
  exact q
theorem el_mapN {xs : List V} {j : Nat} {vs : List Nat} (F : V → V) (h : EvL tl σ H xs) (hz : xs.length ≤ 40000) (hw : ∀ x, wipe ((wipe σ vs).set j (some x)) vs = wipe σ vs)
    (he : ∀ (i : Nat) (x : V) H1, Ex H H1 → xs[i]? = some x → Ev te ((wipe σ vs).set j (some x)) H1 (F x)) : EvL (tLc (iList K tl) (gName j) tYes te vs) σ H (xs.map F) := by
  rw [← given_map]
  refine el_lcNL _ _ h hz hw (fun _ _ _ _ _ => et_yes) fun i x H1 e hi _ => ?_
  have q := he i x H1 e hi
  have g : xs.getD i .non = x := by rw [List.getD_eq_getElem?_getD, hi] <;> rfl
  show Ev _ _ _ (F (xs.getD i .non))
  rw [g]
  exact q
/-- [e for x in range(lo, hi) if t] -/
theorem el_lcR2 {ta : TA} {j : Nat} {vs : List Nat} {lo n : Int} (f : Nat → Bool) (v : Nat → V) (h : EvA ta σ H [.int lo, .int n]) (hn : 0 ≤ lo ∧ lo ≤ 40000 ∧ -40000 ≤ n ∧ n ≤ 40000) (hw : ∀ x, wipe ((wipe σ vs).set j (some x)) vs = wipe σ vs)
    (ht : ∀ (i : Nat) H1, Ex H H1 → lo + (i : Int) < n → EvT t ((wipe σ vs).set j (some (.int (lo + (i : Int))))) H1 (f i)) (he : ∀ (i : Nat) H1, Ex H H1 → lo + (i : Int) < n → f i = true → Ev te ((wipe σ vs).set j (some (.int (lo + (i : Int))))) H1 (v i)) :
    EvL (tLc (iRng2 ta) (gName j) t te vs) σ H (given (n - lo).toNat f v) := fun H0 e Q q => h H0 e _ fun H1 e1 => ⟨lo, n, rfl, ⟨by omega, by omega, by omega, by omega⟩, fun Dl hD =>
  lc_range (lo := lo) (n := (n - lo).toNat) (Cw H1 f v Dl) ⟨hD, Ex.new hD, upd_same⟩ (fun i H' hi p =>
    ⟨hw _, cw_turn p (by omega) (ht i H1 (e.trans e1) (by omega)) (fun hf => he i H1 (e.trans e1) (by omega) hf)⟩) (fun H' p => q Dl H' (fresh_back e1 p.1) (e1.trans p.2.1) p.2.2)⟩
theorem given_none {n : Nat} {f : Nat → Bool} {v : Nat → V} (h : ∀ i, i < n → f i = false) : given n f v = [] := by
  unfold given
  rw [List.filter_eq_nil_iff.mpr (fun i hi => by simp [h i (List.mem_range.mp hi)])]
  rfl
/-- xs + ys, both new -/
theorem el_cat {ta tb : TE} {xs ys : List V} (ha : EvL ta σ H xs) (hb : EvL tb σ H ys) (hl : xs.length + ys.length ≤ 100000) : EvL (tOp rCat ta tb) σ H (xs ++ ys) := fun H1 e Q q =>
  ha H1 e _ fun p H2 hp e2 h2 => hb H2 (e.trans e2) _ fun p' H3 hp' e3 h3 =>
    ⟨p, p', xs, ys, rfl, rfl, e3 p _ h2, h3, sz_of hl, fun l hl' => q l _ (fresh_back (e2.trans e3) hl') ((e2.trans e3).trans (Ex.new hl')) upd_same⟩
/-- [e for x, y in zip(xs, ys)] -/
theorem el_zip {ta : TA} {i j : Nat} {vs : List Nat} {a b : Addr} {xs ys : List V} (F : V → V → V) (h : EvA ta σ H [.ref a, .ref b]) (hx : SqL K H a xs) (hy : SqL K H b ys) (hl : xs.length = ys.length) (hz : xs.length ≤ 40000)
    (hw : ∀ x y, wipe (((wipe σ vs).set i (some x)).set j (some y)) vs = wipe σ vs)
    (he : ∀ (n : Nat) x y H1, Ex H H1 → xs[n]? = some x → ys[n]? = some y → Ev te (((wipe σ vs).set i (some x)).set j (some y)) H1 (F x y)) :
    EvL (tLc (iZip K ta) (gTup K 2 (gCons (gName i) (gCons (gName j) gNil))) tYes te vs) σ H (List.zipWith F xs ys) := fun H0 e Q q => h H0 e _ fun H1 e1 => ⟨a, b, xs, ys, rfl, ex_l (e.trans e1) hx, ex_l (e.trans e1) hy, fun Dl hD => by
  refine lc_it (walk_zip (n := xs.length) (by omega)) (fun n H' => Ex H1 H' ∧ H' Dl = some (.lst ((List.zipWith F xs ys).take n))) ⟨Ex.new hD, upd_same⟩ (fun n H' _ p => ⟨ex_l ((e.trans e1).trans p.1) hx, ex_l ((e.trans e1).trans p.1) hy⟩) ?_ fun H' p => ?_
  · rintro n v Hh H' hn ⟨p1, p2⟩ ⟨T, x, y, rfl, nT, rfl, g1, g2⟩
    have eT : Ex Hh (upd Hh T (.tup [x, y])) := Ex.new nT
    refine ⟨T, [x, y], rfl, st_of upd_same, rfl, x, [y], rfl, y, [], rfl, rfl, hw x y, ?_⟩
    show te _ _ _
    refine he n x y H1 (e.trans e1) g1 g2 _ (p1.trans eT) _ fun H4 e4 => ?_
    have k2 := e4 Dl _ (eT Dl _ p2)
    refine ⟨_, k2, sz_lt (by rw [List.length_take]; omega), Ex.mut (p1.trans (eT.trans e4)) hD, ?_⟩
    rw [upd_same]
    have gz : (List.zipWith F xs ys)[n]? = some (F x y) := by
      rw [List.getElem?_zipWith, show xs[n]? = some x from g1, show ys[n]? = some y from g2]
    rw [List.take_add_one, gz]
    rfl
  · obtain ⟨p1, p2⟩ := p
    rw [List.take_of_length_le (by rw [List.length_zipWith]; omega)] at p2
    exact q Dl H' (fresh_back e1 hD) (e1.trans p1) p2⟩
theorem ev_gcd {ta tb : TE} {a b : Int} (ha : Ev ta σ H (.int a)) (hb : Ev tb σ H (.int b)) : Ev (tCB rGcd (tCons ta (tCons tb tNil))) σ H (.int ((Nat.gcd a.natAbs b.natAbs : Nat) : Int)) := fun H1 e Q q =>
  ha H1 e _ fun H2 e2 => hb H2 (e.trans e2) _ fun H3 e3 => ⟨a, b, rfl, q H3 (e2.trans e3)⟩
end
/-! data, compared by == -/
section
variable {K : PySem.W.Frag} {σ : L2.St} {H H' : Hp}
mutual
theorem Dp.ex (e : Ex H H') : ∀ (d : PyData) (v : V), Dp K H v d → Dp K H' v d
  | .none, _, h => by cases h; exact .non
  | .bool _, _, h => by cases h; exact .bl _
  | .int _, _, h => by cases h; exact .int _
  | .str _, _, h => by cases h; exact .str _
  | .list ds, _, h => by
    cases h with
    | lst hs ha => exact .lst (ex_l e hs) (DpAll.ex e ds _ ha)
  | .tuple ds, _, h => by
    cases h with
    | tup hs ha => exact .tup (ex_t e hs) (DpAll.ex e ds _ ha)
  | .dict _, _, h => by cases h
theorem DpAll.ex (e : Ex H H') : ∀ (ds : List PyData) (vs : List V), DpAll K H vs ds → DpAll K H' vs ds
  | [], _, h => by cases h; exact .nil
  | d :: ds, _, h => by
    cases h with
    | cons h1 h2 => exact .cons (Dp.ex e d _ h1) (DpAll.ex e ds _ h2)
end
theorem DpAll.len : ∀ {ds : List PyData} {vs : List V}, DpAll K H vs ds → vs.length = ds.length
  | [], _, h => by cases h; rfl
  | d :: ds, _, h => by
    cases h with
    | cons h1 h2 => simp [DpAll.len h2]
def EvD (K : PySem.W.Frag) (te : TE) (σ : L2.St) (H : Hp) (d : PyData) : Prop := ∀ H1, Ex H H1 → ∀ Q : VK, (∀ v H2, Ex H1 H2 → Dp K H2 v d → Q v H2) → te σ H1 Q
def EvDA (K : PySem.W.Frag) (ta : TA) (σ : L2.St) (H : Hp) (ds : List PyData) : Prop := ∀ H1, Ex H H1 → ∀ Q : List V → Hp → Prop, (∀ vs H2, Ex H1 H2 → DpAll K H2 vs ds → Q vs H2) → ta σ H1 Q
variable {te ta tb : TE} {d e : PyData} {ds : List PyData}
theorem ed_of {v : V} (h : Ev te σ H v) (k : Dp K H v d) : EvD K te σ H d := fun H1 e1 Q q => h H1 e1 Q fun H2 e2 => q v H2 e2 (Dp.ex (e1.trans e2) d v k)
theorem ed_int {i : Int} (h : Ev te σ H (.int i)) : EvD K te σ H (.int i) := ed_of h (.int i)
theorem ed_bl {i : Bool} (h : Ev te σ H (.bl i)) : EvD K te σ H (.bool i) := ed_of h (.bl i)
theorem ed_non (h : Ev te σ H .non) : EvD K te σ H .none := ed_of h .non
theorem ed_str {i : Str} (h : Ev te σ H (.str i)) : EvD K te σ H (.str i) := ed_of h (.str i)
theorem eda_nil : EvDA K tNil σ H [] := fun H1 _ _ q => q [] H1 (Ex.refl H1) .nil
theorem eda_cons {tr : TA} (h : EvD K te σ H d) (hr : EvDA K tr σ H ds) : EvDA K (tCons te tr) σ H (d :: ds) := fun H1 e _ q =>
  h H1 e _ fun v H2 e2 dv => hr H2 (e.trans e2) _ fun vs H3 e3 dvs => q (v :: vs) H3 (e2.trans e3) (.cons (Dp.ex e3 d v dv) dvs)
theorem ed_lst {t : TA} (h : EvDA K t σ H ds) (hl : ds.length ≤ 100000) : EvD K (tLst t) σ H (.list ds) := fun H1 e _ q =>
  h H1 e _ fun vs H2 e2 dv => ⟨sz_of (by rw [DpAll.len dv]; exact hl), fun p hp => q _ _ (e2.trans (Ex.new hp)) (.lst (sq_of upd_same) (DpAll.ex (Ex.new hp) ds vs dv))⟩
theorem ed_tup {t : TA} (h : EvDA K t σ H ds) (hl : ds.length ≤ 100000) : EvD K (tTup t) σ H (.tuple ds) := fun H1 e _ q =>
  h H1 e _ fun vs H2 e2 dv => ⟨sz_of (by rw [DpAll.len dv]; exact hl), fun p hp => q _ _ (e2.trans (Ex.new hp)) (.tup (st_of upd_same) (DpAll.ex (Ex.new hp) ds vs dv))⟩
theorem ed_ofL {xs : List V} (h : EvL te σ H xs) (k : DpAll K H xs ds) : EvD K te σ H (.list ds) := fun H1 e1 Q q => h H1 e1 Q fun p H2 _ e2 h2 => q _ H2 e2 (.lst (sq_of h2) (DpAll.ex (e1.trans e2) ds xs k))
theorem ed_ofU {xs : List V} (h : EvU te σ H xs) (k : DpAll K H xs ds) : EvD K te σ H (.tuple ds) := fun H1 e1 Q q => h H1 e1 Q fun p H2 _ e2 h2 => q _ H2 e2 (.tup (st_of h2) (DpAll.ex (e1.trans e2) ds xs k))
theorem dpa_ints : ∀ ns : List Int, DpAll K H (ns.map V.int) (ns.map PyData.int)
  | [] => .nil
  | n :: r => .cons (.int n) (dpa_ints r)
theorem ev_eqD (ha : EvD K ta σ H d) (hb : EvD K tb σ H e) (sd : SeqAt.shaped d = true) (se : SeqAt.shaped e = true) : Ev (tOp (rEqD K) ta tb) σ H (.bl (PyData.eqv d e)) := fun H1 e1 Q q =>
  ha H1 e1 _ fun v H2 e2 dv => hb H2 (e1.trans e2) _ fun u H3 e3 du => ⟨d, e, Dp.ex e3 d v dv, du, sd, se, q H3 (e2.trans e3)⟩
theorem ev_neD (ha : EvD K ta σ H d) (hb : EvD K tb σ H e) (sd : SeqAt.shaped d = true) (se : SeqAt.shaped e = true) : Ev (tOp (rNeD K) ta tb) σ H (.bl (!PyData.eqv d e)) := fun H1 e1 Q q =>
  ha H1 e1 _ fun v H2 e2 dv => hb H2 (e1.trans e2) _ fun u H3 e3 du => ⟨d, e, Dp.ex e3 d v dv, du, sd, se, q H3 (e2.trans e3)⟩
theorem shaped_ints : ∀ ns : List Int, SeqAt.shaped (.list (ns.map PyData.int)) = true := fun ns => by
  have h1 : ∀ ms : List Int, PyData.canLayAll0 (ms.map PyData.int) = true := fun ms => by
    induction ms with
    | nil => rfl
    | cons m r ih => simp [PyData.canLayAll0, PyData.canLay0, ih]
  have h2 : ∀ ms : List Int, PyData.depthAll (ms.map PyData.int) = 0 := fun ms => by
    induction ms with
    | nil => rfl
    | cons m r ih => simp [PyData.depthAll, PyData.depth, ih]
  simp [SeqAt.shaped, PyData.canLay0, h1, PyData.depth, h2]
theorem eqv_same {d : PyData} (h : SeqAt.shaped d = true) : PyData.eqv d d = true := by
  have h1 : PyData.canLay0 d = true := (Bool.and_eq_true_iff.mp h).1
  first
    | exact PySem.P3.eqv_refl d h1
    | exact PyData.eqv_refl d h1
    | exact PySem.SeqAt.eqv_refl d h1
/-- f(k = v): a new tuple back -/
theorem eu_callK {sp : Sp} {gV : List V → List V → List V} {E : XK} {t tk : TA} {vs zs xs : List V} (h : EvA t σ H vs) (hk : EvA tk σ H zs) (hs : SpU sp (gV vs zs) H xs) : EvU (tCallK sp gV E t tk) σ H xs := fun H1 e Q q =>
  h H1 e _ fun H2 e2 => hk H2 (e.trans e2) _ fun H3 e3 => hs H3 ((e.trans e2).trans e3) Q (fun p H4 hp e4 h4 => q p H4 (fresh_back (e2.trans e3) hp) ((e2.trans e3).trans e4) h4) E
theorem ev_callK {sp : Sp} {gV : List V → List V → List V} {E : XK} {t tk : TA} {vs zs : List V} {z : V} (h : EvA t σ H vs) (hk : EvA tk σ H zs) (hs : SpV sp (gV vs zs) H z) : Ev (tCallK sp gV E t tk) σ H z := fun H1 e Q q =>
  h H1 e _ fun H2 e2 => hk H2 (e.trans e2) _ fun H3 e3 => hs H3 ((e.trans e2).trans e3) Q (fun H4 e4 => q H4 ((e2.trans e3).trans e4)) E
/-- isinstance(x, tuple) of a tuple; len of a tuple -/
theorem ev_isT {p : Addr} {xs : List V} {n : String} {b : Bool} (h : Ev ta σ H (.ref p)) (hp : H p = some (.tup xs)) (hk : PySem.W.kitOne K (.type "tuple") (.type n) = some b) : Ev (tCB (rIsi K) (tCons ta (tCons (tC (.ty n)) tNil))) σ H (.bl b) := fun H1 e Q q =>
  h H1 e _ fun H2 e2 => ⟨.ref p, .ty n, .type "tuple", .type n, b, rfl, .ty n, .base (.tup (e2 p _ (e p _ hp))), hk, q H2 e2⟩
theorem ev_lenT {p : Addr} {xs : List V} (ha : Ev ta σ H (.ref p)) (h : SqT K H p xs) : Ev (tCB (rLenS K) (tCons ta tNil)) σ H (.int (xs.length : Int)) := fun H1 e Q q =>
  ha H1 e _ fun H2 e2 => ⟨p, xs, rfl, Or.inr (ex_t (e.trans e2) h), q H2 e2⟩
/-- list(range(a, b)) -/
theorem el_rg2 {a b : Int} (ha : Ev ta σ H (.int a)) (hb : Ev tb σ H (.int b)) (h : RgOk a b) : EvL (tLstRg (tRg2 ta tb)) σ H (rgV a b) := fun H1 e Q q =>
  ha H1 e _ fun H2 e2 => hb H2 (e.trans e2) _ fun H3 e3 => ⟨a, b, rfl, rfl, h, fun p hp => q p _ (fresh_back (e2.trans e3) hp) ((e2.trans e3).trans (Ex.new hp)) upd_same⟩
theorem el_rg1 {b : Int} (hb : Ev tb σ H (.int b)) (h : RgOk 0 b) : EvL (tLstRg (tRg1 tb)) σ H (rgV 0 b) := fun H1 e Q q =>
  hb H1 e _ fun H3 e3 => ⟨b, rfl, h, fun p hp => q p _ (fresh_back e3 hp) (e3.trans (Ex.new hp)) upd_same⟩
end
/-! more statements -/
section
variable {K : PySem.W.Frag} {σ : L2.St} {H H' : Hp} {te tl : TE} {t : TT} {D : Ends} {tu tz : TS} {g : TG}
/-- a comprehension over range(lo, n) that keeps nothing -/
theorem el_noneR2 {ta : TA} {j : Nat} {vs : List Nat} {lo n : Int} (h : EvA ta σ H [.int lo, .int n]) (hn : 0 ≤ lo ∧ lo ≤ 40000 ∧ -40000 ≤ n ∧ n ≤ 40000) (hw : ∀ x, wipe ((wipe σ vs).set j (some x)) vs = wipe σ vs)
    (ht : ∀ (i : Nat) H1, Ex H H1 → lo + (i : Int) < n → EvT t ((wipe σ vs).set j (some (.int (lo + (i : Int))))) H1 false) : EvL (tLc (iRng2 ta) (gName j) t te vs) σ H [] := by
  have q := el_lcR2 (te := te) (fun _ => false) (fun _ => .non) h hn hw ht (fun _ _ _ _ hf => Bool.noConfusion hf)
  rw [given_none (fun _ _ => rfl)] at q
  exact q
/-- a for over a new tuple -/
theorem s_forNU {xs : List V} (h : EvU tl σ H xs) (Pv : Addr → Nat → L2.St → Hp → Prop) (h0 : ∀ p H1, H p = none → Ex H H1 → H1 p = some (.tup xs) → Pv p 0 σ H1) (hl : ∀ p i σ' H', i ≤ xs.length → Pv p i σ' H' → SqT K H' p xs)
    (hs : ∀ p i x σ' H', xs[i]? = some x → Pv p i σ' H' → g x σ' H' fun σ2 H2 => tu { D with nx := Pv p (i + 1), ct := Pv p (i + 1), bk := D.nx } σ2 H2) (hd : ∀ p σ' H', Pv p xs.length σ' H' → D.nx σ' H') : tFor (iTup K tl) g tu D σ H :=
  h H (Ex.refl H) _ fun p H1 hp e h1 => ⟨p, rfl, ⟨xs, st_of h1⟩, for_tup (Pv p) (h0 p H1 hp e h1) (hl p) (hs p) (hd p)⟩
theorem q_forNU {xs : List V} (h : EvU tl σ H xs) (Pv : Addr → Nat → L2.St → Hp → Prop) (h0 : ∀ p H1, H p = none → Ex H H1 → H1 p = some (.tup xs) → Pv p 0 σ H1) (hl : ∀ p i σ' H', i ≤ xs.length → Pv p i σ' H' → SqT K H' p xs)
    (hs : ∀ p i x σ' H', xs[i]? = some x → Pv p i σ' H' → g x σ' H' fun σ2 H2 => tu { D with nx := Pv p (i + 1), ct := Pv p (i + 1), bk := tz D } σ2 H2) (hd : ∀ p σ' H', Pv p xs.length σ' H' → tz D σ' H') : tSeq (tFor (iTup K tl) g tu) tz D σ H :=
  s_forNU (D := { D with nx := tz D }) h Pv h0 hl hs hd
theorem s_asgD {i : Nat} {d : PyData} (h : EvD K te σ H d) (k : ∀ v H1, Ex H H1 → Dp K H1 v d → D.nx (σ.set i (some v)) H1) : tAsg te (gName i) D σ H := h H (Ex.refl H) _ fun v H1 e dv => k v H1 e dv
theorem q_asgD {i : Nat} {d : PyData} (h : EvD K te σ H d) (k : ∀ v H1, Ex H H1 → Dp K H1 v d → tz D (σ.set i (some v)) H1) : tSeq (tAsg te (gName i)) tz D σ H := s_asgD (D := { D with nx := tz D }) h k
end
end Kit

set_option Elab.async false
set_option linter.all false
set_option maxRecDepth 100000
set_option maxHeartbeats 4000000
namespace Kit
open PySem PySem.Spec PyProof.Rows L2 Evl
theorem slot_type_ne : Slot "type" (cmpInfo .NotEq).2.1 "object.__ne__" :=
  .of (owner := "object") (n := "__ne__") (by rw [typeLookup_type, builtinLookup_eq_fast]; kernel_rfl) (by decide +kernel) (by decide +kernel) (by decide +kernel)
    (by first | exact .inl (by decide +kernel) | exact .inr (by decide +kernel)) (by rw [isSubtype_type]; kernel_rfl)
theorem slot_type_eqN : Slot "type" "__eq__" "object.__eq__" :=
  .of (owner := "object") (n := "__eq__") (by rw [typeLookup_type, builtinLookup_eq_fast]; kernel_rfl) (by decide +kernel) (by decide +kernel) (by decide +kernel)
    (by first | exact .inl (by decide +kernel) | exact .inr (by decide +kernel)) (by rw [isSubtype_type]; kernel_rfl)
section
variable {prog : Program} {w : World} {A : Around} {E : Value → Shared → Prop} {s : Shared} {Q : Value → Shared → Prop}
theorem ne_type_same {X : String} (hX : ∀ s' : Shared, s'.TypeIs (.type X) "type") (hu : A.units + 1 < cLine) (h : Q (.bool false) s) : wpAny (model prog w) A (compareOp .NotEq (.type X) (.type X)) Q E s := by
  show wpAny _ A (richCompare .NotEq _ _) Q E s
  refine wpAny_richCompare_same (T := "type") (hX s) (hX s) slot_type_ne ?_
  refine wpAny_call_entry slot_type_ne (hX s) PySem.F.cmpEntry_ne ?_ (PySem.F.cmpArgs_ne _ _)
  unfold Builtin.«object.__ne__»
  have key : wpAny (model prog w) A.in1 (call (.builtin "object.__eq__") [.type X, .type X]) (fun v s' => v = .bool true ∧ s' = s) E s :=
    call_gives slot_type_eqN (hX s) F.entry_object_eq (F.args_object_eq_2 _ _) (PySem.TypeEq.object_eq_same rfl (by simp)) ⟨rfl, rfl⟩
  repeat (first
    | with_reducible refine wpAny_cRoomFor (by show A.units + 1 < cLine; exact hu) ?_
    | (refine wpAny_bind (m := callSpecialIfBound? (.type X) (Str.ofString "__eq__") [.type X])
        (wpAny_callSpecialIfBound?_slot (hX _) slot_type_eqN (wpAny_mono key (fun r s' hr => by
          obtain ⟨rfl, rfl⟩ := hr
          have hq : Q (.bool false) s' := h
          repeat (first | exact ⟨_, rfl, (by intro e; cases e), hq⟩ | exact wpAny_pure ⟨_, rfl, (by intro e; cases e), hq⟩ | (refine wpAny_bind (m := truthy (.bool _)) (wpAny_truthy_bool ?_)) | wp_step)) fun _ _ e => e)))
    | wp_step)
end
end Kit

set_option Elab.async false
set_option linter.all false
set_option maxRecDepth 100000
set_option maxHeartbeats 4000000
namespace Kit
open PySem PySem.Spec PyProof.Rows L2 Evl
section
variable {X : Cx}
def rNeTyS : R2 := fun x y H Q => ∃ m, x = .ty m ∧ y = .ty m ∧ Meta m ∧ Q (.bl false) H
theorem op_neTyS (hu : X.A.units + 1 < cLine) : OpR X (compareOp .NotEq) rNeTyS := by
  intro pins s σ H x y v u Q I rx ry h
  obtain ⟨m, rfl, rfl, hm, q⟩ := h
  cases (show v = Value.type m from rx)
  cases (show u = Value.type m from ry)
  exact ne_type_same hm hu ⟨.bl false, H, I, rfl, q⟩
/-- min of a tuple of ints -/
def rMinT (K : PySem.W.Frag) : List V → Hp → VK → Prop := fun vs H Q => ∃ (a : Addr) (n : Int) (ns : List Int), vs = [V.ref a] ∧ SqT K H a ((n :: ns).map V.int) ∧ Q (.int (ns.foldl min n)) H
theorem alike_ints (ns : List Int) : PySem.W.AlikeAll (ns.map PyData.int) := by
  refine ⟨fun x hx y hy => ?_, fun x hx => ?_⟩
  · obtain ⟨a, _, rfl⟩ := List.mem_map.mp hx
    obtain ⟨b, _, rfl⟩ := List.mem_map.mp hy
    rfl
  · obtain ⟨a, _, rfl⟩ := List.mem_map.mp hx
    exact fun z => by cases z
theorem depth_ints : ∀ ms : List Int, PyData.depthAll (ms.map PyData.int) = 0
  | [] => rfl
  | m :: r => by simp [PyData.depthAll, PyData.depth, depth_ints r]
theorem cr_minT (hc : X.calm = true) (hu : X.A.units + 1 < cLine) : CallR X (.builtin "min") (rMinT X.K) := by
  intro pins s σ H vs us Q I r h
  obtain ⟨a, n, ns, rfl, hs, q⟩ := h
  obtain ⟨its, rv, hl, _⟩ := I.tuple hs
  rw [Vals.ref1 r]
  obtain ⟨as, rd⟩ := Dp.readsAll I (PyData.int n :: ns.map PyData.int) _ its (dpa_ints (n :: ns)) rv
  refine PySem.W.min_tuple_data (I.ok.hd hc) (show s.heap.IsTuple a its.toArray from hl) (by simpa using rd) (alike_ints (n :: ns)) ?_ fun i v h' tk bs hv hr hk => ?_
  · have := depth_ints (n :: ns)
    rw [List.map_cons] at this
    rw [this]
    exact hu
  · rw [PySem.W.minD_ints] at hr
    cases hr with
    | int _ t => exact ⟨.int (ns.foldl min n), H, I.kept (t' := tk) hk, ⟨_, rfl⟩, q⟩
theorem foldl_min_spec : ∀ (ns : List Int) (n : Int), ns.foldl min n ∈ n :: ns ∧ ∀ y ∈ n :: ns, ns.foldl min n ≤ y
  | [], n => ⟨by simp, by simp⟩
  | k :: r, n => by
    obtain ⟨h1, h2⟩ := foldl_min_spec r (min n k)
    refine ⟨?_, fun y hy => ?_⟩
    · rcases List.mem_cons.mp h1 with e | e
      · rw [List.foldl_cons, e]
        rcases Int.le_total n k with h | h
        · rw [Int.min_eq_left h]; simp
        · rw [Int.min_eq_right h]; simp
      · simp [List.foldl_cons, e]
    · have h3 := h2 (min n k) (by simp)
      rw [List.foldl_cons]
      rcases List.mem_cons.mp hy with e | hy
      · omega
      · rcases List.mem_cons.mp hy with e | hy
        · omega
        · exact h2 y (by simp [hy])
end
/-! readings of these -/
section
variable {K : PySem.W.Frag} {σ : L2.St} {H H' : Hp} {ta tb te tl : TE} {D : Ends} {tu tz : TS} {t : TT}
theorem ev_typeL {p : Addr} {xs : List V} (h : Ev ta σ H (.ref p)) (hp : H p = some (.lst xs)) : Ev (tThenZ ta kTyp) σ H (.ty "list") := fun H1 e Q q => h H1 e _ fun H2 e2 => ⟨"list", by
  have := e2 p _ (e p _ hp)
  simp [zTyV, this], q H2 e2⟩
theorem ev_typeT {p : Addr} {xs : List V} (h : Ev ta σ H (.ref p)) (hp : H p = some (.tup xs)) : Ev (tThenZ ta kTyp) σ H (.ty "tuple") := fun H1 e Q q => h H1 e _ fun H2 e2 => ⟨"tuple", by
  have := e2 p _ (e p _ hp)
  simp [zTyV, this], q H2 e2⟩
theorem rv_neTyS {m : String} (hm : Meta m) : RV rNeTyS (.ty m) (.ty m) H (.bl false) := fun H1 _ _ q => ⟨m, rfl, rfl, hm, q H1 (Ex.refl H1)⟩
theorem ev_sumN {ns : List Int} (h : EvL ta σ H (ns.map V.int)) : Ev (tCB (rSum K) (tCons ta tNil)) σ H (.int ns.sum) := fun H1 e Q q => h H1 e _ fun p H2 _ e2 h2 => ⟨p, ns, rfl, sq_of h2, q H2 e2⟩
theorem ev_allN {bs : List Bool} (h : EvL ta σ H (bs.map V.bl)) : Ev (tCB (rAll K) (tCons ta tNil)) σ H (.bl (bs.all id)) := fun H1 e Q q => h H1 e _ fun p H2 _ e2 h2 => ⟨p, bs, rfl, sq_of h2, q H2 e2⟩
theorem ev_minT {p : Addr} {n : Int} {ns : List Int} (h : Ev ta σ H (.ref p)) (hp : SqT K H p ((n :: ns).map V.int)) : Ev (tCB (rMinT K) (tCons ta tNil)) σ H (.int (ns.foldl min n)) := fun H1 e Q q => h H1 e _ fun H2 e2 => ⟨p, n, ns, rfl, ex_t (e.trans e2) hp, q H2 e2⟩
/-- sorted(xs), told by what it is -/
theorem ed_sorted {p : Addr} {ns ms : List Int} (h : Ev ta σ H (.ref p)) (hp : SqL K H p (ns.map V.int)) (hl : ns.length < 64) (hm : ms.Perm ns) (hs : ms.Pairwise (· ≤ ·)) : EvD K (tCB (rSorted K) (tCons ta tNil)) σ H (.list (ms.map PyData.int)) := fun H1 e Q q => h H1 e _ fun H2 e2 =>
  ⟨p, ns, rfl, ex_l (e.trans e2) hp, hl, fun ns' l pm so new => by
    have eq : ns' = ms := by
      exact List.Perm.eq_of_pairwise (le := fun a b : Int => a ≤ b) (fun a b _ _ h1 h2 => Int.le_antisymm h1 h2) so hs (pm.trans hm.symm)
    subst eq
    exact q _ _ (e2.trans (Ex.new new)) (.lst (sq_of upd_same) (dpa_ints _))⟩
/-- a new tuple of a list's items -/
theorem eu_tupOf {p : Addr} {xs : List V} (h : Ev ta σ H (.ref p)) (hp : SqL K H p xs) : EvU (tCB (rTupS K) (tCons ta tNil)) σ H xs := fun H1 e Q q => h H1 e _ fun H2 e2 =>
  ⟨p, xs, rfl, ex_l (e.trans e2) hp, fun l hl => q l _ (fresh_back e2 hl) (e2.trans (Ex.new hl)) upd_same⟩
/-- [0] * n -/
theorem el_rep {xs : List V} {k : Int} (ha : EvL ta σ H xs) (hb : Ev tb σ H (.int k)) (h0 : 0 ≤ k) (h1 : k ≤ 1000) (hx : xs.length ≤ 50) : EvL (tOp rRep ta tb) σ H (List.replicate k.toNat xs).flatten := fun H1 e Q q =>
  ha H1 e _ fun p H2 hp e2 h2 => hb H2 (e.trans e2) _ fun H3 e3 => ⟨p, k, xs, rfl, rfl, e3 p _ h2, by omega, by omega, sz_of (by
    have : xs.length * k.toNat ≤ 50 * 1000 := Nat.mul_le_mul hx (by omega)
    omega), fun l hl => q l _ (fresh_back (e2.trans e3) hl) ((e2.trans e3).trans (Ex.new hl)) upd_same⟩
/-- xs[::-1] -/
theorem el_rev {p : Addr} {xs : List V} (h : Ev ta σ H (.ref p)) (hp : SqL K H p xs) : EvL (tRevL K ta) σ H xs.reverse := fun H1 e Q q => h H1 e _ fun H2 e2 =>
  ⟨p, xs, rfl, ex_l (e.trans e2) hp, fun l hl => q l _ (fresh_back e2 hl) (e2.trans (Ex.new hl)) upd_same⟩
theorem el_revN {xs : List V} (h : EvL ta σ H xs) : EvL (tRevL K ta) σ H xs.reverse := fun H1 e Q q => h H1 e _ fun p H2 _ e2 h2 =>
  ⟨p, xs, rfl, sq_of h2, fun l hl => q l _ (fresh_back e2 hl) (e2.trans (Ex.new hl)) upd_same⟩
/-- for i, x in enumerate(xs): the pair is a new tuple -/
theorem s_forEn {ta : TA} {i j : Nat} {a : Addr} {xs : List V} (h : EvA ta σ H [.ref a]) (hx : SqL K H a xs) (Pv : Nat → L2.St → Hp → Prop) (h0 : ∀ H1, Ex H H1 → Pv 0 σ H1) (hl : ∀ n σ' H', n ≤ xs.length → Pv n σ' H' → SqL K H' a xs)
    (hs : ∀ n x σ' H' H2, xs[n]? = some x → Pv n σ' H' → Ex H' H2 → tu { D with nx := Pv (n + 1), ct := Pv (n + 1), bk := D.nx } ((σ'.set i (some (.int (n : Int)))).set j (some x)) H2) (hd : ∀ σ' H', Pv xs.length σ' H' → D.nx σ' H') :
    tFor (iEnum K ta) (gTup K 2 (gCons (gName i) (gCons (gName j) gNil))) tu D σ H := h H (Ex.refl H) _ fun H1 e => ⟨a, xs, rfl, ex_l e hx, by
  refine for_it walk_enum Pv (h0 H1 e) (fun n σ' H' hn p => hl n σ' H' hn p) ?_ hd
  rintro n v σ' Hh H2 hn p ⟨T, x, y, rfl, nT, rfl, g1, g2⟩
  have ex : V.int (n : Nat) = x := Option.some.inj g1
  subst ex
  exact ⟨T, [.int (n : Nat), y], rfl, st_of upd_same, rfl, _, [y], rfl, y, [], rfl, rfl, hs n y σ' Hh _ g2 p (Ex.new nT)⟩⟩
theorem q_forEn {ta : TA} {i j : Nat} {a : Addr} {xs : List V} (h : EvA ta σ H [.ref a]) (hx : SqL K H a xs) (Pv : Nat → L2.St → Hp → Prop) (h0 : ∀ H1, Ex H H1 → Pv 0 σ H1) (hl : ∀ n σ' H', n ≤ xs.length → Pv n σ' H' → SqL K H' a xs)
    (hs : ∀ n x σ' H' H2, xs[n]? = some x → Pv n σ' H' → Ex H' H2 → tu { D with nx := Pv (n + 1), ct := Pv (n + 1), bk := tz D } ((σ'.set i (some (.int (n : Int)))).set j (some x)) H2) (hd : ∀ σ' H', Pv xs.length σ' H' → tz D σ' H') :
    tSeq (tFor (iEnum K ta) (gTup K 2 (gCons (gName i) (gCons (gName j) gNil))) tu) tz D σ H := s_forEn (D := { D with nx := tz D }) h hx Pv h0 hl hs hd
end
end Kit

set_option Elab.async false
set_option linter.all false
set_option maxRecDepth 100000
set_option maxHeartbeats 4000000
namespace Kit
open PySem PySem.Spec PyProof.Rows L2 Evl
/-! ### new lists of new tuples -/
def TL (H : Hp) (vs : List V) (rs : List (List V)) : Prop := Paired (fun v r => ∃ a, v = .ref a ∧ H a = some (.tup r)) vs rs
theorem TL.imp {H H' : Hp} (f : ∀ a r, H a = some (.tup r) → H' a = some (.tup r)) : ∀ {vs : List V} {rs : List (List V)}, TL H vs rs → TL H' vs rs
  | _, _, .nil => .nil
  | _, _, .cons ⟨a, e, h⟩ t => .cons ⟨a, e, f a _ h⟩ (TL.imp f t)
theorem TL.ex {H H' : Hp} {vs : List V} {rs : List (List V)} (e : Ex H H') (h : TL H vs rs) : TL H' vs rs := h.imp fun a r x => e a _ x
theorem TL.upd {H : Hp} {l : Addr} {xs : List V} {o : HO} {vs : List V} {rs : List (List V)} (hl : H l = some (.lst xs)) (h : TL H vs rs) : TL (upd H l o) vs rs := h.imp fun a r x => by
  rw [upd_ne (ne_of x hl (by intro z; cases z))]
  exact x
theorem TL.len {H : Hp} : ∀ {vs : List V} {rs : List (List V)}, TL H vs rs → vs.length = rs.length
  | _, _, .nil => rfl
  | _, _, .cons _ t => by rw [List.length_cons, List.length_cons, TL.len t]
theorem TL.app {H : Hp} {v : V} {r : List V} (hv : ∃ a, v = .ref a ∧ H a = some (.tup r)) : ∀ {vs : List V} {rs : List (List V)}, TL H vs rs → TL H (vs ++ [v]) (rs ++ [r])
  | _, _, .nil => .cons hv .nil
  | _, _, .cons q t => .cons q (TL.app hv t)
theorem TL.get {H : Hp} : ∀ {vs : List V} {rs : List (List V)} {i : Nat} {v : V}, TL H vs rs → vs[i]? = some v → ∃ a r, v = .ref a ∧ H a = some (.tup r) ∧ rs[i]? = some r
  | _, _, 0, v, .cons ⟨a, e, h⟩ t, hv => ⟨a, _, (Option.some.inj (by simpa using hv)).symm.trans e, h, rfl⟩
  | _, _, i + 1, v, .cons _ t, hv => by
    obtain ⟨a, r, h1, h2, h3⟩ := TL.get (i := i) t (by simpa using hv)
    exact ⟨a, r, h1, h2, by simpa using h3⟩
  | _, _, 0, v, .nil, hv => by simp at hv
  | _, _, i + 1, v, .nil, hv => by simp at hv
theorem TL.rev {H : Hp} : ∀ {vs : List V} {rs : List (List V)}, TL H vs rs → TL H vs.reverse rs.reverse
  | _, _, .nil => .nil
  | _, _, .cons q t => by
    rw [List.reverse_cons, List.reverse_cons]
    exact TL.app q (TL.rev t)
def EvLT (te : TE) (σ : L2.St) (H : Hp) (rs : List (List V)) : Prop := ∀ H1, Ex H H1 → ∀ Q : VK, (∀ p vs H2, H1 p = none → Ex H1 H2 → H2 p = some (.lst vs) → TL H2 vs rs → Q (.ref p) H2) → te σ H1 Q
section
variable {K : PySem.W.Frag} {σ : L2.St} {H H' : Hp} {te tl : TE} {D : Ends} {tz : TS} {t : TT}
/-- [a new tuple for i in range(n)] -/
theorem elt_R1 {ta : TA} {j : Nat} {vs : List Nat} {n : Int} (f : Nat → List V) (h : EvA ta σ H [.int n]) (hn : 0 ≤ n ∧ n ≤ 40000) (hw : ∀ x, wipe ((wipe σ vs).set j (some x)) vs = wipe σ vs)
    (he : ∀ (i : Nat) H1, Ex H H1 → (i : Int) < n → EvU te ((wipe σ vs).set j (some (.int (i : Int)))) H1 (f i)) : EvLT (tLc (iRng1 ta) (gName j) tYes te vs) σ H ((List.range n.toNat).map f) := fun H0 e Q q => h H0 e _ fun H1 e1 => ⟨n, rfl, by omega, by omega, fun Dl hD =>
  lc_range (lo := 0) (n := n.toNat) (fun i H' => Ex H1 H' ∧ ∃ ws, H' Dl = some (.lst ws) ∧ TL H' ws ((List.range i).map f)) ⟨Ex.new hD, [], upd_same, .nil⟩ (fun i H' hi p => by
    obtain ⟨p1, ws, p2, p3⟩ := p
    have e0 : (0 : Int) + (i : Int) = (i : Int) := Int.zero_add _
    show wipe ((wipe σ vs).set j (some (.int ((0 : Int) + (i : Int))))) vs = wipe σ vs ∧ te ((wipe σ vs).set j (some (.int ((0 : Int) + (i : Int))))) H' fun y H4 => ∃ acc, H4 Dl = some (.lst acc) ∧ acc.length < sizeLine ∧ _
    rw [e0]
    refine ⟨hw _, he i H1 (e.trans e1) (by omega) H' p1 _ fun p H4 hp e4 h4 => ⟨ws, e4 Dl _ p2, sz_lt (by
      have := p3.len
      simp at this
      omega), Ex.mut (p1.trans e4) hD, ws ++ [.ref p], upd_same, ?_⟩⟩
    rw [List.range_succ, List.map_append]
    exact ((p3.ex e4).app ⟨p, rfl, h4⟩).upd (e4 Dl _ p2)) (fun H' p => by
      obtain ⟨p1, ws, p2, p3⟩ := p
      exact q Dl ws H' (fresh_back e1 hD) (e1.trans p1) p2 p3)⟩
/-- [a new tuple for x in xs] -/
theorem elt_map {a : Addr} {xs : List V} {j : Nat} {vs : List Nat} (f : Nat → List V) (h : Ev tl σ H (.ref a)) (hx : SqL K H a xs) (hz : xs.length ≤ 40000) (hw : ∀ x, wipe ((wipe σ vs).set j (some x)) vs = wipe σ vs)
    (he : ∀ (i : Nat) (x : V) H1, Ex H H1 → xs[i]? = some x → EvU te ((wipe σ vs).set j (some x)) H1 (f i)) : EvLT (tLc (iList K tl) (gName j) tYes te vs) σ H ((List.range xs.length).map f) := fun H0 e Q q => h H0 e _ fun H1 e1 => ⟨a, rfl, ⟨xs, ex_l (e.trans e1) hx⟩, fun Dl hD =>
  lc_list (xs := xs) (fun i H' => Ex H1 H' ∧ ∃ ws, H' Dl = some (.lst ws) ∧ TL H' ws ((List.range i).map f)) ⟨Ex.new hD, [], upd_same, .nil⟩ (fun i H' _ p => ex_l ((e.trans e1).trans p.1) hx) (fun i x H' hi p => by
    obtain ⟨p1, ws, p2, p3⟩ := p
    show wipe ((wipe σ vs).set j (some x)) vs = wipe σ vs ∧ te ((wipe σ vs).set j (some x)) H' fun y H4 => ∃ acc, H4 Dl = some (.lst acc) ∧ acc.length < sizeLine ∧ _
    refine ⟨hw _, he i x H1 (e.trans e1) hi H' p1 _ fun p H4 hp e4 h4 => ⟨ws, e4 Dl _ p2, sz_lt (by
      have := p3.len
      have := (List.getElem?_eq_some_iff.mp hi).1
      simp at *
      omega), Ex.mut (p1.trans e4) hD, ws ++ [.ref p], upd_same, ?_⟩⟩
    rw [List.range_succ, List.map_append]
    exact ((p3.ex e4).app ⟨p, rfl, h4⟩).upd (e4 Dl _ p2)) (fun H' p => by
      obtain ⟨p1, ws, p2, p3⟩ := p
      exact q Dl ws H' (fresh_back e1 hD) (e1.trans p1) p2 p3)⟩
theorem range_get {α : Type} (rs : List α) (d : α) : rs = (List.range rs.length).map fun i => rs.getD i d := by
  refine List.ext_getElem (by simp) fun i h1 h2 => ?_
  simp [h1]
theorem paired_map {α β γ : Type} {F : β → γ → Prop} (f : α → β) (g : α → γ) : ∀ l : List α, (∀ x ∈ l, F (f x) (g x)) → Paired F (l.map f) (l.map g)
  | [], _ => .nil
  | x :: r, h => .cons (h x (by simp)) (paired_map f g r fun y hy => h y (by simp [hy]))
/-- [x for x in xs if test(x)], xs a list of tuples, the test P of the tuple's items -/
theorem elt_filter {a : Addr} {xs : List V} {rs : List (List V)} {j : Nat} {vs : List Nat} (P : List V → Bool) (h : Ev tl σ H (.ref a)) (hx : SqL K H a xs) (ht : TL H xs rs) (hz : xs.length ≤ 40000) (hw : ∀ x, wipe ((wipe σ vs).set j (some x)) vs = wipe σ vs) (hj : ∀ x, ((wipe σ vs).set j (some x))[j]? = some (some x))
    (he : ∀ (b : Addr) (r : List V) H1, Ex H H1 → r ∈ rs → H1 b = some (.tup r) → EvT t ((wipe σ vs).set j (some (.ref b))) H1 (P r)) : EvLT (tLc (iList K tl) (gName j) t (tVar j) vs) σ H (rs.filter P) := fun H0 e Q q => by
  refine el_lcL (K := K) (f := fun i => P (rs.getD i [])) (v := fun i => xs.getD i .non) h hx hz hw (fun i x H1 e1 hi => ?_) (fun i x H1 e1 hi hf => ?_) H0 e Q fun p H2 hp e2 h2 => ?_
  · obtain ⟨b, r, rfl, hb, hr⟩ := ht.get hi
    have g : rs.getD i [] = r := by rw [List.getD_eq_getElem?_getD, hr] <;> rfl
    show EvT _ _ _ (P (rs.getD i []))
    rw [g]
    exact he b r H1 e1 (List.mem_of_getElem? hr) (e1 b _ hb)
  · have g : xs.getD i .non = x := by rw [List.getD_eq_getElem?_getD, hi] <;> rfl
    show Ev _ _ _ (xs.getD i .non)
    rw [g]
    exact ev_var (hj x)
  · refine q p _ H2 hp e2 h2 ?_
    have e3 : rs.filter P = ((List.range rs.length).filter fun i => P (rs.getD i [])).map fun i => rs.getD i [] := by
      conv => lhs; rw [range_get rs [], List.filter_map]
      rfl
    unfold given
    rw [e3, ht.len]
    refine paired_map _ _ _ fun i hi => ?_
    have hi := List.mem_range.mp (List.mem_filter.mp hi).1
    have hlx : i < xs.length := by rw [ht.len]; exact hi
    obtain ⟨b, r, h1, h2', h3⟩ := ht.get (List.getElem?_eq_getElem hlx)
    refine ⟨b, ?_, ?_⟩
    · rw [List.getD_eq_getElem?_getD, List.getElem?_eq_getElem hlx, h1]
      rfl
    · rw [List.getD_eq_getElem?_getD, h3]
      exact (e.trans e2) b _ h2'
theorem q_asgLT {i : Nat} {rs : List (List V)} (h : EvLT te σ H rs) (k : ∀ p vs H1, H p = none → Ex H H1 → H1 p = some (.lst vs) → TL H1 vs rs → tz D (σ.set i (some (.ref p))) H1) : tSeq (tAsg te (gName i)) tz D σ H := h H (Ex.refl H) _ fun p vs H1 hp e h1 h2 => k p vs H1 hp e h1 h2
theorem s_retLT {rs : List (List V)} (h : EvLT te σ H rs) (k : ∀ p vs H1, H p = none → Ex H H1 → H1 p = some (.lst vs) → TL H1 vs rs → D.rt (.ref p) H1) : tRet te D σ H := h H (Ex.refl H) _ k
end
end Kit

set_option Elab.async false
set_option linter.all false
set_option maxRecDepth 100000
set_option maxHeartbeats 4000000
namespace Kit
open PySem PySem.Spec PyProof.Rows L2 Evl
/-! ### a promise of a def that shows data (repr): no repr may be under way around it -/
structure FnOkG (P : Program) (w : World) (K : PySem.W.Frag) (mg : Str → Option Value) (base : Heap) (n : Nat) (f : Addr) (fd : FuncData) (names : List Str) (want : Sp) : Prop where
  many : ∀ xs H Q E, want xs H Q E → xs.length = names.length
  go : ∀ (A : Around) (frames : List Env) (st : Shared) (H : Hp) (given : Args) (us : List Value) (xs : List V) (Q : VK) (E : XK), A.guards = some [] → Room n A → Env0 P w K mg base A frames st H →
    BindsTo st fd given (names.zip us) → Vals xs us → want xs H Q E → codeAny (model P w) A (.call (.ref f) given) (CR CX0 frames P w H st Q E) st
section
variable {P : Program} {w : World} {K : PySem.W.Frag} {mg : Str → Option Value} {base : Heap}
theorem FnOkG.mono {j n : Nat} {f : Addr} {fd : FuncData} {names : List Str} {want : Sp} (F : FnOkG P w K mg base j f fd names want) (h : j ≤ n) : FnOkG P w K mg base n f fd names want :=
  ⟨F.many, fun A fr st H g us xs Q E hg r => F.go A fr st H g us xs Q E hg (r.mono h)⟩
/-- the rule for such a def -/
theorem funG {x qual : Str} {d : Stmt} {f : Addr} {fd : FuncData} {N names : List Str} {n : Nat} {want : Sp} (F : Fun K x qual d f fd) (S : FnScope N names (defScope d)) (many : ∀ xs H Q E, want xs H Q E → xs.length = names.length)
    (body : ∀ (cv : Value) (A : Around) (frames : List Env) (st : Shared) (H : Hp) (xs : List V) (Q : VK) (E : XK), A.guards = some [] → Room n (A.deeper (envOfC qual (defScope d) st.heap.objs.size f cv)) → want xs H Q E →
      ∃ t, PSs (cxOf CX0 P w K mg base N qual (defScope d) f cv A frames st H E).nox (defBody d) t ∧ t { nx := fun _ H' => Q .non H', rt := Q } (start N xs) H) : FnOkG P w K mg base (n + 1) f fd names want := by
  obtain ⟨o1, o2, v1, v2, v3, an, cv, ct, sl, rfl, look, code⟩ := F.ex
  refine ⟨many, fun A frames st H given us xs Q E hg room en bind vals hw => ?_⟩
  have size := many _ _ _ _ hw
  have inK : K.In st.heap := en.mod.kin.keeps fun b o q => (en.bs b o q).1
  have noLim : st.heap.NoLimit := en.mod.nolimit.keeps fun b o q => (en.bs b o q).1
  have kinds : ∀ y ∈ names.zip us, (defScope d).names.lookup y.1 = some .local ∨ ((defScope d).names.lookup y.1 = some .cell ∧ ((cellsFrom (st.heap.objs.size + 1) (defScope d).names []).lookup y.1).isSome = true) := by
    rintro ⟨a, b⟩ hy
    exact (S.par a (List.of_mem_zip hy).1).elim .inl fun q => .inr ⟨q, PySem.W.cellsFrom_some _ _ _ (.inl q)⟩
  refine codeAny_call_function room.depth (inK _ _ look) rfl S.co S.gen rfl (PySem.W.codeRec_of inK code) (bind _ _ _ _ (wpAny_newFunctionEnv_cells S.kind kinds fun env eq st1 made => ?_))
  cases eq
  refine ⟨noLim.keeps made.toInCall.keep, codeAny_func ?_⟩
  obtain ⟨t, rule, done⟩ := body cv A frames st H xs Q E hg (room.deeper _) hw
  have J : Inv (cxOf CX0 P w K mg base N qual (defScope d) f cv A frames st H E) [] (start N xs) H st1 := inv_start S room.hd en size vals made
  have back : ∀ {σ' : L2.St} {H' : Hp} {v : V} {u : Value} {st2 : Shared}, Inv (cxOf CX0 P w K mg base N qual (defScope d) f cv A frames st H E) [] σ' H' st2 → RelV v u → Q v H' → CE frames P w H st Q u st2 := fun J2 rv q => ⟨_, _, J2.os, J2.bare, J2.base, J2.hok, rv, q⟩
  refine wpAny_mono (rule.nox.run [] st1 (start N xs) H _ J done) (fun r st2 hs => ?_) fun _ _ hs => hs
  match r, hs with
  | .ret u, ⟨v, σ2, H2, J2, rv, q⟩ => exact back J2 rv q
  | .next, ⟨σ2, H2, J2, q⟩ => exact back (v := V.non) (u := Value.none) J2 rfl q
  | .brk, ⟨_, _, _, q⟩ => exact False.elim q
  | .cont, ⟨_, _, _, q⟩ => exact False.elim q
end
/-- such a def is called -/
theorem pe_callG {X : Cx} {n : Nat} {f : Addr} {fd : FuncData} {names : List Str} {want : Sp} {x : Str} {p pos : Pos} {e : Expr} {es : List Expr} {t : TA} (F : FnOkG X.prog X.w X.K X.mg X.base n f fd names want) (hg : X.A.guards = some []) (room : Room n X.A) (gl : Gl X x)
    (at_ : X.mg x = some (.ref f)) (keep : PySem.W.keepIn X.K (.ref f) = true) (bind : Binds X.K fd names []) (ha : PA X (e :: es) t) (nd : (x == ("__debug__" : Str)) = false := by decide)
    (one : starEach (e :: es) X.env = (false, eval e X.env) :: starEach es X.env := by rfl) (plain : (backTo pos (starEach es X.env)).any (·.1) = false := by rfl) : PE X (.Call (.Name x p) (e :: es) [] pos) (tCall want [] E0 t) := by
  refine ⟨fun pins st σ H Q J h => wpAny_Call_Name_kw (ld_glob J gl at_ ?_ nd)⟩
  refine PySem.W.callWith_K (h₀ := X.base) J.ok.mod.kin keep (thn (ha.run pos pins st σ H _ J h) fun us st1 ⟨vs, H1, J1, r, q⟩ => ⟨J1.kIn, ?_⟩) one plain
  have q : want vs H1 Q E0 := by
    have q' : want (vs ++ []) H1 Q E0 := q
    rwa [List.append_nil] at q'
  have size : us.length = names.length := r.length.symm.trans (F.many _ _ _ _ q)
  have bd := bind st1 us J1.kIn (by rw [List.append_nil]; exact size)
  rw [List.append_nil] at bd
  refine wpAny_call (codeAny_mono (F.go X.A X.stack st1 H1 ⟨us, []⟩ us vs Q E0 hg room J1.env0 bd r q) fun res st2 hq => ?_)
  match res, hq with
  | .error _, hq => exact False.elim hq
  | .ok (.ret _), hq => exact J1.after hq
  | .ok .next, hq => exact False.elim hq
  | .ok .brk, hq => exact False.elim hq
  | .ok .cont, hq => exact False.elim hq
/-- the law's promise, at the heap behind the top -/
theorem headG {P : Program} {w : World} {K : PySem.W.Frag} {mg mb : Str → Option Value} {n : Nat} {fa a : Addr} {fd : FuncData} {x : Str} {want : Sp} {st : Shared} {us : List Value} {ns : List Int}
    (inK : K.In st.heap) (glob : st.heap.Ns mainGlobals mg) (blt : st.heap.Ns builtinsNs mb) (boot : ∀ x : Str, x ≠ "__name__" → mb x = bootBuiltins x) (noLim : st.heap.NoLimit) (gens : st.gens = #[])
    (obj : st.heap.get? a = some { cls := .type "list", data := .seq us.toArray }) (allInt : IntsAre us ns) (short : ns.length ≤ sizeLine) (room : Room n callerA)
    (F : ∀ base : Heap, K.In base → base.Ns mainGlobals mg → FnOkG P w K mg base n fa fd [x] want) (bind : ∀ (s : Shared) (u : Value), BindsTo s fd ⟨[u], []⟩ [(x, u)])
    (ask : ∀ H : Hp, Only H → SqL K H a (ns.map V.int) → want [.ref a] H (fun v _ => v = .bl true) fun _ _ _ => False) :
    codeAny (model P w) callerA (.call (.ref fa) ⟨[.ref a], []⟩) (fun r s' => r = .ok (.ret (.bool true)) ∧ OldK st.heap s'.heap ∧ s'.os = st.os ∧ AllBare s'.gens) st := by
  have vals := vals_ints allInt
  have size := allInt.length
  have main : ∀ H : Hp, Only H → SqL K H a (ns.map V.int) → HOk P w H st.heap → (∀ b, H b ≠ none → b = a) → (H a ≠ none → K.lookup a = none) →
      codeAny (model P w) callerA (.call (.ref fa) ⟨[.ref a], []⟩) (fun r s' => r = .ok (.ret (.bool true)) ∧ OldK st.heap s'.heap ∧ s'.os = st.os ∧ AllBare s'.gens) st := by
    intro H only sq ok one not
    have stay : ∀ {b : Addr} {o : Obj}, st.heap.get? b = some o → H b = none → (hidT st.heap H).get? b = some o := fun q z => hidT_get q z
    have free : ∀ {b : Addr}, (b = a → False) → H b = none := fun {b} ne => by
      cases q : H b with
      | none => rfl
      | some u => exact (ne (one b (by rw [q]; exact Option.some_ne_none u))).elim
    have space : ∀ {b : Addr} {m : Str → Option Value}, st.heap.Ns b m → (hidT st.heap H).Ns b m := fun {b m} ⟨o, es, ep, q, d, r⟩ => ⟨o, es, ep, stay q (free fun z => by
      subst z
      rw [obj] at q
      cases q
      exact Data.noConfusion (show Data.seq us.toArray _ = Data.dict es ep from d)), d, r⟩
    have kin : K.In (hidT st.heap H) := fun b o q => stay (inK b o q) (by
      cases z : H b with
      | none => rfl
      | some u =>
        have ne : H b ≠ none := by rw [z]; exact Option.some_ne_none u
        have ba := one b ne
        subst ba
        rw [not ne] at q
        cases q)
    obtain ⟨mc, l1, l2⟩ := noLim
    have md : Mod K mg (hidT st.heap H) := ⟨kin, space glob, ⟨mb, space blt, boot⟩, ⟨mc, space l1, l2⟩⟩
    have en : Env0 P w K mg (hidT st.heap H) callerA [] st H := ⟨rfl, md, fun b o q => of_hidT q, Nat.le_of_eq (hidT_size _ _), trivial, fun b hb => absurd (show b ∈ ([] : List Addr) from hb) (by simp), ok, .of_eq gens⟩
    refine codeAny_mono ((F _ kin (space glob)).go callerA [] st H ⟨[.ref a], []⟩ [.ref a] [.ref a] _ _ rfl room en (bind st (.ref a)) (.cons rfl .nil) (ask H only sq)) fun r s' h => ?_
    match r, h with
    | .error _, h => exact False.elim h
    | .ok .next, h => exact False.elim h
    | .ok .brk, h => exact False.elim h
    | .ok .cont, h => exact False.elim h
    | .ok (.ret u), ⟨v, H', os, bare, un, ok', rel, q⟩ =>
      have q2 : v = .bl true := q
      cases q2
      have r2 : u = Value.bool true := rel
      cases r2
      refine ⟨rfl, OldK.of_keep fun b o e => ?_, os, bare⟩
      rcases only b with z | ⟨ob, xs, z⟩
      · exact un.keep b o e z (fun t => absurd (show b ∈ ([] : List Addr) from t) (by simp)) (by simp)
      · have z2 := un.frzs b ob _ z
        obtain ⟨g1, _⟩ := ok b _ z
        obtain ⟨g2, _⟩ := ok' b _ z2
        rw [e] at g1
        cases g1
        exact g2
  cases own : K.lookup a with
  | some o =>
    have e := inK a o own
    rw [obj] at e
    cases e
    exact main (fun _ => none) (fun _ => .inl rfl) (.inr ⟨_, us.toArray, _, own, rfl, rfl, rfl, by rw [List.size_toArray, size]; exact short, by simpa using vals⟩) (fun b u z => by have y : (none : Option HO) = some u := z; cases y) (fun b z => absurd rfl z) fun z => absurd rfl z
  | none =>
    have yes : (fun b => if b = a then some (HO.frz { cls := .type "list", data := .seq us.toArray } (.lst (ns.map V.int))) else none) a = some (HO.frz { cls := .type "list", data := .seq us.toArray } (.lst (ns.map V.int))) := if_pos rfl
    have no : ∀ b, b ≠ a → (fun b => if b = a then some (HO.frz { cls := .type "list", data := .seq us.toArray } (.lst (ns.map V.int))) else none) b = none := fun b ne => if_neg ne
    generalize (fun b => if b = a then some (HO.frz { cls := .type "list", data := .seq us.toArray } (.lst (ns.map V.int))) else none) = G at yes no
    refine main G (fun b => ?_) (.inl (.inr ⟨_, yes⟩)) (fun b u z => ?_) (fun b z => ?_) fun _ => own
    · by_cases hb : b = a
      · subst hb
        exact .inr ⟨_, _, yes⟩
      · exact .inl (no b hb)
    · by_cases hb : b = a
      · subst hb
        rw [yes] at z
        cases z
        exact ⟨obj, by rw [List.length_map]; exact short, us, _, vals, obj⟩
      · rw [no b hb] at z
        cases z
    · by_cases hb : b = a
      · exact hb
      · exact absurd (no b hb) z
theorem walk_G {l : PySem.W.OpenLaw} {m n : Nat} {q : Program} {loose : List Str} {XP : (Str → Option Value) → Heap → Prop} {YP : World → Heap → Prop} {d : DefRec} {K : Params → PySem.W.Frag} {want : World → Sp} {x : Str}
    (most : l.most = some m) (most2 : m ≤ sizeLine) (noDef : d.params.defaults = []) (room : Room n callerA) (inK : ∀ (w : World) (h : Heap), YP w h → (K w.params).In h)
    (F : ∀ (w : World) (mg : Str → Option Value) (fa : Addr) (h : Heap), (K w.params).In h → h.Ns mainGlobals mg → mg d.name = some (.ref fa) →
      ∃ fd : FuncData, (∀ (s : Shared) (u : Value), BindsTo s fd ⟨[u], []⟩ [(x, u)]) ∧ ∀ base : Heap, (K w.params).In base → base.Ns mainGlobals mg → FnOkG l.prog w (K w.params) mg base n fa fd [x] (want w))
    (ask : ∀ (w : World) (H : Hp) (a : Addr) (ns : List Int), ns.length ≤ m → Only H → SqL (K w.params) H a (ns.map V.int) → want w [.ref a] H (fun v _ => v = .bl true) fun _ _ _ => False) :
    PySem.W.WalkO q loose XP YP l.row.toRowW d [] (fun f vs => PySem.call f vs) :=
  Att.attach_call most noDef fun w s₀ st mg mb fa o pm cd doc a us ns G Y ho hd hcd named obj allInt short gens => by
    have kin := inK w _ Y
    obtain ⟨fd, bind, FF⟩ := F w mg fa _ kin G.T.g named
    exact headG kin G.T.g G.T.b G.T.builtins G.T.nolimit gens obj allInt (Nat.le_trans short most2) room FF bind fun H only sq => ask w H a ns short only sq
/-! ### repr of data -/
def rRepr (K : PySem.W.Frag) : List V → Hp → VK → Prop := fun xs H Q => ∃ p d, xs = [.ref p] ∧ Dp K H (.ref p) d ∧ d.showable = true ∧ d.hasDict = false ∧ d.depth ≤ 50 ∧ d.shown.length ≤ sizeLine ∧ Q (.str d.shown) H
theorem call_reprD {X : Cx} (hg : X.A.guards = some []) (hu : X.A.units + 64 < cLine) : CallR X (.builtin "repr") (rRepr X.K) := by
  intro pins st σ H xs us Q J r h
  obtain ⟨p, d, rfl, dp, hs, hd, hdp, hz, q⟩ := h
  obtain ⟨u, rfl, hu2⟩ : ∃ u, us = [u] ∧ RelV (.ref p) u := by
    cases r with
    | cons a b =>
      cases b
      exact ⟨_, rfl, a⟩
  have e : u = Value.ref p := hu2
  subst e
  obtain ⟨as, rd⟩ := Dp.reads J d _ _ dp hu2
  refine repr_of_reads' rd hs (fun z => by rw [hd] at z; cases z) hg (by omega) (fun _ _ e => e) (fun h' u tk keep => ?_) hz
  exact ⟨.str d.shown, H, J.turnedL (ch := []) (fun b o _ e => keep b o e) (fun b hb => absurd hb (by simp)), ⟨_, rfl⟩, q⟩
section
variable {K : PySem.W.Frag} {σ : L2.St} {H : Hp} {te : TE}
theorem ev_repr {d : PyData} (h : EvD K te σ H d) (hl : isDisplay d = true) (hs : d.showable = true) (hd : d.hasDict = false) (hdp : d.depth ≤ 50) (hz : d.shown.length ≤ sizeLine) : Ev (tCB (rRepr K) (tCons te tNil)) σ H (.str d.shown) := fun H1 e Q q =>
  h H1 e _ fun v H2 e2 dv => by
    have hp : ∃ p, v = .ref p := by
      cases dv with
      | lst _ _ => exact ⟨_, rfl⟩
      | tup _ _ => exact ⟨_, rfl⟩
      | non => cases hl
      | bl _ => cases hl
      | int _ => cases hl
      | str _ => cases hl
    obtain ⟨p, rfl⟩ := hp
    exact ⟨p, d, rfl, dv, hs, hd, hdp, hz, q H2 e2⟩
end
end Kit

set_option Elab.async false
set_option linter.all false
set_option maxRecDepth 100000
set_option maxHeartbeats 4000000
namespace Kit
open PySem PySem.Spec PyProof.Rows L2 Evl
theorem slot_type_neR : Slot "type" (cmpInfo .NotEq).2.2 "object.__ne__" :=
  .of (owner := "object") (n := "__ne__") (by rw [typeLookup_type, builtinLookup_eq_fast]; kernel_rfl) (by decide +kernel) (by decide +kernel) (by decide +kernel)
    (by first | exact .inl (by decide +kernel) | exact .inr (by decide +kernel)) (by rw [isSubtype_type]; kernel_rfl)
section
variable {M : Model} {A : Around} {E : Value → Shared → Prop} {s : Shared}
theorem ne_decline {a b : Value} {T id : String} {k : Bool} {Q : Value → Shared → Prop} (ta : ∀ s' : Shared, s'.TypeIs a T) (tb : ∀ s' : Shared, s'.TypeIs b T) (l1 : Slot T (cmpInfo .NotEq).2.1 id) (l2 : Slot T (cmpInfo .NotEq).2.2 id)
    (nh : [a, b].any Value.onHeap = false) (same : isSame a b = pure k) (go : wpAny M A (call (.builtin id) [a, b]) (fun v t => v = .notImplemented ∧ wpAny M A (call (.builtin id) [b, a]) (fun v t2 => v = .notImplemented ∧ Q (.bool (!k)) t2) E t) E s) :
    wpAny M A (richCompare .NotEq a b) Q E s := by
  rcases eq : cmpInfo CmpOp.NotEq with ⟨n1, n2, n3⟩
  rw [eq] at l1 l2
  simp only [richCompare, eq, (ta s).oneThing_none]
  try with_reducible refine wpAny_holding ?_
  refine wpAny_bind (wpAny_cRoomFor_or (.inl nh) (wpAny_bind (wpAny_typeOf (ta s) (wpAny_bind (wpAny_typeOf (tb s) ?_)))))
  simp only [bne_self_eq_false, Bool.false_eq_true, if_false, pure_bind, Bool.not_false, if_true]
  refine wpAny_bind (m := tryCompare a _ b) (wpAny_tryCompare_declines (ta s) l1 (wpAny_mono go (fun v t z => ⟨z.1, ?_⟩) fun _ _ x => x))
  refine wpAny_bind (m := tryCompare b _ a) (wpAny_tryCompare_declines (tb t) l2 (wpAny_mono z.2 (fun v t2 z2 => ⟨z2.1, ?_⟩) fun _ _ x => x))
  refine wpAny_bind (wpAny_rule (wpAny_bind (wpAny_of_eq same (wpAny_pure z2.2))))
end
section
variable {prog : Program} {w : World} {A : Around} {E : Value → Shared → Prop} {s : Shared} {Q : Value → Shared → Prop}
theorem obj_ne_other {X Y : String} (hX : ∀ s' : Shared, s'.TypeIs (.type X) "type") (ne : (Value.type X == Value.type Y) = false) (hu : A.units + 1 < cLine) (h : Q .notImplemented s) : wpAny (model prog w) A (call (.builtin "object.__ne__") [.type X, .type Y]) Q E s := by
  refine wpAny_call_entry slot_type_ne (hX s) PySem.F.cmpEntry_ne ?_ (PySem.F.cmpArgs_ne _ _)
  unfold Builtin.«object.__ne__»
  have key : wpAny (model prog w) A.in1 (call (.builtin "object.__eq__") [.type X, .type Y]) (fun v s' => v = .notImplemented ∧ s' = s) E s :=
    call_gives slot_type_eqN (hX s) F.entry_object_eq (F.args_object_eq_2 _ _) (PySem.TypeEq.object_eq_other rfl ne) ⟨rfl, rfl⟩
  repeat (first
    | with_reducible refine wpAny_cRoomFor (by show A.units + 1 < cLine; exact hu) ?_
    | (refine wpAny_bind (m := callSpecialIfBound? (.type X) (Str.ofString "__eq__") [.type Y])
        (wpAny_callSpecialIfBound?_slot (hX _) slot_type_eqN (wpAny_mono key (fun r s' hr => by
          obtain ⟨rfl, rfl⟩ := hr
          have hq : Q .notImplemented s' := h
          repeat (first | exact hq | exact ⟨_, rfl, hq⟩ | exact wpAny_pure hq | wp_step)) fun _ _ e => e)))
    | wp_step)
theorem ne_type_other {X Y : String} (hX : ∀ s' : Shared, s'.TypeIs (.type X) "type") (hY : ∀ s' : Shared, s'.TypeIs (.type Y) "type") (ne : (Value.type X == Value.type Y) = false) (hu : A.units + 1 < cLine) (h : Q (.bool true) s) : wpAny (model prog w) A (compareOp .NotEq (.type X) (.type Y)) Q E s := by
  have ne' : (Value.type Y == Value.type X) = false := by
    rw [beq_eq_false_iff_ne] at ne ⊢
    exact fun z => ne z.symm
  show wpAny _ A (richCompare .NotEq _ _) Q E s
  exact ne_decline (T := "type") (k := false) hX hY slot_type_ne slot_type_neR rfl (by rw [isSame_plain rfl, ne]) (obj_ne_other hX ne hu ⟨rfl, obj_ne_other hY ne' hu ⟨rfl, h⟩⟩)
end
end Kit

set_option Elab.async false
set_option linter.all false
set_option maxRecDepth 100000
set_option maxHeartbeats 4000000
namespace Kit
open PySem PySem.Spec PyProof.Rows L2 Evl
theorem meets_enum_new1 {v : Value} {o : Obj} {H : Heap → Prop} (B : Begins v o H) :
    Meets (Builtin.«enumerate.__new__» ⟨[.type "enumerate", v], []⟩) (fun _ R s => H s.heap ∧
      R (.ok (.ret (.ref (s.heap.push o).objs.size))) { s with heap := (s.heap.push o).push { cls := .type "enumerate", data := .fields #[.none, .bool false, .ref s.heap.objs.size, rawInt 0, .none, .none] } }) :=
  .of_wp fun prog w A R s h => by
    obtain ⟨hp, g, d, tk, os⟩ := s; obtain ⟨h1, h⟩ := h
    have hsub := sub_enumerate
    have q1 : ∀ {A' : Around} {E : Value → Shared → Prop} {Q : Value → Shared → Prop}, Q (.ref hp.objs.size) ⟨hp.push o, g, d, tk, os⟩ → wpAny (model prog w) A' (pyIter v) Q E ⟨hp, g, d, tk, os⟩ :=
      fun q => B.iter prog w _ _ ⟨hp, g, d, tk, os⟩ _ h1 q
    wp_walk using q1
    refine wpAny_stack_any fun st => wpAny_pure ?_
    split
    · rename_i c _ _ _ _ _
      cases (c == Value.type "enumerate")
      · wp_walk using q1
        exact ⟨_, rfl, h⟩
      · wp_walk using q1
        exact ⟨_, rfl, h⟩
    · wp_walk using q1
      exact ⟨_, rfl, h⟩
section
variable {prog : Program} {w : World} {A : Around} {E : Value → Shared → Prop} {s : Shared}
theorem enum_begins1 {v : Value} {o : Obj} {H : Heap → Prop} {Q : Value → Shared → Prop} (B : Begins v o H) (h1 : H s.heap)
    (h : ∀ h', IsEnum h' (s.heap.objs.size + 1) s.heap.objs.size 0 .none → h'.get? s.heap.objs.size = some o → h'.objs.size = s.heap.objs.size + 2 →
      (∀ b o, s.heap.get? b = some o → h'.get? b = some o) → Q (.ref (s.heap.objs.size + 1)) { s with heap := h' }) :
    wpAny (model prog w) A (call (.type "enumerate") [v]) Q E s := by
  refine callType_new F.called_enumerate (by decide) (F.typeCall_enumerate_1 _) (F.newCall_enumerate_1 _) (fun obj => F.args_object_init_2 obj _) F.entry_enumerate_new
    (meets_enum_new1 B) ⟨h1, ?_⟩
  have hz : (s.heap.push o).objs.size = s.heap.objs.size + 1 := Heap.size_push ..
  show _ ∧ _
  rw [hz]
  have he : IsEnum ((s.heap.push o).push { cls := .type "enumerate", data := .fields #[.none, .bool false, .ref s.heap.objs.size, rawInt 0, .none, .none] }) (s.heap.objs.size + 1) s.heap.objs.size 0 .none := by
    have := Heap.get?_push_size (s.heap.push o) (o := { cls := .type "enumerate", data := .fields #[.none, .bool false, .ref s.heap.objs.size, rawInt 0, .none, .none] }) rfl
    rw [hz] at this; exact this
  refine ⟨⟨_, he, rfl⟩, h _ he (Heap.get?_push_of_some _ (Heap.get?_push_size _ B.free)) (by rw [Heap.size_push, hz]) fun b o x => Heap.get?_push_of_some _ (Heap.get?_push_of_some _ x)⟩
end
end Kit

set_option Elab.async false
set_option linter.all false
set_option maxRecDepth 100000
set_option maxHeartbeats 4000000
namespace Kit
open PySem PySem.Spec PyProof.Rows L2 Evl
/-- the tuple at a, each item in a new pair -/
def IteT (K : PySem.W.Frag) (a : Addr) : It :=
  ⟨fun i H => ∃ (xs : List V) (x : V), SqT K H a xs ∧ xs[i]? = some x, fun i H v H' => ∃ T x, v = .ref T ∧ H T = none ∧ H' = upd H T (.tup [.int (i : Nat), x]) ∧ ∀ xs, SqT K H a xs → xs[i]? = some x, fun i H => ∃ xs : List V, SqT K H a xs ∧ xs.length = i⟩
theorem enum_ne {h : Heap} {e it t : Addr} {i : Int} {old : Value} {vs : Array Value} (he : IsEnum h e it i old) (ht : h.IsTuple t vs) : e ≠ t := fun z => by
  subst z
  obtain ⟨o, ho, hc, _⟩ := ht
  have he' : h.get? e = _ := he
  rw [he'] at ho
  cases ho
  exact absurd hc (by show ¬ (Value.type "enumerate" = Value.type "tuple"); decide +kernel)
theorem turn_enumT {P : Program} {w : World} {K : PySem.W.Frag} {elts : List Expr} {kk : Nat} {tpos : Pos} (a e it : Addr) :
    Turn P w K (.Tuple elts kk tpos) (IteT K a) [e, it] e (fun i h => (∃ old, IsEnum h e it ((i : Nat) : Int) old) ∧ h.IsTupleIter it a i ∧ e ≠ it) where
  mem := by simp
  obj := fun i h st b hb => by
    obtain ⟨⟨old, he⟩, ⟨o, ho, hc, hd⟩, _⟩ := st
    have e' : b = e ∨ b = it := by simpa using hb
    rcases e' with z | z
    · rw [z]; exact ⟨_, he, fun v q => nomatch q⟩
    · rw [z]; exact ⟨o, ho, fun v q => by rw [hd] at q; cases q⟩
  keep := fun i h h' st k => by
    obtain ⟨⟨old, he⟩, ⟨o, ho, hr⟩, hne⟩ := st
    exact ⟨⟨old, k e (by simp) _ he⟩, ⟨o, k it (by simp) o ho, hr⟩, hne⟩
  item := by
    intro X hP hw hK hc i pins s σ H E I hf st hg
    subst hP hw hK
    obtain ⟨⟨old, he⟩, hit, hne⟩ := st
    obtain ⟨xs, x, hq, hx⟩ := hg
    obtain ⟨its, rv, p, hz⟩ := I.tuple hq
    obtain ⟨u, hu, ru⟩ := rv.get hx
    have hel : e < s.heap.objs.size := Heap.lt_size he
    have hil : it < s.heap.objs.size := by obtain ⟨_, q, _⟩ := hit; exact Heap.lt_size q
    have pT : s.heap.IsTuple a its.toArray := p
    have nea : e ≠ a := enum_ne he pT
    have nit : a ≠ it := fun z => by
      subst z
      obtain ⟨o, ho, hc', _⟩ := pT
      obtain ⟨o', ho', hc'', _⟩ := hit
      rw [ho] at ho'
      cases ho'
      rw [hc'] at hc''
      exact absurd hc'' (by decide +kernel)
    have hlt : i < its.toArray.size := by
      have := (List.getElem?_eq_some_iff.mp hu).1
      simpa using this
    refine wpAny_pyNext_enum_itemD (Draws.tuple (by exact I.ok.hd hc) it a nit its.toArray) he ⟨hit, pT⟩ hlt hne (by simp [hne, nea]) fun x' h' tk hx' ho hst' hT hsz hk => ?_
    have eu : u = x' := by
      have : its[i]? = some x' := by simpa using hx'
      rw [hu] at this
      exact Option.some.inj this
    subst eu
    refine ⟨_, rfl, wpAny_letOwnedTupleGo_enum (s := { s with heap := h', toks := tk + 1 }) ho fun h'' he' sb => ?_⟩
    have hT2 : h''.get? s.heap.objs.size = some { cls := .type "tuple", data := .seq #[.int i tk, u] } := (sb.2 _ (Nat.ne_of_gt hel)).trans hT
    have new : ObjOk X.prog X.w (upd H s.heap.objs.size (.tup [.int (i : Nat), x])) h'' s.heap.objs.size (.tup [.int (i : Nat), x]) :=
      ⟨by show 2 ≤ sizeLine; decide, [.int i tk, u], .cons ⟨_, rfl⟩ (.cons ru .nil), ⟨_, hT2, rfl, _, rfl⟩⟩
    have I1 : Inv X pins σ (upd H s.heap.objs.size (.tup [.int (i : Nat), x])) { s with heap := h'', toks := tk + 1 } :=
      I.turnedNew (ch := [e, it]) (fun b ob hb q => (sb.2 b (fun z => hb (by simp [z]))).trans (hk b ob (fun z => hb (by simp [z])) (fun z => hb (by simp [z])) q)) hf (Nat.le_refl _) new
    refine ⟨.ref s.heap.objs.size, _, I1, rfl, ⟨_, x, rfl, I.hok.fresh (Nat.le_refl _), rfl, fun ys hy => by rw [I.tuple_inj hy hq]; exact hx⟩, ⟨⟨u, ?_⟩, ?_, hne⟩, fun b hb => ?_⟩
    · have e1 : ((i + 1 : Nat) : Int) = (i : Int) + 1 := by omega
      rw [e1]; exact he'
    · obtain ⟨o, q, r⟩ := hst'.1
      exact ⟨o, (sb.2 it (Ne.symm hne)).trans q, r⟩
    · have hb' : b < s.heap.objs.size := by
        have e' : b = e ∨ b = it := by simpa using hb
        rcases e' with z | z
        · rw [z]; exact hel
        · rw [z]; exact hil
      rw [upd_ne (Nat.ne_of_lt hb')]
      exact (hf b hb).1
  done := by
    intro X hP hw hK hc i pins s σ H E I hf st hg
    subst hP hw hK
    obtain ⟨⟨old, he⟩, hit, hne⟩ := st
    obtain ⟨xs, hq, hx⟩ := hg
    obtain ⟨its, rv, p, hz⟩ := I.tuple hq
    obtain ⟨f0, f1, f2, f3, f4, f5⟩ := hf it (by simp)
    have hl := rv.length
    have pT : s.heap.IsTuple a its.toArray := p
    have nit : a ≠ it := fun z => by
      subst z
      obtain ⟨o, ho, hc', _⟩ := pT
      obtain ⟨o', ho', hc'', _⟩ := hit
      rw [ho] at ho'
      cases ho'
      rw [hc'] at hc''
      exact absurd hc'' (by decide +kernel)
    have hn : its.toArray.size = i := by
      rw [← hx, hl]
      simp
    subst hn
    exact wpAny_pyNext_enum_endD (Draws.tuple (by exact I.ok.hd hc) it a nit its.toArray) he ⟨hit, pT⟩ fun h' eb => ⟨rfl, I.turned (t' := s.toks) (fun b o hb q => eb b o hb q) f0 f1 f3 f4 f5⟩
  self := fun A i s Q E st h => let ⟨⟨_, he⟩, _⟩ := st; wpAny_pyIter_enum he h
def iEnumS (K : PySem.W.Frag) (ta : TA) : TI := fun σ H R => ta σ H fun vs H1 => ∃ a xs, vs = [.ref a] ∧ ((SqL K H1 a xs ∧ R (Ite K a) H1) ∨ (SqT K H1 a xs ∧ R (IteT K a) H1))
theorem pi_enumS {X : Cx} {e : Expr} {ta : TA} {p pos tpos : Pos} {elts : List Expr} {kk : Nat} (hg : Gl X "enumerate") (hm : X.mg "enumerate" = none) (ha : PA X [e] ta) (hs : starEach [e] X.env = [(false, eval e X.env)] := by rfl) :
    PI X (.Tuple elts kk tpos) (.Call (.Name "enumerate" p) [e] [] pos) (iEnumS X.K ta) := by
  refine ⟨fun pins s σ H R I h => ?_⟩
  refine Call_ (ld_blt I hg hm boot_enumerate (PyProof.Rows.callWith_type1 (thn (ha.run pos pins s σ H _ I h) fun us s1 ⟨vs, H1, I1, r1, q1⟩ => ?_) hs rfl))
  obtain ⟨a, xs, ex, q1⟩ := q1
  subst ex
  cases r1 with
  | cons r rr =>
    cases rr
    cases r
    have fin : ∀ (h' : Heap) (itx : Addr), itx = s1.heap.objs.size → (∀ b o, s1.heap.get? b = some o → h'.get? b = some o) → ∀ b ∈ [s1.heap.objs.size + 1, itx], FpOk X pins H1 b := fun h' itx ei hk b hb => by
      have hle : s1.heap.objs.size ≤ b := by
        have e' : b = s1.heap.objs.size + 1 ∨ b = itx := by simpa using hb
        rcases e' with z | z
        · rw [z]; exact Nat.le_add_right _ _
        · rw [z, ei]; exact Nat.le_refl _
      exact I1.fpOk hle (I1.hok.fresh hle)
    rcases q1 with ⟨hq, q⟩ | ⟨hq, q⟩
    · obtain ⟨its, rv, p', hz⟩ := I1.list hq
      refine call_enumerate_list p'.isList fun h' he hit hsz hk => wpAny_pyIter_enum he ?_
      have I2 : Inv X pins σ H1 { s1 with heap := h' } := I1.kept (t' := s1.toks) hk
      exact ⟨s1.heap.objs.size + 1, [s1.heap.objs.size + 1, s1.heap.objs.size], _, _, H1, rfl, I2, turn_enum a (s1.heap.objs.size + 1) s1.heap.objs.size, ⟨⟨.none, he⟩, hit, Nat.succ_ne_self _⟩, fin h' _ rfl hk, q⟩
    · obtain ⟨its, rv, p', hz⟩ := I1.tuple hq
      refine enum_begins1 (begins_tuple a its.toArray) (show s1.heap.IsTuple a its.toArray from p') fun h' he hit hsz hk => wpAny_pyIter_enum he ?_
      have I2 : Inv X pins σ H1 { s1 with heap := h' } := I1.kept (t' := s1.toks) hk
      exact ⟨s1.heap.objs.size + 1, [s1.heap.objs.size + 1, s1.heap.objs.size], _, _, H1, rfl, I2, turn_enumT a (s1.heap.objs.size + 1) s1.heap.objs.size, ⟨⟨.none, he⟩, ⟨_, hit, rfl, rfl⟩, Nat.succ_ne_self _⟩, fin h' _ rfl hk, q⟩
theorem walk_enumT {K : PySem.W.Frag} {a : Addr} {xs : List V} : Walk (IteT K a) xs.length (fun H => SqT K H a xs) (YPair (fun i => some (.int (i : Nat))) (fun i => xs[i]?)) := by
  refine ⟨fun i _ hi q => ⟨xs, xs[i], q, by simp [hi]⟩, fun _ q => ⟨xs, q, rfl⟩, fun i H v H' _ q y => ?_⟩
  obtain ⟨T, x, h1, h2, h3, h4⟩ := y
  exact ⟨T, .int (i : Nat), x, h1, h2, h3, rfl, h4 xs q⟩
section
variable {K : PySem.W.Frag} {σ : L2.St} {H H' : Hp} {D : Ends} {tu tz : TS}
/-- for i, x in enumerate(xs), xs a list or a tuple -/
theorem s_forEnS {ta : TA} {i j : Nat} {a : Addr} {xs : List V} (h : EvA ta σ H [.ref a]) (G : Hp → Prop) (hG : (∀ H, G H → SqL K H a xs) ∨ (∀ H, G H → SqT K H a xs)) (hx : ∀ H1, Ex H H1 → G H1) (Pv : Nat → L2.St → Hp → Prop) (h0 : ∀ H1, Ex H H1 → Pv 0 σ H1) (hl : ∀ n σ' H', n ≤ xs.length → Pv n σ' H' → G H')
    (hs : ∀ n x σ' H' H2, xs[n]? = some x → Pv n σ' H' → Ex H' H2 → tu { D with nx := Pv (n + 1), ct := Pv (n + 1), bk := D.nx } ((σ'.set i (some (.int (n : Int)))).set j (some x)) H2) (hd : ∀ σ' H', Pv xs.length σ' H' → D.nx σ' H') :
    tFor (iEnumS K ta) (gTup K 2 (gCons (gName i) (gCons (gName j) gNil))) tu D σ H := h H (Ex.refl H) _ fun H1 e => by
  have turn : ∀ n v σ' Hh H2, n < xs.length → Pv n σ' Hh → YPair (fun i => some (.int (i : Nat))) (fun i => xs[i]?) n Hh v H2 → gTup K 2 (gCons (gName i) (gCons (gName j) gNil)) v σ' H2 fun σ2 H3 => tu { D with nx := Pv (n + 1), ct := Pv (n + 1), bk := D.nx } σ2 H3 := by
    rintro n v σ' Hh H2 hn p ⟨T, x, y, rfl, nT, rfl, g1, g2⟩
    have ex : V.int (n : Nat) = x := Option.some.inj g1
    subst ex
    exact ⟨T, [.int (n : Nat), y], rfl, st_of upd_same, rfl, _, [y], rfl, y, [], rfl, rfl, hs n y σ' Hh _ g2 p (Ex.new nT)⟩
  rcases hG with hG | hG
  · exact ⟨a, xs, rfl, .inl ⟨hG _ (hx H1 e), for_it walk_enum Pv (h0 H1 e) (fun n σ' H' hn p => hG _ (hl n σ' H' hn p)) (fun n v σ' Hh H2 => turn n v σ' Hh H2) hd⟩⟩
  · exact ⟨a, xs, rfl, .inr ⟨hG _ (hx H1 e), for_it walk_enumT Pv (h0 H1 e) (fun n σ' H' hn p => hG _ (hl n σ' H' hn p)) (fun n v σ' Hh H2 => turn n v σ' Hh H2) hd⟩⟩
end
end Kit

set_option Elab.async false
set_option linter.all false
set_option maxRecDepth 100000
set_option maxHeartbeats 4000000
namespace Kit
open PySem PySem.Spec PyProof.Rows L2 Evl
/-! list(range(a, b, c)) -/
def rgC (i c : Int) (n : Nat) : List V := (List.range n).map fun k => V.int (i + (k : Nat) * c)
def PRgC (X : Cx) (e : Expr) (t : L2.St → Hp → (Int → Int → Int → Hp → Prop) → Prop) : Prop :=
  ∀ (pins : List (Addr × Obj)) (s : Shared) (σ : L2.St) (H : Hp) (Q : Int → Int → Int → Hp → Prop), Inv X pins σ H s → t σ H Q →
    wpAny (model X.prog X.w) X.A (eval e X.env) (fun x s' => ∃ r a b c t u v H', x = .ref r ∧ IsRange s'.heap r a b c t u v ∧ Inv X pins σ H' s' ∧ Q a b c H') X.xe s
def tRg3 (ta : TA) : L2.St → Hp → (Int → Int → Int → Hp → Prop) → Prop := fun σ H Q => ta σ H fun vs H1 => ∃ i j c, vs = [.int i, .int j, .int c] ∧ (c ≠ 0 ∧ c.natAbs < 1073741824) ∧ Q i j c H1
section
variable {X : Cx}
theorem prg_3 {a b c : Expr} {ta : TA} {p pos : Pos} (hg : Gl X "range") (hm : X.mg "range" = none) (ha : PA X [a, b, c] ta)
    (hs : starEach [a, b, c] X.env = (false, eval a X.env) :: starEach [b, c] X.env := by rfl) (hpl : (backTo pos (starEach [b, c] X.env)).any (·.1) = false := by rfl) : PRgC X (.Call (.Name "range" p) [a, b, c] [] pos) (tRg3 ta) := by
  intro pins s σ H Q I h
  refine Call_ (ld_blt I hg hm boot_range (PyProof.Rows.callWith_type1 (thn (ha.run pos pins s σ H _ I h) fun us s1 ⟨vs, H1, I1, r1, q1⟩ => ?_) hs hpl))
  obtain ⟨i, j, k, e, ⟨c0, c1⟩, q⟩ := q1
  subst e
  cases r1 with
  | cons r rr =>
    cases rr with
    | cons r' rr =>
      cases rr with
      | cons r'' rr =>
        cases rr
        obtain ⟨t, rfl⟩ := r
        obtain ⟨t', rfl⟩ := r'
        obtain ⟨t'', rfl⟩ := r''
        exact call_range_3 c0 ⟨_, i, j, k, _, _, _, H1, rfl, IsRange.new _ _ _ _ _ _ _, I1.kept fun b u e => Heap.get?_push_of_some _ e, q⟩ (.inl (PyProof.noPylong_small c1))
theorem vals_rgC {a c : Int} {n : Nat} {acc : Array Value} (h : ItemsOf (fun i v => ∃ t, v = .int (a + i * c) t) acc n) : Vals (rgC a c n) acc.toList := by
  have e : acc.toList.length = n := by rw [Array.length_toList]; exact h.1
  unfold rgC
  rw [← e]
  refine vals_of_get acc.toList _ fun j u hj => ?_
  obtain ⟨t, rfl⟩ := h.2 j u (by rw [← hj, Array.getElem?_toList])
  exact ⟨t, rfl⟩
def tLstRgC (te : L2.St → Hp → (Int → Int → Int → Hp → Prop) → Prop) : TE := fun σ H Q => te σ H fun a b c H1 => ∃ n : Nat, (Builtin.Range.small a b c = true ∧ Builtin.Range.rangeSize a b c = n ∧ n ≤ 2 ^ 24) ∧ ∀ q, H1 q = none → Q (.ref q) (upd H1 q (.lst (rgC a c n)))
theorem pe_listRgC {e : Expr} {te : L2.St → Hp → (Int → Int → Int → Hp → Prop) → Prop} {p pos : Pos} (hc : X.calm = true) (hg : Gl X "list") (hm : X.mg "list" = none) (he : PRgC X e te) (na : starEach [e] X.env = (false, eval e X.env) :: starEach [] X.env := by rfl) : PE X (.Call (.Name "list" p) [e] [] pos) (tLstRgC te) := by
  refine ⟨fun pins s σ H Q I h => ?_⟩
  refine Call_ (ld_blt I hg hm boot_list (PyProof.Rows.callWith_type1 (args_cons (thn (he pins s σ H _ I h) fun x s1 ⟨r, a, b, c, t, u, v, H1, ex, hr, I1, n, ⟨ok1, ok2, ok3⟩, q⟩ => args_nil ?_) na) na))
  subst ex
  refine call_list_range (n := n) (I1.ok.hd hc) hr ok1 ok2 ok3 fun h' tk acc c' hk e' hi => ?_
  refine ⟨.ref s1.heap.objs.size, upd H1 s1.heap.objs.size (.lst (rgC a c n)), I1.laid hk (Nat.le_refl _) (show ObjOk X.prog X.w _ _ _ (.lst (rgC a c n)) from ⟨?_, acc.toList, c', vals_rgC hi, ?_⟩), rfl, q _ (I1.hok.fresh (Nat.le_refl _))⟩
  · unfold rgC
    rw [List.length_map, List.length_range, sizeLine_eq]
    omega
  · rw [Array.toArray_toList]; exact e'
end
theorem el_down {σ : L2.St} {H : Hp} {ta : TA} {i j : Int} (h : EvA ta σ H [.int i, .int j, .int (-1)]) (hi : 0 ≤ i ∧ i ≤ 1000) (hj : -1 ≤ j ∧ j ≤ 1000) : EvL (tLstRgC (tRg3 ta)) σ H (rgC i (-1) (i - j).toNat) := fun H1 e Q q =>
  h H1 e _ fun H2 e2 => ⟨i, j, -1, rfl, ⟨by decide, by decide⟩, (i - j).toNat, ⟨(RgC.neg (by omega) (by omega) (by omega) (by omega)).2.2.1, (RgC.neg (by omega) (by omega) (by omega) (by omega)).2.2.2, by omega⟩, fun l hl => q l _ (fresh_back e2 hl) (e2.trans (Ex.new hl)) upd_same⟩
end Kit

set_option Elab.async false
set_option linter.all false
set_option maxRecDepth 100000
set_option maxHeartbeats 4000000
namespace Kit
open PySem PySem.Spec PyProof.Rows L2 Evl
/-! ### any thing: none, bools, ints, texts, tuples, dicts, lists of data -/
inductive It (K : PySem.W.Frag) (H : Hp) : V → PyData → Prop
  | non : It K H .non .none
  | bl (b : Bool) : It K H (.bl b) (.bool b)
  | int (i : Int) : It K H (.int i) (.int i)
  | str (x : Str) : It K H (.str x) (.str x)
  | lst {a : Addr} {xs : List V} {ds : List PyData} (h : H a = some (.lst xs)) (hd : DpAll K H xs ds) : It K H (.ref a) (.list ds)
theorem It.ex {K : PySem.W.Frag} {H H' : Hp} {v : V} {d : PyData} (e : Ex H H') (h : It K H v d) : It K H' v d := by
  cases h with
  | non => exact .non
  | bl b => exact .bl b
  | int i => exact .int i
  | str x => exact .str x
  | lst h hd => exact .lst (e _ _ h) (DpAll.ex e _ _ hd)
theorem It.dp {K : PySem.W.Frag} {H : Hp} {v : V} {d : PyData} (h : It K H v d) : Dp K H v d := by
  cases h with
  | non => exact .non
  | bl b => exact .bl b
  | int i => exact .int i
  | str x => exact .str x
  | lst h hd => exact .lst (sq_of h) hd
def ItAll (K : PySem.W.Frag) (H : Hp) (vs : List V) (ds : List PyData) : Prop := Paired (It K H) vs ds
theorem ItAll.ex {K : PySem.W.Frag} {H H' : Hp} (e : Ex H H') : ∀ {vs : List V} {ds : List PyData}, ItAll K H vs ds → ItAll K H' vs ds
  | _, _, .nil => .nil
  | _, _, .cons h t => .cons (h.ex e) (ItAll.ex e t)
theorem ItAll.dp {K : PySem.W.Frag} {H : Hp} : ∀ {vs : List V} {ds : List PyData}, ItAll K H vs ds → DpAll K H vs ds
  | _, _, .nil => .nil
  | _, _, .cons h t => .cons h.dp (ItAll.dp t)
theorem ItAll.app {K : PySem.W.Frag} {H : Hp} : ∀ {vs ws : List V} {ds es : List PyData}, ItAll K H vs ds → ItAll K H ws es → ItAll K H (vs ++ ws) (ds ++ es)
  | _, _, _, _, .nil, q => q
  | _, _, _, _, .cons h t, q => .cons h (ItAll.app t q)
theorem ItAll.len {K : PySem.W.Frag} {H : Hp} {vs : List V} {ds : List PyData} (h : ItAll K H vs ds) : vs.length = ds.length := Paired.length h
theorem ita_ints {K : PySem.W.Frag} {H : Hp} : ∀ ns : List Int, ItAll K H (ns.map V.int) (ns.map PyData.int)
  | [] => .nil
  | n :: r => .cons (.int n) (ita_ints r)
def Fine (ds : List PyData) : Prop := ∀ d ∈ ds, d.canLay0 = true ∧ d.depth ≤ 5
theorem fine_nil : Fine [] := fun d h => by cases h
theorem fine_cons {d : PyData} {ds : List PyData} (h : d.canLay0 = true) (h2 : d.depth ≤ 5) (t : Fine ds) : Fine (d :: ds) := fun x hx => by
  rcases List.mem_cons.mp hx with e | e
  · rw [e]
    exact ⟨h, h2⟩
  · exact t x e
theorem fine_app {ds es : List PyData} (h : Fine ds) (h2 : Fine es) : Fine (ds ++ es) := fun x hx => (List.mem_append.mp hx).elim (h x) (h2 x)
theorem fine_ints : ∀ ns : List Int, Fine (ns.map PyData.int)
  | [] => fine_nil
  | n :: r => fine_cons rfl (Nat.zero_le _) (fine_ints r)
theorem Fine.sub {ds es : List PyData} (h : Fine ds) (s : ∀ x ∈ es, x ∈ ds) : Fine es := fun x hx => h x (s x hx)
theorem Fine.shaped {ds : List PyData} (h : Fine ds) : SeqAt.shaped (.list ds) = true := by
  have : PyData.canLayAll0 ds = true ∧ PyData.depthAll ds ≤ 5 := by
    induction ds with
    | nil => exact ⟨rfl, Nat.zero_le _⟩
    | cons d r ih =>
      obtain ⟨a, b⟩ := ih fun x hx => h x (List.mem_cons_of_mem _ hx)
      obtain ⟨c, e⟩ := h d List.mem_cons_self
      refine ⟨by simp [PyData.canLayAll0, a, c], ?_⟩
      simp [PyData.depthAll]
      omega
  simp [SeqAt.shaped, PyData.canLay0, this.1, PyData.depth]
  omega
inductive Th (K : PySem.W.Frag) (H : Hp) : V → Option (List PyData) → Prop
  | non : Th K H .non none
  | bl (b : Bool) : Th K H (.bl b) none
  | int (i : Int) : Th K H (.int i) none
  | str (x : Str) : Th K H (.str x) none
  | tup {a : Addr} {xs : List V} (h : H a = some (.tup xs)) : Th K H (.ref a) none
  | dct {a : Addr} {kvs : List (Key × V)} (h : H a = some (.dK kvs)) : Th K H (.ref a) none
  | lst {a : Addr} {xs : List V} {ds : List PyData} (h : H a = some (.lst xs)) (hd : ItAll K H xs ds) (hf : Fine ds) : Th K H (.ref a) (some ds)
def AT (K : PySem.W.Frag) (H : Hp) (v : V) : Prop := ∃ o, Th K H v o
section
variable {K : PySem.W.Frag} {σ : L2.St} {H H' : Hp} {te ta tb : TE} {t tr : TA}
theorem Th.ex {v : V} {o : Option (List PyData)} (e : Ex H H') (h : Th K H v o) : Th K H' v o := by
  cases h with
  | non => exact .non
  | bl b => exact .bl b
  | int i => exact .int i
  | str x => exact .str x
  | tup h => exact .tup (e _ _ h)
  | dct h => exact .dct (e _ _ h)
  | lst h hd hf => exact .lst (e _ _ h) (hd.ex e) hf
theorem AT.ex {v : V} (e : Ex H H') (h : AT K H v) : AT K H' v := h.imp fun _ x => x.ex e
def EvTh (K : PySem.W.Frag) (te : TE) (σ : L2.St) (H : Hp) : Prop := ∀ H1, Ex H H1 → ∀ Q : VK, (∀ v H2, Ex H1 H2 → AT K H2 v → Q v H2) → te σ H1 Q
def EvThA (K : PySem.W.Frag) (ta : TA) (σ : L2.St) (H : Hp) (n : Nat) : Prop := ∀ H1, Ex H H1 → ∀ Q : List V → Hp → Prop, (∀ vs H2, Ex H1 H2 → vs.length = n → (∀ v ∈ vs, AT K H2 v) → Q vs H2) → ta σ H1 Q
theorem tha_nil : EvThA K tNil σ H 0 := fun H1 _ _ q => q [] H1 (Ex.refl H1) rfl (by simp)
theorem tha_cons {n : Nat} (h : EvTh K te σ H) (hr : EvThA K tr σ H n) : EvThA K (tCons te tr) σ H (n + 1) := fun H1 e _ q =>
  h H1 e _ fun v H2 e2 hv => hr H2 (e.trans e2) _ fun vs H3 e3 hl hvs => q (v :: vs) H3 (e2.trans e3) (by simp [hl]) fun x hx => by
    rcases List.mem_cons.mp hx with z | z
    · rw [z]
      exact hv.ex e3
    · exact hvs x z
theorem th_non (h : Ev te σ H .non) : EvTh K te σ H := fun H1 e Q q => h H1 e Q fun H2 e2 => q _ H2 e2 ⟨_, .non⟩
theorem th_bl {b : Bool} (h : Ev te σ H (.bl b)) : EvTh K te σ H := fun H1 e Q q => h H1 e Q fun H2 e2 => q _ H2 e2 ⟨_, .bl b⟩
theorem th_int {i : Int} (h : Ev te σ H (.int i)) : EvTh K te σ H := fun H1 e Q q => h H1 e Q fun H2 e2 => q _ H2 e2 ⟨_, .int i⟩
theorem th_str {x : Str} (h : Ev te σ H (.str x)) : EvTh K te σ H := fun H1 e Q q => h H1 e Q fun H2 e2 => q _ H2 e2 ⟨_, .str x⟩
theorem th_U {xs : List V} (h : EvU te σ H xs) : EvTh K te σ H := fun H1 e Q q => h H1 e Q fun p H2 _ e2 h2 => q _ H2 e2 ⟨_, .tup h2⟩
theorem th_L {xs : List V} (h : EvL te σ H xs) (hd : ∃ ds, ItAll K H xs ds ∧ Fine ds) : EvTh K te σ H := fun H1 e Q q => h H1 e Q fun p H2 _ e2 h2 => q _ H2 e2 (by
  obtain ⟨ds, d, f⟩ := hd
  exact ⟨_, .lst h2 (d.ex (e.trans e2)) f⟩)
def EvIA (K : PySem.W.Frag) (ta : TA) (σ : L2.St) (H : Hp) (ds : List PyData) : Prop := ∀ H1, Ex H H1 → ∀ Q : List V → Hp → Prop, (∀ vs H2, Ex H1 H2 → ItAll K H2 vs ds → Q vs H2) → ta σ H1 Q
def EvI (K : PySem.W.Frag) (te : TE) (σ : L2.St) (H : Hp) (d : PyData) : Prop := ∀ H1, Ex H H1 → ∀ Q : VK, (∀ v H2, Ex H1 H2 → It K H2 v d → Q v H2) → te σ H1 Q
theorem ia_nil : EvIA K tNil σ H [] := fun H1 _ _ q => q [] H1 (Ex.refl H1) .nil
theorem ia_cons {d : PyData} {ds : List PyData} (h : EvI K te σ H d) (hr : EvIA K tr σ H ds) : EvIA K (tCons te tr) σ H (d :: ds) := fun H1 e _ q =>
  h H1 e _ fun v H2 e2 dv => hr H2 (e.trans e2) _ fun vs H3 e3 dvs => q (v :: vs) H3 (e2.trans e3) (.cons (dv.ex e3) dvs)
theorem it_of {v : V} {d : PyData} (h : Ev te σ H v) (k : It K H v d) : EvI K te σ H d := fun H1 e Q q => h H1 e Q fun H2 e2 => q v H2 e2 (k.ex (e.trans e2))
theorem it_D {ds : List PyData} (h : EvDA K t σ H ds) (hl : ds.length ≤ 100000) : EvI K (tLst t) σ H (.list ds) := fun H1 e Q q =>
  h H1 e _ fun vs H2 e2 dv => ⟨sz_of (by rw [DpAll.len dv]; exact hl), fun p hp => q _ _ (e2.trans (Ex.new hp)) (.lst upd_same (DpAll.ex (Ex.new hp) ds vs dv))⟩
theorem th_D {ds : List PyData} (h : EvIA K t σ H ds) (hf : Fine ds) (hl : ds.length ≤ 100000) : EvTh K (tLst t) σ H := fun H1 e Q q =>
  h H1 e _ fun vs H2 e2 dv => ⟨sz_of (by rw [dv.len]; exact hl), fun p hp => q _ _ (e2.trans (Ex.new hp)) ⟨_, .lst upd_same (dv.ex (Ex.new hp)) hf⟩⟩
theorem th_var {i : Nat} {v : V} (h : σ[i]? = some (some v)) (hv : AT K H v) : EvTh K (tVar i) σ H := fun H1 e Q q => ⟨v, h, q v H1 (Ex.refl _) (hv.ex e)⟩
theorem th_dnew : EvTh K tDNewK σ H := fun H1 e Q q p hp => q _ _ (Ex.new hp) ⟨_, .dct upd_same⟩
theorem th_disp {x : Str} {i : Int} : EvTh K (tDisp [(tC (.str x), tC (.int i))]) σ H := fun H1 e Q q p hp =>
  ⟨upd_same, [(.inr x, .int i)], rfl, Nat.le_of_ble_eq_true rfl, q _ _ (Ex.mut (Ex.new hp) hp) ⟨_, .dct upd_same⟩⟩
/-- [.., ..] of things: a new list -/
def EvTL (K : PySem.W.Frag) (te : TE) (σ : L2.St) (H : Hp) (n : Nat) : Prop := ∀ H1, Ex H H1 → ∀ Q : VK, (∀ p vs H2, H1 p = none → Ex H1 H2 → H2 p = some (.lst vs) → vs.length = n → (∀ v ∈ vs, AT K H2 v) → Q (.ref p) H2) → te σ H1 Q
theorem tl_lst {n : Nat} (h : EvThA K t σ H n) (hn : n ≤ 100000) : EvTL K (tLst t) σ H n := fun H1 e Q q =>
  h H1 e _ fun vs H2 e2 hl hv => ⟨sz_of (by omega), fun p hp => q p vs _ (fresh_back e2 hp) (e2.trans (Ex.new hp)) upd_same hl fun v z => (hv v z).ex (Ex.new hp)⟩
theorem tl_cat {a : Addr} {xs : List V} {n : Nat} (h : Ev ta σ H (.ref a)) (ha : H a = some (.lst xs)) (hx : ∀ v ∈ xs, AT K H v) (h2 : EvTL K tb σ H n) (hz : xs.length + n ≤ 1000) : EvTL K (tOp rCat ta tb) σ H (xs.length + n) := fun H1 e Q q =>
  h H1 e _ fun H2 e2 => h2 H2 (e.trans e2) _ fun p vs H3 _ e3 h3 hl hv =>
    ⟨a, p, xs, vs, rfl, rfl, e3 a _ (e2 a _ (e a _ ha)), h3, sz_of (by omega), fun l hl' => q l _ _ (fresh_back (e2.trans e3) hl') ((e2.trans e3).trans (Ex.new hl')) upd_same (by rw [List.length_append, hl]) fun v z => by
      rcases List.mem_append.mp z with z | z
      · exact (hx v z).ex (e.trans (e2.trans (e3.trans (Ex.new hl'))))
      · exact (hv v z).ex (Ex.new hl')⟩
/-- x + ys, x an old list -/
theorem el_catO {a : Addr} {xs ys : List V} (h : Ev ta σ H (.ref a)) (ha : H a = some (.lst xs)) (h2 : EvL tb σ H ys) (hz : xs.length + ys.length ≤ 1000) : EvL (tOp rCat ta tb) σ H (xs ++ ys) := fun H1 e Q q =>
  h H1 e _ fun H2 e2 => h2 H2 (e.trans e2) _ fun p H3 _ e3 h3 =>
    ⟨a, p, xs, ys, rfl, rfl, e3 a _ (e2 a _ (e a _ ha)), h3, sz_of (by omega), fun l hl' => q l _ (fresh_back (e2.trans e3) hl') ((e2.trans e3).trans (Ex.new hl')) upd_same⟩
end
/-! ### the type of any thing -/
def kTyp2 (x : V) (H : Hp) (Q : VK) : Prop := ∃ n, (zTyV x H = some n ∨ (n = "dict" ∧ ∃ a kvs, x = .ref a ∧ H a = some (.dK kvs))) ∧ Q (.ty n) H
def rNeTyG : R2 := fun x y H Q => ∃ m n, x = .ty m ∧ y = .ty n ∧ Meta m ∧ Meta n ∧ Q (.bl (!decide (m = n))) H
section
variable {X : Cx} {ta : TE} {a : Expr}
theorem rl_type2 (pins : List (Addr × Obj)) (st : Shared) (σ : L2.St) (H : Hp) (x : V) (u : Value) (Q : VK) (J : Inv X pins σ H st) (r : RelV x u) (h : kTyp2 x H Q) :
    wpAny (model X.prog X.w) X.A (call (.type "type") [u]) (EP X pins σ Q) X.xe st := by
  obtain ⟨n, e | ⟨rfl, a, kvs, rfl, ha⟩, q⟩ := h
  · exact rl_type pins st σ H x u Q J r ⟨n, e, q⟩
  · cases (show u = Value.ref a from r)
    obtain ⟨_, _, vs, _, o, es, ep, h1, h2, _⟩ := (show ObjOk X.prog X.w H st.heap a (.dK kvs) from J.hok a _ ha)
    exact call_type_of (Tx := "dict") ⟨o, h1, h2.1⟩ (by decide +kernel) ⟨.ty "dict", H, J, rfl, q⟩
theorem pe_typeOf2 {p pos : Pos} (hg : Gl X "type") (hm : X.mg "type" = none) (ha : PE X a ta) (na : starEach [a] X.env = (false, eval a X.env) :: starEach [] X.env := by rfl) :
    PE X (.Call (.Name "type" p) [a] [] pos) (tThenZ ta kTyp2) := pe_callTy (call_r1 rl_type2) hg hm (by decide +kernel) (pa_cons ha pa_nil na) (he := na)
theorem op_neTyG (hu : X.A.units + 1 < cLine) : OpR X (compareOp .NotEq) rNeTyG := by
  intro pins st σ H x y v u Q J rx ry h
  obtain ⟨m, n, rfl, rfl, hm, hn, q⟩ := h
  cases (show v = Value.type m from rx)
  cases (show u = Value.type n from ry)
  by_cases e : m = n
  · subst e
    exact ne_type_same hm hu ⟨.bl false, H, J, rfl, by simpa using q⟩
  · exact ne_type_other hm hn (by rw [beq_eq_false_iff_ne]; exact fun z => e (Value.type.inj z)) hu ⟨.bl true, H, J, rfl, by simpa [e] using q⟩
end
section
variable {K : PySem.W.Frag} {σ : L2.St} {H : Hp} {ta tb : TE}
/-- the name of a thing's type -/
theorem th_type {v : V} {o : Option (List PyData)} (h : Th K H v o) : ∃ n, (zTyV v H = some n ∨ (n = "dict" ∧ ∃ a kvs, v = .ref a ∧ H a = some (.dK kvs))) ∧ Meta n ∧ (n = "list" ↔ o.isSome = true) := by
  cases h with
  | non => exact ⟨"NoneType", .inl rfl, PySem.TypeEq.meta_NoneType, by simp⟩
  | bl b => exact ⟨"bool", .inl rfl, PySem.TypeEq.meta_bool, by simp⟩
  | int i => exact ⟨"int", .inl rfl, PySem.TypeEq.meta_int, by simp⟩
  | str x => exact ⟨"str", .inl rfl, PySem.TypeEq.meta_str, by simp⟩
  | tup h => exact ⟨"tuple", .inl (by simp [zTyV, h]), PySem.TypeEq.meta_tuple, by simp⟩
  | dct h => exact ⟨"dict", .inr ⟨rfl, _, _, rfl, h⟩, PySem.TypeEq.meta_dict, by simp⟩
  | lst h _ _ => exact ⟨"list", .inl (by simp [zTyV, h]), PySem.TypeEq.meta_list, by simp⟩
/-- type(v) != list -/
theorem ev_noList {v : V} {o : Option (List PyData)} (h : Ev ta σ H v) (hv : Th K H v o) : Ev (tOp rNeTyG (tThenZ ta kTyp2) (tC (.ty "list"))) σ H (.bl (!o.isSome)) := fun H1 e Q q => h H1 e _ fun H2 e2 => by
  obtain ⟨n, hn, mt, iff⟩ := th_type (hv.ex (e.trans e2))
  refine ⟨n, hn, n, "list", rfl, rfl, mt, PySem.TypeEq.meta_list, ?_⟩
  have : decide (n = "list") = o.isSome := by
    rw [Bool.eq_iff_iff, decide_eq_true_iff]
    exact iff
  rw [this]
  exact q H2 e2
theorem th_is {v : V} {o : Option (List PyData)} (h : Th K H v o) : ∃ n, TyX K H v (.type n) ∧ PySem.W.kitOne K (.type n) (.type "list") = some o.isSome := by
  cases h with
  | non => exact ⟨_, .base .non, rfl⟩
  | bl b => exact ⟨_, .base (.bl b), rfl⟩
  | int i => exact ⟨_, .base (.int i), rfl⟩
  | str x => exact ⟨_, .base (.str x), rfl⟩
  | tup h => exact ⟨_, .base (.tup h), rfl⟩
  | dct h => exact ⟨_, .base (.dK h), rfl⟩
  | lst h _ _ => exact ⟨_, .base (.lst h), rfl⟩
/-- isinstance(v, list) -/
theorem ev_isList {v : V} {o : Option (List PyData)} (h : Ev ta σ H v) (hv : Th K H v o) : Ev (tCB (rIsi K) (tCons ta (tCons (tC (.ty "list")) tNil))) σ H (.bl o.isSome) := fun H1 e Q q => h H1 e _ fun H2 e2 => by
  obtain ⟨n, ht, hk⟩ := th_is (hv.ex (e.trans e2))
  exact ⟨v, .ty "list", .type n, .type "list", o.isSome, rfl, .ty "list", ht, hk, q H2 e2⟩
def isI : PyData → Bool
  | .int _ => true
  | _ => false
theorem it_type {v : V} {d : PyData} (h : It K H v d) : ∃ n, zTyV v H = some n ∧ Meta n ∧ decide (n = "int") = isI d := by
  cases h with
  | non => exact ⟨"NoneType", rfl, PySem.TypeEq.meta_NoneType, by simp [isI]⟩
  | bl b => exact ⟨"bool", rfl, PySem.TypeEq.meta_bool, by simp [isI]⟩
  | int i => exact ⟨"int", rfl, PySem.TypeEq.meta_int, by simp [isI]⟩
  | str x => exact ⟨"str", rfl, PySem.TypeEq.meta_str, by simp [isI]⟩
  | lst h _ => exact ⟨"list", by simp [zTyV, h], PySem.TypeEq.meta_list, by simp [isI]⟩
/-- type(v) == int -/
theorem ev_isWhole {v : V} {d : PyData} (h : Ev ta σ H v) (hv : It K H v d) : Ev (tOp rEqTy (tThenZ ta kTyp) (tC (.ty "int"))) σ H (.bl (isI d)) := fun H1 e Q q => h H1 e _ fun H2 e2 => by
  obtain ⟨n, hn, mt, iff⟩ := it_type (hv.ex (e.trans e2))
  refine ⟨n, hn, n, "int", rfl, rfl, mt, PySem.TypeEq.meta_int, ?_⟩
  rw [iff]
  exact q H2 e2
def isB : PyData → Bool
  | .bool _ => true
  | _ => false
theorem it_isB {v : V} {d : PyData} (h : It K H v d) : ∃ n, TyX K H v (.type n) ∧ PySem.W.kitOne K (.type n) (.type "bool") = some (isB d) := by
  cases h with
  | non => exact ⟨_, .base .non, rfl⟩
  | bl b => exact ⟨_, .base (.bl b), rfl⟩
  | int i => exact ⟨_, .base (.int i), rfl⟩
  | str x => exact ⟨_, .base (.str x), rfl⟩
  | lst h _ => exact ⟨_, .base (.lst h), rfl⟩
theorem it_isI {v : V} {d : PyData} (h : It K H v d) : ∃ n, TyX K H v (.type n) ∧ PySem.W.kitOne K (.type n) (.type "int") = some (isI d || isB d) := by
  cases h with
  | non => exact ⟨_, .base .non, rfl⟩
  | bl b => exact ⟨_, .base (.bl b), rfl⟩
  | int i => exact ⟨_, .base (.int i), rfl⟩
  | str x => exact ⟨_, .base (.str x), rfl⟩
  | lst h _ => exact ⟨_, .base (.lst h), rfl⟩
/-- isinstance(v, bool) or not isinstance(v, int) -/
theorem et_noInt {v : V} {d : PyData} (h : Ev ta σ H v) (hv : It K H v d) : EvT (tOr (tB (tCB (rIsi K) (tCons ta (tCons (tC (.ty "bool")) tNil)))) (tNot (tB (tCB (rIsi K) (tCons ta (tCons (tC (.ty "int")) tNil)))))) σ H (!isI d) := by
  have one : Ev (tCB (rIsi K) (tCons ta (tCons (tC (.ty "bool")) tNil))) σ H (.bl (isB d)) := fun H1 e Q q => h H1 e _ fun H2 e2 => by
    obtain ⟨n, ht, hb⟩ := it_isB (hv.ex (e.trans e2))
    exact ⟨v, .ty "bool", _, .type "bool", _, rfl, .ty "bool", ht, hb, q H2 e2⟩
  have two : Ev (tCB (rIsi K) (tCons ta (tCons (tC (.ty "int")) tNil))) σ H (.bl (isI d || isB d)) := fun H1 e Q q => h H1 e _ fun H2 e2 => by
    obtain ⟨n, ht, hb⟩ := it_isI (hv.ex (e.trans e2))
    exact ⟨v, .ty "int", _, .type "int", _, rfl, .ty "int", ht, hb, q H2 e2⟩
  refine et_is (et_or (et_B one) fun _ => et_not (et_B two)) ?_
  cases d <;> rfl
end
/-! tuple(range(a, b, c)) -/
def tTupRgC (te : L2.St → Hp → (Int → Int → Int → Hp → Prop) → Prop) : TE := fun σ H Q => te σ H fun a b c H1 => ∃ n : Nat, (Builtin.Range.small a b c = true ∧ Builtin.Range.rangeSize a b c = n ∧ n ≤ 2 ^ 24) ∧ ∀ q, H1 q = none → Q (.ref q) (upd H1 q (.tup (rgC a c n)))
theorem pe_tupRgC {X : Cx} {e : Expr} {te : L2.St → Hp → (Int → Int → Int → Hp → Prop) → Prop} {p pos : Pos} (calm : X.calm = true) (hg : Gl X "tuple") (hm : X.mg "tuple" = none) (he : PRgC X e te) (na : starEach [e] X.env = (false, eval e X.env) :: starEach [] X.env := by rfl) : PE X (.Call (.Name "tuple" p) [e] [] pos) (tTupRgC te) := by
  refine ⟨fun pins st σ H Q J h => ?_⟩
  refine Call_ (ld_blt J hg hm boot_tuple (PyProof.Rows.callWith_type1 (args_cons (thn (he pins st σ H _ J h) fun x s1 ⟨r, a, b, c, t, u, v, H1, ex, hr, J1, n, ⟨o1, o2, o3⟩, q⟩ => args_nil ?_) na) na))
  subst ex
  refine call_tuple_range (n := n) (J1.ok.hd calm) hr o1 o2 o3 fun h' tk acc keep its => ?_
  have J2 : Inv X pins σ H1 { s1 with heap := h', toks := tk } := J1.kept keep
  refine ⟨.ref h'.objs.size, upd H1 h'.objs.size (.tup (rgC a c n)), J2.laid (t' := tk) (fun z o e => Heap.get?_push_of_some _ e) (Nat.le_refl _) (show ObjOk X.prog X.w _ _ _ (.tup (rgC a c n)) from ⟨?_, acc.toList, vals_rgC its, ?_⟩), rfl, q _ (J2.hok.fresh (Nat.le_refl _))⟩
  · unfold rgC
    rw [List.length_map, List.length_range, sizeLine_eq]
    omega
  · rw [Array.toArray_toList]
    exact IsTup.new _ _
theorem eu_down {σ : L2.St} {H : Hp} {ta : TA} {i j : Int} (h : EvA ta σ H [.int i, .int j, .int (-1)]) (hi : 0 ≤ i ∧ i ≤ 1000) (hj : -1 ≤ j ∧ j ≤ 1000) : EvU (tTupRgC (tRg3 ta)) σ H (rgC i (-1) (i - j).toNat) := fun H1 e Q q =>
  h H1 e _ fun H2 e2 => ⟨i, j, -1, rfl, ⟨by decide, by decide⟩, (i - j).toNat, ⟨(RgC.neg (by omega) (by omega) (by omega) (by omega)).2.2.1, (RgC.neg (by omega) (by omega) (by omega) (by omega)).2.2.2, by omega⟩, fun l hl => q l _ (fresh_back e2 hl) (e2.trans (Ex.new hl)) upd_same⟩
/-! xs.index(x) where the written part must be said -/
theorem pe_indexK {X : Cx} {K : PySem.W.Frag} {o e : Expr} {to te : TE} {apos cpos : Pos} (hK : X.K = K) (ho : PE X o to) (he : PE X e te) (b : attributeBase o "index" X.env (eval o X.env) = eval o X.env := by rfl)
    (few : ((backTo cpos (starEach [e] X.env)).all (fun x => !x.1) && (backToKw cpos (keywordEach [] X.env)).all (fun x => x.1.isSome) && decide ([e].length + ([] : List Keyword).length + (if ([] : List Keyword).isEmpty then 0 else 1) < 30)) = true := by rfl)
    (line : (apos.endLine == cpos.line) = true := by rfl) (st : starEach [e] X.env = (false, eval e X.env) :: starEach [] X.env := by rfl) (pl : (backTo cpos (starEach [] X.env)).any (·.1) = false := by rfl) :
    PE X (.Call (.Attribute o "index" apos) [e] [] cpos) (tBM K "list" (rIndex K) to (tCons te tNil)) := by
  subst hK
  exact pe_bm PySem.F.plainAttrs_list PySem.F.slot_list_index PySem.F.type_list_index mt_index ho (pa_cons he pa_nil st) b few line st pl
theorem pe_revLK {X : Cx} {K : PySem.W.Frag} {e : Expr} {te : TE} {k : Nat} {p1 p2 p3 pos : Pos} (hK : X.K = K) (he : PE X e te) : PE X (.Subscript e (.Slice none none (some (.UnaryOp .USub (.Constant (.int 1) k p1) p2)) p3) pos) (tRevL K te) := by
  subst hK
  exact pe_revL he
end Kit

set_option Elab.async false
set_option linter.all false
set_option maxRecDepth 100000
set_option maxHeartbeats 4000000
namespace Kit
open PySem PySem.Spec PyProof.Rows L2 Evl
/-! ### data that repr shows, with long ints: at most n signs -/
structure ShN (d : PyData) (n : Nat) : Prop where
  shw : d.showable = true
  nod : d.hasDict = false
  len : d.shown.length ≤ n
  dep : d.depth ≤ 20
theorem shn_int {i : Int} (h : i.natAbs.log2 < 1920) : ShN (.int i) 1921 := ⟨decide_eq_true h, rfl, int_text_len_1921 h, Nat.zero_le _⟩
theorem shn_int2 {i : Int} (h : i.natAbs < 2 ^ 1900) : ShN (.int i) 1921 := shn_int (by
  by_cases z : i.natAbs = 0
  · rw [z]
    decide
  · exact Nat.lt_of_lt_of_le ((Nat.log2_lt z).mpr h) (by decide))
theorem shn_all {n : Nat} : ∀ {ds : List PyData}, (∀ d ∈ ds, ShN d n ∧ d.depth ≤ 19) → PyData.showableAll ds = true ∧ PyData.hasDictAll ds = false ∧ ((PyData.shownAll ds).map (·.length)).sum ≤ n * ds.length ∧ (PyData.shownAll ds).length = ds.length ∧ PyData.depthAll ds ≤ 19
  | [], _ => ⟨rfl, rfl, Nat.zero_le _, rfl, Nat.zero_le _⟩
  | d :: r, h => by
    obtain ⟨a, b, c, e, f⟩ := shn_all fun x hx => h x (List.mem_cons_of_mem _ hx)
    obtain ⟨⟨p, q, s, _⟩, t⟩ := h d List.mem_cons_self
    refine ⟨by simp [PyData.showableAll, a, p], by simp [PyData.hasDictAll, b, q], ?_, by simp [PyData.shownAll, e], by simp only [PyData.depthAll]; omega⟩
    simp only [PyData.shownAll, List.map_cons, List.sum_cons, List.length_cons, Nat.mul_succ]
    omega
theorem shn_list {ds : List PyData} {n : Nat} (h : ∀ d ∈ ds, ShN d n ∧ d.depth ≤ 19) : ShN (.list ds) ((n + 2) * ds.length + 3) := by
  obtain ⟨a, b, c, e, f⟩ := shn_all h
  refine ⟨by simpa [PyData.showable] using a, by simpa [PyData.hasDict] using b, ?_, by simp only [PyData.depth]; omega⟩
  have := listText_len_le (PyData.shownAll ds)
  show (listText (PyData.shownAll ds)).length ≤ _
  rw [e] at this
  rw [Nat.add_mul]
  omega
theorem shn_tup {ds : List PyData} {n : Nat} (h : ∀ d ∈ ds, ShN d n ∧ d.depth ≤ 19) : ShN (.tuple ds) ((n + 2) * ds.length + 3) := by
  obtain ⟨a, b, c, e, f⟩ := shn_all h
  refine ⟨by simpa [PyData.showable] using a, by simpa [PyData.hasDict] using b, ?_, by simp only [PyData.depth]; omega⟩
  have := tupleText_len_le (PyData.shownAll ds)
  show (tupleText (PyData.shownAll ds)).length ≤ _
  rw [e] at this
  rw [Nat.add_mul]
  omega
section
variable {K : PySem.W.Frag} {σ : L2.St} {H : Hp} {te : TE}
theorem ev_reprN {d : PyData} {n : Nat} (h : EvD K te σ H d) (hl : isDisplay d = true) (s : ShN d n) (hn : n ≤ 1000000) : Ev (tCB (rRepr K) (tCons te tNil)) σ H (.str d.shown) :=
  ev_repr h hl s.shw s.nod (by have := s.dep; omega) (Nat.le_trans s.len (Nat.le_trans hn (by rw [sizeLine_eq]; decide)))
end
end Kit

set_option Elab.async false
set_option linter.all false
set_option maxRecDepth 100000
set_option maxHeartbeats 4000000
namespace Kit
open PySem PySem.Spec PyProof.Rows L2 Evl
section
variable {K : PySem.W.Frag} {σ : L2.St} {H : Hp} {ta tb te : TE} {t : TT}
/-- max(xs), told by what it is -/
theorem ev_maxV {a : Addr} {ns : List Int} {m : Int} (h : Ev ta σ H (.ref a)) (ha : SqL K H a (ns.map V.int)) (hm : m ∈ ns) (hl : ∀ y ∈ ns, y ≤ m) : Ev (tCB (rMax K) (tCons ta tNil)) σ H (.int m) := fun H1 e Q q =>
  h H1 e _ fun H2 e2 => ⟨a, ns, rfl, ex_l (e.trans e2) ha, List.length_pos_of_mem hm, fun m' hm' hl' => by
    have h1 := hl m' hm'
    have h2 := hl' m hm
    have : m' = m := by omega
    rw [this]
    exact q H2 e2⟩
/-- [e for i, x in enumerate(xs) if t] -/
theorem el_en {ta : TA} {i j : Nat} {vs : List Nat} {a : Addr} {xs : List V} (f : Nat → Bool) (v : Nat → V) (h : EvA ta σ H [.ref a]) (hx : SqL K H a xs) (hz : xs.length ≤ 40000) (hw : ∀ x y, wipe (((wipe σ vs).set i (some x)).set j (some y)) vs = wipe σ vs)
    (ht : ∀ (n : Nat) x H1, Ex H H1 → xs[n]? = some x → EvT t (((wipe σ vs).set i (some (.int (n : Int)))).set j (some x)) H1 (f n))
    (he : ∀ (n : Nat) x H1, Ex H H1 → xs[n]? = some x → f n = true → Ev te (((wipe σ vs).set i (some (.int (n : Int)))).set j (some x)) H1 (v n)) :
    EvL (tLc (iEnum K ta) (gTup K 2 (gCons (gName i) (gCons (gName j) gNil))) t te vs) σ H (given xs.length f v) := fun H0 e Q q => h H0 e _ fun H1 e1 => ⟨a, xs, rfl, ex_l (e.trans e1) hx, fun Dl hD => by
  refine lc_it walk_enum (Cw H1 f v Dl) ⟨hD, Ex.new hD, upd_same⟩ (fun n H' _ p => ex_l ((e.trans e1).trans p.2.1) hx) ?_ fun H' p => q Dl H' (fresh_back e1 p.1) (e1.trans p.2.1) p.2.2
  rintro n w Hh H' hn p ⟨T, x, y, rfl, nT, rfl, g1, g2⟩
  have ex : V.int (n : Nat) = x := Option.some.inj g1
  subst ex
  have eT : Ex Hh (upd Hh T (.tup [.int (n : Nat), y])) := Ex.new nT
  refine ⟨T, [.int (n : Nat), y], rfl, st_of upd_same, rfl, _, [y], rfl, y, [], rfl, rfl, hw _ y, ?_⟩
  exact cw_turn (H := H1) ⟨p.1, p.2.1.trans eT, eT Dl _ p.2.2⟩ (by omega) (ht n y H1 (e.trans e1) g2) fun hf => he n y H1 (e.trans e1) g2 hf⟩
/-- [e for x, y in zip(xs, ys)], both new lists -/
theorem el_zipN {i j : Nat} {vs : List Nat} {xs ys : List V} (F : V → V → V) (h : EvL ta σ H xs) (h2 : EvL tb σ H ys) (hl : xs.length = ys.length) (hz : xs.length ≤ 40000) (hw : ∀ x y, wipe (((wipe σ vs).set i (some x)).set j (some y)) vs = wipe σ vs)
    (he : ∀ (n : Nat) x y H1, Ex H H1 → xs[n]? = some x → ys[n]? = some y → Ev te (((wipe σ vs).set i (some x)).set j (some y)) H1 (F x y)) :
    EvL (tLc (iZip K (tCons ta (tCons tb tNil))) (gTup K 2 (gCons (gName i) (gCons (gName j) gNil))) tYes te vs) σ H (List.zipWith F xs ys) := fun H0 e Q q =>
  h H0 e _ fun a H1 na e1 ha => h2 H1 (e.trans e1) _ fun b H2 nb e2 hb => by
    have := el_zip (K := K) (H := H2) (ta := fun _ H' R => R [.ref a, .ref b] H') (te := te) (vs := vs) F (fun H3 _ Q q => q H3 (Ex.refl _)) (sq_of (e2 a _ ha)) (sq_of hb) hl hz hw fun n x y H3 e3 g1 g2 => he n x y H3 (e.trans (e1.trans (e2.trans e3))) g1 g2
    exact this H2 (Ex.refl _) Q fun p H3 hp e3 h3 => q p H3 (fresh_back (e1.trans e2) hp) (e1.trans (e2.trans e3)) h3
/-- xs + y, y an old list; x + ys, x an old list -/
theorem el_catR {a : Addr} {xs ys : List V} (h : EvL ta σ H xs) (h2 : Ev tb σ H (.ref a)) (ha : H a = some (.lst ys)) (hz : xs.length + ys.length ≤ 1000) : EvL (tOp rCat ta tb) σ H (xs ++ ys) := fun H1 e Q q =>
  h H1 e _ fun p H2 _ e2 h3 => h2 H2 (e.trans e2) _ fun H3 e3 => ⟨p, a, xs, ys, rfl, rfl, e3 p _ h3, e3 a _ (e2 a _ (e a _ ha)), sz_of (by omega), fun l hl => q l _ (fresh_back (e2.trans e3) hl) ((e2.trans e3).trans (Ex.new hl)) upd_same⟩
theorem el_catL {a : Addr} {xs ys : List V} (h : Ev ta σ H (.ref a)) (ha : H a = some (.lst xs)) (h2 : EvL tb σ H ys) (hz : xs.length + ys.length ≤ 1000) : EvL (tOp rCat ta tb) σ H (xs ++ ys) := fun H1 e Q q =>
  h H1 e _ fun H2 e2 => h2 H2 (e.trans e2) _ fun p H3 _ e3 h3 => ⟨a, p, xs, ys, rfl, rfl, e3 a _ (e2 a _ (e a _ ha)), h3, sz_of (by omega), fun l hl => q l _ (fresh_back (e2.trans e3) hl) ((e2.trans e3).trans (Ex.new hl)) upd_same⟩
end
end Kit

set_option Elab.async false
set_option linter.all false
set_option maxRecDepth 100000
namespace Kit
open PySem PySem.Spec PyProof.Rows L2 Evl
def fac (n : Nat) : Nat := Builtin.Math.factorialNat n
theorem fac_succ (n : Nat) : fac (n + 1) = fac n * (n + 1) := PySem.W.mc_fac_succ n
theorem fac_pos (n : Nat) : 1 ≤ fac n := PySem.W.mc_fac_pos n
theorem fac_mono : ∀ {m n : Nat}, m ≤ n → fac m ≤ fac n := fun {m n} h => by
  induction h with
  | refl => exact Nat.le_refl _
  | step _ ih =>
    rw [Nat.succ_eq_add_one, fac_succ]
    exact Nat.le_trans ih (Nat.le_mul_of_pos_right _ (Nat.succ_pos _))
theorem fac20 : fac 20 < 2 ^ 64 := by decide +kernel
def rFac : List V → Hp → VK → Prop := fun vs H Q => ∃ n : Nat, vs = [.int (n : Int)] ∧ n ≤ 20000 ∧ Q (.int ((fac n : Nat) : Int)) H
section
variable {X : Cx}
theorem cr_factorial : CallR X (.builtin "math.factorial") rFac := by
  intro pins s σ H vs us Q I r h
  obtain ⟨n, rfl, hn, q⟩ := h
  cases r with
  | cons ru rt =>
    cases rt
    obtain ⟨t, rfl⟩ := ru
    refine PySem.W.mc_factorial (Int.natCast_nonneg n) (by omega) fun _ => ?_
    rw [Int.toNat_natCast]
    exact ⟨.int _, H, I.tok _, ⟨_, rfl⟩, q⟩
def rDivmod : List V → Hp → VK → Prop := fun xs H Q => ∃ i j, xs = [.int i, .int j] ∧ CDivP i j ∧ ∀ p, H p = none → Q (.ref p) (upd H p (.tup [.int (i / j), .int (i % j)]))
theorem call_divmodR : CallR X (.builtin "divmod") rDivmod := call_divmodW
end
section
variable {K : PySem.W.Frag} {σ : L2.St} {H : Hp} {ta tb te tl : TE} {D : Ends} {tu tz : TS}
theorem ev_fac {n : Nat} (h : Ev ta σ H (.int (n : Int))) (hn : n ≤ 20000) : Ev (tCB rFac (tCons ta tNil)) σ H (.int ((fac n : Nat) : Int)) := fun H1 e Q q => h H1 e _ fun H2 e2 => ⟨n, rfl, hn, q H2 e2⟩
theorem divp_small {i j : Int} (h : 0 < j) (hj : j.natAbs < 2 ^ 8000) : CDivP i j := ⟨h, PyProof.noPylong_of_log2 (by
  have h2 := (Nat.log2_lt (n := j.natAbs) (k := 8000) (by omega)).mpr hj
  omega)⟩
theorem eu_divmod {a b : Nat} (h : Ev ta σ H (.int (a : Int))) (h2 : Ev tb σ H (.int (b : Int))) (hb : 0 < b) (hb2 : b < 2 ^ 8000) : EvU (tCB rDivmod (tCons ta (tCons tb tNil))) σ H [.int ((a / b : Nat) : Int), .int ((a % b : Nat) : Int)] := fun H1 e Q q =>
  h H1 e _ fun H2 e2 => h2 H2 (e.trans e2) _ fun H3 e3 => ⟨a, b, rfl, divp_small (by omega) (by rw [Int.natAbs_natCast]; exact hb2), fun p hp => q p _ (fresh_back (e2.trans e3) hp) ((e2.trans e3).trans (Ex.new hp)) (by rw [upd_same, Int.natCast_ediv, Int.natCast_emod])⟩
end
end Kit

set_option Elab.async false
set_option linter.all false
set_option maxRecDepth 100000
set_option maxHeartbeats 4000000
namespace Kit
open PySem PySem.Spec PyProof.Rows L2 Evl
section
variable {K : PySem.W.Frag} {σ : L2.St} {H : Hp} {ta tb te tl : TE} {D : Ends} {tu tz : TS} {t : TT}
/-- for i in reversed(range(n)) -/
theorem s_forRev {j n : Nat} (h : Ev ta σ H (.int (n : Int))) (hn : n ≤ 40000) (Pv : Nat → L2.St → Hp → Prop) (h0 : ∀ H1, Ex H H1 → Pv 0 σ H1)
    (hs : ∀ (i : Nat) σ' H', i < n → Pv i σ' H' → tu { D with nx := Pv (i + 1), ct := Pv (i + 1), bk := D.nx } (σ'.set j (some (.int ((n - 1 - i : Nat) : Int)))) H') (hd : ∀ σ' H', Pv n σ' H' → D.nx σ' H') : tFor (iRevR (tRg1 ta)) (gName j) tu D σ H :=
  h H (Ex.refl H) _ fun H1 e => ⟨n, rfl, by
    have e0 : ((n : Int) - 0).toNat = n := by omega
    refine ⟨by omega, by omega, by omega, by omega, ?_⟩
    rw [e0]
    exact for_rangeC Pv (h0 H1 e) (fun i σ' H' hi p => by
      have e1 : (0 : Int) + (n : Int) - 1 + (i : Nat) * (-1) = ((n - 1 - i : Nat) : Int) := by omega
      rw [e1]
      exact hs i σ' H' hi p) hd⟩
theorem q_forRev {j n : Nat} (h : Ev ta σ H (.int (n : Int))) (hn : n ≤ 40000) (Pv : Nat → L2.St → Hp → Prop) (h0 : ∀ H1, Ex H H1 → Pv 0 σ H1)
    (hs : ∀ (i : Nat) σ' H', i < n → Pv i σ' H' → tu { D with nx := Pv (i + 1), ct := Pv (i + 1), bk := tz D } (σ'.set j (some (.int ((n - 1 - i : Nat) : Int)))) H') (hd : ∀ σ' H', Pv n σ' H' → tz D σ' H') : tSeq (tFor (iRevR (tRg1 ta)) (gName j) tu) tz D σ H := s_forRev (D := { D with nx := tz D }) h hn Pv h0 hs hd
/-- [a new tuple for i in range(lo, n)] -/
theorem elt_R2 {ta : TA} {j : Nat} {vs : List Nat} {lo n : Int} (f : Nat → List V) (h : EvA ta σ H [.int lo, .int n]) (hn : 0 ≤ lo ∧ lo ≤ 40000 ∧ -40000 ≤ n ∧ n ≤ 40000) (hw : ∀ x, wipe ((wipe σ vs).set j (some x)) vs = wipe σ vs)
    (he : ∀ (i : Nat) H1, Ex H H1 → lo + (i : Int) < n → EvU te ((wipe σ vs).set j (some (.int (lo + (i : Int))))) H1 (f i)) : EvLT (tLc (iRng2 ta) (gName j) tYes te vs) σ H ((List.range (n - lo).toNat).map f) := fun H0 e Q q => h H0 e _ fun H1 e1 => ⟨lo, n, rfl, ⟨by omega, by omega, by omega, by omega⟩, fun Dl hD =>
  lc_range (lo := lo) (n := (n - lo).toNat) (fun i H' => Ex H1 H' ∧ ∃ ws, H' Dl = some (.lst ws) ∧ TL H' ws ((List.range i).map f)) ⟨Ex.new hD, [], upd_same, .nil⟩ (fun i H' hi p => by
    obtain ⟨p1, ws, p2, p3⟩ := p
    show wipe ((wipe σ vs).set j (some (.int (lo + (i : Int))))) vs = wipe σ vs ∧ te ((wipe σ vs).set j (some (.int (lo + (i : Int))))) H' fun y H4 => ∃ acc, H4 Dl = some (.lst acc) ∧ acc.length < sizeLine ∧ _
    refine ⟨hw _, he i H1 (e.trans e1) (by omega) H' p1 _ fun p H4 hp e4 h4 => ⟨ws, e4 Dl _ p2, sz_lt (by
      have := p3.len
      simp at this
      omega), Ex.mut (p1.trans e4) hD, ws ++ [.ref p], upd_same, ?_⟩⟩
    rw [List.range_succ, List.map_append]
    exact ((p3.ex e4).app ⟨p, rfl, h4⟩).upd (e4 Dl _ p2)) (fun H' p => by
      obtain ⟨p1, ws, p2, p3⟩ := p
      exact q Dl ws H' (fresh_back e1 hD) (e1.trans p1) p2 p3)⟩
end
end Kit

set_option Elab.async false
set_option linter.all false
set_option maxRecDepth 100000
set_option maxHeartbeats 4000000
namespace Kit
open PySem PySem.Spec PyProof.Rows L2 Evl
/-! ### choosing -/
def cho : Nat → Nat → Nat
  | _, 0 => 1
  | 0, _ + 1 => 0
  | n + 1, k + 1 => cho n k + cho n (k + 1)
theorem fac_zero : fac 0 = 1 := rfl
theorem cho_zero (n : Nat) : cho n 0 = 1 := by cases n <;> rfl
theorem cho_gt : ∀ {n k : Nat}, n < k → cho n k = 0
  | 0, _ + 1, _ => rfl
  | n + 1, k + 1, h => by
    show cho n k + cho n (k + 1) = 0
    rw [cho_gt (by omega : n < k), cho_gt (by omega : n < k + 1)]
theorem cho_self : ∀ n : Nat, cho n n = 1
  | 0 => rfl
  | n + 1 => by
    show cho n n + cho n (n + 1) = 1
    rw [cho_self n, cho_gt (Nat.lt_succ_self n)]
theorem cho_next : ∀ n k : Nat, cho n (k + 1) * (k + 1) = cho n k * (n - k)
  | 0, k => by
    rw [Nat.zero_sub, Nat.mul_zero]
    show 0 * (k + 1) = 0
    rw [Nat.zero_mul]
  | n + 1, 0 => by
    have a := cho_next n 0
    show (cho n 0 + cho n 1) * (0 + 1) = cho (n + 1) 0 * (n + 1 - 0)
    rw [cho_zero, cho_zero] at *
    simp only [Nat.zero_add, Nat.mul_one, Nat.sub_zero, Nat.one_mul] at *
    omega
  | n + 1, k + 1 => by
    have a := cho_next n (k + 1)
    have b := cho_next n k
    show (cho n (k + 1) + cho n (k + 2)) * (k + 1 + 1) = (cho n k + cho n (k + 1)) * (n + 1 - (k + 1))
    rcases Nat.lt_or_ge k n with h | h
    · obtain ⟨d, rfl⟩ : ∃ d, n = k + 1 + d := ⟨n - (k + 1), by omega⟩
      rw [show k + 1 + d - (k + 1) = d by omega] at a
      rw [show k + 1 + d - k = d + 1 by omega] at b
      rw [show k + 1 + d + 1 - (k + 1) = d + 1 by omega]
      generalize cho (k + 1 + d) (k + 1) = x at *
      generalize cho (k + 1 + d) k = y at *
      generalize cho (k + 1 + d) (k + 1 + 1) = z at *
      grind
    · rw [show n + 1 - (k + 1) = 0 by omega, cho_gt (by omega : n < k + 1), cho_gt (by omega : n < k + 2)]
      simp
/-- k of n: n! = C(n, k) k! (n - k)! -/
theorem cho_fac : ∀ {n k : Nat}, k ≤ n → cho n k * (fac k * fac (n - k)) = fac n
  | n, 0, _ => by
    rw [cho_zero, Nat.sub_zero]
    rw [fac_zero]
    omega
  | n, k + 1, h => by
    have ih := cho_fac (n := n) (k := k) (by omega)
    have a := cho_next n k
    rw [show n - k = (n - (k + 1)) + 1 by omega, fac_succ] at ih
    rw [show n - k = n - (k + 1) + 1 by omega] at a
    rw [fac_succ]
    generalize fac (n - (k + 1)) = y at *
    generalize fac n = v at *
    generalize cho n (k + 1) = z at *
    generalize cho n k = x at *
    generalize fac k = u at *
    generalize n - (k + 1) = d at *
    have e : z * (u * (k + 1) * y) = z * (k + 1) * (u * y) := by grind
    rw [e, a, ← ih]
    grind
theorem cho_pos {n k : Nat} (h : k ≤ n) : 1 ≤ cho n k := by
  have a := cho_fac h
  have b := fac_pos n
  rcases Nat.eq_zero_or_pos (cho n k) with z | z
  · rw [z, Nat.zero_mul] at a
    omega
  · exact z
theorem cho_le : ∀ n k : Nat, cho n k ≤ 2 ^ n
  | n, 0 => by rw [cho_zero]; exact Nat.one_le_two_pow
  | 0, _ + 1 => Nat.zero_le _
  | n + 1, k + 1 => by
    have a := cho_le n k
    have b := cho_le n (k + 1)
    rw [Nat.pow_succ]
    show cho n k + cho n (k + 1) ≤ _
    omega
theorem fp_fac (n : Nat) : ∀ k : Nat, k ≤ n → Builtin.Math.fallingProduct (n : Int) k * (fac (n - k) : Int) = (fac n : Int)
  | 0, _ => by
    rw [PySem.W.mc_fp_zero, Nat.sub_zero, Int.one_mul]
  | k + 1, h => by
    have ih := fp_fac n k (by omega)
    rw [show n - k = n - (k + 1) + 1 by omega, fac_succ] at ih
    rw [PySem.W.mc_fp_succ, ← ih, show (n : Int) - (k : Int) = ((n - (k + 1) + 1 : Nat) : Int) by omega]
    push_cast
    generalize (fac (n - (k + 1)) : Int) = x
    generalize Builtin.Math.fallingProduct (n : Int) k = y
    grind
theorem fp_self (n : Nat) : Builtin.Math.fallingProduct (n : Int) n = (fac n : Int) := by
  have := fp_fac n n (Nat.le_refl _)
  rw [Nat.sub_self, fac_zero] at this
  simpa using this
theorem cho_sym {n k : Nat} (h : k ≤ n) : cho n k = cho n (n - k) := by
  have a := cho_fac h
  have b := cho_fac (n := n) (k := n - k) (by omega)
  rw [show n - (n - k) = k by omega, Nat.mul_comm (fac (n - k))] at b
  have p : 0 < fac k * fac (n - k) := Nat.mul_pos (fac_pos _) (fac_pos _)
  exact Nat.eq_of_mul_eq_mul_right p (a.trans b.symm)
theorem comb_cho (n k : Nat) : PySem.W.mcComb (n : Int) (k : Int) = (cho n k : Int) := by
  by_cases h : k ≤ n
  · have key : ∀ m : Nat, m ≤ n → Builtin.Math.fallingProduct (n : Int) m / Builtin.Math.fallingProduct (m : Int) m = (cho n m : Int) := fun m hm => by
      have a := fp_fac n m hm
      have b := cho_fac hm
      have f := fac_pos m
      have g := fac_pos (n - m)
      rw [fp_self]
      have e : Builtin.Math.fallingProduct (n : Int) m = (cho n m : Int) * (fac m : Int) := by
        refine Int.eq_of_mul_eq_mul_right (a := (fac (n - m) : Int)) (by omega) ?_
        rw [a, ← b]
        push_cast
        grind
      rw [e]
      exact Int.mul_ediv_cancel _ (by omega)
    rw [PySem.W.mcComb_at (m := ((min k (n - k) : Nat) : Int)) (by omega) (by omega) (by omega), Int.toNat_natCast, key _ (by omega)]
    rcases Nat.le_total k (n - k) with q | q
    · rw [Nat.min_eq_left q]
    · rw [Nat.min_eq_right q, ← cho_sym h]
  · rw [PySem.W.mcComb_above (by omega), cho_gt (by omega)]
    rfl
def prm (n k : Nat) : Int := PySem.W.mcPerm (n : Int) (k : Int)
theorem prm_fac {n k : Nat} (h : k ≤ n) : prm n k * (fac (n - k) : Int) = (fac n : Int) := by
  unfold prm
  rw [PySem.W.mcPerm_at (by omega), Int.toNat_natCast]
  exact fp_fac n k h
theorem prm_pos {n k : Nat} (h : k ≤ n) : 1 ≤ prm n k := PySem.W.mcPerm_pos (by omega) (by omega)
def rComb : List V → Hp → VK → Prop := fun vs H Q => ∃ n k : Nat, vs = [.int (n : Int), .int (k : Int)] ∧ n ≤ 10000 ∧ Q (.int (cho n k : Int)) H
def rPerm : List V → Hp → VK → Prop := fun vs H Q => ∃ n k : Nat, vs = [.int (n : Int), .int (k : Int)] ∧ n ≤ 10000 ∧ k ≤ 10000 ∧ Q (.int (prm n k)) H
section
variable {X : Cx}
theorem cr_comb : CallR X (.builtin "math.comb") rComb := by
  intro pins s σ H vs us Q I r h
  obtain ⟨n, k, rfl, hn, q⟩ := h
  cases r with
  | cons ru r2 =>
    cases r2 with
    | cons rv rt =>
      cases rt
      obtain ⟨t, rfl⟩ := ru
      obtain ⟨u, rfl⟩ := rv
      refine PySem.W.mc_comb_v (Int.natCast_nonneg n) (Int.natCast_nonneg k) (by omega) (by omega) (comb_cho n k) ?_
      exact ⟨.int _, H, I.tok _, ⟨_, rfl⟩, q⟩
theorem cr_perm : CallR X (.builtin "math.perm") rPerm := by
  intro pins s σ H vs us Q I r h
  obtain ⟨n, k, rfl, hn, hk, q⟩ := h
  cases r with
  | cons ru r2 =>
    cases r2 with
    | cons rv rt =>
      cases rt
      obtain ⟨t, rfl⟩ := ru
      obtain ⟨u, rfl⟩ := rv
      refine PySem.W.mc_perm_v (Int.natCast_nonneg n) (Int.natCast_nonneg k) (by omega) (by omega) rfl ?_
      exact ⟨.int _, H, I.tok _, ⟨_, rfl⟩, q⟩
end
section
variable {K : PySem.W.Frag} {σ : L2.St} {H : Hp} {ta tb te tl : TE} {D : Ends} {tu tz : TS}
theorem ev_comb {n k : Nat} (h : Ev ta σ H (.int (n : Int))) (h2 : Ev tb σ H (.int (k : Int))) (hn : n ≤ 10000) : Ev (tCB rComb (tCons ta (tCons tb tNil))) σ H (.int (cho n k : Int)) := fun H1 e Q q => h H1 e _ fun H2 e2 => h2 H2 (e.trans e2) _ fun H3 e3 => ⟨n, k, rfl, hn, q H3 (e2.trans e3)⟩
theorem ev_perm {n k : Nat} (h : Ev ta σ H (.int (n : Int))) (h2 : Ev tb σ H (.int (k : Int))) (hn : n ≤ 10000) (hk : k ≤ 10000) : Ev (tCB rPerm (tCons ta (tCons tb tNil))) σ H (.int (prm n k)) := fun H1 e Q q => h H1 e _ fun H2 e2 => h2 H2 (e.trans e2) _ fun H3 e3 => ⟨n, k, rfl, hn, hk, q H3 (e2.trans e3)⟩
/-- for x, y in zip(xs, ys): the pair is a new tuple -/
theorem s_forZip {ta : TA} {i j n : Nat} {a b : Addr} {xs ys : List V} (h : EvA ta σ H [.ref a, .ref b]) (hx : SqL K H a xs) (hy : SqL K H b ys) (hn : n = min xs.length ys.length) (Pv : Nat → L2.St → Hp → Prop) (h0 : ∀ H1, Ex H H1 → Pv 0 σ H1) (hl : ∀ k σ' H', k ≤ n → Pv k σ' H' → SqL K H' a xs ∧ SqL K H' b ys)
    (hs : ∀ k x y σ' H' H2, xs[k]? = some x → ys[k]? = some y → Pv k σ' H' → Ex H' H2 → tu { D with nx := Pv (k + 1), ct := Pv (k + 1), bk := D.nx } ((σ'.set i (some x)).set j (some y)) H2) (hd : ∀ σ' H', Pv n σ' H' → D.nx σ' H') :
    tFor (iZip K ta) (gTup K 2 (gCons (gName i) (gCons (gName j) gNil))) tu D σ H := h H (Ex.refl H) _ fun H1 e => ⟨a, b, xs, ys, rfl, ex_l e hx, ex_l e hy, by
  refine for_it (walk_zip (n := n) hn) Pv (h0 H1 e) (fun k σ' H' hk p => hl k σ' H' hk p) ?_ hd
  rintro k v σ' Hh H2 hk p ⟨T, x, y, rfl, nT, rfl, g1, g2⟩
  exact ⟨T, [x, y], rfl, st_of upd_same, rfl, x, [y], rfl, y, [], rfl, rfl, hs k x y σ' Hh _ g1 g2 p (Ex.new nT)⟩⟩
theorem q_forZip {ta : TA} {i j n : Nat} {a b : Addr} {xs ys : List V} (h : EvA ta σ H [.ref a, .ref b]) (hx : SqL K H a xs) (hy : SqL K H b ys) (hn : n = min xs.length ys.length) (Pv : Nat → L2.St → Hp → Prop) (h0 : ∀ H1, Ex H H1 → Pv 0 σ H1) (hl : ∀ k σ' H', k ≤ n → Pv k σ' H' → SqL K H' a xs ∧ SqL K H' b ys)
    (hs : ∀ k x y σ' H' H2, xs[k]? = some x → ys[k]? = some y → Pv k σ' H' → Ex H' H2 → tu { D with nx := Pv (k + 1), ct := Pv (k + 1), bk := tz D } ((σ'.set i (some x)).set j (some y)) H2) (hd : ∀ σ' H', Pv n σ' H' → tz D σ' H') :
    tSeq (tFor (iZip K ta) (gTup K 2 (gCons (gName i) (gCons (gName j) gNil))) tu) tz D σ H := s_forZip (D := { D with nx := tz D }) h hx hy hn Pv h0 hl hs hd
/-- [e for x, y in zip(xs, ys)], xs an old list, ys a new one -/
theorem el_zipO {i j : Nat} {vs : List Nat} {a : Addr} {xs ys : List V} (F : V → V → V) (h : Ev ta σ H (.ref a)) (hx : SqL K H a xs) (h2 : EvL tb σ H ys) (hl : xs.length = ys.length) (hz : xs.length ≤ 40000) (hw : ∀ x y, wipe (((wipe σ vs).set i (some x)).set j (some y)) vs = wipe σ vs)
    (he : ∀ (n : Nat) x y H1, Ex H H1 → xs[n]? = some x → ys[n]? = some y → Ev te (((wipe σ vs).set i (some x)).set j (some y)) H1 (F x y)) :
    EvL (tLc (iZip K (tCons ta (tCons tb tNil))) (gTup K 2 (gCons (gName i) (gCons (gName j) gNil))) tYes te vs) σ H (List.zipWith F xs ys) := fun H0 e Q q =>
  h H0 e _ fun H1 e1 => h2 H1 (e.trans e1) _ fun b H2 nb e2 hb => by
    have := el_zip (K := K) (H := H2) (ta := fun _ H' R => R [.ref a, .ref b] H') (te := te) (vs := vs) F (fun H3 _ Q q => q H3 (Ex.refl _)) (ex_l (e.trans (e1.trans e2)) hx) (sq_of hb) hl hz hw fun n x y H3 e3 g1 g2 => he n x y H3 (e.trans (e1.trans (e2.trans e3))) g1 g2
    exact this H2 (Ex.refl _) Q fun p H3 hp e3 h3 => q p H3 (fresh_back (e1.trans e2) hp) (e1.trans (e2.trans e3)) h3
end
end Kit

set_option Elab.async false
set_option linter.all false
set_option maxRecDepth 100000
set_option maxHeartbeats 4000000
namespace Kit
open PySem PySem.Spec PyProof.Rows L2 Evl
/-! ### data that is laid in the heap, by its depth -/
inductive Flat : V → PyData → Prop
  | non : Flat .non .none
  | bl (b : Bool) : Flat (.bl b) (.bool b)
  | int (i : Int) : Flat (.int i) (.int i)
  | str (x : Str) (ok : PyData.strOk x = true) : Flat (.str x) (.str x)
def Tk : Nat → Hp → V → PyData → Prop
  | 0, _, v, d => Flat v d
  | n + 1, H, v, d => Flat v d ∨ (∃ a xs ds, v = .ref a ∧ d = .list ds ∧ H a = some (.lst xs) ∧ xs.length ≤ 40000 ∧ Paired (Tk n H) xs ds) ∨ (∃ a xs ds, v = .ref a ∧ d = .tuple ds ∧ H a = some (.tup xs) ∧ xs.length ≤ 40000 ∧ Paired (Tk n H) xs ds)
theorem Tk.flat {v : V} {d : PyData} (h : Flat v d) : ∀ {n : Nat} {H : Hp}, Tk n H v d
  | 0, _ => h
  | _ + 1, _ => .inl h
theorem tk_imp {A B : V → PyData → Prop} (f : ∀ v d, A v d → B v d) : ∀ {xs : List V} {ds : List PyData}, Paired A xs ds → Paired B xs ds
  | _, _, .nil => .nil
  | _, _, .cons h t => .cons (f _ _ h) (tk_imp f t)
theorem Tk.ex {H H' : Hp} (e : Ex H H') : ∀ {n : Nat} {v : V} {d : PyData}, Tk n H v d → Tk n H' v d
  | 0, _, _, h => h
  | _ + 1, _, _, .inl h => .inl h
  | _ + 1, _, _, .inr (.inl ⟨a, xs, ds, h1, h2, h3, hz, h4⟩) => .inr (.inl ⟨a, xs, ds, h1, h2, e a _ h3, hz, tk_imp (fun _ _ => Tk.ex e) h4⟩)
  | _ + 1, _, _, .inr (.inr ⟨a, xs, ds, h1, h2, h3, hz, h4⟩) => .inr (.inr ⟨a, xs, ds, h1, h2, e a _ h3, hz, tk_imp (fun _ _ => Tk.ex e) h4⟩)
theorem Tk.mono {H : Hp} : ∀ {n m : Nat} {v : V} {d : PyData}, n ≤ m → Tk n H v d → Tk m H v d
  | 0, _, _, _, _, h => Tk.flat h
  | _ + 1, 0, _, _, e, _ => absurd e (by omega)
  | _ + 1, _ + 1, _, _, _, .inl h => .inl h
  | _ + 1, _ + 1, _, _, e, .inr (.inl ⟨a, xs, ds, h1, h2, h3, hz, h4⟩) => .inr (.inl ⟨a, xs, ds, h1, h2, h3, hz, tk_imp (fun _ _ => Tk.mono (by omega)) h4⟩)
  | _ + 1, _ + 1, _, _, e, .inr (.inr ⟨a, xs, ds, h1, h2, h3, hz, h4⟩) => .inr (.inr ⟨a, xs, ds, h1, h2, h3, hz, tk_imp (fun _ _ => Tk.mono (by omega)) h4⟩)
theorem tk_int {n : Nat} {H : Hp} (i : Int) : Tk n H (.int i) (.int i) := .flat (.int i)
theorem tk_ints {n : Nat} {H : Hp} : ∀ ns : List Int, Paired (Tk n H) (ns.map V.int) (ns.map PyData.int)
  | [] => .nil
  | i :: r => .cons (tk_int i) (tk_ints r)
theorem tk_lst {n : Nat} {H : Hp} {a : Addr} {xs : List V} {ds : List PyData} (h : H a = some (.lst xs)) (hd : Paired (Tk n H) xs ds) (hz : ds.length ≤ 40000) : Tk (n + 1) H (.ref a) (.list ds) := .inr (.inl ⟨a, xs, ds, rfl, rfl, h, by rw [Paired.length hd]; exact hz, hd⟩)
theorem tk_tup {n : Nat} {H : Hp} {a : Addr} {xs : List V} {ds : List PyData} (h : H a = some (.tup xs)) (hd : Paired (Tk n H) xs ds) (hz : ds.length ≤ 40000) : Tk (n + 1) H (.ref a) (.tuple ds) := .inr (.inr ⟨a, xs, ds, rfl, rfl, h, by rw [Paired.length hd]; exact hz, hd⟩)
theorem flat_dp {K : PySem.W.Frag} {H : Hp} {v : V} {d : PyData} (h : Flat v d) : Dp K H v d := by
  cases h with
  | non => exact .non
  | bl b => exact .bl b
  | int i => exact .int i
  | str x _ => exact .str x
def isSeq : PyData → Bool
  | .list _ => true
  | .tuple _ => true
  | _ => false
def isLs : PyData → Bool
  | .list _ => true
  | _ => false
def isIt : PyData → Bool
  | .int _ => true
  | .bool _ => true
  | _ => false
def isBo : PyData → Bool
  | .bool _ => true
  | _ => false
def isSt : PyData → Bool
  | .str _ => true
  | _ => false
section
variable {K : PySem.W.Frag} {σ : L2.St} {H H' : Hp} {ta tb te : TE} {n : Nat} {v : V} {d : PyData}
theorem tk_kind {f : PyData → Bool} {g : Value → Option Bool} (h : Tk n H v d) (non : g (.type "NoneType") = some (f .none)) (bl : ∀ b, g (.type "bool") = some (f (.bool b))) (it : ∀ i, g (.type "int") = some (f (.int i))) (st : ∀ i, g (.type "str") = some (f (.str i)))
    (ls : ∀ ds, g (.type "list") = some (f (.list ds))) (tu : ∀ ds, g (.type "tuple") = some (f (.tuple ds))) : ∃ t, TyX K H v t ∧ g t = some (f d) := by
  have fl : Flat v d → ∃ t, TyX K H v t ∧ g t = some (f d) := fun h => by
    cases h with
    | non => exact ⟨_, .base .non, non⟩
    | bl b => exact ⟨_, .base (.bl b), bl b⟩
    | int i => exact ⟨_, .base (.int i), it i⟩
    | str x _ => exact ⟨_, .base (.str x), st x⟩
  match n, h with
  | 0, h => exact fl h
  | _ + 1, .inl h => exact fl h
  | _ + 1, .inr (.inl ⟨a, xs, ds, h1, h2, h3, hz, h4⟩) =>
    subst h1 h2
    exact ⟨_, .base (.lst h3), ls ds⟩
  | _ + 1, .inr (.inr ⟨a, xs, ds, h1, h2, h3, hz, h4⟩) =>
    subst h1 h2
    exact ⟨_, .base (.tup h3), tu ds⟩
theorem ev_isOne {T : String} {f : PyData → Bool} (h : Ev ta σ H v) (hv : Tk n H v d) (non : PySem.W.kitOne K (.type "NoneType") (.type T) = some (f .none)) (bl : ∀ b, PySem.W.kitOne K (.type "bool") (.type T) = some (f (.bool b))) (it : ∀ i, PySem.W.kitOne K (.type "int") (.type T) = some (f (.int i))) (st : ∀ i, PySem.W.kitOne K (.type "str") (.type T) = some (f (.str i)))
    (ls : ∀ ds, PySem.W.kitOne K (.type "list") (.type T) = some (f (.list ds))) (tu : ∀ ds, PySem.W.kitOne K (.type "tuple") (.type T) = some (f (.tuple ds))) : Ev (tCB (rIsi K) (tCons ta (tCons (tC (.ty T)) tNil))) σ H (.bl (f d)) := fun H1 e Q q => h H1 e _ fun H2 e2 => by
  obtain ⟨t, ty, k⟩ := tk_kind (K := K) (f := f) (g := fun t => PySem.W.kitOne K t (.type T)) (hv.ex (e.trans e2)) non bl it st ls tu
  exact ⟨v, .ty T, t, .type T, _, rfl, .ty T, ty, k, q H2 e2⟩
theorem ev_isLs (h : Ev ta σ H v) (hv : Tk n H v d) : Ev (tCB (rIsi K) (tCons ta (tCons (tC (.ty "list")) tNil))) σ H (.bl (isLs d)) := ev_isOne (f := isLs) h hv rfl (fun _ => rfl) (fun _ => rfl) (fun _ => rfl) (fun _ => rfl) (fun _ => rfl)
theorem ev_isIt (h : Ev ta σ H v) (hv : Tk n H v d) : Ev (tCB (rIsi K) (tCons ta (tCons (tC (.ty "int")) tNil))) σ H (.bl (isIt d)) := ev_isOne (f := isIt) h hv rfl (fun _ => rfl) (fun _ => rfl) (fun _ => rfl) (fun _ => rfl) (fun _ => rfl)
theorem ev_isBo (h : Ev ta σ H v) (hv : Tk n H v d) : Ev (tCB (rIsi K) (tCons ta (tCons (tC (.ty "bool")) tNil))) σ H (.bl (isBo d)) := ev_isOne (f := isBo) h hv rfl (fun _ => rfl) (fun _ => rfl) (fun _ => rfl) (fun _ => rfl) (fun _ => rfl)
theorem ev_isSt (h : Ev ta σ H v) (hv : Tk n H v d) : Ev (tCB (rIsi K) (tCons ta (tCons (tC (.ty "str")) tNil))) σ H (.bl (isSt d)) := ev_isOne (f := isSt) h hv rfl (fun _ => rfl) (fun _ => rfl) (fun _ => rfl) (fun _ => rfl) (fun _ => rfl)
theorem ev_isSeq (h : Ev ta σ H v) (hv : Tk n H v d) : Ev (tCB (rIsiT K) (tCons ta (tCons (tTup (tCons (tC (.ty "list")) (tCons (tC (.ty "tuple")) tNil))) tNil))) σ H (.bl (isSeq d)) := fun H1 e Q q => h H1 e _ fun H2 e2 =>
  (eu_tup (ea_cons (x := .ty "list") ev_c (ea_cons (x := .ty "tuple") ev_c ea_nil)) (Nat.le_of_ble_eq_true rfl)) H2 (Ex.refl _) _ fun p H3 _ e3 h3 => by
    obtain ⟨t, ty, k⟩ := tk_kind (K := K) (f := isSeq) (g := fun t => PySem.W.kitAny K t [.type "list", .type "tuple"]) (hv.ex (e.trans (e2.trans e3))) rfl (fun _ => rfl) (fun _ => rfl) (fun _ => rfl) (fun _ => rfl) (fun _ => rfl)
    exact ⟨v, p, _, t, [.type "list", .type "tuple"], _, rfl, h3, .cons (.ty _) (.cons (.ty _) .nil), ty, k, q H3 (e2.trans e3)⟩
theorem tk_flat (h : Tk n H v d) (hs : isSeq d = false) : Flat v d := by
  match n, h with
  | 0, h => exact h
  | _ + 1, .inl h => exact h
  | _ + 1, .inr (.inl ⟨_, _, _, _, h2, _⟩) =>
    subst h2
    cases hs
  | _ + 1, .inr (.inr ⟨_, _, _, _, h2, _⟩) =>
    subst h2
    cases hs
theorem tk_seq (h : Tk n H v d) (hs : isSeq d = true) : ∃ m, n = m + 1 ∧ ((∃ a xs ds, v = .ref a ∧ d = .list ds ∧ H a = some (.lst xs) ∧ xs.length ≤ 40000 ∧ Paired (Tk m H) xs ds) ∨ (∃ a xs ds, v = .ref a ∧ d = .tuple ds ∧ H a = some (.tup xs) ∧ xs.length ≤ 40000 ∧ Paired (Tk m H) xs ds)) := by
  have no : Flat v d → False := fun f => by cases f <;> cases hs
  match n, h with
  | 0, h => exact (no h).elim
  | _ + 1, .inl h => exact (no h).elim
  | m + 1, .inr h => exact ⟨m, rfl, h⟩
theorem rv_ixQL {a : Addr} {xs : List V} {i : Int} {x : V} (s : SqL K H a xs) (h : atI xs i = some x) : RV (rIx K) (.ref a) (.int i) H x := fun H1 e Q q => .inl (rv_ixL s h H1 e Q q)
theorem rv_ixQT {a : Addr} {xs : List V} {i : Int} {x : V} (s : SqT K H a xs) (h : atI xs i = some x) : RV (rIx K) (.ref a) (.int i) H x := fun H1 e Q q => .inr (.inl (rv_ixT s h H1 e Q q))
/-! ### expressions that give such data -/
def EvK (n : Nat) (te : TE) (σ : L2.St) (H : Hp) (d : PyData) : Prop := ∀ H1, Ex H H1 → ∀ Q : VK, (∀ v H2, Ex H1 H2 → Tk n H2 v d → Q v H2) → te σ H1 Q
def EvKA (n : Nat) (ta : TA) (σ : L2.St) (H : Hp) (ds : List PyData) : Prop := ∀ H1, Ex H H1 → ∀ Q : List V → Hp → Prop, (∀ vs H2, Ex H1 H2 → Paired (Tk n H2) vs ds → Q vs H2) → ta σ H1 Q
variable {t tr : TA} {ds : List PyData}
theorem ek_of (h : Ev te σ H v) (k : Tk n H v d) : EvK n te σ H d := fun H1 e Q q => h H1 e Q fun H2 e2 => q v H2 e2 (k.ex (e.trans e2))
theorem ek_int {i : Int} (h : Ev te σ H (.int i)) : EvK n te σ H (.int i) := ek_of h (tk_int i)
theorem ek_bl {b : Bool} (h : Ev te σ H (.bl b)) : EvK n te σ H (.bool b) := ek_of h (.flat (.bl b))
theorem ek_non (h : Ev te σ H .non) : EvK n te σ H .none := ek_of h (.flat .non)
theorem ek_str {x : Str} (h : Ev te σ H (.str x)) (ok : PyData.strOk x = true) : EvK n te σ H (.str x) := ek_of h (.flat (.str x ok))
theorem ek_mono {m : Nat} (h : EvK n te σ H d) (e : n ≤ m) : EvK m te σ H d := fun H1 a Q q => h H1 a Q fun v H2 e2 k => q v H2 e2 (k.mono e)
theorem ek_is {e : PyData} (h : EvK n te σ H d) (q : d = e) : EvK n te σ H e := q ▸ h
theorem paired_len {A : V → PyData → Prop} {xs : List V} (h : Paired A xs ds) : xs.length = ds.length := Paired.length h
theorem eka_nil : EvKA n tNil σ H [] := fun H1 _ _ q => q [] H1 (Ex.refl H1) .nil
theorem eka_cons (h : EvK n te σ H d) (hr : EvKA n tr σ H ds) : EvKA n (tCons te tr) σ H (d :: ds) := fun H1 e _ q =>
  h H1 e _ fun v H2 e2 dv => hr H2 (e.trans e2) _ fun vs H3 e3 dvs => q (v :: vs) H3 (e2.trans e3) (.cons (dv.ex e3) dvs)
theorem ek_lst (h : EvKA n t σ H ds) (hl : ds.length ≤ 40000) : EvK (n + 1) (tLst t) σ H (.list ds) := fun H1 e Q q =>
  h H1 e _ fun vs H2 e2 dv => ⟨sz_of (by rw [paired_len dv]; omega), fun p hp => q _ _ (e2.trans (Ex.new hp)) (tk_lst upd_same (tk_imp (fun _ _ => Tk.ex (Ex.new hp)) dv) hl)⟩
theorem ek_tup (h : EvKA n t σ H ds) (hl : ds.length ≤ 40000) : EvK (n + 1) (tTup t) σ H (.tuple ds) := fun H1 e Q q =>
  h H1 e _ fun vs H2 e2 dv => ⟨sz_of (by rw [paired_len dv]; omega), fun p hp => q _ _ (e2.trans (Ex.new hp)) (tk_tup upd_same (tk_imp (fun _ _ => Tk.ex (Ex.new hp)) dv) hl)⟩
theorem ek_L {xs : List V} (h : EvL te σ H xs) (k : Paired (Tk n H) xs ds) (hz : ds.length ≤ 40000) : EvK (n + 1) te σ H (.list ds) := fun H1 e Q q => h H1 e Q fun p H2 _ e2 h2 => q _ H2 e2 (tk_lst h2 (tk_imp (fun _ _ => Tk.ex (e.trans e2)) k) hz)
theorem ek_U {xs : List V} (h : EvU te σ H xs) (k : Paired (Tk n H) xs ds) (hz : ds.length ≤ 40000) : EvK (n + 1) te σ H (.tuple ds) := fun H1 e Q q => h H1 e Q fun p H2 _ e2 h2 => q _ H2 e2 (tk_tup h2 (tk_imp (fun _ _ => Tk.ex (e.trans e2)) k) hz)
theorem ek_LI {ns : List Int} (h : EvL te σ H (ns.map V.int)) (hz : ns.length ≤ 40000) : EvK (n + 1) te σ H (.list (ns.map PyData.int)) := ek_L h (tk_ints ns) (by simpa using hz)
theorem ek_UI {ns : List Int} (h : EvU te σ H (ns.map V.int)) (hz : ns.length ≤ 40000) : EvK (n + 1) te σ H (.tuple (ns.map PyData.int)) := ek_U h (tk_ints ns) (by simpa using hz)
theorem s_asgK {D : Ends} {i : Nat} (h : EvK n te σ H d) (k : ∀ v H1, Ex H H1 → Tk n H1 v d → D.nx (σ.set i (some v)) H1) : tAsg te (gName i) D σ H := h H (Ex.refl H) _ k
theorem q_asgK {D : Ends} {tz : TS} {i : Nat} (h : EvK n te σ H d) (k : ∀ v H1, Ex H H1 → Tk n H1 v d → tz D (σ.set i (some v)) H1) : tSeq (tAsg te (gName i)) tz D σ H := h H (Ex.refl H) _ k
end
end Kit

set_option Elab.async false
set_option linter.all false
set_option maxRecDepth 100000
set_option maxHeartbeats 4000000
namespace Kit
open PySem PySem.Spec PyProof.Rows L2 Evl
/-! ### defs that may raise -/
section
variable {P : Program} {w : World} {K : PySem.W.Frag} {mg : Str → Option Value} {base : Heap}
theorem okN {x qual : Str} {d : Stmt} {f : Addr} {fd : FuncData} {N names : List Str} {n : Nat} {want : Sp} (F : Fun K x qual d f fd) (S : FnScope N names (defScope d)) (many : ∀ xs H Q E, want xs H Q E → xs.length = names.length)
    (body : ∀ (cv : Value) (A : Around) (frames : List Env) (st : Shared) (H : Hp) (xs : List V) (Q : VK) (E : XK), Room n (A.deeper (envOfC qual (defScope d) st.heap.objs.size f cv)) → want xs H Q E →
      ∃ t, PSs (cxOf (L2N.CX P w) P w K mg base N qual (defScope d) f cv A frames st H E) (defBody d) t ∧ t { nx := fun _ H' => Q .non H', rt := Q } (start N xs) H) : FnOk P w K mg base (L2N.CX P w) (n + 1) f fd names want := by
  obtain ⟨oc, od, kV, doc, pm, an, cdv, ct, osl, rfl, lk, hcd⟩ := F.ex
  exact fn_of lk hcd S many fun A outer s H vs Q E hr hsp => body cdv A outer s H vs Q E hr hsp
theorem passN {N : List Str} {qual : Str} {sc : Scope} {f : Addr} {cv : Value} {A : Around} {frames : List Env} {st : Shared} {H : Hp} {E : XK} :
    Passes (L2N.CX P w) (cxOf (L2N.CX P w) P w K mg base N qual sc f cv A frames st H E) E := L2N.passes_call (W := fun cls d _ H => E cls d H) (L2N.takes_of rfl rfl rfl rfl) fun _ _ _ _ h => h
theorem passE0 {X : Cx} : Passes (L2N.CX X.prog X.w) X E0 := fun _ _ _ _ _ _ _ h => by
  obtain ⟨_, _, _, _, _, _, _, _, _, _, _, _, z⟩ := h
  exact z.elim
theorem takesN {N : List Str} {qual : Str} {sc : Scope} {f : Addr} {cv : Value} {A : Around} {frames : List Env} {st : Shared} {H : Hp} {E : XK} :
    L2N.Takes (cxOf (L2N.CX P w) P w K mg base N qual sc f cv A frames st H E) (fun cls d _ H => E cls d H) := L2N.takes_of rfl rfl rfl rfl
end
theorem takes0N {X : Cx} : L2N.Takes X.nox (fun _ _ _ _ => False) := fun _ _ x => by
  obtain ⟨_, _, _, _, _, _, _, _, _, _, _, _, _, _, _, _, z⟩ := x
  exact z.elim
/-! ### exceptions made: X(e) -/
theorem pmk1N {X : Cx} {C : Addr} {bmB : List Value} {B newId initId : String} {x : Str} {e : Expr} {ta : TE} {p pos : Pos} (F : ExcBaseFacts B newId initId bmB) (q : PySem.W.excIn X.K C bmB newId = true) (gC : X.mg x = some (.ref C)) (kC : PySem.W.keepIn X.K (.ref C) = true) (r : Raises X (.ref C)) (hg : Gl X x)
    (he : PE X e ta) (hs : starEach [e] X.env = (false, eval e X.env) :: starEach [] X.env := by rfl) (hdb : (x == ("__debug__" : Str)) = false := by decide) :
    L2N.PMk X (.Call (.Name x p) [e] [] pos) (fun σ H Q => ta σ H fun _ H1 => Q (.ref C) none H1) := by
  intro pins st σ H Q J h
  refine wpAny_Call_Name_kw (ld_glob J hg gC (PySem.W.callWith_K (h₀ := X.base) J.ok.mod.kin kC ?_ hs (by rfl)) hdb)
  rw [hs]
  show wpAny _ _ (spliced ((false, eval e X.env) :: backTo pos (starEach [] X.env))) _ _ st
  refine Calls.spliced_cons (thn (he.run pins st σ H _ J h) fun u st1 ⟨v, H1, J1, rv, want⟩ => Calls.spliced_nil ⟨J1.kIn, ?_⟩)
  show wpAny _ _ (call (.ref C) [u]) _ _ _
  obtain ⟨_, _, _, _, _, _, _, _, _, _, _, _, _, _, _, _, _, cls, ns, no, tail⟩ := exc_obj J1.kIn q
  exact wpAny_call_exc_subT F tail cls ns no (fun h2 a made => L2N.mk_of J1 made r want (J1.hok.gone made.new)) (by show 1 ≤ sizeLine; rw [sizeLine_eq]; omega)
/-- what an own class of errors must be -/
def excB (K : PySem.W.Frag) (C : Addr) : Bool := PySem.W.excIn K C [.type "ValueError", .type "Exception", .type "BaseException", .type "object"] "ValueError.__new__" && (PySem.W.keepIn K (.ref C) &&
  (decide (PySem.W.subIn K (.ref C) (.type "BaseException") = some true) && (decide (PySem.W.typeIn K (.ref C) = some (.type "type")) &&
  (decide (PySem.W.findIn K (.ref C) "__getattribute__" = some (some (.builtin "BaseException.__getattribute__"))) && (decide (PySem.W.findIn K (.ref C) "__getattr__" = some none) &&
  (PySem.W.hasDictIn K C && (decide (PySem.W.findIn K (.ref C) "__class__" = some (some (.builtin "object.__class__"))) && (decide (PySem.W.specialIn K (.builtin "object.__class__") "__get__" = some (some (.builtin "getset_descriptor.__get__"))) &&
  (decide (PySem.W.takesIn K (.builtin "object.__class__") = some true) && decide (PySem.W.mroIn K C (.type "object") = some true))))))))))
structure ExcD (K : PySem.W.Frag) (C : Addr) : Prop where
  ein : PySem.W.excIn K C [.type "ValueError", .type "Exception", .type "BaseException", .type "object"] "ValueError.__new__" = true
  kp : PySem.W.keepIn K (.ref C) = true
  sb : PySem.W.subIn K (.ref C) (.type "BaseException") = some true
  ty : PySem.W.typeIn K (.ref C) = some (.type "type")
  is : ExcC K C
theorem excD_of {K : PySem.W.Frag} {C : Addr} (h : excB K C = true) : ExcD K C := by
  obtain ⟨h1, h⟩ := Bool.and_eq_true_iff.mp h
  obtain ⟨h2, h⟩ := Bool.and_eq_true_iff.mp h
  obtain ⟨h3, h⟩ := Bool.and_eq_true_iff.mp h
  obtain ⟨h4, h⟩ := Bool.and_eq_true_iff.mp h
  obtain ⟨h5, h⟩ := Bool.and_eq_true_iff.mp h
  obtain ⟨h6, h⟩ := Bool.and_eq_true_iff.mp h
  obtain ⟨h7, h⟩ := Bool.and_eq_true_iff.mp h
  obtain ⟨h8, h⟩ := Bool.and_eq_true_iff.mp h
  obtain ⟨h9, h⟩ := Bool.and_eq_true_iff.mp h
  obtain ⟨h10, h11⟩ := Bool.and_eq_true_iff.mp h
  exact ⟨h1, h2, of_decide_eq_true h3, of_decide_eq_true h4, ⟨of_decide_eq_true h5, of_decide_eq_true h6, of_decide_eq_true h3, h7, of_decide_eq_true h8, of_decide_eq_true h9, of_decide_eq_true h10, of_decide_eq_true h11⟩⟩
/-- what isinstance says of an error of the class C, class by class -/
def isRow (K : PySem.W.Frag) (C : Addr) (l : List (Value × Bool)) : Bool := l.all fun x => decide (PySem.W.kitOne K (.ref C) x.1 = some x.2)
theorem isRow_at {K : PySem.W.Frag} {C : Addr} {l : List (Value × Bool)} (h : isRow K C l = true) {v : Value} {b : Bool} (m : (v, b) ∈ l) : PySem.W.kitOne K (.ref C) v = some b := of_decide_eq_true (List.all_eq_true.mp h _ m)
/-- raise X(e) -/
theorem ps_raiseN {X : Cx} {C : Addr} {W : WX} {x : Str} {e : Expr} {ta : TE} {p pos pos2 : Pos} (hc : X.calm = true) (tk : L2N.Takes X W) (D : ExcD X.K C) (gC : X.mg x = some (.ref C)) (hg : Gl X x)
    (he : PE X e ta) (hs : starEach [e] X.env = (false, eval e X.env) :: starEach [] X.env := by rfl) (hdb : (x == ("__debug__" : Str)) = false := by decide) :
    PS X (.Raise (some (.Call (.Name x p) [e] [] pos)) none pos2) (fun _ σ H => ta σ H fun _ H1 => W (.ref C) none σ H1) :=
  L2N.ps_raise hc tk (pmk1N PySem.F.excBase_ValueError D.ein gC D.kp (raises_own D.sb D.ty) hg he hs hdb)
/-! ### calls within the suite, the exception handed on -/
structure FnP (P : Program) (w : World) (K : PySem.W.Frag) (mg : Str → Option Value) (base : Heap) (CX : CXT) (k : Nat) (f : Addr) (fd : FuncData) (ps : List Str) (sp : Addr → Value → Option Addr → Sp) : Prop where
  len : ∀ a cls d vs H Q E, sp a cls d vs H Q E → vs.length = ps.length
  run : ∀ (A : Around) (outer : List Env) (s : Shared) (H : Hp) (args : Args) (us : List Value) (vs : List V) (Q : VK) (E : XK) (p : Addr × Obj) (cls : Value) (d : Option Addr), L2H.RoomH k A → L2H.Hot1 A p → Zc cls d p.2 → L2H.PinOk outer H s p → Env0 P w K mg base A outer s H → BindsTo s fd args (ps.zip us) → Vals vs us → sp p.1 cls d vs H Q E →
    codeAny (model P w) A (.call (.ref f) args) (CR CX outer P w H s Q E) s
theorem okP {CX : CXT} {P : Program} {w : World} {K : PySem.W.Frag} {mg : Str → Option Value} {base : Heap} {k : Nat} {f : Addr} {x qual : Str} {d : Stmt} {fd : FuncData} {N ps : List Str} {sp : Addr → Value → Option Addr → Sp} (F : Fun K x qual d f fd) (S : FnScope N ps (defScope d))
    (len : ∀ a cls d vs H Q E, sp a cls d vs H Q E → vs.length = ps.length)
    (hbody : ∀ (cdv : Value) (A : Around) (outer : List Env) (s : Shared) (H : Hp) (vs : List V) (Q : VK) (E : XK) (p : Addr × Obj) (cls : Value) (dd : Option Addr), L2H.Hot1 A p → Zc cls dd p.2 → L2H.RoomH k (A.deeper (envOfC qual (defScope d) s.heap.objs.size f cdv)) → sp p.1 cls dd vs H Q E →
      ∃ t, PSs (L2H.cxH CX P w K mg base N qual (defScope d) f cdv A outer s H E p) (defBody d) t ∧ t { nx := fun _ H' => Q .non H', rt := Q } (L2.start N vs) H) :
    FnP P w K mg base CX (k + 1) f fd ps sp := by
  obtain ⟨oc, od, kV, doc, pm, an, cdv, ct, osl, rfl, lk, hcd⟩ := F.ex
  refine ⟨len, fun A outer s H args us vs Q E p cls dd hr hot hz hpin e0 hb r hsp => ?_⟩
  have size := len _ _ _ _ _ _ _ hsp
  have inK : K.In s.heap := e0.mod.kin.keeps fun b o q => (e0.bs b o q).1
  have noLim : s.heap.NoLimit := e0.mod.nolimit.keeps fun b o q => (e0.bs b o q).1
  have kinds : ∀ y ∈ ps.zip us, (defScope d).names.lookup y.1 = some .local ∨ ((defScope d).names.lookup y.1 = some .cell ∧ ((cellsFrom (s.heap.objs.size + 1) (defScope d).names []).lookup y.1).isSome = true) := by
    rintro ⟨a, b⟩ hy
    exact (S.par a (List.of_mem_zip hy).1).elim .inl fun q => .inr ⟨q, PySem.W.cellsFrom_some _ _ _ (.inl q)⟩
  refine codeAny_call_function hr.depth (inK _ _ lk) rfl S.co S.gen rfl (PySem.W.codeRec_of inK hcd) (hb _ _ _ _ (wpAny_newFunctionEnv_cells S.kind kinds fun env eq st1 made => ?_))
  cases eq
  refine ⟨noLim.keeps made.toInCall.keep, codeAny_func ?_⟩
  obtain ⟨t, rule, done⟩ := hbody cdv A outer s H vs Q E p cls dd hot hz (hr.deeper _) hsp
  have J : Inv (L2H.cxH CX P w K mg base N qual (defScope d) f cdv A outer s H E p) [] (L2.start N vs) H st1 := L2H.inv_startH S hpin e0 size r made
  have back : ∀ {σ' : L2.St} {H' : Hp} {v : V} {u : Value} {st2 : Shared}, Inv (L2H.cxH CX P w K mg base N qual (defScope d) f cdv A outer s H E p) [] σ' H' st2 → RelV v u → Q v H' → CE outer P w H s Q u st2 := fun J2 rv q => ⟨_, _, J2.os, J2.bare, J2.base, J2.hok, rv, q⟩
  refine wpAny_mono (rule.run [] st1 (L2.start N vs) H _ J done) (fun z st2 hs => ?_) fun _ _ hs => hs
  match z, hs with
  | .ret u, ⟨v, σ2, H2, J2, rv, q⟩ => exact back J2 rv q
  | .next, ⟨σ2, H2, J2, q⟩ => exact back (v := V.non) (u := Value.none) J2 rfl q
  | .brk, ⟨_, _, _, q⟩ => exact False.elim q
  | .cont, ⟨_, _, _, q⟩ => exact False.elim q
def tCallP (sp : Addr → Value → Option Addr → Sp) (a : Addr) (cls : Value) (d : Option Addr) (t : TA) : TE := fun σ H Q => t σ H fun vs H1 => sp a cls d vs H1 Q E0
/-- f(e, ..) in the suite of the exception p -/
theorem pe_callP {X : Cx} {k : Nat} {f : Addr} {fd : FuncData} {ps : List Str} {sp : Addr → Value → Option Addr → Sp} {x : Str} {q pos : Pos} {e : Expr} {es : List Expr} {t : TA} {p : Addr × Obj} {cls : Value} {d : Option Addr} (F : FnP X.prog X.w X.K X.mg X.base CX0 k f fd ps sp) (room : L2H.RoomH k X.A) (hot : L2H.Hot1 X.A p) (hz : Zc cls d p.2) (hp : p ∈ X.pn)
    (gl : Gl X x) (at_ : X.mg x = some (.ref f)) (keep : PySem.W.keepIn X.K (.ref f) = true) (bind : Binds X.K fd ps []) (ha : PA X (e :: es) t) (nd : (x == ("__debug__" : Str)) = false := by decide)
    (one : starEach (e :: es) X.env = (false, eval e X.env) :: starEach es X.env := by rfl) (plain : (backTo pos (starEach es X.env)).any (·.1) = false := by rfl) : PE X (.Call (.Name x q) (e :: es) [] pos) (tCallP sp p.1 cls d t) := by
  refine ⟨fun pins st σ H Q J h => wpAny_Call_Name_kw (ld_glob J gl at_ ?_ nd)⟩
  refine PySem.W.callWith_K (h₀ := X.base) J.ok.mod.kin keep (thn (ha.run pos pins st σ H _ J h) fun us st1 ⟨vs, H1, J1, r, want⟩ => ⟨J1.kIn, ?_⟩) one plain
  have size : us.length = ps.length := r.length.symm.trans (F.len _ _ _ _ _ _ _ want)
  have bd := bind st1 us J1.kIn (by rw [List.append_nil]; exact size)
  rw [List.append_nil] at bd
  have P1 := J1.pin p (List.mem_append_left _ hp)
  have pin : L2H.PinOk X.stack H1 st1 p := ⟨P1.1, P1.2.1, fun hm => (List.mem_cons.mp (J1.stkSub p.1 hm)).elim P1.2.2.1 P1.2.2.2.1, P1.2.2.2.2⟩
  refine wpAny_call (codeAny_mono (F.run X.A X.stack st1 H1 ⟨us, []⟩ us vs Q E0 p cls d room hot hz pin J1.env0 bd r want) fun res st2 hq => ?_)
  match res, hq with
  | .error _, hq => exact False.elim hq
  | .ok (.ret _), hq => exact J1.after hq
  | .ok .next, hq => exact False.elim hq
  | .ok .brk, hq => exact False.elim hq
  | .ok .cont, hq => exact False.elim hq
theorem hot_suite {A : Around} {a : Addr} {oe : Obj} {cls : Value} {d : Option Addr} (hz : L2N.Zn cls d oe) (hf : ∃ vs, oe.data = .fields vs) : L2H.Hot1 (A.mark (some (.ref a))) (a, oe) :=
  ⟨rfl, hf.imp fun vs e => ⟨e, hz.2.2 vs e⟩⟩
theorem roomS {A : Around} {x : Option Value} {k : Nat} (r : Room k A) : L2H.RoomH k (A.mark x) := ⟨r.dp, r.un⟩
/-- isinstance(e, c), e the exception p -/
theorem call_isP {X : Cx} {p : Addr × Obj} {D : Addr} (C : ExcD X.K D) (hp : p ∈ X.pn) (hz : Zc (.ref D) none p.2) (hf : ∃ vs, p.2.data = .fields vs) : CallR X (.builtin "isinstance") (rIsE X.K D p.1) := by
  intro pins st σ H xs us Q J r h
  obtain ⟨c, cv, b, rfl, same, e, q⟩ := h
  cases r with
  | cons ra rest =>
    cases rest with
    | cons rc rest =>
      cases rest
      cases ra
      have ec := same _ rc
      subst ec
      obtain ⟨there, _⟩ := J.pin p (List.mem_append_left _ hp)
      obtain ⟨vs, hv⟩ := hf
      have inst : PySem.W.InstAt st.heap p.1 p.2 D none := ⟨there, hz.1, by unfold PySem.W.notCls; rw [hv] <;> rfl, by rw [hz.2]; trivial⟩
      have Z := PySem.W.handS_kitx_exc (x := p.1) (ox := p.2) C.is.hg C.is.hk C.is.hs C.is.hd C.is.ha C.is.hn C.is.ht C.is.hm
      exact PySem.W.kia_one Z J.kIn inst e (fun z => nomatch z) fun tk => ⟨.bl b, H, J.kept (t' := tk) fun _ _ z => z, rfl, q⟩
/-! ### readings -/
/-- what is due: nothing, or an error -/
structure Out (due : Option Addr) (H : Hp) (Q : VK) (E : XK) : Prop where
  no : due = none → ∀ v H1, Ex H H1 → Q v H1
  yes : ∀ C, due = some C → ∀ H1, Ex H H1 → E (.ref C) none H1
section
variable {K : PySem.W.Frag} {σ : L2.St} {H H' : Hp} {ta : TA} {tz : TS} {D : Ends} {E : XK} {sp : Sp} {vs dvs : List V} {te tf : TE}
theorem ev_isP {a C : Addr} {c : V} {cv : Value} {b : Bool} (h0 : Ev te σ H (.ref a)) (h1 : Ev tf σ H c) (hc : ∀ u, RelV c u → u = cv) (hk : PySem.W.kitOne K (.ref C) cv = some b) : Ev (tCB (rIsE K C a) (tCons te (tCons tf tNil))) σ H (.bl b) := fun H1 e Q q =>
  h0 H1 e _ fun H2 e2 => h1 H2 (e.trans e2) _ fun H3 e3 => ⟨c, cv, b, rfl, hc, hk, q H3 (e2.trans e3)⟩
def SpO (sp : Sp) (vs : List V) (H : Hp) (due : Option Addr) : Prop := ∀ H1, Ex H H1 → ∀ (Q : VK) (E : XK), Out due H1 Q E → sp vs H1 Q E
theorem Out.mono {due : Option Addr} {Q : VK} {E : XK} (e : Ex H H') (h : Out due H Q E) : Out due H' Q E := ⟨fun z v H1 e1 => h.no z v H1 (e.trans e1), fun C z H1 e1 => h.yes C z H1 (e.trans e1)⟩
/-- f(..) that raises what is due, and the rest -/
theorem q_chk {due : Option Addr} (ha : EvA ta σ H vs) (hs : SpO sp (vs ++ dvs) H due) (k : due = none → ∀ H1, Ex H H1 → tz D σ H1) (ke : ∀ C, due = some C → ∀ H1, Ex H H1 → E (.ref C) none H1) : tSeq (tDrop (tCall sp dvs E ta)) tz D σ H :=
  ha H (Ex.refl H) _ fun H1 e1 => hs H1 e1 _ _ ⟨fun z v H2 e2 => k z H2 (e1.trans e2), fun C z H2 e2 => ke C z H2 (e1.trans e2)⟩
theorem unseq {t : TS} (h : t { D with nx := tz D } σ H) : tSeq t tz D σ H := h
/-- x = f(..), whatever f promises -/
theorem q_asgCall {i : Nat} (ha : EvA ta σ H vs) (k : ∀ H1, Ex H H1 → sp (vs ++ dvs) H1 (fun v H2 => tz D (σ.set i (some v)) H2) E) : tSeq (tAsg (tCall sp dvs E ta) (gName i)) tz D σ H := ha H (Ex.refl H) _ fun H1 e1 => k H1 e1
theorem s_retCall (ha : EvA ta σ H vs) (k : ∀ H1, Ex H H1 → sp (vs ++ dvs) H1 D.rt E) : tRet (tCall sp dvs E ta) D σ H := ha H (Ex.refl H) _ fun H1 e1 => k H1 e1
/-- the same as one of the ways of a try -/
theorem s_chkS {due : Option Addr} {W : WX} (ha : EvA ta σ H vs) (hs : SpO sp vs H due) (k : due = none → ∀ H1, Ex H H1 → D.nx σ H1) (ke : ∀ C, due = some C → ∀ H1, Ex H H1 → W (.ref C) none σ H1) : tDrop (tCallS sp (WE W) ta) D σ H :=
  ha H (Ex.refl H) _ fun H1 e1 => hs H1 e1 _ _ ⟨fun z v H2 e2 => k z H2 (e1.trans e2), fun C z H2 e2 => ke C z H2 (e1.trans e2)⟩
/-- [e for x in f(..)] -/
theorem lc_call {K : PySem.W.Frag} {g : TG} {t : TT} {te : TE} {ns : List Nat} {Q : VK} (ha : EvA ta σ H vs) (k : ∀ H1, Ex H H1 → sp (vs ++ dvs) H1 (fun x H2 => tLc (iList K fun _ H' Q' => Q' x H') g t te ns σ H2 Q) E) : tLc (iList K (tCall sp dvs E ta)) g t te ns σ H Q := ha H (Ex.refl H) _ fun H1 e1 => k H1 e1
/-- what a walk over a list wants of it -/
def ForQ (K : PySem.W.Frag) (g : TG) (tu : TS) (D : Ends) (σ : L2.St) : VK := fun x H1 => ∃ a, x = .ref a ∧ (∃ xs, SqL K H1 a xs) ∧ ∃ W : Nat → Nat → L2.St → Hp → Prop, (∃ m, W 0 m σ H1) ∧ ∀ i m σ H, W i m σ H →
  ((Itl K a).stop i H ∧ D.nx σ H) ∨ ((Itl K a).go i H ∧ ∃ N : L2.St → Hp → Prop, (∀ σ' H', N σ' H' → ∃ m', m' < m ∧ W (i + 1) m' σ' H') ∧ ∀ x H', (Itl K a).yld i H x H' → g x σ H' fun σ2 H2 => tu { D with nx := N, ct := N, bk := D.nx } σ2 H2)
theorem forQ_of {K : PySem.W.Frag} {g : TG} {tu : TS} {a : Addr} {xs : List V} (Pv : Nat → L2.St → Hp → Prop) (h0 : Pv 0 σ H) (hl : ∀ i σ' H', i ≤ xs.length → Pv i σ' H' → SqL K H' a xs)
    (hs : ∀ i x σ' H', xs[i]? = some x → Pv i σ' H' → g x σ' H' fun σ2 H2 => tu { D with nx := Pv (i + 1), ct := Pv (i + 1), bk := D.nx } σ2 H2) (hd : ∀ σ' H', Pv xs.length σ' H' → D.nx σ' H') : ForQ K g tu D σ (.ref a) H :=
  ⟨a, rfl, ⟨xs, hl 0 σ H (Nat.zero_le _) h0⟩, for_list Pv h0 hl hs hd⟩
/-- for x in f(..) -/
theorem q_forCall {K : PySem.W.Frag} {g : TG} {tu : TS} (ha : EvA ta σ H vs) (k : ∀ H1, Ex H H1 → sp (vs ++ dvs) H1 (ForQ K g tu { D with nx := tz D } σ) E) : tSeq (tFor (iList K (tCall sp dvs E ta)) g tu) tz D σ H := ha H (Ex.refl H) _ fun H1 e1 => k H1 e1
theorem s_forCall {K : PySem.W.Frag} {g : TG} {tu : TS} (ha : EvA ta σ H vs) (k : ∀ H1, Ex H H1 → sp (vs ++ dvs) H1 (ForQ K g tu D σ) E) : tFor (iList K (tCall sp dvs E ta)) g tu D σ H := ha H (Ex.refl H) _ fun H1 e1 => k H1 e1
end
/-! ### xs.count(x) of flat values -/
def rCntF (K : PySem.W.Frag) : V → List V → Hp → VK → Prop := fun x xs H Q => ∃ (p : Addr) (ys : List V) (y : V), x = .ref p ∧ xs = [y] ∧ SqL K H p ys ∧ flatV y = true ∧ ys.all flatV = true ∧ Q (.int ((ys.countP fun z => eqV z y : Nat) : Int)) H
theorem countP_eqU {y : V} : ∀ {ys : List V} {us : List Value}, Vals ys us → ys.all flatV = true → us.countP (eqU y) = ys.countP fun z => eqV z y
  | _, _, .nil, _ => rfl
  | _, _, .cons r t, f => by
    rw [List.all_cons, Bool.and_eq_true] at f
    have ih := countP_eqU (y := y) t f.2
    rw [List.countP_cons, List.countP_cons, ih, eqU_of r f.1]
theorem mt_countF {X : Cx} : MtR X "list.count" (rCntF X.K) := by
  intro pins st σ H x xs v us Q J rx rxs h
  obtain ⟨p, ys, y, rfl, rfl, sq, fy, fys, q⟩ := h
  cases rx
  cases rxs with
  | cons ry rest =>
    rename_i uy ut
    cases rest
    obtain ⟨its, rv, ⟨⟨c, dd, dat, sl⟩, n, there, isL, _, isS⟩, _⟩ := J.list sq
    simp only at isL isS
    subst isL isS
    have ec : its.toArray.toList.countP (eqU y) = ys.countP fun z => eqV z y := countP_eqU rv fys
    exact call_meets PySem.F.slot_list_count ⟨_, there, rfl⟩ PySem.F.entry_list_count (PySem.F.args_list_count_2 _ _) (SeqAt.list_countAt p its.toArray n dd sl uy (eqU y))
      ⟨there, fun z hz => mem_eqAt ry fy rv fys z (by simpa using hz), .int ((ys.countP fun z => eqV z y : Nat) : Int), H, J.tok _, ⟨st.toks, by rw [ec]⟩, q⟩
theorem ev_countF {K : PySem.W.Frag} {σ : L2.St} {H : Hp} {ta te : TE} {p : Addr} {ys : List V} {y : V} (ha : Ev ta σ H (.ref p)) (sq : H p = some (.lst ys)) (he : Ev te σ H y) (fy : flatV y = true) (fys : ys.all flatV = true) : Ev (tBM K "list" (rCntF K) ta (tCons te tNil)) σ H (.int ((ys.countP fun z => eqV z y : Nat) : Int)) := fun H1 e Q q =>
  ha H1 e _ fun H2 e2 => ⟨.inl ⟨rfl, _, sq_of (e2 p _ (e p _ sq))⟩, he H2 (e.trans e2) _ fun H3 e3 => ⟨p, ys, y, rfl, rfl, sq_of (e3 p _ (e2 p _ (e p _ sq))), fy, fys, q H3 (e2.trans e3)⟩⟩
/-- xs.index(x), by its number -/
theorem ev_indexF {K : PySem.W.Frag} {σ : L2.St} {H : Hp} {ta te : TE} {p : Addr} {ys : List V} {y : V} (j : Nat) (ha : Ev ta σ H (.ref p)) (sq : H p = some (.lst ys)) (he : Ev te σ H y) (fy : flatV y = true) (fys : ys.all flatV = true) (hj : ∃ z, ys[j]? = some z ∧ eqV z y = true) (hno : ∀ (m : Nat) (z : V), m < j → ys[m]? = some z → eqV z y = false) :
    Ev (tBM K "list" (rIndex K) ta (tCons te tNil)) σ H (.int (j : Int)) := fun H1 e Q q =>
  ha H1 e _ fun H2 e2 => ⟨.inl ⟨rfl, _, sq_of (e2 p _ (e p _ sq))⟩, he H2 (e.trans e2) _ fun H3 e3 => by
    obtain ⟨z, hz, ez⟩ := hj
    exact ⟨p, ys, y, j, z, rfl, rfl, sq_of (e3 p _ (e2 p _ (e p _ sq))), fy, fys, hz, ez, hno, q H3 (e2.trans e3)⟩⟩
end Kit

set_option Elab.async false
set_option linter.all false
set_option maxRecDepth 100000
set_option maxHeartbeats 4000000
namespace Kit
open PySem PySem.Spec PyProof.Rows L2 Evl
/-! ### [f, g, h][i](e, ..): a call of an element of a list of defs -/
structure CalN (X : Cx) (CX : CXT) (f : Addr) (sp : Sp) : Prop where
  ex : ∃ (k : Nat) (fd : FuncData) (names : List Str), FnOk X.prog X.w X.K X.mg X.base CX k f fd names sp ∧ Room k X.A ∧ PySem.W.keepIn X.K (.ref f) = true ∧ Binds X.K fd names []
section
variable {X : Cx} {CX : CXT} {k : Nat} {f : Addr} {fd : FuncData} {names : List Str} {sp : Sp} {C : Addr → Sp → Prop}
theorem cN_one (F : FnOk X.prog X.w X.K X.mg X.base CX k f fd names sp) (hr : Room k X.A) (hk : PySem.W.keepIn X.K (.ref f) = true) (hb : Binds X.K fd names []) : ∀ g s, (g = f ∧ s = sp) → CalN X CX g s := fun g s ⟨e1, e2⟩ => by
  subst e1 e2
  exact ⟨⟨k, fd, names, F, hr, hk, hb⟩⟩
theorem cN_or (F : FnOk X.prog X.w X.K X.mg X.base CX k f fd names sp) (hr : Room k X.A) (hk : PySem.W.keepIn X.K (.ref f) = true) (hb : Binds X.K fd names []) (r : ∀ g s, C g s → CalN X CX g s) : ∀ g s, ((g = f ∧ s = sp) ∨ C g s) → CalN X CX g s := fun g s h => h.elim (cN_one F hr hk hb g s) (r g s)
def tCallI (C : Addr → Sp → Prop) (E : XK) (tf : TE) (t : TA) : TE := fun σ H Q => tf σ H fun v H1 => ∃ f sp, v = .ref f ∧ C f sp ∧ t σ H1 fun vs H2 => sp (vs ++ []) H2 Q E
theorem pe_callI {E : XK} {tf : TE} {t : TA} {a b e : Expr} {es : List Expr} {p pos : Pos} (A : ∀ f sp, C f sp → CalN X CX f sp) (hx : Passes CX X E) (hf : PE X (.Subscript a b p) tf) (ha : PA X (e :: es) t)
    (he : starEach (e :: es) X.env = (false, eval e X.env) :: starEach es X.env := by rfl) (hpl : (backTo pos (starEach es X.env)).any (·.1) = false := by rfl) :
    PE X (.Call (.Subscript a b p) (e :: es) [] pos) (tCallI C E tf t) := by
  refine ⟨fun pins s σ H Q I h => ?_⟩
  have ev : eval (.Call (.Subscript a b p) (e :: es) [] pos) X.env = (do
    callWith pos (← eval (.Subscript a b p) X.env) [] (backTo pos (starEach (e :: es) X.env)) (backToKw pos (keywordEach [] X.env))) := rfl
  rw [ev]
  refine wpAny_bind (thn (hf.run pins s σ H _ I h) fun u s1 ⟨v, H1, I1, rv, f, sp, ev, hC, q⟩ => ?_)
  subst ev
  obtain rfl : u = Value.ref f := rv
  obtain ⟨k, fd, names, F, hr, hk, hb⟩ := (A f sp hC).ex
  refine PySem.W.callWith_K (h₀ := X.base) I1.ok.mod.kin hk (thn (ha.run pos pins s1 σ H1 _ I1 q) fun us s2 ⟨vs, H2, I2, r, q2⟩ => ⟨I2.kIn, ?_⟩) he hpl
  exact run_fn F hr hb .nil hx I2 r q2
end
section
variable {σ : L2.St} {H : Hp} {D : Ends} {vs : List V} {f : Addr} {sp : Sp} {C : Addr → Sp → Prop} {E : XK} {tf : TE} {t : TA}
theorem s_retI (hf : Ev tf σ H (.ref f)) (hC : C f sp) (ha : ∀ H1, Ex H H1 → EvA t σ H1 vs) (k : ∀ H1, Ex H H1 → sp (vs ++ []) H1 D.rt E) : tRet (tCallI C E tf t) D σ H :=
  hf H (Ex.refl H) _ fun H1 e1 => ⟨f, sp, rfl, hC, ha H1 e1 H1 (Ex.refl _) _ fun H2 e2 => k H2 (e1.trans e2)⟩
end
end Kit

set_option Elab.async false
set_option linter.all false
set_option maxRecDepth 100000
set_option maxHeartbeats 4000000
namespace Kit
open PySem PySem.Spec PyProof.Rows L2 Evl
/-! ### own classes: a class as a value, its objects -/
section
variable {prog : Program} {w : World} {A : Around} {E : Value → Shared → Prop} {s : Shared} {Q : Value → Shared → Prop}
theorem isSame_refTy {C : Addr} {Y : String} : isSame (.ref C) (.type Y) = pure false := rfl
theorem isSame_tyRef {C : Addr} {Y : String} : isSame (.type Y) (.ref C) = pure false := rfl
theorem obj_eq_decl {a b : Value} (h : isSame a b = pure false) : Gives (Builtin.«object.__eq__» ⟨[a, b], []⟩) (.val .notImplemented) :=
  .of_eq (by simp [Builtin.«object.__eq__», slotArgs, h, Made.tree])
theorem obj_ne_decl {a b : Value} (ta : s.TypeIs a "type") (same : isSame a b = pure false) (hu : A.units + 1 < cLine) (h : Q .notImplemented s) : wpAny (model prog w) A (call (.builtin "object.__ne__") [a, b]) Q E s := by
  refine wpAny_call_entry slot_type_ne ta PySem.F.cmpEntry_ne ?_ (PySem.F.cmpArgs_ne _ _)
  unfold Builtin.«object.__ne__»
  have key : wpAny (model prog w) A.in1 (call (.builtin "object.__eq__") [a, b]) (fun v s' => v = .notImplemented ∧ s' = s) E s :=
    call_gives slot_type_eqN ta F.entry_object_eq (F.args_object_eq_2 _ _) (obj_eq_decl same) ⟨rfl, rfl⟩
  repeat (first
    | with_reducible refine wpAny_cRoomFor (by show A.units + 1 < cLine; exact hu) ?_
    | (refine wpAny_bind (m := callSpecialIfBound? a (Str.ofString "__eq__") [b])
        (wpAny_callSpecialIfBound?_slot ta slot_type_eqN (wpAny_mono key (fun r s' hr => by
          obtain ⟨rfl, rfl⟩ := hr
          have hq : Q .notImplemented s' := h
          repeat (first | exact hq | exact ⟨_, rfl, hq⟩ | exact wpAny_pure hq | wp_step)) fun _ _ e => e)))
    | wp_step)
theorem ne_cls_type {C : Addr} {Y : String} (hC : s.TypeIs (.ref C) "type") (hY : ∀ s' : Shared, s'.TypeIs (.type Y) "type") (hu : A.units + 1 < cLine) (h : Q (.bool true) s) : wpAny (model prog w) A (compareOp .NotEq (.ref C) (.type Y)) Q E s := by
  show wpAny _ A (richCompare .NotEq _ _) Q E s
  have l1 := slot_type_ne
  have l2 := slot_type_neR
  rcases eq : cmpInfo CmpOp.NotEq with ⟨n1, n2, n3⟩
  rw [eq] at l1 l2
  simp only [richCompare, eq, hC.oneThing_none]
  try with_reducible refine wpAny_holding ?_
  refine wpAny_bind (wpAny_cRoomFor_or (.inr (by omega)) (wpAny_bind (wpAny_typeOf hC (wpAny_bind (wpAny_typeOf (hY s) ?_)))))
  simp only [bne_self_eq_false, Bool.false_eq_true, if_false, pure_bind, Bool.not_false, if_true]
  refine wpAny_bind (m := tryCompare (.ref C) _ (.type Y)) (wpAny_tryCompare_declines hC l1 (obj_ne_decl hC isSame_refTy hu ⟨rfl, ?_⟩))
  refine wpAny_bind (m := tryCompare (.type Y) _ (.ref C)) (wpAny_tryCompare_declines (hY s) l2 (obj_ne_decl (hY s) isSame_tyRef hu ⟨rfl, ?_⟩))
  refine wpAny_bind (wpAny_rule (wpAny_bind (wpAny_of_eq isSame_refTy (wpAny_pure h))))
end
/-- a class of the text, of which objects can be made: f its __init__, ns the names that no class of it has -/
structure OwnD (K : PySem.W.Frag) (C f : Addr) (ns : List Str) : Prop where
  made : Mk K C f
  cls : Cls K C
  na : ∀ x ∈ ns, NoAttr K C x
  ty : PySem.W.typeIn K (.ref C) = some (.type "type")
def ownB (K : PySem.W.Frag) (C f : Addr) (ns : List Str) : Bool := PySem.W.makesIn K C && (decide (PySem.W.findIn K (.ref C) "__init__" = some (some (.ref f))) && (PySem.W.isFn K (.ref f) && (PySem.W.keepIn K (.ref C) &&
  (PySem.W.plainGet K C Str.empty && (PySem.W.hasDictIn K C && (PySem.W.plainOver K C && (decide (PySem.W.findIn K (.ref C) "__setattr__" = some (some (.builtin "object.__setattr__"))) &&
  (decide (PySem.W.typeIn K (.ref C) = some (.type "type")) && ns.all fun x => decide (PySem.W.findIn K (.ref C) x = some none)))))))))
theorem ownD_of {K : PySem.W.Frag} {C f : Addr} {ns : List Str} (h : ownB K C f ns = true) : OwnD K C f ns := by
  obtain ⟨h1, h⟩ := Bool.and_eq_true_iff.mp h
  obtain ⟨h2, h⟩ := Bool.and_eq_true_iff.mp h
  obtain ⟨h3, h⟩ := Bool.and_eq_true_iff.mp h
  obtain ⟨h4, h⟩ := Bool.and_eq_true_iff.mp h
  obtain ⟨h5, h⟩ := Bool.and_eq_true_iff.mp h
  obtain ⟨h6, h⟩ := Bool.and_eq_true_iff.mp h
  obtain ⟨h7, h⟩ := Bool.and_eq_true_iff.mp h
  obtain ⟨h8, h⟩ := Bool.and_eq_true_iff.mp h
  obtain ⟨h9, h10⟩ := Bool.and_eq_true_iff.mp h
  exact ⟨⟨h1, of_decide_eq_true h2, h3, h4⟩, ⟨h5, h6, h7, of_decide_eq_true h8⟩, fun x hx => of_decide_eq_true (p := PySem.W.findIn K (.ref C) x = some none) (List.all_eq_true.mp h10 x hx), of_decide_eq_true h9⟩
/-- the j-th statement of a class's body -/
def clsM (s : Stmt) (j : Nat) : Stmt := match s with
  | .ClassDef _ _ _ b _ _ _ _ _ _ _ => b.getD j (.Pass ⟨0, 0, 0, 0⟩)
  | s => s
/-! ### a method with defaults, which may raise -/
section
variable {P : Program} {w : World} {K : PySem.W.Frag} {mg : Str → Option Value} {base : Heap}
theorem okM {x qual : Str} {d : Stmt} {f : Addr} {fd : FuncData} {dvs : List V} {N names : List Str} {n : Nat} {want : Sp} (F : FunD K x qual (defArgs d) (defBody d) (defScope d) dvs [] f fd) (S : FnScope N names (defScope d)) (many : ∀ xs H Q E, want xs H Q E → xs.length = names.length)
    (body : ∀ (cv : Value) (A : Around) (frames : List Env) (st : Shared) (H : Hp) (xs : List V) (Q : VK) (E : XK), Room n (A.deeper (envOfC qual (defScope d) st.heap.objs.size f cv)) → want xs H Q E →
      ∃ t, PSs (cxOf (L2N.CX P w) P w K mg base N qual (defScope d) f cv A frames st H E) (defBody d) t ∧ t { nx := fun _ H' => Q .non H', rt := Q } (start N xs) H) : FnOk P w K mg base (L2N.CX P w) (n + 1) f fd names want :=
  F.ok S many fun cdv A outer s H vs Q E hr hsp => body cdv A outer s H vs Q E hr hsp
theorem funD1 {x qual : Str} {d : Stmt} {f T : Addr} {oc oT : Value} {od oD : Option Addr} {i : Int} {t n : Nat} {kV doc pm cdv ct : Value} {an : Option Addr} {osl tsl : Array (Option Value)}
    (l : K.lookup f = some ⟨oc, od, .func (PySem.W.fnOf x qual (defArgs d) (defBody d) (defScope d) (.ref T) kV doc pm an cdv ct), osl⟩) (lT : K.lookup T = some ⟨oT, oD, .seq #[.int i t] n, tsl⟩)
    (c : PySem.W.codeIn K cdv qual = true) (k : PySem.W.keepIn K (.ref f) = true) : FunD K x qual (defArgs d) (defBody d) (defScope d) [.int i] [] f (PySem.W.fnOf x qual (defArgs d) (defBody d) (defScope d) (.ref T) kV doc pm an cdv ct) :=
  ⟨⟨oc, od, _, kV, doc, pm, an, cdv, ct, osl, rfl, l, c, .inr ⟨by simp, T, _, [.int i t], n, rfl, lT, rfl, .cons ⟨_, rfl⟩ .nil⟩, .inl rfl⟩, k⟩
end
/-! ### the type of any thing, an own object too -/
def kTyp3 (x : V) (H : Hp) (Q : VK) : Prop := kTyp2 x H Q ∨ ∃ a C dx fs, x = V.ref a ∧ H a = some (.ins C dx fs) ∧ Q (.ref C) H
def rNeTyO (K : PySem.W.Frag) : R2 := fun x y H Q => rNeTyG x y H Q ∨ ∃ C n, x = V.ref C ∧ y = .ty n ∧ PySem.W.typeIn K (.ref C) = some (.type "type") ∧ Meta n ∧ Q (.bl true) H
section
variable {X : Cx} {ta : TE} {a : Expr}
theorem rl_type3 (pins : List (Addr × Obj)) (st : Shared) (σ : L2.St) (H : Hp) (x : V) (u : Value) (Q : VK) (J : Inv X pins σ H st) (r : RelV x u) (h : kTyp3 x H Q) :
    wpAny (model X.prog X.w) X.A (call (.type "type") [u]) (EP X pins σ Q) X.xe st := by
  rcases h with h | ⟨a, C, dx, fs, rfl, ha, q⟩
  · exact rl_type2 pins st σ H x u Q J r h
  · cases (show u = Value.ref a from r)
    obtain ⟨mA, O, _⟩ := ins_get J.hok ha
    obtain ⟨od, I, _⟩ := O.look
    exact PySem.W.kto_own I ⟨.ref C, H, J, rfl, q⟩
theorem pe_typeOf3 {p pos : Pos} (hg : Gl X "type") (hm : X.mg "type" = none) (ha : PE X a ta) (na : starEach [a] X.env = (false, eval a X.env) :: starEach [] X.env := by rfl) :
    PE X (.Call (.Name "type" p) [a] [] pos) (tThenZ ta kTyp3) := pe_callTy (call_r1 rl_type3) hg hm (by decide +kernel) (pa_cons ha pa_nil na) (he := na)
theorem op_neTyO (hu : X.A.units + 1 < cLine) : OpR X (compareOp .NotEq) (rNeTyO X.K) := by
  intro pins st σ H x y v u Q J rx ry h
  rcases h with h | ⟨C, n, rfl, rfl, ht, hn, q⟩
  · exact op_neTyG hu pins st σ H x y v u Q J rx ry h
  · cases (show v = Value.ref C from rx)
    cases (show u = Value.type n from ry)
    obtain ⟨o, ho, hc⟩ := Option.map_eq_some_iff.mp (show (X.K.lookup C).map (·.cls) = some (.type "type") from ht)
    exact ne_cls_type ⟨o, J.kIn _ _ ho, hc⟩ hn hu ⟨.bl true, H, J, rfl, q⟩
end
/-! ### o.f = e -/
section
variable {K : PySem.W.Frag} {σ : L2.St} {H : Hp} {D : Ends} {tz : TS} {ta tv : TE} {a C dx : Addr} {fs : List (Str × V)} {f : Str} {v : V}
theorem s_fld (hv : Ev tv σ H v) (ha : Ev ta σ H (.ref a)) (h : H a = some (.ins C dx fs)) (c : Cls K C) (n : NoAttr K C f) (hl : fs.length < 1000) (k : ∀ H1, Ex H H1 → D.nx σ (upd H1 a (.ins C dx (putF f v fs)))) : sFld K ta tv f D σ H :=
  hv H (Ex.refl H) _ fun H1 e1 => ha H1 e1 _ fun H2 e2 => ⟨a, C, dx, fs, rfl, (e1.trans e2) a _ h, c, n, hl, k H2 (e1.trans e2)⟩
theorem q_fld (hv : Ev tv σ H v) (ha : Ev ta σ H (.ref a)) (h : H a = some (.ins C dx fs)) (c : Cls K C) (n : NoAttr K C f) (hl : fs.length < 1000) (k : ∀ H1, Ex H H1 → tz D σ (upd H1 a (.ins C dx (putF f v fs)))) : tSeq (sFld K ta tv f) tz D σ H := s_fld (D := { D with nx := tz D }) hv ha h c n hl k
theorem q_fldN {R : Addr → Hp → Prop} (hv : ∀ H1, Ex H H1 → ∀ Q : VK, (∀ p H2, H1 p = none → Ex H1 H2 → Q (.ref p) H2) → tv σ H1 Q) (ha : Ev ta σ H (.ref a)) (h : H a = some (.ins C dx fs)) (c : Cls K C) (n : NoAttr K C f) (hl : fs.length < 1000) (k : ∀ p H1, Ex H H1 → D.nx σ (upd H1 a (.ins C dx (putF f (.ref p) fs)))) : sFld K ta tv f D σ H :=
  hv H (Ex.refl H) _ fun p H1 _ e1 => ha H1 e1 _ fun H2 e2 => ⟨a, C, dx, fs, rfl, (e1.trans e2) a _ h, c, n, hl, k p H2 (e1.trans e2)⟩
end
/-! ### [f, g, h][i](e, ..) within a try -/
section
variable {X : Cx} {CX : CXT} {C : Addr → Sp → Prop}
def tCallIS (C : Addr → Sp → Prop) (E : L2.St → XK) (tf : TE) (t : TA) : TE := fun σ H Q => tf σ H fun v H1 => ∃ f sp, v = .ref f ∧ C f sp ∧ t σ H1 fun vs H2 => sp (vs ++ []) H2 Q (E σ)
theorem pe_callIS {E : L2.St → XK} {tf : TE} {t : TA} {a b e : Expr} {es : List Expr} {p pos : Pos} (A : ∀ f sp, C f sp → CalN X CX f sp) (hx : ∀ σ, PassesAt CX X σ (E σ)) (hf : PE X (.Subscript a b p) tf) (ha : PA X (e :: es) t)
    (he : starEach (e :: es) X.env = (false, eval e X.env) :: starEach es X.env := by rfl) (hpl : (backTo pos (starEach es X.env)).any (·.1) = false := by rfl) :
    PE X (.Call (.Subscript a b p) (e :: es) [] pos) (tCallIS C E tf t) := by
  refine ⟨fun pins s σ H Q I h => ?_⟩
  have ev : eval (.Call (.Subscript a b p) (e :: es) [] pos) X.env = (do
    callWith pos (← eval (.Subscript a b p) X.env) [] (backTo pos (starEach (e :: es) X.env)) (backToKw pos (keywordEach [] X.env))) := rfl
  rw [ev]
  refine wpAny_bind (thn (hf.run pins s σ H _ I h) fun u s1 ⟨v, H1, I1, rv, f, sp, ev, hC, q⟩ => ?_)
  subst ev
  obtain rfl : u = Value.ref f := rv
  obtain ⟨k, fd, names, F, hr, hk, hb⟩ := (A f sp hC).ex
  refine PySem.W.callWith_K (h₀ := X.base) I1.ok.mod.kin hk (thn (ha.run pos pins s1 σ H1 _ I1 q) fun us s2 ⟨vs, H2, I2, r, q2⟩ => ⟨I2.kIn, ?_⟩) he hpl
  exact run_fnSD F hr hb .nil (hx σ) I2 r q2
end
end Kit

set_option Elab.async false
set_option linter.all false
set_option maxRecDepth 100000
set_option maxHeartbeats 4000000
namespace Kit
open PySem PySem.Spec PyProof.Rows L2 Evl
/-! ### xs[i] += e -/
section
variable {X : Cx}
theorem get_listR : PGet X (rIxL X.K) := by
  intro pins s σ H o i ov iv Q I ro ri h
  obtain ⟨p, xs, k, z, rfl, rfl, hq, he, q⟩ := h
  cases ro
  obtain ⟨t, rfl⟩ := ri
  obtain ⟨its, r, pl, hz⟩ := I.list hq
  obtain ⟨j, h1, h2, h3, h4, h5⟩ := atI_get he
  obtain ⟨w, ew, rw'⟩ := r.get h2
  have hl := r.length
  have hn := line63
  have fin : EP X pins σ Q w s := ⟨z, H, I, rw', q⟩
  by_cases h0 : 0 ≤ k
  · have hj : k.toNat = j := by
      rw [seqIndex_of h0 h5] at h1
      exact Option.some.inj h1
    exact wpAny_getItem_list pl.isList h0 (by omega) (by rw [hj]; simpa using ew) fin
  · have hj : (k + (its.toArray.size : Int)).toNat = j := by
      rw [seqIndex_neg (by omega) h4] at h1
      rw [List.size_toArray, ← hl]
      exact Option.some.inj h1
    exact wpAny_getItem_list_neg pl.isList (by omega) (by rw [List.size_toArray] <;> omega) (by omega) (by rw [hj]; simpa using ew) fin
end
section
variable {K : PySem.W.Frag} {σ : L2.St} {H : Hp} {ta tb te : TE} {D : Ends} {tz : TS}
theorem s_augL {f : Int → Int → Int} {l : Addr} {xs : List V} {j : Nat} {a b : Int} (hl : H l = some (.lst xs)) (ho : Ev ta σ H (.ref l)) (hi : Ev tb σ H (.int (j : Int))) (hx : xs[j]? = some (.int a)) (he : Ev te σ H (.int b)) (k : ∀ H1, Ex H H1 → D.nx σ (upd H1 l (.lst (xs.set j (.int (f a b)))))) :
    tAugS ta tb te (rIxL K) (ipI f) rSetL D σ H := ho H (Ex.refl H) _ fun H1 e1 => hi H1 e1 _ fun H2 e2 => ⟨l, xs, (j : Int), .int a, rfl, rfl, sq_of (e2 l _ (e1 l _ hl)), atI_nat hx, he H2 (e1.trans e2) _ fun H3 e3 =>
  ⟨a, b, rfl, rfl, l, xs, (j : Int), j, rfl, rfl, e3 l _ (e2 l _ (e1 l _ hl)), ixN_nat (List.getElem?_eq_some_iff.mp hx).1, k H3 (e1.trans (e2.trans e3))⟩⟩
theorem q_augL {f : Int → Int → Int} {l : Addr} {xs : List V} {j : Nat} {a b : Int} (hl : H l = some (.lst xs)) (ho : Ev ta σ H (.ref l)) (hi : Ev tb σ H (.int (j : Int))) (hx : xs[j]? = some (.int a)) (he : Ev te σ H (.int b)) (k : ∀ H1, Ex H H1 → tz D σ (upd H1 l (.lst (xs.set j (.int (f a b)))))) :
    tSeq (tAugS ta tb te (rIxL K) (ipI f) rSetL) tz D σ H := s_augL (D := { D with nx := tz D }) hl ho hi hx he k
end
end Kit

namespace K45
open PySem PySem.Spec PyProof.Rows L2 Evl Kit
def topS (i : Nat) : Stmt := PySem.Challenge.pw_newtables_k45_errors_of_leaving.main.body.getD i (.Pass ⟨0, 0, 0, 0⟩)
abbrev s_wall : Stmt := topS 1
abbrev n_wall : List Str := ["k"]
theorem sc_wall : FnScope n_wall ["k"] (defScope s_wall) := ⟨rfl, rfl, rfl, by decide +kernel, rfl, by decide +kernel, by decide +kernel⟩
abbrev s_is_whole : Stmt := topS 14
abbrev n_is_whole : List Str := ["thing"]
theorem sc_is_whole : FnScope n_is_whole ["thing"] (defScope s_is_whole) := ⟨rfl, rfl, rfl, by decide +kernel, rfl, by decide +kernel, by decide +kernel⟩
abbrev s_is_within : Stmt := topS 15
abbrev n_is_within : List Str := ["thing", "least", "most"]
theorem sc_is_within : FnScope n_is_within ["thing", "least", "most"] (defScope s_is_within) := ⟨rfl, rfl, rfl, by decide +kernel, rfl, by decide +kernel, by decide +kernel⟩
abbrev s_is_order : Stmt := topS 16
abbrev n_is_order : List Str := ["thing", "item"]
theorem sc_is_order : FnScope n_is_order ["thing"] (defScope s_is_order) := ⟨rfl, rfl, rfl, by decide +kernel, rfl, by decide +kernel, by decide +kernel⟩
abbrev s_check_guests : Stmt := topS 17
abbrev n_check_guests : List Str := ["guests"]
theorem sc_check_guests : FnScope n_check_guests ["guests"] (defScope s_check_guests) := ⟨rfl, rfl, rfl, by decide +kernel, rfl, by decide +kernel, by decide +kernel⟩
abbrev s_check_weight : Stmt := topS 18
abbrev n_check_weight : List Str := ["weight"]
theorem sc_check_weight : FnScope n_check_weight ["weight"] (defScope s_check_weight) := ⟨rfl, rfl, rfl, by decide +kernel, rfl, by decide +kernel, by decide +kernel⟩
abbrev s_check_guest : Stmt := topS 19
abbrev n_check_guest : List Str := ["guest", "guests"]
theorem sc_check_guest : FnScope n_check_guest ["guest", "guests"] (defScope s_check_guest) := ⟨rfl, rfl, rfl, by decide +kernel, rfl, by decide +kernel, by decide +kernel⟩
abbrev s_fraction : Stmt := topS 20
abbrev n_fraction : List Str := ["top", "bottom", "common"]
theorem sc_fraction : FnScope n_fraction ["top", "bottom"] (defScope s_fraction) := ⟨rfl, rfl, rfl, by decide +kernel, rfl, by decide +kernel, by decide +kernel⟩
abbrev s_is_seating : Stmt := topS 22
abbrev n_is_seating : List Str := ["thing"]
theorem sc_is_seating : FnScope n_is_seating ["thing"] (defScope s_is_seating) := ⟨rfl, rfl, rfl, by decide +kernel, rfl, by decide +kernel, by decide +kernel⟩
abbrev s_check_seating : Stmt := topS 23
abbrev n_check_seating : List Str := ["seating"]
theorem sc_check_seating : FnScope n_check_seating ["seating"] (defScope s_check_seating) := ⟨rfl, rfl, rfl, by decide +kernel, rfl, by decide +kernel, by decide +kernel⟩
abbrev s_is_coming : Stmt := topS 25
abbrev n_is_coming : List Str := ["thing", "guest", "item"]
theorem sc_is_coming : FnScope n_is_coming ["thing"] (defScope s_is_coming) := ⟨rfl, rfl, rfl, by decide +kernel, rfl, by decide +kernel, by decide +kernel⟩
abbrev s_coming_of : Stmt := topS 26
abbrev n_coming_of : List Str := ["seating", "rest", "items", "right"]
theorem sc_coming_of : FnScope n_coming_of ["seating"] (defScope s_coming_of) := ⟨rfl, rfl, rfl, by decide +kernel, rfl, by decide +kernel, by decide +kernel⟩
abbrev s_seating_by : Stmt := topS 27
abbrev n_seating_by : List Str := ["coming", "seating", "guest", "right"]
theorem sc_seating_by : FnScope n_seating_by ["coming"] (defScope s_seating_by) := ⟨rfl, rfl, rfl, by decide +kernel, rfl, by decide +kernel, by decide +kernel⟩
abbrev s_check_coming : Stmt := topS 28
abbrev n_check_coming : List Str := ["coming"]
theorem sc_check_coming : FnScope n_check_coming ["coming"] (defScope s_check_coming) := ⟨rfl, rfl, rfl, by decide +kernel, rfl, by decide +kernel, by decide +kernel⟩
abbrev s_without : Stmt := topS 30
abbrev n_without : List Str := ["seating", "guest"]
theorem sc_without : FnScope n_without ["seating", "guest"] (defScope s_without) := ⟨rfl, rfl, rfl, by decide +kernel, rfl, by decide +kernel, by decide +kernel⟩
abbrev s_coming_without : Stmt := topS 31
abbrev n_coming_without : List Str := ["coming", "guest"]
theorem sc_coming_without : FnScope n_coming_without ["coming", "guest"] (defScope s_coming_without) := ⟨rfl, rfl, rfl, by decide +kernel, rfl, by decide +kernel, by decide +kernel⟩
abbrev s_sits_alone : Stmt := topS 32
abbrev n_sits_alone : List Str := ["seating", "guest"]
theorem sc_sits_alone : FnScope n_sits_alone ["seating", "guest"] (defScope s_sits_alone) := ⟨rfl, rfl, rfl, by decide +kernel, rfl, by decide +kernel, by decide +kernel⟩
abbrev s_is_traceless : Stmt := topS 33
abbrev n_is_traceless : List Str := ["seating", "guest"]
theorem sc_is_traceless : FnScope n_is_traceless ["seating", "guest"] (defScope s_is_traceless) := ⟨rfl, rfl, rfl, by decide +kernel, rfl, by decide +kernel, by decide +kernel⟩
abbrev s_traceless : Stmt := topS 34
abbrev n_traceless : List Str := ["seating", "coming", "guest"]
theorem sc_traceless : FnScope n_traceless ["seating"] (defScope s_traceless) := ⟨rfl, rfl, rfl, by decide +kernel, rfl, by decide +kernel, by decide +kernel⟩
abbrev s_traceless_share : Stmt := topS 35
abbrev n_traceless_share : List Str := ["guests", "weight", "guest"]
theorem sc_traceless_share : FnScope n_traceless_share ["guests", "weight", "guest"] (defScope s_traceless_share) := ⟨rfl, rfl, rfl, by decide +kernel, rfl, by decide +kernel, by decide +kernel⟩
abbrev s_traceless_counts : Stmt := topS 36
abbrev n_traceless_counts : List Str := ["guests", "weight", "sums", "guest", "grown", "many", "part"]
theorem sc_traceless_counts : FnScope n_traceless_counts ["guests", "weight"] (defScope s_traceless_counts) := ⟨rfl, rfl, rfl, by decide +kernel, rfl, by decide +kernel, by decide +kernel⟩
abbrev s_joined : Stmt := topS 37
abbrev n_joined : List Str := ["seating", "mate", "guests", "grown"]
theorem sc_joined : FnScope n_joined ["seating", "mate"] (defScope s_joined) := ⟨rfl, rfl, rfl, by decide +kernel, rfl, by decide +kernel, by decide +kernel⟩
abbrev s_seating_without : Stmt := topS 38
abbrev n_seating_without : List Str := ["seating", "guest", "closed", "left"]
theorem sc_seating_without : FnScope n_seating_without ["seating", "guest"] (defScope s_seating_without) := ⟨rfl, rfl, rfl, by decide +kernel, rfl, by decide +kernel, by decide +kernel⟩
abbrev s_law_bag : Stmt := topS 42
abbrev n_law_bag : List Str := ["script", "stir", "cell"]
theorem sc_law_bag : FnScope n_law_bag ["script"] (defScope s_law_bag) := ⟨rfl, rfl, rfl, by decide +kernel, rfl, by decide +kernel, by decide +kernel⟩
abbrev s_law_stirred : Stmt := topS 43
abbrev n_law_stirred : List Str := ["bag", "wide", "found", "k", "mixed"]
theorem sc_law_stirred : FnScope n_law_stirred ["bag", "wide"] (defScope s_law_stirred) := ⟨rfl, rfl, rfl, by decide +kernel, rfl, by decide +kernel, by decide +kernel⟩
abbrev s_law_draw : Stmt := topS 44
abbrev n_law_draw : List Str := ["bag", "wide", "found"]
theorem sc_law_draw : FnScope n_law_draw ["bag", "wide"] (defScope s_law_draw) := ⟨rfl, rfl, rfl, by decide +kernel, rfl, by decide +kernel, by decide +kernel⟩
abbrev s_law_alike : Stmt := topS 45
abbrev n_law_alike : List Str := ["found", "due", "k"]
theorem sc_law_alike : FnScope n_law_alike ["found", "due"] (defScope s_law_alike) := ⟨rfl, rfl, rfl, by decide +kernel, rfl, by decide +kernel, by decide +kernel⟩
abbrev s_law_bad_seating : Stmt := topS 46
abbrev n_law_bad_seating : List Str := ["bag", "odd", "found", "wrong"]
theorem sc_law_bad_seating : FnScope n_law_bad_seating ["bag"] (defScope s_law_bad_seating) := ⟨rfl, rfl, rfl, by decide +kernel, rfl, by decide +kernel, by decide +kernel⟩
abbrev s_law_named : Stmt := topS 47
abbrev n_law_named : List Str := ["e", "shown"]
theorem sc_law_named : FnScope n_law_named ["e"] (defScope s_law_named) := ⟨rfl, rfl, rfl, by decide +kernel, rfl, by decide +kernel, by decide +kernel⟩
abbrev s_law_asked : Stmt := topS 48
abbrev n_law_asked : List Str := ["way", "some", "k", "e"]
theorem sc_law_asked : FnScope n_law_asked ["way", "some", "k"] (defScope s_law_asked) := ⟨rfl, rfl, rfl, by decide +kernel, rfl, by decide +kernel, by decide +kernel⟩
abbrev s_law_counted : Stmt := topS 49
abbrev n_law_counted : List Str := ["wide", "w", "k", "found", "way", "e"]
theorem sc_law_counted : FnScope n_law_counted ["wide", "w", "k"] (defScope s_law_counted) := ⟨rfl, rfl, rfl, by decide +kernel, rfl, by decide +kernel, by decide +kernel⟩
abbrev s_law : Stmt := topS 50
abbrev n_law : List Str := ["script", "bag", "turn", "bad", "far", "way", "told", "wide", "good", "row", "wrong", "bound", "full"]
theorem sc_law : FnScope n_law ["script"] (defScope s_law) := ⟨rfl, rfl, rfl, by decide +kernel, rfl, by decide +kernel, by decide +kernel⟩
abbrev s_Hall_init : Stmt := Kit.clsM (topS 40) 0
abbrev n_Hall_init : List Str := ["self", "weight"]
theorem sc_Hall_init : FnScope n_Hall_init ["self", "weight"] (defScope s_Hall_init) := ⟨rfl, rfl, rfl, by decide +kernel, rfl, by decide +kernel, by decide +kernel⟩
/-! what the top has written -/
structure Tx (K : PySem.W.Frag) (mg : Str → Option Value) where
  f_wall : Addr
  d_wall : FuncData
  F_wall : Fun K "_wall" "_wall" s_wall f_wall d_wall
  g_wall : mg "_wall" = some (.ref f_wall)
  b_wall : Binds K d_wall ["k"] []
  f_is_whole : Addr
  d_is_whole : FuncData
  F_is_whole : Fun K "is_whole" "is_whole" s_is_whole f_is_whole d_is_whole
  g_is_whole : mg "is_whole" = some (.ref f_is_whole)
  b_is_whole : Binds K d_is_whole ["thing"] []
  f_is_within : Addr
  d_is_within : FuncData
  F_is_within : Fun K "is_within" "is_within" s_is_within f_is_within d_is_within
  g_is_within : mg "is_within" = some (.ref f_is_within)
  b_is_within : Binds K d_is_within ["thing", "least", "most"] []
  f_is_order : Addr
  d_is_order : FuncData
  F_is_order : Fun K "is_order" "is_order" s_is_order f_is_order d_is_order
  g_is_order : mg "is_order" = some (.ref f_is_order)
  b_is_order : Binds K d_is_order ["thing"] []
  f_check_guests : Addr
  d_check_guests : FuncData
  F_check_guests : Fun K "check_guests" "check_guests" s_check_guests f_check_guests d_check_guests
  g_check_guests : mg "check_guests" = some (.ref f_check_guests)
  b_check_guests : Binds K d_check_guests ["guests"] []
  f_check_weight : Addr
  d_check_weight : FuncData
  F_check_weight : Fun K "check_weight" "check_weight" s_check_weight f_check_weight d_check_weight
  g_check_weight : mg "check_weight" = some (.ref f_check_weight)
  b_check_weight : Binds K d_check_weight ["weight"] []
  f_check_guest : Addr
  d_check_guest : FuncData
  F_check_guest : Fun K "check_guest" "check_guest" s_check_guest f_check_guest d_check_guest
  g_check_guest : mg "check_guest" = some (.ref f_check_guest)
  b_check_guest : Binds K d_check_guest ["guest", "guests"] []
  f_fraction : Addr
  d_fraction : FuncData
  F_fraction : Fun K "fraction" "fraction" s_fraction f_fraction d_fraction
  g_fraction : mg "fraction" = some (.ref f_fraction)
  b_fraction : Binds K d_fraction ["top", "bottom"] []
  f_is_seating : Addr
  d_is_seating : FuncData
  F_is_seating : Fun K "is_seating" "is_seating" s_is_seating f_is_seating d_is_seating
  g_is_seating : mg "is_seating" = some (.ref f_is_seating)
  b_is_seating : Binds K d_is_seating ["thing"] []
  f_check_seating : Addr
  d_check_seating : FuncData
  F_check_seating : Fun K "check_seating" "check_seating" s_check_seating f_check_seating d_check_seating
  g_check_seating : mg "check_seating" = some (.ref f_check_seating)
  b_check_seating : Binds K d_check_seating ["seating"] []
  f_is_coming : Addr
  d_is_coming : FuncData
  F_is_coming : Fun K "is_coming" "is_coming" s_is_coming f_is_coming d_is_coming
  g_is_coming : mg "is_coming" = some (.ref f_is_coming)
  b_is_coming : Binds K d_is_coming ["thing"] []
  f_coming_of : Addr
  d_coming_of : FuncData
  F_coming_of : Fun K "coming_of" "coming_of" s_coming_of f_coming_of d_coming_of
  g_coming_of : mg "coming_of" = some (.ref f_coming_of)
  b_coming_of : Binds K d_coming_of ["seating"] []
  f_seating_by : Addr
  d_seating_by : FuncData
  F_seating_by : Fun K "seating_by" "seating_by" s_seating_by f_seating_by d_seating_by
  g_seating_by : mg "seating_by" = some (.ref f_seating_by)
  b_seating_by : Binds K d_seating_by ["coming"] []
  f_check_coming : Addr
  d_check_coming : FuncData
  F_check_coming : Fun K "check_coming" "check_coming" s_check_coming f_check_coming d_check_coming
  g_check_coming : mg "check_coming" = some (.ref f_check_coming)
  b_check_coming : Binds K d_check_coming ["coming"] []
  f_without : Addr
  d_without : FuncData
  F_without : Fun K "without" "without" s_without f_without d_without
  g_without : mg "without" = some (.ref f_without)
  b_without : Binds K d_without ["seating", "guest"] []
  f_coming_without : Addr
  d_coming_without : FuncData
  F_coming_without : Fun K "coming_without" "coming_without" s_coming_without f_coming_without d_coming_without
  g_coming_without : mg "coming_without" = some (.ref f_coming_without)
  b_coming_without : Binds K d_coming_without ["coming", "guest"] []
  f_sits_alone : Addr
  d_sits_alone : FuncData
  F_sits_alone : Fun K "sits_alone" "sits_alone" s_sits_alone f_sits_alone d_sits_alone
  g_sits_alone : mg "sits_alone" = some (.ref f_sits_alone)
  b_sits_alone : Binds K d_sits_alone ["seating", "guest"] []
  f_is_traceless : Addr
  d_is_traceless : FuncData
  F_is_traceless : Fun K "is_traceless" "is_traceless" s_is_traceless f_is_traceless d_is_traceless
  g_is_traceless : mg "is_traceless" = some (.ref f_is_traceless)
  b_is_traceless : Binds K d_is_traceless ["seating", "guest"] []
  f_traceless : Addr
  d_traceless : FuncData
  F_traceless : Fun K "traceless" "traceless" s_traceless f_traceless d_traceless
  g_traceless : mg "traceless" = some (.ref f_traceless)
  b_traceless : Binds K d_traceless ["seating"] []
  f_traceless_share : Addr
  d_traceless_share : FuncData
  F_traceless_share : Fun K "traceless_share" "traceless_share" s_traceless_share f_traceless_share d_traceless_share
  g_traceless_share : mg "traceless_share" = some (.ref f_traceless_share)
  b_traceless_share : Binds K d_traceless_share ["guests", "weight", "guest"] []
  f_traceless_counts : Addr
  d_traceless_counts : FuncData
  F_traceless_counts : Fun K "traceless_counts" "traceless_counts" s_traceless_counts f_traceless_counts d_traceless_counts
  g_traceless_counts : mg "traceless_counts" = some (.ref f_traceless_counts)
  b_traceless_counts : Binds K d_traceless_counts ["guests", "weight"] []
  f_joined : Addr
  d_joined : FuncData
  F_joined : Fun K "joined" "joined" s_joined f_joined d_joined
  g_joined : mg "joined" = some (.ref f_joined)
  b_joined : Binds K d_joined ["seating", "mate"] []
  f_seating_without : Addr
  d_seating_without : FuncData
  F_seating_without : Fun K "seating_without" "seating_without" s_seating_without f_seating_without d_seating_without
  g_seating_without : mg "seating_without" = some (.ref f_seating_without)
  b_seating_without : Binds K d_seating_without ["seating", "guest"] []
  f_law_bag : Addr
  d_law_bag : FuncData
  F_law_bag : Fun K "_law_bag" "_law_bag" s_law_bag f_law_bag d_law_bag
  g_law_bag : mg "_law_bag" = some (.ref f_law_bag)
  b_law_bag : Binds K d_law_bag ["script"] []
  f_law_stirred : Addr
  d_law_stirred : FuncData
  F_law_stirred : Fun K "_law_stirred" "_law_stirred" s_law_stirred f_law_stirred d_law_stirred
  g_law_stirred : mg "_law_stirred" = some (.ref f_law_stirred)
  b_law_stirred : Binds K d_law_stirred ["bag", "wide"] []
  f_law_draw : Addr
  d_law_draw : FuncData
  F_law_draw : Fun K "_law_draw" "_law_draw" s_law_draw f_law_draw d_law_draw
  g_law_draw : mg "_law_draw" = some (.ref f_law_draw)
  b_law_draw : Binds K d_law_draw ["bag", "wide"] []
  f_law_alike : Addr
  d_law_alike : FuncData
  F_law_alike : Fun K "_law_alike" "_law_alike" s_law_alike f_law_alike d_law_alike
  g_law_alike : mg "_law_alike" = some (.ref f_law_alike)
  b_law_alike : Binds K d_law_alike ["found", "due"] []
  f_law_bad_seating : Addr
  d_law_bad_seating : FuncData
  F_law_bad_seating : Fun K "_law_bad_seating" "_law_bad_seating" s_law_bad_seating f_law_bad_seating d_law_bad_seating
  g_law_bad_seating : mg "_law_bad_seating" = some (.ref f_law_bad_seating)
  b_law_bad_seating : Binds K d_law_bad_seating ["bag"] []
  f_law_named : Addr
  d_law_named : FuncData
  F_law_named : Fun K "_law_named" "_law_named" s_law_named f_law_named d_law_named
  g_law_named : mg "_law_named" = some (.ref f_law_named)
  b_law_named : Binds K d_law_named ["e"] []
  f_law_asked : Addr
  d_law_asked : FuncData
  F_law_asked : Fun K "_law_asked" "_law_asked" s_law_asked f_law_asked d_law_asked
  g_law_asked : mg "_law_asked" = some (.ref f_law_asked)
  b_law_asked : Binds K d_law_asked ["way", "some", "k"] []
  f_law_counted : Addr
  d_law_counted : FuncData
  F_law_counted : Fun K "_law_counted" "_law_counted" s_law_counted f_law_counted d_law_counted
  g_law_counted : mg "_law_counted" = some (.ref f_law_counted)
  b_law_counted : Binds K d_law_counted ["wide", "w", "k"] []
  f_law : Addr
  d_law : FuncData
  F_law : Fun K "law" "law" s_law f_law d_law
  g_law : mg "law" = some (.ref f_law)
  b_law : Binds K d_law ["script"] []
  cl_HallError : Addr
  gc_HallError : mg "HallError" = some (.ref cl_HallError)
  cl_InvalidGuests : Addr
  gc_InvalidGuests : mg "InvalidGuests" = some (.ref cl_InvalidGuests)
  cl_InvalidWeight : Addr
  gc_InvalidWeight : mg "InvalidWeight" = some (.ref cl_InvalidWeight)
  cl_InvalidGuest : Addr
  gc_InvalidGuest : mg "InvalidGuest" = some (.ref cl_InvalidGuest)
  cl_InvalidSeating : Addr
  gc_InvalidSeating : mg "InvalidSeating" = some (.ref cl_InvalidSeating)
  cl_InvalidComing : Addr
  gc_InvalidComing : mg "InvalidComing" = some (.ref cl_InvalidComing)
  cl_NoSeating : Addr
  gc_NoSeating : mg "NoSeating" = some (.ref cl_NoSeating)
  cl_Hall : Addr
  gc_Hall : mg "Hall" = some (.ref cl_Hall)
  f_Hall_init : Addr
  d_Hall_init : FuncData
  F_Hall_init : FunD K "__init__" "Hall.__init__" (defArgs s_Hall_init) (defBody s_Hall_init) (defScope s_Hall_init) [.int 1] [] f_Hall_init d_Hall_init
  ds_Hall_init : List Value
  bv_Hall_init : Vals [V.int 1] ds_Hall_init
  bm_Hall_init : Binds K d_Hall_init ["self", "weight"] ds_Hall_init
  o_Hall : Kit.OwnD K cl_Hall f_Hall_init ["_weight", "_lefts", "_newcomer", "_chance", "_past"]
  e_InvalidSeating : Kit.ExcD K cl_InvalidSeating
  x_InvalidSeating : PySem.W.exmOne K (.ref cl_InvalidSeating) (.ref cl_HallError) = some true
  t_InvalidSeating : Kit.isRow K cl_InvalidSeating [((.ref cl_InvalidSeating : Value), true), ((.ref cl_InvalidComing : Value), false), ((.ref cl_InvalidGuests : Value), false), ((.ref cl_InvalidWeight : Value), false), ((.ref cl_InvalidGuest : Value), false), ((.ref cl_NoSeating : Value), false)] = true
  e_InvalidComing : Kit.ExcD K cl_InvalidComing
  x_InvalidComing : PySem.W.exmOne K (.ref cl_InvalidComing) (.ref cl_HallError) = some true
  t_InvalidComing : Kit.isRow K cl_InvalidComing [((.ref cl_InvalidSeating : Value), false), ((.ref cl_InvalidComing : Value), true), ((.ref cl_InvalidGuests : Value), false), ((.ref cl_InvalidWeight : Value), false), ((.ref cl_InvalidGuest : Value), false), ((.ref cl_NoSeating : Value), false)] = true
  e_InvalidGuests : Kit.ExcD K cl_InvalidGuests
  x_InvalidGuests : PySem.W.exmOne K (.ref cl_InvalidGuests) (.ref cl_HallError) = some true
  t_InvalidGuests : Kit.isRow K cl_InvalidGuests [((.ref cl_InvalidSeating : Value), false), ((.ref cl_InvalidComing : Value), false), ((.ref cl_InvalidGuests : Value), true), ((.ref cl_InvalidWeight : Value), false), ((.ref cl_InvalidGuest : Value), false), ((.ref cl_NoSeating : Value), false)] = true
  e_InvalidWeight : Kit.ExcD K cl_InvalidWeight
  x_InvalidWeight : PySem.W.exmOne K (.ref cl_InvalidWeight) (.ref cl_HallError) = some true
  t_InvalidWeight : Kit.isRow K cl_InvalidWeight [((.ref cl_InvalidSeating : Value), false), ((.ref cl_InvalidComing : Value), false), ((.ref cl_InvalidGuests : Value), false), ((.ref cl_InvalidWeight : Value), true), ((.ref cl_InvalidGuest : Value), false), ((.ref cl_NoSeating : Value), false)] = true
  e_InvalidGuest : Kit.ExcD K cl_InvalidGuest
  x_InvalidGuest : PySem.W.exmOne K (.ref cl_InvalidGuest) (.ref cl_HallError) = some true
  t_InvalidGuest : Kit.isRow K cl_InvalidGuest [((.ref cl_InvalidSeating : Value), false), ((.ref cl_InvalidComing : Value), false), ((.ref cl_InvalidGuests : Value), false), ((.ref cl_InvalidWeight : Value), false), ((.ref cl_InvalidGuest : Value), true), ((.ref cl_NoSeating : Value), false)] = true
  e_NoSeating : Kit.ExcD K cl_NoSeating
  x_NoSeating : PySem.W.exmOne K (.ref cl_NoSeating) (.ref cl_HallError) = some true
  t_NoSeating : Kit.isRow K cl_NoSeating [((.ref cl_InvalidSeating : Value), false), ((.ref cl_InvalidComing : Value), false), ((.ref cl_InvalidGuests : Value), false), ((.ref cl_InvalidWeight : Value), false), ((.ref cl_InvalidGuest : Value), false), ((.ref cl_NoSeating : Value), true)] = true
  m_abs : mg "abs" = none
  m_all : mg "all" = none
  m_bool : mg "bool" = none
  m_enumerate : mg "enumerate" = none
  m_int : mg "int" = none
  m_isinstance : mg "isinstance" = none
  m_len : mg "len" = none
  m_list : mg "list" = none
  m_range : mg "range" = none
  m_sorted : mg "sorted" = none
  m_str : mg "str" = none
  m_tuple : mg "tuple" = none
  m_type : mg "type" = none
  c_MOST_GUESTS : ∃ u, mg "MOST_GUESTS" = some u ∧ RelV (.int 20) u
  c_MOST_WEIGHT : ∃ u, mg "MOST_WEIGHT" = some u ∧ RelV (.int 1000000000000) u
  i_gcd : mg "gcd" = some (.builtin "math.gcd")
/-! readings that go by themselves -/
local macro_rules | `(tactic| walk_at "side") => `(tactic| first | with_reducible assumption | with_reducible rfl | omega | decide | (constructor <;> first | assumption | omega | decide))
local macro_rules | `(tactic| walk_at "ev") => `(tactic| first
  | ((with_reducible refine' ev_var ?e1); (case e1 => rfl))
  | (with_reducible exact ev_c)
  | ((with_reducible refine' ev_op ?e1 ?e2 rv_I0); (case e1 => walk_at "ev"); (case e2 => walk_at "ev"))
  | ((with_reducible refine' ev_op ?e1 ?e2 (rv_I ?e3)); (case e1 => walk_at "ev"); (case e2 => walk_at "ev"); (case e3 => walk_at "side"))
  | ((with_reducible refine' ev_op ?e1 ?e2 (rv_eq ?e3)); (case e1 => walk_at "ev"); (case e2 => walk_at "ev"); (case e3 => rfl))
  | ((with_reducible refine' ev_op ?e1 ?e2 (rv_ne ?e3)); (case e1 => walk_at "ev"); (case e2 => walk_at "ev"); (case e3 => rfl))
  | ((with_reducible refine' ev_op ?e1 ?e2 (rv_ixL ?e3 ?e4)); (case e1 => walk_at "ev"); (case e2 => walk_at "ev"); (case e3 => walk_at "sq"); (case e4 => walk_at "at"))
  | ((with_reducible refine' ev_op ?e1 ?e2 (rv_ixT ?e3 ?e4)); (case e1 => walk_at "ev"); (case e2 => walk_at "ev"); (case e3 => walk_at "sq"); (case e4 => walk_at "at"))
  | ((with_reducible refine' ev_op ?e1 ?e2 rv_isN); (case e1 => walk_at "ev"); (case e2 => walk_at "ev"))
  | ((with_reducible refine' ev_op ?e1 ?e2 rv_notN); (case e1 => walk_at "ev"); (case e2 => walk_at "ev"))
  | ((with_reducible refine' ev_op ?e1 ?e2 (rv_eqTy ?e3 ?e4)); (case e1 => walk_at "ev"); (case e2 => walk_at "ev"); (case e3 => exact PySem.TypeEq.meta_int); (case e4 => exact PySem.TypeEq.meta_int))
  | ((with_reducible refine' ev_un ?e1 ru_neg); (case e1 => walk_at "ev"))
  | ((with_reducible refine' ev_intI ?e1); (case e1 => walk_at "ev"))
  | ((with_reducible refine' ev_intB ?e1); (case e1 => walk_at "ev"))
  | ((with_reducible refine' ev_typeI ?e1); (case e1 => walk_at "ev"))
  | ((with_reducible refine' ev_abs ?e1); (case e1 => walk_at "ev"))
  | ((with_reducible refine' ev_max2 ?e1 ?e2); (case e1 => walk_at "ev"); (case e2 => walk_at "ev"))
  | ((with_reducible refine' ev_min2 ?e1 ?e2); (case e1 => walk_at "ev"); (case e2 => walk_at "ev"))
  | ((with_reducible refine' ev_gcd ?e1 ?e2); (case e1 => walk_at "ev"); (case e2 => walk_at "ev"))
  | ((with_reducible refine' ev_len ?e1 ?e2); (case e1 => walk_at "ev"); (case e2 => walk_at "sq"))
  | ((with_reducible refine' ev_chainI ?e1 ?e2 ?e3); (case e1 => walk_at "ev"); (case e2 => walk_at "ev"); (case e3 => walk_at "ev"))
  | ((with_reducible refine' ev_chain3I ?e1 ?e2 ?e3 ?e4); (case e1 => walk_at "ev"); (case e2 => walk_at "ev"); (case e3 => walk_at "ev"); (case e4 => walk_at "ev"))
  | ((with_reducible refine' ev_notV ?e1); (case e1 => walk_at "ev"))
  | ((with_reducible refine' ev_andV ?e1 ?e2); (case e1 => walk_at "ev"); (case e2 => (intro _; walk_at "ev")))
  | ((with_reducible refine' ev_orV ?e1 ?e2); (case e1 => walk_at "ev"); (case e2 => (intro _; walk_at "ev")))
  | ((with_reducible refine' ev_if ?e1 ?e2 ?e3); (case e1 => walk_at "et"); (case e2 => (intro _; walk_at "ev")); (case e3 => (intro _; walk_at "ev")))
  | ((with_reducible refine' ev_call ?e1 ?e2); (case e1 => walk_at "ea"); (case e2 => walk_at "call")))
local macro_rules | `(tactic| walk_at "ea") => `(tactic| first
  | (with_reducible exact ea_nil)
  | ((with_reducible refine' ea_cons ?e1 ?e2); (case e1 => walk_at "ev"); (case e2 => walk_at "ea")))
local macro_rules | `(tactic| walk_at "et") => `(tactic| first
  | ((with_reducible refine' et_test ?e1); (case e1 => walk_at "ev"))
  | ((with_reducible refine' et_B ?e1); (case e1 => walk_at "ev"))
  | ((with_reducible refine' et_not ?e1); (case e1 => walk_at "et"))
  | ((with_reducible refine' et_and ?e1 ?e2); (case e1 => walk_at "et"); (case e2 => (intro _; walk_at "et")))
  | ((with_reducible refine' et_or ?e1 ?e2); (case e1 => walk_at "et"); (case e2 => (intro _; walk_at "et"))))
local macro_rules | `(tactic| walk_at "eu") => `(tactic| first
  | ((with_reducible refine' eu_tup ?e1 ?e2); (case e1 => walk_at "ea"); (case e2 => exact Nat.le_of_ble_eq_true rfl))
  | ((with_reducible refine' eu_call ?e1 ?e2); (case e1 => walk_at "ea"); (case e2 => walk_at "callU")))
local macro_rules | `(tactic| walk_at "el") => `(tactic| first
  | ((with_reducible refine' el_call ?e1 ?e2); (case e1 => walk_at "ea"); (case e2 => walk_at "callL"))
  | ((with_reducible refine' el_lst ?e1 ?e2); (case e1 => walk_at "ea"); (case e2 => exact Nat.le_of_ble_eq_true rfl)))
local macro_rules | `(tactic| walk_at "sq") => `(tactic| first | assumption | exact sq_of (by assumption) | exact st_of (by assumption))
local macro_rules | `(tactic| walk_at "at") => `(tactic| first | assumption | rfl | (apply atI_nat; rfl))
local macro_rules | `(tactic| walk_at "call") => `(tactic| assumption)

/-! ### _law_alike -/
def sp_law_alike (n : Nat) : Sp := fun vs H Q _ => ∃ (v w : V) (d : PyData), vs = [v, w] ∧ Tk n H v d ∧ Tk n H w d ∧ RetV (.bl true) H Q
def sp_alikeB : Nat → Sp
  | 0 => fun _ _ _ _ => False
  | n + 1 => sp_law_alike n
theorem sv_alike {n : Nat} {H : Hp} {v w : V} {d : PyData} (hv : Tk n H v d) (hw : Tk n H w d) : SpV (sp_law_alike n) ([v, w] ++ []) H (.bl true) := fun H1 e Q q E => ⟨v, w, d, rfl, hv.ex e, hw.ex e, q⟩
theorem given_true (n : Nat) : given n (fun _ => true) (fun _ => V.bl true) = (List.replicate n true).map V.bl := by
  unfold given
  rw [List.filter_eq_self.mpr (fun _ _ => rfl), List.map_replicate]
  refine List.ext_getElem? fun i => ?_
  rw [List.getElem?_map, List.getElem?_replicate]
  by_cases h : i < n
  · rw [List.getElem?_range h, if_pos h]
    rfl
  · rw [List.getElem?_eq_none (by simpa using h), if_neg h]
    rfl
theorem all_true (n : Nat) : (List.replicate n true).all id = true := by
  rw [List.all_eq_true]
  intro x hx
  rw [(List.mem_replicate.mp hx).2]
  rfl
section
variable {P : Program} {w : World} {K : PySem.W.Frag} {mg : Str → Option Value} {base : Heap}
theorem alike_step (T : Tx K mg) (n k : Nat) (ih : FnOk P w K mg base CX0 k T.f_law_alike T.d_law_alike ["found", "due"] (sp_alikeB n)) : FnOk P w K mg base CX0 (k + 1) T.f_law_alike T.d_law_alike ["found", "due"] (sp_law_alike n) := by
  refine T.F_law_alike.ok sc_law_alike (fun vs H Q E h => ?_) (fun cdv A outer s H vs Q E hr h => ?_)
  · obtain ⟨v, w, d, rfl, _⟩ := h
    rfl
  · obtain ⟨v, u, d, rfl, hv, hu, kk⟩ := h
    refine ⟨_, (pss_cons (ps_if (pt_val (pe_callB call_isiT (by rfl) T.m_isinstance (by decide +kernel) (pa_cons (pv 1) (pa_cons (pe_tup (pa_cons (pe_bltn (v := .ty "list") (by rfl) T.m_list (by decide +kernel) rfl) (pa_cons (pe_bltn (v := .ty "tuple") (by rfl) T.m_tuple (by decide +kernel) rfl) pa_nil))) pa_nil)))) (pss_cons (ps_if (PW.pt (pw_or (pt_not (pt_val (pe_callB call_isiT (by rfl) T.m_isinstance (by decide +kernel) (pa_cons (pv 0) (pa_cons (pe_tup (pa_cons (pe_bltn (v := .ty "list") (by rfl) T.m_list (by decide +kernel) rfl) (pa_cons (pe_bltn (v := .ty "tuple") (by rfl) T.m_tuple (by decide +kernel) rfl) pa_nil))) pa_nil))))) (pw_or1 (pt_cmpR op_ne (pe_callB call_isi (by rfl) T.m_isinstance (by decide +kernel) (pa_cons (pv 0) (pa_cons (pe_bltn (v := .ty "list") (by rfl) T.m_list (by decide +kernel) rfl) pa_nil))) (pe_callB call_isi (by rfl) T.m_isinstance (by decide +kernel) (pa_cons (pv 1) (pa_cons (pe_bltn (v := .ty "list") (by rfl) T.m_list (by decide +kernel) rfl) pa_nil))) (nomark _))))) (pss_one (ps_ret pe_bl)) pss_nil)
      (pss_cons (ps_if (pt_cmpR op_ne (pe_callB call_lenR (by rfl) T.m_len (by decide +kernel) (pa_cons (pv 0) pa_nil)) (pe_callB call_lenR (by rfl) T.m_len (by decide +kernel) (pa_cons (pv 1) pa_nil)) (nomark _)) (pss_one (ps_ret pe_bl)) pss_nil)
      (pss_one (ps_ret (pe_callB (cr_all rfl) (by rfl) T.m_all (by decide +kernel) (pa_cons (pe_lc (own := [("k", 2)]) (g := (gName 2)) (tt := tYes) rfl sc_law_alike.nd (pi_range1 (by rfl) T.m_range (pa_cons (pe_callB (id := "len") (r := rLenS K) call_lenR (by rfl) T.m_len (by decide +kernel) (pa_cons (pv 1) pa_nil)) pa_nil)) (blkOk_by (own := [("k", 2)]) (N := n_law_alike) (sc := defScope s_law_alike) (by decide +kernel)) (fun _ _ _ _ _ => (pg_name (i := 2) sc_law_alike.nd rfl (Or.inl rfl))) (fun _ _ _ _ _ => pts_nil) (fun _ _ _ _ _ => (pe_call ih hr (by rfl) T.g_law_alike T.F_law_alike.kp T.b_law_alike .nil pass0 (pa_cons (pe_ix (r := rIx K) ix_seq (pv 0) (pv 2) (fun _ _ => rfl)) (pa_cons (pe_ix (r := rIx K) ix_seq (pv 1) (pv 2) (fun _ _ => rfl)) pa_nil))))) pa_nil)))))) pss_nil)
      (pss_cons (ps_if (PW.pt (pw_or (pt_cmpR op_ne (pe_callB call_isi (by rfl) T.m_isinstance (by decide +kernel) (pa_cons (pv 0) (pa_cons (pe_bltn (v := .ty "bool") (by rfl) T.m_bool (by decide +kernel) rfl) pa_nil))) (pe_callB call_isi (by rfl) T.m_isinstance (by decide +kernel) (pa_cons (pv 1) (pa_cons (pe_bltn (v := .ty "bool") (by rfl) T.m_bool (by decide +kernel) rfl) pa_nil))) (nomark _)) (pw_or1 (pt_cmpR op_ne (pe_callB call_isi (by rfl) T.m_isinstance (by decide +kernel) (pa_cons (pv 0) (pa_cons (pe_bltn (v := .ty "int") (by rfl) T.m_int (by decide +kernel) rfl) pa_nil))) (pe_callB call_isi (by rfl) T.m_isinstance (by decide +kernel) (pa_cons (pv 1) (pa_cons (pe_bltn (v := .ty "int") (by rfl) T.m_int (by decide +kernel) rfl) pa_nil))) (nomark _))))) (pss_one (ps_ret pe_bl)) pss_nil)
      (pss_one (ps_ret (pe_and (pe_cmpR op_eq (pe_callB call_isi (by rfl) T.m_isinstance (by decide +kernel) (pa_cons (pv 0) (pa_cons (pe_bltn (v := .ty "str") (by rfl) T.m_str (by decide +kernel) rfl) pa_nil))) (pe_callB call_isi (by rfl) T.m_isinstance (by decide +kernel) (pa_cons (pv 1) (pa_cons (pe_bltn (v := .ty "str") (by rfl) T.m_str (by decide +kernel) rfl) pa_nil))) (nomark _)) (pe_one (pe_cmpR (op_eqD hr.units) (pv 0) (pv 1) (nomark _)))))))), ?_⟩
    have seqs : ∀ {xs ys : List V} {ds : List PyData} {m : Nat}, n = m + 1 → Paired (Tk m H) xs ds → Paired (Tk m H) ys ds → xs.length ≤ 40000 → ∀ (ta tb : TE) (σ : L2.St) (H1 : Hp) (hw : ∀ x, wipe ((wipe σ [2]).set 2 (some x)) [2] = wipe σ [2]), Ex H H1 → Ev (tCB (rLenS K) (tCons (tVar 1) tNil)) σ H1 (.int (ds.length : Int)) →
        (∀ (i : Nat) (x y : V) (H2 : Hp), Ex H1 H2 → xs[i]? = some x → ys[i]? = some y → Ev ta ((wipe σ [2]).set 2 (some (.int (i : Int)))) H2 x ∧ Ev tb ((wipe σ [2]).set 2 (some (.int (i : Int)))) H2 y) →
        Ev (tCB (rAll K) (tCons (tLc (iRng1 (tCons (tCB (rLenS K) (tCons (tVar 1) tNil)) tNil)) (gName 2) tYes (tCall (sp_alikeB n) [] E0 (tCons ta (tCons tb tNil))) [2]) tNil)) σ H1 (.bl true) := by
      intro xs ys ds m en hx hy hz ta tb σ H1 hw e1 hlen hit
      have xl : xs.length = ds.length := Paired.length hx
      have yl : ys.length = ds.length := Paired.length hy
      have el := el_lcR1 (te := tCall (sp_alikeB n) [] E0 (tCons ta (tCons tb tNil))) (t := tYes) (j := 2) (vs := [2]) (σ := σ) (H := H1) (n := (ds.length : Int)) (fun _ => true) (fun _ => .bl true) (ea_cons hlen ea_nil) (by omega) hw (fun _ _ _ _ => et_yes) fun i H2 e2 hi _ => ?_
      · rw [Int.toNat_natCast, given_true] at el
        exact ev_is (ev_allN el) (by rw [all_true])
      · have hi' : i < ds.length := by omega
        obtain ⟨a, ha⟩ : ∃ a, xs[i]? = some a := ⟨_, List.getElem?_eq_getElem (by omega)⟩
        obtain ⟨b, hb⟩ : ∃ b, ys[i]? = some b := ⟨_, List.getElem?_eq_getElem (by omega)⟩
        obtain ⟨c, hc, pa⟩ := paired_get hx ha
        obtain ⟨c', hc', pb⟩ := paired_get hy hb
        rw [hc] at hc'
        cases hc'
        obtain ⟨e3, e4⟩ := hit i a b H2 e2 ha hb
        refine ev_call (ea_cons e3 (ea_cons e4 ea_nil)) ?_
        rw [en]
        exact sv_alike (pa.ex (e1.trans e2)) (pb.ex (e1.trans e2))
    cases hs : isSeq d with
    | false =>
      have fv := tk_flat hv hs
      have fu := tk_flat hu hs
      have sd : SeqAt.shaped d = true := by cases fv <;> simp [SeqAt.shaped, PyData.canLay0, PyData.depth, *]
      refine q_when (b := false) (et_is (et_B (ev_isSeq (ev_var rfl) hu)) hs) (fun hb => Bool.noConfusion hb) fun _ H1 e1 => ?_
      refine q_when (b := false) (et_is (et_or (et_test (ev_op (ev_isBo (ev_var rfl) (hv.ex e1)) (ev_isBo (ev_var rfl) (hu.ex e1)) (rv_ne rfl))) fun _ => et_test (ev_op (ev_isIt (ev_var rfl) (hv.ex e1)) (ev_isIt (ev_var rfl) (hu.ex e1)) (rv_ne rfl))) (by simp)) (fun hb => Bool.noConfusion hb) fun _ H2 e2 => ?_
      have e12 := e1.trans e2
      exact s_ret (v := .bl true) (ev_is (ev_andV (ev_op (ev_isSt (ev_var rfl) (hv.ex e12)) (ev_isSt (ev_var rfl) (hu.ex e12)) (rv_eq rfl)) fun _ => ev_eqD (K := K) (ed_of (ev_var rfl) (flat_dp fv)) (ed_of (ev_var rfl) (flat_dp fu)) sd sd) (by rw [eqv_same sd]; simp)) fun H3 e3 => kk H3 (e12.trans e3)
    | true =>
      refine q_when (b := true) (et_is (et_B (ev_isSeq (ev_var rfl) hu)) hs) (fun _ H1 e1 => ?_) fun hb => Bool.noConfusion hb
      refine q_when (b := false) (et_is (et_or (et_is (et_not (et_B (ev_isSeq (ev_var rfl) (hv.ex e1)))) (show (!isSeq d) = false by rw [hs]; rfl)) fun _ => et_test (ev_op (ev_isLs (ev_var rfl) (hv.ex e1)) (ev_isLs (ev_var rfl) (hu.ex e1)) (rv_ne rfl))) (by simp)) (fun hb => Bool.noConfusion hb) fun _ H2 e2 => ?_
      have e12 := e1.trans e2
      obtain ⟨m, en, hv'⟩ := tk_seq hv hs
      obtain ⟨m', en', hu'⟩ := tk_seq hu hs
      obtain rfl : m' = m := by omega
      rcases hv' with ⟨a, xs, ds, rfl, rfl, ha, hz, hx⟩ | ⟨a, xs, ds, rfl, rfl, ha, hz, hx⟩
      · rcases hu' with ⟨b, ys, ds', rfl, ed, hb, hzb, hy⟩ | ⟨b, ys, ds', rfl, ed, hb, hzb, hy⟩
        · cases ed
          have xl : xs.length = ds.length := Paired.length hx
          have yl : ys.length = ds.length := Paired.length hy
          have lv : ∀ H3, Ex H H3 → Ev (tCB (rLenS K) (tCons (tVar 0) tNil)) (start n_law_alike [.ref a, .ref b]) H3 (.int (ds.length : Int)) := fun H3 e => ev_is (ev_len (K := K) (ev_var (i := 0) rfl) (sq_of (e a _ ha))) (by rw [xl])
          have lu : ∀ H3, Ex H H3 → Ev (tCB (rLenS K) (tCons (tVar 1) tNil)) (start n_law_alike [.ref a, .ref b]) H3 (.int (ds.length : Int)) := fun H3 e => ev_is (ev_len (K := K) (ev_var (i := 1) rfl) (sq_of (e b _ hb))) (by rw [yl])
          refine q_when (b := false) (et_is (et_test (ev_op (lv H2 e12) (lu H2 e12) (rv_ne rfl))) (by simp)) (fun hb => Bool.noConfusion hb) fun _ H3 e3 => ?_
          have e13 := e12.trans e3
          refine s_ret (v := .bl true) (seqs en hx hy hz _ _ _ H3 (fun _ => rfl) e13 (lu H3 e13) fun i x y H4 e4 hxi hyi => ⟨ev_op (ev_var rfl) (ev_var rfl) (rv_ixQL (sq_of ((e13.trans e4) a _ ha)) (atI_nat hxi)), ev_op (ev_var rfl) (ev_var rfl) (rv_ixQL (sq_of ((e13.trans e4) b _ hb)) (atI_nat hyi))⟩) fun H4 e4 => kk H4 (e13.trans e4)
        · cases ed
      · rcases hu' with ⟨b, ys, ds', rfl, ed, hb, hzb, hy⟩ | ⟨b, ys, ds', rfl, ed, hb, hzb, hy⟩
        · cases ed
        · cases ed
          have xl : xs.length = ds.length := Paired.length hx
          have yl : ys.length = ds.length := Paired.length hy
          have lv : ∀ H3, Ex H H3 → Ev (tCB (rLenS K) (tCons (tVar 0) tNil)) (start n_law_alike [.ref a, .ref b]) H3 (.int (ds.length : Int)) := fun H3 e => ev_is (ev_lenT (K := K) (ev_var (i := 0) rfl) (st_of (e a _ ha))) (by rw [xl])
          have lu : ∀ H3, Ex H H3 → Ev (tCB (rLenS K) (tCons (tVar 1) tNil)) (start n_law_alike [.ref a, .ref b]) H3 (.int (ds.length : Int)) := fun H3 e => ev_is (ev_lenT (K := K) (ev_var (i := 1) rfl) (st_of (e b _ hb))) (by rw [yl])
          refine q_when (b := false) (et_is (et_test (ev_op (lv H2 e12) (lu H2 e12) (rv_ne rfl))) (by simp)) (fun hb => Bool.noConfusion hb) fun _ H3 e3 => ?_
          have e13 := e12.trans e3
          refine s_ret (v := .bl true) (seqs en hx hy hz _ _ _ H3 (fun _ => rfl) e13 (lu H3 e13) fun i x y H4 e4 hxi hyi => ⟨ev_op (ev_var rfl) (ev_var rfl) (rv_ixQT (st_of ((e13.trans e4) a _ ha)) (atI_nat hxi)), ev_op (ev_var rfl) (ev_var rfl) (rv_ixQT (st_of ((e13.trans e4) b _ hb)) (atI_nat hyi))⟩) fun H4 e4 => kk H4 (e13.trans e4)
theorem alike_at (T : Tx K mg) : ∀ n, FnOk P w K mg base CX0 (n + 1) T.f_law_alike T.d_law_alike ["found", "due"] (sp_law_alike n)
  | 0 => alike_step T 0 0 ⟨fun _ _ _ _ h => h.elim, fun _ _ _ _ _ _ _ _ _ _ _ _ _ h => h.elim⟩
  | n + 1 => alike_step T (n + 1) (n + 1) (alike_at T n)
theorem ok_law_alike (T : Tx K mg) : FnOk P w K mg base CX0 5 T.f_law_alike T.d_law_alike ["found", "due"] (sp_law_alike 4) := alike_at T 4
end
section
variable {σ : L2.St} {H : Hp} {ta tb : TE}
theorem ev_alike {n : Nat} {E : XK} {d e : PyData} (h : EvK n ta σ H d) (h2 : EvK n tb σ H e) (q : d = e) : Ev (tCall (sp_law_alike n) [] E (tCons ta (tCons tb tNil))) σ H (.bl true) := fun H1 e1 Q k => h H1 e1 _ fun v H2 e2 hv => h2 H2 (e1.trans e2) _ fun w H3 e3 hw => by
  subst q
  exact ⟨v, w, d, rfl, hv.ex e3, hw, fun H4 e4 => k H4 (e2.trans (e3.trans e4))⟩
end


/-! ### the bag -/
/-- H without p -/
def Hm (p : Addr) (H : Hp) : Hp := fun b => if b = p then none else H b
theorem hm_p {p : Addr} {H : Hp} : Hm p H p = none := if_pos rfl
theorem hm_sub {p : Addr} {H : Hp} : Ex (Hm p H) H := fun a o h => by
  unfold Hm at h
  split at h
  · cases h
  · exact h
theorem hm_mono {p : Addr} {H H' : Hp} (e : Ex H H') : Ex (Hm p H) (Hm p H') := fun a o h => by
  unfold Hm at h ⊢
  split at h
  · cases h
  · rename_i ne
    rw [if_neg ne]
    exact e a o h
theorem ex_hm {p : Addr} {H0 H : Hp} (e : Ex H0 H) (h : H0 p = none) : Ex H0 (Hm p H) := fun a o ha => by
  unfold Hm
  rw [if_neg (ne_of_none ha h)]
  exact e a o ha
/-- a bag after at most n draws -/
def Po (p l : Addr) (n : Nat) (H : Hp) : Prop := ∃ (ns : List Int) (i c s t : Int), H p = some (.lst [.ref l, .int i, .int c, .int s, .int t]) ∧ H l = some (.lst (ns.map V.int)) ∧ l ≠ p ∧ (0 ≤ i ∧ (∀ z ∈ ns, 0 ≤ z) ∧ 0 ≤ c) ∧ (0 ≤ s ∧ s < 2147483647) ∧ 0 ≤ t ∧ t ≤ 10 * n
theorem Po.ex {p l : Addr} {n : Nat} {H H' : Hp} (h : Po p l n H) (e : Ex H H') : Po p l n H' := by
  obtain ⟨ns, i, c, s, t, h1, h2, h3⟩ := h
  exact ⟨ns, i, c, s, t, e p _ h1, e l _ h2, h3⟩
theorem Po.mono {p l : Addr} {n m : Nat} {H : Hp} (h : Po p l n H) (e : n ≤ m) : Po p l m H := by
  obtain ⟨ns, i, c, s, t, h1, h2, h3, h4, h5, h6, h7⟩ := h
  exact ⟨ns, i, c, s, t, h1, h2, h3, h4, h5, h6, by omega⟩
theorem ev_bits {σ : L2.St} {H : Hp} {ta : TE} {i : Int} (h : Ev ta σ H (.int i)) : Ev (tBits ta) σ H (.int ((Builtin.Int.intBits i : Nat) : Int)) := fun H1 e Q q => h H1 e _ fun H2 e2 => ⟨i, rfl, q H2 e2⟩
def fI (f : Int → Int) : V → V
  | .int c => .int (f c)
  | _ => .non
theorem map_fI (f : Int → Int) (ns : List Int) : (ns.map V.int).map (fI f) = (ns.map f).map V.int := by
  rw [List.map_map, List.map_map]
  rfl
theorem s_retC {σ : L2.St} {H : Hp} {t : TA} {sp : Sp} {E : XK} {D : Ends} {vs : List V} (h : EvA t σ H vs) (k : ∀ H1, Ex H H1 → sp (vs ++ []) H1 D.rt E) : tRet (tCall sp [] E t) D σ H := h H (Ex.refl H) _ k
theorem s_retLL {σ : L2.St} {H : Hp} {te : TE} {tr : TA} {D : Ends} {xs ys : List V} (h : EvL te σ H xs) (hr : ∀ H1, Ex H H1 → EvA tr σ H1 ys) (hz : ys.length < 1000) (k : ∀ p l H1, H p = none → H l = none → l ≠ p → Ex H H1 → H1 l = some (.lst xs) → H1 p = some (.lst (.ref l :: ys)) → D.rt (.ref p) H1) : tRet (tLst (tCons te tr)) D σ H :=
  h H (Ex.refl H) _ fun l H1 nl e1 hl => hr H1 e1 H1 (Ex.refl _) _ fun H2 e2 => ⟨sz_of (by rw [List.length_cons]; omega), fun p hp =>
    k p l _ (fresh_back (e1.trans e2) hp) nl (fun z => by
      rw [← z, e2 l _ hl] at hp
      cases hp) ((e1.trans e2).trans (Ex.new hp)) (Ex.new hp l _ (e2 l _ hl)) upd_same⟩
theorem pow3_ok {i : Int} (h : i.natAbs < 2 ^ 250) : CPowX i 3 := by
  have := PyProof.Rows.intBits_le h
  unfold CPowX
  omega
theorem divw_ok {i j : Int} (h : 0 < j) (hb : j < 2 ^ 200) : CDivW i j := wide_div (b := 200) h (by omega) (by decide) (by decide)
theorem mulk_ok {i j : Int} (h : i.natAbs < 2 ^ 100000) (hb : j.natAbs < 2 ^ 100000) : CMulX i j := mulx_ok h hb (by decide)
def sp_law_bag (K : PySem.W.Frag) : Sp := fun vs H Q _ => ∃ (s : Addr) (ns : List Int), vs = [.ref s] ∧ SqL K H s (ns.map V.int) ∧ ns.length ≤ 63 ∧ ∀ p l H', H p = none → H l = none → Ex H H' → Po p l 0 H' → Q (.ref p) H'
def sp_law_stirred : Sp := fun vs H Q _ => ∃ (p l : Addr) (n : Nat) (w : Int), vs = [.ref p, .int w] ∧ Po p l n H ∧ n < 1000000000 ∧ 0 < w ∧ w < 2 ^ 200 ∧
  ∀ r H', 0 ≤ r → r < w → Po p l (n + 1) H' → Ex (Hm p H) H' → Q (.int r) H'
def sp_law_draw : Sp := fun vs H Q _ => ∃ (p l : Addr) (n : Nat) (w : Int), vs = [.ref p, .int w] ∧ Po p l n H ∧ n < 1000000000 ∧ 0 < w ∧ w < 2 ^ 200 ∧
  ∀ r H', 0 ≤ r → r < w → Po p l (n + 1) H' → Ex (Hm p H) H' → Q (.int r) H'
section
variable {P : Program} {w : World} {K : PySem.W.Frag} {mg : Str → Option Value} {base : Heap}
theorem ok_law_bag (T : Tx K mg) : FnOk P w K mg base CX0 1 T.f_law_bag T.d_law_bag ["script"] (sp_law_bag K) := by
  refine T.F_law_bag.ok sc_law_bag (fun vs H Q E h => ?_) (fun cdv A outer s H vs Q E hr h => ?_)
  · obtain ⟨a, ns, rfl, _⟩ := h
    rfl
  · obtain ⟨a, ns, rfl, hs, hn, k⟩ := h
    refine ⟨_, (pss_cons (ps_set (i := 1) sc_law_bag.nd rfl (Or.inl rfl) pe_int)
      (pss_cons (ps_for PassesOwn.never rfl (pi_list (pe_slice sl_list (pv 0) po_none (po_some pe_int))) (pg_name (i := 2) sc_law_bag.nd rfl (Or.inl rfl)) (pss_one (ps_set (i := 1) sc_law_bag.nd rfl (Or.inl rfl) (pe_op op_mod (pe_callTy call_intI (by rfl) T.m_int (by decide +kernel) (pa_cons (pe_op op_add (pe_op op_add (pe_op op_mulX (pv 1) pe_int) (pe_op op_mod (pe_callTy call_intI (by rfl) T.m_int (by decide +kernel) (pa_cons (pv 2) pa_nil)) pe_int)) pe_int) pa_nil)) pe_int))))
      (pss_one (ps_ret (pe_lst (pa_cons (pe_lc (own := [("cell", 2)]) (g := (gName 2)) (tt := tYes) rfl sc_law_bag.nd (pi_list (pe_slice (r := rSlL K) sl_list (pv 0) po_none (po_some pe_int))) (blkOk_by (own := [("cell", 2)]) (N := n_law_bag) (sc := defScope s_law_bag) (by decide +kernel)) (fun _ _ _ _ _ => (pg_name (i := 2) sc_law_bag.nd rfl (Or.inl rfl))) (fun _ _ _ _ _ => pts_nil) (fun _ _ _ _ _ => (pe_op op_mod (pe_callTy call_intI (by rfl) T.m_int (by decide +kernel) (pa_cons (pe_callB call_absR (by rfl) T.m_abs (by decide +kernel) (pa_cons (pv 2) pa_nil)) pa_nil)) (pe_op op_powX (pe_op op_powX pe_int pe_int) pe_int)))) (pa_cons pe_int (pa_cons pe_int (pa_cons (pv 1) (pa_cons pe_int pa_nil)))))))))), ?_⟩
    have hlen : (ns.map V.int).length = ns.length := List.length_map ..
    have cutA : cutV (ns.map V.int) none (some 63) = ns.map V.int := by
      unfold cutV
      rw [HT.sIx_none, show (63 : Int) = ((63 : Nat) : Int) from rfl, HT.sIx_nat, List.drop_zero]
      exact List.take_of_length_le (by omega)
    refine q_asg (v := .int 223) ev_c fun H1 e1 => ?_
    have hs1 := ex_l e1 hs
    have slc : ∀ (σ : L2.St) (H' : Hp), σ[0]? = some (some (.ref a)) → Ex H1 H' → EvL (tSl (rSlL K) (tVar 0) tNoPart (tPart (tC (.int 63)))) σ H' (ns.map V.int) := fun σ H' h0 e' => by
      have := el_sl (K := K) (te := tVar 0) (tl := tNoPart) (th := tPart (tC (.int 63))) (σ := σ) (H := H') (ev_var (i := 0) h0) eo_none (eo_some (ev_c (v := .int 63))) (ex_l e' hs1)
      rw [cutA] at this
      exact this
    have mod0 : (0 : Int) < (10 ^ (60 : Int).toNat) ^ (10 : Int).toNat := Int.pow_pos (Int.pow_pos (by decide))
    have pw1 : CPowX 10 60 := by constructor <;> decide +kernel
    have pw2 : CPowX (10 ^ (60 : Int).toNat) 10 := by constructor <;> decide +kernel
    refine q_forNL (xs := ns.map V.int) (slc _ H1 rfl (Ex.refl _)) (fun q i σ' H' => ∃ (st : Int) (y : Option V), σ' = [some (.ref a), some (.int st), y] ∧ Ex H1 H' ∧ 0 ≤ st ∧ st < 2147483647 ∧ H' q = some (.lst (ns.map V.int))) (fun q H2 _ e2 hq => ⟨223, none, rfl, e2, by decide, by decide, hq⟩) (fun q i σ' H' _ ⟨_, _, _, _, _, _, hq⟩ => sq_of hq) ?_ ?_
    · rintro q i v σ' H' hv ⟨st, y, rfl, e, s0, s1, hq⟩
      rw [List.getElem?_map] at hv
      obtain ⟨c, _, rfl⟩ := Option.map_eq_some_iff.mp hv
      have m1 : CMulX st 48271 := mulx_ok (a := 64) (b := 64) (by omega) (by decide) (by decide)
      exact s_asg (v := .int ((st * 48271 + c % 2147483629 + 1) % 2147483647)) (ev_op (ev_intI (ev_op (ev_op (ev_op (ev_var rfl) ev_c (rv_I m1)) (ev_op (ev_intI (ev_var rfl)) ev_c (rv_I (by decide))) rv_I0) ev_c rv_I0)) ev_c (rv_I (by decide))) fun H2 e2 => ⟨_, _, rfl, e.trans e2, Int.emod_nonneg _ (by decide), Int.emod_lt_of_pos _ (by decide), e2 q _ hq⟩
    · rintro q σ' H' ⟨st, y, rfl, e, s0, s1, hq⟩
      have el := el_mapN (K := K) (te := tOp (rI (fun _ j => 0 < j) fun i j => .int (i % j)) (tCB rIntI (tCons (tCB rAbs (tCons (tVar 2) tNil)) tNil)) (tOp (rI CPowX fun i j => .int (i ^ j.toNat)) (tOp (rI CPowX fun i j => .int (i ^ j.toNat)) (tC (.int 10)) (tC (.int 60))) (tC (.int 10)))) (j := 2) (vs := [2]) (fI fun c => (if c < 0 then -c else c) % (10 ^ (60 : Int).toNat) ^ (10 : Int).toNat) (slc [some (.ref a), some (.int st), y] H' rfl e) (by rw [List.length_map]; omega) (fun _ => rfl) fun i v H2 e2 hv => ?_
      · rw [map_fI] at el
        refine s_retLL el (fun H2 e2 => ea_cons ev_c (ea_cons ev_c (ea_cons (ev_var rfl) (ea_cons ev_c ea_nil)))) (by simp) fun p l H2 hp hl0 lp e2 hl2 hp2 => ?_
        refine k p l H2 (fresh_back (e1.trans e) hp) (fresh_back (e1.trans e) hl0) (e1.trans (e.trans e2)) ⟨_, 0, 0, st, 0, hp2, hl2, lp, ⟨by decide, fun z hz => ?_, by decide⟩, ⟨s0, s1⟩, by decide, by decide⟩
        obtain ⟨c, _, rfl⟩ := List.mem_map.mp hz
        exact Int.emod_nonneg _ (by omega)
      · rw [List.getElem?_map] at hv
        obtain ⟨c, _, rfl⟩ := Option.map_eq_some_iff.mp hv
        exact ev_op (ev_intI (ev_abs (ev_var rfl))) (ev_op (ev_op ev_c ev_c (rv_I pw1)) ev_c (rv_I pw2)) (rv_I mod0)
theorem ok_law_stirred (T : Tx K mg) : FnOk P w K mg base CX0 1 T.f_law_stirred T.d_law_stirred ["bag", "wide"] sp_law_stirred := by
  refine T.F_law_stirred.ok sc_law_stirred (fun vs H Q E h => ?_) (fun cdv A outer s H vs Q E hr h => ?_)
  · obtain ⟨p, l, n, w, rfl, _⟩ := h
    rfl
  · obtain ⟨p, l, n, w, rfl, ⟨ns, i, c, s0, t, hp, hl, lp, ⟨hi, hns, hc⟩, ⟨hs0, hs1⟩, ht0, ht1⟩, hn, hw0, hw1, k⟩ := h
    refine ⟨_, (pss_cons (ps_set (i := 2) sc_law_stirred.nd rfl (Or.inl rfl) pe_int)
      (pss_cons (ps_for PassesOwn.never rfl (pi_range1 (by rfl) T.m_range (pa_cons (pe_op op_add pe_int (pe_op op_fdivW (pe_bits (pv 1)) pe_int)) pa_nil)) (pg_name (i := 3) sc_law_stirred.nd rfl (Or.inl rfl)) (pss_cons (ps_asg (pe_op op_add (pe_ix ix_list (pv 0) pe_int (fun _ _ => rfl)) pe_int) (pg_sub (pv 0) pe_int set_list))
      (pss_cons (ps_set (i := 4) sc_law_stirred.nd rfl (Or.inl rfl) (pe_op op_add (pe_op op_add (pe_op op_add (pe_op op_powX (pe_ix ix_list (pv 0) pe_int (fun _ _ => rfl)) pe_int) (pe_op op_mulX pe_int (pe_ix ix_list (pv 0) pe_int (fun _ _ => rfl)))) (pe_op op_mulX pe_int (pe_ix ix_list (pv 0) pe_int (fun _ _ => rfl)))) pe_int))
      (pss_cons (ps_asg (pe_op op_mod (pe_callTy call_intI (by rfl) T.m_int (by decide +kernel) (pa_cons (pv 4) pa_nil)) pe_int) (pg_sub (pv 0) pe_int set_list))
      (pss_one (ps_set (i := 2) sc_law_stirred.nd rfl (Or.inl rfl) (pe_op op_add (pe_op op_mulX (pv 2) pe_int) (pe_op op_fdivW (pe_ix ix_list (pv 0) pe_int (fun _ _ => rfl)) pe_int))))))))
      (pss_one (ps_ret (pe_op op_mod (pe_callTy call_intI (by rfl) T.m_int (by decide +kernel) (pa_cons (pv 2) pa_nil)) (pv 1)))))), ?_⟩
    have hp0 : Hm p H p = none := hm_p
    have hlm : Hm p H l = some (.lst (ns.map V.int)) := by
      unfold Hm
      rw [if_neg lp]
      exact hl
    have bits : Builtin.Int.intBits w ≤ 200 := PyProof.Rows.intBits_le (by omega)
    refine q_asg (v := .int 0) ev_c fun H1 e1 => ?_
    have d27 : CDivW ((Builtin.Int.intBits w : Nat) : Int) 27 := divw_ok (by decide) (by decide)
    refine q_forR1 (n := 1 + ((Builtin.Int.intBits w : Nat) : Int) / 27) (ea_cons (ev_op ev_c (ev_op (ev_bits (ev_var rfl)) ev_c (rv_I d27)) rv_I0) ea_nil) ⟨by omega, by omega⟩ (fun j σ' H' => ∃ (f s' : Int) (y z : Option V), σ' = [some (.ref p), some (.int w), some (.int f), y, z] ∧ H' p = some (.lst [.ref l, .int i, .int c, .int s', .int (t + j)]) ∧ Ex (Hm p H) H' ∧ 0 ≤ f ∧ f.natAbs < 2 ^ (28 * j + 1) ∧ 0 ≤ s' ∧ s' < 2147483647) (fun H2 e2 => ⟨0, s0, none, none, rfl, by
      rw [show t + ((0 : Nat) : Int) = t by omega]
      exact e2 p _ (e1 p _ hp), hm_sub.trans (e1.trans e2), by decide, by decide, hs0, hs1⟩) ?_ ?_
    · rintro j σ' H' hj ⟨f, s', y, z, rfl, hp', e', hf0, hf1, hs0', hs1'⟩
      have j8 : j < 9 := by omega
      refine q_setL (j := 4) hp' (by walk_at "ev") (by walk_at "ev") ev_c (by show 4 < 5; decide) fun H2 e2 => ?_
      have hp2 : ∀ H3, Ex (upd H2 p (.lst ([V.ref l, .int i, .int c, .int s', .int (t + j)].set 4 (.int (t + j + 1))))) H3 → H3 p = some (.lst [.ref l, .int i, .int c, .int s', .int (t + j + 1)]) := fun H3 e => e p _ upd_same
      have hq := hp2 _ (Ex.refl _)
      have m1 : CMulX 69621 s' := mulx_ok (a := 64) (b := 64) (by decide) (by omega) (by decide)
      have m2 : CMulX 1031 (t + j + 1) := mulx_ok (a := 64) (b := 64) (by decide) (by omega) (by decide)
      have p3 : CPowX s' 3 := pow3_ok (by omega)
      refine q_asg (by walk_at "ev") fun H3 e3 => ?_
      have hq3 := hp2 _ e3
      generalize hx : s' ^ (3 : Int).toNat + 69621 * s' + 1031 * (t + (j : Int) + 1) + 1 = x
      refine q_setL (j := 3) hq3 (by walk_at "ev") (by walk_at "ev") ev_c (by show 3 < 5; decide) fun H4 e4 => ?_
      have r0 := Int.emod_nonneg x (show (2147483647 : Int) ≠ 0 by decide)
      have r1 := Int.emod_lt_of_pos x (show (0 : Int) < 2147483647 by decide)
      generalize x % 2147483647 = s2 at r0 r1 ⊢
      have hp4 : ∀ H5, Ex (upd H4 p (.lst ([V.ref l, .int i, .int c, .int s', .int (t + j + 1)].set 3 (.int s2)))) H5 → H5 p = some (.lst [.ref l, .int i, .int c, .int s2, .int (t + j + 1)]) := fun H5 e => e p _ upd_same
      have hq4 := hp4 _ (Ex.refl _)
      have d16 : CDivW s2 16 := divw_ok (by decide) (by decide)
      have m3 : CMulX f 134217728 := mulx_ok (a := 300) (b := 64) (lt2_mono hf1 (by omega)) (by decide) (by decide)
      have f2 : (f * 134217728 + s2 / 16).natAbs < 2 ^ (28 * (j + 1) + 1) := by
        have a1 : (f * 134217728).natAbs < 2 ^ (28 * j + 1) * 134217728 := by
          rw [Int.natAbs_mul]
          exact Nat.mul_lt_mul_of_pos_right hf1 (by decide)
        have a2 : 2 ^ (28 * (j + 1) + 1) = 2 ^ (28 * j + 1) * 268435456 := by
          rw [show 28 * (j + 1) + 1 = 28 * j + 1 + 28 by omega, Nat.pow_add]
        have a3 : 1 ≤ 2 ^ (28 * j + 1) := Nat.one_le_two_pow
        omega
      refine s_asg (by walk_at "ev") fun H5 e5 => ⟨_, s2, _, _, rfl, ?_, ?_, ?_, f2, r0, r1⟩
      · rw [show t + ((j + 1 : Nat) : Int) = t + j + 1 by omega]
        exact hp4 _ e5
      · exact (Ex.mut ((Ex.mut (e'.trans e2) hp0).trans (e3.trans e4)) hp0).trans e5
      · have := Int.mul_nonneg hf0 (show (0 : Int) ≤ 134217728 by decide)
        omega
    · rintro σ' H' ⟨f, s', y, z, rfl, hp', e', hf0, hf1, hs0', hs1'⟩
      refine s_ret (by walk_at "ev") fun H2 e2 => ?_
      refine k _ _ (Int.emod_nonneg _ (by omega)) (Int.emod_lt_of_pos _ hw0) ⟨ns, i, c, s', _, e2 p _ hp', (e'.trans e2) l _ hlm, lp, ⟨hi, hns, hc⟩, ⟨hs0', hs1'⟩, by omega, ?_⟩ (e'.trans e2)
      omega
theorem ok_law_draw (T : Tx K mg) : FnOk P w K mg base CX0 2 T.f_law_draw T.d_law_draw ["bag", "wide"] sp_law_draw := by
  refine T.F_law_draw.ok sc_law_draw (fun vs H Q E h => ?_) (fun cdv A outer s H vs Q E hr h => ?_)
  · obtain ⟨p, l, n, w, rfl, _⟩ := h
    rfl
  · obtain ⟨p, l, n, w, rfl, hpo, hn, hw0, hw1, k⟩ := h
    refine ⟨_, (pss_cons (ps_if (PW.pt (pw_and (pt_cmpR op_eq (pe_ix ix_list (pv 0) pe_int (fun _ _ => rfl)) pe_int (nomark _)) (pw_and1 (pt_cmpR op_lt (pe_ix ix_list (pv 0) pe_int (fun _ _ => rfl)) (pe_callB call_lenR (by rfl) T.m_len (by decide +kernel) (pa_cons (pe_ix ix_list (pv 0) pe_int (fun _ _ => rfl)) pa_nil)) (nomark _))))) (pss_cons (ps_asg (pe_ix ix_list (pe_ix ix_list (pv 0) pe_int (fun _ _ => rfl)) (pe_ix ix_list (pv 0) pe_int (fun _ _ => rfl)) (fun _ _ => rfl)) (pg_sub (pv 0) pe_int set_list))
      (pss_one (ps_asg (pe_op op_add (pe_ix ix_list (pv 0) pe_int (fun _ _ => rfl)) pe_int) (pg_sub (pv 0) pe_int set_list)))) (pss_one (ps_if (pt_cmpR op_eq (pe_ix ix_list (pv 0) pe_int (fun _ _ => rfl)) pe_int (nomark _)) (pss_one (ps_ret (pe_call (ok_law_stirred T) (hr.mono (by decide)) (by rfl) T.g_law_stirred T.F_law_stirred.kp T.b_law_stirred .nil pass0 (pa_cons (pv 0) (pa_cons (pv 1) pa_nil))))) pss_nil)))
      (pss_cons (ps_set (i := 2) sc_law_draw.nd rfl (Or.inl rfl) (pe_op op_mod (pe_callTy call_intI (by rfl) T.m_int (by decide +kernel) (pa_cons (pe_ix ix_list (pv 0) pe_int (fun _ _ => rfl)) pa_nil)) (pv 1)))
      (pss_cons (ps_asg (pe_op op_fdivW (pe_ix ix_list (pv 0) pe_int (fun _ _ => rfl)) (pv 1)) (pg_sub (pv 0) pe_int set_list))
      (pss_one (ps_ret (pv 2)))))), ?_⟩
    obtain ⟨ns, i, c, s0, t, hp, hl, lp, ⟨hi, hns, hc⟩, ⟨hs0, hs1⟩, ht0, ht1⟩ := hpo
    have hp0 : Hm p H p = none := hm_p
    have hlm : Hm p H l = some (.lst (ns.map V.int)) := by
      unfold Hm
      rw [if_neg lp]
      exact hl
    obtain ⟨i, rfl⟩ : ∃ z : Nat, i = z := ⟨i.toNat, by omega⟩
    have ix : ∀ {σ : L2.St} {H' : Hp} {i c s t : Int} (j : Nat) {v : V}, σ[0]? = some (some (.ref p)) → H' p = some (.lst [.ref l, .int i, .int c, .int s, .int t]) → [V.ref l, .int i, .int c, .int s, .int t][j]? = some v → Ev (tOp (rIxL K) (tVar 0) (tC (.int (j : Int)))) σ H' v := fun j v h0 h1 h2 => ev_op (ev_var h0) ev_c (rv_ixL (K := K) (sq_of h1) (atI_nat h2))
    have tail : ∀ (H' : Hp) (i' : Nat) (c' : Int), 0 ≤ c' → H' p = some (.lst [.ref l, .int (i' : Int), .int c', .int s0, .int t]) → Ex (Hm p H) H' →
        tSeq (tAsg (tOp (rI (fun _ j => 0 < j) fun i j => .int (i % j)) (tCB rIntI (tCons (tOp (rIxL K) (tVar 0) (tC (.int 2))) tNil)) (tVar 1)) (gName 2)) (tSeq (tAsg (tOp (rI CDivW fun i j => .int (i / j)) (tOp (rIxL K) (tVar 0) (tC (.int 2))) (tVar 1)) (gSub (tVar 0) (tC (.int 2)) rSetL)) (tRet (tVar 2))) { nx := fun _ H' => Q .non H', rt := Q } [some (.ref p), some (.int w), none] H' := fun H' i' c' c0 hq e => by
      refine q_asg (v := .int (c' % w)) (ev_op (ev_intI (ix 2 rfl hq rfl)) (ev_var rfl) (rv_I hw0)) fun H2 e2 => ?_
      have hq2 := e2 p _ hq
      refine q_setL (j := 2) hq2 (v := .int (c' / w)) (ev_op (ix 2 rfl hq2 rfl) (ev_var rfl) (rv_I (divw_ok hw0 hw1))) (ev_var rfl) ev_c (by show 2 < 5; decide) fun H3 e3 => ?_
      refine s_ret (v := .int (c' % w)) (ev_var rfl) fun H4 e4 => k _ _ (Int.emod_nonneg _ (by omega)) (Int.emod_lt_of_pos _ hw0) ?_ ?_
      · refine ⟨ns, i', c' / w, s0, t, e4 p _ upd_same, e4 l _ (by rw [upd_ne lp]; exact (e.trans (e2.trans e3)) l _ hlm), lp, ⟨by omega, hns, Int.ediv_nonneg c0 (by omega)⟩, ⟨hs0, hs1⟩, ht0, by omega⟩
      · exact (Ex.mut (e.trans (e2.trans e3)) hp0).trans e4
    refine q_if (b := decide (V.int c = V.int 0) && decide (((i : Nat) : Int) < ((ns.map V.int).length : Int))) (et_and (et_test (ev_op (ix 2 rfl hp rfl) ev_c (rv_eq rfl))) fun _ => et_test (ev_op (ix 1 rfl hp rfl) (ev_len (ix 0 rfl hp rfl) (sq_of hl)) rv_I0)) (fun hb H1 e1 => ?_) fun hb H1 e1 => ?_
    · rw [Bool.and_eq_true, decide_eq_true_iff, decide_eq_true_iff, List.length_map] at hb
      have hp1 := e1 p _ hp
      have hil : i < ns.length := by omega
      obtain ⟨z, hz⟩ : ∃ z, ns[i]? = some z := ⟨_, List.getElem?_eq_getElem hil⟩
      refine q_setL (j := 2) hp1 (v := .int z) (ev_op (ix 0 rfl hp1 rfl) (ix 1 rfl hp1 rfl) (rv_ixL (K := K) (sq_of (e1 l _ hl)) (atI_nat (j := i) (by rw [List.getElem?_map, hz]; rfl)))) (ev_var rfl) ev_c (by show 2 < 5; decide) fun H2 e2 => ?_
      refine s_setL (j := 1) (xs := [.ref l, .int (i : Int), .int z, .int s0, .int t]) (v := .int ((i + 1 : Nat) : Int)) upd_same (ev_is (ev_op (ix 1 rfl upd_same rfl) ev_c rv_I0) (by congr 1)) (ev_var rfl) ev_c (by show 1 < 5; decide) fun H3 e3 => ?_
      exact tail _ (i + 1) z (hns z (List.mem_of_getElem? hz)) upd_same (Ex.mut ((Ex.mut (hm_sub.trans (e1.trans e2)) hp0).trans e3) hp0)
    · refine s_when (b := decide (V.int c = V.int 0)) (et_test (ev_op (ix 2 rfl (e1 p _ hp) rfl) ev_c (rv_eq rfl))) (fun hb2 H2 e2 => ?_) fun hb2 H2 e2 => ?_
      · have ee := e1.trans e2
        refine s_retC (vs := [.ref p, .int w]) (ea_cons (ev_var rfl) (ea_cons (ev_var rfl) ea_nil)) fun H3 e3 => ?_
        have e13 := ee.trans e3
        exact ⟨p, l, n, w, rfl, ⟨ns, i, c, s0, t, e13 p _ hp, e13 l _ hl, lp, ⟨by omega, hns, hc⟩, ⟨hs0, hs1⟩, ht0, ht1⟩, hn, hw0, hw1, fun r H4 r0 r1 p4 e4 => k r H4 r0 r1 p4 ((hm_mono e13).trans e4)⟩
      · exact tail H2 i c hc ((e1.trans e2) p _ hp) (hm_sub.trans (e1.trans e2))
end
/-! ### expressions that draw -/
theorem hm_trans {p : Addr} {H H1 H2 : Hp} (a : Ex (Hm p H) H1) (b : Ex (Hm p H1) H2) : Ex (Hm p H) H2 := fun x o h => by
  have ne : x ≠ p := fun z => by
    subst z
    rw [hm_p] at h
    cases h
  have h1 := a x o h
  refine b x o ?_
  unfold Hm
  rw [if_neg ne]
  exact h1
theorem hm_next {p : Addr} {H0 H H1 : Hp} (h0 : H0 p = none) (e : Ex H0 H) (s : Ex (Hm p H) H1) : Ex H0 H1 := (ex_hm e h0).trans s
theorem hm_of {p : Addr} {H H1 : Hp} (e : Ex H H1) : Ex (Hm p H) H1 := hm_sub.trans e
theorem hm_at {p a : Addr} {H H1 : Hp} {o : HO} (s : Ex (Hm p H) H1) (ne : a ≠ p) (h : H a = some o) : H1 a = some o := s a o (by
  unfold Hm
  rw [if_neg ne]
  exact h)
theorem Po.ne {p l b : Addr} {n : Nat} {H : Hp} (h : Po p l n H) (hb : H b = none) : b ≠ p := fun z => by
  subst z
  obtain ⟨_, _, _, _, _, h1, _⟩ := h
  rw [hb] at h1
  cases h1
theorem Po.nl {p l b : Addr} {n : Nat} {H : Hp} (h : Po p l n H) (hb : H b = none) : b ≠ l := fun z => by
  subst z
  obtain ⟨_, _, _, _, _, _, h1, _⟩ := h
  rw [hb] at h1
  cases h1
theorem Po.upd {p l b : Addr} {n : Nat} {H : Hp} {o : HO} (h : Po p l n H) (ne : b ≠ p) (nl : b ≠ l) : Po p l n (upd H b o) := by
  obtain ⟨ns, i, c, s, t, h1, h2, h3⟩ := h
  exact ⟨ns, i, c, s, t, by rw [upd_ne (Ne.symm ne)]; exact h1, by rw [upd_ne (Ne.symm nl)]; exact h2, h3⟩
def EvP (p L : Addr) (k : Nat) (te : TE) (σ : L2.St) (H0 : Hp) (R : V → Hp → Prop) : Prop := ∀ n H1, Ex H0 H1 → Po p L n H1 → n + k ≤ 1000000000 →
  ∀ Q : VK, (∀ v H2, R v H2 → Po p L (n + k) H2 → Ex (Hm p H1) H2 → Q v H2) → te σ H1 Q
def Stb (p : Addr) (R : V → Hp → Prop) : Prop := ∀ v H H', R v H → Ex (Hm p H) H' → R v H'
section
variable {K : PySem.W.Frag} {σ : L2.St} {H0 H : Hp} {p L : Addr} {k k1 k2 : Nat} {te ta tb : TE} {R Ra Rb : V → Hp → Prop}
theorem ep_ev {v : V} (h : Ev te σ H0 v) : EvP p L 0 te σ H0 (fun x _ => x = v) := fun n H1 e hp _ Q q => h H1 e Q fun H2 e2 => q v H2 rfl (hp.ex e2) (hm_of e2)
theorem ep_L {xs : List V} (h : EvL te σ H0 xs) : EvP p L 0 te σ H0 (fun x H => ∃ l, l ≠ p ∧ x = .ref l ∧ H l = some (.lst xs)) := fun n H1 e hp _ Q q => h H1 e Q fun l H2 hl e2 h2 => q _ H2 ⟨l, hp.ne hl, rfl, h2⟩ (hp.ex e2) (hm_of e2)
theorem stb_L {xs : List V} : Stb p (fun x H => ∃ l, l ≠ p ∧ x = .ref l ∧ H l = some (.lst xs)) := fun v H H' ⟨l, ne, e, h⟩ s => ⟨l, ne, e, hm_at s ne h⟩
theorem stb_c {C : V → Prop} : Stb p (fun x _ => C x) := fun _ _ _ h _ => h
theorem ep_op {r : R2} (h0 : H0 p = none) (ha : EvP p L k1 ta σ H0 Ra) (hb : EvP p L k2 tb σ H0 Rb) (s1 : Stb p Ra) (s : Stb p R) (hr : ∀ x y H, Ra x H → Rb y H → ∃ z, R z H ∧ RV r x y H z) : EvP p L (k1 + k2) (tOp r ta tb) σ H0 R :=
  fun n H1 e hp hn Q q => ha n H1 e hp (by omega) _ fun x H2 hx p2 e2 => hb (n + k1) H2 (hm_next h0 e e2) p2 (by omega) _ fun y H3 hy p3 e3 => by
    obtain ⟨z, hz, hv⟩ := hr x y H3 (s1 x H2 H3 hx e3) hy
    refine hv H3 (Ex.refl H3) Q fun H4 e4 => q z H4 (s z H3 H4 hz (hm_of e4)) ?_ (hm_trans (hm_trans e2 e3) (hm_of e4))
    rw [← Nat.add_assoc]
    exact p3.ex e4
theorem ep_dip {tw : TE} {E : XK} {C : Int → Prop} (h0 : H0 p = none) (hp : Ev ta σ H0 (.ref p)) (hw : EvP p L k tw σ H0 (fun v _ => ∃ w, v = .int w ∧ 0 < w ∧ w < 2 ^ 200 ∧ C w)) :
    EvP p L (k + 1) (tCall sp_law_draw [] E (tCons ta (tCons tw tNil))) σ H0 (fun v _ => ∃ r w, v = .int r ∧ 0 ≤ r ∧ r < w ∧ C w) :=
  fun n H1 e hpo hn Q q => hp H1 e _ fun H2 e2 => hw n H2 (e.trans e2) (hpo.ex e2) (by omega) _ fun y H3 hy p3 e3 => by
    obtain ⟨w, rfl, w0, w1, c⟩ := hy
    exact ⟨p, L, n + k, w, rfl, p3, by omega, w0, w1, fun r H' r0 r1 p4 e4 => q _ H' ⟨r, w, rfl, r0, r1, c⟩ p4 (hm_trans (hm_trans (hm_of e2) e3) e4)⟩
theorem ep_is {R' : V → Hp → Prop} (h : EvP p L k te σ H0 R) (e : ∀ v H, R v H → R' v H) : EvP p L k te σ H0 R' := fun n H1 a b c Q q => h n H1 a b c Q fun v H2 hv => q v H2 (e v H2 hv)
/-- the width is a pure int -/
theorem ep_dipI {tw : TE} {E : XK} {w : Int} (h0 : H0 p = none) (hp : Ev ta σ H0 (.ref p)) (hw : Ev tw σ H0 (.int w)) (w0 : 0 < w) (w1 : w < 2 ^ 200) :
    EvP p L 1 (tCall sp_law_draw [] E (tCons ta (tCons tw tNil))) σ H0 (fun v _ => ∃ r, v = .int r ∧ 0 ≤ r ∧ r < w) :=
  ep_is (ep_dip (k := 0) (C := fun z => z = w) h0 hp (ep_is (ep_ev hw) fun v H e => ⟨w, e, w0, w1, rfl⟩)) fun v H ⟨r, z, e, r0, r1, e2⟩ => ⟨r, e, r0, e2 ▸ r1⟩
/-- a + b, b drawn -/
theorem ep_add {a : Int} {C : Int → Prop} (h0 : H0 p = none) (ha : Ev ta σ H0 (.int a)) (hb : EvP p L k tb σ H0 (fun v _ => ∃ r, v = .int r ∧ C r)) : EvP p L (0 + k) (tOp (rI0 fun i j => .int (i + j)) ta tb) σ H0 (fun v _ => ∃ r, v = .int (a + r) ∧ C r) :=
  ep_op h0 (ep_ev ha) hb stb_c stb_c fun x y H e ⟨r, e2, c⟩ => ⟨.int (a + r), ⟨r, rfl, c⟩, by
    subst e
    subst e2
    exact rv_I0⟩
theorem p_asg {i n : Nat} {D : Ends} (h : EvP p L k te σ H0 R) (e : Ex H0 H) (hp : Po p L n H) (hn : n + k ≤ 1000000000) (q : ∀ v H2, R v H2 → Po p L (n + k) H2 → Ex (Hm p H) H2 → D.nx (σ.set i (some v)) H2) : tAsg te (gName i) D σ H := h n H e hp hn _ q
theorem pq_asg {i n : Nat} {D : Ends} {tz : TS} (h : EvP p L k te σ H0 R) (e : Ex H0 H) (hp : Po p L n H) (hn : n + k ≤ 1000000000) (q : ∀ v H2, R v H2 → Po p L (n + k) H2 → Ex (Hm p H) H2 → tz D (σ.set i (some v)) H2) : tSeq (tAsg te (gName i)) tz D σ H := h n H e hp hn _ q
/-- tests that draw -/
def EtP (p L : Addr) (k : Nat) (t : TT) (σ : L2.St) (H0 : Hp) (b : Bool) : Prop := ∀ n H1, Ex H0 H1 → Po p L n H1 → n + k ≤ 1000000000 →
  ∀ Q : Bool → Hp → Prop, (∀ H2, Po p L (n + k) H2 → Ex (Hm p H1) H2 → Q b H2) → t σ H1 Q
variable {t u : TT} {b c : Bool}
theorem tp_B (h : EvP p L k te σ H0 (fun v _ => v = .bl b)) : EtP p L k (tB te) σ H0 b := fun n H1 e hp hn Q q => h n H1 e hp hn _ fun v H2 hv p2 e2 => ⟨b, hv, q H2 p2 e2⟩
theorem tp_not (h : EtP p L k t σ H0 b) : EtP p L k (tNot t) σ H0 (!b) := fun n H1 e hp hn Q q => h n H1 e hp hn _ fun H2 p2 e2 => q H2 p2 e2
theorem tp_is (h : EtP p L k t σ H0 b) (e : b = c) : EtP p L k t σ H0 c := e ▸ h
theorem tp_or (h0 : H0 p = none) (h : EtP p L k1 t σ H0 false) (h' : EtP p L k2 u σ H0 b) : EtP p L (k1 + k2) (tOr t u) σ H0 b := fun n H1 e hp hn Q q => h n H1 e hp (by omega) _ fun H2 p2 e2 => by
  show u σ H2 Q
  refine h' (n + k1) H2 (hm_next h0 e e2) p2 (by omega) Q fun H3 p3 e3 => q H3 ?_ (hm_trans e2 e3)
  rw [← Nat.add_assoc]
  exact p3
theorem tp_et (h : EvT t σ H0 b) : EtP p L 0 t σ H0 b := fun n H1 e hp _ Q q => h H1 e Q fun H2 e2 => q H2 (hp.ex e2) (hm_of e2)
/-- a test that is false: what follows -/
theorem pq_no {n : Nat} {D : Ends} {tu tz : TS} (h : EtP p L k t σ H0 false) (e : Ex H0 H) (hp : Po p L n H) (hn : n + k ≤ 1000000000) (q : ∀ H2, Po p L (n + k) H2 → Ex (Hm p H) H2 → tz D σ H2) : tSeq (tIfS t tu tNext) tz D σ H := h n H e hp hn _ q
theorem ps_no {n : Nat} {D : Ends} {tu : TS} (h : EtP p L k t σ H0 false) (e : Ex H0 H) (hp : Po p L n H) (hn : n + k ≤ 1000000000) (q : ∀ H2, Po p L (n + k) H2 → Ex (Hm p H) H2 → D.nx σ H2) : tIfS t tu tNext D σ H := h n H e hp hn _ q
end


/-! ### lists of guests -/
def iz (xs : List Nat) : List Int := xs.map fun x : Nat => (x : Int)
def nv (xs : List Nat) : List V := (iz xs).map V.int
theorem nv_len (xs : List Nat) : (nv xs).length = xs.length := by simp [nv, iz]
theorem nv_get {xs : List Nat} {i x : Nat} (h : xs[i]? = some x) : (nv xs)[i]? = some (.int x) := by simp [nv, iz, h]
theorem nv_app (xs ys : List Nat) : nv (xs ++ ys) = nv xs ++ nv ys := by simp [nv, iz]
theorem nv_eq (xs : List Nat) : nv xs = xs.map fun x : Nat => V.int (x : Int) := by simp [nv, iz]
def Ord (h : List Nat) : Prop := h.Perm (List.range h.length) ∧ 1 ≤ h.length ∧ h.length ≤ 20
theorem el_mapI {K : PySem.W.Frag} {σ : L2.St} {H : Hp} {te tl : TE} {a : Addr} {xs : List V} {j : Nat} {vs : List Nat} (f : Nat → V) (h : Ev tl σ H (.ref a)) (hx : SqL K H a xs) (hz : xs.length ≤ 40000) (hw : ∀ x, wipe ((wipe σ vs).set j (some x)) vs = wipe σ vs)
    (he : ∀ (i : Nat) (x : V) H1, Ex H H1 → xs[i]? = some x → Ev te ((wipe σ vs).set j (some x)) H1 (f i)) : EvL (tLc (iList K tl) (gName j) tYes te vs) σ H ((List.range xs.length).map f) := by
  have e : (List.range xs.length).map f = given xs.length (fun _ => true) f := by
    unfold given
    rw [List.filter_eq_self.mpr (fun _ _ => rfl)]
  rw [e]
  exact el_lcL _ _ h hx hz hw (fun _ _ _ _ _ => et_yes) fun i x H1 e hi _ => he i x H1 e hi
/-! ### what a thing is told by: an item by whether it is an int, a thing by the items of the list that it is -/
def Iv (H : Hp) (v : V) (d : PyData) : Prop := (∃ n, zTyV v H = some n ∧ Meta n ∧ decide (n = "int") = isI d) ∧ (∀ i, d = .int i → v = .int i) ∧ ∀ i, v = .int i → d = .int i
inductive Bd (K : PySem.W.Frag) (H : Hp) (v : V) : Option (List PyData) → Prop
  | ty (n : String) (h : zTyV v H = some n) (m : Meta n) (ne : n ≠ "list") : Bd K H v none
  | dct {a : Addr} {kvs : List (Key × V)} (e : v = .ref a) (h : H a = some (.dK kvs)) : Bd K H v none
  | own {a C dx : Addr} {fs : List (Str × V)} (e : v = .ref a) (h : H a = some (.ins C dx fs)) (t : PySem.W.typeIn K (.ref C) = some (.type "type")) : Bd K H v none
  | lst {a : Addr} {xs : List V} {ds : List PyData} (e : v = .ref a) (h : H a = some (.lst xs)) (ps : Paired (Iv H) xs ds) : Bd K H v (some ds)
theorem zty_ex {H H1 : Hp} {v : V} {n : String} (e : Ex H H1) (h : zTyV v H = some n) : zTyV v H1 = some n := by
  cases v with
  | ref p =>
    simp only [zTyV] at h ⊢
    cases hp : H p with
    | none => rw [hp] at h; cases h
    | some o =>
      rw [e p o hp]
      rw [hp] at h
      exact h
  | _ => exact h
theorem Iv.ex {H H1 : Hp} {v : V} {d : PyData} (h : Iv H v d) (e : Ex H H1) : Iv H1 v d := ⟨h.1.imp fun n x => ⟨zty_ex e x.1, x.2⟩, h.2⟩
theorem ivs_ex {H H1 : Hp} (e : Ex H H1) : ∀ {xs : List V} {ds : List PyData}, Paired (Iv H) xs ds → Paired (Iv H1) xs ds
  | _, _, .nil => .nil
  | _, _, .cons h t => .cons (h.ex e) (ivs_ex e t)
theorem Bd.ex {K : PySem.W.Frag} {H H1 : Hp} {v : V} {o : Option (List PyData)} (h : Bd K H v o) (e : Ex H H1) : Bd K H1 v o := by
  cases h with
  | ty n h m ne => exact .ty n (zty_ex e h) m ne
  | dct e1 h => exact .dct e1 (e _ _ h)
  | own e1 h t => exact .own e1 (e _ _ h) t
  | lst e1 h ps => exact .lst e1 (e _ _ h) (ivs_ex e ps)
theorem iv_int {H : Hp} {i : Int} : Iv H (.int i) (.int i) := ⟨⟨"int", rfl, PySem.TypeEq.meta_int, rfl⟩, fun j h => by cases h; rfl, fun j h => by cases h; rfl⟩
theorem iv_ints {H : Hp} : ∀ (ns : List Int), Paired (Iv H) (ns.map V.int) (ns.map PyData.int)
  | [] => .nil
  | _ :: r => .cons iv_int (iv_ints r)
theorem ev_noListO {K : PySem.W.Frag} {σ : L2.St} {H : Hp} {ta : TE} {v : V} {o : Option (List PyData)} (h : Ev ta σ H v) (hv : Bd K H v o) : Ev (tOp (rNeTyO K) (tThenZ ta kTyp3) (tC (.ty "list"))) σ H (.bl (!o.isSome)) := fun H1 e Q q => h H1 e _ fun H2 e2 => by
  cases hv.ex (e.trans e2) with
  | ty n hz m ne => exact .inl ⟨n, .inl hz, .inl ⟨n, "list", rfl, rfl, m, PySem.TypeEq.meta_list, by rw [decide_eq_false ne]; exact q H2 e2⟩⟩
  | dct e1 hz => exact .inl ⟨"dict", .inr ⟨rfl, _, _, e1, hz⟩, .inl ⟨"dict", "list", rfl, rfl, PySem.TypeEq.meta_dict, PySem.TypeEq.meta_list, q H2 e2⟩⟩
  | own e1 hz t => exact .inr ⟨_, _, _, _, e1, hz, .inr ⟨_, "list", rfl, rfl, t, PySem.TypeEq.meta_list, q H2 e2⟩⟩
  | lst e1 hz ps => exact .inl ⟨"list", .inl (by rw [e1]; simp [zTyV, hz]), .inl ⟨"list", "list", rfl, rfl, PySem.TypeEq.meta_list, PySem.TypeEq.meta_list, q H2 e2⟩⟩
theorem ev_isWholeO {σ : L2.St} {H : Hp} {ta : TE} {v : V} {d : PyData} (h : Ev ta σ H v) (hv : Iv H v d) : Ev (tOp rEqTy (tThenZ ta kTyp) (tC (.ty "int"))) σ H (.bl (isI d)) := fun H1 e Q q => h H1 e _ fun H2 e2 => by
  obtain ⟨n, hn, mt, iff⟩ := (hv.ex (e.trans e2)).1
  refine ⟨n, hn, n, "int", rfl, rfl, mt, PySem.TypeEq.meta_int, ?_⟩
  rw [iff]
  exact q H2 e2
def sp_is_whole (K : PySem.W.Frag) : Sp := fun vs H Q _ => ∃ (v : V) (d : PyData), vs = [v] ∧ Iv H v d ∧ RetV (.bl (isI d)) H Q
theorem sv_whole {K : PySem.W.Frag} {H : Hp} {x : Int} : SpV (sp_is_whole K) ([.int x] ++ []) H (.bl true) := fun H1 _ Q q E => ⟨.int x, .int x, rfl, iv_int, q⟩
theorem sv_wholeD {K : PySem.W.Frag} {H : Hp} {v : V} {d : PyData} (h : Iv H v d) : SpV (sp_is_whole K) ([v] ++ []) H (.bl (isI d)) := fun H1 e Q q E => ⟨v, d, rfl, h.ex e, q⟩
local macro_rules | `(tactic| walk_at "call") => `(tactic| (with_reducible exact sv_whole))
def sp_ord (v : V) : Sp := fun vs H Q _ => ∃ (a : Addr) (h : List Nat), vs = [.ref a] ∧ H a = some (.lst (nv h)) ∧ Ord h ∧ RetV v H Q
theorem sv_ord {H : Hp} {v : V} {a : Addr} {h : List Nat} (ha : H a = some (.lst (nv h))) (o : Ord h) : SpV (sp_ord v) ([.ref a] ++ []) H v := fun H1 e Q q E => ⟨a, h, rfl, e a _ ha, o, q⟩
section
variable {P : Program} {w : World} {K : PySem.W.Frag} {mg : Str → Option Value} {base : Heap}
theorem ok_is_whole (T : Tx K mg) : FnOk P w K mg base CX0 1 T.f_is_whole T.d_is_whole ["thing"] (sp_is_whole K) := by
  refine T.F_is_whole.ok sc_is_whole (fun vs H Q E h => ?_) (fun cdv A outer s H vs Q E hr h => ?_)
  · obtain ⟨v, d, rfl, _⟩ := h
    rfl
  · obtain ⟨v, d, rfl, hv, k⟩ := h
    refine ⟨_, (pss_one (ps_ret (pe_cmpR op_eqTy (pe_typeOf (by rfl) T.m_type (pv 0)) (pe_bltn (v := .ty "int") (by rfl) T.m_int (by decide +kernel) rfl) (nomark _)))), ?_⟩
    exact s_ret (ev_isWholeO (ev_var rfl) hv) fun H1 e1 => k _ e1
theorem range_iz (n : Nat) : rgV 0 (n : Int) = nv (List.range n) := by
  rw [nv_eq]
  unfold rgV
  simp
/-- the ints of data -/
def intsOf (ds : List PyData) : List Int := ds.map fun
  | .int i => i
  | _ => 0
def sortI (ns : List Int) : List Int := ns.mergeSort fun a b => decide (a ≤ b)
theorem sortI_perm (ns : List Int) : (sortI ns).Perm ns := List.mergeSort_perm ns _
theorem sortI_sorted (ns : List Int) : (sortI ns).Pairwise (· ≤ ·) := by
  have := List.pairwise_mergeSort (le := fun a b : Int => decide (a ≤ b)) (fun a b c h1 h2 => by
    have h1 := of_decide_eq_true h1
    have h2 := of_decide_eq_true h2
    exact decide_eq_true (by omega)) (fun a b => by
    rw [Bool.or_eq_true, decide_eq_true_iff, decide_eq_true_iff]
    omega) ns
  exact this.imp fun h => of_decide_eq_true h
theorem ints_of {H : Hp} : ∀ {xs : List V} {ds : List PyData}, Paired (Iv H) xs ds → ds.all isI = true → xs = (intsOf ds).map V.int
  | _, _, .nil, _ => rfl
  | _, _, .cons (b := d) h t, ha => by
    rw [List.all_cons, Bool.and_eq_true] at ha
    have := ints_of t ha.2
    cases d with
    | int i =>
      rw [this, h.2.1 i rfl]
      rfl
    | _ => exact Bool.noConfusion ha.1
def lenOk (n : Nat) : Bool := decide ((1 : Int) ≤ (n : Int)) && decide ((n : Int) ≤ 20)
def sorts (ds : List PyData) : Bool := PyData.eqv (.list ((sortI (intsOf ds)).map PyData.int)) (.list ((iz (List.range ds.length)).map PyData.int))
/-- whether a thing is a list with 0, 1, .. once each -/
def judge : Option (List PyData) → Bool
  | none => false
  | some ds => lenOk ds.length && (ds.all isI && sorts ds)
def sp_any (K : PySem.W.Frag) : Sp := fun vs H Q _ => ∃ (v : V) (o : Option (List PyData)), vs = [v] ∧ Bd K H v o ∧ RetV (.bl (judge o)) H Q
def sp_is_order (K : PySem.W.Frag) : Sp := fun vs H Q E => sp_ord (.bl true) vs H Q E ∨ sp_any K vs H Q E
theorem sv_order {K : PySem.W.Frag} {H : Hp} {a : Addr} {h : List Nat} (ha : H a = some (.lst (nv h))) (o : Ord h) : SpV (sp_is_order K) ([.ref a] ++ []) H (.bl true) := fun H1 e Q q E => .inl (sv_ord ha o H1 e Q q E)
theorem sv_any {K : PySem.W.Frag} {H : Hp} {v : V} {o : Option (List PyData)} (hv : Bd K H v o) : SpV (sp_is_order K) ([v] ++ []) H (.bl (judge o)) := fun H1 e Q q E => .inr ⟨v, o, rfl, hv.ex e, q⟩
theorem judge_ord {h : List Nat} (o : Ord h) : judge (some ((iz h).map PyData.int)) = true := by
  have e : intsOf ((iz h).map PyData.int) = iz h := by
    unfold intsOf
    rw [List.map_map]
    exact List.map_id _
  have el : ((iz h).map PyData.int).length = h.length := by simp [iz]
  have s : sortI (iz h) = iz (List.range h.length) := List.Perm.eq_of_pairwise (le := fun a b : Int => a ≤ b) (fun a b _ _ h1 h2 => by omega) (sortI_sorted _) (by
    unfold iz
    rw [List.pairwise_map]
    exact List.Pairwise.imp (fun {a b} h => by omega) List.pairwise_lt_range) ((sortI_perm _).trans (o.1.map (fun x : Nat => (x : Int))))
  unfold judge sorts lenOk
  simp only
  rw [e, el, s, eqv_same (shaped_ints _)]
  have hl := o.2
  have : ((iz h).map PyData.int).all isI = true := by
    rw [List.all_map, List.all_eq_true]
    intro x _
    rfl
  rw [this]
  simp
  omega
theorem Ord.th {K : PySem.W.Frag} {H : Hp} {a : Addr} {h : List Nat} (ha : H a = some (.lst (nv h))) : Bd K H (.ref a) (some ((iz h).map PyData.int)) := .lst rfl ha (iv_ints _)
theorem ok_is_order (T : Tx K mg) : FnOk P w K mg base CX0 2 T.f_is_order T.d_is_order ["thing"] (sp_is_order K) := by
  refine FnOk.imp (sp := sp_any K) ?_ (fun vs H Q E h => ?_)
  · refine T.F_is_order.ok sc_is_order (fun vs H Q E h => ?_) (fun cdv A outer s H vs Q E hr h => ?_)
    · obtain ⟨v, o, rfl, _⟩ := h
      rfl
    · obtain ⟨v, o, rfl, hv, k⟩ := h
      refine ⟨_, (pss_cons (ps_if (PW.pt (pw_or (pt_cmpR (op_neTyO (hu_of hr)) (pe_typeOf3 (by rfl) T.m_type (pv 0)) (pe_bltn (v := .ty "list") (by rfl) T.m_list (by decide +kernel) rfl) (nomark _)) (pw_or1 (pt_not (pt_chain op_le op_le pe_int (pe_callB call_lenR (by rfl) T.m_len (by decide +kernel) (pa_cons (pv 0) pa_nil)) (pe_gc (by rfl) T.c_MOST_GUESTS)))))) (pss_one (ps_ret pe_bl)) pss_nil)
      (pss_cons (ps_if (pt_not (pt_val (pe_callB (cr_all rfl) (by rfl) T.m_all (by decide +kernel) (pa_cons (pe_lc (own := [("item", 1)]) (g := (gName 1)) (tt := tYes) rfl sc_is_order.nd (pi_list (pv 0)) (blkOk_by (own := [("item", 1)]) (N := n_is_order) (sc := defScope s_is_order) (by decide +kernel)) (fun _ _ _ _ _ => (pg_name (i := 1) sc_is_order.nd rfl (Or.inl rfl))) (fun _ _ _ _ _ => pts_nil) (fun _ _ _ _ _ => (pe_call (ok_is_whole T) (hr.mono (by decide)) (by rfl) T.g_is_whole T.F_is_whole.kp T.b_is_whole .nil pass0 (pa_cons (pv 1) pa_nil)))) pa_nil)))) (pss_one (ps_ret pe_bl)) pss_nil)
      (pss_one (ps_ret (pe_cmpR (op_eqD hr.units) (pe_callB cr_sorted (by rfl) T.m_sorted (by decide +kernel) (pa_cons (pv 0) pa_nil)) (pe_listRg rfl (by rfl) T.m_list (prg_1 (by rfl) T.m_range (pe_callB call_lenR (by rfl) T.m_len (by decide +kernel) (pa_cons (pv 0) pa_nil)))) (nomark _)))))), ?_⟩
      cases o with
      | none =>
        refine q_when (b := true) (et_is (et_or (b := false) (et_test (ev_noListO (ev_var rfl) hv)) fun z => Bool.noConfusion z) rfl) (fun _ H1 e1 => ?_) fun hb => Bool.noConfusion hb
        exact s_ret ev_c fun H2 e2 => k _ (e1.trans e2)
      | some ds =>
        have hv0 := hv
        cases hv with
        | @lst a xs _ ev ha hd =>
          subst ev
          have hl : xs.length = ds.length := hd.length
          refine q_when (b := !lenOk ds.length) (et_is (et_or (et_test (ev_noListO (ev_var rfl) hv0)) fun _ => et_not (et_test (ev_chainI ev_c (ev_len (ev_var rfl) (sq_of ha)) ev_c))) (by rw [hl]; rfl)) (fun hb H1 e1 => ?_) fun hb H1 e1 => ?_
          · have hb : lenOk ds.length = false := by simpa using hb
            have ej : judge (some ds) = false := by
              unfold judge
              simp only
              rw [hb]
              rfl
            rw [ej] at k
            exact s_ret ev_c fun H2 e2 => k _ (e1.trans e2)
          · have hb : lenOk ds.length = true := by simpa using hb
            have hn : 1 ≤ ds.length ∧ ds.length ≤ 20 := by
              unfold lenOk at hb
              simp at hb
              omega
            have h1 := e1 a _ ha
            refine q_when (b := !(ds.all isI)) (et_is (et_not (et_B (ev_allN (bs := ds.map isI) ?_))) (by rw [List.all_map]; rfl)) (fun hb2 H2 e2 => ?_) fun hb2 H2 e2 => ?_
            · have g := el_mapI (K := K) (te := tCall (sp_is_whole K) [] E0 (tCons (tVar 1) tNil)) (j := 1) (vs := [1]) (σ := start n_is_order [.ref a]) (H := H1) (fun i => V.bl (isI (ds.getD i .none))) (ev_var (i := 0) rfl) (sq_of h1) (by omega) (fun _ => rfl) fun i x H2 e2 hx => ?_
              · have e : (List.range xs.length).map (fun i => V.bl (isI (ds.getD i .none))) = (ds.map isI).map V.bl := by
                  rw [hl]
                  conv => rhs; rw [range_get ds .none]
                  rw [List.map_map, List.map_map]
                  rfl
                rw [e] at g
                exact g
              · obtain ⟨d, hd1, hd2⟩ := paired_get hd hx
                have gd : ds.getD i .none = d := by rw [List.getD_eq_getElem?_getD, hd1] <;> rfl
                show Ev _ _ _ (V.bl (isI (ds.getD i .none)))
                rw [gd]
                exact ev_call (ea_cons (ev_var rfl) ea_nil) (sv_wholeD (hd2.ex (e1.trans e2)))
            · have hb2 : ds.all isI = false := by simpa using hb2
              have ej : judge (some ds) = false := by
                unfold judge
                simp only
                rw [hb2, Bool.false_and, Bool.and_false]
              rw [ej] at k
              exact s_ret ev_c fun H3 e3 => k _ (e1.trans (e2.trans e3))
            · have hb2 : ds.all isI = true := by simpa using hb2
              have ex := ints_of hd hb2
              have il : (intsOf ds).length = ds.length := by simp [intsOf]
              have h2 := e2 a _ h1
              have sr : EvD K (tCB (rSorted K) (tCons (tVar 0) tNil)) (start n_is_order [.ref a]) H2 (.list ((sortI (intsOf ds)).map PyData.int)) :=
                ed_sorted (ns := intsOf ds) (ev_var rfl) (sq_of (by rw [← ex]; exact h2)) (by omega) (sortI_perm _) (sortI_sorted _)
              have rg : EvD K (tLstRg (tRg1 (tCB (rLenS K) (tCons (tVar 0) tNil)))) (start n_is_order [.ref a]) H2 (.list ((iz (List.range ds.length)).map PyData.int)) :=
                ed_ofL (xs := nv (List.range ds.length)) (by
                  have g := el_rg1 (σ := start n_is_order [.ref a]) (ev_len (K := K) (ta := tVar 0) (ev_var (i := 0) (v := .ref a) rfl) (sq_of h2)) (RgOk.of_le (by decide) (by omega) (by decide) (by omega))
                  rw [hl, range_iz] at g
                  exact g) (dpa_ints _)
              have ej : judge (some ds) = sorts ds := by
                unfold judge
                simp only
                rw [hb, hb2, Bool.true_and, Bool.true_and]
              rw [ej] at k
              exact s_ret (ev_eqD sr rg (shaped_ints _) (shaped_ints _)) fun H3 e3 => k _ (e1.trans (e2.trans e3))
  · rcases h with ⟨a, g, rfl, ha, o, k⟩ | h
    · refine ⟨.ref a, _, rfl, Ord.th ha, ?_⟩
      rw [judge_ord o]
      exact k
    · exact h
local macro_rules | `(tactic| walk_at "call") => `(tactic| ((with_reducible refine' sv_order ?c1 ?c2); (case c1 => assumption); (case c2 => assumption)))
theorem ok_is_seating (T : Tx K mg) : FnOk P w K mg base CX0 3 T.f_is_seating T.d_is_seating ["thing"] (sp_is_order K) := by
  refine T.F_is_seating.ok sc_is_seating (fun vs H Q E h => ?_) (fun cdv A outer s H vs Q E hr h => ?_)
  · rcases h with ⟨a, g, rfl, _⟩ | ⟨v, o, rfl, _⟩
    · rfl
    · rfl
  · rcases h with ⟨a, g, rfl, ha, o, k⟩ | ⟨v, o, rfl, hv, k⟩
    · refine ⟨_, (pss_one (ps_ret (pe_call (ok_is_order T) (hr.mono (by decide)) (by rfl) T.g_is_order T.F_is_order.kp T.b_is_order .nil pass0 (pa_cons (pv 0) pa_nil)))), ?_⟩
      exact s_ret (by walk_at "ev") fun H1 e1 => k _ e1
    · refine ⟨_, (pss_one (ps_ret (pe_call (ok_is_order T) (hr.mono (by decide)) (by rfl) T.g_is_order T.F_is_order.kp T.b_is_order .nil pass0 (pa_cons (pv 0) pa_nil)))), ?_⟩
      exact s_ret (ev_call (ea_cons (ev_var rfl) ea_nil) (sv_any hv)) fun H1 e1 => k _ e1
end
/-! ### errors -/
theorem eqv_ints_eq {xs ys : List Int} (h : PyData.eqv (.list (xs.map PyData.int)) (.list (ys.map PyData.int)) = true) : xs = ys := by
  have key : ∀ xs ys : List Int, PyData.eqvAll (xs.map PyData.int) (ys.map PyData.int) = true → xs = ys := by
    intro xs
    induction xs with
    | nil =>
      intro ys h
      cases ys with
      | nil => rfl
      | cons y r => simp [PyData.eqvAll] at h
    | cons x s ih =>
      intro ys h
      cases ys with
      | nil => simp [PyData.eqvAll] at h
      | cons y r =>
        simp only [List.map_cons, PyData.eqvAll, Bool.and_eq_true, PyData.eqv] at h
        rw [ih r h.2]
        have := h.1
        simp at this
        rw [this]
  exact key xs ys h
theorem nat_of_ints : ∀ {ns : List Int}, (∀ n ∈ ns, 0 ≤ n) → ∃ h : List Nat, ns = iz h
  | [], _ => ⟨[], rfl⟩
  | n :: r, hh => by
    obtain ⟨h, e⟩ := nat_of_ints fun m hm => hh m (List.mem_cons_of_mem _ hm)
    refine ⟨n.toNat :: h, ?_⟩
    have := hh n List.mem_cons_self
    rw [e]
    show n :: iz h = ((n.toNat : Nat) : Int) :: iz h
    rw [show ((n.toNat : Nat) : Int) = n by omega]
/-- what is judged true is a list of guests -/
theorem judge_yes {K : PySem.W.Frag} {H : Hp} {v : V} {o : Option (List PyData)} (hv : Bd K H v o) (hj : judge o = true) : ∃ (a : Addr) (h : List Nat), v = .ref a ∧ H a = some (.lst (nv h)) ∧ Ord h := by
  cases hv with
  | @lst a xs ds ev ha hd =>
    subst ev
    unfold judge at hj
    simp only [Bool.and_eq_true] at hj
    obtain ⟨hl, hi, hs⟩ := hj
    have ex := ints_of hd hi
    have e := eqv_ints_eq hs
    have il : (intsOf ds).length = ds.length := by simp [intsOf]
    have pm : (intsOf ds).Perm (iz (List.range ds.length)) := by
      rw [← e]
      exact (sortI_perm _).symm
    obtain ⟨h, eh⟩ := nat_of_ints (ns := intsOf ds) fun n hn => by
      obtain ⟨x, _, rfl⟩ := List.mem_map.mp (pm.mem_iff.mp hn)
      omega
    have hlen : h.length = ds.length := by
      rw [← il, eh]
      simp [iz]
    refine ⟨a, h, rfl, ?_, ?_, ?_⟩
    · rw [ha, ex, eh]
      rfl
    · rw [eh] at pm
      have p2 := pm.map Int.toNat
      have back : ∀ l : List Nat, (iz l).map Int.toNat = l := fun l => by
        unfold iz
        rw [List.map_map]
        exact (List.map_congr_left fun x _ => by simp).trans (List.map_id _)
      rw [back, back] at p2
      rw [hlen]
      exact p2
    · unfold lenOk at hl
      simp at hl
      omega
  | ty n h m ne => exact Bool.noConfusion hj
  | dct e h => exact Bool.noConfusion hj
  | own e h t => exact Bool.noConfusion hj
/-- what is evaluated to a text of at most n signs -/
def EvS (n : Nat) (te : TE) (σ : L2.St) (H : Hp) : Prop := ∀ H1, Ex H H1 → ∀ Q : VK, (∀ y H2, Ex H1 H2 → y.length ≤ n → Q (.str y) H2) → te σ H1 Q
section
variable {K : PySem.W.Frag} {σ : L2.St} {H H' : Hp} {te : TE}
theorem es_c {z : Str} {n : Nat} (h : z.length ≤ n) : EvS n (tC (.str z)) σ H := fun H1 _ Q q => q z H1 (Ex.refl _) h
theorem es_fmt {i : Int} (h : Ev te σ H (.int i)) (hb : i.natAbs < 2 ^ 1900) : EvS 1921 (tFmt te) σ H := fun H1 e Q q => h H1 e _ fun H2 e2 => .inr ⟨i, rfl, by
  by_cases z : i.natAbs = 0
  · rw [z]
    decide
  · exact Nat.lt_of_lt_of_le ((Nat.log2_lt z).mpr hb) (by decide), q _ H2 e2 (by
  refine int_text_len_1921 ?_
  by_cases z : i.natAbs = 0
  · rw [z]
    decide
  · exact Nat.lt_of_lt_of_le ((Nat.log2_lt z).mpr hb) (by decide))⟩
theorem tjs_nil {acc : Str} {Q : Str → Hp → Prop} (q : ∀ y, Q y H) : tJs [] acc σ H Q := q acc
theorem str_app_len (a b : Str) : (a ++ b).length = a.length + b.length := by
  show (Str.mk (a.cps ++ b.cps)).cps.size = _
  rw [Array.size_append]
  rfl
theorem tjs_go {n : Nat} : ∀ {ts : List TE} {acc : Str} {H1 : Hp} {Q : Str → Hp → Prop}, (∀ t ∈ ts, EvS n t σ H) → Ex H H1 → acc.length + ts.length * n ≤ 100000 → (∀ y H2, Ex H1 H2 → Q y H2) → tJs ts acc σ H1 Q
  | [], acc, H1, Q, _, _, _, q => q acc H1 (Ex.refl _)
  | t :: ts, acc, H1, Q, h, e, hz, q => h t List.mem_cons_self H1 e _ fun y H2 e2 hy => by
    rw [List.length_cons, Nat.add_mul, Nat.one_mul] at hz
    have hl := str_app_len acc y
    exact ⟨y, rfl, sz_of (by omega), tjs_go (fun t ht => h t (List.mem_cons_of_mem _ ht)) (e.trans e2) (by omega) fun z H3 e3 => q z H3 (e2.trans e3)⟩
end
def sp_chk1 (C : Addr) (lo hi : Int) : Sp := fun vs H Q E => ∃ x : Int, vs = [.int x] ∧ Out (if lo ≤ x ∧ x ≤ hi then none else some C) H Q E
def sp_chkN (C : Addr) : Sp := fun vs H Q E => ∃ x lo hi : Int, vs = [.int x, .int lo, .int hi] ∧ lo.natAbs < 2 ^ 1900 ∧ hi.natAbs < 2 ^ 1900 ∧ Out (if lo ≤ x ∧ x ≤ hi then none else some C) H Q E
def sp_chkS (K : PySem.W.Frag) (C : Addr) : Sp := fun vs H Q E => ∃ (v : V) (o : Option (List PyData)), vs = [v] ∧ Bd K H v o ∧ Out (if judge o then none else some C) H Q E
theorem so_chk1 {C : Addr} {lo hi x : Int} {H : Hp} : SpO (sp_chk1 C lo hi) ([.int x] ++ []) H (if lo ≤ x ∧ x ≤ hi then none else some C) := fun H1 e Q E q => ⟨x, rfl, q⟩
theorem so_chkN {C : Addr} {lo hi x : Int} {H : Hp} (h0 : lo.natAbs < 2 ^ 1900) (h1 : hi.natAbs < 2 ^ 1900) : SpO (sp_chkN C) ([.int x, .int lo, .int hi] ++ []) H (if lo ≤ x ∧ x ≤ hi then none else some C) := fun H1 e Q E q => ⟨x, lo, hi, rfl, h0, h1, q⟩
theorem so_chkS {K : PySem.W.Frag} {C : Addr} {H : Hp} {v : V} {o : Option (List PyData)} (hv : Bd K H v o) : SpO (sp_chkS K C) ([v] ++ []) H (if judge o then none else some C) := fun H1 e Q E q => ⟨v, o, rfl, hv.ex e, q⟩
/-- a def that asks first whether its argument is what it should be, and raises if not -/
def SpJ (K : PySem.W.Frag) (J : Option (List PyData) → Bool) (C : Addr) (old : Sp) : Sp := fun vs H Q E => ∃ (v : V) (o : Option (List PyData)), vs = [v] ∧ Bd K H v o ∧ (J o = false → ∀ H1, Ex H H1 → E (.ref C) none H1) ∧ (J o = true → old [v] H Q E)
theorem spJ_v {K : PySem.W.Frag} {J : Option (List PyData) → Bool} {C : Addr} {old : Sp} {H : Hp} {v z : V} {o : Option (List PyData)} (hv : Bd K H v o) (hj : J o = true) (h : SpV old ([v] ++ []) H z) : SpV (SpJ K J C old) ([v] ++ []) H z := fun H1 e Q q E =>
  ⟨v, o, rfl, hv.ex e, (fun n => by rw [hj] at n; exact Bool.noConfusion n), fun _ => h H1 e Q q E⟩
theorem spJ_l {K : PySem.W.Frag} {J : Option (List PyData) → Bool} {C : Addr} {old : Sp} {H : Hp} {v : V} {xs : List V} {o : Option (List PyData)} (hv : Bd K H v o) (hj : J o = true) (h : SpL old ([v] ++ []) H xs) : SpL (SpJ K J C old) ([v] ++ []) H xs := fun H1 e Q q E =>
  ⟨v, o, rfl, hv.ex e, (fun n => by rw [hj] at n; exact Bool.noConfusion n), fun _ => h H1 e Q q E⟩
theorem due_no {p : Prop} [Decidable p] {C : Addr} (h : (if p then none else some C) = none) : p := by
  by_cases hp : p
  · exact hp
  · rw [if_neg hp] at h
    cases h
theorem due_yes {p : Prop} [Decidable p] {C D : Addr} (h : (if p then none else some C) = some D) : ¬ p ∧ D = C := by
  by_cases hp : p
  · rw [if_pos hp] at h
    cases h
  · rw [if_neg hp] at h
    exact ⟨hp, (Option.some.inj h).symm⟩


local macro_rules | `(tactic| walk_at "call") => `(tactic| (with_reducible exact sv_whole))

/-! ### rings: the mathematics -/
/-- r is a whole table of the seating h, from its first guest on to the left -/
structure Rg (h r : List Nat) : Prop where
  ne : 0 < r.length
  nd : r.Nodup
  st : ∀ i, i < r.length → ∃ x y, r[i]? = some x ∧ r[(i + 1) % r.length]? = some y ∧ h[x]? = some y
def rot (r : List Nat) (k : Nat) : List Nat := r.drop k ++ r.take k
theorem rot_len {r : List Nat} {k : Nat} (hk : k ≤ r.length) : (rot r k).length = r.length := by
  unfold rot
  rw [List.length_append, List.length_drop, List.length_take]
  omega
theorem rot_get {r : List Nat} {k i : Nat} (hk : k < r.length) (hi : i < r.length) : (rot r k)[i]? = r[(i + k) % r.length]? := by
  unfold rot
  by_cases h : i < r.length - k
  · rw [List.getElem?_append_left (by rw [List.length_drop]; exact h), List.getElem?_drop, Nat.mod_eq_of_lt (by omega), Nat.add_comm]
  · rw [List.getElem?_append_right (by rw [List.length_drop]; omega), List.length_drop, List.getElem?_take_of_lt (by omega)]
    have e : (i + k) % r.length = i - (r.length - k) := by
      rw [Nat.mod_eq_sub_mod (by omega), Nat.mod_eq_of_lt (by omega)]
      omega
    rw [e]
theorem rot_perm (r : List Nat) (k : Nat) : (rot r k).Perm r := by
  unfold rot
  exact List.perm_append_comm.trans (List.Perm.of_eq (List.take_append_drop k r))
theorem Rg.rot {h r : List Nat} (R : Rg h r) {k : Nat} (hk : k < r.length) : Rg h (rot r k) := by
  have hl := rot_len (r := r) (k := k) (by omega)
  refine ⟨by have := R.ne; omega, (rot_perm r k).nodup_iff.mpr R.nd, fun i hi => ?_⟩
  rw [hl] at hi ⊢
  obtain ⟨x, y, h1, h2, h3⟩ := R.st ((i + k) % r.length) (Nat.mod_lt _ R.ne)
  refine ⟨x, y, by rw [rot_get hk hi]; exact h1, ?_, h3⟩
  rw [rot_get hk (Nat.mod_lt _ R.ne), ← h2, Nat.mod_add_mod, Nat.mod_add_mod]
  congr 2
  omega
structure Rings (h : List Nat) (rs : List (List Nat)) : Prop where
  rg : ∀ r ∈ rs, Rg h r
  low : ∀ r ∈ rs, ∀ x ∈ r, r.headD 0 ≤ x
  asc : (rs.map (·.headD 0)).Pairwise (· < ·)
  all : rs.flatten.Perm (List.range h.length)
def leads (r : List Nat) : Bool := decide (∀ x ∈ r, r.headD 0 ≤ x)
theorem Rings.turn {h : List Nat} {rs : List (List Nat)} (R : Rings h rs) {g : Nat} (hg : g < h.length) : ∃ w : List Nat, (∃ r ∈ rs, ∃ k, r[k]? = some g ∧ w = rot r k) := by
  have hm : g ∈ rs.flatten := R.all.mem_iff.mpr (List.mem_range.mpr hg)
  obtain ⟨r, hr, hgr⟩ := List.mem_flatten.mp hm
  obtain ⟨k, hk⟩ := List.mem_iff_getElem?.mp hgr
  exact ⟨rot r k, r, hr, k, hk, rfl⟩
theorem Rings.walks {h : List Nat} {rs : List (List Nat)} (R : Rings h rs) : ∃ f : Nat → List Nat, ∀ g, g < h.length → ∃ r ∈ rs, ∃ k, r[k]? = some g ∧ f g = rot r k :=
  ⟨fun g => if hg : g < h.length then Classical.choose (R.turn hg) else [], fun g hg => by
    have := Classical.choose_spec (R.turn hg)
    simp only [dif_pos hg]
    exact this⟩
theorem head_rot {r : List Nat} {k g : Nat} (hk : r[k]? = some g) : (rot r k).headD 0 = g := by
  obtain ⟨hl, e⟩ := List.getElem?_eq_some_iff.mp hk
  unfold rot
  rw [List.drop_eq_getElem_cons hl]
  exact e
theorem leads_rot {r : List Nat} {k g : Nat} (hk : r[k]? = some g) (lo : ∀ x ∈ r, r.headD 0 ≤ x) (ne : 0 < r.length) : leads (rot r k) = decide (g = r.headD 0) := by
  unfold leads
  rw [head_rot hk]
  have hmem : ∀ x, x ∈ rot r k ↔ x ∈ r := fun x => (rot_perm r k).mem_iff
  have h0 : r.headD 0 ∈ r := by
    cases r with
    | nil => simp at ne
    | cons a l => simp
  have hg : g ∈ r := List.mem_of_getElem? hk
  apply decide_eq_decide.mpr
  constructor
  · intro a
    have := a _ ((hmem _).mpr h0)
    have := lo g hg
    omega
  · intro a x hx
    rw [a]
    exact lo x ((hmem x).mp hx)
theorem rot_zero (r : List Nat) : rot r 0 = r := by
  unfold rot
  simp
theorem nodup_flat {rs : List (List Nat)} (h : rs.flatten.Nodup) {r r' : List Nat} {x : Nat} (hr : r ∈ rs) (hr' : r' ∈ rs) (hx : x ∈ r) (hx' : x ∈ r') : r = r' := by
  induction rs with
  | nil => cases hr
  | cons a l ih =>
    rw [List.flatten_cons, List.nodup_append] at h
    obtain ⟨h1, h2, h3⟩ := h
    rcases List.mem_cons.mp hr with e | q
    · rcases List.mem_cons.mp hr' with e' | q'
      · rw [e, e']
      · exact absurd rfl (h3 x (e ▸ hx) x (List.mem_flatten.mpr ⟨r', q', hx'⟩))
    · rcases List.mem_cons.mp hr' with e' | q'
      · exact absurd rfl (h3 x (e' ▸ hx') x (List.mem_flatten.mpr ⟨r, q, hx⟩))
      · exact ih h2 q q'
theorem Rings.nodup {h : List Nat} {rs : List (List Nat)} (R : Rings h rs) : rs.flatten.Nodup := R.all.nodup_iff.mpr List.nodup_range
/-- the walks that begin with their least guest are the rings -/
theorem Rings.lead {h : List Nat} {rs : List (List Nat)} (R : Rings h rs) {f : Nat → List Nat} (hf : ∀ g, g < h.length → ∃ r ∈ rs, ∃ k, r[k]? = some g ∧ f g = rot r k) : ((List.range h.length).map f).filter leads = rs := by
  rw [List.filter_map]
  have hd : ∀ g, g < h.length → leads (f g) = decide (g ∈ rs.map (·.headD 0)) := fun g hg => by
    obtain ⟨r, hr, k, hk, e⟩ := hf g hg
    rw [e, leads_rot hk (R.low r hr) (R.rg r hr).ne]
    apply decide_eq_decide.mpr
    constructor
    · intro a
      exact List.mem_map.mpr ⟨r, hr, a.symm⟩
    · intro a
      obtain ⟨r', hr', e'⟩ := List.mem_map.mp a
      have h0 : g ∈ r' := by
        have := (R.rg r' hr').ne
        cases r' with
        | nil => simp at this
        | cons b l => simp at e'; simp [e']
      have := nodup_flat R.nodup hr hr' (List.mem_of_getElem? hk) h0
      rw [this]
      exact e'.symm
  have hs : (List.range h.length).filter (leads ∘ f) = rs.map (·.headD 0) := by
    have e : (List.range h.length).filter (leads ∘ f) = (List.range h.length).filter (fun g => decide (g ∈ rs.map (·.headD 0))) := List.filter_congr fun g hg => hd g (List.mem_range.mp hg)
    rw [e]
    refine List.Perm.eq_of_pairwise (le := fun a b : Nat => a < b) (fun a b _ _ h1 h2 => by omega) (List.Pairwise.filter _ List.pairwise_lt_range) R.asc ?_
    refine (List.perm_ext_iff_of_nodup (List.Pairwise.filter _ List.nodup_range) (R.asc.imp fun h => Nat.ne_of_lt h)).mpr fun g => ?_
    rw [List.mem_filter]
    constructor
    · intro a
      exact of_decide_eq_true a.2
    · intro a
      refine ⟨?_, decide_eq_true a⟩
      obtain ⟨r', hr', e'⟩ := List.mem_map.mp a
      refine R.all.mem_iff.mp (List.mem_flatten.mpr ⟨r', hr', ?_⟩)
      have := (R.rg r' hr').ne
      cases r' with
      | nil => simp at this
      | cons b l => simp at e'; simp [e']
  rw [hs, List.map_map]
  refine (List.map_congr_left fun r hr => ?_).trans (List.map_id _)
  have ne := (R.rg r hr).ne
  have hm : r.headD 0 < h.length := List.mem_range.mp (R.all.mem_iff.mp (List.mem_flatten.mpr ⟨r, hr, by
    cases r with
    | nil => simp at ne
    | cons b l => simp⟩))
  obtain ⟨r', hr', k, hk, e⟩ := hf (r.headD 0) hm
  have e2 := nodup_flat R.nodup hr' hr (List.mem_of_getElem? hk) (by
    cases r with
    | nil => simp at ne
    | cons b l => simp)
  subst e2
  have k0 : k = 0 := by
    have h0 : r'[0]? = some (r'.headD 0) := by
      cases r' with
      | nil => simp at ne
      | cons b l => simp
    exact nd_ix (R.rg r' hr').nd hk h0
  show f (r'.headD 0) = r'
  rw [e, k0, rot_zero]

/-! ### rings by entries: the mathematics -/
def insr (pal one : Nat) (r : List Nat) : List Nat := if pal ∈ r ∧ pal ≠ one then r.take (r.idxOf pal + 1) ++ [one] ++ r.drop (r.idxOf pal + 1) else r
def rstep (rs : List (List Nat)) (one pal : Nat) : List (List Nat) := (if one = pal then rs ++ [[one]] else rs).map (insr pal one)
def ringsTo (e : List Nat) : Nat → List (List Nat)
  | 0 => []
  | i + 1 => rstep (ringsTo e i) i (e.getD i 0)
structure RI (m : Nat) (rs : List (List Nat)) : Prop where
  all : rs.flatten.Perm (List.range m)
  ne : ∀ r ∈ rs, 0 < r.length
  low : ∀ r ∈ rs, ∀ x ∈ r, r.headD 0 ≤ x
  asc : (rs.map (·.headD 0)).Pairwise (· < ·)
theorem insr_perm {pal one : Nat} {r : List Nat} (h : pal ∈ r) (ne : pal ≠ one) : (insr pal one r).Perm (one :: r) := by
  unfold insr
  rw [if_pos ⟨h, ne⟩, List.append_assoc]
  refine (List.Perm.append_left _ List.perm_append_comm).trans ?_
  rw [← List.append_assoc, List.take_append_drop]
  exact List.perm_append_comm
theorem insr_no {pal one : Nat} {r : List Nat} (h : pal ∉ r) : insr pal one r = r := if_neg fun q => h q.1
theorem insr_same {pal one : Nat} {r : List Nat} (h : pal = one) : insr pal one r = r := if_neg fun q => q.2 h
theorem insr_head {pal one : Nat} {r : List Nat} : (insr pal one r).headD 0 = r.headD 0 := by
  by_cases h : pal ∈ r ∧ pal ≠ one
  · unfold insr
    rw [if_pos h]
    cases r with
    | nil => simp at h
    | cons x l => simp
  · unfold insr
    rw [if_neg h]
theorem insr_len {pal one : Nat} {r : List Nat} (h : 0 < r.length) : 0 < (insr pal one r).length := by
  unfold insr
  split
  · simp
    omega
  · exact h
theorem insr_mem {pal one x : Nat} {r : List Nat} (h : x ∈ insr pal one r) : x ∈ r ∨ x = one := by
  by_cases q : pal ∈ r ∧ pal ≠ one
  · have := (insr_perm q.1 q.2).mem_iff.mp h
    rcases List.mem_cons.mp this with z | z
    · exact .inr z
    · exact .inl z
  · unfold insr at h
    rw [if_neg q] at h
    exact .inl h
theorem insr_all {pal one : Nat} (ne : pal ≠ one) : ∀ {rs : List (List Nat)}, rs.flatten.Nodup → pal ∈ rs.flatten → (rs.map (insr pal one)).flatten.Perm (one :: rs.flatten)
  | [], _, h => by simp at h
  | r :: l, nd, h => by
    rw [List.flatten_cons, List.nodup_append] at nd
    rw [List.map_cons, List.flatten_cons, List.flatten_cons]
    by_cases q : pal ∈ r
    · have hn : ∀ s ∈ l, pal ∉ s := fun s hs z => absurd rfl (nd.2.2 pal q pal (List.mem_flatten.mpr ⟨s, hs, z⟩))
      have e : l.map (insr pal one) = l := (List.map_congr_left fun s hs => insr_no (hn s hs)).trans (List.map_id _)
      rw [e]
      exact (List.Perm.append_right _ (insr_perm q ne))
    · rw [insr_no q]
      have h' : pal ∈ l.flatten := by
        rw [List.flatten_cons] at h
        rcases List.mem_append.mp h with z | z
        · exact absurd z q
        · exact z
      refine (List.Perm.append_left _ (insr_all ne nd.2.1 h')).trans ?_
      exact List.perm_middle
theorem RI.nd {m : Nat} {rs : List (List Nat)} (R : RI m rs) : rs.flatten.Nodup := R.all.nodup_iff.mpr List.nodup_range
theorem RI.mem {m x : Nat} {rs : List (List Nat)} (R : RI m rs) {r : List Nat} (hr : r ∈ rs) (hx : x ∈ r) : x < m := List.mem_range.mp (R.all.mem_iff.mp (List.mem_flatten.mpr ⟨r, hr, hx⟩))
theorem head_mem {r : List Nat} (h : 0 < r.length) : r.headD 0 ∈ r := by
  cases r with
  | nil => simp at h
  | cons x l => simp
theorem RI.step {one pal : Nat} {rs : List (List Nat)} (R : RI one rs) (h : pal ≤ one) : RI (one + 1) (rstep rs one pal) := by
  unfold rstep
  by_cases q : one = pal
  · rw [if_pos q]
    have e : (rs ++ [[one]]).map (insr pal one) = rs ++ [[one]] := (List.map_congr_left fun s _ => insr_same q.symm).trans (List.map_id _)
    rw [e]
    refine ⟨?_, ?_, ?_, ?_⟩
    · rw [List.flatten_append, List.range_succ]
      exact List.Perm.append_right _ R.all
    · intro r hr
      rcases List.mem_append.mp hr with z | z
      · exact R.ne r z
      · rw [List.mem_singleton.mp z]; simp
    · intro r hr
      rcases List.mem_append.mp hr with z | z
      · exact R.low r z
      · rw [List.mem_singleton.mp z]; simp
    · rw [List.map_append, List.pairwise_append]
      refine ⟨R.asc, by simp, fun a ha b hb => ?_⟩
      obtain ⟨r, hr, rfl⟩ := List.mem_map.mp ha
      have := R.mem hr (head_mem (R.ne r hr))
      simp at hb
      omega
  · rw [if_neg q]
    have hp : pal ∈ rs.flatten := R.all.mem_iff.mpr (List.mem_range.mpr (by omega))
    have eh : (rs.map (insr pal one)).map (·.headD 0) = rs.map (·.headD 0) := by
      rw [List.map_map]
      exact List.map_congr_left fun r _ => insr_head
    refine ⟨?_, ?_, ?_, ?_⟩
    · refine (insr_all (Ne.symm q) R.nd hp).trans ?_
      rw [List.range_succ]
      exact (List.Perm.cons _ R.all).trans (List.perm_append_comm (l₁ := [one]))
    · intro r hr
      obtain ⟨s, hs, rfl⟩ := List.mem_map.mp hr
      exact insr_len (R.ne s hs)
    · intro r hr x hx
      obtain ⟨s, hs, rfl⟩ := List.mem_map.mp hr
      rw [insr_head]
      rcases insr_mem hx with z | z
      · exact R.low s hs x z
      · have := R.mem hs (head_mem (R.ne s hs))
        omega
    · rw [eh]
      exact R.asc
theorem ringsTo_ok {e : List Nat} (h : ∀ (i x : Nat), e[i]? = some x → x ≤ i) : ∀ m, m ≤ e.length → RI m (ringsTo e m)
  | 0, _ => ⟨List.Perm.refl _, by simp [ringsTo], by simp [ringsTo], by simp [ringsTo]⟩
  | m + 1, hm => by
    have ih := ringsTo_ok h m (by omega)
    refine ih.step ?_
    have : e[m]? = some (e.getD m 0) := by
      rw [List.getD_eq_getElem?_getD, List.getElem?_eq_getElem (by omega)]
      rfl
    exact h m _ this
/-! the seating of rings -/
def succ (rs : List (List Nat)) (x : Nat) : Nat := match rs.find? (fun r => decide (x ∈ r)) with
  | some r => r.getD ((r.idxOf x + 1) % r.length) 0
  | none => 0
theorem succ_at {rs : List (List Nat)} (nd : rs.flatten.Nodup) {r : List Nat} (hr : r ∈ rs) {i x : Nat} (hx : r[i]? = some x) : succ rs x = r.getD ((i + 1) % r.length) 0 := by
  have hm := List.mem_of_getElem? hx
  have hf : rs.find? (fun r => decide (x ∈ r)) = some r := by
    cases hq : rs.find? (fun r => decide (x ∈ r)) with
    | none => exact absurd (decide_eq_true hm) (by simpa using List.find?_eq_none.mp hq r hr)
    | some s =>
      have h1 := List.mem_of_find?_eq_some hq
      have h2 := List.find?_some hq
      rw [nodup_flat nd h1 hr (of_decide_eq_true h2) hm]
  have ndr : r.Nodup := List.Pairwise.sublist (List.sublist_flatten_of_mem hr) nd
  have hi : r.idxOf x = i := by
    have hl := List.idxOf_lt_length_of_mem hm
    have := List.getElem_idxOf hl
    have h1 : r[r.idxOf x]? = some x := by rw [List.getElem?_eq_getElem hl, this]
    exact nd_ix ndr h1 hx
  unfold succ
  rw [hf]
  show r.getD ((r.idxOf x + 1) % r.length) 0 = _
  rw [hi]
def seat (rs : List (List Nat)) (n : Nat) : List Nat := (List.range n).map (succ rs)
theorem seat_rg {rs : List (List Nat)} {n : Nat} (hp : rs.flatten.Perm (List.range n)) {r : List Nat} (hr : r ∈ rs) (ne : 0 < r.length) : Rg (seat rs n) r := by
  have nd : rs.flatten.Nodup := hp.nodup_iff.mpr List.nodup_range
  refine ⟨ne, List.Pairwise.sublist (List.sublist_flatten_of_mem hr) nd, fun i hi => ?_⟩
  have hx : r[i]? = some r[i] := List.getElem?_eq_getElem hi
  have hm := Nat.mod_lt (i + 1) ne
  refine ⟨r[i], r[(i + 1) % r.length], hx, List.getElem?_eq_getElem hm, ?_⟩
  have hn : r[i] < n := List.mem_range.mp (hp.mem_iff.mp (List.mem_flatten.mpr ⟨r, hr, List.getElem_mem hi⟩))
  unfold seat
  rw [List.getElem?_map, List.getElem?_range hn]
  show some (succ rs r[i]) = _
  rw [succ_at nd hr hx, List.getD_eq_getElem?_getD, List.getElem?_eq_getElem hm]
  rfl
theorem seat_len (rs : List (List Nat)) (n : Nat) : (seat rs n).length = n := by simp [seat]
theorem map_rot {rs : List (List Nat)} (nd : rs.flatten.Nodup) {r : List Nat} (hr : r ∈ rs) (ne : 0 < r.length) : r.map (succ rs) = rot r (1 % r.length) := by
  have hk := Nat.mod_lt 1 ne
  refine List.ext_getElem? fun i => ?_
  by_cases hi : i < r.length
  · have hx : r[i]? = some r[i] := List.getElem?_eq_getElem hi
    have hm := Nat.mod_lt (i + 1) ne
    rw [List.getElem?_map, hx, rot_get hk hi, Nat.add_mod_mod]
    show some (succ rs r[i]) = _
    rw [succ_at nd hr hx, List.getD_eq_getElem?_getD, List.getElem?_eq_getElem hm]
    rfl
  · rw [List.getElem?_eq_none (by simp; omega), List.getElem?_eq_none (by rw [rot_len (by omega)]; omega)]
theorem flat_map_perm {g : Nat → Nat} : ∀ {rs : List (List Nat)}, (∀ r ∈ rs, (r.map g).Perm r) → (rs.flatten.map g).Perm rs.flatten
  | [], _ => List.Perm.refl _
  | r :: l, h => by
    rw [List.flatten_cons, List.map_append]
    exact List.Perm.append (h r (by simp)) (flat_map_perm fun s hs => h s (by simp [hs]))
theorem seat_perm {rs : List (List Nat)} {n : Nat} (hp : rs.flatten.Perm (List.range n)) (hne : ∀ r ∈ rs, 0 < r.length) : (seat rs n).Perm (List.range n) := by
  have nd : rs.flatten.Nodup := hp.nodup_iff.mpr List.nodup_range
  unfold seat
  refine ((hp.symm.map (succ rs)).trans (flat_map_perm fun r hr => ?_)).trans hp
  rw [map_rot nd hr (hne r hr)]
  exact rot_perm r _
theorem RI.rings {m : Nat} {rs : List (List Nat)} (R : RI m rs) : Rings (seat rs m) rs := ⟨fun r hr => seat_rg R.all hr (R.ne r hr), R.low, R.asc, by rw [seat_len]; exact R.all⟩
theorem seat_ord {rs : List (List Nat)} {n : Nat} (hp : rs.flatten.Perm (List.range n)) (hne : ∀ r ∈ rs, 0 < r.length) (h1 : 1 ≤ n) (h2 : n ≤ 20) : Ord (seat rs n) := by
  unfold Ord
  rw [seat_len]
  exact ⟨seat_perm hp hne, h1, h2⟩

/-! ### coming lists: the mathematics -/
def Cm (c : List Nat) : Prop := 1 ≤ c.length ∧ c.length ≤ 20 ∧ ∀ (i x : Nat), c[i]? = some x → x ≤ i
theorem Cm.get {c : List Nat} (h : Cm c) (k : Nat) : c.getD k 0 ≤ k := by
  rw [List.getD_eq_getElem?_getD]
  cases e : c[k]? with
  | none => exact Nat.zero_le _
  | some x => exact h.2.2 k x e
/-- one more guest at the left of x, or alone -/
def sits (h : List Nat) (k x : Nat) : List Nat := if x = k then h ++ [k] else ((h ++ [k]).set k (h.getD x 0)).set x k
def sby (c : List Nat) : Nat → List Nat
  | 0 => []
  | k + 1 => sits (sby c k) k (c.getD k 0)
theorem sits_len {h : List Nat} {k x : Nat} : (sits h k x).length = h.length + 1 := by
  unfold sits
  split <;> simp
theorem sby_len (c : List Nat) : ∀ k, (sby c k).length = k
  | 0 => rfl
  | k + 1 => by
    show (sits _ _ _).length = _
    rw [sits_len, sby_len c k]
theorem sby_take (c : List Nat) {w : Nat} (hw : w ≤ c.length) : ∀ k, k ≤ w → sby (c.take w) k = sby c k
  | 0, _ => rfl
  | k + 1, h => by
    show sits (sby (c.take w) k) k _ = sits (sby c k) k _
    rw [sby_take c hw k (by omega)]
    congr 1
    rw [List.getD_eq_getElem?_getD, List.getD_eq_getElem?_getD, List.getElem?_take]
    rw [if_pos (by omega)]
theorem insr_at {pal one : Nat} {r : List Nat} {j : Nat} (nd : r.Nodup) (hj : r[j]? = some pal) (ne : pal ≠ one) : insr pal one r = r.take (j + 1) ++ [one] ++ r.drop (j + 1) := by
  have hm := List.mem_of_getElem? hj
  have e : r.idxOf pal = j := by
    have hl := List.idxOf_lt_length_of_mem hm
    have h1 : r[r.idxOf pal]? = some pal := by rw [List.getElem?_eq_getElem hl, List.getElem_idxOf hl]
    exact nd_ix nd h1 hj
  unfold insr
  rw [if_pos ⟨hm, ne⟩, e]
theorem ins_get {r : List Nat} {j one t : Nat} (hj : j < r.length) : (r.take (j + 1) ++ [one] ++ r.drop (j + 1))[t]? = if t ≤ j then r[t]? else if t = j + 1 then some one else r[t - 1]? := by
  have l1 : (r.take (j + 1)).length = j + 1 := by rw [List.length_take]; omega
  split
  · rename_i h
    rw [List.getElem?_append_left (by simp; omega), List.getElem?_append_left (by omega), List.getElem?_take, if_pos (by omega)]
  · split
    · rename_i h1 h2
      subst h2
      rw [List.getElem?_append_left (by simp; omega), List.getElem?_append_right (by omega), l1, Nat.sub_self]
      rfl
    · rename_i h1 h2
      rw [List.getElem?_append_right (by simp; omega), List.getElem?_drop]
      congr 1
      simp
      omega
theorem ins_len {r : List Nat} {j one : Nat} (hj : j < r.length) : (r.take (j + 1) ++ [one] ++ r.drop (j + 1)).length = r.length + 1 := by
  simp
  omega
theorem mod_next {i L : Nat} (h : i < L) : (i + 1) % L = if i + 1 = L then 0 else i + 1 := by
  split
  · rename_i e
    rw [e, Nat.mod_self]
  · exact Nat.mod_eq_of_lt (by omega)
theorem getD_of {r : List Nat} {i x : Nat} (h : r[i]? = some x) : r.getD i 0 = x := by
  rw [List.getD_eq_getElem?_getD, h]
  rfl
/-- the left neighbours when one more guest has sat down -/
theorem succ_step {one pal : Nat} {rs : List (List Nat)} (R : RI one rs) (lt : pal < one) : succ (rstep rs one pal) pal = one ∧ succ (rstep rs one pal) one = succ rs pal ∧ ∀ x, x < one → x ≠ pal → succ (rstep rs one pal) x = succ rs x := by
  have ne : pal ≠ one := by omega
  have R2 := R.step (pal := pal) (by omega)
  have nd2 := R2.nd
  have nd := R.nd
  have e : rstep rs one pal = rs.map (insr pal one) := by
    unfold rstep
    rw [if_neg (by omega)]
  have hp : pal ∈ rs.flatten := R.all.mem_iff.mpr (List.mem_range.mpr lt)
  obtain ⟨r, hr, hpr⟩ := List.mem_flatten.mp hp
  obtain ⟨j, hj⟩ := List.mem_iff_getElem?.mp hpr
  have jl := (List.getElem?_eq_some_iff.mp hj).1
  have ndr : r.Nodup := List.Pairwise.sublist (List.sublist_flatten_of_mem hr) nd
  have ei := insr_at (one := one) ndr hj ne
  have mem2 : r.take (j + 1) ++ [one] ++ r.drop (j + 1) ∈ rstep rs one pal := by
    rw [e, ← ei]
    exact List.mem_map.mpr ⟨r, hr, rfl⟩
  have L := ins_len (one := one) jl
  have G := fun t => ins_get (one := one) (t := t) jl
  generalize hq : r.take (j + 1) ++ [one] ++ r.drop (j + 1) = q at *
  have atj : q[j]? = some pal := by rw [G, if_pos (Nat.le_refl _)]; exact hj
  have atj1 : q[j + 1]? = some one := by rw [G, if_neg (by omega), if_pos rfl]
  have s1 := succ_at nd2 mem2 atj
  have s2 := succ_at nd2 mem2 atj1
  have s0 := succ_at nd hr hj
  refine ⟨?_, ?_, ?_⟩
  · rw [s1, L, mod_next (by omega), if_neg (by omega)]
    exact getD_of atj1
  · rw [s2, L, s0, mod_next (by omega), mod_next jl]
    by_cases z : j + 1 = r.length
    · rw [if_pos (by omega), if_pos z, List.getD_eq_getElem?_getD, List.getD_eq_getElem?_getD, G, if_pos (by omega)]
    · rw [if_neg (by omega), if_neg z, List.getD_eq_getElem?_getD, List.getD_eq_getElem?_getD, G, if_neg (by omega), if_neg (by omega)]
      rfl
  · intro x hx nx
    have hxm : x ∈ rs.flatten := R.all.mem_iff.mpr (List.mem_range.mpr hx)
    obtain ⟨s, hs, hxs⟩ := List.mem_flatten.mp hxm
    obtain ⟨i, hi⟩ := List.mem_iff_getElem?.mp hxs
    have il := (List.getElem?_eq_some_iff.mp hi).1
    have t0 := succ_at nd hs hi
    by_cases hps : pal ∈ s
    · have : s = r := nodup_flat nd hs hr hps hpr
      subst this
      rw [t0, mod_next il]
      rcases Nat.lt_trichotomy i j with h | h | h
      · have t1 := succ_at nd2 mem2 (i := i) (x := x) (by rw [G, if_pos (by omega)]; exact hi)
        rw [t1, L, mod_next (by omega), if_neg (by omega), if_neg (by omega), List.getD_eq_getElem?_getD, List.getD_eq_getElem?_getD, G, if_pos (by omega)]
      · subst h
        rw [hj] at hi
        exact absurd (Option.some.inj hi).symm nx
      · have t1 := succ_at nd2 mem2 (i := i + 1) (x := x) (by
          rw [G, if_neg (by omega), if_neg (by omega)]
          exact hi)
        rw [t1, L, mod_next (by omega)]
        by_cases z : i + 1 = s.length
        · rw [if_pos (by omega), if_pos z, List.getD_eq_getElem?_getD, List.getD_eq_getElem?_getD, G, if_pos (by omega)]
        · rw [if_neg (by omega), if_neg z, List.getD_eq_getElem?_getD, List.getD_eq_getElem?_getD, G, if_neg (by omega), if_neg (by omega)]
          rfl
    · have mem3 : s ∈ rstep rs one pal := by
        rw [e]
        exact List.mem_map.mpr ⟨s, hs, insr_no hps⟩
      rw [succ_at nd2 mem3 hi, t0]
theorem succ_open {one : Nat} {rs : List (List Nat)} (R : RI one rs) : succ (rstep rs one one) one = one ∧ ∀ x, x < one → succ (rstep rs one one) x = succ rs x := by
  have R2 := R.step (pal := one) (Nat.le_refl _)
  have nd2 := R2.nd
  have nd := R.nd
  have e : rstep rs one one = rs ++ [[one]] := by
    unfold rstep
    rw [if_pos rfl]
    exact (List.map_congr_left fun s _ => insr_same rfl).trans (List.map_id _)
  refine ⟨?_, fun x hx => ?_⟩
  · have := succ_at nd2 (r := [one]) (by rw [e]; simp) (i := 0) (x := one) rfl
    rw [this]
    simp
  · have hxm : x ∈ rs.flatten := R.all.mem_iff.mpr (List.mem_range.mpr hx)
    obtain ⟨s, hs, hxs⟩ := List.mem_flatten.mp hxm
    obtain ⟨i, hi⟩ := List.mem_iff_getElem?.mp hxs
    rw [succ_at nd2 (r := s) (by rw [e]; simp [hs]) hi, succ_at nd hs hi]
theorem sby_seat {c : List Nat} (h : ∀ (i x : Nat), c[i]? = some x → x ≤ i) : ∀ k, k ≤ c.length → sby c k = seat (ringsTo c k) k
  | 0, _ => rfl
  | k + 1, hk => by
    have ih := sby_seat h k (by omega)
    have R := ringsTo_ok h k (by omega)
    have hx : c.getD k 0 ≤ k := by
      have : c[k]? = some (c.getD k 0) := by
        rw [List.getD_eq_getElem?_getD, List.getElem?_eq_getElem (by omega)]
        rfl
      exact h k _ this
    show sits (sby c k) k (c.getD k 0) = (List.range (k + 1)).map (succ (rstep (ringsTo c k) k (c.getD k 0)))
    rw [ih]
    generalize c.getD k 0 = x at *
    generalize ringsTo c k = rs at *
    have sl := seat_len rs k
    refine List.ext_getElem? fun i => ?_
    rw [List.getElem?_map]
    unfold sits
    by_cases hxk : x = k
    · subst hxk
      obtain ⟨s1, s2⟩ := succ_open R
      rw [if_pos rfl]
      rcases Nat.lt_trichotomy i x with q | q | q
      · rw [List.getElem?_append_left (by omega), List.getElem?_range (by omega)]
        unfold seat
        rw [List.getElem?_map, List.getElem?_range q]
        show some _ = some _
        rw [s2 i q]
      · subst q
        rw [List.getElem?_append_right (by omega), sl, Nat.sub_self, List.getElem?_range (by omega)]
        show some i = some _
        rw [s1]
      · rw [List.getElem?_eq_none (by simp [sl]; omega), List.getElem?_eq_none (by simp; omega)]
        rfl
    · have xl : x < k := by omega
      obtain ⟨s1, s2, s3⟩ := succ_step R xl
      rw [if_neg hxk]
      have hgx : (seat rs k).getD x 0 = succ rs x := by
        refine getD_of ?_
        unfold seat
        rw [List.getElem?_map, List.getElem?_range xl]
        rfl
      rw [hgx, List.getElem?_set, List.getElem?_set]
      by_cases q1 : x = i
      · subst q1
        rw [if_pos rfl, if_pos (by simp [sl]; omega), List.getElem?_range (by omega)]
        show some k = some _
        rw [s1]
      · rw [if_neg q1]
        rcases Nat.lt_trichotomy i k with q | q | q
        · rw [if_neg (by omega), List.getElem?_append_left (by omega), List.getElem?_range (by omega)]
          unfold seat
          rw [List.getElem?_map, List.getElem?_range q]
          show some _ = some _
          rw [s3 i q (fun z => q1 z.symm)]
        · subst q
          rw [if_pos rfl, if_pos (by simp [sl]), List.getElem?_range (by omega)]
          show some _ = some _
          rw [s2]
        · rw [if_neg (by omega), List.getElem?_eq_none (by simp [sl]; omega), List.getElem?_eq_none (by simp; omega)]
          rfl
theorem sby_lt {c : List Nat} (h : ∀ (i x : Nat), c[i]? = some x → x ≤ i) {k : Nat} (hk : k ≤ c.length) {y : Nat} (hy : y ∈ sby c k) : y < k := by
  rw [sby_seat h k hk] at hy
  have R := ringsTo_ok h k hk
  have := (seat_perm R.all R.ne).mem_iff.mp hy
  exact List.mem_range.mp this
/-- the last guest's right neighbour, and the others without it -/
theorem sits_last {h : List Nat} {k x : Nat} (hl : h.length = k) (hlt : ∀ y ∈ h, y < k) (hx : x ≤ k) :
    (sits h k x)[x]? = some k ∧ (∀ m, m < x → (sits h k x)[m]? ≠ some k) ∧ ((sits h k x).set x ((sits h k x).getD k 0)).dropLast = h := by
  have at' : ∀ (m y : Nat), h[m]? = some y → y < k := fun m y hy => hlt y (List.mem_of_getElem? hy)
  unfold sits
  by_cases hxk : x = k
  · subst hxk
    rw [if_pos rfl]
    have g : (h ++ [x])[x]? = some x := by
      rw [List.getElem?_append_right (by omega), hl, Nat.sub_self]
      rfl
    refine ⟨g, fun m hm z => ?_, ?_⟩
    · rw [List.getElem?_append_left (by omega)] at z
      have := at' m x z
      omega
    · rw [getD_of g, List.set_append_right _ _ (by omega), hl, Nat.sub_self]
      simp
  · have xl : x < k := by omega
    rw [if_neg hxk]
    have l1 : ((h ++ [k]).set k (h.getD x 0)).length = k + 1 := by simp [hl]
    refine ⟨by rw [List.getElem?_set, if_pos rfl, if_pos (by omega)], fun m hm z => ?_, ?_⟩
    · rw [List.getElem?_set, if_neg (by omega), List.getElem?_set, if_neg (by omega), List.getElem?_append_left (by omega)] at z
      have := at' m k z
      omega
    · have g : (((h ++ [k]).set k (h.getD x 0)).set x k).getD k 0 = h.getD x 0 := by
        refine getD_of ?_
        rw [List.getElem?_set, if_neg (by omega), List.getElem?_set, if_pos rfl, if_pos (by simp [hl])]
      rw [g, List.set_set]
      have e1 : (h ++ [k]).set k (h.getD x 0) = h ++ [h.getD x 0] := by
        rw [List.set_append_right _ _ (by omega), hl, Nat.sub_self]
        rfl
      rw [e1, List.set_append_left _ _ (by omega), List.dropLast_concat]
      refine List.ext_getElem (by simp) fun i h1 h2 => ?_
      rw [List.getElem_set]
      split
      · rename_i q
        subst q
        exact getD_of (List.getElem?_eq_getElem h2)
      · rfl
/-- who opened the tables -/
theorem rings_heads (c : List Nat) : ∀ k, (ringsTo c k).map (·.headD 0) = (List.range k).filter fun i => decide (c.getD i 0 = i)
  | 0 => rfl
  | k + 1 => by
    have ih := rings_heads c k
    rw [List.range_succ, List.filter_append, ← ih]
    show (rstep (ringsTo c k) k (c.getD k 0)).map (·.headD 0) = _
    have eh : ∀ rs : List (List Nat), (rs.map (insr (c.getD k 0) k)).map (·.headD 0) = rs.map (·.headD 0) := fun rs => by
      rw [List.map_map]
      exact List.map_congr_left fun r _ => insr_head
    unfold rstep
    rw [eh]
    by_cases h : c.getD k 0 = k
    · have q : decide (c.getD k 0 = k) = true := decide_eq_true h
      rw [if_pos h.symm, List.map_append, List.filter_cons, q]
      rfl
    · have q : decide (c.getD k 0 = k) = false := decide_eq_false h
      rw [if_neg (fun z => h z.symm), List.filter_cons, q]
      simp

/-! ### every list of guests has its tables -/
theorem sby_ext {c : List Nat} {x : Nat} : sby (c ++ [x]) c.length = sby c c.length ∧ sby (c ++ [x]) (c.length + 1) = sits (sby c c.length) c.length x := by
  have h := sby_take (c ++ [x]) (w := c.length) (by simp) c.length (Nat.le_refl _)
  rw [List.take_append_of_le_length (Nat.le_refl _), List.take_length] at h
  refine ⟨h.symm, ?_⟩
  show sits (sby (c ++ [x]) c.length) c.length ((c ++ [x]).getD c.length 0) = _
  rw [← h, List.getD_eq_getElem?_getD, List.getElem?_append_right (Nat.le_refl _), Nat.sub_self]
  rfl
theorem sits_app {h : List Nat} {k x : Nat} (hl : h.length = k) (ne : x ≠ k) : sits h k x = (h ++ [h.getD x 0]).set x k := by
  unfold sits
  rw [if_neg ne]
  congr 1
  rw [List.set_append_right _ _ (by omega), hl, Nat.sub_self]
  rfl
theorem Cm.ord {c : List Nat} (o : Cm c) : Ord (sby c c.length) := by
  rw [sby_seat o.2.2 _ (Nat.le_refl _)]
  have R := ringsTo_ok o.2.2 c.length (Nat.le_refl _)
  exact seat_ord R.all R.ne o.1 o.2.1
theorem Cm.rings {c : List Nat} (o : Cm c) : Rings (sby c c.length) (ringsTo c c.length) := by
  rw [sby_seat o.2.2 _ (Nat.le_refl _)]
  exact (ringsTo_ok o.2.2 c.length (Nat.le_refl _)).rings
theorem perm_end {A B R : List Nat} {n y : Nat} (h : (A ++ n :: B ++ [y]).Perm (R ++ [n])) : (A ++ y :: B).Perm R := by
  have a : (A ++ y :: B ++ [n]).Perm (A ++ n :: B ++ [y]) := by
    rw [List.append_assoc, List.append_assoc]
    refine List.Perm.append_left A ?_
    show (y :: (B ++ [n])).Perm (n :: (B ++ [y]))
    refine (List.Perm.cons y (List.perm_append_singleton n B)).trans ?_
    refine (List.Perm.swap n y B).trans ?_
    exact List.Perm.cons n (List.perm_append_singleton y B).symm
  exact (List.perm_append_right_iff [n]).mp (a.trans h)
/-- every seating comes about by a coming list -/
theorem ord_sby : ∀ (n : Nat) (h : List Nat), h.Perm (List.range n) → ∃ c : List Nat, c.length = n ∧ (∀ (i x : Nat), c[i]? = some x → x ≤ i) ∧ sby c n = h
  | 0, h, p => ⟨[], rfl, fun i x z => by simp at z, by rw [List.range_zero] at p; rw [List.Perm.eq_nil p]; rfl⟩
  | n + 1, h, p => by
    have hl : h.length = n + 1 := by
      have := p.length_eq
      rwa [List.length_range] at this
    have nm : n ∈ h := p.mem_iff.mpr (List.mem_range.mpr (Nat.lt_succ_self n))
    have ne : h ≠ [] := fun z => by
      rw [z] at hl
      simp at hl
    obtain ⟨h0, y, rfl⟩ : ∃ h0 y, h = h0 ++ [y] := ⟨_, _, (List.dropLast_concat_getLast ne).symm⟩
    have l0 : h0.length = n := by
      rw [List.length_append, List.length_singleton] at hl
      omega
    rw [List.range_succ] at p
    have ext : ∀ (c : List Nat) (x : Nat), c.length = n → (∀ (i x : Nat), c[i]? = some x → x ≤ i) → x ≤ n → ∀ (i z : Nat), (c ++ [x])[i]? = some z → z ≤ i := fun c x cl cm xn i z hz => by
      rw [List.getElem?_append] at hz
      split at hz
      · exact cm i z hz
      · have hj := (List.getElem?_eq_some_iff.mp hz).1
        rw [List.length_singleton] at hj
        have e0 : i - c.length = 0 := by omega
        rw [e0] at hz
        have : x = z := by simpa using hz
        omega
    by_cases hy : y = n
    · subst hy
      obtain ⟨c, cl, cm, cs⟩ := ord_sby y h0 ((List.perm_append_right_iff [y]).mp p)
      refine ⟨c ++ [y], by rw [List.length_append, cl]; rfl, ext c y cl cm (Nat.le_refl _), ?_⟩
      have e := (sby_ext (c := c) (x := y)).2
      rw [cl] at e
      rw [e, cs]
      unfold sits
      rw [if_pos rfl]
    · have n0 : n ∈ h0 := by
        rcases List.mem_append.mp nm with z | z
        · exact z
        · exact absurd (List.mem_singleton.mp z).symm hy
      obtain ⟨A, B, rfl⟩ := List.append_of_mem n0
      have pe := perm_end p
      obtain ⟨c, cl, cm, cs⟩ := ord_sby n _ pe
      have al : A.length < n := by
        rw [List.length_append, List.length_cons] at l0
        omega
      refine ⟨c ++ [A.length], by rw [List.length_append, cl]; rfl, ext c _ cl cm (by omega), ?_⟩
      have e := (sby_ext (c := c) (x := A.length)).2
      rw [cl] at e
      rw [e, cs, sits_app (by rw [List.length_append, List.length_cons]; rw [List.length_append, List.length_cons] at l0; exact l0) (by omega)]
      have g : (A ++ y :: B).getD A.length 0 = y := by
        rw [List.getD_eq_getElem?_getD, List.getElem?_append_right (Nat.le_refl _), Nat.sub_self]
        rfl
      rw [g, List.append_assoc, List.set_append_right _ _ (Nat.le_refl _), Nat.sub_self, List.append_assoc]
      rfl
theorem ord_cm {h : List Nat} (o : Ord h) : ∃ c, Cm c ∧ c.length = h.length ∧ sby c c.length = h := by
  obtain ⟨c, cl, cm, cs⟩ := ord_sby h.length h o.1
  exact ⟨c, ⟨by rw [cl]; exact o.2.1, by rw [cl]; exact o.2.2, cm⟩, cl, by rw [cl]; exact cs⟩
/-- who has come last leaves -/
theorem ord_rings {h : List Nat} (o : Ord h) : ∃ rs, Rings h rs ∧ rs.length ≤ h.length := by
  obtain ⟨c, oc, cl, rfl⟩ := ord_cm o
  refine ⟨ringsTo c c.length, oc.rings, ?_⟩
  have e := congrArg List.length (rings_heads c c.length)
  rw [List.length_map] at e
  have l := List.length_filter_le (fun i => decide (c.getD i 0 = i)) (List.range c.length)
  rw [List.length_range] at l
  rw [sby_len]
  omega


local macro_rules | `(tactic| walk_at "call") => `(tactic| (with_reducible exact sv_whole))

theorem given_at {n : Nat} (v : Nat → V) : given n (fun _ => true) v = (List.range n).map v := by
  unfold given
  rw [List.filter_eq_self.mpr fun _ _ => rfl]
theorem et_tru {K : PySem.W.Frag} {σ : L2.St} {H : Hp} {ta : TE} {a : Addr} {xs : List V} (h : Ev ta σ H (.ref a)) (hx : SqL K H a xs) : EvT (fun σ H Q => ta σ H fun x H' => ∃ k, TruV K x H' k ∧ Q k H') σ H (!xs.isEmpty) := fun H1 e Q q => h H1 e _ fun H2 e2 => ⟨_, .inl ⟨xs, ex_l (e.trans e2) hx, rfl⟩, q H2 e2⟩
section
variable {K : PySem.W.Frag} {σ : L2.St} {H : Hp} {ta te : TE} {tr : TA} {D : Ends}
theorem nv_flat (r : List Nat) : (nv r).all flatV = true := by
  rw [nv_eq, List.all_map, List.all_eq_true]
  intro x _
  rfl
theorem nv_in (r : List Nat) (x : Nat) : inV (.int x) (nv r) = decide (x ∈ r) := by
  unfold inV
  rw [nv_eq, List.any_map, Bool.eq_iff_iff, List.any_eq_true, decide_eq_true_iff]
  constructor
  · rintro ⟨y, hy, e⟩
    have : ((y : Int) == (x : Int)) = true := e
    have := eq_of_beq this
    have : y = x := by omega
    exact this ▸ hy
  · intro h
    exact ⟨x, h, beq_self_eq_true _⟩
theorem s_dropBM {r : V → List V → Hp → VK → Prop} {l : Addr} {xs : List V} (hl : H l = some (.lst xs)) (ha : Ev ta σ H (.ref l)) (k : ∀ H1, Ex H H1 → tr σ H1 fun vs H2 => r (.ref l) vs H2 fun _ H3 => D.nx σ H3) : tDrop (tBM K "list" r ta tr) D σ H :=
  ha H (Ex.refl H) _ fun H1 e1 => ⟨Or.inl ⟨rfl, xs, sq_of (e1 l _ hl)⟩, k H1 e1⟩
theorem ev_index {l : Addr} {r : List Nat} {x : Nat} (hl : H l = some (.lst (nv r))) (ha : Ev ta σ H (.ref l)) (he : Ev te σ H (.int (x : Int))) (hx : x ∈ r) : Ev (tBM K "list" (rIndex K) ta (tCons te tNil)) σ H (.int (r.idxOf x : Nat)) := fun H1 e Q q =>
  ha H1 e _ fun H2 e2 => ⟨Or.inl ⟨rfl, _, sq_of (e2 l _ (e l _ hl))⟩, he H2 (e.trans e2) _ fun H3 e3 => by
    have hlt := List.idxOf_lt_length_of_mem hx
    refine ⟨l, nv r, .int x, r.idxOf x, .int x, rfl, rfl, sq_of (e3 l _ (e2 l _ (e l _ hl))), rfl, nv_flat r, nv_get (by rw [List.getElem?_eq_getElem hlt, List.getElem_idxOf hlt]), beq_self_eq_true _, fun m z hm hz => ?_, q H3 (e2.trans e3)⟩
    have hml : m < r.length := by omega
    have := nv_get (List.getElem?_eq_getElem hml)
    rw [hz] at this
    have ez := Option.some.inj this
    subst ez
    show ((r[m] : Int) == (x : Int)) = false
    rw [beq_eq_false_iff_ne]
    intro ee
    have ee' : r[m] = x := by omega
    have h1 : r.idxOf x ≤ m := by
      have hh : r.findIdx (· == x) ≤ m := by
        refine Nat.le_of_not_lt fun hlt2 => ?_
        have := List.not_of_lt_findIdx hlt2
        rw [ee'] at this
        simp at this
      exact hh
    omega⟩
end

/-! ### is_within of anything, is_coming of anything -/
def inD (l m : Int) : PyData → Bool
  | .int i => decide (l ≤ i) && decide (i ≤ m)
  | _ => false
def sp_is_within (K : PySem.W.Frag) : Sp := fun vs H Q _ => ∃ (v : V) (d : PyData) (l m : Int), vs = [v, .int l, .int m] ∧ Iv H v d ∧ RetV (.bl (inD l m d)) H Q
theorem sv_within {K : PySem.W.Frag} {H : Hp} {v : V} {d : PyData} {l m : Int} (h : Iv H v d) : SpV (sp_is_within K) ([v, .int l, .int m] ++ []) H (.bl (inD l m d)) := fun H1 e Q q E => ⟨v, d, l, m, rfl, h.ex e, q⟩
theorem sv_between {K : PySem.W.Frag} {H : Hp} {x l m : Int} : SpV (sp_is_within K) ([.int x, .int l, .int m] ++ []) H (.bl (decide (l ≤ x) && decide (x ≤ m))) := fun H1 _ Q q E => ⟨.int x, .int x, l, m, rfl, iv_int, q⟩
def allIn : Nat → List PyData → Bool
  | _, [] => true
  | k, d :: r => inD 0 (k : Int) d && allIn (k + 1) r
/-- whether a thing is a coming list -/
def judgeC : Option (List PyData) → Bool
  | none => false
  | some ds => lenOk ds.length && allIn 0 ds
theorem allIn_eq : ∀ (k : Nat) (ds : List PyData), allIn k ds = ((List.range ds.length).map fun i => inD 0 ((k + i : Nat) : Int) (ds.getD i .none)).all id
  | _, [] => rfl
  | k, d :: r => by
    rw [List.length_cons, List.range_succ_eq_map, List.map_cons, List.all_cons, List.map_map]
    show (inD 0 (k : Int) d && allIn (k + 1) r) = (inD 0 ((k + 0 : Nat) : Int) d && _)
    rw [allIn_eq (k + 1) r, Nat.add_zero]
    congr 3
    funext i
    show inD 0 ((k + 1 + i : Nat) : Int) (r.getD i .none) = inD 0 ((k + (i + 1) : Nat) : Int) (r.getD i .none)
    rw [show k + 1 + i = k + (i + 1) by omega]
theorem allIn_isI : ∀ {k : Nat} {ds : List PyData}, allIn k ds = true → ds.all isI = true
  | _, [], _ => rfl
  | k, d :: r, h => by
    have h : (inD 0 (k : Int) d && allIn (k + 1) r) = true := h
    rw [Bool.and_eq_true] at h
    rw [List.all_cons, Bool.and_eq_true]
    refine ⟨?_, allIn_isI h.2⟩
    cases d <;> first | rfl | exact Bool.noConfusion h.1
def sp_anyC (K : PySem.W.Frag) : Sp := fun vs H Q _ => ∃ (v : V) (o : Option (List PyData)), vs = [v] ∧ Bd K H v o ∧ RetV (.bl (judgeC o)) H Q
theorem sv_anyC {K : PySem.W.Frag} {H : Hp} {v : V} {o : Option (List PyData)} (hv : Bd K H v o) : SpV (sp_anyC K) ([v] ++ []) H (.bl (judgeC o)) := fun H1 e Q q E => ⟨v, o, rfl, hv.ex e, q⟩
theorem allIn_cm : ∀ {c : List Nat} {k : Nat}, (∀ (i x : Nat), c[i]? = some x → x ≤ k + i) → allIn k ((iz c).map PyData.int) = true
  | [], _, _ => rfl
  | x :: r, k, h => by
    show (inD 0 (k : Int) (.int (x : Int)) && allIn (k + 1) ((iz r).map PyData.int)) = true
    have h0 := h 0 x rfl
    rw [allIn_cm (c := r) (k := k + 1) fun i y hy => by have := h (i + 1) y hy; omega]
    show ((decide ((0 : Int) ≤ (x : Int)) && decide ((x : Int) ≤ (k : Int))) && true) = true
    rw [decide_eq_true (by omega), decide_eq_true (by omega)]
    rfl
theorem judgeC_cm {c : List Nat} (o : Cm c) : judgeC (some ((iz c).map PyData.int)) = true := by
  have el : ((iz c).map PyData.int).length = c.length := by simp [iz]
  have e := allIn_cm (c := c) (k := 0) fun i x hx => by have := o.2.2 i x hx; omega
  have o1 := o.1
  have o2 := o.2.1
  unfold judgeC lenOk
  simp only
  rw [el, e, decide_eq_true (by omega), decide_eq_true (by omega)]
  rfl
theorem th_row {K : PySem.W.Frag} {H : Hp} {a : Addr} {h : List Nat} (ha : H a = some (.lst (nv h))) : Bd K H (.ref a) (some ((iz h).map PyData.int)) := .lst rfl ha (iv_ints _)
section
variable {P : Program} {w : World} {K : PySem.W.Frag} {mg : Str → Option Value} {base : Heap}
theorem ok_is_within (T : Tx K mg) : FnOk P w K mg base CX0 2 T.f_is_within T.d_is_within ["thing", "least", "most"] (sp_is_within K) := by
  refine T.F_is_within.ok sc_is_within (fun vs H Q E h => ?_) (fun cdv A outer s H vs Q E hr h => ?_)
  · obtain ⟨v, d, l, m, rfl, _⟩ := h
    rfl
  · obtain ⟨v, d, l, m, rfl, hv, k⟩ := h
    refine ⟨_, (pss_one (ps_ret (pe_and (pe_call (ok_is_whole T) (hr.mono (by decide)) (by rfl) T.g_is_whole T.F_is_whole.kp T.b_is_whole .nil pass0 (pa_cons (pv 0) pa_nil)) (pe_one (pe_chain op_le op_le (pv 1) (pv 0) (pv 2)))))), ?_⟩
    cases hd : isI d with
    | false =>
      have e : inD l m d = false := by cases d <;> first | rfl | exact Bool.noConfusion hd
      rw [e] at k
      have wh := ev_call (E := E0) (ea_cons (ev_var (i := 0) (v := v) (σ := start n_is_within [v, .int l, .int m]) (H := H) rfl) ea_nil) (sv_wholeD (K := K) hv)
      rw [hd] at wh
      exact s_ret (ev_is (ev_andV (b := false) wh fun z => Bool.noConfusion z) rfl) fun H1 e1 => k _ e1
    | true =>
      cases d with
      | int i =>
        obtain rfl := hv.2.1 i rfl
        refine s_ret (v := .bl (inD l m (.int i))) (ev_is (by walk_at "ev") (by rfl)) fun H1 e1 => k _ e1
      | _ => exact Bool.noConfusion hd
local macro_rules | `(tactic| walk_at "call") => `(tactic| (with_reducible exact sv_between))
theorem ok_is_coming (T : Tx K mg) : FnOk P w K mg base CX0 3 T.f_is_coming T.d_is_coming ["thing"] (sp_anyC K) := by
  refine T.F_is_coming.ok sc_is_coming (fun vs H Q E h => ?_) (fun cdv A outer s H vs Q E hr h => ?_)
  · obtain ⟨v, o, rfl, _⟩ := h
    rfl
  · obtain ⟨v, o, rfl, hv, k⟩ := h
    refine ⟨_, (pss_cons (ps_if (PW.pt (pw_or (pt_cmpR (op_neTyO (hu_of hr)) (pe_typeOf3 (by rfl) T.m_type (pv 0)) (pe_bltn (v := .ty "list") (by rfl) T.m_list (by decide +kernel) rfl) (nomark _)) (pw_or1 (pt_not (pt_chain op_le op_le pe_int (pe_callB call_lenR (by rfl) T.m_len (by decide +kernel) (pa_cons (pv 0) pa_nil)) (pe_gc (by rfl) T.c_MOST_GUESTS)))))) (pss_one (ps_ret pe_bl)) pss_nil)
      (pss_one (ps_ret (pe_callB (cr_all rfl) (by rfl) T.m_all (by decide +kernel) (pa_cons (pe_lc (own := [("guest", 1), ("item", 2)]) (g := (gTup _ 2 (gCons (gName 1) (gCons (gName 2) gNil)))) (tt := tYes) rfl sc_is_coming.nd (pi_enum (by rfl) T.m_enumerate (pa_cons (pv 0) pa_nil)) (blkOk_by (own := [("guest", 1), ("item", 2)]) (N := n_is_coming) (sc := defScope s_is_coming) (by decide +kernel)) (fun _ _ _ _ _ => (pg_tup rfl (pgs_cons (pg_name (i := 1) sc_is_coming.nd rfl (Or.inl rfl)) (pgs_cons (pg_name (i := 2) sc_is_coming.nd rfl (Or.inl rfl)) pgs_nil)))) (fun _ _ _ _ _ => pts_nil) (fun _ _ _ _ _ => (pe_call (ok_is_within T) (hr.mono (by decide)) (by rfl) T.g_is_within T.F_is_within.kp T.b_is_within .nil pass0 (pa_cons (pv 2) (pa_cons pe_int (pa_cons (pv 1) pa_nil)))))) pa_nil))))), ?_⟩
    cases o with
    | none =>
      refine q_when (b := true) (et_is (et_or (b := false) (et_test (ev_noListO (ev_var rfl) hv)) fun z => Bool.noConfusion z) rfl) (fun _ H1 e1 => ?_) fun hb => Bool.noConfusion hb
      exact s_ret ev_c fun H2 e2 => k _ (e1.trans e2)
    | some ds =>
      have hv0 := hv
      cases hv with
      | @lst a xs _ ev ha hd =>
        subst ev
        have hl : xs.length = ds.length := hd.length
        refine q_when (b := !lenOk ds.length) (et_is (et_or (et_test (ev_noListO (ev_var rfl) hv0)) fun _ => et_not (et_test (ev_chainI ev_c (ev_len (ev_var rfl) (sq_of ha)) ev_c))) (by rw [hl]; rfl)) (fun hb H1 e1 => ?_) fun hb H1 e1 => ?_
        · have hb : lenOk ds.length = false := by simpa using hb
          have ej : judgeC (some ds) = false := by
            unfold judgeC
            simp only
            rw [hb]
            rfl
          rw [ej] at k
          exact s_ret ev_c fun H2 e2 => k _ (e1.trans e2)
        · have hb : lenOk ds.length = true := by simpa using hb
          have hn : 1 ≤ ds.length ∧ ds.length ≤ 20 := by
            unfold lenOk at hb
            simp at hb
            omega
          have h1 := e1 a _ ha
          have ej : judgeC (some ds) = ((List.range ds.length).map fun i : Nat => inD 0 (i : Int) (ds.getD i .none)).all id := by
            unfold judgeC
            simp only
            rw [hb, allIn_eq, Bool.true_and]
            congr 2
            funext i
            rw [Nat.zero_add]
          rw [ej] at k
          refine s_ret (ev_allN (K := K) ?_) fun H2 e2 => k _ (e1.trans e2)
          have g := el_en (K := K) (te := tCall (sp_is_within K) [] E0 (tCons (tVar 2) (tCons (tC (.int 0)) (tCons (tVar 1) tNil)))) (ta := tCons (tVar 0) tNil) (t := tYes) (i := 1) (j := 2) (vs := [1, 2]) (H := H1) (σ := start n_is_coming [.ref a]) (a := a) (xs := xs) (fun _ => true) (fun i : Nat => V.bl (inD 0 (i : Int) (ds.getD i .none))) (ea_cons (ev_var (i := 0) rfl) ea_nil) (sq_of h1) (by omega) (fun _ _ => rfl) (fun n x H2 e2 hx => et_yes) fun n x H2 e2 hx _ => ?_
          · have e : given xs.length (fun _ => true) (fun i : Nat => V.bl (inD 0 (i : Int) (ds.getD i .none))) = (((List.range ds.length).map fun i : Nat => inD 0 (i : Int) (ds.getD i .none))).map V.bl := by
              rw [given_at, hl, List.map_map]
              rfl
            rw [e] at g
            exact g
          · obtain ⟨d, hd1, hd2⟩ := paired_get hd hx
            have gd : ds.getD n .none = d := by rw [List.getD_eq_getElem?_getD, hd1] <;> rfl
            show Ev _ _ _ (V.bl (inD 0 (n : Int) (ds.getD n .none)))
            rw [gd]
            exact ev_call (ea_cons (ev_var rfl) (ea_cons ev_c (ea_cons (ev_var rfl) ea_nil))) (sv_within (hd2.ex (e1.trans e2)))
end
def sp_chkG (C : Addr) : Sp := fun vs H Q E => ∃ x m : Int, vs = [.int x, .int m] ∧ (0 ≤ m ∧ m ≤ 1000) ∧ Out (if 0 ≤ x ∧ x < m then none else some C) H Q E
theorem so_chkG {C : Addr} {m x : Int} {H : Hp} (h1 : 0 ≤ m ∧ m ≤ 1000) : SpO (sp_chkG C) ([.int x, .int m] ++ []) H (if 0 ≤ x ∧ x < m then none else some C) := fun H1 e Q E q => ⟨x, m, rfl, h1, q⟩
def sp_chkC (K : PySem.W.Frag) (C : Addr) : Sp := fun vs H Q E => ∃ (v : V) (o : Option (List PyData)), vs = [v] ∧ Bd K H v o ∧ Out (if judgeC o then none else some C) H Q E
theorem so_chkC {K : PySem.W.Frag} {C : Addr} {H : Hp} {v : V} {o : Option (List PyData)} (hv : Bd K H v o) : SpO (sp_chkC K C) ([v] ++ []) H (if judgeC o then none else some C) := fun H1 e Q E q => ⟨v, o, rfl, hv.ex e, q⟩
/-- what is judged true is a coming list -/
theorem inD_int {l m : Int} {d : PyData} (h : inD l m d = true) : ∃ i : Int, d = .int i ∧ l ≤ i ∧ i ≤ m := by
  cases d with
  | int i =>
    refine ⟨i, rfl, ?_⟩
    have h : (decide (l ≤ i) && decide (i ≤ m)) = true := h
    simpa using h
  | _ => exact Bool.noConfusion h
theorem allIn_get : ∀ {ds : List PyData} {k : Nat}, allIn k ds = true → ∃ c : List Nat, intsOf ds = iz c ∧ ∀ (i x : Nat), c[i]? = some x → x ≤ k + i
  | [], _, _ => ⟨[], rfl, fun i x h => by simp at h⟩
  | d :: r, k, h => by
    have h : (inD 0 (k : Int) d && allIn (k + 1) r) = true := h
    rw [Bool.and_eq_true] at h
    obtain ⟨c, e, b⟩ := allIn_get h.2
    obtain ⟨i, rfl, i0, i1⟩ := inD_int h.1
    refine ⟨i.toNat :: c, ?_, fun j x hj => ?_⟩
    · show i :: intsOf r = ((i.toNat : Nat) : Int) :: iz c
      rw [e, show ((i.toNat : Nat) : Int) = i by omega]
    · cases j with
      | zero =>
        have : i.toNat = x := Option.some.inj hj
        omega
      | succ j =>
        have := b j x hj
        omega
theorem judgeC_yes {K : PySem.W.Frag} {H : Hp} {v : V} {o : Option (List PyData)} (hv : Bd K H v o) (hj : judgeC o = true) : ∃ (a : Addr) (c : List Nat), v = .ref a ∧ H a = some (.lst (nv c)) ∧ Cm c ∧ o = some ((iz c).map PyData.int) := by
  cases hv with
  | @lst a xs ds ev ha hd =>
    subst ev
    unfold judgeC at hj
    simp only [Bool.and_eq_true] at hj
    obtain ⟨hl, hi⟩ := hj
    have ai := allIn_isI hi
    have ex := ints_of hd ai
    obtain ⟨c, e, b⟩ := allIn_get hi
    have il : (intsOf ds).length = ds.length := by simp [intsOf]
    have cl : c.length = ds.length := by
      rw [← il, e]
      simp [iz]
    have back : ∀ l : List PyData, l.all isI = true → l = (intsOf l).map PyData.int := by
      intro l
      induction l with
      | nil => intro _; rfl
      | cons d r ih =>
        intro h
        rw [List.all_cons, Bool.and_eq_true] at h
        have ih := ih h.2
        cases d with
        | int i =>
          show PyData.int i :: r = PyData.int i :: (intsOf r).map PyData.int
          rw [← ih]
        | _ => exact Bool.noConfusion h.1
    refine ⟨a, c, rfl, ?_, ⟨?_, ?_, fun i x hx => by have := b i x hx; omega⟩, ?_⟩
    · rw [ha, ex, e]
      rfl
    · unfold lenOk at hl
      simp at hl
      omega
    · unfold lenOk at hl
      simp at hl
      omega
    · rw [← e]
      congr 1
      exact back ds ai
  | ty n h m ne => exact Bool.noConfusion hj
  | dct e h => exact Bool.noConfusion hj
  | own e h t => exact Bool.noConfusion hj
section
variable {P : Program} {w : World} {K : PySem.W.Frag} {mg : Str → Option Value} {base : Heap}
local macro_rules | `(tactic| walk_at "call") => `(tactic| (with_reducible exact sv_between))
theorem ok_check_guests (T : Tx K mg) : FnOk P w K mg base (L2N.CX P w) 3 T.f_check_guests T.d_check_guests ["guests"] (sp_chk1 T.cl_InvalidGuests 1 20) := by
  refine Kit.okN T.F_check_guests sc_check_guests (fun vs H Q E h => ?_) (fun cdv A outer s H vs Q E hr h => ?_)
  · obtain ⟨x, rfl, _⟩ := h
    rfl
  · obtain ⟨x, rfl, k⟩ := h
    refine ⟨_, (pss_one (ps_if (pt_not (pt_val (pe_call (ok_is_within T) (hr.mono (by decide)) (by rfl) T.g_is_within T.F_is_within.kp T.b_is_within .nil pass0 (pa_cons (pv 0) (pa_cons pe_int (pa_cons (pe_gc (by rfl) T.c_MOST_GUESTS) pa_nil)))))) (pss_one (Kit.ps_raiseN rfl Kit.takesN T.e_InvalidGuests T.gc_InvalidGuests (by rfl) pe_str)) pss_nil)), ?_⟩
    refine s_when (by walk_at "et") (fun hb H1 e1 => ?_) fun hb H1 e1 => ?_
    · exact k.yes _ (if_neg fun z => by simp at hb; omega) _ e1
    · exact k.no (if_pos (by simpa using hb)) _ _ e1
theorem ok_check_weight (T : Tx K mg) : FnOk P w K mg base (L2N.CX P w) 3 T.f_check_weight T.d_check_weight ["weight"] (sp_chk1 T.cl_InvalidWeight 1 1000000000000) := by
  refine Kit.okN T.F_check_weight sc_check_weight (fun vs H Q E h => ?_) (fun cdv A outer s H vs Q E hr h => ?_)
  · obtain ⟨x, rfl, _⟩ := h
    rfl
  · obtain ⟨x, rfl, k⟩ := h
    refine ⟨_, (pss_one (ps_if (pt_not (pt_val (pe_call (ok_is_within T) (hr.mono (by decide)) (by rfl) T.g_is_within T.F_is_within.kp T.b_is_within .nil pass0 (pa_cons (pv 0) (pa_cons pe_int (pa_cons (pe_gc (by rfl) T.c_MOST_WEIGHT) pa_nil)))))) (pss_one (Kit.ps_raiseN rfl Kit.takesN T.e_InvalidWeight T.gc_InvalidWeight (by rfl) pe_str)) pss_nil)), ?_⟩
    refine s_when (by walk_at "et") (fun hb H1 e1 => ?_) fun hb H1 e1 => ?_
    · exact k.yes _ (if_neg fun z => by simp at hb; omega) _ e1
    · exact k.no (if_pos (by simpa using hb)) _ _ e1
theorem ok_check_guest (T : Tx K mg) : FnOk P w K mg base (L2N.CX P w) 3 T.f_check_guest T.d_check_guest ["guest", "guests"] (sp_chkG T.cl_InvalidGuest) := by
  refine Kit.okN T.F_check_guest sc_check_guest (fun vs H Q E h => ?_) (fun cdv A outer s H vs Q E hr h => ?_)
  · obtain ⟨x, m, rfl, _⟩ := h
    rfl
  · obtain ⟨x, m, rfl, h1, k⟩ := h
    have hm1 : (m - 1).natAbs < 2 ^ 1900 := Nat.lt_of_le_of_lt (m := 1000) (by omega) (by decide +kernel)
    refine ⟨_, (pss_one (ps_if (pt_not (pt_val (pe_call (ok_is_within T) (hr.mono (by decide)) (by rfl) T.g_is_within T.F_is_within.kp T.b_is_within .nil pass0 (pa_cons (pv 0) (pa_cons pe_int (pa_cons (pe_op op_sub (pv 1) pe_int) pa_nil)))))) (pss_one (Kit.ps_raiseN rfl Kit.takesN T.e_InvalidGuest T.gc_InvalidGuest (by rfl) (pe_joined (PJ.cons pe_str (PJ.cons (pe_fmt (pe_op op_sub (pv 1) pe_int)) PJ.nil))))) pss_nil)), ?_⟩
    refine s_when (by walk_at "et") (fun hb H1 e1 => ?_) fun hb H1 e1 => ?_
    · exact tjs_go (n := 2000) (σ := start n_check_guest [.int x, .int m]) (H := H1) (fun t ht => by
        simp only [List.mem_cons, List.not_mem_nil, or_false] at ht
        rcases ht with rfl | rfl
        · exact es_c (by decide +kernel)
        · exact fun H2 e2 Q q => es_fmt (i := m - 1) (ev_op (ev_var rfl) ev_c rv_I0) hm1 H2 e2 Q fun y H3 e3 hy => q y H3 e3 (by omega)) (Ex.refl _) (by decide) fun y H2 e2 => k.yes _ (if_neg fun z => by simp at hb; omega) _ (e1.trans e2)
    · exact k.no (if_pos (by simp at hb; omega)) _ _ e1
theorem ok_check_coming (T : Tx K mg) : FnOk P w K mg base (L2N.CX P w) 4 T.f_check_coming T.d_check_coming ["coming"] (sp_chkC K T.cl_InvalidComing) := by
  refine Kit.okN T.F_check_coming sc_check_coming (fun vs H Q E h => ?_) (fun cdv A outer s H vs Q E hr h => ?_)
  · obtain ⟨v, o, rfl, _⟩ := h
    rfl
  · obtain ⟨v, o, rfl, hv, k⟩ := h
    refine ⟨_, (pss_one (ps_if (pt_not (pt_val (pe_call (ok_is_coming T) (hr.mono (by decide)) (by rfl) T.g_is_coming T.F_is_coming.kp T.b_is_coming .nil pass0 (pa_cons (pv 0) pa_nil)))) (pss_one (Kit.ps_raiseN rfl Kit.takesN T.e_InvalidComing T.gc_InvalidComing (by rfl) pe_str)) pss_nil)), ?_⟩
    refine s_when (b := !judgeC o) (et_is (et_not (et_B (ev_call (ea_cons (ev_var rfl) ea_nil) (sv_anyC hv)))) rfl) (fun hb H1 e1 => ?_) fun hb H1 e1 => ?_
    · exact k.yes _ (if_neg (by simpa using hb)) _ e1
    · exact k.no (if_pos (by simpa using hb)) _ _ e1
theorem ok_check_seating (T : Tx K mg) : FnOk P w K mg base (L2N.CX P w) 4 T.f_check_seating T.d_check_seating ["seating"] (sp_chkS K T.cl_InvalidSeating) := by
  refine Kit.okN T.F_check_seating sc_check_seating (fun vs H Q E h => ?_) (fun cdv A outer s H vs Q E hr h => ?_)
  · obtain ⟨v, o, rfl, _⟩ := h
    rfl
  · obtain ⟨v, o, rfl, hv, k⟩ := h
    refine ⟨_, (pss_one (ps_if (pt_not (pt_val (pe_call (ok_is_seating T) (hr.mono (by decide)) (by rfl) T.g_is_seating T.F_is_seating.kp T.b_is_seating .nil pass0 (pa_cons (pv 0) pa_nil)))) (pss_one (Kit.ps_raiseN rfl Kit.takesN T.e_InvalidSeating T.gc_InvalidSeating (by rfl) pe_str)) pss_nil)), ?_⟩
    refine s_when (b := !judge o) (et_is (et_not (et_B (ev_call (ea_cons (ev_var rfl) ea_nil) (sv_any hv)))) rfl) (fun hb H1 e1 => ?_) fun hb H1 e1 => ?_
    · exact k.yes _ (if_neg (by simpa using hb)) _ e1
    · exact k.no (if_pos (by simpa using hb)) _ _ e1
end


local macro_rules | `(tactic| walk_at "call") => `(tactic| (with_reducible exact sv_whole))

def sp_seating_by : Sp := fun vs H Q _ => ∃ (a : Addr) (c : List Nat), vs = [.ref a] ∧ H a = some (.lst (nv c)) ∧ Cm c ∧ RetL (nv (sby c c.length)) H Q
theorem sl_seating_by {H : Hp} {a : Addr} {c : List Nat} (ha : H a = some (.lst (nv c))) (o : Cm c) : SpL sp_seating_by ([.ref a] ++ []) H (nv (sby c c.length)) := fun H1 e Q q E => ⟨a, c, rfl, e a _ ha, o, q⟩
def sp_coming_of : Sp := fun vs H Q _ => ∃ (a : Addr) (c : List Nat), vs = [.ref a] ∧ H a = some (.lst (nv (sby c c.length))) ∧ Cm c ∧ RetL (nv c) H Q
theorem sl_coming_of {H : Hp} {a : Addr} {c : List Nat} (ha : H a = some (.lst (nv (sby c c.length)))) (o : Cm c) : SpL sp_coming_of ([.ref a] ++ []) H (nv c) := fun H1 e Q q E => ⟨a, c, rfl, e a _ ha, o, q⟩
def opens (c : List Nat) : List Nat := (List.range c.length).filter fun i => decide (c.getD i 0 = i)
theorem Cm.take {c : List Nat} (o : Cm c) {w : Nat} (h1 : 1 ≤ w) (h2 : w ≤ c.length) : Cm (c.take w) := by
  have l : (c.take w).length = w := by rw [List.length_take]; omega
  have o2 := o.2.1
  refine ⟨by omega, by omega, fun i x h => ?_⟩
  rw [List.getElem?_take] at h
  by_cases q : i < w
  · rw [if_pos q] at h
    exact o.2.2 i x h
  · rw [if_neg q] at h
    cases h
theorem cut_to {f : List Nat} {hi : Nat} (h : hi ≤ f.length) : cutV (nv f) none (some (hi : Int)) = nv (f.take hi) := by
  unfold cutV
  rw [HT.sIx_none, HT.sIx_nat, nv_len, Nat.min_eq_left h, Nat.sub_zero, List.drop_zero, nv_eq, nv_eq, List.map_take]
theorem last_some {xs : List V} {i : Nat} (h : xs.length = i + 1) : xs[xs.length - 1]? = some (xs.getD i .non) := by
  rw [h, show i + 1 - 1 = i by omega, List.getD_eq_getElem?_getD, List.getElem?_eq_getElem (by omega)]
  rfl
theorem idx_first {l : List Nat} {k x : Nat} (h1 : l[x]? = some k) (h2 : ∀ m, m < x → l[m]? ≠ some k) : l.idxOf k = x := by
  have hm := List.mem_of_getElem? h1
  have hl := List.idxOf_lt_length_of_mem hm
  have h3 : l[l.idxOf k]? = some k := by rw [List.getElem?_eq_getElem hl, List.getElem_idxOf hl]
  have le : l.idxOf k ≤ x := by
    rcases Nat.lt_or_ge x (l.idxOf k) with q | q
    · have := List.not_of_lt_findIdx (p := (· == k)) (xs := l) (i := x) (by simpa [List.idxOf] using q)
      have xl := (List.getElem?_eq_some_iff.mp h1).1
      have ex := (List.getElem?_eq_some_iff.mp h1).2
      simp [ex] at this
    · exact q
  rcases Nat.lt_or_eq_of_le le with q | q
  · exact absurd h3 (h2 _ q)
  · exact q
section
variable {K : PySem.W.Frag} {σ : L2.St} {H : Hp} {ta te tl : TE} {D : Ends} {tz : TS}
theorem s_pop0 {l : Addr} {xs : List V} {y : V} (hl : H l = some (.lst xs)) (hy : xs[xs.length - 1]? = some y) (ha : Ev ta σ H (.ref l)) (k : ∀ H1, Ex H H1 → D.nx σ (upd H1 l (.lst xs.dropLast))) : tDrop (tBM0 K "list" rPop ta) D σ H :=
  ha H (Ex.refl H) _ fun H1 e1 => ⟨Or.inl ⟨rfl, xs, sq_of (e1 l _ hl)⟩, ⟨l, xs, y, rfl, rfl, e1 l _ hl, hy, k H1 e1⟩⟩
/-- [e for x in a new list of tuples] -/
theorem el_mapLT {j : Nat} {vs : List Nat} {rs : List (List V)} (f : List V → V) (h : EvLT tl σ H rs) (hz : rs.length ≤ 40000) (hw : ∀ x, wipe ((wipe σ vs).set j (some x)) vs = wipe σ vs)
    (he : ∀ (b : Addr) (r : List V) H1, Ex H H1 → H1 b = some (.tup r) → r ∈ rs → Ev te ((wipe σ vs).set j (some (.ref b))) H1 (f r)) : EvL (tLc (iList K tl) (gName j) tYes te vs) σ H (rs.map f) := fun H0 e Q q =>
  h H0 e _ fun p ws H1 np e1 hp t => by
    have tl1 := t.len
    have g := el_mapI (K := K) (te := te) (tl := fun _ H' Q => Q (.ref p) H') (σ := σ) (H := H1) (a := p) (xs := ws) (j := j) (vs := vs) (fun i => f (rs.getD i [])) (fun H2 _ Q q => q H2 (Ex.refl _)) (sq_of hp) (by omega) hw fun i x H2 e2 hx => by
      obtain ⟨b, r, rfl, hb, hr⟩ := t.get hx
      have er : rs.getD i [] = r := by
        rw [List.getD_eq_getElem?_getD, hr]
        rfl
      rw [er]
      exact he b r H2 (e.trans (e1.trans e2)) (e2 b _ hb) (List.mem_of_getElem? hr)
    have em : (List.range ws.length).map (fun i => f (rs.getD i [])) = rs.map f := by
      rw [tl1]
      conv => rhs; rw [range_get rs []]
      rw [List.map_map]
      rfl
    rw [em] at g
    exact g H1 (Ex.refl _) Q fun r H2 nr e2 hr => q r H2 (fresh_back e1 nr) (e1.trans e2) hr
end
section
variable {P : Program} {w : World} {K : PySem.W.Frag} {mg : Str → Option Value} {base : Heap}
theorem ok_seating_by (T : Tx K mg) : FnOk P w K mg base (L2N.CX P w) 5 T.f_seating_by T.d_seating_by ["coming"] (SpJ K judgeC T.cl_InvalidComing sp_seating_by) := by
  refine Kit.okN T.F_seating_by sc_seating_by (fun vs H Q E h => ?_) (fun cdv A outer s H vs Q E hr h => ?_)
  · obtain ⟨v, oo, rfl, _⟩ := h
    rfl
  · obtain ⟨v, oo, rfl, hv, kE, kV⟩ := h
    refine ⟨_, (pss_cons (ps_expr (pe_call (ok_check_coming T) (hr.mono (by decide)) (by rfl) T.g_check_coming T.F_check_coming.kp T.b_check_coming .nil Kit.passN (pa_cons (pv 0) pa_nil)))
      (PSs.nox (pss_cons (ps_set (i := 1) sc_seating_by.nd rfl (Or.inl rfl) (pe_lst pa_nil))
      (pss_cons (ps_for PassesOwn.never rfl (pi_enum (by rfl) T.m_enumerate (pa_cons (pv 0) pa_nil)) (pg_tup rfl (pgs_cons (pg_name (i := 2) sc_seating_by.nd rfl (Or.inl rfl)) (pgs_cons (pg_name (i := 3) sc_seating_by.nd rfl (Or.inl rfl)) pgs_nil))) (pss_cons (ps_expr (pe_bm PySem.F.plainAttrs_list PySem.F.slot_list_append PySem.F.type_list_append mt_append (pv 1) (pa_cons (pv 2) pa_nil)))
      (pss_one (ps_if (pt_cmpR op_ne (pv 3) (pv 2) (nomark _)) (pss_cons (ps_asg (pe_ix ix_list (pv 1) (pv 3) (fun _ _ => rfl)) (pg_sub (pv 1) (pv 2) set_list))
      (pss_one (ps_asg (pv 2) (pg_sub (pv 1) (pv 3) set_list)))) pss_nil))))
      (pss_one (ps_ret (pv 1))))))), ?_⟩
    refine q_chk (ea_cons (ev_var rfl) ea_nil) (so_chkC hv) (fun hn H1 e1 => ?_) fun C hC H1 e1 => ?_
    · obtain ⟨a, c, eqv, ha, o, k⟩ := kV (due_no hn)
      cases eqv
      have o2 := o.2.1
      refine q_asgL (xs := []) (el_lst ea_nil (Nat.le_of_ble_eq_true rfl)) fun p H2 hp e2 hp2 => ?_
      have np : H p = none := fresh_back e1 hp
      have ha2 := e2 a _ (e1 a _ ha)
      have lc := nv_len c
      refine q_forEn (ea_cons (ev_var rfl) ea_nil) (sq_of ha2) (fun i σ' H' => ∃ y z, σ' = [some (.ref a), some (.ref p), y, z] ∧ Ex H H' ∧ H' p = some (.lst (nv (sby c i)))) (fun H3 e3 => ⟨none, none, rfl, e1.trans (e2.trans e3), e3 p _ hp2⟩) (fun n σ' H' _ ⟨y, z, _, e, _⟩ => sq_of (e a _ ha)) ?_ ?_
      · rintro i x σ' H' H3 hx ⟨y, z, rfl, e, hl⟩ e3
        rw [nv_eq, List.getElem?_map] at hx
        obtain ⟨q, hq, rfl⟩ := Option.map_eq_some_iff.mp hx
        have hqi := o.2.2 i q hq
        have ci : c.getD i 0 = q := getD_of hq
        have il := (List.getElem?_eq_some_iff.mp hq).1
        have hl3 := e3 p _ hl
        have sl := sby_len c i
        refine q_app (xs := nv (sby c i)) hl3 (ev_var rfl) (ev_var rfl) (by rw [nv_len]; omega) fun H4 e4 => ?_
        have es : nv (sby c i) ++ [V.int (i : Int)] = nv (sby c i ++ [i]) := by rw [nv_app]; rfl
        rw [es]
        have eX : Ex H (upd H4 p (.lst (nv (sby c i ++ [i])))) := Ex.mut (e.trans (e3.trans e4)) np
        refine s_when (b := decide (q ≠ i)) (et_is (et_test (ev_op (ev_var rfl) (ev_var rfl) (rv_ne rfl))) ?_) (fun hb H5 e5 => ?_) fun hb H5 e5 => ?_
        · rw [Bool.eq_iff_iff]
          simp only [Bool.not_eq_true', decide_eq_false_iff_not, decide_eq_true_eq]
          constructor
          · intro h1 h2
            exact h1 (by rw [h2])
          · intro h1 h2
            exact h1 (by have := V.int.inj h2; omega)
        · have nq := of_decide_eq_true hb
          have ql : q < i := by omega
          have h5 := e5 p _ upd_same
          have at1 : (sby c i ++ [i])[q]? = some ((sby c i).getD q 0) := by
            rw [List.getElem?_append_left (by omega), List.getD_eq_getElem?_getD, List.getElem?_eq_getElem (by omega)]
            rfl
          refine q_setL (j := i) h5 (ev_op (ev_var rfl) (ev_var rfl) (rv_ixL (K := K) (sq_of h5) (atI_nat (nv_get at1)))) (ev_var rfl) (ev_var rfl) (by rw [nv_len]; simp; omega) fun H6 e6 => ?_
          have es2 : (nv (sby c i ++ [i])).set i (V.int (((sby c i).getD q 0 : Nat) : Int)) = nv ((sby c i ++ [i]).set i ((sby c i).getD q 0)) := by rw [nv_eq, nv_eq, List.map_set]
          rw [es2]
          refine s_setL (j := q) upd_same (ev_var rfl) (ev_var rfl) (ev_var rfl) (by rw [nv_len]; simp; omega) fun H7 e7 => ?_
          have es3 : (nv ((sby c i ++ [i]).set i ((sby c i).getD q 0))).set q (V.int (i : Int)) = nv (sby c (i + 1)) := by
            rw [nv_eq, nv_eq, ← List.map_set]
            congr 1
            show _ = sits (sby c i) i (c.getD i 0)
            unfold sits
            rw [ci, if_neg nq]
          rw [es3]
          exact ⟨_, _, rfl, Ex.mut ((Ex.mut (eX.trans (e5.trans e6)) np).trans e7) np, upd_same⟩
        · have eq : q = i := by simpa using hb
          refine ⟨_, _, rfl, eX.trans e5, ?_⟩
          have h5 := e5 p _ (upd_same (H := H4) (a := p) (o := .lst (nv (sby c i ++ [i]))))
          rw [h5]
          congr 2
          show _ = nv (sits (sby c i) i (c.getD i 0))
          unfold sits
          rw [ci, if_pos eq]
      · rintro σ' H' ⟨y, z, rfl, e, hl⟩
        rw [lc] at hl
        exact s_ret (ev_var rfl) fun H3 e3 => k p H3 np (e.trans e3) (e3 p _ hl)
    · obtain ⟨hj, rfl⟩ := due_yes hC
      exact kE (by simpa using hj) _ e1
theorem ok_coming_of (T : Tx K mg) : FnOk P w K mg base (L2N.CX P w) 5 T.f_coming_of T.d_coming_of ["seating"] (SpJ K judge T.cl_InvalidSeating sp_coming_of) := by
  refine Kit.okN T.F_coming_of sc_coming_of (fun vs H Q E h => ?_) (fun cdv A outer s H vs Q E hr h => ?_)
  · obtain ⟨v, oo, rfl, _⟩ := h
    rfl
  · obtain ⟨v, oo, rfl, hv, kE, kV⟩ := h
    refine ⟨_, (pss_cons (ps_expr (pe_call (ok_check_seating T) (hr.mono (by decide)) (by rfl) T.g_check_seating T.F_check_seating.kp T.b_check_seating .nil Kit.passN (pa_cons (pv 0) pa_nil)))
      (PSs.nox (pss_cons (ps_set (i := 1) sc_coming_of.nd rfl (Or.inl rfl) (pe_callTy call_listR (by rfl) T.m_list (by decide +kernel) (pa_cons (pv 0) pa_nil)))
      (pss_cons (ps_set (i := 2) sc_coming_of.nd rfl (Or.inl rfl) (pe_lst pa_nil))
      (pss_cons (ps_while PassesOwn.never (pt_truth (pv 1) (by intro _; rfl)) (pss_cons (ps_set (i := 3) sc_coming_of.nd rfl (Or.inl rfl) (pe_bm PySem.F.plainAttrs_list PySem.F.slot_list_index PySem.F.type_list_index mt_index (pv 1) (pa_cons (pe_op op_sub (pe_callB call_lenR (by rfl) T.m_len (by decide +kernel) (pa_cons (pv 1) pa_nil)) pe_int) pa_nil)))
      (pss_cons (ps_expr (pe_bm PySem.F.plainAttrs_list PySem.F.slot_list_append PySem.F.type_list_append mt_append (pv 2) (pa_cons (pv 3) pa_nil)))
      (pss_cons (ps_asg (pe_ix ix_list (pv 1) (pe_un un_neg pe_int) (fun _ _ => rfl)) (pg_sub (pv 1) (pv 3) set_list))
      (pss_one (ps_expr (pe_bm0 PySem.F.plainAttrs_list PySem.F.slot_list_pop PySem.F.type_list_pop mt_pop (pv 1))))))))
      (pss_one (ps_ret (pe_revL (pv 2))))))))), ?_⟩
    refine q_chk (ea_cons (ev_var rfl) ea_nil) (so_chkS hv) (fun hn H1 e1 => ?_) fun C hC H1 e1 => ?_
    · obtain ⟨a, c, eqv, ha, o, k⟩ := kV (due_no hn)
      cases eqv
      have oo := o.ord
      have o2 := o.2.1
      have sl := sby_len c c.length
      have ha1 := e1 a _ ha
      refine q_asgL (xs := nv (sby c c.length)) (el_list (ev_var rfl) (sq_of ha1)) fun b H2 nb e2 hb => ?_
      refine q_asgL (xs := []) (el_lst ea_nil (Nat.le_of_ble_eq_true rfl)) fun p H3 np e3 hp => ?_
      have fb : H b = none := fresh_back e1 nb
      have fp : H p = none := fresh_back (e1.trans e2) np
      have pb : p ≠ b := fun z => by
        subst z
        rw [hb] at np
        cases np
      refine q_while (fun m σ' H' => ∃ (i : Nat) (y : Option V), σ' = [some (.ref a), some (.ref b), some (.ref p), y] ∧ Ex H H' ∧ H' b = some (.lst (nv (sby c i))) ∧ H' p = some (.lst (nv (c.drop i).reverse)) ∧ i ≤ c.length ∧ m = i) c.length ⟨c.length, none, rfl, e1.trans (e2.trans e3), e3 b _ hb, by rw [hp, List.drop_length]; rfl, Nat.le_refl _, rfl⟩ ?_
      rintro m σ' H' ⟨i, y, rfl, e, hb', hp', hi, hm⟩
      subst hm
      have si := sby_len c m
      have lb := nv_len (sby c m)
      refine ⟨decide (m ≠ 0), et_is (et_tru (K := K) (ev_var rfl) (sq_of hb')) ?_, fun hz H4 e4 => ?_, fun hz H4 e4 => ?_⟩
      · have : (nv (sby c m)).length = m := by rw [lb, si]
        cases hq : nv (sby c m) with
        | nil =>
          rw [hq] at this
          have : m = 0 := this.symm
          subst this
          rfl
        | cons x l =>
          rw [hq] at this
          have : m ≠ 0 := by
            have : l.length + 1 = m := this
            omega
          rw [decide_eq_true this]
          rfl
      · have hz := of_decide_eq_true hz
        obtain ⟨i, rfl⟩ : ∃ i, m = i + 1 := ⟨m - 1, by omega⟩
        have ci := o.get i
        have hlt : ∀ y ∈ sby c i, y < i := fun y hy => sby_lt o.2.2 (by omega) hy
        obtain ⟨t1, t2, t3⟩ := sits_last (sby_len c i) hlt ci
        have es : sby c (i + 1) = sits (sby c i) i (c.getD i 0) := rfl
        rw [← es] at t1 t2 t3
        have hb4 := e4 b _ hb'
        have hp4 := e4 p _ hp'
        have ix := idx_first t1 t2
        have xl := (List.getElem?_eq_some_iff.mp t1).1
        have iv := ev_index (K := K) (ta := tVar 1) (te := tOp (rI0 fun i j => .int (i - j)) (tCB (rLenS K) (tCons (tVar 1) tNil)) (tC (.int 1))) (σ := [some (.ref a), some (.ref b), some (.ref p), y]) (x := i) hb4 (ev_var (i := 1) rfl) (ev_is (ev_op (ev_len (ev_var (i := 1) (v := .ref b) rfl) (sq_of hb4)) ev_c rv_I0) (by rw [lb, si]; congr 1; omega)) (List.mem_of_getElem? t1)
        rw [ix] at iv
        refine ⟨fun σ2 H8 => σ2 = [some (.ref a), some (.ref b), some (.ref p), some (.int ((c.getD i 0 : Nat) : Int))] ∧ Ex H H8 ∧ H8 b = some (.lst (nv (sby c i))) ∧ H8 p = some (.lst (nv (c.drop i).reverse)), fun σ2 H8 ⟨h1, h2, h3, h4⟩ => ⟨i, by omega, i, _, h1, h2, h3, h4, by omega, rfl⟩, ?_⟩
        refine q_asg iv fun H5 e5 => ?_
        have hb5 := e5 b _ hb4
        have hp5 := e5 p _ hp4
        refine q_app (xs := nv (c.drop (i + 1)).reverse) hp5 (ev_var rfl) (ev_var rfl) (by rw [nv_len]; simp; omega) fun H6 e6 => ?_
        have ep : nv (c.drop (i + 1)).reverse ++ [V.int ((c.getD i 0 : Nat) : Int)] = nv (c.drop i).reverse := by
          have hci : c[i]? = some (c.getD i 0) := by
            rw [List.getD_eq_getElem?_getD, List.getElem?_eq_getElem (by omega)]
            rfl
          obtain ⟨hk, hv⟩ := List.getElem?_eq_some_iff.mp hci
          rw [List.drop_eq_getElem_cons hk, List.reverse_cons, nv_app, hv]
          rfl
        rw [ep]
        have hb6 : (upd H6 p (.lst (nv (c.drop i).reverse))) b = some (.lst (nv (sby c (i + 1)))) := by
          rw [upd_ne (Ne.symm pb)]
          exact e6 b _ hb5
        have eX : Ex H (upd H6 p (.lst (nv (c.drop i).reverse))) := Ex.mut (e.trans (e4.trans (e5.trans e6))) fp
        have lastv : atI (nv (sby c (i + 1))) (-1) = some (.int (((sby c (i + 1)).getD i 0 : Nat) : Int)) := by
          have ne : sby c (i + 1) ≠ [] := fun z => by
            rw [z] at si
            simp at si
          obtain ⟨r, x, hr⟩ : ∃ r x, sby c (i + 1) = r ++ [x] := ⟨_, _, (List.dropLast_concat_getLast ne).symm⟩
          have rl : r.length = i := by
            rw [hr] at si
            simp at si
            exact si
          rw [hr, nv_app]
          have : (r ++ [x]).getD i 0 = x := getD_of (by rw [List.getElem?_append_right (by omega), rl, Nat.sub_self]; rfl)
          rw [this]
          exact atI_last _ _
        refine q_setL (j := c.getD i 0) hb6 (ev_op (ev_var rfl) (ev_un ev_c ru_neg) (rv_ixL (K := K) (sq_of hb6) lastv)) (ev_var rfl) (ev_var rfl) (by rw [lb]; exact xl) fun H7 e7 => ?_
        have es2 : (nv (sby c (i + 1))).set (c.getD i 0) (V.int (((sby c (i + 1)).getD i 0 : Nat) : Int)) = nv ((sby c (i + 1)).set (c.getD i 0) ((sby c (i + 1)).getD i 0)) := by rw [nv_eq, nv_eq, List.map_set]
        rw [es2]
        have l7 : (nv ((sby c (i + 1)).set (c.getD i 0) ((sby c (i + 1)).getD i 0))).length = i + 1 := by rw [nv_len, List.length_set, si]
        refine s_pop0 (xs := nv ((sby c (i + 1)).set (c.getD i 0) ((sby c (i + 1)).getD i 0))) (y := (nv ((sby c (i + 1)).set (c.getD i 0) ((sby c (i + 1)).getD i 0))).getD i .non) upd_same ?_ (ev_var rfl) fun H8 e8 => ⟨rfl, ?_, ?_, ?_⟩
        · exact last_some l7
        · exact Ex.mut ((Ex.mut (eX.trans e7) fb).trans e8) fb
        · rw [upd_same]
          congr 2
          rw [nv_eq, ← List.map_dropLast, t3, ← nv_eq]
        · rw [upd_ne pb]
          refine e8 p _ ?_
          rw [upd_ne pb]
          exact e7 p _ upd_same
      · have hz : m = 0 := by simpa using hz
        subst hz
        have hp4 := e4 p _ hp'
        refine s_retL (el_rev (K := K) (ev_var rfl) (sq_of hp4)) fun q H5 nq e5 h5 => k q H5 (fresh_back (e.trans e4) nq) (e.trans (e4.trans e5)) ?_
        rw [h5, nv_eq, ← List.map_reverse, List.reverse_reverse, List.drop_zero, nv_eq]
    · obtain ⟨hj, rfl⟩ := due_yes hC
      exact kE (by simpa using hj) _ e1
end


local macro_rules | `(tactic| walk_at "call") => `(tactic| (with_reducible exact sv_whole))

/-! ### guests who leave -/
def dn (k y : Nat) : Nat := if y > k then y - 1 else y
def wo (h : List Nat) (k : Nat) : List Nat := ((h.set (h.idxOf k) (h.getD k 0)).eraseIdx k).map (dn k)
/-- who has come last leaves -/
theorem wo_sits {h : List Nat} {n m : Nat} (hl : h.length = n) (hlt : ∀ y ∈ h, y < n) (hm : m ≤ n) : wo (sits h n m) n = h := by
  obtain ⟨t1, t2, t3⟩ := sits_last hl hlt hm
  unfold wo
  rw [idx_first t1 t2]
  have sl : ((sits h n m).set m ((sits h n m).getD n 0)).length = n + 1 := by rw [List.length_set, sits_len, hl]
  have e : ((sits h n m).set m ((sits h n m).getD n 0)).eraseIdx n = h := by
    refine Eq.trans ?_ t3
    rw [List.eraseIdx_eq_take_drop_succ, List.drop_of_length_le (by omega), List.append_nil, List.dropLast_eq_take, sl]
    rfl
  rw [e]
  conv => rhs; rw [← List.map_id h]
  refine List.map_congr_left fun y hy => ?_
  have := hlt y hy
  unfold dn
  rw [if_neg (by omega)]
  rfl

theorem wo_len {h : List Nat} {k : Nat} (kl : k < h.length) : (wo h k).length = h.length - 1 := by
  unfold wo
  rw [List.length_map, List.length_eraseIdx_of_lt (by rw [List.length_set]; exact kl), List.length_set]

/-! ### who is left is a seating again -/
theorem erase_perm {L : List Nat} {j : Nat} (hj : j < L.length) : (L[j] :: L.eraseIdx j).Perm L := by
  have e2 : L.take j ++ L[j] :: L.drop (j + 1) = L := by rw [← List.drop_eq_getElem_cons hj, List.take_append_drop]
  rw [List.eraseIdx_eq_take_drop_succ]
  exact List.perm_middle.symm.trans (List.Perm.of_eq e2)
theorem set_perm : ∀ (l : List Nat) (i y : Nat) (hi : i < l.length), (l[i] :: l.set i y).Perm (y :: l)
  | x :: l, 0, y, _ => List.Perm.swap y x l
  | x :: l, i + 1, y, hi => by
    have hi' : i < l.length := by simpa using hi
    have ih := set_perm l i y hi'
    show (l[i] :: x :: l.set i y).Perm (y :: x :: l)
    exact (List.Perm.swap x l[i] _).trans ((ih.cons x).trans (List.Perm.swap y x l))
theorem dn_range (k : Nat) : ∀ n, k < n → ((List.range n).filter fun x => decide (x ≠ k)).map (dn k) = List.range (n - 1)
  | 0, h => by omega
  | n + 1, h => by
    rw [List.range_succ, List.filter_append, List.map_append]
    by_cases z : k = n
    · subst z
      rw [List.filter_eq_self.mpr fun x hx => decide_eq_true (by have := List.mem_range.mp hx; omega), List.filter_cons, if_neg (by simp)]
      show (List.range k).map (dn k) ++ [] = List.range (k + 1 - 1)
      rw [List.append_nil, show k + 1 - 1 = k by omega]
      conv => rhs; rw [← List.map_id (List.range k)]
      refine List.map_congr_left fun x hx => ?_
      have := List.mem_range.mp hx
      unfold dn
      rw [if_neg (by omega)]
      rfl
    · rw [dn_range k n (by omega), List.filter_cons, if_pos (decide_eq_true (Ne.symm z))]
      show List.range (n - 1) ++ [dn k n] = List.range (n + 1 - 1)
      have : dn k n = n - 1 := by
        unfold dn
        rw [if_pos (by omega)]
      rw [this, show n + 1 - 1 = (n - 1) + 1 by omega, List.range_succ]
theorem wo_ord {h : List Nat} {k : Nat} (o : Ord h) (h2 : 2 ≤ h.length) (kl : k < h.length) : Ord (wo h k) := by
  have nd : h.Nodup := o.1.nodup_iff.mpr List.nodup_range
  have km : k ∈ h := o.1.mem_iff.mpr (List.mem_range.mpr kl)
  have il := List.idxOf_lt_length_of_mem km
  have gk : h.getD k 0 = h[k] := by
    rw [List.getD_eq_getElem?_getD, List.getElem?_eq_getElem kl]
    rfl
  have E : (k :: (h.set (h.idxOf k) (h.getD k 0)).eraseIdx k).Perm h := by
    have p1 := set_perm h (h.idxOf k) (h.getD k 0) il
    rw [List.getElem_idxOf il] at p1
    have sl : k < (h.set (h.idxOf k) (h.getD k 0)).length := by rw [List.length_set]; exact kl
    have p2 := erase_perm sl
    have at_k : (h.set (h.idxOf k) (h.getD k 0))[k] = h.getD k 0 := by
      rw [List.getElem_set]
      split
      · rfl
      · exact gk.symm
    rw [at_k] at p2
    have p3 := (p2.cons k).trans p1
    exact (List.perm_cons (h.getD k 0)).mp ((List.Perm.swap k (h.getD k 0) _).trans p3)
  have len : ((h.set (h.idxOf k) (h.getD k 0)).eraseIdx k).length = h.length - 1 := by
    have := E.length_eq
    rw [List.length_cons] at this
    omega
  have nk : k ∉ (h.set (h.idxOf k) (h.getD k 0)).eraseIdx k := (List.nodup_cons.mp (E.nodup_iff.mpr nd)).1
  have F : ((h.set (h.idxOf k) (h.getD k 0)).eraseIdx k).Perm ((List.range h.length).filter fun x => decide (x ≠ k)) := by
    have := (E.trans o.1).filter fun x => decide (x ≠ k)
    have ef : ((h.set (h.idxOf k) (h.getD k 0)).eraseIdx k).filter (fun x => decide (x ≠ k)) = (h.set (h.idxOf k) (h.getD k 0)).eraseIdx k := List.filter_eq_self.mpr fun x hx => by
      rw [decide_eq_true_iff]
      intro z
      rw [z] at hx
      exact nk hx
    rw [List.filter_cons, if_neg (by simp), ef] at this
    exact this
  have G := F.map (dn k)
  rw [dn_range k h.length kl] at G
  have wl := wo_len (h := h) kl
  refine ⟨?_, by omega, by have := o.2.2; omega⟩
  rw [wl]
  exact G

/-! ### leaving, with what it raises -/
def cd (a b : Int) : Int := ((Nat.gcd a.natAbs b.natAbs : Nat) : Int)
theorem cd_pos {a b : Int} (h : 0 < b) : 0 < cd a b := by
  unfold cd
  have := Nat.gcd_pos_of_pos_right a.natAbs (show 0 < b.natAbs by omega)
  omega
theorem cd_le {a b : Int} (h : 0 < b) : cd a b ≤ b := by
  unfold cd
  have := Nat.le_of_dvd (show 0 < b.natAbs by omega) (Nat.gcd_dvd_right a.natAbs b.natAbs)
  omega
theorem cd_dvd1 {a b : Int} : cd a b ∣ a := Int.ofNat_dvd_left.mpr (Nat.gcd_dvd_left a.natAbs b.natAbs)
theorem cd_dvd2 {a b : Int} : cd a b ∣ b := Int.ofNat_dvd_left.mpr (Nat.gcd_dvd_right a.natAbs b.natAbs)
def sp_fraction : Sp := fun vs H Q _ => ∃ a b : Int, vs = [.int a, .int b] ∧ 0 < b ∧ b.natAbs < 2 ^ 8000 ∧ RetU [.int (a / cd a b), .int (b / cd a b)] H Q
theorem su_fraction {H : Hp} {a b : Int} (h0 : 0 < b) (h1 : b.natAbs < 2 ^ 8000) : SpU sp_fraction ([.int a, .int b] ++ []) H [.int (a / cd a b), .int (b / cd a b)] := fun H1 _ Q q E => ⟨a, b, rfl, h0, h1, q⟩
/-! ### leaving -/
theorem nv_set (l : List Nat) (i x : Nat) : (nv l).set i (.int (x : Int)) = nv (l.set i x) := by rw [nv_eq, nv_eq, List.map_set]
theorem nv_erase (L : List Nat) (k : Nat) : (nv L).eraseIdx k = nv (L.eraseIdx k) := by
  rw [nv_eq, nv_eq, List.eraseIdx_eq_take_drop_succ, List.eraseIdx_eq_take_drop_succ, List.map_append, List.map_take, List.map_drop]
theorem seq_at {j n : Nat} (h : j < n) : seqIndex? (j : Int) n = some j := by
  unfold seqIndex?
  have h1 : ¬ ((j : Int) < 0) := by omega
  have h2 : (0 : Int) ≤ j := by omega
  have h3 : (j : Int) < n := by omega
  simp [h1, h2, h3]
theorem nv_at {l : List Nat} {i : Nat} (h : i < l.length) : (nv l)[i]? = some (.int ((l.getD i 0 : Nat) : Int)) := nv_get (by
  rw [List.getD_eq_getElem?_getD, List.getElem?_eq_getElem h]
  rfl)
section
variable {K : PySem.W.Frag} {σ : L2.St} {H : Hp} {ta te tb tc : TE} {D : Ends} {tz : TS}
theorem q_popAt {l : Addr} {xs : List V} {j : Nat} (hl : H l = some (.lst xs)) (ha : Ev ta σ H (.ref l)) (he : Ev te σ H (.int (j : Int))) (hj : j < xs.length) (h63 : j < 1000) (k : ∀ H1, Ex H H1 → tz D σ (upd H1 l (.lst (xs.eraseIdx j)))) : tSeq (tDrop (tBM K "list" rPopAt ta (tCons te tNil))) tz D σ H :=
  ha H (Ex.refl H) _ fun H1 e1 => ⟨Or.inl ⟨rfl, xs, sq_of (e1 l _ hl)⟩, he H1 e1 _ fun H2 e2 => ⟨l, xs, (j : Int), j, xs[j], rfl, rfl, e2 l _ (e1 l _ hl), by omega, by omega, seq_at hj, List.getElem?_eq_getElem hj, k H2 (e1.trans e2)⟩⟩
/-- a call whose first argument is a new list -/
theorem el_callN1 {sp : Sp} {E : XK} {xs ys : List V} {y : V} (h : EvL ta σ H xs) (hb : ∀ H1, Ex H H1 → Ev tb σ H1 y) (hs : ∀ p H1, Ex H H1 → H1 p = some (.lst xs) → SpL sp ([.ref p, y] ++ []) H1 ys) : EvL (tCall sp [] E (tCons ta (tCons tb tNil))) σ H ys := fun H1 e Q q =>
  h H1 e _ fun p H2 np e2 hp => hb H2 (e.trans e2) H2 (Ex.refl _) _ fun H3 e3 => hs p H3 (e.trans (e2.trans e3)) (e3 p _ hp) H3 (Ex.refl _) Q (fun l H4 nl e4 hl => q l H4 (fresh_back (e2.trans e3) nl) (e2.trans (e3.trans e4)) hl) E
theorem el_callN {sp : Sp} {E : XK} {xs ys : List V} (h : EvL ta σ H xs) (hs : ∀ p H1, Ex H H1 → H1 p = some (.lst xs) → SpL sp ([.ref p] ++ []) H1 ys) : EvL (tCall sp [] E (tCons ta tNil)) σ H ys := fun H1 e Q q =>
  h H1 e _ fun p H2 np e2 hp => hs p H2 (e.trans e2) hp H2 (Ex.refl _) Q (fun l H4 nl e4 hl => q l H4 (fresh_back e2 nl) (e2.trans e4) hl) E
end
def trc (c : List Nat) : List Nat := (List.range c.length).filter fun g => decide (g ∉ c.drop (g + 1))
def sp_traceless : Sp := fun vs H Q _ => ∃ (a : Addr) (c : List Nat), vs = [.ref a] ∧ H a = some (.lst (nv (sby c c.length))) ∧ Cm c ∧ RetL (nv (trc c)) H Q
theorem trc_lt {c : List Nat} {g : Nat} (h : g ∈ trc c) : g < c.length := List.mem_range.mp (List.mem_filter.mp h).1
theorem trc_len (c : List Nat) : (trc c).length ≤ c.length := by
  have := List.length_filter_le (fun g => decide (g ∉ c.drop (g + 1))) (List.range c.length)
  rwa [List.length_range] at this
theorem map_dn (g : Nat) (l : List Nat) : (nv l).map (fI fun y => y - (if (g : Int) < y then 1 else 0)) = nv (l.map (dn g)) := by
  rw [nv_eq, nv_eq, List.map_map, List.map_map]
  refine List.map_congr_left fun y _ => ?_
  show V.int ((y : Int) - (if (g : Int) < (y : Int) then 1 else 0)) = V.int ((dn g y : Nat) : Int)
  congr 1
  unfold dn
  by_cases z : g < y
  · rw [if_pos (by omega), if_pos z]
    omega
  · rw [if_neg (by omega), if_neg z]
    omega
def erA {K : PySem.W.Frag} {mg : Str → Option Value} (T : Tx K mg) : Nat → Addr
  | 0 => T.cl_InvalidSeating
  | 1 => T.cl_InvalidComing
  | 2 => T.cl_InvalidGuests
  | 3 => T.cl_InvalidWeight
  | 4 => T.cl_InvalidGuest
  | _ => T.cl_NoSeating
def nOf (o : Option (List PyData)) : Int := ((o.getD []).length : Int)
theorem bd_n {K : PySem.W.Frag} {H : Hp} {a : Addr} {xs : List V} {o : Option (List PyData)} (hv : Bd K H (.ref a) o) (ha : H a = some (.lst xs)) : nOf o = (xs.length : Int) := by
  cases hv with
  | ty n h m ne =>
    simp only [zTyV, ha] at h
    exact absurd (Option.some.inj h).symm ne
  | dct e h =>
    cases e
    rw [ha] at h
    cases h
  | own e h t =>
    cases e
    rw [ha] at h
    cases h
  | lst e h ps =>
    cases e
    rw [ha] at h
    cases h
    have := ps.length
    show ((List.length _ : Nat) : Int) = _
    rw [this]
    rfl
def dWo (o : Option (List PyData)) (k : Int) : Option Nat := if judge o = true then (if 0 ≤ k ∧ k < nOf o then (if nOf o = 1 then some 5 else none) else some 4) else some 0
def dCw (o : Option (List PyData)) (k : Int) : Option Nat := if judgeC o = true then (if 0 ≤ k ∧ k < nOf o then (if nOf o = 1 then some 5 else none) else some 4) else some 1
def dSi (o : Option (List PyData)) (k : Int) : Option Nat := if judge o = true then (if 0 ≤ k ∧ k < nOf o then none else some 4) else some 0
def dJo (o : Option (List PyData)) (k : Int) : Option Nat := if judge o = true then (if nOf o = 20 then some 0 else (if 0 ≤ k ∧ k < nOf o + 1 then none else some 4)) else some 0
def dTl (o : Option (List PyData)) : Option Nat := if judge o = true then none else some 0
def dSh (n w g : Int) : Option Nat := if 1 ≤ n ∧ n ≤ 20 then (if 1 ≤ w ∧ w ≤ 1000000000000 then (if 0 ≤ g ∧ g < n then none else some 4) else some 3) else some 2
def dTc (n w : Int) : Option Nat := if 1 ≤ n ∧ n ≤ 20 then (if 1 ≤ w ∧ w ≤ 1000000000000 then none else some 3) else some 2
theorem s_retInCall {σ : L2.St} {H : Hp} {D : Ends} {ta : TE} {tv : TA} {sp : Sp} {E : XK} {r : R2} {x : V} {vs : List V} (ha : Ev ta σ H x) (hb : EvA tv σ H vs) (k : ∀ H1, Ex H H1 → sp (vs ++ []) H1 (fun y H2 => r x y H2 D.rt) E) : tRet (tOp r ta (tCall sp [] E tv)) D σ H := ha H (Ex.refl H) _ fun H1 e1 => hb H1 e1 _ fun H2 e2 => k H2 (e1.trans e2)
theorem s_retC3 {σ : L2.St} {H : Hp} {D : Ends} {tb : TE} {tv : TA} {sp1 sp2 sp3 : Sp} {E : XK} {vs : List V} (ha : EvA tv σ H vs) (k : ∀ H1, Ex H H1 → sp3 (vs ++ []) H1 (fun u H2 => tb σ H2 fun y H3 => sp2 ([u, y] ++ []) H3 (fun z H4 => sp1 ([z] ++ []) H4 D.rt E) E) E) :
    tRet (tCall sp1 [] E (tCons (tCall sp2 [] E (tCons (tCall sp3 [] E tv) (tCons tb tNil))) tNil)) D σ H := ha H (Ex.refl H) _ fun H1 e1 => k H1 e1
/-- a def of a thing and a guest, by what is due -/
def sp2 {K : PySem.W.Frag} {mg : Str → Option Value} (T : Tx K mg) (D : Option (List PyData) → Int → Option Nat) : Sp := fun vs H Q E => ∃ (v : V) (o : Option (List PyData)) (k : Int), vs = [v, .int k] ∧ Bd K H v o ∧ Out ((D o k).map (erA T)) H Q E
def sp_wo {K : PySem.W.Frag} {mg : Str → Option Value} (T : Tx K mg) : Sp := fun vs H Q E => ∃ (a : Addr) (h : List Nat) (g : Nat), vs = [.ref a, .int (g : Int)] ∧ H a = some (.lst (nv h)) ∧ Ord h ∧ g < h.length ∧ (h.length = 1 → ∀ H1, Ex H H1 → E (.ref T.cl_NoSeating) none H1) ∧ (2 ≤ h.length → RetL (nv (wo h g)) H Q)
section
variable {P : Program} {w : World} {K : PySem.W.Frag} {mg : Str → Option Value} {base : Heap}
/-- check_seating(x), then check_guest(guest, len(x)) -/
theorem q_two {T : Tx K mg} {σ : L2.St} {H : Hp} {D : Ends} {tz : TS} {Q : VK} {E : XK} {v : V} {o : Option (List PyData)} {k : Int} {due rest : Option Nat} (h0 : σ[0]? = some (some v)) (h1 : σ[1]? = some (some (.int k))) (hv : Bd K H v o)
    (x : due = if judge o = true then (if 0 ≤ k ∧ k < nOf o then rest else some 4) else some 0) (ko : Out (due.map (erA T)) H Q E)
    (kz : ∀ (a : Addr) (h : List Nat) (g : Nat) (H1 : Hp), v = .ref a → k = (g : Int) → Ex H H1 → H1 a = some (.lst (nv h)) → Ord h → g < h.length → nOf o = (h.length : Int) → Out (rest.map (erA T)) H1 Q E → tz D σ H1) :
    tSeq (tDrop (tCall (sp_chkS K T.cl_InvalidSeating) [] E (tCons (tVar 0) tNil))) (tSeq (tDrop (tCall (sp_chkG T.cl_InvalidGuest) [] E (tCons (tVar 1) (tCons (tCB (rLenS K) (tCons (tVar 0) tNil)) tNil)))) tz) D σ H := by
  refine q_chk (ea_cons (ev_var h0) ea_nil) (so_chkS hv) (fun hn H1 e1 => ?_) fun C hC H1 e1 => ?_
  · have hj := due_no hn
    obtain ⟨a, h, rfl, ha, oh⟩ := judge_yes (hv.ex e1) hj
    have nn : nOf o = (h.length : Int) := by
      rw [bd_n (hv.ex e1) ha, nv_len]
    rw [if_pos hj] at x
    have o2 := oh.2
    refine q_chk (due := if 0 ≤ k ∧ k < (h.length : Int) then none else some T.cl_InvalidGuest) (ea_cons (ev_var h1) (ea_cons (ev_is (ev_len (K := K) (ev_var h0) (sq_of ha)) (by rw [nv_len])) ea_nil)) (so_chkG (by omega)) (fun hm H2 e2 => ?_) fun C hC H2 e2 => ?_
    · have hm := due_no hm
      rw [if_pos (by rw [nn]; exact hm)] at x
      refine kz a h k.toNat H2 rfl (by omega) (e1.trans e2) (e2 a _ ha) oh (by omega) nn ?_
      rw [← x]
      exact ko.mono (e1.trans e2)
    · obtain ⟨hm, rfl⟩ := due_yes hC
      rw [if_neg (by rw [nn]; exact hm)] at x
      exact ko.yes _ (by rw [x]; rfl) _ (e1.trans e2)
  · obtain ⟨hj, rfl⟩ := due_yes hC
    rw [if_neg hj] at x
    exact ko.yes _ (by rw [x]; rfl) _ e1
theorem ok_fraction (T : Tx K mg) : FnOk P w K mg base CX0 1 T.f_fraction T.d_fraction ["top", "bottom"] sp_fraction := by
  refine T.F_fraction.ok sc_fraction (fun vs H Q E h => ?_) (fun cdv A outer s H vs Q E hr h => ?_)
  · obtain ⟨a, b, rfl, _⟩ := h
    rfl
  · obtain ⟨a, b, rfl, h0, h1, k⟩ := h
    refine ⟨_, (pss_cons (ps_set (i := 2) sc_fraction.nd rfl (Or.inl rfl) (pe_callBfun cr_gcd (by rfl) T.i_gcd (pa_cons (pv 0) (pa_cons (pv 1) pa_nil))))
      (pss_one (ps_ret (pe_tup (pa_cons (pe_op op_fdivW (pv 0) (pv 2)) (pa_cons (pe_op op_fdivW (pv 1) (pv 2)) pa_nil)))))), ?_⟩
    refine q_asg (by walk_at "ev") fun H1 e1 => ?_
    have hd : ∀ x : Int, CDivW x (cd a b) := fun x => wide_div (cd_pos h0) (Nat.lt_of_le_of_lt (by have := cd_le (a := a) h0; have := cd_pos (a := a) h0; omega) h1) (by decide) (by decide)
    have hd1 := hd a
    have hd2 := hd b
    refine s_retU (by walk_at "eu") fun p H2 hp e2 h2 => k p H2 (fresh_back e1 hp) (e1.trans e2) h2
theorem ok_seating_without (T : Tx K mg) : FnOk P w K mg base (L2N.CX P w) 1 T.f_seating_without T.d_seating_without ["seating", "guest"] (sp_wo T) := by
  refine Kit.okN T.F_seating_without sc_seating_without (fun vs H Q E h => ?_) (fun cdv A outer s H vs Q E hr h => ?_)
  · obtain ⟨a, h, g, rfl, _⟩ := h
    rfl
  · obtain ⟨a, h, g, rfl, ha, o, hg, kE, kV⟩ := h
    refine ⟨_, (pss_cons (ps_if (pt_cmpR op_eq (pe_callB call_lenR (by rfl) T.m_len (by decide +kernel) (pa_cons (pv 0) pa_nil)) pe_int (nomark _)) (pss_one (Kit.ps_raiseN rfl Kit.takesN T.e_NoSeating T.gc_NoSeating (by rfl) pe_str)) pss_nil)
      (PSs.nox (pss_cons (ps_set (i := 2) sc_seating_without.nd rfl (Or.inl rfl) (pe_callTy call_listR (by rfl) T.m_list (by decide +kernel) (pa_cons (pv 0) pa_nil)))
      (pss_cons (ps_asg (pe_ix ix_list (pv 0) (pv 1) (fun _ _ => rfl)) (pg_sub (pv 2) (pe_bm PySem.F.plainAttrs_list PySem.F.slot_list_index PySem.F.type_list_index mt_index (pv 0) (pa_cons (pv 1) pa_nil)) set_list))
      (pss_cons (ps_expr (pe_bm PySem.F.plainAttrs_list PySem.F.slot_list_pop PySem.F.type_list_pop mt_popAt (pv 2) (pa_cons (pv 1) pa_nil)))
      (pss_one (ps_ret (pe_lc (own := [("left", 3)]) (g := (gName 3)) (tt := tYes) rfl sc_seating_without.nd (pi_list (pv 2)) (blkOk_by (own := [("left", 3)]) (N := n_seating_without) (sc := defScope s_seating_without) (by decide +kernel)) (fun _ _ _ _ _ => (pg_name (i := 3) sc_seating_without.nd rfl (Or.inl rfl))) (fun _ _ _ _ _ => pts_nil) (fun _ _ _ _ _ => (pe_op op_sub (pv 3) (pe_callTy call_intB (by rfl) T.m_int (by decide +kernel) (pa_cons (pe_cmpR op_gt (pv 3) (pv 1) (nomark _)) pa_nil)))))))))))), ?_⟩
    have h20 := o.2.2
    have h10 := o.2.1
    refine q_when (b := decide (h.length = 1)) (et_is (et_test (ev_op (ev_len (K := K) (ev_var rfl) (sq_of ha)) ev_c (rv_eq rfl))) (by rw [nv_len, Bool.eq_iff_iff, decide_eq_true_iff, decide_eq_true_iff]; exact ⟨fun z => by have := V.int.inj z; omega, fun z => by rw [z]; rfl⟩)) (fun hb H1 e1 => kE (of_decide_eq_true hb) _ e1) fun hb H1 e1 => ?_
    have h2 : 2 ≤ h.length := by
      have := of_decide_eq_false hb
      omega
    have k := kV h2
    refine q_asgL (xs := nv h) (el_list (ev_var rfl) (sq_of (e1 a _ ha))) fun b H2 nb e2 hb => ?_
    have ha2 := e2 a _ (e1 a _ ha)
    have gm : g ∈ h := o.1.mem_iff.mpr (List.mem_range.mpr hg)
    have il := List.idxOf_lt_length_of_mem gm
    refine q_setL (j := h.idxOf g) hb (v := .int ((h.getD g 0 : Nat) : Int)) (ev_op (ev_var rfl) (ev_var rfl) (rv_ixL (K := K) (sq_of ha2) (atI_nat (nv_at hg)))) (ev_var rfl) (ev_index (K := K) ha2 (ev_var rfl) (ev_var rfl) gm) (by rw [nv_len]; exact il) fun H3 e3 => ?_
    rw [nv_set]
    refine q_popAt (j := g) upd_same (ev_var rfl) (ev_var rfl) (by rw [nv_len, List.length_set]; exact hg) (by omega) fun H4 e4 => ?_
    rw [nv_erase]
    have eX : Ex H (upd H4 b (.lst (nv ((h.set (h.idxOf g) (h.getD g 0)).eraseIdx g)))) := Ex.mut ((Ex.mut (e1.trans (e2.trans e3)) (fresh_back e1 nb)).trans e4) (fresh_back e1 nb)
    have el := el_map (K := K) (te := tOp (rI0 fun i j => .int (i - j)) (tVar 3) (tCB rIntB (tCons (tOp (rI0 fun i j => .bl (decide (j < i))) (tVar 3) (tVar 1)) tNil))) (tl := tVar 2) (σ := [some (.ref a), some (.int (g : Int)), some (.ref b), none]) (H := upd H4 b (.lst (nv ((h.set (h.idxOf g) (h.getD g 0)).eraseIdx g)))) (a := b) (xs := nv ((h.set (h.idxOf g) (h.getD g 0)).eraseIdx g)) (j := 3) (vs := [3])
      (fI fun y => y - (if (g : Int) < y then 1 else 0)) (ev_var rfl) (sq_of upd_same) (by rw [nv_len]; have := List.length_eraseIdx_le (l := h.set (h.idxOf g) (h.getD g 0)) (i := g); rw [List.length_set] at this; omega) (fun _ => rfl) fun i v H5 e5 hv => ?_
    · rw [map_dn] at el
      exact s_retL el fun p H5 np e5 hp => k p H5 (fresh_back eX np) (eX.trans e5) hp
    · rw [nv_eq, List.getElem?_map] at hv
      obtain ⟨y, _, rfl⟩ := Option.map_eq_some_iff.mp hv
      exact ev_is (ev_op (ev_var rfl) (ev_intB (ev_op (ev_var rfl) (ev_var rfl) rv_I0)) rv_I0) (by
        show V.int _ = V.int _
        congr 2
        by_cases z : (g : Int) < (y : Int)
        · rw [if_pos z, decide_eq_true z]
          rfl
        · rw [if_neg z, decide_eq_false z]
          rfl)
theorem ok_without (T : Tx K mg) : FnOk P w K mg base (L2N.CX P w) 5 T.f_without T.d_without ["seating", "guest"] (sp2 T dWo) := by
  refine Kit.okN T.F_without sc_without (fun vs H Q E h => ?_) (fun cdv A outer s H vs Q E hr h => ?_)
  · obtain ⟨v, o, x, rfl, _⟩ := h
    rfl
  · obtain ⟨v, o, x, rfl, hv, ko⟩ := h
    refine ⟨_, (pss_cons (ps_expr (pe_call (ok_check_seating T) (hr.mono (by decide)) (by rfl) T.g_check_seating T.F_check_seating.kp T.b_check_seating .nil Kit.passN (pa_cons (pv 0) pa_nil)))
      (pss_cons (ps_expr (pe_call (ok_check_guest T) (hr.mono (by decide)) (by rfl) T.g_check_guest T.F_check_guest.kp T.b_check_guest .nil Kit.passN (pa_cons (pv 1) (pa_cons (pe_callB call_lenR (by rfl) T.m_len (by decide +kernel) (pa_cons (pv 0) pa_nil)) pa_nil))))
      (pss_one (ps_ret (pe_call (ok_seating_without T) (hr.mono (by decide)) (by rfl) T.g_seating_without T.F_seating_without.kp T.b_seating_without .nil Kit.passN (pa_cons (pv 0) (pa_cons (pv 1) pa_nil))))))), ?_⟩
    refine q_two (T := T) (rest := if nOf o = 1 then some 5 else none) rfl rfl hv rfl ko fun a h g H1 ev ex e1 ha oh hg nn kr => ?_
    subst ev
    subst ex
    refine s_retCall (vs := [.ref a, .int (g : Int)]) (ea_cons (ev_var rfl) (ea_cons (ev_var rfl) ea_nil)) fun H2 e2 => ?_
    refine ⟨a, h, g, rfl, e2 a _ ha, oh, hg, fun h1 H3 e3 => kr.yes _ (by rw [if_pos (by rw [nn, h1]; rfl)]; rfl) _ (e2.trans e3), fun h2 p H3 np e3 hp => kr.no (by rw [if_neg (by rw [nn]; omega)]; rfl) _ _ (e2.trans e3)⟩
theorem ok_coming_without (T : Tx K mg) : FnOk P w K mg base (L2N.CX P w) 6 T.f_coming_without T.d_coming_without ["coming", "guest"] (sp2 T dCw) := by
  refine Kit.okN T.F_coming_without sc_coming_without (fun vs H Q E h => ?_) (fun cdv A outer s H vs Q E hr h => ?_)
  · obtain ⟨v, o, x, rfl, _⟩ := h
    rfl
  · obtain ⟨v, o, x, rfl, hv, ko⟩ := h
    refine ⟨_, (pss_cons (ps_expr (pe_call (ok_check_coming T) (hr.mono (by decide)) (by rfl) T.g_check_coming T.F_check_coming.kp T.b_check_coming .nil Kit.passN (pa_cons (pv 0) pa_nil)))
      (pss_cons (ps_expr (pe_call (ok_check_guest T) (hr.mono (by decide)) (by rfl) T.g_check_guest T.F_check_guest.kp T.b_check_guest .nil Kit.passN (pa_cons (pv 1) (pa_cons (pe_callB call_lenR (by rfl) T.m_len (by decide +kernel) (pa_cons (pv 0) pa_nil)) pa_nil))))
      (pss_one (ps_ret (pe_call (ok_coming_of T) (hr.mono (by decide)) (by rfl) T.g_coming_of T.F_coming_of.kp T.b_coming_of .nil Kit.passN (pa_cons (pe_call (ok_seating_without T) (hr.mono (by decide)) (by rfl) T.g_seating_without T.F_seating_without.kp T.b_seating_without .nil Kit.passN (pa_cons (pe_call (ok_seating_by T) (hr.mono (by decide)) (by rfl) T.g_seating_by T.F_seating_by.kp T.b_seating_by .nil Kit.passN (pa_cons (pv 0) pa_nil)) (pa_cons (pv 1) pa_nil))) pa_nil)))))), ?_⟩
    have xd : dCw o x = if judgeC o = true then (if 0 ≤ x ∧ x < nOf o then (if nOf o = 1 then some 5 else none) else some 4) else some 1 := rfl
    refine q_chk (ea_cons (ev_var rfl) ea_nil) (so_chkC hv) (fun hn H1 e1 => ?_) fun C hC H1 e1 => ?_
    · have hj := due_no hn
      obtain ⟨a, c, rfl, ha, oc, _⟩ := judgeC_yes (hv.ex e1) hj
      have nn : nOf o = (c.length : Int) := by
        rw [bd_n (hv.ex e1) ha, nv_len]
      rw [if_pos hj] at xd
      have o2 := oc.2.1
      have o1 := oc.1
      refine q_chk (due := if 0 ≤ x ∧ x < (c.length : Int) then none else some T.cl_InvalidGuest) (ea_cons (ev_var rfl) (ea_cons (ev_is (ev_len (K := K) (ev_var rfl) (sq_of ha)) (by rw [nv_len])) ea_nil)) (so_chkG (by omega)) (fun hm H2 e2 => ?_) fun C hC H2 e2 => ?_
      · have hm := due_no hm
        rw [if_pos (by rw [nn]; exact hm)] at xd
        obtain ⟨g, rfl⟩ : ∃ g : Nat, x = (g : Int) := ⟨x.toNat, by omega⟩
        have hg : g < c.length := by omega
        have sl := sby_len c c.length
        have os := oc.ord
        refine s_retC3 (vs := [.ref a]) (ea_cons (ev_var rfl) ea_nil) fun H3 e3 => ?_
        refine ⟨.ref a, _, rfl, th_row ((e2.trans e3) a _ ha), (fun z => by
          rw [judgeC_cm oc] at z
          exact Bool.noConfusion z), fun _ => ⟨a, c, rfl, (e2.trans e3) a _ ha, oc, fun p H4 np e4 hp => ?_⟩⟩
        refine (ev_var (i := 1) (v := .int (g : Int)) (σ := start n_coming_without [.ref a, .int (g : Int)]) (H := H4) rfl) H4 (Ex.refl _) _ fun H5 e5 => ?_
        have e15 := e1.trans (e2.trans (e3.trans (e4.trans e5)))
        refine ⟨p, sby c c.length, g, rfl, e5 p _ hp, os, by omega, fun h1 H6 e6 => ko.yes _ (by rw [xd, if_pos (by rw [nn, ← sl, h1]; rfl)]; rfl) _ (e15.trans e6), fun h2 q H6 nq e6 hq => ?_⟩
        have ow := wo_ord (k := g) os h2 (by omega)
        obtain ⟨d, od, dl, ds⟩ := ord_cm ow
        refine ⟨.ref q, _, rfl, Ord.th hq, (fun z => by
          rw [judge_ord ow] at z
          exact Bool.noConfusion z), fun _ => ⟨q, d, rfl, by rw [hq, ds], od, fun r H7 nr e7 hr7 => ko.no (by rw [xd, if_neg (by rw [nn]; omega)]; rfl) _ _ (e15.trans (e6.trans e7))⟩⟩
      · obtain ⟨hm, rfl⟩ := due_yes hC
        rw [if_neg (by rw [nn]; exact hm)] at xd
        exact ko.yes _ (by rw [xd]; rfl) _ (e1.trans e2)
    · obtain ⟨hj, rfl⟩ := due_yes hC
      rw [if_neg hj] at xd
      exact ko.yes _ (by rw [xd]; rfl) _ e1
theorem ok_sits_alone (T : Tx K mg) : FnOk P w K mg base (L2N.CX P w) 5 T.f_sits_alone T.d_sits_alone ["seating", "guest"] (sp2 T dSi) := by
  refine Kit.okN T.F_sits_alone sc_sits_alone (fun vs H Q E h => ?_) (fun cdv A outer s H vs Q E hr h => ?_)
  · obtain ⟨v, o, x, rfl, _⟩ := h
    rfl
  · obtain ⟨v, o, x, rfl, hv, ko⟩ := h
    refine ⟨_, (pss_cons (ps_expr (pe_call (ok_check_seating T) (hr.mono (by decide)) (by rfl) T.g_check_seating T.F_check_seating.kp T.b_check_seating .nil Kit.passN (pa_cons (pv 0) pa_nil)))
      (pss_cons (ps_expr (pe_call (ok_check_guest T) (hr.mono (by decide)) (by rfl) T.g_check_guest T.F_check_guest.kp T.b_check_guest .nil Kit.passN (pa_cons (pv 1) (pa_cons (pe_callB call_lenR (by rfl) T.m_len (by decide +kernel) (pa_cons (pv 0) pa_nil)) pa_nil))))
      (PSs.nox (pss_one (ps_ret (pe_cmpR op_eq (pe_ix ix_list (pv 0) (pv 1) (fun _ _ => rfl)) (pv 1) (nomark _))))))), ?_⟩
    refine q_two (T := T) (rest := none) rfl rfl hv rfl ko fun a h g H1 ev ex e1 ha oh hg nn kr => ?_
    subst ev
    subst ex
    exact s_ret (ev_op (ev_op (ev_var rfl) (ev_var rfl) (rv_ixL (K := K) (sq_of ha) (atI_nat (nv_at hg)))) (ev_var rfl) (rv_eq rfl)) fun H3 e3 => kr.no rfl _ _ e3
theorem ok_joined (T : Tx K mg) : FnOk P w K mg base (L2N.CX P w) 5 T.f_joined T.d_joined ["seating", "mate"] (sp2 T dJo) := by
  refine Kit.okN T.F_joined sc_joined (fun vs H Q E h => ?_) (fun cdv A outer s H vs Q E hr h => ?_)
  · obtain ⟨v, o, x, rfl, _⟩ := h
    rfl
  · obtain ⟨v, o, x, rfl, hv, ko⟩ := h
    refine ⟨_, (pss_cons (ps_expr (pe_call (ok_check_seating T) (hr.mono (by decide)) (by rfl) T.g_check_seating T.F_check_seating.kp T.b_check_seating .nil Kit.passN (pa_cons (pv 0) pa_nil)))
      (pss_cons (ps_set (i := 2) sc_joined.nd rfl (Or.inl rfl) (pe_callB call_lenR (by rfl) T.m_len (by decide +kernel) (pa_cons (pv 0) pa_nil)))
      (pss_cons (ps_if (pt_cmpR op_eq (pv 2) (pe_gc (by rfl) T.c_MOST_GUESTS) (nomark _)) (pss_one (Kit.ps_raiseN rfl Kit.takesN T.e_InvalidSeating T.gc_InvalidSeating (by rfl) pe_str)) pss_nil)
      (pss_cons (ps_expr (pe_call (ok_check_guest T) (hr.mono (by decide)) (by rfl) T.g_check_guest T.F_check_guest.kp T.b_check_guest .nil Kit.passN (pa_cons (pv 1) (pa_cons (pe_op op_add (pv 2) pe_int) pa_nil))))
      (PSs.nox (pss_cons (ps_set (i := 3) sc_joined.nd rfl (Or.inl rfl) (pe_op op_cat (pv 0) (pe_lst (pa_cons (pv 2) pa_nil))))
      (pss_cons (ps_asg (pe_ix ix_list (pv 3) (pv 1) (fun _ _ => rfl)) (pg_sub (pv 3) (pv 2) set_list))
      (pss_cons (ps_asg (pv 2) (pg_sub (pv 3) (pv 1) set_list))
      (pss_one (ps_ret (pv 3))))))))))), ?_⟩
    have xd : dJo o x = if judge o = true then (if nOf o = 20 then some 0 else (if 0 ≤ x ∧ x < nOf o + 1 then none else some 4)) else some 0 := rfl
    refine q_chk (ea_cons (ev_var rfl) ea_nil) (so_chkS hv) (fun hn H1 e1 => ?_) fun C hC H1 e1 => ?_
    · have hj := due_no hn
      obtain ⟨a, h, rfl, ha1, o1⟩ := judge_yes (hv.ex e1) hj
      have nn : nOf o = (h.length : Int) := by
        rw [bd_n (hv.ex e1) ha1, nv_len]
      rw [if_pos hj] at xd
      have o2 := o1.2
      refine q_asg (v := .int (h.length : Int)) (ev_is (ev_len (K := K) (ev_var rfl) (sq_of ha1)) (by rw [nv_len])) fun H2 e2 => ?_
      refine q_when (b := decide (h.length = 20)) (et_is (et_test (ev_op (ev_var rfl) ev_c (rv_eq rfl))) (by rw [Bool.eq_iff_iff, decide_eq_true_iff, decide_eq_true_iff]; exact ⟨fun z => by have := V.int.inj z; omega, fun z => by rw [z]; rfl⟩)) (fun hb H3 e3 => ?_) fun hb H3 e3 => ?_
      · rw [if_pos (by rw [nn, of_decide_eq_true hb]; rfl)] at xd
        exact ko.yes _ (by rw [xd]; rfl) _ (e1.trans (e2.trans e3))
      have hb := of_decide_eq_false hb
      rw [if_neg (by rw [nn]; omega)] at xd
      refine q_chk (due := if 0 ≤ x ∧ x < (h.length : Int) + 1 then none else some T.cl_InvalidGuest) (ea_cons (ev_var rfl) (ea_cons (ev_op (ev_var rfl) ev_c rv_I0) ea_nil)) (so_chkG (by omega)) (fun hm H4 e4 => ?_) fun C hC H4 e4 => ?_
      · have hm := due_no hm
        rw [if_pos (by rw [nn]; exact hm)] at xd
        obtain ⟨g, rfl⟩ : ∃ g : Nat, x = (g : Int) := ⟨x.toNat, by omega⟩
        have e14 := e2.trans (e3.trans e4)
        refine q_asgL (el_catL (ev_var rfl) (e14 a _ ha1) (el_lst (ea_cons (ev_var rfl) ea_nil) (Nat.le_of_ble_eq_true rfl)) (by rw [nv_len]; simp; omega)) fun b H5 nb e5 hb => ?_
        have nb' := fresh_back (e1.trans e14) nb
        have eq : nv h ++ [V.int (h.length : Int)] = nv (h ++ [h.length]) := by
          rw [nv_app]
          rfl
        rw [eq] at hb
        have la : (h ++ [h.length]).length = h.length + 1 := by simp
        refine q_setL (j := h.length) hb (ev_op (ev_var rfl) (ev_var rfl) (rv_ixL (K := K) (sq_of hb) (atI_nat (nv_at (by omega))))) (ev_var rfl) (ev_var rfl) (by rw [nv_len, la]; omega) fun H6 e6 => ?_
        rw [nv_set]
        refine q_setL (j := g) upd_same (ev_var rfl) (ev_var rfl) (ev_var rfl) (by rw [nv_len, List.length_set, la]; omega) fun H7 e7 => ?_
        refine s_ret (ev_var rfl) fun H8 e8 => ko.no (by rw [xd]; rfl) _ _ ((Ex.mut ((Ex.mut ((e1.trans e14).trans (e5.trans e6)) nb').trans e7) nb').trans e8)
      · obtain ⟨hm, rfl⟩ := due_yes hC
        rw [if_neg (by rw [nn]; exact hm)] at xd
        exact ko.yes _ (by rw [xd]; rfl) _ (e1.trans (e2.trans (e3.trans e4)))
    · obtain ⟨hj, rfl⟩ := due_yes hC
      rw [if_neg hj] at xd
      exact ko.yes _ (by rw [xd]; rfl) _ e1
theorem ok_traceless (T : Tx K mg) : FnOk P w K mg base (L2N.CX P w) 6 T.f_traceless T.d_traceless ["seating"] (SpJ K judge T.cl_InvalidSeating sp_traceless) := by
  refine Kit.okN T.F_traceless sc_traceless (fun vs H Q E h => ?_) (fun cdv A outer s H vs Q E hr h => ?_)
  · obtain ⟨v, oo, rfl, _⟩ := h
    rfl
  · obtain ⟨v, oo, rfl, hv, kE, kV⟩ := h
    refine ⟨_, (pss_cons (ps_set (i := 1) sc_traceless.nd rfl (Or.inr rfl) (pe_call (ok_coming_of T) (hr.mono (by decide)) (by rfl) T.g_coming_of T.F_coming_of.kp T.b_coming_of .nil Kit.passN (pa_cons (pv 0) pa_nil)))
      (PSs.nox (pss_one (ps_ret (pe_lc (own := [("guest", 2)]) (g := (gName 2)) rfl sc_traceless.nd (pi_range1 (by rfl) T.m_range (pa_cons (pe_callB (id := "len") (r := rLenS K) call_lenR (by rfl) T.m_len (by decide +kernel) (pa_cons (pv 1) pa_nil)) pa_nil)) (blkOk_by (own := [("guest", 2)]) (N := n_traceless) (sc := defScope s_traceless) (by decide +kernel)) (fun _ _ _ _ _ => (pg_name (i := 2) sc_traceless.nd rfl (Or.inl rfl))) (fun _ _ _ _ _ => (pts_one (pt_cmpR (r := rIn K true) op_notIn_seq (pv 2) (pe_slice (r := rSlL K) sl_list (pv 1) (po_some (pe_op op_add (pv 2) pe_int)) po_none) (by rfl)))) (fun _ _ _ _ _ => (pv 2))))))), ?_⟩
    refine q_asgCall (vs := [v]) (ea_cons (ev_var rfl) ea_nil) fun H0 e0 => ?_
    refine ⟨v, oo, rfl, hv.ex e0, fun hj H2 e2 => kE hj _ (e0.trans e2), fun hj => ?_⟩
    obtain ⟨a, c, eqv, ha, o, k⟩ := kV hj
    cases eqv
    refine ⟨a, c, rfl, e0 a _ ha, o, fun b H1 nb e01 hb => ?_⟩
    have e1 := e0.trans e01
    have nb := fresh_back e0 nb
    have o2 := o.2.1
    have cut : ∀ i : Nat, i ≤ c.length → cutV (nv c) (some (i : Int)) none = nv (c.drop i) := fun i hi => by
      unfold cutV
      rw [HT.sIx_none, HT.sIx_nat, nv_eq, nv_eq, List.map_drop, List.take_of_length_le (by simp), Nat.min_eq_left (by simpa using hi)]
    have el := el_lcR1 (te := tVar 2) (t := tTest (tOp (rIn K true) (tVar 2) (tSl (rSlL K) (tVar 1) (tPart (tOp (rI0 fun i j => .int (i + j)) (tVar 2) (tC (.int 1)))) tNoPart))) (j := 2) (vs := [2]) (σ := [some (.ref a), some (.ref b), none]) (H := H1) (n := (c.length : Int)) (fun i => decide (i ∉ c.drop (i + 1))) (fun i => .int (i : Int)) (ea_cons (ev_is (ev_len (K := K) (ta := tVar 1) (ev_var (i := 1) rfl) (sq_of hb)) (by rw [nv_len])) ea_nil) (by omega) (fun _ => rfl) (fun i H2 e2 hi => ?_) fun i H2 e2 hi _ => ev_var rfl
    · have eg : given (c.length : Int).toNat (fun i => decide (i ∉ c.drop (i + 1))) (fun i => V.int (i : Int)) = nv (trc c) := by
        rw [nv_eq]
        rfl
      rw [eg] at el
      exact s_retL el fun p H2 np e2 hp => k p H2 (fresh_back e1 np) (e1.trans e2) hp
    · have hi' : i < c.length := by omega
      have sl := el_sl (K := K) (te := tVar 1) (tl := tPart (tOp (rI0 fun i j => .int (i + j)) (tVar 2) (tC (.int 1)))) (th := tNoPart) (σ := (wipe [some (.ref a), some (.ref b), none] [2]).set 2 (some (.int (i : Int)))) (H := H2) (ev_var (i := 1) rfl) (eo_some (ev_op (ev_var (i := 2) rfl) (ev_c (v := .int 1)) rv_I0)) eo_none (sq_of (e2 b _ hb))
      rw [show (i : Int) + 1 = ((i + 1 : Nat) : Int) by omega, cut (i + 1) (by omega)] at sl
      refine et_is (et_test (ev_opL (ev_var rfl) sl fun p H3 hp _ => rv_niL (K := K) (sq_of hp) rfl (nv_flat _))) ?_
      rw [nv_in, Bool.eq_iff_iff, Bool.not_eq_true', decide_eq_false_iff_not, decide_eq_true_iff]
theorem ok_is_traceless (T : Tx K mg) : FnOk P w K mg base (L2N.CX P w) 7 T.f_is_traceless T.d_is_traceless ["seating", "guest"] (sp2 T dSi) := by
  refine Kit.okN T.F_is_traceless sc_is_traceless (fun vs H Q E h => ?_) (fun cdv A outer s H vs Q E hr h => ?_)
  · obtain ⟨v, o, x, rfl, _⟩ := h
    rfl
  · obtain ⟨v, o, x, rfl, hv, ko⟩ := h
    refine ⟨_, (pss_cons (ps_expr (pe_call (ok_check_seating T) (hr.mono (by decide)) (by rfl) T.g_check_seating T.F_check_seating.kp T.b_check_seating .nil Kit.passN (pa_cons (pv 0) pa_nil)))
      (pss_cons (ps_expr (pe_call (ok_check_guest T) (hr.mono (by decide)) (by rfl) T.g_check_guest T.F_check_guest.kp T.b_check_guest .nil Kit.passN (pa_cons (pv 1) (pa_cons (pe_callB call_lenR (by rfl) T.m_len (by decide +kernel) (pa_cons (pv 0) pa_nil)) pa_nil))))
      (pss_one (ps_ret (pe_cmpR op_in_seq (pv 1) (pe_call (ok_traceless T) (hr.mono (by decide)) (by rfl) T.g_traceless T.F_traceless.kp T.b_traceless .nil Kit.passN (pa_cons (pv 0) pa_nil)) (by rfl)))))), ?_⟩
    refine q_two (T := T) (rest := none) rfl rfl hv rfl ko fun a h g H1 ev ex e1 ha oh hg nn kr => ?_
    subst ev
    subst ex
    obtain ⟨c, oc, cl, hc⟩ := ord_cm oh
    refine s_retInCall (vs := [.ref a]) (ev_var rfl) (ea_cons (ev_var rfl) ea_nil) fun H3 e3 => ?_
    refine ⟨.ref a, _, rfl, Ord.th (e3 a _ ha), (fun z => by
      rw [judge_ord oh] at z
      exact Bool.noConfusion z), fun _ => ⟨a, c, rfl, by rw [e3 a _ ha, hc], oc, fun p H4 np e4 hp => ?_⟩⟩
    exact rv_isL (K := K) (sq_of hp) rfl (nv_flat _) H4 (Ex.refl _) _ fun H5 e5 => kr.no rfl _ _ (e3.trans (e4.trans e5))
theorem ok_traceless_share (T : Tx K mg) : FnOk P w K mg base (L2N.CX P w) 4 T.f_traceless_share T.d_traceless_share ["guests", "weight", "guest"] (fun vs H Q E => ∃ n x g : Int, vs = [.int n, .int x, .int g] ∧ Out ((dSh n x g).map (erA T)) H Q E) := by
  refine Kit.okN T.F_traceless_share sc_traceless_share (fun vs H Q E h => ?_) (fun cdv A outer s H vs Q E hr h => ?_)
  · obtain ⟨n, x, g, rfl, _⟩ := h
    rfl
  · obtain ⟨n, x, g, rfl, ko⟩ := h
    refine ⟨_, (pss_cons (ps_expr (pe_call (ok_check_guests T) (hr.mono (by decide)) (by rfl) T.g_check_guests T.F_check_guests.kp T.b_check_guests .nil Kit.passN (pa_cons (pv 0) pa_nil)))
      (pss_cons (ps_expr (pe_call (ok_check_weight T) (hr.mono (by decide)) (by rfl) T.g_check_weight T.F_check_weight.kp T.b_check_weight .nil Kit.passN (pa_cons (pv 1) pa_nil)))
      (pss_cons (ps_expr (pe_call (ok_check_guest T) (hr.mono (by decide)) (by rfl) T.g_check_guest T.F_check_guest.kp T.b_check_guest .nil Kit.passN (pa_cons (pv 2) (pa_cons (pv 0) pa_nil))))
      (PSs.nox (pss_one (ps_ret (pe_call (ok_fraction T) (hr.mono (by decide)) (by rfl) T.g_fraction T.F_fraction.kp T.b_fraction .nil pass0 (pa_cons (pe_op op_add (pv 1) (pv 2)) (pa_cons (pe_op op_sub (pe_op op_add (pv 1) (pv 0)) pe_int) pa_nil))))))))), ?_⟩
    have xd : dSh n x g = if 1 ≤ n ∧ n ≤ 20 then (if 1 ≤ x ∧ x ≤ 1000000000000 then (if 0 ≤ g ∧ g < n then none else some 4) else some 3) else some 2 := rfl
    refine q_chk (ea_cons (ev_var rfl) ea_nil) so_chk1 (fun hn H1 e1 => ?_) fun C hC H1 e1 => ?_
    · have hn := due_no hn
      rw [if_pos hn] at xd
      refine q_chk (ea_cons (ev_var rfl) ea_nil) so_chk1 (fun hm H2 e2 => ?_) fun C hC H2 e2 => ?_
      · have hm := due_no hm
        rw [if_pos hm] at xd
        refine q_chk (ea_cons (ev_var rfl) (ea_cons (ev_var rfl) ea_nil)) (so_chkG (by omega)) (fun hg H3 e3 => ?_) fun C hC H3 e3 => ?_
        · have hg := due_no hg
          rw [if_pos hg] at xd
          have e13 := e1.trans (e2.trans e3)
          exact s_retU (eu_call (ea_cons (ev_op (ev_var rfl) (ev_var rfl) rv_I0) (ea_cons (ev_op (ev_op (ev_var rfl) (ev_var rfl) rv_I0) ev_c rv_I0) ea_nil)) (su_fraction (by omega) (Nat.lt_of_lt_of_le (show (x + n - 1).natAbs < 2 ^ 64 by omega) (Nat.pow_le_pow_right (by decide) (by decide))))) fun p H4 np e4 hp => ko.no (by rw [xd]; rfl) _ _ (e13.trans e4)
        · obtain ⟨hg, rfl⟩ := due_yes hC
          rw [if_neg hg] at xd
          exact ko.yes _ (by rw [xd]; rfl) _ (e1.trans (e2.trans e3))
      · obtain ⟨hm, rfl⟩ := due_yes hC
        rw [if_neg hm] at xd
        exact ko.yes _ (by rw [xd]; rfl) _ (e1.trans e2)
    · obtain ⟨hn, rfl⟩ := due_yes hC
      rw [if_neg hn] at xd
      exact ko.yes _ (by rw [xd]; rfl) _ e1
end


local macro_rules | `(tactic| walk_at "call") => `(tactic| (with_reducible exact sv_whole))

/-! ### counts of those without a trace -/
/-- a sum over 0 .. n - 1 -/
def rs : Nat → (Nat → Int) → Int
  | 0, _ => 0
  | n + 1, f => rs n f + f n
theorem rs_congr {f g : Nat → Int} : ∀ {n : Nat}, (∀ i, i < n → f i = g i) → rs n f = rs n g
  | 0, _ => rfl
  | n + 1, h => by
    show rs n f + f n = rs n g + g n
    rw [rs_congr fun i hi => h i (by omega), h n (by omega)]
theorem rs_add (f g : Nat → Int) : ∀ n, rs n (fun i => f i + g i) = rs n f + rs n g
  | 0 => rfl
  | n + 1 => by
    show rs n (fun i => f i + g i) + (f n + g n) = (rs n f + f n) + (rs n g + g n)
    rw [rs_add f g n]
    omega
theorem rs_mul (c : Int) (f : Nat → Int) : ∀ n, rs n (fun i => f i * c) = rs n f * c
  | 0 => by simp [rs]
  | n + 1 => by
    show rs n (fun i => f i * c) + f n * c = (rs n f + f n) * c
    rw [rs_mul c f n, Int.add_mul]
theorem rs_front (f : Nat → Int) : ∀ n, rs (n + 1) f = f 0 + rs n (fun i => f (i + 1))
  | 0 => by simp [rs]
  | n + 1 => by
    show rs (n + 1) f + f (n + 1) = f 0 + (rs n (fun i => f (i + 1)) + f (n + 1))
    rw [rs_front f n]
    omega
theorem rs_list (f : Nat → Int) : ∀ n, ((List.range n).map f).sum = rs n f
  | 0 => rfl
  | n + 1 => by
    rw [List.range_succ, List.map_append, List.sum_append, rs_list f n]
    show rs n f + (f n + 0) = rs n f + f n
    omega
/-- weights of so many guests of whom so many are without a trace -/
def tc (w : Int) : Nat → Nat → Int
  | 0, s => if s = 0 then 1 else 0
  | n + 1, s => tc w n s * s + (match s with | 0 => 0 | t + 1 => tc w n t * (w + n - t))
def tcl (w : Int) (n : Nat) : List Int := (List.range (n + 1)).map (tc w n)
theorem tcl_len (w : Int) (n : Nat) : (tcl w n).length = n + 1 := by
  unfold tcl
  rw [List.length_map, List.length_range]
theorem tc_big (w : Int) : ∀ n s, n < s → tc w n s = 0
  | 0, s, h => by
    show (if s = 0 then (1 : Int) else 0) = 0
    rw [if_neg (by omega)]
  | n + 1, 0, h => by omega
  | n + 1, t + 1, h => by
    show tc w n (t + 1) * ((t + 1 : Nat) : Int) + tc w n t * (w + n - t) = 0
    rw [tc_big w n (t + 1) (by omega), tc_big w n t (by omega)]
    simp
theorem tc_bd {w : Int} (h0 : 1 ≤ w) (h1 : w ≤ 1000000000000) : ∀ n, n ≤ 20 → ∀ s, (tc w n s).natAbs < 2 ^ (44 * n + 1)
  | 0, _, s => by
    show (if s = 0 then (1 : Int) else 0).natAbs < 2
    split <;> decide
  | n + 1, hn, s => by
    have ih := tc_bd h0 h1 n (by omega)
    have a : ∀ s, (tc w n s * (s : Int)).natAbs ≤ 2 ^ (44 * n + 1) * 32 := fun s => by
      by_cases z : n < s
      · rw [tc_big w n s z]
        simp
      · rw [Int.natAbs_mul]
        exact Nat.mul_le_mul (Nat.le_of_lt (ih s)) (by omega)
    have b : ∀ t, (tc w n t * (w + n - t)).natAbs ≤ 2 ^ (44 * n + 1) * 2 ^ 43 := fun t => by
      by_cases z : n < t
      · rw [tc_big w n t z]
        simp
      · rw [Int.natAbs_mul]
        exact Nat.mul_le_mul (Nat.le_of_lt (ih t)) (by omega)
    rw [show 44 * (n + 1) + 1 = (44 * n + 1) + 44 by omega, Nat.pow_add]
    have pp : 0 < 2 ^ (44 * n + 1) := Nat.pow_pos (by decide)
    generalize 2 ^ (44 * n + 1) = M at *
    match s with
    | 0 =>
      show (tc w n 0 * ((0 : Nat) : Int) + 0).natAbs < M * 2 ^ 44
      have := a 0
      omega
    | t + 1 =>
      show (tc w n (t + 1) * ((t + 1 : Nat) : Int) + tc w n t * (w + n - t)).natAbs < M * 2 ^ 44
      have := a (t + 1)
      have := b t
      omega
theorem tc_get {w : Int} {n s : Nat} (h : s ≤ n) : ((tcl w n).map V.int)[s]? = some (.int (tc w n s)) := by
  unfold tcl
  rw [List.getElem?_map, List.getElem?_map, List.getElem?_range (by omega)]
  rfl

/-! ### traceless_counts, _law_counts -/
/-- part of a new row: what the first j of the old one give -/
def gw (w : Int) (i j s : Nat) : Int := (if s < j then tc w i s * s else 0) + (match s with | 0 => 0 | t + 1 => if t < j then tc w i t * (w + i - t) else 0)
def gwl (w : Int) (i j : Nat) : List Int := (List.range (i + 2)).map (gw w i j)
theorem gwl_len (w : Int) (i j : Nat) : (gwl w i j).length = i + 2 := by
  unfold gwl
  rw [List.length_map, List.length_range]
theorem gwl_zero (w : Int) (i : Nat) : gwl w i 0 = List.replicate (i + 2) 0 := by
  unfold gwl
  refine List.eq_replicate_iff.mpr ⟨by simp, fun x hx => ?_⟩
  obtain ⟨s, _, rfl⟩ := List.mem_map.mp hx
  unfold gw
  rw [if_neg (by omega)]
  match s with
  | 0 => rfl
  | t + 1 =>
    show (0 : Int) + (if t < 0 then _ else (0 : Int)) = 0
    rw [if_neg (by omega)]
    rfl
theorem gwl_all (w : Int) (i : Nat) : gwl w i (i + 1) = tcl w (i + 1) := by
  unfold gwl tcl
  refine List.map_congr_left fun s hs => ?_
  have hs := List.mem_range.mp hs
  have a : (if s < i + 1 then tc w i s * (s : Int) else 0) = tc w i s * s := by
    by_cases z : s < i + 1
    · rw [if_pos z]
    · rw [if_neg z, tc_big w i s (by omega)]
      simp
  unfold gw
  rw [a]
  match s, hs with
  | 0, _ => rfl
  | t + 1, hs =>
    show _ + (if t < i + 1 then _ else (0 : Int)) = _
    rw [if_pos (by omega)]
    rfl
theorem gwl_get {w : Int} {i j s : Nat} (h : s < i + 2) : ((gwl w i j).map V.int)[s]? = some (.int (gw w i j s)) := by
  unfold gwl
  rw [List.getElem?_map, List.getElem?_map, List.getElem?_range h]
  rfl
theorem ite_lt {s j : Nat} (h : s ≠ j) {x : Int} : (if s < j then x else 0) = if s < j + 1 then x else 0 := by
  by_cases z : s < j
  · rw [if_pos z, if_pos (by omega)]
  · rw [if_neg z, if_neg (by omega)]
/-- the row with one place told anew -/
theorem gwl_set {w : Int} {i j : Nat} (hj : j < i + 1) : (((gwl w i j).map V.int).set j (.int (gw w i j j + tc w i j * j))).set (j + 1) (.int (gw w i j (j + 1) + tc w i j * (w + i - j))) = (gwl w i (j + 1)).map V.int := by
  refine List.ext_getElem? fun s => ?_
  have lg : ((gwl w i j).map V.int).length = i + 2 := by rw [List.length_map, gwl_len]
  by_cases hs : s < i + 2
  · rw [gwl_get hs, List.getElem?_set, List.getElem?_set, List.length_set, lg, gwl_get hs]
    by_cases s1 : j + 1 = s
    · subst s1
      rw [if_pos rfl, if_pos hs]
      congr 2
      show gw w i j (j + 1) + _ = gw w i (j + 1) (j + 1)
      show (if j + 1 < j then _ else (0 : Int)) + (if j < j then _ else (0 : Int)) + _ = (if j + 1 < j + 1 then _ else (0 : Int)) + (if j < j + 1 then tc w i j * (w + i - j) else 0)
      rw [if_neg (by omega), if_neg (by omega), if_neg (by omega), if_pos (by omega)]
      omega
    · rw [if_neg s1]
      by_cases s0 : j = s
      · subst s0
        rw [if_pos rfl, if_pos (by omega)]
        congr 2
        unfold gw
        rw [if_neg (by omega), if_pos (by omega)]
        match j with
        | 0 => simp
        | t + 1 =>
          show (0 : Int) + (if t < t + 1 then _ else (0 : Int)) + _ = _ + (if t < t + 1 + 1 then _ else (0 : Int))
          rw [if_pos (by omega), if_pos (by omega)]
          omega
      · rw [if_neg s0]
        congr 2
        unfold gw
        rw [ite_lt (Ne.symm s0)]
        match s, s1 with
        | 0, _ => rfl
        | t + 1, s1 =>
          show _ + (if t < j then _ else (0 : Int)) = _ + (if t < j + 1 then _ else (0 : Int))
          rw [ite_lt (show t ≠ j by omega)]
  · rw [List.getElem?_eq_none (by rw [List.length_set, List.length_set, lg]; omega), List.getElem?_eq_none (by rw [List.length_map, gwl_len]; omega)]
theorem rep_zero (k : Nat) : (List.replicate k [V.int 0]).flatten = (List.replicate k (0 : Int)).map V.int := by
  induction k with
  | zero => rfl
  | succ k ih => rw [List.replicate_succ, List.flatten_cons, ih]; rfl
section
variable {P : Program} {w : World} {K : PySem.W.Frag} {mg : Str → Option Value} {base : Heap}
theorem ok_traceless_counts (T : Tx K mg) : FnOk P w K mg base (L2N.CX P w) 4 T.f_traceless_counts T.d_traceless_counts ["guests", "weight"] (fun vs H Q E => ∃ n x : Int, vs = [.int n, .int x] ∧ Out ((dTc n x).map (erA T)) H Q E) := by
  refine Kit.okN T.F_traceless_counts sc_traceless_counts (fun vs H Q E h => ?_) (fun cdv A outer s H vs Q E hr h => ?_)
  · obtain ⟨n, x, rfl, _⟩ := h
    rfl
  · obtain ⟨N, x, rfl, ko⟩ := h
    refine ⟨_, (pss_cons (ps_expr (pe_call (ok_check_guests T) (hr.mono (by decide)) (by rfl) T.g_check_guests T.F_check_guests.kp T.b_check_guests .nil Kit.passN (pa_cons (pv 0) pa_nil)))
      (pss_cons (ps_expr (pe_call (ok_check_weight T) (hr.mono (by decide)) (by rfl) T.g_check_weight T.F_check_weight.kp T.b_check_weight .nil Kit.passN (pa_cons (pv 1) pa_nil)))
      (PSs.nox (pss_cons (ps_set (i := 2) sc_traceless_counts.nd rfl (Or.inl rfl) (pe_lst (pa_cons pe_int pa_nil)))
      (pss_cons (ps_for PassesOwn.never rfl (pi_range1 (by rfl) T.m_range (pa_cons (pv 0) pa_nil)) (pg_name (i := 3) sc_traceless_counts.nd rfl (Or.inl rfl)) (pss_cons (ps_set (i := 4) sc_traceless_counts.nd rfl (Or.inl rfl) (pe_op op_rep (pe_lst (pa_cons pe_int pa_nil)) (pe_op op_add (pe_callB call_lenR (by rfl) T.m_len (by decide +kernel) (pa_cons (pv 2) pa_nil)) pe_int)))
      (pss_cons (ps_for PassesOwn.never rfl (pi_enum (by rfl) T.m_enumerate (pa_cons (pv 2) pa_nil)) (pg_tup rfl (pgs_cons (pg_name (i := 5) sc_traceless_counts.nd rfl (Or.inl rfl)) (pgs_cons (pg_name (i := 6) sc_traceless_counts.nd rfl (Or.inl rfl)) pgs_nil))) (pss_cons (ps_augS (pv 4) (pv 5) get_listR (pe_op op_mulX (pv 6) (pv 5)) ip_add set_list)
      (pss_one (ps_augS (pv 4) (pe_op op_add (pv 5) pe_int) get_listR (pe_op op_mulX (pv 6) (pe_op op_sub (pe_op op_add (pv 1) (pv 3)) (pv 5))) ip_add set_list))))
      (pss_one (ps_set (i := 2) sc_traceless_counts.nd rfl (Or.inl rfl) (pv 4))))))
      (pss_one (ps_ret (pv 2)))))))), ?_⟩
    have xd : dTc N x = if 1 ≤ N ∧ N ≤ 20 then (if 1 ≤ x ∧ x ≤ 1000000000000 then none else some 3) else some 2 := rfl
    refine q_chk (ea_cons (ev_var rfl) ea_nil) so_chk1 (fun hn H1 e1 => ?_) fun C hC H1 e1 => ?_
    rotate_left
    · obtain ⟨hn, rfl⟩ := due_yes hC
      rw [if_neg hn] at xd
      exact ko.yes _ (by rw [xd]; rfl) _ e1
    have hn := due_no hn
    rw [if_pos hn] at xd
    refine q_chk (ea_cons (ev_var rfl) ea_nil) so_chk1 (fun hm H2 e2 => ?_) fun C hC H2 e2 => ?_
    rotate_left
    · obtain ⟨hm, rfl⟩ := due_yes hC
      rw [if_neg hm] at xd
      exact ko.yes _ (by rw [xd]; rfl) _ (e1.trans e2)
    have hm := due_no hm
    rw [if_pos hm] at xd
    obtain ⟨n, rfl⟩ : ∃ n : Nat, N = (n : Int) := ⟨N.toNat, by omega⟩
    have n20 : n ≤ 20 := by omega
    have h0 := hm.1
    have h1 := hm.2
    have k : ∀ (q : Addr) (H4 : Hp), H q = none → Ex H H4 → H4 q = some (.lst ((tcl x n).map V.int)) → Q (.ref q) H4 := fun q H4 _ e4 _ => ko.no (by rw [xd]; rfl) _ _ e4
    refine q_asgL (xs := (tcl x 0).map V.int) (el_lst (ea_cons ev_c ea_nil) (Nat.le_of_ble_eq_true rfl)) fun q0 H3 nq0 e3 hq0 => ?_
    have e13 := e1.trans (e2.trans e3)
    have nq0' := fresh_back (e1.trans e2) nq0
    refine q_forR1 (n := (n : Int)) (ea_cons (ev_var rfl) ea_nil) ⟨by omega, by omega⟩ (fun i σ' H' => ∃ (q : Addr) (y3 y4 y5 y6 : Option V), σ' = [some (.int (n : Int)), some (.int x), some (.ref q), y3, y4, y5, y6] ∧ Ex H H' ∧ H q = none ∧ H' q = some (.lst ((tcl x i).map V.int)))
      (fun H4 e4 => ⟨q0, none, none, none, none, rfl, e13.trans e4, nq0', e4 q0 _ hq0⟩) ?_ ?_
    · rintro i σ' H' hi ⟨q, y3, y4, y5, y6, rfl, e, nq, hq⟩
      have i20 : i < 20 := by omega
      have ll : ((tcl x i).map V.int).length = i + 1 := by rw [List.length_map, tcl_len]
      have rp := el_rep (ta := tLst (tCons (tC (.int 0)) tNil)) (tb := tOp (rI0 fun i j => .int (i + j)) (tCB (rLenS K) (tCons (tVar 2) tNil)) (tC (.int 1))) (σ := [some (.int (n : Int)), some (.int x), some (.ref q), some (.int (i : Int)), y4, y5, y6]) (H := H') (xs := [.int 0]) (k := ((i + 2 : Nat) : Int)) (el_lst (ea_cons ev_c ea_nil) (Nat.le_of_ble_eq_true rfl)) (ev_is (ev_op (ev_len (K := K) (ev_var (i := 2) rfl) (sq_of hq)) ev_c rv_I0) (by rw [ll]; congr 1)) (by omega) (by omega) (by decide)
      rw [Int.toNat_natCast, rep_zero, ← gwl_zero x i] at rp
      refine q_asgL rp fun g H5 ng e5 hg => ?_
      have hq5 := e5 q _ hq
      have gq : q ≠ g := fun z => by
        rw [← z, hq] at ng
        cases ng
      refine q_forEn (ea_cons (ev_var rfl) ea_nil) (sq_of hq5) (fun j σ' H6 => ∃ y5 y6, σ' = [some (.int (n : Int)), some (.int x), some (.ref q), some (.int (i : Int)), some (.ref g), y5, y6] ∧ Ex H' H6 ∧ H6 g = some (.lst ((gwl x i j).map V.int))) (fun H6 e6 => ⟨y5, y6, rfl, e5.trans e6, e6 g _ hg⟩) (fun _ σ' H6 _ ⟨_, _, _, e6, _⟩ => sq_of (e6 q _ hq)) ?_ ?_
      · rintro j v σ' H6 H7 hv ⟨y5, y6, rfl, e6, hg6⟩ e7
        have hj : j < i + 1 := by
          have := (List.getElem?_eq_some_iff.mp hv).1
          rwa [ll] at this
        rw [tc_get (by omega)] at hv
        cases hv
        have bd := tc_bd h0 h1 i (by omega) j
        have m1 : CMulX (tc x i j) (j : Int) := mulx_ok (a := 1000) (b := 64) (lt2_mono bd (by omega)) (by omega) (by decide)
        have m2 : CMulX (tc x i j) (x + (i : Int) - (j : Int)) := mulx_ok (a := 1000) (b := 64) (lt2_mono bd (by omega)) (by omega) (by decide)
        refine q_augL (K := K) (j := j) (a := gw x i j j) (b := tc x i j * j) (e7 g _ hg6) (ev_var rfl) (ev_var rfl) (gwl_get (by omega)) (ev_op (ev_var rfl) (ev_var rfl) (rv_I m1)) fun H8 e8 => ?_
        refine s_augL (K := K) (j := j + 1) (a := gw x i j (j + 1)) (b := tc x i j * (x + i - j)) upd_same (ev_var rfl) (ev_is (ev_op (ev_var rfl) ev_c rv_I0) (by congr 1)) (by rw [List.getElem?_set_ne (by omega)]; exact gwl_get (by omega)) (ev_op (ev_var rfl) (ev_op (ev_op (ev_var rfl) (ev_var rfl) rv_I0) (ev_var rfl) rv_I0) (rv_I m2)) fun H9 e9 => ?_
        exact ⟨_, _, rfl, Ex.mut ((Ex.mut (e6.trans (e7.trans e8)) ng).trans e9) ng, by rw [upd_same, gwl_set hj]⟩
      · rintro σ' H6 ⟨y5, y6, rfl, e6, hg6⟩
        rw [ll, gwl_all] at hg6
        exact s_asg (ev_var rfl) fun H7 e7 => ⟨g, _, _, _, _, rfl, e.trans (e6.trans e7), fresh_back e ng, e7 g _ hg6⟩
    · rintro σ' H' ⟨q, y3, y4, y5, y6, rfl, e, nq, hq⟩
      rw [Int.toNat_natCast] at hq
      exact s_ret (ev_var rfl) fun H4 e4 => k q H4 nq (e.trans e4) (e4 q _ hq)
end


local macro_rules | `(tactic| walk_at "call") => `(tactic| (with_reducible exact sv_whole))

/-! ### Hall(): an object with its five fields -/
section
variable {P : Program} {w : World} {K : PySem.W.Frag} {mg : Str → Option Value} {base : Heap}
theorem q_fldI {σ : L2.St} {H G : Hp} {D : Ends} {tz : TS} {tv : TE} {a C dx : Addr} {fs : List (Str × V)} {f : Str} (hv : ∀ H1, Ex H H1 → ∀ Q : VK, (∀ v H2, Ex H1 H2 → Q v H2) → tv σ H1 Q) (ha : σ[0]? = some (some (.ref a))) (h : H a = some (.ins C dx fs)) (c : Cls K C) (n : NoAttr K C f) (hl : fs.length < 1000)
    (e0 : Ex (Hm a G) H) (k : ∀ v H1, Ex (Hm a G) H1 → H1 a = some (.ins C dx (putF f v fs)) → tz D σ H1) : tSeq (sFld K (tVar 0) tv f) tz D σ H :=
  hv H (Ex.refl _) _ fun v H1 e1 => (ev_var (i := 0) ha) H1 (Ex.refl _) _ fun H2 e2 => ⟨a, C, dx, fs, rfl, (e1.trans e2) a _ h, c, n, hl, k v _ (Ex.mut (e0.trans (e1.trans e2)) hm_p) upd_same⟩
theorem s_fldI {σ : L2.St} {H G : Hp} {D : Ends} {tv : TE} {a C dx : Addr} {fs : List (Str × V)} {f : Str} (hv : ∀ H1, Ex H H1 → ∀ Q : VK, (∀ v H2, Ex H1 H2 → Q v H2) → tv σ H1 Q) (ha : σ[0]? = some (some (.ref a))) (h : H a = some (.ins C dx fs)) (c : Cls K C) (n : NoAttr K C f) (hl : fs.length < 1000)
    (e0 : Ex (Hm a G) H) (k : ∀ v H1, Ex (Hm a G) H1 → H1 a = some (.ins C dx (putF f v fs)) → D.nx σ H1) : sFld K (tVar 0) tv f D σ H :=
  q_fldI (tz := fun D => D.nx) hv ha h c n hl e0 k
theorem put_lt {f : Str} {v : V} {fs : List (Str × V)} {n : Nat} (h : fs.length ≤ n) : (putF f v fs).length ≤ n + 1 := Nat.le_trans (length_putF f v fs) (by omega)
theorem pv_ev {σ : L2.St} {H : Hp} {tv : TE} {v : V} (h : Ev tv σ H v) : ∀ H1, Ex H H1 → ∀ Q : VK, (∀ v H2, Ex H1 H2 → Q v H2) → tv σ H1 Q := fun H1 e Q q => h H1 e Q fun H2 e2 => q v H2 e2
theorem pv_L {σ : L2.St} {H : Hp} {tv : TE} {xs : List V} (h : EvL tv σ H xs) : ∀ H1, Ex H H1 → ∀ Q : VK, (∀ v H2, Ex H1 H2 → Q v H2) → tv σ H1 Q := fun H1 e Q q => h H1 e Q fun p H2 _ e2 _ => q _ H2 e2
theorem pv_U {σ : L2.St} {H : Hp} {tv : TE} {xs : List V} (h : EvU tv σ H xs) : ∀ H1, Ex H H1 → ∀ Q : VK, (∀ v H2, Ex H1 H2 → Q v H2) → tv σ H1 Q := fun H1 e Q q => h H1 e Q fun p H2 _ e2 _ => q _ H2 e2
theorem pv_D {σ : L2.St} {H : Hp} : ∀ H1, Ex H H1 → ∀ Q : VK, (∀ v H2, Ex H1 H2 → Q v H2) → tDNewK σ H1 Q := fun H1 _ Q q l hl => q _ _ (Ex.new hl)
def sp_hall (T : Tx K mg) : Sp := fun vs H Q _ => ∃ (a dx : Addr), vs = [.ref a, .int 1] ∧ H a = some (.ins T.cl_Hall dx []) ∧ ∀ fs H', Ex (Hm a H) H' → H' a = some (.ins T.cl_Hall dx fs) → Q .non H'
theorem ok_Hall_init (T : Tx K mg) : FnOk P w K mg base (L2N.CX P w) 4 T.f_Hall_init T.d_Hall_init ["self", "weight"] (sp_hall T) := by
  refine Kit.okM T.F_Hall_init sc_Hall_init (fun vs H Q E h => ?_) (fun cdv A outer s H vs Q E hr h => ?_)
  · obtain ⟨a, dx, rfl, _⟩ := h
    rfl
  · obtain ⟨a, dx, rfl, ha, k⟩ := h
    refine ⟨_, (pss_cons (ps_expr (pe_call (ok_check_weight T) (hr.mono (by decide)) (by rfl) T.g_check_weight T.F_check_weight.kp T.b_check_weight .nil Kit.passN (pa_cons (pv 1) pa_nil)))
      (PSs.nox (pss_cons (ps_fld (pv 0) (pv 1) rfl)
      (pss_cons (ps_fld (pv 0) pe_dnewK rfl)
      (pss_cons (ps_fld (pv 0) pe_int rfl)
      (pss_cons (ps_fld (pv 0) (pe_tup (pa_cons pe_int (pa_cons pe_int pa_nil))) rfl)
      (pss_one (ps_fld (pv 0) (pe_lst pa_nil) rfl)))))))), ?_⟩
    have c := T.o_Hall.cls
    refine q_chk (ea_cons (ev_var rfl) ea_nil) so_chk1 (fun _ H1 e1 => ?_) fun C hC H1 e1 => ?_
    · refine q_fldI (G := H) (pv_ev (ev_var (i := 1) rfl)) rfl (e1 a _ ha) c (T.o_Hall.na _ (by decide)) (by decide) (hm_sub.trans e1) fun v1 H2 e2 h2 => ?_
      have l1 := put_lt (f := "_weight") (v := v1) (fs := []) (n := 0) (Nat.le_refl _)
      refine q_fldI (G := H) pv_D rfl h2 c (T.o_Hall.na _ (by decide)) (by omega) e2 fun v2 H3 e3 h3 => ?_
      have l2 := put_lt (f := "_lefts") (v := v2) l1
      refine q_fldI (G := H) (pv_ev (ev_c (v := .int 0))) rfl h3 c (T.o_Hall.na _ (by decide)) (by omega) e3 fun v3 H4 e4 h4 => ?_
      have l3 := put_lt (f := "_newcomer") (v := v3) l2
      refine q_fldI (G := H) (pv_U (eu_tup (ea_cons ev_c (ea_cons ev_c ea_nil)) (Nat.le_of_ble_eq_true rfl))) rfl h4 c (T.o_Hall.na _ (by decide)) (by omega) e4 fun v4 H5 e5 h5 => ?_
      have l4 := put_lt (f := "_chance") (v := v4) l3
      exact s_fldI (G := H) (pv_L (el_lst ea_nil (Nat.le_of_ble_eq_true rfl))) rfl h5 c (T.o_Hall.na _ (by decide)) (by omega) e5 fun v5 H6 e6 h6 => k _ _ e6 h6
    · obtain ⟨z, _⟩ := due_yes hC
      exact absurd (show (1 : Int) ≤ 1 ∧ (1 : Int) ≤ 1000000000000 by decide) z
end


local macro_rules | `(tactic| walk_at "call") => `(tactic| (with_reducible exact sv_whole))

/-! ### things that are no seating -/
section
variable {K : PySem.W.Frag} {σ : L2.St} {H H' : Hp} {p : Addr} {te ta tb : TE} {t tr : TA} {R : Hp → V → Prop} {D : Ends} {tz : TS}
def EvJ (p : Addr) (R : Hp → V → Prop) (te : TE) (σ : L2.St) (H : Hp) : Prop := ∀ H1, Ex H H1 → H1 p ≠ none → ∀ Q : VK, (∀ v H2, Ex H1 H2 → R (Hm p H2) v → Q v H2) → te σ H1 Q
def EvJA (p : Addr) (R : Hp → V → Prop) (ta : TA) (σ : L2.St) (H : Hp) (n : Nat) : Prop := ∀ H1, Ex H H1 → H1 p ≠ none → ∀ Q : List V → Hp → Prop, (∀ vs H2, Ex H1 H2 → vs.length = n → (∀ v ∈ vs, R (Hm p H2) v) → Q vs H2) → ta σ H1 Q
def EvJL (p : Addr) (R : Hp → V → Prop) (te : TE) (σ : L2.St) (H : Hp) (n : Nat) : Prop := ∀ H1, Ex H H1 → H1 p ≠ none → ∀ Q : VK, (∀ l vs H2, H1 l = none → Ex H1 H2 → H2 l = some (.lst vs) → vs.length = n → (∀ v ∈ vs, R (Hm p H2) v) → Q (.ref l) H2) → te σ H1 Q
def MonoJ (R : Hp → V → Prop) : Prop := ∀ H H' v, Ex H H' → R H v → R H' v
theorem some_ex {H H' : Hp} {p : Addr} (e : Ex H H') (h : H p ≠ none) : H' p ≠ none := by
  cases hp : H p with
  | none => exact absurd hp h
  | some o =>
    rw [e p o hp]
    exact nofun
theorem hm_get {H : Hp} {p l : Addr} {o : HO} (h : H l = some o) (ne : l ≠ p) : Hm p H l = some o := by
  unfold Hm
  rw [if_neg ne]
  exact h
theorem ne_fresh {H : Hp} {p l : Addr} (h : H p ≠ none) (hl : H l = none) : l ≠ p := fun z => h (z ▸ hl)
theorem ja_nil : EvJA p R tNil σ H 0 := fun H1 _ _ _ q => q [] H1 (Ex.refl H1) rfl (by simp)
theorem ja_cons (hR : MonoJ R) {n : Nat} (h : EvJ p R te σ H) (hr : EvJA p R tr σ H n) : EvJA p R (tCons te tr) σ H (n + 1) := fun H1 e hp _ q =>
  h H1 e hp _ fun v H2 e2 hv => hr H2 (e.trans e2) (some_ex e2 hp) _ fun vs H3 e3 hl hvs => q (v :: vs) H3 (e2.trans e3) (by simp [hl]) fun x hx => by
    rcases List.mem_cons.mp hx with z | z
    · rw [z]
      exact hR _ _ _ (hm_mono e3) hv
    · exact hvs x z
theorem jl_lst (hR : MonoJ R) {n : Nat} (h : EvJA p R t σ H n) (hn : n ≤ 100000) : EvJL p R (tLst t) σ H n := fun H1 e hp Q q =>
  h H1 e hp _ fun vs H2 e2 hl hv => ⟨sz_of (by omega), fun l hl' => q l vs _ (fresh_back e2 hl') (e2.trans (Ex.new hl')) upd_same hl fun v z => hR _ _ _ (hm_mono (Ex.new hl')) (hv v z)⟩
theorem j_c {v : V} (h : Ev te σ H v) (r : ∀ H, R H v) : EvJ p R te σ H := fun H1 e _ Q q => h H1 e Q fun H2 e2 => q v H2 e2 (r _)
theorem j_L {xs : List V} (h : EvL te σ H xs) (r : ∀ a H, H a = some (.lst xs) → R H (.ref a)) : EvJ p R te σ H := fun H1 e hp Q q => h H1 e Q fun l H2 hl e2 h2 => q _ H2 e2 (r l _ (hm_get h2 (ne_fresh hp hl)))
theorem j_U {xs : List V} (h : EvU te σ H xs) (r : ∀ a H, H a = some (.tup xs) → R H (.ref a)) : EvJ p R te σ H := fun H1 e hp Q q => h H1 e Q fun l H2 hl e2 h2 => q _ H2 e2 (r l _ (hm_get h2 (ne_fresh hp hl)))
theorem j_D (r : ∀ a H, H a = some (.dK []) → R H (.ref a)) : EvJ p R tDNewK σ H := fun H1 e hp Q q l hl => q _ _ (Ex.new hl) (r l _ (hm_get upd_same (ne_fresh hp hl)))
/-- a list of one new list -/
theorem j_LL {xs : List V} (h : EvL te σ H xs) (r : ∀ a b H, H a = some (.lst [.ref b]) → H b = some (.lst xs) → R H (.ref a)) : EvJ p R (tLst (tCons te tNil)) σ H := fun H1 e hp Q q =>
  h H1 e _ fun b H2 hb e2 h2 => ⟨sz_of (Nat.le_of_ble_eq_true rfl), fun l hl => q _ _ (e2.trans (Ex.new hl)) (r l b _ (hm_get upd_same (ne_fresh (some_ex e2 hp) hl)) (hm_get (Ex.new hl b _ h2) (ne_fresh hp hb)))⟩
theorem q_asgJL {i n : Nat} (h : EvJL p R te σ H n) (hp : H p ≠ none) (q : ∀ b vs H1, H b = none → Ex H H1 → H1 b = some (.lst vs) → vs.length = n → (∀ v ∈ vs, R (Hm p H1) v) → tz D (σ.set i (some (.ref b))) H1) : tSeq (tAsg te (gName i)) tz D σ H := h H (Ex.refl H) hp _ q
end
theorem Po.some {p l : Addr} {n : Nat} {H : Hp} (h : Po p l n H) : H p ≠ none := by
  obtain ⟨_, _, _, _, _, h1, _⟩ := h
  rw [h1]
  exact nofun
/-! what is no list of guests -/
theorem judge_perm {ds : List PyData} (hj : judge (some ds) = true) : ds.all isI = true ∧ (intsOf ds).Perm (iz (List.range ds.length)) := by
  unfold judge at hj
  simp only [Bool.and_eq_true] at hj
  obtain ⟨_, hi, hs⟩ := hj
  refine ⟨hi, ?_⟩
  rw [← eqv_ints_eq hs]
  exact (sortI_perm _).symm
theorem no_item {ds : List PyData} (d : PyData) (h : d ∈ ds) (hd : isI d = false) : judge (some ds) = false := by
  cases hj : judge (some ds) with
  | false => rfl
  | true =>
    have := List.all_eq_true.mp (judge_perm hj).1 d h
    rw [hd] at this
    cases this
theorem ints_mem {ds : List PyData} {x : Int} (h : PyData.int x ∈ ds) : x ∈ intsOf ds := List.mem_map.mpr ⟨_, h, rfl⟩
theorem no_out {ds : List PyData} (x : Int) (h : PyData.int x ∈ ds) (hx : x < 0 ∨ (ds.length : Int) ≤ x) : judge (some ds) = false := by
  cases hj : judge (some ds) with
  | false => rfl
  | true =>
    have := (judge_perm hj).2.mem_iff.mp (ints_mem h)
    obtain ⟨y, hy, rfl⟩ := List.mem_map.mp this
    have := List.mem_range.mp hy
    omega
theorem no_miss {ds : List PyData} (x : Nat) (h : x < ds.length) (hx : (x : Int) ∉ intsOf ds) : judge (some ds) = false := by
  cases hj : judge (some ds) with
  | false => rfl
  | true => exact absurd ((judge_perm hj).2.mem_iff.mpr (List.mem_map.mpr ⟨x, List.mem_range.mpr h, rfl⟩)) hx
def ivD : V → PyData
  | .int i => .int i
  | _ => .none
def Sc : V → Prop
  | .non => True
  | .bl _ => True
  | .int _ => True
  | .str _ => True
  | _ => False
theorem iv_sc {H : Hp} {v : V} (h : Sc v) : Iv H v (ivD v) := by
  cases v with
  | non => exact ⟨⟨"NoneType", rfl, PySem.TypeEq.meta_NoneType, rfl⟩, nofun, nofun⟩
  | bl b => exact ⟨⟨"bool", rfl, PySem.TypeEq.meta_bool, rfl⟩, nofun, nofun⟩
  | int i => exact iv_int
  | str s => exact ⟨⟨"str", rfl, PySem.TypeEq.meta_str, rfl⟩, nofun, nofun⟩
  | _ => exact (show False from h).elim
theorem iv_lst {H : Hp} {a : Addr} {xs : List V} (h : H a = some (.lst xs)) : Iv H (.ref a) .none := ⟨⟨"list", by simp [zTyV, h], PySem.TypeEq.meta_list, rfl⟩, nofun, nofun⟩
theorem iv_tup {H : Hp} {a : Addr} {xs : List V} (h : H a = some (.tup xs)) : Iv H (.ref a) .none := ⟨⟨"tuple", by simp [zTyV, h], PySem.TypeEq.meta_tuple, rfl⟩, nofun, nofun⟩
theorem ivs_sc {H : Hp} : ∀ {xs : List V}, (∀ v ∈ xs, Sc v) → Paired (Iv H) xs (xs.map ivD)
  | [], _ => .nil
  | x :: r, h => .cons (iv_sc (h x List.mem_cons_self)) (ivs_sc fun v hv => h v (List.mem_cons_of_mem _ hv))
/-- no list of guests: why does not matter -/
def Bad (K : PySem.W.Frag) (J : Option (List PyData) → Bool) (H : Hp) (v : V) : Prop := ∃ o, Bd K H v o ∧ J o = false
theorem bad_mono {K : PySem.W.Frag} {J : Option (List PyData) → Bool} : MonoJ (Bad K J) := fun H H' v e h => h.imp fun o x => ⟨x.1.ex e, x.2⟩
section
variable {K : PySem.W.Frag} {J : Option (List PyData) → Bool} {H : Hp}
theorem bad_sc {v : V} (h : Sc v) (j : J none = false) : Bad K J H v := by
  cases v with
  | non => exact ⟨none, .ty "NoneType" rfl PySem.TypeEq.meta_NoneType (by decide), j⟩
  | bl b => exact ⟨none, .ty "bool" rfl PySem.TypeEq.meta_bool (by decide), j⟩
  | int i => exact ⟨none, .ty "int" rfl PySem.TypeEq.meta_int (by decide), j⟩
  | str s => exact ⟨none, .ty "str" rfl PySem.TypeEq.meta_str (by decide), j⟩
  | _ => exact (show False from h).elim
theorem bad_tup {a : Addr} {xs : List V} (h : H a = some (.tup xs)) (j : J none = false) : Bad K J H (.ref a) := ⟨none, .ty "tuple" (by simp [zTyV, h]) PySem.TypeEq.meta_tuple (by decide), j⟩
theorem bad_dct {a : Addr} {kvs : List (Key × V)} (h : H a = some (.dK kvs)) (j : J none = false) : Bad K J H (.ref a) := ⟨none, .dct rfl h, j⟩
theorem bad_lst {a : Addr} {xs : List V} (h : H a = some (.lst xs)) (hs : ∀ v ∈ xs, Sc v) (j : J (some (xs.map ivD)) = false) : Bad K J H (.ref a) := ⟨_, .lst rfl h (ivs_sc hs), j⟩
theorem bad_ll {a b : Addr} {xs : List V} (h : H a = some (.lst [.ref b])) (h2 : H b = some (.lst xs)) (j : J (some [.none]) = false) : Bad K J H (.ref a) := ⟨_, .lst rfl h (.cons (iv_lst h2) .nil), j⟩
end
/-- an item that no list of n guests has -/
def Wi (n : Nat) (H : Hp) (v : V) : Prop := ∃ d, Iv H v d ∧ (isI d = false ∨ ∃ x, d = .int x ∧ (x < 0 ∨ (n : Int) ≤ x))
theorem wi_mono {n : Nat} : MonoJ (Wi n) := fun H H' v e h => h.imp fun d x => ⟨x.1.ex e, x.2⟩
theorem wi_sc {n : Nat} {H : Hp} {v : V} (h : Sc v) (i : isI (ivD v) = false) : Wi n H v := ⟨_, iv_sc h, .inl i⟩
theorem wi_int {n : Nat} {H : Hp} {x : Int} (h : x < 0 ∨ (n : Int) ≤ x) : Wi n H (.int x) := ⟨_, iv_int, .inr ⟨x, rfl, h⟩⟩
theorem sc_nv (h : List Nat) : ∀ v ∈ nv h, Sc v := fun v hv => by
  rw [nv_eq] at hv
  obtain ⟨x, _, rfl⟩ := List.mem_map.mp hv
  exact True.intro
theorem iv_nv {H : Hp} (h : List Nat) : Paired (Iv H) (nv h) ((iz h).map PyData.int) := iv_ints (iz h)
theorem paired_set {α β : Type} {P : α → β → Prop} : ∀ {xs : List α} {ys : List β} {i : Nat} {x : α} {y : β}, Paired P xs ys → P x y → Paired P (xs.set i x) (ys.set i y)
  | _, _, _, _, _, .nil, _ => .nil
  | _, _, 0, _, _, .cons _ t, h => .cons h t
  | _, _, i + 1, _, _, .cons h t, h2 => .cons h (paired_set (i := i) t h2)


local macro_rules | `(tactic| walk_at "call") => `(tactic| (with_reducible exact sv_whole))

/-! ### _law_bad_seating -/
section
variable {σ : L2.St} {H0 H : Hp} {p L : Addr} {k : Nat} {te : TE}
theorem pq_ifD {n : Nat} {D : Ends} {tu tz : TS} (h : EvP p L k te σ H0 (fun v _ => ∃ b, v = .bl b)) (e : Ex H0 H) (hp : Po p L n H) (hn : n + k ≤ 1000000000) (q1 : ∀ H2, Po p L (n + k) H2 → Ex (Hm p H) H2 → tu { D with nx := tz D } σ H2) (q2 : ∀ H2, Po p L (n + k) H2 → Ex (Hm p H) H2 → tz D σ H2) :
    tSeq (tIfS (tTest te) tu tNext) tz D σ H := h n H e hp hn _ fun v H2 ⟨b, hb⟩ p2 e2 => ⟨b, hb, by
  cases b
  · exact iteF (q2 H2 p2 e2)
  · exact iteT (q1 H2 p2 e2)⟩
theorem pq_asgRg {i n : Nat} {D : Ends} {tz : TS} {C : Nat → Prop} (h : EvP p L k te σ H0 (fun v _ => ∃ r : Nat, v = .int (r : Int) ∧ r ≤ 1000 ∧ C r)) (e : Ex H0 H) (hp : Po p L n H) (hn : n + k ≤ 1000000000)
    (q : ∀ (r : Nat) l H2 H3, C r → H2 l = none → Ex H2 H3 → H3 l = some (.lst (nv (List.range r))) → Po p L (n + k) H2 → Po p L (n + k) H3 → Ex (Hm p H) H2 → tz D (σ.set i (some (.ref l))) H3) : tSeq (tAsg (tLstRg (tRg1 te)) (gName i)) tz D σ H :=
  h n H e hp hn _ fun v H2 ⟨r, hv, hr, hc⟩ p2 e2 => by
    have g := el_rg1 (tb := tC (.int (r : Int))) (σ := σ) (H := H2) ev_c (RgOk.of_le (by decide) (by omega) (by decide) (by omega)) H2 (Ex.refl _) (fun x H4 => gName i x σ H4 fun s' H' => tz D s' H') fun l H3 hl e3 h3 => q r l H2 H3 hc hl e3 (by rw [h3, range_iz]) p2 (p2.ex e3) e2
    subst hv
    exact g
theorem ep_ixJ {K : PySem.W.Frag} {R : Hp → V → Prop} {tl tb : TE} {m : Nat} (hR : MonoJ R) (h : EvJL p R tl σ H0 m) (hd : EvP p L k tb σ H0 (fun v _ => ∃ r, v = .int r ∧ 0 ≤ r ∧ r < (m : Int))) : EvP p L k (tOp (rIxL K) tl tb) σ H0 (fun v H => R (Hm p H) v) := fun n H1 e hp hn Q q =>
  h H1 e hp.some _ fun l vs H2 nl e2 hl vl hvs => hd n H2 (e.trans e2) (hp.ex e2) hn _ fun x H3 ⟨r, hx, r0, r1⟩ p3 e3 => by
    subst hx
    obtain ⟨r, rfl⟩ : ∃ z : Nat, r = z := ⟨r.toNat, by omega⟩
    obtain ⟨z, hz⟩ : ∃ z, vs[r]? = some z := ⟨_, List.getElem?_eq_getElem (by omega)⟩
    have hl3 : H3 l = some (.lst vs) := hm_at e3 (hp.ne nl) hl
    exact (rv_ixL (K := K) (sq_of hl3) (atI_nat hz)) H3 (Ex.refl _) _ fun H4 e4 => q z H4 (hR (Hm p H2) (Hm p H4) z (ex_hm (hm_trans e3 (hm_of e4)) hm_p) (hvs z (List.mem_of_getElem? hz))) (p3.ex e4) (hm_trans (hm_of e2) (hm_trans e3 (hm_of e4)))
end
theorem hm_upd {H : Hp} {p l : Addr} {o : HO} (ne : l ≠ p) : Hm p (upd H l o) = upd (Hm p H) l o := by
  funext b
  show (if b = p then none else upd H l o b) = upd (Hm p H) l o b
  by_cases h1 : b = p
  · rw [if_pos h1, upd_ne (fun z => ne (z.symm.trans h1)), h1]
    exact hm_p.symm
  · rw [if_neg h1]
    by_cases h2 : b = l
    · rw [h2, upd_same, upd_same]
    · rw [upd_ne h2, upd_ne h2]
      exact (if_neg h1).symm
theorem ret_op {σ : L2.St} {H : Hp} {D : Ends} {ta tb : TE} {r : R2} {x : V} (ha : Ev ta σ H x) (k : ∀ H1, Ex H H1 → tb σ H1 fun y H2 => r x y H2 D.rt) : tRet (tOp r ta tb) D σ H := ha H (Ex.refl H) _ k
theorem set_by {σ : L2.St} {H : Hp} {D : Ends} {tz : TS} {te ta tb : TE} {v o : V} (h : Ev te σ H v) (ho : Ev ta σ H o) (k : ∀ H1, Ex H H1 → tb σ H1 fun i H2 => rSetL o i v H2 fun H3 => tz D σ H3) : tSeq (tAsg te (gSub ta tb rSetL)) tz D σ H := h H (Ex.refl H) _ fun H1 e1 => ho H1 e1 _ fun H2 e2 => k H2 (e1.trans e2)
theorem iv_upd {H : Hp} {l : Addr} {xs ys : List V} {v : V} {d : PyData} (hl : H l = some (.lst xs)) (h : Iv H v d) : Iv (upd H l (.lst ys)) v d := by
  obtain ⟨⟨n, hn, m⟩, h2⟩ := h
  refine ⟨⟨n, ?_, m⟩, h2⟩
  cases v with
  | ref q =>
    simp only [zTyV] at hn ⊢
    by_cases z : q = l
    · subst z
      rw [hl] at hn
      rw [upd_same]
      exact hn
    · rw [upd_ne z]
      exact hn
  | _ => exact hn
def sp_bad_seating (K : PySem.W.Frag) : Sp := fun vs H Q _ => ∃ (p L : Addr) (n : Nat), vs = [.ref p] ∧ Po p L n H ∧ n + 10 < 1000000000 ∧ ∀ v H', Bad K judge (Hm p H') v → Po p L (n + 10) H' → Ex (Hm p H) H' → Q v H'
section
variable {P : Program} {w : World} {K : PySem.W.Frag} {mg : Str → Option Value} {base : Heap}
theorem j_make (T : Tx K mg) {p : Addr} {σ : L2.St} {H : Hp} (j : judge none = false) : EvJ p (Bad K judge) (tMake T.cl_Hall (sp_hall T) [.int 1] E0 tNil) σ H := fun H1 e hp Q q x dx hx hdx ne =>
  ⟨x, dx, rfl, upd_same, fun fs H' e2 h2 => by
    have eX : Ex H1 H' := fun b o hb => by
      have b1 : b ≠ x := fun z => by
        rw [z, hx] at hb
        cases hb
      have b2 : b ≠ dx := fun z => by
        rw [z, hdx] at hb
        cases hb
      refine e2 b o (hm_get ?_ b1)
      rw [upd_ne b1, upd_ne b2]
      exact hb
    exact ⟨rfl, q _ H' eX ⟨none, .own rfl (hm_get h2 (ne_fresh hp hx)) T.o_Hall.ty, j⟩⟩⟩
theorem ok_law_bad_seating (T : Tx K mg) : FnOk P w K mg base CX0 6 T.f_law_bad_seating T.d_law_bad_seating ["bag"] (sp_bad_seating K) := by
  refine T.F_law_bad_seating.ok sc_law_bad_seating (fun vs H Q E h => ?_) (fun cdv A outer s H vs Q E hr h => ?_)
  · obtain ⟨p, L, n, rfl, _⟩ := h
    rfl
  · obtain ⟨p, L, n, rfl, hpo, hn, k⟩ := h
    refine ⟨_, (pss_cons (ps_set (i := 1) sc_law_bad_seating.nd rfl (Or.inl rfl) (pe_lst (pa_cons pe_non (pa_cons (pe_tup pa_nil) (pa_cons (pe_lst pa_nil) (pa_cons pe_dnewK (pa_cons pe_int (pa_cons pe_str (pa_cons (pe_lst (pa_cons pe_non pa_nil)) (pa_cons (pe_lst (pa_cons (pe_lst (pa_cons pe_int pa_nil)) pa_nil)) (pa_cons (pe_lst (pa_cons pe_str pa_nil)) (pa_cons (pe_lst (pa_cons pe_bl pa_nil)) (pa_cons (pe_lst (pa_cons pe_int pa_nil)) (pa_cons (pe_lst (pa_cons (pe_un un_neg pe_int) pa_nil)) (pa_cons (pe_tup (pa_cons pe_int (pa_cons pe_int pa_nil))) (pa_cons (pe_lst (pa_cons pe_int (pa_cons pe_int pa_nil))) (pa_cons (pe_lst (pa_cons pe_int (pa_cons pe_int pa_nil))) (pa_cons (pe_make0 T.o_Hall.made (ok_Hall_init T) (hr.mono (by decide)) (by rfl) T.gc_Hall T.bm_Hall_init T.bv_Hall_init Kit.passE0) (pa_cons pe_bl pa_nil)))))))))))))))))))
      (pss_cons (ps_if (pt_cmpR op_eq (pe_call (ok_law_draw T) (hr.mono (by decide)) (by rfl) T.g_law_draw T.F_law_draw.kp T.b_law_draw .nil pass0 (pa_cons (pv 0) (pa_cons pe_int pa_nil))) pe_int (nomark _)) (pss_one (ps_ret (pe_ix ix_list (pv 1) (pe_call (ok_law_draw T) (hr.mono (by decide)) (by rfl) T.g_law_draw T.F_law_draw.kp T.b_law_draw .nil pass0 (pa_cons (pv 0) (pa_cons pe_int pa_nil))) (fun _ _ => rfl)))) pss_nil)
      (pss_cons (ps_set (i := 2) sc_law_bad_seating.nd rfl (Or.inl rfl) (pe_listRg rfl (by rfl) T.m_list (prg_1 (by rfl) T.m_range (pe_op op_add pe_int (pe_call (ok_law_draw T) (hr.mono (by decide)) (by rfl) T.g_law_draw T.F_law_draw.kp T.b_law_draw .nil pass0 (pa_cons (pv 0) (pa_cons pe_int pa_nil)))))))
      (pss_cons (ps_set (i := 3) sc_law_bad_seating.nd rfl (Or.inl rfl) (pe_ix ix_list (pe_lst (pa_cons pe_non (pa_cons pe_bl (pa_cons pe_str (pa_cons (pe_lst (pa_cons pe_int pa_nil)) (pa_cons (pe_un un_neg pe_int) (pa_cons (pe_tup (pa_cons pe_int pa_nil)) (pa_cons (pe_callB call_lenR (by rfl) T.m_len (by decide +kernel) (pa_cons (pv 2) pa_nil)) (pa_cons (pe_op op_powX pe_int pe_int) pa_nil))))))))) (pe_call (ok_law_draw T) (hr.mono (by decide)) (by rfl) T.g_law_draw T.F_law_draw.kp T.b_law_draw .nil pass0 (pa_cons (pv 0) (pa_cons pe_int pa_nil))) (fun _ _ => rfl)))
      (pss_cons (ps_asg (pv 3) (pg_sub (pv 2) (pe_call (ok_law_draw T) (hr.mono (by decide)) (by rfl) T.g_law_draw T.F_law_draw.kp T.b_law_draw .nil pass0 (pa_cons (pv 0) (pa_cons (pe_callB call_lenR (by rfl) T.m_len (by decide +kernel) (pa_cons (pv 2) pa_nil)) pa_nil))) set_list))
      (pss_one (ps_ret (pv 2)))))))), ?_⟩
    have jn : judge none = false := rfl
    have one : ∀ {te : TE} {σ : L2.St} {G : Hp} {v : V}, Ev te σ G v → EvL (tLst (tCons te tNil)) σ G [v] := fun h => el_lst (ea_cons h ea_nil) (Nat.le_of_ble_eq_true rfl)
    have two : ∀ {te tf : TE} {σ : L2.St} {G : Hp} {v u : V}, Ev te σ G v → Ev tf σ G u → EvL (tLst (tCons te (tCons tf tNil))) σ G [v, u] := fun h h2 => el_lst (ea_cons h (ea_cons h2 ea_nil)) (Nat.le_of_ble_eq_true rfl)
    have sc1 : ∀ {v : V}, Sc v → ∀ x ∈ [v], Sc x := fun h x hx => by rw [List.mem_singleton.mp hx]; exact h
    have sc2 : ∀ {v u : V}, Sc v → Sc u → ∀ x ∈ [v, u], Sc x := fun h h2 x hx => by
      rcases List.mem_cons.mp hx with e | hx
      · rw [e]; exact h
      · rw [List.mem_singleton.mp hx]; exact h2
    have m1 : ∀ {σ : L2.St} {G : Hp}, Ev (tUn (rU fun i => .int (-i)) (tC (.int 1))) σ G (.int (-1)) := ev_un ev_c ru_neg
    refine q_asgJL (p := p) (R := Bad K judge) (n := 17) (jl_lst bad_mono (ja_cons bad_mono (j_c ev_c fun _ => bad_sc (v := .non) True.intro jn) (ja_cons bad_mono (j_U (eu_tup ea_nil (Nat.le_of_ble_eq_true rfl)) fun _ _ h => bad_tup h jn)
      (ja_cons bad_mono (j_L (el_lst ea_nil (Nat.le_of_ble_eq_true rfl)) fun _ _ h => bad_lst h (by simp) rfl) (ja_cons bad_mono (j_D fun _ _ h => bad_dct h jn) (ja_cons bad_mono (j_c ev_c fun _ => bad_sc (v := .int 3) True.intro jn)
      (ja_cons bad_mono (j_c ev_c fun _ => bad_sc (v := .str "0 1") True.intro jn) (ja_cons bad_mono (j_L (one (v := .non) ev_c) fun _ _ h => bad_lst h (sc1 True.intro) (no_item .none (by simp [ivD]) rfl))
      (ja_cons bad_mono (j_LL (one (v := .int 0) ev_c) fun _ _ _ h h2 => bad_ll h h2 (no_item .none (by simp) rfl)) (ja_cons bad_mono (j_L (one (v := .str "0") ev_c) fun _ _ h => bad_lst h (sc1 True.intro) (no_item .none (by simp [ivD]) rfl))
      (ja_cons bad_mono (j_L (one (v := .bl true) ev_c) fun _ _ h => bad_lst h (sc1 True.intro) (no_item .none (by simp [ivD]) rfl)) (ja_cons bad_mono (j_L (one (v := .int 1) ev_c) fun _ _ h => bad_lst h (sc1 True.intro) (no_out 1 (by simp [ivD]) (by decide)))
      (ja_cons bad_mono (j_L (one (v := .int (-1)) m1) fun _ _ h => bad_lst h (sc1 True.intro) (no_out (-1) (by simp [ivD]) (by decide))) (ja_cons bad_mono (j_U (eu_tup (ea_cons ev_c (ea_cons ev_c ea_nil)) (Nat.le_of_ble_eq_true rfl)) fun _ _ h => bad_tup h jn)
      (ja_cons bad_mono (j_L (two (v := .int 0) (u := .int 0) ev_c ev_c) fun _ _ h => bad_lst h (sc2 True.intro True.intro) (no_miss 1 (by decide) (by simp [ivD, intsOf]))) (ja_cons bad_mono (j_L (two (v := .int 1) (u := .int 2) ev_c ev_c) fun _ _ h => bad_lst h (sc2 True.intro True.intro) (no_out 2 (by simp [ivD]) (by decide)))
      (ja_cons bad_mono (j_make T jn) (ja_cons bad_mono (j_c ev_c fun _ => bad_sc (v := .bl false) True.intro jn) ja_nil)))))))))))))))))
      (by decide)) hpo.some fun b vs H1 nb e1 hb vl hvs => ?_
    have bp : b ≠ p := hpo.ne nb
    have p1 := hpo.ex e1
    refine pq_ifD (p := p) (L := L) (H0 := Hm p H1) (k := 1 + 0) (ep_op (Ra := fun v _ => ∃ r, v = .int r ∧ 0 ≤ r ∧ r < 2) (Rb := fun v _ => v = .int 0) hm_p (ep_dipI hm_p (ev_var rfl) ev_c (by decide) (by decide)) (ep_ev ev_c) stb_c stb_c fun x y G ⟨r, hx, _⟩ hy => ⟨.bl (decide (V.int r = V.int 0)), ⟨_, rfl⟩, by
      subst hx
      subst hy
      exact rv_eq rfl⟩) hm_sub p1 (by omega) (fun H2 p2 e2 => ?_) fun H2 p2 e2 => ?_
    · refine ret_op (ev_var (i := 1) (v := .ref b) rfl) fun H3 e3 => ?_
      have p3 := p2.ex e3
      refine (ep_dipI (p := p) (L := L) (w := 17) (H0 := Hm p H3) hm_p (ev_var rfl) ev_c (by decide) (by decide)) _ H3 hm_sub p3 (by omega) _ fun v H4 ⟨r, hv, r0, r1⟩ p4 e4 => ?_
      subst hv
      have e24 := hm_trans (hm_trans e2 (hm_of e3)) e4
      have hb4 : H4 b = some (.lst vs) := hm_at e24 bp hb
      obtain ⟨r, rfl⟩ : ∃ z : Nat, r = z := ⟨r.toNat, by omega⟩
      obtain ⟨z, hz⟩ : ∃ z, vs[r]? = some z := ⟨_, List.getElem?_eq_getElem (by omega)⟩
      refine (rv_ixL (K := K) (sq_of hb4) (atI_nat hz)) H4 (Ex.refl _) _ fun H5 e5 => ?_
      have e15 := hm_trans e24 (hm_of e5)
      refine k _ _ (bad_mono (Hm p H1) (Hm p H5) z (ex_hm e15 hm_p) (hvs z (List.mem_of_getElem? hz))) ((p4.ex e5).mono (by omega)) (hm_trans (hm_of e1) e15)
    · have e12 := hm_trans (hm_of e1) e2
      refine pq_asgRg (p := p) (L := L) (k := 0 + 1) (H0 := Hm p H2) (C := fun r => 1 ≤ r ∧ r ≤ 20) (ep_is (ep_add (a := 1) (C := fun r => 0 ≤ r ∧ r < 20) hm_p ev_c (ep_dipI hm_p (ev_var rfl) ev_c (by decide) (by decide))) fun v _ ⟨r, hv, r0, r1⟩ => ⟨(1 + r).toNat, by rw [hv]; congr 1; omega, by omega, by omega⟩) hm_sub p2 (by omega) fun m l H3 H4 hm nl e4 hl p3 p4 e3 => ?_
      obtain ⟨ma, mb⟩ := hm
      have lp : l ≠ p := p3.ne nl
      have lL : l ≠ L := p3.nl nl
      have nlH : H l = none := by
        have := fresh_back (hm_trans e12 e3) nl
        unfold Hm at this
        rw [if_neg lp] at this
        exact this
      have p30 : ∀ {σ : L2.St} {G : Hp}, Ev (tOp (rI CPowX fun i j => .int (i ^ j.toNat)) (tC (.int 10)) (tC (.int 30))) σ G (.int 1000000000000000000000000000000) := ev_op ev_c ev_c (rv_I (by constructor <;> decide +kernel))
      have ln : Ev (tCB (rLenS K) (tCons (tVar 2) tNil)) [some (.ref p), some (.ref b), some (.ref l), none] H4 (.int (m : Int)) := ev_is (ev_len (K := K) (ev_var rfl) (sq_of hl)) (by rw [nv_len, List.length_range])
      have lnm : Ev (tCB (rLenS K) (tCons (tVar 2) tNil)) [some (.ref p), some (.ref b), some (.ref l), none] (Hm p H4) (.int (m : Int)) := ev_is (ev_len (K := K) (ev_var rfl) (sq_of (hm_get hl lp))) (by rw [nv_len, List.length_range])
      refine pq_asg (p := p) (L := L) (k := 1) (H0 := Hm p H4) (R := fun v G => Wi m (Hm p G) v) (ep_ixJ (K := K) (m := 8) wi_mono (jl_lst wi_mono (ja_cons wi_mono (j_c ev_c fun _ => wi_sc (v := .non) True.intro rfl) (ja_cons wi_mono (j_c ev_c fun _ => wi_sc (v := .bl true) True.intro rfl) (ja_cons wi_mono (j_c ev_c fun _ => wi_sc (v := .str "0") True.intro rfl)
        (ja_cons wi_mono (j_L (one (v := .int 0) ev_c) fun _ _ h => ⟨_, iv_lst h, .inl rfl⟩) (ja_cons wi_mono (j_c m1 fun _ => wi_int (.inl (by decide))) (ja_cons wi_mono (j_U (eu_tup (ea_cons (ev_c (v := .int 0)) ea_nil) (Nat.le_of_ble_eq_true rfl)) fun _ _ h => ⟨_, iv_tup h, .inl rfl⟩)
        (ja_cons wi_mono (j_c lnm fun _ => wi_int (.inr (Int.le_refl _))) (ja_cons wi_mono (j_c p30 fun _ => wi_int (.inr (by omega))) ja_nil)))))))) (by decide)) (ep_dipI hm_p (ev_var rfl) ev_c (by decide) (by decide))) hm_sub p4 (by omega) fun v H5 hv p5 e5 => ?_
      have hl5 : H5 l = some (.lst (nv (List.range m))) := hm_at e5 lp hl
      -- found[draw] = wrong
      refine set_by (ev_var (i := 3) (v := v) rfl) (ev_var (i := 2) (v := .ref l) rfl) fun H7 e67 => ?_
      have hl7 := e67 l _ hl5
      refine (ep_dipI (p := p) (L := L) (w := (m : Int)) (H0 := Hm p H7) (σ := [some (.ref p), some (.ref b), some (.ref l), some v]) hm_p (ev_var rfl) (ev_is (ev_len (K := K) (ev_var (i := 2) rfl) (sq_of (hm_get hl7 lp))) (by rw [nv_len, List.length_range])) (by omega) (by omega)) _ H7 hm_sub (p5.ex e67) (by omega) _ fun x H8 ⟨r, hx, r0, r1⟩ p8 e8 => ?_
      subst hx
      obtain ⟨r, rfl⟩ : ∃ z : Nat, r = z := ⟨r.toNat, by omega⟩
      have hl8 : H8 l = some (.lst (nv (List.range m))) := hm_at e8 lp hl7
      refine ⟨l, _, (r : Int), r, rfl, rfl, hl8, ixN_nat (by rw [nv_len, List.length_range]; omega), ?_⟩
      refine s_ret (ev_var (i := 2) rfl) fun H9 e9 => ?_
      have e58 := hm_trans (hm_of e67) e8
      have eA : Ex (Hm p H) H8 := hm_trans (hm_trans e12 e3) (hm_trans (hm_of e4) (hm_trans e5 e58))
      refine k _ _ ?_ (((p8.upd lp lL).ex e9).mono (by omega)) ((Ex.mut eA (by unfold Hm; rw [if_neg lp]; exact nlH)).trans e9)
      refine bad_mono _ _ _ (hm_mono e9) ?_
      rw [hm_upd lp]
      have hv8 : Wi m (Hm p H8) v := wi_mono _ _ _ (ex_hm e58 hm_p) hv
      obtain ⟨d, hd, why⟩ := hv8
      have hlm := hm_get hl8 lp
      have dl : (((iz (List.range m)).map PyData.int).set r d).length = m := by simp [iz]
      have dm : d ∈ ((iz (List.range m)).map PyData.int).set r d := List.mem_iff_getElem?.mpr ⟨r, by rw [List.getElem?_set_self (by simp [iz]; omega)]⟩
      refine ⟨_, .lst (ds := ((iz (List.range m)).map PyData.int).set r d) rfl upd_same (paired_set (iv_nv _) (iv_upd hlm hd)), ?_⟩
      rcases why with z | ⟨x, rfl, z⟩
      · exact no_item d dm z
      · exact no_out x dm (by rw [dl]; exact z)
end


local macro_rules | `(tactic| walk_at "call") => `(tactic| (with_reducible exact sv_whole))

/-! ### _law_named, _law_asked, _law_counted -/
section
variable {σ : L2.St} {H : Hp} {D : Ends} {te tf : TE} {t : TA} {vs : List V} {sp : Sp}
theorem ret_of (h : te σ H D.rt) : tRet te D σ H := h
theorem s_chkIS {C : Addr → Sp → Prop} {due : Option Addr} {W : WX} {f : Addr} (hf : Ev tf σ H (.ref f)) (hC : C f sp) (ha : ∀ H1, Ex H H1 → EvA t σ H1 vs) (hs : SpO sp (vs ++ []) H due) (k : due = none → ∀ H1, Ex H H1 → D.nx σ H1) (ke : ∀ C, due = some C → ∀ H1, Ex H H1 → W (.ref C) none σ H1) :
    tDrop (tCallIS C (WE W) tf t) D σ H := hf H (Ex.refl H) _ fun H1 e1 => ⟨f, sp, rfl, hC, ha H1 e1 H1 (Ex.refl _) _ fun H2 e2 => hs H2 (e1.trans e2) _ _ ⟨fun z v H3 e3 => k z H3 ((e1.trans e2).trans e3), fun C z H3 e3 => ke C z H3 ((e1.trans e2).trans e3)⟩⟩
end
def vO : Option Nat → V
  | none => .non
  | some i => .int (i : Int)
section
variable {P : Program} {w : World} {K : PySem.W.Frag} {mg : Str → Option Value} {base : Heap}
theorem er_is (T : Tx K mg) {i : Nat} (hi : i < 6) : ExcD K (erA T i) ∧ PySem.W.exmOne K (.ref (erA T i)) (.ref T.cl_HallError) = some true ∧ ∀ j, j < 6 → PySem.W.kitOne K (.ref (erA T i)) (.ref (erA T j)) = some (decide (j = i)) := by
  have : i = 0 ∨ i = 1 ∨ i = 2 ∨ i = 3 ∨ i = 4 ∨ i = 5 := by omega
  rcases this with rfl | rfl | rfl | rfl | rfl | rfl
  · refine ⟨T.e_InvalidSeating, T.x_InvalidSeating, fun j hj => ?_⟩
    have : j = 0 ∨ j = 1 ∨ j = 2 ∨ j = 3 ∨ j = 4 ∨ j = 5 := by omega
    rcases this with rfl | rfl | rfl | rfl | rfl | rfl <;> exact isRow_at T.t_InvalidSeating (by simp [erA])
  · refine ⟨T.e_InvalidComing, T.x_InvalidComing, fun j hj => ?_⟩
    have : j = 0 ∨ j = 1 ∨ j = 2 ∨ j = 3 ∨ j = 4 ∨ j = 5 := by omega
    rcases this with rfl | rfl | rfl | rfl | rfl | rfl <;> exact isRow_at T.t_InvalidComing (by simp [erA])
  · refine ⟨T.e_InvalidGuests, T.x_InvalidGuests, fun j hj => ?_⟩
    have : j = 0 ∨ j = 1 ∨ j = 2 ∨ j = 3 ∨ j = 4 ∨ j = 5 := by omega
    rcases this with rfl | rfl | rfl | rfl | rfl | rfl <;> exact isRow_at T.t_InvalidGuests (by simp [erA])
  · refine ⟨T.e_InvalidWeight, T.x_InvalidWeight, fun j hj => ?_⟩
    have : j = 0 ∨ j = 1 ∨ j = 2 ∨ j = 3 ∨ j = 4 ∨ j = 5 := by omega
    rcases this with rfl | rfl | rfl | rfl | rfl | rfl <;> exact isRow_at T.t_InvalidWeight (by simp [erA])
  · refine ⟨T.e_InvalidGuest, T.x_InvalidGuest, fun j hj => ?_⟩
    have : j = 0 ∨ j = 1 ∨ j = 2 ∨ j = 3 ∨ j = 4 ∨ j = 5 := by omega
    rcases this with rfl | rfl | rfl | rfl | rfl | rfl <;> exact isRow_at T.t_InvalidGuest (by simp [erA])
  · refine ⟨T.e_NoSeating, T.x_NoSeating, fun j hj => ?_⟩
    have : j = 0 ∨ j = 1 ∨ j = 2 ∨ j = 3 ∨ j = 4 ∨ j = 5 := by omega
    rcases this with rfl | rfl | rfl | rfl | rfl | rfl <;> exact isRow_at T.t_NoSeating (by simp [erA])
def sp_law_named (T : Tx K mg) : Addr → Value → Option Addr → Sp := fun a cls d vs H Q _ => ∃ i : Nat, i < 6 ∧ cls = .ref (erA T i) ∧ d = none ∧ vs = [.ref a] ∧ RetV (.int (i : Int)) H Q
theorem ok_law_named (T : Tx K mg) : FnP P w K mg base CX0 1 T.f_law_named T.d_law_named ["e"] (sp_law_named T) := by
  refine Kit.okP T.F_law_named sc_law_named (fun a cls d vs H Q E h => ?_) (fun cdv A outer s H vs Q E p cls d hot hz hr h => ?_)
  · obtain ⟨i, _, _, _, rfl, _⟩ := h
    rfl
  · obtain ⟨i, hi, rfl, rfl, rfl, k⟩ := h
    have hf : ∃ vs, p.2.data = .fields vs := hot.2.imp fun vs e => e.1
    have hp : p ∈ [p] := List.mem_cons_self
    obtain ⟨hC, _, hk⟩ := er_is T hi
    generalize hCe : erA T i = C at hC hk hz
    refine ⟨_, (pss_cons (ps_set (i := 1) sc_law_named.nd rfl (Or.inl rfl) (pe_lst (pa_cons (pe_callB (id := "isinstance") (r := rIsE K C p.1) (Kit.call_isP hC hp hz hf) (by rfl) T.m_isinstance (by decide +kernel) (pa_cons (pv 0) (pa_cons (pe_gc (v := .ref T.cl_InvalidSeating) (by rfl) ⟨_, T.gc_InvalidSeating, rfl⟩) pa_nil))) (pa_cons (pe_callB (id := "isinstance") (r := rIsE K C p.1) (Kit.call_isP hC hp hz hf) (by rfl) T.m_isinstance (by decide +kernel) (pa_cons (pv 0) (pa_cons (pe_gc (v := .ref T.cl_InvalidComing) (by rfl) ⟨_, T.gc_InvalidComing, rfl⟩) pa_nil))) (pa_cons (pe_callB (id := "isinstance") (r := rIsE K C p.1) (Kit.call_isP hC hp hz hf) (by rfl) T.m_isinstance (by decide +kernel) (pa_cons (pv 0) (pa_cons (pe_gc (v := .ref T.cl_InvalidGuests) (by rfl) ⟨_, T.gc_InvalidGuests, rfl⟩) pa_nil))) pa_nil)))))
      (pss_cons (ps_set (i := 1) sc_law_named.nd rfl (Or.inl rfl) (pe_op op_cat (pv 1) (pe_lst (pa_cons (pe_callB (id := "isinstance") (r := rIsE K C p.1) (Kit.call_isP hC hp hz hf) (by rfl) T.m_isinstance (by decide +kernel) (pa_cons (pv 0) (pa_cons (pe_gc (v := .ref T.cl_InvalidWeight) (by rfl) ⟨_, T.gc_InvalidWeight, rfl⟩) pa_nil))) (pa_cons (pe_callB (id := "isinstance") (r := rIsE K C p.1) (Kit.call_isP hC hp hz hf) (by rfl) T.m_isinstance (by decide +kernel) (pa_cons (pv 0) (pa_cons (pe_gc (v := .ref T.cl_InvalidGuest) (by rfl) ⟨_, T.gc_InvalidGuest, rfl⟩) pa_nil))) (pa_cons (pe_callB (id := "isinstance") (r := rIsE K C p.1) (Kit.call_isP hC hp hz hf) (by rfl) T.m_isinstance (by decide +kernel) (pa_cons (pv 0) (pa_cons (pe_gc (v := .ref T.cl_NoSeating) (by rfl) ⟨_, T.gc_NoSeating, rfl⟩) pa_nil))) pa_nil))))))
      (pss_one (ps_ret (pe_bm PySem.F.plainAttrs_list PySem.F.slot_list_index PySem.F.type_list_index mt_index (pe_op op_cat (pv 1) (pe_lst (pa_cons pe_bl pa_nil))) (pa_cons pe_bl pa_nil)))))), ?_⟩
    have ref : ∀ (b : Addr) (u : Value), RelV (.ref b) u → u = .ref b := fun b u r => r
    refine q_asgL (xs := [V.bl (decide (0 = i)), .bl (decide (1 = i)), .bl (decide (2 = i))]) (el_lst (ea_cons (ev_isP (ev_var rfl) ev_c (ref _) (hk 0 (by decide))) (ea_cons (ev_isP (ev_var rfl) ev_c (ref _) (hk 1 (by decide))) (ea_cons (ev_isP (ev_var rfl) ev_c (ref _) (hk 2 (by decide))) ea_nil))) (Nat.le_of_ble_eq_true rfl)) fun m0 H1 hm0 e1 h1 => ?_
    refine q_asgL (xs := [V.bl (decide (0 = i)), .bl (decide (1 = i)), .bl (decide (2 = i))] ++ [V.bl (decide (3 = i)), .bl (decide (4 = i)), .bl (decide (5 = i))]) (el_catO (ev_var rfl) h1 (el_lst (ea_cons (ev_isP (ev_var rfl) ev_c (ref _) (hk 3 (by decide))) (ea_cons (ev_isP (ev_var rfl) ev_c (ref _) (hk 4 (by decide))) (ea_cons (ev_isP (ev_var rfl) ev_c (ref _) (hk 5 (by decide))) ea_nil))) (Nat.le_of_ble_eq_true rfl)) (Nat.le_of_ble_eq_true rfl)) fun m H3 hm e2 h3 => ?_
    have e3 := e1.trans e2
    have ci : i = 0 ∨ i = 1 ∨ i = 2 ∨ i = 3 ∨ i = 4 ∨ i = 5 := by omega
    refine ret_of ?_
    refine (el_catO (xs := [V.bl (decide (0 = i)), .bl (decide (1 = i)), .bl (decide (2 = i)), .bl (decide (3 = i)), .bl (decide (4 = i)), .bl (decide (5 = i))]) (ys := [V.bl true]) (ev_var (i := 1) rfl) h3 (el_lst (ea_cons ev_c ea_nil) (Nat.le_of_ble_eq_true rfl)) (Nat.le_of_ble_eq_true rfl)) H3 (Ex.refl _) _ fun q H4 nq e4 hq => ?_
    have g := ev_indexF (K := K) (y := .bl true) (ta := tC (.ref q)) (te := tC (.bl true)) (σ := [some (V.ref p.1), some (.ref m)]) (H := H4) i ev_c hq ev_c rfl rfl ?_ ?_
    · exact g H4 (Ex.refl _) _ fun H5 e5 => k _ (e3.trans (e4.trans e5))
    · rcases ci with rfl | rfl | rfl | rfl | rfl | rfl <;> exact ⟨_, rfl, rfl⟩
    · intro j z hj hz
      have cj : j = 0 ∨ j = 1 ∨ j = 2 ∨ j = 3 ∨ j = 4 ∨ j = 5 := by omega
      rcases ci with rfl | rfl | rfl | rfl | rfl | rfl <;> rcases cj with rfl | rfl | rfl | rfl | rfl | rfl <;> first | omega | (cases hz; rfl)
def dX : Nat → Option (List PyData) → Int → Option Nat
  | 0 => dWo
  | 1 => dCw
  | 2 => dSi
  | 3 => dSi
  | 4 => dJo
  | _ => fun o _ => dTl o
theorem dWo_lt {o : Option (List PyData)} {x : Int} {i : Nat} (h : dWo o x = some i) : i < 6 := by
  unfold dWo at h
  repeat' (split at h)
  all_goals first | (cases h; done) | (have := Option.some.inj h; omega)
theorem dCw_lt {o : Option (List PyData)} {x : Int} {i : Nat} (h : dCw o x = some i) : i < 6 := by
  unfold dCw at h
  repeat' (split at h)
  all_goals first | (cases h; done) | (have := Option.some.inj h; omega)
theorem dSi_lt {o : Option (List PyData)} {x : Int} {i : Nat} (h : dSi o x = some i) : i < 6 := by
  unfold dSi at h
  repeat' (split at h)
  all_goals first | (cases h; done) | (have := Option.some.inj h; omega)
theorem dJo_lt {o : Option (List PyData)} {x : Int} {i : Nat} (h : dJo o x = some i) : i < 6 := by
  unfold dJo at h
  repeat' (split at h)
  all_goals first | (cases h; done) | (have := Option.some.inj h; omega)
theorem dTl_lt {o : Option (List PyData)} {i : Nat} (h : dTl o = some i) : i < 6 := by
  unfold dTl at h
  repeat' (split at h)
  all_goals first | (cases h; done) | (have := Option.some.inj h; omega)
theorem dX_lt : ∀ {n : Nat} {o : Option (List PyData)} {x : Int} {i : Nat}, dX n o x = some i → i < 6
  | 0, _, _, _, h => dWo_lt h
  | 1, _, _, _, h => dCw_lt h
  | 2, _, _, _, h => dSi_lt h
  | 3, _, _, _, h => dSi_lt h
  | 4, _, _, _, h => dJo_lt h
  | _ + 5, _, _, _, h => dTl_lt h
def sp_law_asked (K : PySem.W.Frag) : Sp := fun vs H Q _ => ∃ (n : Nat) (v : V) (o : Option (List PyData)) (x : Int), vs = [.int (n : Int), v, .int x] ∧ n < 6 ∧ Bd K H v o ∧ RetV (vO (dX n o x)) H Q
theorem sv_asked {H : Hp} {n : Nat} {v : V} {o : Option (List PyData)} {x : Int} {z : V} (hn : n < 6) (h : Bd K H v o) (e : vO (dX n o x) = z) : SpV (sp_law_asked K) ([.int (n : Int), v, .int x] ++ []) H z := fun H1 e1 Q q E => ⟨n, v, o, x, rfl, hn, h.ex e1, by rw [e]; exact q⟩
theorem ok_law_asked (T : Tx K mg) : FnOk P w K mg base CX0 8 T.f_law_asked T.d_law_asked ["way", "some", "k"] (sp_law_asked K) := by
  refine T.F_law_asked.ok sc_law_asked (fun vs H Q E h => ?_) (fun cdv A outer s H vs Q E hr h => ?_)
  · obtain ⟨n, v, o, x, rfl, _⟩ := h
    rfl
  · obtain ⟨n, v, o, x, rfl, hn, hv, k⟩ := h
    refine ⟨_, (pss_cons (L2N.ps_try_as (i := 3) (ts := fun a cls d => tRet (tCallP (sp_law_named T) a cls d (tCons (tVar 3) tNil))) rfl rfl sc_law_asked.nd rfl rfl ⟨rfl, by decide, .inl T.gc_HallError⟩ Kit.takes0N (fun W pn xe tk _ => (pss_one (ps_if (pt_cmpR op_lt (pv 0) pe_int (nomark _)) (pss_one (ps_expr (Kit.pe_callIS (Kit.cN_or (ok_without T) (hr.mono (by decide)) T.F_without.kp T.b_without (Kit.cN_or (ok_coming_without T) (hr.mono (by decide)) T.F_coming_without.kp T.b_coming_without (Kit.cN_or (ok_sits_alone T) (hr.mono (by decide)) T.F_sits_alone.kp T.b_sits_alone (Kit.cN_or (ok_is_traceless T) (hr.mono (by decide)) T.F_is_traceless.kp T.b_is_traceless (Kit.cN_one (ok_joined T) (hr.mono (by decide)) T.F_joined.kp T.b_joined))))) (fun σ => L2N.passAt tk σ) (pe_ix (r := rIxL K) ix_list (pe_lst (pa_cons (pe_gc (v := .ref T.f_without) (by rfl) ⟨_, T.g_without, rfl⟩) (pa_cons (pe_gc (v := .ref T.f_coming_without) (by rfl) ⟨_, T.g_coming_without, rfl⟩) (pa_cons (pe_gc (v := .ref T.f_sits_alone) (by rfl) ⟨_, T.g_sits_alone, rfl⟩) (pa_cons (pe_gc (v := .ref T.f_is_traceless) (by rfl) ⟨_, T.g_is_traceless, rfl⟩) (pa_cons (pe_gc (v := .ref T.f_joined) (by rfl) ⟨_, T.g_joined, rfl⟩) pa_nil)))))) (pv 0) (fun _ _ => rfl)) (pa_cons (pv 1) (pa_cons (pv 2) pa_nil))))) (pss_one (ps_expr (pe_callS (ok_traceless T) (hr.mono (by decide)) (by rfl) T.g_traceless T.F_traceless.kp T.b_traceless (fun σ => L2N.passAt tk σ) (pa_cons (pv 1) pa_nil))))))) (fun a oe cls d pn hz hf => (pss_one (ps_ret (by exact (Kit.pe_callP (p := (a, oe)) (ok_law_named T) (Kit.roomS (hr.mono (by decide))) (Kit.hot_suite hz hf) hz.zc List.mem_cons_self (by rfl) T.g_law_named T.F_law_named.kp T.b_law_named (pa_cons (pv 3) pa_nil)))))))
      (pss_one (ps_ret pe_non))), ?_⟩
    refine unseq ?_
    have fine : dX n o x = none → ∀ (H2 : Hp) (D : Ends), Ex H H2 → D.rt = Q → tRet (tC .non) D [some (.int (n : Int)), some v, some (.int x), none] H2 := fun hd H2 D e2 hD => by
      refine s_ret ev_c fun H3 e3 => ?_
      rw [hd] at k
      rw [hD]
      exact k _ (e2.trans e3)
    have bad : ∀ (C : Addr) (H2 : Hp) (D : Ends), (dX n o x).map (erA T) = some C → Ex H H2 → D.rt = Q → wAs K (.ref T.cl_HallError) 3 (fun a cls d => tRet (tCallP (sp_law_named T) a cls d (tCons (tVar 3) tNil))) (fun _ _ _ _ => False) D (.ref C) none [some (.int (n : Int)), some v, some (.int x), none] H2 := fun C H2 D hC e2 hD => by
      cases hd : dX n o x with
      | none => rw [hd] at hC; cases hC
      | some i =>
        rw [hd] at hC k
        cases hC
        have hi := dX_lt hd
        obtain ⟨_, hx, _⟩ := er_is T hi
        refine ⟨true, hx, fun _ a ha => ?_, fun z => nomatch z⟩
        refine ⟨_, rfl, i, hi, rfl, rfl, rfl, fun H3 e3 => ?_⟩
        rw [hD]
        exact k _ (e2.trans e3)
    by_cases h5 : n < 5
    · refine s_if (b := true) (et_is (et_test (ev_op (ev_var rfl) ev_c rv_I0)) (by rw [decide_eq_true_iff]; omega)) (fun _ H1 e1 => ?_) (fun z => Bool.noConfusion z)
      have go : ∀ (f : Addr) (sp : Sp), Ev (tOp (rIxL K) (tLst (tCons (tC (.ref T.f_without)) (tCons (tC (.ref T.f_coming_without)) (tCons (tC (.ref T.f_sits_alone)) (tCons (tC (.ref T.f_is_traceless)) (tCons (tC (.ref T.f_joined)) tNil)))))) (tVar 0)) [some (.int (n : Int)), some v, some (.int x), none] H1 (.ref f) → True := fun _ _ _ => True.intro
      have tf : ∀ f : Addr, [V.ref T.f_without, .ref T.f_coming_without, .ref T.f_sits_alone, .ref T.f_is_traceless, .ref T.f_joined][n]? = some (.ref f) → Ev (tOp (rIxL K) (tLst (tCons (tC (.ref T.f_without)) (tCons (tC (.ref T.f_coming_without)) (tCons (tC (.ref T.f_sits_alone)) (tCons (tC (.ref T.f_is_traceless)) (tCons (tC (.ref T.f_joined)) tNil)))))) (tVar 0)) [some (.int (n : Int)), some v, some (.int x), none] H1 (.ref f) := fun f hf =>
        ev_opL1 (el_lst (ea_cons ev_c (ea_cons ev_c (ea_cons ev_c (ea_cons ev_c (ea_cons ev_c ea_nil))))) (Nat.le_of_ble_eq_true rfl)) (fun H5 e5 => ev_var rfl) fun q H5 hq e5 => rv_ixL (sq_of hq) (atI_nat hf)
      have : n = 0 ∨ n = 1 ∨ n = 2 ∨ n = 3 ∨ n = 4 := by omega
      rcases this with rfl | rfl | rfl | rfl | rfl
      · exact s_chkIS (vs := [v, .int x]) (due := (dX 0 o x).map (erA T)) (tf _ rfl) (.inl ⟨rfl, rfl⟩) (fun H2 e2 => ea_cons (ev_var rfl) (ea_cons (ev_var rfl) ea_nil)) (fun H2 e2 Q E q => ⟨v, o, x, rfl, hv.ex (e1.trans e2), q⟩) (fun hd H3 e3 => fine (by simpa using hd) H3 { nx := fun _ H' => Q .non H', rt := Q } (e1.trans e3) rfl) fun C hC H3 e3 => bad C H3 _ hC (e1.trans e3) rfl
      · exact s_chkIS (vs := [v, .int x]) (due := (dX 1 o x).map (erA T)) (tf _ rfl) (.inr (.inl ⟨rfl, rfl⟩)) (fun H2 e2 => ea_cons (ev_var rfl) (ea_cons (ev_var rfl) ea_nil)) (fun H2 e2 Q E q => ⟨v, o, x, rfl, hv.ex (e1.trans e2), q⟩) (fun hd H3 e3 => fine (by simpa using hd) H3 { nx := fun _ H' => Q .non H', rt := Q } (e1.trans e3) rfl) fun C hC H3 e3 => bad C H3 _ hC (e1.trans e3) rfl
      · exact s_chkIS (vs := [v, .int x]) (due := (dX 2 o x).map (erA T)) (tf _ rfl) (.inr (.inr (.inl ⟨rfl, rfl⟩))) (fun H2 e2 => ea_cons (ev_var rfl) (ea_cons (ev_var rfl) ea_nil)) (fun H2 e2 Q E q => ⟨v, o, x, rfl, hv.ex (e1.trans e2), q⟩) (fun hd H3 e3 => fine (by simpa using hd) H3 { nx := fun _ H' => Q .non H', rt := Q } (e1.trans e3) rfl) fun C hC H3 e3 => bad C H3 _ hC (e1.trans e3) rfl
      · exact s_chkIS (vs := [v, .int x]) (due := (dX 3 o x).map (erA T)) (tf _ rfl) (.inr (.inr (.inr (.inl ⟨rfl, rfl⟩)))) (fun H2 e2 => ea_cons (ev_var rfl) (ea_cons (ev_var rfl) ea_nil)) (fun H2 e2 Q E q => ⟨v, o, x, rfl, hv.ex (e1.trans e2), q⟩) (fun hd H3 e3 => fine (by simpa using hd) H3 { nx := fun _ H' => Q .non H', rt := Q } (e1.trans e3) rfl) fun C hC H3 e3 => bad C H3 _ hC (e1.trans e3) rfl
      · exact s_chkIS (vs := [v, .int x]) (due := (dX 4 o x).map (erA T)) (tf _ rfl) (.inr (.inr (.inr (.inr ⟨rfl, rfl⟩)))) (fun H2 e2 => ea_cons (ev_var rfl) (ea_cons (ev_var rfl) ea_nil)) (fun H2 e2 Q E q => ⟨v, o, x, rfl, hv.ex (e1.trans e2), q⟩) (fun hd H3 e3 => fine (by simpa using hd) H3 { nx := fun _ H' => Q .non H', rt := Q } (e1.trans e3) rfl) fun C hC H3 e3 => bad C H3 _ hC (e1.trans e3) rfl
    · have n5 : n = 5 := by omega
      subst n5
      refine s_if (b := false) (et_is (et_test (ev_op (ev_var rfl) ev_c rv_I0)) (by decide)) (fun z => Bool.noConfusion z) fun _ H1 e1 => ?_
      refine s_chkS (due := (dX 5 o x).map (erA T)) (vs := [v]) (ea_cons (ev_var rfl) ea_nil) (fun H2 e2 Q E q => ⟨v, o, rfl, hv.ex (e1.trans e2), fun hj H3 e3 => q.yes _ (by show (dTl o).map _ = _; unfold dTl; rw [if_neg (by rw [hj]; exact Bool.false_ne_true)]; rfl) _ e3, fun hj => ?_⟩) (fun hd H3 e3 => fine (by simpa using hd) H3 { nx := fun _ H' => Q .non H', rt := Q } (e1.trans e3) rfl) fun C hC H3 e3 => bad C H3 _ hC (e1.trans e3) rfl
      obtain ⟨a, h, rfl, ha, oh⟩ := judge_yes (hv.ex (e1.trans e2)) hj
      obtain ⟨c, oc, cl, hc⟩ := ord_cm oh
      exact ⟨a, c, rfl, by rw [ha, hc], oc, fun p H3 np e3 hp => q.no (by show (dTl o).map _ = _; unfold dTl; rw [if_pos hj]; rfl) _ _ e3⟩
end


local macro_rules | `(tactic| walk_at "call") => `(tactic| (with_reducible exact sv_whole))

def sp_law_counted : Sp := fun vs H Q _ => ∃ n x g : Int, vs = [.int n, .int x, .int g] ∧ RetL [vO (dSh n x g), vO (dTc n x)] H Q
theorem sl_counted {H : Hp} {n x g : Int} {a b : V} (h1 : vO (dSh n x g) = a) (h2 : vO (dTc n x) = b) : SpL sp_law_counted ([.int n, .int x, .int g] ++ []) H [a, b] := fun H1 e Q q E => ⟨n, x, g, rfl, by rw [h1, h2]; exact q⟩
theorem dSh_lt {n x g : Int} {i : Nat} (h : dSh n x g = some i) : i < 6 := by
  unfold dSh at h
  repeat' (split at h)
  all_goals first | (cases h; done) | (have := Option.some.inj h; omega)
theorem dTc_lt {n x : Int} {i : Nat} (h : dTc n x = some i) : i < 6 := by
  unfold dTc at h
  repeat' (split at h)
  all_goals first | (cases h; done) | (have := Option.some.inj h; omega)
section
variable {P : Program} {w : World} {K : PySem.W.Frag} {mg : Str → Option Value} {base : Heap}
theorem ok_law_counted (T : Tx K mg) : FnOk P w K mg base CX0 6 T.f_law_counted T.d_law_counted ["wide", "w", "k"] sp_law_counted := by
  refine T.F_law_counted.ok sc_law_counted (fun vs H Q E h => ?_) (fun cdv A outer s H vs Q E hr h => ?_)
  · obtain ⟨n, x, g, rfl, _⟩ := h
    rfl
  · obtain ⟨n, x, g, rfl, k⟩ := h
    refine ⟨_, (pss_cons (ps_set (i := 3) sc_law_counted.nd rfl (Or.inl rfl) (pe_lst pa_nil))
      (pss_cons (ps_for PassesOwn.never rfl (pi_range1 (by rfl) T.m_range (pa_cons pe_int pa_nil)) (pg_name (i := 4) sc_law_counted.nd rfl (Or.inl rfl)) (pss_one (L2N.ps_try_as (i := 5) (ts := fun a cls d => tDrop (tBM K "list" rAppend (tVar 3) (tCons (tCallP (sp_law_named T) a cls d (tCons (tVar 5) tNil)) tNil))) rfl rfl sc_law_counted.nd rfl rfl ⟨rfl, by decide, .inl T.gc_HallError⟩ Kit.takes0N (fun W pn xe tk _ => (pss_cons (ps_if (pt_cmpR op_eq (pv 4) pe_int (nomark _)) (pss_one (ps_expr (pe_callS (ok_traceless_share T) (hr.mono (by decide)) (by rfl) T.g_traceless_share T.F_traceless_share.kp T.b_traceless_share (fun σ => L2N.passAt tk σ) (pa_cons (pv 0) (pa_cons (pv 1) (pa_cons (pv 2) pa_nil)))))) (pss_one (ps_expr (pe_callS (ok_traceless_counts T) (hr.mono (by decide)) (by rfl) T.g_traceless_counts T.F_traceless_counts.kp T.b_traceless_counts (fun σ => L2N.passAt tk σ) (pa_cons (pv 0) (pa_cons (pv 1) pa_nil))))))
      (pss_one (ps_expr (show PE _ _ (tBM K "list" rAppend (tVar 3) (tCons (tC .non) tNil)) from pe_bm PySem.F.plainAttrs_list PySem.F.slot_list_append PySem.F.type_list_append mt_append (pv 3) (pa_cons pe_non pa_nil)))))) (fun a oe cls d pn hz hf => (pss_one (ps_expr (pe_bm PySem.F.plainAttrs_list PySem.F.slot_list_append PySem.F.type_list_append mt_append (pv 3) (pa_cons (by exact (Kit.pe_callP (p := (a, oe)) (ok_law_named T) (Kit.roomS (hr.mono (by decide))) (Kit.hot_suite hz hf) hz.zc List.mem_cons_self (by rfl) T.g_law_named T.F_law_named.kp T.b_law_named (pa_cons (pv 5) pa_nil))) pa_nil))))))))
      (pss_one (ps_ret (pv 3))))), ?_⟩
    refine q_asgL (xs := []) (el_lst ea_nil (Nat.le_of_ble_eq_true rfl)) fun p H1 np e1 hp => ?_
    have nm : ∀ {σ : L2.St} {G : Hp} {a : Addr} {i : Nat}, i < 6 → σ[5]? = some (some (.ref a)) → Ev (tCallP (sp_law_named T) a (.ref (erA T i)) none (tCons (tVar 5) tNil)) σ G (.int (i : Int)) := fun {σ G a i} hi h5 H1 e Q q => (ev_var (i := 5) h5) H1 (Ex.refl _) _ fun H2 e2 => ⟨i, hi, rfl, rfl, rfl, fun H3 e3 => q H3 (e2.trans e3)⟩
    have all : ∀ (j : Nat) (a : Option Nat), j < 2 → (∀ i, a = some i → i < 6) → ∀ (H2 : Hp) (D : Ends) (ys : List V), ys.length ≤ 2 → Ex H H2 → H2 p = some (.lst ys) → (∀ H3, Ex H H3 → H3 p = some (.lst (ys ++ [vO a])) → D.nx [some (.int n), some (.int x), some (.int g), some (.ref p), some (.int (j : Int)), none] H3) →
        (a.map (erA T) = none → ∀ H3, Ex H2 H3 → tDrop (tBM K "list" rAppend (tVar 3) (tCons (tC .non) tNil)) D [some (.int n), some (.int x), some (.int g), some (.ref p), some (.int (j : Int)), none] H3) ∧
        (∀ C, a.map (erA T) = some C → ∀ H3, Ex H2 H3 → wAs K (.ref T.cl_HallError) 5 (fun a cls d => tDrop (tBM K "list" rAppend (tVar 3) (tCons (tCallP (sp_law_named T) a cls d (tCons (tVar 5) tNil)) tNil))) (fun _ _ _ _ => False) D (.ref C) none [some (.int n), some (.int x), some (.int g), some (.ref p), some (.int (j : Int)), none] H3) := by
      intro j a hj hlt H2 D ys hy e2 h2 hD
      refine ⟨fun hn H3 e3 => ?_, fun C hC H3 e3 => ?_⟩
      · cases a with
        | some i => cases hn
        | none => exact s_app (xs := ys) (e3 p _ h2) (ev_var rfl) ev_c (by omega) fun H4 e4 => hD _ (Ex.mut (e2.trans (e3.trans e4)) np) upd_same
      · cases a with
        | none => cases hC
        | some i =>
          cases hC
          have hi := hlt i rfl
          obtain ⟨_, hx, _⟩ := er_is T hi
          refine ⟨true, hx, fun _ b hb => ?_, fun z => nomatch z⟩
          exact s_app (xs := ys) (v := .int (i : Int)) (e3 p _ h2) (ev_var rfl) (nm hi rfl) (by omega) fun H4 e4 => hD _ (Ex.mut (e2.trans (e3.trans e4)) np) upd_same
    refine q_forR1 (n := 2) (ea_cons ev_c ea_nil) (by decide) (fun j σ' H' => ∃ y4, σ' = [some (.int n), some (.int x), some (.int g), some (.ref p), y4, none] ∧ Ex H H' ∧ H' p = some (.lst ([vO (dSh n x g), vO (dTc n x)].take j))) (fun H2 e2 => ⟨none, rfl, e1.trans e2, e2 p _ hp⟩) ?_ ?_
    · rintro j σ' H' hj ⟨y4, rfl, e, h⟩
      have cj : j = 0 ∨ j = 1 := by omega
      rcases cj with rfl | rfl
      · refine q_if (b := true) (et_is (et_test (ev_op (ev_var rfl) ev_c (rv_eq rfl))) rfl) (fun _ H2 e2 => ?_) (fun z => Bool.noConfusion z)
        exact s_chkS (due := (dSh n x g).map (erA T)) (vs := [.int n, .int x, .int g]) (ea_cons (ev_var rfl) (ea_cons (ev_var rfl) (ea_cons (ev_var rfl) ea_nil))) (fun H3 e3 Q E q => ⟨n, x, g, rfl, q⟩) (fun hd H3 e3 => (all 0 (dSh n x g) (by decide) (fun i h => dSh_lt h) H' _ _ (Nat.le_of_ble_eq_true rfl) e h (fun H4 e4 h4 => by exact ⟨_, rfl, e4, h4⟩)).1 hd H3 (e2.trans e3)) fun C hC H3 e3 => (all 0 (dSh n x g) (by decide) (fun i h => dSh_lt h) H' _ _ (Nat.le_of_ble_eq_true rfl) e h (fun H4 e4 h4 => by exact ⟨_, rfl, e4, h4⟩)).2 C hC H3 (e2.trans e3)
      · refine q_if (b := false) (et_is (et_test (ev_op (ev_var rfl) ev_c (rv_eq rfl))) rfl) (fun z => Bool.noConfusion z) fun _ H2 e2 => ?_
        exact s_chkS (due := (dTc n x).map (erA T)) (vs := [.int n, .int x]) (ea_cons (ev_var rfl) (ea_cons (ev_var rfl) ea_nil)) (fun H3 e3 Q E q => ⟨n, x, rfl, q⟩) (fun hd H3 e3 => (all 1 (dTc n x) (by decide) (fun i h => dTc_lt h) H' _ _ (Nat.le_of_ble_eq_true rfl) e h (fun H4 e4 h4 => by exact ⟨_, rfl, e4, h4⟩)).1 hd H3 (e2.trans e3)) fun C hC H3 e3 => (all 1 (dTc n x) (by decide) (fun i h => dTc_lt h) H' _ _ (Nat.le_of_ble_eq_true rfl) e h (fun H4 e4 h4 => by exact ⟨_, rfl, e4, h4⟩)).2 C hC H3 (e2.trans e3)
    · rintro σ' H' ⟨y4, rfl, e, h⟩
      exact s_ret (ev_var rfl) fun H3 e3 => k p H3 np (e.trans e3) (e3 p _ h)
end


local macro_rules | `(tactic| walk_at "call") => `(tactic| (with_reducible exact sv_whole))

theorem paired_app {α β : Type} {F : α → β → Prop} : ∀ {l l' : List α} {m m' : List β}, Paired F l m → Paired F l' m' → Paired F (l ++ l') (m ++ m')
  | _, _, _, _, .nil, h => h
  | _, _, _, _, .cons a t, h => .cons a (paired_app t h)
/-! ### what the law asks, one by one -/
section
variable {K : PySem.W.Frag} {σ : L2.St} {H0 H : Hp} {p L : Addr} {k k1 k2 : Nat} {ta tb te tm tl : TE} {t : TT} {Ra Rb : V → Hp → Prop} {D : Ends} {tz : TS}
theorem el_lcNU {xs : List V} {j : Nat} {vs : List Nat} (f : Nat → Bool) (v : Nat → V) (h : EvU tl σ H xs) (hz : xs.length ≤ 40000) (hw : ∀ x, wipe ((wipe σ vs).set j (some x)) vs = wipe σ vs)
    (ht : ∀ (i : Nat) (x : V) H1, Ex H H1 → xs[i]? = some x → EvT t ((wipe σ vs).set j (some x)) H1 (f i)) (he : ∀ (i : Nat) (x : V) H1, Ex H H1 → xs[i]? = some x → f i = true → Ev te ((wipe σ vs).set j (some x)) H1 (v i)) :
    EvL (tLc (iTup K tl) (gName j) t te vs) σ H (given xs.length f v) := fun H0 e Q q => h H0 e _ fun a H1 ha e1 hx => ⟨a, rfl, ⟨xs, st_of hx⟩, fun Dl hD =>
  lc_tup (xs := xs) (Cw H1 f v Dl) ⟨hD, Ex.new hD, upd_same⟩ (fun i H' _ p => ex_t p.2.1 (st_of hx)) (fun i x H' hi p => ⟨hw x, cw_turn p (by have := (List.getElem?_eq_some_iff.mp hi).1; omega) (ht i x H1 (e.trans e1) hi) (fun hf => he i x H1 (e.trans e1) hi hf)⟩)
    (fun H' p => q Dl H' (fresh_back e1 p.1) (e1.trans p.2.1) p.2.2)⟩
theorem pq_bag {ta : TA} {E : XK} {j : Nat} {s : Addr} {ns : List Int} (h : EvA ta σ H [.ref s]) (hs : SqL K H s (ns.map V.int)) (hl : ns.length ≤ 63) (q : ∀ p L H2, H p = none → H L = none → Ex H H2 → Po p L 0 H2 → tz D (σ.set j (some (.ref p))) H2) :
    tSeq (tAsg (tCall (sp_law_bag K) [] E ta) (gName j)) tz D σ H := h H (Ex.refl H) _ fun H1 e1 => ⟨s, ns, rfl, ex_l e1 hs, hl, fun p L H2 np nl e2 po => q p L H2 (fresh_back e1 np) (fresh_back e1 nl) (e1.trans e2) po⟩
theorem stb_hm {R : Hp → V → Prop} (hR : MonoJ R) : Stb p (fun v G => R (Hm p G) v) := fun v G G' h s => hR _ _ _ (ex_hm s hm_p) h
/-- x, y = (a, b) where a and b draw -/
theorem pq_tup2 {i j n : Nat} (h0 : H0 p = none) (ha : EvP p L k1 ta σ H0 Ra) (hb : EvP p L k2 tb σ H0 Rb) (s1 : Stb p Ra) (s2 : Stb p Rb) (e : Ex H0 H) (hp : Po p L n H) (hn : n + (k1 + k2) ≤ 1000000000)
    (q : ∀ x y H2, Ra x H2 → Rb y H2 → Po p L (n + (k1 + k2)) H2 → Ex (Hm p H) H2 → tz D ((σ.set i (some x)).set j (some y)) H2) :
    tSeq (tAsg (tTup (tCons ta (tCons tb tNil))) (gTup K 2 (gCons (gName i) (gCons (gName j) gNil)))) tz D σ H := ha n H e hp (by omega) _ fun x H1 hx p1 e1 => hb (n + k1) H1 (hm_next h0 e e1) p1 (by omega) _ fun y H2 hy p2 e2 =>
  ⟨sz_of (by show 2 ≤ 100000; decide), fun t ht => ⟨t, [x, y], rfl, st_of upd_same, rfl, x, [y], rfl, y, [], rfl, rfl, q x y _ (s1 x H1 _ hx (hm_trans e2 (hm_of (Ex.new ht)))) (s2 y H2 _ hy (hm_of (Ex.new ht))) (by rw [← Nat.add_assoc]; exact p2.ex (Ex.new ht)) (hm_trans (hm_trans e1 e2) (hm_of (Ex.new ht)))⟩⟩
/-- x, y = (a, b), both new lists -/
theorem q_tup2L {i j : Nat} {xs ys : List V} (ha : EvL ta σ H xs) (hb : ∀ H1, Ex H H1 → EvL tb σ H1 ys) (q : ∀ a b H1, H a = none → H b = none → Ex H H1 → H1 a = some (.lst xs) → H1 b = some (.lst ys) → tz D ((σ.set i (some (.ref a))).set j (some (.ref b))) H1) :
    tSeq (tAsg (tTup (tCons ta (tCons tb tNil))) (gTup K 2 (gCons (gName i) (gCons (gName j) gNil)))) tz D σ H := ha H (Ex.refl H) _ fun a H1 na e1 h1 => hb H1 e1 H1 (Ex.refl _) _ fun b H2 nb e2 h2 =>
  ⟨sz_of (by show 2 ≤ 100000; decide), fun t ht => ⟨t, [.ref a, .ref b], rfl, st_of upd_same, rfl, .ref a, [.ref b], rfl, .ref b, [], rfl, rfl, q a b _ na (fresh_back e1 nb) ((e1.trans e2).trans (Ex.new ht)) (Ex.new ht a _ (e2 a _ h1)) (Ex.new ht b _ h2)⟩⟩
theorem ek_catV {n : Nat} {a : Addr} {xs : List V} {ds es : List PyData} (h : Ev ta σ H (.ref a)) (ha : H a = some (.lst xs)) (hx : Paired (Tk n H) xs ds) (h2 : EvK (n + 1) tb σ H (.list es)) (hz : ds.length + es.length ≤ 1000) : EvK (n + 1) (tOp rCat ta tb) σ H (.list (ds ++ es)) := fun H1 e Q q =>
  h H1 e _ fun H2 e2 => h2 H2 (e.trans e2) _ fun v H3 e3 hv => by
    rcases hv with hv | ⟨b, ys, fs, rfl, ed, hb, _, hy⟩ | ⟨b, ys, fs, rfl, ed, _⟩
    · cases hv
    · cases ed
      have l1 := hx.length
      have l2 := hy.length
      exact ⟨a, b, xs, ys, rfl, rfl, e3 a _ (e2 a _ (e a _ ha)), hb, sz_of (by omega), fun l hl => q _ _ ((e2.trans e3).trans (Ex.new hl)) (tk_lst upd_same (paired_app (tk_imp (fun _ _ => Tk.ex (e.trans (e2.trans (e3.trans (Ex.new hl))))) hx) (tk_imp (fun _ _ => Tk.ex (Ex.new hl)) hy)) (by rw [List.length_append]; omega))⟩
    · cases ed
theorem q_asgK {i n : Nat} {d : PyData} (h : EvK n te σ H d) (q : ∀ v H1, Ex H H1 → Tk n H1 v d → tz D (σ.set i (some v)) H1) : tSeq (tAsg te (gName i)) tz D σ H := h H (Ex.refl H) _ q
end
def dO : Option Nat → PyData
  | none => .none
  | some i => .int (i : Int)
theorem tk_vO {n : Nat} {H : Hp} : ∀ a : Option Nat, Tk n H (vO a) (dO a)
  | none => .flat .non
  | some i => tk_int _
/-! what is due -/
theorem due_bad {o : Option (List PyData)} {n : Nat} {x : Int} (h : judge o = false) (n1 : n ≠ 1) : vO (dX n o x) = .int 0 := by
  have hj : ¬ judge o = true := by rw [h]; exact Bool.false_ne_true
  have : dX n o x = some 0 := by
    match n, n1 with
    | 0, _ => exact if_neg hj
    | 2, _ => exact if_neg hj
    | 3, _ => exact if_neg hj
    | 4, _ => exact if_neg hj
    | n + 5, _ => exact if_neg hj
  rw [this]
  rfl
theorem due_badC {o : Option (List PyData)} {x : Int} (h : judgeC o = false) : vO (dX 1 o x) = .int 1 := by
  have hj : ¬ judgeC o = true := by rw [h]; exact Bool.false_ne_true
  have : dX 1 o x = some 1 := if_neg hj
  rw [this]
  rfl
/-- a guest that is not there -/
theorem due_far {oG oR : Option (List PyData)} {m : Int} {x : Int} (jG : judge oG = true) (jR : judgeC oR = true) (nG : nOf oG = m) (nR : nOf oR = m) (m20 : m < 20) (hx : x < 0 ∨ m < x) : ∀ i, i < 5 → vO (dX i (if i = 1 then oR else oG) x) = .int 4 := by
  intro i hi
  have a : ¬ (0 ≤ x ∧ x < m) := by omega
  have b : ¬ (0 ≤ x ∧ x < m + 1) := by omega
  have : dX i (if i = 1 then oR else oG) x = some 4 := by
    match i, hi with
    | 0, _ => show dWo oG x = _; unfold dWo; rw [if_pos jG, nG, if_neg a]
    | 1, _ => show dCw oR x = _; unfold dCw; rw [if_pos jR, nR, if_neg a]
    | 2, _ => show dSi oG x = _; unfold dSi; rw [if_pos jG, nG, if_neg a]
    | 3, _ => show dSi oG x = _; unfold dSi; rw [if_pos jG, nG, if_neg a]
    | 4, _ => show dJo oG x = _; unfold dJo; rw [if_pos jG, nG, if_neg (by omega), if_neg b]
  rw [this]
  rfl
/-- the next guest: only a newcomer may sit there -/
theorem due_next {oG oR : Option (List PyData)} {m : Int} (jG : judge oG = true) (jR : judgeC oR = true) (nG : nOf oG = m) (nR : nOf oR = m) (m20 : m < 20) (m0 : 0 ≤ m) : ∀ i, i < 5 → vO (dX i (if i = 1 then oR else oG) m) = if i < 4 then .int 4 else .non := by
  intro i hi
  have a : ¬ (0 ≤ m ∧ m < m) := by omega
  match i, hi with
  | 0, _ => show vO (dWo oG m) = _; unfold dWo; rw [if_pos jG, nG, if_neg a]; rfl
  | 1, _ => show vO (dCw oR m) = _; unfold dCw; rw [if_pos jR, nR, if_neg a]; rfl
  | 2, _ => show vO (dSi oG m) = _; unfold dSi; rw [if_pos jG, nG, if_neg a]; rfl
  | 3, _ => show vO (dSi oG m) = _; unfold dSi; rw [if_pos jG, nG, if_neg a]; rfl
  | 4, _ => show vO (dJo oG m) = _; unfold dJo; rw [if_pos jG, nG, if_neg (by omega), if_pos (by omega)]; rfl
/-- the last guest -/
theorem due_last {oG oR : Option (List PyData)} {m : Int} (jG : judge oG = true) (jR : judgeC oR = true) (nG : nOf oG = m) (nR : nOf oR = m) (m20 : m < 20) (m2 : 2 ≤ m) : ∀ i, i < 6 → vO (dX i (if i = 1 then oR else oG) (m - 1)) = .non := by
  intro i hi
  have a : 0 ≤ m - 1 ∧ m - 1 < m := by omega
  match i, hi with
  | 0, _ => show vO (dWo oG _) = _; unfold dWo; rw [if_pos jG, nG, if_pos a, if_neg (by omega)]; rfl
  | 1, _ => show vO (dCw oR _) = _; unfold dCw; rw [if_pos jR, nR, if_pos a, if_neg (by omega)]; rfl
  | 2, _ => show vO (dSi oG _) = _; unfold dSi; rw [if_pos jG, nG, if_pos a]; rfl
  | 3, _ => show vO (dSi oG _) = _; unfold dSi; rw [if_pos jG, nG, if_pos a]; rfl
  | 4, _ => show vO (dJo oG _) = _; unfold dJo; rw [if_pos jG, nG, if_neg (by omega), if_pos (by omega)]; rfl
  | 5, _ => show vO (dTl oG) = _; unfold dTl; rw [if_pos jG]; rfl
section
variable {P : Program} {w : World} {K : PySem.W.Frag} {mg : Str → Option Value} {base : Heap}
/-- [_law_asked(way, [row, good][int(way != 1)], x) for way in range(m)] -/
theorem el_asks {H : Hp} {E : XK} {s0 s1 s2 s3 s4 s5 s6 s7 s10 s11 s12 : Option V} {g r : Addr} {oG oR : Option (List PyData)} (m : Nat) (hm : m ≤ 6) {x : Int} (z : Nat → V) {tx : TE}
    (hx : ∀ (i : Nat) H1, Ex H H1 → Ev tx [s0, s1, s2, s3, s4, some (.int (i : Int)), s6, s7, some (.ref g), some (.ref r), s10, s11, s12] H1 (.int x)) (bG : Bd K H (.ref g) oG) (bR : Bd K H (.ref r) oR) (due : ∀ i, i < m → vO (dX i (if i = 1 then oR else oG) x) = z i) :
    EvL (tLc (iRng1 (tCons (tC (.int (m : Int))) tNil)) (gName 5) tYes (tCall (sp_law_asked K) [] E (tCons (tVar 5) (tCons (tOp (rIxL K) (tLst (tCons (tVar 9) (tCons (tVar 8) tNil))) (tCB rIntB (tCons (tOp rNe (tVar 5) (tC (.int 1))) tNil))) (tCons tx tNil)))) [5]) [s0, s1, s2, s3, s4, s5, s6, s7, some (.ref g), some (.ref r), s10, s11, s12] H (given m (fun _ => true) z) := by
  have g0 := el_lcR1 (te := tCall (sp_law_asked K) [] E (tCons (tVar 5) (tCons (tOp (rIxL K) (tLst (tCons (tVar 9) (tCons (tVar 8) tNil))) (tCB rIntB (tCons (tOp rNe (tVar 5) (tC (.int 1))) tNil))) (tCons tx tNil)))) (t := tYes) (j := 5) (vs := [5]) (σ := [s0, s1, s2, s3, s4, s5, s6, s7, some (.ref g), some (.ref r), s10, s11, s12]) (H := H) (n := (m : Int)) (fun _ => true) z (ea_cons ev_c ea_nil) (by omega) (fun _ => rfl) (fun _ _ _ _ => et_yes) fun i H1 e1 hi _ => ?_
  · rw [Int.toNat_natCast] at g0
    exact g0
  · have hi' : i < m := by omega
    have pk : Ev (tOp (rIxL K) (tLst (tCons (tVar 9) (tCons (tVar 8) tNil))) (tCB rIntB (tCons (tOp rNe (tVar 5) (tC (.int 1))) tNil))) [s0, s1, s2, s3, s4, some (.int (i : Int)), s6, s7, some (.ref g), some (.ref r), s10, s11, s12] H1 (if i = 1 then .ref r else .ref g) := by
      refine ev_opL1 (xs := [V.ref r, .ref g]) (el_lst (ea_cons (ev_var rfl) (ea_cons (ev_var rfl) ea_nil)) (Nat.le_of_ble_eq_true rfl)) (fun H5 e5 => ev_intB (ev_op (ev_var rfl) ev_c (rv_ne rfl))) fun q H5 hq e5 => ?_
      by_cases h1 : i = 1
      · subst h1
        exact rv_ixL (sq_of hq) rfl
      · rw [if_neg h1]
        refine rv_ixL (sq_of hq) ?_
        have : decide (V.int (i : Int) = V.int 1) = false := decide_eq_false fun z => h1 (by have := V.int.inj z; omega)
        rw [this]
        rfl
    have bd : Bd K H1 (if i = 1 then .ref r else .ref g) (if i = 1 then oR else oG) := by
      by_cases h1 : i = 1
      · rw [if_pos h1, if_pos h1]
        exact bR.ex e1
      · rw [if_neg h1, if_neg h1]
        exact bG.ex e1
    exact ev_call (ea_cons (ev_var rfl) (ea_cons pk (ea_cons (hx i H1 e1) ea_nil))) (sv_asked (by omega) bd (due i hi'))
/-- not _law_alike(told, due) is false -/
theorem no_alike {σ : L2.St} {H : Hp} {E : XK} {ta tb : TE} {d e : PyData} (h : EvK 4 ta σ H d) (h2 : EvK 4 tb σ H e) (q : d = e) : EvT (tNot (tB (tCall (sp_law_alike 4) [] E (tCons ta (tCons tb tNil))))) σ H false := et_is (et_not (et_B (ev_alike (n := 4) h h2 q))) rfl
theorem ep_askedD {σ : L2.St} {H0 : Hp} {p L : Addr} {k : Nat} {E E2 : XK} {tm tf : TE} {x : Int} (h0 : H0 p = none) (hd : EvP p L k tm σ H0 (fun v G => Bad K judgeC (Hm p G) v)) (hf : Ev tf σ H0 (.int x)) :
    EvP p L k (tCall (sp_law_alike 4) [] E (tCons (tCall (sp_law_asked K) [] E2 (tCons (tC (.int 1)) (tCons tm (tCons tf tNil)))) (tCons (tC (.int 1)) tNil))) σ H0 (fun v _ => v = .bl true) := fun n H1 e hp hn Q q =>
  hd n H1 e hp hn _ fun v H2 ⟨o, hb, hj⟩ p2 e2 => hf H2 (hm_next h0 e e2) _ fun H3 e3 => ⟨1, v, o, x, rfl, by decide, hb.ex (hm_sub.trans e3), fun H4 e4 => by
    rw [due_badC hj]
    exact ⟨.int 1, .int 1, .int 1, rfl, tk_int 1, tk_int 1, fun H5 e5 => q _ H5 rfl (p2.ex (e3.trans (e4.trans e5))) (hm_trans e2 (hm_of (e3.trans (e4.trans e5))))⟩⟩
end


local macro_rules | `(tactic| walk_at "call") => `(tactic| (with_reducible exact sv_whole))

/-! ### law -/
def sp_law (K : PySem.W.Frag) : Sp := fun vs H Q _ => ∃ (a : Addr) (ns : List Int), vs = [.ref a] ∧ SqL K H a (ns.map V.int) ∧ ns.length ≤ 63 ∧ ∀ H', Q (.bl true) H'
/-- far from every seat -/
def Far (_ : Hp) (v : V) : Prop := ∃ x : Int, v = .int x ∧ (x < 0 ∨ 20 ≤ x)
theorem far_mono : MonoJ Far := fun _ _ _ _ h => h
theorem far_c {x : Int} (h : x < 0 ∨ 20 ≤ x) : ∀ H, Far H (.int x) := fun _ => ⟨x, rfl, h⟩
/-- no number of guests -/
def Bnd (_ : Hp) (v : V) : Prop := ∃ x : Int, v = .int x ∧ ¬ (1 ≤ x ∧ x ≤ 20)
theorem bnd_mono : MonoJ Bnd := fun _ _ _ _ h => h
theorem bnd_c {x : Int} (h : ¬ (1 ≤ x ∧ x ≤ 20)) : ∀ H, Bnd H (.int x) := fun _ => ⟨x, rfl, h⟩
/-- no weight -/
def Wgt (_ : Hp) (v : V) : Prop := ∃ x : Int, v = .int x ∧ ¬ (1 ≤ x ∧ x ≤ 1000000000000)
theorem wgt_mono : MonoJ Wgt := fun _ _ _ _ h => h
theorem wgt_c {x : Int} (h : ¬ (1 ≤ x ∧ x ≤ 1000000000000)) : ∀ H, Wgt H (.int x) := fun _ => ⟨x, rfl, h⟩
theorem given5 (f : Nat → V) : given 5 (fun _ => true) f = [f 0, f 1, f 2, f 3, f 4] := rfl
theorem given6 (f : Nat → V) : given 6 (fun _ => true) f = [f 0, f 1, f 2, f 3, f 4, f 5] := rfl
theorem rev_ord {m : Nat} (h1 : 1 ≤ m) (h2 : m ≤ 20) : Ord (List.range m).reverse := by
  have l : (List.range m).reverse.length = m := by simp
  refine ⟨?_, by rw [l]; exact h1, by rw [l]; exact h2⟩
  rw [l]
  exact List.reverse_perm _
theorem row_cm {m : Nat} (h1 : 1 ≤ m) (h2 : m ≤ 20) : Cm (List.replicate m 0) := by
  refine ⟨by simpa using h1, by simpa using h2, fun i x hx => ?_⟩
  rw [List.getElem?_replicate] at hx
  split at hx
  · have : 0 = x := Option.some.inj hx
    omega
  · cases hx
theorem rep_nv (m : Nat) : (List.replicate m [V.int 0]).flatten = nv (List.replicate m 0) := by
  rw [nv_eq, List.map_replicate]
  induction m with
  | zero => rfl
  | succ m ih => rw [List.replicate_succ, List.flatten_cons, ih, List.replicate_succ]; rfl
/-! lists that are no coming lists -/
theorem noC_len {ds : List PyData} (h : ds.length = 0 ∨ 20 < ds.length) : judgeC (some ds) = false := by
  unfold judgeC lenOk
  simp only
  rcases h with h | h
  · rw [h]; rfl
  · have : decide ((ds.length : Int) ≤ 20) = false := decide_eq_false (by omega)
    rw [this, Bool.and_false, Bool.false_and]
theorem noC_all {ds : List PyData} (h : allIn 0 ds = false) : judgeC (some ds) = false := by
  unfold judgeC
  simp only
  rw [h, Bool.and_false]
theorem allIn_no {ds : List PyData} {k : Nat} (d : PyData) (h : d ∈ ds) (hd : isI d = false) : allIn k ds = false := by
  cases ha : allIn k ds with
  | false => rfl
  | true =>
    have := List.all_eq_true.mp (allIn_isI ha) d h
    rw [hd] at this
    cases this
theorem ep_counted {σ : L2.St} {H0 : Hp} {p L : Addr} {k : Nat} {E : XK} {tw tm tf : TE} {m x : Int} (h0 : H0 p = none) (mm : 1 ≤ m ∧ m ≤ 20) (hw : Ev tw σ H0 (.int m)) (hd : EvP p L k tm σ H0 (fun v G => Wgt (Hm p G) v)) (hf : Ev tf σ H0 (.int x)) :
    EvP p L k (tCall sp_law_counted [] E (tCons tw (tCons tm (tCons tf tNil)))) σ H0 (fun v G => ∃ b, b ≠ p ∧ v = .ref b ∧ G b = some (.lst [.int 3, .int 3])) := fun n H1 e hp hn Q q =>
  hw H1 e _ fun H2 e2 => hd n H2 (e.trans e2) (hp.ex e2) hn _ fun v H3 ⟨wg, hv, hwg⟩ p3 e3 => hf H3 (hm_next h0 (e.trans e2) e3) _ fun H4 e4 => by
    subst hv
    have dS2 : dSh m wg x = some 3 := by unfold dSh; rw [if_pos mm, if_neg hwg]
    have dT2 : dTc m wg = some 3 := by unfold dTc; rw [if_pos mm, if_neg hwg]
    exact ⟨m, wg, x, rfl, fun b H5 nb e5 hb => q _ H5 ⟨b, p3.ne (fresh_back e4 nb), rfl, by rw [hb, dS2, dT2]; rfl⟩ (p3.ex (e4.trans e5)) (hm_trans (hm_of e2) (hm_trans e3 (hm_of (e4.trans e5))))⟩
theorem pq_told2 {σ : L2.St} {H0 H : Hp} {p L : Addr} {k i n : Nat} {ta tb : TE} {D : Ends} {tz : TS} {xs ys : List V} (ha : EvL ta σ H xs) (hb : EvP p L k tb σ H0 (fun v G => ∃ b, b ≠ p ∧ v = .ref b ∧ G b = some (.lst ys))) (e : Ex H0 H) (hp : Po p L n H) (hn : n + k ≤ 1000000000)
    (q : ∀ l c1 c2 H2, H2 l = some (.lst [.ref c1, .ref c2]) → H2 c1 = some (.lst xs) → H2 c2 = some (.lst ys) → Po p L (n + k) H2 → Ex (Hm p H) H2 → tz D (σ.set i (some (.ref l))) H2) : tSeq (tAsg (tLst (tCons ta (tCons tb tNil))) (gName i)) tz D σ H :=
  ha H (Ex.refl H) _ fun c1 H1 n1 e1 h1 => hb n H1 (e.trans e1) (hp.ex e1) hn _ fun v H2 ⟨c2, ne, hv, h2⟩ p2 e2 => by
    subst hv
    exact ⟨sz_of (Nat.le_of_ble_eq_true rfl), fun l hl => q l c1 c2 _ upd_same (Ex.new hl c1 _ (hm_at e2 (hp.ne n1) h1)) (Ex.new hl c2 _ h2) (p2.ex (Ex.new hl)) (hm_trans (hm_of e1) (hm_trans e2 (hm_of (Ex.new hl))))⟩
theorem ev_askedL {K : PySem.W.Frag} {σ : L2.St} {H : Hp} {E : XK} {n : Nat} {x : Int} {z : V} {tw tm tx : TE} {xs : List V} {o : Option (List PyData)} (hw : Ev tw σ H (.int (n : Int))) (hm : ∀ H1, Ex H H1 → EvL tm σ H1 xs) (hx : ∀ H1, Ex H H1 → Ev tx σ H1 (.int x)) (hn : n < 6) (hb : ∀ q G, G q = some (.lst xs) → Bd K G (.ref q) o) (e : vO (dX n o x) = z) :
    Ev (tCall (sp_law_asked K) [] E (tCons tw (tCons tm (tCons tx tNil)))) σ H z := fun H1 e1 Q q => hw H1 e1 _ fun H2 e2 => hm H2 (e1.trans e2) H2 (Ex.refl _) _ fun l H3 nl e3 hl => hx H3 (e1.trans (e2.trans e3)) H3 (Ex.refl _) _ fun H4 e4 => ⟨n, .ref l, o, x, rfl, hn, (hb l H3 hl).ex e4, fun H5 e5 => by
    rw [e]
    exact q H5 (e2.trans (e3.trans (e4.trans e5)))⟩


local macro_rules | `(tactic| walk_at "call") => `(tactic| (with_reducible exact sv_whole))

section
variable {P : Program} {w : World} {K : PySem.W.Frag} {mg : Str → Option Value} {base : Heap}
theorem ok_law (T : Tx K mg) : FnOk P w K mg base CX0 9 T.f_law T.d_law ["script"] (sp_law K) := by
  refine T.F_law.ok sc_law (fun vs H Q E h => ?_) (fun cdv A outer s0 H vs Q E hr h => ?_)
  · obtain ⟨a, ns, rfl, _⟩ := h
    rfl
  · obtain ⟨a, ns, rfl, hs, hl, kk⟩ := h
    refine ⟨_, (pss_cons (ps_set (i := 1) sc_law.nd rfl (Or.inl rfl) (pe_call (ok_law_bag T) (hr.mono (by decide)) (by rfl) T.g_law_bag T.F_law_bag.kp T.b_law_bag .nil pass0 (pa_cons (pv 0) pa_nil)))
      (pss_cons (ps_for PassesOwn.never rfl (pi_range1 (by rfl) T.m_range (pa_cons pe_int pa_nil)) (pg_name (i := 2) sc_law.nd rfl (Or.inl rfl)) (pss_cons (ps_asg (pe_tup (pa_cons (pe_call (ok_law_bad_seating T) (hr.mono (by decide)) (by rfl) T.g_law_bad_seating T.F_law_bad_seating.kp T.b_law_bad_seating .nil pass0 (pa_cons (pv 1) pa_nil)) (pa_cons (pe_ix ix_list (pe_lst (pa_cons (pe_un un_neg pe_int) (pa_cons pe_int (pa_cons (pe_op op_powX pe_int pe_int) (pa_cons (pe_op op_sub pe_int (pe_op op_powX pe_int pe_int)) pa_nil))))) (pe_call (ok_law_draw T) (hr.mono (by decide)) (by rfl) T.g_law_draw T.F_law_draw.kp T.b_law_draw .nil pass0 (pa_cons (pv 1) (pa_cons pe_int pa_nil))) (fun _ _ => rfl)) pa_nil))) (pg_tup rfl (pgs_cons (pg_name (i := 3) sc_law.nd rfl (Or.inr rfl)) (pgs_cons (pg_name (i := 4) sc_law.nd rfl (Or.inr rfl)) pgs_nil))))
      (pss_cons (ps_setLc (i := 6) (own := [("way", 5)]) (g := (gName 5)) (tt := tYes) rfl sc_law.nd rfl rfl (sw_true rfl rfl rfl (by decide +kernel)) (pi_tup (pe_tup (pa_cons pe_int (pa_cons pe_int (pa_cons pe_int (pa_cons pe_int (pa_cons pe_int pa_nil))))))) (blkOk_by (own := [("way", 5)]) (N := n_law) (sc := defScope s_law) (by decide +kernel)) (fun _ _ _ _ _ => (pg_name (i := 5) sc_law.nd rfl (Or.inl rfl))) (fun _ _ _ _ _ => pts_nil) (fun _ _ _ _ _ => (pe_call (ok_law_asked T) (hr.mono (by decide)) (by rfl) T.g_law_asked T.F_law_asked.kp T.b_law_asked .nil pass0 (pa_cons (pv 5) (pa_cons (pv 3) (pa_cons (pv 4) pa_nil))))))
      (pss_cons (ps_if (pt_not (pt_val (pe_call (ok_law_alike T) (hr.mono (by decide)) (by rfl) T.g_law_alike T.F_law_alike.kp T.b_law_alike .nil pass0 (pa_cons (pv 6) (pa_cons (pe_op op_rep (pe_lst (pa_cons pe_int pa_nil)) pe_int) pa_nil))))) (pss_one (ps_ret pe_bl)) pss_nil)
      (pss_cons (ps_set (i := 7) sc_law.nd rfl (Or.inr rfl) (pe_op op_add pe_int (pe_call (ok_law_draw T) (hr.mono (by decide)) (by rfl) T.g_law_draw T.F_law_draw.kp T.b_law_draw .nil pass0 (pa_cons (pv 1) (pa_cons pe_int pa_nil)))))
      (pss_cons (ps_asg (pe_tup (pa_cons (pe_revL (pe_listRg rfl (by rfl) T.m_list (prg_1 (by rfl) T.m_range (pv 7)))) (pa_cons (pe_op op_rep (pe_lst (pa_cons pe_int pa_nil)) (pv 7)) pa_nil))) (pg_tup rfl (pgs_cons (pg_name (i := 8) sc_law.nd rfl (Or.inr rfl)) (pgs_cons (pg_name (i := 9) sc_law.nd rfl (Or.inr rfl)) pgs_nil))))
      (pss_cons (ps_setLc (i := 6) (own := [("way", 5)]) (g := (gName 5)) (tt := tYes) rfl sc_law.nd rfl rfl (sw_true rfl rfl rfl (by decide +kernel)) (pi_range1 (by rfl) T.m_range (pa_cons pe_int pa_nil)) (blkOk_by (own := [("way", 5)]) (N := n_law) (sc := defScope s_law) (by decide +kernel)) (fun _ _ _ _ _ => (pg_name (i := 5) sc_law.nd rfl (Or.inl rfl))) (fun _ _ _ _ _ => pts_nil) (fun _ _ _ _ _ => (pe_call (ok_law_asked T) (hr.mono (by decide)) (by rfl) T.g_law_asked T.F_law_asked.kp T.b_law_asked .nil pass0 (pa_cons (pv 5) (pa_cons (pe_ix (r := rIxL K) ix_list (pe_lst (pa_cons (pv 9) (pa_cons (pv 8) pa_nil))) (pe_callTy call_intB (by rfl) T.m_int (by decide +kernel) (pa_cons (pe_cmpR op_ne (pv 5) pe_int (nomark _)) pa_nil)) (fun _ _ => rfl)) (pa_cons (pv 4) pa_nil))))))
      (pss_cons (ps_set (i := 6) sc_law.nd rfl (Or.inl rfl) (pe_op op_cat (pv 6) (pe_lc (own := [("way", 5)]) (g := (gName 5)) (tt := tYes) rfl sc_law.nd (pi_range1 (by rfl) T.m_range (pa_cons pe_int pa_nil)) (blkOk_by (own := [("way", 5)]) (N := n_law) (sc := defScope s_law) (by decide +kernel)) (fun _ _ _ _ _ => (pg_name (i := 5) sc_law.nd rfl (Or.inl rfl))) (fun _ _ _ _ _ => pts_nil) (fun _ _ _ _ _ => (pe_call (ok_law_asked T) (hr.mono (by decide)) (by rfl) T.g_law_asked T.F_law_asked.kp T.b_law_asked .nil pass0 (pa_cons (pv 5) (pa_cons (pe_ix (r := rIxL K) ix_list (pe_lst (pa_cons (pv 9) (pa_cons (pv 8) pa_nil))) (pe_callTy call_intB (by rfl) T.m_int (by decide +kernel) (pa_cons (pe_cmpR op_ne (pv 5) pe_int (nomark _)) pa_nil)) (fun _ _ => rfl)) (pa_cons (pv 7) pa_nil))))))))
      (pss_cons (ps_if (pt_not (pt_val (pe_call (ok_law_alike T) (hr.mono (by decide)) (by rfl) T.g_law_alike T.F_law_alike.kp T.b_law_alike .nil pass0 (pa_cons (pv 6) (pa_cons (pe_op op_cat (pe_op op_cat (pe_op op_rep (pe_lst (pa_cons pe_int pa_nil)) pe_int) (pe_op op_rep (pe_lst (pa_cons pe_int pa_nil)) pe_int)) (pe_lst (pa_cons pe_non pa_nil))) pa_nil))))) (pss_one (ps_ret pe_bl)) pss_nil)
      (pss_cons (ps_setLc (i := 6) (own := [("way", 5)]) (g := (gName 5)) (tt := tYes) rfl sc_law.nd rfl rfl (sw_true rfl rfl rfl (by decide +kernel)) (pi_range1 (by rfl) T.m_range (pa_cons pe_int pa_nil)) (blkOk_by (own := [("way", 5)]) (N := n_law) (sc := defScope s_law) (by decide +kernel)) (fun _ _ _ _ _ => (pg_name (i := 5) sc_law.nd rfl (Or.inl rfl))) (fun _ _ _ _ _ => pts_nil) (fun _ _ _ _ _ => (pe_call (ok_law_asked T) (hr.mono (by decide)) (by rfl) T.g_law_asked T.F_law_asked.kp T.b_law_asked .nil pass0 (pa_cons (pv 5) (pa_cons (pe_ix (r := rIxL K) ix_list (pe_lst (pa_cons (pv 9) (pa_cons (pv 8) pa_nil))) (pe_callTy call_intB (by rfl) T.m_int (by decide +kernel) (pa_cons (pe_cmpR op_ne (pv 5) pe_int (nomark _)) pa_nil)) (fun _ _ => rfl)) (pa_cons (pe_op op_sub (pv 7) pe_int) pa_nil))))))
      (pss_cons (ps_if (pt_not (pt_val (pe_call (ok_law_alike T) (hr.mono (by decide)) (by rfl) T.g_law_alike T.F_law_alike.kp T.b_law_alike .nil pass0 (pa_cons (pv 6) (pa_cons (pe_op op_rep (pe_lst (pa_cons pe_non pa_nil)) pe_int) pa_nil))))) (pss_one (ps_ret pe_bl)) pss_nil)
      (pss_cons (ps_set (i := 10) sc_law.nd rfl (Or.inl rfl) (pe_lst (pa_cons pe_non (pa_cons (pe_lst (pa_cons pe_int pa_nil)) (pa_cons (pe_lst pa_nil) (pa_cons (pe_tup (pa_cons pe_int pa_nil)) (pa_cons (pe_lst (pa_cons pe_int (pa_cons pe_int pa_nil))) (pa_cons (pe_lst (pa_cons pe_bl pa_nil)) (pa_cons (pe_lst (pa_cons pe_str pa_nil)) (pa_cons (pe_lst (pa_cons pe_int (pa_cons (pe_un un_neg pe_int) pa_nil))) (pa_cons (pe_op op_rep (pe_lst (pa_cons pe_int pa_nil)) pe_int) (pa_cons (pe_op op_cat (pe_op op_rep (pe_lst (pa_cons pe_int pa_nil)) pe_int) (pe_lst (pa_cons pe_non pa_nil))) (pa_cons pe_dnewK (pa_cons (pe_lst (pa_cons (pe_lst (pa_cons pe_int pa_nil)) pa_nil)) (pa_cons (pv 8) pa_nil)))))))))))))))
      (pss_cons (ps_if (pt_not (pt_val (pe_call (ok_law_alike T) (hr.mono (by decide)) (by rfl) T.g_law_alike T.F_law_alike.kp T.b_law_alike .nil pass0 (pa_cons (pe_call (ok_law_asked T) (hr.mono (by decide)) (by rfl) T.g_law_asked T.F_law_asked.kp T.b_law_asked .nil pass0 (pa_cons pe_int (pa_cons (pe_ix ix_list (pv 10) (pe_call (ok_law_draw T) (hr.mono (by decide)) (by rfl) T.g_law_draw T.F_law_draw.kp T.b_law_draw .nil pass0 (pa_cons (pv 1) (pa_cons pe_int pa_nil))) (fun _ _ => rfl)) (pa_cons (pv 4) pa_nil)))) (pa_cons pe_int pa_nil))))) (pss_one (ps_ret pe_bl)) pss_nil)
      (pss_cons (ps_set (i := 11) sc_law.nd rfl (Or.inl rfl) (pe_ix ix_list (pe_lst (pa_cons pe_int (pa_cons (pe_un un_neg pe_int) (pa_cons pe_int (pa_cons (pe_op op_powX pe_int pe_int) pa_nil))))) (pe_call (ok_law_draw T) (hr.mono (by decide)) (by rfl) T.g_law_draw T.F_law_draw.kp T.b_law_draw .nil pass0 (pa_cons (pv 1) (pa_cons pe_int pa_nil))) (fun _ _ => rfl)))
      (pss_cons (ps_set (i := 6) sc_law.nd rfl (Or.inl rfl) (pe_lst (pa_cons (pe_call (ok_law_counted T) (hr.mono (by decide)) (by rfl) T.g_law_counted T.F_law_counted.kp T.b_law_counted .nil pass0 (pa_cons (pv 11) (pa_cons pe_int (pa_cons (pv 4) pa_nil)))) (pa_cons (pe_call (ok_law_counted T) (hr.mono (by decide)) (by rfl) T.g_law_counted T.F_law_counted.kp T.b_law_counted .nil pass0 (pa_cons (pv 7) (pa_cons (pe_ix ix_list (pe_lst (pa_cons pe_int (pa_cons (pe_un un_neg pe_int) (pa_cons (pe_op op_add (pe_op op_powX pe_int pe_int) pe_int) pa_nil)))) (pe_call (ok_law_draw T) (hr.mono (by decide)) (by rfl) T.g_law_draw T.F_law_draw.kp T.b_law_draw .nil pass0 (pa_cons (pv 1) (pa_cons pe_int pa_nil))) (fun _ _ => rfl)) (pa_cons (pv 4) pa_nil)))) pa_nil))))
      (pss_cons (ps_set (i := 6) sc_law.nd rfl (Or.inl rfl) (pe_op op_cat (pv 6) (pe_lst (pa_cons (pe_call (ok_law_counted T) (hr.mono (by decide)) (by rfl) T.g_law_counted T.F_law_counted.kp T.b_law_counted .nil pass0 (pa_cons (pv 7) (pa_cons pe_int (pa_cons (pv 4) pa_nil)))) (pa_cons (pe_call (ok_law_counted T) (hr.mono (by decide)) (by rfl) T.g_law_counted T.F_law_counted.kp T.b_law_counted .nil pass0 (pa_cons (pv 7) (pa_cons pe_int (pa_cons (pv 7) pa_nil)))) (pa_cons (pe_call (ok_law_counted T) (hr.mono (by decide)) (by rfl) T.g_law_counted T.F_law_counted.kp T.b_law_counted .nil pass0 (pa_cons (pv 7) (pa_cons (pe_op op_powX pe_int pe_int) (pa_cons (pe_op op_sub (pv 7) pe_int) pa_nil)))) pa_nil))))))
      (pss_one (ps_if (pt_not (pt_val (pe_call (ok_law_alike T) (hr.mono (by decide)) (by rfl) T.g_law_alike T.F_law_alike.kp T.b_law_alike .nil pass0 (pa_cons (pv 6) (pa_cons (pe_lst (pa_cons (pe_lst (pa_cons pe_int (pa_cons pe_int pa_nil))) (pa_cons (pe_lst (pa_cons pe_int (pa_cons pe_int pa_nil))) (pa_cons (pe_lst (pa_cons pe_int (pa_cons pe_non pa_nil))) (pa_cons (pe_lst (pa_cons pe_int (pa_cons pe_non pa_nil))) (pa_cons (pe_lst (pa_cons pe_non (pa_cons pe_non pa_nil))) pa_nil)))))) pa_nil))))) (pss_one (ps_ret pe_bl)) pss_nil))))))))))))))))))
      (pss_cons (ps_set (i := 6) sc_law.nd rfl (Or.inl rfl) (pe_op op_cat (pe_lc (own := [("way", 5)]) (g := (gName 5)) (tt := tYes) rfl sc_law.nd (pi_range1 (by rfl) T.m_range (pa_cons pe_int pa_nil)) (blkOk_by (own := [("way", 5)]) (N := n_law) (sc := defScope s_law) (by decide +kernel)) (fun _ _ _ _ _ => (pg_name (i := 5) sc_law.nd rfl (Or.inl rfl))) (fun _ _ _ _ _ => pts_nil) (fun _ _ _ _ _ => (pe_call (ok_law_asked T) (hr.mono (by decide)) (by rfl) T.g_law_asked T.F_law_asked.kp T.b_law_asked .nil pass0 (pa_cons (pv 5) (pa_cons (pe_lst (pa_cons pe_int pa_nil)) (pa_cons pe_int pa_nil)))))) (pe_lc (own := [("way", 5)]) (g := (gName 5)) (tt := tYes) rfl sc_law.nd (pi_range1 (by rfl) T.m_range (pa_cons pe_int pa_nil)) (blkOk_by (own := [("way", 5)]) (N := n_law) (sc := defScope s_law) (by decide +kernel)) (fun _ _ _ _ _ => (pg_name (i := 5) sc_law.nd rfl (Or.inl rfl))) (fun _ _ _ _ _ => pts_nil) (fun _ _ _ _ _ => (pe_call (ok_law_asked T) (hr.mono (by decide)) (by rfl) T.g_law_asked T.F_law_asked.kp T.b_law_asked .nil pass0 (pa_cons (pv 5) (pa_cons (pe_lst (pa_cons pe_int pa_nil)) (pa_cons pe_int pa_nil))))))))
      (pss_cons (ps_if (pt_not (pt_val (pe_call (ok_law_alike T) (hr.mono (by decide)) (by rfl) T.g_law_alike T.F_law_alike.kp T.b_law_alike .nil pass0 (pa_cons (pv 6) (pa_cons (pe_lst (pa_cons pe_int (pa_cons pe_int (pa_cons pe_non (pa_cons pe_non (pa_cons pe_non (pa_cons pe_non (pa_cons pe_int (pa_cons pe_int (pa_cons pe_int (pa_cons pe_int (pa_cons pe_non pa_nil)))))))))))) pa_nil))))) (pss_one (ps_ret pe_bl)) pss_nil)
      (pss_cons (ps_set (i := 12) sc_law.nd rfl (Or.inl rfl) (pe_listRg rfl (by rfl) T.m_list (prg_1 (by rfl) T.m_range pe_int)))
      (pss_cons (ps_set (i := 6) sc_law.nd rfl (Or.inl rfl) (pe_lst (pa_cons (pe_call (ok_law_asked T) (hr.mono (by decide)) (by rfl) T.g_law_asked T.F_law_asked.kp T.b_law_asked .nil pass0 (pa_cons pe_int (pa_cons (pv 12) (pa_cons pe_int pa_nil)))) (pa_cons (pe_call (ok_law_asked T) (hr.mono (by decide)) (by rfl) T.g_law_asked T.F_law_asked.kp T.b_law_asked .nil pass0 (pa_cons pe_int (pa_cons (pv 12) (pa_cons (pe_un un_neg pe_int) pa_nil)))) (pa_cons (pe_call (ok_law_asked T) (hr.mono (by decide)) (by rfl) T.g_law_asked T.F_law_asked.kp T.b_law_asked .nil pass0 (pa_cons pe_int (pa_cons (pe_slice sl_list (pv 12) po_none (po_some pe_int)) (pa_cons pe_int pa_nil)))) (pa_cons (pe_call (ok_law_asked T) (hr.mono (by decide)) (by rfl) T.g_law_asked T.F_law_asked.kp T.b_law_asked .nil pass0 (pa_cons pe_int (pa_cons (pv 12) (pa_cons pe_int pa_nil)))) pa_nil))))))
      (pss_one (ps_ret (pe_call (ok_law_alike T) (hr.mono (by decide)) (by rfl) T.g_law_alike T.F_law_alike.kp T.b_law_alike .nil pass0 (pa_cons (pv 6) (pa_cons (pe_lst (pa_cons pe_int (pa_cons pe_int (pa_cons pe_non (pa_cons pe_non pa_nil))))) pa_nil))))))))))), ?_⟩
    have one : ∀ {te : TE} {σ : L2.St} {G : Hp} {v : V}, Ev te σ G v → EvL (tLst (tCons te tNil)) σ G [v] := fun h => el_lst (ea_cons h ea_nil) (Nat.le_of_ble_eq_true rfl)
    have two : ∀ {te tf : TE} {σ : L2.St} {G : Hp} {v u : V}, Ev te σ G v → Ev tf σ G u → EvL (tLst (tCons te (tCons tf tNil))) σ G [v, u] := fun h h2 => el_lst (ea_cons h (ea_cons h2 ea_nil)) (Nat.le_of_ble_eq_true rfl)
    have sc1 : ∀ {v : V}, Sc v → ∀ x ∈ [v], Sc x := fun h x hx => by rw [List.mem_singleton.mp hx]; exact h
    have sc2 : ∀ {v u : V}, Sc v → Sc u → ∀ x ∈ [v, u], Sc x := fun h h2 x hx => by
      rcases List.mem_cons.mp hx with e | hx
      · rw [e]; exact h
      · rw [List.mem_singleton.mp hx]; exact h2
    have m1 : ∀ {σ : L2.St} {G : Hp}, Ev (tUn (rU fun i => .int (-i)) (tC (.int 1))) σ G (.int (-1)) := ev_un ev_c ru_neg
    have p29 : ∀ {σ : L2.St} {G : Hp}, Ev (tOp (rI CPowX fun i j => .int (i ^ j.toNat)) (tC (.int 10)) (tC (.int 29))) σ G (.int 100000000000000000000000000000) := ev_op ev_c ev_c (rv_I (by constructor <;> decide +kernel))
    have p30 : ∀ {σ : L2.St} {G : Hp}, Ev (tOp (rI CPowX fun i j => .int (i ^ j.toNat)) (tC (.int 10)) (tC (.int 30))) σ G (.int 1000000000000000000000000000000) := ev_op ev_c ev_c (rv_I (by constructor <;> decide +kernel))
    have p12 : ∀ {σ : L2.St} {G : Hp}, Ev (tOp (rI CPowX fun i j => .int (i ^ j.toNat)) (tC (.int 10)) (tC (.int 12))) σ G (.int 1000000000000) := ev_op ev_c ev_c (rv_I (by constructor <;> decide +kernel))
    refine pq_bag (ea_cons (ev_var rfl) ea_nil) hs hl fun p L H1 hp hL e1 hpo => ?_
    refine q_forR1 (n := (12 : Int)) (ea_cons ev_c ea_nil) (by decide) (fun i σ' H' => ∃ y2 y3 y4 y6 y7 y8 y9 y10 y11, σ' = [some (.ref a), some (.ref p), y2, y3, y4, none, y6, y7, y8, y9, y10, y11, none] ∧ Ex H H' ∧ Po p L (40 * i) H') (fun H2 e2 => ⟨none, none, none, none, none, none, none, none, none, rfl, e1.trans e2, hpo.ex e2⟩) ?_ ?_
    · rintro i σ' H' hi ⟨y2, y3, y4, y6, y7, y8, y9, y10, y11, rfl, e, p'⟩
      -- bad, far
      refine pq_tup2 (p := p) (L := L) (k1 := 11) (k2 := 1) (H0 := Hm p H') (Ra := fun v G => Bad K judge (Hm p G) v) (Rb := fun v G => Far (Hm p G) v) hm_p
        (fun n H2 e2 p2 hn Q q => (ev_var (i := 1) (v := .ref p) rfl) H2 (Ex.refl _) _ fun H3 e3 => ⟨p, L, n, rfl, p2.ex e3, by omega, fun v H4 hv p4 e4 => q v H4 hv (p4.mono (by omega)) (hm_trans (hm_of e3) e4)⟩)
        (ep_ixJ (K := K) (m := 4) far_mono (jl_lst far_mono (ja_cons far_mono (j_c m1 (far_c (.inl (by decide)))) (ja_cons far_mono (j_c ev_c (far_c (x := 20) (.inr (by decide)))) (ja_cons far_mono (j_c p29 (far_c (.inr (by decide)))) (ja_cons far_mono (j_c (ev_op (z := .int (0 - 100000000000000000000000000000)) ev_c p29 rv_I0) (far_c (.inl (by decide)))) ja_nil)))) (by decide)) (ep_dipI hm_p (ev_var rfl) ev_c (by decide) (by decide))) (stb_hm bad_mono) (stb_hm far_mono) hm_sub p' (by omega) fun bad y H2 hbad hfar p2 e2 => ?_
      obtain ⟨x, rfl, hx⟩ := hfar
      obtain ⟨ob, bb, jb⟩ := hbad
      have bb := bb.ex (hm_sub (p := p))
      have eA := hm_next hp e e2
      -- told
      refine q_asgL (el_lcNU (xs := [.int 0, .int 2, .int 3, .int 4, .int 5]) (j := 5) (vs := [5]) (t := tYes) (fun _ => true) (fun _ => .int 0) (eu_tup (ea_cons ev_c (ea_cons ev_c (ea_cons ev_c (ea_cons ev_c (ea_cons ev_c ea_nil))))) (Nat.le_of_ble_eq_true rfl)) (by decide) (fun _ => rfl) (fun _ _ _ _ _ => et_yes) fun j v G eg hv _ => ?_) fun t1 H3 nt1 e3 ht1 => ?_
      · have c : ∀ (n : Nat), n < 6 → n ≠ 1 → v = .int (n : Int) → Ev (tCall (sp_law_asked K) [] E0 (tCons (tVar 5) (tCons (tVar 3) (tCons (tVar 4) tNil)))) [some (.ref a), some (.ref p), some (.int (i : Int)), some bad, some (.int x), some v, y6, y7, y8, y9, y10, y11, none] G (.int 0) := fun n hn n1 ev => by
          subst ev
          exact ev_call (ea_cons (ev_var rfl) (ea_cons (ev_var rfl) (ea_cons (ev_var rfl) ea_nil))) (sv_asked hn (bb.ex eg) (due_bad jb n1))
        have : j < 5 := (List.getElem?_eq_some_iff.mp hv).1
        have cj : j = 0 ∨ j = 1 ∨ j = 2 ∨ j = 3 ∨ j = 4 := by omega
        rcases cj with rfl | rfl | rfl | rfl | rfl
        · exact c 0 (by decide) (by decide) (Option.some.inj hv).symm
        · exact c 2 (by decide) (by decide) (Option.some.inj hv).symm
        · exact c 3 (by decide) (by decide) (Option.some.inj hv).symm
        · exact c 4 (by decide) (by decide) (Option.some.inj hv).symm
        · exact c 5 (by decide) (by decide) (Option.some.inj hv).symm
      refine q_when (b := false) (no_alike (d := .list [.int 0, .int 0, .int 0, .int 0, .int 0]) (e := .list [.int 0, .int 0, .int 0, .int 0, .int 0]) (ek_of (ev_var rfl) (tk_lst (n := 3) ht1 (tk_ints (n := 3) [0, 0, 0, 0, 0]) (Nat.le_of_ble_eq_true rfl))) (ek_LI (n := 3) (ns := [0, 0, 0, 0, 0]) (el_rep (k := 5) (one ev_c) ev_c (by decide) (by decide) (Nat.le_of_ble_eq_true rfl)) (Nat.le_of_ble_eq_true rfl)) rfl) (fun z => Bool.noConfusion z) fun _ H4 e4 => ?_
      have p4 := p2.ex (e3.trans e4)
      -- wide
      refine pq_asg (p := p) (L := L) (k := 0 + 1) (H0 := Hm p H4) (R := fun v _ => ∃ m : Nat, v = .int (m : Int) ∧ 2 ≤ m ∧ m ≤ 19) (ep_is (ep_add (a := 2) (C := fun r => 0 ≤ r ∧ r < 18) hm_p ev_c (ep_dipI hm_p (ev_var rfl) ev_c (by decide) (by decide))) fun v _ ⟨r, hv, r0, r1⟩ => ⟨(2 + r).toNat, by rw [hv]; congr 1; omega, by omega, by omega⟩) hm_sub p4 (by omega) fun v H5 hv p5 e5 => ?_
      obtain ⟨m, rfl, m2, m19⟩ := hv
      have eB := hm_next hp (eA.trans (e3.trans e4)) e5
      -- good, row
      refine q_tup2L (xs := nv (List.range m).reverse) (ys := nv (List.replicate m 0)) ?_ (fun G eg => ?_) fun g r H6 ng nr e6 hg hrow => ?_
      · have h0 := el_revN (K := K) (el_rg1 (tb := tVar 7) (σ := [some (.ref a), some (.ref p), some (.int (i : Int)), some bad, some (.int x), none, some (.ref t1), some (.int (m : Int)), y8, y9, y10, y11, none]) (H := H5) (ev_var rfl) (RgOk.of_le (by decide) (by omega) (by decide) (by omega)))
        rw [range_iz, nv_eq, ← List.map_reverse, ← nv_eq] at h0
        exact h0
      · have h0 := el_rep (ta := tLst (tCons (tC (.int 0)) tNil)) (tb := tVar 7) (σ := [some (.ref a), some (.ref p), some (.int (i : Int)), some bad, some (.int x), none, some (.ref t1), some (.int (m : Int)), y8, y9, y10, y11, none]) (H := G) (xs := [.int 0]) (k := (m : Int)) (one ev_c) (ev_var rfl) (by omega) (by omega) (by decide)
        rw [Int.toNat_natCast, rep_nv] at h0
        exact h0
      have og := rev_ord (m := m) (by omega) (by omega)
      have oc := row_cm (m := m) (by omega) (by omega)
      have bG : ∀ {G : Hp}, Ex H6 G → Bd K G (.ref g) (some ((iz (List.range m).reverse).map PyData.int)) := fun eg => Ord.th (eg g _ hg)
      have bR : ∀ {G : Hp}, Ex H6 G → Bd K G (.ref r) (some ((iz (List.replicate m 0)).map PyData.int)) := fun eg => th_row (eg r _ hrow)
      have jG := judge_ord og
      have jR := judgeC_cm oc
      have nG : nOf (some ((iz (List.range m).reverse).map PyData.int)) = (m : Int) := by rw [bd_n (bG (Ex.refl _)) hg, nv_len]; simp
      have nR : nOf (some ((iz (List.replicate m 0)).map PyData.int)) = (m : Int) := by rw [bd_n (bR (Ex.refl _)) hrow, nv_len]; simp
      refine q_asgL (el_asks (K := K) 5 (by decide) (x := x) (fun _ => .int 4) (fun _ _ _ => ev_var rfl) (bG (Ex.refl _)) (bR (Ex.refl _)) (due_far jG jR nG nR (by omega) (by omega))) fun t2 H7 nt2 e7 ht2 => ?_
      rw [given5] at ht2
      refine q_asgL (el_catL (ev_var rfl) ht2 (el_asks (K := K) 5 (by decide) (x := (m : Int)) (fun i => if i < 4 then .int 4 else .non) (fun _ _ _ => ev_var rfl) (bG e7) (bR e7) (due_next jG jR nG nR (by omega) (by omega))) (Nat.le_of_ble_eq_true rfl)) fun t3 H8 nt3 e8 ht3 => ?_
      refine q_when (b := false) (no_alike (d := .list [.int 4, .int 4, .int 4, .int 4, .int 4, .int 4, .int 4, .int 4, .int 4, .none]) (e := .list [.int 4, .int 4, .int 4, .int 4, .int 4, .int 4, .int 4, .int 4, .int 4, .none]) (ek_of (ev_var rfl) (tk_lst (n := 3) ht3 (.cons (tk_int 4) (.cons (tk_int 4) (.cons (tk_int 4) (.cons (tk_int 4) (.cons (tk_int 4) (.cons (tk_int 4) (.cons (tk_int 4) (.cons (tk_int 4) (.cons (tk_int 4) (.cons (.flat .non) .nil)))))))))) (Nat.le_of_ble_eq_true rfl)))
        (ek_L (n := 3) (xs := ([V.int 4, .int 4, .int 4, .int 4, .int 4] ++ [V.int 4, .int 4, .int 4, .int 4]) ++ [.non]) (el_cat (el_cat (el_rep (k := 5) (one ev_c) ev_c (by decide) (by decide) (Nat.le_of_ble_eq_true rfl)) (el_rep (k := 4) (one ev_c) ev_c (by decide) (by decide) (Nat.le_of_ble_eq_true rfl)) (Nat.le_of_ble_eq_true rfl)) (one ev_c) (Nat.le_of_ble_eq_true rfl)) (.cons (tk_int 4) (.cons (tk_int 4) (.cons (tk_int 4) (.cons (tk_int 4) (.cons (tk_int 4) (.cons (tk_int 4) (.cons (tk_int 4) (.cons (tk_int 4) (.cons (tk_int 4) (.cons (.flat .non) .nil)))))))))) (Nat.le_of_ble_eq_true rfl)) rfl) (fun z => Bool.noConfusion z) fun _ H9 e9 => ?_
      have e69 := e7.trans (e8.trans e9)
      refine q_asgL (el_asks (K := K) 6 (by decide) (x := (m : Int) - 1) (fun _ => .non) (fun _ _ _ => ev_op (ev_var rfl) ev_c rv_I0) (bG e69) (bR e69) (due_last jG jR nG nR (by omega) (by omega))) fun t4 H10 nt4 e10 ht4 => ?_
      rw [given6] at ht4
      refine q_when (b := false) (no_alike (d := .list [.none, .none, .none, .none, .none, .none]) (e := .list [.none, .none, .none, .none, .none, .none]) (ek_of (ev_var rfl) (tk_lst (n := 3) ht4 (.cons (.flat .non) (.cons (.flat .non) (.cons (.flat .non) (.cons (.flat .non) (.cons (.flat .non) (.cons (.flat .non) .nil)))))) (Nat.le_of_ble_eq_true rfl)))
        (ek_L (n := 3) (xs := [V.non, .non, .non, .non, .non, .non]) (el_rep (k := 6) (one ev_c) ev_c (by decide) (by decide) (Nat.le_of_ble_eq_true rfl)) (.cons (.flat .non) (.cons (.flat .non) (.cons (.flat .non) (.cons (.flat .non) (.cons (.flat .non) (.cons (.flat .non) .nil)))))) (Nat.le_of_ble_eq_true rfl)) rfl) (fun z => Bool.noConfusion z) fun _ H11 e11 => ?_
      have e611 := e69.trans (e10.trans e11)
      have p11 := p5.ex (e6.trans e611)
      have gp : g ≠ p := fun z => by
        rw [z] at ng
        exact p5.some ng
      -- wrong
      have jn : judgeC none = false := rfl
      have badg : Bad K judgeC (Hm p H11) (.ref g) := ⟨_, Ord.th (hm_get (e611 g _ hg) gp), noC_all (by
        obtain ⟨k, rfl⟩ : ∃ k, m = k + 1 := ⟨m - 1, by omega⟩
        rw [List.range_succ, List.reverse_append]
        show (inD 0 ((0 : Nat) : Int) (.int (k : Int)) && _) = false
        have : inD 0 ((0 : Nat) : Int) (.int (k : Int)) = false := by
          show (decide ((0 : Int) ≤ (k : Int)) && decide ((k : Int) ≤ ((0 : Nat) : Int))) = false
          rw [decide_eq_false (show ¬ (k : Int) ≤ ((0 : Nat) : Int) by omega), Bool.and_false]
        rw [this, Bool.false_and])⟩
      have bm : MonoJ (Bad K judgeC) := bad_mono
      refine q_asgJL (p := p) (R := Bad K judgeC) (n := 13) (jl_lst bm (ja_cons bm (j_c ev_c fun _ => bad_sc (v := .non) True.intro jn) (ja_cons bm (j_L (one (v := .int 1) ev_c) fun _ _ h => bad_lst h (sc1 True.intro) (noC_all rfl))
        (ja_cons bm (j_L (el_lst ea_nil (Nat.le_of_ble_eq_true rfl)) fun _ _ h => bad_lst h (by simp) (noC_len (.inl rfl))) (ja_cons bm (j_U (eu_tup (ea_cons (ev_c (v := .int 0)) ea_nil) (Nat.le_of_ble_eq_true rfl)) fun _ _ h => bad_tup h jn)
        (ja_cons bm (j_L (two (v := .int 0) (u := .int 2) ev_c ev_c) fun _ _ h => bad_lst h (sc2 True.intro True.intro) (noC_all rfl)) (ja_cons bm (j_L (one (v := .bl true) ev_c) fun _ _ h => bad_lst h (sc1 True.intro) (noC_all rfl))
        (ja_cons bm (j_L (one (v := .str "0") ev_c) fun _ _ h => bad_lst h (sc1 True.intro) (noC_all rfl)) (ja_cons bm (j_L (two (v := .int 0) (u := .int (-1)) ev_c m1) fun _ _ h => bad_lst h (sc2 True.intro True.intro) (noC_all rfl))
        (ja_cons bm (j_L (xs := (List.replicate 21 [V.int 0]).flatten) (el_rep (k := 21) (one ev_c) ev_c (by decide) (by decide) (Nat.le_of_ble_eq_true rfl)) fun _ _ h => bad_lst h (by rw [rep_nv]; exact sc_nv _) (noC_len (.inr (by rw [rep_nv]; simp [nv_len]))))
        (ja_cons bm (j_L (xs := (List.replicate 20 [V.int 0]).flatten ++ [.non]) (el_cat (el_rep (k := 20) (one ev_c) ev_c (by decide) (by decide) (Nat.le_of_ble_eq_true rfl)) (one ev_c) (Nat.le_of_ble_eq_true rfl)) fun _ _ h => bad_lst h (fun v hv => by
            rw [rep_nv] at hv
            rcases List.mem_append.mp hv with z | z
            · exact sc_nv _ v z
            · rw [List.mem_singleton.mp z]; exact True.intro) (noC_len (.inr (by rw [rep_nv]; simp [nv_len]))))
        (ja_cons bm (j_D fun _ _ h => bad_dct h jn) (ja_cons bm (j_LL (one (v := .int 0) ev_c) fun _ _ _ h h2 => bad_ll h h2 (noC_all rfl))
        (ja_cons bm (fun G1 eg _ Q q => (ev_var (i := 8) (v := .ref g) (H := H11) rfl) G1 eg Q fun G2 eg2 => q _ G2 eg2 (bm _ _ _ (hm_mono (eg.trans eg2)) badg)) ja_nil))))))))))))) (by decide)) p11.some fun b vs H12 nb e12 hb vl hvs => ?_
      have bp : b ≠ p := p11.ne nb
      have p12' := p11.ex e12
      refine pq_no (p := p) (L := L) (k := 1) (H0 := Hm p H12) (tp_is (b := !true) (tp_not (tp_B (ep_askedD (x := x) hm_p (fun n G1 eg pg hn Q q => (ev_var (i := 10) (v := .ref b) (H := G1) rfl) G1 (Ex.refl _) _ fun G2 eg2 => (ep_dipI (p := p) (L := L) (w := 13) (H0 := Hm p H12) hm_p (ev_var rfl) ev_c (by decide) (by decide)) n G2 (eg.trans eg2) (pg.ex eg2) hn _ fun v G3 ⟨s, hv, r0, r1⟩ pg3 eg3 => by
          subst hv
          obtain ⟨s, rfl⟩ : ∃ z : Nat, s = z := ⟨s.toNat, by omega⟩
          obtain ⟨z, hz⟩ : ∃ z, vs[s]? = some z := ⟨_, List.getElem?_eq_getElem (by omega)⟩
          have hbG : Hm p H12 b = some (.lst vs) := hm_get hb bp
          have e03 : Ex (Hm p H12) G3 := hm_next hm_p (eg.trans eg2) eg3
          exact (rv_ixL (K := K) (sq_of (e03 b _ hbG)) (atI_nat hz)) G3 (Ex.refl _) _ fun G4 eg4 => q z G4 (bm (Hm p H12) (Hm p G4) z (ex_hm (e03.trans eg4) hm_p) (hvs z (List.mem_of_getElem? hz))) (pg3.ex eg4) (hm_trans (hm_of eg2) (hm_trans eg3 (hm_of eg4)))) (ev_var rfl)))) rfl) hm_sub p12' (by omega) fun H13 p13 e13 => ?_
      have eC := hm_next hp (eB.trans (e6.trans (e611.trans e12))) e13
      -- bound
      refine pq_asg (p := p) (L := L) (k := 1) (H0 := Hm p H13) (R := fun v G => Bnd (Hm p G) v) (ep_ixJ (K := K) (m := 4) bnd_mono (jl_lst bnd_mono (ja_cons bnd_mono (j_c ev_c (bnd_c (x := 0) (by decide))) (ja_cons bnd_mono (j_c m1 (bnd_c (by decide))) (ja_cons bnd_mono (j_c ev_c (bnd_c (x := 21) (by decide))) (ja_cons bnd_mono (j_c p30 (bnd_c (by decide))) ja_nil)))) (by decide)) (ep_dipI hm_p (ev_var rfl) ev_c (by decide) (by decide))) hm_sub p13 (by omega) fun v H14 hv p14 e14 => ?_
      obtain ⟨bd, rfl, hbd⟩ := hv
      have eD := hm_next hp eC e14
      have dS1 : dSh bd 0 x = some 2 := if_neg hbd
      have dT1 : dTc bd 0 = some 2 := if_neg hbd
      have mm : 1 ≤ (m : Int) ∧ (m : Int) ≤ 20 := by omega
      -- told, counted
      refine pq_told2 (p := p) (L := L) (k := 1) (H0 := Hm p H14) (xs := [.int 2, .int 2]) (ys := [.int 3, .int 3]) (el_call (ea_cons (ev_var rfl) (ea_cons ev_c (ea_cons (ev_var rfl) ea_nil))) (sl_counted (n := bd) (x := 0) (g := x) (congrArg vO dS1) (congrArg vO dT1)))
        (ep_counted (m := (m : Int)) (x := x) hm_p mm (ev_var rfl) (ep_ixJ (K := K) (m := 3) wgt_mono (jl_lst wgt_mono (ja_cons wgt_mono (j_c ev_c (wgt_c (x := 0) (by decide))) (ja_cons wgt_mono (j_c m1 (wgt_c (by decide))) (ja_cons wgt_mono (j_c (ev_op (z := .int (1000000000000 + 1)) p12 ev_c rv_I0) (wgt_c (by decide))) ja_nil))) (by decide)) (ep_dipI hm_p (ev_var rfl) ev_c (by decide) (by decide))) (ev_var rfl)) hm_sub p14 (by omega) fun t5 c1 c2 H15 ht5 hc1 hc2 p15 e15 => ?_
      have eE := hm_next hp eD e15
      have dS3 : dSh (m : Int) 1 x = some 4 := by unfold dSh; rw [if_pos mm, if_pos (by decide), if_neg (by omega)]
      have dT3 : dTc (m : Int) 1 = none := by unfold dTc; rw [if_pos mm, if_pos (by decide)]
      have dS4 : dSh (m : Int) 1 (m : Int) = some 4 := by unfold dSh; rw [if_pos mm, if_pos (by decide), if_neg (by omega)]
      have dS5 : dSh (m : Int) 1000000000000 ((m : Int) - 1) = none := by unfold dSh; rw [if_pos mm, if_pos (by decide), if_pos (by omega)]
      have dT5 : dTc (m : Int) 1000000000000 = none := by unfold dTc; rw [if_pos mm, if_pos (by decide)]
      have row2 : ∀ {n : Nat} {G : Hp} {te : TE} {σ : L2.St} {u v : V} {c d : PyData}, EvL te σ G [u, v] → Tk n G u c → Tk n G v d → EvK (n + 1) te σ G (.list [c, d]) := fun h h1 h2 => ek_L h (.cons h1 (.cons h2 .nil)) (Nat.le_of_ble_eq_true rfl)
      refine q_asgK (n := 4) (d := .list ([.list [.int 2, .int 2], .list [.int 3, .int 3]] ++ [.list [.int 4, .none], .list [.int 4, .none], .list [.none, .none]])) (ek_catV (n := 3) (ev_var rfl) ht5 (.cons (tk_lst (n := 2) hc1 (tk_ints (n := 2) [2, 2]) (Nat.le_of_ble_eq_true rfl)) (.cons (tk_lst (n := 2) hc2 (tk_ints (n := 2) [3, 3]) (Nat.le_of_ble_eq_true rfl)) .nil))
        (ek_lst (n := 3) (eka_cons (row2 (n := 2) (el_call (ea_cons (ev_var rfl) (ea_cons ev_c (ea_cons (ev_var rfl) ea_nil))) (sl_counted (n := (m : Int)) (x := 1) (g := x) (a := .int 4) (b := .non) (congrArg vO dS3) (congrArg vO dT3))) (tk_int 4) (.flat .non)) (eka_cons (row2 (n := 2) (el_call (ea_cons (ev_var rfl) (ea_cons ev_c (ea_cons (ev_var rfl) ea_nil))) (sl_counted (n := (m : Int)) (x := 1) (g := (m : Int)) (a := .int 4) (b := .non) (congrArg vO dS4) (congrArg vO dT3))) (tk_int 4) (.flat .non))
          (eka_cons (row2 (n := 2) (el_call (ea_cons (ev_var rfl) (ea_cons p12 (ea_cons (ev_op (ev_var rfl) ev_c rv_I0) ea_nil))) (sl_counted (n := (m : Int)) (x := 1000000000000) (g := (m : Int) - 1) (a := .non) (b := .non) (congrArg vO dS5) (congrArg vO dT5))) (.flat .non) (.flat .non)) eka_nil))) (Nat.le_of_ble_eq_true rfl)) (Nat.le_of_ble_eq_true rfl)) fun t6 H16 e16 ht6 => ?_
      refine s_when (b := false) (no_alike (d := .list [.list [.int 2, .int 2], .list [.int 3, .int 3], .list [.int 4, .none], .list [.int 4, .none], .list [.none, .none]]) (e := .list [.list [.int 2, .int 2], .list [.int 3, .int 3], .list [.int 4, .none], .list [.int 4, .none], .list [.none, .none]]) (ek_of (ev_var rfl) ht6)
        (ek_lst (n := 3) (eka_cons (row2 (n := 2) (two ev_c ev_c) (tk_int 2) (tk_int 2)) (eka_cons (row2 (n := 2) (two ev_c ev_c) (tk_int 3) (tk_int 3)) (eka_cons (row2 (n := 2) (two ev_c ev_c) (tk_int 4) (.flat .non)) (eka_cons (row2 (n := 2) (two ev_c ev_c) (tk_int 4) (.flat .non)) (eka_cons (row2 (n := 2) (two ev_c ev_c) (.flat .non) (.flat .non)) eka_nil))))) (Nat.le_of_ble_eq_true rfl)) rfl) (fun z => Bool.noConfusion z) fun _ H17 e17 => ?_
      exact ⟨_, _, _, _, _, _, _, _, _, rfl, eE.trans (e16.trans e17), (p15.ex (e16.trans e17)).mono (by omega)⟩
    · rintro σ' H' ⟨y2, y3, y4, y6, y7, y8, y9, y10, y11, rfl, e, p'⟩
      have b0 : ∀ {G : Hp} {q : Addr}, G q = some (.lst [.int 0]) → Bd K G (.ref q) (some [.int 0]) := fun h => .lst rfl h (.cons iv_int .nil)
      have o1 : Ord [0] := ⟨List.Perm.refl _, by decide, by decide⟩
      have c1 : Cm [0] := ⟨by decide, by decide, fun i x h => by
        cases i with
        | zero => have : 0 = x := Option.some.inj h; omega
        | succ i => simp at h⟩
      have j0 : judge (some [.int 0]) = true := judge_ord o1
      have jc0 : judgeC (some [.int 0]) = true := judgeC_cm c1
      have n0 : nOf (some [PyData.int 0]) = 1 := rfl
      have du0 : ∀ i, i < 6 → vO (dX i (some [.int 0]) 0) = if i < 2 then .int 5 else .non := fun i hi => by
        match i, hi with
        | 0, _ => show vO (dWo _ 0) = _; unfold dWo; rw [if_pos j0, n0]; rfl
        | 1, _ => show vO (dCw _ 0) = _; unfold dCw; rw [if_pos jc0, n0]; rfl
        | 2, _ => show vO (dSi _ 0) = _; unfold dSi; rw [if_pos j0, n0]; rfl
        | 3, _ => show vO (dSi _ 0) = _; unfold dSi; rw [if_pos j0, n0]; rfl
        | 4, _ => show vO (dJo _ 0) = _; unfold dJo; rw [if_pos j0, n0]; rfl
        | 5, _ => show vO (dTl _) = _; unfold dTl; rw [if_pos j0]; rfl
      have du1 : ∀ i, i < 5 → vO (dX i (some [.int 0]) 1) = if i < 4 then .int 4 else .non := fun i hi => by
        match i, hi with
        | 0, _ => show vO (dWo _ 1) = _; unfold dWo; rw [if_pos j0, n0]; rfl
        | 1, _ => show vO (dCw _ 1) = _; unfold dCw; rw [if_pos jc0, n0]; rfl
        | 2, _ => show vO (dSi _ 1) = _; unfold dSi; rw [if_pos j0, n0]; rfl
        | 3, _ => show vO (dSi _ 1) = _; unfold dSi; rw [if_pos j0, n0]; rfl
        | 4, _ => show vO (dJo _ 1) = _; unfold dJo; rw [if_pos j0, n0]; rfl
      have asks0 : ∀ {G : Hp} {σ : L2.St} (n : Nat) (x : Int) (z : Nat → V), n ≤ 6 → (∀ v, wipe ((wipe σ [5]).set 5 (some v)) [5] = wipe σ [5]) → (∀ v, ((wipe σ [5]).set 5 (some v))[5]? = some (some v)) → (∀ i, i < n → vO (dX i (some [.int 0]) x) = z i) → EvL (tLc (iRng1 (tCons (tC (.int (n : Int))) tNil)) (gName 5) tYes (tCall (sp_law_asked K) [] E0 (tCons (tVar 5) (tCons (tLst (tCons (tC (.int 0)) tNil)) (tCons (tC (.int x)) tNil)))) [5]) σ G (given n (fun _ => true) z) := fun {G σ} n x z hn hw h5 hz => by
        have g0 := el_lcR1 (te := tCall (sp_law_asked K) [] E0 (tCons (tVar 5) (tCons (tLst (tCons (tC (.int 0)) tNil)) (tCons (tC (.int x)) tNil)))) (t := tYes) (j := 5) (vs := [5]) (σ := σ) (H := G) (n := (n : Int)) (fun _ => true) z (ea_cons ev_c ea_nil) (by omega) hw (fun _ _ _ _ => et_yes) fun i H1 e1 hi _ => ?_
        · rw [Int.toNat_natCast] at g0
          exact g0
        · exact ev_askedL (n := i) (xs := [.int 0]) (ev_var (i := 5) (h5 _)) (fun _ _ => one ev_c) (fun _ _ => ev_c) (by omega) (fun _ _ h => b0 h) (hz i (by omega))
      refine q_asgL (el_cat (asks0 6 0 (fun i => if i < 2 then .int 5 else .non) (by decide) (fun _ => rfl) (fun _ => rfl) du0) (asks0 5 1 (fun i => if i < 4 then .int 4 else .non) (by decide) (fun _ => rfl) (fun _ => rfl) du1) (Nat.le_of_ble_eq_true rfl)) fun t1 H2 nt1 e2 ht1 => ?_
      refine q_when (b := false) (no_alike (d := .list [.int 5, .int 5, .none, .none, .none, .none, .int 4, .int 4, .int 4, .int 4, .none]) (e := .list [.int 5, .int 5, .none, .none, .none, .none, .int 4, .int 4, .int 4, .int 4, .none]) (ek_of (ev_var rfl) (tk_lst (n := 3) (xs := [.int 5, .int 5, .non, .non, .non, .non, .int 4, .int 4, .int 4, .int 4, .non]) ht1 (.cons (tk_int 5) (.cons (tk_int 5) (.cons (.flat .non) (.cons (.flat .non) (.cons (.flat .non) (.cons (.flat .non) (.cons (tk_int 4) (.cons (tk_int 4) (.cons (tk_int 4) (.cons (tk_int 4) (.cons (.flat .non) .nil))))))))))) (Nat.le_of_ble_eq_true rfl)))
        (ek_lst (n := 3) (eka_cons (ek_int ev_c) (eka_cons (ek_int ev_c) (eka_cons (ek_non ev_c) (eka_cons (ek_non ev_c) (eka_cons (ek_non ev_c) (eka_cons (ek_non ev_c) (eka_cons (ek_int ev_c) (eka_cons (ek_int ev_c) (eka_cons (ek_int ev_c) (eka_cons (ek_int ev_c) (eka_cons (ek_non ev_c) eka_nil))))))))))) (Nat.le_of_ble_eq_true rfl)) rfl) (fun z => Bool.noConfusion z) fun _ H3 e3 => ?_
      have rgf := el_rg1 (tb := tC (.int 20)) (σ := [some (.ref a), some (.ref p), y2, y3, y4, none, some (.ref t1), y7, y8, y9, y10, y11, none]) (H := H3) ev_c (by unfold RgOk; decide)
      rw [show (20 : Int) = ((20 : Nat) : Int) from rfl, range_iz] at rgf
      refine q_asgL rgf fun f H4 nf e4 hf => ?_
      have of : Ord (List.range 20) := ⟨by simp, by decide, by decide⟩
      have o19 : Ord (List.range 19) := ⟨by simp, by decide, by decide⟩
      have bf : ∀ {G : Hp}, Ex H4 G → Bd K G (.ref f) (some ((iz (List.range 20)).map PyData.int)) := fun eg => Ord.th (eg f _ hf)
      have jf := judge_ord of
      have nf : nOf (some ((iz (List.range 20)).map PyData.int)) = 20 := by rw [bd_n (bf (Ex.refl _)) hf, nv_len]; simp
      have j19 := judge_ord o19
      have n19 : nOf (some ((iz (List.range 19)).map PyData.int)) = 19 := by show ((List.length _ : Nat) : Int) = 19; simp [iz]
      have d40 : ∀ x : Int, dX 4 (some ((iz (List.range 20)).map PyData.int)) x = some 0 := fun x => by show dJo _ x = _; unfold dJo; rw [if_pos jf, nf]; rfl
      have d419 : dX 4 (some ((iz (List.range 19)).map PyData.int)) 19 = none := by show dJo _ _ = _; unfold dJo; rw [if_pos j19, n19]; rfl
      have d019 : dX 0 (some ((iz (List.range 20)).map PyData.int)) 19 = none := by show dWo _ _ = _; unfold dWo; rw [if_pos jf, nf]; rfl
      have sl19 : ∀ {G : Hp} {σ : L2.St}, Ex H4 G → σ[12]? = some (some (.ref f)) → EvL (tSl (rSlL K) (tVar 12) tNoPart (tPart (tC (.int 19)))) σ G (nv (List.range 19)) := fun {G σ} eg h12 => by
        have c := el_sl (K := K) (te := tVar 12) (tl := tNoPart) (th := tPart (tC (.int 19))) (σ := σ) (H := G) (ev_var h12) eo_none (eo_some (ev_c (v := .int 19))) (sq_of (eg f _ hf))
        have := cut_to (f := List.range 20) (hi := 19) (by simp)
        rw [show ((19 : Nat) : Int) = 19 from rfl] at this
        rw [this, List.take_range] at c
        exact c
      refine q_asgK (n := 4) (d := .list [.int 0, .int 0, .none, .none]) (ek_lst (n := 3) (eka_cons (ek_int (ev_call (vs := [.int 4, .ref f, .int 0]) (ea_cons ev_c (ea_cons (ev_var rfl) (ea_cons ev_c ea_nil))) (sv_asked (n := 4) (by decide) (bf (Ex.refl _)) (congrArg vO (d40 0))))) (eka_cons (ek_int (ev_call (vs := [.int 4, .ref f, .int (-1)]) (ea_cons ev_c (ea_cons (ev_var rfl) (ea_cons m1 ea_nil))) (sv_asked (n := 4) (by decide) (bf (Ex.refl _)) (congrArg vO (d40 (-1))))))
        (eka_cons (ek_non (ev_askedL (n := 4) (x := 19) (ev_c (v := .int 4)) (fun G1 eg => sl19 eg rfl) (fun _ _ => ev_c) (by decide) (fun _ _ h => Ord.th h) (congrArg vO d419))) (eka_cons (ek_non (ev_call (vs := [.int 0, .ref f, .int 19]) (ea_cons ev_c (ea_cons (ev_var rfl) (ea_cons ev_c ea_nil))) (sv_asked (n := 0) (by decide) (bf (Ex.refl _)) (congrArg vO d019)))) eka_nil)))) (Nat.le_of_ble_eq_true rfl)) fun t2 H5 e5 ht2 => ?_
      exact s_ret (v := .bl true) (ev_alike (n := 4) (d := .list [.int 0, .int 0, .none, .none]) (ek_of (ev_var rfl) ht2) (ek_lst (n := 3) (eka_cons (ek_int ev_c) (eka_cons (ek_int ev_c) (eka_cons (ek_non ev_c) (eka_cons (ek_non ev_c) eka_nil)))) (Nat.le_of_ble_eq_true rfl)) rfl) fun H6 _ => kk H6
end


theorem all_mk {l : PySem.W.OpenLaw} {w : World} {K : PySem.W.Frag} {h : Heap} {mg : Str → Option Value} {fa : Addr} (X : K.In h) (G : h.Ns mainGlobals mg) (hfa : mg "law" = some (.ref fa))
    {f1 : Addr} {od1 an1 : Option Addr} {sl1 : Array (Option Value)} {oc1 kV1 dc1 pm1 cd1 ct1 : Value}
    {f2 : Addr} {od2 an2 : Option Addr} {sl2 : Array (Option Value)} {oc2 kV2 dc2 pm2 cd2 ct2 : Value}
    {f3 : Addr} {od3 an3 : Option Addr} {sl3 : Array (Option Value)} {oc3 kV3 dc3 pm3 cd3 ct3 : Value}
    {f4 : Addr} {od4 an4 : Option Addr} {sl4 : Array (Option Value)} {oc4 kV4 dc4 pm4 cd4 ct4 : Value}
    {f5 : Addr} {od5 an5 : Option Addr} {sl5 : Array (Option Value)} {oc5 kV5 dc5 pm5 cd5 ct5 : Value}
    {f6 : Addr} {od6 an6 : Option Addr} {sl6 : Array (Option Value)} {oc6 kV6 dc6 pm6 cd6 ct6 : Value}
    {f7 : Addr} {od7 an7 : Option Addr} {sl7 : Array (Option Value)} {oc7 kV7 dc7 pm7 cd7 ct7 : Value}
    {f8 : Addr} {od8 an8 : Option Addr} {sl8 : Array (Option Value)} {oc8 kV8 dc8 pm8 cd8 ct8 : Value}
    {f9 : Addr} {od9 an9 : Option Addr} {sl9 : Array (Option Value)} {oc9 kV9 dc9 pm9 cd9 ct9 : Value}
    {f10 : Addr} {od10 an10 : Option Addr} {sl10 : Array (Option Value)} {oc10 kV10 dc10 pm10 cd10 ct10 : Value}
    {f11 : Addr} {od11 an11 : Option Addr} {sl11 : Array (Option Value)} {oc11 kV11 dc11 pm11 cd11 ct11 : Value}
    {f12 : Addr} {od12 an12 : Option Addr} {sl12 : Array (Option Value)} {oc12 kV12 dc12 pm12 cd12 ct12 : Value}
    {f13 : Addr} {od13 an13 : Option Addr} {sl13 : Array (Option Value)} {oc13 kV13 dc13 pm13 cd13 ct13 : Value}
    {f14 : Addr} {od14 an14 : Option Addr} {sl14 : Array (Option Value)} {oc14 kV14 dc14 pm14 cd14 ct14 : Value}
    {f15 : Addr} {od15 an15 : Option Addr} {sl15 : Array (Option Value)} {oc15 kV15 dc15 pm15 cd15 ct15 : Value}
    {f16 : Addr} {od16 an16 : Option Addr} {sl16 : Array (Option Value)} {oc16 kV16 dc16 pm16 cd16 ct16 : Value}
    {f17 : Addr} {od17 an17 : Option Addr} {sl17 : Array (Option Value)} {oc17 kV17 dc17 pm17 cd17 ct17 : Value}
    {f18 : Addr} {od18 an18 : Option Addr} {sl18 : Array (Option Value)} {oc18 kV18 dc18 pm18 cd18 ct18 : Value}
    {f19 : Addr} {od19 an19 : Option Addr} {sl19 : Array (Option Value)} {oc19 kV19 dc19 pm19 cd19 ct19 : Value}
    {f20 : Addr} {od20 an20 : Option Addr} {sl20 : Array (Option Value)} {oc20 kV20 dc20 pm20 cd20 ct20 : Value}
    {f21 : Addr} {od21 an21 : Option Addr} {sl21 : Array (Option Value)} {oc21 kV21 dc21 pm21 cd21 ct21 : Value}
    {f22 : Addr} {od22 an22 : Option Addr} {sl22 : Array (Option Value)} {oc22 kV22 dc22 pm22 cd22 ct22 : Value}
    {f23 : Addr} {od23 an23 : Option Addr} {sl23 : Array (Option Value)} {oc23 kV23 dc23 pm23 cd23 ct23 : Value}
    {f24 : Addr} {od24 an24 : Option Addr} {sl24 : Array (Option Value)} {oc24 kV24 dc24 pm24 cd24 ct24 : Value}
    {f25 : Addr} {od25 an25 : Option Addr} {sl25 : Array (Option Value)} {oc25 kV25 dc25 pm25 cd25 ct25 : Value}
    {f26 : Addr} {od26 an26 : Option Addr} {sl26 : Array (Option Value)} {oc26 kV26 dc26 pm26 cd26 ct26 : Value}
    {f27 : Addr} {od27 an27 : Option Addr} {sl27 : Array (Option Value)} {oc27 kV27 dc27 pm27 cd27 ct27 : Value}
    {f28 : Addr} {od28 an28 : Option Addr} {sl28 : Array (Option Value)} {oc28 kV28 dc28 pm28 cd28 ct28 : Value}
    {f29 : Addr} {od29 an29 : Option Addr} {sl29 : Array (Option Value)} {oc29 kV29 dc29 pm29 cd29 ct29 : Value}
    {f30 : Addr} {od30 an30 : Option Addr} {sl30 : Array (Option Value)} {oc30 kV30 dc30 pm30 cd30 ct30 : Value}
    {f31 : Addr} {od31 an31 : Option Addr} {sl31 : Array (Option Value)} {oc31 kV31 dc31 pm31 cd31 ct31 : Value}
    {f32 : Addr} {od32 an32 : Option Addr} {sl32 : Array (Option Value)} {oc32 kV32 dc32 pm32 cd32 ct32 : Value}
    {c_HallError : Addr}
    {c_InvalidGuests : Addr}
    {c_InvalidWeight : Addr}
    {c_InvalidGuest : Addr}
    {c_InvalidSeating : Addr}
    {c_InvalidComing : Addr}
    {c_NoSeating : Addr}
    {fM0 dM0 : Addr} {ocM0 kVM0 dcM0 pmM0 cdM0 ctM0 oTM0 : Value} {odM0 anM0 oDM0 : Option Addr} {slM0 tsM0 : Array (Option Value)} {tkM0 : Tok} {nM0 : Nat}
    {c_Hall : Addr}
    {t_MOST_GUESTS : Tok}
    {t_MOST_WEIGHT : Tok}
    (a1 : PySem.W.nsIn K mainGlobals "_wall" = some (some (.ref f1))) (l1 : K.lookup f1 = some ⟨oc1, od1, .func (PySem.W.fnOf "_wall" "_wall" (defArgs s_wall) (defBody s_wall) (defScope s_wall) .none kV1 dc1 pm1 an1 cd1 ct1), sl1⟩) (c1 : PySem.W.codeIn K cd1 "_wall" = true) (k1 : PySem.W.keepIn K (.ref f1) = true)
    (a2 : PySem.W.nsIn K mainGlobals "is_whole" = some (some (.ref f2))) (l2 : K.lookup f2 = some ⟨oc2, od2, .func (PySem.W.fnOf "is_whole" "is_whole" (defArgs s_is_whole) (defBody s_is_whole) (defScope s_is_whole) .none kV2 dc2 pm2 an2 cd2 ct2), sl2⟩) (c2 : PySem.W.codeIn K cd2 "is_whole" = true) (k2 : PySem.W.keepIn K (.ref f2) = true)
    (a3 : PySem.W.nsIn K mainGlobals "is_within" = some (some (.ref f3))) (l3 : K.lookup f3 = some ⟨oc3, od3, .func (PySem.W.fnOf "is_within" "is_within" (defArgs s_is_within) (defBody s_is_within) (defScope s_is_within) .none kV3 dc3 pm3 an3 cd3 ct3), sl3⟩) (c3 : PySem.W.codeIn K cd3 "is_within" = true) (k3 : PySem.W.keepIn K (.ref f3) = true)
    (a4 : PySem.W.nsIn K mainGlobals "is_order" = some (some (.ref f4))) (l4 : K.lookup f4 = some ⟨oc4, od4, .func (PySem.W.fnOf "is_order" "is_order" (defArgs s_is_order) (defBody s_is_order) (defScope s_is_order) .none kV4 dc4 pm4 an4 cd4 ct4), sl4⟩) (c4 : PySem.W.codeIn K cd4 "is_order" = true) (k4 : PySem.W.keepIn K (.ref f4) = true)
    (a5 : PySem.W.nsIn K mainGlobals "check_guests" = some (some (.ref f5))) (l5 : K.lookup f5 = some ⟨oc5, od5, .func (PySem.W.fnOf "check_guests" "check_guests" (defArgs s_check_guests) (defBody s_check_guests) (defScope s_check_guests) .none kV5 dc5 pm5 an5 cd5 ct5), sl5⟩) (c5 : PySem.W.codeIn K cd5 "check_guests" = true) (k5 : PySem.W.keepIn K (.ref f5) = true)
    (a6 : PySem.W.nsIn K mainGlobals "check_weight" = some (some (.ref f6))) (l6 : K.lookup f6 = some ⟨oc6, od6, .func (PySem.W.fnOf "check_weight" "check_weight" (defArgs s_check_weight) (defBody s_check_weight) (defScope s_check_weight) .none kV6 dc6 pm6 an6 cd6 ct6), sl6⟩) (c6 : PySem.W.codeIn K cd6 "check_weight" = true) (k6 : PySem.W.keepIn K (.ref f6) = true)
    (a7 : PySem.W.nsIn K mainGlobals "check_guest" = some (some (.ref f7))) (l7 : K.lookup f7 = some ⟨oc7, od7, .func (PySem.W.fnOf "check_guest" "check_guest" (defArgs s_check_guest) (defBody s_check_guest) (defScope s_check_guest) .none kV7 dc7 pm7 an7 cd7 ct7), sl7⟩) (c7 : PySem.W.codeIn K cd7 "check_guest" = true) (k7 : PySem.W.keepIn K (.ref f7) = true)
    (a8 : PySem.W.nsIn K mainGlobals "fraction" = some (some (.ref f8))) (l8 : K.lookup f8 = some ⟨oc8, od8, .func (PySem.W.fnOf "fraction" "fraction" (defArgs s_fraction) (defBody s_fraction) (defScope s_fraction) .none kV8 dc8 pm8 an8 cd8 ct8), sl8⟩) (c8 : PySem.W.codeIn K cd8 "fraction" = true) (k8 : PySem.W.keepIn K (.ref f8) = true)
    (a9 : PySem.W.nsIn K mainGlobals "is_seating" = some (some (.ref f9))) (l9 : K.lookup f9 = some ⟨oc9, od9, .func (PySem.W.fnOf "is_seating" "is_seating" (defArgs s_is_seating) (defBody s_is_seating) (defScope s_is_seating) .none kV9 dc9 pm9 an9 cd9 ct9), sl9⟩) (c9 : PySem.W.codeIn K cd9 "is_seating" = true) (k9 : PySem.W.keepIn K (.ref f9) = true)
    (a10 : PySem.W.nsIn K mainGlobals "check_seating" = some (some (.ref f10))) (l10 : K.lookup f10 = some ⟨oc10, od10, .func (PySem.W.fnOf "check_seating" "check_seating" (defArgs s_check_seating) (defBody s_check_seating) (defScope s_check_seating) .none kV10 dc10 pm10 an10 cd10 ct10), sl10⟩) (c10 : PySem.W.codeIn K cd10 "check_seating" = true) (k10 : PySem.W.keepIn K (.ref f10) = true)
    (a11 : PySem.W.nsIn K mainGlobals "is_coming" = some (some (.ref f11))) (l11 : K.lookup f11 = some ⟨oc11, od11, .func (PySem.W.fnOf "is_coming" "is_coming" (defArgs s_is_coming) (defBody s_is_coming) (defScope s_is_coming) .none kV11 dc11 pm11 an11 cd11 ct11), sl11⟩) (c11 : PySem.W.codeIn K cd11 "is_coming" = true) (k11 : PySem.W.keepIn K (.ref f11) = true)
    (a12 : PySem.W.nsIn K mainGlobals "coming_of" = some (some (.ref f12))) (l12 : K.lookup f12 = some ⟨oc12, od12, .func (PySem.W.fnOf "coming_of" "coming_of" (defArgs s_coming_of) (defBody s_coming_of) (defScope s_coming_of) .none kV12 dc12 pm12 an12 cd12 ct12), sl12⟩) (c12 : PySem.W.codeIn K cd12 "coming_of" = true) (k12 : PySem.W.keepIn K (.ref f12) = true)
    (a13 : PySem.W.nsIn K mainGlobals "seating_by" = some (some (.ref f13))) (l13 : K.lookup f13 = some ⟨oc13, od13, .func (PySem.W.fnOf "seating_by" "seating_by" (defArgs s_seating_by) (defBody s_seating_by) (defScope s_seating_by) .none kV13 dc13 pm13 an13 cd13 ct13), sl13⟩) (c13 : PySem.W.codeIn K cd13 "seating_by" = true) (k13 : PySem.W.keepIn K (.ref f13) = true)
    (a14 : PySem.W.nsIn K mainGlobals "check_coming" = some (some (.ref f14))) (l14 : K.lookup f14 = some ⟨oc14, od14, .func (PySem.W.fnOf "check_coming" "check_coming" (defArgs s_check_coming) (defBody s_check_coming) (defScope s_check_coming) .none kV14 dc14 pm14 an14 cd14 ct14), sl14⟩) (c14 : PySem.W.codeIn K cd14 "check_coming" = true) (k14 : PySem.W.keepIn K (.ref f14) = true)
    (a15 : PySem.W.nsIn K mainGlobals "without" = some (some (.ref f15))) (l15 : K.lookup f15 = some ⟨oc15, od15, .func (PySem.W.fnOf "without" "without" (defArgs s_without) (defBody s_without) (defScope s_without) .none kV15 dc15 pm15 an15 cd15 ct15), sl15⟩) (c15 : PySem.W.codeIn K cd15 "without" = true) (k15 : PySem.W.keepIn K (.ref f15) = true)
    (a16 : PySem.W.nsIn K mainGlobals "coming_without" = some (some (.ref f16))) (l16 : K.lookup f16 = some ⟨oc16, od16, .func (PySem.W.fnOf "coming_without" "coming_without" (defArgs s_coming_without) (defBody s_coming_without) (defScope s_coming_without) .none kV16 dc16 pm16 an16 cd16 ct16), sl16⟩) (c16 : PySem.W.codeIn K cd16 "coming_without" = true) (k16 : PySem.W.keepIn K (.ref f16) = true)
    (a17 : PySem.W.nsIn K mainGlobals "sits_alone" = some (some (.ref f17))) (l17 : K.lookup f17 = some ⟨oc17, od17, .func (PySem.W.fnOf "sits_alone" "sits_alone" (defArgs s_sits_alone) (defBody s_sits_alone) (defScope s_sits_alone) .none kV17 dc17 pm17 an17 cd17 ct17), sl17⟩) (c17 : PySem.W.codeIn K cd17 "sits_alone" = true) (k17 : PySem.W.keepIn K (.ref f17) = true)
    (a18 : PySem.W.nsIn K mainGlobals "is_traceless" = some (some (.ref f18))) (l18 : K.lookup f18 = some ⟨oc18, od18, .func (PySem.W.fnOf "is_traceless" "is_traceless" (defArgs s_is_traceless) (defBody s_is_traceless) (defScope s_is_traceless) .none kV18 dc18 pm18 an18 cd18 ct18), sl18⟩) (c18 : PySem.W.codeIn K cd18 "is_traceless" = true) (k18 : PySem.W.keepIn K (.ref f18) = true)
    (a19 : PySem.W.nsIn K mainGlobals "traceless" = some (some (.ref f19))) (l19 : K.lookup f19 = some ⟨oc19, od19, .func (PySem.W.fnOf "traceless" "traceless" (defArgs s_traceless) (defBody s_traceless) (defScope s_traceless) .none kV19 dc19 pm19 an19 cd19 ct19), sl19⟩) (c19 : PySem.W.codeIn K cd19 "traceless" = true) (k19 : PySem.W.keepIn K (.ref f19) = true)
    (a20 : PySem.W.nsIn K mainGlobals "traceless_share" = some (some (.ref f20))) (l20 : K.lookup f20 = some ⟨oc20, od20, .func (PySem.W.fnOf "traceless_share" "traceless_share" (defArgs s_traceless_share) (defBody s_traceless_share) (defScope s_traceless_share) .none kV20 dc20 pm20 an20 cd20 ct20), sl20⟩) (c20 : PySem.W.codeIn K cd20 "traceless_share" = true) (k20 : PySem.W.keepIn K (.ref f20) = true)
    (a21 : PySem.W.nsIn K mainGlobals "traceless_counts" = some (some (.ref f21))) (l21 : K.lookup f21 = some ⟨oc21, od21, .func (PySem.W.fnOf "traceless_counts" "traceless_counts" (defArgs s_traceless_counts) (defBody s_traceless_counts) (defScope s_traceless_counts) .none kV21 dc21 pm21 an21 cd21 ct21), sl21⟩) (c21 : PySem.W.codeIn K cd21 "traceless_counts" = true) (k21 : PySem.W.keepIn K (.ref f21) = true)
    (a22 : PySem.W.nsIn K mainGlobals "joined" = some (some (.ref f22))) (l22 : K.lookup f22 = some ⟨oc22, od22, .func (PySem.W.fnOf "joined" "joined" (defArgs s_joined) (defBody s_joined) (defScope s_joined) .none kV22 dc22 pm22 an22 cd22 ct22), sl22⟩) (c22 : PySem.W.codeIn K cd22 "joined" = true) (k22 : PySem.W.keepIn K (.ref f22) = true)
    (a23 : PySem.W.nsIn K mainGlobals "seating_without" = some (some (.ref f23))) (l23 : K.lookup f23 = some ⟨oc23, od23, .func (PySem.W.fnOf "seating_without" "seating_without" (defArgs s_seating_without) (defBody s_seating_without) (defScope s_seating_without) .none kV23 dc23 pm23 an23 cd23 ct23), sl23⟩) (c23 : PySem.W.codeIn K cd23 "seating_without" = true) (k23 : PySem.W.keepIn K (.ref f23) = true)
    (a24 : PySem.W.nsIn K mainGlobals "_law_bag" = some (some (.ref f24))) (l24 : K.lookup f24 = some ⟨oc24, od24, .func (PySem.W.fnOf "_law_bag" "_law_bag" (defArgs s_law_bag) (defBody s_law_bag) (defScope s_law_bag) .none kV24 dc24 pm24 an24 cd24 ct24), sl24⟩) (c24 : PySem.W.codeIn K cd24 "_law_bag" = true) (k24 : PySem.W.keepIn K (.ref f24) = true)
    (a25 : PySem.W.nsIn K mainGlobals "_law_stirred" = some (some (.ref f25))) (l25 : K.lookup f25 = some ⟨oc25, od25, .func (PySem.W.fnOf "_law_stirred" "_law_stirred" (defArgs s_law_stirred) (defBody s_law_stirred) (defScope s_law_stirred) .none kV25 dc25 pm25 an25 cd25 ct25), sl25⟩) (c25 : PySem.W.codeIn K cd25 "_law_stirred" = true) (k25 : PySem.W.keepIn K (.ref f25) = true)
    (a26 : PySem.W.nsIn K mainGlobals "_law_draw" = some (some (.ref f26))) (l26 : K.lookup f26 = some ⟨oc26, od26, .func (PySem.W.fnOf "_law_draw" "_law_draw" (defArgs s_law_draw) (defBody s_law_draw) (defScope s_law_draw) .none kV26 dc26 pm26 an26 cd26 ct26), sl26⟩) (c26 : PySem.W.codeIn K cd26 "_law_draw" = true) (k26 : PySem.W.keepIn K (.ref f26) = true)
    (a27 : PySem.W.nsIn K mainGlobals "_law_alike" = some (some (.ref f27))) (l27 : K.lookup f27 = some ⟨oc27, od27, .func (PySem.W.fnOf "_law_alike" "_law_alike" (defArgs s_law_alike) (defBody s_law_alike) (defScope s_law_alike) .none kV27 dc27 pm27 an27 cd27 ct27), sl27⟩) (c27 : PySem.W.codeIn K cd27 "_law_alike" = true) (k27 : PySem.W.keepIn K (.ref f27) = true)
    (a28 : PySem.W.nsIn K mainGlobals "_law_bad_seating" = some (some (.ref f28))) (l28 : K.lookup f28 = some ⟨oc28, od28, .func (PySem.W.fnOf "_law_bad_seating" "_law_bad_seating" (defArgs s_law_bad_seating) (defBody s_law_bad_seating) (defScope s_law_bad_seating) .none kV28 dc28 pm28 an28 cd28 ct28), sl28⟩) (c28 : PySem.W.codeIn K cd28 "_law_bad_seating" = true) (k28 : PySem.W.keepIn K (.ref f28) = true)
    (a29 : PySem.W.nsIn K mainGlobals "_law_named" = some (some (.ref f29))) (l29 : K.lookup f29 = some ⟨oc29, od29, .func (PySem.W.fnOf "_law_named" "_law_named" (defArgs s_law_named) (defBody s_law_named) (defScope s_law_named) .none kV29 dc29 pm29 an29 cd29 ct29), sl29⟩) (c29 : PySem.W.codeIn K cd29 "_law_named" = true) (k29 : PySem.W.keepIn K (.ref f29) = true)
    (a30 : PySem.W.nsIn K mainGlobals "_law_asked" = some (some (.ref f30))) (l30 : K.lookup f30 = some ⟨oc30, od30, .func (PySem.W.fnOf "_law_asked" "_law_asked" (defArgs s_law_asked) (defBody s_law_asked) (defScope s_law_asked) .none kV30 dc30 pm30 an30 cd30 ct30), sl30⟩) (c30 : PySem.W.codeIn K cd30 "_law_asked" = true) (k30 : PySem.W.keepIn K (.ref f30) = true)
    (a31 : PySem.W.nsIn K mainGlobals "_law_counted" = some (some (.ref f31))) (l31 : K.lookup f31 = some ⟨oc31, od31, .func (PySem.W.fnOf "_law_counted" "_law_counted" (defArgs s_law_counted) (defBody s_law_counted) (defScope s_law_counted) .none kV31 dc31 pm31 an31 cd31 ct31), sl31⟩) (c31 : PySem.W.codeIn K cd31 "_law_counted" = true) (k31 : PySem.W.keepIn K (.ref f31) = true)
    (a32 : PySem.W.nsIn K mainGlobals "law" = some (some (.ref f32))) (l32 : K.lookup f32 = some ⟨oc32, od32, .func (PySem.W.fnOf "law" "law" (defArgs s_law) (defBody s_law) (defScope s_law) .none kV32 dc32 pm32 an32 cd32 ct32), sl32⟩) (c32 : PySem.W.codeIn K cd32 "law" = true) (k32 : PySem.W.keepIn K (.ref f32) = true)
    (q_HallError : PySem.W.nsIn K mainGlobals "HallError" = some (some (.ref c_HallError)))
    (q_InvalidGuests : PySem.W.nsIn K mainGlobals "InvalidGuests" = some (some (.ref c_InvalidGuests)))
    (q_InvalidWeight : PySem.W.nsIn K mainGlobals "InvalidWeight" = some (some (.ref c_InvalidWeight)))
    (q_InvalidGuest : PySem.W.nsIn K mainGlobals "InvalidGuest" = some (some (.ref c_InvalidGuest)))
    (q_InvalidSeating : PySem.W.nsIn K mainGlobals "InvalidSeating" = some (some (.ref c_InvalidSeating)))
    (q_InvalidComing : PySem.W.nsIn K mainGlobals "InvalidComing" = some (some (.ref c_InvalidComing)))
    (q_NoSeating : PySem.W.nsIn K mainGlobals "NoSeating" = some (some (.ref c_NoSeating)))
    (e_InvalidSeating : Kit.excB K c_InvalidSeating = true) (x_InvalidSeating : PySem.W.exmOne K (.ref c_InvalidSeating) (.ref c_HallError) = some true) (t_InvalidSeating : Kit.isRow K c_InvalidSeating [((.ref c_InvalidSeating : Value), true), ((.ref c_InvalidComing : Value), false), ((.ref c_InvalidGuests : Value), false), ((.ref c_InvalidWeight : Value), false), ((.ref c_InvalidGuest : Value), false), ((.ref c_NoSeating : Value), false)] = true)
    (e_InvalidComing : Kit.excB K c_InvalidComing = true) (x_InvalidComing : PySem.W.exmOne K (.ref c_InvalidComing) (.ref c_HallError) = some true) (t_InvalidComing : Kit.isRow K c_InvalidComing [((.ref c_InvalidSeating : Value), false), ((.ref c_InvalidComing : Value), true), ((.ref c_InvalidGuests : Value), false), ((.ref c_InvalidWeight : Value), false), ((.ref c_InvalidGuest : Value), false), ((.ref c_NoSeating : Value), false)] = true)
    (e_InvalidGuests : Kit.excB K c_InvalidGuests = true) (x_InvalidGuests : PySem.W.exmOne K (.ref c_InvalidGuests) (.ref c_HallError) = some true) (t_InvalidGuests : Kit.isRow K c_InvalidGuests [((.ref c_InvalidSeating : Value), false), ((.ref c_InvalidComing : Value), false), ((.ref c_InvalidGuests : Value), true), ((.ref c_InvalidWeight : Value), false), ((.ref c_InvalidGuest : Value), false), ((.ref c_NoSeating : Value), false)] = true)
    (e_InvalidWeight : Kit.excB K c_InvalidWeight = true) (x_InvalidWeight : PySem.W.exmOne K (.ref c_InvalidWeight) (.ref c_HallError) = some true) (t_InvalidWeight : Kit.isRow K c_InvalidWeight [((.ref c_InvalidSeating : Value), false), ((.ref c_InvalidComing : Value), false), ((.ref c_InvalidGuests : Value), false), ((.ref c_InvalidWeight : Value), true), ((.ref c_InvalidGuest : Value), false), ((.ref c_NoSeating : Value), false)] = true)
    (e_InvalidGuest : Kit.excB K c_InvalidGuest = true) (x_InvalidGuest : PySem.W.exmOne K (.ref c_InvalidGuest) (.ref c_HallError) = some true) (t_InvalidGuest : Kit.isRow K c_InvalidGuest [((.ref c_InvalidSeating : Value), false), ((.ref c_InvalidComing : Value), false), ((.ref c_InvalidGuests : Value), false), ((.ref c_InvalidWeight : Value), false), ((.ref c_InvalidGuest : Value), true), ((.ref c_NoSeating : Value), false)] = true)
    (e_NoSeating : Kit.excB K c_NoSeating = true) (x_NoSeating : PySem.W.exmOne K (.ref c_NoSeating) (.ref c_HallError) = some true) (t_NoSeating : Kit.isRow K c_NoSeating [((.ref c_InvalidSeating : Value), false), ((.ref c_InvalidComing : Value), false), ((.ref c_InvalidGuests : Value), false), ((.ref c_InvalidWeight : Value), false), ((.ref c_InvalidGuest : Value), false), ((.ref c_NoSeating : Value), true)] = true)
    (q_Hall : PySem.W.nsIn K mainGlobals "Hall" = some (some (.ref c_Hall)))
    (iM0 : PySem.W.findIn K (.ref c_Hall) "__init__" = some (some (.ref fM0)))
    (lM0 : K.lookup fM0 = some ⟨ocM0, odM0, .func (PySem.W.fnOf "__init__" "Hall.__init__" (defArgs s_Hall_init) (defBody s_Hall_init) (defScope s_Hall_init) (.ref dM0) kVM0 dcM0 pmM0 anM0 cdM0 ctM0), slM0⟩)
    (uM0 : K.lookup dM0 = some ⟨oTM0, oDM0, .seq #[.int 1 tkM0] nM0, tsM0⟩)
    (cM0 : PySem.W.codeIn K cdM0 "Hall.__init__" = true) (kM0 : PySem.W.keepIn K (.ref fM0) = true)
    (e_M0 : Kit.ownB K c_Hall fM0 ["_weight", "_lefts", "_newcomer", "_chance", "_past"] = true)
    (z_abs : PySem.W.nsIn K mainGlobals "abs" = some none)
    (z_all : PySem.W.nsIn K mainGlobals "all" = some none)
    (z_bool : PySem.W.nsIn K mainGlobals "bool" = some none)
    (z_enumerate : PySem.W.nsIn K mainGlobals "enumerate" = some none)
    (z_int : PySem.W.nsIn K mainGlobals "int" = some none)
    (z_isinstance : PySem.W.nsIn K mainGlobals "isinstance" = some none)
    (z_len : PySem.W.nsIn K mainGlobals "len" = some none)
    (z_list : PySem.W.nsIn K mainGlobals "list" = some none)
    (z_range : PySem.W.nsIn K mainGlobals "range" = some none)
    (z_sorted : PySem.W.nsIn K mainGlobals "sorted" = some none)
    (z_str : PySem.W.nsIn K mainGlobals "str" = some none)
    (z_tuple : PySem.W.nsIn K mainGlobals "tuple" = some none)
    (z_type : PySem.W.nsIn K mainGlobals "type" = some none)
    (y_MOST_GUESTS : PySem.W.nsIn K mainGlobals "MOST_GUESTS" = some (some (.int 20 t_MOST_GUESTS)))
    (y_MOST_WEIGHT : PySem.W.nsIn K mainGlobals "MOST_WEIGHT" = some (some (.int 1000000000000 t_MOST_WEIGHT)))
    (x_gcd : PySem.W.nsIn K mainGlobals "gcd" = some (some (.builtin "math.gcd")))
    : ∃ fd : FuncData, (∀ (s : Shared) (v : Value), BindsTo s fd ⟨[v], []⟩ [("script", v)]) ∧ ∀ base : Heap, K.In base → base.Ns mainGlobals mg → FnOk l.prog w K mg base CX0 9 fa fd ["script"] (sp_law K) := by
  have e := hfa.symm.trans (PySem.W.mg_of X G a32)
  cases e
  have F1 := fun_mk (st := s_wall) l1 c1 k1
  have F2 := fun_mk (st := s_is_whole) l2 c2 k2
  have F3 := fun_mk (st := s_is_within) l3 c3 k3
  have F4 := fun_mk (st := s_is_order) l4 c4 k4
  have F5 := fun_mk (st := s_check_guests) l5 c5 k5
  have F6 := fun_mk (st := s_check_weight) l6 c6 k6
  have F7 := fun_mk (st := s_check_guest) l7 c7 k7
  have F8 := fun_mk (st := s_fraction) l8 c8 k8
  have F9 := fun_mk (st := s_is_seating) l9 c9 k9
  have F10 := fun_mk (st := s_check_seating) l10 c10 k10
  have F11 := fun_mk (st := s_is_coming) l11 c11 k11
  have F12 := fun_mk (st := s_coming_of) l12 c12 k12
  have F13 := fun_mk (st := s_seating_by) l13 c13 k13
  have F14 := fun_mk (st := s_check_coming) l14 c14 k14
  have F15 := fun_mk (st := s_without) l15 c15 k15
  have F16 := fun_mk (st := s_coming_without) l16 c16 k16
  have F17 := fun_mk (st := s_sits_alone) l17 c17 k17
  have F18 := fun_mk (st := s_is_traceless) l18 c18 k18
  have F19 := fun_mk (st := s_traceless) l19 c19 k19
  have F20 := fun_mk (st := s_traceless_share) l20 c20 k20
  have F21 := fun_mk (st := s_traceless_counts) l21 c21 k21
  have F22 := fun_mk (st := s_joined) l22 c22 k22
  have F23 := fun_mk (st := s_seating_without) l23 c23 k23
  have F24 := fun_mk (st := s_law_bag) l24 c24 k24
  have F25 := fun_mk (st := s_law_stirred) l25 c25 k25
  have F26 := fun_mk (st := s_law_draw) l26 c26 k26
  have F27 := fun_mk (st := s_law_alike) l27 c27 k27
  have F28 := fun_mk (st := s_law_bad_seating) l28 c28 k28
  have F29 := fun_mk (st := s_law_named) l29 c29 k29
  have F30 := fun_mk (st := s_law_asked) l30 c30 k30
  have F31 := fun_mk (st := s_law_counted) l31 c31 k31
  have F32 := fun_mk (st := s_law) l32 c32 k32
  have FM0 := Kit.funD1 (d := s_Hall_init) lM0 uM0 cM0 kM0
  obtain ⟨dsM0, bvM0, bmM0⟩ := FM0.binds1 (ps := ["self", "weight"]) 1 0 (by simp) rfl (fun _ _ _ _ _ _ _ us its h1 h2 => match us, its, h1, h2 with | [_], [_], _, _ => ⟨_, rfl, rfl⟩)
  let T : Tx K mg :=
    { cl_Hall := c_Hall, gc_Hall := PySem.W.mg_of X G q_Hall,
      f_Hall_init := fM0, d_Hall_init := _, F_Hall_init := FM0, ds_Hall_init := dsM0, bv_Hall_init := bvM0, bm_Hall_init := bmM0, o_Hall := Kit.ownD_of e_M0,
      f_wall := f1, d_wall := _, F_wall := F1, g_wall := PySem.W.mg_of X G a1, b_wall := F1.binds (ps := ["k"]) fun _ _ _ _ _ _ us hl => match us, hl with | [_], _ => rfl,
      f_is_whole := f2, d_is_whole := _, F_is_whole := F2, g_is_whole := PySem.W.mg_of X G a2, b_is_whole := F2.binds (ps := ["thing"]) fun _ _ _ _ _ _ us hl => match us, hl with | [_], _ => rfl,
      f_is_within := f3, d_is_within := _, F_is_within := F3, g_is_within := PySem.W.mg_of X G a3, b_is_within := F3.binds (ps := ["thing", "least", "most"]) fun _ _ _ _ _ _ us hl => match us, hl with | [_, _, _], _ => rfl,
      f_is_order := f4, d_is_order := _, F_is_order := F4, g_is_order := PySem.W.mg_of X G a4, b_is_order := F4.binds (ps := ["thing"]) fun _ _ _ _ _ _ us hl => match us, hl with | [_], _ => rfl,
      f_check_guests := f5, d_check_guests := _, F_check_guests := F5, g_check_guests := PySem.W.mg_of X G a5, b_check_guests := F5.binds (ps := ["guests"]) fun _ _ _ _ _ _ us hl => match us, hl with | [_], _ => rfl,
      f_check_weight := f6, d_check_weight := _, F_check_weight := F6, g_check_weight := PySem.W.mg_of X G a6, b_check_weight := F6.binds (ps := ["weight"]) fun _ _ _ _ _ _ us hl => match us, hl with | [_], _ => rfl,
      f_check_guest := f7, d_check_guest := _, F_check_guest := F7, g_check_guest := PySem.W.mg_of X G a7, b_check_guest := F7.binds (ps := ["guest", "guests"]) fun _ _ _ _ _ _ us hl => match us, hl with | [_, _], _ => rfl,
      f_fraction := f8, d_fraction := _, F_fraction := F8, g_fraction := PySem.W.mg_of X G a8, b_fraction := F8.binds (ps := ["top", "bottom"]) fun _ _ _ _ _ _ us hl => match us, hl with | [_, _], _ => rfl,
      f_is_seating := f9, d_is_seating := _, F_is_seating := F9, g_is_seating := PySem.W.mg_of X G a9, b_is_seating := F9.binds (ps := ["thing"]) fun _ _ _ _ _ _ us hl => match us, hl with | [_], _ => rfl,
      f_check_seating := f10, d_check_seating := _, F_check_seating := F10, g_check_seating := PySem.W.mg_of X G a10, b_check_seating := F10.binds (ps := ["seating"]) fun _ _ _ _ _ _ us hl => match us, hl with | [_], _ => rfl,
      f_is_coming := f11, d_is_coming := _, F_is_coming := F11, g_is_coming := PySem.W.mg_of X G a11, b_is_coming := F11.binds (ps := ["thing"]) fun _ _ _ _ _ _ us hl => match us, hl with | [_], _ => rfl,
      f_coming_of := f12, d_coming_of := _, F_coming_of := F12, g_coming_of := PySem.W.mg_of X G a12, b_coming_of := F12.binds (ps := ["seating"]) fun _ _ _ _ _ _ us hl => match us, hl with | [_], _ => rfl,
      f_seating_by := f13, d_seating_by := _, F_seating_by := F13, g_seating_by := PySem.W.mg_of X G a13, b_seating_by := F13.binds (ps := ["coming"]) fun _ _ _ _ _ _ us hl => match us, hl with | [_], _ => rfl,
      f_check_coming := f14, d_check_coming := _, F_check_coming := F14, g_check_coming := PySem.W.mg_of X G a14, b_check_coming := F14.binds (ps := ["coming"]) fun _ _ _ _ _ _ us hl => match us, hl with | [_], _ => rfl,
      f_without := f15, d_without := _, F_without := F15, g_without := PySem.W.mg_of X G a15, b_without := F15.binds (ps := ["seating", "guest"]) fun _ _ _ _ _ _ us hl => match us, hl with | [_, _], _ => rfl,
      f_coming_without := f16, d_coming_without := _, F_coming_without := F16, g_coming_without := PySem.W.mg_of X G a16, b_coming_without := F16.binds (ps := ["coming", "guest"]) fun _ _ _ _ _ _ us hl => match us, hl with | [_, _], _ => rfl,
      f_sits_alone := f17, d_sits_alone := _, F_sits_alone := F17, g_sits_alone := PySem.W.mg_of X G a17, b_sits_alone := F17.binds (ps := ["seating", "guest"]) fun _ _ _ _ _ _ us hl => match us, hl with | [_, _], _ => rfl,
      f_is_traceless := f18, d_is_traceless := _, F_is_traceless := F18, g_is_traceless := PySem.W.mg_of X G a18, b_is_traceless := F18.binds (ps := ["seating", "guest"]) fun _ _ _ _ _ _ us hl => match us, hl with | [_, _], _ => rfl,
      f_traceless := f19, d_traceless := _, F_traceless := F19, g_traceless := PySem.W.mg_of X G a19, b_traceless := F19.binds (ps := ["seating"]) fun _ _ _ _ _ _ us hl => match us, hl with | [_], _ => rfl,
      f_traceless_share := f20, d_traceless_share := _, F_traceless_share := F20, g_traceless_share := PySem.W.mg_of X G a20, b_traceless_share := F20.binds (ps := ["guests", "weight", "guest"]) fun _ _ _ _ _ _ us hl => match us, hl with | [_, _, _], _ => rfl,
      f_traceless_counts := f21, d_traceless_counts := _, F_traceless_counts := F21, g_traceless_counts := PySem.W.mg_of X G a21, b_traceless_counts := F21.binds (ps := ["guests", "weight"]) fun _ _ _ _ _ _ us hl => match us, hl with | [_, _], _ => rfl,
      f_joined := f22, d_joined := _, F_joined := F22, g_joined := PySem.W.mg_of X G a22, b_joined := F22.binds (ps := ["seating", "mate"]) fun _ _ _ _ _ _ us hl => match us, hl with | [_, _], _ => rfl,
      f_seating_without := f23, d_seating_without := _, F_seating_without := F23, g_seating_without := PySem.W.mg_of X G a23, b_seating_without := F23.binds (ps := ["seating", "guest"]) fun _ _ _ _ _ _ us hl => match us, hl with | [_, _], _ => rfl,
      f_law_bag := f24, d_law_bag := _, F_law_bag := F24, g_law_bag := PySem.W.mg_of X G a24, b_law_bag := F24.binds (ps := ["script"]) fun _ _ _ _ _ _ us hl => match us, hl with | [_], _ => rfl,
      f_law_stirred := f25, d_law_stirred := _, F_law_stirred := F25, g_law_stirred := PySem.W.mg_of X G a25, b_law_stirred := F25.binds (ps := ["bag", "wide"]) fun _ _ _ _ _ _ us hl => match us, hl with | [_, _], _ => rfl,
      f_law_draw := f26, d_law_draw := _, F_law_draw := F26, g_law_draw := PySem.W.mg_of X G a26, b_law_draw := F26.binds (ps := ["bag", "wide"]) fun _ _ _ _ _ _ us hl => match us, hl with | [_, _], _ => rfl,
      f_law_alike := f27, d_law_alike := _, F_law_alike := F27, g_law_alike := PySem.W.mg_of X G a27, b_law_alike := F27.binds (ps := ["found", "due"]) fun _ _ _ _ _ _ us hl => match us, hl with | [_, _], _ => rfl,
      f_law_bad_seating := f28, d_law_bad_seating := _, F_law_bad_seating := F28, g_law_bad_seating := PySem.W.mg_of X G a28, b_law_bad_seating := F28.binds (ps := ["bag"]) fun _ _ _ _ _ _ us hl => match us, hl with | [_], _ => rfl,
      f_law_named := f29, d_law_named := _, F_law_named := F29, g_law_named := PySem.W.mg_of X G a29, b_law_named := F29.binds (ps := ["e"]) fun _ _ _ _ _ _ us hl => match us, hl with | [_], _ => rfl,
      f_law_asked := f30, d_law_asked := _, F_law_asked := F30, g_law_asked := PySem.W.mg_of X G a30, b_law_asked := F30.binds (ps := ["way", "some", "k"]) fun _ _ _ _ _ _ us hl => match us, hl with | [_, _, _], _ => rfl,
      f_law_counted := f31, d_law_counted := _, F_law_counted := F31, g_law_counted := PySem.W.mg_of X G a31, b_law_counted := F31.binds (ps := ["wide", "w", "k"]) fun _ _ _ _ _ _ us hl => match us, hl with | [_, _, _], _ => rfl,
      f_law := fa, d_law := _, F_law := F32, g_law := PySem.W.mg_of X G a32, b_law := F32.binds (ps := ["script"]) fun _ _ _ _ _ _ us hl => match us, hl with | [_], _ => rfl,
      cl_HallError := c_HallError, gc_HallError := PySem.W.mg_of X G q_HallError,
      cl_InvalidGuests := c_InvalidGuests, gc_InvalidGuests := PySem.W.mg_of X G q_InvalidGuests,
      cl_InvalidWeight := c_InvalidWeight, gc_InvalidWeight := PySem.W.mg_of X G q_InvalidWeight,
      cl_InvalidGuest := c_InvalidGuest, gc_InvalidGuest := PySem.W.mg_of X G q_InvalidGuest,
      cl_InvalidSeating := c_InvalidSeating, gc_InvalidSeating := PySem.W.mg_of X G q_InvalidSeating,
      cl_InvalidComing := c_InvalidComing, gc_InvalidComing := PySem.W.mg_of X G q_InvalidComing,
      cl_NoSeating := c_NoSeating, gc_NoSeating := PySem.W.mg_of X G q_NoSeating,
      e_InvalidSeating := Kit.excD_of e_InvalidSeating, x_InvalidSeating := x_InvalidSeating, t_InvalidSeating := t_InvalidSeating,
      e_InvalidComing := Kit.excD_of e_InvalidComing, x_InvalidComing := x_InvalidComing, t_InvalidComing := t_InvalidComing,
      e_InvalidGuests := Kit.excD_of e_InvalidGuests, x_InvalidGuests := x_InvalidGuests, t_InvalidGuests := t_InvalidGuests,
      e_InvalidWeight := Kit.excD_of e_InvalidWeight, x_InvalidWeight := x_InvalidWeight, t_InvalidWeight := t_InvalidWeight,
      e_InvalidGuest := Kit.excD_of e_InvalidGuest, x_InvalidGuest := x_InvalidGuest, t_InvalidGuest := t_InvalidGuest,
      e_NoSeating := Kit.excD_of e_NoSeating, x_NoSeating := x_NoSeating, t_NoSeating := t_NoSeating,
      m_abs := PySem.W.mg_none_of X G z_abs,
      m_all := PySem.W.mg_none_of X G z_all,
      m_bool := PySem.W.mg_none_of X G z_bool,
      m_enumerate := PySem.W.mg_none_of X G z_enumerate,
      m_int := PySem.W.mg_none_of X G z_int,
      m_isinstance := PySem.W.mg_none_of X G z_isinstance,
      m_len := PySem.W.mg_none_of X G z_len,
      m_list := PySem.W.mg_none_of X G z_list,
      m_range := PySem.W.mg_none_of X G z_range,
      m_sorted := PySem.W.mg_none_of X G z_sorted,
      m_str := PySem.W.mg_none_of X G z_str,
      m_tuple := PySem.W.mg_none_of X G z_tuple,
      m_type := PySem.W.mg_none_of X G z_type,
      c_MOST_GUESTS := ⟨_, PySem.W.mg_of X G y_MOST_GUESTS, ⟨_, rfl⟩⟩,
      c_MOST_WEIGHT := ⟨_, PySem.W.mg_of X G y_MOST_WEIGHT, ⟨_, rfl⟩⟩,
      i_gcd := PySem.W.mg_of X G x_gcd }
  exact ⟨PySem.W.fnOf "law" "law" (defArgs s_law) (defBody s_law) (defScope s_law) .none kV32 dc32 pm32 an32 cd32 ct32, fun s v => .of_eq rfl, fun base _ _ => ok_law T⟩
end K45
open PySem PySem.W PyProof.Rows
set_option maxRecDepth 100000 in
set_option maxHeartbeats 0 in
theorem PySem.Challenge.cw_newtables_k45_errors_of_leaving_holds : PySem.Challenge.rw_newtables_k45_errors_of_leaving.Holds := by
  w_on; o_law; k_head; (case hw => w_witness2)
  k_fill
  refine L2.walk_of (l := PySem.Challenge.rw_newtables_k45_errors_of_leaving) (n := 63) (k := 9) (x := "script") (CX := fun _ => L2.CX0) (sp := fun w => K45.sp_law _) rfl (by decide) rfl ⟨rfl, by decide, by decide⟩ (fun w h Y => PySem.W.kIn_of Y) ?F (fun _ _ a ns hl _ hS => ⟨a, ns, rfl, hS, hl, fun _ => rfl⟩) (fun _ _ _ _ _ h => h)
  case F =>
    intro w mg fa h KX G hmg
    refine' K45.all_mk KX G hmg ?a1 ?l1 ?c1 ?k1 ?a2 ?l2 ?c2 ?k2 ?a3 ?l3 ?c3 ?k3 ?a4 ?l4 ?c4 ?k4 ?a5 ?l5 ?c5 ?k5 ?a6 ?l6 ?c6 ?k6 ?a7 ?l7 ?c7 ?k7 ?a8 ?l8 ?c8 ?k8 ?a9 ?l9 ?c9 ?k9 ?a10 ?l10 ?c10 ?k10 ?a11 ?l11 ?c11 ?k11 ?a12 ?l12 ?c12 ?k12 ?a13 ?l13 ?c13 ?k13 ?a14 ?l14 ?c14 ?k14 ?a15 ?l15 ?c15 ?k15 ?a16 ?l16 ?c16 ?k16 ?a17 ?l17 ?c17 ?k17 ?a18 ?l18 ?c18 ?k18 ?a19 ?l19 ?c19 ?k19 ?a20 ?l20 ?c20 ?k20 ?a21 ?l21 ?c21 ?k21 ?a22 ?l22 ?c22 ?k22 ?a23 ?l23 ?c23 ?k23 ?a24 ?l24 ?c24 ?k24 ?a25 ?l25 ?c25 ?k25 ?a26 ?l26 ?c26 ?k26 ?a27 ?l27 ?c27 ?k27 ?a28 ?l28 ?c28 ?k28 ?a29 ?l29 ?c29 ?k29 ?a30 ?l30 ?c30 ?k30 ?a31 ?l31 ?c31 ?k31 ?a32 ?l32 ?c32 ?k32 ?q_HallError ?q_InvalidGuests ?q_InvalidWeight ?q_InvalidGuest ?q_InvalidSeating ?q_InvalidComing ?q_NoSeating ?e_InvalidSeating ?x_InvalidSeating ?t_InvalidSeating ?e_InvalidComing ?x_InvalidComing ?t_InvalidComing ?e_InvalidGuests ?x_InvalidGuests ?t_InvalidGuests ?e_InvalidWeight ?x_InvalidWeight ?t_InvalidWeight ?e_InvalidGuest ?x_InvalidGuest ?t_InvalidGuest ?e_NoSeating ?x_NoSeating ?t_NoSeating ?q_Hall ?iM0 ?lM0 ?uM0 ?cM0 ?kM0 ?e_M0 ?z_abs ?z_all ?z_bool ?z_enumerate ?z_int ?z_isinstance ?z_len ?z_list ?z_range ?z_sorted ?z_str ?z_tuple ?z_type ?y_MOST_GUESTS ?y_MOST_WEIGHT ?x_gcd
    (case a1 => k_is); (case l1 => k_is); (case c1 => k_is); (case k1 => k_is); (case a2 => k_is); (case l2 => k_is)
    (case c2 => k_is); (case k2 => k_is); (case a3 => k_is); (case l3 => k_is); (case c3 => k_is); (case k3 => k_is)
    (case a4 => k_is); (case l4 => k_is); (case c4 => k_is); (case k4 => k_is); (case a5 => k_is); (case l5 => k_is)
    (case c5 => k_is); (case k5 => k_is); (case a6 => k_is); (case l6 => k_is); (case c6 => k_is); (case k6 => k_is)
    (case a7 => k_is); (case l7 => k_is); (case c7 => k_is); (case k7 => k_is); (case a8 => k_is); (case l8 => k_is)
    (case c8 => k_is); (case k8 => k_is); (case a9 => k_is); (case l9 => k_is); (case c9 => k_is); (case k9 => k_is)
    (case a10 => k_is); (case l10 => k_is); (case c10 => k_is); (case k10 => k_is); (case a11 => k_is); (case l11 => k_is)
    (case c11 => k_is); (case k11 => k_is); (case a12 => k_is); (case l12 => k_is); (case c12 => k_is); (case k12 => k_is)
    (case a13 => k_is); (case l13 => k_is); (case c13 => k_is); (case k13 => k_is); (case a14 => k_is); (case l14 => k_is)
    (case c14 => k_is); (case k14 => k_is); (case a15 => k_is); (case l15 => k_is); (case c15 => k_is); (case k15 => k_is)
    (case a16 => k_is); (case l16 => k_is); (case c16 => k_is); (case k16 => k_is); (case a17 => k_is); (case l17 => k_is)
    (case c17 => k_is); (case k17 => k_is); (case a18 => k_is); (case l18 => k_is); (case c18 => k_is); (case k18 => k_is)
    (case a19 => k_is); (case l19 => k_is); (case c19 => k_is); (case k19 => k_is); (case a20 => k_is); (case l20 => k_is)
    (case c20 => k_is); (case k20 => k_is); (case a21 => k_is); (case l21 => k_is); (case c21 => k_is); (case k21 => k_is)
    (case a22 => k_is); (case l22 => k_is); (case c22 => k_is); (case k22 => k_is); (case a23 => k_is); (case l23 => k_is)
    (case c23 => k_is); (case k23 => k_is); (case a24 => k_is); (case l24 => k_is); (case c24 => k_is); (case k24 => k_is)
    (case a25 => k_is); (case l25 => k_is); (case c25 => k_is); (case k25 => k_is); (case a26 => k_is); (case l26 => k_is)
    (case c26 => k_is); (case k26 => k_is); (case a27 => k_is); (case l27 => k_is); (case c27 => k_is); (case k27 => k_is)
    (case a28 => k_is); (case l28 => k_is); (case c28 => k_is); (case k28 => k_is); (case a29 => k_is); (case l29 => k_is)
    (case c29 => k_is); (case k29 => k_is); (case a30 => k_is); (case l30 => k_is); (case c30 => k_is); (case k30 => k_is)
    (case a31 => k_is); (case l31 => k_is); (case c31 => k_is); (case k31 => k_is); (case a32 => k_is); (case l32 => k_is)
    (case c32 => k_is); (case k32 => k_is); (case q_HallError => k_is); (case q_InvalidGuests => k_is); (case q_InvalidWeight => k_is); (case q_InvalidGuest => k_is)
    (case q_InvalidSeating => k_is); (case q_InvalidComing => k_is); (case q_NoSeating => k_is); (case e_InvalidSeating => kernel_rfl); (case x_InvalidSeating => kernel_rfl); (case t_InvalidSeating => kernel_rfl)
    (case e_InvalidComing => kernel_rfl); (case x_InvalidComing => kernel_rfl); (case t_InvalidComing => kernel_rfl); (case e_InvalidGuests => kernel_rfl); (case x_InvalidGuests => kernel_rfl); (case t_InvalidGuests => kernel_rfl)
    (case e_InvalidWeight => kernel_rfl); (case x_InvalidWeight => kernel_rfl); (case t_InvalidWeight => kernel_rfl); (case e_InvalidGuest => kernel_rfl); (case x_InvalidGuest => kernel_rfl); (case t_InvalidGuest => kernel_rfl)
    (case e_NoSeating => kernel_rfl); (case x_NoSeating => kernel_rfl); (case t_NoSeating => kernel_rfl); (case q_Hall => k_is); (case iM0 => k_is); (case lM0 => k_is)
    (case uM0 => k_is); (case cM0 => k_is); (case kM0 => k_is); (case e_M0 => kernel_rfl); (case z_abs => k_is); (case z_all => k_is)
    (case z_bool => k_is); (case z_enumerate => k_is); (case z_int => k_is); (case z_isinstance => k_is); (case z_len => k_is); (case z_list => k_is)
    (case z_range => k_is); (case z_sorted => k_is); (case z_str => k_is); (case z_tuple => k_is); (case z_type => k_is); (case y_MOST_GUESTS => k_is)
    (case y_MOST_WEIGHT => k_is); (case x_gcd => k_is)